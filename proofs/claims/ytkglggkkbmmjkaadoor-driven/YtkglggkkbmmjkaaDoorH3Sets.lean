import Derived.Test.YtkglggkkbmmjkaaDoorH2ReadRules
namespace Go.Proofs.YtkglggkkbmmjkaaDoor
open Go.RowKit

theorem parse_bad0 (t : ByteArray) (f i : Nat) (acc : List Ru) (h : ¬ (i < t.size ∧ bigB (ch t i) = true)) : parse t (f + 1) i acc = (acc, i, false) := by
  rw [parse, if_neg h]
theorem parse_bad1 (t : ByteArray) (f i : Nat) (acc : List Ru) (h : i < t.size ∧ bigB (ch t i) = true) (h1 : ¬ (i + 1 < t.size ∧ ch t (i + 1) = 61)) : parse t (f + 1) i acc = (acc, i + 1, false) := by
  rw [parse, if_pos h, if_neg h1]
theorem parse_end (t : ByteArray) (f i : Nat) (acc : List Ru) (h : i < t.size ∧ bigB (ch t i) = true) (h1 : i + 1 < t.size ∧ ch t (i + 1) = 61) (h2 : ¬ runEnd t 4 (i + 2) < t.size) :
    parse t (f + 1) i acc = (acc ++ [⟨ch t i, t.extract (i + 2) (runEnd t 4 (i + 2)), i⟩], runEnd t 4 (i + 2), true) := by
  rw [parse, if_pos h, if_pos h1, if_neg h2]
theorem parse_bad2 (t : ByteArray) (f i : Nat) (acc : List Ru) (h : i < t.size ∧ bigB (ch t i) = true) (h1 : i + 1 < t.size ∧ ch t (i + 1) = 61) (h2 : runEnd t 4 (i + 2) < t.size)
    (h3 : f = 0 ∨ ch t (runEnd t 4 (i + 2)) ≠ 59) : parse t (f + 1) i acc = (acc ++ [⟨ch t i, t.extract (i + 2) (runEnd t 4 (i + 2)), i⟩], runEnd t 4 (i + 2), false) := by
  rw [parse, if_pos h, if_pos h1, if_pos h2, if_pos h3]
theorem parse_more (t : ByteArray) (f i : Nat) (acc : List Ru) (h : i < t.size ∧ bigB (ch t i) = true) (h1 : i + 1 < t.size ∧ ch t (i + 1) = 61) (h2 : runEnd t 4 (i + 2) < t.size)
    (h3 : ¬ (f = 0 ∨ ch t (runEnd t 4 (i + 2)) ≠ 59)) : parse t (f + 1) i acc = parse t f (runEnd t 4 (i + 2) + 1) (acc ++ [⟨ch t i, t.extract (i + 2) (runEnd t 4 (i + 2)), i⟩]) := by
  rw [parse, if_pos h, if_pos h1, if_pos h2, if_neg h3]

set_option maxHeartbeats 1600000 in
theorem p_readRules (b : Nat) (t : ByteArray) (N : Nat → Bool) (F : Nat → Nat → Bool) (w : World) (ht : t.size ≤ 32) (h : RS b N F w w (.slice none 0 0) [] 0 0) :
    Calls Tryd.prog 53 #[.pointer (some ⟨b, 0, none⟩), .string t] w fun e w' => e = .returned (.tuple #[]) ∧ RRPost b t N F w w' := by
  have H : Hid (RS b N F w w (.slice none 0 0) [] 0 0) := h
  clear h
  go_enter Tryd.func53, Tryd.ntmps53
  go_wp2
  go_loopw [4, 5] (fun a n wr => ∃ (k i : Nat) (acc : List Ru) (v : Value), k ≤ 7 ∧ i ≤ 33 ∧ acc.length = k ∧ n = .int .i64 (k + 1 : Nat) ∧ a = .int .i64 i ∧ Hid (parse t 8 0 [] = parse t (8 - k) i acc) ∧ Hid (RS b N F w wr v acc 0 0))
    (fun _ n _ => 9 - (intOf n).toNat)
  case atStart => exact ⟨0, 0, [], _, by omega, by omega, rfl, rfl, rfl, rfl, H⟩
  case round =>
    obtain ⟨k, i, acc, v, hk, hi, hl, rfl, rfl, hp, hs⟩ := hrel
    have HL : Hid (acc.length = k) := hl
    clear hl
    have hf : Hid (parse t 8 0 [] = parse t ((7 - k) + 1) i acc) := by
      show _ = _
      rw [hp.out, show 8 - k = (7 - k) + 1 from by omega]
    clear hp
    by_cases h0 : i < t.size ∧ bigB (ch t i) = true
    · by_cases h1 : i + 1 < t.size ∧ ch t (i + 1) = 61
      · have hbd := runEnd_bd t 4 (i + 2)
        have hi0 : i < t.size := h0.1
        have hi1 : i + 1 < t.size := h1.1
        by_cases h2 : runEnd t 4 (i + 2) < t.size
        · by_cases h3 : k = 7
          · have HP := hide (hf.out.trans (parse_bad2 t _ i acc h0 h1 h2 (by omega)))
            have hk8 : ((k : Int) + 1 == 8) = true := by simp; omega
            have H0 := hide h0
            have H1 := hide h1
            clear h0 h1 hf h3
            go_wp2_with (first | (go_at_call 64; refine (p_readRule_ok t i _ ht hi0 (unhide H0).2 hi1 (unhide H1).2).mono ?_; rintro e w1 ⟨hf1, rfl⟩; have HS1 := hide ((unhide hs).fr (hf1.alloc (.cells #[.int .u8 (ch t i), .string (t.extract (i + 2) (runEnd t 4 (i + 2))), .int .i64 i] 114))) ) | (go_at_call 65; refine (p_addRule b N F w _ v acc ⟨ch t i, t.extract (i + 2) (runEnd t 4 (i + 2)), i⟩ (unhide H0).2 (by exact unhide HS1) (by have := unhide HL; omega)).mono ?_; rintro e w2 ⟨rfl, v', hs2⟩; have HS2 := hide hs2; clear hs2) | (go_at_call 52; refine (p_refuse b _ _ _ _ (by exact (unhide HS2).2.1)).mono ?_; rintro e w3 ⟨rfl, hf2⟩))
            exact bodyPost_ret (v := .tuple #[]) (results_none Tryd.results53 _ _ _) rfl ⟨rfl, (unhide HS2).refused hf2.1 hf2.2.2 rfl (unhide HP)⟩
          · have hk8 : ((k : Int) + 1 == 8) = false := by simp; omega
            by_cases h4 : ch t (runEnd t 4 (i + 2)) = 59
            · have HP := hide (hf.out.trans (parse_more t _ i acc h0 h1 h2 (by omega)))
              have hc : (((t[runEnd t 4 (i + 2)].toNat : Nat) : Int) != 59) = false := by
                rw [ch_eq t _ h2] at h4; simp; omega
              have H0 := hide h0
              have H1 := hide h1
              clear h0 h1 hf h4
              go_wp2_with (first | (go_at_call 64; refine (p_readRule_ok t i _ ht hi0 (unhide H0).2 hi1 (unhide H1).2).mono ?_; rintro e w1 ⟨hf1, rfl⟩; have HS1 := hide ((unhide hs).fr (hf1.alloc (.cells #[.int .u8 (ch t i), .string (t.extract (i + 2) (runEnd t 4 (i + 2))), .int .i64 i] 114))) ) | (go_at_call 65; refine (p_addRule b N F w _ v acc ⟨ch t i, t.extract (i + 2) (runEnd t 4 (i + 2)), i⟩ (unhide H0).2 (by exact unhide HS1) (by have := unhide HL; omega)).mono ?_; rintro e w2 ⟨rfl, v', hs2⟩; have HS2 := hide hs2; clear hs2) | (go_at_call 52; refine (p_refuse b _ _ _ _ (by exact (unhide HS2).2.1)).mono ?_; rintro e w3 ⟨rfl, hf2⟩))
              go_roundw
              case rel => exact ⟨k + 1, runEnd t 4 (i + 2) + 1, _, v', by omega, by omega, by have := unhide HL; simp; omega, by go_num, by go_num, hide (by rw [unhide HP, show 8 - (k + 1) = 7 - k from by omega]), HS2⟩
              case measure => simp [intOf]; omega
            · have HP := hide (hf.out.trans (parse_bad2 t _ i acc h0 h1 h2 (Or.inr h4)))
              have hc : (((t[runEnd t 4 (i + 2)].toNat : Nat) : Int) != 59) = true := by
                rw [ch_eq t _ h2] at h4; rw [bne_iff_ne]; omega
              have H0 := hide h0
              have H1 := hide h1
              clear h0 h1 hf h4
              go_wp2_with (first | (go_at_call 64; refine (p_readRule_ok t i _ ht hi0 (unhide H0).2 hi1 (unhide H1).2).mono ?_; rintro e w1 ⟨hf1, rfl⟩; have HS1 := hide ((unhide hs).fr (hf1.alloc (.cells #[.int .u8 (ch t i), .string (t.extract (i + 2) (runEnd t 4 (i + 2))), .int .i64 i] 114))) ) | (go_at_call 65; refine (p_addRule b N F w _ v acc ⟨ch t i, t.extract (i + 2) (runEnd t 4 (i + 2)), i⟩ (unhide H0).2 (by exact unhide HS1) (by have := unhide HL; omega)).mono ?_; rintro e w2 ⟨rfl, v', hs2⟩; have HS2 := hide hs2; clear hs2) | (go_at_call 52; refine (p_refuse b _ _ _ _ (by exact (unhide HS2).2.1)).mono ?_; rintro e w3 ⟨rfl, hf2⟩))
              exact bodyPost_ret (v := .tuple #[]) (results_none Tryd.results53 _ _ _) rfl ⟨rfl, (unhide HS2).refused hf2.1 hf2.2.2 rfl (unhide HP)⟩
        · have HP := hide (hf.out.trans (parse_end t _ i acc h0 h1 h2))
          have H0 := hide h0
          have H1 := hide h1
          clear h0 h1 hf
          go_wp2_with (first | (go_at_call 64; refine (p_readRule_ok t i _ ht hi0 (unhide H0).2 hi1 (unhide H1).2).mono ?_; rintro e w1 ⟨hf1, rfl⟩; have HS1 := hide ((unhide hs).fr (hf1.alloc (.cells #[.int .u8 (ch t i), .string (t.extract (i + 2) (runEnd t 4 (i + 2))), .int .i64 i] 114))) ) | (go_at_call 65; refine (p_addRule b N F w _ v acc ⟨ch t i, t.extract (i + 2) (runEnd t 4 (i + 2)), i⟩ (unhide H0).2 (by exact unhide HS1) (by have := unhide HL; omega)).mono ?_; rintro e w2 ⟨rfl, v', hs2⟩; have HS2 := hide hs2; clear hs2) | (go_at_call 52; refine (p_refuse b _ _ _ _ (by exact (unhide HS2).2.1)).mono ?_; rintro e w3 ⟨rfl, hf2⟩))
          exact bodyPost_ret (v := .tuple #[]) (results_none Tryd.results53 _ _ _) rfl ⟨rfl, (unhide HS2).ended (unhide HP)⟩
      · have HP := hide (hf.out.trans (parse_bad1 t _ i acc h0 h1))
        have H0 := hide h0
        have H1 := hide h1
        clear h0 h1 hf
        go_wp2_with (first | (go_at_call 64; refine (p_readRule_bad1 t i _ ht (unhide H0).1 (unhide H0).2 (unhide H1)).mono ?_; rintro e w1 ⟨hf1, rfl⟩; have HS1 := hide ((unhide hs).fr (hf1.alloc (.cells #[.int .u8 0, .string ⟨#[]⟩, .int .i64 0] 114))) ) | (go_at_call 52; refine (p_refuse b _ _ _ _ (by exact (unhide HS1).2.1)).mono ?_; rintro e w2 ⟨rfl, hf2⟩))
        exact bodyPost_ret (v := .tuple #[]) (results_none Tryd.results53 _ _ _) rfl ⟨rfl, (unhide HS1).refused hf2.1 hf2.2.2 (by omega) (unhide HP)⟩
    · have HP := hide (hf.out.trans (parse_bad0 t _ i acc h0))
      have H0 := hide h0
      clear h0 hf
      go_wp2_with (first | (go_at_call 64; refine (p_readRule_bad0 t i _ ht (by omega) (unhide H0)).mono ?_; rintro e w1 ⟨hf1, rfl⟩; have HS1 := hide ((unhide hs).fr (hf1.alloc (.cells #[.int .u8 0, .string ⟨#[]⟩, .int .i64 0] 114))) ) | (go_at_call 52; refine (p_refuse b _ _ _ _ (by exact (unhide HS1).2.1)).mono ?_; rintro e w2 ⟨rfl, hf2⟩))
      exact bodyPost_ret (v := .tuple #[]) (results_none Tryd.results53 _ _ _) rfl ⟨rfl, (unhide HS1).refused hf2.1 hf2.2.2 rfl (unhide HP)⟩

end Go.Proofs.YtkglggkkbmmjkaaDoor

namespace Go.Proofs.YtkglggkkbmmjkaaDoor
open Go.RowKit

/-- a set of big letters, as cells -/
def setF (S : Nat → Bool) : Nat → Value := fun k => .bool (S (65 + k))
theorem Blk.setAt0 {w : World} {b : Nat} {S : Nat → Bool} (h : Blk w b 26 (setF S)) : SetAt w b 0 S := fun k hk => by
  rw [Nat.zero_add]; exact h.cell k hk
theorem setF_add (S : Nat → Bool) (c i : Nat) (hi : i < 26) : addF (setF S) 0 c i = setF (insB S c) i := by
  unfold addF
  by_cases hb : bigB c = true
  · have h := bigB_iff.1 hb
    rw [if_pos hb]
    unfold upd setF
    by_cases e : i = 0 + (c - 65)
    · rw [if_pos e]
      simp [insB, hb]; right; omega
    · rw [if_neg e]
      have hne : (65 + i == c) = false := by simp; omega
      simp [insB, hne]
  · rw [if_neg hb]; simp [setF, insB, hb]

/-- rules lie in memory -/
def RuAt (w : World) (q : Nat) (rs : List Ru) : Prop := ∀ i (h : i < rs.length), w.cell? ⟨q, i * 3, none⟩ = some (.int .u8 rs[i].L) ∧ w.cell? ⟨q, i * 3 + 1, none⟩ = some (.string rs[i].R) ∧ w.cell? ⟨q, i * 3 + 2, none⟩ = some (.int .i64 rs[i].A)

theorem ruCells_get : ∀ (rs : List Ru) (i : Nat) (h : i < rs.length), (ruCells rs)[i * 3]? = some (.int .u8 rs[i].L) ∧ (ruCells rs)[i * 3 + 1]? = some (.string rs[i].R) ∧ (ruCells rs)[i * 3 + 2]? = some (.int .i64 rs[i].A)
  | r :: l, 0, _ => by simp [ruCells]
  | r :: l, i + 1, h => by
    have := ruCells_get l i (by simpa using h)
    simp only [ruCells, List.flatMap_cons] at this ⊢
    rw [show (i + 1) * 3 = i * 3 + 3 from by omega]
    simpa using this

theorem RuAt.of_owns {w : World} {base q n cap : Nat} {e : TypeId} {rs : List Ru} (h : w.ownsRow base e 3 (.slice (some ⟨q, 0, none⟩) n cap) n (ruCells rs)) : RuAt w q rs := by
  intro i hi
  have hg := h.cells (g := q) rfl
  have hr := ruCells_get rs i hi
  have a0 := hg _ _ hr.1
  have a1 := hg _ _ hr.2.1
  have a2 := hg _ _ hr.2.2
  simp only [Addr.add_mid, Nat.zero_add] at a0 a1 a2
  exact ⟨a0, a1, a2⟩
theorem RuAt.fr {S : List Nat} {w w' : World} {q : Nat} {rs : List Ru} (h : RuAt w q rs) (k : Fr S w w') (hq : q ∉ S) (hl : q < w.heap.size) : RuAt w' q rs := by
  intro i hi
  have e : w'.heap[q]? = w.heap[q]? := k.block q hl hq
  obtain ⟨h1, h2, h3⟩ := h i hi
  refine ⟨?_, ?_, ?_⟩
  · rw [World.cell?_of_block (w := w) (a := ⟨q, _, none⟩) e]; exact h1
  · rw [World.cell?_of_block (w := w) (a := ⟨q, _, none⟩) e]; exact h2
  · rw [World.cell?_of_block (w := w) (a := ⟨q, _, none⟩) e]; exact h3

/-- a grammar that was read lies in memory -/
structure GAt (w : World) (b q cap : Nat) (rs : List Ru) (N : Nat → Bool) (F : Nat → Nat → Bool) (e p : Int) : Prop where
  blk : Blk w b 758 (gF (.slice (some ⟨q, 0, none⟩) rs.length cap) (stOf rs) (rset rs) N F e p)
  ru : RuAt w q rs
  ne : b ≠ q
  lt : q < w.heap.size
  small : ∀ i (h : i < rs.length), rs[i].R.size ≤ 1000 ∧ rs[i].A ≤ 1000
  len : rs.length ≤ 8

theorem GAt.fr {S : List Nat} {w w' : World} {b q cap : Nat} {rs : List Ru} {N : Nat → Bool} {F : Nat → Nat → Bool} {e p : Int} (h : GAt w b q cap rs N F e p) (k : Fr S w w') (hb : b ∉ S) (hq : q ∉ S) : GAt w' b q cap rs N F e p :=
  ⟨h.blk.fr k hb, h.ru.fr k hq h.lt, h.ne, Nat.lt_of_lt_of_le h.lt k.size, h.small, h.len⟩
theorem GAt.fr0 {w w' : World} {b q cap : Nat} {rs : List Ru} {N : Nat → Bool} {F : Nat → Nat → Bool} {e p : Int} (h : GAt w b q cap rs N F e p) (k : Fr [] w w') : GAt w' b q cap rs N F e p := h.fr k (by simp) (by simp)
theorem GAt.c0 {w : World} {b q cap : Nat} {rs : List Ru} {N : Nat → Bool} {F : Nat → Nat → Bool} {e p : Int} (h : GAt w b q cap rs N F e p) : w.cell? ⟨b, 0, none⟩ = some (.slice (some ⟨q, 0, none⟩) rs.length cap) := h.blk.cell 0 (by omega)

/-- one round of makersOf -/
def mkRound (sm : Bool) (rs : List Ru) (S : Nat → Bool) : Nat → Bool := rs.foldl (fun S r => if (bytes r.R).all (vanB S sm) then insB S r.L else S) S
def iter (f : (Nat → Bool) → (Nat → Bool)) : Nat → (Nat → Bool) → (Nat → Bool)
  | 0, S => S
  | n + 1, S => f (iter f n S)

/-- the state of makersOf, reachedLetters: the result's variable r0, the set's r1 -/
def LS (w wr : World) (b q cap : Nat) (rs : List Ru) (N : Nat → Bool) (F : Nat → Nat → Bool) (e p : Int) (r0 r1 : Nat) (S : Nat → Bool) : Prop :=
  Fr [] w wr ∧ GAt wr b q cap rs N F e p ∧ Blk wr r0 26 (setF fun _ => false) ∧ Blk wr r1 26 (setF S) ∧ w.heap.size ≤ r0 ∧ r0 < r1 ∧ q < w.heap.size ∧ b < w.heap.size
theorem LS.fr {w wr wr' : World} {b q cap : Nat} {rs : List Ru} {N : Nat → Bool} {F : Nat → Nat → Bool} {e p : Int} {r0 r1 : Nat} {S : Nat → Bool} (h : LS w wr b q cap rs N F e p r0 r1 S) (k : Fr [] wr wr') : LS w wr' b q cap rs N F e p r0 r1 S := by
  obtain ⟨h1, h2, h3, h4, h5⟩ := h
  exact ⟨h1.trans0 k, h2.fr0 k, h3.fr0 k, h4.fr0 k, h5⟩
theorem LS.put {w wr wr' : World} {b q cap : Nat} {rs : List Ru} {N : Nat → Bool} {F : Nat → Nat → Bool} {e p : Int} {r0 r1 : Nat} {S S' : Nat → Bool} (h : LS w wr b q cap rs N F e p r0 r1 S) (k : Fr [r1] wr wr') (hB : Blk wr' r1 26 (setF S')) : LS w wr' b q cap rs N F e p r0 r1 S' := by
  obtain ⟨h1, h2, h3, h4, h5, h6, h7, h8⟩ := h
  exact ⟨h1.trans1 k (Or.inr (by omega)), h2.fr k (by simp; omega) (by simp; omega), h3.fr1 k (by omega), hB, h5, h6, h7, h8⟩
theorem LS.add {w wr wr' : World} {b q cap : Nat} {rs : List Ru} {N : Nat → Bool} {F : Nat → Nat → Bool} {e p : Int} {r0 r1 c : Nat} {S : Nat → Bool} (h : LS w wr b q cap rs N F e p r0 r1 S) (k : Fr [r1] wr wr') (hB : Blk wr' r1 26 (addF (setF S) 0 c)) : LS w wr' b q cap rs N F e p r0 r1 (insB S c) :=
  h.put k (hB.congr fun i hi => setF_add S c i hi)

theorem Tryd.zeroBig : (Tryd.prog.info? 88).bind (·.zero) = some (Agg 26 (setF fun _ => false)) := by kernel_rfl
theorem Tryd.sizeBig : (Tryd.prog.info? 88).map (·.size) = some 26 := by kernel_rfl
theorem lay_all (f g : Nat → Value) (n i : Nat) (hi : i < n) : lay f 0 n g i = g i := by
  unfold lay; rw [if_pos (by omega)]; rfl

/-- the rules up to j, in one round -/
def mkUpTo (sm : Bool) (rs : List Ru) (j : Nat) (S : Nat → Bool) : Nat → Bool := mkRound sm (rs.take j) S
theorem mkUpTo_succ (sm : Bool) (rs : List Ru) (j : Nat) (S : Nat → Bool) (h : j < rs.length) :
    mkUpTo sm rs (j + 1) S = if (bytes rs[j].R).all (vanB (mkUpTo sm rs j S) sm) then insB (mkUpTo sm rs j S) rs[j].L else mkUpTo sm rs j S := by
  unfold mkUpTo mkRound
  rw [List.take_succ_eq_append_getElem h, List.foldl_append]; rfl
theorem mkUpTo_all (sm : Bool) (rs : List Ru) (j : Nat) (S : Nat → Bool) (h : rs.length ≤ j) : mkUpTo sm rs j S = mkRound sm rs S := by
  unfold mkUpTo; rw [List.take_of_length_le h]

set_option maxHeartbeats 1600000 in
theorem p_makersOf (b q cap : Nat) (rs : List Ru) (N : Nat → Bool) (F : Nat → Nat → Bool) (e p : Int) (sm : Bool) (w : World) (h : GAt w b q cap rs N F e p) :
    Calls Tryd.prog 56 #[.pointer (some ⟨b, 0, none⟩), .bool sm] w fun e' w' => e' = .returned (Agg 26 (setF (iter (mkRound sm rs) rs.length fun _ => false))) ∧ Fr [] w w' := by
  have H := hide h
  have hlen := h.len
  clear h
  go_enter Tryd.func56, Tryd.ntmps56
  go_wp2_with (first | (refine wpList_alloc_blk rfl 88 rfl (some 4) rfl 26 _ Tryd.zeroBig ?_; intro w1 hf1 hs1 hB1; have HA := hide (And.intro hf1 (And.intro hs1 hB1)); clear hf1 hs1 hB1) | (refine wpList_alloc_blk rfl 88 rfl (some 5) rfl 26 _ Tryd.zeroBig ?_; intro w2 hf2 hs2 hB2; have HB := hide (And.intro hf2 (And.intro hs2 hB2)); clear hf2 hs2 hB2))
  have HS := hide (show LS w w2 b q cap rs N F e p w.heap.size w1.heap.size (fun _ => false) from
    ⟨(unhide HA).1.trans0 (unhide HB).1, ((unhide H).fr0 (unhide HA).1).fr0 (unhide HB).1, (unhide HA).2.2.fr0 (unhide HB).1, (unhide HB).2.2, Nat.le_refl _, by have := (unhide HA).2.1; omega, (unhide H).lt, (unhide H).blk.lt⟩)
  clear HA HB H
  go_loopw [6] (fun r wr => ∃ k : Nat, k ≤ rs.length ∧ r = .int .i64 k ∧ Hid (LS w wr b q cap rs N F e p w.heap.size w1.heap.size (iter (mkRound sm rs) k fun _ => false))) (fun r _ => rs.length - (intOf r).toNat)
  case atStart => exact ⟨0, by omega, rfl, HS⟩
  case round =>
    obtain ⟨k, hk, rfl, hs⟩ := hrel
    have c0 := (unhide hs).2.1.c0
    by_cases hlt : k < rs.length
    · go_wp2
      clear c0
      go_loopw [7] (fun i wr2 => ∃ j : Nat, j ≤ rs.length ∧ i = .int .i64 j ∧ Hid (LS w wr2 b q cap rs N F e p w.heap.size w1.heap.size (mkUpTo sm rs j (iter (mkRound sm rs) k fun _ => false)))) (fun i _ => rs.length - (intOf i).toNat)
      case atStart => exact ⟨0, by omega, rfl, hs⟩
      case round =>
        obtain ⟨j, hj, rfl, hs2⟩ := hrel
        have c0 := (unhide hs2).2.1.c0
        by_cases hjt : j < rs.length
        · obtain ⟨a0, a1, a2⟩ := (unhide hs2).2.1.ru j hjt
          have hsm := ((unhide hs2).2.1.small j hjt).1
          have HX := hide ((unhide hs2).fr ((Fr.refl _ _).alloc (.cells #[.int .u8 rs[j].L, .string rs[j].R, .int .i64 rs[j].A] 114)))
          have HU := hide (mkUpTo_succ sm rs j (iter (mkRound sm rs) k fun _ => false) hjt)
          cases hv : (bytes rs[j].R).all (vanB (mkUpTo sm rs j (iter (mkRound sm rs) k fun _ => false)) sm)
          · have HN := hide (show mkUpTo sm rs (j + 1) (iter (mkRound sm rs) k fun _ => false) = mkUpTo sm rs j (iter (mkRound sm rs) k fun _ => false) from by rw [unhide HU, hv]; rfl)
            clear HU
            go_wp2_with (go_at_call 69; refine (p_vanishes _ _ _ _ _ _ hsm (by exact (unhide HX).2.2.2.1.setAt0)).mono ?_; rintro e w' ⟨rfl, rfl⟩)
            go_roundw
            case rel => exact ⟨j + 1, by omega, by go_num, hide (by rw [unhide HN]; exact unhide HX)⟩
            case measure => simp [intOf]; omega
          · have HN := hide (show mkUpTo sm rs (j + 1) (iter (mkRound sm rs) k fun _ => false) = insB (mkUpTo sm rs j (iter (mkRound sm rs) k fun _ => false)) rs[j].L from by rw [unhide HU, hv]; rfl)
            clear HU
            go_wp2_with (first | (go_at_call 69; refine (p_vanishes _ _ _ _ _ _ hsm (by exact (unhide HX).2.2.2.1.setAt0)).mono ?_; rintro e w' ⟨rfl, rfl⟩) | (go_at_call 70; refine (p_add _ _ _ 26 _ _ (by exact (unhide HX).2.2.2.1) (by omega)).mono ?_; rintro e w3 ⟨rfl, hf3⟩))
            have HY := hide ((unhide HX).add hf3.1 hf3.2.2)
            clear hf3
            go_roundw
            case rel => exact ⟨j + 1, by omega, by go_num, hide (by rw [unhide HN]; exact unhide HY)⟩
            case measure => simp [intOf]; omega
        · have HY := hide (show LS w wr b q cap rs N F e p w.heap.size w1.heap.size (iter (mkRound sm rs) (k + 1) fun _ => false) from by
            have := unhide hs2
            rw [mkUpTo_all _ _ _ _ (by omega)] at this; exact this)
          clear hs2
          go_wp2
          go_roundw
          case rel => exact ⟨k + 1, by omega, by go_num, HY⟩
          case measure => simp [intOf]; omega
    · have HK : Hid (k = rs.length) := hide (by omega)
      go_wp2_with (first | (refine wpList_load_blk rfl 88 _ rfl (some 41) rfl _ 0 26 26 _ _ rfl (by exact (unhide hs).2.2.2.1) Tryd.underlying88 rfl Tryd.sizeBig (by omega) ?_) | (refine wpList_store_blk rfl 88 _ _ rfl _ 0 26 26 _ _ rfl rfl (by exact (unhide hs).2.2.1) Tryd.sizeBig (by omega) (by intro i hi; rfl) ?_; intro w5 hf5 hs5 hB5))
      exact bodyPost_ret (results_cell Tryd.results56 _ w.heap.size rfl 26 26 _ _ (hB5.congr fun i hi => lay_all _ _ _ i hi) Tryd.underlying88 rfl Tryd.sizeBig (by omega)) rfl ⟨by rw [← unhide HK], (unhide hs).1.trans1 hf5 (Or.inr (Nat.le_refl _))⟩
end Go.Proofs.YtkglggkkbmmjkaaDoor
