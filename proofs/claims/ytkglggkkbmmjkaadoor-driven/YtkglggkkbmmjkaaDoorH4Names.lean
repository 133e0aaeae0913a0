import Derived.Test.YtkglggkkbmmjkaaDoorH3Sets
import Derived.Deep.RegionHeld3
import Derived.Deep.QuietTactic
namespace Go.Proofs.YtkglggkkbmmjkaaDoor
open Go.RowKit

theorem setF_addAll : ∀ (l : List Nat) (f : Nat → Value) (S : Nat → Bool), (∀ i, i < 26 → f i = setF S i) → ∀ i, i < 26 → addAllF f 0 l i = setF (l.foldl insB S) i
  | [], f, S, h, i, hi => h i hi
  | c :: l, f, S, h, i, hi => by
    show addAllF (addF f 0 c) 0 l i = setF (l.foldl insB (insB S c)) i
    refine setF_addAll l (addF f 0 c) (insB S c) (fun j hj => ?_) i hi
    rw [← setF_add S c j hj]
    unfold addF
    split
    · unfold upd; split
      · rfl
      · exact h j hj
    · exact h j hj

/-- one round of reachedLetters -/
def rdRound (rs : List Ru) (S : Nat → Bool) : Nat → Bool := rs.foldl (fun S r => if hasB S r.L then (bytes r.R).foldl insB S else S) S
def rdUpTo (rs : List Ru) (j : Nat) (S : Nat → Bool) : Nat → Bool := rdRound (rs.take j) S
theorem rdUpTo_succ (rs : List Ru) (j : Nat) (S : Nat → Bool) (h : j < rs.length) :
    rdUpTo rs (j + 1) S = if hasB (rdUpTo rs j S) rs[j].L then (bytes rs[j].R).foldl insB (rdUpTo rs j S) else rdUpTo rs j S := by
  unfold rdUpTo rdRound
  rw [List.take_succ_eq_append_getElem h, List.foldl_append]; rfl
theorem rdUpTo_all (rs : List Ru) (j : Nat) (S : Nat → Bool) (h : rs.length ≤ j) : rdUpTo rs j S = rdRound rs S := by
  unfold rdUpTo; rw [List.take_of_length_le h]
theorem GAt.c1 {w : World} {b q cap : Nat} {rs : List Ru} {N : Nat → Bool} {F : Nat → Nat → Bool} {e p : Int} (h : GAt w b q cap rs N F e p) : w.cell? ⟨b, 1, none⟩ = some (.int .u8 (stOf rs)) := h.blk.cell 1 (by omega)

set_option maxHeartbeats 1600000 in
theorem p_reachedLetters (b q cap : Nat) (rs : List Ru) (N : Nat → Bool) (F : Nat → Nat → Bool) (e p : Int) (w : World) (h : GAt w b q cap rs N F e p) :
    Calls Tryd.prog 68 #[.pointer (some ⟨b, 0, none⟩)] w fun e' w' => e' = .returned (Agg 26 (setF (iter (rdRound rs) rs.length (insB (fun _ => false) (stOf rs))))) ∧ Fr [] w w' := by
  have H := hide h
  have hlen := h.len
  clear h
  go_enter Tryd.func68, Tryd.ntmps68
  go_wp2_with (first | (refine wpList_alloc_blk rfl 88 rfl (some 2) rfl 26 _ Tryd.zeroBig ?_; intro w1 hf1 hs1 hB1; have HA := hide (And.intro hf1 (And.intro hs1 hB1)); clear hf1 hs1 hB1) | (refine wpList_alloc_blk rfl 88 rfl (some 3) rfl 26 _ Tryd.zeroBig ?_; intro w2 hf2 hs2 hB2; have HB := hide (And.intro hf2 (And.intro hs2 hB2)); clear hf2 hs2 hB2; have HS := hide (show LS w w2 b q cap rs N F e p w.heap.size w1.heap.size (fun _ => false) from ⟨(unhide HA).1.trans0 (unhide HB).1, ((unhide H).fr0 (unhide HA).1).fr0 (unhide HB).1, (unhide HA).2.2.fr0 (unhide HB).1, (unhide HB).2.2, Nat.le_refl _, by have := (unhide HA).2.1; omega, (unhide H).lt, (unhide H).blk.lt⟩); clear HA HB H; have c0 := (unhide HS).2.1.c1) | (go_at_call 70; refine (p_add _ _ _ 26 _ _ (by exact (unhide HS).2.2.2.1) (by omega)).mono ?_; rintro e w4 ⟨rfl, hf4⟩))
  have HS4 := hide ((unhide HS).add hf4.1 hf4.2.2)
  clear hf4 HS c0
  go_loopw [4] (fun r wr => ∃ k : Nat, k ≤ rs.length ∧ r = .int .i64 k ∧ Hid (LS w wr b q cap rs N F e p w.heap.size w1.heap.size (iter (rdRound rs) k (insB (fun _ => false) (stOf rs))))) (fun r _ => rs.length - (intOf r).toNat)
  case atStart => exact ⟨0, by omega, rfl, HS4⟩
  case round =>
    obtain ⟨k, hk, rfl, hs⟩ := hrel
    have c0 := (unhide hs).2.1.c0
    by_cases hlt : k < rs.length
    · go_wp2
      clear c0
      go_loopw [5] (fun i wr2 => ∃ j : Nat, j ≤ rs.length ∧ i = .int .i64 j ∧ Hid (LS w wr2 b q cap rs N F e p w.heap.size w1.heap.size (rdUpTo rs j (iter (rdRound rs) k (insB (fun _ => false) (stOf rs)))))) (fun i _ => rs.length - (intOf i).toNat)
      case atStart => exact ⟨0, by omega, rfl, hs⟩
      case round =>
        obtain ⟨j, hj, rfl, hs2⟩ := hrel
        have c0 := (unhide hs2).2.1.c0
        by_cases hjt : j < rs.length
        · obtain ⟨a0, a1, a2⟩ := (unhide hs2).2.1.ru j hjt
          have hsm := ((unhide hs2).2.1.small j hjt).1
          have HX := hide ((unhide hs2).fr ((Fr.refl _ _).alloc (.cells #[.int .u8 rs[j].L, .string rs[j].R, .int .i64 rs[j].A] 114)))
          have HU := hide (rdUpTo_succ rs j (iter (rdRound rs) k (insB (fun _ => false) (stOf rs))) hjt)
          cases hv : hasB (rdUpTo rs j (iter (rdRound rs) k (insB (fun _ => false) (stOf rs)))) rs[j].L
          · have HN := hide (show rdUpTo rs (j + 1) (iter (rdRound rs) k (insB (fun _ => false) (stOf rs))) = rdUpTo rs j (iter (rdRound rs) k (insB (fun _ => false) (stOf rs))) from by rw [unhide HU, hv]; rfl)
            clear HU
            go_wp2_with (go_at_call 66; refine (p_has _ _ _ _ _ (by exact (unhide HX).2.2.2.1.setAt0)).mono ?_; rintro e w' ⟨rfl, rfl⟩)
            go_roundw
            case rel => exact ⟨j + 1, by omega, by go_num, hide (by rw [unhide HN]; exact unhide HX)⟩
            case measure => simp [intOf]; omega
          · have HN := hide (show rdUpTo rs (j + 1) (iter (rdRound rs) k (insB (fun _ => false) (stOf rs))) = (bytes rs[j].R).foldl insB (rdUpTo rs j (iter (rdRound rs) k (insB (fun _ => false) (stOf rs)))) from by rw [unhide HU, hv]; rfl)
            clear HU
            go_wp2_with (first | (go_at_call 66; refine (p_has _ _ _ _ _ (by exact (unhide HX).2.2.2.1.setAt0)).mono ?_; rintro e w' ⟨rfl, rfl⟩) | (go_at_call 80; refine (p_addBigLetters _ _ _ 26 _ _ hsm (by exact (unhide HX).2.2.2.1) (by omega)).mono ?_; rintro e w3 ⟨rfl, hf3⟩))
            have HY := hide ((unhide HX).put hf3.1 (hf3.2.2.congr fun i hi => setF_addAll _ _ _ (fun _ _ => rfl) i hi))
            clear hf3
            go_roundw
            case rel => exact ⟨j + 1, by omega, by go_num, hide (by rw [unhide HN]; exact unhide HY)⟩
            case measure => simp [intOf]; omega
        · have HY := hide (show LS w wr b q cap rs N F e p w.heap.size w1.heap.size (iter (rdRound rs) (k + 1) (insB (fun _ => false) (stOf rs))) from by
            have := unhide hs2
            rw [rdUpTo_all _ _ _ (by omega)] at this; exact this)
          clear hs2
          go_wp2
          go_roundw
          case rel => exact ⟨k + 1, by omega, by go_num, HY⟩
          case measure => simp [intOf]; omega
    · have HK : Hid (k = rs.length) := hide (by omega)
      go_wp2_with (first | (refine wpList_load_blk rfl 88 _ rfl (some 43) rfl _ 0 26 26 _ _ rfl (by exact (unhide hs).2.2.2.1) Tryd.underlying88 rfl Tryd.sizeBig (by omega) ?_) | (refine wpList_store_blk rfl 88 _ _ rfl _ 0 26 26 _ _ rfl rfl (by exact (unhide hs).2.2.1) Tryd.sizeBig (by omega) (by intro i hi; rfl) ?_; intro w5 hf5 hs5 hB5))
      exact bodyPost_ret (results_cell Tryd.results68 _ w.heap.size rfl 26 26 _ _ (hB5.congr fun i hi => lay_all _ _ _ i hi) Tryd.underlying88 rfl Tryd.sizeBig (by omega)) rfl ⟨by rw [← unhide HK], (unhide hs).1.trans1 hf5 (Or.inr (Nat.le_refl _))⟩
end Go.Proofs.YtkglggkkbmmjkaaDoor

namespace Go.Proofs.YtkglggkkbmmjkaaDoor
open Go.RowKit

theorem GAt.refused {w w' : World} {b q cap : Nat} {rs : List Ru} {N : Nat → Bool} {F : Nat → Nat → Bool} {e p e' p' : Int} (h : GAt w b q cap rs N F e p) (k : Fr [b] w w')
    (hB : Blk w' b 758 (refF (gF (.slice (some ⟨q, 0, none⟩) rs.length cap) (stOf rs) (rset rs) N F e p) e' p')) : GAt w' b q cap rs N F e' p' :=
  ⟨hB.congr fun i hi => gF_ref _ _ _ _ _ _ _ _ _ i hi, h.ru.fr k (by have := h.ne; simp; omega) h.lt, h.ne, Nat.lt_of_lt_of_le h.lt k.size, h.small, h.len⟩

def dead1 (E U : Nat → Bool) (r : Ru) : Bool := !hasB E r.L || !hasB U r.L
def deadAt (E U : Nat → Bool) : List Ru → Option Nat
  | [] => none
  | r :: l => if dead1 E U r then some r.A else deadAt E U l
def errOf (o : Option Nat) (e : Int) : Int := if o.isSome then e else 0
def plOf (o : Option Nat) : Int := ((o.getD 0 : Nat) : Int)
def ends (rs : List Ru) : Nat → Bool := iter (mkRound true rs) rs.length fun _ => false
def reach (rs : List Ru) : Nat → Bool := iter (rdRound rs) rs.length (insB (fun _ => false) (stOf rs))

theorem drop_cons' (rs : List Ru) (i : Nat) (h : i < rs.length) : rs.drop i = rs[i] :: rs.drop (i + 1) := List.drop_eq_getElem_cons h

/-- the state of checkDead -/
def DS (w wr : World) (b q cap : Nat) (rs : List Ru) (N : Nat → Bool) (F : Nat → Nat → Bool) (r0 r1 : Nat) : Prop :=
  Fr [] w wr ∧ GAt wr b q cap rs N F 0 0 ∧ Blk wr r0 26 (setF (ends rs)) ∧ Blk wr r1 26 (setF (reach rs)) ∧ w.heap.size ≤ r0 ∧ w.heap.size ≤ r1
theorem DS.fr {w wr wr' : World} {b q cap : Nat} {rs : List Ru} {N : Nat → Bool} {F : Nat → Nat → Bool} {r0 r1 : Nat} (h : DS w wr b q cap rs N F r0 r1) (k : Fr [] wr wr') : DS w wr' b q cap rs N F r0 r1 := by
  obtain ⟨h1, h2, h3, h4, h5⟩ := h
  exact ⟨h1.trans0 k, h2.fr0 k, h3.fr0 k, h4.fr0 k, h5⟩

set_option maxHeartbeats 1600000 in
theorem p_checkDead (b q cap : Nat) (rs : List Ru) (N : Nat → Bool) (F : Nat → Nat → Bool) (w : World) (h : GAt w b q cap rs N F 0 0) :
    Calls Tryd.prog 55 #[.pointer (some ⟨b, 0, none⟩)] w fun e' w' => e' = .returned (.tuple #[]) ∧ Fr [b] w w' ∧ GAt w' b q cap rs N F (errOf (deadAt (ends rs) (reach rs) rs) 4) (plOf (deadAt (ends rs) (reach rs) rs)) := by
  have H := hide h
  have hlen := h.len
  clear h
  go_enter Tryd.func55, Tryd.ntmps55
  go_wp2_with (first
    | (go_at_call 56; refine (p_makersOf b q cap rs N F 0 0 true _ (by exact unhide H)).mono ?_; rintro e w1 ⟨rfl, hf1⟩; have H1 := hide ((unhide H).fr0 hf1))
    | (refine wpList_alloc_blk rfl 88 rfl (some 2) rfl 26 _ Tryd.zeroBig ?_; intro w2 hf2 hs2 hB2; have HF2 := hide hf2; have HS2 := hide hs2; have HB2 := hide hB2; clear hf2 hs2 hB2)
    | (refine wpList_store_blk rfl 88 (.tmp 2) _ rfl _ 0 26 26 _ _ rfl rfl (by exact unhide HB2) Tryd.sizeBig (by omega) (by intro i hi; rfl) ?_; intro w3 hf3 hs3 hB3; have HF3 := hide hf3; have HS3 := hide hs3; have HB3 := hide (hB3.congr fun i hi => lay_all _ _ _ i hi); clear hf3 hs3 hB3; have H3 := hide (((unhide H1).fr0 (unhide HF2)).fr (unhide HF3) (by have := (unhide H1).blk.lt; simp; omega) (by have := (unhide H1).lt; simp; omega)))
    | (go_at_call 68; refine (p_reachedLetters b q cap rs N F 0 0 _ (by exact unhide H3)).mono ?_; rintro e w4 ⟨rfl, hf4⟩; have HF4 := hide hf4; clear hf4)
    | (refine wpList_alloc_blk rfl 88 rfl (some 3) rfl 26 _ Tryd.zeroBig ?_; intro w5 hf5 hs5 hB5; have HF5 := hide hf5; have HS5 := hide hs5; have HB5 := hide hB5; clear hf5 hs5 hB5)
    | (refine wpList_store_blk rfl 88 (.tmp 3) _ rfl _ 0 26 26 _ _ rfl rfl (by exact unhide HB5) Tryd.sizeBig (by omega) (by intro i hi; rfl) ?_; intro w6 hf6 hs6 hB6; have HF6 := hide hf6; have HB6 := hide (hB6.congr fun i hi => lay_all _ _ _ i hi); clear hf6 hs6 hB6))
  have HD := hide (show DS w w6 b q cap rs N F w1.heap.size w4.heap.size from by
    have s1 := hf1.size
    have s3 := (unhide HB3).lt
    have s4 := (unhide HF4).size
    have s2 := (unhide HF2).size
    have s5 := unhide HS3
    have g1 := (unhide H1).lt
    have g0 := (unhide H1).blk.lt
    refine ⟨((((hf1.trans0 (unhide HF2)).trans1 (unhide HF3) (Or.inr s1)).trans0 (unhide HF4)).trans0 (unhide HF5)).trans1 (unhide HF6) (Or.inr (by omega)), ?_, ?_, unhide HB6, s1, by omega⟩
    · exact (((unhide H3).fr0 (unhide HF4)).fr0 (unhide HF5)).fr (unhide HF6) (by simp; omega) (by simp; omega)
    · exact (((unhide HB3).fr0 (unhide HF4)).fr0 (unhide HF5)).fr1 (unhide HF6) (by omega))
  clear HF2 HS2 HB2 HF3 HS3 HB3 H3 HF4 HF5 HS5 HB5 HF6 HB6 H1 H
  go_loopw [4] (fun i wr => ∃ j : Nat, j ≤ rs.length ∧ i = .int .i64 j ∧ Hid (deadAt (ends rs) (reach rs) rs = deadAt (ends rs) (reach rs) (rs.drop j)) ∧ Hid (DS w wr b q cap rs N F w1.heap.size w4.heap.size)) (fun i _ => rs.length - (intOf i).toNat)
  case atStart => exact ⟨0, by omega, rfl, rfl, HD⟩
  case round =>
    obtain ⟨j, hj, rfl, hd, hs⟩ := hrel
    have c0 := (unhide hs).2.1.c0
    by_cases hlt : j < rs.length
    · obtain ⟨a0, a1, a2⟩ := (unhide hs).2.1.ru j hlt
      have hsm := ((unhide hs).2.1.small j hlt).2
      have HX := hide ((unhide hs).fr ((Fr.refl _ _).alloc (.cells #[.int .u8 rs[j].L, .string rs[j].R, .int .i64 rs[j].A] 114)))
      have HU := hide ((unhide hd).trans (by rw [drop_cons' rs j hlt, deadAt]))
      clear hd
      cases h1 : hasB (ends rs) rs[j].L
      · have HN := hide ((unhide HU).trans (if_pos (by simp [dead1, h1])))
        clear HU
        go_wp2_with (first | (go_at_call 66; refine (p_has w1.heap.size 0 _ (ends rs) _ (by exact (unhide HX).2.2.1.setAt0)).mono ?_; rintro e w' ⟨rfl, rfl⟩) | (go_at_call 52; refine (p_refuse b _ _ _ _ (by exact (unhide HX).2.1.blk)).mono ?_; rintro e w7 ⟨rfl, hf7⟩))
        refine bodyPost_ret (v := .tuple #[]) (results_none Tryd.results55 _ _ _) rfl ⟨rfl, (Fr.weak (unhide HX).1 (by simp)).trans hf7.1 (by simp), ?_⟩
        rw [unhide HN]; exact (unhide HX).2.1.refused hf7.1 hf7.2.2
      · cases h2 : hasB (reach rs) rs[j].L
        · have HN := hide ((unhide HU).trans (if_pos (by simp [dead1, h2])))
          clear HU
          go_wp2_with fail
          refine (p_has w1.heap.size 0 _ (ends rs) _ (by exact (unhide HX).2.2.1.setAt0)).mono ?_
          rintro e w' ⟨rfl, rfl⟩
          go_wp2_with fail
          refine (p_has w4.heap.size 0 _ (reach rs) _ (by exact (unhide HX).2.2.2.1.setAt0)).mono ?_
          rintro e w' ⟨rfl, rfl⟩
          go_wp2_with (go_at_call 52; refine (p_refuse b _ _ _ _ (by exact (unhide HX).2.1.blk)).mono ?_; rintro e w7 ⟨rfl, hf7⟩)
          refine bodyPost_ret (v := .tuple #[]) (results_none Tryd.results55 _ _ _) rfl ⟨rfl, (Fr.weak (unhide HX).1 (by simp)).trans hf7.1 (by simp), ?_⟩
          rw [unhide HN]; exact (unhide HX).2.1.refused hf7.1 hf7.2.2
        · have HN := hide ((unhide HU).trans (if_neg (by simp [dead1, h1, h2])))
          clear HU
          go_wp2_with fail
          refine (p_has w1.heap.size 0 _ (ends rs) _ (by exact (unhide HX).2.2.1.setAt0)).mono ?_
          rintro e w' ⟨rfl, rfl⟩
          go_wp2_with fail
          refine (p_has w4.heap.size 0 _ (reach rs) _ (by exact (unhide HX).2.2.2.1.setAt0)).mono ?_
          rintro e w' ⟨rfl, rfl⟩
          go_wp2
          go_roundw
          case rel => exact ⟨j + 1, by omega, by go_num, HN, HX⟩
          case measure => simp [intOf]; omega
    · have HN := hide ((unhide hd).trans (by rw [List.drop_of_length_le (by omega), deadAt]))
      clear hd
      go_wp2
      go_end0
      refine ⟨rfl, Fr.weak (unhide hs).1 (by simp), ?_⟩
      rw [unhide HN]; exact (unhide hs).2.1

end Go.Proofs.YtkglggkkbmmjkaaDoor

namespace Go.Proofs.YtkglggkkbmmjkaaDoor
open Go.RowKit

def nm (S : Nat → Bool) (r : Ru) (j : Nat) : Bool := bigB (ch r.R j) && !hasB S (ch r.R j)
def firstIn (S : Nat → Bool) (r : Ru) : Option Nat := (List.range r.R.size).find? (nm S r)
def names (S : Nat → Bool) : List Ru → Option Nat
  | [] => none
  | r :: l => match firstIn S r with
    | some j => some (r.A + 2 + j)
    | none => names S l

theorem find_range (p : Nat → Bool) : ∀ n, (∀ i, i < n → p i = false) → (List.range n).find? p = none := fun n h => by
  rw [List.find?_eq_none]; intro x hx; simpa using h x (by simpa using hx)
theorem find_range_some (p : Nat → Bool) (n j : Nat) (hj : j < n) (h : ∀ i, i < j → p i = false) (hp : p j = true) : (List.range n).find? p = some j := by
  rw [List.find?_range_eq_some]
  exact ⟨hp, by simpa using hj, fun i hi => by simp [h i hi]⟩
theorem names_hit (S : Nat → Bool) (r : Ru) (l : List Ru) (j : Nat) (hj : j < r.R.size) (h : ∀ i, i < j → nm S r i = false) (hp : nm S r j = true) : names S (r :: l) = some (r.A + 2 + j) := by
  rw [names, firstIn, find_range_some _ _ _ hj h hp]
theorem names_miss (S : Nat → Bool) (r : Ru) (l : List Ru) (h : ∀ i, i < r.R.size → nm S r i = false) : names S (r :: l) = names S l := by
  rw [names, firstIn, find_range _ _ h]

def ruF (r : Ru) : Nat → Value := fun i => if i = 0 then .int .u8 r.L else if i = 1 then .string r.R else .int .i64 r.A
theorem Blk.newRu (w : World) (r : Ru) (T : TypeId) : Blk (w.alloc (.cells #[.int .u8 r.L, .string r.R, .int .i64 r.A] T)) w.heap.size 3 (ruF r) :=
  Blk.newArr w _ T 3 (ruF r) rfl (fun i h => by
    match i, h with
    | 0, _ => rfl
    | 1, _ => rfl
    | 2, _ => rfl)

theorem gF_ruled {v : Value} {st : Nat} {R N : Nat → Bool} {F : Nat → Nat → Bool} {e p : Int} (k : Nat) (hk : k < 26) : gF v st R N F e p (2 + k) = .bool (R (65 + k)) := by
  unfold gF
  rw [if_neg (by omega), if_neg (by omega), if_pos (by omega), show 2 + k - 2 = k from by omega]
theorem GAt.ruled {w : World} {b q cap : Nat} {rs : List Ru} {N : Nat → Bool} {F : Nat → Nat → Bool} {e p : Int} (h : GAt w b q cap rs N F e p) : SetAt w b 2 (rset rs) := fun k hk => by
  rw [h.blk.cell (2 + k) (by omega), gF_ruled k hk]

theorem SetAt.drew {w : World} {b off : Nat} {S : Nat → Bool} (h : SetAt w b off S) : SetAt w.drew b off S := h

theorem p_isBig_is (c : Nat) (v : Bool) (w : World) (h : bigB c = v) : Calls Tryd.prog 44 #[.int .u8 c] w fun e w' => e = .returned (.bool v) ∧ w' = w := by
  subst h; exact p_isBig c w

theorem fr_drewN (w : World) (n : Nat) : Fr [] w (w.drewN n) := ⟨rfl, rfl, rfl, Nat.le_refl _, fun _ _ _ => rfl⟩
theorem p_has_is (b off c : Nat) (S : Nat → Bool) (v : Bool) (w : World) (hc : SetAt w b off S) (h : hasB S c = v) :
    Calls Tryd.prog 66 #[.pointer (some ⟨b, off, none⟩), .int .u8 c] w fun e w' => e = .returned (.bool v) ∧ w' = w := by
  subst h; exact p_has b off c S w hc
theorem nm_lt (S : Nat → Bool) (r : Ru) (k : Nat) (v : Bool) (h : ∀ i, i < k → nm S r i = v) (hk : nm S r k = v) : ∀ i, i < k + 1 → nm S r i = v := fun i hi => by
  by_cases e : i = k
  · subst e; exact hk
  · exact h i (by omega)

/-- the state of checkNames, in a rule -/
def NS (w wr : World) (b q cap : Nat) (rs : List Ru) (N : Nat → Bool) (F : Nat → Nat → Bool) : Prop :=
  Fr [] w wr ∧ GAt wr b q cap rs N F 0 0
theorem NS.fr {w wr wr' : World} {b q cap : Nat} {rs : List Ru} {N : Nat → Bool} {F : Nat → Nat → Bool} (h : NS w wr b q cap rs N F) (k : Fr [] wr wr') : NS w wr' b q cap rs N F := ⟨h.1.trans0 k, h.2.fr0 k⟩

set_option maxHeartbeats 1000000 in
theorem p_checkNames (b q cap : Nat) (rs : List Ru) (N : Nat → Bool) (F : Nat → Nat → Bool) (w : World) (h : GAt w b q cap rs N F 0 0) :
    Calls Tryd.prog 54 #[.pointer (some ⟨b, 0, none⟩)] w fun e' w' => e' = .returned (.tuple #[]) ∧ Fr [b] w w' ∧ GAt w' b q cap rs N F (errOf (names (rset rs) rs) 3) (plOf (names (rset rs) rs)) := by
  have H := hide (show NS w w b q cap rs N F from ⟨Fr.refl _ _, h⟩)
  have hlen := h.len
  clear h
  go_enter Tryd.func54, Tryd.ntmps54
  go_wp2
  go_loopw [2] (fun i wr => ∃ j : Nat, j ≤ rs.length ∧ i = .int .i64 j ∧ Hid (names (rset rs) rs = names (rset rs) (rs.drop j)) ∧ Hid (NS w wr b q cap rs N F)) (fun i _ => rs.length - (intOf i).toNat)
  case atStart => exact ⟨0, by omega, rfl, rfl, H⟩
  case round =>
    obtain ⟨j, hj, rfl, hd, hs⟩ := hrel
    have c0 := (unhide hs).2.c0
    by_cases hlt : j < rs.length
    · obtain ⟨a0, a1, a2⟩ := (unhide hs).2.ru j hlt
      have hsm := (unhide hs).2.small j hlt
      have HX := hide ((unhide hs).fr ((Fr.refl _ _).alloc (.cells #[.int .u8 rs[j].L, .string rs[j].R, .int .i64 rs[j].A] 114)))
      have HR := hide (Blk.newRu wr rs[j] 114)
      have HU := hide ((unhide hd).trans (by rw [drop_cons' rs j hlt]))
      clear hd
      go_wp2
      clear c0 a0 a1 a2 hs
      obtain ⟨rb, hrb⟩ : ∃ rb, wr.heap.size = rb := ⟨_, rfl⟩
      rw [hrb] at HR ⊢
      clear hrb
      go_loopw [4] (fun i w2 => ∃ k : Nat, k ≤ rs[j].R.size ∧ i = .int .i64 k ∧ Hid (∀ i, i < k → nm (rset rs) rs[j] i = false) ∧ Hid (NS w w2 b q cap rs N F) ∧ Hid (Blk w2 rb 3 (ruF rs[j]))) (fun i _ => rs[j].R.size - (intOf i).toNat)
      case atStart => exact ⟨0, by omega, rfl, fun i hi => by omega, HX, HR⟩
      case round =>
        obtain ⟨k, hk, rfl, hd, hs, hr⟩ := hrel
        have b1 : wr.cell? ⟨rb, 1, none⟩ = some (.string rs[j].R) := (unhide hr).cell 1 (by omega)
        by_cases hkt : k < rs[j].R.size
        · have hch := hide (ch_eq rs[j].R k hkt)
          have HSet := hide (unhide hs).2.ruled
          clear HX HR
          cases h1 : bigB rs[j].R[k].toNat
          · have HM := hide (nm_lt (rset rs) rs[j] k false (unhide hd) (by unfold nm; rw [unhide hch, h1]; rfl))
            go_wp2
            go_quiet ((go_at_call 44; exact Calls.quiet_of_same (p_isBig_is _ false _ h1)))
            go_wp2
            go_roundw
            case rel => exact ⟨k + 1, by omega, by go_num, HM, (unhide hs).fr (fr_drewN _ _), (unhide hr).fr0 (fr_drewN _ _)⟩
            case measure => simp [intOf]; omega
          · cases h2 : hasB (rset rs) rs[j].R[k].toNat
            · have HN := hide ((unhide HU).trans (names_hit (rset rs) rs[j] _ k hkt (unhide hd) (by unfold nm; rw [unhide hch, h1, h2]; rfl)))
              have HR2 := hide (show wr.cell? ⟨rb, 2, none⟩ = some (.int .i64 rs[j].A) from (unhide hr).cell 2 (by omega))
              go_wp2
              go_quiet ((first | (go_at_call 44; exact Calls.quiet_of_same (p_isBig_is _ true _ h1)) | (go_at_call 66; exact Calls.quiet_of_same (p_has_is _ _ _ _ false _ (by exact unhide HSet) h2))))
              go_wp2_with (first | (go_at_call 67; refine (p_rightPlace rb rs[j].A _ (by omega) (by exact unhide HR2)).mono ?_; rintro e w' ⟨rfl, rfl⟩) | (go_at_call 52; refine (p_refuse b _ _ _ _ (by exact (unhide hs).2.blk.fr0 (fr_drewN _ _))).mono ?_; rintro e w7 ⟨rfl, hf7⟩))
              refine bodyPost_ret (v := .tuple #[]) (results_none Tryd.results54 _ _ _) rfl ⟨rfl, (Fr.weak ((unhide hs).1.trans0 (fr_drewN _ nq)) (by simp)).trans hf7.1 (by simp), ?_⟩
              rw [unhide HN]
              have := ((unhide hs).2.fr0 (fr_drewN _ nq)).refused hf7.1 hf7.2.2
              simpa [errOf, plOf] using this
            · have HM := hide (nm_lt (rset rs) rs[j] k false (unhide hd) (by unfold nm; rw [unhide hch, h1, h2]; rfl))
              go_wp2
              go_quiet ((first | (go_at_call 44; exact Calls.quiet_of_same (p_isBig_is _ true _ h1)) | (go_at_call 66; exact Calls.quiet_of_same (p_has_is _ _ _ _ true _ (by exact unhide HSet) h2))))
              go_wp2
              go_roundw
              case rel => exact ⟨k + 1, by omega, by go_num, HM, (unhide hs).fr (fr_drewN _ _), (unhide hr).fr0 (fr_drewN _ _)⟩
              case measure => simp [intOf]; omega
        · have HN := hide ((unhide HU).trans (names_miss (rset rs) rs[j] _ (fun i hi => unhide hd i (by omega))))
          clear HU hd
          go_wp2
          go_roundw
          case rel => exact ⟨j + 1, by omega, by go_num, HN, hs⟩
          case measure => simp [intOf]; omega
    · have HN := hide ((unhide hd).trans (by rw [List.drop_of_length_le (by omega), names]))
      clear hd
      go_wp2
      go_end0
      refine ⟨rfl, Fr.weak (unhide hs).1 (by simp), ?_⟩
      rw [unhide HN]; exact (unhide hs).2

end Go.Proofs.YtkglggkkbmmjkaaDoor
