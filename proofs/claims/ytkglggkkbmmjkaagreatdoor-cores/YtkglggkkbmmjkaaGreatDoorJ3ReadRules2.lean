import Derived.Test.YtkglggkkbmmjkaaGreatDoorJ2AddRule
namespace Go.Proofs.YtkglggkkbmmjkaaGreatDoor
open Go.RowKit

/-- a sign's code: the end first, then the small letters -/
def sgn (k : Nat) : Nat := if k = 0 then 36 else 96 + k
/-- a grammar's cells -/
def gF (v : Value) (st : Nat) (R N : Nat → Bool) (F : Nat → Nat → Bool) (e p : Int) : Nat → Value := fun i =>
  if i = 0 then v else if i = 1 then .int .u8 st else if i < 28 then .bool (R (65 + (i - 2))) else if i < 54 then .bool (N (65 + (i - 28)))
  else if i < 756 then .bool (F (65 + (i - 54) / 27) (sgn ((i - 54) % 27))) else if i = 756 then .int .i64 e else .int .i64 p

theorem gF_upd0 (v v' : Value) (st : Nat) (R N : Nat → Bool) (F : Nat → Nat → Bool) (e p : Int) (i : Nat) : upd (gF v st R N F e p) 0 v' i = gF v' st R N F e p i := by
  unfold upd gF
  by_cases h : i = 0
  · simp [h]
  · simp only [if_neg h]
theorem gF_upd1 (v : Value) (st L : Nat) (R N : Nat → Bool) (F : Nat → Nat → Bool) (e p : Int) (i : Nat) : upd (gF v st R N F e p) 1 (.int .u8 L) i = gF v L R N F e p i := by
  unfold upd gF
  by_cases h : i = 1
  · simp [h]
  · simp only [if_neg h]
theorem gF_add (v : Value) (st c : Nat) (R N : Nat → Bool) (F : Nat → Nat → Bool) (e p : Int) (i : Nat) : addF (gF v st R N F e p) 2 c i = gF v st (insB R c) N F e p i := by
  unfold addF
  by_cases hb : bigB c = true
  · have h := bigB_iff.1 hb
    rw [if_pos hb]
    unfold upd
    by_cases hi : i = 2 + (c - 65)
    · rw [if_pos hi]; subst hi
      unfold gF
      rw [if_neg (by omega), if_neg (by omega), if_pos (by omega)]
      simp [insB, hb]; right; omega
    · rw [if_neg hi]
      unfold gF
      by_cases h2 : i < 28
      · by_cases h0 : i = 0
        · simp [h0]
        · by_cases h1 : i = 1
          · simp [h1]
          · have hne : (65 + (i - 2) == c) = false := by simp; omega
            simp only [if_neg h0, if_neg h1, if_pos h2, insB, hne, Bool.and_false, Bool.or_false]
      · simp only [if_neg h2]
  · rw [if_neg hb]
    unfold gF insB
    simp [hb]
theorem gF_ref (v : Value) (st : Nat) (R N : Nat → Bool) (F : Nat → Nat → Bool) (e p e' p' : Int) (i : Nat) (hi : i < 758) : refF (gF v st R N F e p) e' p' i = gF v st R N F e' p' i := by
  unfold refF upd gF
  by_cases h7 : i = 757
  · subst h7; simp
  · by_cases h6 : i = 756
    · subst h6; simp
    · have h5 : i < 756 := by omega
      simp only [if_neg h7, if_neg h6, if_pos h5]

theorem gF_congr {v : Value} {st : Nat} {R R' N N' : Nat → Bool} {F F' : Nat → Nat → Bool} {e p : Int} (hR : ∀ c, bigB c = true → R c = R' c) (hN : ∀ c, bigB c = true → N c = N' c)
    (hF : ∀ c k, bigB c = true → k < 27 → F c (sgn k) = F' c (sgn k)) (i : Nat) : gF v st R N F e p i = gF v st R' N' F' e p i := by
  unfold gF
  by_cases h0 : i = 0
  · simp [h0]
  by_cases h1 : i = 1
  · simp [h1]
  by_cases h2 : i < 28
  · simp only [if_neg h0, if_neg h1, if_pos h2]; rw [hR _ (bigB_iff.2 (by omega))]
  by_cases h3 : i < 54
  · simp only [if_neg h0, if_neg h1, if_neg h2, if_pos h3]; rw [hN _ (bigB_iff.2 (by omega))]
  by_cases h4 : i < 756
  · simp only [if_neg h0, if_neg h1, if_neg h2, if_neg h3, if_pos h4]; rw [hF _ _ (bigB_iff.2 (by omega)) (by omega)]
  · simp only [if_neg h0, if_neg h1, if_neg h2, if_neg h3, if_neg h4]

def ruCells (rs : List Ru) : List Value := rs.flatMap fun r => [.int .u8 r.L, .string r.R, .int .i64 r.A]
def stOf (rs : List Ru) : Nat := (rs.head?.map Ru.L).getD 0
def rset (rs : List Ru) : Nat → Bool := fun c => rs.any fun r => r.L == c

theorem rset_snoc (rs : List Ru) (r : Ru) (c : Nat) (hL : bigB r.L = true) : insB (rset rs) r.L c = rset (rs ++ [r]) c := by
  simp only [insB, rset, List.any_append, List.any_cons, List.any_nil, Bool.or_false, hL, Bool.true_and]
  rw [show (c == r.L) = (r.L == c) from by rw [Bool.eq_iff_iff, beq_iff_eq, beq_iff_eq]; exact eq_comm]

theorem gF_upd0' (v v' : Value) (st : Nat) (R N : Nat → Bool) (F : Nat → Nat → Bool) (e p : Int) : upd (gF v st R N F e p) 0 v' = gF v' st R N F e p := funext fun i => gF_upd0 v v' st R N F e p i
theorem gF_upd1' (v : Value) (st L : Nat) (R N : Nat → Bool) (F : Nat → Nat → Bool) (e p : Int) : upd (gF v st R N F e p) 1 (.int .u8 L) = gF v L R N F e p := funext fun i => gF_upd1 v st L R N F e p i
theorem gF_add' (v : Value) (st c : Nat) (R N : Nat → Bool) (F : Nat → Nat → Bool) (e p : Int) : addF (gF v st R N F e p) 2 c = gF v st (insB R c) N F e p := funext fun i => gF_add v st c R N F e p i
theorem gF_zero (v : Value) (st : Nat) (R N : Nat → Bool) (F : Nat → Nat → Bool) (e p : Int) : gF v st R N F e p 0 = v := if_pos rfl
theorem stOf_snoc (acc : List Ru) (r : Ru) (h : acc.length ≠ 0) : stOf (acc ++ [r]) = stOf acc := by
  cases acc with
  | nil => simp at h
  | cons a l => rfl
theorem ruCells_snoc (acc : List Ru) (r : Ru) : ruCells (acc ++ [r]) = ruCells acc ++ [.int .u8 r.L, .string r.R, .int .i64 r.A] := by simp [ruCells]

/-- what readRules leaves -/
def RRPost (b : Nat) (t : ByteArray) (N : Nat → Bool) (F : Nat → Nat → Bool) (w w' : World) : Prop :=
  Below b w w' ∧ ∃ v, w'.ownsRow (b + 1) 166 3 v (parse t 8 0 []).1.length (ruCells (parse t 8 0 []).1) ∧
    Blk w' b 758 (gF v (stOf (parse t 8 0 []).1) (rset (parse t 8 0 []).1) N F (if (parse t 8 0 []).2.2 then 0 else 2) (if (parse t 8 0 []).2.2 then 0 else (parse t 8 0 []).2.1))

/-- the state of a reading -/
def RS (b : Nat) (N : Nat → Bool) (F : Nat → Nat → Bool) (w wr : World) (v : Value) (acc : List Ru) (e p : Int) : Prop :=
  Below b w wr ∧ Blk wr b 758 (gF v (stOf acc) (rset acc) N F e p) ∧ wr.ownsRow (b + 1) 166 3 v acc.length (ruCells acc) ∧ (acc.length = 0 → v = .slice none 0 0)

theorem RS.fr {b : Nat} {N : Nat → Bool} {F : Nat → Nat → Bool} {w w1 w2 : World} {v : Value} {acc : List Ru} {e p : Int} (h : RS b N F w w1 v acc e p) (k : Fr [] w1 w2) : RS b N F w w2 v acc e p :=
  ⟨h.1.trans (k.belowOf (by simp) (Nat.le_of_lt h.2.1.lt)), h.2.1.fr0 k, ownsRow_fr h.2.2.1 k (by simp), h.2.2.2⟩

/-- a refusal ends it -/
theorem RS.refused {b : Nat} {t : ByteArray} {N : Nat → Bool} {F : Nat → Nat → Bool} {w w1 w2 : World} {v : Value} {acc : List Ru} {k : Nat} {k' : Int} (h : RS b N F w w1 v acc 0 0)
    (hf : Fr [b] w1 w2) (hB : Blk w2 b 758 (refF (gF v (stOf acc) (rset acc) N F 0 0) 2 k')) (hk : k' = k) (hp : parse t 8 0 [] = (acc, k, false)) : RRPost b t N F w w2 := by
  subst hk
  refine ⟨h.1.trans (hf.belowOf (by simp) (Nat.le_of_lt h.2.1.lt)), v, ?_, ?_⟩
  · rw [hp]; exact ownsRow_fr h.2.2.1 hf (by simp)
  · rw [hp]; exact hB.congr fun i hi => gF_ref _ _ _ _ _ _ _ _ _ i hi
theorem RS.ended {b : Nat} {t : ByteArray} {N : Nat → Bool} {F : Nat → Nat → Bool} {w w1 : World} {v : Value} {acc : List Ru} {k : Nat} (h : RS b N F w w1 v acc 0 0)
    (hp : parse t 8 0 [] = (acc, k, true)) : RRPost b t N F w w1 := by
  refine ⟨h.1, v, ?_, ?_⟩
  · rw [hp]; exact h.2.2.1
  · rw [hp]; exact h.2.1

set_option maxHeartbeats 400000 in
/-- addRule, on the state. -/
theorem p_addRule (b : Nat) (N : Nat → Bool) (F : Nat → Nat → Bool) (w0 w : World) (v : Value) (acc : List Ru) (r : Ru) (hL : bigB r.L = true) (h : RS b N F w0 w v acc 0 0) (hn : acc.length ≤ 7) :
    Calls Tryz.prog 109 #[.pointer (some ⟨b, 0, none⟩), .agg #[.int .u8 r.L, .string r.R, .int .i64 r.A]] w fun e w' => e = .returned (.tuple #[]) ∧ ∃ v', RS b N F w0 w' v' (acc ++ [r]) 0 0 := by
  obtain ⟨h1, h2, h3, h4⟩ := h
  by_cases h0 : acc.length = 0
  · have hv := h4 h0
    have hacc : acc = [] := List.length_eq_zero_iff.1 h0
    subst hacc hv
    refine (p_addRule_first b r.L r.A r.R _ w h2 (gF_zero _ _ _ _ _ _ _)).mono ?_
    rintro e w' ⟨rfl, hb, g, c, ho, hB⟩
    rw [gF_upd1', gF_upd0', gF_add'] at hB
    refine ⟨rfl, .slice (some ⟨g, 0, none⟩) 1 c, h1.trans hb, hB.congr fun i _ => gF_congr (fun c _ => rset_snoc [] r c hL) (fun _ _ => rfl) (fun _ _ _ _ => rfl) i, ?_, fun h => by simp at h⟩
    rw [ruCells_snoc]; exact ho
  · obtain ⟨q, cap, rfl⟩ : ∃ q cap, v = .slice (some ⟨q, 0, none⟩) acc.length cap := by
      rcases h3.2 with ⟨_, hl⟩ | ⟨q, cap, _, hv, _⟩
      · exact absurd hl h0
      · exact ⟨q, cap, hv⟩
    refine (p_addRule_more b acc.length r.L r.A q cap r.R _ (ruCells acc) w h2 (gF_zero _ _ _ _ _ _ _) h3 (by omega) (by omega)).mono ?_
    rintro e w' ⟨rfl, hb, g, c, ho, hB⟩
    rw [gF_upd0', gF_add', ← stOf_snoc acc r h0] at hB
    refine ⟨rfl, .slice (some ⟨g, 0, none⟩) (acc.length + 1) c, h1.trans hb, hB.congr fun i _ => gF_congr (fun c _ => rset_snoc acc r c hL) (fun _ _ => rfl) (fun _ _ _ _ => rfl) i, ?_, fun h => by simp at h⟩
    rw [ruCells_snoc, List.length_append]; exact ho

end Go.Proofs.YtkglggkkbmmjkaaGreatDoor

namespace Go.Proofs.YtkglggkkbmmjkaaGreatDoor
open Go.RowKit

theorem parse_bad0 (t : ByteArray) (f i : Nat) (acc : List Ru) (h : ¬ (i < t.size ∧ bigB (ch t i) = true)) : parse t (f + 1) i acc = (acc, i, false) := by
  rw [parse, if_neg h]
theorem parse_bad1 (t : ByteArray) (f i : Nat) (acc : List Ru) (h : i < t.size ∧ bigB (ch t i) = true) (h1 : ¬ (i + 1 < t.size ∧ ch t (i + 1) = 61)) : parse t (f + 1) i acc = (acc, i + 1, false) := by
  rw [parse, if_pos h, if_neg h1]
theorem parse_end (t : ByteArray) (f i : Nat) (acc : List Ru) (h : i < t.size ∧ bigB (ch t i) = true) (h1 : i + 1 < t.size ∧ ch t (i + 1) = 61) (h2 : ¬ runEnd t 4 (i + 2) < t.size) :
    parse t (f + 1) i acc = (acc ++ [⟨ch t i, t.extract (i + 2) (runEnd t 4 (i + 2)), i⟩], runEnd t 4 (i + 2), true) := by
  rw [parse, if_pos h, if_pos h1, if_neg h2]
theorem parse_bad2 (t : ByteArray) (f i : Nat) (acc : List Ru) (h : i < t.size ∧ bigB (ch t i) = true) (h1 : i + 1 < t.size ∧ ch t (i + 1) = 61) (h2 : runEnd t 4 (i + 2) < t.size)
    (h3 : f = 0 ∨ ch t (runEnd t 4 (i + 2)) ≠ 59) : parse t (f + 1) i acc = (acc ++ [⟨ch t i, t.extract (i + 2) (runEnd t 4 (i + 2)), i⟩], runEnd t 4 (i + 2), false) := by
  rw [parse, if_pos h, if_pos h1, if_pos h2, if_pos h3]
theorem parse_more (t : ByteArray) (f i : Nat) (acc : List Ru) (h : i < t.size ∧ bigB (ch t i) = true) (h1 : i + 1 < t.size ∧ ch t (i + 1) = 61) (h2 : runEnd t 4 (i + 2) < t.size)
    (h3 : ¬ (f = 0 ∨ ch t (runEnd t 4 (i + 2)) ≠ 59)) : parse t (f + 1) i acc = parse t f (runEnd t 4 (i + 2) + 1) (acc ++ [⟨ch t i, t.extract (i + 2) (runEnd t 4 (i + 2)), i⟩]) := by
  rw [parse, if_pos h, if_pos h1, if_pos h2, if_neg h3]

set_option maxHeartbeats 1600000 in
theorem p_readRules (b : Nat) (t : ByteArray) (N : Nat → Bool) (F : Nat → Nat → Bool) (w : World) (ht : t.size ≤ 32) (h : RS b N F w w (.slice none 0 0) [] 0 0) :
    Calls Tryz.prog 56 #[.pointer (some ⟨b, 0, none⟩), .string t] w fun e w' => e = .returned (.tuple #[]) ∧ RRPost b t N F w w' := by
  have H : Hid (RS b N F w w (.slice none 0 0) [] 0 0) := h
  clear h
  go_enter Tryz.func56, Tryz.ntmps56
  go_wp2
  go_loopw [4, 5] (fun a n wr => ∃ (k i : Nat) (acc : List Ru) (v : Value), k ≤ 7 ∧ i ≤ 33 ∧ acc.length = k ∧ n = .int .i64 (k + 1 : Nat) ∧ a = .int .i64 i ∧ Hid (parse t 8 0 [] = parse t (8 - k) i acc) ∧ Hid (RS b N F w wr v acc 0 0))
    (fun _ n _ => 9 - (intOf n).toNat)
  case atStart => exact ⟨0, 0, [], _, by omega, by omega, rfl, rfl, rfl, rfl, H⟩
  case round =>
    obtain ⟨k, i, acc, v, hk, hi, hl, rfl, rfl, hp, hs⟩ := hrel
    have HL : Hid (acc.length = k) := hl
    clear hl
    have hf : Hid (parse t 8 0 [] = parse t ((7 - k) + 1) i acc) := by
      show _ = _
      rw [hp.out, show 8 - k = (7 - k) + 1 from by omega]
    clear hp
    by_cases h0 : i < t.size ∧ bigB (ch t i) = true
    · by_cases h1 : i + 1 < t.size ∧ ch t (i + 1) = 61
      · have hbd := runEnd_bd t 4 (i + 2)
        have hi0 : i < t.size := h0.1
        have hi1 : i + 1 < t.size := h1.1
        by_cases h2 : runEnd t 4 (i + 2) < t.size
        · by_cases h3 : k = 7
          · have HP := hide (hf.out.trans (parse_bad2 t _ i acc h0 h1 h2 (by omega)))
            have hk8 : ((k : Int) + 1 == 8) = true := by simp; omega
            have H0 := hide h0
            have H1 := hide h1
            clear h0 h1 hf h3
            go_wp2_with (first | (go_at_call 108; refine (p_readRule_ok t i _ ht hi0 (unhide H0).2 hi1 (unhide H1).2).mono ?_; rintro e w1 ⟨hf1, rfl⟩; have HS1 := hide ((unhide hs).fr (hf1.alloc (.cells #[.int .u8 (ch t i), .string (t.extract (i + 2) (runEnd t 4 (i + 2))), .int .i64 i] 166))) ) | (go_at_call 109; refine (p_addRule b N F w _ v acc ⟨ch t i, t.extract (i + 2) (runEnd t 4 (i + 2)), i⟩ (unhide H0).2 (by exact unhide HS1) (by have := unhide HL; omega)).mono ?_; rintro e w2 ⟨rfl, v', hs2⟩; have HS2 := hide hs2; clear hs2) | (go_at_call 55; refine (p_refuse b _ _ _ _ (by exact (unhide HS2).2.1)).mono ?_; rintro e w3 ⟨rfl, hf2⟩))
            exact bodyPost_ret (v := .tuple #[]) (results_none Tryz.results56 _ _ _) rfl ⟨rfl, (unhide HS2).refused hf2.1 hf2.2.2 rfl (unhide HP)⟩
          · have hk8 : ((k : Int) + 1 == 8) = false := by simp; omega
            by_cases h4 : ch t (runEnd t 4 (i + 2)) = 59
            · have HP := hide (hf.out.trans (parse_more t _ i acc h0 h1 h2 (by omega)))
              have hc : (((t[runEnd t 4 (i + 2)].toNat : Nat) : Int) != 59) = false := by
                rw [ch_eq t _ h2] at h4; simp; omega
              have H0 := hide h0
              have H1 := hide h1
              clear h0 h1 hf h4
              go_wp2_with (first | (go_at_call 108; refine (p_readRule_ok t i _ ht hi0 (unhide H0).2 hi1 (unhide H1).2).mono ?_; rintro e w1 ⟨hf1, rfl⟩; have HS1 := hide ((unhide hs).fr (hf1.alloc (.cells #[.int .u8 (ch t i), .string (t.extract (i + 2) (runEnd t 4 (i + 2))), .int .i64 i] 166))) ) | (go_at_call 109; refine (p_addRule b N F w _ v acc ⟨ch t i, t.extract (i + 2) (runEnd t 4 (i + 2)), i⟩ (unhide H0).2 (by exact unhide HS1) (by have := unhide HL; omega)).mono ?_; rintro e w2 ⟨rfl, v', hs2⟩; have HS2 := hide hs2; clear hs2) | (go_at_call 55; refine (p_refuse b _ _ _ _ (by exact (unhide HS2).2.1)).mono ?_; rintro e w3 ⟨rfl, hf2⟩))
              go_roundw
              case rel => exact ⟨k + 1, runEnd t 4 (i + 2) + 1, _, v', by omega, by omega, by have := unhide HL; simp; omega, by go_num, by go_num, hide (by rw [unhide HP, show 8 - (k + 1) = 7 - k from by omega]), HS2⟩
              case measure => simp [intOf]; omega
            · have HP := hide (hf.out.trans (parse_bad2 t _ i acc h0 h1 h2 (Or.inr h4)))
              have hc : (((t[runEnd t 4 (i + 2)].toNat : Nat) : Int) != 59) = true := by
                rw [ch_eq t _ h2] at h4; rw [bne_iff_ne]; omega
              have H0 := hide h0
              have H1 := hide h1
              clear h0 h1 hf h4
              go_wp2_with (first | (go_at_call 108; refine (p_readRule_ok t i _ ht hi0 (unhide H0).2 hi1 (unhide H1).2).mono ?_; rintro e w1 ⟨hf1, rfl⟩; have HS1 := hide ((unhide hs).fr (hf1.alloc (.cells #[.int .u8 (ch t i), .string (t.extract (i + 2) (runEnd t 4 (i + 2))), .int .i64 i] 166))) ) | (go_at_call 109; refine (p_addRule b N F w _ v acc ⟨ch t i, t.extract (i + 2) (runEnd t 4 (i + 2)), i⟩ (unhide H0).2 (by exact unhide HS1) (by have := unhide HL; omega)).mono ?_; rintro e w2 ⟨rfl, v', hs2⟩; have HS2 := hide hs2; clear hs2) | (go_at_call 55; refine (p_refuse b _ _ _ _ (by exact (unhide HS2).2.1)).mono ?_; rintro e w3 ⟨rfl, hf2⟩))
              exact bodyPost_ret (v := .tuple #[]) (results_none Tryz.results56 _ _ _) rfl ⟨rfl, (unhide HS2).refused hf2.1 hf2.2.2 rfl (unhide HP)⟩
        · have HP := hide (hf.out.trans (parse_end t _ i acc h0 h1 h2))
          have H0 := hide h0
          have H1 := hide h1
          clear h0 h1 hf
          go_wp2_with (first | (go_at_call 108; refine (p_readRule_ok t i _ ht hi0 (unhide H0).2 hi1 (unhide H1).2).mono ?_; rintro e w1 ⟨hf1, rfl⟩; have HS1 := hide ((unhide hs).fr (hf1.alloc (.cells #[.int .u8 (ch t i), .string (t.extract (i + 2) (runEnd t 4 (i + 2))), .int .i64 i] 166))) ) | (go_at_call 109; refine (p_addRule b N F w _ v acc ⟨ch t i, t.extract (i + 2) (runEnd t 4 (i + 2)), i⟩ (unhide H0).2 (by exact unhide HS1) (by have := unhide HL; omega)).mono ?_; rintro e w2 ⟨rfl, v', hs2⟩; have HS2 := hide hs2; clear hs2) | (go_at_call 55; refine (p_refuse b _ _ _ _ (by exact (unhide HS2).2.1)).mono ?_; rintro e w3 ⟨rfl, hf2⟩))
          exact bodyPost_ret (v := .tuple #[]) (results_none Tryz.results56 _ _ _) rfl ⟨rfl, (unhide HS2).ended (unhide HP)⟩
      · have HP := hide (hf.out.trans (parse_bad1 t _ i acc h0 h1))
        have H0 := hide h0
        have H1 := hide h1
        clear h0 h1 hf
        go_wp2_with (first | (go_at_call 108; refine (p_readRule_bad1 t i _ ht (unhide H0).1 (unhide H0).2 (unhide H1)).mono ?_; rintro e w1 ⟨hf1, rfl⟩; have HS1 := hide ((unhide hs).fr (hf1.alloc (.cells #[.int .u8 0, .string ⟨#[]⟩, .int .i64 0] 166))) ) | (go_at_call 55; refine (p_refuse b _ _ _ _ (by exact (unhide HS1).2.1)).mono ?_; rintro e w2 ⟨rfl, hf2⟩))
        exact bodyPost_ret (v := .tuple #[]) (results_none Tryz.results56 _ _ _) rfl ⟨rfl, (unhide HS1).refused hf2.1 hf2.2.2 (by omega) (unhide HP)⟩
    · have HP := hide (hf.out.trans (parse_bad0 t _ i acc h0))
      have H0 := hide h0
      clear h0 hf
      go_wp2_with (first | (go_at_call 108; refine (p_readRule_bad0 t i _ ht (by omega) (unhide H0)).mono ?_; rintro e w1 ⟨hf1, rfl⟩; have HS1 := hide ((unhide hs).fr (hf1.alloc (.cells #[.int .u8 0, .string ⟨#[]⟩, .int .i64 0] 166))) ) | (go_at_call 55; refine (p_refuse b _ _ _ _ (by exact (unhide HS1).2.1)).mono ?_; rintro e w2 ⟨rfl, hf2⟩))
      exact bodyPost_ret (v := .tuple #[]) (results_none Tryz.results56 _ _ _) rfl ⟨rfl, (unhide HS1).refused hf2.1 hf2.2.2 rfl (unhide HP)⟩

end Go.Proofs.YtkglggkkbmmjkaaGreatDoor
