import Derived.Test.YtkglggkkbmmjkabGreatDoorG1AddRule
namespace Go.Proofs.YtkglggkkbmmjkabGreatDoor
open Go.RowKit
def sgn (k : Nat) : Nat := if k = 0 then 36 else 96 + k
def gF (v : Value) (st : Nat) (R N : Nat → Bool) (F : Nat → Nat → Bool) (e p : Int) : Nat → Value := fun i =>
 if i = 0 then v else if i = 1 then .int .u8 st else if i < 28 then .bool (R (65 + (i - 2))) else if i < 54 then .bool (N (65 + (i - 28)))
 else if i < 756 then .bool (F (65 + (i - 54) / 27) (sgn ((i - 54) % 27))) else if i = 756 then .int .i64 e else .int .i64 p
theorem gF_upd0 (v v' : Value) (st : Nat) (R N : Nat → Bool) (F : Nat → Nat → Bool) (e p : Int) (i : Nat) : upd (gF v st R N F e p) 0 v' i = gF v' st R N F e p i := by
 unfold upd gF
 by_cases h : i = 0
 ·simp [h]
 ·simp only [if_neg h]
theorem gF_upd1 (v : Value) (st L : Nat) (R N : Nat → Bool) (F : Nat → Nat → Bool) (e p : Int) (i : Nat) : upd (gF v st R N F e p) 1 (.int .u8 L) i = gF v L R N F e p i := by
 unfold upd gF
 by_cases h : i = 1
 ·simp [h]
 ·simp only [if_neg h]
theorem gF_add (v : Value) (st c : Nat) (R N : Nat → Bool) (F : Nat → Nat → Bool) (e p : Int) (i : Nat) : addF (gF v st R N F e p) 2 c i = gF v st (insB R c) N F e p i := by
 unfold addF
 by_cases hb : bigB c = true
 ·have h := zao.1 hb
  rw [if_pos hb]
  unfold upd
  by_cases hi : i = 2 + (c - 65)
  ·rw [if_pos hi]; subst hi
   unfold gF
   rw [if_neg (by omega), if_neg (by omega), if_pos (by omega)]
   simp [insB, hb]; right; omega
  ·rw [if_neg hi]
   unfold gF
   by_cases h2 : i < 28
   ·by_cases h0 : i = 0
    ·simp [h0]
    ·by_cases h1 : i = 1
     ·simp [h1]
     ·have hne : (65 + (i - 2) == c) = false := by simp; omega
      simp only [if_neg h0, if_neg h1, if_pos h2, insB, hne, Bool.and_false, Bool.or_false]
   ·simp only [if_neg h2]
 ·rw [if_neg hb]
  unfold gF insB
  simp [hb]
theorem gF_ref (v : Value) (st : Nat) (R N : Nat → Bool) (F : Nat → Nat → Bool) (e p e' p' : Int) (i : Nat) (hi : i < 758) : refF (gF v st R N F e p) e' p' i = gF v st R N F e' p' i := by
 unfold refF upd gF
 by_cases h7 : i = 757
 ·subst h7; simp
 ·by_cases h6 : i = 756
  ·subst h6; simp
  ·have h5 : i < 756 := by omega
   simp only [if_neg h7, if_neg h6, if_pos h5]
theorem gF_congr {v : Value} {st : Nat} {R R' N N' : Nat → Bool} {F F' : Nat → Nat → Bool} {e p : Int} (hR : ∀ c, bigB c = true → R c = R' c) (hN : ∀ c, bigB c = true → N c = N' c)
 (hF : ∀ c k, bigB c = true → k < 27 → F c (sgn k) = F' c (sgn k)) (i : Nat) : gF v st R N F e p i = gF v st R' N' F' e p i := by
 unfold gF
 by_cases h0 : i = 0
 ·simp [h0]
 by_cases h1 : i = 1
 ·simp [h1]
 by_cases h2 : i < 28
 ·simp only [if_neg h0, if_neg h1, if_pos h2]; rw [hR _ (zao.2 (by omega))]
 by_cases h3 : i < 54
 ·simp only [if_neg h0, if_neg h1, if_neg h2, if_pos h3]; rw [hN _ (zao.2 (by omega))]
 by_cases h4 : i < 756
 ·simp only [if_neg h0, if_neg h1, if_neg h2, if_neg h3, if_pos h4]; rw [hF _ _ (zao.2 (by omega)) (by omega)]
 ·simp only [if_neg h0, if_neg h1, if_neg h2, if_neg h3, if_neg h4]
def zbf (rs : List Ru) : List Value := rs.flatMap fun r => [.int .u8 r.L, .string r.R, .int .i64 r.A]
def stOf (rs : List Ru) : Nat := (rs.head?.map Ru.L).getD 0
def rset (rs : List Ru) : Nat → Bool := fun c => rs.any fun r => r.L == c
theorem rset_snoc (rs : List Ru) (r : Ru) (c : Nat) (hL : bigB r.L = true) : insB (rset rs) r.L c = rset (rs ++ [r]) c := by
 simp only [insB, rset, List.any_append, List.any_cons, List.any_nil, Bool.or_false, hL, Bool.true_and]
 rw [show (c == r.L) = (r.L == c) from by rw [Bool.eq_iff_iff, beq_iff_eq, beq_iff_eq]; exact eq_comm]
theorem gF_upd0' (v v' : Value) (st : Nat) (R N : Nat → Bool) (F : Nat → Nat → Bool) (e p : Int) : upd (gF v st R N F e p) 0 v' = gF v' st R N F e p := funext fun i => gF_upd0 v v' st R N F e p i
theorem gF_upd1' (v : Value) (st L : Nat) (R N : Nat → Bool) (F : Nat → Nat → Bool) (e p : Int) : upd (gF v st R N F e p) 1 (.int .u8 L) = gF v L R N F e p := funext fun i => gF_upd1 v st L R N F e p i
theorem gF_add' (v : Value) (st c : Nat) (R N : Nat → Bool) (F : Nat → Nat → Bool) (e p : Int) : addF (gF v st R N F e p) 2 c = gF v st (insB R c) N F e p := funext fun i => gF_add v st c R N F e p i
theorem gF_zero (v : Value) (st : Nat) (R N : Nat → Bool) (F : Nat → Nat → Bool) (e p : Int) : gF v st R N F e p 0 = v := if_pos rfl
theorem stOf_snoc (acc : List Ru) (r : Ru) (h : acc.length ≠ 0) : stOf (acc ++ [r]) = stOf acc := by
 cases acc with
 | nil => simp at h
 | cons a l => rfl
theorem ruCells_snoc (acc : List Ru) (r : Ru) : zbf (acc ++ [r]) = zbf acc ++ [.int .u8 r.L, .string r.R, .int .i64 r.A] := by simp [zbf]
def RRPost (b : Nat) (t : ByteArray) (N : Nat → Bool) (F : Nat → Nat → Bool) (w w' : World) : Prop :=
 Below b w w' ∧ ∃ v, w'.ownsRow (b + 1) 166 3 v (zad t 8 0 []).1.length (zbf (zad t 8 0 []).1) ∧
  Blk w' b 758 (gF v (stOf (zad t 8 0 []).1) (rset (zad t 8 0 []).1) N F (if (zad t 8 0 []).2.2 then 0 else 2) (if (zad t 8 0 []).2.2 then 0 else (zad t 8 0 []).2.1))
def RS (b : Nat) (N : Nat → Bool) (F : Nat → Nat → Bool) (w wr : World) (v : Value) (acc : List Ru) (e p : Int) : Prop :=
 Below b w wr ∧ Blk wr b 758 (gF v (stOf acc) (rset acc) N F e p) ∧ wr.ownsRow (b + 1) 166 3 v acc.length (zbf acc) ∧ (acc.length = 0 → v = .slice none 0 0)
theorem RS.fr {b : Nat} {N : Nat → Bool} {F : Nat → Nat → Bool} {w w1 w2 : World} {v : Value} {acc : List Ru} {e p : Int} (h : RS b N F w w1 v acc e p) (k : Fr [] w1 w2) : RS b N F w w2 v acc e p :=
 ⟨h.1.trans (k.belowOf (by simp) (Nat.le_of_lt h.2.1.lt)), h.2.1.fr0 k, zbd h.2.2.1 k (by simp), h.2.2.2⟩
theorem RS.refused {b : Nat} {t : ByteArray} {N : Nat → Bool} {F : Nat → Nat → Bool} {w w1 w2 : World} {v : Value} {acc : List Ru} {k : Nat} {k' : Int} (h : RS b N F w w1 v acc 0 0)
 (hf : Fr [b] w1 w2) (hB : Blk w2 b 758 (refF (gF v (stOf acc) (rset acc) N F 0 0) 2 k')) (hk : k' = k) (hp : zad t 8 0 [] = (acc, k, false)) : RRPost b t N F w w2 := by
 subst hk
 refine ⟨h.1.trans (hf.belowOf (by simp) (Nat.le_of_lt h.2.1.lt)), v, ?_, ?_⟩
 ·rw [hp]; exact zbd h.2.2.1 hf (by simp)
 ·rw [hp]; exact hB.congr fun i hi => gF_ref _ _ _ _ _ _ _ _ _ i hi
theorem RS.ended {b : Nat} {t : ByteArray} {N : Nat → Bool} {F : Nat → Nat → Bool} {w w1 : World} {v : Value} {acc : List Ru} {k : Nat} (h : RS b N F w w1 v acc 0 0)
 (hp : zad t 8 0 [] = (acc, k, true)) : RRPost b t N F w w1 := by
 refine ⟨h.1, v, ?_, ?_⟩
 ·rw [hp]; exact h.2.2.1
 ·rw [hp]; exact h.2.1
set_option maxHeartbeats 400000 in
theorem p_addRule (b : Nat) (N : Nat → Bool) (F : Nat → Nat → Bool) (w0 w : World) (v : Value) (acc : List Ru) (r : Ru) (hL : bigB r.L = true) (h : RS b N F w0 w v acc 0 0) (hn : acc.length ≤ 7) :
 Calls Tryz.prog 102 #[.pointer (some ⟨b, 0, none⟩), .agg #[.int .u8 r.L, .string r.R, .int .i64 r.A]] w fun e w' => e = .returned (.tuple #[]) ∧ ∃ v', RS b N F w0 w' v' (acc ++ [r]) 0 0 := by
 obtain ⟨h1, h2, h3, h4⟩ := h
 by_cases h0 : acc.length = 0
 ·have hv := h4 h0
  have hacc : acc = [] := List.length_eq_zero_iff.1 h0
  subst hacc hv
  refine (p_addRule_first b r.L r.A r.R _ w h2 (gF_zero _ _ _ _ _ _ _)).mono ?_
  rintro e w' ⟨rfl, hb, g, c, ho, hB⟩
  rw [gF_upd1', gF_upd0', gF_add'] at hB
  refine ⟨rfl, .slice (some ⟨g, 0, none⟩) 1 c, h1.trans hb, hB.congr fun i _ => gF_congr (fun c _ => rset_snoc [] r c hL) (fun _ _ => rfl) (fun _ _ _ _ => rfl) i, ?_, fun h => by simp at h⟩
  rw [ruCells_snoc]; exact ho
 ·obtain ⟨q, cap, rfl⟩ : ∃ q cap, v = .slice (some ⟨q, 0, none⟩) acc.length cap := by
   rcases h3.2 with ⟨_, hl⟩ | ⟨q, cap, _, hv, _⟩
   ·exact absurd hl h0
   ·exact ⟨q, cap, hv⟩
  refine (p_addRule_more b acc.length r.L r.A q cap r.R _ (zbf acc) w h2 (gF_zero _ _ _ _ _ _ _) h3 (by omega) (by omega)).mono ?_
  rintro e w' ⟨rfl, hb, g, c, ho, hB⟩
  rw [gF_upd0', gF_add', ← stOf_snoc acc r h0] at hB
  refine ⟨rfl, .slice (some ⟨g, 0, none⟩) (acc.length + 1) c, h1.trans hb, hB.congr fun i _ => gF_congr (fun c _ => rset_snoc acc r c hL) (fun _ _ => rfl) (fun _ _ _ _ => rfl) i, ?_, fun h => by simp at h⟩
  rw [ruCells_snoc, List.length_append]; exact ho
end Go.Proofs.YtkglggkkbmmjkabGreatDoor
namespace Go.Proofs.YtkglggkkbmmjkabGreatDoor
open Go.RowKit
theorem parse_bad0 (t : ByteArray) (f i : Nat) (acc : List Ru) (h : ¬ (i < t.size ∧ bigB (ch t i) = true)) : zad t (f + 1) i acc = (acc, i, false) := by
 rw [zad, if_neg h]
theorem parse_bad1 (t : ByteArray) (f i : Nat) (acc : List Ru) (h : i < t.size ∧ bigB (ch t i) = true) (h1 : ¬ (i + 1 < t.size ∧ ch t (i + 1) = 61)) : zad t (f + 1) i acc = (acc, i + 1, false) := by
 rw [zad, if_pos h, if_neg h1]
theorem parse_end (t : ByteArray) (f i : Nat) (acc : List Ru) (h : i < t.size ∧ bigB (ch t i) = true) (h1 : i + 1 < t.size ∧ ch t (i + 1) = 61) (h2 : ¬ zam t 4 (i + 2) < t.size) :
 zad t (f + 1) i acc = (acc ++ [⟨ch t i, t.extract (i + 2) (zam t 4 (i + 2)), i⟩], zam t 4 (i + 2), true) := by
 rw [zad, if_pos h, if_pos h1, if_neg h2]
theorem zcc (t : ByteArray) (f i : Nat) (acc : List Ru) (h : i < t.size ∧ bigB (ch t i) = true) (h1 : i + 1 < t.size ∧ ch t (i + 1) = 61) (h2 : zam t 4 (i + 2) < t.size)
 (h3 : f = 0 ∨ ch t (zam t 4 (i + 2)) ≠ 59) : zad t (f + 1) i acc = (acc ++ [⟨ch t i, t.extract (i + 2) (zam t 4 (i + 2)), i⟩], zam t 4 (i + 2), false) := by
 rw [zad, if_pos h, if_pos h1, if_pos h2, if_pos h3]
theorem parse_more (t : ByteArray) (f i : Nat) (acc : List Ru) (h : i < t.size ∧ bigB (ch t i) = true) (h1 : i + 1 < t.size ∧ ch t (i + 1) = 61) (h2 : zam t 4 (i + 2) < t.size)
 (h3 : ¬ (f = 0 ∨ ch t (zam t 4 (i + 2)) ≠ 59)) : zad t (f + 1) i acc = zad t f (zam t 4 (i + 2) + 1) (acc ++ [⟨ch t i, t.extract (i + 2) (zam t 4 (i + 2)), i⟩]) := by
 rw [zad, if_pos h, if_pos h1, if_pos h2, if_neg h3]
set_option maxHeartbeats 1600000 in
theorem p_readRules (b : Nat) (t : ByteArray) (N : Nat → Bool) (F : Nat → Nat → Bool) (w : World) (ht : t.size ≤ 32) (h : RS b N F w w (.slice none 0 0) [] 0 0) :
 Calls Tryz.prog 49 #[.pointer (some ⟨b, 0, none⟩), .string t] w fun e w' => e = .returned (.tuple #[]) ∧ RRPost b t N F w w' := by
 have H : Hid (RS b N F w w (.slice none 0 0) [] 0 0) := h
 clear h
 go_enter Tryz.func49, Tryz.ntmps49
 go_wp2
 go_loopw [4, 5] (fun a n wr => ∃ (k i : Nat) (acc : List Ru) (v : Value), k ≤ 7 ∧ i ≤ 33 ∧ acc.length = k ∧ n = .int .i64 (k + 1 : Nat) ∧ a = .int .i64 i ∧ Hid (zad t 8 0 [] = zad t (8 - k) i acc) ∧ Hid (RS b N F w wr v acc 0 0))
  (fun _ n _ => 9 - (intOf n).toNat)
 case atStart => exact ⟨0, 0, [], _, by omega, by omega, rfl, rfl, rfl, rfl, H⟩
 case round =>
  obtain ⟨k, i, acc, v, hk, hi, hl, rfl, rfl, hp, hs⟩ := hrel
  have HL : Hid (acc.length = k) := hl
  clear hl
  have hf : Hid (zad t 8 0 [] = zad t ((7 - k) + 1) i acc) := by
   show _ = _
   rw [hp.out, show 8 - k = (7 - k) + 1 from by omega]
  clear hp
  by_cases h0 : i < t.size ∧ bigB (ch t i) = true
  ·by_cases h1 : i + 1 < t.size ∧ ch t (i + 1) = 61
   ·have hbd := zcj t 4 (i + 2)
    have hi0 : i < t.size := h0.1
    have hi1 : i + 1 < t.size := h1.1
    by_cases h2 : zam t 4 (i + 2) < t.size
    ·by_cases h3 : k = 7
     ·have HP := hide (hf.out.trans (zcc t _ i acc h0 h1 h2 (by omega)))
      have hk8 : ((k : Int) + 1 == 8) = true := by simp; omega
      have H0 := hide h0
      have H1 := hide h1
      clear h0 h1 hf h3
      go_wp2_with (first | (go_at_call 101; refine (p_readRule_ok t i _ ht hi0 (zaa H0).2 hi1 (zaa H1).2).mono ?_; rintro e w1 ⟨hf1, rfl⟩; have HS1 := hide ((zaa hs).fr (hf1.alloc (.cells #[.int .u8 (ch t i), .string (t.extract (i + 2) (zam t 4 (i + 2))), .int .i64 i] 166))) ) | (go_at_call 102; refine (p_addRule b N F w _ v acc ⟨ch t i, t.extract (i + 2) (zam t 4 (i + 2)), i⟩ (zaa H0).2 (by exact zaa HS1) (by have := zaa HL; omega)).mono ?_; rintro e w2 ⟨rfl, v', hs2⟩; have HS2 := hide hs2; clear hs2) | (go_at_call 48; refine (zcn b _ _ _ _ (by exact (zaa HS2).2.1)).mono ?_; rintro e w3 ⟨rfl, hf2⟩))
      exact bodyPost_ret (v := .tuple #[]) (results_none Tryz.results49 _ _ _) rfl ⟨rfl, (zaa HS2).refused hf2.1 hf2.2.2 rfl (zaa HP)⟩
     ·have hk8 : ((k : Int) + 1 == 8) = false := by simp; omega
      by_cases h4 : ch t (zam t 4 (i + 2)) = 59
      ·have HP := hide (hf.out.trans (parse_more t _ i acc h0 h1 h2 (by omega)))
       have hc : (((t[zam t 4 (i + 2)].toNat : Nat) : Int) != 59) = false := by
        rw [za8 t _ h2] at h4; simp; omega
       have H0 := hide h0
       have H1 := hide h1
       clear h0 h1 hf h4
       go_wp2_with (first | (go_at_call 101; refine (p_readRule_ok t i _ ht hi0 (zaa H0).2 hi1 (zaa H1).2).mono ?_; rintro e w1 ⟨hf1, rfl⟩; have HS1 := hide ((zaa hs).fr (hf1.alloc (.cells #[.int .u8 (ch t i), .string (t.extract (i + 2) (zam t 4 (i + 2))), .int .i64 i] 166))) ) | (go_at_call 102; refine (p_addRule b N F w _ v acc ⟨ch t i, t.extract (i + 2) (zam t 4 (i + 2)), i⟩ (zaa H0).2 (by exact zaa HS1) (by have := zaa HL; omega)).mono ?_; rintro e w2 ⟨rfl, v', hs2⟩; have HS2 := hide hs2; clear hs2) | (go_at_call 48; refine (zcn b _ _ _ _ (by exact (zaa HS2).2.1)).mono ?_; rintro e w3 ⟨rfl, hf2⟩))
       go_roundw
       case rel => exact ⟨k + 1, zam t 4 (i + 2) + 1, _, v', by omega, by omega, by have := zaa HL; simp; omega, by go_num, by go_num, hide (by rw [zaa HP, show 8 - (k + 1) = 7 - k from by omega]), HS2⟩
       case measure => simp [intOf]; omega
      ·have HP := hide (hf.out.trans (zcc t _ i acc h0 h1 h2 (Or.inr h4)))
       have hc : (((t[zam t 4 (i + 2)].toNat : Nat) : Int) != 59) = true := by
        rw [za8 t _ h2] at h4; rw [bne_iff_ne]; omega
       have H0 := hide h0
       have H1 := hide h1
       clear h0 h1 hf h4
       go_wp2_with (first | (go_at_call 101; refine (p_readRule_ok t i _ ht hi0 (zaa H0).2 hi1 (zaa H1).2).mono ?_; rintro e w1 ⟨hf1, rfl⟩; have HS1 := hide ((zaa hs).fr (hf1.alloc (.cells #[.int .u8 (ch t i), .string (t.extract (i + 2) (zam t 4 (i + 2))), .int .i64 i] 166))) ) | (go_at_call 102; refine (p_addRule b N F w _ v acc ⟨ch t i, t.extract (i + 2) (zam t 4 (i + 2)), i⟩ (zaa H0).2 (by exact zaa HS1) (by have := zaa HL; omega)).mono ?_; rintro e w2 ⟨rfl, v', hs2⟩; have HS2 := hide hs2; clear hs2) | (go_at_call 48; refine (zcn b _ _ _ _ (by exact (zaa HS2).2.1)).mono ?_; rintro e w3 ⟨rfl, hf2⟩))
       exact bodyPost_ret (v := .tuple #[]) (results_none Tryz.results49 _ _ _) rfl ⟨rfl, (zaa HS2).refused hf2.1 hf2.2.2 rfl (zaa HP)⟩
    ·have HP := hide (hf.out.trans (parse_end t _ i acc h0 h1 h2))
     have H0 := hide h0
     have H1 := hide h1
     clear h0 h1 hf
     go_wp2_with (first | (go_at_call 101; refine (p_readRule_ok t i _ ht hi0 (zaa H0).2 hi1 (zaa H1).2).mono ?_; rintro e w1 ⟨hf1, rfl⟩; have HS1 := hide ((zaa hs).fr (hf1.alloc (.cells #[.int .u8 (ch t i), .string (t.extract (i + 2) (zam t 4 (i + 2))), .int .i64 i] 166))) ) | (go_at_call 102; refine (p_addRule b N F w _ v acc ⟨ch t i, t.extract (i + 2) (zam t 4 (i + 2)), i⟩ (zaa H0).2 (by exact zaa HS1) (by have := zaa HL; omega)).mono ?_; rintro e w2 ⟨rfl, v', hs2⟩; have HS2 := hide hs2; clear hs2) | (go_at_call 48; refine (zcn b _ _ _ _ (by exact (zaa HS2).2.1)).mono ?_; rintro e w3 ⟨rfl, hf2⟩))
     exact bodyPost_ret (v := .tuple #[]) (results_none Tryz.results49 _ _ _) rfl ⟨rfl, (zaa HS2).ended (zaa HP)⟩
   ·have HP := hide (hf.out.trans (parse_bad1 t _ i acc h0 h1))
    have H0 := hide h0
    have H1 := hide h1
    clear h0 h1 hf
    go_wp2_with (first | (go_at_call 101; refine (p_readRule_bad1 t i _ ht (zaa H0).1 (zaa H0).2 (zaa H1)).mono ?_; rintro e w1 ⟨hf1, rfl⟩; have HS1 := hide ((zaa hs).fr (hf1.alloc (.cells #[.int .u8 0, .string ⟨#[]⟩, .int .i64 0] 166))) ) | (go_at_call 48; refine (zcn b _ _ _ _ (by exact (zaa HS1).2.1)).mono ?_; rintro e w2 ⟨rfl, hf2⟩))
    exact bodyPost_ret (v := .tuple #[]) (results_none Tryz.results49 _ _ _) rfl ⟨rfl, (zaa HS1).refused hf2.1 hf2.2.2 (by omega) (zaa HP)⟩
  ·have HP := hide (hf.out.trans (parse_bad0 t _ i acc h0))
   have H0 := hide h0
   clear h0 hf
   go_wp2_with (first | (go_at_call 101; refine (p_readRule_bad0 t i _ ht (by omega) (zaa H0)).mono ?_; rintro e w1 ⟨hf1, rfl⟩; have HS1 := hide ((zaa hs).fr (hf1.alloc (.cells #[.int .u8 0, .string ⟨#[]⟩, .int .i64 0] 166))) ) | (go_at_call 48; refine (zcn b _ _ _ _ (by exact (zaa HS1).2.1)).mono ?_; rintro e w2 ⟨rfl, hf2⟩))
   exact bodyPost_ret (v := .tuple #[]) (results_none Tryz.results49 _ _ _) rfl ⟨rfl, (zaa HS1).refused hf2.1 hf2.2.2 rfl (zaa HP)⟩
end Go.Proofs.YtkglggkkbmmjkabGreatDoor
namespace Go.Proofs.YtkglggkkbmmjkabGreatDoor
open Go.RowKit
def setF (S : Nat → Bool) : Nat → Value := fun k => .bool (S (65 + k))
theorem Blk.setAt0 {w : World} {b : Nat} {S : Nat → Bool} (h : Blk w b 26 (setF S)) : SetAt w b 0 S := fun k hk => by
 rw [Nat.zero_add]; exact h.cell k hk
theorem setF_add (S : Nat → Bool) (c i : Nat) (hi : i < 26) : addF (setF S) 0 c i = setF (insB S c) i := by
 unfold addF
 by_cases hb : bigB c = true
 ·have h := zao.1 hb
  rw [if_pos hb]
  unfold upd setF
  by_cases e : i = 0 + (c - 65)
  ·rw [if_pos e]
   simp [insB, hb]; right; omega
  ·rw [if_neg e]
   have hne : (65 + i == c) = false := by simp; omega
   simp [insB, hne]
 ·rw [if_neg hb]; simp [setF, insB, hb]
def RuAt (w : World) (q : Nat) (rs : List Ru) : Prop := ∀ i (h : i < rs.length), w.cell? ⟨q, i * 3, none⟩ = some (.int .u8 rs[i].L) ∧ w.cell? ⟨q, i * 3 + 1, none⟩ = some (.string rs[i].R) ∧ w.cell? ⟨q, i * 3 + 2, none⟩ = some (.int .i64 rs[i].A)
theorem ruCells_get : ∀ (rs : List Ru) (i : Nat) (h : i < rs.length), (zbf rs)[i * 3]? = some (.int .u8 rs[i].L) ∧ (zbf rs)[i * 3 + 1]? = some (.string rs[i].R) ∧ (zbf rs)[i * 3 + 2]? = some (.int .i64 rs[i].A)
 | r :: l, 0, _ => by simp [zbf]
 | r :: l, i + 1, h => by
  have := ruCells_get l i (by simpa using h)
  simp only [zbf, List.flatMap_cons] at this ⊢
  rw [show (i + 1) * 3 = i * 3 + 3 from by omega]
  simpa using this
theorem RuAt.of_owns {w : World} {base q n cap : Nat} {e : TypeId} {rs : List Ru} (h : w.ownsRow base e 3 (.slice (some ⟨q, 0, none⟩) n cap) n (zbf rs)) : RuAt w q rs := by
 intro i hi
 have hg := h.cells (g := q) rfl
 have hr := ruCells_get rs i hi
 have a0 := hg _ _ hr.1
 have a1 := hg _ _ hr.2.1
 have a2 := hg _ _ hr.2.2
 simp only [Addr.add_mid, Nat.zero_add] at a0 a1 a2
 exact ⟨a0, a1, a2⟩
theorem RuAt.fr {S : List Nat} {w w' : World} {q : Nat} {rs : List Ru} (h : RuAt w q rs) (k : Fr S w w') (hq : q ∉ S) (hl : q < w.heap.size) : RuAt w' q rs := by
 intro i hi
 have e : w'.heap[q]? = w.heap[q]? := k.block q hl hq
 obtain ⟨h1, h2, h3⟩ := h i hi
 refine ⟨?_, ?_, ?_⟩
 ·rw [World.cell?_of_block (w := w) (a := ⟨q, _, none⟩) e]; exact h1
 ·rw [World.cell?_of_block (w := w) (a := ⟨q, _, none⟩) e]; exact h2
 ·rw [World.cell?_of_block (w := w) (a := ⟨q, _, none⟩) e]; exact h3
structure GAt (w : World) (b q cap : Nat) (rs : List Ru) (N : Nat → Bool) (F : Nat → Nat → Bool) (e p : Int) : Prop where
 blk : Blk w b 758 (gF (.slice (some ⟨q, 0, none⟩) rs.length cap) (stOf rs) (rset rs) N F e p)
 ru : RuAt w q rs
 ne : b ≠ q
 lt : q < w.heap.size
 small : ∀ i (h : i < rs.length), rs[i].R.size ≤ 1000 ∧ rs[i].A ≤ 1000
 len : rs.length ≤ 8
theorem GAt.fr {S : List Nat} {w w' : World} {b q cap : Nat} {rs : List Ru} {N : Nat → Bool} {F : Nat → Nat → Bool} {e p : Int} (h : GAt w b q cap rs N F e p) (k : Fr S w w') (hb : b ∉ S) (hq : q ∉ S) : GAt w' b q cap rs N F e p :=
 ⟨h.blk.fr k hb, h.ru.fr k hq h.lt, h.ne, Nat.lt_of_lt_of_le h.lt k.size, h.small, h.len⟩
theorem GAt.fr0 {w w' : World} {b q cap : Nat} {rs : List Ru} {N : Nat → Bool} {F : Nat → Nat → Bool} {e p : Int} (h : GAt w b q cap rs N F e p) (k : Fr [] w w') : GAt w' b q cap rs N F e p := h.fr k (by simp) (by simp)
theorem GAt.c0 {w : World} {b q cap : Nat} {rs : List Ru} {N : Nat → Bool} {F : Nat → Nat → Bool} {e p : Int} (h : GAt w b q cap rs N F e p) : w.cell? ⟨b, 0, none⟩ = some (.slice (some ⟨q, 0, none⟩) rs.length cap) := h.blk.cell 0 (by omega)
def zbe (sm : Bool) (rs : List Ru) (S : Nat → Bool) : Nat → Bool := rs.foldl (fun S r => if (bytes r.R).all (vanB S sm) then insB S r.L else S) S
def iter (f : (Nat → Bool) → (Nat → Bool)) : Nat → (Nat → Bool) → (Nat → Bool)
 | 0, S => S
 | n + 1, S => f (iter f n S)
def LS (w wr : World) (b q cap : Nat) (rs : List Ru) (N : Nat → Bool) (F : Nat → Nat → Bool) (e p : Int) (r0 r1 : Nat) (S : Nat → Bool) : Prop :=
 Fr [] w wr ∧ GAt wr b q cap rs N F e p ∧ Blk wr r0 26 (setF fun _ => false) ∧ Blk wr r1 26 (setF S) ∧ w.heap.size ≤ r0 ∧ r0 < r1 ∧ q < w.heap.size ∧ b < w.heap.size
theorem LS.fr {w wr wr' : World} {b q cap : Nat} {rs : List Ru} {N : Nat → Bool} {F : Nat → Nat → Bool} {e p : Int} {r0 r1 : Nat} {S : Nat → Bool} (h : LS w wr b q cap rs N F e p r0 r1 S) (k : Fr [] wr wr') : LS w wr' b q cap rs N F e p r0 r1 S := by
 obtain ⟨h1, h2, h3, h4, h5⟩ := h
 exact ⟨h1.trans0 k, h2.fr0 k, h3.fr0 k, h4.fr0 k, h5⟩
theorem LS.put {w wr wr' : World} {b q cap : Nat} {rs : List Ru} {N : Nat → Bool} {F : Nat → Nat → Bool} {e p : Int} {r0 r1 : Nat} {S S' : Nat → Bool} (h : LS w wr b q cap rs N F e p r0 r1 S) (k : Fr [r1] wr wr') (hB : Blk wr' r1 26 (setF S')) : LS w wr' b q cap rs N F e p r0 r1 S' := by
 obtain ⟨h1, h2, h3, h4, h5, h6, h7, h8⟩ := h
 exact ⟨h1.trans1 k (Or.inr (by omega)), h2.fr k (by simp; omega) (by simp; omega), h3.fr1 k (by omega), hB, h5, h6, h7, h8⟩
theorem LS.add {w wr wr' : World} {b q cap : Nat} {rs : List Ru} {N : Nat → Bool} {F : Nat → Nat → Bool} {e p : Int} {r0 r1 c : Nat} {S : Nat → Bool} (h : LS w wr b q cap rs N F e p r0 r1 S) (k : Fr [r1] wr wr') (hB : Blk wr' r1 26 (addF (setF S) 0 c)) : LS w wr' b q cap rs N F e p r0 r1 (insB S c) :=
 h.put k (hB.congr fun i hi => setF_add S c i hi)
theorem Tryz.zeroBig : (Tryz.prog.info? 45).bind (·.zero) = some (Agg 26 (setF fun _ => false)) := by kernel_rfl
theorem Tryz.sizeBig : (Tryz.prog.info? 45).map (·.size) = some 26 := by kernel_rfl
theorem zag (f g : Nat → Value) (n i : Nat) (hi : i < n) : lay f 0 n g i = g i := by
 unfold lay; rw [if_pos (by omega)]; rfl
def mkUpTo (sm : Bool) (rs : List Ru) (j : Nat) (S : Nat → Bool) : Nat → Bool := zbe sm (rs.take j) S
theorem mkUpTo_succ (sm : Bool) (rs : List Ru) (j : Nat) (S : Nat → Bool) (h : j < rs.length) :
 mkUpTo sm rs (j + 1) S = if (bytes rs[j].R).all (vanB (mkUpTo sm rs j S) sm) then insB (mkUpTo sm rs j S) rs[j].L else mkUpTo sm rs j S := by
 unfold mkUpTo zbe
 rw [List.take_succ_eq_append_getElem h, List.foldl_append]; rfl
theorem mkUpTo_all (sm : Bool) (rs : List Ru) (j : Nat) (S : Nat → Bool) (h : rs.length ≤ j) : mkUpTo sm rs j S = zbe sm rs S := by
 unfold mkUpTo; rw [List.take_of_length_le h]
set_option maxHeartbeats 1600000 in
theorem p_makersOf (b q cap : Nat) (rs : List Ru) (N : Nat → Bool) (F : Nat → Nat → Bool) (e p : Int) (sm : Bool) (w : World) (h : GAt w b q cap rs N F e p) :
 Calls Tryz.prog 52 #[.pointer (some ⟨b, 0, none⟩), .bool sm] w fun e' w' => e' = .returned (Agg 26 (setF (iter (zbe sm rs) rs.length fun _ => false))) ∧ Fr [] w w' := by
 have H := hide h
 have hlen := h.len
 clear h
 go_enter Tryz.func52, Tryz.ntmps52
 go_wp2_with (first | (refine zab rfl 45 rfl (some 4) rfl 26 _ Tryz.zeroBig ?_; intro w1 hf1 hs1 hB1; have HA := hide (And.intro hf1 (And.intro hs1 hB1)); clear hf1 hs1 hB1) | (refine zab rfl 45 rfl (some 5) rfl 26 _ Tryz.zeroBig ?_; intro w2 hf2 hs2 hB2; have HB := hide (And.intro hf2 (And.intro hs2 hB2)); clear hf2 hs2 hB2))
 have HS := hide (show LS w w2 b q cap rs N F e p w.heap.size w1.heap.size (fun _ => false) from
  ⟨(zaa HA).1.trans0 (zaa HB).1, ((zaa H).fr0 (zaa HA).1).fr0 (zaa HB).1, (zaa HA).2.2.fr0 (zaa HB).1, (zaa HB).2.2, Nat.le_refl _, by have := (zaa HA).2.1; omega, (zaa H).lt, (zaa H).blk.lt⟩)
 clear HA HB H
 go_loopw [6] (fun r wr => ∃ k : Nat, k ≤ rs.length ∧ r = .int .i64 k ∧ Hid (LS w wr b q cap rs N F e p w.heap.size w1.heap.size (iter (zbe sm rs) k fun _ => false))) (fun r _ => rs.length - (intOf r).toNat)
 case atStart => exact ⟨0, by omega, rfl, HS⟩
 case round =>
  obtain ⟨k, hk, rfl, hs⟩ := hrel
  have c0 := (zaa hs).2.1.c0
  by_cases hlt : k < rs.length
  ·go_wp2
   clear c0
   go_loopw [7] (fun i wr2 => ∃ j : Nat, j ≤ rs.length ∧ i = .int .i64 j ∧ Hid (LS w wr2 b q cap rs N F e p w.heap.size w1.heap.size (mkUpTo sm rs j (iter (zbe sm rs) k fun _ => false)))) (fun i _ => rs.length - (intOf i).toNat)
   case atStart => exact ⟨0, by omega, rfl, hs⟩
   case round =>
    obtain ⟨j, hj, rfl, hs2⟩ := hrel
    have c0 := (zaa hs2).2.1.c0
    by_cases hjt : j < rs.length
    ·obtain ⟨a0, a1, a2⟩ := (zaa hs2).2.1.ru j hjt
     have hsm := ((zaa hs2).2.1.small j hjt).1
     have HX := hide ((zaa hs2).fr ((Fr.refl _ _).alloc (.cells #[.int .u8 rs[j].L, .string rs[j].R, .int .i64 rs[j].A] 166)))
     have HU := hide (mkUpTo_succ sm rs j (iter (zbe sm rs) k fun _ => false) hjt)
     cases hv : (bytes rs[j].R).all (vanB (mkUpTo sm rs j (iter (zbe sm rs) k fun _ => false)) sm)
     ·have HN := hide (show mkUpTo sm rs (j + 1) (iter (zbe sm rs) k fun _ => false) = mkUpTo sm rs j (iter (zbe sm rs) k fun _ => false) from by rw [zaa HU, hv]; rfl)
      clear HU
      go_wp2_with (go_at_call 106; refine (p_vanishes _ _ _ _ _ _ hsm (by exact (zaa HX).2.2.2.1.setAt0)).mono ?_; rintro e w' ⟨rfl, rfl⟩)
      go_roundw
      case rel => exact ⟨j + 1, by omega, by go_num, hide (by rw [zaa HN]; exact zaa HX)⟩
      case measure => simp [intOf]; omega
     ·have HN := hide (show mkUpTo sm rs (j + 1) (iter (zbe sm rs) k fun _ => false) = insB (mkUpTo sm rs j (iter (zbe sm rs) k fun _ => false)) rs[j].L from by rw [zaa HU, hv]; rfl)
      clear HU
      go_wp2_with (first | (go_at_call 106; refine (p_vanishes _ _ _ _ _ _ hsm (by exact (zaa HX).2.2.2.1.setAt0)).mono ?_; rintro e w' ⟨rfl, rfl⟩) | (go_at_call 107; refine (p_add _ _ _ 26 _ _ (by exact (zaa HX).2.2.2.1) (by omega)).mono ?_; rintro e w3 ⟨rfl, hf3⟩))
      have HY := hide ((zaa HX).add hf3.1 hf3.2.2)
      clear hf3
      go_roundw
      case rel => exact ⟨j + 1, by omega, by go_num, hide (by rw [zaa HN]; exact zaa HY)⟩
      case measure => simp [intOf]; omega
    ·have HY := hide (show LS w wr b q cap rs N F e p w.heap.size w1.heap.size (iter (zbe sm rs) (k + 1) fun _ => false) from by
      have := zaa hs2
      rw [mkUpTo_all _ _ _ _ (by omega)] at this; exact this)
     clear hs2
     go_wp2
     go_roundw
     case rel => exact ⟨k + 1, by omega, by go_num, HY⟩
     case measure => simp [intOf]; omega
  ·have HK : Hid (k = rs.length) := hide (by omega)
   go_wp2_with (first | (refine zaf rfl 45 _ rfl (some 41) rfl _ 0 26 26 _ _ rfl (by exact (zaa hs).2.2.2.1) Tryz.underlying45 rfl Tryz.sizeBig (by omega) ?_) | (refine zac rfl 45 _ _ rfl _ 0 26 26 _ _ rfl rfl (by exact (zaa hs).2.2.1) Tryz.sizeBig (by omega) (by intro i hi; rfl) ?_; intro w5 hf5 hs5 hB5))
   exact bodyPost_ret (zaj Tryz.results52 _ w.heap.size rfl 26 26 _ _ (hB5.congr fun i hi => zag _ _ _ i hi) Tryz.underlying45 rfl Tryz.sizeBig (by omega)) rfl ⟨by rw [← zaa HK], (zaa hs).1.trans1 hf5 (Or.inr (Nat.le_refl _))⟩
end Go.Proofs.YtkglggkkbmmjkabGreatDoor
