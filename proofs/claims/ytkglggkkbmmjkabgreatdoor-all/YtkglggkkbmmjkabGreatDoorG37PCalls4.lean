import Derived.Test.YtkglggkkbmmjkabGreatDoorG36PMix
namespace Go.Proofs.YtkglggkkbmmjkabGreatDoor
open Go.RowKit
def mxS (S : List Sd) (n : Int) (c k : Nat) : Bool := (List.range k).any fun j => (((sget S j).core : Nat) : Int) == n && (zbo S j c != -1)
def mxR (p : Pl) (S : List Sd) (n : Int) (c k : Nat) : Nat → Bool := fun i => (List.range k).any fun j => (((sget S j).core : Nat) : Int) == n && ruS p (sget S j).A c i
theorem mxS_succ (S : List Sd) (n : Int) (c k : Nat) : mxS S n c (k + 1) = (mxS S n c k || ((((sget S k).core : Nat) : Int) == n && (zbo S k c != -1))) := by
 unfold mxS; rw [List.range_succ, List.any_append]; simp
theorem mxR_succ (p : Pl) (S : List Sd) (n : Int) (c k i : Nat) : mxR p S n c (k + 1) i = (mxR p S n c k i || ((((sget S k).core : Nat) : Int) == n && ruS p (sget S k).A c i)) := by
 unfold mxR; rw [List.range_succ, List.any_append]; simp
theorem AcS.fr0 {w wr w' : World} {tb base : Nat} {p : Pl} {v : Value} {S : List Sd} {cores fault : Nat} {f : Nat → Value} (h : AcS w wr tb base p v S cores fault f) (k : Fr [] wr w') : AcS w w' tb base p v S cores fault f :=
 ⟨h.1.trans0 k, h.2.1.fr0 k, h.2.2.1.fr0 k, h.2.2.2.fr0 k⟩
theorem AcS.far {w wr w' : World} {tb base x : Nat} {p : Pl} {v : Value} {S : List Sd} {cores fault : Nat} {f : Nat → Value} (h : AcS w wr tb base p v S cores fault f) (k : Fr [x] wr w') (hx : w.heap.size + 1 < x) (hb : tb < w.heap.size) (hv : ∀ y, v.ownBlock = some y → y < w.heap.size) : AcS w w' tb base p v S cores fault f :=
 ⟨h.1.trans1 k (Or.inr (by omega)), h.2.1.far k (by omega) (fun e => by have := hv _ e; omega), h.2.2.1.fr1 k (by omega), h.2.2.2.fr1 k (by omega)⟩
theorem AcS.acc {w wr w' : World} {tb base : Nat} {p : Pl} {v : Value} {S : List Sd} {cores fault : Nat} {f g : Nat → Value} (h : AcS w wr tb base p v S cores fault f) (k : Fr [w.heap.size + 1] wr w') (hB : Blk w' (w.heap.size + 1) 10 g) (hb : tb < w.heap.size) (hv : ∀ y, v.ownBlock = some y → y < w.heap.size) : AcS w w' tb base p v S cores fault g :=
 ⟨h.1.trans1 k (Or.inr (by omega)), h.2.1.far k (by omega) (fun e => by have := hv _ e; omega), h.2.2.1.fr1 k (by omega), hB⟩
theorem mx_acc (p : Pl) (S : List Sd) (n : Int) (c k : Nat) (he : ((((sget S k).core : Nat) : Int) == n) = true) (i : Nat) (hi : i < 10) : acF (mxS S n c k || (zbo S k c != -1)) (orK (mxR p S n c k) (ruS p (sget S k).A c) 9) i = acF (mxS S n c (k + 1)) (mxR p S n c (k + 1)) i := by
 unfold acF
 rw [mxS_succ, mxR_succ, he, Bool.true_and, Bool.true_and]
 by_cases e : i = 0
 ·rw [if_pos e, if_pos e]
 ·rw [if_neg e, if_neg e]
  unfold orK
  rw [if_pos (by omega)]
set_option maxRecDepth 100000 in
set_option maxHeartbeats 2000000 in
theorem p_mix (tb base c : Nat) (n : Int) (p : Pl) (v : Value) (S : List Sd) (cores fault : Nat) (w : World) (h : TbR w tb base p v S cores fault) (hS : S.length ≤ 50) (hc : sigB c = true) :
 Calls Tryz.prog 85 #[.pointer (some ⟨tb, 0, none⟩), .int .i64 n, .int .u8 c] w fun e w' => e = .returned (Agg 10 (acF (mxS S n c S.length) (mxR p S n c S.length))) ∧ Fr [] w w' := by
 obtain ⟨ao, cap, hv, hao⟩ := h.form
 subst hv
 have lb := h.blk.lt
 have HV : ∀ x, (Value.slice ao S.length cap).ownBlock = some x → x < w.heap.size := fun x hx => (h.row.lt hx).2
 have H := hide h
 have HC := hide hc
 clear h hc
 go_enter Tryz.func85, Tryz.ntmps85
 go_wp2_with (first
  | (refine zab rfl 135 rfl (some 6) rfl 10 _ Tryz.zeroActs ?_; intro w1 hf1 hs1 hB1; have HF1 := hide hf1; have HA1 := hide hB1; clear hf1 hB1)
  | (refine zab rfl 135 rfl (some 7) rfl 10 _ Tryz.zeroActs ?_; intro w2 hf2 hs2 hB2; have H2 := hide (show AcS w w2 tb base p (.slice ao S.length cap) S cores fault (acF false fun _ => false) from ⟨(zaa HF1).trans0 hf2, ((zaa H).fr0 (zaa HF1)).fr0 hf2, (zaa HA1).fr0 hf2, hs1 ▸ hB2⟩); clear hf2 hB2 HF1 HA1))
 have hw2 : w.heap.size + 1 < w2.heap.size := by omega
 go_loopw [8] (fun i wr => ∃ k : Nat, k ≤ S.length ∧ i = .int .i64 k ∧ Hid (AcS w wr tb base p (.slice ao S.length cap) S cores fault (acF (mxS S n c k) (mxR p S n c k)))) (fun i _ => S.length - (intOf i).toNat)
 case atStart => exact ⟨0, by omega, rfl, H2⟩
 case round =>
  obtain ⟨k, hk, rfl, hs⟩ := hrel
  clear H2
  have q0 := (zaa hs).2.1.v
  by_cases hlt : k < S.length
  ·obtain ⟨g, rfl, _⟩ := hao (by omega)
   have q1 := (zaa hs).2.1.core k hlt
   have hki : (k : Int) < S.length := by omega
   have hwr : w.heap.size + 1 < wr.heap.size := (zaa hs).2.2.2.lt
   cases he : ((((sget S k).core : Nat) : Int) == n)
   ·have HN := hide (show AcS w wr tb base p (.slice (some ⟨g, 0, none⟩) S.length cap) S cores fault (acF (mxS S n c (k + 1)) (mxR p S n c (k + 1))) from ⟨(zaa hs).1, (zaa hs).2.1, (zaa hs).2.2.1, (zaa hs).2.2.2.congr fun i _ => by
     unfold acF; rw [mxS_succ, mxR_succ, he]; simp⟩)
    clear hs
    go_wp2
    go_roundw
    case rel => exact ⟨k + 1, by omega, by go_num, HN⟩
    case measure => simp [intOf]; omega
   ·have HE := hide he
    go_wp2_with (first
     | (go_at_call 78; refine (p_acts tb base k c p _ S cores fault wr (by exact (zaa hs).2.1) hlt (zaa HC)).mono ?_; rintro e w3 ⟨rfl, hf3⟩; have H3 := hide ((zaa hs).fr0 hf3); have l3 : w.heap.size + 1 < w3.heap.size := (Nat.lt_of_lt_of_le hwr hf3.size); clear hf3)
     | (refine zab rfl 135 rfl (some 9) rfl 10 _ Tryz.zeroActs ?_; intro w4 hf4 hs4 hB4; have H4 := hide ((zaa H3).fr0 hf4); have HB4 := hide hB4; clear hf4 hB4)
     | (refine zac rfl 135 (.tmp 9) (.tmp 32) rfl w3.heap.size 0 10 10 (acF false fun _ => false) (acF (zbo S k c != -1) (ruS p (sget S k).A c)) rfl rfl (by exact zaa HB4) Tryz.sizeActs (by omega) (zb7 _ _ 10) ?_; intro w5 hf5 hs5 hB5; have H5 := hide ((zaa H4).far hf5 l3 lb HV); have HB5 := hide (show Blk w5 w3.heap.size 10 (acF (zbo S k c != -1) (ruS p (sget S k).A c)) from hB5.congr fun i hi => zag _ _ _ i hi); clear hf5 hB5)
     | (refine zaf rfl 135 (.tmp 9) rfl (some 33) rfl w3.heap.size 0 10 10 (acF (zbo S k c != -1) (ruS p (sget S k).A c)) _ rfl (by exact zaa HB5) Tryz.underlying135 rfl Tryz.sizeActs (by omega) ?_; rw [show (Agg 10 fun i => acF (zbo S k c != -1) (ruS p (sget S k).A c) (0 + i)) = Agg 10 (acF (zbo S k c != -1) (ruS p (sget S k).A c)) from by (congr 1; funext i; rw [Nat.zero_add])])
     | (go_at_call 121; refine (p_aaddAll (w.heap.size + 1) (mxS S n c k) (zbo S k c != -1) (mxR p S n c k) (ruS p (sget S k).A c) w5 (by exact (zaa H5).2.2.2)).mono ?_; rintro e w6 ⟨rfl, hf6, hB6⟩; have H6 := hide (show AcS w w6 tb base p (.slice (some ⟨g, 0, none⟩) S.length cap) S cores fault (acF (mxS S n c (k + 1)) (mxR p S n c (k + 1))) from (zaa H5).acc hf6 (hB6.congr fun i hi => mx_acc p S n c k (zaa HE) i hi) lb HV); clear hf6 hB6))
    go_roundw
    case rel => exact ⟨k + 1, by omega, by go_num, H6⟩
    case measure => simp [intOf]; omega
  ·have HN := hide (show AcS w wr tb base p (.slice ao S.length cap) S cores fault (acF (mxS S n c S.length) (mxR p S n c S.length)) from by
    have e : k = S.length := by omega
    subst e; exact zaa hs)
   clear hs
   go_wp2_with (first
    | (refine zaf rfl 135 (.tmp 7) rfl (some 35) rfl (w.heap.size + 1) 0 10 10 (acF (mxS S n c S.length) (mxR p S n c S.length)) _ rfl (by exact (zaa HN).2.2.2) Tryz.underlying135 rfl Tryz.sizeActs (by omega) ?_)
    | (refine zac rfl 135 (.tmp 6) (.tmp 35) rfl w.heap.size 0 10 10 (acF false fun _ => false) (fun i => acF (mxS S n c S.length) (mxR p S n c S.length) (0 + i)) rfl rfl (by exact (zaa HN).2.2.1) Tryz.sizeActs (by omega) (fun i hi => zb7 _ _ (0 + i + 1) (0 + i) (Nat.lt_succ_self _)) ?_; intro w7 hf7 hs7 hB7))
   exact bodyPost_ret (zaj Tryz.results85 _ w.heap.size rfl 10 10 _ _ (hB7.congr fun i hi => zag _ _ _ i hi) Tryz.underlying135 rfl Tryz.sizeActs (by omega)) rfl ⟨by congr 2; funext i; rw [Nat.zero_add], (zaa HN).1.trans1 hf7 (Or.inr (Nat.le_refl _))⟩
set_option maxHeartbeats 400000 in
theorem p_hasCore (tb base : Nat) (p : Pl) (v : Value) (S : List Sd) (cores fault : Nat) (n : Int) (w : World) (h : TbR w tb base p v S cores fault) :
 Calls Tryz.prog 84 #[.pointer (some ⟨tb, 0, none⟩), .int .i64 n] w fun e w' => e = .returned (.bool (decide (0 ≤ n) && decide (n < cores))) ∧ w' = w := by
 have c0 := h.cores
 clear h
 by_cases h0 : 0 ≤ n
 ·by_cases h1 : n < cores
  ·go_enter Tryz.func84, Tryz.ntmps84
   go_wp2
   go_ret
   exact ⟨by simp [h0, h1], rfl⟩
  ·go_enter Tryz.func84, Tryz.ntmps84
   go_wp2
   go_ret
   exact ⟨by simp [h1], rfl⟩
 ·go_enter Tryz.func84, Tryz.ntmps84
  go_wp2
  go_ret
  exact ⟨by simp; omega, rfl⟩
end Go.Proofs.YtkglggkkbmmjkabGreatDoor
namespace Go.Proofs.YtkglggkkbmmjkabGreatDoor
open Go.RowKit
def clK (p : Pl) (S : List Sd) (k i : Nat) : Bool := decide (1 < (acL (zbo S k (sgn i) != -1) (ruS p (sget S k).A (sgn i)) 9).length)
def clC (p : Pl) (S : List Sd) (k i : Nat) : Bool := decide (1 < (acL (mxS S (k : Int) (sgn i) S.length) (mxR p S (k : Int) (sgn i) S.length) 9).length)
def anyC (f : Nat → Nat → Bool) (m : Nat) : Bool := (List.range m).any fun k => (List.range 27).any fun i => f k i
theorem anyC_true {f : Nat → Nat → Bool} {m k i : Nat} (hk : k < m) (hi : i < 27) (h : f k i = true) : anyC f m = true := by
 unfold anyC
 rw [List.any_eq_true]
 exact ⟨k, List.mem_range.2 hk, List.any_eq_true.2 ⟨i, List.mem_range.2 hi, h⟩⟩
theorem anyC_false {f : Nat → Nat → Bool} {m : Nat} (h : ∀ k, k < m → ∀ i, i < 27 → f k i = false) : anyC f m = false := by
 cases e : anyC f m
 ·rfl
 ·unfold anyC at e
  rw [List.any_eq_true] at e
  obtain ⟨k, hk, e⟩ := e
  rw [List.any_eq_true] at e
  obtain ⟨i, hi, e⟩ := e
  rw [h k (List.mem_range.1 hk) i (List.mem_range.1 hi)] at e; cases e
set_option maxRecDepth 100000 in
set_option maxHeartbeats 2000000 in
theorem p_statesClash (tb base : Nat) (p : Pl) (v : Value) (S : List Sd) (cores fault : Nat) (w : World) (h : TbR w tb base p v S cores fault) (hS : S.length ≤ 50) :
 Calls Tryz.prog 89 #[.pointer (some ⟨tb, 0, none⟩)] w fun e w' => e = .returned (.bool (anyC (clK p S) S.length)) ∧ Fr [] w w' := by
 obtain ⟨ao, cap, hv, _⟩ := h.form
 subst hv
 have H := hide h
 clear h
 go_enter Tryz.func89, Tryz.ntmps89
 go_wp2
 go_loopw [3] (fun iv wr => ∃ k : Nat, k ≤ S.length ∧ iv = .int .i64 k ∧ Hid (∀ j, j < k → ∀ i, i < 27 → clK p S j i = false) ∧ Hid (Fr [] w wr)) (fun iv _ => S.length - (intOf iv).toNat)
 case atStart => exact ⟨0, by omega, rfl, fun j hj => by omega, Fr.refl _ _⟩
 case round =>
  obtain ⟨k, hk, rfl, hm, hs⟩ := hrel
  have q0 := ((zaa H).fr0 (zaa hs)).v
  by_cases hlt : k < S.length
  ·have hki : (k : Int) < S.length := by omega
   go_wp2
   clear q0
   go_loopw [4] (fun iv wr => ∃ i : Nat, i ≤ 27 ∧ iv = .int .i64 i ∧ Hid (∀ j, j < i → clK p S k j = false) ∧ Hid (Fr [] w wr)) (fun iv _ => 27 - (intOf iv).toNat)
   case atStart => exact ⟨0, by omega, rfl, (fun j hj => by omega), hs⟩
   case round =>
    clear hs
    obtain ⟨i, hi, rfl, hmi, hs⟩ := hrel
    by_cases hit : i < 27
    ·have HT := hide ((zaa H).fr0 (zaa hs))
     have hsig := sigB_sgn hit
     obtain ⟨c, hc⟩ : ∃ c, sgn i = c := ⟨_, rfl⟩
     have HCC := hide hc
     rw [hc] at hsig
     have HSG := hide hsig
     clear hc hsig
     cases hcl : clK p S k i
     ·have HN := hide (show ∀ j, j < i + 1 → clK p S k j = false from fun j hj => by
       by_cases e : j = i
       ·subst e; exact hcl
       ·exact zaa hmi j (by omega))
      have HCL := hide hcl
      clear hcl
      go_wp2_with (first
       | (go_at_call 99; refine (p_signAt i wr hit).mono ?_; rintro e w' ⟨rfl, hw'⟩; rw [hw', zaa HCC])
       | (go_at_call 78; refine (p_acts tb base k c p _ S cores fault wr (by exact zaa HT) hlt (zaa HSG)).mono ?_; rintro e w3 ⟨rfl, hf3⟩; have HF3 := hide ((zaa hs).trans0 hf3); clear hf3)
       | (refine zab rfl 135 rfl (some 5) rfl 10 _ Tryz.zeroActs ?_; intro w4 hf4 hs4 hB4; have HF4 := hide ((zaa HF3).trans0 hf4); have HB4 := hide hB4; clear hf4 hB4)
       | (refine zac rfl 135 (.tmp 5) (.tmp 23) rfl w3.heap.size 0 10 10 (acF false fun _ => false) (acF _ _) rfl rfl (by exact zaa HB4) Tryz.sizeActs (by omega) (zb7 _ _ 10) ?_; intro w5 hf5 hs5 hB5; have HF5 := hide ((zaa HF4).trans1 hf5 (Or.inr (zaa HF3).size)); have HB5 := hide (hB5.congr fun i hi => zag _ _ _ i hi); clear hf5 hB5)
       | (go_at_call 123; refine (p_isClash w3.heap.size _ _ w5 (by exact zaa HB5)).mono ?_; rintro e w6 ⟨rfl, hf6⟩; have hx := zaa HCL; unfold clK at hx; rw [zaa HCC] at hx; rw [hx]; have HF6 := hide ((zaa HF5).trans0 hf6); clear hf6 hx))
      go_roundw
      case rel => exact ⟨i + 1, by omega, by go_num, HN, HF6⟩
      case measure => simp [intOf]; omega
     ·have HN := hide (anyC_true (f := clK p S) hlt hit hcl)
      have HCL := hide hcl
      clear hcl
      go_wp2_with (first
       | (go_at_call 99; refine (p_signAt i wr hit).mono ?_; rintro e w' ⟨rfl, hw'⟩; rw [hw', zaa HCC])
       | (go_at_call 78; refine (p_acts tb base k c p _ S cores fault wr (by exact zaa HT) hlt (zaa HSG)).mono ?_; rintro e w3 ⟨rfl, hf3⟩; have HF3 := hide ((zaa hs).trans0 hf3); clear hf3)
       | (refine zab rfl 135 rfl (some 5) rfl 10 _ Tryz.zeroActs ?_; intro w4 hf4 hs4 hB4; have HF4 := hide ((zaa HF3).trans0 hf4); have HB4 := hide hB4; clear hf4 hB4)
       | (refine zac rfl 135 (.tmp 5) (.tmp 23) rfl w3.heap.size 0 10 10 (acF false fun _ => false) (acF _ _) rfl rfl (by exact zaa HB4) Tryz.sizeActs (by omega) (zb7 _ _ 10) ?_; intro w5 hf5 hs5 hB5; have HF5 := hide ((zaa HF4).trans1 hf5 (Or.inr (zaa HF3).size)); have HB5 := hide (hB5.congr fun i hi => zag _ _ _ i hi); clear hf5 hB5)
       | (go_at_call 123; refine (p_isClash w3.heap.size _ _ w5 (by exact zaa HB5)).mono ?_; rintro e w6 ⟨rfl, hf6⟩; have hx := zaa HCL; unfold clK at hx; rw [zaa HCC] at hx; rw [hx]; have HF6 := hide ((zaa HF5).trans0 hf6); clear hf6 hx))
      go_ret
      exact ⟨zap (zaa HN).symm, zaa HF6⟩
    ·have HN := hide (show ∀ j, j < k + 1 → ∀ i, i < 27 → clK p S j i = false from fun j hj i2 hi2 => by
      by_cases e : j = k
      ·subst e; exact zaa hmi i2 (by omega)
      ·exact zaa hm j (by omega) i2 hi2)
     go_wp2
     go_roundw
     case rel => exact ⟨k + 1, by omega, by go_num, HN, hs⟩
     case measure => simp [intOf]; omega
  ·have HN := hide (anyC_false (f := clK p S) (m := S.length) (fun j hj => zaa hm j (by omega)))
   go_wp2
   go_ret
   exact ⟨zap (zaa HN).symm, zaa hs⟩
set_option maxRecDepth 100000 in
set_option maxHeartbeats 2000000 in
theorem p_coresClash (tb base : Nat) (p : Pl) (v : Value) (S : List Sd) (cores fault : Nat) (w : World) (h : TbR w tb base p v S cores fault) (hS : S.length ≤ 50) (hco : cores ≤ 50) :
 Calls Tryz.prog 122 #[.pointer (some ⟨tb, 0, none⟩)] w fun e w' => e = .returned (.bool (anyC (clC p S) cores)) ∧ Fr [] w w' := by
 obtain ⟨ao, cap, hv, _⟩ := h.form
 subst hv
 have H := hide h
 clear h
 go_enter Tryz.func122, Tryz.ntmps122
 go_wp2
 go_loopw [3] (fun iv wr => ∃ k : Nat, k ≤ cores ∧ iv = .int .i64 k ∧ Hid (∀ j, j < k → ∀ i, i < 27 → clC p S j i = false) ∧ Hid (Fr [] w wr)) (fun iv _ => cores - (intOf iv).toNat)
 case atStart => exact ⟨0, by omega, rfl, fun j hj => by omega, Fr.refl _ _⟩
 case round =>
  obtain ⟨k, hk, rfl, hm, hs⟩ := hrel
  have q0 := ((zaa H).fr0 (zaa hs)).cores
  by_cases hlt : k < cores
  ·have hki : (k : Int) < cores := by omega
   go_wp2
   clear q0
   go_loopw [4] (fun iv wr => ∃ i : Nat, i ≤ 27 ∧ iv = .int .i64 i ∧ Hid (∀ j, j < i → clC p S k j = false) ∧ Hid (Fr [] w wr)) (fun iv _ => 27 - (intOf iv).toNat)
   case atStart => exact ⟨0, by omega, rfl, (fun j hj => by omega), hs⟩
   case round =>
    clear hs
    obtain ⟨i, hi, rfl, hmi, hs⟩ := hrel
    by_cases hit : i < 27
    ·have HT := hide ((zaa H).fr0 (zaa hs))
     have hsig := sigB_sgn hit
     obtain ⟨c, hc⟩ : ∃ c, sgn i = c := ⟨_, rfl⟩
     have HCC := hide hc
     rw [hc] at hsig
     have HSG := hide hsig
     clear hc hsig
     cases hcl : clC p S k i
     ·have HN := hide (show ∀ j, j < i + 1 → clC p S k j = false from fun j hj => by
       by_cases e : j = i
       ·subst e; exact hcl
       ·exact zaa hmi j (by omega))
      have HCL := hide hcl
      clear hcl
      go_wp2_with (first
       | (go_at_call 99; refine (p_signAt i wr hit).mono ?_; rintro e w' ⟨rfl, hw'⟩; rw [hw', zaa HCC])
       | (go_at_call 85; refine (p_mix tb base c k p _ S cores fault wr (by exact zaa HT) hS (zaa HSG)).mono ?_; rintro e w3 ⟨rfl, hf3⟩; have HF3 := hide ((zaa hs).trans0 hf3); clear hf3)
       | (refine zab rfl 135 rfl (some 5) rfl 10 _ Tryz.zeroActs ?_; intro w4 hf4 hs4 hB4; have HF4 := hide ((zaa HF3).trans0 hf4); have HB4 := hide hB4; clear hf4 hB4)
       | (refine zac rfl 135 (.tmp 5) (.tmp 22) rfl w3.heap.size 0 10 10 (acF false fun _ => false) (acF _ _) rfl rfl (by exact zaa HB4) Tryz.sizeActs (by omega) (zb7 _ _ 10) ?_; intro w5 hf5 hs5 hB5; have HF5 := hide ((zaa HF4).trans1 hf5 (Or.inr (zaa HF3).size)); have HB5 := hide (hB5.congr fun i hi => zag _ _ _ i hi); clear hf5 hB5)
       | (go_at_call 123; refine (p_isClash w3.heap.size _ _ w5 (by exact zaa HB5)).mono ?_; rintro e w6 ⟨rfl, hf6⟩; have hx := zaa HCL; unfold clC at hx; rw [zaa HCC] at hx; rw [hx]; have HF6 := hide ((zaa HF5).trans0 hf6); clear hf6 hx))
      go_roundw
      case rel => exact ⟨i + 1, by omega, by go_num, HN, HF6⟩
      case measure => simp [intOf]; omega
     ·have HN := hide (anyC_true (f := clC p S) hlt hit hcl)
      have HCL := hide hcl
      clear hcl
      go_wp2_with (first
       | (go_at_call 99; refine (p_signAt i wr hit).mono ?_; rintro e w' ⟨rfl, hw'⟩; rw [hw', zaa HCC])
       | (go_at_call 85; refine (p_mix tb base c k p _ S cores fault wr (by exact zaa HT) hS (zaa HSG)).mono ?_; rintro e w3 ⟨rfl, hf3⟩; have HF3 := hide ((zaa hs).trans0 hf3); clear hf3)
       | (refine zab rfl 135 rfl (some 5) rfl 10 _ Tryz.zeroActs ?_; intro w4 hf4 hs4 hB4; have HF4 := hide ((zaa HF3).trans0 hf4); have HB4 := hide hB4; clear hf4 hB4)
       | (refine zac rfl 135 (.tmp 5) (.tmp 22) rfl w3.heap.size 0 10 10 (acF false fun _ => false) (acF _ _) rfl rfl (by exact zaa HB4) Tryz.sizeActs (by omega) (zb7 _ _ 10) ?_; intro w5 hf5 hs5 hB5; have HF5 := hide ((zaa HF4).trans1 hf5 (Or.inr (zaa HF3).size)); have HB5 := hide (hB5.congr fun i hi => zag _ _ _ i hi); clear hf5 hB5)
       | (go_at_call 123; refine (p_isClash w3.heap.size _ _ w5 (by exact zaa HB5)).mono ?_; rintro e w6 ⟨rfl, hf6⟩; have hx := zaa HCL; unfold clC at hx; rw [zaa HCC] at hx; rw [hx]; have HF6 := hide ((zaa HF5).trans0 hf6); clear hf6 hx))
      go_ret
      exact ⟨zap (zaa HN).symm, zaa HF6⟩
    ·have HN := hide (show ∀ j, j < k + 1 → ∀ i, i < 27 → clC p S j i = false from fun j hj i2 hi2 => by
      by_cases e : j = k
      ·subst e; exact zaa hmi i2 (by omega)
      ·exact zaa hm j (by omega) i2 hi2)
     go_wp2
     go_roundw
     case rel => exact ⟨k + 1, by omega, by go_num, HN, hs⟩
     case measure => simp [intOf]; omega
  ·have HN := hide (anyC_false (f := clC p S) (m := cores) (fun j hj => zaa hm j (by omega)))
   go_wp2
   go_ret
   exact ⟨zap (zaa HN).symm, zaa hs⟩
def clsV (p : Pl) (S : List Sd) (cores : Nat) : Nat := if anyC (clK p S) S.length then 0 else if anyC (clC p S) cores then 1 else 2
set_option maxHeartbeats 1000000 in
theorem p_class (tb base : Nat) (p : Pl) (v : Value) (S : List Sd) (cores fault : Nat) (w : World) (h : TbR w tb base p v S cores fault) (hS : S.length ≤ 50) (hco : cores ≤ 50) :
 Calls Tryz.prog 87 #[.pointer (some ⟨tb, 0, none⟩)] w fun e w' => e = .returned (.int .i64 (clsV p S cores : Nat)) ∧ Fr [] w w' := by
 have H := hide h
 clear h
 cases h1 : anyC (clK p S) S.length
 ·cases h2 : anyC (clC p S) cores
  ·have HV := hide (show clsV p S cores = 2 from by unfold clsV; rw [h1, h2]; rfl)
   go_enter Tryz.func87, Tryz.ntmps87
   go_wp2_with (first
    | (go_at_call 89; refine (p_statesClash tb base p v S cores fault w (zaa H) hS).mono ?_; rintro e w1 ⟨rfl, hf1⟩; rw [h1]; have HF1 := hide hf1; clear hf1)
    | (go_at_call 122; refine (p_coresClash tb base p v S cores fault w1 ((zaa H).fr0 (zaa HF1)) hS hco).mono ?_; rintro e w2 ⟨rfl, hf2⟩; rw [h2]; have HF2 := hide ((zaa HF1).trans0 hf2); clear hf2))
   go_ret
   exact ⟨zbx (by rw [zaa HV]; rfl), zaa HF2⟩
  ·have HV := hide (show clsV p S cores = 1 from by unfold clsV; rw [h1, h2]; rfl)
   go_enter Tryz.func87, Tryz.ntmps87
   go_wp2_with (first
    | (go_at_call 89; refine (p_statesClash tb base p v S cores fault w (zaa H) hS).mono ?_; rintro e w1 ⟨rfl, hf1⟩; rw [h1]; have HF1 := hide hf1; clear hf1)
    | (go_at_call 122; refine (p_coresClash tb base p v S cores fault w1 ((zaa H).fr0 (zaa HF1)) hS hco).mono ?_; rintro e w2 ⟨rfl, hf2⟩; rw [h2]; have HF2 := hide ((zaa HF1).trans0 hf2); clear hf2))
   go_ret
   exact ⟨zbx (by rw [zaa HV]; rfl), zaa HF2⟩
 ·have HV := hide (show clsV p S cores = 0 from by unfold clsV; rw [h1]; rfl)
  go_enter Tryz.func87, Tryz.ntmps87
  go_wp2_with (go_at_call 89; refine (p_statesClash tb base p v S cores fault w (zaa H) hS).mono ?_; rintro e w1 ⟨rfl, hf1⟩; rw [h1]; have HF1 := hide hf1; clear hf1)
  go_ret
  exact ⟨zbx (by rw [zaa HV]; rfl), zaa HF1⟩
end Go.Proofs.YtkglggkkbmmjkabGreatDoor
namespace Go.Proofs.YtkglggkkbmmjkabGreatDoor
open Go.RowKit
def MixO (t : ByteArray) (n : Int) (s y : ByteArray) (x : Nat) : Prop :=
 (TErr t x ∧ x ≠ 0 ∧ y = ⟨#[]⟩) ∨ ∃ S c, TGood t S c ∧ ((¬ (0 ≤ n ∧ n < c) ∧ x = 7 ∧ y = ⟨#[]⟩) ∨ ((0 ≤ n ∧ n < c) ∧ sgnX s = false ∧ x = 5 ∧ y = ⟨#[]⟩) ∨ ((0 ≤ n ∧ n < c) ∧ sgnX s = true ∧ x = 0 ∧ y = ⟨(acL (mxS S n (ch s 0) S.length) (mxR (plT t) S n (ch s 0) S.length) 9).toArray⟩))
set_option maxRecDepth 100000 in
set_option maxHeartbeats 2000000 in
theorem p_Mix (t : ByteArray) (n : Int) (s : ByteArray) (w : World) (ht : t.size ≤ 9223372036854775807) :
 Calls Tryz.prog 32 #[.string t, .int .i64 n, .string s] w fun e w' => Fr [] w w' ∧ ∃ (y : ByteArray) (x : Nat), e = .returned (.tuple #[.string y, .int .i64 x]) ∧ MixO t n s y x := by
 by_cases h1 : s.size = 1
 ·have hc0 : ((s[0]'(by omega)).toNat : Int) = ((ch s 0 : Nat) : Int) := by rw [za8 s 0 (by omega)]
  have h1i : ((s.size : Int) != 1) = false := by rw [bne_eq_false_iff_eq]; omega
  obtain ⟨c, hc⟩ : ∃ c, ch s 0 = c := ⟨_, rfl⟩
  have HW := hide (show sgnX s = sigB c from by unfold sgnX; rw [hc]; simp [h1])
  rw [hc] at hc0
  have HCC := hide hc
  clear hc
  cases hl : sigB c
  ·rw [hl] at HW
   go_enter Tryz.func32, Tryz.ntmps32
   go_wp2_with (first
    | (go_at_call 71; refine (zbg t w ht).mono ?_; rintro e w1 ⟨f, rfl, hT⟩; obtain ⟨x, ao, l, cap, hx1, hx0, hx2, hx3⟩ := hT.parts; have HX1 := hide hx1; have HX2 := hide hx2; have HX3 := hide hx3; have HO := hide hT.2.1; have HF1 := hide hT.1; clear hT hx1 hx2 hx3 hx0)
    | (refine zab rfl 79 rfl (some 8) rfl 1362 _ Tryz.zeroTbl ?_; intro w2 hf2 hs2 hB2; have HF2 := hide hf2; have HB2 := hide hB2; clear hf2 hB2 hs2)
    | (refine zac rfl 79 (.tmp 8) (.tmp 11) rfl w1.heap.size 0 1362 1362 zTb f rfl rfl (by exact zaa HB2) Tryz.sizeTbl (by omega) (by exact zaa HO) ?_; intro w3 hf3 hs3 hB3; have HF3 := hide hf3; have HB3 := hide hB3; have HFw := hide (show Fr [] w w3 from ((zaa HF1).trans0 (zaa HF2)).trans1 hf3 (Or.inr (zaa HF1).size)); have c6 := (hB3.cell 1361 (by omega)).trans (congrArg some ((zag _ _ _ _ (by omega)).trans (zaa HX1))); clear hf3 hB3 hs3)
    | (go_at_call 84; obtain ⟨S, c2, base, hG, hlS, hfi, hrow⟩ := zaa HX3 (by (have h : ((x : Int) != 0) = false := (by assumption); have : (x : Int) = 0 := (by simpa using h); omega)); have HTB := hide (zco.lay hfi hrow (zaa HF2) (zaa HF3) (zaa HB3)); have HGd := hide hG; refine (p_hasCore w1.heap.size base (plT t) _ S c2 0 n _ (by exact zaa HTB)).mono ?_; rintro e w' ⟨rfl, hw'⟩; rw [hw']; clear hG hlS hfi hrow)
    | (go_at_call 77; refine (p_isSign c _).mono ?_; rintro e w' ⟨rfl, hw'⟩; rw [hw', hl]))
   ·have hff : ((x : Int) != 0) = true := by assumption
    have hx0 : x ≠ 0 := fun e => by rw [e] at hff; cases hff
    go_quiet (fail)
    go_wp2
    go_ret2
    exact ⟨(zaa HFw).trans0 (zal _ _), ⟨#[]⟩, x, rfl, Or.inl ⟨zaa HX2 hx0, hx0, rfl⟩⟩
   ·have hh : (!decide (0 ≤ n)) = true ∨ (!decide (n < c2)) = true := by assumption
    have hh2 : ¬ (0 ≤ n ∧ n < c2) := by simp at hh; omega
    go_ret2
    exact ⟨zaa HFw, ⟨#[]⟩, 7, rfl, Or.inr ⟨S, c2, zaa HGd, Or.inl ⟨hh2, rfl, rfl⟩⟩⟩
   ·have hh : (!decide (0 ≤ n)) = false ∧ (!decide (n < c2)) = false := by assumption
    have hh2 : 0 ≤ n ∧ n < c2 := by simpa using hh
    go_ret2
    exact ⟨zaa HFw, ⟨#[]⟩, 5, rfl, Or.inr ⟨S, c2, zaa HGd, Or.inr (Or.inl ⟨hh2, zaa HW, rfl, rfl⟩)⟩⟩
  ·rw [hl] at HW
   go_enter Tryz.func32, Tryz.ntmps32
   go_wp2_with (first
    | (go_at_call 71; refine (zbg t w ht).mono ?_; rintro e w1 ⟨f, rfl, hT⟩; obtain ⟨x, ao, l, cap, hx1, hx0, hx2, hx3⟩ := hT.parts; have HX1 := hide hx1; have HX2 := hide hx2; have HX3 := hide hx3; have HO := hide hT.2.1; have HF1 := hide hT.1; clear hT hx1 hx2 hx3 hx0)
    | (refine zab rfl 79 rfl (some 8) rfl 1362 _ Tryz.zeroTbl ?_; intro w2 hf2 hs2 hB2; have HF2 := hide hf2; have HB2 := hide hB2; clear hf2 hB2 hs2)
    | (refine zac rfl 79 (.tmp 8) (.tmp 11) rfl w1.heap.size 0 1362 1362 zTb f rfl rfl (by exact zaa HB2) Tryz.sizeTbl (by omega) (by exact zaa HO) ?_; intro w3 hf3 hs3 hB3; have HF3 := hide hf3; have HB3 := hide hB3; have HFw := hide (show Fr [] w w3 from ((zaa HF1).trans0 (zaa HF2)).trans1 hf3 (Or.inr (zaa HF1).size)); have c6 := (hB3.cell 1361 (by omega)).trans (congrArg some ((zag _ _ _ _ (by omega)).trans (zaa HX1))); clear hf3 hB3 hs3)
    | (go_at_call 84; obtain ⟨S, c2, base, hG, hlS, hfi, hrow⟩ := zaa HX3 (by (have h : ((x : Int) != 0) = false := (by assumption); have : (x : Int) = 0 := (by simpa using h); omega)); have HTB := hide (zco.lay hfi hrow (zaa HF2) (zaa HF3) (zaa HB3)); have HGd := hide hG; refine (p_hasCore w1.heap.size base (plT t) _ S c2 0 n _ (by exact zaa HTB)).mono ?_; rintro e w' ⟨rfl, hw'⟩; rw [hw']; clear hG hlS hfi hrow)
    | (go_at_call 77; refine (p_isSign c _).mono ?_; rintro e w' ⟨rfl, hw'⟩; rw [hw', hl])
    | (go_at_call 85; refine (p_mix w1.heap.size base c n (plT t) _ S c2 0 w3 (by exact zaa HTB) (by have := (zaa HGd).2.2.1; omega) hl).mono ?_; rintro e w4 ⟨rfl, hf4⟩; have HF4 := hide ((zaa HFw).trans0 hf4); clear hf4)
    | (refine zab rfl 135 rfl (some 9) rfl 10 _ Tryz.zeroActs ?_; intro w5 hf5 hs5 hB5; have HF5 := hide ((zaa HF4).trans0 hf5); have HB5 := hide hB5; clear hf5 hB5)
    | (refine zac rfl 135 (.tmp 9) (.tmp 32) rfl w4.heap.size 0 10 10 (acF false fun _ => false) (acF (mxS S n c S.length) (mxR (plT t) S n c S.length)) rfl rfl (by exact zaa HB5) Tryz.sizeActs (by omega) (zb7 _ _ 10) ?_; intro w6 hf6 hs6 hB6; have HF6 := hide ((zaa HF5).trans1 hf6 (Or.inr (zaa HF4).size)); have HB6 := hide (show Blk w6 w4.heap.size 10 (acF (mxS S n c S.length) (mxR (plT t) S n c S.length)) from hB6.congr fun i hi => zag _ _ _ i hi); clear hf6 hB6)
    | (go_at_call 79; refine (p_alist w4.heap.size _ _ w6 (by exact zaa HB6)).mono ?_; rintro e w7 ⟨rfl, hf7⟩; have HF7 := hide ((zaa HF6).trans0 hf7); clear hf7))
   ·have hff : ((x : Int) != 0) = true := by assumption
    have hx0 : x ≠ 0 := fun e => by rw [e] at hff; cases hff
    go_quiet (fail)
    go_wp2
    go_ret2
    exact ⟨(zaa HFw).trans0 (zal _ _), ⟨#[]⟩, x, rfl, Or.inl ⟨zaa HX2 hx0, hx0, rfl⟩⟩
   ·have hh : (!decide (0 ≤ n)) = true ∨ (!decide (n < c2)) = true := by assumption
    have hh2 : ¬ (0 ≤ n ∧ n < c2) := by simp at hh; omega
    go_ret2
    exact ⟨zaa HFw, ⟨#[]⟩, 7, rfl, Or.inr ⟨S, c2, zaa HGd, Or.inl ⟨hh2, rfl, rfl⟩⟩⟩
   ·have hh : (!decide (0 ≤ n)) = false ∧ (!decide (n < c2)) = false := by assumption
    have hh2 : 0 ≤ n ∧ n < c2 := by simpa using hh
    go_ret2
    exact ⟨zaa HF7, _, 0, rfl, Or.inr ⟨S, c2, zaa HGd, Or.inr (Or.inr ⟨hh2, zaa HW, rfl, by rw [zaa HCC]⟩)⟩⟩
 ·have h1i : ((s.size : Int) != 1) = true := by rw [bne_iff_ne]; omega
  have HW := hide (show sgnX s = false from by unfold sgnX; rw [show decide (s.size = 1) = false from by simpa using h1]; rfl)
  clear h1
  go_enter Tryz.func32, Tryz.ntmps32
  go_wp2_with (first
   | (go_at_call 71; refine (zbg t w ht).mono ?_; rintro e w1 ⟨f, rfl, hT⟩; obtain ⟨x, ao, l, cap, hx1, hx0, hx2, hx3⟩ := hT.parts; have HX1 := hide hx1; have HX2 := hide hx2; have HX3 := hide hx3; have HO := hide hT.2.1; have HF1 := hide hT.1; clear hT hx1 hx2 hx3 hx0)
   | (refine zab rfl 79 rfl (some 8) rfl 1362 _ Tryz.zeroTbl ?_; intro w2 hf2 hs2 hB2; have HF2 := hide hf2; have HB2 := hide hB2; clear hf2 hB2 hs2)
   | (refine zac rfl 79 (.tmp 8) (.tmp 11) rfl w1.heap.size 0 1362 1362 zTb f rfl rfl (by exact zaa HB2) Tryz.sizeTbl (by omega) (by exact zaa HO) ?_; intro w3 hf3 hs3 hB3; have HF3 := hide hf3; have HB3 := hide hB3; have HFw := hide (show Fr [] w w3 from ((zaa HF1).trans0 (zaa HF2)).trans1 hf3 (Or.inr (zaa HF1).size)); have c6 := (hB3.cell 1361 (by omega)).trans (congrArg some ((zag _ _ _ _ (by omega)).trans (zaa HX1))); clear hf3 hB3 hs3)
   | (go_at_call 84; obtain ⟨S, c2, base, hG, hlS, hfi, hrow⟩ := zaa HX3 (by (have h : ((x : Int) != 0) = false := (by assumption); have : (x : Int) = 0 := (by simpa using h); omega)); have HTB := hide (zco.lay hfi hrow (zaa HF2) (zaa HF3) (zaa HB3)); have HGd := hide hG; refine (p_hasCore w1.heap.size base (plT t) _ S c2 0 n _ (by exact zaa HTB)).mono ?_; rintro e w' ⟨rfl, hw'⟩; rw [hw']; clear hG hlS hfi hrow))
  ·have hff : ((x : Int) != 0) = true := by assumption
   have hx0 : x ≠ 0 := fun e => by rw [e] at hff; cases hff
   go_quiet (fail)
   go_wp2
   go_ret2
   exact ⟨(zaa HFw).trans0 (zal _ _), ⟨#[]⟩, x, rfl, Or.inl ⟨zaa HX2 hx0, hx0, rfl⟩⟩
  ·have hh : (!decide (0 ≤ n)) = true ∨ (!decide (n < c2)) = true := by assumption
   have hh2 : ¬ (0 ≤ n ∧ n < c2) := by simp at hh; omega
   go_ret2
   exact ⟨zaa HFw, ⟨#[]⟩, 7, rfl, Or.inr ⟨S, c2, zaa HGd, Or.inl ⟨hh2, rfl, rfl⟩⟩⟩
  ·have hh : (!decide (0 ≤ n)) = false ∧ (!decide (n < c2)) = false := by assumption
   have hh2 : 0 ≤ n ∧ n < c2 := by simpa using hh
   go_ret2
   exact ⟨zaa HFw, ⟨#[]⟩, 5, rfl, Or.inr ⟨S, c2, zaa HGd, Or.inr (Or.inl ⟨hh2, zaa HW, rfl, rfl⟩)⟩⟩
set_option maxRecDepth 100000 in
set_option maxHeartbeats 2000000 in
theorem p_Class (t : ByteArray) (w : World) (ht : t.size ≤ 9223372036854775807) :
 Calls Tryz.prog 34 #[.string t] w fun e w' => Fr [] w w' ∧ ∃ n x : Nat, e = .returned (.tuple #[.int .i64 n, .int .i64 x]) ∧ (x ≠ 0 → n = 0 ∧ TErr t x) ∧ (x = 0 → ∃ S c, TGood t S c ∧ n = clsV (plT t) S c) := by
 go_enter Tryz.func34, Tryz.ntmps34
 go_wp2_with (first
  | (go_at_call 71; refine (zbg t w ht).mono ?_; rintro e w1 ⟨f, rfl, hT⟩; obtain ⟨x, ao, l, cap, hx1, hx0, hx2, hx3⟩ := hT.parts; have HX1 := hide hx1; have HX0 := hide hx0; have HX2 := hide hx2; have HX3 := hide hx3; have HO := hide hT.2.1; have HF1 := hide hT.1; clear hT hx1 hx2 hx3 hx0)
  | (refine zab rfl 79 rfl (some 4) rfl 1362 _ Tryz.zeroTbl ?_; intro w2 hf2 hs2 hB2; have HF2 := hide hf2; have HB2 := hide hB2; clear hf2 hB2 hs2)
  | (refine zac rfl 79 (.tmp 4) (.tmp 6) rfl w1.heap.size 0 1362 1362 zTb f rfl rfl (by exact zaa HB2) Tryz.sizeTbl (by omega) (by exact zaa HO) ?_; intro w3 hf3 hs3 hB3; have HF3 := hide hf3; have HB3 := hide hB3; have HFw := hide (show Fr [] w w3 from ((zaa HF1).trans0 (zaa HF2)).trans1 hf3 (Or.inr (zaa HF1).size)); have c6 := (hB3.cell 1361 (by omega)).trans (congrArg some ((zag _ _ _ _ (by omega)).trans (zaa HX1))); clear hf3 hB3 hs3)
  | (go_at_call 87; obtain ⟨S, c2, base, hG, hlS, hfi, hrow⟩ := zaa HX3 (by (have h : ((x : Int) != 0) = false := (by assumption); have : (x : Int) = 0 := (by simpa using h); omega)); have HTB := hide (zco.lay hfi hrow (zaa HF2) (zaa HF3) (zaa HB3)); have HGd := hide hG; refine (p_class w1.heap.size base (plT t) _ S c2 0 w3 (by exact zaa HTB) (by have := hG.2.2.1; omega) (by have := hG.2.2.1; have := hG.2.2.2; omega)).mono ?_; rintro e w4 ⟨rfl, hf4⟩; have HF4 := hide ((zaa HFw).trans0 hf4); clear hG hlS hfi hrow hf4))
 ·have hff : ((x : Int) != 0) = true := by assumption
  have hx0 : x ≠ 0 := fun e => by rw [e] at hff; cases hff
  go_quiet (fail)
  go_wp2
  go_ret2
  exact ⟨(zaa HFw).trans0 (zal _ _), 0, x, rfl, fun _ => ⟨rfl, zaa HX2 hx0⟩, fun e => absurd e hx0⟩
 ·have hff : ((x : Int) != 0) = false := by assumption
  have hx0 : x = 0 := by
   have : (x : Int) = 0 := by simpa using hff
   omega
  go_ret2
  exact ⟨zaa HF4, clsV (plT t) S c2, 0, rfl, fun e => absurd rfl e, fun _ => ⟨S, c2, zaa HGd, rfl⟩⟩
end Go.Proofs.YtkglggkkbmmjkabGreatDoor
