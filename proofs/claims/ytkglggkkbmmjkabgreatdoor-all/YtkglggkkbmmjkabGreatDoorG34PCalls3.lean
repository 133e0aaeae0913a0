import Derived.Test.YtkglggkkbmmjkabGreatDoorG33PActs3
namespace Go.Proofs.YtkglggkkbmmjkabGreatDoor
open Go.RowKit
def TErr (t : ByteArray) (x : Nat) : Prop := ((gErr t).1 ≠ 0 ∧ x = (gErr t).1) ∨ ((gErr t).1 = 0 ∧ ∃ n S c, StatesR (plT t) n S c x)
def TGood (t : ByteArray) (S : List Sd) (c : Nat) : Prop := (gErr t).1 = 0 ∧ StatesR (plT t) S.length S c 0 ∧ S.length ≤ 40 ∧ c ≤ S.length
theorem zco.parts {t : ByteArray} {w w' : World} {f : Nat → Value} (h : zco t w w' f) : ∃ (x : Nat) (ao : Option Addr) (l cap : Nat), f 1361 = .int .i64 (x : Nat) ∧ f 1359 = .slice ao l cap ∧ (x ≠ 0 → TErr t x) ∧ (x = 0 → ∃ S c base, TGood t S c ∧ l = S.length ∧ (∀ i, i < 1362 → f i = tbF (plT t) (.slice ao l cap) c 0 i) ∧ GRow w' base 147 1268 (.slice ao l cap) S.length (rwF S)) := by
 by_cases h0 : (gErr t).1 = 0
 ·obtain ⟨n, v, S, c, fl, base, h1, h2, h3, h4, h5, h6, h7⟩ := h.2.2.2 h0
  obtain ⟨ao, cap, hv⟩ : ∃ ao cap, v = .slice ao S.length cap := by
   obtain ⟨_, k2⟩ := h6
   rcases k2 with ⟨rfl, k2⟩ | ⟨g', cap', cur, rfl, _⟩
   ·exact ⟨none, 0, by rw [k2]⟩
   ·exact ⟨_, cap', rfl⟩
  subst hv
  refine ⟨fl, ao, S.length, cap, by rw [h1 1361 (by omega)]; rfl, by rw [h1 1359 (by omega)]; rfl, fun hx => Or.inr ⟨h0, n, S, c, h2⟩, fun hx => ?_⟩
  subst hx
  exact ⟨S, c, base, ⟨h0, h3 rfl ▸ h2, h4, h5⟩, rfl, h1, h6⟩
 ·exact ⟨(gErr t).1, none, 0, 0, (h.2.2.1 h0).1, (h.2.2.1 h0).2, fun _ => Or.inl ⟨h0, rfl⟩, fun hx => absurd hx h0⟩
theorem zco.lay {t : ByteArray} {w1 w2 w3 : World} {f z : Nat → Value} {v : Value} {S : List Sd} {c base : Nat} (hf : ∀ i, i < 1362 → f i = tbF (plT t) v c 0 i) (hr : GRow w1 base 147 1268 v S.length (rwF S)) (hf2 : Fr [] w1 w2) (hf3 : Fr [w1.heap.size] w2 w3) (hB : Blk w3 w1.heap.size 1362 (lay z 0 1362 f)) : TbR w3 w1.heap.size base (plT t) v S c 0 :=
 ⟨hB.congr fun i hi => (zag _ _ _ i hi).trans (hf i hi), (hr.fr hf2 (by simp)).fr hf3 (fun g hg => by have := (hr.lt hg).2; simp; omega)⟩
set_option maxRecDepth 100000 in
set_option maxHeartbeats 2000000 in
theorem p_States (t : ByteArray) (w : World) (ht : t.size ≤ 9223372036854775807) :
 Calls Tryz.prog 24 #[.string t] w fun e w' => Fr [] w w' ∧ ∃ n x : Nat, e = .returned (.tuple #[.int .i64 n, .int .i64 x]) ∧ (x ≠ 0 → n = 0 ∧ TErr t x) ∧ (x = 0 → ∃ S c, TGood t S c ∧ n = S.length) := by
 go_enter Tryz.func24, Tryz.ntmps24
 go_wp2_with (first
  | (go_at_call 71; refine (zbg t w ht).mono ?_; rintro e w1 ⟨f, rfl, hT⟩; obtain ⟨x, ao, l, cap, hx1, hx0, hx2, hx3⟩ := hT.parts; have HX1 := hide hx1; have HX0 := hide hx0; have HX2 := hide hx2; have HX3 := hide hx3; have HO := hide hT.2.1; have HF1 := hide hT.1; clear hT hx1 hx2 hx3 hx0)
  | (refine zab rfl 79 rfl (some 4) rfl 1362 _ Tryz.zeroTbl ?_; intro w2 hf2 hs2 hB2; have HF2 := hide hf2; have HB2 := hide hB2; clear hf2 hB2 hs2)
  | (refine zac rfl 79 (.tmp 4) (.tmp 6) rfl w1.heap.size 0 1362 1362 zTb f rfl rfl (by exact zaa HB2) Tryz.sizeTbl (by omega) (by exact zaa HO) ?_; intro w3 hf3 hs3 hB3; have HF3 := hide hf3; have HB3 := hide hB3; have HFw := hide (show Fr [] w w3 from ((zaa HF1).trans0 (zaa HF2)).trans1 hf3 (Or.inr (zaa HF1).size)); have c6 := (hB3.cell 1361 (by omega)).trans (congrArg some ((zag _ _ _ _ (by omega)).trans (zaa HX1))); have c7 := (hB3.cell 1359 (by omega)).trans (congrArg some ((zag _ _ _ _ (by omega)).trans (zaa HX0))); clear hf3 hB3 hs3))
 ·have hff : ((x : Int) != 0) = true := by assumption
  have hx0 : x ≠ 0 := fun e => by rw [e] at hff; cases hff
  go_quiet (fail)
  go_wp2
  go_ret2
  exact ⟨(zaa HFw).trans0 (zal _ _), 0, x, rfl, fun _ => ⟨rfl, zaa HX2 hx0⟩, fun e => absurd e hx0⟩
 ·have hff : ((x : Int) != 0) = false := by assumption
  have hx0 : x = 0 := by
   have : (x : Int) = 0 := by simpa using hff
   omega
  go_ret2
  obtain ⟨S, c, base, h1, h2, h3, h4⟩ := zaa HX3 hx0
  exact ⟨zaa HFw, l, 0, rfl, fun e => absurd rfl e, fun _ => ⟨S, c, h1, h2⟩⟩
end Go.Proofs.YtkglggkkbmmjkabGreatDoor
namespace Go.Proofs.YtkglggkkbmmjkabGreatDoor
open Go.RowKit
def stepToI (S : List Sd) (n : Int) (c : Nat) : Int := if 0 ≤ n ∧ n < S.length then zbo S n.toNat c else -1
set_option maxHeartbeats 1000000 in
theorem p_tstepI (tb base c : Nat) (n : Int) (p : Pl) (v : Value) (S : List Sd) (cores fault : Nat) (w : World) (h : TbR w tb base p v S cores fault) :
 Calls Tryz.prog 75 #[.pointer (some ⟨tb, 0, none⟩), .int .i64 n, .int .u8 c] w fun e w' => e = .returned (.int .i64 (stepToI S n c)) ∧ w' = w := by
 by_cases hn : 0 ≤ n ∧ n < S.length
 ·have hk : n = (n.toNat : Nat) := by omega
  have := p_tstep tb base n.toNat c p v S cores fault w h (by omega)
  unfold stepToI
  rw [if_pos hn]
  rw [← hk] at this
  exact this
 ·have HS := hide (show stepToI S n c = -1 from if_neg hn)
  have hhs : (decide (0 ≤ n) && decide (n < S.length)) = false := by
   rw [Bool.and_eq_false_iff, decide_eq_false_iff_not, decide_eq_false_iff_not]; omega
  have H := hide h
  clear h hn
  cases hc : letB c
  ·have HC := hide hc
   clear hc
   go_enter Tryz.func75, Tryz.ntmps75
   go_wp2_with (first
    | (go_at_call 118; refine (p_letterIndex_not _ _ (zaa HC)).mono ?_; rintro e w' ⟨rfl, hw'⟩; rw [hw'])
    | (go_at_call 73; refine (zbh tb base p v S cores fault n _ (by exact zaa H)).mono ?_; rintro e w' ⟨rfl, hw'⟩; rw [hw', hhs]))
   go_ret
   exact ⟨zbx (zaa HS).symm, rfl⟩
  ·have HC := hide hc
   clear hc
   go_enter Tryz.func75, Tryz.ntmps75
   go_wp2_with (first
    | (go_at_call 118; refine (p_letterIndex _ _ (zaa HC)).mono ?_; rintro e w' ⟨rfl, hw'⟩; rw [hw'])
    | (go_at_call 73; refine (zbh tb base p v S cores fault n _ (by exact zaa H)).mono ?_; rintro e w' ⟨rfl, hw'⟩; rw [hw', hhs]))
   go_ret
   exact ⟨zbx (zaa HS).symm, rfl⟩
def ltrW (s : ByteArray) : Bool := decide (s.size = 1) && letB (ch s 0)
def StepO (t : ByteArray) (n : Int) (s : ByteArray) (y : Int) (x : Nat) : Prop :=
 (TErr t x ∧ x ≠ 0 ∧ y = 0) ∨ ∃ S c, TGood t S c ∧ ((¬ (0 ≤ n ∧ n < S.length) ∧ x = 7 ∧ y = 0) ∨ ((0 ≤ n ∧ n < S.length) ∧ ltrW s = false ∧ x = 5 ∧ y = 0) ∨ ((0 ≤ n ∧ n < S.length) ∧ ltrW s = true ∧ x = 0 ∧ y = zbo S n.toNat (ch s 0)))
set_option maxRecDepth 100000 in
set_option maxHeartbeats 2000000 in
theorem p_Step (t : ByteArray) (n : Int) (s : ByteArray) (w : World) (ht : t.size ≤ 9223372036854775807) :
 Calls Tryz.prog 26 #[.string t, .int .i64 n, .string s] w fun e w' => Fr [] w w' ∧ ∃ (y : Int) (x : Nat), e = .returned (.tuple #[.int .i64 y, .int .i64 x]) ∧ StepO t n s y x := by
 by_cases h1 : s.size = 1
 ·have hc0 : ((s[0]'(by omega)).toNat : Int) = ((ch s 0 : Nat) : Int) := by rw [za8 s 0 (by omega)]
  have h1i : ((s.size : Int) != 1) = false := by rw [bne_eq_false_iff_eq]; omega
  obtain ⟨c, hc⟩ : ∃ c, ch s 0 = c := ⟨_, rfl⟩
  have HW := hide (show ltrW s = letB c from by unfold ltrW; rw [hc]; simp [h1])
  rw [hc] at hc0
  have HCC := hide hc
  clear hc
  cases hl : letB c
  ·rw [hl] at HW
   go_enter Tryz.func26, Tryz.ntmps26
   go_wp2_with (first
    | (go_at_call 71; refine (zbg t w ht).mono ?_; rintro e w1 ⟨f, rfl, hT⟩; obtain ⟨x, ao, l, cap, hx1, hx0, hx2, hx3⟩ := hT.parts; have HX1 := hide hx1; have HX2 := hide hx2; have HX3 := hide hx3; have HO := hide hT.2.1; have HF1 := hide hT.1; clear hT hx1 hx2 hx3 hx0)
    | (refine zab rfl 79 rfl (some 8) rfl 1362 _ Tryz.zeroTbl ?_; intro w2 hf2 hs2 hB2; have HF2 := hide hf2; have HB2 := hide hB2; clear hf2 hB2 hs2)
    | (refine zac rfl 79 (.tmp 8) (.tmp 10) rfl w1.heap.size 0 1362 1362 zTb f rfl rfl (by exact zaa HB2) Tryz.sizeTbl (by omega) (by exact zaa HO) ?_; intro w3 hf3 hs3 hB3; have HF3 := hide hf3; have HB3 := hide hB3; have HFw := hide (show Fr [] w w3 from ((zaa HF1).trans0 (zaa HF2)).trans1 hf3 (Or.inr (zaa HF1).size)); have c6 := (hB3.cell 1361 (by omega)).trans (congrArg some ((zag _ _ _ _ (by omega)).trans (zaa HX1))); clear hf3 hB3 hs3)
    | (go_at_call 73; obtain ⟨S, c2, base, hG, hlS, hfi, hrow⟩ := zaa HX3 (by (have h : ((x : Int) != 0) = false := (by assumption); have : (x : Int) = 0 := (by simpa using h); omega)); have HTB := hide (zco.lay hfi hrow (zaa HF2) (zaa HF3) (zaa HB3)); have HGd := hide hG; refine (zbh w1.heap.size base (plT t) _ S c2 0 n _ (by exact zaa HTB)).mono ?_; rintro e w' ⟨rfl, hw'⟩; rw [hw']; clear hG hlS hfi hrow)
    | (go_at_call 74; refine (p_isLetter c _).mono ?_; rintro e w' ⟨rfl, hw'⟩; rw [hw', hl]))
   ·have hff : ((x : Int) != 0) = true := by assumption
    have hx0 : x ≠ 0 := fun e => by rw [e] at hff; cases hff
    go_quiet (fail)
    go_wp2
    go_ret2
    exact ⟨(zaa HFw).trans0 (zal _ _), 0, x, rfl, Or.inl ⟨zaa HX2 hx0, hx0, rfl⟩⟩
   ·have hh : (!decide (0 ≤ n)) = true ∨ (!decide (n < S.length)) = true := by assumption
    have hh2 : ¬ (0 ≤ n ∧ n < S.length) := by simp at hh; omega
    go_ret2
    exact ⟨zaa HFw, 0, 7, rfl, Or.inr ⟨S, c2, zaa HGd, Or.inl ⟨hh2, rfl, rfl⟩⟩⟩
   ·have hh : (!decide (0 ≤ n)) = false ∧ (!decide (n < S.length)) = false := by assumption
    have hh2 : 0 ≤ n ∧ n < S.length := by simpa using hh
    go_ret2
    exact ⟨zaa HFw, 0, 5, rfl, Or.inr ⟨S, c2, zaa HGd, Or.inr (Or.inl ⟨hh2, zaa HW, rfl, rfl⟩)⟩⟩
  ·rw [hl] at HW
   go_enter Tryz.func26, Tryz.ntmps26
   go_wp2_with (first
    | (go_at_call 71; refine (zbg t w ht).mono ?_; rintro e w1 ⟨f, rfl, hT⟩; obtain ⟨x, ao, l, cap, hx1, hx0, hx2, hx3⟩ := hT.parts; have HX1 := hide hx1; have HX2 := hide hx2; have HX3 := hide hx3; have HO := hide hT.2.1; have HF1 := hide hT.1; clear hT hx1 hx2 hx3 hx0)
    | (refine zab rfl 79 rfl (some 8) rfl 1362 _ Tryz.zeroTbl ?_; intro w2 hf2 hs2 hB2; have HF2 := hide hf2; have HB2 := hide hB2; clear hf2 hB2 hs2)
    | (refine zac rfl 79 (.tmp 8) (.tmp 10) rfl w1.heap.size 0 1362 1362 zTb f rfl rfl (by exact zaa HB2) Tryz.sizeTbl (by omega) (by exact zaa HO) ?_; intro w3 hf3 hs3 hB3; have HF3 := hide hf3; have HB3 := hide hB3; have HFw := hide (show Fr [] w w3 from ((zaa HF1).trans0 (zaa HF2)).trans1 hf3 (Or.inr (zaa HF1).size)); have c6 := (hB3.cell 1361 (by omega)).trans (congrArg some ((zag _ _ _ _ (by omega)).trans (zaa HX1))); clear hf3 hB3 hs3)
    | (go_at_call 73; obtain ⟨S, c2, base, hG, hlS, hfi, hrow⟩ := zaa HX3 (by (have h : ((x : Int) != 0) = false := (by assumption); have : (x : Int) = 0 := (by simpa using h); omega)); have HTB := hide (zco.lay hfi hrow (zaa HF2) (zaa HF3) (zaa HB3)); have HGd := hide hG; refine (zbh w1.heap.size base (plT t) _ S c2 0 n _ (by exact zaa HTB)).mono ?_; rintro e w' ⟨rfl, hw'⟩; rw [hw']; clear hG hlS hfi hrow)
    | (go_at_call 74; refine (p_isLetter c _).mono ?_; rintro e w' ⟨rfl, hw'⟩; rw [hw', hl])
    | (go_at_call 75; refine (p_tstepI w1.heap.size base c n (plT t) _ S c2 0 _ (by exact zaa HTB)).mono ?_; rintro e w' ⟨rfl, hw'⟩; rw [hw']))
   ·have hff : ((x : Int) != 0) = true := by assumption
    have hx0 : x ≠ 0 := fun e => by rw [e] at hff; cases hff
    go_quiet (fail)
    go_wp2
    go_ret2
    exact ⟨(zaa HFw).trans0 (zal _ _), 0, x, rfl, Or.inl ⟨zaa HX2 hx0, hx0, rfl⟩⟩
   ·have hh : (!decide (0 ≤ n)) = true ∨ (!decide (n < S.length)) = true := by assumption
    have hh2 : ¬ (0 ≤ n ∧ n < S.length) := by simp at hh; omega
    go_ret2
    exact ⟨zaa HFw, 0, 7, rfl, Or.inr ⟨S, c2, zaa HGd, Or.inl ⟨hh2, rfl, rfl⟩⟩⟩
   ·have hh : (!decide (0 ≤ n)) = false ∧ (!decide (n < S.length)) = false := by assumption
    have hh2 : 0 ≤ n ∧ n < S.length := by simpa using hh
    go_ret2
    exact ⟨zaa HFw, stepToI S n c, 0, rfl, Or.inr ⟨S, c2, zaa HGd, Or.inr (Or.inr ⟨hh2, zaa HW, rfl, by unfold stepToI; rw [if_pos hh2, zaa HCC]⟩)⟩⟩
 ·have h1i : ((s.size : Int) != 1) = true := by rw [bne_iff_ne]; omega
  have HW := hide (show ltrW s = false from by unfold ltrW; rw [show decide (s.size = 1) = false from by simpa using h1]; rfl)
  clear h1
  go_enter Tryz.func26, Tryz.ntmps26
  go_wp2_with (first
   | (go_at_call 71; refine (zbg t w ht).mono ?_; rintro e w1 ⟨f, rfl, hT⟩; obtain ⟨x, ao, l, cap, hx1, hx0, hx2, hx3⟩ := hT.parts; have HX1 := hide hx1; have HX2 := hide hx2; have HX3 := hide hx3; have HO := hide hT.2.1; have HF1 := hide hT.1; clear hT hx1 hx2 hx3 hx0)
   | (refine zab rfl 79 rfl (some 8) rfl 1362 _ Tryz.zeroTbl ?_; intro w2 hf2 hs2 hB2; have HF2 := hide hf2; have HB2 := hide hB2; clear hf2 hB2 hs2)
   | (refine zac rfl 79 (.tmp 8) (.tmp 10) rfl w1.heap.size 0 1362 1362 zTb f rfl rfl (by exact zaa HB2) Tryz.sizeTbl (by omega) (by exact zaa HO) ?_; intro w3 hf3 hs3 hB3; have HF3 := hide hf3; have HB3 := hide hB3; have HFw := hide (show Fr [] w w3 from ((zaa HF1).trans0 (zaa HF2)).trans1 hf3 (Or.inr (zaa HF1).size)); have c6 := (hB3.cell 1361 (by omega)).trans (congrArg some ((zag _ _ _ _ (by omega)).trans (zaa HX1))); clear hf3 hB3 hs3)
   | (go_at_call 73; obtain ⟨S, c2, base, hG, hlS, hfi, hrow⟩ := zaa HX3 (by (have h : ((x : Int) != 0) = false := (by assumption); have : (x : Int) = 0 := (by simpa using h); omega)); have HTB := hide (zco.lay hfi hrow (zaa HF2) (zaa HF3) (zaa HB3)); have HGd := hide hG; refine (zbh w1.heap.size base (plT t) _ S c2 0 n _ (by exact zaa HTB)).mono ?_; rintro e w' ⟨rfl, hw'⟩; rw [hw']; clear hG hlS hfi hrow))
  ·have hff : ((x : Int) != 0) = true := by assumption
   have hx0 : x ≠ 0 := fun e => by rw [e] at hff; cases hff
   go_quiet (fail)
   go_wp2
   go_ret2
   exact ⟨(zaa HFw).trans0 (zal _ _), 0, x, rfl, Or.inl ⟨zaa HX2 hx0, hx0, rfl⟩⟩
  ·have hh : (!decide (0 ≤ n)) = true ∨ (!decide (n < S.length)) = true := by assumption
   have hh2 : ¬ (0 ≤ n ∧ n < S.length) := by simp at hh; omega
   go_ret2
   exact ⟨zaa HFw, 0, 7, rfl, Or.inr ⟨S, c2, zaa HGd, Or.inl ⟨hh2, rfl, rfl⟩⟩⟩
  ·have hh : (!decide (0 ≤ n)) = false ∧ (!decide (n < S.length)) = false := by assumption
   have hh2 : 0 ≤ n ∧ n < S.length := by simpa using hh
   go_ret2
   exact ⟨zaa HFw, 0, 5, rfl, Or.inr ⟨S, c2, zaa HGd, Or.inr (Or.inl ⟨hh2, zaa HW, rfl, rfl⟩)⟩⟩
end Go.Proofs.YtkglggkkbmmjkabGreatDoor
namespace Go.Proofs.YtkglggkkbmmjkabGreatDoor
open Go.RowKit
def AcIO (n : Int) (c : Nat) (p : Pl) (S : List Sd) (w : World) (e : Ending) (w' : World) : Prop := Fr [] w w' ∧ ∃ st ru, e = .returned (Agg 10 (acF st ru)) ∧ ((0 ≤ n ∧ n < S.length) → st = (zbo S n.toNat c != -1) ∧ ru = ruS p (sget S n.toNat).A c)
set_option maxRecDepth 100000 in
set_option maxHeartbeats 1000000 in
theorem p_actsI (tb base c : Nat) (n : Int) (p : Pl) (v : Value) (S : List Sd) (cores fault : Nat) (w : World) (h : TbR w tb base p v S cores fault) (hc : sigB c = true) :
 Calls Tryz.prog 78 #[.pointer (some ⟨tb, 0, none⟩), .int .i64 n, .int .u8 c] w fun e w' => AcIO n c p S w e w' := by
 by_cases hn : 0 ≤ n ∧ n < S.length
 ·have hk : n = (n.toNat : Nat) := by omega
  have := p_acts tb base n.toNat c p v S cores fault w h (by omega) hc
  rw [← hk] at this
  exact this.mono fun e w' ⟨h1, h2⟩ => ⟨h2, _, _, h1, fun _ => ⟨rfl, rfl⟩⟩
 ·have hhs : (decide (0 ≤ n) && decide (n < S.length)) = false := by
   rw [Bool.and_eq_false_iff, decide_eq_false_iff_not, decide_eq_false_iff_not]; omega
  have H := hide h
  have HNN := hide hn
  clear h hn hc
  go_enter Tryz.func78, Tryz.ntmps78
  go_wp2_with (first
   | (refine zab rfl 135 rfl (some 6) rfl 10 _ Tryz.zeroActs ?_; intro w1 hf1 hs1 hB1; have HF1 := hide hf1; have HA1 := hide hB1; clear hf1 hB1)
   | (refine zab rfl 135 rfl (some 7) rfl 10 _ Tryz.zeroActs ?_; intro w2 hf2 hs2 hB2; have HF2 := hide ((zaa HF1).trans0 hf2); have HA2 := hide ((zaa HA1).fr0 hf2); have HB2 := hide (show Blk w2 (w.heap.size + 1) 10 (acF false fun _ => false) from hs1 ▸ hB2); clear hf2 hB2 HF1 HA1)
   | (go_at_call 73; refine (zbh tb base p _ S cores fault n _ (by exact (zaa H).fr0 (zaa HF2))).mono ?_; rintro e w' ⟨rfl, hw'⟩; rw [hw', hhs])
   | (refine zaf rfl 135 (.tmp 7) rfl (some 14) rfl (w.heap.size + 1) 0 10 10 (acF false fun _ => false) _ rfl (by exact zaa HB2) Tryz.underlying135 rfl Tryz.sizeActs (by omega) ?_)
   | (refine zac rfl 135 (.tmp 6) (.tmp 14) rfl w.heap.size 0 10 10 (acF false fun _ => false) (fun i => acF false (fun _ => false) (0 + i)) rfl rfl (by exact zaa HA2) Tryz.sizeActs (by omega) (fun i hi => zb7 _ _ (0 + i + 1) (0 + i) (Nat.lt_succ_self _)) ?_; intro w7 hf7 hs7 hB7))
  exact bodyPost_ret (zaj Tryz.results78 _ w.heap.size rfl 10 10 _ _ (hB7.congr fun i hi => zag _ _ _ i hi) Tryz.underlying135 rfl Tryz.sizeActs (by omega)) rfl ⟨(zaa HF2).trans1 hf7 (Or.inr (Nat.le_refl _)), false, fun _ => false, by congr 2; funext i; rw [Nat.zero_add], fun e => absurd e (zaa HNN)⟩
def sgnX (s : ByteArray) : Bool := decide (s.size = 1) && sigB (ch s 0)
def ActsO (t : ByteArray) (n : Int) (s y : ByteArray) (x : Nat) : Prop :=
 (TErr t x ∧ x ≠ 0 ∧ y = ⟨#[]⟩) ∨ ∃ S c, TGood t S c ∧ ((¬ (0 ≤ n ∧ n < S.length) ∧ x = 7 ∧ y = ⟨#[]⟩) ∨ ((0 ≤ n ∧ n < S.length) ∧ sgnX s = false ∧ x = 5 ∧ y = ⟨#[]⟩) ∨ ((0 ≤ n ∧ n < S.length) ∧ sgnX s = true ∧ x = 0 ∧ y = ⟨(acL (zbo S n.toNat (ch s 0) != -1) (ruS (plT t) (sget S n.toNat).A (ch s 0)) 9).toArray⟩))
set_option maxRecDepth 100000 in
set_option maxHeartbeats 2000000 in
theorem p_Acts (t : ByteArray) (n : Int) (s : ByteArray) (w : World) (ht : t.size ≤ 9223372036854775807) :
 Calls Tryz.prog 28 #[.string t, .int .i64 n, .string s] w fun e w' => Fr [] w w' ∧ ∃ (y : ByteArray) (x : Nat), e = .returned (.tuple #[.string y, .int .i64 x]) ∧ ActsO t n s y x := by
 by_cases h1 : s.size = 1
 ·have hc0 : ((s[0]'(by omega)).toNat : Int) = ((ch s 0 : Nat) : Int) := by rw [za8 s 0 (by omega)]
  have h1i : ((s.size : Int) != 1) = false := by rw [bne_eq_false_iff_eq]; omega
  obtain ⟨c, hc⟩ : ∃ c, ch s 0 = c := ⟨_, rfl⟩
  have HW := hide (show sgnX s = sigB c from by unfold sgnX; rw [hc]; simp [h1])
  rw [hc] at hc0
  have HCC := hide hc
  clear hc
  cases hl : sigB c
  ·rw [hl] at HW
   go_enter Tryz.func28, Tryz.ntmps28
   go_wp2_with (first
    | (go_at_call 71; refine (zbg t w ht).mono ?_; rintro e w1 ⟨f, rfl, hT⟩; obtain ⟨x, ao, l, cap, hx1, hx0, hx2, hx3⟩ := hT.parts; have HX1 := hide hx1; have HX2 := hide hx2; have HX3 := hide hx3; have HO := hide hT.2.1; have HF1 := hide hT.1; clear hT hx1 hx2 hx3 hx0)
    | (refine zab rfl 79 rfl (some 8) rfl 1362 _ Tryz.zeroTbl ?_; intro w2 hf2 hs2 hB2; have HF2 := hide hf2; have HB2 := hide hB2; clear hf2 hB2 hs2)
    | (refine zac rfl 79 (.tmp 8) (.tmp 11) rfl w1.heap.size 0 1362 1362 zTb f rfl rfl (by exact zaa HB2) Tryz.sizeTbl (by omega) (by exact zaa HO) ?_; intro w3 hf3 hs3 hB3; have HF3 := hide hf3; have HB3 := hide hB3; have HFw := hide (show Fr [] w w3 from ((zaa HF1).trans0 (zaa HF2)).trans1 hf3 (Or.inr (zaa HF1).size)); have c6 := (hB3.cell 1361 (by omega)).trans (congrArg some ((zag _ _ _ _ (by omega)).trans (zaa HX1))); clear hf3 hB3 hs3)
    | (go_at_call 73; obtain ⟨S, c2, base, hG, hlS, hfi, hrow⟩ := zaa HX3 (by (have h : ((x : Int) != 0) = false := (by assumption); have : (x : Int) = 0 := (by simpa using h); omega)); have HTB := hide (zco.lay hfi hrow (zaa HF2) (zaa HF3) (zaa HB3)); have HGd := hide hG; refine (zbh w1.heap.size base (plT t) _ S c2 0 n _ (by exact zaa HTB)).mono ?_; rintro e w' ⟨rfl, hw'⟩; rw [hw']; clear hG hlS hfi hrow)
    | (go_at_call 77; refine (p_isSign c _).mono ?_; rintro e w' ⟨rfl, hw'⟩; rw [hw', hl]))
   ·have hff : ((x : Int) != 0) = true := by assumption
    have hx0 : x ≠ 0 := fun e => by rw [e] at hff; cases hff
    go_quiet (fail)
    go_wp2
    go_ret2
    exact ⟨(zaa HFw).trans0 (zal _ _), ⟨#[]⟩, x, rfl, Or.inl ⟨zaa HX2 hx0, hx0, rfl⟩⟩
   ·have hh : (!decide (0 ≤ n)) = true ∨ (!decide (n < S.length)) = true := by assumption
    have hh2 : ¬ (0 ≤ n ∧ n < S.length) := by simp at hh; omega
    go_ret2
    exact ⟨zaa HFw, ⟨#[]⟩, 7, rfl, Or.inr ⟨S, c2, zaa HGd, Or.inl ⟨hh2, rfl, rfl⟩⟩⟩
   ·have hh : (!decide (0 ≤ n)) = false ∧ (!decide (n < S.length)) = false := by assumption
    have hh2 : 0 ≤ n ∧ n < S.length := by simpa using hh
    go_ret2
    exact ⟨zaa HFw, ⟨#[]⟩, 5, rfl, Or.inr ⟨S, c2, zaa HGd, Or.inr (Or.inl ⟨hh2, zaa HW, rfl, rfl⟩)⟩⟩
  ·rw [hl] at HW
   go_enter Tryz.func28, Tryz.ntmps28
   go_wp2_with (first
    | (go_at_call 71; refine (zbg t w ht).mono ?_; rintro e w1 ⟨f, rfl, hT⟩; obtain ⟨x, ao, l, cap, hx1, hx0, hx2, hx3⟩ := hT.parts; have HX1 := hide hx1; have HX2 := hide hx2; have HX3 := hide hx3; have HO := hide hT.2.1; have HF1 := hide hT.1; clear hT hx1 hx2 hx3 hx0)
    | (refine zab rfl 79 rfl (some 8) rfl 1362 _ Tryz.zeroTbl ?_; intro w2 hf2 hs2 hB2; have HF2 := hide hf2; have HB2 := hide hB2; clear hf2 hB2 hs2)
    | (refine zac rfl 79 (.tmp 8) (.tmp 11) rfl w1.heap.size 0 1362 1362 zTb f rfl rfl (by exact zaa HB2) Tryz.sizeTbl (by omega) (by exact zaa HO) ?_; intro w3 hf3 hs3 hB3; have HF3 := hide hf3; have HB3 := hide hB3; have HFw := hide (show Fr [] w w3 from ((zaa HF1).trans0 (zaa HF2)).trans1 hf3 (Or.inr (zaa HF1).size)); have c6 := (hB3.cell 1361 (by omega)).trans (congrArg some ((zag _ _ _ _ (by omega)).trans (zaa HX1))); clear hf3 hB3 hs3)
    | (go_at_call 73; obtain ⟨S, c2, base, hG, hlS, hfi, hrow⟩ := zaa HX3 (by (have h : ((x : Int) != 0) = false := (by assumption); have : (x : Int) = 0 := (by simpa using h); omega)); have HTB := hide (zco.lay hfi hrow (zaa HF2) (zaa HF3) (zaa HB3)); have HGd := hide hG; refine (zbh w1.heap.size base (plT t) _ S c2 0 n _ (by exact zaa HTB)).mono ?_; rintro e w' ⟨rfl, hw'⟩; rw [hw']; clear hG hlS hfi hrow)
    | (go_at_call 77; refine (p_isSign c _).mono ?_; rintro e w' ⟨rfl, hw'⟩; rw [hw', hl])
    | (go_at_call 78; refine (p_actsI w1.heap.size base c n (plT t) _ S c2 0 w3 (by exact zaa HTB) hl).mono ?_; rintro e w4 ⟨hf4, st, ru, rfl, hsr⟩; have HF4 := hide ((zaa HFw).trans0 hf4); have HSR := hide hsr; clear hf4 hsr)
    | (refine zab rfl 135 rfl (some 9) rfl 10 _ Tryz.zeroActs ?_; intro w5 hf5 hs5 hB5; have HF5 := hide ((zaa HF4).trans0 hf5); have HB5 := hide hB5; clear hf5 hB5)
    | (refine zac rfl 135 (.tmp 9) (.tmp 32) rfl w4.heap.size 0 10 10 (acF false fun _ => false) (acF st ru) rfl rfl (by exact zaa HB5) Tryz.sizeActs (by omega) (zb7 st ru 10) ?_; intro w6 hf6 hs6 hB6; have HF6 := hide ((zaa HF5).trans1 hf6 (Or.inr (zaa HF4).size)); have HB6 := hide (show Blk w6 w4.heap.size 10 (acF st ru) from hB6.congr fun i hi => zag _ _ _ i hi); clear hf6 hB6)
    | (go_at_call 79; refine (p_alist w4.heap.size st ru w6 (by exact zaa HB6)).mono ?_; rintro e w7 ⟨rfl, hf7⟩; have HF7 := hide ((zaa HF6).trans0 hf7); clear hf7))
   ·have hff : ((x : Int) != 0) = true := by assumption
    have hx0 : x ≠ 0 := fun e => by rw [e] at hff; cases hff
    go_quiet (fail)
    go_wp2
    go_ret2
    exact ⟨(zaa HFw).trans0 (zal _ _), ⟨#[]⟩, x, rfl, Or.inl ⟨zaa HX2 hx0, hx0, rfl⟩⟩
   ·have hh : (!decide (0 ≤ n)) = true ∨ (!decide (n < S.length)) = true := by assumption
    have hh2 : ¬ (0 ≤ n ∧ n < S.length) := by simp at hh; omega
    go_ret2
    exact ⟨zaa HFw, ⟨#[]⟩, 7, rfl, Or.inr ⟨S, c2, zaa HGd, Or.inl ⟨hh2, rfl, rfl⟩⟩⟩
   ·have hh : (!decide (0 ≤ n)) = false ∧ (!decide (n < S.length)) = false := by assumption
    have hh2 : 0 ≤ n ∧ n < S.length := by simpa using hh
    go_ret2
    obtain ⟨e1, e2⟩ := zaa HSR hh2
    exact ⟨zaa HF7, _, 0, rfl, Or.inr ⟨S, c2, zaa HGd, Or.inr (Or.inr ⟨hh2, zaa HW, rfl, by rw [e1, e2, zaa HCC]⟩)⟩⟩
 ·have h1i : ((s.size : Int) != 1) = true := by rw [bne_iff_ne]; omega
  have HW := hide (show sgnX s = false from by unfold sgnX; rw [show decide (s.size = 1) = false from by simpa using h1]; rfl)
  clear h1
  go_enter Tryz.func28, Tryz.ntmps28
  go_wp2_with (first
   | (go_at_call 71; refine (zbg t w ht).mono ?_; rintro e w1 ⟨f, rfl, hT⟩; obtain ⟨x, ao, l, cap, hx1, hx0, hx2, hx3⟩ := hT.parts; have HX1 := hide hx1; have HX2 := hide hx2; have HX3 := hide hx3; have HO := hide hT.2.1; have HF1 := hide hT.1; clear hT hx1 hx2 hx3 hx0)
   | (refine zab rfl 79 rfl (some 8) rfl 1362 _ Tryz.zeroTbl ?_; intro w2 hf2 hs2 hB2; have HF2 := hide hf2; have HB2 := hide hB2; clear hf2 hB2 hs2)
   | (refine zac rfl 79 (.tmp 8) (.tmp 11) rfl w1.heap.size 0 1362 1362 zTb f rfl rfl (by exact zaa HB2) Tryz.sizeTbl (by omega) (by exact zaa HO) ?_; intro w3 hf3 hs3 hB3; have HF3 := hide hf3; have HB3 := hide hB3; have HFw := hide (show Fr [] w w3 from ((zaa HF1).trans0 (zaa HF2)).trans1 hf3 (Or.inr (zaa HF1).size)); have c6 := (hB3.cell 1361 (by omega)).trans (congrArg some ((zag _ _ _ _ (by omega)).trans (zaa HX1))); clear hf3 hB3 hs3)
   | (go_at_call 73; obtain ⟨S, c2, base, hG, hlS, hfi, hrow⟩ := zaa HX3 (by (have h : ((x : Int) != 0) = false := (by assumption); have : (x : Int) = 0 := (by simpa using h); omega)); have HTB := hide (zco.lay hfi hrow (zaa HF2) (zaa HF3) (zaa HB3)); have HGd := hide hG; refine (zbh w1.heap.size base (plT t) _ S c2 0 n _ (by exact zaa HTB)).mono ?_; rintro e w' ⟨rfl, hw'⟩; rw [hw']; clear hG hlS hfi hrow))
  ·have hff : ((x : Int) != 0) = true := by assumption
   have hx0 : x ≠ 0 := fun e => by rw [e] at hff; cases hff
   go_quiet (fail)
   go_wp2
   go_ret2
   exact ⟨(zaa HFw).trans0 (zal _ _), ⟨#[]⟩, x, rfl, Or.inl ⟨zaa HX2 hx0, hx0, rfl⟩⟩
  ·have hh : (!decide (0 ≤ n)) = true ∨ (!decide (n < S.length)) = true := by assumption
   have hh2 : ¬ (0 ≤ n ∧ n < S.length) := by simp at hh; omega
   go_ret2
   exact ⟨zaa HFw, ⟨#[]⟩, 7, rfl, Or.inr ⟨S, c2, zaa HGd, Or.inl ⟨hh2, rfl, rfl⟩⟩⟩
  ·have hh : (!decide (0 ≤ n)) = false ∧ (!decide (n < S.length)) = false := by assumption
   have hh2 : 0 ≤ n ∧ n < S.length := by simpa using hh
   go_ret2
   exact ⟨zaa HFw, ⟨#[]⟩, 5, rfl, Or.inr ⟨S, c2, zaa HGd, Or.inr (Or.inl ⟨hh2, zaa HW, rfl, rfl⟩)⟩⟩
end Go.Proofs.YtkglggkkbmmjkabGreatDoor
