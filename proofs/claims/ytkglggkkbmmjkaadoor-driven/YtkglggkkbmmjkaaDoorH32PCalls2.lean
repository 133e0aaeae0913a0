import Derived.Test.YtkglggkkbmmjkaaDoorH31PCalls
namespace Go.Proofs.YtkglggkkbmmjkaaDoor
open Go.RowKit

/-- where a letter leads from a state, if there is such a state -/
def stepToI (S : List Sd) (n : Int) (c : Nat) : Int := if 0 ≤ n ∧ n < S.length then stepTo S n.toNat c else -1
set_option maxHeartbeats 1000000 in
/-- table.step, whatever the number -/
theorem p_tstepI (tb base c : Nat) (n : Int) (p : Pl) (v : Value) (S : List Sd) (cores fault : Nat) (w : World) (h : TbR w tb base p v S cores fault) :
    Calls Tryd.prog 29 #[.pointer (some ⟨tb, 0, none⟩), .int .i64 n, .int .u8 c] w fun e w' => e = .returned (.int .i64 (stepToI S n c)) ∧ w' = w := by
  by_cases hn : 0 ≤ n ∧ n < S.length
  · have hk : n = (n.toNat : Nat) := by omega
    have := p_tstep tb base n.toNat c p v S cores fault w h (by omega)
    unfold stepToI
    rw [if_pos hn]
    rw [← hk] at this
    exact this
  · have HS := hide (show stepToI S n c = -1 from if_neg hn)
    have hhs : (decide (0 ≤ n) && decide (n < S.length)) = false := by
      rw [Bool.and_eq_false_iff, decide_eq_false_iff_not, decide_eq_false_iff_not]; omega
    have H := hide h
    clear h hn
    cases hc : letB c
    · have HC := hide hc
      clear hc
      go_enter Tryd.func29, Tryd.ntmps29
      go_wp2_with (first
        | (go_at_call 45; refine (p_letterIndex_not _ _ (unhide HC)).mono ?_; rintro e w' ⟨rfl, hw'⟩; rw [hw'])
        | (go_at_call 24; refine (p_hasStateR tb base p v S cores fault n _ (by exact unhide H)).mono ?_; rintro e w' ⟨rfl, hw'⟩; rw [hw', hhs]))
      go_ret
      exact ⟨ret_int (unhide HS).symm, rfl⟩
    · have HC := hide hc
      clear hc
      go_enter Tryd.func29, Tryd.ntmps29
      go_wp2_with (first
        | (go_at_call 45; refine (p_letterIndex _ _ (unhide HC)).mono ?_; rintro e w' ⟨rfl, hw'⟩; rw [hw'])
        | (go_at_call 24; refine (p_hasStateR tb base p v S cores fault n _ (by exact unhide H)).mono ?_; rintro e w' ⟨rfl, hw'⟩; rw [hw', hhs]))
      go_ret
      exact ⟨ret_int (unhide HS).symm, rfl⟩

/-- a word that is one letter -/
def ltrW (s : ByteArray) : Bool := decide (s.size = 1) && letB (ch s 0)
/-- what Step hands back -/
def StepO (t : ByteArray) (n : Int) (s : ByteArray) (y : Int) (x : Nat) : Prop :=
  (TErr t x ∧ x ≠ 0 ∧ y = 0) ∨ ∃ S c, TGood t S c ∧ ((¬ (0 ≤ n ∧ n < S.length) ∧ x = 7 ∧ y = 0) ∨ ((0 ≤ n ∧ n < S.length) ∧ ltrW s = false ∧ x = 5 ∧ y = 0) ∨ ((0 ≤ n ∧ n < S.length) ∧ ltrW s = true ∧ x = 0 ∧ y = stepTo S n.toNat (ch s 0)))

set_option maxRecDepth 100000 in
set_option maxHeartbeats 2000000 in
/-- Step -/
theorem p_Step (t : ByteArray) (n : Int) (s : ByteArray) (w : World) (ht : t.size ≤ 9223372036854775807) :
    Calls Tryd.prog 14 #[.string t, .int .i64 n, .string s] w fun e w' => Fr [] w w' ∧ ∃ (y : Int) (x : Nat), e = .returned (.tuple #[.int .i64 y, .int .i64 x]) ∧ StepO t n s y x := by
  by_cases h1 : s.size = 1
  · have hc0 : ((s[0]'(by omega)).toNat : Int) = ((ch s 0 : Nat) : Int) := by rw [ch_eq s 0 (by omega)]
    have h1i : ((s.size : Int) != 1) = false := by rw [bne_eq_false_iff_eq]; omega
    obtain ⟨c, hc⟩ : ∃ c, ch s 0 = c := ⟨_, rfl⟩
    have HW := hide (show ltrW s = letB c from by unfold ltrW; rw [hc]; simp [h1])
    rw [hc] at hc0
    have HCC := hide hc
    clear hc
    cases hl : letB c
    · rw [hl] at HW
      go_enter Tryd.func14, Tryd.ntmps14
      go_wp2_with (first
        | (go_at_call 23; refine (p_readTable t w ht).mono ?_; rintro e w1 ⟨f, rfl, hT⟩; obtain ⟨x, ao, l, cap, hx1, hx0, hx2, hx3⟩ := hT.parts; have HX1 := hide hx1; have HX2 := hide hx2; have HX3 := hide hx3; have HO := hide hT.2.1; have HF1 := hide hT.1; clear hT hx1 hx2 hx3 hx0)
        | (refine wpList_alloc_blk rfl 57 rfl (some 8) rfl 1362 _ Tryd.zeroTbl ?_; intro w2 hf2 hs2 hB2; have HF2 := hide hf2; have HB2 := hide hB2; clear hf2 hB2 hs2)
        | (refine wpList_store_blk rfl 57 (.tmp 8) (.tmp 10) rfl w1.heap.size 0 1362 1362 zTb f rfl rfl (by exact unhide HB2) Tryd.sizeTbl (by omega) (by exact unhide HO) ?_; intro w3 hf3 hs3 hB3; have HF3 := hide hf3; have HB3 := hide hB3; have HFw := hide (show Fr [] w w3 from ((unhide HF1).trans0 (unhide HF2)).trans1 hf3 (Or.inr (unhide HF1).size)); have c6 := (hB3.cell 1361 (by omega)).trans (congrArg some ((lay_all _ _ _ _ (by omega)).trans (unhide HX1))); clear hf3 hB3 hs3)
        | (go_at_call 24; obtain ⟨S, c2, base, hG, hlS, hfi, hrow⟩ := unhide HX3 (by (have h : ((x : Int) != 0) = false := (by assumption); have : (x : Int) = 0 := (by simpa using h); omega)); have HTB := hide (TabOut.lay hfi hrow (unhide HF2) (unhide HF3) (unhide HB3)); have HGd := hide hG; refine (p_hasStateR w1.heap.size base (plT t) _ S c2 0 n _ (by exact unhide HTB)).mono ?_; rintro e w' ⟨rfl, hw'⟩; rw [hw']; clear hG hlS hfi hrow)
        | (go_at_call 28; refine (p_isLetter c _).mono ?_; rintro e w' ⟨rfl, hw'⟩; rw [hw', hl]))
      · have hff : ((x : Int) != 0) = true := by assumption
        have hx0 : x ≠ 0 := fun e => by rw [e] at hff; cases hff
        go_quiet (fail)
        go_wp2
        go_ret2
        exact ⟨(unhide HFw).trans0 (fr_drewN _ _), 0, x, rfl, Or.inl ⟨unhide HX2 hx0, hx0, rfl⟩⟩
      · have hh : (!decide (0 ≤ n)) = true ∨ (!decide (n < S.length)) = true := by assumption
        have hh2 : ¬ (0 ≤ n ∧ n < S.length) := by simp at hh; omega
        go_ret2
        exact ⟨unhide HFw, 0, 7, rfl, Or.inr ⟨S, c2, unhide HGd, Or.inl ⟨hh2, rfl, rfl⟩⟩⟩
      · have hh : (!decide (0 ≤ n)) = false ∧ (!decide (n < S.length)) = false := by assumption
        have hh2 : 0 ≤ n ∧ n < S.length := by simpa using hh
        go_ret2
        exact ⟨unhide HFw, 0, 5, rfl, Or.inr ⟨S, c2, unhide HGd, Or.inr (Or.inl ⟨hh2, unhide HW, rfl, rfl⟩)⟩⟩
    · rw [hl] at HW
      go_enter Tryd.func14, Tryd.ntmps14
      go_wp2_with (first
        | (go_at_call 23; refine (p_readTable t w ht).mono ?_; rintro e w1 ⟨f, rfl, hT⟩; obtain ⟨x, ao, l, cap, hx1, hx0, hx2, hx3⟩ := hT.parts; have HX1 := hide hx1; have HX2 := hide hx2; have HX3 := hide hx3; have HO := hide hT.2.1; have HF1 := hide hT.1; clear hT hx1 hx2 hx3 hx0)
        | (refine wpList_alloc_blk rfl 57 rfl (some 8) rfl 1362 _ Tryd.zeroTbl ?_; intro w2 hf2 hs2 hB2; have HF2 := hide hf2; have HB2 := hide hB2; clear hf2 hB2 hs2)
        | (refine wpList_store_blk rfl 57 (.tmp 8) (.tmp 10) rfl w1.heap.size 0 1362 1362 zTb f rfl rfl (by exact unhide HB2) Tryd.sizeTbl (by omega) (by exact unhide HO) ?_; intro w3 hf3 hs3 hB3; have HF3 := hide hf3; have HB3 := hide hB3; have HFw := hide (show Fr [] w w3 from ((unhide HF1).trans0 (unhide HF2)).trans1 hf3 (Or.inr (unhide HF1).size)); have c6 := (hB3.cell 1361 (by omega)).trans (congrArg some ((lay_all _ _ _ _ (by omega)).trans (unhide HX1))); clear hf3 hB3 hs3)
        | (go_at_call 24; obtain ⟨S, c2, base, hG, hlS, hfi, hrow⟩ := unhide HX3 (by (have h : ((x : Int) != 0) = false := (by assumption); have : (x : Int) = 0 := (by simpa using h); omega)); have HTB := hide (TabOut.lay hfi hrow (unhide HF2) (unhide HF3) (unhide HB3)); have HGd := hide hG; refine (p_hasStateR w1.heap.size base (plT t) _ S c2 0 n _ (by exact unhide HTB)).mono ?_; rintro e w' ⟨rfl, hw'⟩; rw [hw']; clear hG hlS hfi hrow)
        | (go_at_call 28; refine (p_isLetter c _).mono ?_; rintro e w' ⟨rfl, hw'⟩; rw [hw', hl])
        | (go_at_call 29; refine (p_tstepI w1.heap.size base c n (plT t) _ S c2 0 _ (by exact unhide HTB)).mono ?_; rintro e w' ⟨rfl, hw'⟩; rw [hw']))
      · have hff : ((x : Int) != 0) = true := by assumption
        have hx0 : x ≠ 0 := fun e => by rw [e] at hff; cases hff
        go_quiet (fail)
        go_wp2
        go_ret2
        exact ⟨(unhide HFw).trans0 (fr_drewN _ _), 0, x, rfl, Or.inl ⟨unhide HX2 hx0, hx0, rfl⟩⟩
      · have hh : (!decide (0 ≤ n)) = true ∨ (!decide (n < S.length)) = true := by assumption
        have hh2 : ¬ (0 ≤ n ∧ n < S.length) := by simp at hh; omega
        go_ret2
        exact ⟨unhide HFw, 0, 7, rfl, Or.inr ⟨S, c2, unhide HGd, Or.inl ⟨hh2, rfl, rfl⟩⟩⟩
      · have hh : (!decide (0 ≤ n)) = false ∧ (!decide (n < S.length)) = false := by assumption
        have hh2 : 0 ≤ n ∧ n < S.length := by simpa using hh
        go_ret2
        exact ⟨unhide HFw, stepToI S n c, 0, rfl, Or.inr ⟨S, c2, unhide HGd, Or.inr (Or.inr ⟨hh2, unhide HW, rfl, by unfold stepToI; rw [if_pos hh2, unhide HCC]⟩)⟩⟩
  · have h1i : ((s.size : Int) != 1) = true := by rw [bne_iff_ne]; omega
    have HW := hide (show ltrW s = false from by unfold ltrW; rw [show decide (s.size = 1) = false from by simpa using h1]; rfl)
    clear h1
    go_enter Tryd.func14, Tryd.ntmps14
    go_wp2_with (first
      | (go_at_call 23; refine (p_readTable t w ht).mono ?_; rintro e w1 ⟨f, rfl, hT⟩; obtain ⟨x, ao, l, cap, hx1, hx0, hx2, hx3⟩ := hT.parts; have HX1 := hide hx1; have HX2 := hide hx2; have HX3 := hide hx3; have HO := hide hT.2.1; have HF1 := hide hT.1; clear hT hx1 hx2 hx3 hx0)
      | (refine wpList_alloc_blk rfl 57 rfl (some 8) rfl 1362 _ Tryd.zeroTbl ?_; intro w2 hf2 hs2 hB2; have HF2 := hide hf2; have HB2 := hide hB2; clear hf2 hB2 hs2)
      | (refine wpList_store_blk rfl 57 (.tmp 8) (.tmp 10) rfl w1.heap.size 0 1362 1362 zTb f rfl rfl (by exact unhide HB2) Tryd.sizeTbl (by omega) (by exact unhide HO) ?_; intro w3 hf3 hs3 hB3; have HF3 := hide hf3; have HB3 := hide hB3; have HFw := hide (show Fr [] w w3 from ((unhide HF1).trans0 (unhide HF2)).trans1 hf3 (Or.inr (unhide HF1).size)); have c6 := (hB3.cell 1361 (by omega)).trans (congrArg some ((lay_all _ _ _ _ (by omega)).trans (unhide HX1))); clear hf3 hB3 hs3)
      | (go_at_call 24; obtain ⟨S, c2, base, hG, hlS, hfi, hrow⟩ := unhide HX3 (by (have h : ((x : Int) != 0) = false := (by assumption); have : (x : Int) = 0 := (by simpa using h); omega)); have HTB := hide (TabOut.lay hfi hrow (unhide HF2) (unhide HF3) (unhide HB3)); have HGd := hide hG; refine (p_hasStateR w1.heap.size base (plT t) _ S c2 0 n _ (by exact unhide HTB)).mono ?_; rintro e w' ⟨rfl, hw'⟩; rw [hw']; clear hG hlS hfi hrow))
    · have hff : ((x : Int) != 0) = true := by assumption
      have hx0 : x ≠ 0 := fun e => by rw [e] at hff; cases hff
      go_quiet (fail)
      go_wp2
      go_ret2
      exact ⟨(unhide HFw).trans0 (fr_drewN _ _), 0, x, rfl, Or.inl ⟨unhide HX2 hx0, hx0, rfl⟩⟩
    · have hh : (!decide (0 ≤ n)) = true ∨ (!decide (n < S.length)) = true := by assumption
      have hh2 : ¬ (0 ≤ n ∧ n < S.length) := by simp at hh; omega
      go_ret2
      exact ⟨unhide HFw, 0, 7, rfl, Or.inr ⟨S, c2, unhide HGd, Or.inl ⟨hh2, rfl, rfl⟩⟩⟩
    · have hh : (!decide (0 ≤ n)) = false ∧ (!decide (n < S.length)) = false := by assumption
      have hh2 : 0 ≤ n ∧ n < S.length := by simpa using hh
      go_ret2
      exact ⟨unhide HFw, 0, 5, rfl, Or.inr ⟨S, c2, unhide HGd, Or.inr (Or.inl ⟨hh2, unhide HW, rfl, rfl⟩)⟩⟩
end Go.Proofs.YtkglggkkbmmjkaaDoor
