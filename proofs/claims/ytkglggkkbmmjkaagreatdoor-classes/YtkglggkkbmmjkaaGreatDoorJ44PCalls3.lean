import Derived.Test.YtkglggkkbmmjkaaGreatDoorJ43PCalls
namespace Go.Proofs.YtkglggkkbmmjkaaGreatDoor
open Go.RowKit

/-- where a letter leads from a state, if there is such a state -/
def stepToI (S : List Sd) (n : Int) (c : Nat) : Int := if 0 ≤ n ∧ n < S.length then stepTo S n.toNat c else -1
set_option maxHeartbeats 1000000 in
/-- table.step, whatever the number -/
theorem p_tstepI (tb base c : Nat) (n : Int) (p : Pl) (v : Value) (S : List Sd) (cores fault : Nat) (w : World) (h : TbR w tb base p v S cores fault) :
    Calls Tryz.prog 82 #[.pointer (some ⟨tb, 0, none⟩), .int .i64 n, .int .u8 c] w fun e w' => e = .returned (.int .i64 (stepToI S n c)) ∧ w' = w := by
  by_cases hn : 0 ≤ n ∧ n < S.length
  · have hk : n = (n.toNat : Nat) := by omega
    have := p_tstep tb base n.toNat c p v S cores fault w h (by omega)
    unfold stepToI
    rw [if_pos hn]
    rw [← hk] at this
    exact this
  · have HS := hide (show stepToI S n c = -1 from if_neg hn)
    have hhs : (decide (0 ≤ n) && decide (n < S.length)) = false := by
      rw [Bool.and_eq_false_iff, decide_eq_false_iff_not, decide_eq_false_iff_not]; omega
    have H := hide h
    clear h hn
    cases hc : letB c
    · have HC := hide hc
      clear hc
      go_enter Tryz.func82, Tryz.ntmps82
      go_wp2_with (first
        | (go_at_call 125; refine (p_letterIndex_not _ _ (unhide HC)).mono ?_; rintro e w' ⟨rfl, hw'⟩; rw [hw'])
        | (go_at_call 80; refine (p_hasStateR tb base p v S cores fault n _ (by exact unhide H)).mono ?_; rintro e w' ⟨rfl, hw'⟩; rw [hw', hhs]))
      go_ret
      exact ⟨ret_int (unhide HS).symm, rfl⟩
    · have HC := hide hc
      clear hc
      go_enter Tryz.func82, Tryz.ntmps82
      go_wp2_with (first
        | (go_at_call 125; refine (p_letterIndex _ _ (unhide HC)).mono ?_; rintro e w' ⟨rfl, hw'⟩; rw [hw'])
        | (go_at_call 80; refine (p_hasStateR tb base p v S cores fault n _ (by exact unhide H)).mono ?_; rintro e w' ⟨rfl, hw'⟩; rw [hw', hhs]))
      go_ret
      exact ⟨ret_int (unhide HS).symm, rfl⟩

/-- a word that is one letter -/
def ltrW (s : ByteArray) : Bool := decide (s.size = 1) && letB (ch s 0)
/-- what Step hands back -/
def StepO (t : ByteArray) (n : Int) (s : ByteArray) (y : Int) (x : Nat) : Prop :=
  (TErr t x ∧ x ≠ 0 ∧ y = 0) ∨ ∃ S c, TGood t S c ∧ ((¬ (0 ≤ n ∧ n < S.length) ∧ x = 7 ∧ y = 0) ∨ ((0 ≤ n ∧ n < S.length) ∧ ltrW s = false ∧ x = 5 ∧ y = 0) ∨ ((0 ≤ n ∧ n < S.length) ∧ ltrW s = true ∧ x = 0 ∧ y = stepTo S n.toNat (ch s 0)))

set_option maxRecDepth 100000 in
set_option maxHeartbeats 2000000 in
/-- Step -/
theorem p_Step (t : ByteArray) (n : Int) (s : ByteArray) (w : World) (ht : t.size ≤ 9223372036854775807) :
    Calls Tryz.prog 33 #[.string t, .int .i64 n, .string s] w fun e w' => Fr [] w w' ∧ ∃ (y : Int) (x : Nat), e = .returned (.tuple #[.int .i64 y, .int .i64 x]) ∧ StepO t n s y x := by
  by_cases h1 : s.size = 1
  · have hc0 : ((s[0]'(by omega)).toNat : Int) = ((ch s 0 : Nat) : Int) := by rw [ch_eq s 0 (by omega)]
    have h1i : ((s.size : Int) != 1) = false := by rw [bne_eq_false_iff_eq]; omega
    obtain ⟨c, hc⟩ : ∃ c, ch s 0 = c := ⟨_, rfl⟩
    have HW := hide (show ltrW s = letB c from by unfold ltrW; rw [hc]; simp [h1])
    rw [hc] at hc0
    have HCC := hide hc
    clear hc
    cases hl : letB c
    · rw [hl] at HW
      go_enter Tryz.func33, Tryz.ntmps33
      go_wp2_with (first
        | (go_at_call 78; refine (p_readTable t w ht).mono ?_; rintro e w1 ⟨f, rfl, hT⟩; obtain ⟨x, ao, l, cap, hx1, hx0, hx2, hx3⟩ := hT.parts; have HX1 := hide hx1; have HX2 := hide hx2; have HX3 := hide hx3; have HO := hide hT.2.1; have HF1 := hide hT.1; clear hT hx1 hx2 hx3 hx0)
        | (refine wpList_alloc_blk rfl 79 rfl (some 8) rfl 1362 _ Tryz.zeroTbl ?_; intro w2 hf2 hs2 hB2; have HF2 := hide hf2; have HB2 := hide hB2; clear hf2 hB2 hs2)
        | (refine wpList_store_blk rfl 79 (.tmp 8) (.tmp 10) rfl w1.heap.size 0 1362 1362 zTb f rfl rfl (by exact unhide HB2) Tryz.sizeTbl (by omega) (by exact unhide HO) ?_; intro w3 hf3 hs3 hB3; have HF3 := hide hf3; have HB3 := hide hB3; have HFw := hide (show Fr [] w w3 from ((unhide HF1).trans0 (unhide HF2)).trans1 hf3 (Or.inr (unhide HF1).size)); have c6 := (hB3.cell 1361 (by omega)).trans (congrArg some ((lay_all _ _ _ _ (by omega)).trans (unhide HX1))); clear hf3 hB3 hs3)
        | (go_at_call 80; obtain ⟨S, c2, base, hG, hlS, hfi, hrow⟩ := unhide HX3 (by (have h : ((x : Int) != 0) = false := (by assumption); have : (x : Int) = 0 := (by simpa using h); omega)); have HTB := hide (TabOut.lay hfi hrow (unhide HF2) (unhide HF3) (unhide HB3)); have HGd := hide hG; refine (p_hasStateR w1.heap.size base (plT t) _ S c2 0 n _ (by exact unhide HTB)).mono ?_; rintro e w' ⟨rfl, hw'⟩; rw [hw']; clear hG hlS hfi hrow)
        | (go_at_call 81; refine (p_isLetter c _).mono ?_; rintro e w' ⟨rfl, hw'⟩; rw [hw', hl]))
      · have hff : ((x : Int) != 0) = true := by assumption
        have hx0 : x ≠ 0 := fun e => by rw [e] at hff; cases hff
        go_quiet (fail)
        go_wp2
        go_ret2
        exact ⟨(unhide HFw).trans0 (fr_drewN _ _), 0, x, rfl, Or.inl ⟨unhide HX2 hx0, hx0, rfl⟩⟩
      · have hh : (!decide (0 ≤ n)) = true ∨ (!decide (n < S.length)) = true := by assumption
        have hh2 : ¬ (0 ≤ n ∧ n < S.length) := by simp at hh; omega
        go_ret2
        exact ⟨unhide HFw, 0, 7, rfl, Or.inr ⟨S, c2, unhide HGd, Or.inl ⟨hh2, rfl, rfl⟩⟩⟩
      · have hh : (!decide (0 ≤ n)) = false ∧ (!decide (n < S.length)) = false := by assumption
        have hh2 : 0 ≤ n ∧ n < S.length := by simpa using hh
        go_ret2
        exact ⟨unhide HFw, 0, 5, rfl, Or.inr ⟨S, c2, unhide HGd, Or.inr (Or.inl ⟨hh2, unhide HW, rfl, rfl⟩)⟩⟩
    · rw [hl] at HW
      go_enter Tryz.func33, Tryz.ntmps33
      go_wp2_with (first
        | (go_at_call 78; refine (p_readTable t w ht).mono ?_; rintro e w1 ⟨f, rfl, hT⟩; obtain ⟨x, ao, l, cap, hx1, hx0, hx2, hx3⟩ := hT.parts; have HX1 := hide hx1; have HX2 := hide hx2; have HX3 := hide hx3; have HO := hide hT.2.1; have HF1 := hide hT.1; clear hT hx1 hx2 hx3 hx0)
        | (refine wpList_alloc_blk rfl 79 rfl (some 8) rfl 1362 _ Tryz.zeroTbl ?_; intro w2 hf2 hs2 hB2; have HF2 := hide hf2; have HB2 := hide hB2; clear hf2 hB2 hs2)
        | (refine wpList_store_blk rfl 79 (.tmp 8) (.tmp 10) rfl w1.heap.size 0 1362 1362 zTb f rfl rfl (by exact unhide HB2) Tryz.sizeTbl (by omega) (by exact unhide HO) ?_; intro w3 hf3 hs3 hB3; have HF3 := hide hf3; have HB3 := hide hB3; have HFw := hide (show Fr [] w w3 from ((unhide HF1).trans0 (unhide HF2)).trans1 hf3 (Or.inr (unhide HF1).size)); have c6 := (hB3.cell 1361 (by omega)).trans (congrArg some ((lay_all _ _ _ _ (by omega)).trans (unhide HX1))); clear hf3 hB3 hs3)
        | (go_at_call 80; obtain ⟨S, c2, base, hG, hlS, hfi, hrow⟩ := unhide HX3 (by (have h : ((x : Int) != 0) = false := (by assumption); have : (x : Int) = 0 := (by simpa using h); omega)); have HTB := hide (TabOut.lay hfi hrow (unhide HF2) (unhide HF3) (unhide HB3)); have HGd := hide hG; refine (p_hasStateR w1.heap.size base (plT t) _ S c2 0 n _ (by exact unhide HTB)).mono ?_; rintro e w' ⟨rfl, hw'⟩; rw [hw']; clear hG hlS hfi hrow)
        | (go_at_call 81; refine (p_isLetter c _).mono ?_; rintro e w' ⟨rfl, hw'⟩; rw [hw', hl])
        | (go_at_call 82; refine (p_tstepI w1.heap.size base c n (plT t) _ S c2 0 _ (by exact unhide HTB)).mono ?_; rintro e w' ⟨rfl, hw'⟩; rw [hw']))
      · have hff : ((x : Int) != 0) = true := by assumption
        have hx0 : x ≠ 0 := fun e => by rw [e] at hff; cases hff
        go_quiet (fail)
        go_wp2
        go_ret2
        exact ⟨(unhide HFw).trans0 (fr_drewN _ _), 0, x, rfl, Or.inl ⟨unhide HX2 hx0, hx0, rfl⟩⟩
      · have hh : (!decide (0 ≤ n)) = true ∨ (!decide (n < S.length)) = true := by assumption
        have hh2 : ¬ (0 ≤ n ∧ n < S.length) := by simp at hh; omega
        go_ret2
        exact ⟨unhide HFw, 0, 7, rfl, Or.inr ⟨S, c2, unhide HGd, Or.inl ⟨hh2, rfl, rfl⟩⟩⟩
      · have hh : (!decide (0 ≤ n)) = false ∧ (!decide (n < S.length)) = false := by assumption
        have hh2 : 0 ≤ n ∧ n < S.length := by simpa using hh
        go_ret2
        exact ⟨unhide HFw, stepToI S n c, 0, rfl, Or.inr ⟨S, c2, unhide HGd, Or.inr (Or.inr ⟨hh2, unhide HW, rfl, by unfold stepToI; rw [if_pos hh2, unhide HCC]⟩)⟩⟩
  · have h1i : ((s.size : Int) != 1) = true := by rw [bne_iff_ne]; omega
    have HW := hide (show ltrW s = false from by unfold ltrW; rw [show decide (s.size = 1) = false from by simpa using h1]; rfl)
    clear h1
    go_enter Tryz.func33, Tryz.ntmps33
    go_wp2_with (first
      | (go_at_call 78; refine (p_readTable t w ht).mono ?_; rintro e w1 ⟨f, rfl, hT⟩; obtain ⟨x, ao, l, cap, hx1, hx0, hx2, hx3⟩ := hT.parts; have HX1 := hide hx1; have HX2 := hide hx2; have HX3 := hide hx3; have HO := hide hT.2.1; have HF1 := hide hT.1; clear hT hx1 hx2 hx3 hx0)
      | (refine wpList_alloc_blk rfl 79 rfl (some 8) rfl 1362 _ Tryz.zeroTbl ?_; intro w2 hf2 hs2 hB2; have HF2 := hide hf2; have HB2 := hide hB2; clear hf2 hB2 hs2)
      | (refine wpList_store_blk rfl 79 (.tmp 8) (.tmp 10) rfl w1.heap.size 0 1362 1362 zTb f rfl rfl (by exact unhide HB2) Tryz.sizeTbl (by omega) (by exact unhide HO) ?_; intro w3 hf3 hs3 hB3; have HF3 := hide hf3; have HB3 := hide hB3; have HFw := hide (show Fr [] w w3 from ((unhide HF1).trans0 (unhide HF2)).trans1 hf3 (Or.inr (unhide HF1).size)); have c6 := (hB3.cell 1361 (by omega)).trans (congrArg some ((lay_all _ _ _ _ (by omega)).trans (unhide HX1))); clear hf3 hB3 hs3)
      | (go_at_call 80; obtain ⟨S, c2, base, hG, hlS, hfi, hrow⟩ := unhide HX3 (by (have h : ((x : Int) != 0) = false := (by assumption); have : (x : Int) = 0 := (by simpa using h); omega)); have HTB := hide (TabOut.lay hfi hrow (unhide HF2) (unhide HF3) (unhide HB3)); have HGd := hide hG; refine (p_hasStateR w1.heap.size base (plT t) _ S c2 0 n _ (by exact unhide HTB)).mono ?_; rintro e w' ⟨rfl, hw'⟩; rw [hw']; clear hG hlS hfi hrow))
    · have hff : ((x : Int) != 0) = true := by assumption
      have hx0 : x ≠ 0 := fun e => by rw [e] at hff; cases hff
      go_quiet (fail)
      go_wp2
      go_ret2
      exact ⟨(unhide HFw).trans0 (fr_drewN _ _), 0, x, rfl, Or.inl ⟨unhide HX2 hx0, hx0, rfl⟩⟩
    · have hh : (!decide (0 ≤ n)) = true ∨ (!decide (n < S.length)) = true := by assumption
      have hh2 : ¬ (0 ≤ n ∧ n < S.length) := by simp at hh; omega
      go_ret2
      exact ⟨unhide HFw, 0, 7, rfl, Or.inr ⟨S, c2, unhide HGd, Or.inl ⟨hh2, rfl, rfl⟩⟩⟩
    · have hh : (!decide (0 ≤ n)) = false ∧ (!decide (n < S.length)) = false := by assumption
      have hh2 : 0 ≤ n ∧ n < S.length := by simpa using hh
      go_ret2
      exact ⟨unhide HFw, 0, 5, rfl, Or.inr ⟨S, c2, unhide HGd, Or.inr (Or.inl ⟨hh2, unhide HW, rfl, rfl⟩)⟩⟩
end Go.Proofs.YtkglggkkbmmjkaaGreatDoor

namespace Go.Proofs.YtkglggkkbmmjkaaGreatDoor
open Go.RowKit

def AcIO (n : Int) (c : Nat) (p : Pl) (S : List Sd) (w : World) (e : Ending) (w' : World) : Prop := Fr [] w w' ∧ ∃ st ru, e = .returned (Agg 10 (acF st ru)) ∧ ((0 ≤ n ∧ n < S.length) → st = (stepTo S n.toNat c != -1) ∧ ru = ruS p (sget S n.toNat).A c)
set_option maxRecDepth 100000 in
set_option maxHeartbeats 1000000 in
/-- table.acts, whatever the number -/
theorem p_actsI (tb base c : Nat) (n : Int) (p : Pl) (v : Value) (S : List Sd) (cores fault : Nat) (w : World) (h : TbR w tb base p v S cores fault) (hc : sigB c = true) :
    Calls Tryz.prog 85 #[.pointer (some ⟨tb, 0, none⟩), .int .i64 n, .int .u8 c] w fun e w' => AcIO n c p S w e w' := by
  by_cases hn : 0 ≤ n ∧ n < S.length
  · have hk : n = (n.toNat : Nat) := by omega
    have := p_acts tb base n.toNat c p v S cores fault w h (by omega) hc
    rw [← hk] at this
    exact this.mono fun e w' ⟨h1, h2⟩ => ⟨h2, _, _, h1, fun _ => ⟨rfl, rfl⟩⟩
  · have hhs : (decide (0 ≤ n) && decide (n < S.length)) = false := by
      rw [Bool.and_eq_false_iff, decide_eq_false_iff_not, decide_eq_false_iff_not]; omega
    have H := hide h
    have HNN := hide hn
    clear h hn hc
    go_enter Tryz.func85, Tryz.ntmps85
    go_wp2_with (first
      | (refine wpList_alloc_blk rfl 135 rfl (some 6) rfl 10 _ Tryz.zeroActs ?_; intro w1 hf1 hs1 hB1; have HF1 := hide hf1; have HA1 := hide hB1; clear hf1 hB1)
      | (refine wpList_alloc_blk rfl 135 rfl (some 7) rfl 10 _ Tryz.zeroActs ?_; intro w2 hf2 hs2 hB2; have HF2 := hide ((unhide HF1).trans0 hf2); have HA2 := hide ((unhide HA1).fr0 hf2); have HB2 := hide (show Blk w2 (w.heap.size + 1) 10 (acF false fun _ => false) from hs1 ▸ hB2); clear hf2 hB2 HF1 HA1)
      | (go_at_call 80; refine (p_hasStateR tb base p _ S cores fault n _ (by exact (unhide H).fr0 (unhide HF2))).mono ?_; rintro e w' ⟨rfl, hw'⟩; rw [hw', hhs])
      | (refine wpList_load_blk rfl 135 (.tmp 7) rfl (some 14) rfl (w.heap.size + 1) 0 10 10 (acF false fun _ => false) _ rfl (by exact unhide HB2) Tryz.underlying135 rfl Tryz.sizeActs (by omega) ?_)
      | (refine wpList_store_blk rfl 135 (.tmp 6) (.tmp 14) rfl w.heap.size 0 10 10 (acF false fun _ => false) (fun i => acF false (fun _ => false) (0 + i)) rfl rfl (by exact unhide HA2) Tryz.sizeActs (by omega) (fun i hi => oneB_acF _ _ (0 + i + 1) (0 + i) (Nat.lt_succ_self _)) ?_; intro w7 hf7 hs7 hB7))
    exact bodyPost_ret (results_cell Tryz.results85 _ w.heap.size rfl 10 10 _ _ (hB7.congr fun i hi => lay_all _ _ _ i hi) Tryz.underlying135 rfl Tryz.sizeActs (by omega)) rfl ⟨(unhide HF2).trans1 hf7 (Or.inr (Nat.le_refl _)), false, fun _ => false, by congr 2; funext i; rw [Nat.zero_add], fun e => absurd e (unhide HNN)⟩

/-- a word that is one sign -/
def sgnX (s : ByteArray) : Bool := decide (s.size = 1) && sigB (ch s 0)
/-- what Acts hands back -/
def ActsO (t : ByteArray) (n : Int) (s y : ByteArray) (x : Nat) : Prop :=
  (TErr t x ∧ x ≠ 0 ∧ y = ⟨#[]⟩) ∨ ∃ S c, TGood t S c ∧ ((¬ (0 ≤ n ∧ n < S.length) ∧ x = 7 ∧ y = ⟨#[]⟩) ∨ ((0 ≤ n ∧ n < S.length) ∧ sgnX s = false ∧ x = 5 ∧ y = ⟨#[]⟩) ∨ ((0 ≤ n ∧ n < S.length) ∧ sgnX s = true ∧ x = 0 ∧ y = ⟨(acL (stepTo S n.toNat (ch s 0) != -1) (ruS (plT t) (sget S n.toNat).A (ch s 0)) 9).toArray⟩))

set_option maxRecDepth 100000 in
set_option maxHeartbeats 2000000 in
/-- Acts -/
theorem p_Acts (t : ByteArray) (n : Int) (s : ByteArray) (w : World) (ht : t.size ≤ 9223372036854775807) :
    Calls Tryz.prog 35 #[.string t, .int .i64 n, .string s] w fun e w' => Fr [] w w' ∧ ∃ (y : ByteArray) (x : Nat), e = .returned (.tuple #[.string y, .int .i64 x]) ∧ ActsO t n s y x := by
  by_cases h1 : s.size = 1
  · have hc0 : ((s[0]'(by omega)).toNat : Int) = ((ch s 0 : Nat) : Int) := by rw [ch_eq s 0 (by omega)]
    have h1i : ((s.size : Int) != 1) = false := by rw [bne_eq_false_iff_eq]; omega
    obtain ⟨c, hc⟩ : ∃ c, ch s 0 = c := ⟨_, rfl⟩
    have HW := hide (show sgnX s = sigB c from by unfold sgnX; rw [hc]; simp [h1])
    rw [hc] at hc0
    have HCC := hide hc
    clear hc
    cases hl : sigB c
    · rw [hl] at HW
      go_enter Tryz.func35, Tryz.ntmps35
      go_wp2_with (first
        | (go_at_call 78; refine (p_readTable t w ht).mono ?_; rintro e w1 ⟨f, rfl, hT⟩; obtain ⟨x, ao, l, cap, hx1, hx0, hx2, hx3⟩ := hT.parts; have HX1 := hide hx1; have HX2 := hide hx2; have HX3 := hide hx3; have HO := hide hT.2.1; have HF1 := hide hT.1; clear hT hx1 hx2 hx3 hx0)
        | (refine wpList_alloc_blk rfl 79 rfl (some 8) rfl 1362 _ Tryz.zeroTbl ?_; intro w2 hf2 hs2 hB2; have HF2 := hide hf2; have HB2 := hide hB2; clear hf2 hB2 hs2)
        | (refine wpList_store_blk rfl 79 (.tmp 8) (.tmp 11) rfl w1.heap.size 0 1362 1362 zTb f rfl rfl (by exact unhide HB2) Tryz.sizeTbl (by omega) (by exact unhide HO) ?_; intro w3 hf3 hs3 hB3; have HF3 := hide hf3; have HB3 := hide hB3; have HFw := hide (show Fr [] w w3 from ((unhide HF1).trans0 (unhide HF2)).trans1 hf3 (Or.inr (unhide HF1).size)); have c6 := (hB3.cell 1361 (by omega)).trans (congrArg some ((lay_all _ _ _ _ (by omega)).trans (unhide HX1))); clear hf3 hB3 hs3)
        | (go_at_call 80; obtain ⟨S, c2, base, hG, hlS, hfi, hrow⟩ := unhide HX3 (by (have h : ((x : Int) != 0) = false := (by assumption); have : (x : Int) = 0 := (by simpa using h); omega)); have HTB := hide (TabOut.lay hfi hrow (unhide HF2) (unhide HF3) (unhide HB3)); have HGd := hide hG; refine (p_hasStateR w1.heap.size base (plT t) _ S c2 0 n _ (by exact unhide HTB)).mono ?_; rintro e w' ⟨rfl, hw'⟩; rw [hw']; clear hG hlS hfi hrow)
        | (go_at_call 84; refine (p_isSign c _).mono ?_; rintro e w' ⟨rfl, hw'⟩; rw [hw', hl]))
      · have hff : ((x : Int) != 0) = true := by assumption
        have hx0 : x ≠ 0 := fun e => by rw [e] at hff; cases hff
        go_quiet (fail)
        go_wp2
        go_ret2
        exact ⟨(unhide HFw).trans0 (fr_drewN _ _), ⟨#[]⟩, x, rfl, Or.inl ⟨unhide HX2 hx0, hx0, rfl⟩⟩
      · have hh : (!decide (0 ≤ n)) = true ∨ (!decide (n < S.length)) = true := by assumption
        have hh2 : ¬ (0 ≤ n ∧ n < S.length) := by simp at hh; omega
        go_ret2
        exact ⟨unhide HFw, ⟨#[]⟩, 7, rfl, Or.inr ⟨S, c2, unhide HGd, Or.inl ⟨hh2, rfl, rfl⟩⟩⟩
      · have hh : (!decide (0 ≤ n)) = false ∧ (!decide (n < S.length)) = false := by assumption
        have hh2 : 0 ≤ n ∧ n < S.length := by simpa using hh
        go_ret2
        exact ⟨unhide HFw, ⟨#[]⟩, 5, rfl, Or.inr ⟨S, c2, unhide HGd, Or.inr (Or.inl ⟨hh2, unhide HW, rfl, rfl⟩)⟩⟩
    · rw [hl] at HW
      go_enter Tryz.func35, Tryz.ntmps35
      go_wp2_with (first
        | (go_at_call 78; refine (p_readTable t w ht).mono ?_; rintro e w1 ⟨f, rfl, hT⟩; obtain ⟨x, ao, l, cap, hx1, hx0, hx2, hx3⟩ := hT.parts; have HX1 := hide hx1; have HX2 := hide hx2; have HX3 := hide hx3; have HO := hide hT.2.1; have HF1 := hide hT.1; clear hT hx1 hx2 hx3 hx0)
        | (refine wpList_alloc_blk rfl 79 rfl (some 8) rfl 1362 _ Tryz.zeroTbl ?_; intro w2 hf2 hs2 hB2; have HF2 := hide hf2; have HB2 := hide hB2; clear hf2 hB2 hs2)
        | (refine wpList_store_blk rfl 79 (.tmp 8) (.tmp 11) rfl w1.heap.size 0 1362 1362 zTb f rfl rfl (by exact unhide HB2) Tryz.sizeTbl (by omega) (by exact unhide HO) ?_; intro w3 hf3 hs3 hB3; have HF3 := hide hf3; have HB3 := hide hB3; have HFw := hide (show Fr [] w w3 from ((unhide HF1).trans0 (unhide HF2)).trans1 hf3 (Or.inr (unhide HF1).size)); have c6 := (hB3.cell 1361 (by omega)).trans (congrArg some ((lay_all _ _ _ _ (by omega)).trans (unhide HX1))); clear hf3 hB3 hs3)
        | (go_at_call 80; obtain ⟨S, c2, base, hG, hlS, hfi, hrow⟩ := unhide HX3 (by (have h : ((x : Int) != 0) = false := (by assumption); have : (x : Int) = 0 := (by simpa using h); omega)); have HTB := hide (TabOut.lay hfi hrow (unhide HF2) (unhide HF3) (unhide HB3)); have HGd := hide hG; refine (p_hasStateR w1.heap.size base (plT t) _ S c2 0 n _ (by exact unhide HTB)).mono ?_; rintro e w' ⟨rfl, hw'⟩; rw [hw']; clear hG hlS hfi hrow)
        | (go_at_call 84; refine (p_isSign c _).mono ?_; rintro e w' ⟨rfl, hw'⟩; rw [hw', hl])
        | (go_at_call 85; refine (p_actsI w1.heap.size base c n (plT t) _ S c2 0 w3 (by exact unhide HTB) hl).mono ?_; rintro e w4 ⟨hf4, st, ru, rfl, hsr⟩; have HF4 := hide ((unhide HFw).trans0 hf4); have HSR := hide hsr; clear hf4 hsr)
        | (refine wpList_alloc_blk rfl 135 rfl (some 9) rfl 10 _ Tryz.zeroActs ?_; intro w5 hf5 hs5 hB5; have HF5 := hide ((unhide HF4).trans0 hf5); have HB5 := hide hB5; clear hf5 hB5)
        | (refine wpList_store_blk rfl 135 (.tmp 9) (.tmp 32) rfl w4.heap.size 0 10 10 (acF false fun _ => false) (acF st ru) rfl rfl (by exact unhide HB5) Tryz.sizeActs (by omega) (oneB_acF st ru 10) ?_; intro w6 hf6 hs6 hB6; have HF6 := hide ((unhide HF5).trans1 hf6 (Or.inr (unhide HF4).size)); have HB6 := hide (show Blk w6 w4.heap.size 10 (acF st ru) from hB6.congr fun i hi => lay_all _ _ _ i hi); clear hf6 hB6)
        | (go_at_call 86; refine (p_alist w4.heap.size st ru w6 (by exact unhide HB6)).mono ?_; rintro e w7 ⟨rfl, hf7⟩; have HF7 := hide ((unhide HF6).trans0 hf7); clear hf7))
      · have hff : ((x : Int) != 0) = true := by assumption
        have hx0 : x ≠ 0 := fun e => by rw [e] at hff; cases hff
        go_quiet (fail)
        go_wp2
        go_ret2
        exact ⟨(unhide HFw).trans0 (fr_drewN _ _), ⟨#[]⟩, x, rfl, Or.inl ⟨unhide HX2 hx0, hx0, rfl⟩⟩
      · have hh : (!decide (0 ≤ n)) = true ∨ (!decide (n < S.length)) = true := by assumption
        have hh2 : ¬ (0 ≤ n ∧ n < S.length) := by simp at hh; omega
        go_ret2
        exact ⟨unhide HFw, ⟨#[]⟩, 7, rfl, Or.inr ⟨S, c2, unhide HGd, Or.inl ⟨hh2, rfl, rfl⟩⟩⟩
      · have hh : (!decide (0 ≤ n)) = false ∧ (!decide (n < S.length)) = false := by assumption
        have hh2 : 0 ≤ n ∧ n < S.length := by simpa using hh
        go_ret2
        obtain ⟨e1, e2⟩ := unhide HSR hh2
        exact ⟨unhide HF7, _, 0, rfl, Or.inr ⟨S, c2, unhide HGd, Or.inr (Or.inr ⟨hh2, unhide HW, rfl, by rw [e1, e2, unhide HCC]⟩)⟩⟩
  · have h1i : ((s.size : Int) != 1) = true := by rw [bne_iff_ne]; omega
    have HW := hide (show sgnX s = false from by unfold sgnX; rw [show decide (s.size = 1) = false from by simpa using h1]; rfl)
    clear h1
    go_enter Tryz.func35, Tryz.ntmps35
    go_wp2_with (first
      | (go_at_call 78; refine (p_readTable t w ht).mono ?_; rintro e w1 ⟨f, rfl, hT⟩; obtain ⟨x, ao, l, cap, hx1, hx0, hx2, hx3⟩ := hT.parts; have HX1 := hide hx1; have HX2 := hide hx2; have HX3 := hide hx3; have HO := hide hT.2.1; have HF1 := hide hT.1; clear hT hx1 hx2 hx3 hx0)
      | (refine wpList_alloc_blk rfl 79 rfl (some 8) rfl 1362 _ Tryz.zeroTbl ?_; intro w2 hf2 hs2 hB2; have HF2 := hide hf2; have HB2 := hide hB2; clear hf2 hB2 hs2)
      | (refine wpList_store_blk rfl 79 (.tmp 8) (.tmp 11) rfl w1.heap.size 0 1362 1362 zTb f rfl rfl (by exact unhide HB2) Tryz.sizeTbl (by omega) (by exact unhide HO) ?_; intro w3 hf3 hs3 hB3; have HF3 := hide hf3; have HB3 := hide hB3; have HFw := hide (show Fr [] w w3 from ((unhide HF1).trans0 (unhide HF2)).trans1 hf3 (Or.inr (unhide HF1).size)); have c6 := (hB3.cell 1361 (by omega)).trans (congrArg some ((lay_all _ _ _ _ (by omega)).trans (unhide HX1))); clear hf3 hB3 hs3)
      | (go_at_call 80; obtain ⟨S, c2, base, hG, hlS, hfi, hrow⟩ := unhide HX3 (by (have h : ((x : Int) != 0) = false := (by assumption); have : (x : Int) = 0 := (by simpa using h); omega)); have HTB := hide (TabOut.lay hfi hrow (unhide HF2) (unhide HF3) (unhide HB3)); have HGd := hide hG; refine (p_hasStateR w1.heap.size base (plT t) _ S c2 0 n _ (by exact unhide HTB)).mono ?_; rintro e w' ⟨rfl, hw'⟩; rw [hw']; clear hG hlS hfi hrow))
    · have hff : ((x : Int) != 0) = true := by assumption
      have hx0 : x ≠ 0 := fun e => by rw [e] at hff; cases hff
      go_quiet (fail)
      go_wp2
      go_ret2
      exact ⟨(unhide HFw).trans0 (fr_drewN _ _), ⟨#[]⟩, x, rfl, Or.inl ⟨unhide HX2 hx0, hx0, rfl⟩⟩
    · have hh : (!decide (0 ≤ n)) = true ∨ (!decide (n < S.length)) = true := by assumption
      have hh2 : ¬ (0 ≤ n ∧ n < S.length) := by simp at hh; omega
      go_ret2
      exact ⟨unhide HFw, ⟨#[]⟩, 7, rfl, Or.inr ⟨S, c2, unhide HGd, Or.inl ⟨hh2, rfl, rfl⟩⟩⟩
    · have hh : (!decide (0 ≤ n)) = false ∧ (!decide (n < S.length)) = false := by assumption
      have hh2 : 0 ≤ n ∧ n < S.length := by simpa using hh
      go_ret2
      exact ⟨unhide HFw, ⟨#[]⟩, 5, rfl, Or.inr ⟨S, c2, unhide HGd, Or.inr (Or.inl ⟨hh2, unhide HW, rfl, rfl⟩)⟩⟩
end Go.Proofs.YtkglggkkbmmjkaaGreatDoor
