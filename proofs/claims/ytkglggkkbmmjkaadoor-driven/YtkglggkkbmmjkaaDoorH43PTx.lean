import Derived.Test.YtkglggkkbmmjkaaDoorH42PRd7
namespace Go.Proofs.YtkglggkkbmmjkaaDoor
open Go.RowKit

set_option maxHeartbeats 400000 in
/-- isAllSmall -/
theorem p_isAllSmall (s : ByteArray) (w : World) (hs : s.size ≤ 1000) :
    Calls Tryd.prog 33 #[.string s] w fun e w' => e = .returned (.bool ((bytes s).all smallB)) ∧ w' = w := by
  go_enter Tryd.func33, Tryd.ntmps33
  go_wp2
  go_loop [3] (fun nv => ∃ n : Nat, n ≤ s.size ∧ nv = .int .i64 n ∧ Hid ((bytes s).all smallB = ((bytes s).drop n).all smallB)) (fun nv => s.size - (intOf nv).toNat)
  case atStart => exact ⟨0, by omega, rfl, by simp [Hid]⟩
  case round =>
    obtain ⟨n, hn, rfl, hI⟩ := hrel
    by_cases hlt : n < s.size
    · have hcc : ((s[n]'hlt).toNat : Int) = ((ch s n : Nat) : Int) := by rw [ch_eq s n hlt]
      obtain ⟨a, hch⟩ : ∃ a, ch s n = a := ⟨_, rfl⟩
      rw [hch] at hcc
      have hdr : (bytes s).drop n = a :: (bytes s).drop (n + 1) := by
        have hl : n < (bytes s).length := by rw [bytes_len]; exact hlt
        rw [List.drop_eq_getElem_cons hl, bytes_get, hch]
      have HN := hide (show (bytes s).all smallB = (smallB a && ((bytes s).drop (n + 1)).all smallB) from by rw [unhide hI, hdr, List.all_cons])
      have hli : (n : Int) < s.size := by omega
      clear hdr hch hI
      cases hv : smallB a
      · have HR := hide (show (bytes s).all smallB = false from by rw [unhide HN, hv]; rfl)
        go_wp2_with (go_at_call 42; refine (p_isSmall_is a false w hv).mono ?_; rintro e w' ⟨rfl, hw'⟩; rw [hw'])
        go_ret
        exact ⟨ret_bool (unhide HR).symm, rfl⟩
      · have HR := hide (show (bytes s).all smallB = ((bytes s).drop (n + 1)).all smallB from by rw [unhide HN, hv]; rfl)
        go_wp2_with (go_at_call 42; refine (p_isSmall_is a true w hv).mono ?_; rintro e w' ⟨rfl, hw'⟩; rw [hw'])
        go_round
        case rel => exact ⟨n + 1, by omega, by go_num, HR⟩
        case measure => simp [intOf]; omega
    · have HR := hide (show (bytes s).all smallB = true from by rw [unhide hI, List.drop_eq_nil_of_le (by rw [bytes_len]; omega)]; rfl)
      have hli : ¬ (n : Int) < s.size := by omega
      go_wp2
      go_ret
      exact ⟨ret_bool (unhide HR).symm, rfl⟩

theorem clsT_zero {L : List Ru} {r : Tb} : clsT L r = 0 ↔ anyC (fun k i => decide (1 < (actT L r k (sgn i)).size)) r.1.length = true := by
  unfold clsT
  split
  · rename_i h; exact ⟨fun _ => h, fun _ => rfl⟩
  · rename_i h
    constructor
    · intro e
      split at e <;> cases e
    · intro e; exact absurd e h
theorem clash_eq {t : ByteArray} {S : List Sd} {M : List (List (Nat × Nat))} (h : TIs t S M) : anyC (clK (plT t) S) S.length = anyC (fun k i => decide (1 < (actT (rul (parse t 8 0 []).1) (mOf S, M) k (sgn i)).size)) (mOf S, M).1.length := by
  rw [show (mOf S, M).1.length = S.length from mOf_len S]
  exact anyC_congr fun k hk i hi => by unfold clK; rw [← act_eq h hk (sigB_sgn' hi)]; rfl
/-- what readForText hands back -/
def RftO (t s : ByteArray) (w w' : World) (f : Nat → Value) : Prop :=
  Fr [] w w' ∧ oneB f 1362 ∧ f 1361 = .int .i64 (errT t s : Nat) ∧
  (errT t s = 0 → ∃ S c M base ao l cap, TGood t S c ∧ TIs t S M ∧ l = S.length ∧ (∀ i, i < 1362 → f i = tbF (plT t) (.slice ao l cap) c 0 i) ∧ GRow w' base 102 1268 (.slice ao l cap) S.length (rwF S))
theorem errT_long {t s : ByteArray} (h : 12 < s.size) : errT t s = 1 := by unfold errT; rw [if_pos h]
theorem errT_tab {t s : ByteArray} (h : ¬ 12 < s.size) {x : Nat} (hx : tabR t = .inl x) : errT t s = x := by unfold errT; rw [if_neg h, hx]
theorem errT_good {t s : ByteArray} (h : ¬ 12 < s.size) {S : List Sd} {M : List (List (Nat × Nat))} (hM : TIs t S M) : errT t s = if anyC (clK (plT t) S) S.length then 8 else if (bytes s).all smallB then 0 else 5 := by
  unfold errT
  rw [if_neg h, hM.tab, clash_eq hM]
  dsimp only
  by_cases hc : clsT (rul (parse t 8 0 []).1) (mOf S, M) = 0
  · rw [if_pos hc, if_pos (clsT_zero.1 hc)]
  · rw [if_neg hc, if_neg (fun e => hc (clsT_zero.2 e))]
/-- as TabOut.parts, and where the states lie -/
theorem TabOut.parts2 {t : ByteArray} {w w' : World} {f : Nat → Value} (h : TabOut t w w' f) : ∃ (x : Nat) (ao : Option Addr) (l cap : Nat), f 1361 = .int .i64 (x : Nat) ∧ (x ≠ 0 → TErr t x) ∧ (x = 0 → ∃ S c base, TGood t S c ∧ l = S.length ∧ (∀ i, i < 1362 → f i = tbF (plT t) (.slice ao l cap) c 0 i) ∧ GRow w' base 102 1268 (.slice ao l cap) S.length (rwF S) ∧ w.heap.size ≤ base) := by
  by_cases h0 : (gErr t).1 = 0
  · obtain ⟨n, v, S, c, fl, base, h1, h2, h3, h4, h5, h6, h7⟩ := h.2.2.2 h0
    obtain ⟨ao, cap, hv⟩ : ∃ ao cap, v = .slice ao S.length cap := by
      obtain ⟨_, k2⟩ := h6
      rcases k2 with ⟨rfl, k2⟩ | ⟨g', cap', cur, rfl, _⟩
      · exact ⟨none, 0, by rw [k2]⟩
      · exact ⟨_, cap', rfl⟩
    subst hv
    refine ⟨fl, ao, S.length, cap, by rw [h1 1361 (by omega)]; rfl, fun hx => Or.inr ⟨h0, n, S, c, h2⟩, fun hx => ?_⟩
    subst hx
    exact ⟨S, c, base, ⟨h0, h3 rfl ▸ h2, h4, h5⟩, rfl, h1, h6, h7⟩
  · exact ⟨(gErr t).1, none, 0, 0, (h.2.2.1 h0).1, fun _ => Or.inl ⟨h0, rfl⟩, fun hx => absurd hx h0⟩
theorem oneB_tb0 (p : Pl) (ao : Option Addr) (l cap c f : Nat) : oneB (fun i => tbF p (.slice ao l cap) c f (0 + i)) 1362 := fun i _ => oneB_tbF p ao l cap c f (0 + i + 1) (0 + i) (Nat.lt_succ_self _)

set_option maxRecDepth 100000 in
set_option maxHeartbeats 4000000 in
/-- readForText -/
theorem p_readForText (t s : ByteArray) (w : World) (ht : t.size ≤ 9223372036854775807) (hsm : s.size ≤ 9223372036854775807) :
    Calls Tryd.prog 17 #[.string t, .string s] w fun e w' => ∃ f, e = .returned (Agg 1362 f) ∧ RftO t s w w' f := by
  by_cases hl : 12 < s.size
  · have hli : (12 : Int) < s.size := by omega
    have HE := hide (errT_long (t := t) hl)
    clear hl
    go_enter Tryd.func17, Tryd.ntmps17
    go_wp2_with (first
      | (refine wpList_alloc_blk rfl 57 rfl (some 4) rfl 1362 _ Tryd.zeroTbl ?_; intro w1 hf1 hs1 hB1; have HF1 := hide hf1; have HA1 := hide hB1; clear hf1 hB1)
      | (refine wpList_alloc_blk rfl 57 rfl (some 5) rfl 1362 _ Tryd.zeroTbl ?_; intro w2 hf2 hs2 hB2; have H5 := hide (show Fr [] w w2 ∧ Blk w2 w.heap.size 1362 zTb ∧ Blk w2 (w.heap.size + 1) 1362 zTb from ⟨(unhide HF1).trans0 hf2, (unhide HA1).fr0 hf2, hs1 ▸ hB2⟩); have k6 := (unhide H5).2.2.cell 1361 (by omega); have z6 := (unhide H5).2.2.free 1361; clear hf2 hB2 HF1 HA1)
      | (refine wpList_load_blk rfl 57 (.tmp 5) rfl (some 11) rfl (w.heap.size + 1) 0 1362 1362 (upd zTb 1361 (.int .i64 ((1 : Nat) : Int))) _ rfl (by exact (unhide H5).2.2.setCell 1361 _) Tryd.underlying57 rfl Tryd.sizeTbl (by omega) ?_)
      | (refine wpList_store_blk rfl 57 (.tmp 4) (.tmp 11) rfl w.heap.size 0 1362 1362 zTb (fun i => upd zTb 1361 (.int .i64 ((1 : Nat) : Int)) (0 + i)) rfl rfl (by exact (unhide H5).2.1.setCell_ne ⟨w.heap.size + 1, 1361, none⟩ (by simp) _) Tryd.sizeTbl (by omega) (upd_one _) ?_; intro w9 hf9 hs9 hB9))
    exact bodyPost_ret (results_cell Tryd.results17 _ w.heap.size rfl 1362 1362 _ _ (hB9.congr fun i hi => lay_all _ _ _ i hi) Tryd.underlying57 rfl Tryd.sizeTbl (by omega)) rfl ⟨_, rfl, ((unhide H5).1.setCell ⟨w.heap.size + 1, 1361, none⟩ (Or.inr (by simp)) _).trans1 hf9 (Or.inr (Nat.le_refl _)), upd_one _, by rw [unhide HE]; rfl, fun h => by rw [unhide HE] at h; cases h⟩
  · have hli : ¬ (12 : Int) < s.size := by omega
    have HL := hide hl
    clear hl
    go_enter Tryd.func17, Tryd.ntmps17
    go_wp2_with (first
      | (refine wpList_alloc_blk rfl 57 rfl (some 4) rfl 1362 _ Tryd.zeroTbl ?_; intro w0 hf0 hs0 hB0; have HF0 := hide hf0; have HA0 := hide hB0; clear hf0 hB0)
      | (go_at_call 23; refine (p_readTable t w0 ht).mono ?_; rintro e w1 ⟨f, rfl, hT⟩; obtain ⟨x, ao, l, cap, hx1, hx2, hx3⟩ := hT.parts2; have HX1 := hide hx1; have HX2 := hide hx2; have HX3 := hide hx3; have HO := hide hT.2.1; have HF1 := hide hT.1; clear hT hx1 hx2 hx3)
      | (refine wpList_alloc_blk rfl 57 rfl (some 6) rfl 1362 _ Tryd.zeroTbl ?_; intro w2 hf2 hs2 hB2; have HF2 := hide hf2; have HB2 := hide hB2; clear hf2 hB2 hs2)
      | (refine wpList_store_blk rfl 57 (.tmp 6) (.tmp 13) rfl w1.heap.size 0 1362 1362 zTb f rfl rfl (by exact unhide HB2) Tryd.sizeTbl (by omega) (by exact unhide HO) ?_; intro w3 hf3 hs3 hB3; have HF3 := hide hf3; have HB3 := hide hB3; have HB3f := hide (show Blk w3 w1.heap.size 1362 f from hB3.congr fun i hi => lay_all _ _ _ i hi); have HFw := hide (show Fr [] w w3 ∧ Blk w3 w.heap.size 1362 zTb from ⟨(((unhide HF0).trans0 (unhide HF1)).trans0 (unhide HF2)).trans1 hf3 (Or.inr (((unhide HF0).trans0 (unhide HF1)).size)), (((unhide HA0).fr0 (unhide HF1)).fr0 (unhide HF2)).fr1 hf3 (Nat.ne_of_lt (((unhide HA0).fr0 (unhide HF1)).lt))⟩); have c6 := (hB3.cell 1361 (by omega)).trans (congrArg some ((lay_all _ _ _ _ (by omega)).trans (unhide HX1))); clear hf3 hB3 hs3)
      | (refine wpList_load_blk rfl 57 (.tmp 6) rfl (some 17) rfl w1.heap.size 0 1362 1362 f _ rfl (by exact unhide HB3f) Tryd.underlying57 rfl Tryd.sizeTbl (by omega) ?_)
      | (refine wpList_store_blk rfl 57 (.tmp 4) (.tmp 17) rfl w.heap.size 0 1362 1362 zTb (fun i => f (0 + i)) rfl rfl (by exact (unhide HFw).2) Tryd.sizeTbl (by omega) (fun i hi => by show (f (0 + i)).oneCell' = true; rw [Nat.zero_add]; exact unhide HO i hi) ?_; intro w9 hf9 hs9 hB9))
    · have hff : ((x : Int) != 0) = true := by assumption
      have hx0 : x ≠ 0 := fun e => by rw [e] at hff; cases hff
      have HE := hide (show errT t s = x from errT_tab (unhide HL) (tabR_err (unhide HX2 hx0) hx0))
      exact bodyPost_ret (results_cell Tryd.results17 _ w.heap.size rfl 1362 1362 _ _ (hB9.congr fun i hi => lay_all _ _ _ i hi) Tryd.underlying57 rfl Tryd.sizeTbl (by omega)) rfl ⟨_, rfl, (unhide HFw).1.trans1 hf9 (Or.inr (Nat.le_refl _)), (fun i hi => by show (f (0 + i)).oneCell' = true; rw [Nat.zero_add]; exact unhide HO i hi), by rw [unhide HE]; exact unhide HX1, fun h => by rw [unhide HE] at h; exact absurd h hx0⟩
    · have hff : ((x : Int) != 0) = false := by assumption
      have hx0 : x = 0 := by
        have : (x : Int) = 0 := by simpa using hff
        omega
      obtain ⟨S, c2, base, hG, hlS, hfi, hrow, hbs⟩ := unhide HX3 hx0
      obtain ⟨M, hM⟩ := tabR_good hG
      have hgr := hide (show ∀ g, (Value.slice ao l cap).ownBlock = some g → g ≠ w.heap.size ∧ g ≠ w1.heap.size from fun g hg => by have := hrow.lt hg; omega)
      have HTB := hide (TabOut.lay hfi hrow (unhide HF2) (unhide HF3) (unhide HB3))
      have HGd := hide hG
      have HM := hide hM
      have HRow := hide (show GRow w3 base 102 1268 (.slice ao l cap) S.length (rwF S) from (unhide HTB).row)
      have HErr := hide (errT_good (s := s) (unhide HL) hM)
      have hS40 : S.length ≤ 50 := by have := hG.2.2.1; omega
      have HlS := hide hlS
      clear hG hM hfi hrow hlS hff hbs HX3 HX2 HX1 HF2 HF3 HB2 HB3 HB3f HO c6 hx0
      refine (p_statesClash w1.heap.size base (plT t) _ S c2 0 w3 (by exact unhide HTB) hS40).mono ?_
      rintro e w4 ⟨rfl, hf4⟩
      have H4 := hide (show Fr [] w w4 ∧ Blk w4 w.heap.size 1362 zTb ∧ Blk w4 w1.heap.size 1362 (tbF (plT t) (.slice ao l cap) c2 0) ∧ GRow w4 base 102 1268 (.slice ao l cap) S.length (rwF S) from ⟨(unhide HFw).1.trans0 hf4, (unhide HFw).2.fr0 hf4, (unhide HTB).blk.fr0 hf4, (unhide HRow).fr hf4 (by simp)⟩)
      have hne : w.heap.size < w1.heap.size := by have := (unhide HF1).size; omega
      have hs1000 : s.size ≤ 12 := by have := unhide HL; omega
      cases hcl : anyC (clK (plT t) S) S.length
      · rw [hcl] at HErr
        clear hcl
        cases has : (bytes s).all smallB
        · rw [has] at HErr
          have HE := hide (show errT t s = 5 from unhide HErr)
          have HAS := hide has
          clear has HErr
          have k6 := (unhide H4).2.2.1.cell 1361 (by omega)
          have z6 := (unhide H4).2.2.1.free 1361
          have HT5 := hide (show Blk (w4.setCell ⟨w1.heap.size, 1361, none⟩ (.int .i64 ((5 : Nat) : Int))) w1.heap.size 1362 (tbF (plT t) (.slice ao l cap) c2 5) from ((unhide H4).2.2.1.setCell 1361 _).congr fun i hi => tbF_fault _ _ _ _ 5 i hi)
          have HR5 := hide (show Blk (w4.setCell ⟨w1.heap.size, 1361, none⟩ (.int .i64 ((5 : Nat) : Int))) w.heap.size 1362 zTb from (unhide H4).2.1.setCell_ne ⟨w1.heap.size, 1361, none⟩ (Nat.ne_of_gt hne) _)
          go_wp2_with (first
            | (go_at_call 33; refine (p_isAllSmall s w4 (by omega)).mono ?_; rintro e w' ⟨rfl, hw'⟩; rw [hw', unhide HAS])
            | (refine wpList_load_blk rfl 57 (.tmp 6) rfl (some 24) rfl w1.heap.size 0 1362 1362 (tbF (plT t) (.slice ao l cap) c2 5) _ rfl (by exact unhide HT5) Tryd.underlying57 rfl Tryd.sizeTbl (by omega) ?_)
            | (refine wpList_store_blk rfl 57 (.tmp 4) (.tmp 24) rfl w.heap.size 0 1362 1362 zTb (fun i => tbF (plT t) (.slice ao l cap) c2 5 (0 + i)) rfl rfl (by exact unhide HR5) Tryd.sizeTbl (by omega) (oneB_tb0 _ _ _ _ _ _) ?_; intro w9 hf9 hs9 hB9))
          exact bodyPost_ret (results_cell Tryd.results17 _ w.heap.size rfl 1362 1362 _ _ (hB9.congr fun i hi => lay_all _ _ _ i hi) Tryd.underlying57 rfl Tryd.sizeTbl (by omega)) rfl ⟨_, rfl, ((unhide H4).1.setCell ⟨w1.heap.size, 1361, none⟩ (Or.inr (Nat.le_of_lt hne)) _).trans1 hf9 (Or.inr (Nat.le_refl _)), oneB_tb0 _ _ _ _ _ _, by rw [unhide HE]; rfl, fun h => by rw [unhide HE] at h; cases h⟩
        · rw [has] at HErr
          have HE := hide (show errT t s = 0 from unhide HErr)
          have HAS := hide has
          clear has HErr
          go_wp2_with (first
            | (go_at_call 33; refine (p_isAllSmall s w4 (by omega)).mono ?_; rintro e w' ⟨rfl, hw'⟩; rw [hw', unhide HAS])
            | (refine wpList_load_blk rfl 57 (.tmp 6) rfl (some 24) rfl w1.heap.size 0 1362 1362 (tbF (plT t) (.slice ao l cap) c2 0) _ rfl (by exact (unhide H4).2.2.1) Tryd.underlying57 rfl Tryd.sizeTbl (by omega) ?_)
            | (refine wpList_store_blk rfl 57 (.tmp 4) (.tmp 24) rfl w.heap.size 0 1362 1362 zTb (fun i => tbF (plT t) (.slice ao l cap) c2 0 (0 + i)) rfl rfl (by exact (unhide H4).2.1) Tryd.sizeTbl (by omega) (oneB_tb0 _ _ _ _ _ _) ?_; intro w9 hf9 hs9 hB9))
          exact bodyPost_ret (results_cell Tryd.results17 _ w.heap.size rfl 1362 1362 _ _ (hB9.congr fun i hi => lay_all _ _ _ i hi) Tryd.underlying57 rfl Tryd.sizeTbl (by omega)) rfl ⟨_, rfl, (unhide H4).1.trans1 hf9 (Or.inr (Nat.le_refl _)), oneB_tb0 _ _ _ _ _ _, by rw [unhide HE]; rfl, fun _ => ⟨S, c2, M, base, ao, l, cap, unhide HGd, unhide HM, unhide HlS, fun i _ => congrArg _ (Nat.zero_add i), (unhide H4).2.2.2.fr hf9 (fun g hg => by have := (unhide hgr g hg).1; simpa using this)⟩⟩
      · rw [hcl] at HErr
        have HE := hide (show errT t s = 8 from unhide HErr)
        clear hcl HErr
        have k6 := (unhide H4).2.2.1.cell 1361 (by omega)
        have z6 := (unhide H4).2.2.1.free 1361
        have HT5 := hide (show Blk (w4.setCell ⟨w1.heap.size, 1361, none⟩ (.int .i64 ((8 : Nat) : Int))) w1.heap.size 1362 (tbF (plT t) (.slice ao l cap) c2 8) from ((unhide H4).2.2.1.setCell 1361 _).congr fun i hi => tbF_fault _ _ _ _ 8 i hi)
        have HR5 := hide (show Blk (w4.setCell ⟨w1.heap.size, 1361, none⟩ (.int .i64 ((8 : Nat) : Int))) w.heap.size 1362 zTb from (unhide H4).2.1.setCell_ne ⟨w1.heap.size, 1361, none⟩ (Nat.ne_of_gt hne) _)
        go_wp2_with (first
          | (refine wpList_load_blk rfl 57 (.tmp 6) rfl (some 24) rfl w1.heap.size 0 1362 1362 (tbF (plT t) (.slice ao l cap) c2 8) _ rfl (by exact unhide HT5) Tryd.underlying57 rfl Tryd.sizeTbl (by omega) ?_)
          | (refine wpList_store_blk rfl 57 (.tmp 4) (.tmp 24) rfl w.heap.size 0 1362 1362 zTb (fun i => tbF (plT t) (.slice ao l cap) c2 8 (0 + i)) rfl rfl (by exact unhide HR5) Tryd.sizeTbl (by omega) (oneB_tb0 _ _ _ _ _ _) ?_; intro w9 hf9 hs9 hB9))
        exact bodyPost_ret (results_cell Tryd.results17 _ w.heap.size rfl 1362 1362 _ _ (hB9.congr fun i hi => lay_all _ _ _ i hi) Tryd.underlying57 rfl Tryd.sizeTbl (by omega)) rfl ⟨_, rfl, ((unhide H4).1.setCell ⟨w1.heap.size, 1361, none⟩ (Or.inr (Nat.le_of_lt hne)) _).trans1 hf9 (Or.inr (Nat.le_refl _)), oneB_tb0 _ _ _ _ _ _, by rw [unhide HE]; rfl, fun h => by rw [unhide HE] at h; cases h⟩
end Go.Proofs.YtkglggkkbmmjkaaDoor

namespace Go.Proofs.YtkglggkkbmmjkaaDoor
open Go.RowKit

theorem tabP_of {t : ByteArray} {S : List Sd} {M : List (List (Nat × Nat))} (h : TIs t S M) : TabP t (plT t) (rul (parse t 8 0 []).1) S (mOf S, M) :=
  ⟨rfl, rfl, (mOf_len S).symm, fun _ hj _ => canS_eq h hj, fun _ hj x _ => step_eq h.tos hj x, fun _ hj _ hx _ hk => canR_eq h hx hj hk⟩
theorem Rd.good {L : List Ru} {N : Nat → Bool} {T : Nat → Nat → Bool} {r : Tb} {S F : Nat} (h : Rd L N T r S F) : ∀ (l : List Nat) {st : Stk} {u : List Nat}, SI L N T r st u → Rch L r st u → (∀ c ∈ l, smallB c = true) → u.length + l.length ≤ 12 → Good L S u →
    Good L S (u ++ l.take (readM L r F l st).1)
  | [], st, u, hI, hR, _, _, hu => by rw [readM]; simpa using hu
  | a :: l, st, u, hI, hR, hs, hl, hu => by
    have ha := hs a (List.mem_cons_self ..)
    by_cases hg : Good L S (u ++ [a])
    · obtain ⟨st', j, e1, e2, e3, e4, _⟩ := h.step hI hR ha (by rw [List.length_cons] at hl; omega) hg
      rw [readM, e1]
      dsimp only
      rw [e2, Int.toNat_natCast]
      have := Rd.good h l e3 e4 (fun c hc => hs c (List.mem_cons_of_mem _ hc)) (by rw [List.length_append]; rw [List.length_cons] at hl; simp; omega) hg
      simpa using this
    · obtain ⟨e1, e2⟩ := h.none hI ha hg
      rw [readM, settle_no e1 (fun k _ => e2 k)]
      simpa using hu
theorem rch0 (L : List Ru) (r : Tb) : Rch L r [(0, [])] [] := ⟨0, fun _ => Run.refl⟩
theorem take_small {l : List Nat} (h : ∀ c ∈ l, smallB c = true) (n : Nat) : ∀ c ∈ l.take n, smallB c = true := fun c hc => h c (List.mem_of_mem_take hc)
/-- what is known behind takeAll -/
structure Tkn (t s : ByteArray) (r : Tb) (n : Nat) (st : Stk) : Prop where
  e0 : errT t s = 0
  hr : tabR t = .inr r
  rd : Rd (rul (parse t 8 0 []).1) (nullS (parse t 8 0 []).1) (firstT (parse t 8 0 []).1) r (stOf (parse t 8 0 []).1) 1048576
  len : s.size ≤ 12
  sm : ∀ c ∈ bytes s, smallB c = true
  n_le : n ≤ s.size
  si : SI (rul (parse t 8 0 []).1) (nullS (parse t 8 0 []).1) (firstT (parse t 8 0 []).1) r st ((bytes s).take n)
  rch : Rch (rul (parse t 8 0 []).1) r st ((bytes s).take n)
  stp : n < s.size → ¬ Good (rul (parse t 8 0 []).1) (stOf (parse t 8 0 []).1) ((bytes s).take (n + 1))
  god : Good (rul (parse t 8 0 []).1) (stOf (parse t 8 0 []).1) ((bytes s).take n)
theorem tkn_of {t s : ByteArray} {r : Tb} {n : Nat} {st : Stk} (h0 : errT t s = 0) (hr : tabR t = .inr r) (h : readM (rul (parse t 8 0 []).1) r 1048576 (bytes s) [(0, [])] = (n, st)) : Tkn t s r n st := by
  obtain ⟨r', h1, h2, h3, h4⟩ := errT_rd h0
  have : r' = r := by rw [hr] at h1; exact (Sum.inr.inj h1).symm
  subst this
  have hl : (bytes s).length = s.size := bytes_len s
  obtain ⟨a1, a2, a3, a4⟩ := h2.read (bytes s) (SI.base) (rch0 _ _) h4 (by rw [hl]; simpa using h3)
  obtain ⟨w, x, m, hd⟩ := st_some (tabR_len hr).1
  have a5 := h2.good (bytes s) (SI.base) (rch0 _ _) h4 (by rw [hl]; simpa using h3) ⟨w ++ [36], w, x, m, hd, by simp⟩
  rw [h] at a1 a2 a3 a4 a5
  rw [List.nil_append] at a2 a3 a4 a5
  exact ⟨h0, hr, h2, h3, h4, by rw [← hl]; exact a1, a2, a3, fun hn => a4 (by rw [hl]; exact hn), a5⟩
theorem Tkn.short {t s : ByteArray} {r : Tb} {n : Nat} {st : Stk} (h : Tkn t s r n st) (hn : n < s.size) : TreeO t s ⟨#[]⟩ 9 := by
  refine Or.inr ⟨h.e0, Or.inl ⟨rfl, rfl, ?_⟩⟩
  rintro ⟨x, m, hd⟩
  refine h.stp hn ((good_iff (take_small h.sm _)).2 ?_)
  have : GoodW (rul (parse t 8 0 []).1) (stOf (parse t 8 0 []).1) ((bytes s).take s.size) := ⟨[], x, m, by rw [List.append_nil, bytes_take_all s _ (Nat.le_refl _)]; exact hd⟩
  exact this.take (by omega)
theorem tkn_full {s : ByteArray} {n : Nat} (hn : ¬ n < s.size) : (bytes s).take n = bytes s := bytes_take_all s _ (by omega)
theorem Tkn.end_ {t s : ByteArray} {r : Tb} {n : Nat} {st st' : Stk} {b : Bool} (h : Tkn t s r n st) (hn : ¬ n < s.size) (hs : settleM (rul (parse t 8 0 []).1) r 36 1048576 st = (b, st')) :
    (b = false → TreeO t s ⟨#[]⟩ 9) ∧ (b = true → ∃ j x, st' = [(j, x), (0, [])] ∧ TreeO t s (bstr x) 0) := by
  have hf := h.rd.fin h.si h.rch (by rw [tkn_full hn, bytes_len]; exact h.len)
  rw [tkn_full hn] at hf
  by_cases hx : ∃ x m, Ds (rul (parse t 8 0 []).1) [stOf (parse t 8 0 []).1] (bytes s) x m
  · obtain ⟨j, x, m, hd, e⟩ := hf.1 hx
    rw [hs] at e
    obtain ⟨e1, e2⟩ := Prod.mk.inj e
    exact ⟨(fun hb => by rw [hb] at e1; cases e1), fun _ => ⟨j, x, e2, Or.inr ⟨h.e0, Or.inr ⟨rfl, x, m, hd, rfl⟩⟩⟩⟩
  · have e := (hf.2 hx).1
    rw [hs] at e
    obtain ⟨e1, e2⟩ := Prod.mk.inj e
    exact ⟨fun _ => Or.inr ⟨h.e0, Or.inl ⟨rfl, rfl, hx⟩⟩, (fun hb => by rw [hb] at e1; cases e1)⟩
end Go.Proofs.YtkglggkkbmmjkaaDoor
