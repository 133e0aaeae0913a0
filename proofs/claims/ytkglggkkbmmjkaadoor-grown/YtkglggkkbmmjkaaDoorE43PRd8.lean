import Derived.Test.YtkglggkkbmmjkaaDoorE42PRd7
namespace Go.Proofs.YtkglggkkbmmjkaaDoor
open Go.RowKit

/-- the signs that can come, by the top state -/
def aheadB (L : List Ru) (r : Tb) (s : Nat) (a : Nat) : Bool := !acE (canS r s a) (fun k => decide (k < 9) && canR L r s a k)
theorem aheadB_iff {L : List Ru} {r : Tb} {s a : Nat} : aheadB L r s a = true ↔ (canS r s a = true ∨ ∃ k, k < 9 ∧ canR L r s a k = true) := by
  unfold aheadB
  rw [Bool.not_eq_true']
  constructor
  · intro h
    apply Classical.byContradiction
    intro hn
    have : acE (canS r s a) (fun k => decide (k < 9) && canR L r s a k) = true := acE_iff.2 ⟨by
      cases e : canS r s a
      · rfl
      · exact absurd (Or.inl e) hn, fun k hk => by
      cases e : canR L r s a k
      · simp
      · exact absurd (Or.inr ⟨k, hk, e⟩) hn⟩
    rw [h] at this; cases this
  · intro h
    cases e : acE (canS r s a) (fun k => decide (k < 9) && canR L r s a k)
    · rfl
    · obtain ⟨h1, h2⟩ := acE_iff.1 e
      rcases h with h | ⟨k, hk, h⟩
      · rw [h1] at h; cases h
      · have := h2 k hk
        rw [h] at this; simp [hk] at this
/-- the set so far: of the signs below k -/
def upS (b : Nat → Bool) (k : Nat) : Nat → Bool := fun x => decide (sgO x < k) && b x
theorem upS_succ (b : Nat → Bool) (k i : Nat) : (if b (sgn k) then upd (sgF (upS b k)) (0 + sgO (sgn k)) (.bool true) i else sgF (upS b k) i) = sgF (upS b (k + 1)) i := by
  unfold sgF upS upd
  simp only [sgO_sgn, Nat.zero_add]
  by_cases e : i = k
  · subst e
    cases hb : b (sgn i)
    · simp
    · simp
  · have : decide (i < k) = decide (i < k + 1) := by apply Bool.eq_iff_iff.2; simp; omega
    cases hb : b (sgn k)
    · rw [if_neg (by simp), this]
    · rw [if_pos rfl, if_neg e, this]

set_option maxRecDepth 100000 in
set_option maxHeartbeats 8000000 in
/-- reading.signsAhead -/
theorem p_signsAhead (t : ByteArray) (rb tb base : Nat) (p : Pl) (v : Value) (S : List Sd) (cores : Nat) (sv : Value) (L : List Ru) (r : Tb) (s : Nat) (x : List Nat) (st : Stk) (w : World) (h : RdS w rb tb base p v S cores sv ((s, x) :: st)) (hP : TabP t p L S r) (hsl : s < S.length) (hlen : st.length ≤ 90000000) :
    Calls Tryd.prog 30 #[.pointer (some ⟨rb, 0, none⟩)] w fun e w' => e = .returned (Agg 27 (sgF (upS (aheadB L r s) 27))) ∧ Fr [] w w' := by
  have HH := hide h
  have HP := hide hP
  clear h hP
  go_enter Tryd.func30, Tryd.ntmps30
  go_wp2_with (first
    | (refine wpList_alloc_blk rfl 48 rfl (some 2) rfl 27 _ Tryd.zeroSign ?_; intro wa hfa hsa hBa; have HA := hide (And.intro hfa (And.intro hsa hBa)); clear hfa hsa hBa)
    | (refine wpList_alloc_blk rfl 48 rfl (some 3) rfl 27 _ Tryd.zeroSign ?_; intro wb hfb hsb hBb; have HB := hide (And.intro hfb (And.intro hsb hBb)); clear hfb hsb hBb)
    | (go_at_call 21; refine (p_last rb tb base p v S cores sv (s, x) st wb (by exact ((unhide HH).fr0 (unhide HA).1).fr0 (unhide HB).1) (by omega)).mono ?_; rintro e w1a ⟨rfl, hf1⟩; have HF1 := hide hf1; clear hf1))
  obtain ⟨W0, hW0⟩ : ∃ W0, w1a.alloc (.cells #[.int .i64 (s : Nat), .string (bstr x)] 67) = W0 := ⟨_, rfl⟩
  rw [hW0]
  have HWB := hide (show w.heap.size < wa.heap.size ∧ wa.heap.size < w1a.heap.size from by have h0 := (unhide HA).2.1; have h1 := (unhide HB).2.1; have h2 := (unhide HF1).size; omega)
  have HB2 := hide (unhide HB).2.2
  have HB0 := hide (unhide HB).1
  have HA0 := hide (unhide HA).1
  have HA2 := hide (unhide HA).2.2
  clear HA HB
  obtain ⟨sb, hsb⟩ : ∃ sb, wa.heap.size = sb := ⟨_, rfl⟩
  rw [hsb] at HWB HB2 ⊢
  clear hsb
  have HI0 := hide (show Fr [] w W0 ∧ Blk W0 w.heap.size 27 (sgF fun _ => false) ∧ Blk W0 sb 27 (sgF (upS (aheadB L r s) 0)) ∧ W0.cell? ⟨w1a.heap.size, 0, none⟩ = some (.int .i64 (s : Nat)) ∧ (w.heap.size < sb ∧ sb < w1a.heap.size) from by
    have f1 : Fr [] wb W0 := hW0 ▸ (unhide HF1).alloc _
    exact ⟨((unhide HA0).trans0 (unhide HB0)).trans0 f1, ((unhide HA2).fr0 (unhide HB0)).fr0 f1, ((unhide HB2).fr0 f1).congr fun i _ => by unfold sgF upS; simp, by rw [← hW0]; simp, unhide HWB⟩)
  clear hW0 HA0 HA2 HB0 HB2 HF1 HWB
  go_loopw [5, 6] (fun iv _ wr => ∃ k : Nat, k ≤ 27 ∧ iv = .int .i64 k ∧ Hid (Fr [] w wr ∧ Blk wr w.heap.size 27 (sgF fun _ => false) ∧ Blk wr sb 27 (sgF (upS (aheadB L r s) k)) ∧ wr.cell? ⟨w1a.heap.size, 0, none⟩ = some (.int .i64 (s : Nat)) ∧ (w.heap.size < sb ∧ sb < w1a.heap.size))) (fun iv _ _ => 27 - (intOf iv).toNat)
  case atStart => exact ⟨0, by omega, rfl, HI0⟩
  case round =>
    obtain ⟨k, hk, rfl, hI⟩ := hrel
    clear HI0
    by_cases hlt : k < 27
    · have hki : (k : Int) < 27 := by omega
      obtain ⟨a, hka⟩ : ∃ a, sgn k = a := ⟨_, rfl⟩
      have HKA := hide hka
      have HA := hide (show sigB a = true from by rw [← hka]; exact sigB_sgn hlt)
      clear hka
      go_wp2_with (go_at_call 46; refine (p_signAt k wr hlt).mono ?_; rintro e w' ⟨rfl, hw'⟩; rw [hw', unhide HKA])
      obtain ⟨W, hW⟩ : ∃ W, wr = W := ⟨_, rfl⟩
      have HWr := hide (show RdS W rb tb base p v S cores sv ((s, x) :: st) from hW ▸ (unhide HH).fr0 (unhide hI).1)
      have HWc := hide (show W.cell? ⟨rb, 0, none⟩ = some (.pointer (some ⟨tb, 0, none⟩)) ∧ W.cell? ⟨w1a.heap.size, 0, none⟩ = some (.int .i64 (s : Nat)) from ⟨(unhide HWr).blk.cell 0 (by omega), hW ▸ (unhide hI).2.2.2.1⟩)
      subst hW
      refine wp_region_held_drew (S := fun w' => Fr [] wr w') (by kernel_rfl) ((Fr.refl [] wr).drew) (fun hHeld => ?_)
      refine wpAnyH_takeD (i := 0) (v := .pointer (some ⟨rb, 0, none⟩)) rfl rfl (by kernel_rfl) (by kernel_rfl) (by kernel_rfl) (fun _ _ _ h => h) (Or.inl ⟨by rfl, fun _ _ => rfl⟩) hHeld ?_
      simp only [Act.put, List.setIfInBounds_toArray, List.set_cons_zero, List.set_cons_succ]
      refine wpAnyH_takeD (i := 1) (v := .pointer (some ⟨rb, 0, none⟩)) rfl rfl (by kernel_rfl) (by kernel_rfl) (by kernel_rfl) (fun _ _ _ h => h) (Or.inl ⟨by rfl, fun _ _ => by go_simp⟩) hHeld ?_
      simp only [Act.put, List.setIfInBounds_toArray, List.set_cons_zero, List.set_cons_succ]
      refine wpAnyH_takeD (i := 2) (v := .pointer (some ⟨rb, 0, none⟩)) rfl rfl (by kernel_rfl) (by kernel_rfl) (by kernel_rfl) (fun _ _ _ h => h) (Or.inl ⟨by rfl, fun _ _ => by go_simp⟩) hHeld ?_
      simp only [Act.put, List.setIfInBounds_toArray, List.set_cons_zero, List.set_cons_succ]
      refine wpAnyH_takeD (i := 3) (v := .pointer (some ⟨tb, 0, none⟩)) rfl rfl (by kernel_rfl) (by kernel_rfl) (by kernel_rfl) (fun _ _ _ h => h) (Or.inl ⟨by rfl, fun w' hw => by (have hc := hw.cell0 (unhide HWc).1); go_simp⟩) hHeld ?_
      simp only [Act.put, List.setIfInBounds_toArray, List.set_cons_zero, List.set_cons_succ]
      refine wpAnyH_takeD (i := 4) (v := .pointer (some ⟨w1a.heap.size, 0, none⟩)) rfl rfl (by kernel_rfl) (by kernel_rfl) (by kernel_rfl) (fun _ _ _ h => h) (Or.inl ⟨by rfl, fun _ _ => by go_simp⟩) hHeld ?_
      simp only [Act.put, List.setIfInBounds_toArray, List.set_cons_zero, List.set_cons_succ]
      refine wpAnyH_takeD (i := 5) (v := .int .i64 (s : Nat)) rfl rfl (by kernel_rfl) (by kernel_rfl) (by kernel_rfl) (fun _ _ _ h => h) (Or.inl ⟨by rfl, fun w' hw => by (have hc := hw.cell0 (unhide HWc).2); go_simp⟩) hHeld ?_
      simp only [Act.put, List.setIfInBounds_toArray, List.set_cons_zero, List.set_cons_succ]
      refine wpAnyH_takeD (i := 6) (v := .int .u8 (a : Nat)) rfl rfl (by kernel_rfl) (by kernel_rfl) (by kernel_rfl) (fun _ _ _ h => h) (Or.inl ⟨by rfl, fun _ _ => rfl⟩) hHeld ?_
      simp only [Act.put, List.setIfInBounds_toArray, List.set_cons_zero, List.set_cons_succ]
      refine wpAnyH_ready (rs := [7, 8]) (by kernel_rfl) (by simp) ?_
      refine AllReadyH.cons rfl (fun K hK => ?g7) (AllReadyH.cons rfl (fun K hK => ?g8) AllReadyH.nil)
      case' g7 =>
        rw [if_pos (by rfl)]
        go_wp2_with fail
        refine (p_actsR t tb base s a p v S cores L r _ (by exact ((unhide HWr).fr0 (Fr.refl [] wr).drew).tab) (unhide HP) hsl (unhide HA)).mono ?_
        rintro e w3 ⟨rfl, hf3⟩
        refine hK.out _ _ (hHeld.trans0 hf3) (fun hHeld3 => ?_)
        refine wpAnyH_ready (rs := [8]) (by kernel_rfl) (by simp) ?_
        refine AllReadyH.cons rfl (fun K2 hK2 => ?_) AllReadyH.nil
        rw [if_pos (by rfl)]
        refine op_alloc_blk 74 rfl (some 7) rfl 10 _ Tryd.zeroActs ?_
        intro w4 hf4 hs4 hB4
        refine hK2.out _ _ (hHeld3.trans0 hf4) (fun hHeld4 => ?_)
        refine wpAnyH_store_last (i := 9) (by kernel_rfl) rfl rfl rfl 74 (.tmp 7) (.tmp 23) rfl w3.heap.size 0 10 10 (acF false fun _ => false) (actsAt L r s a) (by simp [Act.eval, Act.put]) (by simp [Act.eval, Act.put]) hB4 Tryd.sizeActs (by omega) (oneB_acF _ _ 10) (by kernel_rfl) ?_
        intro w5 hf5 hs5 hB5
        refine ⟨hHeld4.trans1 hf5 (Or.inr hHeld3.size), ?_⟩
        have H5 := hide (show Fr [] wr w5 ∧ Blk w5 w3.heap.size 10 (actsAt L r s a) from ⟨hHeld4.trans1 hf5 (Or.inr hHeld3.size), hB5.congr fun i hi => lay_all _ _ _ i hi⟩)
        clear hK hK2 hHeld hHeld3 hHeld4 hf3 hf4 hf5 hB4 hB5 hs4 hs5
        generalize w3.heap.size = fb at *
      case' g8 =>
        rw [if_pos (by rfl)]
        refine op_alloc_blk 74 rfl (some 7) rfl 10 _ Tryd.zeroActs ?_
        intro w3 hf3 hs3 hB3
        refine hK.out _ _ (hHeld.trans0 hf3) (fun hHeld3 => ?_)
        refine wpAnyH_ready (rs := [7]) (by kernel_rfl) (by simp) ?_
        refine AllReadyH.cons rfl (fun K2 hK2 => ?_) AllReadyH.nil
        rw [if_pos (by rfl)]
        go_wp2_with fail
        refine (p_actsR t tb base s a p v S cores L r _ (by exact ((unhide HWr).fr0 hHeld3).tab) (unhide HP) hsl (unhide HA)).mono ?_
        rintro e w4 ⟨rfl, hf4⟩
        refine hK2.out _ _ (hHeld3.trans0 hf4) (fun hHeld4 => ?_)
        refine wpAnyH_store_last (i := 9) (by kernel_rfl) rfl rfl rfl 74 (.tmp 7) (.tmp 23) rfl wr.drew.heap.size 0 10 10 (acF false fun _ => false) (actsAt L r s a) (by simp [Act.eval]) (by simp [Act.eval]) (hB3.fr0 hf4) Tryd.sizeActs (by omega) (oneB_acF _ _ 10) (by kernel_rfl) ?_
        intro w5 hf5 hs5 hB5
        refine ⟨hHeld4.trans1 hf5 (Or.inr (Nat.le_refl _)), ?_⟩
        have H5 := hide (show Fr [] wr w5 ∧ Blk w5 wr.heap.size 10 (actsAt L r s a) from ⟨hHeld4.trans1 hf5 (Or.inr (Nat.le_refl _)), hB5.congr fun i hi => lay_all _ _ _ i hi⟩)
        clear hK hK2 hHeld hHeld3 hHeld4 hf3 hf4 hf5 hB3 hB5 hs3 hs5
        generalize wr.heap.size = fb at *
      all_goals
        have HI5 := hide (show Fr [] w w5 ∧ Blk w5 w.heap.size 27 (sgF fun _ => false) ∧ Blk w5 sb 27 (sgF (upS (aheadB L r s) k)) ∧ w5.cell? ⟨w1a.heap.size, 0, none⟩ = some (.int .i64 (s : Nat)) from ⟨(unhide hI).1.trans0 (unhide H5).1, (unhide hI).2.1.fr0 (unhide H5).1, (unhide hI).2.2.1.fr0 (unhide H5).1, (unhide H5).1.cell0 (unhide hI).2.2.2.1⟩)
        have HW2 := hide (unhide hI).2.2.2.2
        clear HWc HWr
        cases hem : acE (canS r s a) (fun k => decide (k < 9) && canR L r s a k)
        · have HEm := hide hem
          have HUp := hide (show ∀ i, i < 27 → upd (sgF (upS (aheadB L r s) k)) (0 + sgO a) (.bool true) i = sgF (upS (aheadB L r s) (k + 1)) i from fun i _ => by
            have := upS_succ (aheadB L r s) k i
            rw [unhide HKA, if_pos (by unfold aheadB; rw [hem]; rfl)] at this
            exact this)
          clear hem
          go_wp2_with (first
            | (go_at_call 36; refine (p_aEmpty fb _ _ w5 (by exact (unhide H5).2)).mono ?_; rintro e w6 ⟨rfl, hf6⟩; rw [unhide HEm]; have HF6 := hide hf6; clear hf6)
            | (go_at_call 47; refine (p_saddO sb 0 a 27 (sgF (upS (aheadB L r s) k)) w6 (by exact (unhide HI5).2.2.1.fr0 (unhide HF6)) (by omega) (unhide HA)).mono ?_; rintro e w7 ⟨rfl, hf7, hs7, hB7⟩; have HI7 := hide (show Fr [] w w7 ∧ Blk w7 w.heap.size 27 (sgF fun _ => false) ∧ Blk w7 sb 27 (sgF (upS (aheadB L r s) (k + 1))) ∧ w7.cell? ⟨w1a.heap.size, 0, none⟩ = some (.int .i64 (s : Nat)) ∧ (w.heap.size < sb ∧ sb < w1a.heap.size) from ⟨((unhide HI5).1.trans0 (unhide HF6)).trans1 hf7 (Or.inr (Nat.le_of_lt (unhide HW2).1)), ((unhide HI5).2.1.fr0 (unhide HF6)).fr1 hf7 (Nat.ne_of_lt (unhide HW2).1), hB7.congr fun i hi => unhide HUp i hi, hf7.cell ((unhide HF6).cell0 (unhide HI5).2.2.2) (by have := unhide HW2; simp; omega), unhide HW2⟩); clear hf7 hs7 hB7))
          go_roundw
          case rel => exact ⟨k + 1, by omega, by go_num, HI7⟩
          case measure => simp [intOf]; omega
        · have HEm := hide hem
          have HUp := hide (show ∀ i, i < 27 → sgF (upS (aheadB L r s) k) i = sgF (upS (aheadB L r s) (k + 1)) i from fun i _ => by
            have := upS_succ (aheadB L r s) k i
            rw [unhide HKA, if_neg (by unfold aheadB; rw [hem]; simp)] at this
            exact this)
          clear hem
          go_wp2_with (go_at_call 36; refine (p_aEmpty fb _ _ w5 (by exact (unhide H5).2)).mono ?_; rintro e w6 ⟨rfl, hf6⟩; rw [unhide HEm]; have HI7 := hide (show Fr [] w w6 ∧ Blk w6 w.heap.size 27 (sgF fun _ => false) ∧ Blk w6 sb 27 (sgF (upS (aheadB L r s) (k + 1))) ∧ w6.cell? ⟨w1a.heap.size, 0, none⟩ = some (.int .i64 (s : Nat)) ∧ (w.heap.size < sb ∧ sb < w1a.heap.size) from ⟨(unhide HI5).1.trans0 hf6, (unhide HI5).2.1.fr0 hf6, ((unhide HI5).2.2.1.fr0 hf6).congr fun i hi => unhide HUp i hi, hf6.cell0 (unhide HI5).2.2.2, unhide HW2⟩); clear hf6)
          go_roundw
          case rel => exact ⟨k + 1, by omega, by go_num, HI7⟩
          case measure => simp [intOf]; omega
    · have hk27 : k = 27 := by omega
      subst hk27
      go_wp2_with (first
        | (refine wpList_load_blk rfl 48 (.tmp 3) rfl (some 28) rfl sb 0 27 27 (sgF (upS (aheadB L r s) 27)) _ rfl (by exact (unhide hI).2.2.1) Tryd.underlying48 rfl Tryd.sizeSign (by omega) ?_)
        | (refine wpList_store_blk rfl 48 (.tmp 2) (.tmp 28) rfl w.heap.size 0 27 27 (sgF fun _ => false) (fun i => sgF (upS (aheadB L r s) 27) (0 + i)) rfl rfl (by exact (unhide hI).2.1) Tryd.sizeSign (by omega) (fun _ _ => rfl) ?_; intro w7 hf7 hs7 hB7))
      exact bodyPost_ret (results_cell Tryd.results30 _ w.heap.size rfl 27 27 _ _ (hB7.congr fun i hi => lay_all _ _ _ i hi) Tryd.underlying48 rfl Tryd.sizeSign (by omega)) rfl ⟨by congr 2; funext i; rw [Nat.zero_add], (unhide hI).1.trans1 hf7 (Or.inr (Nat.le_refl _))⟩
end Go.Proofs.YtkglggkkbmmjkaaDoor
