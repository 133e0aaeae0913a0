import Derived.Test.YtkglggkkbmmjkaaGreatDoorJ33PLay
namespace Go.Proofs.YtkglggkkbmmjkaaGreatDoor
open Go.RowKit

theorem Tryz.zeroPlan : (Tryz.prog.info? 76).bind (·.zero) = some (Agg 1359 (plF (planOf [] (fun _ => false) (fun _ _ => false)))) := by kernel_rfl
theorem Tryz.sizePlan : (Tryz.prog.info? 76).map (·.size) = some 1359 := by kernel_rfl
theorem planOf_nil (N N' : Nat → Bool) (F F' : Nat → Nat → Bool) (i : Nat) : plF (planOf [] N F) i = plF (planOf [] N' F') i := by
  unfold plF
  split
  · rfl
  · exact spF_congr (p := planOf [] N F) (q := planOf [] N' F') rfl rfl (fun _ => rfl) rfl _
theorem oneB_plF (p : Pl) (m : Nat) : oneB (plF p) m := fun i hi => by
  unfold plF
  split
  · rfl
  · exact oneB_spF p _ _ ((i - 9) % 30 + 1) _ (Nat.lt_succ_self _)
/-- rule 0 -/
def rul0 (c : Nat) : Ru := ⟨0, ⟨#[UInt8.ofNat c]⟩, 0⟩
/-- the rules by their numbers -/
def rul (rs : List Ru) : List Ru := rul0 (stOf rs) :: rs
theorem Tryz.sizeRuleP : (Tryz.prog.info? 166).map (·.size) = some 3 := by kernel_rfl
theorem Tryz.zeroRuleP : (Tryz.prog.info? 166).bind (·.zero) = some (Agg 3 (ruF ⟨0, ⟨#[]⟩, 0⟩)) := by kernel_rfl
end Go.Proofs.YtkglggkkbmmjkaaGreatDoor

namespace Go.Proofs.YtkglggkkbmmjkaaGreatDoor
open Go.RowKit

/-- makePlan's state -/
def MpS (w wr : World) (b q cap : Nat) (rs L : List Ru) (N : Nat → Bool) (F : Nat → Nat → Bool) (e p : Int) : Prop :=
  Fr [] w wr ∧ GAt wr b q cap rs N F e p ∧ Blk wr (w.heap.size + 1) 1359 (plF (planOf L N F)) ∧ Blk wr w.heap.size 1359 (plF (planOf [] (fun _ => false) (fun _ _ => false))) ∧ b < w.heap.size ∧ q < w.heap.size

theorem MpS.fr0 {w wr w' : World} {b q cap : Nat} {rs L : List Ru} {N : Nat → Bool} {F : Nat → Nat → Bool} {e p : Int} (h : MpS w wr b q cap rs L N F e p) (k : Fr [] wr w') : MpS w w' b q cap rs L N F e p :=
  ⟨h.1.trans0 k, h.2.1.fr0 k, h.2.2.1.fr0 k, h.2.2.2.1.fr0 k, h.2.2.2.2⟩
theorem MpS.far {w wr w' : World} {b q cap x : Nat} {rs L : List Ru} {N : Nat → Bool} {F : Nat → Nat → Bool} {e p : Int} (h : MpS w wr b q cap rs L N F e p) (k : Fr [x] wr w') (hx : w.heap.size + 1 < x) : MpS w w' b q cap rs L N F e p :=
  ⟨h.1.trans1 k (Or.inr (by omega)), h.2.1.fr k (by have := h.2.2.2.2; simp; omega) (by have := h.2.2.2.2; simp; omega), h.2.2.1.fr1 k (by omega), h.2.2.2.1.fr1 k (by omega), h.2.2.2.2⟩
theorem MpS.put {w wr w' : World} {b q cap : Nat} {rs L L' : List Ru} {N : Nat → Bool} {F : Nat → Nat → Bool} {e p : Int} (h : MpS w wr b q cap rs L N F e p) (k : Fr [w.heap.size + 1] wr w') (hB : Blk w' (w.heap.size + 1) 1359 (plF (planOf L' N F))) : MpS w w' b q cap rs L' N F e p :=
  ⟨h.1.trans1 k (Or.inr (by omega)), h.2.1.fr k (by have := h.2.2.2.2; simp; omega) (by have := h.2.2.2.2; simp; omega), hB, h.2.2.2.1.fr1 k (by omega), h.2.2.2.2⟩
theorem rul0_cells (c i : Nat) (hi : i < 3) : upd (ruF ⟨0, ⟨#[]⟩, 0⟩) 1 (.string ⟨#[UInt8.ofNat c]⟩) i = ruF (rul0 c) i := by
  rcases (by omega : i = 0 ∨ i = 1 ∨ i = 2) with rfl | rfl | rfl <;> rfl
theorem rul0_let (c : Nat) (h : 65 ≤ c ∧ c ≤ 90) (i : Nat) (hi : i < (rul0 c).R.size) : letB (ch (rul0 c).R i) = true := by
  obtain rfl : i = 0 := by
    have : i < 1 := hi
    omega
  have e : ch (rul0 c).R 0 = c := by
    show (UInt8.ofNat c).toNat = c
    rw [UInt8.toNat_ofNat']; omega
  rw [e]
  simp [letB, bigB_iff.2 h]


set_option maxRecDepth 100000 in
set_option maxHeartbeats 2000000 in
/-- grammar.makePlan -/
theorem p_makePlan (b q cap : Nat) (rs : List Ru) (N : Nat → Bool) (F : Nat → Nat → Bool) (e p : Int) (w : World) (h : GAt w b q cap rs N F e p) (hst : bigB (stOf rs) = true)
    (hr : ∀ i (h : i < rs.length), rs[i].R.size < 5 ∧ ∀ j, j < rs[i].R.size → letB (ch rs[i].R j) = true) :
    Calls Tryz.prog 120 #[.pointer (some ⟨b, 0, none⟩)] w fun e' w' => e' = .returned (Agg 1359 (plF (planOf (rul rs) N F))) ∧ Fr [] w w' := by
  have lb := h.blk.lt
  have lq := h.lt
  have hlen := h.len
  have H := hide h
  have HR := hide hr
  have hcb := bigB_iff.1 hst
  have k1 : w.cell? ⟨b, 1, none⟩ = some (.int .u8 (stOf rs : Nat)) := h.blk.cell 1 (by omega)
  obtain ⟨c, hc0⟩ : ∃ c, stOf rs = c := ⟨_, rfl⟩
  rw [hc0] at k1 hcb
  have HC := hide hc0
  clear h hr hst hc0
  go_enter Tryz.func120, Tryz.ntmps120
  go_wp2_with (first
    | (refine wpList_alloc_blk rfl 76 rfl (some 2) rfl 1359 _ Tryz.zeroPlan ?_; intro w1 hf1 hs1 hB1; have HR1 := hide hB1; have HF1 := hide hf1; clear hf1 hB1)
    | (refine wpList_alloc_blk rfl 76 rfl (some 3) rfl 1359 _ Tryz.zeroPlan ?_; intro w2 hf2 hs2 hB2; have H2 := hide (show MpS w w2 b q cap rs [] N F e p from ⟨(unhide HF1).trans0 hf2, ((unhide H).fr0 (unhide HF1)).fr0 hf2, hs1 ▸ hB2.congr fun i _ => planOf_nil _ _ _ _ i, (unhide HR1).fr0 hf2, lb, lq⟩); have k1' : w2.cell? ⟨b, 1, none⟩ = some (.int .u8 (c : Nat)) := ((unhide HC) ▸ (unhide H2).2.1.blk.cell 1 (by omega)); clear hf2 hB2 HR1 HF1)
    | (refine wpList_alloc_blk rfl 166 rfl (some 4) rfl 3 _ Tryz.zeroRuleP ?_; intro w3 hf3 hs3 hB3; have H3 := hide (show MpS w w3 b q cap rs [] N F e p from (unhide H2).fr0 hf3); have HZ3 := hide (show Blk w3 (w.heap.size + 1 + 1) 3 _ from (show w2.heap.size = w.heap.size + 1 + 1 from by (rw [hs2, hs1])) ▸ hB3); have k3 : w3.cell? ⟨b, 1, none⟩ = some (.int .u8 (c : Nat)) := ((unhide HC) ▸ (unhide H3).2.1.blk.cell 1 (by omega)); have z1 := (unhide HZ3).cell 1 (by omega); have y1 := (unhide HZ3).free 1; clear hf3 hB3 k1' k1)
    | (refine wpList_str_one rfl 158 9 5 (.tmp 10) rfl (w.heap.size + 1 + 1 + 1) 1 c (by omega) Tryz.underlying158 Tryz.underlying5 Tryz.underlying9 rfl (by rw [show w.heap.size + 1 + 1 + 1 = w3.heap.size from by (rw [hs3, hs2, hs1])]; simp) ?_; have H4 := hide (show MpS w ((w3.setCell ⟨w.heap.size + 1 + 1, 1, none⟩ (.string ⟨#[UInt8.ofNat c]⟩)).alloc (.cells #[.int .u8 c] 5)) b q cap rs [] N F e p from ((unhide H3).far ((Fr.refl [w.heap.size + 1 + 1] _).setCell ⟨w.heap.size + 1 + 1, 1, none⟩ (by simp) _) (by omega)).fr0 ((Fr.refl [] _).alloc _)); have HZ4 := hide (show Blk ((w3.setCell ⟨w.heap.size + 1 + 1, 1, none⟩ (.string ⟨#[UInt8.ofNat c]⟩)).alloc (.cells #[.int .u8 c] 5)) (w.heap.size + 1 + 1) 3 (ruF (rul0 c)) from (((unhide HZ3).setCell 1 (.string ⟨#[UInt8.ofNat c]⟩)).congr fun i hi => rul0_cells c i hi).alloc _); clear H3 H2)
    | (refine wpList_load_blk rfl 166 (.tmp 4) rfl (some 14) rfl (w.heap.size + 1 + 1) 0 3 3 (ruF (rul0 c)) _ rfl (by exact unhide HZ4) Tryz.underlying166 rfl Tryz.sizeRuleP (by omega) ?_; rw [show (Agg 3 fun i => ruF (rul0 c) (0 + i)) = Agg 3 (ruF (rul0 c)) from rfl])
    | (go_at_call 138; refine (p_layRule b q cap (w.heap.size + 1) rs [] N F e p (rul0 c) _ (by exact (unhide H4).2.1) (by exact (unhide H4).2.2.1) (by omega) (by omega) (by show 0 < 9; omega) (by show 1 < 5; omega) (rul0_let c hcb)).mono ?_; rintro e' w5 ⟨rfl, hf5, hB5⟩; have H5 := hide (show MpS w w5 b q cap rs ((rul rs).take 1) N F e p from ((unhide H4).put hf5 (by rw [show (rul rs).take 1 = [] ++ [rul0 c] from by (unfold rul; rw [unhide HC]; rfl)]; exact hB5))); have hq := (unhide H5).2.1.c0; clear hf5 hB5 H4 HZ4))
  clear HZ3 z1 y1 k3
  go_loopw [5] (fun i wr => ∃ k : Nat, k ≤ rs.length ∧ i = .int .i64 k ∧ Hid (MpS w wr b q cap rs ((rul rs).take (k + 1)) N F e p)) (fun i _ => rs.length - (intOf i).toNat)
  case atStart => exact ⟨0, by omega, rfl, H5⟩
  case round =>
    obtain ⟨k, hk, rfl, hs⟩ := hrel
    clear H5 hq
    have hq := (unhide hs).2.1.c0
    by_cases hlt : k < rs.length
    · have hR := unhide HR k hlt
      obtain ⟨a0, a1, a2⟩ := (unhide hs).2.1.ru k hlt
      have HK := hide (show CsAt wr q (k * 3) 3 (ruF rs[k]) from fun i hi => by
        rcases (by omega : i = 0 ∨ i = 1 ∨ i = 2) with rfl | rfl | rfl
        · exact a0
        · exact a1
        · exact a2)
      have HLn := hide (show ((rul rs).take (k + 1)).length = k + 1 from by rw [List.length_take]; unfold rul; simp; omega)
      have HTk := hide (show (rul rs).take (k + 1 + 1) = (rul rs).take (k + 1) ++ [rs[k]] from by
        rw [List.take_add_one, show (rul rs)[k + 1]? = some rs[k] from by unfold rul; simp [hlt]]; rfl)
      clear a0 a1 a2
      go_wp2_with (first
        | (refine wpList_load_cs rfl 166 (.tmp 33) rfl (some 34) rfl q (k * 3) 3 (ruF rs[k]) _ rfl (by exact unhide HK) Tryz.underlying166 rfl Tryz.sizeRuleP ?_)
        | (go_at_call 138; have hcall := (p_layRule b q cap (w.heap.size + 1) rs ((rul rs).take (k + 1)) N F e p rs[k] wr (by exact (unhide hs).2.1) (by exact (unhide hs).2.2.1) (by omega) (by omega) (by rw [unhide HLn]; omega) hR.1 hR.2); rw [unhide HLn] at hcall; refine hcall.mono ?_; rintro e' w5 ⟨rfl, hf5, hB5⟩; have H5 := hide (show MpS w w5 b q cap rs ((rul rs).take (k + 1 + 1)) N F e p from ((unhide hs).put hf5 (by rw [unhide HTk]; exact hB5))); clear hf5 hB5 hcall))
      go_roundw
      case rel => exact ⟨k + 1, by omega, by go_num, H5⟩
      case measure => simp [intOf]; omega
    · have HN := hide (show MpS w wr b q cap rs (rul rs) N F e p from by
        have e1 : k = rs.length := by omega
        have h := unhide hs
        rw [e1, List.take_of_length_le (by unfold rul; simp)] at h; exact h)
      clear hs
      go_wp2_with (first
        | (refine wpList_load_blk rfl 76 (.tmp 3) rfl (some 36) rfl (w.heap.size + 1) 0 1359 1359 (plF (planOf (rul rs) N F)) _ rfl (by exact (unhide HN).2.2.1) Tryz.underlying76 rfl Tryz.sizePlan (by omega) ?_)
        | (refine wpList_store_blk rfl 76 (.tmp 2) (.tmp 36) rfl w.heap.size 0 1359 1359 (plF (planOf [] (fun _ => false) (fun _ _ => false))) (fun i => plF (planOf (rul rs) N F) (0 + i)) rfl rfl (by exact (unhide HN).2.2.2.1) Tryz.sizePlan (by omega) (fun i hi => oneB_plF (planOf (rul rs) N F) 1359 (0 + i) (by omega)) ?_; intro w7 hf7 hs7 hB7))
      exact bodyPost_ret (results_cell Tryz.results120 _ w.heap.size rfl 1359 1359 _ _ (hB7.congr fun i hi => lay_all _ _ _ i hi) Tryz.underlying76 rfl Tryz.sizePlan (by omega)) rfl ⟨by congr 2; funext i; rw [Nat.zero_add], (unhide HN).1.trans1 hf7 (Or.inr (Nat.le_refl _))⟩
end Go.Proofs.YtkglggkkbmmjkaaGreatDoor

