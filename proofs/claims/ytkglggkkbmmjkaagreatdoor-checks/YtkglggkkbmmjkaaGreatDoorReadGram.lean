import Derived.Test.YtkglggkkbmmjkaaGreatDoorParse
namespace Go.Proofs.YtkglggkkbmmjkaaGreatDoor
open Go.RowKit

/-- what readGrammar hands back -/
def GramOut (t : ByteArray) (w w' : World) (f : Nat → Value) : Prop :=
  Fr [] w w' ∧ oneB f 758 ∧ f 756 = .int .i64 (gErr t).1 ∧ f 757 = .int .i64 (gErr t).2 ∧
  ((gErr t).1 = 0 → t.size ≤ 32 ∧ (parse t 8 0 []).2.2 = true ∧ ∃ q cap, f = gF (.slice (some ⟨q, 0, none⟩) (parse t 8 0 []).1.length cap) (stOf (parse t 8 0 []).1) (rset (parse t 8 0 []).1) (nullS (parse t 8 0 []).1) (firstT (parse t 8 0 []).1) 0 0 ∧
    RuAt w' q (parse t 8 0 []).1 ∧ w.heap.size ≤ q ∧ q < w'.heap.size)

set_option maxHeartbeats 1600000 in
theorem p_readGrammar_long (t : ByteArray) (w : World) (ht : 32 < t.size) (hm : t.size ≤ 9223372036854775807) :
    Calls Tryz.prog 23 #[.string t] w fun e w' => ∃ f, e = .returned (Agg 758 f) ∧ GramOut t w w' f := by
  have HG := hide (show gErr t = (1, 0) from by unfold gErr; rw [if_pos ht])
  go_enter Tryz.func23, Tryz.ntmps23
  go_wp2_with (first
    | (refine wpList_alloc_blk rfl 53 rfl (some 2) rfl 758 _ Tryz.zeroGram ?_; intro w1 hf1 hs1 hB1; have HF1 := hide hf1; have HB1 := hide hB1; clear hf1 hs1 hB1)
    | (refine wpList_alloc_blk rfl 53 rfl (some 3) rfl 758 _ Tryz.zeroGram ?_; intro w2 hf2 hs2 hB2; have HF2 := hide hf2; have HB2 := hide hB2; have HR2 := hide ((unhide HB1).fr0 hf2); clear hf2 hs2 hB2)
    | (go_at_call 55; refine (p_refuse w1.heap.size 1 0 _ _ (by exact unhide HB2)).mono ?_; rintro e w3 ⟨rfl, hf3⟩; have HF3 := hide hf3.1; have HB3 := hide (hf3.2.2.congr fun i hi => gF_ref _ _ _ _ _ _ _ _ _ i hi); have HR3 := hide ((unhide HR2).fr1 hf3.1 (by have := (unhide HB1).lt; omega)); clear hf3)
    | (refine wpList_load_blk rfl 53 (.tmp 3) rfl (some 8) rfl w1.heap.size 0 758 758 (gF (.slice none 0 0) 0 (fun _ => false) (fun _ => false) (fun _ _ => false) 1 0) _ rfl (by exact unhide HB3) Tryz.underlying53 rfl Tryz.sizeGram (by omega) ?_)
    | (refine wpList_store_blk rfl 53 (.tmp 2) (.tmp 8) rfl w.heap.size 0 758 758 (gF (.slice none 0 0) 0 (fun _ => false) (fun _ => false) (fun _ _ => false) 0 0) (fun i => gF (.slice none 0 0) 0 (fun _ => false) (fun _ => false) (fun _ _ => false) 1 0 (0 + i)) rfl rfl (by exact unhide HR3) Tryz.sizeGram (by omega) (by intro i hi; exact oneB_gF' _ rfl _ _ _ _ _ _ _ (by omega)) ?_; intro w9 hf9 hs9 hB9))
  have hfin : Blk w9 w.heap.size 758 (gF (.slice none 0 0) 0 (fun _ => false) (fun _ => false) (fun _ _ => false) 1 0) := hB9.congr fun i hi => by rw [lay_all _ _ _ _ hi, Nat.zero_add]
  refine bodyPost_ret (results_cell Tryz.results23 _ w.heap.size rfl 758 758 _ _ hfin Tryz.underlying53 rfl Tryz.sizeGram (by omega)) rfl ⟨_, rfl, ?_⟩
  refine ⟨(((unhide HF1).trans0 (unhide HF2)).trans1 (unhide HF3) (Or.inr (unhide HF1).size)).trans1 hf9 (Or.inr (Nat.le_refl _)), oneB_gF' _ rfl _ _ _ _ _ _, ?_, ?_, ?_⟩
  · rw [gF_756, unhide HG]; rfl
  · rw [gF_757, unhide HG]; rfl
  · rw [unhide HG]; intro h; cases h

end Go.Proofs.YtkglggkkbmmjkaaGreatDoor
