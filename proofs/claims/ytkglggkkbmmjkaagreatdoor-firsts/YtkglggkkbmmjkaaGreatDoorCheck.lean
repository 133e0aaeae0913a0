import Derived.Test.YtkglggkkbmmjkaaGreatDoorReadGram2
namespace Go.Proofs.YtkglggkkbmmjkaaGreatDoor
open Go.RowKit

set_option maxHeartbeats 1000000 in
theorem p_Check (t : ByteArray) (w : World) (hm : t.size ≤ 9223372036854775807) :
    Calls Tryz.prog 13 #[.string t] w fun e w' => e = .returned (.tuple #[.int .i64 (gErr t).1, .int .i64 (gErr t).2]) ∧ Fr [] w w' := by
  go_enter Tryz.func13, Tryz.ntmps13
  go_wp2_with (first
    | (go_at_call 23; refine (p_readGrammar t _ hm).mono ?_; rintro e w1 ⟨f, rfl, hg⟩; have HG := hide hg; clear hg)
    | (refine wpList_alloc_blk rfl 53 rfl (some 4) rfl 758 _ Tryz.zeroGram ?_; intro w2 hf2 hs2 hB2; have HF2 := hide hf2; have HB2 := hide hB2; clear hf2 hs2 hB2)
    | (refine wpList_store_blk rfl 53 (.tmp 4) (.tmp 6) rfl w1.heap.size 0 758 758 (gF (.slice none 0 0) 0 (fun _ => false) (fun _ => false) (fun _ _ => false) 0 0) f rfl rfl (by exact unhide HB2) Tryz.sizeGram (by omega) (by exact (unhide HG).2.1) ?_; intro w3 hf3 hs3 hB3; have HF3 := hide hf3; have HB3 := hide (hB3.congr fun i hi => lay_all _ _ _ i hi); clear hf3 hs3 hB3))
  have c6 := ((unhide HB3).cell 756 (by omega)).trans (congrArg some (unhide HG).2.2.1)
  have c7 := ((unhide HB3).cell 757 (by omega)).trans (congrArg some (unhide HG).2.2.2.1)
  go_quiet (fail)
  go_wp2
  go_ret2
  exact ⟨rfl, (((unhide HG).1.trans0 (unhide HF2)).trans1 (unhide HF3) (Or.inr (unhide HG).1.size)).trans0 (fr_drewN _ _)⟩

end Go.Proofs.YtkglggkkbmmjkaaGreatDoor
