import Derived.Test.YtkglggkkbmmjkabGreatDoorG53LF
import Derived.Test.YtkglggkkbmmjkabGreatDoorCards
import Derived.Test.YtkglggkkbmmjkabGreatDoorTie
import Derived.Test.YtkglggkkbmmjkabGreatDoorG0Leaf
import Derived.ProofKit
import Derived.LaidMore
import Derived.OpenShut
import Derived.Stop.Joined
import Derived.Test.YtkglggkkbmmjkabGreatDoorG6Script
namespace Go.Proofs.YtkglggkkbmmjkabGreatDoor
open Go.RowKit
theorem plays_all : PlaysOk 1 12 := fun k n g s w h1 h2 hg hs => by
 have : (1 ≤ k ∧ k ≤ 1) ∨ (2 ≤ k ∧ k ≤ 3) ∨ (4 ≤ k ∧ k ≤ 4) ∨ (5 ≤ k ∧ k ≤ 7) ∨ (8 ≤ k ∧ k ≤ 9) ∨ (10 ≤ k ∧ k ≤ 10) ∨ (11 ≤ k ∧ k ≤ 11) ∨ (12 ≤ k ∧ k ≤ 12) := by omega
 rcases this with h | h | h | h | h | h | h | h
 ·exact plays_check k n g s w h.1 h.2 hg hs
 ·exact plays_firsts k n g s w h.1 h.2 hg hs
 ·exact plays_follows k n g s w h.1 h.2 hg hs
 ·exact plays_tables k n g s w h.1 h.2 hg hs
 ·exact plays_cores k n g s w h.1 h.2 hg hs
 ·exact plays_classes k n g s w h.1 h.2 hg hs
 ·exact plays_trees k n g s w h.1 h.2 hg hs
 ·exact plays_stops k n g s w h.1 h.2 hg hs
set_option maxHeartbeats 400000 in
theorem l_All (ao : Option Addr) (len cap : Nat) (w : World) (h : ScriptOk w ao len) :
 Calls Tryz.prog 3 #[.slice ao len cap] w fun e w' => e = .returned (.bool true) ∧ Fr [] w w' := by
 have H := hide h
 clear h
 go_enter Tryz.func3, Tryz.ntmps3
 go_wp2_with (go_at_call 4; refine (l_UpTo 1 12 plays_all ao len cap _ (zaa H)).mono ?_; rintro e w1 ⟨rfl, hf1⟩; have HF1 := hide hf1; clear hf1)
 go_ret
 exact ⟨by simp, zaa HF1⟩
end Go.Proofs.YtkglggkkbmmjkabGreatDoor
namespace Go.Proofs.YtkglggkkbmmjkabGreatDoor
open Go.ChangeShapes Go.WideShapes Go.ChangeAt Go.WideMaps Go.WideElems Go.RowKit
theorem door_met (os : Os) (args : Array Value) : laidMetH Tryz.prog Rows.allRow.laid ((World.doorLaid Tryz.prog 400 os).forCall (fun _ _ => 0) ⟨#[], args, []⟩).memory :=
 laidMetH_of_parts3 (fuel := 8) (laidMet_of_run' 8 (by kernel_rfl) (by kernel_rfl)) (by kernel_rfl) (by kernel_rfl)
end Go.Proofs.YtkglggkkbmmjkabGreatDoor
namespace Go.Proofs.YtkglggkkbmmjkabGreatDoor
open Go.ChangeShapes Go.WideShapes Go.ChangeAt Go.RowKit Go.Deep
set_option maxRecDepth 100000 in
theorem all_lifted (os : Os) (started : os.Started) (H : Type) (enc : TypeId × Value → H) :
 ReturnsInHanded {} Tryz.checked os 3 .any (fun w args => (Rows.allSpec.pre enc Tryz.prog Tryz.f3 [] false w args ∧ laidMetH Tryz.prog Rows.allRow.laid w) ∧ sizedMet enc Tryz.prog Tryz.f3 (OpenSpec.ofChange Rows.allSpec) false w args) (Rows.allSpec.post enc Tryz.prog Tryz.f3 false true false false) := by
 refine returnsInHanded_of_change_and (C := Tryz.checked) (X := fun w _ => laidMetH Tryz.prog Rows.allRow.laid w) (fun _ _ _ hh h => h.of_heap hh) Tryz.own started (by kernel_rfl) Tryz.func3
  (ChangeSpec.witness_shaped (enc := enc) (C := Tryz.checked) (os := os) (X := fun w _ => laidMetH Tryz.prog Rows.allRow.laid w) false (World.doorLaid Tryz.prog 400 os) #[.slice none 0 0] 8 rfl (World.shaped_of_RefB (by kernel_rfl) (by kernel_rfl)) (by kernel_rfl) (by kernel_rfl) (by kernel_rfl) (door_met os _)) ?_
 intro W base args ds gs before hval0 hW _ hsz0 _ _
 have hval : ∀ (j : Nat) t v, Tryz.f3.params[j]? = some t → args[j]? = some v → Value.okWide Tryz.prog W .any base t v := hval0
 have hsz : (DataW.weightsEach Tryz.prog (Tryz.f3.params.toList ++ Rows.allSpec.plain.varTypes Tryz.prog) (ds ++ gs)).all (· ≤ reachBytes) = true := hsz0
 have hW' := hW
 obtain ⟨p, q, hA0, hV, rfl, _, _⟩ := hW
 have hA : DataW.TrodAll enc Tryz.prog W 0 (fun _ => true) true Tryz.f3.params.toList args.toList ds p := hA0
 rw [Tryz.params3] at hA hval hsz
 obtain ⟨v0, d0, rfl, rfl, h0⟩ := trodAll_one hA
 obtain ⟨rfl, rfl⟩ := trodVars_none hV
 obtain ⟨a0, len, cap, rfl⟩ := okWide_slice Tryz.underlying22 (hval 0 22 v0 rfl rfl)
 have h0k := h0
 obtain ⟨fuel, hf⟩ := h0
 clear hA0 hval0
 simp only [List.append_nil] at hW'
 have hlt : ∀ x ∈ p, x.block < W.heap.size := fun x hx => by simpa using hW'.lt x hx
 have hok : ScriptOk W a0 len := open_script (by simpa [Value.cells] using hf) hsz
 refine (l_All a0 len cap W hok).mono fun e W' ⟨he, hfr⟩ => ?_
 subst he
 refine ⟨_, rfl, _, _, _, [], p, [], hW', ?_, ?_, rfl, hfr.below.frame _, fun h => by cases h⟩
 ·exact trodAll_mk1 (shut_bool Tryz.underlying4 true)
 ·exact trodAll_mk1 (Below.trod Tryz.laidOut (by kernel_rfl) (of_decide_eq_true (by kernel_rfl)) h0k hfr.below hlt)
theorem all_row : Rows.AllSaid :=
 OpenClaim.holds_of_wide 3 Tryz.f3 rfl rfl rfl rfl rfl rfl rfl ⟨rfl, rfl, rfl, rfl, rfl⟩ rfl rfl rfl rfl rfl (by kernel_rfl) Tryz.func3 (by kernel_rfl)
  (of_decide_eq_true (by kernel_rfl)) (by unfold Func.isWrapper; first | (rw [if_pos (by decide +kernel)]; kernel_rfl) | (rw [if_neg (by decide +kernel)]; exact ⟨rfl, rfl⟩))
  (fun os started H enc _ => all_lifted os started H enc)
theorem all_holds : Rows.AllCardSaid :=
 Claim7.holds_tied_plain_at .later [] [.data, .data, .data] true (true, "afa2f3a651961dd531bebc3dc37caa37ccc9032e6e3d5c3cd57cb22bf1f1adf9") false
  all_row (fun _ h => by cases h) (by kernel_rfl) (fun _ h => by cases h) all_row_tie rfl ⟨rfl, rfl⟩ (by kernel_rfl) rfl
  (fun f fn hf hfn => by
   obtain rfl : f = 3 := Option.some.inj ((show Tryz.prog.funcNamed "lrgen/lrgenlaw.All" = some 3 by kernel_rfl).symm.trans hf) |>.symm
   obtain rfl : fn = Tryz.f3 := (Option.some.inj (Tryz.func3.symm.trans hfn)).symm
   exact ⟨by kernel_rfl, fun j t ht => by
    rw [Tryz.params3] at ht
    have hm : t ∈ [22] := by simpa using Array.mem_of_getElem? ht
    have hall : ([22].all fun u => !Tryz.prog.wantsStandIn u) = true := by kernel_rfl
    exact (show Tryz.prog.wantsStandIn t = false by simpa using List.all_eq_true.1 hall t hm)⟩)
  (by kernel_rfl)
#print axioms all_holds
end Go.Proofs.YtkglggkkbmmjkabGreatDoor
