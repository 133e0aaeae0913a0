import Derived.Test.YtkglggkkbmmjkaaGreatDoorG52St
import Derived.Test.YtkglggkkbmmjkaaGreatDoorG48Law
import Derived.Test.YtkglggkkbmmjkaaGreatDoorG6Script
import Derived.Test.YtkglggkkbmmjkaaGreatDoorGLaid
namespace Go.Proofs.YtkglggkkbmmjkaaGreatDoor
open Go.RowKit

set_option maxHeartbeats 1600000 in
theorem l_plays_Stop (n : Int) (g s : ByteArray) (w : World) (hg : g.size ≤ 9223372036854775807) (hs : s.size ≤ 9223372036854775807) :
    Calls Tryz.prog 12 #[.agg #[.int .i64 12, .int .i64 n, .string g, .string s]] w fun e w' => e = .returned (.bool true) ∧ Fr [] w w' := by
  go_enter Tryz.func12, Tryz.ntmps12
  go_wp2_with (first
    | (go_at_call 21; refine (p_Stop g s _ hg hs).mono ?_; rintro e w1 ⟨hf1, m, y, x, rfl, hO⟩; have HO := hide hO; have HO1 := hide (show OpAt w1 w.heap.size g s from OpAt.fr (by exact ⟨by simp, by simp, by simp⟩) hf1); have k2 := (zaa HO1).2.1; have k3 := (zaa HO1).2.2; have HF1 := hide (((Fr.refl [] w).alloc _).trans0 hf1); clear hf1 hO)
    | (go_at_call 22; refine (r_Stop g s _ hg hs).mono ?_; rintro e w2 ⟨hf2, m2, y2, x2, rfl, hO2⟩; obtain ⟨rfl, rfl, rfl⟩ := (zaa HO).uniq hO2; have HF2 := hide ((zaa HF1).trans0 hf2); clear hf2 hO2)
    | (go_at_call 15; refine (l_num _ _).mono ?_; rintro e w3 ⟨rfl, rfl⟩))
  go_ret
  exact ⟨by simp, zaa HF2⟩
theorem plays_stops : PlaysOk 12 12 := fun k n g s w h1 h2 hg hs => by
  obtain rfl : k = 12 := by omega
  exact l_plays_Stop n g s w hg hs

set_option maxHeartbeats 400000 in
theorem l_Stops (ao : Option Addr) (len cap : Nat) (w : World) (h : ScriptOk w ao len) :
    Calls Tryz.prog 10 #[.slice ao len cap] w fun e w' => e = .returned (.bool true) ∧ Fr [] w w' := by
  have H := hide h
  clear h
  go_enter Tryz.func10, Tryz.ntmps10
  go_wp2_with (go_at_call 11; refine (l_UpTo 12 12 plays_stops ao len cap _ (zaa H)).mono ?_; rintro e w1 ⟨rfl, hf1⟩; have HF1 := hide hf1; clear hf1)
  go_ret
  exact ⟨by simp, zaa HF1⟩
end Go.Proofs.YtkglggkkbmmjkaaGreatDoor

namespace Go.Proofs.YtkglggkkbmmjkaaGreatDoor
open Go.ChangeShapes Go.WideShapes Go.ChangeAt Go.RowKit Go.Deep

set_option maxRecDepth 100000 in
theorem stops_lifted (os : Os) (started : os.Started) (H : Type) (enc : TypeId × Value → H) :
    ReturnsInHanded {} Tryz.checked os 10 .any (fun w args => (Rows.stopsSpec.pre enc Tryz.prog Tryz.f10 [] false w args ∧ laidMetH Tryz.prog Rows.stopsRow.laid w) ∧ sizedMet enc Tryz.prog Tryz.f10 (OpenSpec.ofChange Rows.stopsSpec) false w args) (Rows.stopsSpec.post enc Tryz.prog Tryz.f10 false true false false) := by
  refine returnsInHanded_of_change_and (C := Tryz.checked) (X := fun w _ => laidMetH Tryz.prog Rows.stopsRow.laid w) (fun _ _ _ hh h => h.of_heap hh) Tryz.own started (by kernel_rfl) Tryz.func10
    (ChangeSpec.witness_shaped (enc := enc) (C := Tryz.checked) (os := os) (X := fun w _ => laidMetH Tryz.prog Rows.stopsRow.laid w) false (World.doorLaid Tryz.prog 400 os) #[.slice none 0 0] 8 rfl (World.shaped_of_RefB (by kernel_rfl) (by kernel_rfl)) (by kernel_rfl) (by kernel_rfl) (by kernel_rfl) (door_met os _)) ?_
  intro W base args ds gs before hval0 hW _ hsz0 _ _
  have hval : ∀ (j : Nat) t v, Tryz.f10.params[j]? = some t → args[j]? = some v → Value.okWide Tryz.prog W .any base t v := hval0
  have hsz : (DataW.weightsEach Tryz.prog (Tryz.f10.params.toList ++ Rows.stopsSpec.plain.varTypes Tryz.prog) (ds ++ gs)).all (· ≤ reachBytes) = true := hsz0
  have hW' := hW
  obtain ⟨p, q, hA0, hV, rfl, _, _⟩ := hW
  have hA : DataW.TrodAll enc Tryz.prog W 0 (fun _ => true) true Tryz.f10.params.toList args.toList ds p := hA0
  rw [Tryz.params10] at hA hval hsz
  obtain ⟨v0, d0, rfl, rfl, h0⟩ := trodAll_one hA
  obtain ⟨rfl, rfl⟩ := trodVars_none hV
  obtain ⟨a0, len, cap, rfl⟩ := okWide_slice Tryz.underlying22 (hval 0 22 v0 rfl rfl)
  have h0k := h0
  obtain ⟨fuel, hf⟩ := h0
  clear hA0 hval0
  simp only [List.append_nil] at hW'
  have hlt : ∀ x ∈ p, x.block < W.heap.size := fun x hx => by simpa using hW'.lt x hx
  have hok : ScriptOk W a0 len := open_script (by simpa [Value.cells] using hf) hsz
  refine (l_Stops a0 len cap W hok).mono fun e W' ⟨he, hfr⟩ => ?_
  subst he
  refine ⟨_, rfl, _, _, _, [], p, [], hW', ?_, ?_, rfl, hfr.below.frame _, fun h => by cases h⟩
  · exact trodAll_mk1 (shut_bool Tryz.underlying4 true)
  · exact trodAll_mk1 (Below.trod Tryz.laidOut (by kernel_rfl) (of_decide_eq_true (by kernel_rfl)) h0k hfr.below hlt)

theorem stops_row : Rows.StopsSaid :=
  OpenClaim.holds_of_wide 10 Tryz.f10 rfl rfl rfl rfl rfl rfl rfl ⟨rfl, rfl, rfl, rfl, rfl⟩ rfl rfl rfl rfl rfl (by kernel_rfl) Tryz.func10 (by kernel_rfl)
    (of_decide_eq_true (by kernel_rfl)) (by unfold Func.isWrapper; first | (rw [if_pos (by decide +kernel)]; kernel_rfl) | (rw [if_neg (by decide +kernel)]; exact ⟨rfl, rfl⟩))
    (fun os started H enc _ => stops_lifted os started H enc)

theorem stops_holds : Rows.StopsCardSaid :=
  Claim7.holds_tied_plain_at .later [] [.data, .data, .data] true (true, "e58115dada0b790970ecb9bec0d9f47dbc2496ce12cd90c30d22b9ceef5080f7") false
    stops_row (fun _ h => by cases h) (by kernel_rfl) (fun _ h => by cases h) stops_row_tie rfl ⟨rfl, rfl⟩ (by kernel_rfl) rfl
    (fun f fn hf hfn => by
      obtain rfl : f = 10 := Option.some.inj ((show Tryz.prog.funcNamed "lrgen/lrgenlaw.Stops" = some 10 by kernel_rfl).symm.trans hf) |>.symm
      obtain rfl : fn = Tryz.f10 := (Option.some.inj (Tryz.func10.symm.trans hfn)).symm
      exact ⟨by kernel_rfl, fun j t ht => by
        rw [Tryz.params10] at ht
        have hm : t ∈ [22] := by simpa using Array.mem_of_getElem? ht
        have hall : ([22].all fun u => !Tryz.prog.wantsStandIn u) = true := by kernel_rfl
        exact (show Tryz.prog.wantsStandIn t = false by simpa using List.all_eq_true.1 hall t hm)⟩)
    (by kernel_rfl)

#print axioms stops_holds
end Go.Proofs.YtkglggkkbmmjkaaGreatDoor
