import Derived.Test.YtkglggkkbmmjkaaGreatDoorJ48Law
import Derived.Test.YtkglggkkbmmjkaaGreatDoorKRClass
import Derived.Test.YtkglggkkbmmjkaaGreatDoorCards
import Derived.Test.YtkglggkkbmmjkaaGreatDoorTie
import Derived.Test.YtkglggkkbmmjkaaGreatDoorJ0Model
import Derived.ProofKit
import Derived.LaidMore
import Derived.OpenShut
import Derived.Stop.Joined
import Derived.Test.YtkglggkkbmmjkaaGreatDoorJ10Check
namespace Go.Proofs.YtkglggkkbmmjkaaGreatDoor
open Go.RowKit

/-- every step of a kind from lo to hi is as the document says -/
def PlaysOk (lo hi : Int) : Prop := ∀ (k n : Int) (g s : ByteArray) (w : World), lo ≤ k → k ≤ hi → g.size ≤ 9223372036854775807 → s.size ≤ 9223372036854775807 →
  Calls Tryz.prog 12 #[.agg #[.int .i64 k, .int .i64 n, .string g, .string s]] w fun e w' => e = .returned (.bool true) ∧ Fr [] w w'

set_option maxRecDepth 100000 in
set_option maxHeartbeats 1600000 in
theorem l_UpTo (lo top : Int) (hp : PlaysOk lo top) (ao : Option Addr) (len cap : Nat) (w : World) (h : ScriptOk w ao len) :
    Calls Tryz.prog 11 #[.slice ao len cap, .int .i64 lo, .int .i64 top] w fun e w' => e = .returned (.int .i64 (-1)) ∧ Fr [] w w' := by
  have H := hide h
  have HP := hide hp
  have hlen := h.1
  clear h hp
  go_enter Tryz.func11, Tryz.ntmps11
  go_wp2
  go_loopw [7] (fun a wr => ∃ i : Nat, i ≤ len ∧ a = .int .i64 i ∧ Hid (Fr [] w wr)) (fun a _ => len - (intOf a).toNat)
  case atStart => exact ⟨0, by omega, rfl, Fr.refl _ _⟩
  case round =>
    obtain ⟨i, hi, rfl, hf⟩ := hrel
    by_cases hlt : i < len
    · obtain ⟨b, off, rfl, hb, k, n, g, s, hg, hs, c0, c1, c2, c3⟩ := ((unhide H).fr (unhide hf)).2 i hlt
      have HF1 := hide ((unhide hf).alloc (.cells #[.int .i64 k, .int .i64 n, .string g, .string s] 26))
      have hbig : (i : Int) < 1152921504606846976 := by omega
      by_cases h1 : lo ≤ k
      · by_cases h2 : k ≤ top
        · go_wp2_with (go_at_call 12; refine (unhide HP k n g s _ h1 h2 hg hs).mono ?_; rintro e w2 ⟨rfl, hf2⟩; have HF2 := hide ((unhide HF1).trans0 hf2); clear hf2)
          go_roundw
          case rel => exact ⟨i + 1, by omega, by go_num, HF2⟩
          case measure => simp [intOf]; omega
        · go_wp2
          go_roundw
          case rel => exact ⟨i + 1, by omega, by go_num, HF1⟩
          case measure => simp [intOf]; omega
      · go_wp2
        go_roundw
        case rel => exact ⟨i + 1, by omega, by go_num, HF1⟩
        case measure => simp [intOf]; omega
    · go_wp2
      go_ret
      exact ⟨rfl, unhide hf⟩

theorem plays_check : PlaysOk 1 1 := fun k n g s w h1 h2 hg _ => by
  obtain rfl : k = 1 := by omega
  exact l_plays_check n g s w hg

set_option maxHeartbeats 400000 in
theorem l_Checks (ao : Option Addr) (len cap : Nat) (w : World) (h : ScriptOk w ao len) :
    Calls Tryz.prog 3 #[.slice ao len cap] w fun e w' => e = .returned (.bool true) ∧ Fr [] w w' := by
  have H := hide h
  clear h
  go_enter Tryz.func3, Tryz.ntmps3
  go_wp2_with (go_at_call 11; refine (l_UpTo 1 1 plays_check ao len cap _ (unhide H)).mono ?_; rintro e w1 ⟨rfl, hf1⟩; have HF1 := hide hf1; clear hf1)
  go_ret
  exact ⟨by simp, unhide HF1⟩

end Go.Proofs.YtkglggkkbmmjkaaGreatDoor

namespace Go.Proofs.YtkglggkkbmmjkaaGreatDoor
open Go.RowKit

set_option maxHeartbeats 1600000 in
theorem l_merged_Core (n : Int) (g s : ByteArray) (w : World) (hg : g.size ≤ 9223372036854775807) :
    Calls Tryz.prog 18 #[.agg #[.int .i64 8, .int .i64 n, .string g, .string s]] w fun e w' => e = .returned (.bool true) ∧ Fr [] w w' := by
  go_enter Tryz.func18, Tryz.ntmps18
  go_wp2_with (first
    | (go_at_call 37; refine (p_CoreV g n _ hg).mono ?_; rintro e w1 ⟨rfl, hf1⟩; have k1 := hf1.cell0 (by exact (show (w.alloc (.cells #[.int .i64 8, .int .i64 n, .string g, .string s] 26)).cell? ⟨w.heap.size, 1, none⟩ = some (.int .i64 n) from by simp)); have HO1 := hide (show OpAt w1 w.heap.size g s from OpAt.fr (by exact ⟨by simp, by simp, by simp⟩) hf1); have k2 := (unhide HO1).2.1; have k3 := (unhide HO1).2.2; have HF1 := hide (((Fr.refl [] w).alloc _).trans0 hf1); clear hf1)
    | (go_at_call 38; refine (r_CoreV g n _ hg).mono ?_; rintro e w2 ⟨rfl, hf2⟩; have HF2 := hide ((unhide HF1).trans0 hf2); clear hf2)
    | (go_at_call 15; refine (l_num _ _).mono ?_; rintro e w3 ⟨rfl, rfl⟩))
  go_ret
  exact ⟨by simp, unhide HF2⟩
set_option maxHeartbeats 1600000 in
theorem l_merged_Mix (n : Int) (g s : ByteArray) (w : World) (hg : g.size ≤ 9223372036854775807) :
    Calls Tryz.prog 18 #[.agg #[.int .i64 9, .int .i64 n, .string g, .string s]] w fun e w' => e = .returned (.bool true) ∧ Fr [] w w' := by
  go_enter Tryz.func18, Tryz.ntmps18
  go_wp2_with (first
    | (go_at_call 39; refine (p_MixV g n s _ hg).mono ?_; rintro e w1 ⟨rfl, hf1⟩; have k1 := hf1.cell0 (by exact (show (w.alloc (.cells #[.int .i64 9, .int .i64 n, .string g, .string s] 26)).cell? ⟨w.heap.size, 1, none⟩ = some (.int .i64 n) from by simp)); have HO1 := hide (show OpAt w1 w.heap.size g s from OpAt.fr (by exact ⟨by simp, by simp, by simp⟩) hf1); have k2 := (unhide HO1).2.1; have k3 := (unhide HO1).2.2; have HF1 := hide (((Fr.refl [] w).alloc _).trans0 hf1); clear hf1)
    | (go_at_call 40; refine (r_MixV g n s _ hg).mono ?_; rintro e w2 ⟨rfl, hf2⟩; have HF2 := hide ((unhide HF1).trans0 hf2); clear hf2)
    | (go_at_call 15; refine (l_num _ _).mono ?_; rintro e w3 ⟨rfl, rfl⟩))
  go_ret
  exact ⟨by simp, unhide HF2⟩
set_option maxHeartbeats 1600000 in
theorem l_merged_Class (n : Int) (g s : ByteArray) (w : World) (hg : g.size ≤ 9223372036854775807) :
    Calls Tryz.prog 18 #[.agg #[.int .i64 10, .int .i64 n, .string g, .string s]] w fun e w' => e = .returned (.bool true) ∧ Fr [] w w' := by
  go_enter Tryz.func18, Tryz.ntmps18
  go_wp2_with (first
    | (go_at_call 41; refine (p_ClassV g _ hg).mono ?_; rintro e w1 ⟨rfl, hf1⟩; have HO1 := hide (show OpAt w1 w.heap.size g s from OpAt.fr (by exact ⟨by simp, by simp, by simp⟩) hf1); have k2 := (unhide HO1).2.1; have k3 := (unhide HO1).2.2; have HF1 := hide (((Fr.refl [] w).alloc _).trans0 hf1); clear hf1)
    | (go_at_call 42; refine (r_ClassV g _ hg).mono ?_; rintro e w2 ⟨rfl, hf2⟩; have HF2 := hide ((unhide HF1).trans0 hf2); clear hf2)
    | (go_at_call 15; refine (l_num _ _).mono ?_; rintro e w3 ⟨rfl, rfl⟩))
  go_ret
  exact ⟨by simp, unhide HF2⟩
set_option maxHeartbeats 400000 in
theorem l_plays_merged (k n : Int) (g s : ByteArray) (w : World) (h : k = 8 ∨ k = 9 ∨ k = 10) (hg : g.size ≤ 9223372036854775807) :
    Calls Tryz.prog 12 #[.agg #[.int .i64 k, .int .i64 n, .string g, .string s]] w fun e w' => e = .returned (.bool true) ∧ Fr [] w w' := by
  rcases h with rfl | rfl | rfl
  · go_enter Tryz.func12, Tryz.ntmps12
    go_wp2_with (go_at_call 18; refine (l_merged_Core n g s _ hg).mono ?_; rintro e w1 ⟨rfl, hf1⟩; have HF1 := hide (((Fr.refl [] w).alloc _).trans0 hf1); clear hf1)
    go_ret
    exact ⟨rfl, unhide HF1⟩
  · go_enter Tryz.func12, Tryz.ntmps12
    go_wp2_with (go_at_call 18; refine (l_merged_Mix n g s _ hg).mono ?_; rintro e w1 ⟨rfl, hf1⟩; have HF1 := hide (((Fr.refl [] w).alloc _).trans0 hf1); clear hf1)
    go_ret
    exact ⟨rfl, unhide HF1⟩
  · go_enter Tryz.func12, Tryz.ntmps12
    go_wp2_with (go_at_call 18; refine (l_merged_Class n g s _ hg).mono ?_; rintro e w1 ⟨rfl, hf1⟩; have HF1 := hide (((Fr.refl [] w).alloc _).trans0 hf1); clear hf1)
    go_ret
    exact ⟨rfl, unhide HF1⟩

theorem plays_cores : PlaysOk 8 9 := fun k n g s w h1 h2 hg _ => l_plays_merged k n g s w (by omega) hg
theorem plays_classes : PlaysOk 10 10 := fun k n g s w h1 h2 hg _ => l_plays_merged k n g s w (by omega) hg

set_option maxHeartbeats 400000 in
theorem l_Cores (ao : Option Addr) (len cap : Nat) (w : World) (h : ScriptOk w ao len) :
    Calls Tryz.prog 7 #[.slice ao len cap] w fun e w' => e = .returned (.bool true) ∧ Fr [] w w' := by
  have H := hide h
  clear h
  go_enter Tryz.func7, Tryz.ntmps7
  go_wp2_with (go_at_call 11; refine (l_UpTo 8 9 plays_cores ao len cap _ (unhide H)).mono ?_; rintro e w1 ⟨rfl, hf1⟩; have HF1 := hide hf1; clear hf1)
  go_ret
  exact ⟨by simp, unhide HF1⟩
set_option maxHeartbeats 400000 in
theorem l_Classes (ao : Option Addr) (len cap : Nat) (w : World) (h : ScriptOk w ao len) :
    Calls Tryz.prog 8 #[.slice ao len cap] w fun e w' => e = .returned (.bool true) ∧ Fr [] w w' := by
  have H := hide h
  clear h
  go_enter Tryz.func8, Tryz.ntmps8
  go_wp2_with (go_at_call 11; refine (l_UpTo 10 10 plays_classes ao len cap _ (unhide H)).mono ?_; rintro e w1 ⟨rfl, hf1⟩; have HF1 := hide hf1; clear hf1)
  go_ret
  exact ⟨by simp, unhide HF1⟩
end Go.Proofs.YtkglggkkbmmjkaaGreatDoor

namespace Go.Proofs.YtkglggkkbmmjkaaGreatDoor
open Go.ChangeShapes Go.WideShapes Go.ChangeAt Go.WideMaps Go.WideElems Go.RowKit

/-- the door's own heap is laid as the rows say -/
theorem door_met (os : Os) (args : Array Value) : laidMetH Tryz.prog Rows.checksRow.laid ((World.doorLaid Tryz.prog 400 os).forCall (fun _ _ => 0) ⟨#[], args, []⟩).memory :=
  laidMetH_of_parts3 (fuel := 8) (laidMet_of_run' 8 (by kernel_rfl) (by kernel_rfl)) (by kernel_rfl) (by kernel_rfl)
end Go.Proofs.YtkglggkkbmmjkaaGreatDoor

namespace Go.Proofs.YtkglggkkbmmjkaaGreatDoor
open Go.ChangeShapes Go.WideShapes Go.ChangeAt Go.RowKit Go.Deep

set_option maxRecDepth 100000 in
theorem cores_lifted (os : Os) (started : os.Started) (H : Type) (enc : TypeId × Value → H) :
    ReturnsInHanded {} Tryz.checked os 7 .any (fun w args => (Rows.coresSpec.pre enc Tryz.prog Tryz.f7 [] false w args ∧ laidMetH Tryz.prog Rows.coresRow.laid w) ∧ sizedMet enc Tryz.prog Tryz.f7 (OpenSpec.ofChange Rows.coresSpec) false w args) (Rows.coresSpec.post enc Tryz.prog Tryz.f7 false true false false) := by
  refine returnsInHanded_of_change_and (C := Tryz.checked) (X := fun w _ => laidMetH Tryz.prog Rows.coresRow.laid w) (fun _ _ _ hh h => h.of_heap hh) Tryz.own started (by kernel_rfl) Tryz.func7
    (ChangeSpec.witness_shaped (enc := enc) (C := Tryz.checked) (os := os) (X := fun w _ => laidMetH Tryz.prog Rows.coresRow.laid w) false (World.doorLaid Tryz.prog 400 os) #[.slice none 0 0] 8 rfl (World.shaped_of_RefB (by kernel_rfl) (by kernel_rfl)) (by kernel_rfl) (by kernel_rfl) (by kernel_rfl) (door_met os _)) ?_
  intro W base args ds gs before hval0 hW _ hsz0 _ _
  have hval : ∀ (j : Nat) t v, Tryz.f7.params[j]? = some t → args[j]? = some v → Value.okWide Tryz.prog W .any base t v := hval0
  have hsz : (DataW.weightsEach Tryz.prog (Tryz.f7.params.toList ++ Rows.coresSpec.plain.varTypes Tryz.prog) (ds ++ gs)).all (· ≤ reachBytes) = true := hsz0
  have hW' := hW
  obtain ⟨p, q, hA0, hV, rfl, _, _⟩ := hW
  have hA : DataW.TrodAll enc Tryz.prog W 0 (fun _ => true) true Tryz.f7.params.toList args.toList ds p := hA0
  rw [Tryz.params7] at hA hval hsz
  obtain ⟨v0, d0, rfl, rfl, h0⟩ := trodAll_one hA
  obtain ⟨rfl, rfl⟩ := trodVars_none hV
  obtain ⟨a0, len, cap, rfl⟩ := okWide_slice Tryz.underlying22 (hval 0 22 v0 rfl rfl)
  have h0k := h0
  obtain ⟨fuel, hf⟩ := h0
  clear hA0 hval0
  simp only [List.append_nil] at hW'
  have hlt : ∀ x ∈ p, x.block < W.heap.size := fun x hx => by simpa using hW'.lt x hx
  have hok : ScriptOk W a0 len := open_script (by simpa [Value.cells] using hf) hsz
  refine (l_Cores a0 len cap W hok).mono fun e W' ⟨he, hfr⟩ => ?_
  subst he
  refine ⟨_, rfl, _, _, _, [], p, [], hW', ?_, ?_, rfl, hfr.below.frame _, fun h => by cases h⟩
  · exact trodAll_mk1 (shut_bool Tryz.underlying4 true)
  · exact trodAll_mk1 (Below.trod Tryz.laidOut (by kernel_rfl) (of_decide_eq_true (by kernel_rfl)) h0k hfr.below hlt)

theorem cores_row : Rows.CoresSaid :=
  OpenClaim.holds_of_wide 7 Tryz.f7 rfl rfl rfl rfl rfl rfl rfl ⟨rfl, rfl, rfl, rfl, rfl⟩ rfl rfl rfl rfl rfl (by kernel_rfl) Tryz.func7 (by kernel_rfl)
    (of_decide_eq_true (by kernel_rfl)) (by unfold Func.isWrapper; first | (rw [if_pos (by decide +kernel)]; kernel_rfl) | (rw [if_neg (by decide +kernel)]; exact ⟨rfl, rfl⟩))
    (fun os started H enc _ => cores_lifted os started H enc)

theorem cores_holds : Rows.CoresCardSaid :=
  Claim7.holds_tied_plain_at .later [] [.data, .data, .data] true (true, "e58115dada0b790970ecb9bec0d9f47dbc2496ce12cd90c30d22b9ceef5080f7") false
    cores_row (fun _ h => by cases h) (by kernel_rfl) (fun _ h => by cases h) cores_row_tie rfl ⟨rfl, rfl⟩ (by kernel_rfl) rfl
    (fun f fn hf hfn => by
      obtain rfl : f = 7 := Option.some.inj ((show Tryz.prog.funcNamed "lrgen/lrgenlaw.Cores" = some 7 by kernel_rfl).symm.trans hf) |>.symm
      obtain rfl : fn = Tryz.f7 := (Option.some.inj (Tryz.func7.symm.trans hfn)).symm
      exact ⟨by kernel_rfl, fun j t ht => by
        rw [Tryz.params7] at ht
        have hm : t ∈ [22] := by simpa using Array.mem_of_getElem? ht
        have hall : ([22].all fun u => !Tryz.prog.wantsStandIn u) = true := by kernel_rfl
        exact (show Tryz.prog.wantsStandIn t = false by simpa using List.all_eq_true.1 hall t hm)⟩)
    (by kernel_rfl)

#print axioms cores_holds
end Go.Proofs.YtkglggkkbmmjkaaGreatDoor
