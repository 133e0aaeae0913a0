import Derived.Test.YtkglggkkbmmjkaaGreatDoorRFirst
import Derived.Test.YtkglggkkbmmjkaaGreatDoorOpVar
import Derived.Test.YtkglggkkbmmjkaaGreatDoorUpTo
namespace Go.Proofs.YtkglggkkbmmjkaaGreatDoor
open Go.RowKit

set_option maxHeartbeats 1600000 in
theorem l_letters_Null (n : Int) (g s : ByteArray) (w : World) (hg : g.size ≤ 9223372036854775807) (hs : s.size ≤ 9223372036854775807) :
    Calls Tryz.prog 16 #[.agg #[.int .i64 2, .int .i64 n, .string g, .string s]] w fun e w' => e = .returned (.bool true) ∧ Fr [] w w' := by
  go_enter Tryz.func16, Tryz.ntmps16
  go_wp2_with (first
    | (go_at_call 25; refine (p_Null g s _ hg hs).mono ?_; rintro e w1 ⟨rfl, hf1⟩; have HO1 := hide (show OpAt w1 w.heap.size g s from OpAt.fr (by exact ⟨by simp, by simp, by simp⟩) hf1); have k2 := (unhide HO1).2.1; have k3 := (unhide HO1).2.2; have HF1 := hide (((Fr.refl [] w).alloc _).trans0 hf1); clear hf1)
    | (go_at_call 26; refine (r_Null g s _ hg hs).mono ?_; rintro e w2 ⟨rfl, hf2⟩; have HF2 := hide ((unhide HF1).trans0 hf2); clear hf2)
    | (go_at_call 15; refine (l_num _ _).mono ?_; rintro e w3 ⟨rfl, rfl⟩))
  go_ret
  exact ⟨by simp, unhide HF2⟩

set_option maxHeartbeats 400000 in
theorem l_plays_Null (n : Int) (g s : ByteArray) (w : World) (hg : g.size ≤ 9223372036854775807) (hs : s.size ≤ 9223372036854775807) :
    Calls Tryz.prog 12 #[.agg #[.int .i64 2, .int .i64 n, .string g, .string s]] w fun e w' => e = .returned (.bool true) ∧ Fr [] w w' := by
  go_enter Tryz.func12, Tryz.ntmps12
  go_wp2_with (go_at_call 16; refine (l_letters_Null n g s _ hg hs).mono ?_; rintro e w1 ⟨rfl, hf1⟩; have HF1 := hide (((Fr.refl [] w).alloc _).trans0 hf1); clear hf1)
  go_ret
  exact ⟨rfl, unhide HF1⟩

set_option maxHeartbeats 1600000 in
theorem l_letters_First (n : Int) (g s : ByteArray) (w : World) (hg : g.size ≤ 9223372036854775807) (hs : s.size ≤ 9223372036854775807) :
    Calls Tryz.prog 16 #[.agg #[.int .i64 3, .int .i64 n, .string g, .string s]] w fun e w' => e = .returned (.bool true) ∧ Fr [] w w' := by
  go_enter Tryz.func16, Tryz.ntmps16
  go_wp2_with (first
    | (go_at_call 27; refine (p_First g s _ hg hs).mono ?_; rintro e w1 ⟨rfl, hf1⟩; have HO1 := hide (show OpAt w1 w.heap.size g s from OpAt.fr (by exact ⟨by simp, by simp, by simp⟩) hf1); have k2 := (unhide HO1).2.1; have k3 := (unhide HO1).2.2; have HF1 := hide (((Fr.refl [] w).alloc _).trans0 hf1); clear hf1)
    | (go_at_call 28; refine (r_First g s _ hg hs).mono ?_; rintro e w2 ⟨rfl, hf2⟩; have HF2 := hide ((unhide HF1).trans0 hf2); clear hf2)
    | (go_at_call 15; refine (l_num _ _).mono ?_; rintro e w3 ⟨rfl, rfl⟩))
  go_ret
  exact ⟨by simp, unhide HF2⟩

set_option maxHeartbeats 400000 in
theorem l_plays_First (n : Int) (g s : ByteArray) (w : World) (hg : g.size ≤ 9223372036854775807) (hs : s.size ≤ 9223372036854775807) :
    Calls Tryz.prog 12 #[.agg #[.int .i64 3, .int .i64 n, .string g, .string s]] w fun e w' => e = .returned (.bool true) ∧ Fr [] w w' := by
  go_enter Tryz.func12, Tryz.ntmps12
  go_wp2_with (go_at_call 16; refine (l_letters_First n g s _ hg hs).mono ?_; rintro e w1 ⟨rfl, hf1⟩; have HF1 := hide (((Fr.refl [] w).alloc _).trans0 hf1); clear hf1)
  go_ret
  exact ⟨rfl, unhide HF1⟩

theorem plays_firsts : PlaysOk 2 3 := fun k n g s w h1 h2 hg hs => by
  obtain rfl | rfl : k = 2 ∨ k = 3 := by omega
  · exact l_plays_Null n g s w hg hs
  · exact l_plays_First n g s w hg hs

set_option maxHeartbeats 400000 in
theorem l_Firsts (ao : Option Addr) (len cap : Nat) (w : World) (h : ScriptOk w ao len) :
    Calls Tryz.prog 4 #[.slice ao len cap] w fun e w' => e = .returned (.bool true) ∧ Fr [] w w' := by
  have H := hide h
  clear h
  go_enter Tryz.func4, Tryz.ntmps4
  go_wp2_with (go_at_call 11; refine (l_UpTo 2 3 plays_firsts ao len cap _ (unhide H)).mono ?_; rintro e w1 ⟨rfl, hf1⟩; have HF1 := hide hf1; clear hf1)
  go_ret
  exact ⟨by simp, unhide HF1⟩

end Go.Proofs.YtkglggkkbmmjkaaGreatDoor
