import Derived.Test.YtkglggkkbmmjkaaGreatDoorJ48Law
import Derived.Test.YtkglggkkbmmjkaaGreatDoorJ47RCallV
namespace Go.Proofs.YtkglggkkbmmjkaaGreatDoor
open Go.RowKit

/-- every step of a kind from lo to hi is as the document says -/
def PlaysOk (lo hi : Int) : Prop := ∀ (k n : Int) (g s : ByteArray) (w : World), lo ≤ k → k ≤ hi → g.size ≤ 9223372036854775807 → s.size ≤ 9223372036854775807 →
  Calls Tryz.prog 12 #[.agg #[.int .i64 k, .int .i64 n, .string g, .string s]] w fun e w' => e = .returned (.bool true) ∧ Fr [] w w'

set_option maxRecDepth 100000 in
set_option maxHeartbeats 1600000 in
theorem l_UpTo (lo top : Int) (hp : PlaysOk lo top) (ao : Option Addr) (len cap : Nat) (w : World) (h : ScriptOk w ao len) :
    Calls Tryz.prog 11 #[.slice ao len cap, .int .i64 lo, .int .i64 top] w fun e w' => e = .returned (.int .i64 (-1)) ∧ Fr [] w w' := by
  have H := hide h
  have HP := hide hp
  have hlen := h.1
  clear h hp
  go_enter Tryz.func11, Tryz.ntmps11
  go_wp2
  go_loopw [7] (fun a wr => ∃ i : Nat, i ≤ len ∧ a = .int .i64 i ∧ Hid (Fr [] w wr)) (fun a _ => len - (intOf a).toNat)
  case atStart => exact ⟨0, by omega, rfl, Fr.refl _ _⟩
  case round =>
    obtain ⟨i, hi, rfl, hf⟩ := hrel
    by_cases hlt : i < len
    · obtain ⟨b, off, rfl, hb, k, n, g, s, hg, hs, c0, c1, c2, c3⟩ := ((unhide H).fr (unhide hf)).2 i hlt
      have HF1 := hide ((unhide hf).alloc (.cells #[.int .i64 k, .int .i64 n, .string g, .string s] 26))
      have hbig : (i : Int) < 1152921504606846976 := by omega
      by_cases h1 : lo ≤ k
      · by_cases h2 : k ≤ top
        · go_wp2_with (go_at_call 12; refine (unhide HP k n g s _ h1 h2 hg hs).mono ?_; rintro e w2 ⟨rfl, hf2⟩; have HF2 := hide ((unhide HF1).trans0 hf2); clear hf2)
          go_roundw
          case rel => exact ⟨i + 1, by omega, by go_num, HF2⟩
          case measure => simp [intOf]; omega
        · go_wp2
          go_roundw
          case rel => exact ⟨i + 1, by omega, by go_num, HF1⟩
          case measure => simp [intOf]; omega
      · go_wp2
        go_roundw
        case rel => exact ⟨i + 1, by omega, by go_num, HF1⟩
        case measure => simp [intOf]; omega
    · go_wp2
      go_ret
      exact ⟨rfl, unhide hf⟩

theorem plays_check : PlaysOk 1 1 := fun k n g s w h1 h2 hg _ => by
  obtain rfl : k = 1 := by omega
  exact l_plays_check n g s w hg

set_option maxHeartbeats 400000 in
theorem l_Checks (ao : Option Addr) (len cap : Nat) (w : World) (h : ScriptOk w ao len) :
    Calls Tryz.prog 3 #[.slice ao len cap] w fun e w' => e = .returned (.bool true) ∧ Fr [] w w' := by
  have H := hide h
  clear h
  go_enter Tryz.func3, Tryz.ntmps3
  go_wp2_with (go_at_call 11; refine (l_UpTo 1 1 plays_check ao len cap _ (unhide H)).mono ?_; rintro e w1 ⟨rfl, hf1⟩; have HF1 := hide hf1; clear hf1)
  go_ret
  exact ⟨by simp, unhide HF1⟩

end Go.Proofs.YtkglggkkbmmjkaaGreatDoor

namespace Go.Proofs.YtkglggkkbmmjkaaGreatDoor
open Go.RowKit

set_option maxHeartbeats 1600000 in
theorem l_tables_States (n : Int) (g s : ByteArray) (w : World) (hg : g.size ≤ 9223372036854775807) :
    Calls Tryz.prog 17 #[.agg #[.int .i64 5, .int .i64 n, .string g, .string s]] w fun e w' => e = .returned (.bool true) ∧ Fr [] w w' := by
  go_enter Tryz.func17, Tryz.ntmps17
  go_wp2_with (first
    | (go_at_call 31; refine (p_StatesV g _ hg).mono ?_; rintro e w1 ⟨rfl, hf1⟩; have HO1 := hide (show OpAt w1 w.heap.size g s from OpAt.fr (by exact ⟨by simp, by simp, by simp⟩) hf1); have k2 := (unhide HO1).2.1; have k3 := (unhide HO1).2.2; have HF1 := hide (((Fr.refl [] w).alloc _).trans0 hf1); clear hf1)
    | (go_at_call 32; refine (r_StatesV g _ hg).mono ?_; rintro e w2 ⟨rfl, hf2⟩; have HF2 := hide ((unhide HF1).trans0 hf2); clear hf2)
    | (go_at_call 15; refine (l_num _ _).mono ?_; rintro e w3 ⟨rfl, rfl⟩))
  go_ret
  exact ⟨by simp, unhide HF2⟩
set_option maxHeartbeats 1600000 in
theorem l_tables_Step (n : Int) (g s : ByteArray) (w : World) (hg : g.size ≤ 9223372036854775807) :
    Calls Tryz.prog 17 #[.agg #[.int .i64 6, .int .i64 n, .string g, .string s]] w fun e w' => e = .returned (.bool true) ∧ Fr [] w w' := by
  go_enter Tryz.func17, Tryz.ntmps17
  go_wp2_with (first
    | (go_at_call 33; refine (p_StepV g n s _ hg).mono ?_; rintro e w1 ⟨rfl, hf1⟩; have k1 := hf1.cell0 (by exact (show (w.alloc (.cells #[.int .i64 6, .int .i64 n, .string g, .string s] 26)).cell? ⟨w.heap.size, 1, none⟩ = some (.int .i64 n) from by simp)); have HO1 := hide (show OpAt w1 w.heap.size g s from OpAt.fr (by exact ⟨by simp, by simp, by simp⟩) hf1); have k2 := (unhide HO1).2.1; have k3 := (unhide HO1).2.2; have HF1 := hide (((Fr.refl [] w).alloc _).trans0 hf1); clear hf1)
    | (go_at_call 34; refine (r_StepV g n s _ hg).mono ?_; rintro e w2 ⟨rfl, hf2⟩; have HF2 := hide ((unhide HF1).trans0 hf2); clear hf2)
    | (go_at_call 15; refine (l_num _ _).mono ?_; rintro e w3 ⟨rfl, rfl⟩))
  go_ret
  exact ⟨by simp, unhide HF2⟩
set_option maxHeartbeats 1600000 in
theorem l_tables_Acts (n : Int) (g s : ByteArray) (w : World) (hg : g.size ≤ 9223372036854775807) :
    Calls Tryz.prog 17 #[.agg #[.int .i64 7, .int .i64 n, .string g, .string s]] w fun e w' => e = .returned (.bool true) ∧ Fr [] w w' := by
  go_enter Tryz.func17, Tryz.ntmps17
  go_wp2_with (first
    | (go_at_call 35; refine (p_ActsV g n s _ hg).mono ?_; rintro e w1 ⟨rfl, hf1⟩; have k1 := hf1.cell0 (by exact (show (w.alloc (.cells #[.int .i64 7, .int .i64 n, .string g, .string s] 26)).cell? ⟨w.heap.size, 1, none⟩ = some (.int .i64 n) from by simp)); have HO1 := hide (show OpAt w1 w.heap.size g s from OpAt.fr (by exact ⟨by simp, by simp, by simp⟩) hf1); have k2 := (unhide HO1).2.1; have k3 := (unhide HO1).2.2; have HF1 := hide (((Fr.refl [] w).alloc _).trans0 hf1); clear hf1)
    | (go_at_call 36; refine (r_ActsV g n s _ hg).mono ?_; rintro e w2 ⟨rfl, hf2⟩; have HF2 := hide ((unhide HF1).trans0 hf2); clear hf2)
    | (go_at_call 15; refine (l_num _ _).mono ?_; rintro e w3 ⟨rfl, rfl⟩))
  go_ret
  exact ⟨by simp, unhide HF2⟩
set_option maxHeartbeats 400000 in
theorem l_plays_tables (k n : Int) (g s : ByteArray) (w : World) (h : k = 5 ∨ k = 6 ∨ k = 7) (hg : g.size ≤ 9223372036854775807) :
    Calls Tryz.prog 12 #[.agg #[.int .i64 k, .int .i64 n, .string g, .string s]] w fun e w' => e = .returned (.bool true) ∧ Fr [] w w' := by
  rcases h with rfl | rfl | rfl
  · go_enter Tryz.func12, Tryz.ntmps12
    go_wp2_with (go_at_call 17; refine (l_tables_States n g s _ hg).mono ?_; rintro e w1 ⟨rfl, hf1⟩; have HF1 := hide (((Fr.refl [] w).alloc _).trans0 hf1); clear hf1)
    go_ret
    exact ⟨rfl, unhide HF1⟩
  · go_enter Tryz.func12, Tryz.ntmps12
    go_wp2_with (go_at_call 17; refine (l_tables_Step n g s _ hg).mono ?_; rintro e w1 ⟨rfl, hf1⟩; have HF1 := hide (((Fr.refl [] w).alloc _).trans0 hf1); clear hf1)
    go_ret
    exact ⟨rfl, unhide HF1⟩
  · go_enter Tryz.func12, Tryz.ntmps12
    go_wp2_with (go_at_call 17; refine (l_tables_Acts n g s _ hg).mono ?_; rintro e w1 ⟨rfl, hf1⟩; have HF1 := hide (((Fr.refl [] w).alloc _).trans0 hf1); clear hf1)
    go_ret
    exact ⟨rfl, unhide HF1⟩

theorem plays_tables : PlaysOk 5 7 := fun k n g s w h1 h2 hg _ => l_plays_tables k n g s w (by omega) hg

set_option maxHeartbeats 400000 in
theorem l_Tables (ao : Option Addr) (len cap : Nat) (w : World) (h : ScriptOk w ao len) :
    Calls Tryz.prog 6 #[.slice ao len cap] w fun e w' => e = .returned (.bool true) ∧ Fr [] w w' := by
  have H := hide h
  clear h
  go_enter Tryz.func6, Tryz.ntmps6
  go_wp2_with (go_at_call 11; refine (l_UpTo 5 7 plays_tables ao len cap _ (unhide H)).mono ?_; rintro e w1 ⟨rfl, hf1⟩; have HF1 := hide hf1; clear hf1)
  go_ret
  exact ⟨by simp, unhide HF1⟩
end Go.Proofs.YtkglggkkbmmjkaaGreatDoor
