import Derived.Test.YtkglggkkbmmjkaaGreatDoorLaw
namespace Go.Proofs.YtkglggkkbmmjkaaGreatDoor
open Go.RowKit

/-- every step of a kind from lo to hi is as the document says -/
def PlaysOk (lo hi : Int) : Prop := ∀ (k n : Int) (g s : ByteArray) (w : World), lo ≤ k → k ≤ hi → g.size ≤ 9223372036854775807 → s.size ≤ 9223372036854775807 →
  Calls Tryz.prog 12 #[.agg #[.int .i64 k, .int .i64 n, .string g, .string s]] w fun e w' => e = .returned (.bool true) ∧ Fr [] w w'

set_option maxRecDepth 100000 in
set_option maxHeartbeats 1600000 in
theorem l_UpTo (lo top : Int) (hp : PlaysOk lo top) (ao : Option Addr) (len cap : Nat) (w : World) (h : ScriptOk w ao len) :
    Calls Tryz.prog 11 #[.slice ao len cap, .int .i64 lo, .int .i64 top] w fun e w' => e = .returned (.int .i64 (-1)) ∧ Fr [] w w' := by
  have H := hide h
  have HP := hide hp
  have hlen := h.1
  clear h hp
  go_enter Tryz.func11, Tryz.ntmps11
  go_wp2
  go_loopw [7] (fun a wr => ∃ i : Nat, i ≤ len ∧ a = .int .i64 i ∧ Hid (Fr [] w wr)) (fun a _ => len - (intOf a).toNat)
  case atStart => exact ⟨0, by omega, rfl, Fr.refl _ _⟩
  case round =>
    obtain ⟨i, hi, rfl, hf⟩ := hrel
    by_cases hlt : i < len
    · obtain ⟨b, off, rfl, hb, k, n, g, s, hg, hs, c0, c1, c2, c3⟩ := ((unhide H).fr (unhide hf)).2 i hlt
      have HF1 := hide ((unhide hf).alloc (.cells #[.int .i64 k, .int .i64 n, .string g, .string s] 26))
      have hbig : (i : Int) < 1152921504606846976 := by omega
      by_cases h1 : lo ≤ k
      · by_cases h2 : k ≤ top
        · go_wp2_with (go_at_call 12; refine (unhide HP k n g s _ h1 h2 hg hs).mono ?_; rintro e w2 ⟨rfl, hf2⟩; have HF2 := hide ((unhide HF1).trans0 hf2); clear hf2)
          go_roundw
          case rel => exact ⟨i + 1, by omega, by go_num, HF2⟩
          case measure => simp [intOf]; omega
        · go_wp2
          go_roundw
          case rel => exact ⟨i + 1, by omega, by go_num, HF1⟩
          case measure => simp [intOf]; omega
      · go_wp2
        go_roundw
        case rel => exact ⟨i + 1, by omega, by go_num, HF1⟩
        case measure => simp [intOf]; omega
    · go_wp2
      go_ret
      exact ⟨rfl, unhide hf⟩

theorem plays_check : PlaysOk 1 1 := fun k n g s w h1 h2 hg _ => by
  obtain rfl : k = 1 := by omega
  exact l_plays_check n g s w hg

set_option maxHeartbeats 400000 in
theorem l_Checks (ao : Option Addr) (len cap : Nat) (w : World) (h : ScriptOk w ao len) :
    Calls Tryz.prog 3 #[.slice ao len cap] w fun e w' => e = .returned (.bool true) ∧ Fr [] w w' := by
  have H := hide h
  clear h
  go_enter Tryz.func3, Tryz.ntmps3
  go_wp2_with (go_at_call 11; refine (l_UpTo 1 1 plays_check ao len cap _ (unhide H)).mono ?_; rintro e w1 ⟨rfl, hf1⟩; have HF1 := hide hf1; clear hf1)
  go_ret
  exact ⟨by simp, unhide HF1⟩

end Go.Proofs.YtkglggkkbmmjkaaGreatDoor
