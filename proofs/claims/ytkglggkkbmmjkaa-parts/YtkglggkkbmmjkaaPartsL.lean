import Derived.Test.YtkglggkkbmmjkaaWithin
import Derived.Test.YtkglggkkbmmjkaaOpVar
namespace Go.Proofs.Ytkglggkkbmmjkaa
open Go.RowKit

set_option maxHeartbeats 1600000 in
theorem l_parts_bad (k n : Int) (g s : ByteArray) (w : World) (hg : g.size ≤ 9223372036854775807) (hs : s.size ≤ 9223372036854775807) (h0 : wErr g s ≠ 0) :
    Calls Try.prog 4 #[.agg #[.int .i64 k, .int .i64 n, .string g, .string s]] w fun e w' => e = .returned (.bool true) ∧ Fr [] w w' := by
  have HN := hide (show nullOf g s = false from by unfold nullOf; rw [if_neg h0])
  have HF := hide (show firstOfW g s = ⟨#[]⟩ from by unfold firstOfW; rw [if_neg h0])
  have h1 : ((((wErr g s : Nat) : Int)) != 0) = true := by rw [bne_iff_ne]; omega
  clear h0
  go_enter Try.func4, Try.ntmps4
  go_wp2_with (first
    | (go_at_call 5; refine (p_Null g s _ hg hs).mono ?_; rintro e w1 ⟨rfl, hf1⟩; rw [unhide HN]; have HO1 := hide (show OpAt w1 w.heap.size g s from OpAt.fr (by exact ⟨by simp, by simp, by simp⟩) hf1); have k2 := (unhide HO1).2.1; have k3 := (unhide HO1).2.2; have HF1 := hide (((Fr.refl [] w).alloc _).trans0 hf1); clear hf1)
    | (go_at_call 6; refine (p_First g s _ hg hs).mono ?_; rintro e w2 ⟨rfl, hf2⟩; rw [unhide HF]; have HF2 := hide ((unhide HF1).trans0 hf2); clear hf2)
    | (go_at_call 7; refine (l_num _ _).mono ?_; rintro e w3 ⟨rfl, rfl⟩))
  go_ret
  exact ⟨rfl, unhide HF2⟩

set_option maxHeartbeats 1600000 in
theorem l_parts_empty (k n : Int) (g s : ByteArray) (w : World) (hg : g.size ≤ 9223372036854775807) (hs : s.size = 0) (h0 : wErr g s = 0) :
    Calls Try.prog 4 #[.agg #[.int .i64 k, .int .i64 n, .string g, .string s]] w fun e w' => e = .returned (.bool true) ∧ Fr [] w w' := by
  have hb : bytes s = [] := List.length_eq_zero_iff.1 (by rw [bytes_len]; exact hs)
  have HN := hide (show nullOf g s = true from by unfold nullOf; rw [if_pos h0, hb]; rfl)
  have HF := hide (show firstOfW g s = ⟨#[]⟩ from by unfold firstOfW; rw [if_pos h0, hb]; rfl)
  have HW := hide (show ((wErr g s : Nat) : Int) = 0 from by rw [h0]; rfl)
  have HS := hide (show s.size ≤ 9223372036854775807 by omega)
  have hsi : (s.size : Int) = 0 := by omega
  clear h0 hb
  go_enter Try.func4, Try.ntmps4
  go_wp2_with (first
    | (go_at_call 5; refine (p_Null g s _ hg (unhide HS)).mono ?_; rintro e w1 ⟨rfl, hf1⟩; rw [unhide HN, unhide HW]; have HO1 := hide (show OpAt w1 w.heap.size g s from OpAt.fr (by exact ⟨by simp, by simp, by simp⟩) hf1); have k2 := (unhide HO1).2.1; have k3 := (unhide HO1).2.2; have HF1 := hide (((Fr.refl [] w).alloc _).trans0 hf1); clear hf1)
    | (go_at_call 6; refine (p_First g s _ hg (unhide HS)).mono ?_; rintro e w2 ⟨rfl, hf2⟩; rw [unhide HF, unhide HW]; have HF2 := hide ((unhide HF1).trans0 hf2); have HO2 := hide ((unhide HO1).fr hf2); have m3 := (unhide HO2).2.2; clear hf2)
    | (go_at_call 7; refine (l_num _ _).mono ?_; rintro e w3 ⟨rfl, rfl⟩))
  go_ret
  exact ⟨rfl, unhide HF2⟩

theorem PartOk.same {g s : ByteArray} (h : PartOk g s) (hs : 0 < s.size) (hh : 0 < (s.extract 0 1).size) (h97 : 97 ≤ ((s.extract 0 1)[0].toNat : Int)) :
    nullOf g (s.extract 0 1) = false ∧ (!(firstOfW g (s.extract 0 1)).toList == (s.extract 0 1).toList) = false := by
  have := ch_extract s 0 1 0 (by omega) (by omega)
  rw [ch_eq _ 0 hh, Nat.add_zero] at this
  obtain ⟨x1, x2⟩ := h.sm (by omega)
  exact ⟨x1, by rw [x2]; simp⟩

set_option maxHeartbeats 3200000 in
theorem l_parts_full (k n : Int) (g s : ByteArray) (w : World) (hg : g.size ≤ 9223372036854775807) (hs : 0 < s.size) (h0 : wErr g s = 0) :
    Calls Try.prog 4 #[.agg #[.int .i64 k, .int .i64 n, .string g, .string s]] w fun e w' => e = .returned (.bool true) ∧ Fr [] w w' := by
  have h := partOk h0 hs
  have h12 := (wErr_zero h0).1
  have HW0 := hide (show ((wErr g s : Nat) : Int) = 0 from by rw [h0]; rfl)
  have HWa := hide (show ((wErr g (s.extract 0 1) : Nat) : Int) = 0 from by rw [h.wa]; rfl)
  have HWb := hide (show ((wErr g (s.extract 1 s.size) : Nat) : Int) = 0 from by rw [h.wb]; rfl)
  have HS0 := hide (show s.size ≤ 9223372036854775807 by omega)
  have HSa := hide (show (s.extract 0 1).size ≤ 9223372036854775807 by rw [ByteArray.size_extract]; omega)
  have HSb := hide (show (s.extract 1 s.size).size ≤ 9223372036854775807 by rw [ByteArray.size_extract]; omega)
  have hsi : (0 : Int) < (s.size : Int) := by omega
  clear h0
  obtain ⟨nb, HNb0⟩ : ∃ nb, nullOf g (s.extract 1 s.size) = nb := ⟨_, rfl⟩
  have HNb := hide HNb0
  clear HNb0
  cases ha : nullOf g (s.extract 0 1)
  · have HN0 := hide (show nullOf g s = false from by rw [h.na, ha]; rfl)
    have HNa := hide ha
    have HF0 := hide (h.no ha)
    clear ha
    go_enter Try.func4, Try.ntmps4
    go_wp2_with (first
      | (go_at_call 5; refine (p_Null g _ _ hg (by first | exact unhide HS0 | exact unhide HSa | exact unhide HSb)).mono ?_; rintro e w1 ⟨rfl, hf1⟩; (first | rw [unhide HN0, unhide HW0] | rw [unhide HNa, unhide HWa] | rw [unhide HNb, unhide HWb]); (first | (have HO2 := hide ((unhide HO1).fr hf1); have HF2 := hide ((unhide HF1).trans0 hf1); clear HO1 HF1; have HO1 := HO2; have HF1 := HF2; clear HO2 HF2) | (have HO1 := hide (show OpAt w1 w.heap.size g s from OpAt.fr (by exact ⟨by simp, by simp, by simp⟩) hf1); have HF1 := hide (((Fr.refl [] w).alloc _).trans0 hf1))); have k2 := (unhide HO1).2.1; have k3 := (unhide HO1).2.2; clear hf1)
      | (go_at_call 6; refine (p_First g _ _ hg (by first | exact unhide HS0 | exact unhide HSa | exact unhide HSb)).mono ?_; rintro e w1 ⟨rfl, hf1⟩; (first | rw [unhide HF0, unhide HW0] | rw [unhide HWa] | rw [unhide HWb]); have HO2 := hide ((unhide HO1).fr hf1); have HF2 := hide ((unhide HF1).trans0 hf1); clear HO1 HF1; have HO1 := HO2; have HF1 := HF2; clear HO2 HF2; have k2 := (unhide HO1).2.1; have k3 := (unhide HO1).2.2; clear hf1)
      | (go_at_call 8; refine (l_joined _ _ _ (by exact h.z1) (by exact h.z2)).mono ?_; rintro e w1 ⟨rfl, hf1⟩; have HF2 := hide ((unhide HF1).trans0 hf1); clear HF1; have HF1 := HF2; clear HF2 hf1)
      | (go_at_call 7; refine (l_num _ _).mono ?_; rintro e w3 ⟨rfl, rfl⟩))
    · rename_i hh h97 hne
      rw [(h.same hs (by rw [ByteArray.size_extract]; omega) h97).2] at hne
      cases hne
    · go_ret
      exact ⟨rfl, unhide HF1⟩
    · go_ret
      exact ⟨rfl, unhide HF1⟩
  · have HN0 := hide (show nullOf g s = nb from by rw [h.na, ha, unhide HNb]; rfl)
    have HNa := hide ha
    obtain ⟨J, hJ⟩ : ∃ J, J = lst (joinS (firstOfW g (s.extract 0 1)) (firstOfW g (s.extract 1 s.size))) := ⟨_, rfl⟩
    have HF0 := hide ((h.ye ha).trans hJ.symm)
    have HJ := hide hJ.symm
    clear hJ
    clear ha
    go_enter Try.func4, Try.ntmps4
    go_wp2_with (first
      | (go_at_call 5; refine (p_Null g _ _ hg (by first | exact unhide HS0 | exact unhide HSa | exact unhide HSb)).mono ?_; rintro e w1 ⟨rfl, hf1⟩; (first | rw [unhide HN0, unhide HW0] | rw [unhide HNa, unhide HWa] | rw [unhide HNb, unhide HWb]); (first | (have HO2 := hide ((unhide HO1).fr hf1); have HF2 := hide ((unhide HF1).trans0 hf1); clear HO1 HF1; have HO1 := HO2; have HF1 := HF2; clear HO2 HF2) | (have HO1 := hide (show OpAt w1 w.heap.size g s from OpAt.fr (by exact ⟨by simp, by simp, by simp⟩) hf1); have HF1 := hide (((Fr.refl [] w).alloc _).trans0 hf1))); have k2 := (unhide HO1).2.1; have k3 := (unhide HO1).2.2; clear hf1)
      | (go_at_call 6; refine (p_First g _ _ hg (by first | exact unhide HS0 | exact unhide HSa | exact unhide HSb)).mono ?_; rintro e w1 ⟨rfl, hf1⟩; (first | rw [unhide HF0, unhide HW0] | rw [unhide HWa] | rw [unhide HWb]); have HO2 := hide ((unhide HO1).fr hf1); have HF2 := hide ((unhide HF1).trans0 hf1); clear HO1 HF1; have HO1 := HO2; have HF1 := HF2; clear HO2 HF2; have k2 := (unhide HO1).2.1; have k3 := (unhide HO1).2.2; clear hf1)
      | (go_at_call 8; refine (l_joined _ _ _ (by exact h.z1) (by exact h.z2)).mono ?_; rintro e w1 ⟨rfl, hf1⟩; rw [unhide HJ]; have HF2 := hide ((unhide HF1).trans0 hf1); clear HF1; have HF1 := HF2; clear HF2 hf1)
      | (go_at_call 7; refine (l_num _ _).mono ?_; rintro e w3 ⟨rfl, rfl⟩))
    · rename_i hh h97
      have := (h.same hs (by rw [ByteArray.size_extract]; omega) h97).1
      rw [unhide HNa] at this
      cases this
    · go_ret
      exact ⟨by simp, unhide HF1⟩

theorem l_parts (k n : Int) (g s : ByteArray) (w : World) (hg : g.size ≤ 9223372036854775807) (hs : s.size ≤ 9223372036854775807) :
    Calls Try.prog 4 #[.agg #[.int .i64 k, .int .i64 n, .string g, .string s]] w fun e w' => e = .returned (.bool true) ∧ Fr [] w w' := by
  by_cases h0 : wErr g s = 0
  · by_cases h1 : s.size = 0
    · exact l_parts_empty k n g s w hg h1 h0
    · exact l_parts_full k n g s w hg (by omega) h0
  · exact l_parts_bad k n g s w hg hs h0

set_option maxRecDepth 100000 in
set_option maxHeartbeats 1600000 in
theorem l_Parts (ao : Option Addr) (len cap : Nat) (w : World) (h : ScriptOk w ao len) :
    Calls Try.prog 3 #[.slice ao len cap] w fun e w' => e = .returned (.bool true) ∧ Fr [] w w' := by
  have H := hide h
  have hlen := h.1
  clear h
  go_enter Try.func3, Try.ntmps3
  go_wp2
  go_loopw [3] (fun a wr => ∃ i : Nat, i ≤ len ∧ a = .int .i64 i ∧ Hid (Fr [] w wr)) (fun a _ => len - (intOf a).toNat)
  case atStart => exact ⟨0, by omega, rfl, Fr.refl _ _⟩
  case round =>
    obtain ⟨i, hi, rfl, hf⟩ := hrel
    by_cases hlt : i < len
    · obtain ⟨b, off, rfl, hb, k, n, g, s, hg, hs, c0, c1, c2, c3⟩ := ((unhide H).fr (unhide hf)).2 i hlt
      have hbig : (i : Int) < 1152921504606846976 := by omega
      go_wp2_with (go_at_call 4; refine (l_parts k n g s _ hg hs).mono ?_; rintro e w2 ⟨rfl, hf2⟩; have HF2 := hide ((unhide hf).trans0 hf2); clear hf2)
      go_roundw
      case rel => exact ⟨i + 1, by omega, by go_num, HF2⟩
      case measure => simp [intOf]; omega
    · go_wp2
      go_ret
      exact ⟨rfl, unhide hf⟩

end Go.Proofs.Ytkglggkkbmmjkaa
