import Derived.Test.YtkglggkkbmmjkaaGreatDoorRRead
namespace Go.Proofs.YtkglggkkbmmjkaaGreatDoor
open Go.RowKit

theorem r_read (t : ByteArray) (w : World) (hm : t.size ≤ 9223372036854775807) :
    Calls Tryz.prog 24 #[.string t] w fun e w' => ReadOut t w e w' := by
  by_cases h0 : 32 < t.size
  · exact r_read_long t w h0 hm
  · cases h1 : (parse t 8 0 []).2.2
    · exact r_read_rule t w (by omega) h1
    · exact r_read_ok t w (by omega) h1

theorem rErr_zero (t : ByteArray) (h : (rErr t).1 = 0) : (rErr t).2 = 0 := by
  unfold rErr at h ⊢
  by_cases h5 : 32 < t.size
  · rw [if_pos h5]
  · rw [if_neg h5] at h ⊢
    by_cases h6 : (parse t 8 0 []).2.2 = false
    · rw [if_pos h6] at h; simp at h
    · rw [if_neg h6] at h ⊢
      cases h7 : rNames t (parse t 8 0 []).1 with
      | some k => rw [h7] at h; simp at h
      | none =>
        rw [h7] at h
        simp only at h ⊢
        cases h8 : rDead (rEnds (parse t 8 0 []).1) (rUsed (parse t 8 0 []).1) (parse t 8 0 []).1 with
        | some k => rw [h8] at h; simp at h
        | none => rfl

theorem ReadOut.form {t : ByteArray} {w w' : World} {e : Ending} (h : ReadOut t w e w') : ∃ v, e = .returned (.tuple #[v, .int .i64 (rErr t).1, .int .i64 (rErr t).2]) ∧ Fr [] w w' := by
  obtain ⟨h1, h2, h3⟩ := h
  by_cases h0 : (rErr t).1 = 0
  · obtain ⟨_, _, q, cap, he, _⟩ := h3 h0
    refine ⟨.slice (some ⟨q, 0, none⟩) (parse t 8 0 []).1.length cap, ?_, h1⟩
    rw [he, h0]
    have h4 := rErr_zero t h0
    rw [h4]; rfl
  · exact ⟨_, h2 h0, h1⟩

set_option maxHeartbeats 400000 in
theorem r_Check (t : ByteArray) (w : World) (hm : t.size ≤ 9223372036854775807) :
    Calls Tryz.prog 14 #[.string t] w fun e w' => e = .returned (.tuple #[.int .i64 (rErr t).1, .int .i64 (rErr t).2]) ∧ Fr [] w w' := by
  go_enter Tryz.func14, Tryz.ntmps14
  go_wp2_with (go_at_call 24; refine (r_read t _ hm).mono ?_; rintro e w1 hr; obtain ⟨v, rfl, hf⟩ := hr.form; have HF := hide hf; clear hr hf)
  go_ret2
  exact ⟨rfl, unhide HF⟩

end Go.Proofs.YtkglggkkbmmjkaaGreatDoor
