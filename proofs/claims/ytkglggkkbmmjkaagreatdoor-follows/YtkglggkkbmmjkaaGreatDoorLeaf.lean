import Derived.Test.YtkglggkkbmmjkaaGreatDoorModel
namespace Go.Proofs.YtkglggkkbmmjkaaGreatDoor
open Go.RowKit

set_option maxHeartbeats 400000 in
theorem p_isBig (c : Nat) (w : World) :
    Calls Tryz.prog 74 #[.int .u8 c] w fun e w' => e = .returned (.bool (bigB c)) ∧ w' = w := by
  by_cases h1 : (65 : Int) ≤ c <;> by_cases h2 : (c : Int) ≤ 90
  all_goals
    go_enter Tryz.func74, Tryz.ntmps74
    go_wp2
    go_ret
    exact ⟨by simp [bigB_int, h1, h2], rfl⟩

set_option maxHeartbeats 400000 in
theorem p_isSmall (c : Nat) (w : World) :
    Calls Tryz.prog 117 #[.int .u8 c] w fun e w' => e = .returned (.bool (smallB c)) ∧ w' = w := by
  by_cases h1 : (97 : Int) ≤ c <;> by_cases h2 : (c : Int) ≤ 122
  all_goals
    go_enter Tryz.func117, Tryz.ntmps117
    go_wp2
    go_ret
    exact ⟨by simp [smallB_int, h1, h2], rfl⟩

set_option maxHeartbeats 400000 in
theorem p_isLetter (c : Nat) (w : World) :
    Calls Tryz.prog 81 #[.int .u8 c] w fun e w' => e = .returned (.bool (letB c)) ∧ w' = w := by
  cases hb : bigB c
  all_goals
    go_enter Tryz.func81, Tryz.ntmps81
    go_wp2_with (first | (go_at_call 74; refine (p_isBig _ _).mono ?_; rintro e w' ⟨rfl, rfl⟩) | (go_at_call 117; refine (p_isSmall _ _).mono ?_; rintro e w' ⟨rfl, rfl⟩))
    go_ret
    exact ⟨by simp [letB, hb], rfl⟩

/-- a set of big letters lies in memory -/
def SetAt (w : World) (b off : Nat) (S : Nat → Bool) : Prop := ∀ k, k < 26 → w.cell? ⟨b, off + k, none⟩ = some (.bool (S (65 + k)))

set_option maxHeartbeats 400000 in
theorem p_has (b off c : Nat) (S : Nat → Bool) (w : World) (hc : SetAt w b off S) :
    Calls Tryz.prog 110 #[.pointer (some ⟨b, off, none⟩), .int .u8 c] w fun e w' => e = .returned (.bool (hasB S c)) ∧ w' = w := by
  by_cases hb : bigB c = true
  · have h := bigB_iff.1 hb
    obtain ⟨k, rfl⟩ : ∃ k, c = 65 + k := ⟨c - 65, by omega⟩
    have hk := hc k (by omega)
    clear hc
    go_enter Tryz.func110, Tryz.ntmps110
    go_wp2_with (go_at_call 74; refine (p_isBig _ _).mono ?_; rintro e w' ⟨rfl, rfl⟩)
    go_ret
    exact ⟨by simp [hasB, hb], rfl⟩
  · have hb : bigB c = false := by simpa using hb
    clear hc
    go_enter Tryz.func110, Tryz.ntmps110
    go_wp2_with (go_at_call 74; refine (p_isBig _ _).mono ?_; rintro e w' ⟨rfl, rfl⟩)
    go_ret
    exact ⟨by simp [hasB, hb], rfl⟩

def addF (f : Nat → Value) (off c : Nat) : Nat → Value := if bigB c then upd f (off + (c - 65)) (.bool true) else f

set_option maxHeartbeats 400000 in
theorem p_add (b off c n : Nat) (f : Nat → Value) (w : World) (hB : Blk w b n f) (hn : off + 26 ≤ n) :
    Calls Tryz.prog 114 #[.pointer (some ⟨b, off, none⟩), .int .u8 c] w fun e w' => e = .returned (.tuple #[]) ∧ Fr [b] w w' ∧ w'.heap.size = w.heap.size ∧ Blk w' b n (addF f off c) := by
  by_cases hb : bigB c = true
  · have h := bigB_iff.1 hb
    obtain ⟨k, rfl⟩ : ∃ k, c = 65 + k := ⟨c - 65, by omega⟩
    have hk := hB.cell (off + k) (by omega)
    have hz := hB.free (off + k)
    have hB' := hB.setCell (off + k) (.bool true)
    have hF := (Fr.refl [b] w).setCell ⟨b, off + k, none⟩ (by simp) (.bool true)
    have fin : Fr [b] w (w.setCell ⟨b, off + k, none⟩ (.bool true)) ∧ (w.setCell ⟨b, off + k, none⟩ (.bool true)).heap.size = w.heap.size ∧ Blk (w.setCell ⟨b, off + k, none⟩ (.bool true)) b n (addF f off (65 + k)) := by
      refine ⟨hF, by simp, ?_⟩
      simpa [addF, hb] using hB'
    have HF : Hid (Fr [b] w (w.setCell ⟨b, off + k, none⟩ (.bool true)) ∧ (w.setCell ⟨b, off + k, none⟩ (.bool true)).heap.size = w.heap.size ∧ Blk (w.setCell ⟨b, off + k, none⟩ (.bool true)) b n (addF f off (65 + k))) := fin
    clear fin hB' hF hB
    go_enter Tryz.func114, Tryz.ntmps114
    go_wp2_with (go_at_call 74; refine (p_isBig _ _).mono ?_; rintro e w' ⟨rfl, rfl⟩)
    go_end0
    exact ⟨rfl, HF.out⟩
  · have hb : bigB c = false := by simpa using hb
    have HB : Hid (Blk w b n f) := hB
    clear hB
    go_enter Tryz.func114, Tryz.ntmps114
    go_wp2_with (go_at_call 74; refine (p_isBig _ _).mono ?_; rintro e w' ⟨rfl, rfl⟩)
    go_end0
    exact ⟨rfl, Fr.refl _ _, rfl, by simpa [addF, hb] using HB.out⟩

set_option maxHeartbeats 400000 in
theorem p_vanishes (s : ByteArray) (b off : Nat) (S : Nat → Bool) (sm : Bool) (w : World) (hs : s.size ≤ 1000) (hc : SetAt w b off S) :
    Calls Tryz.prog 113 #[.string s, .pointer (some ⟨b, off, none⟩), .bool sm] w fun e w' => e = .returned (.bool ((bytes s).all (vanB S sm))) ∧ w' = w := by
  go_enter Tryz.func113, Tryz.ntmps113
  go_wp2
  go_loop [7] (fun i => ∃ k : Nat, k ≤ s.size ∧ i = .int .i64 k ∧ ((bytes s).take k).all (vanB S sm) = true) (fun i => s.size - (intOf i).toNat)
  case atStart => exact ⟨0, Nat.zero_le _, rfl, by simp⟩
  case round =>
    obtain ⟨k, hk, rfl, hall⟩ := hrel
    by_cases hlt : k < s.size
    · have hch := ch_eq s k hlt
      have hsn := bytes_snoc s k hlt
      by_cases hv : vanB S sm (ch s k) = true
      · have hall' : Hid (((bytes s).take (k + 1)).all (vanB S sm) = true) := by
          show _ = _
          rw [hsn, List.all_append, hall]; simp [hv]
        rw [hch] at hv
        clear hall hsn hch
        simp only [vanB, Bool.or_eq_true, Bool.and_eq_true] at hv
        cases sm <;> cases h1 : smallB s[k].toNat <;> simp only [h1, and_true, and_false, false_or, true_or, Bool.false_eq_true] at hv
        all_goals
          go_wp2_with (first | (go_at_call 117; refine (p_isSmall _ _).mono ?_; rintro e w' ⟨rfl, rfl⟩) | (go_at_call 110; refine (p_has _ _ _ S _ hc).mono ?_; rintro e w' ⟨rfl, rfl⟩))
          go_round
          case rel => exact ⟨k + 1, by omega, by go_num, hall'.out⟩
          case measure => simp [intOf]; omega
      · have hf : Hid ((bytes s).all (vanB S sm) = false) := by
          show _ = _
          rw [← List.take_append_drop (k + 1) (bytes s), List.all_append, hsn, List.all_append]
          simp [hv]
        rw [hch] at hv
        clear hall hsn hch
        have h2 : hasB S s[k].toNat = false := by cases h : hasB S s[k].toNat <;> simp_all [vanB]
        have h3 : sm = true → smallB s[k].toNat = false := by intro e; cases h : smallB s[k].toNat <;> simp_all [vanB]
        clear hv
        cases sm
        · clear h3
          go_wp2_with (first | (go_at_call 117; refine (p_isSmall _ _).mono ?_; rintro e w' ⟨rfl, rfl⟩) | (go_at_call 110; refine (p_has _ _ _ S _ hc).mono ?_; rintro e w' ⟨rfl, rfl⟩))
          go_ret
          exact ⟨ret_bool (a := false) hf.out.symm, rfl⟩
        · have h3 := h3 rfl
          go_wp2_with (first | (go_at_call 117; refine (p_isSmall _ _).mono ?_; rintro e w' ⟨rfl, rfl⟩) | (go_at_call 110; refine (p_has _ _ _ S _ hc).mono ?_; rintro e w' ⟨rfl, rfl⟩))
          go_ret
          exact ⟨ret_bool (a := false) hf.out.symm, rfl⟩
    · have hf : Hid ((bytes s).all (vanB S sm) = true) := by
        show _ = _
        rw [← bytes_take_all s k (by omega)]; exact hall
      clear hall
      go_wp2
      go_ret
      exact ⟨ret_bool (a := true) hf.out.symm, rfl⟩

end Go.Proofs.YtkglggkkbmmjkaaGreatDoor
