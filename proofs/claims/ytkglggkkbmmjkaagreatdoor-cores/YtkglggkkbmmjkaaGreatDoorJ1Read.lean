import Derived.Test.YtkglggkkbmmjkaaGreatDoorJ0Model
namespace Go.Proofs.YtkglggkkbmmjkaaGreatDoor
open Go.RowKit

set_option maxHeartbeats 400000 in
theorem p_isBig (c : Nat) (w : World) :
    Calls Tryz.prog 74 #[.int .u8 c] w fun e w' => e = .returned (.bool (bigB c)) ∧ w' = w := by
  by_cases h1 : (65 : Int) ≤ c <;> by_cases h2 : (c : Int) ≤ 90
  all_goals
    go_enter Tryz.func74, Tryz.ntmps74
    go_wp2
    go_ret
    exact ⟨by simp [bigB_int, h1, h2], rfl⟩

set_option maxHeartbeats 400000 in
theorem p_isSmall (c : Nat) (w : World) :
    Calls Tryz.prog 117 #[.int .u8 c] w fun e w' => e = .returned (.bool (smallB c)) ∧ w' = w := by
  by_cases h1 : (97 : Int) ≤ c <;> by_cases h2 : (c : Int) ≤ 122
  all_goals
    go_enter Tryz.func117, Tryz.ntmps117
    go_wp2
    go_ret
    exact ⟨by simp [smallB_int, h1, h2], rfl⟩

set_option maxHeartbeats 400000 in
theorem p_isLetter (c : Nat) (w : World) :
    Calls Tryz.prog 81 #[.int .u8 c] w fun e w' => e = .returned (.bool (letB c)) ∧ w' = w := by
  cases hb : bigB c
  all_goals
    go_enter Tryz.func81, Tryz.ntmps81
    go_wp2_with (first | (go_at_call 74; refine (p_isBig _ _).mono ?_; rintro e w' ⟨rfl, rfl⟩) | (go_at_call 117; refine (p_isSmall _ _).mono ?_; rintro e w' ⟨rfl, rfl⟩))
    go_ret
    exact ⟨by simp [letB, hb], rfl⟩

/-- a set of big letters lies in memory -/
def SetAt (w : World) (b off : Nat) (S : Nat → Bool) : Prop := ∀ k, k < 26 → w.cell? ⟨b, off + k, none⟩ = some (.bool (S (65 + k)))

set_option maxHeartbeats 400000 in
theorem p_has (b off c : Nat) (S : Nat → Bool) (w : World) (hc : SetAt w b off S) :
    Calls Tryz.prog 110 #[.pointer (some ⟨b, off, none⟩), .int .u8 c] w fun e w' => e = .returned (.bool (hasB S c)) ∧ w' = w := by
  by_cases hb : bigB c = true
  · have h := bigB_iff.1 hb
    obtain ⟨k, rfl⟩ : ∃ k, c = 65 + k := ⟨c - 65, by omega⟩
    have hk := hc k (by omega)
    clear hc
    go_enter Tryz.func110, Tryz.ntmps110
    go_wp2_with (go_at_call 74; refine (p_isBig _ _).mono ?_; rintro e w' ⟨rfl, rfl⟩)
    go_ret
    exact ⟨by simp [hasB, hb], rfl⟩
  · have hb : bigB c = false := by simpa using hb
    clear hc
    go_enter Tryz.func110, Tryz.ntmps110
    go_wp2_with (go_at_call 74; refine (p_isBig _ _).mono ?_; rintro e w' ⟨rfl, rfl⟩)
    go_ret
    exact ⟨by simp [hasB, hb], rfl⟩

def addF (f : Nat → Value) (off c : Nat) : Nat → Value := if bigB c then upd f (off + (c - 65)) (.bool true) else f

set_option maxHeartbeats 400000 in
theorem p_add (b off c n : Nat) (f : Nat → Value) (w : World) (hB : Blk w b n f) (hn : off + 26 ≤ n) :
    Calls Tryz.prog 114 #[.pointer (some ⟨b, off, none⟩), .int .u8 c] w fun e w' => e = .returned (.tuple #[]) ∧ Fr [b] w w' ∧ w'.heap.size = w.heap.size ∧ Blk w' b n (addF f off c) := by
  by_cases hb : bigB c = true
  · have h := bigB_iff.1 hb
    obtain ⟨k, rfl⟩ : ∃ k, c = 65 + k := ⟨c - 65, by omega⟩
    have hk := hB.cell (off + k) (by omega)
    have hz := hB.free (off + k)
    have hB' := hB.setCell (off + k) (.bool true)
    have hF := (Fr.refl [b] w).setCell ⟨b, off + k, none⟩ (by simp) (.bool true)
    have fin : Fr [b] w (w.setCell ⟨b, off + k, none⟩ (.bool true)) ∧ (w.setCell ⟨b, off + k, none⟩ (.bool true)).heap.size = w.heap.size ∧ Blk (w.setCell ⟨b, off + k, none⟩ (.bool true)) b n (addF f off (65 + k)) := by
      refine ⟨hF, by simp, ?_⟩
      simpa [addF, hb] using hB'
    have HF : Hid (Fr [b] w (w.setCell ⟨b, off + k, none⟩ (.bool true)) ∧ (w.setCell ⟨b, off + k, none⟩ (.bool true)).heap.size = w.heap.size ∧ Blk (w.setCell ⟨b, off + k, none⟩ (.bool true)) b n (addF f off (65 + k))) := fin
    clear fin hB' hF hB
    go_enter Tryz.func114, Tryz.ntmps114
    go_wp2_with (go_at_call 74; refine (p_isBig _ _).mono ?_; rintro e w' ⟨rfl, rfl⟩)
    go_end0
    exact ⟨rfl, HF.out⟩
  · have hb : bigB c = false := by simpa using hb
    have HB : Hid (Blk w b n f) := hB
    clear hB
    go_enter Tryz.func114, Tryz.ntmps114
    go_wp2_with (go_at_call 74; refine (p_isBig _ _).mono ?_; rintro e w' ⟨rfl, rfl⟩)
    go_end0
    exact ⟨rfl, Fr.refl _ _, rfl, by simpa [addF, hb] using HB.out⟩

set_option maxHeartbeats 400000 in
theorem p_vanishes (s : ByteArray) (b off : Nat) (S : Nat → Bool) (sm : Bool) (w : World) (hs : s.size ≤ 1000) (hc : SetAt w b off S) :
    Calls Tryz.prog 113 #[.string s, .pointer (some ⟨b, off, none⟩), .bool sm] w fun e w' => e = .returned (.bool ((bytes s).all (vanB S sm))) ∧ w' = w := by
  go_enter Tryz.func113, Tryz.ntmps113
  go_wp2
  go_loop [7] (fun i => ∃ k : Nat, k ≤ s.size ∧ i = .int .i64 k ∧ ((bytes s).take k).all (vanB S sm) = true) (fun i => s.size - (intOf i).toNat)
  case atStart => exact ⟨0, Nat.zero_le _, rfl, by simp⟩
  case round =>
    obtain ⟨k, hk, rfl, hall⟩ := hrel
    by_cases hlt : k < s.size
    · have hch := ch_eq s k hlt
      have hsn := bytes_snoc s k hlt
      by_cases hv : vanB S sm (ch s k) = true
      · have hall' : Hid (((bytes s).take (k + 1)).all (vanB S sm) = true) := by
          show _ = _
          rw [hsn, List.all_append, hall]; simp [hv]
        rw [hch] at hv
        clear hall hsn hch
        simp only [vanB, Bool.or_eq_true, Bool.and_eq_true] at hv
        cases sm <;> cases h1 : smallB s[k].toNat <;> simp only [h1, and_true, and_false, false_or, true_or, Bool.false_eq_true] at hv
        all_goals
          go_wp2_with (first | (go_at_call 117; refine (p_isSmall _ _).mono ?_; rintro e w' ⟨rfl, rfl⟩) | (go_at_call 110; refine (p_has _ _ _ S _ hc).mono ?_; rintro e w' ⟨rfl, rfl⟩))
          go_round
          case rel => exact ⟨k + 1, by omega, by go_num, hall'.out⟩
          case measure => simp [intOf]; omega
      · have hf : Hid ((bytes s).all (vanB S sm) = false) := by
          show _ = _
          rw [← List.take_append_drop (k + 1) (bytes s), List.all_append, hsn, List.all_append]
          simp [hv]
        rw [hch] at hv
        clear hall hsn hch
        have h2 : hasB S s[k].toNat = false := by cases h : hasB S s[k].toNat <;> simp_all [vanB]
        have h3 : sm = true → smallB s[k].toNat = false := by intro e; cases h : smallB s[k].toNat <;> simp_all [vanB]
        clear hv
        cases sm
        · clear h3
          go_wp2_with (first | (go_at_call 117; refine (p_isSmall _ _).mono ?_; rintro e w' ⟨rfl, rfl⟩) | (go_at_call 110; refine (p_has _ _ _ S _ hc).mono ?_; rintro e w' ⟨rfl, rfl⟩))
          go_ret
          exact ⟨ret_bool (a := false) hf.out.symm, rfl⟩
        · have h3 := h3 rfl
          go_wp2_with (first | (go_at_call 117; refine (p_isSmall _ _).mono ?_; rintro e w' ⟨rfl, rfl⟩) | (go_at_call 110; refine (p_has _ _ _ S _ hc).mono ?_; rintro e w' ⟨rfl, rfl⟩))
          go_ret
          exact ⟨ret_bool (a := false) hf.out.symm, rfl⟩
    · have hf : Hid ((bytes s).all (vanB S sm) = true) := by
        show _ = _
        rw [← bytes_take_all s k (by omega)]; exact hall
      clear hall
      go_wp2
      go_ret
      exact ⟨ret_bool (a := true) hf.out.symm, rfl⟩

end Go.Proofs.YtkglggkkbmmjkaaGreatDoor

namespace Go.Proofs.YtkglggkkbmmjkaaGreatDoor
open Go.RowKit

def addAllF (f : Nat → Value) (off : Nat) (l : List Nat) : Nat → Value := l.foldl (fun f c => addF f off c) f

set_option maxHeartbeats 400000 in
theorem p_addBigLetters (s : ByteArray) (b off n : Nat) (f : Nat → Value) (w : World) (hs : s.size ≤ 1000) (hB : Blk w b n f) (hn : off + 26 ≤ n) :
    Calls Tryz.prog 137 #[.pointer (some ⟨b, off, none⟩), .string s] w fun e w' => e = .returned (.tuple #[]) ∧ Fr [b] w w' ∧ w'.heap.size = w.heap.size ∧ Blk w' b n (addAllF f off (bytes s)) := by
  have HB : Hid (Blk w b n f) := hB
  clear hB
  go_enter Tryz.func137, Tryz.ntmps137
  go_wp2
  go_loopw [4] (fun i wr => ∃ k : Nat, k ≤ s.size ∧ i = .int .i64 k ∧ Hid (Fr [b] w wr ∧ wr.heap.size = w.heap.size ∧ Blk wr b n (addAllF f off ((bytes s).take k)))) (fun i _ => s.size - (intOf i).toNat)
  case atStart => exact ⟨0, Nat.zero_le _, rfl, Fr.refl _ _, rfl, by simpa [addAllF] using HB.out⟩
  case round =>
    obtain ⟨k, hk, rfl, hh⟩ := hrel
    by_cases hlt : k < s.size
    · have hch : Hid (ch s k = s[k].toNat) := ch_eq s k hlt
      have hsn : Hid ((bytes s).take (k + 1) = (bytes s).take k ++ [ch s k]) := bytes_snoc s k hlt
      go_wp2_with (go_at_call 114; refine (p_add _ _ _ _ _ _ hh.out.2.2 hn).mono ?_; rintro e w1 ⟨rfl, hf1⟩)
      have hh2 : Hid (Fr [b] w w1 ∧ w1.heap.size = w.heap.size ∧ Blk w1 b n (addAllF f off ((bytes s).take (k + 1)))) := by
        refine ⟨hh.out.1.trans hf1.1 (by simp), by rw [hf1.2.1, hh.out.2.1], ?_⟩
        rw [hsn.out, hch.out]; simpa [addAllF] using hf1.2.2
      go_roundw
      case rel => exact ⟨k + 1, by omega, by go_num, hh2⟩
      case measure => simp [intOf]; omega
    · have hh2 : Hid (Fr [b] w wr ∧ wr.heap.size = w.heap.size ∧ Blk wr b n (addAllF f off (bytes s))) := by
        have := hh.out
        rw [bytes_take_all s k (by omega)] at this; exact this
      clear hh
      go_wp2
      go_end0
      exact ⟨rfl, hh2.out⟩

/-- the two cells of a refusal -/
def refF (f : Nat → Value) (e p : Int) : Nat → Value := upd (upd f 756 (.int .i64 e)) 757 (.int .i64 p)

set_option maxHeartbeats 400000 in
theorem p_refuse (b : Nat) (e p : Int) (f : Nat → Value) (w : World) (hB : Blk w b 758 f) :
    Calls Tryz.prog 55 #[.pointer (some ⟨b, 0, none⟩), .int .i64 e, .int .i64 p] w fun e' w' => e' = .returned (.tuple #[]) ∧ Fr [b] w w' ∧ w'.heap.size = w.heap.size ∧ Blk w' b 758 (refF f e p) := by
  have h6 := hB.cell 756 (by omega)
  have h7 := hB.cell 757 (by omega)
  have z6 := hB.free 756
  have z7 := hB.free 757
  have fin : Hid (Fr [b] w ((w.setCell ⟨b, 756, none⟩ (.int .i64 e)).setCell ⟨b, 757, none⟩ (.int .i64 p)) ∧ ((w.setCell ⟨b, 756, none⟩ (.int .i64 e)).setCell ⟨b, 757, none⟩ (.int .i64 p)).heap.size = w.heap.size ∧
      Blk ((w.setCell ⟨b, 756, none⟩ (.int .i64 e)).setCell ⟨b, 757, none⟩ (.int .i64 p)) b 758 (refF f e p)) :=
    ⟨((Fr.refl [b] w).setCell _ (by simp) _).setCell _ (by simp) _, by simp, (hB.setCell 756 _).setCell 757 _⟩
  clear hB
  go_enter Tryz.func55, Tryz.ntmps55
  go_wp2
  go_end0
  exact ⟨rfl, fin.out⟩

set_option maxHeartbeats 400000 in
theorem p_rightPlace (b A : Nat) (w : World) (hA : A ≤ 1000) (hc : w.cell? ⟨b, 2, none⟩ = some (.int .i64 A)) :
    Calls Tryz.prog 111 #[.pointer (some ⟨b, 0, none⟩)] w fun e w' => e = .returned (.int .i64 (A + 2)) ∧ w' = w := by
  go_enter Tryz.func111, Tryz.ntmps111
  go_wp2
  go_ret
  exact ⟨rfl, rfl⟩

end Go.Proofs.YtkglggkkbmmjkaaGreatDoor
