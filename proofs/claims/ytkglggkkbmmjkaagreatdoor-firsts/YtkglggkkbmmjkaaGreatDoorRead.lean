import Derived.Test.YtkglggkkbmmjkaaGreatDoorLeaf
namespace Go.Proofs.YtkglggkkbmmjkaaGreatDoor
open Go.RowKit

def addAllF (f : Nat → Value) (off : Nat) (l : List Nat) : Nat → Value := l.foldl (fun f c => addF f off c) f

set_option maxHeartbeats 400000 in
theorem p_addBigLetters (s : ByteArray) (b off n : Nat) (f : Nat → Value) (w : World) (hs : s.size ≤ 1000) (hB : Blk w b n f) (hn : off + 26 ≤ n) :
    Calls Tryz.prog 137 #[.pointer (some ⟨b, off, none⟩), .string s] w fun e w' => e = .returned (.tuple #[]) ∧ Fr [b] w w' ∧ w'.heap.size = w.heap.size ∧ Blk w' b n (addAllF f off (bytes s)) := by
  have HB : Hid (Blk w b n f) := hB
  clear hB
  go_enter Tryz.func137, Tryz.ntmps137
  go_wp2
  go_loopw [4] (fun i wr => ∃ k : Nat, k ≤ s.size ∧ i = .int .i64 k ∧ Hid (Fr [b] w wr ∧ wr.heap.size = w.heap.size ∧ Blk wr b n (addAllF f off ((bytes s).take k)))) (fun i _ => s.size - (intOf i).toNat)
  case atStart => exact ⟨0, Nat.zero_le _, rfl, Fr.refl _ _, rfl, by simpa [addAllF] using HB.out⟩
  case round =>
    obtain ⟨k, hk, rfl, hh⟩ := hrel
    by_cases hlt : k < s.size
    · have hch : Hid (ch s k = s[k].toNat) := ch_eq s k hlt
      have hsn : Hid ((bytes s).take (k + 1) = (bytes s).take k ++ [ch s k]) := bytes_snoc s k hlt
      go_wp2_with (go_at_call 114; refine (p_add _ _ _ _ _ _ hh.out.2.2 hn).mono ?_; rintro e w1 ⟨rfl, hf1⟩)
      have hh2 : Hid (Fr [b] w w1 ∧ w1.heap.size = w.heap.size ∧ Blk w1 b n (addAllF f off ((bytes s).take (k + 1)))) := by
        refine ⟨hh.out.1.trans hf1.1 (by simp), by rw [hf1.2.1, hh.out.2.1], ?_⟩
        rw [hsn.out, hch.out]; simpa [addAllF] using hf1.2.2
      go_roundw
      case rel => exact ⟨k + 1, by omega, by go_num, hh2⟩
      case measure => simp [intOf]; omega
    · have hh2 : Hid (Fr [b] w wr ∧ wr.heap.size = w.heap.size ∧ Blk wr b n (addAllF f off (bytes s))) := by
        have := hh.out
        rw [bytes_take_all s k (by omega)] at this; exact this
      clear hh
      go_wp2
      go_end0
      exact ⟨rfl, hh2.out⟩

/-- the two cells of a refusal -/
def refF (f : Nat → Value) (e p : Int) : Nat → Value := upd (upd f 756 (.int .i64 e)) 757 (.int .i64 p)

set_option maxHeartbeats 400000 in
theorem p_refuse (b : Nat) (e p : Int) (f : Nat → Value) (w : World) (hB : Blk w b 758 f) :
    Calls Tryz.prog 55 #[.pointer (some ⟨b, 0, none⟩), .int .i64 e, .int .i64 p] w fun e' w' => e' = .returned (.tuple #[]) ∧ Fr [b] w w' ∧ w'.heap.size = w.heap.size ∧ Blk w' b 758 (refF f e p) := by
  have h6 := hB.cell 756 (by omega)
  have h7 := hB.cell 757 (by omega)
  have z6 := hB.free 756
  have z7 := hB.free 757
  have fin : Hid (Fr [b] w ((w.setCell ⟨b, 756, none⟩ (.int .i64 e)).setCell ⟨b, 757, none⟩ (.int .i64 p)) ∧ ((w.setCell ⟨b, 756, none⟩ (.int .i64 e)).setCell ⟨b, 757, none⟩ (.int .i64 p)).heap.size = w.heap.size ∧
      Blk ((w.setCell ⟨b, 756, none⟩ (.int .i64 e)).setCell ⟨b, 757, none⟩ (.int .i64 p)) b 758 (refF f e p)) :=
    ⟨((Fr.refl [b] w).setCell _ (by simp) _).setCell _ (by simp) _, by simp, (hB.setCell 756 _).setCell 757 _⟩
  clear hB
  go_enter Tryz.func55, Tryz.ntmps55
  go_wp2
  go_end0
  exact ⟨rfl, fin.out⟩

set_option maxHeartbeats 400000 in
theorem p_rightPlace (b A : Nat) (w : World) (hA : A ≤ 1000) (hc : w.cell? ⟨b, 2, none⟩ = some (.int .i64 A)) :
    Calls Tryz.prog 111 #[.pointer (some ⟨b, 0, none⟩)] w fun e w' => e = .returned (.int .i64 (A + 2)) ∧ w' = w := by
  go_enter Tryz.func111, Tryz.ntmps111
  go_wp2
  go_ret
  exact ⟨rfl, rfl⟩

end Go.Proofs.YtkglggkkbmmjkaaGreatDoor
