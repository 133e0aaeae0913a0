import Derived.Test.YtkglggkkbmmjkaaGreatDoorJ9Scr
import Derived.Test.YtkglggkkbmmjkaaGreatDoorJ14Same
namespace Go.Proofs.YtkglggkkbmmjkaaGreatDoor
open Go.RowKit

/-- the step's own variable -/
def OpAt (w : World) (b : Nat) (g s : ByteArray) : Prop := b < w.heap.size ∧ w.cell? ⟨b, 2, none⟩ = some (.string g) ∧ w.cell? ⟨b, 3, none⟩ = some (.string s)
theorem OpAt.fr {w w' : World} {b : Nat} {g s : ByteArray} (h : OpAt w b g s) (k : Fr [] w w') : OpAt w' b g s :=
  ⟨Nat.lt_of_lt_of_le h.1 k.size, by rw [World.cell?_of_block (k.block b h.1 (by simp))]; exact h.2.1, by rw [World.cell?_of_block (k.block b h.1 (by simp))]; exact h.2.2⟩

end Go.Proofs.YtkglggkkbmmjkaaGreatDoor

namespace Go.Proofs.YtkglggkkbmmjkaaGreatDoor
open Go.RowKit

set_option maxHeartbeats 1000000 in
/-- plays at a Check -/
theorem l_plays_check (n : Int) (g s : ByteArray) (w : World) (hg : g.size ≤ 9223372036854775807) :
    Calls Tryz.prog 12 #[.agg #[.int .i64 1, .int .i64 n, .string g, .string s]] w fun e w' => e = .returned (.bool true) ∧ Fr [] w w' := by
  have HE := hide (gErr_eq g)
  go_enter Tryz.func12, Tryz.ntmps12
  go_wp2_with (first | (go_at_call 13; refine (p_Check g _ hg).mono ?_; rintro e w1 ⟨rfl, hf1⟩; have HF1 := hide ((((Fr.refl [] w).alloc _)).trans0 hf1); have k2 : w1.cell? ⟨w.heap.size, 2, none⟩ = some (.string g) := by (rw [World.cell?_of_block (hf1.block w.heap.size (by simp) (by simp))]; simp)) | (go_at_call 14; refine (r_Check g _ hg).mono ?_; rintro e w2 ⟨rfl, hf2⟩; rw [← unhide HE]; have HF2 := hide ((unhide HF1).trans0 hf2); clear hf1 hf2) | (go_at_call 15; refine (l_num _ _).mono ?_; rintro e w3 ⟨rfl, rfl⟩))
  go_ret
  exact ⟨by simp, unhide HF2⟩

end Go.Proofs.YtkglggkkbmmjkaaGreatDoor
