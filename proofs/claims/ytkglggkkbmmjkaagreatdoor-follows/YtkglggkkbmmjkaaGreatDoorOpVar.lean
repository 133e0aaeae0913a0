import Derived.Test.YtkglggkkbmmjkaaGreatDoorScr
namespace Go.Proofs.YtkglggkkbmmjkaaGreatDoor
open Go.RowKit

/-- the step's own variable -/
def OpAt (w : World) (b : Nat) (g s : ByteArray) : Prop := b < w.heap.size ∧ w.cell? ⟨b, 2, none⟩ = some (.string g) ∧ w.cell? ⟨b, 3, none⟩ = some (.string s)
theorem OpAt.fr {w w' : World} {b : Nat} {g s : ByteArray} (h : OpAt w b g s) (k : Fr [] w w') : OpAt w' b g s :=
  ⟨Nat.lt_of_lt_of_le h.1 k.size, by rw [World.cell?_of_block (k.block b h.1 (by simp))]; exact h.2.1, by rw [World.cell?_of_block (k.block b h.1 (by simp))]; exact h.2.2⟩

end Go.Proofs.YtkglggkkbmmjkaaGreatDoor
