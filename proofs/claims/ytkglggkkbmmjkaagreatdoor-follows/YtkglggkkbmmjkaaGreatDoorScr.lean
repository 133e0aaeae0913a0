import Derived.Test.YtkglggkkbmmjkaaGreatDoorReadGram2
namespace Go.Proofs.YtkglggkkbmmjkaaGreatDoor
open Go.RowKit

set_option maxHeartbeats 400000 in
theorem l_num (n : Int) (w : World) : Calls Tryz.prog 15 #[.int .i64 n] w fun e w' => e = .returned (.int .i64 n) ∧ w' = w := by
  go_enter Tryz.func15, Tryz.ntmps15
  go_wp2
  go_ret
  exact ⟨rfl, rfl⟩

/-- a script lies in memory -/
def ScriptOk (w : World) (ao : Option Addr) (len : Nat) : Prop := len ≤ 70368744177664 ∧ ∀ i, i < len → ∃ b off, ao = some ⟨b, off, none⟩ ∧ b < w.heap.size ∧ ∃ (k n : Int) (g s : ByteArray), g.size ≤ 9223372036854775807 ∧ s.size ≤ 9223372036854775807 ∧
  w.cell? ⟨b, off + i * 4, none⟩ = some (.int .i64 k) ∧ w.cell? ⟨b, off + i * 4 + 1, none⟩ = some (.int .i64 n) ∧ w.cell? ⟨b, off + i * 4 + 2, none⟩ = some (.string g) ∧ w.cell? ⟨b, off + i * 4 + 3, none⟩ = some (.string s)
theorem ScriptOk.fr {w w' : World} {ao : Option Addr} {len : Nat} (h : ScriptOk w ao len) (k : Fr [] w w') : ScriptOk w' ao len := by
  refine ⟨h.1, fun i hi => ?_⟩
  obtain ⟨b, off, ha, hb, kk, n, g, s, hg, hs, c0, c1, c2, c3⟩ := h.2 i hi
  have e : w'.heap[b]? = w.heap[b]? := k.block b hb (by simp)
  refine ⟨b, off, ha, Nat.lt_of_lt_of_le hb k.size, kk, n, g, s, hg, hs, ?_, ?_, ?_, ?_⟩
  · rw [World.cell?_of_block (w := w) (a := ⟨b, _, none⟩) e]; exact c0
  · rw [World.cell?_of_block (w := w) (a := ⟨b, _, none⟩) e]; exact c1
  · rw [World.cell?_of_block (w := w) (a := ⟨b, _, none⟩) e]; exact c2
  · rw [World.cell?_of_block (w := w) (a := ⟨b, _, none⟩) e]; exact c3

end Go.Proofs.YtkglggkkbmmjkaaGreatDoor
