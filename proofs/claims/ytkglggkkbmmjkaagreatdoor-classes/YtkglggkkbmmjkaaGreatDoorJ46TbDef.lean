import Derived.Test.YtkglggkkbmmjkaaGreatDoorJ25RTable
import Derived.Test.YtkglggkkbmmjkaaGreatDoorJ26RCan
namespace Go.Proofs.YtkglggkkbmmjkaaGreatDoor
open Go.RowKit

theorem beg_congr {N : Nat → Bool} {T T' : Nat → Nat → Bool} {x : Nat} (h : ∀ c, T c x = T' c x) : ∀ l, beg N T l x = beg N T' l x
  | [] => rfl
  | c :: l => by rw [beg, beg, h c, beg_congr h l]
theorem asks_congr {rs : List Ru} {N : Nat → Bool} {T T' : Nat → Nat → Bool} (h : ∀ c x, x < 128 → T c x = T' c x) : Asks rs N T = Asks rs N T' := by
  funext x y
  apply propext
  unfold Asks sgS
  constructor
  · rintro ⟨h1, h2, h3, h4, h5, h6, h7, h8⟩
    exact ⟨h1, h2, h3, h4, h5, h6, h7, by rw [← beg_congr (fun c => h c _ h7)]; exact h8⟩
  · rintro ⟨h1, h2, h3, h4, h5, h6, h7, h8⟩
    exact ⟨h1, h2, h3, h4, h5, h6, h7, by rw [beg_congr (fun c => h c _ h7)]; exact h8⟩
theorem full_congr {rs : List Ru} {N : Nat → Bool} {T T' : Nat → Nat → Bool} (h : ∀ c x, x < 128 → T c x = T' c x) : FullOf rs N T = FullOf rs N T' := by
  funext l L
  apply propext
  have ha := asks_congr (rs := rs) (N := N) h
  have hc : ∀ X y, Cl rs N T X y ↔ Cl rs N T' X y := fun X y => by unfold Cl; rw [ha]
  constructor
  · rintro ⟨⟨h1, h2, h3, h4⟩, h5⟩
    exact ⟨⟨h1, h2, h3, fun y hy => (hc _ y).1 (h4 y hy)⟩, fun x hx y hy => h5 x hx y (by rw [ha]; exact hy)⟩
  · rintro ⟨⟨h1, h2, h3, h4⟩, h5⟩
    exact ⟨⟨h1, h2, h3, fun y hy => (hc _ y).2 (h4 y hy)⟩, fun x hx y hy => h5 x hx y (by rw [← ha]; exact hy)⟩
theorem stepM_congr {rs : List Ru} {N : Nat → Bool} {T T' : Nat → Nat → Bool} (h : ∀ c x, x < 128 → T c x = T' c x) : stepM rs N T = stepM rs N T' := by
  funext l c
  unfold stepM
  rw [full_congr h]
theorem startM_congr {rs : List Ru} {N : Nat → Bool} {T T' : Nat → Nat → Bool} (h : ∀ c x, x < 128 → T c x = T' c x) : startM rs N T = startM rs N T' := by
  unfold startM
  rw [full_congr h]
theorem tabM_congr {rs : List Ru} {N : Nat → Bool} {T T' : Nat → Nat → Bool} (h : ∀ c x, x < 128 → T c x = T' c x) : ∀ f i S M, tabM rs N T f i S M = tabM rs N T' f i S M
  | 0, _, _, _ => rfl
  | f + 1, i, S, M => by
    rw [tabM, tabM, stepM_congr h]
    split
    · split
      · rfl
      · exact tabM_congr h f _ _ _
    · rfl
end Go.Proofs.YtkglggkkbmmjkaaGreatDoor

namespace Go.Proofs.YtkglggkkbmmjkaaGreatDoor
open Go.RowKit

/-- a table: its states, their steps -/
abbrev Tb := List (List It) × List (List (Nat × Nat))
/-- what can be done in a state where a sign comes -/
def canS (r : Tb) (j x : Nat) : Bool := decide (0 ≤ toM (r.2.getD j []) x)
def canR (L : List Ru) (r : Tb) (j x k : Nat) : Bool := endsL L (r.1.getD j []) x k
def actT (L : List Ru) (r : Tb) (j x : Nat) : ByteArray := wordsT (canS r j x) (canR L r j x)
end Go.Proofs.YtkglggkkbmmjkaaGreatDoor
