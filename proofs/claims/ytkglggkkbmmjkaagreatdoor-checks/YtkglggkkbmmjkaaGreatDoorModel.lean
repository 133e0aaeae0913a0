import Derived.Test.YtkglggkkbmmjkaaGreatDoorBase
namespace Go.Proofs.YtkglggkkbmmjkaaGreatDoor
open Go.RowKit

/-! The plain functions: letters, sets, parsing. -/
def bigB (c : Nat) : Bool := decide (65 ≤ c) && decide (c ≤ 90)
def smallB (c : Nat) : Bool := decide (97 ≤ c) && decide (c ≤ 122)
def letB (c : Nat) : Bool := bigB c || smallB c
theorem bigB_iff {c : Nat} : bigB c = true ↔ 65 ≤ c ∧ c ≤ 90 := by simp [bigB]
theorem smallB_iff {c : Nat} : smallB c = true ↔ 97 ≤ c ∧ c ≤ 122 := by simp [smallB]
theorem not_big_of_small {c : Nat} (h : smallB c = true) : bigB c = false := by
  have := smallB_iff.1 h
  simp [bigB]; omega
theorem bigB_int (c : Nat) : bigB c = (decide ((65 : Int) ≤ c) && decide ((c : Int) ≤ 90)) := by
  rw [Bool.eq_iff_iff]; simp [bigB]; omega
theorem smallB_int (c : Nat) : smallB c = (decide ((97 : Int) ≤ c) && decide ((c : Int) ≤ 122)) := by
  rw [Bool.eq_iff_iff]; simp [smallB]; omega
def hasB (S : Nat → Bool) (c : Nat) : Bool := bigB c && S c
def ins (S : Nat → Bool) (c : Nat) : Nat → Bool := fun x => S x || x == c
def insB (S : Nat → Bool) (c : Nat) : Nat → Bool := fun x => S x || (bigB c && x == c)
/-- a byte of a word that vanishes -/
def vanB (S : Nat → Bool) (sm : Bool) (c : Nat) : Bool := (sm && smallB c) || hasB S c

def bytes (s : ByteArray) : List Nat := s.data.toList.map UInt8.toNat
def ch (t : ByteArray) (i : Nat) : Nat := if h : i < t.size then t[i].toNat else 0
theorem ch_eq (t : ByteArray) (i : Nat) (h : i < t.size) : ch t i = t[i].toNat := by simp [ch, h]
theorem ch_lt (t : ByteArray) (i : Nat) : ch t i < 256 := by
  unfold ch; split
  · exact UInt8.toNat_lt _
  · decide
theorem bytes_len (s : ByteArray) : (bytes s).length = s.size := by simp [bytes]
theorem bytes_get (s : ByteArray) (k : Nat) (h : k < (bytes s).length) : (bytes s)[k] = ch s k := by
  rw [ch_eq s k (by rw [← bytes_len]; exact h)]
  simp [bytes]; rfl
theorem bytes_snoc (s : ByteArray) (k : Nat) (h : k < s.size) : (bytes s).take (k + 1) = (bytes s).take k ++ [ch s k] := by
  rw [List.take_succ_eq_append_getElem (by rw [bytes_len]; exact h), bytes_get]
theorem bytes_take_all (s : ByteArray) (k : Nat) (h : s.size ≤ k) : (bytes s).take k = bytes s := List.take_of_length_le (by rw [bytes_len]; exact h)

/-- a rule: its letter, its right side, its place -/
structure Ru where
  L : Nat
  R : ByteArray
  A : Nat

def runEnd (t : ByteArray) : Nat → Nat → Nat
  | 0, i => i
  | f + 1, i => if i < t.size ∧ letB (ch t i) = true then runEnd t f (i + 1) else i

/-- the rules so far; the place where it ends; is it a grammar? -/
def parse (t : ByteArray) : Nat → Nat → List Ru → List Ru × Nat × Bool
  | 0, i, acc => (acc, i, false)
  | f + 1, i, acc =>
    if i < t.size ∧ bigB (ch t i) = true then
      if i + 1 < t.size ∧ ch t (i + 1) = 61 then
        if runEnd t 4 (i + 2) < t.size then
          if f = 0 ∨ ch t (runEnd t 4 (i + 2)) ≠ 59 then (acc ++ [⟨ch t i, t.extract (i + 2) (runEnd t 4 (i + 2)), i⟩], runEnd t 4 (i + 2), false)
          else parse t f (runEnd t 4 (i + 2) + 1) (acc ++ [⟨ch t i, t.extract (i + 2) (runEnd t 4 (i + 2)), i⟩])
        else (acc ++ [⟨ch t i, t.extract (i + 2) (runEnd t 4 (i + 2)), i⟩], runEnd t 4 (i + 2), true)
      else (acc, i + 1, false)
    else (acc, i, false)

theorem runEnd_bd (t : ByteArray) : ∀ f i, i ≤ runEnd t f i ∧ runEnd t f i ≤ i + f ∧ (i ≤ t.size → runEnd t f i ≤ t.size)
  | 0, i => by simp [runEnd]
  | f + 1, i => by
    unfold runEnd
    split
    · have := runEnd_bd t f (i + 1); omega
    · omega

theorem runEnd_let (t : ByteArray) : ∀ f i j, i ≤ j → j < runEnd t f i → letB (ch t j) = true
  | 0, i, j, h1, h2 => by simp [runEnd] at h2; omega
  | f + 1, i, j, h1, h2 => by
    unfold runEnd at h2
    split at h2
    · rename_i h
      by_cases e : i = j
      · subst e; exact h.2
      · exact runEnd_let t f (i + 1) j (by omega) h2
    · omega

theorem ch_extract (t : ByteArray) (a b j : Nat) (h : j < b - a) (hb : b ≤ t.size) : ch (t.extract a b) j = ch t (a + j) := by
  have hs : (t.extract a b).size = b - a := by simp; omega
  rw [ch_eq _ _ (by omega), ch_eq _ _ (by omega)]
  simp [ByteArray.getElem_extract]

theorem ret_bool {a b : Bool} (h : a = b) : Ending.returned (.bool a) = .returned (.bool b) := by rw [h]
theorem ret_int {k : IntKind} {a b : Int} (h : a = b) : Ending.returned (.int k a) = .returned (.int k b) := by rw [h]

end Go.Proofs.YtkglggkkbmmjkaaGreatDoor
