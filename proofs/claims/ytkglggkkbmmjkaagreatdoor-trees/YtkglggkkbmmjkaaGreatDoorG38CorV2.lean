import Derived.Test.YtkglggkkbmmjkaaGreatDoorG37PCalls4
import Derived.Test.YtkglggkkbmmjkaaGreatDoorG35CallV
namespace Go.Proofs.YtkglggkkbmmjkaaGreatDoor
open Go.RowKit

end Go.Proofs.YtkglggkkbmmjkaaGreatDoor

namespace Go.Proofs.YtkglggkkbmmjkaaGreatDoor
open Go.RowKit

/-! Cores, as a plain function. -/
def corF {α : Type} (eq : α → α → Bool) : List α → List α → List Nat → Nat → List Nat × Nat
  | [], _, l, n => (l, n)
  | s :: rest, prev, l, n => match prev.findIdx? (fun p => eq s p) with
    | some k => corF eq rest (prev ++ [s]) (l ++ [l.getD k 0]) n
    | none => corF eq rest (prev ++ [s]) (l ++ [n]) (n + 1)
theorem corF_snoc {α : Type} (eq : α → α → Bool) (x : α) : ∀ (S prev : List α) (l : List Nat) (n : Nat),
    corF eq (S ++ [x]) prev l n = match (prev ++ S).findIdx? (fun p => eq x p) with
      | some k => ((corF eq S prev l n).1 ++ [(corF eq S prev l n).1.getD k 0], (corF eq S prev l n).2)
      | none => ((corF eq S prev l n).1 ++ [(corF eq S prev l n).2], (corF eq S prev l n).2 + 1)
  | [], prev, l, n => by
    rw [List.nil_append, List.append_nil]
    show corF eq [x] prev l n = _
    rw [corF, corF]
    split <;> rfl
  | s :: S, prev, l, n => by
    rw [List.cons_append, corF, corF]
    split
    · rw [corF_snoc eq x S]; simp
    · rw [corF_snoc eq x S]; simp
def alk2 (a b : List It) : Bool := alikeL a b && alikeL b a
def corV (Ms : List (List It)) : List Nat × Nat := corF alk2 Ms [] [] 0

theorem alike_iff {A B : Nat → Bool} : alikeL (repL A) (repL B) = true ↔ ∀ q, q < 45 → (∃ k, k < 27 ∧ A (q * 27 + k) = true) → ∃ k, k < 27 ∧ B (q * 27 + k) = true := by
  unfold alikeL
  rw [List.all_eq_true]
  constructor
  · rintro h q hq ⟨k, hk, ha⟩
    have := h (itOf (q * 27 + k)) (itOf_mem.2 ⟨by omega, ha⟩)
    rw [List.any_eq_true] at this
    obtain ⟨y, hy, e⟩ := this
    obtain ⟨j, hj, hb, rfl⟩ := zbm.1 hy
    unfold likeI itOf at e
    simp only [Bool.and_eq_true, beq_iff_eq] at e
    exact ⟨j % 27, by omega, by rw [show q * 27 + j % 27 = j from by omega]; exact hb⟩
  · intro h x hx
    obtain ⟨j, hj, ha, rfl⟩ := zbm.1 hx
    obtain ⟨k, hk, hb⟩ := h (j / 27) (by omega) ⟨j % 27, by omega, by rw [show j / 27 * 27 + j % 27 = j from by omega]; exact ha⟩
    rw [List.any_eq_true]
    refine ⟨itOf (j / 27 * 27 + k), itOf_mem.2 ⟨by omega, hb⟩, ?_⟩
    unfold likeI itOf
    simp only [Bool.and_eq_true, beq_iff_eq]
    omega
theorem smC_eq (A B : Nat → Bool) : smC A B 45 = alk2 (repL B) (repL A) := by
  apply Bool.eq_iff_iff.2
  unfold alk2 smC
  rw [Bool.and_eq_true, alike_iff, alike_iff, List.all_eq_true]
  have key : ∀ (C : Nat → Bool) (q : Nat), (empB fun k => C (q * 27 + k)) = false ↔ ∃ k, k < 27 ∧ C (q * 27 + k) = true := fun C q => by
    constructor
    · exact fun h => empB_false h
    · rintro ⟨k, hk, h⟩
      cases e : empB fun k => C (q * 27 + k)
      · rfl
      · have := empB_true e k hk; rw [h] at this; cases this
  constructor
  · intro h
    refine ⟨fun q hq hk => ?_, fun q hq hk => ?_⟩
    · have := h q (List.mem_range.2 hq)
      rw [beq_iff_eq] at this
      rw [← key] at hk ⊢; rw [this]; exact hk
    · have := h q (List.mem_range.2 hq)
      rw [beq_iff_eq] at this
      rw [← key] at hk ⊢; rw [← this]; exact hk
  · rintro ⟨h1, h2⟩ q hq
    have hq := List.mem_range.1 hq
    rw [beq_iff_eq]
    cases ea : empB fun k => A (q * 27 + k)
    · exact ((key B q).2 (h2 q hq ((key A q).1 ea))).symm
    · cases eb : empB fun k => B (q * 27 + k)
      · have := (key A q).2 (h1 q hq ((key B q).1 eb)); rw [ea] at this; cases this
      · rfl

def CorOk (S : List Sd) (c : Nat) : Prop := corV (mOf S) = (S.map (·.core), c) ∧ ∀ s ∈ S, s.core < c
theorem CorOk.setTo {S : List Sd} {c : Nat} (h : CorOk S c) {n : Nat} (hn : n < S.length) (i : Nat) (x : Int) : CorOk (setTo S n i x) c := by
  have e : (Go.Proofs.YtkglggkkbmmjkaaGreatDoor.setTo S n i x).map (·.core) = S.map (·.core) := by
    unfold Go.Proofs.YtkglggkkbmmjkaaGreatDoor.setTo
    rw [List.map_set]
    apply List.ext_getElem (by simp)
    intro j h1 h2
    rw [List.getElem_set]
    split
    · rename_i e; subst e
      rw [List.getElem_map, sget_eq S n hn]
    · rfl
  refine ⟨by rw [mOf_setTo S n i x hn, e]; exact h.1, fun s hs => ?_⟩
  have : s.core ∈ S.map (·.core) := by rw [← e]; exact List.mem_map_of_mem hs
  obtain ⟨s', hs', e'⟩ := List.mem_map.1 this
  rw [← e']; exact h.2 s' hs'
theorem find_findIdx {α : Type} {p : α → Bool} : ∀ {l : List α} {k : Nat}, l.findIdx? p = some k → l.find? p = l[k]?
  | [], k, h => by simp at h
  | x :: l, k, h => by
    rw [List.findIdx?_cons] at h
    rw [List.find?_cons]
    cases hx : p x with
    | true =>
      rw [hx] at h
      obtain rfl : 0 = k := by simpa using h
      rfl
    | false =>
      rw [hx] at h
      simp only [Bool.false_eq_true, if_false, Option.map_eq_some_iff] at h
      obtain ⟨j, hj, rfl⟩ := h
      rw [find_findIdx hj]; rfl
set_option maxRecDepth 100000 in
theorem CorOk.new {S : List Sd} {c : Nat} (h : CorOk S c) (B : Nat → Bool) : CorOk (S ++ [sdN S B c]) (corN S B c) := by
  have hidx : (mOf S).findIdx? (fun p => alk2 (repL B) p) = S.findIdx? (fun s => smC s.A B 45) := by
    unfold mOf
    rw [List.findIdx?_map]
    congr 1
    funext s
    show alk2 (repL B) (repL s.A) = _
    rw [smC_eq]
  have hs := corF_snoc alk2 (repL B) (mOf S) [] [] 0
  rw [List.nil_append, hidx] at hs
  have h1 : corF alk2 (mOf S) [] [] 0 = (S.map (·.core), c) := h.1
  rw [h1] at hs
  unfold CorOk
  rw [mOf_new]
  unfold corV
  cases hf : S.findIdx? (fun s => smC s.A B 45) with
  | none =>
    rw [hf] at hs
    have hn : S.find? (fun s => smC s.A B 45) = none := by
      rw [List.find?_eq_none]; rw [List.findIdx?_eq_none_iff] at hf
      intro x hx; rw [hf x hx]; simp
    have hc : corM S B c = c := by unfold corM; rw [hn]
    have hN : corN S B c = c + 1 := by unfold corN; rw [if_pos hc]
    rw [hN]
    refine ⟨by rw [hs, List.map_append]; show (_, _) = (_, _); rw [show [sdN S B c].map (·.core) = [c] from by simp [sdN, hc]], fun s hs' => ?_⟩
    rcases List.mem_append.1 hs' with h' | h'
    · have := h.2 s h'; omega
    · rw [List.mem_singleton.1 h']; show corM S B c < c + 1; omega
  | some k =>
    rw [hf] at hs
    have hkl : k < S.length := by
      rw [List.findIdx?_eq_some_iff_getElem] at hf; exact hf.1
    have hn : S.find? (fun s => smC s.A B 45) = some S[k] := by rw [find_findIdx hf, List.getElem?_eq_getElem hkl]
    have hc : corM S B c = S[k].core := by unfold corM; rw [hn]
    have hlt : S[k].core < c := h.2 _ (List.getElem_mem hkl)
    have hN : corN S B c = c := by unfold corN; rw [if_neg (by omega)]
    rw [hN]
    refine ⟨by rw [hs, List.map_append]; show (_, _) = (_, _); rw [show [sdN S B c].map (·.core) = [(S.map (·.core)).getD k 0] from by simp [sdN, hc, hkl]], fun s hs' => ?_⟩
    rcases List.mem_append.1 hs' with h' | h'
    · exact h.2 s h'
    · rw [List.mem_singleton.1 h']; show corM S B c < c; omega
end Go.Proofs.YtkglggkkbmmjkaaGreatDoor

namespace Go.Proofs.YtkglggkkbmmjkaaGreatDoor
open Go.RowKit

def mixS (r : Tb) (cs : List Nat) (c : Int) (x m : Nat) : Bool := (List.range m).any fun j => ((cs.getD j 0 : Nat) : Int) == c && canS r j x
def mixR (L : List Ru) (r : Tb) (cs : List Nat) (c : Int) (x m k : Nat) : Bool := (List.range m).any fun j => ((cs.getD j 0 : Nat) : Int) == c && canR L r j x k
def mixT (L : List Ru) (r : Tb) (c : Int) (x : Nat) : ByteArray := wordsT (mixS r (corV r.1).1 c x r.1.length) (mixR L r (corV r.1).1 c x r.1.length)
def clsT (L : List Ru) (r : Tb) : Nat :=
  if anyC (fun k i => decide (1 < (actT L r k (sgn i)).size)) r.1.length then 0 else if anyC (fun k i => decide (1 < (mixT L r (k : Nat) (sgn i)).size)) (corV r.1).2 then 1 else 2
theorem any_congr' {m : Nat} {f g : Nat → Bool} (h : ∀ j, j < m → f j = g j) : (List.range m).any f = (List.range m).any g := by
  apply Bool.eq_iff_iff.2
  rw [List.any_eq_true, List.any_eq_true]
  constructor
  · rintro ⟨j, hj, e⟩; exact ⟨j, hj, by rw [← h j (List.mem_range.1 hj)]; exact e⟩
  · rintro ⟨j, hj, e⟩; exact ⟨j, hj, by rw [h j (List.mem_range.1 hj)]; exact e⟩
theorem canR_eq {t : ByteArray} {S : List Sd} {M : List (List (Nat × Nat))} (h : TIs t S M) {x : Nat} (hx : sigB x = true) {j : Nat} (hj : j < S.length) {k : Nat} (hk : k < 9) : ruS (plT t) (sget S j).A x k = canR (rul (zad t 8 0 []).1) (mOf S, M) j x k := by
  unfold canR
  dsimp only
  rw [repL_getD S j hj]
  exact putback_eq (h.ok.get hj) hx hk
theorem canS_eq {t : ByteArray} {S : List Sd} {M : List (List (Nat × Nat))} (h : TIs t S M) {x : Nat} {j : Nat} (hj : j < S.length) : (stepTo S j x != -1) = canS (mOf S, M) j x := stepB_eq h.tos hj x
theorem act_eq {t : ByteArray} {S : List Sd} {M : List (List (Nat × Nat))} (h : TIs t S M) {j : Nat} (hj : j < S.length) {x : Nat} (hx : sigB x = true) :
    (⟨(acL (stepTo S j x != -1) (ruS (plT t) (sget S j).A x) 9).toArray⟩ : ByteArray) = actT (rul (zad t 8 0 []).1) (mOf S, M) j x := by
  unfold actT wordsT
  rw [canS_eq h hj]
  congr 2
  exact acL_congr fun i hi => canR_eq h hx hj hi
theorem anyC_congr {m : Nat} {f g : Nat → Nat → Bool} (h : ∀ k, k < m → ∀ i, i < 27 → f k i = g k i) : anyC f m = anyC g m := any_congr' fun k hk => any_congr' fun i hi => h k hk i hi
theorem sigB_sgn' {i : Nat} (hi : i < 27) : sigB (sgn i) = true := by
  rw [sigB_iff]
  unfold sgn
  split <;> omega
end Go.Proofs.YtkglggkkbmmjkaaGreatDoor
