import Derived.Test.YtkglggkkbmmjkaaDoorH36PtMath
import Derived.Test.YtkglggkkbmmjkaaDoorH10RPut
namespace Go.Proofs.YtkglggkkbmmjkaaDoor
open Go.RowKit

def bstr (x : List Nat) : ByteArray := ⟨(x.map UInt8.ofNat).toArray⟩
theorem bstr_app (x y : List Nat) : bstr (x ++ y) = bstr x ++ bstr y := by
  unfold bstr
  apply ByteArray.ext
  simp [ByteArray.data_append]
theorem bstr_size (x : List Nat) : (bstr x).size = x.length := by
  unfold bstr
  show (x.map UInt8.ofNat).toArray.size = _
  simp
/-- the errors of Stop, by the table -/
noncomputable def errT (t s : ByteArray) : Nat := if 12 < s.size then 1 else match tabR t with
  | .inl x => x
  | .inr r => if clsT (rul (parse t 8 0 []).1) r = 0 then 8 else if (bytes s).all smallB then 0 else 5
def GoodW (L : List Ru) (S : Nat) (v : List Nat) : Prop := ∃ z x n, Ds L [S] (v ++ z) x n
theorem good_iff {L : List Ru} {S : Nat} {v : List Nat} (hv : ∀ c ∈ v, smallB c = true) : Good L S v ↔ GoodW L S v := by
  constructor
  · rintro ⟨z, w, x, n, hd, e⟩
    rcases List.append_eq_append_iff.1 e with ⟨ys, e1, e2⟩ | ⟨zs, e1, e2⟩
    · exact ⟨ys, x, n, by rw [← e1]; exact hd⟩
    · cases zs with
      | nil => rw [List.append_nil] at e1; exact ⟨[], x, n, by rw [e1, List.append_nil]; exact hd⟩
      | cons b zs =>
        rw [List.cons_append] at e2
        have : b = 36 := (List.cons.inj e2).1.symm
        have h2 := hv b (by rw [e1]; simp)
        rw [this] at h2; cases h2
  · rintro ⟨z, x, n, hd⟩
    exact ⟨z ++ [36], v ++ z, x, n, hd, by simp⟩
theorem GoodW.take {L : List Ru} {S : Nat} {v : List Nat} {p q : Nat} (h : GoodW L S (v.take q)) (hpq : p ≤ q) : GoodW L S (v.take p) := by
  obtain ⟨z, x, n, hd⟩ := h
  have e : v.take q = v.take p ++ (v.take q).drop p := by
    have := List.take_append_drop p (v.take q)
    rw [List.take_take, Nat.min_eq_left hpq] at this
    exact this.symm
  exact ⟨(v.take q).drop p ++ z, x, n, by rw [← List.append_assoc, ← e]; exact hd⟩
/-- Tree's answer -/
def TreeO (t s y : ByteArray) (x : Nat) : Prop :=
  (errT t s ≠ 0 ∧ x = errT t s ∧ y = ⟨#[]⟩) ∨
  (errT t s = 0 ∧ ((x = 9 ∧ y = ⟨#[]⟩ ∧ ¬ ∃ x' n, Ds (rul (parse t 8 0 []).1) [stOf (parse t 8 0 []).1] (bytes s) x' n) ∨
    (x = 0 ∧ ∃ x' n, Ds (rul (parse t 8 0 []).1) [stOf (parse t 8 0 []).1] (bytes s) x' n ∧ y = bstr x')))
/-- Stop's answer -/
def StopO (t s : ByteArray) (p : Nat) (y : ByteArray) (x : Nat) : Prop :=
  (errT t s ≠ 0 ∧ x = errT t s ∧ p = 0 ∧ y = ⟨#[]⟩) ∨
  (errT t s = 0 ∧ x = 0 ∧ p ≤ s.size ∧ GoodW (rul (parse t 8 0 []).1) (stOf (parse t 8 0 []).1) ((bytes s).take p) ∧
    (p < s.size → ¬ GoodW (rul (parse t 8 0 []).1) (stOf (parse t 8 0 []).1) ((bytes s).take (p + 1))) ∧
    ∃ b : Nat → Bool, (b 36 = true ↔ ∃ x' n, Ds (rul (parse t 8 0 []).1) [stOf (parse t 8 0 []).1] ((bytes s).take p) x' n) ∧
      (∀ a, smallB a = true → (b a = true ↔ GoodW (rul (parse t 8 0 []).1) (stOf (parse t 8 0 []).1) ((bytes s).take p ++ [a]))) ∧ y = lst b)
/-- where there is no error -/
theorem errT_ok {t s : ByteArray} (h : errT t s = 0) : ∃ r, tabR t = .inr r ∧ clsT (rul (parse t 8 0 []).1) r ≠ 0 ∧ s.size ≤ 12 ∧ ∀ c ∈ bytes s, smallB c = true := by
  unfold errT at h
  split at h
  · cases h
  · rename_i hs
    split at h
    · rename_i x hx
      subst h
      exfalso
      unfold tabR at hx
      split at hx
      · rename_i h0
        exact h0 (Sum.inl.inj hx)
      · split at hx
        · have := Sum.inl.inj hx; omega
        · cases hx
    · rename_i r hr
      split at h
      · cases h
      · rename_i hc
        split at h
        · rename_i ha
          exact ⟨r, hr, hc, by omega, fun c hc => List.all_eq_true.1 ha c hc⟩
        · cases h
theorem tabR_40 {t : ByteArray} {r : Tb} (h : tabR t = .inr r) : r.1.length ≤ 40 := by
  obtain ⟨_, hm⟩ := tabR_len h
  have row : ∀ (st : Nat → List It) (cs : List Nat) (S : List (List It)) (m : List (Nat × Nat)) (S' : List (List It)) (m' : List (Nat × Nat)), S.length ≤ 40 → rowM st cs S m = some (S', m') → S'.length ≤ 40 := by
    intro st cs
    induction cs with
    | nil => intro S m S' m' h1 h2; rw [rowM] at h2; cases h2; exact h1
    | cons c cs ih =>
      intro S m S' m' h1 h2
      rw [rowM] at h2
      split at h2
      · exact ih _ _ _ _ h1 h2
      · split at h2
        · cases h2
        · exact ih _ _ _ _ (by omega) h2
  have tab : ∀ (f i : Nat) (S : List (List It)) (M : List (List (Nat × Nat))) (S' : List (List It)) (M' : List (List (Nat × Nat))), S.length ≤ 40 → tabM (rul (parse t 8 0 []).1) (nullS (parse t 8 0 []).1) (firstT (parse t 8 0 []).1) f i S M = some (S', M') → S'.length ≤ 40 := by
    intro f
    induction f with
    | zero => intro i S M S' M' h1 h2; rw [tabM] at h2; cases h2; exact h1
    | succ f ih =>
      intro i S M S' M' h1 h2
      rw [tabM] at h2
      split at h2
      · split at h2
        · cases h2
        · rename_i hr
          exact ih _ _ _ _ _ (row _ _ _ _ _ _ h1 hr) h2
      · cases h2; exact h1
  exact tab 41 0 _ _ r.1 r.2 (by simp) hm
theorem errT_rd {t s : ByteArray} (h : errT t s = 0) : ∃ r, tabR t = .inr r ∧ Rd (rul (parse t 8 0 []).1) (nullS (parse t 8 0 []).1) (firstT (parse t 8 0 []).1) r (stOf (parse t 8 0 []).1) 1048576 ∧ s.size ≤ 12 ∧ ∀ c ∈ bytes s, smallB c = true := by
  obtain ⟨r, h1, h2, h3, h4⟩ := errT_ok h
  exact ⟨r, h1, rd_of h1 (tabR_40 h1) h2, h3, h4⟩
theorem TreeO.uniq {t s y y' : ByteArray} {x x' : Nat} (h : TreeO t s y x) (h' : TreeO t s y' x') : y = y' ∧ x = x' := by
  rcases h with ⟨h1, rfl, rfl⟩ | ⟨h0, h⟩
  · rcases h' with ⟨_, rfl, rfl⟩ | ⟨h0', _⟩
    · exact ⟨rfl, rfl⟩
    · exact absurd h0' h1
  · rcases h' with ⟨h1', _⟩ | ⟨_, h'⟩
    · exact absurd h0 h1'
    · obtain ⟨r, _, hR, _, _⟩ := errT_rd h0
      rcases h with ⟨rfl, rfl, hn⟩ | ⟨rfl, z, n, hd, rfl⟩
      · rcases h' with ⟨rfl, rfl, _⟩ | ⟨_, z', n', hd', _⟩
        · exact ⟨rfl, rfl⟩
        · exact absurd ⟨z', n', hd'⟩ hn
      · rcases h' with ⟨_, _, hn⟩ | ⟨rfl, z', n', hd', rfl⟩
        · exact absurd ⟨z, n, hd⟩ hn
        · rw [(ds_uniq hR.tab hR.nocl hR.st0 hd hd').1]; exact ⟨rfl, rfl⟩
theorem lst_same {b b' : Nat → Bool} (h0 : b 36 = b' 36) (h : ∀ a, smallB a = true → b a = b' a) : lst b = lst b' := by
  unfold lst lstU
  rw [h0, show (List.range 26).filter (fun j => b (97 + j)) = (List.range 26).filter (fun j => b' (97 + j)) from List.filter_congr fun j hj => h _ (smallB_iff.2 (by have := List.mem_range.1 hj; omega))]
theorem bool_eq {a b : Bool} (h : a = true ↔ b = true) : a = b := Bool.eq_iff_iff.2 h
theorem StopO.uniq {t s y y' : ByteArray} {p p' x x' : Nat} (h : StopO t s p y x) (h' : StopO t s p' y' x') : p = p' ∧ y = y' ∧ x = x' := by
  rcases h with ⟨h1, rfl, rfl, rfl⟩ | ⟨h0, rfl, hp, hg, hn, b, b0, ba, rfl⟩
  · rcases h' with ⟨_, rfl, rfl, rfl⟩ | ⟨h0', _⟩
    · exact ⟨rfl, rfl, rfl⟩
    · exact absurd h0' h1
  · rcases h' with ⟨h1', _⟩ | ⟨_, rfl, hp', hg', hn', b', b0', ba', rfl⟩
    · exact absurd h0 h1'
    · have e : p = p' := by
        rcases Nat.lt_trichotomy p p' with h | h | h
        · exact absurd (hg'.take (by omega)) (hn (by omega))
        · exact h
        · exact absurd (hg.take (by omega)) (hn' (by omega))
      subst e
      refine ⟨rfl, lst_same (bool_eq (b0.trans b0'.symm)) (fun a ha => bool_eq ((ba a ha).trans (ba' a ha).symm)), rfl⟩
end Go.Proofs.YtkglggkkbmmjkaaDoor
