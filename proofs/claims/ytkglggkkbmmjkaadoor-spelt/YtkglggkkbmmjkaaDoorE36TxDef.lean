import Derived.Test.YtkglggkkbmmjkaaDoorE28LrM
import Derived.Test.YtkglggkkbmmjkaaDoorE35LrH
import Derived.Test.YtkglggkkbmmjkaaDoorE31LrHt
import Derived.Test.YtkglggkkbmmjkaaDoorE9LSp2
namespace Go.Proofs.YtkglggkkbmmjkaaDoor
open Go.RowKit

def seg (T : List Nat) (i j : Nat) : List Nat := (T.drop i).take (j - i)
theorem seg_nil (T : List Nat) (i : Nat) : seg T i i = [] := by unfold seg; simp
theorem seg_len {T : List Nat} {i j : Nat} (h : j ≤ T.length) : (seg T i j).length = j - i := by
  unfold seg; rw [List.length_take, List.length_drop]; omega
theorem seg_split {T : List Nat} {i k j : Nat} (h1 : i ≤ k) (h2 : k ≤ j) : seg T i k ++ seg T k j = seg T i j := by
  unfold seg
  rw [show j - i = (k - i) + (j - k) from by omega, List.take_add, List.drop_drop, show i + (k - i) = k from by omega]
theorem seg_end (T : List Nat) (i : Nat) : seg T i T.length = T.drop i := by
  unfold seg
  rw [List.take_of_length_le (by rw [List.length_drop]; exact Nat.le_refl _)]
theorem seg_drop {T : List Nat} {i k : Nat} (h1 : i ≤ k) (h2 : k ≤ T.length) : seg T i k ++ T.drop k = T.drop i := by
  rw [← seg_end T k, ← seg_end T i, seg_split h1 h2]
theorem seg_cons {T : List Nat} {i j : Nat} (h1 : i < j) (h2 : j ≤ T.length) : seg T i j = T.getD i 0 :: seg T (i + 1) j := by
  have hi : i < T.length := by omega
  unfold seg
  rw [List.drop_eq_getElem_cons hi, show j - i = (j - (i + 1)) + 1 from by omega, List.take_succ_cons, List.getD_eq_getElem?_getD, List.getElem?_eq_getElem hi]
  rfl
theorem seg_one {T : List Nat} {i : Nat} (h : i < T.length) : seg T i (i + 1) = [T.getD i 0] := by
  rw [seg_cons (Nat.lt_succ_self i) h, seg_nil]
theorem dropT_cons {T : List Nat} {i : Nat} (h : i < T.length) : T.drop i = T.getD i 0 :: T.drop (i + 1) := by
  rw [← seg_end T i, seg_cons h (Nat.le_refl _), seg_end]

def oneP (T : List Nat) (Is : Nat → Nat → Nat → Bool) (c i j : Nat) : Bool := if smallB c then decide (j = i + 1) && decide (T.getD i 0 = c) else Is c i j
def rowP (T : List Nat) (Is : Nat → Nat → Nat → Bool) : List Nat → Nat → Nat → Bool
  | [], i, j => decide (i = j)
  | c :: w, i, j => (List.range' i (j + 1 - i)).any fun k => oneP T Is c i k && rowP T Is w k j
def aheadP (T : List Nat) (Is : Nat → Nat → Nat → Bool) (Go : Nat → Nat → Bool) : List Nat → Nat → Bool
  | [], i => decide (i = T.length)
  | c :: w, i => decide (i = T.length) || (bigB c && Go c i) || (List.range' i (T.length + 1 - i)).any fun k => oneP T Is c i k && aheadP T Is Go w k
theorem any_range {i m : Nat} {f : Nat → Bool} : (List.range' i m).any f = true ↔ ∃ k, i ≤ k ∧ k < i + m ∧ f k = true := by
  rw [List.any_eq_true]
  constructor
  · rintro ⟨k, hk, h⟩
    rw [List.mem_range'_1] at hk
    exact ⟨k, hk.1, hk.2, h⟩
  · rintro ⟨k, h1, h2, h⟩
    exact ⟨k, by rw [List.mem_range'_1]; exact ⟨h1, h2⟩, h⟩
theorem rowP_cons {T : List Nat} {Is : Nat → Nat → Nat → Bool} {c : Nat} {w : List Nat} {i j : Nat} : rowP T Is (c :: w) i j = true ↔ ∃ k, i ≤ k ∧ k ≤ j ∧ oneP T Is c i k = true ∧ rowP T Is w k j = true := by
  rw [rowP, any_range]
  constructor
  · rintro ⟨k, h1, h2, h⟩
    rw [Bool.and_eq_true] at h
    exact ⟨k, h1, by omega, h.1, h.2⟩
  · rintro ⟨k, h1, h2, h3, h4⟩
    exact ⟨k, h1, by omega, by rw [h3, h4]; rfl⟩
theorem aheadP_cons {T : List Nat} {Is : Nat → Nat → Nat → Bool} {Go : Nat → Nat → Bool} {c : Nat} {w : List Nat} {i : Nat} : aheadP T Is Go (c :: w) i = true ↔ i = T.length ∨ (bigB c = true ∧ Go c i = true) ∨ ∃ k, i ≤ k ∧ k ≤ T.length ∧ oneP T Is c i k = true ∧ aheadP T Is Go w k = true := by
  rw [aheadP, Bool.or_eq_true, Bool.or_eq_true, any_range, Bool.and_eq_true, decide_eq_true_iff]
  constructor
  · rintro ((h | h) | ⟨k, h1, h2, h⟩)
    · exact Or.inl h
    · exact Or.inr (Or.inl h)
    · rw [Bool.and_eq_true] at h
      exact Or.inr (Or.inr ⟨k, h1, by omega, h.1, h.2⟩)
  · rintro (h | h | ⟨k, h1, h2, h3, h4⟩)
    · exact Or.inl (Or.inl h)
    · exact Or.inl (Or.inr h)
    · exact Or.inr ⟨k, h1, by omega, by rw [h3, h4]; rfl⟩

/-- what is told is so -/
structure PtSo (L : List Ru) (T : List Nat) (Is : Nat → Nat → Nat → Bool) (Go : Nat → Nat → Bool) : Prop where
  is : ∀ c i j, i ≤ j → j ≤ T.length → Is c i j = true → ∃ x m, Ds L [c] (seg T i j) x m
  go : ∀ c i, i ≤ T.length → Go c i = true → ∃ v x m, Ds L [c] (T.drop i ++ v) x m
/-- nothing is new -/
structure PtCl (L : List Ru) (T : List Nat) (Is : Nat → Nat → Nat → Bool) (Go : Nat → Nat → Bool) : Prop where
  is : ∀ k, 1 ≤ k → k < L.length → ∀ i j, i ≤ j → j ≤ T.length → rowP T Is (bytes (rget L k).R) i j = true → Is (rget L k).L i j = true
  go : ∀ k, 1 ≤ k → k < L.length → ∀ i, i ≤ T.length → aheadP T Is Go (bytes (rget L k).R) i = true → Go (rget L k).L i = true
theorem PtSo.one {L : List Ru} {T : List Nat} {Is : Nat → Nat → Nat → Bool} {Go : Nat → Nat → Bool} (h : PtSo L T Is Go) {c i j : Nat} (hij : i ≤ j) (hj : j ≤ T.length) (ho : oneP T Is c i j = true) : ∃ x m, Ds L [c] (seg T i j) x m := by
  unfold oneP at ho
  split at ho
  · rename_i hc
    rw [Bool.and_eq_true, decide_eq_true_iff, decide_eq_true_iff] at ho
    obtain ⟨rfl, e⟩ := ho
    rw [seg_one (by omega), e]
    exact ⟨_, _, Ds.small hc Ds.nil⟩
  · exact h.is c i j hij hj ho
theorem PtSo.row {L : List Ru} {T : List Nat} {Is : Nat → Nat → Nat → Bool} {Go : Nat → Nat → Bool} (h : PtSo L T Is Go) : ∀ (w : List Nat) {i j : Nat}, i ≤ j → j ≤ T.length → rowP T Is w i j = true → ∃ x m, Ds L w (seg T i j) x m
  | [], i, j, _, _, hr => by
    have e : i = j := by rw [rowP, decide_eq_true_iff] at hr; exact hr
    subst e
    rw [seg_nil]
    exact ⟨_, _, Ds.nil⟩
  | c :: w, i, j, hij, hj, hr => by
    obtain ⟨k, h1, h2, h3, h4⟩ := rowP_cons.1 hr
    obtain ⟨x1, m1, d1⟩ := h.one h1 (by omega) h3
    obtain ⟨x2, m2, d2⟩ := PtSo.row h w h2 hj h4
    rw [← seg_split h1 h2]
    exact ⟨_, _, d1.app d2⟩
theorem PtSo.ahead {L : List Ru} {T : List Nat} {Is : Nat → Nat → Nat → Bool} {Go : Nat → Nat → Bool} (h : PtSo L T Is Go) : ∀ (w : List Nat) {i : Nat}, (∀ c ∈ w, ∃ v x m, Ds L [c] v x m) → i ≤ T.length → aheadP T Is Go w i = true → ∃ v x m, Ds L w (T.drop i ++ v) x m
  | [], i, _, hi, hr => by
    have e : i = T.length := by rw [aheadP, decide_eq_true_iff] at hr; exact hr
    subst e
    rw [List.drop_eq_nil_of_le (Nat.le_refl _)]
    exact ⟨[], _, _, Ds.nil⟩
  | c :: w, i, hs, hi, hr => by
    have hw : ∃ v x m, Ds L w v x m := by
      clear hr
      induction w with
      | nil => exact ⟨_, _, _, Ds.nil⟩
      | cons d w ih =>
        obtain ⟨v1, x1, m1, d1⟩ := hs d (by simp)
        obtain ⟨v2, x2, m2, d2⟩ := ih (fun c' hc' => by
          rcases List.mem_cons.1 hc' with rfl | hc'
          · exact hs _ (List.mem_cons_self ..)
          · exact hs c' (List.mem_cons_of_mem _ (List.mem_cons_of_mem _ hc')))
        exact ⟨_, _, _, d1.app d2⟩
    obtain ⟨v2, x2, m2, d2⟩ := hw
    rcases aheadP_cons.1 hr with e | ⟨_, hg⟩ | ⟨k, h1, h2, h3, h4⟩
    · subst e
      obtain ⟨v1, x1, m1, d1⟩ := hs c (List.mem_cons_self ..)
      rw [List.drop_eq_nil_of_le (Nat.le_refl _)]
      exact ⟨v1 ++ v2, _, _, d1.app d2⟩
    · obtain ⟨v1, x1, m1, d1⟩ := h.go c i hi hg
      exact ⟨v1 ++ v2, x1 ++ x2, m1 + m2, by rw [← List.append_assoc]; exact d1.app d2⟩
    · obtain ⟨x1, m1, d1⟩ := h.one h1 h2 h3
      obtain ⟨v3, x3, m3, d3⟩ := PtSo.ahead h w (fun c' hc' => hs c' (List.mem_cons_of_mem _ hc')) h2 h4
      refine ⟨v3, x1 ++ x3, m1 + m3, ?_⟩
      rw [← seg_drop h1 h2, List.append_assoc]
      exact d1.app d3
theorem oneP_small {T : List Nat} {Is : Nat → Nat → Nat → Bool} {c i : Nat} (hc : smallB c = true) (h : T.getD i 0 = c) : oneP T Is c i (i + 1) = true := by
  unfold oneP
  rw [if_pos hc, h]; simp
theorem oneP_big {T : List Nat} {Is : Nat → Nat → Nat → Bool} {c i j : Nat} (hc : bigB c = true) (h : Is c i j = true) : oneP T Is c i j = true := by
  unfold oneP
  rw [if_neg (by rw [big_notsmall hc]; simp), h]
theorem PtCl.row {L : List Ru} {T : List Nat} {Is : Nat → Nat → Nat → Bool} {Go : Nat → Nat → Bool} (h : PtCl L T Is Go) (hb : ∀ k, 1 ≤ k → k < L.length → bigB (rget L k).L = true) {l w x : List Nat} {m : Nat} (hd : Ds L l w x m) : ∀ {i j : Nat}, i ≤ j → j ≤ T.length → w = seg T i j → rowP T Is l i j = true := by
  induction hd with
  | nil =>
    intro i j h1 h2 e
    have := seg_len (T := T) (i := i) h2
    rw [← e] at this
    rw [rowP, decide_eq_true_iff]
    simp at this; omega
  | @small c l w x n hc _ ih =>
    intro i j h1 h2 e
    have hl := seg_len (T := T) (i := i) h2
    rw [← e, List.length_cons] at hl
    rw [seg_cons (by omega) h2] at e
    obtain ⟨e1, e2⟩ := List.cons.inj e
    exact rowP_cons.2 ⟨i + 1, by omega, by omega, oneP_small hc e1.symm, ih (by omega) h2 e2⟩
  | @big k l w1 w2 x1 x2 n1 n2 k1 k2 _ _ ih1 ih2 =>
    intro i j h1 h2 e
    have hl := seg_len (T := T) (i := i) h2
    rw [← e, List.length_append] at hl
    rw [← seg_split (k := i + w1.length) (by omega) (by omega)] at e
    obtain ⟨e1, e2⟩ := List.append_inj e (by rw [seg_len (by omega)]; omega)
    exact rowP_cons.2 ⟨i + w1.length, by omega, by omega, oneP_big (hb k k1 k2) (h.is k k1 k2 _ _ (by omega) (by omega) (ih1 (by omega) (by omega) e1)), ih2 (by omega) h2 e2⟩
theorem PtCl.ahead {L : List Ru} {T : List Nat} {Is : Nat → Nat → Nat → Bool} {Go : Nat → Nat → Bool} (h : PtCl L T Is Go) (hb : ∀ k, 1 ≤ k → k < L.length → bigB (rget L k).L = true) {l w x : List Nat} {m : Nat} (hd : Ds L l w x m) : ∀ {i : Nat} {v : List Nat}, i ≤ T.length → w = T.drop i ++ v → aheadP T Is Go l i = true := by
  induction hd with
  | nil =>
    intro i v h1 e
    obtain ⟨e1, _⟩ := List.append_eq_nil_iff.1 e.symm
    have := congrArg List.length e1
    rw [List.length_drop, List.length_nil] at this
    rw [aheadP, decide_eq_true_iff]; omega
  | @small c l w x n hc _ ih =>
    intro i v h1 e
    by_cases hi : i = T.length
    · exact aheadP_cons.2 (Or.inl hi)
    · rw [dropT_cons (by omega), List.cons_append] at e
      obtain ⟨e1, e2⟩ := List.cons.inj e
      exact aheadP_cons.2 (Or.inr (Or.inr ⟨i + 1, by omega, by omega, oneP_small hc e1.symm, ih (by omega) e2⟩))
  | @big k l w1 w2 x1 x2 n1 n2 k1 k2 hd1 _ ih1 ih2 =>
    intro i v h1 e
    by_cases hi : i = T.length
    · exact aheadP_cons.2 (Or.inl hi)
    · by_cases hw : T.length - i ≤ w1.length
      · -- the rest lies within the first
        have hle : (T.drop i).length ≤ w1.length := by rw [List.length_drop]; exact hw
        have e1 : w1 = T.drop i ++ w1.drop (T.drop i).length := by
          have h3 : w1.take (T.drop i).length = T.drop i := by
            have := congrArg (List.take (T.drop i).length) e
            rw [List.take_append_of_le_length hle, List.take_left] at this
            exact this
          rw [← h3, List.length_take, Nat.min_eq_left hle, h3]
          conv => lhs; rw [← List.take_append_drop (T.drop i).length w1]
          rw [h3]
        exact aheadP_cons.2 (Or.inr (Or.inl ⟨hb k k1 k2, h.go k k1 k2 i h1 (ih1 h1 e1)⟩))
      · rw [← seg_drop (k := i + w1.length) (by omega) (by omega), List.append_assoc] at e
        obtain ⟨e1, e2⟩ := List.append_inj e (by rw [seg_len (by omega)]; omega)
        exact aheadP_cons.2 (Or.inr (Or.inr ⟨i + w1.length, by omega, by omega, oneP_big (hb k k1 k2) (h.is k k1 k2 _ _ (by omega) (by omega) (h.row hb hd1 (by omega) (by omega) e1)), ih2 (by omega) e2⟩))
end Go.Proofs.YtkglggkkbmmjkaaDoor

namespace Go.Proofs.YtkglggkkbmmjkaaDoor
open Go.RowKit

def bstr (x : List Nat) : ByteArray := ⟨(x.map UInt8.ofNat).toArray⟩
theorem bstr_app (x y : List Nat) : bstr (x ++ y) = bstr x ++ bstr y := by
  unfold bstr
  apply ByteArray.ext
  simp [ByteArray.data_append]
theorem bstr_size (x : List Nat) : (bstr x).size = x.length := by
  unfold bstr
  show (x.map UInt8.ofNat).toArray.size = _
  simp
/-- the errors of Stop, by the table -/
noncomputable def errT (t s : ByteArray) : Nat := if 12 < s.size then 1 else match tabR t with
  | .inl x => x
  | .inr r => if clsT (rul (parse t 8 0 []).1) r = 0 then 8 else if (bytes s).all smallB then 0 else 5
def GoodW (L : List Ru) (S : Nat) (v : List Nat) : Prop := ∃ z x n, Ds L [S] (v ++ z) x n
theorem good_iff {L : List Ru} {S : Nat} {v : List Nat} (hv : ∀ c ∈ v, smallB c = true) : Good L S v ↔ GoodW L S v := by
  constructor
  · rintro ⟨z, w, x, n, hd, e⟩
    rcases List.append_eq_append_iff.1 e with ⟨ys, e1, e2⟩ | ⟨zs, e1, e2⟩
    · exact ⟨ys, x, n, by rw [← e1]; exact hd⟩
    · cases zs with
      | nil => rw [List.append_nil] at e1; exact ⟨[], x, n, by rw [e1, List.append_nil]; exact hd⟩
      | cons b zs =>
        rw [List.cons_append] at e2
        have : b = 36 := (List.cons.inj e2).1.symm
        have h2 := hv b (by rw [e1]; simp)
        rw [this] at h2; cases h2
  · rintro ⟨z, x, n, hd⟩
    exact ⟨z ++ [36], v ++ z, x, n, hd, by simp⟩
theorem GoodW.take {L : List Ru} {S : Nat} {v : List Nat} {p q : Nat} (h : GoodW L S (v.take q)) (hpq : p ≤ q) : GoodW L S (v.take p) := by
  obtain ⟨z, x, n, hd⟩ := h
  have e : v.take q = v.take p ++ (v.take q).drop p := by
    have := List.take_append_drop p (v.take q)
    rw [List.take_take, Nat.min_eq_left hpq] at this
    exact this.symm
  exact ⟨(v.take q).drop p ++ z, x, n, by rw [← List.append_assoc, ← e]; exact hd⟩
/-- Tree's answer -/
def TreeO (t s y : ByteArray) (x : Nat) : Prop :=
  (errT t s ≠ 0 ∧ x = errT t s ∧ y = ⟨#[]⟩) ∨
  (errT t s = 0 ∧ ((x = 9 ∧ y = ⟨#[]⟩ ∧ ¬ ∃ x' n, Ds (rul (parse t 8 0 []).1) [stOf (parse t 8 0 []).1] (bytes s) x' n) ∨
    (x = 0 ∧ ∃ x' n, Ds (rul (parse t 8 0 []).1) [stOf (parse t 8 0 []).1] (bytes s) x' n ∧ y = bstr x')))
/-- Stop's answer -/
def StopO (t s : ByteArray) (p : Nat) (y : ByteArray) (x : Nat) : Prop :=
  (errT t s ≠ 0 ∧ x = errT t s ∧ p = 0 ∧ y = ⟨#[]⟩) ∨
  (errT t s = 0 ∧ x = 0 ∧ p ≤ s.size ∧ GoodW (rul (parse t 8 0 []).1) (stOf (parse t 8 0 []).1) ((bytes s).take p) ∧
    (p < s.size → ¬ GoodW (rul (parse t 8 0 []).1) (stOf (parse t 8 0 []).1) ((bytes s).take (p + 1))) ∧
    ∃ b : Nat → Bool, (b 36 = true ↔ ∃ x' n, Ds (rul (parse t 8 0 []).1) [stOf (parse t 8 0 []).1] ((bytes s).take p) x' n) ∧
      (∀ a, smallB a = true → (b a = true ↔ GoodW (rul (parse t 8 0 []).1) (stOf (parse t 8 0 []).1) ((bytes s).take p ++ [a]))) ∧ y = lst b)
/-- where there is no error -/
theorem errT_ok {t s : ByteArray} (h : errT t s = 0) : ∃ r, tabR t = .inr r ∧ clsT (rul (parse t 8 0 []).1) r ≠ 0 ∧ s.size ≤ 12 ∧ ∀ c ∈ bytes s, smallB c = true := by
  unfold errT at h
  split at h
  · cases h
  · rename_i hs
    split at h
    · rename_i x hx
      subst h
      exfalso
      unfold tabR at hx
      split at hx
      · rename_i h0
        exact h0 (Sum.inl.inj hx)
      · split at hx
        · have := Sum.inl.inj hx; omega
        · cases hx
    · rename_i r hr
      split at h
      · cases h
      · rename_i hc
        split at h
        · rename_i ha
          exact ⟨r, hr, hc, by omega, fun c hc => List.all_eq_true.1 ha c hc⟩
        · cases h
theorem tabR_40 {t : ByteArray} {r : Tb} (h : tabR t = .inr r) : r.1.length ≤ 40 := by
  obtain ⟨_, hm⟩ := tabR_len h
  have row : ∀ (st : Nat → List It) (cs : List Nat) (S : List (List It)) (m : List (Nat × Nat)) (S' : List (List It)) (m' : List (Nat × Nat)), S.length ≤ 40 → rowM st cs S m = some (S', m') → S'.length ≤ 40 := by
    intro st cs
    induction cs with
    | nil => intro S m S' m' h1 h2; rw [rowM] at h2; cases h2; exact h1
    | cons c cs ih =>
      intro S m S' m' h1 h2
      rw [rowM] at h2
      split at h2
      · exact ih _ _ _ _ h1 h2
      · split at h2
        · cases h2
        · exact ih _ _ _ _ (by omega) h2
  have tab : ∀ (f i : Nat) (S : List (List It)) (M : List (List (Nat × Nat))) (S' : List (List It)) (M' : List (List (Nat × Nat))), S.length ≤ 40 → tabM (rul (parse t 8 0 []).1) (nullS (parse t 8 0 []).1) (firstT (parse t 8 0 []).1) f i S M = some (S', M') → S'.length ≤ 40 := by
    intro f
    induction f with
    | zero => intro i S M S' M' h1 h2; rw [tabM] at h2; cases h2; exact h1
    | succ f ih =>
      intro i S M S' M' h1 h2
      rw [tabM] at h2
      split at h2
      · split at h2
        · cases h2
        · rename_i hr
          exact ih _ _ _ _ _ (row _ _ _ _ _ _ h1 hr) h2
      · cases h2; exact h1
  exact tab 41 0 _ _ r.1 r.2 (by simp) hm
theorem errT_rd {t s : ByteArray} (h : errT t s = 0) : ∃ r, tabR t = .inr r ∧ Rd (rul (parse t 8 0 []).1) (nullS (parse t 8 0 []).1) (firstT (parse t 8 0 []).1) r (stOf (parse t 8 0 []).1) 1048576 ∧ s.size ≤ 12 ∧ ∀ c ∈ bytes s, smallB c = true := by
  obtain ⟨r, h1, h2, h3, h4⟩ := errT_ok h
  exact ⟨r, h1, rd_of h1 (tabR_40 h1) h2, h3, h4⟩
theorem TreeO.uniq {t s y y' : ByteArray} {x x' : Nat} (h : TreeO t s y x) (h' : TreeO t s y' x') : y = y' ∧ x = x' := by
  rcases h with ⟨h1, rfl, rfl⟩ | ⟨h0, h⟩
  · rcases h' with ⟨_, rfl, rfl⟩ | ⟨h0', _⟩
    · exact ⟨rfl, rfl⟩
    · exact absurd h0' h1
  · rcases h' with ⟨h1', _⟩ | ⟨_, h'⟩
    · exact absurd h0 h1'
    · obtain ⟨r, _, hR, _, _⟩ := errT_rd h0
      rcases h with ⟨rfl, rfl, hn⟩ | ⟨rfl, z, n, hd, rfl⟩
      · rcases h' with ⟨rfl, rfl, _⟩ | ⟨_, z', n', hd', _⟩
        · exact ⟨rfl, rfl⟩
        · exact absurd ⟨z', n', hd'⟩ hn
      · rcases h' with ⟨_, _, hn⟩ | ⟨rfl, z', n', hd', rfl⟩
        · exact absurd ⟨z, n, hd⟩ hn
        · rw [(ds_uniq hR.tab hR.nocl hR.st0 hd hd').1]; exact ⟨rfl, rfl⟩
theorem lst_same {b b' : Nat → Bool} (h0 : b 36 = b' 36) (h : ∀ a, smallB a = true → b a = b' a) : lst b = lst b' := by
  unfold lst lstU
  rw [h0, show (List.range 26).filter (fun j => b (97 + j)) = (List.range 26).filter (fun j => b' (97 + j)) from List.filter_congr fun j hj => h _ (smallB_iff.2 (by have := List.mem_range.1 hj; omega))]
theorem bool_eq {a b : Bool} (h : a = true ↔ b = true) : a = b := Bool.eq_iff_iff.2 h
theorem StopO.uniq {t s y y' : ByteArray} {p p' x x' : Nat} (h : StopO t s p y x) (h' : StopO t s p' y' x') : p = p' ∧ y = y' ∧ x = x' := by
  rcases h with ⟨h1, rfl, rfl, rfl⟩ | ⟨h0, rfl, hp, hg, hn, b, b0, ba, rfl⟩
  · rcases h' with ⟨_, rfl, rfl, rfl⟩ | ⟨h0', _⟩
    · exact ⟨rfl, rfl, rfl⟩
    · exact absurd h0' h1
  · rcases h' with ⟨h1', _⟩ | ⟨_, rfl, hp', hg', hn', b', b0', ba', rfl⟩
    · exact absurd h0 h1'
    · have e : p = p' := by
        rcases Nat.lt_trichotomy p p' with h | h | h
        · exact absurd (hg'.take (by omega)) (hn (by omega))
        · exact h
        · exact absurd (hg.take (by omega)) (hn' (by omega))
      subst e
      refine ⟨rfl, lst_same (bool_eq (b0.trans b0'.symm)) (fun a ha => bool_eq ((ba a ha).trans (ba' a ha).symm)), rfl⟩
end Go.Proofs.YtkglggkkbmmjkaaDoor
