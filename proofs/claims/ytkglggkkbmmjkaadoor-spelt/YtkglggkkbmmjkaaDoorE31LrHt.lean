import Derived.Test.YtkglggkkbmmjkaaDoorE30LrP
namespace Go.Proofs.YtkglggkkbmmjkaaDoor
open Go.RowKit

def sumU (f : Nat → Nat) (U : Nat → Bool) : Nat → Nat
  | 0 => 0
  | n + 1 => sumU f U n + if U (n + 1) then f (n + 1) else 0
def prdU (f : Nat → Nat) (U : Nat → Bool) : Nat → Nat
  | 0 => 1
  | n + 1 => prdU f U n * if U (n + 1) then f (n + 1) else 1
theorem sumU_all (f : Nat → Nat) (U : Nat → Bool) : ∀ n, sumU f U n ≤ sumU f (fun _ => true) n
  | 0 => Nat.le_refl _
  | n + 1 => by
    have := sumU_all f U n
    rw [sumU, sumU]
    cases U (n + 1)
    · simp; omega
    · simp; omega
theorem sumU_same {f : Nat → Nat} {U V : Nat → Bool} : ∀ n, (∀ i, 1 ≤ i → i ≤ n → U i = V i) → sumU f U n = sumU f V n
  | 0, _ => rfl
  | n + 1, h => by rw [sumU, sumU, sumU_same n (fun i h1 h2 => h i h1 (by omega)), h (n + 1) (by omega) (Nat.le_refl _)]
theorem prdU_same {f : Nat → Nat} {U V : Nat → Bool} : ∀ n, (∀ i, 1 ≤ i → i ≤ n → U i = V i) → prdU f U n = prdU f V n
  | 0, _ => rfl
  | n + 1, h => by rw [prdU, prdU, prdU_same n (fun i h1 h2 => h i h1 (by omega)), h (n + 1) (by omega) (Nat.le_refl _)]
theorem sumU_add {f : Nat → Nat} {U : Nat → Bool} {k : Nat} (hk : U k = false) (h1 : 1 ≤ k) : ∀ n, k ≤ n → sumU f (fun i => U i || i == k) n = sumU f U n + f k
  | 0, h => by omega
  | n + 1, h => by
    rw [sumU, sumU]
    by_cases e : k = n + 1
    · subst e
      rw [sumU_same (U := fun i => U i || i == n + 1) (V := U) n (fun i _ hi => by rw [show (i == n + 1) = false from by simp; omega]; simp), hk]
      simp
    · rw [sumU_add hk h1 n (by omega), show (n + 1 == k) = false from by simp; omega]
      simp; omega
theorem prdU_add {f : Nat → Nat} {U : Nat → Bool} {k : Nat} (hk : U k = false) (h1 : 1 ≤ k) : ∀ n, k ≤ n → prdU f (fun i => U i || i == k) n = prdU f U n * f k
  | 0, h => by omega
  | n + 1, h => by
    rw [prdU, prdU]
    by_cases e : k = n + 1
    · subst e
      rw [prdU_same (U := fun i => U i || i == n + 1) (V := U) n (fun i _ hi => by rw [show (i == n + 1) = false from by simp; omega]; simp), hk]
      simp
    · rw [prdU_add hk h1 n (by omega), show (n + 1 == k) = false from by simp; omega]
      rw [Bool.or_false, Nat.mul_assoc, Nat.mul_assoc, Nat.mul_comm (f k)]
theorem prdU_none (f : Nat → Nat) : ∀ n, prdU f (fun _ => false) n = 1
  | 0 => rfl
  | n + 1 => by rw [prdU, prdU_none f n]; rfl
theorem sumU_none (f : Nat → Nat) : ∀ n, sumU f (fun _ => false) n = 0
  | 0 => rfl
  | n + 1 => by rw [sumU, sumU_none f n]; rfl
theorem cube_le : ∀ r, r ≤ 4 → (1 + r) * (1 + r) * (1 + r) ≤ 2 ^ (r + 3)
  | 0, _ => by decide
  | 1, _ => by decide
  | 2, _ => by decide
  | 3, _ => by decide
  | 4, _ => by decide
  | n + 5, h => by omega
theorem prdU_cube {r : Nat → Nat} (hr : ∀ k, r k ≤ 4) (U : Nat → Bool) : ∀ n, prdU (fun k => 1 + r k) U n * prdU (fun k => 1 + r k) U n * prdU (fun k => 1 + r k) U n ≤ 2 ^ sumU (fun k => r k + 3) U n
  | 0 => Nat.le_refl _
  | n + 1 => by
    have ih := prdU_cube hr U n
    rw [prdU, sumU]
    cases U (n + 1)
    · simpa using ih
    · have hc := cube_le (r (n + 1)) (hr _)
      simp only [if_true]
      rw [Nat.pow_add]
      generalize prdU (fun k => 1 + r k) U n = a at *
      generalize 1 + r (n + 1) = b at *
      calc a * b * (a * b) * (a * b) = (a * a * a) * (b * b * b) := by
            simp only [Nat.mul_comm, Nat.mul_left_comm]
        _ ≤ _ := Nat.mul_le_mul ih hc
theorem le_2048 {a : Nat} (h : a * a * a ≤ 2 ^ 33) : a ≤ 2048 := by
  rcases Nat.lt_or_ge 2048 a with h1 | h1
  · exfalso
    have h2 : 2049 * 2049 ≤ a * a := Nat.mul_le_mul h1 h1
    have h3 : 2049 * 2049 * 2049 ≤ a * a * a := Nat.mul_le_mul h2 h1
    have : (2 : Nat) ^ 33 = 8589934592 := by decide
    omega
  · exact h1
theorem least {P : Nat → Prop} : ∀ n, P n → ∃ m, P m ∧ m ≤ n ∧ ∀ k, P k → m ≤ k := by
  intro n
  induction n using Nat.strongRecOn with
  | _ n ih =>
    intro h
    by_cases hx : ∃ m, m < n ∧ P m
    · obtain ⟨m, h1, h2⟩ := hx
      obtain ⟨q, q1, q2, q3⟩ := ih m h1 h2
      exact ⟨q, q1, by omega, q3⟩
    · refine ⟨n, h, Nat.le_refl _, fun k hk => ?_⟩
      rcases Nat.lt_or_ge k n with h1 | h1
      · exact absurd ⟨k, h1, hk⟩ hx
      · exact h1

/-- the least way -/
def MinW (L : List Ru) (c : Nat) (w : List Nat) (n : Nat) : Prop := (∃ x, Ds L [c] w x n) ∧ ∀ m, (∃ x, Ds L [c] w x m) → n ≤ m
theorem minW_ex {L : List Ru} {c : Nat} {w x : List Nat} {n : Nat} (h : Ds L [c] w x n) : ∃ m, MinW L c w m ∧ m ≤ n := by
  obtain ⟨m, h1, h2, h3⟩ := least (P := fun n => ∃ x, Ds L [c] w x n) n ⟨x, h⟩
  exact ⟨m, ⟨h1, h3⟩, h2⟩
theorem MinW.uniq {L : List Ru} {c : Nat} {w : List Nat} {n m : Nat} (h : MinW L c w n) (k : MinW L c w m) : n = m := Nat.le_antisymm (h.2 m k.1) (k.2 n h.1)
theorem eps_mem {L : List Ru} : ∀ {l x : List Nat} {n : Nat}, Ds L l [] x n → ∀ c ∈ l, ∃ x' m, m ≤ n ∧ Ds L [c] [] x' m
  | [], _, _, _, c, hc => by cases hc
  | d :: l, x, n, h, c, hc => by
    obtain ⟨w1, x1, n1, w2, x2, n2, h1, h2, e1, e2, e3⟩ := h.cons_inv
    obtain ⟨rfl, rfl⟩ := List.append_eq_nil_iff.1 e1.symm
    rcases List.mem_cons.1 hc with rfl | hc
    · exact ⟨x1, n1, by omega, h1⟩
    · obtain ⟨x', m, hm, hd⟩ := eps_mem h2 c hc
      exact ⟨x', m, by omega, hd⟩
theorem eps_list {L : List Ru} {M : Nat} : ∀ (l : List Nat), (∀ c ∈ l, ∃ x m, m ≤ M ∧ Ds L [c] [] x m) → ∃ x n, n ≤ l.length * M ∧ Ds L l [] x n
  | [], _ => ⟨[], 0, by simp, Ds.nil⟩
  | c :: l, h => by
    obtain ⟨x1, n1, h1, d1⟩ := h c (List.mem_cons_self ..)
    obtain ⟨x2, n2, h2, d2⟩ := eps_list l (fun c hc => h c (List.mem_cons_of_mem _ hc))
    refine ⟨x1 ++ x2, n1 + n2, ?_, d1.app d2⟩
    rw [List.length_cons, Nat.add_mul]; omega
theorem max_ex {L : List Ru} : ∀ (l : List Nat), l ≠ [] → (∀ c ∈ l, ∃ n, MinW L c [] n) → ∃ c0 ∈ l, ∃ n0, MinW L c0 [] n0 ∧ ∀ c ∈ l, ∀ n, MinW L c [] n → n ≤ n0
  | [], h, _ => absurd rfl h
  | [c], _, h => by
    obtain ⟨n, hn⟩ := h c (List.mem_cons_self ..)
    refine ⟨c, List.mem_cons_self .., n, hn, fun d hd m hm => ?_⟩
    rw [List.mem_singleton.1 hd] at hm
    rw [hm.uniq hn]; exact Nat.le_refl _
  | c :: d :: l, _, h => by
    obtain ⟨n, hn⟩ := h c (List.mem_cons_self ..)
    obtain ⟨c0, h0, n0, hn0, hm0⟩ := max_ex (d :: l) (by simp) (fun c hc => h c (List.mem_cons_of_mem _ hc))
    by_cases hle : n ≤ n0
    · refine ⟨c0, List.mem_cons_of_mem _ h0, n0, hn0, fun e he m hm => ?_⟩
      rcases List.mem_cons.1 he with rfl | he
      · rw [hm.uniq hn]; exact hle
      · exact hm0 e he m hm
    · refine ⟨c, List.mem_cons_self .., n, hn, fun e he m hm => ?_⟩
      rcases List.mem_cons.1 he with rfl | he
      · rw [hm.uniq hn]; exact Nat.le_refl _
      · have := hm0 e he m hm; omega
/-- what vanishes -/
theorem eps_claim {L : List Ru} : ∀ (n c : Nat), MinW L c [] n → ∃ U : Nat → Bool, n ≤ prdU (fun k => 1 + (rget L k).R.size) U (L.length - 1) ∧ ∀ k, U k = true → 1 ≤ k ∧ k < L.length ∧ ∃ n', MinW L (rget L k).L [] n' ∧ n' ≤ n := by
  intro n
  induction n using Nat.strongRecOn with
  | _ n ih =>
    intro c hm
    obtain ⟨x, hx⟩ := hm.1
    generalize hl : [c] = l at hx
    generalize hw : ([] : List Nat) = w at hx
    cases hx with
    | nil => cases hl
    | small => cases hw
    | @big k l w1 w2 x1 x2 n1 n2 k1 k2 hd1 hd2 =>
      obtain ⟨rfl, rfl⟩ := List.cons.inj hl
      obtain ⟨rfl, rfl⟩ := List.append_eq_nil_iff.1 hw.symm
      obtain ⟨_, rfl, rfl⟩ := hd2.nil_inv
      by_cases hr : bytes (rget L k).R = []
      · rw [hr] at hd1
        obtain ⟨_, rfl, rfl⟩ := hd1.nil_inv
        refine ⟨fun i => false || i == k, ?_, fun i hi => ?_⟩
        · rw [prdU_add (U := fun _ => false) rfl k1 _ (by omega), prdU_none]; omega
        · have : i = k := by simpa using hi
          subst this
          exact ⟨k1, k2, _, hm, Nat.le_refl _⟩
      · obtain ⟨c0, h0, n0, hn0, hmax⟩ := max_ex (L := L) (bytes (rget L k).R) hr (fun c hc => by
          obtain ⟨x', m, _, hd⟩ := eps_mem hd1 c hc
          obtain ⟨m', h', _⟩ := minW_ex hd
          exact ⟨m', h'⟩)
        have hlt : n0 < n1 + 1 + 0 := by
          obtain ⟨x', m, hm', hd⟩ := eps_mem hd1 c0 h0
          have := hn0.2 m ⟨x', hd⟩
          omega
        obtain ⟨x', n', hn', hd'⟩ := eps_list (L := L) (M := n0) (bytes (rget L k).R) (fun c hc => by
          obtain ⟨x', m, _, hd⟩ := eps_mem hd1 c hc
          obtain ⟨m', h', _⟩ := minW_ex hd
          obtain ⟨x2, h2⟩ := h'.1
          exact ⟨x2, m', hmax c hc m' h', h2⟩)
        have hle := hm.2 _ ⟨_, Ds.one k1 k2 hd'⟩
        rw [bytes_len] at hn'
        obtain ⟨U0, hU0, hU1⟩ := ih n0 hlt c0 hn0
        have hkU : U0 k = false := by
          cases e : U0 k
          · rfl
          · obtain ⟨_, _, n2, h2, h3⟩ := hU1 k e
            have := h2.uniq hm
            omega
        have hpos : 1 ≤ n0 := by
          obtain ⟨x2, h2⟩ := hn0.1
          generalize hl : [c0] = l at h2
          generalize hw : ([] : List Nat) = w at h2
          cases h2 with
          | nil => cases hl
          | small => cases hw
          | big => omega
        refine ⟨fun i => U0 i || i == k, ?_, fun i hi => ?_⟩
        · rw [prdU_add hkU k1 _ (by omega)]
          have h1 : n0 * (1 + (rget L k).R.size) ≤ prdU (fun k => 1 + (rget L k).R.size) U0 (L.length - 1) * (1 + (rget L k).R.size) := Nat.mul_le_mul_right _ hU0
          rw [Nat.mul_add, Nat.mul_one, Nat.mul_comm n0] at h1
          omega
        · rw [Bool.or_eq_true] at hi
          rcases hi with hi | hi
          · obtain ⟨a, b, n2, h2, h3⟩ := hU1 i hi
            exact ⟨a, b, n2, h2, by omega⟩
          · have : i = k := by simpa using hi
            subst this
            exact ⟨k1, k2, _, hm, Nat.le_refl _⟩
/-- the grammar's size -/
structure GrSz (L : List Ru) : Prop where
  r4 : ∀ k, (rget L k).R.size ≤ 4
  sz : sumU (fun k => (rget L k).R.size + 3) (fun _ => true) (L.length - 1) ≤ 33
  l9 : L.length ≤ 9
theorem eps_bound {L : List Ru} (h : GrSz L) {c n : Nat} {x : List Nat} (hd : Ds L [c] [] x n) : ∃ x' m, m ≤ 2048 ∧ Ds L [c] [] x' m := by
  obtain ⟨m, hm, _⟩ := minW_ex hd
  obtain ⟨U, hU, _⟩ := eps_claim m c hm
  obtain ⟨x', hx⟩ := hm.1
  refine ⟨x', m, le_2048 ?_, hx⟩
  have h1 := prdU_cube (r := fun k => (rget L k).R.size) h.r4 U (L.length - 1)
  have h2 := sumU_all (fun k => (rget L k).R.size + 3) U (L.length - 1)
  have h3 : (2 : Nat) ^ sumU (fun k => (rget L k).R.size + 3) U (L.length - 1) ≤ 2 ^ 33 := Nat.pow_le_pow_right (by omega) (by have := h.sz; omega)
  have h4 : m * m * m ≤ prdU (fun k => 1 + (rget L k).R.size) U (L.length - 1) * prdU (fun k => 1 + (rget L k).R.size) U (L.length - 1) * prdU (fun k => 1 + (rget L k).R.size) U (L.length - 1) := Nat.mul_le_mul (Nat.mul_le_mul hU hU) hU
  omega
end Go.Proofs.YtkglggkkbmmjkaaDoor

namespace Go.Proofs.YtkglggkkbmmjkaaDoor
open Go.RowKit

/-- as Ds, and how deep it is at most -/
inductive Dh (L : List Ru) : List Nat → List Nat → List Nat → Nat → Nat → Prop
  | nil {h : Nat} : Dh L [] [] [] 0 h
  | small {c h n : Nat} {l w x : List Nat} : smallB c = true → Dh L l w x n (h + 1) → Dh L (c :: l) (c :: w) (c :: x) n (h + 1)
  | big {k h n1 n2 : Nat} {l w1 w2 x1 x2 : List Nat} : 1 ≤ k → k < L.length → Dh L (bytes (rget L k).R) w1 x1 n1 h → Dh L l w2 x2 n2 (h + 1) → Dh L ((rget L k).L :: l) (w1 ++ w2) ((48 + k) :: 40 :: (x1 ++ 41 :: x2)) (n1 + 1 + n2) (h + 1)
theorem Dh.ds {L : List Ru} {l w x : List Nat} {n h : Nat} (hd : Dh L l w x n h) : Ds L l w x n := by
  induction hd with
  | nil => exact Ds.nil
  | small hc _ ih => exact Ds.small hc ih
  | big k1 k2 _ _ ih1 ih2 => exact Ds.big k1 k2 ih1 ih2
theorem Dh.mono {L : List Ru} {l w x : List Nat} {n h : Nat} (hd : Dh L l w x n h) : ∀ {h' : Nat}, h ≤ h' → Dh L l w x n h' := by
  induction hd with
  | nil => intro _ _; exact Dh.nil
  | @small c h n l w x hc _ ih =>
    intro h' hh
    obtain ⟨h', rfl⟩ : ∃ q, h' = q + 1 := ⟨h' - 1, by omega⟩
    exact Dh.small hc (ih hh)
  | @big k h n1 n2 l w1 w2 x1 x2 k1 k2 _ _ ih1 ih2 =>
    intro h' hh
    obtain ⟨h', rfl⟩ : ∃ q, h' = q + 1 := ⟨h' - 1, by omega⟩
    exact Dh.big k1 k2 (ih1 (by omega)) (ih2 hh)
theorem Dh.app {L : List Ru} {l1 w1 x1 : List Nat} {n1 h : Nat} (hd : Dh L l1 w1 x1 n1 h) : ∀ {l2 w2 x2 : List Nat} {n2 : Nat}, Dh L l2 w2 x2 n2 h → Dh L (l1 ++ l2) (w1 ++ w2) (x1 ++ x2) (n1 + n2) h := by
  induction hd with
  | nil => intro l2 w2 x2 n2 h2; simpa using h2
  | small hc _ ih => intro l2 w2 x2 n2 h2; exact Dh.small hc (ih h2)
  | @big k h na nb l wa wb xa xb k1 k2 ha hb iha ihb =>
    intro l2 w2 x2 n2 h2
    have := Dh.big k1 k2 ha (ihb h2)
    rw [show wa ++ wb ++ w2 = wa ++ (wb ++ w2) from by simp, show (48 + k) :: 40 :: (xa ++ 41 :: xb) ++ x2 = (48 + k) :: 40 :: (xa ++ 41 :: (xb ++ x2)) from by simp, show na + 1 + nb + n2 = na + 1 + (nb + n2) from by omega]
    exact this
/-- the first letter apart -/
theorem Dh.cons_inv {L : List Ru} {c : Nat} {l w x : List Nat} {n h : Nat} (hd : Dh L (c :: l) w x n h) : ∃ w1 x1 n1 w2 x2 n2, Dh L [c] w1 x1 n1 h ∧ Dh L l w2 x2 n2 h ∧ w = w1 ++ w2 ∧ x = x1 ++ x2 ∧ n = n1 + n2 := by
  cases hd with
  | @small _ h n _ w x hc hd => exact ⟨[c], [c], 0, w, x, n, Dh.small hc Dh.nil, hd, rfl, rfl, by omega⟩
  | @big k h n1 n2 _ w1 w2 x1 x2 k1 k2 ha hb =>
    refine ⟨w1, (48 + k) :: 40 :: (x1 ++ [41]), n1 + 1, w2, x2, n2, ?_, hb, rfl, by simp, rfl⟩
    have := Dh.big k1 k2 ha (Dh.nil (L := L) (h := h + 1))
    simpa using this
theorem cnt_le (U : Nat → Bool) : ∀ n, sumU (fun _ => 1) U n ≤ n
  | 0 => Nat.le_refl _
  | n + 1 => by
    have := cnt_le U n
    rw [sumU]
    split <;> omega
/-- a list of letters, none of them deep -/
theorem ht_list {L : List Ru} (h9 : L.length ≤ 9) {N : Nat} (hE : ∀ n, n ≤ N → ∀ c w, MinW L c w n → ∃ (x : List Nat) (U : Nat → Bool), Dh L [c] w x n (1 + sumU (fun _ => 1) U (L.length - 1) + 8 * w.length) ∧ ∀ k, U k = true → ∃ n', MinW L (rget L k).L w n' ∧ n' ≤ n) :
    ∀ (l w x : List Nat) (n : Nat), Ds L l w x n → (∀ x' m, Ds L l w x' m → n ≤ m) → n ≤ N → ∃ (x' : List Nat) (U : Nat → Bool), Dh L l w x' n (1 + sumU (fun _ => 1) U (L.length - 1) + 8 * w.length) ∧ ∀ k, U k = true → ∃ n', MinW L (rget L k).L w n' ∧ n' ≤ n
  | [], w, x, n, hd, _, _ => by
    obtain ⟨rfl, rfl, rfl⟩ := hd.nil_inv
    exact ⟨[], fun _ => false, Dh.nil, fun k hk => by cases hk⟩
  | c :: l, w, x, n, hd, hm, hN => by
    obtain ⟨w1, x1, n1, w2, x2, n2, h1, h2, rfl, rfl, rfl⟩ := hd.cons_inv
    have m1 : MinW L c w1 n1 := ⟨⟨x1, h1⟩, fun m ⟨x', h'⟩ => by have := hm _ _ (h'.app h2); omega⟩
    have m2 : ∀ x' m, Ds L l w2 x' m → n2 ≤ m := fun x' m h' => by have := hm _ _ (h1.app h'); omega
    obtain ⟨xa, Ua, da, ua⟩ := hE n1 (by omega) c w1 m1
    obtain ⟨xb, Ub, db, ub⟩ := ht_list h9 hE l w2 x2 n2 h2 m2 (by omega)
    have hL : (w1 ++ w2).length = w1.length + w2.length := List.length_append
    have ca := cnt_le Ua (L.length - 1)
    have cb := cnt_le Ub (L.length - 1)
    obtain ⟨UA, hA, uA⟩ : ∃ U : Nat → Bool, 1 + sumU (fun _ => 1) Ua (L.length - 1) + 8 * w1.length ≤ 1 + sumU (fun _ => 1) U (L.length - 1) + 8 * (w1 ++ w2).length ∧ ∀ k, U k = true → ∃ n', MinW L (rget L k).L (w1 ++ w2) n' ∧ n' ≤ n1 + n2 := by
      by_cases e : w2 = []
      · subst e
        refine ⟨Ua, by simp, fun k hk => ?_⟩
        obtain ⟨n', a, b⟩ := ua k hk
        exact ⟨n', by simpa using a, by omega⟩
      · have : 0 < w2.length := List.length_pos_iff.2 e
        exact ⟨fun _ => false, by omega, fun k hk => by cases hk⟩
    obtain ⟨UB, hB, uB⟩ : ∃ U : Nat → Bool, 1 + sumU (fun _ => 1) Ub (L.length - 1) + 8 * w2.length ≤ 1 + sumU (fun _ => 1) U (L.length - 1) + 8 * (w1 ++ w2).length ∧ ∀ k, U k = true → ∃ n', MinW L (rget L k).L (w1 ++ w2) n' ∧ n' ≤ n1 + n2 := by
      by_cases e : w1 = []
      · subst e
        refine ⟨Ub, by simp, fun k hk => ?_⟩
        obtain ⟨n', a, b⟩ := ub k hk
        exact ⟨n', by simpa using a, by omega⟩
      · have : 0 < w1.length := List.length_pos_iff.2 e
        exact ⟨fun _ => false, by omega, fun k hk => by cases hk⟩
    by_cases hle : sumU (fun _ => 1) UA (L.length - 1) ≤ sumU (fun _ => 1) UB (L.length - 1)
    · exact ⟨xa ++ xb, UB, (da.mono (by omega)).app (db.mono hB), uB⟩
    · exact ⟨xa ++ xb, UA, (da.mono hA).app (db.mono (by omega)), uA⟩
theorem ht_claim {L : List Ru} (h9 : L.length ≤ 9) : ∀ (n c : Nat) (w : List Nat), MinW L c w n → ∃ (x : List Nat) (U : Nat → Bool), Dh L [c] w x n (1 + sumU (fun _ => 1) U (L.length - 1) + 8 * w.length) ∧ ∀ k, U k = true → ∃ n', MinW L (rget L k).L w n' ∧ n' ≤ n := by
  intro n
  induction n using Nat.strongRecOn with
  | _ n ih =>
    intro c w hm
    obtain ⟨x, hx⟩ := hm.1
    generalize hl : [c] = l at hx
    generalize hw : w = w0 at hx
    cases hx with
    | nil => cases hl
    | @small _ _ w x n hc hd =>
      obtain ⟨rfl, rfl⟩ := List.cons.inj hl
      obtain ⟨rfl, rfl, rfl⟩ := hd.nil_inv
      subst hw
      exact ⟨[c], fun _ => false, (Dh.small hc (Dh.nil (h := 1))).mono (by omega), fun k hk => by cases hk⟩
    | @big k l w1 w2 x1 x2 n1 n2 k1 k2 hd1 hd2 =>
      obtain ⟨rfl, rfl⟩ := List.cons.inj hl
      obtain ⟨rfl, rfl, rfl⟩ := hd2.nil_inv
      simp only [List.append_nil] at hw ⊢
      subst hw
      obtain ⟨x', U, hD, hU⟩ := ht_list (L := L) h9 (N := n1) (fun m hm' c w h => ih m (by omega) c w h) _ _ _ _ hd1 (fun x' m h' => by
        have := hm.2 _ ⟨_, Ds.one k1 k2 h'⟩
        omega) (Nat.le_refl _)
      have hkU : U k = false := by
        cases e : U k
        · rfl
        · obtain ⟨n', a, b⟩ := hU k e
          have := a.uniq hm
          omega
      have hD2 := Dh.big (l := []) (w2 := []) (x2 := []) (n2 := 0) k1 k2 hD Dh.nil
      rw [List.append_nil] at hD2
      refine ⟨_, fun i => U i || i == k, hD2.mono ?_, fun i hi => ?_⟩
      · rw [sumU_add hkU k1 _ (by omega)]; omega
      · rw [Bool.or_eq_true] at hi
        rcases hi with hi | hi
        · obtain ⟨n', a, b⟩ := hU i hi
          exact ⟨n', a, by omega⟩
        · have : i = k := by simpa using hi
          subst this
          exact ⟨_, hm, Nat.le_refl _⟩
theorem ht_bound {L : List Ru} (h9 : L.length ≤ 9) {c n : Nat} {w x : List Nat} (hd : Ds L [c] w x n) : ∃ x' m, Dh L [c] w x' m (9 + 8 * w.length) := by
  obtain ⟨m, hm, _⟩ := minW_ex hd
  obtain ⟨x', U, h, _⟩ := ht_claim h9 m c w hm
  have := cnt_le U (L.length - 1)
  exact ⟨x', m, h.mono (by omega)⟩
end Go.Proofs.YtkglggkkbmmjkaaDoor
