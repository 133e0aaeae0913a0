import Derived.Test.YtkglggkkbmmjkabGreatDoorG22LrR
namespace Go.Proofs.YtkglggkkbmmjkabGreatDoor
open Go.RowKit

/-! How many replacements: there is always a small way. -/
def sumU (f : Nat → Nat) (U : Nat → Bool) : Nat → Nat
  | 0 => 0
  | n + 1 => sumU f U n + if U (n + 1) then f (n + 1) else 0
def prdU (f : Nat → Nat) (U : Nat → Bool) : Nat → Nat
  | 0 => 1
  | n + 1 => prdU f U n * if U (n + 1) then f (n + 1) else 1
theorem sumU_all (f : Nat → Nat) (U : Nat → Bool) : ∀ n, sumU f U n ≤ sumU f (fun _ => true) n
  | 0 => Nat.le_refl _
  | n + 1 => by
    have := sumU_all f U n
    rw [sumU, sumU]
    cases U (n + 1)
    · simp; omega
    · simp; omega
theorem sumU_same {f : Nat → Nat} {U V : Nat → Bool} : ∀ n, (∀ i, 1 ≤ i → i ≤ n → U i = V i) → sumU f U n = sumU f V n
  | 0, _ => rfl
  | n + 1, h => by rw [sumU, sumU, sumU_same n (fun i h1 h2 => h i h1 (by omega)), h (n + 1) (by omega) (Nat.le_refl _)]
theorem prdU_same {f : Nat → Nat} {U V : Nat → Bool} : ∀ n, (∀ i, 1 ≤ i → i ≤ n → U i = V i) → prdU f U n = prdU f V n
  | 0, _ => rfl
  | n + 1, h => by rw [prdU, prdU, prdU_same n (fun i h1 h2 => h i h1 (by omega)), h (n + 1) (by omega) (Nat.le_refl _)]
theorem sumU_add {f : Nat → Nat} {U : Nat → Bool} {k : Nat} (hk : U k = false) (h1 : 1 ≤ k) : ∀ n, k ≤ n → sumU f (fun i => U i || i == k) n = sumU f U n + f k
  | 0, h => by omega
  | n + 1, h => by
    rw [sumU, sumU]
    by_cases e : k = n + 1
    · subst e
      rw [sumU_same (U := fun i => U i || i == n + 1) (V := U) n (fun i _ hi => by rw [show (i == n + 1) = false from by simp; omega]; simp), hk]
      simp
    · rw [sumU_add hk h1 n (by omega), show (n + 1 == k) = false from by simp; omega]
      simp; omega
theorem prdU_add {f : Nat → Nat} {U : Nat → Bool} {k : Nat} (hk : U k = false) (h1 : 1 ≤ k) : ∀ n, k ≤ n → prdU f (fun i => U i || i == k) n = prdU f U n * f k
  | 0, h => by omega
  | n + 1, h => by
    rw [prdU, prdU]
    by_cases e : k = n + 1
    · subst e
      rw [prdU_same (U := fun i => U i || i == n + 1) (V := U) n (fun i _ hi => by rw [show (i == n + 1) = false from by simp; omega]; simp), hk]
      simp
    · rw [prdU_add hk h1 n (by omega), show (n + 1 == k) = false from by simp; omega]
      rw [Bool.or_false, Nat.mul_assoc, Nat.mul_assoc, Nat.mul_comm (f k)]
theorem prdU_none (f : Nat → Nat) : ∀ n, prdU f (fun _ => false) n = 1
  | 0 => rfl
  | n + 1 => by rw [prdU, prdU_none f n]; rfl
theorem sumU_none (f : Nat → Nat) : ∀ n, sumU f (fun _ => false) n = 0
  | 0 => rfl
  | n + 1 => by rw [sumU, sumU_none f n]; rfl
theorem cube_le : ∀ r, r ≤ 4 → (1 + r) * (1 + r) * (1 + r) ≤ 2 ^ (r + 3)
  | 0, _ => by decide
  | 1, _ => by decide
  | 2, _ => by decide
  | 3, _ => by decide
  | 4, _ => by decide
  | n + 5, h => by omega
theorem prdU_cube {r : Nat → Nat} (hr : ∀ k, r k ≤ 4) (U : Nat → Bool) : ∀ n, prdU (fun k => 1 + r k) U n * prdU (fun k => 1 + r k) U n * prdU (fun k => 1 + r k) U n ≤ 2 ^ sumU (fun k => r k + 3) U n
  | 0 => Nat.le_refl _
  | n + 1 => by
    have ih := prdU_cube hr U n
    rw [prdU, sumU]
    cases U (n + 1)
    · simpa using ih
    · have hc := cube_le (r (n + 1)) (hr _)
      simp only [if_true]
      rw [Nat.pow_add]
      generalize prdU (fun k => 1 + r k) U n = a at *
      generalize 1 + r (n + 1) = b at *
      calc a * b * (a * b) * (a * b) = (a * a * a) * (b * b * b) := by
            simp only [Nat.mul_comm, Nat.mul_left_comm]
        _ ≤ _ := Nat.mul_le_mul ih hc
theorem le_2048 {a : Nat} (h : a * a * a ≤ 2 ^ 33) : a ≤ 2048 := by
  rcases Nat.lt_or_ge 2048 a with h1 | h1
  · exfalso
    have h2 : 2049 * 2049 ≤ a * a := Nat.mul_le_mul h1 h1
    have h3 : 2049 * 2049 * 2049 ≤ a * a * a := Nat.mul_le_mul h2 h1
    have : (2 : Nat) ^ 33 = 8589934592 := by decide
    omega
  · exact h1
theorem least {P : Nat → Prop} : ∀ n, P n → ∃ m, P m ∧ m ≤ n ∧ ∀ k, P k → m ≤ k := by
  intro n
  induction n using Nat.strongRecOn with
  | _ n ih =>
    intro h
    by_cases hx : ∃ m, m < n ∧ P m
    · obtain ⟨m, h1, h2⟩ := hx
      obtain ⟨q, q1, q2, q3⟩ := ih m h1 h2
      exact ⟨q, q1, by omega, q3⟩
    · refine ⟨n, h, Nat.le_refl _, fun k hk => ?_⟩
      rcases Nat.lt_or_ge k n with h1 | h1
      · exact absurd ⟨k, h1, hk⟩ hx
      · exact h1

def MinW (L : List Ru) (c : Nat) (w : List Nat) (n : Nat) : Prop := (∃ x, Ds L [c] w x n) ∧ ∀ m, (∃ x, Ds L [c] w x m) → n ≤ m
theorem minW_ex {L : List Ru} {c : Nat} {w x : List Nat} {n : Nat} (h : Ds L [c] w x n) : ∃ m, MinW L c w m ∧ m ≤ n := by
  obtain ⟨m, h1, h2, h3⟩ := least (P := fun n => ∃ x, Ds L [c] w x n) n ⟨x, h⟩
  exact ⟨m, ⟨h1, h3⟩, h2⟩
theorem MinW.uniq {L : List Ru} {c : Nat} {w : List Nat} {n m : Nat} (h : MinW L c w n) (k : MinW L c w m) : n = m := Nat.le_antisymm (h.2 m k.1) (k.2 n h.1)
theorem eps_mem {L : List Ru} : ∀ {l x : List Nat} {n : Nat}, Ds L l [] x n → ∀ c ∈ l, ∃ x' m, m ≤ n ∧ Ds L [c] [] x' m
  | [], _, _, _, c, hc => by cases hc
  | d :: l, x, n, h, c, hc => by
    obtain ⟨w1, x1, n1, w2, x2, n2, h1, h2, e1, e2, e3⟩ := h.cons_inv
    obtain ⟨rfl, rfl⟩ := List.append_eq_nil_iff.1 e1.symm
    rcases List.mem_cons.1 hc with rfl | hc
    · exact ⟨x1, n1, by omega, h1⟩
    · obtain ⟨x', m, hm, hd⟩ := eps_mem h2 c hc
      exact ⟨x', m, by omega, hd⟩
theorem eps_list {L : List Ru} {M : Nat} : ∀ (l : List Nat), (∀ c ∈ l, ∃ x m, m ≤ M ∧ Ds L [c] [] x m) → ∃ x n, n ≤ l.length * M ∧ Ds L l [] x n
  | [], _ => ⟨[], 0, by simp, Ds.nil⟩
  | c :: l, h => by
    obtain ⟨x1, n1, h1, d1⟩ := h c (List.mem_cons_self ..)
    obtain ⟨x2, n2, h2, d2⟩ := eps_list l (fun c hc => h c (List.mem_cons_of_mem _ hc))
    refine ⟨x1 ++ x2, n1 + n2, ?_, d1.app d2⟩
    rw [List.length_cons, Nat.add_mul]; omega
theorem max_ex {L : List Ru} : ∀ (l : List Nat), l ≠ [] → (∀ c ∈ l, ∃ n, MinW L c [] n) → ∃ c0 ∈ l, ∃ n0, MinW L c0 [] n0 ∧ ∀ c ∈ l, ∀ n, MinW L c [] n → n ≤ n0
  | [], h, _ => absurd rfl h
  | [c], _, h => by
    obtain ⟨n, hn⟩ := h c (List.mem_cons_self ..)
    refine ⟨c, List.mem_cons_self .., n, hn, fun d hd m hm => ?_⟩
    rw [List.mem_singleton.1 hd] at hm
    rw [hm.uniq hn]; exact Nat.le_refl _
  | c :: d :: l, _, h => by
    obtain ⟨n, hn⟩ := h c (List.mem_cons_self ..)
    obtain ⟨c0, h0, n0, hn0, hm0⟩ := max_ex (d :: l) (by simp) (fun c hc => h c (List.mem_cons_of_mem _ hc))
    by_cases hle : n ≤ n0
    · refine ⟨c0, List.mem_cons_of_mem _ h0, n0, hn0, fun e he m hm => ?_⟩
      rcases List.mem_cons.1 he with rfl | he
      · rw [hm.uniq hn]; exact hle
      · exact hm0 e he m hm
    · refine ⟨c, List.mem_cons_self .., n, hn, fun e he m hm => ?_⟩
      rcases List.mem_cons.1 he with rfl | he
      · rw [hm.uniq hn]; exact Nat.le_refl _
      · have := hm0 e he m hm; omega
theorem eps_claim {L : List Ru} : ∀ (n c : Nat), MinW L c [] n → ∃ U : Nat → Bool, n ≤ prdU (fun k => 1 + (rget L k).R.size) U (L.length - 1) ∧ ∀ k, U k = true → 1 ≤ k ∧ k < L.length ∧ ∃ n', MinW L (rget L k).L [] n' ∧ n' ≤ n := by
  intro n
  induction n using Nat.strongRecOn with
  | _ n ih =>
    intro c hm
    obtain ⟨x, hx⟩ := hm.1
    generalize hl : [c] = l at hx
    generalize hw : ([] : List Nat) = w at hx
    cases hx with
    | nil => cases hl
    | small => cases hw
    | @big k l w1 w2 x1 x2 n1 n2 k1 k2 hd1 hd2 =>
      obtain ⟨rfl, rfl⟩ := List.cons.inj hl
      obtain ⟨rfl, rfl⟩ := List.append_eq_nil_iff.1 hw.symm
      obtain ⟨_, rfl, rfl⟩ := hd2.nil_inv
      by_cases hr : bytes (rget L k).R = []
      · rw [hr] at hd1
        obtain ⟨_, rfl, rfl⟩ := hd1.nil_inv
        refine ⟨fun i => false || i == k, ?_, fun i hi => ?_⟩
        · rw [prdU_add (U := fun _ => false) rfl k1 _ (by omega), prdU_none]; omega
        · have : i = k := by simpa using hi
          subst this
          exact ⟨k1, k2, _, hm, Nat.le_refl _⟩
      · obtain ⟨c0, h0, n0, hn0, hmax⟩ := max_ex (L := L) (bytes (rget L k).R) hr (fun c hc => by
          obtain ⟨x', m, _, hd⟩ := eps_mem hd1 c hc
          obtain ⟨m', h', _⟩ := minW_ex hd
          exact ⟨m', h'⟩)
        have hlt : n0 < n1 + 1 + 0 := by
          obtain ⟨x', m, hm', hd⟩ := eps_mem hd1 c0 h0
          have := hn0.2 m ⟨x', hd⟩
          omega
        obtain ⟨x', n', hn', hd'⟩ := eps_list (L := L) (M := n0) (bytes (rget L k).R) (fun c hc => by
          obtain ⟨x', m, _, hd⟩ := eps_mem hd1 c hc
          obtain ⟨m', h', _⟩ := minW_ex hd
          obtain ⟨x2, h2⟩ := h'.1
          exact ⟨x2, m', hmax c hc m' h', h2⟩)
        have hle := hm.2 _ ⟨_, Ds.one k1 k2 hd'⟩
        rw [zah] at hn'
        obtain ⟨U0, hU0, hU1⟩ := ih n0 hlt c0 hn0
        have hkU : U0 k = false := by
          cases e : U0 k
          · rfl
          · obtain ⟨_, _, n2, h2, h3⟩ := hU1 k e
            have := h2.uniq hm
            omega
        have hpos : 1 ≤ n0 := by
          obtain ⟨x2, h2⟩ := hn0.1
          generalize hl : [c0] = l at h2
          generalize hw : ([] : List Nat) = w at h2
          cases h2 with
          | nil => cases hl
          | small => cases hw
          | big => omega
        refine ⟨fun i => U0 i || i == k, ?_, fun i hi => ?_⟩
        · rw [prdU_add hkU k1 _ (by omega)]
          have h1 : n0 * (1 + (rget L k).R.size) ≤ prdU (fun k => 1 + (rget L k).R.size) U0 (L.length - 1) * (1 + (rget L k).R.size) := Nat.mul_le_mul_right _ hU0
          rw [Nat.mul_add, Nat.mul_one, Nat.mul_comm n0] at h1
          omega
        · rw [Bool.or_eq_true] at hi
          rcases hi with hi | hi
          · obtain ⟨a, b, n2, h2, h3⟩ := hU1 i hi
            exact ⟨a, b, n2, h2, by omega⟩
          · have : i = k := by simpa using hi
            subst this
            exact ⟨k1, k2, _, hm, Nat.le_refl _⟩
structure GrSz (L : List Ru) : Prop where
  r4 : ∀ k, (rget L k).R.size ≤ 4
  sz : sumU (fun k => (rget L k).R.size + 3) (fun _ => true) (L.length - 1) ≤ 33
  l9 : L.length ≤ 9
theorem eps_bound {L : List Ru} (h : GrSz L) {c n : Nat} {x : List Nat} (hd : Ds L [c] [] x n) : ∃ x' m, m ≤ 2048 ∧ Ds L [c] [] x' m := by
  obtain ⟨m, hm, _⟩ := minW_ex hd
  obtain ⟨U, hU, _⟩ := eps_claim m c hm
  obtain ⟨x', hx⟩ := hm.1
  refine ⟨x', m, le_2048 ?_, hx⟩
  have h1 := prdU_cube (r := fun k => (rget L k).R.size) h.r4 U (L.length - 1)
  have h2 := sumU_all (fun k => (rget L k).R.size + 3) U (L.length - 1)
  have h3 : (2 : Nat) ^ sumU (fun k => (rget L k).R.size + 3) U (L.length - 1) ≤ 2 ^ 33 := Nat.pow_le_pow_right (by omega) (by have := h.sz; omega)
  have h4 : m * m * m ≤ prdU (fun k => 1 + (rget L k).R.size) U (L.length - 1) * prdU (fun k => 1 + (rget L k).R.size) U (L.length - 1) * prdU (fun k => 1 + (rget L k).R.size) U (L.length - 1) := Nat.mul_le_mul (Nat.mul_le_mul hU hU) hU
  omega
end Go.Proofs.YtkglggkkbmmjkabGreatDoor

namespace Go.Proofs.YtkglggkkbmmjkabGreatDoor
open Go.RowKit

inductive Prt (L : List Ru) : List Nat → List Nat → Nat → Nat → Nat → Prop
  | nil : Prt L [] [] 0 0 0
  | cons0 {c p m n q : Nat} {l w x : List Nat} : Ds L [c] [] x n → Prt L l w p m q → Prt L (c :: l) w p m (n + q)
  | cons1 {c p m n q : Nat} {l w1 w2 x : List Nat} : Ds L [c] w1 x n → w1 ≠ [] → Prt L l w2 p m q → Prt L (c :: l) (w1 ++ w2) (p + 1) (max w1.length m) (n + q)
theorem prt_of {L : List Ru} : ∀ {l w x : List Nat} {n : Nat}, Ds L l w x n → ∃ p m, Prt L l w p m n
  | [], w, x, n, h => by
    obtain ⟨rfl, _, rfl⟩ := h.nil_inv
    exact ⟨0, 0, Prt.nil⟩
  | c :: l, w, x, n, h => by
    obtain ⟨w1, x1, n1, w2, x2, n2, h1, h2, rfl, _, rfl⟩ := h.cons_inv
    obtain ⟨p, m, hp⟩ := prt_of h2
    cases w1 with
    | nil => exact ⟨p, m, Prt.cons0 h1 hp⟩
    | cons a w1 => exact ⟨p + 1, _, Prt.cons1 h1 (by simp) hp⟩
theorem Prt.zero {L : List Ru} {l w : List Nat} {p m q : Nat} (h : Prt L l w p m q) (hp : p = 0) : w = [] ∧ m = 0 ∧ ∀ c ∈ l, ∃ x n, Ds L [c] [] x n := by
  induction h with
  | nil => exact ⟨rfl, rfl, fun c hc => by cases hc⟩
  | cons0 hd _ ih =>
    obtain ⟨a, b, d⟩ := ih hp
    refine ⟨a, b, fun c hc => ?_⟩
    rcases List.mem_cons.1 hc with rfl | hc
    · exact ⟨_, _, hd⟩
    · exact d c hc
  | cons1 _ _ _ _ => omega
theorem Prt.le {L : List Ru} {l w : List Nat} {p m q : Nat} (h : Prt L l w p m q) : p ≤ l.length ∧ m + (p - 1) ≤ w.length ∧ p ≤ w.length ∧ (p = 0 → w = []) := by
  induction h with
  | nil => simp
  | cons0 _ _ ih => rw [List.length_cons]; exact ⟨by omega, ih.2⟩
  | @cons1 c p m n q l w1 w2 x _ hne hl ih =>
    have : 0 < w1.length := List.length_pos_iff.2 hne
    rw [List.length_cons, List.length_append]
    obtain ⟨a, b, c', d⟩ := ih
    refine ⟨by omega, ?_, by omega, by omega⟩
    by_cases hp : p = 0
    · have := (hl.zero hp).2.1
      omega
    · omega
theorem Prt.bound {L : List Ru} {E C : Nat} (hE : ∀ c x n, Ds L [c] [] x n → ∃ x' m, m ≤ E ∧ Ds L [c] [] x' m) {l w : List Nat} {p m q : Nat} (h : Prt L l w p m q) (hS : ∀ c w', w' ≠ [] → w'.length ≤ m → (∃ x n, Ds L [c] w' x n) → ∃ x n, n + C ≤ 2 * w'.length * C ∧ Ds L [c] w' x n) :
    ∃ x n, n + p * C ≤ 2 * w.length * C + l.length * E ∧ Ds L l w x n := by
  induction h with
  | nil => exact ⟨[], 0, by simp, Ds.nil⟩
  | cons0 hd _ ih =>
    obtain ⟨x1, n1, h1, d1⟩ := hE _ _ _ hd
    obtain ⟨x2, n2, h2, d2⟩ := ih hS
    refine ⟨x1 ++ x2, n1 + n2, ?_, d1.app d2⟩
    rw [List.length_cons, Nat.add_mul]; omega
  | @cons1 c p m n q l w1 w2 x hd hne _ ih =>
    obtain ⟨x1, n1, h1, d1⟩ := hS c w1 hne (by omega) ⟨x, n, hd⟩
    obtain ⟨x2, n2, h2, d2⟩ := ih (fun c w' a b => hS c w' a (by omega))
    refine ⟨x1 ++ x2, n1 + n2, ?_, d1.app d2⟩
    rw [List.length_cons, List.length_append, Nat.add_mul p 1 C, Nat.mul_add 2, Nat.add_mul (2 * w1.length), Nat.add_mul l.length]; omega
theorem Prt.one {L : List Ru} {E : Nat} (hE : ∀ c x n, Ds L [c] [] x n → ∃ x' m, m ≤ E ∧ Ds L [c] [] x' m) {l w : List Nat} {p m q : Nat} (h : Prt L l w p m q) (hp : p = 1) : ∃ c x n, Ds L [c] w x n ∧ n ≤ q ∧ ∀ x0 n0, Ds L [c] w x0 n0 → ∃ x' n', n' ≤ n0 + l.length * E ∧ Ds L l w x' n' := by
  induction h with
  | nil => omega
  | @cons0 c0 p m n q l w x hd _ ih =>
    obtain ⟨c, x, n, h1, hq, h2⟩ := ih hp
    refine ⟨c, x, n, h1, by omega, fun x0 n0 h0 => ?_⟩
    obtain ⟨x', n', h3, h4⟩ := h2 x0 n0 h0
    obtain ⟨x1, n1, h5, h6⟩ := hE _ _ _ hd
    refine ⟨x1 ++ x', n1 + n', ?_, h6.app h4⟩
    rw [List.length_cons, Nat.add_mul]; omega
  | @cons1 c p m n q l w1 w2 x hd hne hl ih =>
    have hp0 : p = 0 := by omega
    obtain ⟨rfl, _, hz⟩ := hl.zero hp0
    refine ⟨c, x, n, by simpa using hd, by omega, fun x0 n0 h0 => ?_⟩
    obtain ⟨x2, n2, h5, h6⟩ := eps_list (L := L) (M := E) l (fun c hc => by
      obtain ⟨x, n, hd⟩ := hz c hc
      exact hE _ _ _ hd)
    refine ⟨x0 ++ x2, n0 + n2, ?_, by simpa using h0.app h6⟩
    rw [List.length_cons, Nat.add_mul]; omega
def cst (L : List Ru) (E : Nat) : Nat := sumU (fun k => 1 + (rget L k).R.size * E) (fun _ => true) (L.length - 1)
theorem sumU_one {f : Nat → Nat} {k n : Nat} (h1 : 1 ≤ k) (h2 : k ≤ n) : sumU f (fun i => false || i == k) n = f k := by
  rw [sumU_add (f := f) (U := fun _ => false) (k := k) rfl h1 n h2, sumU_none]; omega
theorem way_claim {L : List Ru} {E : Nat} (hE : ∀ c x n, Ds L [c] [] x n → ∃ x' m, m ≤ E ∧ Ds L [c] [] x' m) : ∀ (s n c : Nat) (w : List Nat), w.length ≤ s → w ≠ [] → MinW L c w n → ∃ U : Nat → Bool, n + 2 * cst L E ≤ 2 * w.length * cst L E + sumU (fun k => 1 + (rget L k).R.size * E) U (L.length - 1) ∧ ∀ k, U k = true → 1 ≤ k ∧ k < L.length ∧ ∃ n', MinW L (rget L k).L w n' ∧ n' ≤ n := by
  intro s
  induction s with
  | zero =>
    intro n c w hw hne
    exact absurd (List.length_eq_zero_iff.1 (by omega)) hne
  | succ s ihs =>
    intro n
    induction n using Nat.strongRecOn with
    | _ n ihn =>
      intro c w hw hne hm
      have hwl : 1 ≤ w.length := List.length_pos_iff.2 hne
      have h2C : 2 * cst L E ≤ 2 * w.length * cst L E := Nat.mul_le_mul_right _ (by omega)
      obtain ⟨x, hx⟩ := hm.1
      generalize hw0 : w = w0 at hx
      generalize hl : [c] = l at hx
      cases hx with
      | nil => cases hl
      | small hc hd =>
        obtain ⟨rfl, rfl⟩ := List.cons.inj hl
        obtain ⟨rfl, rfl, rfl⟩ := hd.nil_inv
        subst hw0
        exact ⟨fun _ => false, by omega, fun k hk => by cases hk⟩
      | @big k l w1 w2 x1 x2 n1 n2 k1 k2 hd1 hd2 =>
        obtain ⟨rfl, rfl⟩ := List.cons.inj hl
        obtain ⟨rfl, rfl, rfl⟩ := hd2.nil_inv
        simp only [List.append_nil] at hw0 ⊢
        subst hw0
        obtain ⟨p, m, hp⟩ := prt_of hd1
        obtain ⟨q1, q2, q3, q4⟩ := hp.le
        have hp0 : p ≠ 0 := fun e => hne (q4 e)
        by_cases h1 : p = 1
        · obtain ⟨c', x', n', hd', hn', hrep⟩ := hp.one hE h1
          obtain ⟨n0, hn0, hn0'⟩ := minW_ex hd'
          obtain ⟨x0, hx0⟩ := hn0.1
          obtain ⟨x3, n3, hn3, hd3⟩ := hrep x0 n0 hx0
          have hle := hm.2 _ ⟨_, Ds.one k1 k2 hd3⟩
          rw [zah] at hn3
          obtain ⟨U0, hU0, hU1⟩ := ihn n0 (by omega) c' w hw hne hn0
          have hkU : U0 k = false := by
            cases e : U0 k
            · rfl
            · obtain ⟨_, _, n2, h2, h3⟩ := hU1 k e
              have := h2.uniq hm
              omega
          refine ⟨fun i => U0 i || i == k, ?_, fun i hi => ?_⟩
          · rw [sumU_add hkU k1 _ (by omega)]; omega
          · rw [Bool.or_eq_true] at hi
            rcases hi with hi | hi
            · obtain ⟨a, b, n2, h2, h3⟩ := hU1 i hi
              exact ⟨a, b, n2, h2, by omega⟩
            · have : i = k := by simpa using hi
              subst this
              exact ⟨k1, k2, _, hm, Nat.le_refl _⟩
        · obtain ⟨x3, n3, hn3, hd3⟩ := hp.bound hE (C := cst L E) (fun c' w' hne' hl' ⟨x', n', hd'⟩ => by
            obtain ⟨n0, hn0, _⟩ := minW_ex hd'
            obtain ⟨U0, hU0, _⟩ := ihs n0 c' w' (by omega) hne' hn0
            obtain ⟨x0, hx0⟩ := hn0.1
            have := sumU_all (fun k => 1 + (rget L k).R.size * E) U0 (L.length - 1)
            unfold cst at *
            exact ⟨x0, n0, by omega, hx0⟩)
          have hle := hm.2 _ ⟨_, Ds.one k1 k2 hd3⟩
          rw [zah] at hn3
          have h2p : 2 * cst L E ≤ p * cst L E := Nat.mul_le_mul_right _ (by omega)
          refine ⟨fun i => false || i == k, ?_, fun i hi => ?_⟩
          · rw [sumU_one k1 (by omega)]; omega
          · have : i = k := by simpa using hi
            subst this
            exact ⟨k1, k2, _, hm, Nat.le_refl _⟩
theorem way_bound {L : List Ru} {E : Nat} (hE : ∀ c x n, Ds L [c] [] x n → ∃ x' m, m ≤ E ∧ Ds L [c] [] x' m) {c n : Nat} {w x : List Nat} (hne : w ≠ []) (hd : Ds L [c] w x n) : ∃ x' m, m + cst L E ≤ 2 * w.length * cst L E ∧ Ds L [c] w x' m := by
  obtain ⟨n0, hn0, _⟩ := minW_ex hd
  obtain ⟨U0, hU0, _⟩ := way_claim hE w.length n0 c w (Nat.le_refl _) hne hn0
  obtain ⟨x0, hx0⟩ := hn0.1
  have := sumU_all (fun k => 1 + (rget L k).R.size * E) U0 (L.length - 1)
  refine ⟨x0, n0, ?_, hx0⟩
  unfold cst at *
  omega
theorem cst_le {L : List Ru} (h : GrSz L) : cst L 2048 ≤ 43016 := by
  have hs := h.sz
  have key : ∀ n, sumU (fun k => 1 + (rget L k).R.size * 2048) (fun _ => true) n + 2048 * (3 * n) ≤ n + 2048 * sumU (fun k => (rget L k).R.size + 3) (fun _ => true) n := by
    intro n
    induction n with
    | zero => simp [sumU]
    | succ n ih => simp only [sumU, if_true]; omega
  have r4 : ∀ n, sumU (fun k => (rget L k).R.size + 3) (fun _ => true) n ≤ 7 * n := by
    intro n
    induction n with
    | zero => simp [sumU]
    | succ n ih => have := h.r4 (n + 1); simp only [sumU, if_true]; omega
  have h9 := h.l9
  have k1 := key (L.length - 1)
  have k2 := r4 (L.length - 1)
  unfold cst
  omega
theorem Rd_bnd2 {L : List Ru} (h : GrSz L) {S : Nat} {w x : List Nat} {n : Nat} (hw : w.length ≤ 12) (hd : Ds L [S] w x n) : ∃ x' m, m < 1048576 ∧ Ds L [S] w x' m := by
  by_cases hne : w = []
  · subst hne
    obtain ⟨x', m, hm, hd'⟩ := eps_bound h hd
    exact ⟨x', m, by omega, hd'⟩
  · obtain ⟨x', m, hm, hd'⟩ := way_bound (fun c x n hd => eps_bound h hd) hne hd
    have hc := cst_le h
    have h1 : 2 * w.length * cst L 2048 ≤ 24 * cst L 2048 := Nat.mul_le_mul_right _ (by omega)
    exact ⟨x', m, by omega, hd'⟩
end Go.Proofs.YtkglggkkbmmjkabGreatDoor

namespace Go.Proofs.YtkglggkkbmmjkabGreatDoor
open Go.RowKit

inductive Pe (L : List Ru) : List Nat → List Nat → Nat → Nat → Nat → Prop
  | here {a : Nat} {l : List Nat} : zai a = true → Pe L (a :: l) [] a 0 0
  | down {k a n s : Nat} {l u : List Nat} : 1 ≤ k → k < L.length → Pe L (bytes (rget L k).R) u a n s → Pe L ((rget L k).L :: l) u a n (s + 1)
  | skip {c m a n s : Nat} {l w x u : List Nat} : Ds L [c] w x m → Pe L l u a n s → Pe L (c :: l) (w ++ u) a (m + n) (m + s)
theorem Pe.pd {L : List Ru} {l u : List Nat} {a n s : Nat} (h : Pe L l u a n s) : Pd L l u a n ∧ n ≤ s := by
  induction h with
  | here ha => exact ⟨Pd.here ha, Nat.le_refl _⟩
  | down h1 h2 _ ih => exact ⟨Pd.down h1 h2 ih.1, by omega⟩
  | skip hd _ ih => exact ⟨Pd.skip hd ih.1, by omega⟩
theorem Pd.pe {L : List Ru} {l u : List Nat} {a n : Nat} (h : Pd L l u a n) : ∃ s, Pe L l u a n s := by
  induction h with
  | here ha => exact ⟨0, Pe.here ha⟩
  | down h1 h2 _ ih => obtain ⟨s, hs⟩ := ih; exact ⟨s + 1, Pe.down h1 h2 hs⟩
  | skip hd _ ih => obtain ⟨s, hs⟩ := ih; exact ⟨_, Pe.skip hd hs⟩
theorem Pe.nil {L : List Ru} {u : List Nat} {a n s : Nat} (h : Pe L [] u a n s) : False := by cases h
theorem Pe.more {L : List Ru} {c a n s : Nat} {u : List Nat} (h : Pe L [c] u a n s) (l : List Nat) : Pe L (c :: l) u a n s := by
  cases h with
  | here ha => exact Pe.here ha
  | down h1 h2 h => exact Pe.down h1 h2 h
  | skip _ h => exact absurd h.nil (fun h => h)
theorem Pe.split {L : List Ru} {l u : List Nat} {a n s : Nat} (h : Pe L l u a n s) : ∃ l1 c l2 v1 u' x m n' s', l = l1 ++ c :: l2 ∧ Ds L l1 v1 x m ∧ u = v1 ++ u' ∧ n = m + n' ∧ s = m + s' ∧ Pe L [c] u' a n' s' := by
  induction h with
  | @here a l ha => exact ⟨[], a, l, [], [], [], 0, 0, 0, rfl, Ds.nil, rfl, rfl, rfl, Pe.here ha⟩
  | @down k a n s l u h1 h2 h ih => exact ⟨[], _, l, [], u, [], 0, n, s + 1, rfl, Ds.nil, rfl, by omega, by omega, Pe.down h1 h2 h⟩
  | @skip c m a n s l w x u hd h ih =>
    obtain ⟨l1, c', l2, v1, u', x', m', n', s', rfl, e2, rfl, rfl, rfl, e6⟩ := ih
    exact ⟨c :: l1, c', l2, w ++ v1, u', x ++ x', m + m', n', s', rfl, hd.app e2, by simp, by omega, by omega, e6⟩
theorem Pe.build {L : List Ru} {c a n s : Nat} {u : List Nat} (h : Pe L [c] u a n s) (l2 : List Nat) : ∀ (l1 : List Nat) {v x : List Nat} {m : Nat}, Ds L l1 v x m → Pe L (l1 ++ c :: l2) (v ++ u) a (m + n) (m + s)
  | [], v, x, m, hd => by
    obtain ⟨rfl, _, rfl⟩ := hd.nil_inv
    simpa using h.more l2
  | d :: l1, v, x, m, hd => by
    obtain ⟨w1, x1, n1, w2, x2, n2, h1, h2, rfl, _, rfl⟩ := hd.cons_inv
    have := Pe.skip h1 (Pe.build h l2 l1 h2)
    rw [List.append_assoc, Nat.add_assoc, Nat.add_assoc]
    exact this
def MinP (L : List Ru) (a c : Nat) (u : List Nat) (s : Nat) : Prop := (∃ n, Pe L [c] u a n s) ∧ ∀ t, (∃ n, Pe L [c] u a n t) → s ≤ t
theorem minP_ex {L : List Ru} {a c n s : Nat} {u : List Nat} (h : Pe L [c] u a n s) : ∃ m, MinP L a c u m ∧ m ≤ s := by
  obtain ⟨m, h1, h2, h3⟩ := least (P := fun s => ∃ n, Pe L [c] u a n s) s ⟨n, h⟩
  exact ⟨m, ⟨h1, h3⟩, h2⟩
theorem MinP.uniq {L : List Ru} {a c s t : Nat} {u : List Nat} (h : MinP L a c u s) (k : MinP L a c u t) : s = t := Nat.le_antisymm (h.2 t k.1) (k.2 s h.1)
theorem pre_claim {L : List Ru} {E : Nat} (hE : ∀ c x n, Ds L [c] [] x n → ∃ x' m, m ≤ E ∧ Ds L [c] [] x' m) (a : Nat) : ∀ (j s c : Nat) (u : List Nat), u.length ≤ j → MinP L a c u s → ∃ U : Nat → Bool, s ≤ 2 * u.length * cst L E + sumU (fun k => 1 + (rget L k).R.size * E) U (L.length - 1) ∧ ∀ k, U k = true → 1 ≤ k ∧ k < L.length ∧ ∃ s', MinP L a (rget L k).L u s' ∧ s' ≤ s := by
  intro j
  induction j with
  | zero =>
    intro s
    induction s using Nat.strongRecOn with
    | _ s ihs =>
      intro c u hu hm
      have hu0 : u = [] := List.length_eq_zero_iff.1 (by omega)
      subst hu0
      obtain ⟨n, hn⟩ := hm.1
      generalize hl : [c] = l at hn
      generalize hu' : ([] : List Nat) = u at hn
      cases hn with
      | here ha => exact ⟨fun _ => false, by omega, fun k hk => by cases hk⟩
      | skip _ h =>
        obtain ⟨_, rfl⟩ := List.cons.inj hl
        exact absurd h.nil (fun h => h)
      | @down k a n s l u k1 k2 h =>
        obtain ⟨rfl, rfl⟩ := List.cons.inj hl
        subst hu'
        obtain ⟨l1, c', l2, v1, u', x, m, n', s', e1, e2, e3, e4, e5, e6⟩ := h.split
        obtain ⟨rfl, rfl⟩ := List.append_eq_nil_iff.1 e3.symm
        obtain ⟨s0, hs0, hs0'⟩ := minP_ex e6
        obtain ⟨n0, hn0⟩ := hs0.1
        obtain ⟨x1, m1, hm1, hd1⟩ := eps_list (L := L) (M := E) l1 (fun c hc => by
          obtain ⟨x', m', _, hd⟩ := eps_mem e2 c hc
          exact hE _ _ _ hd)
        have hle := hm.2 _ ⟨_, Pe.down (l := []) k1 k2 (by rw [e1]; exact hn0.build l2 l1 hd1)⟩
        have hl1 : l1.length ≤ (rget L k).R.size := by rw [← zah, e1, List.length_append]; omega
        have hl1E : l1.length * E ≤ (rget L k).R.size * E := Nat.mul_le_mul_right _ hl1
        obtain ⟨U0, hU0, hU1⟩ := ihs s0 (by omega) c' [] (by simp) hs0
        have hkU : U0 k = false := by
          cases e : U0 k
          · rfl
          · obtain ⟨_, _, t, h2, h3⟩ := hU1 k e
            have := h2.uniq hm
            omega
        refine ⟨fun i => U0 i || i == k, ?_, fun i hi => ?_⟩
        · rw [sumU_add hkU k1 _ (by omega)]; omega
        · rw [Bool.or_eq_true] at hi
          rcases hi with hi | hi
          · obtain ⟨a', b, t, h2, h3⟩ := hU1 i hi
            exact ⟨a', b, t, h2, by omega⟩
          · have : i = k := by simpa using hi
            subst this
            exact ⟨k1, k2, _, hm, Nat.le_refl _⟩
  | succ j ihj =>
    intro s
    induction s using Nat.strongRecOn with
    | _ s ihs =>
      intro c u hu hm
      obtain ⟨n, hn⟩ := hm.1
      generalize hl : [c] = l at hn
      generalize hu' : u = uu at hn
      cases hn with
      | here ha => exact ⟨fun _ => false, by omega, fun k hk => by cases hk⟩
      | skip _ h =>
        obtain ⟨_, rfl⟩ := List.cons.inj hl
        exact absurd h.nil (fun h => h)
      | @down k a n s l u k1 k2 h =>
        obtain ⟨rfl, rfl⟩ := List.cons.inj hl
        subst hu'
        obtain ⟨l1, c', l2, v1, u', x, m, n', s', e1, e2, e3, e4, e5, e6⟩ := h.split
        obtain ⟨s0, hs0, hs0'⟩ := minP_ex e6
        obtain ⟨n0, hn0⟩ := hs0.1
        have hl1 : l1.length ≤ (rget L k).R.size := by rw [← zah, e1, List.length_append]; omega
        have hl1E : l1.length * E ≤ (rget L k).R.size * E := Nat.mul_le_mul_right _ hl1
        by_cases hv : v1 = []
        · subst hv
          rw [List.nil_append] at e3
          subst e3
          obtain ⟨x1, m1, hm1, hd1⟩ := eps_list (L := L) (M := E) l1 (fun c hc => by
            obtain ⟨x', m', _, hd⟩ := eps_mem e2 c hc
            exact hE _ _ _ hd)
          have hle := hm.2 _ ⟨_, Pe.down (l := []) k1 k2 (by rw [e1]; exact hn0.build l2 l1 hd1)⟩
          obtain ⟨U0, hU0, hU1⟩ := ihs s0 (by omega) c' u hu hs0
          have hkU : U0 k = false := by
            cases e : U0 k
            · rfl
            · obtain ⟨_, _, t, h2, h3⟩ := hU1 k e
              have := h2.uniq hm
              omega
          refine ⟨fun i => U0 i || i == k, ?_, fun i hi => ?_⟩
          · rw [sumU_add hkU k1 _ (by omega)]; omega
          · rw [Bool.or_eq_true] at hi
            rcases hi with hi | hi
            · obtain ⟨a', b, t, h2, h3⟩ := hU1 i hi
              exact ⟨a', b, t, h2, by omega⟩
            · have : i = k := by simpa using hi
              subst this
              exact ⟨k1, k2, _, hm, Nat.le_refl _⟩
        · obtain ⟨p, mx, hp⟩ := prt_of e2
          obtain ⟨q1, q2, q3, q4⟩ := hp.le
          have hp0 : p ≠ 0 := fun e => hv (q4 e)
          obtain ⟨x1, m1, hm1, hd1⟩ := hp.bound hE (C := cst L E) (fun c' w' hne' _ ⟨x', n', hd'⟩ => by
            obtain ⟨x2, m2, h2, h3⟩ := way_bound hE hne' hd'
            exact ⟨x2, m2, h2, h3⟩)
          have hle := hm.2 _ ⟨_, Pe.down (l := []) k1 k2 (by rw [e1, e3]; exact hn0.build l2 l1 hd1)⟩
          have hvl : 1 ≤ v1.length := List.length_pos_iff.2 hv
          have hul : u.length = v1.length + u'.length := by rw [e3, List.length_append]
          obtain ⟨U0, hU0, _⟩ := ihj s0 c' u' (by omega) hs0
          have hU := sumU_all (fun k => 1 + (rget L k).R.size * E) U0 (L.length - 1)
          have h1p : 1 * cst L E ≤ p * cst L E := Nat.mul_le_mul_right _ (by omega)
          refine ⟨fun i => false || i == k, ?_, fun i hi => ?_⟩
          · rw [sumU_one k1 (by omega), hul, Nat.mul_add, Nat.add_mul]
            unfold cst at *
            omega
          · have : i = k := by simpa using hi
            subst this
            exact ⟨k1, k2, _, hm, Nat.le_refl _⟩
theorem Rd_bnd {L : List Ru} (h : GrSz L) {S a n : Nat} {u : List Nat} (hu : u.length < 12) (hp : Pd L [S] u a n) : ∃ m, m < 1048576 ∧ Pd L [S] u a m := by
  obtain ⟨s, hs⟩ := hp.pe
  obtain ⟨s0, hs0, _⟩ := minP_ex hs
  obtain ⟨U0, hU0, _⟩ := pre_claim (E := 2048) (fun c x n hd => eps_bound h hd) a u.length s0 S u (Nat.le_refl _) hs0
  obtain ⟨m, hm⟩ := hs0.1
  have hU := sumU_all (fun k => 1 + (rget L k).R.size * 2048) U0 (L.length - 1)
  have hc := cst_le h
  have h1 : 2 * u.length * cst L 2048 ≤ 22 * cst L 2048 := Nat.mul_le_mul_right _ (by omega)
  obtain ⟨h2, h3⟩ := hm.pd
  refine ⟨m, ?_, h2⟩
  unfold cst at *
  omega
end Go.Proofs.YtkglggkkbmmjkabGreatDoor
