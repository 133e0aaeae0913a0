import Derived.Test.YtkglggkkbmmjkaaDoorH15LrB
namespace Go.Proofs.YtkglggkkbmmjkaaDoor
open Go.RowKit

/-- letters derive a word, part by part: how many parts are not empty; none is longer than m; how many replacements -/
inductive Prt (L : List Ru) : List Nat → List Nat → Nat → Nat → Nat → Prop
  | nil : Prt L [] [] 0 0 0
  | cons0 {c p m n q : Nat} {l w x : List Nat} : Ds L [c] [] x n → Prt L l w p m q → Prt L (c :: l) w p m (n + q)
  | cons1 {c p m n q : Nat} {l w1 w2 x : List Nat} : Ds L [c] w1 x n → w1 ≠ [] → Prt L l w2 p m q → Prt L (c :: l) (w1 ++ w2) (p + 1) (max w1.length m) (n + q)
theorem prt_of {L : List Ru} : ∀ {l w x : List Nat} {n : Nat}, Ds L l w x n → ∃ p m, Prt L l w p m n
  | [], w, x, n, h => by
    obtain ⟨rfl, _, rfl⟩ := h.nil_inv
    exact ⟨0, 0, Prt.nil⟩
  | c :: l, w, x, n, h => by
    obtain ⟨w1, x1, n1, w2, x2, n2, h1, h2, rfl, _, rfl⟩ := h.cons_inv
    obtain ⟨p, m, hp⟩ := prt_of h2
    cases w1 with
    | nil => exact ⟨p, m, Prt.cons0 h1 hp⟩
    | cons a w1 => exact ⟨p + 1, _, Prt.cons1 h1 (by simp) hp⟩
theorem Prt.zero {L : List Ru} {l w : List Nat} {p m q : Nat} (h : Prt L l w p m q) (hp : p = 0) : w = [] ∧ m = 0 ∧ ∀ c ∈ l, ∃ x n, Ds L [c] [] x n := by
  induction h with
  | nil => exact ⟨rfl, rfl, fun c hc => by cases hc⟩
  | cons0 hd _ ih =>
    obtain ⟨a, b, d⟩ := ih hp
    refine ⟨a, b, fun c hc => ?_⟩
    rcases List.mem_cons.1 hc with rfl | hc
    · exact ⟨_, _, hd⟩
    · exact d c hc
  | cons1 _ _ _ _ => omega
theorem Prt.le {L : List Ru} {l w : List Nat} {p m q : Nat} (h : Prt L l w p m q) : p ≤ l.length ∧ m + (p - 1) ≤ w.length ∧ p ≤ w.length ∧ (p = 0 → w = []) := by
  induction h with
  | nil => simp
  | cons0 _ _ ih => rw [List.length_cons]; exact ⟨by omega, ih.2⟩
  | @cons1 c p m n q l w1 w2 x _ hne hl ih =>
    have : 0 < w1.length := List.length_pos_iff.2 hne
    rw [List.length_cons, List.length_append]
    obtain ⟨a, b, c', d⟩ := ih
    refine ⟨by omega, ?_, by omega, by omega⟩
    by_cases hp : p = 0
    · have := (hl.zero hp).2.1
      omega
    · omega
/-- short parts, short ways -/
theorem Prt.bound {L : List Ru} {E C : Nat} (hE : ∀ c x n, Ds L [c] [] x n → ∃ x' m, m ≤ E ∧ Ds L [c] [] x' m) {l w : List Nat} {p m q : Nat} (h : Prt L l w p m q) (hS : ∀ c w', w' ≠ [] → w'.length ≤ m → (∃ x n, Ds L [c] w' x n) → ∃ x n, n + C ≤ 2 * w'.length * C ∧ Ds L [c] w' x n) :
    ∃ x n, n + p * C ≤ 2 * w.length * C + l.length * E ∧ Ds L l w x n := by
  induction h with
  | nil => exact ⟨[], 0, by simp, Ds.nil⟩
  | cons0 hd _ ih =>
    obtain ⟨x1, n1, h1, d1⟩ := hE _ _ _ hd
    obtain ⟨x2, n2, h2, d2⟩ := ih hS
    refine ⟨x1 ++ x2, n1 + n2, ?_, d1.app d2⟩
    rw [List.length_cons, Nat.add_mul]; omega
  | @cons1 c p m n q l w1 w2 x hd hne _ ih =>
    obtain ⟨x1, n1, h1, d1⟩ := hS c w1 hne (by omega) ⟨x, n, hd⟩
    obtain ⟨x2, n2, h2, d2⟩ := ih (fun c w' a b => hS c w' a (by omega))
    refine ⟨x1 ++ x2, n1 + n2, ?_, d1.app d2⟩
    rw [List.length_cons, List.length_append, Nat.add_mul p 1 C, Nat.mul_add 2, Nat.add_mul (2 * w1.length), Nat.add_mul l.length]; omega
/-- one part alone -/
theorem Prt.one {L : List Ru} {E : Nat} (hE : ∀ c x n, Ds L [c] [] x n → ∃ x' m, m ≤ E ∧ Ds L [c] [] x' m) {l w : List Nat} {p m q : Nat} (h : Prt L l w p m q) (hp : p = 1) : ∃ c x n, Ds L [c] w x n ∧ n ≤ q ∧ ∀ x0 n0, Ds L [c] w x0 n0 → ∃ x' n', n' ≤ n0 + l.length * E ∧ Ds L l w x' n' := by
  induction h with
  | nil => omega
  | @cons0 c0 p m n q l w x hd _ ih =>
    obtain ⟨c, x, n, h1, hq, h2⟩ := ih hp
    refine ⟨c, x, n, h1, by omega, fun x0 n0 h0 => ?_⟩
    obtain ⟨x', n', h3, h4⟩ := h2 x0 n0 h0
    obtain ⟨x1, n1, h5, h6⟩ := hE _ _ _ hd
    refine ⟨x1 ++ x', n1 + n', ?_, h6.app h4⟩
    rw [List.length_cons, Nat.add_mul]; omega
  | @cons1 c p m n q l w1 w2 x hd hne hl ih =>
    have hp0 : p = 0 := by omega
    obtain ⟨rfl, _, hz⟩ := hl.zero hp0
    refine ⟨c, x, n, by simpa using hd, by omega, fun x0 n0 h0 => ?_⟩
    obtain ⟨x2, n2, h5, h6⟩ := eps_list (L := L) (M := E) l (fun c hc => by
      obtain ⟨x, n, hd⟩ := hz c hc
      exact hE _ _ _ hd)
    refine ⟨x0 ++ x2, n0 + n2, ?_, by simpa using h0.app h6⟩
    rw [List.length_cons, Nat.add_mul]; omega
def cst (L : List Ru) (E : Nat) : Nat := sumU (fun k => 1 + (rget L k).R.size * E) (fun _ => true) (L.length - 1)
theorem sumU_one {f : Nat → Nat} {k n : Nat} (h1 : 1 ≤ k) (h2 : k ≤ n) : sumU f (fun i => false || i == k) n = f k := by
  rw [sumU_add (f := f) (U := fun _ => false) (k := k) rfl h1 n h2, sumU_none]; omega
/-- what does not vanish -/
theorem way_claim {L : List Ru} {E : Nat} (hE : ∀ c x n, Ds L [c] [] x n → ∃ x' m, m ≤ E ∧ Ds L [c] [] x' m) : ∀ (s n c : Nat) (w : List Nat), w.length ≤ s → w ≠ [] → MinW L c w n → ∃ U : Nat → Bool, n + 2 * cst L E ≤ 2 * w.length * cst L E + sumU (fun k => 1 + (rget L k).R.size * E) U (L.length - 1) ∧ ∀ k, U k = true → 1 ≤ k ∧ k < L.length ∧ ∃ n', MinW L (rget L k).L w n' ∧ n' ≤ n := by
  intro s
  induction s with
  | zero =>
    intro n c w hw hne
    exact absurd (List.length_eq_zero_iff.1 (by omega)) hne
  | succ s ihs =>
    intro n
    induction n using Nat.strongRecOn with
    | _ n ihn =>
      intro c w hw hne hm
      have hwl : 1 ≤ w.length := List.length_pos_iff.2 hne
      have h2C : 2 * cst L E ≤ 2 * w.length * cst L E := Nat.mul_le_mul_right _ (by omega)
      obtain ⟨x, hx⟩ := hm.1
      generalize hw0 : w = w0 at hx
      generalize hl : [c] = l at hx
      cases hx with
      | nil => cases hl
      | small hc hd =>
        obtain ⟨rfl, rfl⟩ := List.cons.inj hl
        obtain ⟨rfl, rfl, rfl⟩ := hd.nil_inv
        subst hw0
        exact ⟨fun _ => false, by omega, fun k hk => by cases hk⟩
      | @big k l w1 w2 x1 x2 n1 n2 k1 k2 hd1 hd2 =>
        obtain ⟨rfl, rfl⟩ := List.cons.inj hl
        obtain ⟨rfl, rfl, rfl⟩ := hd2.nil_inv
        simp only [List.append_nil] at hw0 ⊢
        subst hw0
        obtain ⟨p, m, hp⟩ := prt_of hd1
        obtain ⟨q1, q2, q3, q4⟩ := hp.le
        have hp0 : p ≠ 0 := fun e => hne (q4 e)
        by_cases h1 : p = 1
        · obtain ⟨c', x', n', hd', hn', hrep⟩ := hp.one hE h1
          obtain ⟨n0, hn0, hn0'⟩ := minW_ex hd'
          obtain ⟨x0, hx0⟩ := hn0.1
          obtain ⟨x3, n3, hn3, hd3⟩ := hrep x0 n0 hx0
          have hle := hm.2 _ ⟨_, Ds.one k1 k2 hd3⟩
          rw [bytes_len] at hn3
          obtain ⟨U0, hU0, hU1⟩ := ihn n0 (by omega) c' w hw hne hn0
          have hkU : U0 k = false := by
            cases e : U0 k
            · rfl
            · obtain ⟨_, _, n2, h2, h3⟩ := hU1 k e
              have := h2.uniq hm
              omega
          refine ⟨fun i => U0 i || i == k, ?_, fun i hi => ?_⟩
          · rw [sumU_add hkU k1 _ (by omega)]; omega
          · rw [Bool.or_eq_true] at hi
            rcases hi with hi | hi
            · obtain ⟨a, b, n2, h2, h3⟩ := hU1 i hi
              exact ⟨a, b, n2, h2, by omega⟩
            · have : i = k := by simpa using hi
              subst this
              exact ⟨k1, k2, _, hm, Nat.le_refl _⟩
        · obtain ⟨x3, n3, hn3, hd3⟩ := hp.bound hE (C := cst L E) (fun c' w' hne' hl' ⟨x', n', hd'⟩ => by
            obtain ⟨n0, hn0, _⟩ := minW_ex hd'
            obtain ⟨U0, hU0, _⟩ := ihs n0 c' w' (by omega) hne' hn0
            obtain ⟨x0, hx0⟩ := hn0.1
            have := sumU_all (fun k => 1 + (rget L k).R.size * E) U0 (L.length - 1)
            unfold cst at *
            exact ⟨x0, n0, by omega, hx0⟩)
          have hle := hm.2 _ ⟨_, Ds.one k1 k2 hd3⟩
          rw [bytes_len] at hn3
          have h2p : 2 * cst L E ≤ p * cst L E := Nat.mul_le_mul_right _ (by omega)
          refine ⟨fun i => false || i == k, ?_, fun i hi => ?_⟩
          · rw [sumU_one k1 (by omega)]; omega
          · have : i = k := by simpa using hi
            subst this
            exact ⟨k1, k2, _, hm, Nat.le_refl _⟩
theorem way_bound {L : List Ru} {E : Nat} (hE : ∀ c x n, Ds L [c] [] x n → ∃ x' m, m ≤ E ∧ Ds L [c] [] x' m) {c n : Nat} {w x : List Nat} (hne : w ≠ []) (hd : Ds L [c] w x n) : ∃ x' m, m + cst L E ≤ 2 * w.length * cst L E ∧ Ds L [c] w x' m := by
  obtain ⟨n0, hn0, _⟩ := minW_ex hd
  obtain ⟨U0, hU0, _⟩ := way_claim hE w.length n0 c w (Nat.le_refl _) hne hn0
  obtain ⟨x0, hx0⟩ := hn0.1
  have := sumU_all (fun k => 1 + (rget L k).R.size * E) U0 (L.length - 1)
  refine ⟨x0, n0, ?_, hx0⟩
  unfold cst at *
  omega
theorem cst_le {L : List Ru} (h : GrSz L) : cst L 2048 ≤ 43016 := by
  have hs := h.sz
  have key : ∀ n, sumU (fun k => 1 + (rget L k).R.size * 2048) (fun _ => true) n + 2048 * (3 * n) ≤ n + 2048 * sumU (fun k => (rget L k).R.size + 3) (fun _ => true) n := by
    intro n
    induction n with
    | zero => simp [sumU]
    | succ n ih => simp only [sumU, if_true]; omega
  have r4 : ∀ n, sumU (fun k => (rget L k).R.size + 3) (fun _ => true) n ≤ 7 * n := by
    intro n
    induction n with
    | zero => simp [sumU]
    | succ n ih => have := h.r4 (n + 1); simp only [sumU, if_true]; omega
  have h9 := h.l9
  have k1 := key (L.length - 1)
  have k2 := r4 (L.length - 1)
  unfold cst
  omega
theorem Rd_bnd2 {L : List Ru} (h : GrSz L) {S : Nat} {w x : List Nat} {n : Nat} (hw : w.length ≤ 12) (hd : Ds L [S] w x n) : ∃ x' m, m < 1048576 ∧ Ds L [S] w x' m := by
  by_cases hne : w = []
  · subst hne
    obtain ⟨x', m, hm, hd'⟩ := eps_bound h hd
    exact ⟨x', m, by omega, hd'⟩
  · obtain ⟨x', m, hm, hd'⟩ := way_bound (fun c x n hd => eps_bound h hd) hne hd
    have hc := cst_le h
    have h1 : 2 * w.length * cst L 2048 ≤ 24 * cst L 2048 := Nat.mul_le_mul_right _ (by omega)
    exact ⟨x', m, by omega, hd'⟩
end Go.Proofs.YtkglggkkbmmjkaaDoor

namespace Go.Proofs.YtkglggkkbmmjkaaDoor
open Go.RowKit

/-- as Pd, with the replacements that are begun -/
inductive Pe (L : List Ru) : List Nat → List Nat → Nat → Nat → Nat → Prop
  | here {a : Nat} {l : List Nat} : smallB a = true → Pe L (a :: l) [] a 0 0
  | down {k a n s : Nat} {l u : List Nat} : 1 ≤ k → k < L.length → Pe L (bytes (rget L k).R) u a n s → Pe L ((rget L k).L :: l) u a n (s + 1)
  | skip {c m a n s : Nat} {l w x u : List Nat} : Ds L [c] w x m → Pe L l u a n s → Pe L (c :: l) (w ++ u) a (m + n) (m + s)
theorem Pe.pd {L : List Ru} {l u : List Nat} {a n s : Nat} (h : Pe L l u a n s) : Pd L l u a n ∧ n ≤ s := by
  induction h with
  | here ha => exact ⟨Pd.here ha, Nat.le_refl _⟩
  | down h1 h2 _ ih => exact ⟨Pd.down h1 h2 ih.1, by omega⟩
  | skip hd _ ih => exact ⟨Pd.skip hd ih.1, by omega⟩
theorem Pd.pe {L : List Ru} {l u : List Nat} {a n : Nat} (h : Pd L l u a n) : ∃ s, Pe L l u a n s := by
  induction h with
  | here ha => exact ⟨0, Pe.here ha⟩
  | down h1 h2 _ ih => obtain ⟨s, hs⟩ := ih; exact ⟨s + 1, Pe.down h1 h2 hs⟩
  | skip hd _ ih => obtain ⟨s, hs⟩ := ih; exact ⟨_, Pe.skip hd hs⟩
theorem Pe.nil {L : List Ru} {u : List Nat} {a n s : Nat} (h : Pe L [] u a n s) : False := by cases h
theorem Pe.more {L : List Ru} {c a n s : Nat} {u : List Nat} (h : Pe L [c] u a n s) (l : List Nat) : Pe L (c :: l) u a n s := by
  cases h with
  | here ha => exact Pe.here ha
  | down h1 h2 h => exact Pe.down h1 h2 h
  | skip _ h => exact absurd h.nil (fun h => h)
theorem Pe.split {L : List Ru} {l u : List Nat} {a n s : Nat} (h : Pe L l u a n s) : ∃ l1 c l2 v1 u' x m n' s', l = l1 ++ c :: l2 ∧ Ds L l1 v1 x m ∧ u = v1 ++ u' ∧ n = m + n' ∧ s = m + s' ∧ Pe L [c] u' a n' s' := by
  induction h with
  | @here a l ha => exact ⟨[], a, l, [], [], [], 0, 0, 0, rfl, Ds.nil, rfl, rfl, rfl, Pe.here ha⟩
  | @down k a n s l u h1 h2 h ih => exact ⟨[], _, l, [], u, [], 0, n, s + 1, rfl, Ds.nil, rfl, by omega, by omega, Pe.down h1 h2 h⟩
  | @skip c m a n s l w x u hd h ih =>
    obtain ⟨l1, c', l2, v1, u', x', m', n', s', rfl, e2, rfl, rfl, rfl, e6⟩ := ih
    exact ⟨c :: l1, c', l2, w ++ v1, u', x ++ x', m + m', n', s', rfl, hd.app e2, by simp, by omega, by omega, e6⟩
theorem Pe.build {L : List Ru} {c a n s : Nat} {u : List Nat} (h : Pe L [c] u a n s) (l2 : List Nat) : ∀ (l1 : List Nat) {v x : List Nat} {m : Nat}, Ds L l1 v x m → Pe L (l1 ++ c :: l2) (v ++ u) a (m + n) (m + s)
  | [], v, x, m, hd => by
    obtain ⟨rfl, _, rfl⟩ := hd.nil_inv
    simpa using h.more l2
  | d :: l1, v, x, m, hd => by
    obtain ⟨w1, x1, n1, w2, x2, n2, h1, h2, rfl, _, rfl⟩ := hd.cons_inv
    have := Pe.skip h1 (Pe.build h l2 l1 h2)
    rw [List.append_assoc, Nat.add_assoc, Nat.add_assoc]
    exact this
def MinP (L : List Ru) (a c : Nat) (u : List Nat) (s : Nat) : Prop := (∃ n, Pe L [c] u a n s) ∧ ∀ t, (∃ n, Pe L [c] u a n t) → s ≤ t
theorem minP_ex {L : List Ru} {a c n s : Nat} {u : List Nat} (h : Pe L [c] u a n s) : ∃ m, MinP L a c u m ∧ m ≤ s := by
  obtain ⟨m, h1, h2, h3⟩ := least (P := fun s => ∃ n, Pe L [c] u a n s) s ⟨n, h⟩
  exact ⟨m, ⟨h1, h3⟩, h2⟩
theorem MinP.uniq {L : List Ru} {a c s t : Nat} {u : List Nat} (h : MinP L a c u s) (k : MinP L a c u t) : s = t := Nat.le_antisymm (h.2 t k.1) (k.2 s h.1)
/-- what is done ahead of a letter -/
theorem pre_claim {L : List Ru} {E : Nat} (hE : ∀ c x n, Ds L [c] [] x n → ∃ x' m, m ≤ E ∧ Ds L [c] [] x' m) (a : Nat) : ∀ (j s c : Nat) (u : List Nat), u.length ≤ j → MinP L a c u s → ∃ U : Nat → Bool, s ≤ 2 * u.length * cst L E + sumU (fun k => 1 + (rget L k).R.size * E) U (L.length - 1) ∧ ∀ k, U k = true → 1 ≤ k ∧ k < L.length ∧ ∃ s', MinP L a (rget L k).L u s' ∧ s' ≤ s := by
  intro j
  induction j with
  | zero =>
    intro s
    induction s using Nat.strongRecOn with
    | _ s ihs =>
      intro c u hu hm
      have hu0 : u = [] := List.length_eq_zero_iff.1 (by omega)
      subst hu0
      obtain ⟨n, hn⟩ := hm.1
      generalize hl : [c] = l at hn
      generalize hu' : ([] : List Nat) = u at hn
      cases hn with
      | here ha => exact ⟨fun _ => false, by omega, fun k hk => by cases hk⟩
      | skip _ h =>
        obtain ⟨_, rfl⟩ := List.cons.inj hl
        exact absurd h.nil (fun h => h)
      | @down k a n s l u k1 k2 h =>
        obtain ⟨rfl, rfl⟩ := List.cons.inj hl
        subst hu'
        obtain ⟨l1, c', l2, v1, u', x, m, n', s', e1, e2, e3, e4, e5, e6⟩ := h.split
        obtain ⟨rfl, rfl⟩ := List.append_eq_nil_iff.1 e3.symm
        obtain ⟨s0, hs0, hs0'⟩ := minP_ex e6
        obtain ⟨n0, hn0⟩ := hs0.1
        obtain ⟨x1, m1, hm1, hd1⟩ := eps_list (L := L) (M := E) l1 (fun c hc => by
          obtain ⟨x', m', _, hd⟩ := eps_mem e2 c hc
          exact hE _ _ _ hd)
        have hle := hm.2 _ ⟨_, Pe.down (l := []) k1 k2 (by rw [e1]; exact hn0.build l2 l1 hd1)⟩
        have hl1 : l1.length ≤ (rget L k).R.size := by rw [← bytes_len, e1, List.length_append]; omega
        have hl1E : l1.length * E ≤ (rget L k).R.size * E := Nat.mul_le_mul_right _ hl1
        obtain ⟨U0, hU0, hU1⟩ := ihs s0 (by omega) c' [] (by simp) hs0
        have hkU : U0 k = false := by
          cases e : U0 k
          · rfl
          · obtain ⟨_, _, t, h2, h3⟩ := hU1 k e
            have := h2.uniq hm
            omega
        refine ⟨fun i => U0 i || i == k, ?_, fun i hi => ?_⟩
        · rw [sumU_add hkU k1 _ (by omega)]; omega
        · rw [Bool.or_eq_true] at hi
          rcases hi with hi | hi
          · obtain ⟨a', b, t, h2, h3⟩ := hU1 i hi
            exact ⟨a', b, t, h2, by omega⟩
          · have : i = k := by simpa using hi
            subst this
            exact ⟨k1, k2, _, hm, Nat.le_refl _⟩
  | succ j ihj =>
    intro s
    induction s using Nat.strongRecOn with
    | _ s ihs =>
      intro c u hu hm
      obtain ⟨n, hn⟩ := hm.1
      generalize hl : [c] = l at hn
      generalize hu' : u = uu at hn
      cases hn with
      | here ha => exact ⟨fun _ => false, by omega, fun k hk => by cases hk⟩
      | skip _ h =>
        obtain ⟨_, rfl⟩ := List.cons.inj hl
        exact absurd h.nil (fun h => h)
      | @down k a n s l u k1 k2 h =>
        obtain ⟨rfl, rfl⟩ := List.cons.inj hl
        subst hu'
        obtain ⟨l1, c', l2, v1, u', x, m, n', s', e1, e2, e3, e4, e5, e6⟩ := h.split
        obtain ⟨s0, hs0, hs0'⟩ := minP_ex e6
        obtain ⟨n0, hn0⟩ := hs0.1
        have hl1 : l1.length ≤ (rget L k).R.size := by rw [← bytes_len, e1, List.length_append]; omega
        have hl1E : l1.length * E ≤ (rget L k).R.size * E := Nat.mul_le_mul_right _ hl1
        by_cases hv : v1 = []
        · subst hv
          rw [List.nil_append] at e3
          subst e3
          obtain ⟨x1, m1, hm1, hd1⟩ := eps_list (L := L) (M := E) l1 (fun c hc => by
            obtain ⟨x', m', _, hd⟩ := eps_mem e2 c hc
            exact hE _ _ _ hd)
          have hle := hm.2 _ ⟨_, Pe.down (l := []) k1 k2 (by rw [e1]; exact hn0.build l2 l1 hd1)⟩
          obtain ⟨U0, hU0, hU1⟩ := ihs s0 (by omega) c' u hu hs0
          have hkU : U0 k = false := by
            cases e : U0 k
            · rfl
            · obtain ⟨_, _, t, h2, h3⟩ := hU1 k e
              have := h2.uniq hm
              omega
          refine ⟨fun i => U0 i || i == k, ?_, fun i hi => ?_⟩
          · rw [sumU_add hkU k1 _ (by omega)]; omega
          · rw [Bool.or_eq_true] at hi
            rcases hi with hi | hi
            · obtain ⟨a', b, t, h2, h3⟩ := hU1 i hi
              exact ⟨a', b, t, h2, by omega⟩
            · have : i = k := by simpa using hi
              subst this
              exact ⟨k1, k2, _, hm, Nat.le_refl _⟩
        · obtain ⟨p, mx, hp⟩ := prt_of e2
          obtain ⟨q1, q2, q3, q4⟩ := hp.le
          have hp0 : p ≠ 0 := fun e => hv (q4 e)
          obtain ⟨x1, m1, hm1, hd1⟩ := hp.bound hE (C := cst L E) (fun c' w' hne' _ ⟨x', n', hd'⟩ => by
            obtain ⟨x2, m2, h2, h3⟩ := way_bound hE hne' hd'
            exact ⟨x2, m2, h2, h3⟩)
          have hle := hm.2 _ ⟨_, Pe.down (l := []) k1 k2 (by rw [e1, e3]; exact hn0.build l2 l1 hd1)⟩
          have hvl : 1 ≤ v1.length := List.length_pos_iff.2 hv
          have hul : u.length = v1.length + u'.length := by rw [e3, List.length_append]
          obtain ⟨U0, hU0, _⟩ := ihj s0 c' u' (by omega) hs0
          have hU := sumU_all (fun k => 1 + (rget L k).R.size * E) U0 (L.length - 1)
          have h1p : 1 * cst L E ≤ p * cst L E := Nat.mul_le_mul_right _ (by omega)
          refine ⟨fun i => false || i == k, ?_, fun i hi => ?_⟩
          · rw [sumU_one k1 (by omega), hul, Nat.mul_add, Nat.add_mul]
            unfold cst at *
            omega
          · have : i = k := by simpa using hi
            subst this
            exact ⟨k1, k2, _, hm, Nat.le_refl _⟩
theorem Rd_bnd {L : List Ru} (h : GrSz L) {S a n : Nat} {u : List Nat} (hu : u.length < 12) (hp : Pd L [S] u a n) : ∃ m, m < 1048576 ∧ Pd L [S] u a m := by
  obtain ⟨s, hs⟩ := hp.pe
  obtain ⟨s0, hs0, _⟩ := minP_ex hs
  obtain ⟨U0, hU0, _⟩ := pre_claim (E := 2048) (fun c x n hd => eps_bound h hd) a u.length s0 S u (Nat.le_refl _) hs0
  obtain ⟨m, hm⟩ := hs0.1
  have hU := sumU_all (fun k => 1 + (rget L k).R.size * 2048) U0 (L.length - 1)
  have hc := cst_le h
  have h1 : 2 * u.length * cst L 2048 ≤ 22 * cst L 2048 := Nat.mul_le_mul_right _ (by omega)
  obtain ⟨h2, h3⟩ := hm.pd
  refine ⟨m, ?_, h2⟩
  unfold cst at *
  omega
end Go.Proofs.YtkglggkkbmmjkaaDoor
