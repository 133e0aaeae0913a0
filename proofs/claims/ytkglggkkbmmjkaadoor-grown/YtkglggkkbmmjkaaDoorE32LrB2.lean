import Derived.Test.YtkglggkkbmmjkaaDoorE30LrP
import Derived.Test.YtkglggkkbmmjkaaDoorE31LrHt
namespace Go.Proofs.YtkglggkkbmmjkaaDoor
open Go.RowKit

def readM (L : List Ru) (r : Tb) (F : Nat) : List Nat → Stk → Nat × Stk
  | [], st => (0, st)
  | a :: l, st => match settleM L r a F st with
    | (false, st') => (0, st')
    | (true, st') => ((readM L r F l (((gto r (topS st') a).toNat, [a]) :: st')).1 + 1, (readM L r F l (((gto r (topS st') a).toNat, [a]) :: st')).2)
/-- a beginning of something derived -/
def Good (L : List Ru) (S : Nat) (v : List Nat) : Prop := ∃ z, Acc L S (v ++ z)
/-- all that is asked of the grammar and the table -/
structure Rd (L : List Ru) (N : Nat → Bool) (T : Nat → Nat → Bool) (r : Tb) (S F : Nat) : Prop where
  tab : TabOk L N T r
  so : GrSo L N T
  nocl : NoCl L r
  st0 : bytes (rget L 0).R = [S]
  bnd : ∀ u a n, u.length < 12 → Pd L [S] u a n → ∃ m, m < F ∧ Pd L [S] u a m
  bnd2 : ∀ w x n, w.length ≤ 12 → Ds L [S] w x n → ∃ x' m, m < F ∧ Ds L [S] w x' m
  fpos : 0 < F
/-- the stack behind a text is come to, whatever comes -/
def Rch (L : List Ru) (r : Tb) (st : Stk) (u : List Nat) : Prop := ∃ n0, ∀ rest, Run L r n0 [(0, [])] (u ++ rest) st rest
theorem acc_split {L : List Ru} {S : Nat} {u z : List Nat} {a : Nat} (h : Acc L S (u ++ a :: z)) (ha : smallB a = true) : ∃ w x n z', Ds L [S] w x n ∧ w = u ++ a :: z' := by
  obtain ⟨w, x, n, hd, e⟩ := h
  rcases List.append_eq_append_iff.1 e with ⟨ys, e1, e2⟩ | ⟨zs, e1, e2⟩
  · -- w is longer
    cases ys with
    | nil =>
      rw [List.nil_append] at e2
      obtain ⟨e3, _⟩ := List.cons.inj e2
      rw [e3] at ha; cases ha
    | cons b ys =>
      rw [List.cons_append] at e2
      obtain ⟨rfl, _⟩ := List.cons.inj e2
      exact ⟨w, x, n, ys, hd, e1⟩
  · -- u = w ++ zs, [36] = zs ++ a :: z
    cases zs with
    | nil =>
      rw [List.nil_append] at e2
      obtain ⟨e3, _⟩ := List.cons.inj e2
      rw [← e3] at ha; cases ha
    | cons b zs =>
      have := congrArg List.length e2
      simp at this
theorem acc_end {L : List Ru} {S : Nat} {u v : List Nat} (h : Acc L S (u ++ 36 :: v)) : ∃ x n, Ds L [S] u x n := by
  obtain ⟨w, x, n, hd, e⟩ := h
  have hw := hd.smalls
  rcases List.append_eq_append_iff.1 e with ⟨ys, e1, e2⟩ | ⟨zs, e1, e2⟩
  · cases ys with
    | nil => rw [List.append_nil] at e1; exact ⟨x, n, by rw [← e1]; exact hd⟩
    | cons b ys =>
      rw [List.cons_append] at e2
      obtain ⟨rfl, _⟩ := List.cons.inj e2
      have := hw 36 (by rw [e1]; simp)
      cases this
  · cases zs with
    | nil => rw [List.append_nil] at e1; exact ⟨x, n, by rw [e1]; exact hd⟩
    | cons b zs =>
      have := congrArg List.length e2
      simp at this
theorem Rd.item0 {L : List Ru} {N : Nat → Bool} {T : Nat → Nat → Bool} {r : Tb} {S F : Nat} (h : Rd L N T r S F) : (⟨0, 0, 36⟩ : It) ∈ itm r 0 := (h.tab.zero _).2 (Cl.base rfl)
theorem Rd.noS {L : List Ru} {N : Nat → Bool} {T : Nat → Nat → Bool} {r : Tb} {S F : Nat} (h : Rd L N T r S F) {s : Nat} (hs : s < r.1.length) : canS r s 36 = false := by
  have := h.tab.nolet s hs 36 rfl
  unfold canS gto at *
  rw [this]; rfl
/-- a letter that can come: the reading settles -/
theorem Rd.come {L : List Ru} {N : Nat → Bool} {T : Nat → Nat → Bool} {r : Tb} {S F : Nat} (h : Rd L N T r S F) {st : Stk} {u : List Nat} {a : Nat} (hR : Rch L r st u) (ha : smallB a = true) (hg : Good L S (u ++ [a])) :
    ∃ (k : Nat) (st' : Stk), (u.length < 12 → k < F) ∧ canS r (topS st') a = true ∧ ∀ inp, Run L r k st (a :: inp) st' (a :: inp) := by
  obtain ⟨z, hz⟩ := hg
  rw [List.append_assoc] at hz
  obtain ⟨w, x, n, z', hd, e⟩ := acc_split hz ha
  obtain ⟨m0, hp0⟩ := pd_of hd u a z' e
  obtain ⟨m, hmF, hp⟩ : ∃ m, (u.length < 12 → m < F) ∧ Pd L [S] u a m := by
    by_cases hu : u.length < 12
    · obtain ⟨m, h1, h2⟩ := h.bnd u a m0 hu hp0
      exact ⟨m, fun _ => h1, h2⟩
    · exact ⟨m0, fun e => absurd e hu, hp0⟩
  obtain ⟨n0, hn0⟩ := hR
  have hsame : ∀ inp, ∃ k st', k ≤ m ∧ canS r (topS st') a = true ∧ Run L r k st (a :: inp) st' (a :: inp) := fun inp => by
    obtain ⟨st', f1, f2, f3⟩ := sim_p h.tab h.so hp (xs := []) (st := []) h.tab.pos h.item0 (by simpa using h.st0) inp
    rcases (hn0 (a :: inp)).det h.tab h.nocl f3 with ⟨k, hk, e⟩ | ⟨k, hk, e⟩
    · exact ⟨k, st', by omega, f2, hk⟩
    · generalize hin : a :: inp = inA at hk
      cases hk with
      | refl => subst hin; exact ⟨0, st, by omega, f2, Run.refl⟩
      | shift _ _ _ _ h' =>
        have := h'.len
        rw [List.length_cons] at this; omega
      | @reduce n k s a' j x inp' _ pt st1 _ h0 h1 h2 h3 h4 h5 h6 h7 =>
        obtain ⟨rfl, rfl⟩ := List.cons.inj hin
        have hlen := h.tab.cl.gr.len
        have := h.nocl.sr (k := k) h0 (sigB_small ha) (by omega) f2
        rw [h3] at this; cases this
  -- the same for all that comes
  obtain ⟨k, st', h1, h2, h3⟩ := hsame []
  refine ⟨k, st', fun hu => by have := hmF hu; omega, h2, ?_⟩
  have carry : ∀ (k : Nat) (st st' : Stk), Run L r k st [a] st' [a] → ∀ inp, Run L r k st (a :: inp) st' (a :: inp) := by
    intro k
    induction k with
    | zero =>
      intro st st' hr inp
      generalize hin : [a] = inA at hr
      generalize hz : (0 : Nat) = z at hr
      cases hr with
      | refl => exact Run.refl
      | shift _ _ _ _ h' =>
        have := h'.len
        rw [List.length_cons] at this; omega
      | reduce => omega
    | succ k ih =>
      intro st st' hr inp
      generalize hin : [a] = inA at hr
      generalize hz : k + 1 = z at hr
      cases hr with
      | refl => omega
      | shift _ _ _ _ h' =>
        have := h'.len
        rw [List.length_cons] at this; omega
      | @reduce n k' s a' j x inp' _ pt st1 _ h0 h1 h2 h3 h4 h5 h6 h7 =>
        obtain ⟨rfl, rfl⟩ := List.cons.inj hin
        obtain rfl : k = n := by omega
        exact Run.reduce h0 h1 h2 h3 h4 h5 h6 (ih _ _ h7 inp)
  exact carry k st st' h3
theorem Rd.step {L : List Ru} {N : Nat → Bool} {T : Nat → Nat → Bool} {r : Tb} {S F : Nat} (h : Rd L N T r S F) {st : Stk} {u : List Nat} {a : Nat} (hI : SI L N T r st u) (hR : Rch L r st u) (ha : smallB a = true) (hu : u.length < 12) (hg : Good L S (u ++ [a])) :
    ∃ st' j, settleM L r a F st = (true, st') ∧ gto r (topS st') a = (j : Nat) ∧ SI L N T r ((j, [a]) :: st') (u ++ [a]) ∧ Rch L r ((j, [a]) :: st') (u ++ [a]) ∧ SI L N T r st' u := by
  obtain ⟨k, st', hk, hc, hrun⟩ := h.come hR ha hg
  obtain ⟨e1, hI'⟩ := settle_run h.tab h.nocl k (inp := []) hI (hrun []) (Or.inl hc) (hk hu)
  obtain ⟨s, x, st1, rfl⟩ := hI'.ne
  obtain ⟨j, g1, g2, g3⟩ := hI'.shift h.tab ha hc
  obtain ⟨n0, hn0⟩ := hR
  refine ⟨_, j, e1, g1, g3, ⟨n0 + k, fun rest => ?_⟩, hI'⟩
  have := (hn0 (a :: rest)).trans ((hrun rest).trans (Run.shift (hI'.lt h.tab.pos) ha g1 g2 Run.refl))
  simpa using this
/-- nothing can be done for a letter that cannot come -/
theorem Rd.none {L : List Ru} {N : Nat → Bool} {T : Nat → Nat → Bool} {r : Tb} {S F : Nat} (h : Rd L N T r S F) {st : Stk} {u : List Nat} {a : Nat} (hI : SI L N T r st u) (ha : smallB a = true) (hg : ¬ Good L S (u ++ [a])) :
    canS r (topS st) a = false ∧ ∀ k, canR L r (topS st) a k = false := by
  refine ⟨?_, fun k => ?_⟩
  · cases e : canS r (topS st) a
    · rfl
    · obtain ⟨v, hv⟩ := hI.good h.tab h.so h.st0 (Or.inl ⟨ha, e⟩)
      exact absurd ⟨v, by simpa using hv⟩ hg
  · cases e : canR L r (topS st) a k
    · rfl
    · obtain ⟨v, hv⟩ := hI.good h.tab h.so h.st0 (Or.inr ⟨k, e⟩)
      exact absurd ⟨v, by simpa using hv⟩ hg
/-- a text is read ys far ys it is good -/
theorem Rd.read {L : List Ru} {N : Nat → Bool} {T : Nat → Nat → Bool} {r : Tb} {S F : Nat} (h : Rd L N T r S F) : ∀ (l : List Nat) {st : Stk} {u : List Nat}, SI L N T r st u → Rch L r st u → (∀ c ∈ l, smallB c = true) → u.length + l.length ≤ 12 →
    (readM L r F l st).1 ≤ l.length ∧ SI L N T r (readM L r F l st).2 (u ++ l.take (readM L r F l st).1) ∧ Rch L r (readM L r F l st).2 (u ++ l.take (readM L r F l st).1) ∧ ((readM L r F l st).1 < l.length → ¬ Good L S (u ++ l.take ((readM L r F l st).1 + 1)))
  | [], st, u, hI, hR, _, _ => by
    rw [readM]
    exact ⟨Nat.le_refl _, by simpa using hI, by simpa using hR, fun h => absurd h (by simp)⟩
  | a :: l, st, u, hI, hR, hs, hl => by
    have ha := hs a (List.mem_cons_self ..)
    by_cases hg : Good L S (u ++ [a])
    · obtain ⟨st', j, e1, e2, e3, e4, _⟩ := h.step hI hR ha (by rw [List.length_cons] at hl; omega) hg
      rw [readM, e1]
      dsimp only
      rw [e2, Int.toNat_natCast]
      obtain ⟨i1, i2, i3, i4⟩ := Rd.read h l e3 e4 (fun c hc => hs c (List.mem_cons_of_mem _ hc)) (by rw [List.length_append]; rw [List.length_cons] at hl; simp; omega)
      refine ⟨by rw [List.length_cons]; omega, ?_, ?_, fun hlt => ?_⟩
      · simpa using i2
      · simpa using i3
      · have := i4 (by rw [List.length_cons] at hlt; omega)
        simpa using this
    · obtain ⟨e1, e2⟩ := h.none hI ha hg
      rw [readM, settle_no e1 (fun k _ => e2 k)]
      exact ⟨Nat.zero_le _, by simpa using hI, by simpa using hR, fun _ => by simpa using hg⟩
theorem SI.smalls {L : List Ru} {N : Nat → Bool} {T : Nat → Nat → Bool} {r : Tb} {st : Stk} {u : List Nat} (h : SI L N T r st u) : ∀ c ∈ u, smallB c = true := by
  induction h with
  | base => intro c hc; cases hc
  | push _ _ _ _ _ h6 ih =>
    intro c hc
    rcases List.mem_append.1 hc with hc | hc
    · exact ih c hc
    · exact h6.smalls c hc
/-- the end of a text -/
theorem Rd.fin {L : List Ru} {N : Nat → Bool} {T : Nat → Nat → Bool} {r : Tb} {S F : Nat} (h : Rd L N T r S F) {st : Stk} {u : List Nat} (hI : SI L N T r st u) (hR : Rch L r st u) (hu : u.length ≤ 12) :
    ((∃ x n, Ds L [S] u x n) → ∃ j x n, Ds L [S] u x n ∧ settleM L r 36 F st = (true, [(j, x), (0, [])])) ∧ ((¬ ∃ x n, Ds L [S] u x n) → settleM L r 36 F st = (false, st) ∧ ∀ k, canR L r (topS st) 36 k = false) := by
  have hlen := h.tab.cl.gr.len
  constructor
  · rintro ⟨x0, n0, hd0⟩
    obtain ⟨x, n, hnF, hd⟩ := h.bnd2 u x0 n0 hu hd0
    obtain ⟨pt, e1, e2, e3, e4, e5⟩ := sim h.tab hd (xs := []) (st := []) h.tab.pos h.item0 (by simpa using h.st0) []
    have hsz : (rget L 0).R.size = 1 := by rw [← bytes_len, h.st0]; rfl
    have c1 : canR L r (topS (pt ++ [(0, [])])) 36 0 = true := canR_of (by rw [hsz]; exact e4)
    obtain ⟨m, hm⟩ := hR
    obtain ⟨⟨j, x'⟩, rfl⟩ : ∃ q, pt = [q] := List.length_eq_one_iff.1 e1
    have ex : x' = x := by simpa [txt] using e2
    subst ex
    rcases (hm [36]).det h.tab h.nocl e5 with ⟨k, hk, e⟩ | ⟨k, hk, e⟩
    · obtain ⟨s1, _⟩ := settle_run h.tab h.nocl k (f := F) hI hk (Or.inr c1) (by omega)
      exact ⟨j, x', n, hd, s1⟩
    · obtain ⟨rfl, e6, _⟩ := hk.stuck h.tab h.nocl (by rfl) c1
      obtain ⟨s1, _⟩ := settle_run h.tab h.nocl 0 (a := 36) (inp := []) hI Run.refl (Or.inr (by rw [e6]; exact c1)) h.fpos
      exact ⟨j, x', n, hd, by rw [s1, e6]; rfl⟩
  · intro hn
    have hr : ∀ k, canR L r (topS st) 36 k = false := fun k => by
      cases e : canR L r (topS st) 36 k
      · rfl
      · obtain ⟨v, hv⟩ := hI.good h.tab h.so h.st0 (Or.inr ⟨k, e⟩)
        exact absurd (acc_end hv) hn
    exact ⟨settle_no (h.noS (hI.lt h.tab.pos)) (fun k _ => hr k), hr⟩
/-- what can come: letters -/
theorem Rd.ahead {L : List Ru} {N : Nat → Bool} {T : Nat → Nat → Bool} {r : Tb} {S F : Nat} (h : Rd L N T r S F) {st : Stk} {u : List Nat} (hI : SI L N T r st u) (hR : Rch L r st u) {a : Nat} (ha : smallB a = true) :
    Good L S (u ++ [a]) ↔ (canS r (topS st) a = true ∨ ∃ k, k < 9 ∧ canR L r (topS st) a k = true) := by
  have hlen := h.tab.cl.gr.len
  constructor
  · intro hg
    obtain ⟨k, st', hk, hc, hrun⟩ := h.come hR ha hg
    have hr := hrun []
    generalize hin : [a] = inA at hr
    cases hr with
    | refl => exact Or.inl hc
    | shift _ _ _ _ h' =>
      have := h'.len
      rw [List.length_cons] at this; omega
    | @reduce n k' s a' j x inp' _ pt st1 _ h0 h1 h2 h3 h4 h5 h6 h7 =>
      obtain ⟨rfl, rfl⟩ := List.cons.inj hin
      exact Or.inr ⟨k', by omega, h3⟩
  · intro hc
    apply Classical.byContradiction
    intro hg
    obtain ⟨e1, e2⟩ := h.none hI ha hg
    rcases hc with hc | ⟨k, _, hc⟩
    · rw [e1] at hc; cases hc
    · rw [e2 k] at hc; cases hc
end Go.Proofs.YtkglggkkbmmjkaaDoor

namespace Go.Proofs.YtkglggkkbmmjkaaDoor
open Go.RowKit

/-- letters derive a word, part by part: how many parts are not empty; none is longer than m; how many replacements -/
inductive Prt (L : List Ru) : List Nat → List Nat → Nat → Nat → Nat → Prop
  | nil : Prt L [] [] 0 0 0
  | cons0 {c p m n q : Nat} {l w x : List Nat} : Ds L [c] [] x n → Prt L l w p m q → Prt L (c :: l) w p m (n + q)
  | cons1 {c p m n q : Nat} {l w1 w2 x : List Nat} : Ds L [c] w1 x n → w1 ≠ [] → Prt L l w2 p m q → Prt L (c :: l) (w1 ++ w2) (p + 1) (max w1.length m) (n + q)
theorem prt_of {L : List Ru} : ∀ {l w x : List Nat} {n : Nat}, Ds L l w x n → ∃ p m, Prt L l w p m n
  | [], w, x, n, h => by
    obtain ⟨rfl, _, rfl⟩ := h.nil_inv
    exact ⟨0, 0, Prt.nil⟩
  | c :: l, w, x, n, h => by
    obtain ⟨w1, x1, n1, w2, x2, n2, h1, h2, rfl, _, rfl⟩ := h.cons_inv
    obtain ⟨p, m, hp⟩ := prt_of h2
    cases w1 with
    | nil => exact ⟨p, m, Prt.cons0 h1 hp⟩
    | cons a w1 => exact ⟨p + 1, _, Prt.cons1 h1 (by simp) hp⟩
theorem Prt.zero {L : List Ru} {l w : List Nat} {p m q : Nat} (h : Prt L l w p m q) (hp : p = 0) : w = [] ∧ m = 0 ∧ ∀ c ∈ l, ∃ x n, Ds L [c] [] x n := by
  induction h with
  | nil => exact ⟨rfl, rfl, fun c hc => by cases hc⟩
  | cons0 hd _ ih =>
    obtain ⟨a, b, d⟩ := ih hp
    refine ⟨a, b, fun c hc => ?_⟩
    rcases List.mem_cons.1 hc with rfl | hc
    · exact ⟨_, _, hd⟩
    · exact d c hc
  | cons1 _ _ _ _ => omega
theorem Prt.le {L : List Ru} {l w : List Nat} {p m q : Nat} (h : Prt L l w p m q) : p ≤ l.length ∧ m + (p - 1) ≤ w.length ∧ p ≤ w.length ∧ (p = 0 → w = []) := by
  induction h with
  | nil => simp
  | cons0 _ _ ih => rw [List.length_cons]; exact ⟨by omega, ih.2⟩
  | @cons1 c p m n q l w1 w2 x _ hne hl ih =>
    have : 0 < w1.length := List.length_pos_iff.2 hne
    rw [List.length_cons, List.length_append]
    obtain ⟨a, b, c', d⟩ := ih
    refine ⟨by omega, ?_, by omega, by omega⟩
    by_cases hp : p = 0
    · have := (hl.zero hp).2.1
      omega
    · omega
/-- short parts, short ways -/
theorem Prt.bound {L : List Ru} {E C : Nat} (hE : ∀ c x n, Ds L [c] [] x n → ∃ x' m, m ≤ E ∧ Ds L [c] [] x' m) {l w : List Nat} {p m q : Nat} (h : Prt L l w p m q) (hS : ∀ c w', w' ≠ [] → w'.length ≤ m → (∃ x n, Ds L [c] w' x n) → ∃ x n, n + C ≤ 2 * w'.length * C ∧ Ds L [c] w' x n) :
    ∃ x n, n + p * C ≤ 2 * w.length * C + l.length * E ∧ Ds L l w x n := by
  induction h with
  | nil => exact ⟨[], 0, by simp, Ds.nil⟩
  | cons0 hd _ ih =>
    obtain ⟨x1, n1, h1, d1⟩ := hE _ _ _ hd
    obtain ⟨x2, n2, h2, d2⟩ := ih hS
    refine ⟨x1 ++ x2, n1 + n2, ?_, d1.app d2⟩
    rw [List.length_cons, Nat.add_mul]; omega
  | @cons1 c p m n q l w1 w2 x hd hne _ ih =>
    obtain ⟨x1, n1, h1, d1⟩ := hS c w1 hne (by omega) ⟨x, n, hd⟩
    obtain ⟨x2, n2, h2, d2⟩ := ih (fun c w' a b => hS c w' a (by omega))
    refine ⟨x1 ++ x2, n1 + n2, ?_, d1.app d2⟩
    rw [List.length_cons, List.length_append, Nat.add_mul p 1 C, Nat.mul_add 2, Nat.add_mul (2 * w1.length), Nat.add_mul l.length]; omega
/-- one part alone -/
theorem Prt.one {L : List Ru} {E : Nat} (hE : ∀ c x n, Ds L [c] [] x n → ∃ x' m, m ≤ E ∧ Ds L [c] [] x' m) {l w : List Nat} {p m q : Nat} (h : Prt L l w p m q) (hp : p = 1) : ∃ c x n, Ds L [c] w x n ∧ n ≤ q ∧ ∀ x0 n0, Ds L [c] w x0 n0 → ∃ x' n', n' ≤ n0 + l.length * E ∧ Ds L l w x' n' := by
  induction h with
  | nil => omega
  | @cons0 c0 p m n q l w x hd _ ih =>
    obtain ⟨c, x, n, h1, hq, h2⟩ := ih hp
    refine ⟨c, x, n, h1, by omega, fun x0 n0 h0 => ?_⟩
    obtain ⟨x', n', h3, h4⟩ := h2 x0 n0 h0
    obtain ⟨x1, n1, h5, h6⟩ := hE _ _ _ hd
    refine ⟨x1 ++ x', n1 + n', ?_, h6.app h4⟩
    rw [List.length_cons, Nat.add_mul]; omega
  | @cons1 c p m n q l w1 w2 x hd hne hl ih =>
    have hp0 : p = 0 := by omega
    obtain ⟨rfl, _, hz⟩ := hl.zero hp0
    refine ⟨c, x, n, by simpa using hd, by omega, fun x0 n0 h0 => ?_⟩
    obtain ⟨x2, n2, h5, h6⟩ := eps_list (L := L) (M := E) l (fun c hc => by
      obtain ⟨x, n, hd⟩ := hz c hc
      exact hE _ _ _ hd)
    refine ⟨x0 ++ x2, n0 + n2, ?_, by simpa using h0.app h6⟩
    rw [List.length_cons, Nat.add_mul]; omega
def cst (L : List Ru) (E : Nat) : Nat := sumU (fun k => 1 + (rget L k).R.size * E) (fun _ => true) (L.length - 1)
theorem sumU_one {f : Nat → Nat} {k n : Nat} (h1 : 1 ≤ k) (h2 : k ≤ n) : sumU f (fun i => false || i == k) n = f k := by
  rw [sumU_add (f := f) (U := fun _ => false) (k := k) rfl h1 n h2, sumU_none]; omega
/-- what does not vanish -/
theorem way_claim {L : List Ru} {E : Nat} (hE : ∀ c x n, Ds L [c] [] x n → ∃ x' m, m ≤ E ∧ Ds L [c] [] x' m) : ∀ (s n c : Nat) (w : List Nat), w.length ≤ s → w ≠ [] → MinW L c w n → ∃ U : Nat → Bool, n + 2 * cst L E ≤ 2 * w.length * cst L E + sumU (fun k => 1 + (rget L k).R.size * E) U (L.length - 1) ∧ ∀ k, U k = true → 1 ≤ k ∧ k < L.length ∧ ∃ n', MinW L (rget L k).L w n' ∧ n' ≤ n := by
  intro s
  induction s with
  | zero =>
    intro n c w hw hne
    exact absurd (List.length_eq_zero_iff.1 (by omega)) hne
  | succ s ihs =>
    intro n
    induction n using Nat.strongRecOn with
    | _ n ihn =>
      intro c w hw hne hm
      have hwl : 1 ≤ w.length := List.length_pos_iff.2 hne
      have h2C : 2 * cst L E ≤ 2 * w.length * cst L E := Nat.mul_le_mul_right _ (by omega)
      obtain ⟨x, hx⟩ := hm.1
      generalize hw0 : w = w0 at hx
      generalize hl : [c] = l at hx
      cases hx with
      | nil => cases hl
      | small hc hd =>
        obtain ⟨rfl, rfl⟩ := List.cons.inj hl
        obtain ⟨rfl, rfl, rfl⟩ := hd.nil_inv
        subst hw0
        exact ⟨fun _ => false, by omega, fun k hk => by cases hk⟩
      | @big k l w1 w2 x1 x2 n1 n2 k1 k2 hd1 hd2 =>
        obtain ⟨rfl, rfl⟩ := List.cons.inj hl
        obtain ⟨rfl, rfl, rfl⟩ := hd2.nil_inv
        simp only [List.append_nil] at hw0 ⊢
        subst hw0
        obtain ⟨p, m, hp⟩ := prt_of hd1
        obtain ⟨q1, q2, q3, q4⟩ := hp.le
        have hp0 : p ≠ 0 := fun e => hne (q4 e)
        by_cases h1 : p = 1
        · obtain ⟨c', x', n', hd', hn', hrep⟩ := hp.one hE h1
          obtain ⟨n0, hn0, hn0'⟩ := minW_ex hd'
          obtain ⟨x0, hx0⟩ := hn0.1
          obtain ⟨x3, n3, hn3, hd3⟩ := hrep x0 n0 hx0
          have hle := hm.2 _ ⟨_, Ds.one k1 k2 hd3⟩
          rw [bytes_len] at hn3
          obtain ⟨U0, hU0, hU1⟩ := ihn n0 (by omega) c' w hw hne hn0
          have hkU : U0 k = false := by
            cases e : U0 k
            · rfl
            · obtain ⟨_, _, n2, h2, h3⟩ := hU1 k e
              have := h2.uniq hm
              omega
          refine ⟨fun i => U0 i || i == k, ?_, fun i hi => ?_⟩
          · rw [sumU_add hkU k1 _ (by omega)]; omega
          · rw [Bool.or_eq_true] at hi
            rcases hi with hi | hi
            · obtain ⟨a, b, n2, h2, h3⟩ := hU1 i hi
              exact ⟨a, b, n2, h2, by omega⟩
            · have : i = k := by simpa using hi
              subst this
              exact ⟨k1, k2, _, hm, Nat.le_refl _⟩
        · obtain ⟨x3, n3, hn3, hd3⟩ := hp.bound hE (C := cst L E) (fun c' w' hne' hl' ⟨x', n', hd'⟩ => by
            obtain ⟨n0, hn0, _⟩ := minW_ex hd'
            obtain ⟨U0, hU0, _⟩ := ihs n0 c' w' (by omega) hne' hn0
            obtain ⟨x0, hx0⟩ := hn0.1
            have := sumU_all (fun k => 1 + (rget L k).R.size * E) U0 (L.length - 1)
            unfold cst at *
            exact ⟨x0, n0, by omega, hx0⟩)
          have hle := hm.2 _ ⟨_, Ds.one k1 k2 hd3⟩
          rw [bytes_len] at hn3
          have h2p : 2 * cst L E ≤ p * cst L E := Nat.mul_le_mul_right _ (by omega)
          refine ⟨fun i => false || i == k, ?_, fun i hi => ?_⟩
          · rw [sumU_one k1 (by omega)]; omega
          · have : i = k := by simpa using hi
            subst this
            exact ⟨k1, k2, _, hm, Nat.le_refl _⟩
theorem way_bound {L : List Ru} {E : Nat} (hE : ∀ c x n, Ds L [c] [] x n → ∃ x' m, m ≤ E ∧ Ds L [c] [] x' m) {c n : Nat} {w x : List Nat} (hne : w ≠ []) (hd : Ds L [c] w x n) : ∃ x' m, m + cst L E ≤ 2 * w.length * cst L E ∧ Ds L [c] w x' m := by
  obtain ⟨n0, hn0, _⟩ := minW_ex hd
  obtain ⟨U0, hU0, _⟩ := way_claim hE w.length n0 c w (Nat.le_refl _) hne hn0
  obtain ⟨x0, hx0⟩ := hn0.1
  have := sumU_all (fun k => 1 + (rget L k).R.size * E) U0 (L.length - 1)
  refine ⟨x0, n0, ?_, hx0⟩
  unfold cst at *
  omega
theorem cst_le {L : List Ru} (h : GrSz L) : cst L 2048 ≤ 43016 := by
  have hs := h.sz
  have key : ∀ n, sumU (fun k => 1 + (rget L k).R.size * 2048) (fun _ => true) n + 2048 * (3 * n) ≤ n + 2048 * sumU (fun k => (rget L k).R.size + 3) (fun _ => true) n := by
    intro n
    induction n with
    | zero => simp [sumU]
    | succ n ih => simp only [sumU, if_true]; omega
  have r4 : ∀ n, sumU (fun k => (rget L k).R.size + 3) (fun _ => true) n ≤ 7 * n := by
    intro n
    induction n with
    | zero => simp [sumU]
    | succ n ih => have := h.r4 (n + 1); simp only [sumU, if_true]; omega
  have h9 := h.l9
  have k1 := key (L.length - 1)
  have k2 := r4 (L.length - 1)
  unfold cst
  omega
theorem Rd_bnd2 {L : List Ru} (h : GrSz L) {S : Nat} {w x : List Nat} {n : Nat} (hw : w.length ≤ 12) (hd : Ds L [S] w x n) : ∃ x' m, m < 1048576 ∧ Ds L [S] w x' m := by
  by_cases hne : w = []
  · subst hne
    obtain ⟨x', m, hm, hd'⟩ := eps_bound h hd
    exact ⟨x', m, by omega, hd'⟩
  · obtain ⟨x', m, hm, hd'⟩ := way_bound (fun c x n hd => eps_bound h hd) hne hd
    have hc := cst_le h
    have h1 : 2 * w.length * cst L 2048 ≤ 24 * cst L 2048 := Nat.mul_le_mul_right _ (by omega)
    exact ⟨x', m, by omega, hd'⟩
end Go.Proofs.YtkglggkkbmmjkaaDoor
