import Derived.Test.YtkglggkkbmmjkaaDoorH14LrP
namespace Go.Proofs.YtkglggkkbmmjkaaDoor
open Go.RowKit

def readM (L : List Ru) (r : Tb) (F : Nat) : List Nat → Stk → Nat × Stk
  | [], st => (0, st)
  | a :: l, st => match settleM L r a F st with
    | (false, st') => (0, st')
    | (true, st') => ((readM L r F l (((gto r (topS st') a).toNat, [a]) :: st')).1 + 1, (readM L r F l (((gto r (topS st') a).toNat, [a]) :: st')).2)
/-- a beginning of something derived -/
def Good (L : List Ru) (S : Nat) (v : List Nat) : Prop := ∃ z, Acc L S (v ++ z)
/-- all that is asked of the grammar and the table -/
structure Rd (L : List Ru) (N : Nat → Bool) (T : Nat → Nat → Bool) (r : Tb) (S F : Nat) : Prop where
  tab : TabOk L N T r
  so : GrSo L N T
  nocl : NoCl L r
  st0 : bytes (rget L 0).R = [S]
  bnd : ∀ u a n, u.length < 12 → Pd L [S] u a n → ∃ m, m < F ∧ Pd L [S] u a m
  bnd2 : ∀ w x n, w.length ≤ 12 → Ds L [S] w x n → ∃ x' m, m < F ∧ Ds L [S] w x' m
  fpos : 0 < F
/-- the stack behind a text is come to, whatever comes -/
def Rch (L : List Ru) (r : Tb) (st : Stk) (u : List Nat) : Prop := ∃ n0, ∀ rest, Run L r n0 [(0, [])] (u ++ rest) st rest
theorem acc_split {L : List Ru} {S : Nat} {u z : List Nat} {a : Nat} (h : Acc L S (u ++ a :: z)) (ha : smallB a = true) : ∃ w x n z', Ds L [S] w x n ∧ w = u ++ a :: z' := by
  obtain ⟨w, x, n, hd, e⟩ := h
  rcases List.append_eq_append_iff.1 e with ⟨ys, e1, e2⟩ | ⟨zs, e1, e2⟩
  · -- w is longer
    cases ys with
    | nil =>
      rw [List.nil_append] at e2
      obtain ⟨e3, _⟩ := List.cons.inj e2
      rw [e3] at ha; cases ha
    | cons b ys =>
      rw [List.cons_append] at e2
      obtain ⟨rfl, _⟩ := List.cons.inj e2
      exact ⟨w, x, n, ys, hd, e1⟩
  · -- u = w ++ zs, [36] = zs ++ a :: z
    cases zs with
    | nil =>
      rw [List.nil_append] at e2
      obtain ⟨e3, _⟩ := List.cons.inj e2
      rw [← e3] at ha; cases ha
    | cons b zs =>
      have := congrArg List.length e2
      simp at this
theorem acc_end {L : List Ru} {S : Nat} {u v : List Nat} (h : Acc L S (u ++ 36 :: v)) : ∃ x n, Ds L [S] u x n := by
  obtain ⟨w, x, n, hd, e⟩ := h
  have hw := hd.smalls
  rcases List.append_eq_append_iff.1 e with ⟨ys, e1, e2⟩ | ⟨zs, e1, e2⟩
  · cases ys with
    | nil => rw [List.append_nil] at e1; exact ⟨x, n, by rw [← e1]; exact hd⟩
    | cons b ys =>
      rw [List.cons_append] at e2
      obtain ⟨rfl, _⟩ := List.cons.inj e2
      have := hw 36 (by rw [e1]; simp)
      cases this
  · cases zs with
    | nil => rw [List.append_nil] at e1; exact ⟨x, n, by rw [e1]; exact hd⟩
    | cons b zs =>
      have := congrArg List.length e2
      simp at this
theorem Rd.item0 {L : List Ru} {N : Nat → Bool} {T : Nat → Nat → Bool} {r : Tb} {S F : Nat} (h : Rd L N T r S F) : (⟨0, 0, 36⟩ : It) ∈ itm r 0 := (h.tab.zero _).2 (Cl.base rfl)
theorem Rd.noS {L : List Ru} {N : Nat → Bool} {T : Nat → Nat → Bool} {r : Tb} {S F : Nat} (h : Rd L N T r S F) {s : Nat} (hs : s < r.1.length) : canS r s 36 = false := by
  have := h.tab.nolet s hs 36 rfl
  unfold canS gto at *
  rw [this]; rfl
/-- a letter that can come: the reading settles -/
theorem Rd.come {L : List Ru} {N : Nat → Bool} {T : Nat → Nat → Bool} {r : Tb} {S F : Nat} (h : Rd L N T r S F) {st : Stk} {u : List Nat} {a : Nat} (hR : Rch L r st u) (ha : smallB a = true) (hg : Good L S (u ++ [a])) :
    ∃ (k : Nat) (st' : Stk), (u.length < 12 → k < F) ∧ canS r (topS st') a = true ∧ ∀ inp, Run L r k st (a :: inp) st' (a :: inp) := by
  obtain ⟨z, hz⟩ := hg
  rw [List.append_assoc] at hz
  obtain ⟨w, x, n, z', hd, e⟩ := acc_split hz ha
  obtain ⟨m0, hp0⟩ := pd_of hd u a z' e
  obtain ⟨m, hmF, hp⟩ : ∃ m, (u.length < 12 → m < F) ∧ Pd L [S] u a m := by
    by_cases hu : u.length < 12
    · obtain ⟨m, h1, h2⟩ := h.bnd u a m0 hu hp0
      exact ⟨m, fun _ => h1, h2⟩
    · exact ⟨m0, fun e => absurd e hu, hp0⟩
  obtain ⟨n0, hn0⟩ := hR
  have hsame : ∀ inp, ∃ k st', k ≤ m ∧ canS r (topS st') a = true ∧ Run L r k st (a :: inp) st' (a :: inp) := fun inp => by
    obtain ⟨st', f1, f2, f3⟩ := sim_p h.tab h.so hp (xs := []) (st := []) h.tab.pos h.item0 (by simpa using h.st0) inp
    rcases (hn0 (a :: inp)).det h.tab h.nocl f3 with ⟨k, hk, e⟩ | ⟨k, hk, e⟩
    · exact ⟨k, st', by omega, f2, hk⟩
    · generalize hin : a :: inp = inA at hk
      cases hk with
      | refl => subst hin; exact ⟨0, st, by omega, f2, Run.refl⟩
      | shift _ _ _ _ h' =>
        have := h'.len
        rw [List.length_cons] at this; omega
      | @reduce n k s a' j x inp' _ pt st1 _ h0 h1 h2 h3 h4 h5 h6 h7 =>
        obtain ⟨rfl, rfl⟩ := List.cons.inj hin
        have hlen := h.tab.cl.gr.len
        have := h.nocl.sr (k := k) h0 (sigB_small ha) (by omega) f2
        rw [h3] at this; cases this
  -- the same for all that comes
  obtain ⟨k, st', h1, h2, h3⟩ := hsame []
  refine ⟨k, st', fun hu => by have := hmF hu; omega, h2, ?_⟩
  have carry : ∀ (k : Nat) (st st' : Stk), Run L r k st [a] st' [a] → ∀ inp, Run L r k st (a :: inp) st' (a :: inp) := by
    intro k
    induction k with
    | zero =>
      intro st st' hr inp
      generalize hin : [a] = inA at hr
      generalize hz : (0 : Nat) = z at hr
      cases hr with
      | refl => exact Run.refl
      | shift _ _ _ _ h' =>
        have := h'.len
        rw [List.length_cons] at this; omega
      | reduce => omega
    | succ k ih =>
      intro st st' hr inp
      generalize hin : [a] = inA at hr
      generalize hz : k + 1 = z at hr
      cases hr with
      | refl => omega
      | shift _ _ _ _ h' =>
        have := h'.len
        rw [List.length_cons] at this; omega
      | @reduce n k' s a' j x inp' _ pt st1 _ h0 h1 h2 h3 h4 h5 h6 h7 =>
        obtain ⟨rfl, rfl⟩ := List.cons.inj hin
        obtain rfl : k = n := by omega
        exact Run.reduce h0 h1 h2 h3 h4 h5 h6 (ih _ _ h7 inp)
  exact carry k st st' h3
theorem Rd.step {L : List Ru} {N : Nat → Bool} {T : Nat → Nat → Bool} {r : Tb} {S F : Nat} (h : Rd L N T r S F) {st : Stk} {u : List Nat} {a : Nat} (hI : SI L N T r st u) (hR : Rch L r st u) (ha : smallB a = true) (hu : u.length < 12) (hg : Good L S (u ++ [a])) :
    ∃ st' j, settleM L r a F st = (true, st') ∧ gto r (topS st') a = (j : Nat) ∧ SI L N T r ((j, [a]) :: st') (u ++ [a]) ∧ Rch L r ((j, [a]) :: st') (u ++ [a]) ∧ SI L N T r st' u := by
  obtain ⟨k, st', hk, hc, hrun⟩ := h.come hR ha hg
  obtain ⟨e1, hI'⟩ := settle_run h.tab h.nocl k (inp := []) hI (hrun []) (Or.inl hc) (hk hu)
  obtain ⟨s, x, st1, rfl⟩ := hI'.ne
  obtain ⟨j, g1, g2, g3⟩ := hI'.shift h.tab ha hc
  obtain ⟨n0, hn0⟩ := hR
  refine ⟨_, j, e1, g1, g3, ⟨n0 + k, fun rest => ?_⟩, hI'⟩
  have := (hn0 (a :: rest)).trans ((hrun rest).trans (Run.shift (hI'.lt h.tab.pos) ha g1 g2 Run.refl))
  simpa using this
/-- nothing can be done for a letter that cannot come -/
theorem Rd.none {L : List Ru} {N : Nat → Bool} {T : Nat → Nat → Bool} {r : Tb} {S F : Nat} (h : Rd L N T r S F) {st : Stk} {u : List Nat} {a : Nat} (hI : SI L N T r st u) (ha : smallB a = true) (hg : ¬ Good L S (u ++ [a])) :
    canS r (topS st) a = false ∧ ∀ k, canR L r (topS st) a k = false := by
  refine ⟨?_, fun k => ?_⟩
  · cases e : canS r (topS st) a
    · rfl
    · obtain ⟨v, hv⟩ := hI.good h.tab h.so h.st0 (Or.inl ⟨ha, e⟩)
      exact absurd ⟨v, by simpa using hv⟩ hg
  · cases e : canR L r (topS st) a k
    · rfl
    · obtain ⟨v, hv⟩ := hI.good h.tab h.so h.st0 (Or.inr ⟨k, e⟩)
      exact absurd ⟨v, by simpa using hv⟩ hg
/-- a text is read ys far ys it is good -/
theorem Rd.read {L : List Ru} {N : Nat → Bool} {T : Nat → Nat → Bool} {r : Tb} {S F : Nat} (h : Rd L N T r S F) : ∀ (l : List Nat) {st : Stk} {u : List Nat}, SI L N T r st u → Rch L r st u → (∀ c ∈ l, smallB c = true) → u.length + l.length ≤ 12 →
    (readM L r F l st).1 ≤ l.length ∧ SI L N T r (readM L r F l st).2 (u ++ l.take (readM L r F l st).1) ∧ Rch L r (readM L r F l st).2 (u ++ l.take (readM L r F l st).1) ∧ ((readM L r F l st).1 < l.length → ¬ Good L S (u ++ l.take ((readM L r F l st).1 + 1)))
  | [], st, u, hI, hR, _, _ => by
    rw [readM]
    exact ⟨Nat.le_refl _, by simpa using hI, by simpa using hR, fun h => absurd h (by simp)⟩
  | a :: l, st, u, hI, hR, hs, hl => by
    have ha := hs a (List.mem_cons_self ..)
    by_cases hg : Good L S (u ++ [a])
    · obtain ⟨st', j, e1, e2, e3, e4, _⟩ := h.step hI hR ha (by rw [List.length_cons] at hl; omega) hg
      rw [readM, e1]
      dsimp only
      rw [e2, Int.toNat_natCast]
      obtain ⟨i1, i2, i3, i4⟩ := Rd.read h l e3 e4 (fun c hc => hs c (List.mem_cons_of_mem _ hc)) (by rw [List.length_append]; rw [List.length_cons] at hl; simp; omega)
      refine ⟨by rw [List.length_cons]; omega, ?_, ?_, fun hlt => ?_⟩
      · simpa using i2
      · simpa using i3
      · have := i4 (by rw [List.length_cons] at hlt; omega)
        simpa using this
    · obtain ⟨e1, e2⟩ := h.none hI ha hg
      rw [readM, settle_no e1 (fun k _ => e2 k)]
      exact ⟨Nat.zero_le _, by simpa using hI, by simpa using hR, fun _ => by simpa using hg⟩
theorem SI.smalls {L : List Ru} {N : Nat → Bool} {T : Nat → Nat → Bool} {r : Tb} {st : Stk} {u : List Nat} (h : SI L N T r st u) : ∀ c ∈ u, smallB c = true := by
  induction h with
  | base => intro c hc; cases hc
  | push _ _ _ _ _ h6 ih =>
    intro c hc
    rcases List.mem_append.1 hc with hc | hc
    · exact ih c hc
    · exact h6.smalls c hc
/-- the end of a text -/
theorem Rd.fin {L : List Ru} {N : Nat → Bool} {T : Nat → Nat → Bool} {r : Tb} {S F : Nat} (h : Rd L N T r S F) {st : Stk} {u : List Nat} (hI : SI L N T r st u) (hR : Rch L r st u) (hu : u.length ≤ 12) :
    ((∃ x n, Ds L [S] u x n) → ∃ j x n, Ds L [S] u x n ∧ settleM L r 36 F st = (true, [(j, x), (0, [])])) ∧ ((¬ ∃ x n, Ds L [S] u x n) → settleM L r 36 F st = (false, st) ∧ ∀ k, canR L r (topS st) 36 k = false) := by
  have hlen := h.tab.cl.gr.len
  constructor
  · rintro ⟨x0, n0, hd0⟩
    obtain ⟨x, n, hnF, hd⟩ := h.bnd2 u x0 n0 hu hd0
    obtain ⟨pt, e1, e2, e3, e4, e5⟩ := sim h.tab hd (xs := []) (st := []) h.tab.pos h.item0 (by simpa using h.st0) []
    have hsz : (rget L 0).R.size = 1 := by rw [← bytes_len, h.st0]; rfl
    have c1 : canR L r (topS (pt ++ [(0, [])])) 36 0 = true := canR_of (by rw [hsz]; exact e4)
    obtain ⟨m, hm⟩ := hR
    obtain ⟨⟨j, x'⟩, rfl⟩ : ∃ q, pt = [q] := List.length_eq_one_iff.1 e1
    have ex : x' = x := by simpa [txt] using e2
    subst ex
    rcases (hm [36]).det h.tab h.nocl e5 with ⟨k, hk, e⟩ | ⟨k, hk, e⟩
    · obtain ⟨s1, _⟩ := settle_run h.tab h.nocl k (f := F) hI hk (Or.inr c1) (by omega)
      exact ⟨j, x', n, hd, s1⟩
    · obtain ⟨rfl, e6, _⟩ := hk.stuck h.tab h.nocl (by rfl) c1
      obtain ⟨s1, _⟩ := settle_run h.tab h.nocl 0 (a := 36) (inp := []) hI Run.refl (Or.inr (by rw [e6]; exact c1)) h.fpos
      exact ⟨j, x', n, hd, by rw [s1, e6]; rfl⟩
  · intro hn
    have hr : ∀ k, canR L r (topS st) 36 k = false := fun k => by
      cases e : canR L r (topS st) 36 k
      · rfl
      · obtain ⟨v, hv⟩ := hI.good h.tab h.so h.st0 (Or.inr ⟨k, e⟩)
        exact absurd (acc_end hv) hn
    exact ⟨settle_no (h.noS (hI.lt h.tab.pos)) (fun k _ => hr k), hr⟩
end Go.Proofs.YtkglggkkbmmjkaaDoor

namespace Go.Proofs.YtkglggkkbmmjkaaDoor
open Go.RowKit

def sumU (f : Nat → Nat) (U : Nat → Bool) : Nat → Nat
  | 0 => 0
  | n + 1 => sumU f U n + if U (n + 1) then f (n + 1) else 0
def prdU (f : Nat → Nat) (U : Nat → Bool) : Nat → Nat
  | 0 => 1
  | n + 1 => prdU f U n * if U (n + 1) then f (n + 1) else 1
theorem sumU_all (f : Nat → Nat) (U : Nat → Bool) : ∀ n, sumU f U n ≤ sumU f (fun _ => true) n
  | 0 => Nat.le_refl _
  | n + 1 => by
    have := sumU_all f U n
    rw [sumU, sumU]
    cases U (n + 1)
    · simp; omega
    · simp; omega
theorem sumU_same {f : Nat → Nat} {U V : Nat → Bool} : ∀ n, (∀ i, 1 ≤ i → i ≤ n → U i = V i) → sumU f U n = sumU f V n
  | 0, _ => rfl
  | n + 1, h => by rw [sumU, sumU, sumU_same n (fun i h1 h2 => h i h1 (by omega)), h (n + 1) (by omega) (Nat.le_refl _)]
theorem prdU_same {f : Nat → Nat} {U V : Nat → Bool} : ∀ n, (∀ i, 1 ≤ i → i ≤ n → U i = V i) → prdU f U n = prdU f V n
  | 0, _ => rfl
  | n + 1, h => by rw [prdU, prdU, prdU_same n (fun i h1 h2 => h i h1 (by omega)), h (n + 1) (by omega) (Nat.le_refl _)]
theorem sumU_add {f : Nat → Nat} {U : Nat → Bool} {k : Nat} (hk : U k = false) (h1 : 1 ≤ k) : ∀ n, k ≤ n → sumU f (fun i => U i || i == k) n = sumU f U n + f k
  | 0, h => by omega
  | n + 1, h => by
    rw [sumU, sumU]
    by_cases e : k = n + 1
    · subst e
      rw [sumU_same (U := fun i => U i || i == n + 1) (V := U) n (fun i _ hi => by rw [show (i == n + 1) = false from by simp; omega]; simp), hk]
      simp
    · rw [sumU_add hk h1 n (by omega), show (n + 1 == k) = false from by simp; omega]
      simp; omega
theorem prdU_add {f : Nat → Nat} {U : Nat → Bool} {k : Nat} (hk : U k = false) (h1 : 1 ≤ k) : ∀ n, k ≤ n → prdU f (fun i => U i || i == k) n = prdU f U n * f k
  | 0, h => by omega
  | n + 1, h => by
    rw [prdU, prdU]
    by_cases e : k = n + 1
    · subst e
      rw [prdU_same (U := fun i => U i || i == n + 1) (V := U) n (fun i _ hi => by rw [show (i == n + 1) = false from by simp; omega]; simp), hk]
      simp
    · rw [prdU_add hk h1 n (by omega), show (n + 1 == k) = false from by simp; omega]
      rw [Bool.or_false, Nat.mul_assoc, Nat.mul_assoc, Nat.mul_comm (f k)]
theorem prdU_none (f : Nat → Nat) : ∀ n, prdU f (fun _ => false) n = 1
  | 0 => rfl
  | n + 1 => by rw [prdU, prdU_none f n]; rfl
theorem sumU_none (f : Nat → Nat) : ∀ n, sumU f (fun _ => false) n = 0
  | 0 => rfl
  | n + 1 => by rw [sumU, sumU_none f n]; rfl
theorem cube_le : ∀ r, r ≤ 4 → (1 + r) * (1 + r) * (1 + r) ≤ 2 ^ (r + 3)
  | 0, _ => by decide
  | 1, _ => by decide
  | 2, _ => by decide
  | 3, _ => by decide
  | 4, _ => by decide
  | n + 5, h => by omega
theorem prdU_cube {r : Nat → Nat} (hr : ∀ k, r k ≤ 4) (U : Nat → Bool) : ∀ n, prdU (fun k => 1 + r k) U n * prdU (fun k => 1 + r k) U n * prdU (fun k => 1 + r k) U n ≤ 2 ^ sumU (fun k => r k + 3) U n
  | 0 => Nat.le_refl _
  | n + 1 => by
    have ih := prdU_cube hr U n
    rw [prdU, sumU]
    cases U (n + 1)
    · simpa using ih
    · have hc := cube_le (r (n + 1)) (hr _)
      simp only [if_true]
      rw [Nat.pow_add]
      generalize prdU (fun k => 1 + r k) U n = a at *
      generalize 1 + r (n + 1) = b at *
      calc a * b * (a * b) * (a * b) = (a * a * a) * (b * b * b) := by
            simp only [Nat.mul_comm, Nat.mul_left_comm]
        _ ≤ _ := Nat.mul_le_mul ih hc
theorem le_2048 {a : Nat} (h : a * a * a ≤ 2 ^ 33) : a ≤ 2048 := by
  rcases Nat.lt_or_ge 2048 a with h1 | h1
  · exfalso
    have h2 : 2049 * 2049 ≤ a * a := Nat.mul_le_mul h1 h1
    have h3 : 2049 * 2049 * 2049 ≤ a * a * a := Nat.mul_le_mul h2 h1
    have : (2 : Nat) ^ 33 = 8589934592 := by decide
    omega
  · exact h1
theorem least {P : Nat → Prop} : ∀ n, P n → ∃ m, P m ∧ m ≤ n ∧ ∀ k, P k → m ≤ k := by
  intro n
  induction n using Nat.strongRecOn with
  | _ n ih =>
    intro h
    by_cases hx : ∃ m, m < n ∧ P m
    · obtain ⟨m, h1, h2⟩ := hx
      obtain ⟨q, q1, q2, q3⟩ := ih m h1 h2
      exact ⟨q, q1, by omega, q3⟩
    · refine ⟨n, h, Nat.le_refl _, fun k hk => ?_⟩
      rcases Nat.lt_or_ge k n with h1 | h1
      · exact absurd ⟨k, h1, hk⟩ hx
      · exact h1

/-- the least way -/
def MinW (L : List Ru) (c : Nat) (w : List Nat) (n : Nat) : Prop := (∃ x, Ds L [c] w x n) ∧ ∀ m, (∃ x, Ds L [c] w x m) → n ≤ m
theorem minW_ex {L : List Ru} {c : Nat} {w x : List Nat} {n : Nat} (h : Ds L [c] w x n) : ∃ m, MinW L c w m ∧ m ≤ n := by
  obtain ⟨m, h1, h2, h3⟩ := least (P := fun n => ∃ x, Ds L [c] w x n) n ⟨x, h⟩
  exact ⟨m, ⟨h1, h3⟩, h2⟩
theorem MinW.uniq {L : List Ru} {c : Nat} {w : List Nat} {n m : Nat} (h : MinW L c w n) (k : MinW L c w m) : n = m := Nat.le_antisymm (h.2 m k.1) (k.2 n h.1)
theorem eps_mem {L : List Ru} : ∀ {l x : List Nat} {n : Nat}, Ds L l [] x n → ∀ c ∈ l, ∃ x' m, m ≤ n ∧ Ds L [c] [] x' m
  | [], _, _, _, c, hc => by cases hc
  | d :: l, x, n, h, c, hc => by
    obtain ⟨w1, x1, n1, w2, x2, n2, h1, h2, e1, e2, e3⟩ := h.cons_inv
    obtain ⟨rfl, rfl⟩ := List.append_eq_nil_iff.1 e1.symm
    rcases List.mem_cons.1 hc with rfl | hc
    · exact ⟨x1, n1, by omega, h1⟩
    · obtain ⟨x', m, hm, hd⟩ := eps_mem h2 c hc
      exact ⟨x', m, by omega, hd⟩
theorem eps_list {L : List Ru} {M : Nat} : ∀ (l : List Nat), (∀ c ∈ l, ∃ x m, m ≤ M ∧ Ds L [c] [] x m) → ∃ x n, n ≤ l.length * M ∧ Ds L l [] x n
  | [], _ => ⟨[], 0, by simp, Ds.nil⟩
  | c :: l, h => by
    obtain ⟨x1, n1, h1, d1⟩ := h c (List.mem_cons_self ..)
    obtain ⟨x2, n2, h2, d2⟩ := eps_list l (fun c hc => h c (List.mem_cons_of_mem _ hc))
    refine ⟨x1 ++ x2, n1 + n2, ?_, d1.app d2⟩
    rw [List.length_cons, Nat.add_mul]; omega
theorem max_ex {L : List Ru} : ∀ (l : List Nat), l ≠ [] → (∀ c ∈ l, ∃ n, MinW L c [] n) → ∃ c0 ∈ l, ∃ n0, MinW L c0 [] n0 ∧ ∀ c ∈ l, ∀ n, MinW L c [] n → n ≤ n0
  | [], h, _ => absurd rfl h
  | [c], _, h => by
    obtain ⟨n, hn⟩ := h c (List.mem_cons_self ..)
    refine ⟨c, List.mem_cons_self .., n, hn, fun d hd m hm => ?_⟩
    rw [List.mem_singleton.1 hd] at hm
    rw [hm.uniq hn]; exact Nat.le_refl _
  | c :: d :: l, _, h => by
    obtain ⟨n, hn⟩ := h c (List.mem_cons_self ..)
    obtain ⟨c0, h0, n0, hn0, hm0⟩ := max_ex (d :: l) (by simp) (fun c hc => h c (List.mem_cons_of_mem _ hc))
    by_cases hle : n ≤ n0
    · refine ⟨c0, List.mem_cons_of_mem _ h0, n0, hn0, fun e he m hm => ?_⟩
      rcases List.mem_cons.1 he with rfl | he
      · rw [hm.uniq hn]; exact hle
      · exact hm0 e he m hm
    · refine ⟨c, List.mem_cons_self .., n, hn, fun e he m hm => ?_⟩
      rcases List.mem_cons.1 he with rfl | he
      · rw [hm.uniq hn]; exact Nat.le_refl _
      · have := hm0 e he m hm; omega
/-- what vanishes -/
theorem eps_claim {L : List Ru} : ∀ (n c : Nat), MinW L c [] n → ∃ U : Nat → Bool, n ≤ prdU (fun k => 1 + (rget L k).R.size) U (L.length - 1) ∧ ∀ k, U k = true → 1 ≤ k ∧ k < L.length ∧ ∃ n', MinW L (rget L k).L [] n' ∧ n' ≤ n := by
  intro n
  induction n using Nat.strongRecOn with
  | _ n ih =>
    intro c hm
    obtain ⟨x, hx⟩ := hm.1
    generalize hl : [c] = l at hx
    generalize hw : ([] : List Nat) = w at hx
    cases hx with
    | nil => cases hl
    | small => cases hw
    | @big k l w1 w2 x1 x2 n1 n2 k1 k2 hd1 hd2 =>
      obtain ⟨rfl, rfl⟩ := List.cons.inj hl
      obtain ⟨rfl, rfl⟩ := List.append_eq_nil_iff.1 hw.symm
      obtain ⟨_, rfl, rfl⟩ := hd2.nil_inv
      by_cases hr : bytes (rget L k).R = []
      · rw [hr] at hd1
        obtain ⟨_, rfl, rfl⟩ := hd1.nil_inv
        refine ⟨fun i => false || i == k, ?_, fun i hi => ?_⟩
        · rw [prdU_add (U := fun _ => false) rfl k1 _ (by omega), prdU_none]; omega
        · have : i = k := by simpa using hi
          subst this
          exact ⟨k1, k2, _, hm, Nat.le_refl _⟩
      · obtain ⟨c0, h0, n0, hn0, hmax⟩ := max_ex (L := L) (bytes (rget L k).R) hr (fun c hc => by
          obtain ⟨x', m, _, hd⟩ := eps_mem hd1 c hc
          obtain ⟨m', h', _⟩ := minW_ex hd
          exact ⟨m', h'⟩)
        have hlt : n0 < n1 + 1 + 0 := by
          obtain ⟨x', m, hm', hd⟩ := eps_mem hd1 c0 h0
          have := hn0.2 m ⟨x', hd⟩
          omega
        obtain ⟨x', n', hn', hd'⟩ := eps_list (L := L) (M := n0) (bytes (rget L k).R) (fun c hc => by
          obtain ⟨x', m, _, hd⟩ := eps_mem hd1 c hc
          obtain ⟨m', h', _⟩ := minW_ex hd
          obtain ⟨x2, h2⟩ := h'.1
          exact ⟨x2, m', hmax c hc m' h', h2⟩)
        have hle := hm.2 _ ⟨_, Ds.one k1 k2 hd'⟩
        rw [bytes_len] at hn'
        obtain ⟨U0, hU0, hU1⟩ := ih n0 hlt c0 hn0
        have hkU : U0 k = false := by
          cases e : U0 k
          · rfl
          · obtain ⟨_, _, n2, h2, h3⟩ := hU1 k e
            have := h2.uniq hm
            omega
        have hpos : 1 ≤ n0 := by
          obtain ⟨x2, h2⟩ := hn0.1
          generalize hl : [c0] = l at h2
          generalize hw : ([] : List Nat) = w at h2
          cases h2 with
          | nil => cases hl
          | small => cases hw
          | big => omega
        refine ⟨fun i => U0 i || i == k, ?_, fun i hi => ?_⟩
        · rw [prdU_add hkU k1 _ (by omega)]
          have h1 : n0 * (1 + (rget L k).R.size) ≤ prdU (fun k => 1 + (rget L k).R.size) U0 (L.length - 1) * (1 + (rget L k).R.size) := Nat.mul_le_mul_right _ hU0
          rw [Nat.mul_add, Nat.mul_one, Nat.mul_comm n0] at h1
          omega
        · rw [Bool.or_eq_true] at hi
          rcases hi with hi | hi
          · obtain ⟨a, b, n2, h2, h3⟩ := hU1 i hi
            exact ⟨a, b, n2, h2, by omega⟩
          · have : i = k := by simpa using hi
            subst this
            exact ⟨k1, k2, _, hm, Nat.le_refl _⟩
/-- the grammar's size -/
structure GrSz (L : List Ru) : Prop where
  r4 : ∀ k, (rget L k).R.size ≤ 4
  sz : sumU (fun k => (rget L k).R.size + 3) (fun _ => true) (L.length - 1) ≤ 33
  l9 : L.length ≤ 9
theorem eps_bound {L : List Ru} (h : GrSz L) {c n : Nat} {x : List Nat} (hd : Ds L [c] [] x n) : ∃ x' m, m ≤ 2048 ∧ Ds L [c] [] x' m := by
  obtain ⟨m, hm, _⟩ := minW_ex hd
  obtain ⟨U, hU, _⟩ := eps_claim m c hm
  obtain ⟨x', hx⟩ := hm.1
  refine ⟨x', m, le_2048 ?_, hx⟩
  have h1 := prdU_cube (r := fun k => (rget L k).R.size) h.r4 U (L.length - 1)
  have h2 := sumU_all (fun k => (rget L k).R.size + 3) U (L.length - 1)
  have h3 : (2 : Nat) ^ sumU (fun k => (rget L k).R.size + 3) U (L.length - 1) ≤ 2 ^ 33 := Nat.pow_le_pow_right (by omega) (by have := h.sz; omega)
  have h4 : m * m * m ≤ prdU (fun k => 1 + (rget L k).R.size) U (L.length - 1) * prdU (fun k => 1 + (rget L k).R.size) U (L.length - 1) * prdU (fun k => 1 + (rget L k).R.size) U (L.length - 1) := Nat.mul_le_mul (Nat.mul_le_mul hU hU) hU
  omega
end Go.Proofs.YtkglggkkbmmjkaaDoor
