import Derived.Test.YtkglggkkbmmjkaaDoorH16LrB3
namespace Go.Proofs.YtkglggkkbmmjkaaDoor
open Go.RowKit

/-- all ways from a letter to a word are equally long -/
def Uq (L : List Ru) (c : Nat) : Prop := ∀ w x n x' n', Ds L [c] w x n → Ds L [c] w x' n' → n = n'
def UqL (L : List Ru) (l : List Nat) : Prop := ∀ w x n x' n', Ds L l w x n → Ds L l w x' n' → n = n'
theorem UqL.mem {L : List Ru} : ∀ {l w x : List Nat} {n : Nat}, UqL L l → Ds L l w x n → ∀ d ∈ l, Uq L d
  | [], _, _, _, _, _, d, hd => by cases hd
  | c :: l, w, x, n, hU, h, d, hd => by
    obtain ⟨w1, x1, n1, w2, x2, n2, h1, h2, _, _, _⟩ := h.cons_inv
    rcases List.mem_cons.1 hd with rfl | hd
    · intro w' x' m x'' m' k k'
      have := hU _ _ _ _ _ (k.app h2) (k'.app h2)
      omega
    · refine UqL.mem (fun w' x' m x'' m' k k' => ?_) h2 d hd
      have := hU _ _ _ _ _ (h1.app k) (h1.app k')
      omega
theorem Uq.sub {L : List Ru} {k : Nat} (hU : Uq L (rget L k).L) (k1 : 1 ≤ k) (k2 : k < L.length) {w x : List Nat} {n : Nat} (hd : Ds L (bytes (rget L k).R) w x n) : ∀ d ∈ bytes (rget L k).R, Uq L d :=
  UqL.mem (fun w' x' m x'' m' h h' => by
    have := hU _ _ _ _ _ (Ds.one k1 k2 h) (Ds.one k1 k2 h')
    omega) hd
theorem Uq.min {L : List Ru} {c : Nat} (hU : Uq L c) {w x : List Nat} {n : Nat} (h : Ds L [c] w x n) : MinW L c w n := ⟨⟨x, h⟩, fun _ ⟨_, h'⟩ => Nat.le_of_eq (hU _ _ _ _ _ h h')⟩

open Classical in
/-- how long the way to the empty word is; 0: there is none -/
noncomputable def ep (L : List Ru) (c : Nat) : Nat := if h : ∃ n, ∃ x, Ds L [c] [] x n then h.choose else 0
noncomputable def epL (L : List Ru) (l : List Nat) : Nat := (l.map (ep L)).sum
theorem ep_eq {L : List Ru} {c n : Nat} {x : List Nat} (hU : Uq L c) (h : Ds L [c] [] x n) : ep L c = n := by
  unfold ep
  have hex : ∃ n, ∃ x, Ds L [c] [] x n := ⟨n, x, h⟩
  rw [dif_pos hex]
  obtain ⟨x', h'⟩ := hex.choose_spec
  exact hU _ _ _ _ _ h' h
theorem ep_no {L : List Ru} {c : Nat} (h : ¬ ∃ n, ∃ x, Ds L [c] [] x n) : ep L c = 0 := by
  unfold ep
  rw [dif_neg h]
theorem epL_cons (L : List Ru) (c : Nat) (l : List Nat) : epL L (c :: l) = ep L c + epL L l := by unfold epL; simp
theorem epL_app (L : List Ru) (l l' : List Nat) : epL L (l ++ l') = epL L l + epL L l' := by unfold epL; simp
theorem epL_eq {L : List Ru} : ∀ {l x : List Nat} {n : Nat}, (∀ c ∈ l, Uq L c) → Ds L l [] x n → epL L l = n
  | [], x, n, _, h => by obtain ⟨_, _, rfl⟩ := h.nil_inv; rfl
  | c :: l, x, n, hU, h => by
    obtain ⟨w1, x1, n1, w2, x2, n2, h1, h2, e, _, rfl⟩ := h.cons_inv
    obtain ⟨rfl, rfl⟩ := List.append_eq_nil_iff.1 e.symm
    rw [epL_cons, ep_eq (hU c (List.mem_cons_self ..)) h1, epL_eq (fun d hd => hU d (List.mem_cons_of_mem _ hd)) h2]
theorem epL_le {L : List Ru} {E : Nat} : ∀ {l : List Nat}, (∀ c ∈ l, ep L c ≤ E) → epL L l ≤ l.length * E
  | [], _ => by simp [epL]
  | c :: l, h => by
    have h1 := h c (List.mem_cons_self ..)
    have h2 := epL_le (L := L) (E := E) (l := l) (fun d hd => h d (List.mem_cons_of_mem _ hd))
    rw [epL_cons, List.length_cons, Nat.add_mul]; omega
theorem epL_le1 {L : List Ru} {E : Nat} : ∀ {l : List Nat}, (∀ c ∈ l, ep L c ≤ E) → (∃ c ∈ l, ep L c = 0) → epL L l ≤ (l.length - 1) * E
  | [], _, h => by obtain ⟨c, hc, _⟩ := h; cases hc
  | c :: l, h, ⟨d, hd, e⟩ => by
    rw [epL_cons, List.length_cons, Nat.add_sub_cancel]
    have hl := epL_le (L := L) (E := E) (l := l) (fun d hd => h d (List.mem_cons_of_mem _ hd))
    rcases List.mem_cons.1 hd with rfl | hd
    · rw [e]; omega
    · have h1 := h c (List.mem_cons_self ..)
      have h2 := epL_le1 (L := L) (E := E) (l := l) (fun d hd => h d (List.mem_cons_of_mem _ hd)) ⟨d, hd, e⟩
      have hp : 0 < l.length := List.length_pos_iff.2 (fun e => by subst e; cases hd)
      have h3 : (l.length - 1) * E + 1 * E = l.length * E := by rw [← Nat.add_mul]; congr 1; omega
      omega

/-- the most that a vanishing letter can cost, by the bytes of its rules -/
def eT (X : Nat) : Nat := [0, 0, 0, 1, 1, 1, 1, 2, 3, 4, 5, 5, 5, 7, 10, 13, 17, 21, 21, 22, 31, 41, 53, 69, 85, 85, 94, 125, 165, 213, 277, 341, 341, 377].getD X 0
theorem eT_step : ∀ X, X < 34 → ∀ r, r < 5 → X + r + 3 < 34 → 1 + r * eT X ≤ eT (X + r + 3) := by decide +kernel
theorem eT_mono : ∀ X, X < 34 → ∀ Y, Y < 34 → X ≤ Y → eT X ≤ eT Y := by decide +kernel
def fitsB : Bool := (List.range 34).all fun X => (List.range 34).all fun Y => (List.range 9).all fun m => !(decide (X + Y < 34) && (decide (4 * m ≤ Y) && decide (Y ≤ 7 * m))) || decide (23 * (m + (Y - 4 * m) * eT X) + eT X ≤ 8000)
theorem fitsB_true : fitsB = true := by decide +kernel
theorem eT_fits {X Y m : Nat} (hX : X < 34) (hY : Y < 34) (hm : m < 9) (h1 : X + Y < 34) (h2 : 4 * m ≤ Y) (h3 : Y ≤ 7 * m) : 23 * (m + (Y - 4 * m) * eT X) + eT X ≤ 8000 := by
  have h := fitsB_true
  unfold fitsB at h
  have h4 := List.all_eq_true.1 (List.all_eq_true.1 (List.all_eq_true.1 h X (List.mem_range.2 hX)) Y (List.mem_range.2 hY)) m (List.mem_range.2 hm)
  rw [decide_eq_true h1, decide_eq_true h2, decide_eq_true h3] at h4
  simpa using h4
theorem sumU_mono {f : Nat → Nat} {U V : Nat → Bool} : ∀ n, (∀ k, 1 ≤ k → k ≤ n → U k = true → V k = true) → sumU f U n ≤ sumU f V n
  | 0, _ => Nat.le_refl _
  | n + 1, h => by
    have ih := sumU_mono (f := f) n (fun k a b => h k a (by omega))
    rw [sumU, sumU]
    cases e : U (n + 1)
    · simp; omega
    · rw [h (n + 1) (by omega) (Nat.le_refl _) e]; simp; omega
open Classical in
/-- a rule whose right side can vanish -/
noncomputable def epsB (L : List Ru) (k : Nat) : Bool := decide (∃ x n, Ds L (bytes (rget L k).R) [] x n)
open Classical in
theorem epsB_iff {L : List Ru} {k : Nat} : epsB L k = true ↔ ∃ x n, Ds L (bytes (rget L k).R) [] x n := by unfold epsB; rw [decide_eq_true_iff]
def bud (L : List Ru) (U : Nat → Bool) : Nat := sumU (fun k => (rget L k).R.size + 3) U (L.length - 1)
theorem eps_tight {L : List Ru} (hz : GrSz L) : ∀ (n c : Nat), MinW L c [] n → ∃ U : Nat → Bool, n ≤ eT (bud L U) ∧ ∀ k, U k = true → 1 ≤ k ∧ k < L.length ∧ epsB L k = true ∧ ∃ n', MinW L (rget L k).L [] n' ∧ n' ≤ n := by
  intro n
  induction n using Nat.strongRecOn with
  | _ n ih =>
    intro c hm
    obtain ⟨x, hx⟩ := hm.1
    generalize hl : [c] = l at hx
    generalize hw : ([] : List Nat) = w at hx
    cases hx with
    | nil => cases hl
    | small => cases hw
    | @big k l w1 w2 x1 x2 n1 n2 k1 k2 hd1 hd2 =>
      obtain ⟨rfl, rfl⟩ := List.cons.inj hl
      obtain ⟨rfl, rfl⟩ := List.append_eq_nil_iff.1 hw.symm
      obtain ⟨_, rfl, rfl⟩ := hd2.nil_inv
      have hek : epsB L k = true := epsB_iff.2 ⟨_, _, hd1⟩
      have hr4 := hz.r4 k
      have hall : ∀ U : Nat → Bool, bud L U ≤ 33 := fun U => Nat.le_trans (sumU_all _ U _) hz.sz
      by_cases hr : bytes (rget L k).R = []
      · rw [hr] at hd1
        obtain ⟨_, rfl, rfl⟩ := hd1.nil_inv
        refine ⟨fun i => false || i == k, ?_, fun i hi => ?_⟩
        · have hb : bud L (fun i => false || i == k) = (rget L k).R.size + 3 := by
            unfold bud
            rw [sumU_one k1 (by omega)]
          have h0 : (rget L k).R.size = 0 := by rw [← bytes_len, hr]; rfl
          rw [hb, h0]; decide
        · have : i = k := by simpa using hi
          subst this
          exact ⟨k1, k2, hek, _, hm, Nat.le_refl _⟩
      · obtain ⟨c0, h0, n0, hn0, hmax⟩ := max_ex (L := L) (bytes (rget L k).R) hr (fun c hc => by
          obtain ⟨x', m, _, hd⟩ := eps_mem hd1 c hc
          obtain ⟨m', h', _⟩ := minW_ex hd
          exact ⟨m', h'⟩)
        have hlt : n0 < n1 + 1 + 0 := by
          obtain ⟨x', m, hm', hd⟩ := eps_mem hd1 c0 h0
          have := hn0.2 m ⟨x', hd⟩
          omega
        obtain ⟨x', n', hn', hd'⟩ := eps_list (L := L) (M := n0) (bytes (rget L k).R) (fun c hc => by
          obtain ⟨x', m, _, hd⟩ := eps_mem hd1 c hc
          obtain ⟨m', h', _⟩ := minW_ex hd
          obtain ⟨x2, h2⟩ := h'.1
          exact ⟨x2, m', hmax c hc m' h', h2⟩)
        have hle := hm.2 _ ⟨_, Ds.one k1 k2 hd'⟩
        rw [bytes_len] at hn'
        obtain ⟨U0, hU0, hU1⟩ := ih n0 hlt c0 hn0
        have hkU : U0 k = false := by
          cases e : U0 k
          · rfl
          · obtain ⟨_, _, _, n2, h2, h3⟩ := hU1 k e
            have := h2.uniq hm
            omega
        refine ⟨fun i => U0 i || i == k, ?_, fun i hi => ?_⟩
        · have hb : bud L (fun i => U0 i || i == k) = bud L U0 + (rget L k).R.size + 3 := by
            unfold bud
            rw [sumU_add hkU k1 _ (by omega)]; omega
          have h33 := hall (fun i => U0 i || i == k)
          rw [hb] at h33 ⊢
          have h4 := eT_step (bud L U0) (by omega) (rget L k).R.size (by omega) (by omega)
          have h5 : (rget L k).R.size * n0 ≤ (rget L k).R.size * eT (bud L U0) := Nat.mul_le_mul_left _ hU0
          omega
        · rw [Bool.or_eq_true] at hi
          rcases hi with hi | hi
          · obtain ⟨a, b, d, n2, h2, h3⟩ := hU1 i hi
            exact ⟨a, b, d, n2, h2, by omega⟩
          · have : i = k := by simpa using hi
            subst this
            exact ⟨k1, k2, hek, _, hm, Nat.le_refl _⟩
/-- the most that a vanishing letter costs here -/
noncomputable def eM (L : List Ru) : Nat := eT (bud L (epsB L))
theorem ep_le {L : List Ru} (hz : GrSz L) {c : Nat} (hU : Uq L c) : ep L c ≤ eM L := by
  by_cases h : ∃ n, ∃ x, Ds L [c] [] x n
  · obtain ⟨n, x, hd⟩ := h
    rw [ep_eq hU hd]
    obtain ⟨U, h1, h2⟩ := eps_tight hz n c (hU.min hd)
    have h33 := Nat.le_trans (sumU_all (fun k => (rget L k).R.size + 3) (epsB L) (L.length - 1)) hz.sz
    have hm : bud L U ≤ bud L (epsB L) := sumU_mono _ (fun k _ _ hk => (h2 k hk).2.2.1)
    have h33' : bud L (epsB L) ≤ 33 := h33
    exact Nat.le_trans h1 (eT_mono _ (by omega) _ (by omega) hm)
  · rw [ep_no h]; exact Nat.zero_le _
/-- what a rule costs that cannot vanish -/
noncomputable def cT (L : List Ru) (k : Nat) : Nat := 1 + ((rget L k).R.size - 1) * eM L
noncomputable def cA (L : List Ru) : Nat := sumU (cT L) (fun k => !epsB L k) (L.length - 1)
theorem nonEps {L : List Ru} {k : Nat} (h : epsB L k = false) : ∃ c ∈ bytes (rget L k).R, ¬ ∃ n, ∃ x, Ds L [c] [] x n := by
  apply Classical.byContradiction
  intro hx
  have hall : ∀ c ∈ bytes (rget L k).R, ∃ n, ∃ x, Ds L [c] [] x n := fun c hc => Classical.byContradiction fun hn => hx ⟨c, hc, hn⟩
  have : ∀ l : List Nat, (∀ c ∈ l, ∃ n, ∃ x, Ds L [c] [] x n) → ∃ x n, Ds L l [] x n := by
    intro l
    induction l with
    | nil => intro _; exact ⟨_, _, Ds.nil⟩
    | cons c l ih =>
      intro hl
      obtain ⟨n1, x1, h1⟩ := hl c (List.mem_cons_self ..)
      obtain ⟨x2, n2, h2⟩ := ih (fun d hd => hl d (List.mem_cons_of_mem _ hd))
      exact ⟨_, _, by simpa using h1.app h2⟩
  rw [epsB_iff.2 (this _ hall)] at h; cases h
/-- these letters' costs, with a rule's own -/
theorem rule_cost {L : List Ru} (hz : GrSz L) {k : Nat} (k1 : 1 ≤ k) (k2 : k < L.length) (hU : Uq L (rget L k).L) (hs : ∀ d ∈ bytes (rget L k).R, Uq L d) : (epsB L k = true → 1 + epL L (bytes (rget L k).R) = ep L (rget L k).L) ∧ (epsB L k = false → 1 + epL L (bytes (rget L k).R) ≤ cT L k) := by
  constructor
  · intro h
    obtain ⟨x, n, hd⟩ := epsB_iff.1 h
    rw [ep_eq hU (Ds.one k1 k2 hd), epL_eq hs hd]; omega
  · intro h
    obtain ⟨c, hc, hn⟩ := nonEps h
    have := epL_le1 (L := L) (E := eM L) (l := bytes (rget L k).R) (fun d hd => ep_le hz (hs d hd)) ⟨c, hc, ep_no hn⟩
    rw [bytes_len] at this
    unfold cT; omega
/-- rules that cannot vanish, and come to the same word -/
def UOk (L : List Ru) (U : Nat → Bool) (w : List Nat) (n : Nat) : Prop := ∀ k, U k = true → 1 ≤ k ∧ k < L.length ∧ epsB L k = false ∧ ∃ n', MinW L (rget L k).L w n' ∧ n' ≤ n
theorem UOk.le {L : List Ru} {U : Nat → Bool} {w : List Nat} {n : Nat} (h : UOk L U w n) : sumU (cT L) U (L.length - 1) ≤ cA L := sumU_mono _ (fun k _ _ hk => by rw [(h k hk).2.2.1]; rfl)
theorem tl_list {L : List Ru} {N : Nat} (hE : ∀ n, n ≤ N → ∀ c w x, Uq L c → Ds L [c] w x n → w ≠ [] → ∃ U : Nat → Bool, n + 2 * cA L ≤ ep L c + 2 * w.length * cA L + sumU (cT L) U (L.length - 1) ∧ UOk L U w n) :
    ∀ (l w x : List Nat) (n : Nat), (∀ c ∈ l, Uq L c) → Ds L l w x n → w ≠ [] → n ≤ N → ∃ U : Nat → Bool, n + 2 * cA L ≤ epL L l + 2 * w.length * cA L + sumU (cT L) U (L.length - 1) ∧ UOk L U w n
  | [], w, x, n, _, h, hw, _ => by
    obtain ⟨rfl, _, _⟩ := h.nil_inv
    exact absurd rfl hw
  | c :: l, w, x, n, hU, h, hw, hN => by
    obtain ⟨w1, x1, n1, w2, x2, n2, h1, h2, rfl, _, rfl⟩ := h.cons_inv
    have hc := hU c (List.mem_cons_self ..)
    have hl : ∀ d ∈ l, Uq L d := fun d hd => hU d (List.mem_cons_of_mem _ hd)
    rw [epL_cons]
    by_cases e1 : w1 = []
    · subst e1
      rw [List.nil_append] at hw ⊢
      obtain ⟨U, a, b⟩ := tl_list hE l w2 x2 n2 hl h2 hw (by omega)
      refine ⟨U, by rw [ep_eq hc h1]; omega, fun k hk => ?_⟩
      obtain ⟨q1, q2, q3, n', q4, q5⟩ := b k hk
      exact ⟨q1, q2, q3, n', q4, by omega⟩
    · obtain ⟨U1, a1, b1⟩ := hE n1 (by omega) c w1 x1 hc h1 e1
      by_cases e2 : w2 = []
      · subst e2
        rw [List.append_nil]
        refine ⟨U1, by rw [epL_eq hl h2]; omega, fun k hk => ?_⟩
        obtain ⟨q1, q2, q3, n', q4, q5⟩ := b1 k hk
        exact ⟨q1, q2, q3, n', q4, by omega⟩
      · obtain ⟨U2, a2, b2⟩ := tl_list hE l w2 x2 n2 hl h2 e2 (by omega)
        have c1 := b1.le
        have c2 := b2.le
        refine ⟨fun _ => false, ?_, fun k hk => by cases hk⟩
        rw [List.length_append, Nat.mul_add 2, Nat.add_mul (2 * w1.length)]
        omega
theorem tl_claim {L : List Ru} (hz : GrSz L) : ∀ (n c : Nat) (w x : List Nat), Uq L c → Ds L [c] w x n → w ≠ [] → ∃ U : Nat → Bool, n + 2 * cA L ≤ ep L c + 2 * w.length * cA L + sumU (cT L) U (L.length - 1) ∧ UOk L U w n := by
  intro n
  induction n using Nat.strongRecOn with
  | _ n ih =>
    intro c w x hU hx hne
    have hm := hU.min hx
    have hwl : 1 ≤ w.length := List.length_pos_iff.2 hne
    have h2C : 2 * cA L ≤ 2 * w.length * cA L := Nat.mul_le_mul_right _ (by omega)
    generalize hl : [c] = l at hx
    generalize hw : w = w0 at hx
    cases hx with
    | nil => cases hl
    | small hc hd =>
      obtain ⟨rfl, rfl⟩ := List.cons.inj hl
      obtain ⟨rfl, rfl, rfl⟩ := hd.nil_inv
      subst hw
      exact ⟨fun _ => false, by omega, fun k hk => by cases hk⟩
    | @big k l w1 w2 x1 x2 n1 n2 k1 k2 hd1 hd2 =>
      obtain ⟨rfl, rfl⟩ := List.cons.inj hl
      obtain ⟨rfl, rfl, rfl⟩ := hd2.nil_inv
      simp only [List.append_nil] at hw ⊢
      subst hw
      have hs := hU.sub k1 k2 hd1
      obtain ⟨r1, r2⟩ := rule_cost hz k1 k2 hU hs
      obtain ⟨U0, a, b⟩ := tl_list (N := n1) (fun m hm' c w x a b d => ih m (by omega) c w x a b d) _ _ _ _ hs hd1 hne (Nat.le_refl _)
      have b' : UOk L U0 w (n1 + 1 + 0) := fun i hi => by
        obtain ⟨q1, q2, q3, n', q4, q5⟩ := b i hi
        exact ⟨q1, q2, q3, n', q4, by omega⟩
      cases he : epsB L k
      · have r2 := r2 he
        have hkU : U0 k = false := by
          cases e : U0 k
          · rfl
          · obtain ⟨_, _, _, n', q4, q5⟩ := b k e
            have := q4.uniq hm
            omega
        refine ⟨fun i => U0 i || i == k, ?_, fun i hi => ?_⟩
        · rw [sumU_add hkU k1 _ (by omega)]; omega
        · rw [Bool.or_eq_true] at hi
          rcases hi with hi | hi
          · exact b' i hi
          · have : i = k := by simpa using hi
            subst this
            exact ⟨k1, k2, he, _, hm, Nat.le_refl _⟩
      · have r1 := r1 he
        exact ⟨U0, by omega, b'⟩
theorem tl_len {L : List Ru} (hz : GrSz L) {c n : Nat} {w x : List Nat} (hU : Uq L c) (hd : Ds L [c] w x n) (hne : w ≠ []) : n + cA L ≤ ep L c + 2 * w.length * cA L := by
  obtain ⟨U, a, b⟩ := tl_claim hz n c w x hU hd hne
  have := b.le
  omega
theorem tl_lenL {L : List Ru} (hz : GrSz L) {l w x : List Nat} {n : Nat} (hU : ∀ c ∈ l, Uq L c) (hd : Ds L l w x n) (hne : w ≠ []) : n + cA L ≤ epL L l + 2 * w.length * cA L := by
  obtain ⟨U, a, b⟩ := tl_list (N := n) (fun m _ c w x h1 h2 h3 => tl_claim hz m c w x h1 h2 h3) l w x n hU hd hne (Nat.le_refl _)
  have := b.le
  omega
/-- the numbers -/
theorem cA_fits {L : List Ru} (hz : GrSz L) : 23 * cA L + eM L ≤ 8000 := by
  have hsz := hz.sz
  have h9 := hz.l9
  have hne : ∀ k, epsB L k = false → 1 ≤ (rget L k).R.size := fun k hk => by
    obtain ⟨c, hc, _⟩ := nonEps hk
    rw [← bytes_len]; exact List.length_pos_iff.2 (fun e => by rw [e] at hc; cases hc)
  have key : ∀ n, sumU (cT L) (fun k => !epsB L k) n + 4 * sumU (fun _ => 1) (fun k => !epsB L k) n * eM L = sumU (fun _ => 1) (fun k => !epsB L k) n + sumU (fun k => (rget L k).R.size + 3) (fun k => !epsB L k) n * eM L := by
    intro n
    induction n with
    | zero => simp [sumU]
    | succ n ih =>
      rw [sumU, sumU, sumU]
      cases he : epsB L (n + 1)
      · simp only [Bool.not_false, if_true]
        have h1 := hne _ he
        have e : cT L (n + 1) + 4 * eM L = 1 + ((rget L (n + 1)).R.size + 3) * eM L := by
          unfold cT
          rw [Nat.add_assoc, ← Nat.add_mul]
          congr 2; omega
        rw [Nat.mul_add 4, Nat.add_mul (4 * _), Nat.add_mul (sumU (fun k => (rget L k).R.size + 3) _ n)]
        omega
      · simpa using ih
  have r47 : ∀ n, 4 * sumU (fun _ => 1) (fun k => !epsB L k) n ≤ sumU (fun k => (rget L k).R.size + 3) (fun k => !epsB L k) n ∧ sumU (fun k => (rget L k).R.size + 3) (fun k => !epsB L k) n ≤ 7 * sumU (fun _ => 1) (fun k => !epsB L k) n ∧ sumU (fun _ => 1) (fun k => !epsB L k) n ≤ n := by
    intro n
    induction n with
    | zero => simp [sumU]
    | succ n ih =>
      rw [sumU, sumU]
      cases he : epsB L (n + 1)
      · have h1 := hne _ he
        have h4 := hz.r4 (n + 1)
        simp only [Bool.not_false, if_true]
        omega
      · simp only [Bool.not_true, Bool.false_eq_true, if_false]
        omega
  have split : ∀ n, sumU (fun k => (rget L k).R.size + 3) (epsB L) n + sumU (fun k => (rget L k).R.size + 3) (fun k => !epsB L k) n = sumU (fun k => (rget L k).R.size + 3) (fun _ => true) n := by
    intro n
    induction n with
    | zero => rfl
    | succ n ih =>
      rw [sumU, sumU, sumU]
      cases epsB L (n + 1)
      · simp; omega
      · simp; omega
  have k1 := key (L.length - 1)
  obtain ⟨k2, k3, k4⟩ := r47 (L.length - 1)
  have k5 := split (L.length - 1)
  have hX : bud L (epsB L) = sumU (fun k => (rget L k).R.size + 3) (epsB L) (L.length - 1) := rfl
  have hA : cA L = sumU (cT L) (fun k => !epsB L k) (L.length - 1) := rfl
  have hEM : eM L = eT (bud L (epsB L)) := rfl
  rw [← hX] at k5
  rw [← hA] at k1
  generalize sumU (fun _ => 1) (fun k => !epsB L k) (L.length - 1) = m at *
  generalize sumU (fun k => (rget L k).R.size + 3) (fun k => !epsB L k) (L.length - 1) = Y at *
  rw [hEM] at k1 ⊢
  generalize bud L (epsB L) = X at *
  have hf := eT_fits (X := X) (Y := Y) (m := m) (by omega) (by omega) (by omega) (by omega) k2 k3
  have e : cA L = m + (Y - 4 * m) * eT X := by
    have h1 : (Y - 4 * m) * eT X + 4 * m * eT X = Y * eT X := by rw [← Nat.add_mul]; congr 1; omega
    omega
  rw [e]; exact hf
end Go.Proofs.YtkglggkkbmmjkaaDoor

namespace Go.Proofs.YtkglggkkbmmjkaaDoor
open Go.RowKit

/-- what is done ahead of a letter, held tight -/
theorem tp_claim {L : List Ru} (hz : GrSz L) (hP : ∀ k, 1 ≤ k → k < L.length → ∃ w x n, Ds L (bytes (rget L k).R) w x n) (a : Nat) : ∀ (s c : Nat) (u : List Nat), Uq L c → MinP L a c u s → ∃ (n : Nat) (U : Nat → Bool), Pe L [c] u a n s ∧ n ≤ ep L c + 2 * u.length * cA L + sumU (cT L) U (L.length - 1) ∧ ∀ k, U k = true → 1 ≤ k ∧ k < L.length ∧ epsB L k = false ∧ ∃ s', MinP L a (rget L k).L u s' ∧ s' ≤ s := by
  intro s
  induction s using Nat.strongRecOn with
  | _ s ih =>
    intro c u hU hm
    obtain ⟨n, hn⟩ := hm.1
    have hn0 := hn
    generalize hl : [c] = l at hn
    generalize hu : u = uu at hn
    generalize ha : a = aa at hn
    cases hn with
    | here h => exact ⟨0, fun _ => false, Pe.here h, by omega, fun k hk => by cases hk⟩
    | skip _ h =>
      obtain ⟨_, rfl⟩ := List.cons.inj hl
      exact absurd h.nil (fun h => h)
    | @down k _ n s l u' k1 k2 h =>
      obtain ⟨rfl, rfl⟩ := List.cons.inj hl
      subst hu
      subst ha
      obtain ⟨l1, c', l2, v1, u', x, m, n', s', e1, e2, e3, e4, e5, e6⟩ := h.split
      subst e3
      subst e5
      obtain ⟨wR, xR, nR, hR⟩ := hP k k1 k2
      have hs := hU.sub k1 k2 hR
      have hc' : Uq L c' := hs c' (by rw [e1]; simp)
      have hl1 : ∀ d ∈ l1, Uq L d := fun d hd => hs d (by rw [e1]; simp [hd])
      have hm' : MinP L a c' u' s' := ⟨⟨n', e6⟩, fun t ⟨nt, ht⟩ => by
        have := hm.2 _ ⟨_, Pe.down (l := []) k1 k2 (by rw [e1]; exact ht.build l2 l1 e2)⟩
        omega⟩
      obtain ⟨n2, U0, p1, p2, p3⟩ := ih s' (by omega) c' u' hc' hm'
      have c0 : sumU (cT L) U0 (L.length - 1) ≤ cA L := sumU_mono _ (fun i _ _ hi => by rw [(p3 i hi).2.2.1]; rfl)
      have hnew : Pe L [(rget L k).L] (v1 ++ u') a (m + n2) (m + s' + 1) := Pe.down (l := []) k1 k2 (by rw [e1]; exact p1.build l2 l1 e2)
      obtain ⟨r1, r2⟩ := rule_cost hz k1 k2 hU hs
      have hep : epL L (bytes (rget L k).R) = epL L l1 + ep L c' + epL L l2 := by rw [e1, epL_app, epL_cons]; omega
      by_cases hv : v1 = []
      · subst hv
        have hmm : m = epL L l1 := (epL_eq hl1 e2).symm
        rw [List.nil_append] at hnew hm ⊢
        cases he : epsB L k
        · have r2 := r2 he
          have hkU : U0 k = false := by
            cases e : U0 k
            · rfl
            · obtain ⟨_, _, _, t, q4, q5⟩ := p3 k e
              have := q4.uniq hm
              omega
          refine ⟨m + n2, fun i => U0 i || i == k, hnew, ?_, fun i hi => ?_⟩
          · rw [sumU_add hkU k1 _ (by omega)]; omega
          · rw [Bool.or_eq_true] at hi
            rcases hi with hi | hi
            · obtain ⟨q1, q2, q3, t, q4, q5⟩ := p3 i hi
              exact ⟨q1, q2, q3, t, q4, by omega⟩
            · have : i = k := by simpa using hi
              subst this
              exact ⟨k1, k2, he, _, hm, Nat.le_refl _⟩
        · have r1 := r1 he
          refine ⟨m + n2, U0, hnew, by omega, fun i hi => ?_⟩
          obtain ⟨q1, q2, q3, t, q4, q5⟩ := p3 i hi
          exact ⟨q1, q2, q3, t, q4, by omega⟩
      · have h1 := tl_lenL hz hl1 e2 hv
        have hlen : 2 * (v1 ++ u').length * cA L = 2 * v1.length * cA L + 2 * u'.length * cA L := by
          rw [List.length_append, Nat.mul_add 2, Nat.add_mul]
        cases he : epsB L k
        · have r2 := r2 he
          refine ⟨m + n2, fun i => false || i == k, hnew, ?_, fun i hi => ?_⟩
          · rw [sumU_one k1 (by omega), hlen]; omega
          · have : i = k := by simpa using hi
            subst this
            exact ⟨k1, k2, he, _, hm, Nat.le_refl _⟩
        · have r1 := r1 he
          exact ⟨m + n2, fun _ => false, hnew, by rw [hlen]; omega, fun i hi => by cases hi⟩
theorem tight_pd {L : List Ru} (hz : GrSz L) (hP : ∀ k, 1 ≤ k → k < L.length → ∃ w x n, Ds L (bytes (rget L k).R) w x n) {c a n : Nat} {u : List Nat} (hU : Uq L c) (hp : Pd L [c] u a n) (hu : u.length ≤ 11) : ∃ m, m ≤ 8000 ∧ Pd L [c] u a m := by
  obtain ⟨s, hs⟩ := hp.pe
  obtain ⟨s0, hs0, _⟩ := minP_ex hs
  obtain ⟨m, U, h1, h2, h3⟩ := tp_claim hz hP a s0 c u hU hs0
  have c0 : sumU (cT L) U (L.length - 1) ≤ cA L := sumU_mono _ (fun i _ _ hi => by rw [(h3 i hi).2.2.1]; rfl)
  have hf := cA_fits hz
  have he := ep_le hz hU
  have h4 : 2 * u.length * cA L ≤ 22 * cA L := Nat.mul_le_mul_right _ (by omega)
  exact ⟨m, by omega, h1.pd.1⟩
theorem tight_ds {L : List Ru} (hz : GrSz L) {c n : Nat} {w x : List Nat} (hU : Uq L c) (hd : Ds L [c] w x n) (hw : w.length ≤ 12) : n ≤ 8000 := by
  have hf := cA_fits hz
  have he := ep_le hz hU
  by_cases hne : w = []
  · subst hne
    rw [ep_eq hU hd] at he; omega
  · have h1 := tl_len hz hU hd hne
    have h2 : 2 * w.length * cA L ≤ 24 * cA L := Nat.mul_le_mul_right _ (by omega)
    omega
end Go.Proofs.YtkglggkkbmmjkaaDoor
