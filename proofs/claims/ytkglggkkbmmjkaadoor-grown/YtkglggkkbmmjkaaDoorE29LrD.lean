import Derived.Test.YtkglggkkbmmjkaaDoorE28LrM
namespace Go.Proofs.YtkglggkkbmmjkaaDoor
open Go.RowKit

theorem Cl.inv {rs : List Ru} {N : Nat → Bool} {T : Nat → Nat → Bool} {X : It → Prop} {y : It} (h : Cl rs N T X y) : X y ∨ ∃ x, Cl rs N T X x ∧ Asks rs N T x y := by
  have := h (fun y => Cl rs N T X y ∧ (X y ∨ ∃ x, Cl rs N T X x ∧ Asks rs N T x y)) (fun x hx => ⟨Cl.base hx, Or.inl hx⟩) (fun x y ⟨h1, _⟩ ha => ⟨h1.step ha, Or.inr ⟨x, h1, ha⟩⟩)
  exact this.2
/-- a stack, and what is read -/
inductive SI (L : List Ru) (N : Nat → Bool) (T : Nat → Nat → Bool) (r : Tb) : Stk → List Nat → Prop
  | base : SI L N T r [(0, [])] []
  | push {s c j n : Nat} {xs u w x : List Nat} {st : Stk} : SI L N T r ((s, xs) :: st) u → letB c = true → gto r s c = (j : Nat) → j < r.1.length → (∀ y, y ∈ itm r j ↔ Cl L N T (Mvd L c (itm r s)) y) → Ds L [c] w x n → SI L N T r ((j, x) :: (s, xs) :: st) (u ++ w)
theorem SI.lt {L : List Ru} {N : Nat → Bool} {T : Nat → Nat → Bool} {r : Tb} (h0 : 0 < r.1.length) {st : Stk} {u : List Nat} (h : SI L N T r st u) : topS st < r.1.length := by
  cases h with
  | base => exact h0
  | push _ _ _ h4 _ _ => exact h4
theorem SI.ne {L : List Ru} {N : Nat → Bool} {T : Nat → Nat → Bool} {r : Tb} {st : Stk} {u : List Nat} (h : SI L N T r st u) : ∃ s x st', st = (s, x) :: st' := by
  cases h with
  | base => exact ⟨_, _, _, rfl⟩
  | push => exact ⟨_, _, _, rfl⟩
theorem bytes_take_succ {R : ByteArray} {p : Nat} (h : p < R.size) : (bytes R).take (p + 1) = (bytes R).take p ++ [ch R p] := by
  have h' : p < (bytes R).length := by rw [bytes_len]; exact h
  rw [List.take_succ_eq_append_getElem h', bytes_get]
/-- an item of the top state tells what lies on the stack -/
theorem SI.back {L : List Ru} {N : Nat → Bool} {T : Nat → Nat → Bool} {r : Tb} (hT : TabOk L N T r) : ∀ (p : Nat) {st : Stk} {u : List Nat} {k t : Nat}, SI L N T r st u → (⟨k, p, t⟩ : It) ∈ itm r (topS st) → p ≤ (rget L k).R.size →
    ∃ (pt : Stk) (s : Nat) (xs : List Nat) (st' : Stk) (u' w : List Nat) (n : Nat), st = pt ++ (s, xs) :: st' ∧ pt.length = p ∧ SI L N T r ((s, xs) :: st') u' ∧ u = u' ++ w ∧ Ds L ((bytes (rget L k).R).take p) w (txt pt) n ∧ (⟨k, 0, t⟩ : It) ∈ itm r s
  | 0, st, u, k, t, h, hi, _ => by
    obtain ⟨s, x, st', rfl⟩ := h.ne
    exact ⟨[], s, x, st', u, [], 0, rfl, rfl, h, by simp, Ds.nil, hi⟩
  | p + 1, st, u, k, t, h, hi, hp => by
    cases h with
    | base =>
      have hi' := (hT.zero _).1 hi
      rcases hi'.inv with e | ⟨x, _, ha⟩
      · cases e
      · exact absurd ha.2.2.2.2.2.1 (by simp)
    | @push s c j n xs u w x st h1 h2 h3 h4 h5 h6 =>
      have hi' := (h5 _).1 hi
      rcases hi'.inv with ⟨⟨k0, p0, t0⟩, hx, hm, e⟩ | ⟨x, _, ha⟩
      · obtain ⟨rfl, e2, rfl⟩ : k = k0 ∧ p + 1 = p0 + 1 ∧ t = t0 := by unfold mvI at e; simpa using e
        obtain rfl : p = p0 := by omega
        obtain ⟨pt, s', xs', st', u', w', n', e1, e3, e4, e5, e6, e7⟩ := SI.back hT p (st := (s, xs) :: st) h1 hx (by omega)
        refine ⟨(j, x) :: pt, s', xs', st', u', w' ++ w, n' + n, by rw [e1]; rfl, by simp [e3], e4, by rw [e5]; simp, ?_, e7⟩
        rw [bytes_take_succ hm.1, hm.2, txt_cons]
        exact e6.app h6
      · exact absurd ha.2.2.2.2.2.1 (by simp)
/-- an item at place 0 was asked for -/
theorem SI.asked {L : List Ru} {N : Nat → Bool} {T : Nat → Nat → Bool} {r : Tb} (hT : TabOk L N T r) {st : Stk} {u : List Nat} (h : SI L N T r st u) {k t : Nat} (hk : 1 ≤ k) (hi : (⟨k, 0, t⟩ : It) ∈ itm r (topS st)) : ∃ x ∈ itm r (topS st), MvB L (rget L k).L x := by
  cases h with
  | base =>
    rcases ((hT.zero _).1 hi).inv with e | ⟨x, hx, ha⟩
    · have := congrArg It.R e; simp at this; omega
    · exact ⟨x, (hT.zero x).2 hx, ha.1, ha.2.2.2.2.1.symm⟩
  | @push s c j n xs u w x st h1 h2 h3 h4 h5 h6 =>
    rcases ((h5 _).1 hi).inv with ⟨⟨k0, p0, t0⟩, hx, hm, e⟩ | ⟨x, hx, ha⟩
    · have := congrArg It.P e; simp [mvI] at this
    · exact ⟨x, (h5 x).2 hx, ha.1, ha.2.2.2.2.1.symm⟩
/-- a right side is replaced -/
theorem SI.replace {L : List Ru} {N : Nat → Bool} {T : Nat → Nat → Bool} {r : Tb} (hT : TabOk L N T r) {st : Stk} {u : List Nat} (h : SI L N T r st u) {k a : Nat} (hk : 1 ≤ k) (hc : canR L r (topS st) a k = true) :
    ∃ (pt : Stk) (s : Nat) (xs : List Nat) (st' : Stk) (j : Nat), st = pt ++ (s, xs) :: st' ∧ pt.length = (rget L k).R.size ∧ k < L.length ∧ gto r s (rget L k).L = (j : Nat) ∧ j < r.1.length ∧ s < r.1.length ∧ SI L N T r ((j, nodeT k (txt pt)) :: (s, xs) :: st') u := by
  have hi := canR_inv hc
  have hok := hT.ok _ _ hi
  obtain ⟨pt, s, xs, st', u', w, n, e1, e2, e3, e4, e5, e6⟩ := SI.back hT _ h hi (Nat.le_refl _)
  have hs : s < r.1.length := e3.lt hT.pos
  obtain ⟨x, hx, hm⟩ := e3.asked hT hk e6
  have hlet : letB (rget L k).L = true := by unfold letB; rw [hT.cl.big k hk hok.1]; rfl
  obtain ⟨j, g1, g2, g3⟩ := hT.goto hs hx hm hlet
  rw [List.take_of_length_le (by rw [bytes_len]; exact Nat.le_refl _)] at e5
  refine ⟨pt, s, xs, st', j, e1, e2, hok.1, g1, g2, hs, ?_⟩
  rw [e4]
  exact SI.push e3 hlet g1 g2 g3 (Ds.one hk hok.1 e5)
theorem SI.shift {L : List Ru} {N : Nat → Bool} {T : Nat → Nat → Bool} {r : Tb} (hT : TabOk L N T r) {s : Nat} {x u : List Nat} {st : Stk} (h : SI L N T r ((s, x) :: st) u) {a : Nat} (ha : smallB a = true) (hc : canS r s a = true) : ∃ j : Nat, gto r s a = j ∧ j < r.1.length ∧ SI L N T r ((j, [a]) :: (s, x) :: st) (u ++ [a]) := by
  have hlet : letB a = true := by unfold letB; rw [ha]; simp
  have hc' : 0 ≤ gto r s a := of_decide_eq_true hc
  rcases hT.step s (h.lt hT.pos) a hlet with ⟨h1, _⟩ | ⟨j, h1, h2, _, h4⟩
  · omega
  · exact ⟨j, h1, h2, SI.push h hlet h1 h2 h4 (Ds.small ha Ds.nil)⟩
/-- at the end the start lies on the stack alone -/
theorem SI.done {L : List Ru} {N : Nat → Bool} {T : Nat → Nat → Bool} {r : Tb} (hT : TabOk L N T r) {S : Nat} (h0 : bytes (rget L 0).R = [S]) {st : Stk} {u : List Nat} (h : SI L N T r st u) {a : Nat} (hc : canR L r (topS st) a 0 = true) :
    a = 36 ∧ ∃ j x n, st = [(j, x), (0, [])] ∧ Ds L [S] u x n := by
  have hi := canR_inv hc
  have hsz : (rget L 0).R.size = 1 := by rw [← bytes_len, h0]; rfl
  rw [hsz] at hi
  have zero_inv : ∀ {st : Stk} {u : List Nat} {t : Nat}, SI L N T r st u → (⟨0, 0, t⟩ : It) ∈ itm r (topS st) → t = 36 ∧ st = [(0, [])] ∧ u = [] := by
    intro st u t h hi
    cases h with
    | base =>
      rcases ((hT.zero _).1 hi).inv with e | ⟨x, hx, ha⟩
      · exact ⟨congrArg It.T e, rfl, rfl⟩
      · exact absurd ha.2.2.1 (by simp)
    | @push s c j n xs u w x st h1 h2 h3 h4 h5 h6 =>
      rcases ((h5 _).1 hi).inv with ⟨⟨k0, p0, t0⟩, hx, hm, e⟩ | ⟨x, hx, ha⟩
      · have := congrArg It.P e; simp [mvI] at this
      · exact absurd ha.2.2.1 (by simp)
  obtain ⟨pt, s, xs, st', u', w, n, e1, e2, e3, e4, e5, e6⟩ := SI.back hT 1 h hi (by omega)
  obtain ⟨ha, hst, hu⟩ := zero_inv e3 e6
  obtain ⟨⟨j, x⟩, rfl⟩ : ∃ q, pt = [q] := List.length_eq_one_iff.1 e2
  rw [h0] at e5
  refine ⟨ha, j, x, n, by rw [e1, hst]; rfl, ?_⟩
  rw [e4, hu]
  simpa [txt] using e5

/-- with the end's sign: is it derived? -/
def Acc (L : List Ru) (S : Nat) (v : List Nat) : Prop := ∃ w x n, Ds L [S] w x n ∧ v = w ++ [36]
/-- an item stands where something good comes -/
def Val (L : List Ru) (S : Nat) (u : List Nat) (x : It) : Prop := ∃ z, z.head? = some x.T ∧ ∀ y t n, Ds L ((bytes (rget L x.R).R).drop x.P) y t n → Acc L S (u ++ y ++ z)
/-- what is known of the letters is so -/
structure GrSo (L : List Ru) (N : Nat → Bool) (T : Nat → Nat → Bool) : Prop where
  nul : ∀ l, l.all N = true → ∃ x n, Ds L l [] x n
  fst : ∀ k, k < L.length → ∀ p a, beg N T ((bytes (rget L k).R).drop p) a = true → ∃ w x n, Ds L ((bytes (rget L k).R).drop p) (a :: w) x n
  some_ : ∀ k, k < L.length → ∀ p, ∃ w x n, Ds L ((bytes (rget L k).R).drop p) w x n
theorem val_cl {L : List Ru} {N : Nat → Bool} {T : Nat → Nat → Bool} (hS : GrSo L N T) {S : Nat} {u : List Nat} {X : It → Prop} (hX : ∀ x, X x → IOk L x ∧ Val L S u x) (hf : ∀ c x, x < 128 → T c x = true → smallB x = true) : ∀ y, Cl L N T X y → IOk L y ∧ Val L S u y := fun y h => by
  refine h (fun y => IOk L y ∧ Val L S u y) hX ?_
  rintro ⟨k, p, t⟩ ⟨k', p', b⟩ ⟨hok, z, hz, hv⟩ ha
  refine ⟨ha.ok hok hf, ?_⟩
  obtain ⟨h1, h2, h3, h4, h5, h6, h7, h8⟩ := ha
  have h6 : p' = 0 := h6
  subst h6
  have hd : (bytes (rget L k).R).drop p = (rget L k').L :: (bytes (rget L k).R).drop (p + 1) := by
    have hl : p < (bytes (rget L k).R).length := by rw [bytes_len]; exact h1
    rw [List.drop_eq_getElem_cons hl, bytes_get, h5]
  obtain ⟨wr, xr, nr, hr, hh⟩ : ∃ wr xr nr, Ds L ((bytes (rget L k).R).drop (p + 1)) wr xr nr ∧ (wr ++ z).head? = some b := by
    unfold sgS at h8
    rw [Bool.or_eq_true, Bool.and_eq_true] at h8
    rcases h8 with h8 | ⟨h8, h9⟩
    · obtain ⟨w, x, n, hd⟩ := hS.fst k hok.1 _ _ h8
      exact ⟨_, x, n, hd, rfl⟩
    · obtain ⟨x, n, hd⟩ := hS.nul _ h8
      refine ⟨[], x, n, hd, ?_⟩
      rw [List.nil_append, hz]
      have : b = t := by simpa using h9
      rw [this]
  refine ⟨wr ++ z, hh, fun y x n hy => ?_⟩
  have := hv (y ++ wr) _ _ (by rw [hd]; exact Ds.big h3 h4 (by simpa using hy) hr)
  rw [show u ++ y ++ (wr ++ z) = u ++ (y ++ wr) ++ z from by simp]
  exact this
theorem SI.val {L : List Ru} {N : Nat → Bool} {T : Nat → Nat → Bool} {r : Tb} (hT : TabOk L N T r) (hS : GrSo L N T) {S : Nat} (h0 : bytes (rget L 0).R = [S]) {st : Stk} {u : List Nat} (h : SI L N T r st u) : ∀ x ∈ itm r (topS st), IOk L x ∧ Val L S u x := by
  induction h with
  | base =>
    intro x hx
    refine val_cl hS (fun y hy => ?_) hT.cl.gr.fst x ((hT.zero x).1 hx)
    subst hy
    refine ⟨⟨hT.cl.pos, Nat.zero_le _, Or.inl rfl⟩, [36], rfl, fun y t n hy => ?_⟩
    rw [show (⟨0, 0, 36⟩ : It).R = 0 from rfl, h0] at hy
    exact ⟨y, t, n, hy, by simp⟩
  | @push s c j n xs u w x st h1 h2 h3 h4 h5 h6 ih =>
    intro y hy
    refine val_cl hS (fun y hy => ?_) hT.cl.gr.fst y ((h5 y).1 hy)
    obtain ⟨⟨k, p, t⟩, hx, hm, rfl⟩ := hy
    obtain ⟨hok, z, hz, hv⟩ := ih _ hx
    refine ⟨mv_ok hok hm, z, hz, fun y t' n' hy => ?_⟩
    have hd : (bytes (rget L k).R).drop p = [c] ++ (bytes (rget L k).R).drop (p + 1) := by
      have hl : p < (bytes (rget L k).R).length := by rw [bytes_len]; exact hm.1
      have hc : ch (rget L k).R p = c := hm.2
      rw [List.drop_eq_getElem_cons hl, bytes_get, hc]; rfl
    have := hv (w ++ y) _ _ (by show Ds L ((bytes (rget L k).R).drop p) _ _ _; rw [hd]; exact h6.app hy)
    rw [show u ++ w ++ y ++ z = u ++ (w ++ y) ++ z from by simp]
    exact this
/-- where something can be done, something good comes -/
theorem SI.good {L : List Ru} {N : Nat → Bool} {T : Nat → Nat → Bool} {r : Tb} (hT : TabOk L N T r) (hS : GrSo L N T) {S : Nat} (h0 : bytes (rget L 0).R = [S]) {st : Stk} {u : List Nat} (h : SI L N T r st u) {a : Nat} (hc : (smallB a = true ∧ canS r (topS st) a = true) ∨ ∃ k, canR L r (topS st) a k = true) : ∃ v, Acc L S (u ++ a :: v) := by
  rcases hc with ⟨ha, hc⟩ | ⟨k, hc⟩
  · have hlet : letB a = true := by unfold letB; rw [ha]; simp
    have hc' : 0 ≤ gto r (topS st) a := of_decide_eq_true hc
    rcases hT.step _ (h.lt hT.pos) a hlet with ⟨h1, _⟩ | ⟨j, h1, h2, ⟨⟨k, p, t⟩, hx, hm⟩, h4⟩
    · omega
    · obtain ⟨hok, z, hz, hv⟩ := h.val hT hS h0 _ hx
      have hd : (bytes (rget L k).R).drop p = a :: (bytes (rget L k).R).drop (p + 1) := by
        have hl : p < (bytes (rget L k).R).length := by rw [bytes_len]; exact hm.1
        have hc : ch (rget L k).R p = a := hm.2
        rw [List.drop_eq_getElem_cons hl, bytes_get, hc]
      obtain ⟨w, x, n, hw⟩ := hS.some_ k hok.1 (p + 1)
      have := hv (a :: w) _ _ (by show Ds L ((bytes (rget L k).R).drop p) _ _ _; rw [hd]; exact Ds.small ha hw)
      exact ⟨w ++ z, by simpa using this⟩
  · have hi := canR_inv hc
    obtain ⟨hok, z, hz, hv⟩ := h.val hT hS h0 _ hi
    have := hv [] [] 0 (by show Ds L ((bytes (rget L k).R).drop (rget L k).R.size) _ _ _; rw [List.drop_eq_nil_of_le (by rw [bytes_len]; exact Nat.le_refl _)]; exact Ds.nil)
    cases z with
    | nil => cases hz
    | cons b z =>
      have : b = a := by simpa using hz
      subst this
      exact ⟨z, by simpa using ‹Acc L S (u ++ [] ++ b :: z)›⟩
end Go.Proofs.YtkglggkkbmmjkaaDoor

namespace Go.Proofs.YtkglggkkbmmjkaaDoor
open Go.RowKit

/-- in no state is there more than one thing to do -/
def NoCl (L : List Ru) (r : Tb) : Prop := ∀ s, s < r.1.length → ∀ a, sigB a = true → (actT L r s a).size ≤ 1
theorem wdU_len1 {st : Bool} {ru : Nat → Bool} (h : (wdU st ru 9).length ≤ 1) : (st = true → ∀ k, k < 9 → ru k = false) ∧ ∀ k k', k < 9 → k' < 9 → ru k = true → ru k' = true → k = k' := by
  have hl : (wdU st ru 9).length = (if st then 1 else 0) + ((List.range 9).filter ru).length := by
    unfold wdU
    rw [List.length_append, List.length_map]
    cases st <;> rfl
  rw [hl] at h
  refine ⟨fun e k hk => ?_, fun k k' hk hk' h1 h2 => ?_⟩
  · rw [e, if_pos rfl] at h
    have h0 : ((List.range 9).filter ru).length = 0 := by omega
    cases hr : ru k
    · rfl
    · have : k ∈ (List.range 9).filter ru := List.mem_filter.2 ⟨List.mem_range.2 hk, hr⟩
      rw [List.length_eq_zero_iff.1 h0] at this; cases this
  · have m1 : k ∈ (List.range 9).filter ru := List.mem_filter.2 ⟨List.mem_range.2 hk, h1⟩
    have m2 : k' ∈ (List.range 9).filter ru := List.mem_filter.2 ⟨List.mem_range.2 hk', h2⟩
    have hle : ((List.range 9).filter ru).length ≤ 1 := by omega
    match hf : (List.range 9).filter ru, hle with
    | [], _ => rw [hf] at m1; cases m1
    | [x], _ =>
      rw [hf] at m1 m2
      rw [List.mem_singleton.1 m1, List.mem_singleton.1 m2]
theorem actT_len {L : List Ru} {r : Tb} {s a : Nat} : (actT L r s a).size = (wdU (canS r s a) (canR L r s a) 9).length := rfl
theorem NoCl.sr {L : List Ru} {r : Tb} (h : NoCl L r) {s a k : Nat} (hs : s < r.1.length) (ha : sigB a = true) (hk : k < 9) (h1 : canS r s a = true) : canR L r s a k = false := (wdU_len1 (by rw [← actT_len]; exact h s hs a ha)).1 h1 k hk
theorem NoCl.rr {L : List Ru} {r : Tb} (h : NoCl L r) {s a k k' : Nat} (hs : s < r.1.length) (ha : sigB a = true) (hk : k < 9) (hk' : k' < 9) (h1 : canR L r s a k = true) (h2 : canR L r s a k' = true) : k = k' := (wdU_len1 (by rw [← actT_len]; exact h s hs a ha)).2 k k' hk hk' h1 h2
theorem sigB_of {a : Nat} (h : a = 36 ∨ smallB a = true) : sigB a = true := by
  unfold sigB
  rcases h with h | h
  · simp [h]
  · simp [h]
theorem canR_sig {L : List Ru} {N : Nat → Bool} {T : Nat → Nat → Bool} {r : Tb} (hT : TabOk L N T r) {s a k : Nat} (h : canR L r s a k = true) : sigB a = true := sigB_of (hT.ok s _ (canR_inv h)).2.2
theorem canS_of {r : Tb} {s a j : Nat} (h : gto r s a = (j : Nat)) : canS r s a = true := by
  unfold canS gto at *
  rw [h]; simp
theorem sigB_small {a : Nat} (h : smallB a = true) : sigB a = true := sigB_of (Or.inr h)
/-- two readings of the same: one goes on where the other stands -/
theorem Run.det {L : List Ru} {N : Nat → Bool} {T : Nat → Nat → Bool} {r : Tb} (hT : TabOk L N T r) (hN : NoCl L r) {n : Nat} {st st1 : Stk} {inp inp1 : List Nat} (h : Run L r n st inp st1 inp1) : ∀ {m : Nat} {st2 : Stk} {inp2 : List Nat}, Run L r m st inp st2 inp2 →
    (∃ k, Run L r k st1 inp1 st2 inp2 ∧ m = n + k) ∨ (∃ k, Run L r k st2 inp2 st1 inp1 ∧ n = m + k) := by
  have hlen := hT.cl.gr.len
  induction h with
  | refl => intro m st2 inp2 h2; exact Or.inl ⟨m, h2, by omega⟩
  | @shift n s a j x inp inp' st st' h0 h1 h2 h3 h4 ih =>
    intro m st2 inp2 k
    generalize hst : (s, x) :: st = stA at k
    generalize hin : a :: inp = inA at k
    cases k with
    | refl =>
      subst hst; subst hin
      exact Or.inr ⟨n, Run.shift h0 h1 h2 h3 h4, by omega⟩
    | @shift _ s' a' j' x' inp'' _ st'' _ k0 k1 k2 k3 k4 =>
      obtain ⟨rfl, rfl⟩ := List.cons.inj hin
      obtain ⟨e, rfl⟩ := List.cons.inj hst
      cases e
      have e : j = j' := by rw [h2] at k2; exact Int.ofNat.inj k2
      subst e
      exact ih k4
    | @reduce _ k s' a' j' x' inp'' _ pt st'' _ k0 k1 k2 k3 k4 k5 k6 k7 =>
      obtain ⟨rfl, rfl⟩ := List.cons.inj hin
      rw [← hst] at k3 k0
      have := hN.sr (k := k) h0 (sigB_small h1) (by omega) (canS_of h2)
      have k3' : canR L r s a k = true := k3
      rw [this] at k3'; cases k3'
  | @reduce n k s a j x inp inp' pt st st' h0 h1 h2 h3 h4 h5 h6 h7 ih =>
    intro m st2 inp2 q
    generalize hst : pt ++ (s, x) :: st = stA at q h3 h0
    generalize hin : a :: inp = inA at q
    cases q with
    | refl =>
      subst hst; subst hin
      exact Or.inr ⟨n + 1, Run.reduce h0 h1 h2 h3 h4 h5 h6 h7, by omega⟩
    | @shift _ s' a' j' x' inp'' _ st'' _ k0 k1 k2 k3 k4 =>
      obtain ⟨rfl, rfl⟩ := List.cons.inj hin
      have := hN.sr (k := k) k0 (sigB_small k1) (by omega) (canS_of k2)
      have h3' : canR L r s' a k = true := h3
      rw [this] at h3'; cases h3'
    | @reduce m' k' s' a' j' x' inp'' _ pt' st'' _ k0 k1 k2 k3 k4 k5 k6 k7 =>
      obtain ⟨rfl, rfl⟩ := List.cons.inj hin
      have e := hN.rr k0 (canR_sig hT h3) (by omega) (by omega) h3 k3
      subst e
      obtain ⟨e1, e2⟩ := List.append_inj hst (by rw [h4, k4])
      subst e1
      obtain ⟨e3, rfl⟩ := List.cons.inj e2
      cases e3
      have e : j = j' := by rw [h5] at k5; exact Int.ofNat.inj k5
      subst e
      rcases ih k7 with ⟨q, hq, e⟩ | ⟨q, hq, e⟩
      · exact Or.inl ⟨q, hq, by omega⟩
      · exact Or.inr ⟨q, hq, by omega⟩
/-- where the end is come to, nothing moves -/
theorem Run.stuck {L : List Ru} {N : Nat → Bool} {T : Nat → Nat → Bool} {r : Tb} (hT : TabOk L N T r) (hN : NoCl L r) {n : Nat} {st st1 : Stk} {a : Nat} {inp inp1 : List Nat} (h : Run L r n st (a :: inp) st1 inp1) (ha : smallB a = false) (hc : canR L r (topS st) a 0 = true) : n = 0 ∧ st1 = st ∧ inp1 = a :: inp := by
  have hlen := hT.cl.gr.len
  generalize hin : a :: inp = inA at h
  cases h with
  | refl => exact ⟨rfl, rfl, rfl⟩
  | shift h0 h1 h2 h3 h4 =>
    obtain ⟨rfl, rfl⟩ := List.cons.inj hin
    rw [ha] at h1; cases h1
  | reduce h0 h1 h2 h3 h4 h5 h6 h7 =>
    obtain ⟨rfl, rfl⟩ := List.cons.inj hin
    have := hN.rr h0 (canR_sig hT h3) (by omega) (by omega) h3 hc
    omega
/-- one way: how it is written, how many replacements -/
theorem ds_uniq {L : List Ru} {N : Nat → Bool} {T : Nat → Nat → Bool} {r : Tb} (hT : TabOk L N T r) (hN : NoCl L r) {S : Nat} (h0 : bytes (rget L 0).R = [S]) {w x x' : List Nat} {n n' : Nat} (h : Ds L [S] w x n) (h' : Ds L [S] w x' n') : x = x' ∧ n = n' := by
  have hz : (⟨0, 0, 36⟩ : It) ∈ itm r 0 := (hT.zero _).2 (Cl.base rfl)
  obtain ⟨pt, e1, e2, e3, e4, e5⟩ := sim hT h (xs := []) (st := []) hT.pos hz (by simpa using h0) []
  obtain ⟨pt', f1, f2, f3, f4, f5⟩ := sim hT h' (xs := []) (st := []) hT.pos hz (by simpa using h0) []
  have hsz : (rget L 0).R.size = 1 := by rw [← bytes_len, h0]; rfl
  have c1 : canR L r (topS (pt ++ [(0, [])])) 36 0 = true := canR_of (by rw [hsz]; exact e4)
  have c2 : canR L r (topS (pt' ++ [(0, [])])) 36 0 = true := canR_of (by rw [hsz]; exact f4)
  have key : pt = pt' ∧ n = n' := by
    rcases e5.det hT hN f5 with ⟨k, hk, e⟩ | ⟨k, hk, e⟩
    · obtain ⟨rfl, e6, _⟩ := hk.stuck hT hN (by rfl) c1
      exact ⟨(List.append_inj e6.symm (by rw [e1, f1])).1, by omega⟩
    · obtain ⟨rfl, e6, _⟩ := hk.stuck hT hN (by rfl) c2
      exact ⟨(List.append_inj e6 (by rw [e1, f1])).1, by omega⟩
  exact ⟨by rw [← e2, ← f2, key.1], key.2⟩
end Go.Proofs.YtkglggkkbmmjkaaDoor
