import Derived.Test.YtkglggkkbmmjkaaDoorH12LrTab
namespace Go.Proofs.YtkglggkkbmmjkaaDoor
open Go.RowKit

/-- letters derive a word; how that is written; by how many replacements -/
inductive Ds (L : List Ru) : List Nat → List Nat → List Nat → Nat → Prop
  | nil : Ds L [] [] [] 0
  | small {c : Nat} {l w x : List Nat} {n : Nat} : smallB c = true → Ds L l w x n → Ds L (c :: l) (c :: w) (c :: x) n
  | big {k : Nat} {l w1 w2 x1 x2 : List Nat} {n1 n2 : Nat} : 1 ≤ k → k < L.length → Ds L (bytes (rget L k).R) w1 x1 n1 → Ds L l w2 x2 n2 → Ds L ((rget L k).L :: l) (w1 ++ w2) ((48 + k) :: 40 :: (x1 ++ 41 :: x2)) (n1 + 1 + n2)
theorem Ds.app {L : List Ru} {l1 w1 x1 : List Nat} {n1 : Nat} (h : Ds L l1 w1 x1 n1) : ∀ {l2 w2 x2 : List Nat} {n2 : Nat}, Ds L l2 w2 x2 n2 → Ds L (l1 ++ l2) (w1 ++ w2) (x1 ++ x2) (n1 + n2) := by
  induction h with
  | nil => intro l2 w2 x2 n2 h; simpa using h
  | small hc _ ih => intro l2 w2 x2 n2 h; exact Ds.small hc (ih h)
  | @big k l wa wb xa xb na nb h1 h2 ha hb iha ihb =>
    intro l2 w2 x2 n2 h
    have := Ds.big h1 h2 ha (ihb h)
    rw [show wa ++ wb ++ w2 = wa ++ (wb ++ w2) from by simp, show (48 + k) :: 40 :: (xa ++ 41 :: xb) ++ x2 = (48 + k) :: 40 :: (xa ++ 41 :: (xb ++ x2)) from by simp, show na + 1 + nb + n2 = na + 1 + (nb + n2) from by omega]
    exact this
theorem Ds.one {L : List Ru} {k : Nat} {w x : List Nat} {n : Nat} (h1 : 1 ≤ k) (h2 : k < L.length) (h : Ds L (bytes (rget L k).R) w x n) : Ds L [(rget L k).L] w ((48 + k) :: 40 :: (x ++ [41])) (n + 1) := by
  have := Ds.big h1 h2 h Ds.nil
  simpa using this
theorem Ds.smalls {L : List Ru} {l w x : List Nat} {n : Nat} (h : Ds L l w x n) : ∀ a ∈ w, smallB a = true := by
  induction h with
  | nil => intro a ha; cases ha
  | small hc _ ih =>
    intro a ha
    rcases List.mem_cons.1 ha with rfl | ha
    · exact hc
    · exact ih a ha
  | big _ _ _ _ ih1 ih2 =>
    intro a ha
    rcases List.mem_append.1 ha with ha | ha
    · exact ih1 a ha
    · exact ih2 a ha

/-- the rules, with what is known of their letters: closed -/
structure GrCl (L : List Ru) (N : Nat → Bool) (T : Nat → Nat → Bool) : Prop where
  gr : GrOk L T
  pos : 0 < L.length
  big : ∀ k, 1 ≤ k → k < L.length → bigB (rget L k).L = true
  nul : ∀ k, 1 ≤ k → k < L.length → (bytes (rget L k).R).all N = true → N (rget L k).L = true
  fst : ∀ k a, 1 ≤ k → k < L.length → beg N T (bytes (rget L k).R) a = true → T (rget L k).L a = true
  let_ : ∀ k, k < L.length → ∀ c ∈ bytes (rget L k).R, letB c = true
theorem big_notsmall {c : Nat} (h : bigB c = true) : smallB c = false := by
  have := bigB_iff.1 h
  cases e : smallB c
  · rfl
  · have := smallB_iff.1 e; omega
theorem ds_first {L : List Ru} {N : Nat → Bool} {T : Nat → Nat → Bool} (hG : GrCl L N T) {l w x : List Nat} {n : Nat} (h : Ds L l w x n) : (w = [] → l.all N = true) ∧ ∀ a w', w = a :: w' → beg N T l a = true := by
  induction h with
  | nil => exact ⟨fun _ => rfl, (fun a w' e => by cases e)⟩
  | @small c l w x n hc _ ih =>
    refine ⟨(fun e => by cases e), (fun a w' e => ?_)⟩
    cases e
    rw [beg, if_pos hc]; simp
  | @big k l w1 w2 x1 x2 n1 n2 h1 h2 _ _ ih1 ih2 =>
    have hb := hG.big k h1 h2
    refine ⟨fun e => ?_, fun a w' e => ?_⟩
    · rw [List.append_eq_nil_iff] at e
      rw [List.all_cons, hG.nul k h1 h2 (ih1.1 e.1), ih2.1 e.2]; rfl
    · rw [beg, big_notsmall hb]
      simp only [Bool.false_eq_true, if_false]
      cases w1 with
      | nil =>
        rw [List.nil_append] at e
        have hn := hG.nul k h1 h2 (ih1.1 rfl)
        rw [show hasB N (rget L k).L = true from by unfold hasB; rw [hb, hn]; rfl, ih2.2 a w' e]; simp
      | cons b w1 =>
        rw [List.cons_append] at e
        obtain ⟨rfl, _⟩ := List.cons.inj e
        rw [hG.fst k b h1 h2 (ih1.2 b w1 rfl)]; rfl

def itm (r : Tb) (s : Nat) : List It := r.1.getD s []
def gto (r : Tb) (s c : Nat) : Int := toM (r.2.getD s []) c
/-- a table that stands -/
structure TabOk (L : List Ru) (N : Nat → Bool) (T : Nat → Nat → Bool) (r : Tb) : Prop where
  cl : GrCl L N T
  pos : 0 < r.1.length
  zero : ∀ y, y ∈ itm r 0 ↔ Cl L N T (· = ⟨0, 0, 36⟩) y
  ok : ∀ s, ∀ y ∈ itm r s, IOk L y
  step : ∀ s, s < r.1.length → ∀ c, letB c = true → (gto r s c = -1 ∧ ∀ x ∈ itm r s, ¬ MvB L c x) ∨ ∃ j : Nat, gto r s c = j ∧ j < r.1.length ∧ (∃ x ∈ itm r s, MvB L c x) ∧ ∀ y, y ∈ itm r j ↔ Cl L N T (Mvd L c (itm r s)) y
  nolet : ∀ s, s < r.1.length → ∀ c, letB c = false → gto r s c = -1
  closed : ∀ s, s < r.1.length → ∀ x ∈ itm r s, ∀ y, Asks L N T x y → y ∈ itm r s
theorem TabOk.goto {L : List Ru} {N : Nat → Bool} {T : Nat → Nat → Bool} {r : Tb} (h : TabOk L N T r) {s : Nat} (hs : s < r.1.length) {x : It} (hx : x ∈ itm r s) {c : Nat} (hm : MvB L c x) (hc : letB c = true) : ∃ j : Nat, gto r s c = j ∧ j < r.1.length ∧ ∀ y, y ∈ itm r j ↔ Cl L N T (Mvd L c (itm r s)) y := by
  rcases h.step s hs c hc with ⟨_, h2⟩ | ⟨j, h1, h2, _, h4⟩
  · exact absurd hm (h2 x hx)
  · exact ⟨j, h1, h2, h4⟩

abbrev Stk := List (Nat × List Nat)
def txt (pt : Stk) : List Nat := pt.reverse.flatMap (·.2)
def topS (st : Stk) : Nat := (st.headD (0, [])).1
theorem txt_snoc (pt : Stk) (q : Nat × List Nat) : txt (pt ++ [q]) = q.2 ++ txt pt := by simp [txt]
theorem txt_cons (q : Nat × List Nat) (pt : Stk) : txt (q :: pt) = txt pt ++ q.2 := by simp [txt]
def nodeT (k : Nat) (x : List Nat) : List Nat := (48 + k) :: 40 :: (x ++ [41])
/-- moves of the reading: the stack, and what is still to come; how often a right side was replaced -/
inductive Run (L : List Ru) (r : Tb) : Nat → Stk → List Nat → Stk → List Nat → Prop
  | refl {st : Stk} {inp : List Nat} : Run L r 0 st inp st inp
  | shift {n s a j : Nat} {x inp inp' : List Nat} {st st' : Stk} : s < r.1.length → smallB a = true → gto r s a = (j : Nat) → j < r.1.length → Run L r n ((j, [a]) :: (s, x) :: st) inp st' inp' → Run L r n ((s, x) :: st) (a :: inp) st' inp'
  | reduce {n k s a j : Nat} {x inp inp' : List Nat} {pt st st' : Stk} : topS (pt ++ (s, x) :: st) < r.1.length → 1 ≤ k → k < L.length → canR L r (topS (pt ++ (s, x) :: st)) a k = true → pt.length = (rget L k).R.size → gto r s (rget L k).L = (j : Nat) → j < r.1.length →
      Run L r n ((j, nodeT k (txt pt)) :: (s, x) :: st) (a :: inp) st' inp' → Run L r (n + 1) (pt ++ (s, x) :: st) (a :: inp) st' inp'
theorem Run.trans {L : List Ru} {r : Tb} {n m : Nat} {a b c : Stk} {u v w : List Nat} (h : Run L r n a u b v) (k : Run L r m b v c w) : Run L r (n + m) a u c w := by
  induction h with
  | refl => simpa using k
  | shift h0 h1 h2 h3 _ ih => exact Run.shift h0 h1 h2 h3 (ih k)
  | reduce h0 h1 h2 h3 h4 h5 h6 _ ih =>
    have := Run.reduce h0 h1 h2 h3 h4 h5 h6 (ih k)
    rw [show ∀ a b : Nat, a + 1 + b = a + b + 1 from fun a b => by omega]
    exact this
theorem canR_of {L : List Ru} {r : Tb} {s a k : Nat} (h : (⟨k, (rget L k).R.size, a⟩ : It) ∈ itm r s) : canR L r s a k = true := by
  unfold canR endsL
  rw [List.any_eq_true]
  exact ⟨_, h, by unfold endI; simp⟩
theorem canR_inv {L : List Ru} {r : Tb} {s a k : Nat} (h : canR L r s a k = true) : (⟨k, (rget L k).R.size, a⟩ : It) ∈ itm r s := by
  unfold canR endsL at h
  rw [List.any_eq_true] at h
  obtain ⟨⟨y1, y2, y3⟩, hy, e⟩ := h
  unfold endI at e
  simp only [Bool.and_eq_true, beq_iff_eq] at e
  obtain ⟨e1, e2, e3⟩ := e
  subst e3
  subst e2
  subst e1
  exact hy
theorem drop_cons {R : ByteArray} {p c : Nat} {l : List Nat} (h : (bytes R).drop p = c :: l) : p < R.size ∧ ch R p = c ∧ (bytes R).drop (p + 1) = l := by
  have hp : p < (bytes R).length := by
    rcases Nat.lt_or_ge p (bytes R).length with hp | hp
    · exact hp
    · rw [List.drop_eq_nil_of_le hp] at h; cases h
  rw [List.drop_eq_getElem_cons hp] at h
  obtain ⟨e1, e2⟩ := List.cons.inj h
  have hp' : p < R.size := by rw [← bytes_len]; exact hp
  exact ⟨hp', by rw [← e1, bytes_get], e2⟩
theorem sig_lt {a : Nat} (h : a = 36 ∨ smallB a = true) : a < 128 := by
  rcases h with h | h
  · omega
  · have := smallB_iff.1 h; omega
/-- what is derived is read so: by as many replacements, and so written -/
theorem sim {L : List Ru} {N : Nat → Bool} {T : Nat → Nat → Bool} {r : Tb} (hT : TabOk L N T r) {l w x : List Nat} {n : Nat} (hd : Ds L l w x n) : ∀ {s : Nat} {xs : List Nat} {st : Stk} {k p a : Nat}, s < r.1.length → (⟨k, p, a⟩ : It) ∈ itm r s → (bytes (rget L k).R).drop p = l → ∀ inp, ∃ pt : Stk,
    pt.length = l.length ∧ txt pt = x ∧ topS (pt ++ (s, xs) :: st) < r.1.length ∧ (⟨k, p + l.length, a⟩ : It) ∈ itm r (topS (pt ++ (s, xs) :: st)) ∧ Run L r n ((s, xs) :: st) (w ++ a :: inp) (pt ++ (s, xs) :: st) (a :: inp) := by
  induction hd with
  | nil =>
    intro s xs st k p a hs hi _ inp
    exact ⟨[], rfl, rfl, hs, hi, Run.refl⟩
  | @small c l w x n hc _ ih =>
    intro s xs st k p a hs hi hl inp
    obtain ⟨h1, h2, h3⟩ := drop_cons hl
    have hlet : letB c = true := by unfold letB; rw [hc]; simp
    have hm : MvB L c ⟨k, p, a⟩ := ⟨h1, h2⟩
    obtain ⟨j, g1, g2, g3⟩ := hT.goto hs hi hm hlet
    obtain ⟨pt, e1, e2, e3, e4, e5⟩ := ih (xs := [c]) (st := (s, xs) :: st) g2 ((g3 ⟨k, p + 1, a⟩).2 (Cl.base ⟨_, hi, hm, rfl⟩)) h3 inp
    refine ⟨pt ++ [(j, [c])], by simp [e1], by rw [txt_snoc, e2]; rfl, by simpa using e3, ?_, ?_⟩
    · rw [List.append_assoc, List.length_cons, show p + (l.length + 1) = p + 1 + l.length from by omega]; exact e4
    · rw [List.append_assoc]
      exact Run.shift hs hc g1 g2 e5
  | @big k' l w1 w2 x1 x2 n1 n2 k1 k2 hd1 hd2 ih1 ih2 =>
    intro s xs st k p a hs hi hl inp
    obtain ⟨h1, h2, h3⟩ := drop_cons hl
    have hb := hT.cl.big k' k1 k2
    have hlet : letB (rget L k').L = true := by unfold letB; rw [hb]; rfl
    have hm : MvB L (rget L k').L ⟨k, p, a⟩ := ⟨h1, h2⟩
    have hia := (hT.ok s _ hi).2.2
    obtain ⟨j, g1, g2, g3⟩ := hT.goto hs hi hm hlet
    obtain ⟨b, inp1, hbi, hb128, hsg⟩ : ∃ b inp1, w2 ++ a :: inp = b :: inp1 ∧ b < 128 ∧ sgS N T (rget L k) (p + 1) a b = true := by
      have hf := ds_first hT.cl hd2
      cases w2 with
      | nil => exact ⟨a, inp, rfl, sig_lt hia, by unfold sgS; rw [h3, hf.1 rfl]; simp⟩
      | cons b w2 => exact ⟨b, w2 ++ a :: inp, rfl, sig_lt (Or.inr (hd2.smalls b (List.mem_cons_self ..))), by unfold sgS; rw [h3, hf.2 b w2 rfl]; rfl⟩
    have hask : Asks L N T ⟨k, p, a⟩ ⟨k', 0, b⟩ := ⟨h1, by show bigB (ch (rget L k).R p) = true; rw [h2]; exact hb, k1, k2, h2.symm, rfl, hb128, hsg⟩
    obtain ⟨pt1, e1, e2, e3, e4, e5⟩ := ih1 (xs := xs) (st := st) hs (hT.closed s hs _ hi _ hask) rfl inp1
    obtain ⟨pt2, f1, f2, f3, f4, f5⟩ := ih2 (xs := nodeT k' x1) (st := (s, xs) :: st) g2 ((g3 ⟨k, p + 1, a⟩).2 (Cl.base ⟨_, hi, hm, rfl⟩)) h3 inp
    refine ⟨pt2 ++ [(j, nodeT k' x1)], by simp [f1], by rw [txt_snoc, f2]; simp [nodeT], by simpa using f3, ?_, ?_⟩
    · rw [List.append_assoc, List.length_cons, show p + (l.length + 1) = p + 1 + l.length from by omega]; exact f4
    · rw [bytes_len] at e1 e4
      rw [Nat.zero_add] at e4
      rw [List.append_assoc, List.append_assoc, hbi, show n1 + 1 + n2 = n1 + (n2 + 1) from by omega]
      refine e5.trans (Run.reduce e3 k1 k2 (canR_of e4) e1 g1 g2 ?_)
      rw [e2, ← hbi]; exact f5
end Go.Proofs.YtkglggkkbmmjkaaDoor

namespace Go.Proofs.YtkglggkkbmmjkaaDoor
open Go.RowKit

theorem Cl.inv {rs : List Ru} {N : Nat → Bool} {T : Nat → Nat → Bool} {X : It → Prop} {y : It} (h : Cl rs N T X y) : X y ∨ ∃ x, Cl rs N T X x ∧ Asks rs N T x y := by
  have := h (fun y => Cl rs N T X y ∧ (X y ∨ ∃ x, Cl rs N T X x ∧ Asks rs N T x y)) (fun x hx => ⟨Cl.base hx, Or.inl hx⟩) (fun x y ⟨h1, _⟩ ha => ⟨h1.step ha, Or.inr ⟨x, h1, ha⟩⟩)
  exact this.2
/-- a stack, and what is read -/
inductive SI (L : List Ru) (N : Nat → Bool) (T : Nat → Nat → Bool) (r : Tb) : Stk → List Nat → Prop
  | base : SI L N T r [(0, [])] []
  | push {s c j n : Nat} {xs u w x : List Nat} {st : Stk} : SI L N T r ((s, xs) :: st) u → letB c = true → gto r s c = (j : Nat) → j < r.1.length → (∀ y, y ∈ itm r j ↔ Cl L N T (Mvd L c (itm r s)) y) → Ds L [c] w x n → SI L N T r ((j, x) :: (s, xs) :: st) (u ++ w)
theorem SI.lt {L : List Ru} {N : Nat → Bool} {T : Nat → Nat → Bool} {r : Tb} (h0 : 0 < r.1.length) {st : Stk} {u : List Nat} (h : SI L N T r st u) : topS st < r.1.length := by
  cases h with
  | base => exact h0
  | push _ _ _ h4 _ _ => exact h4
theorem SI.ne {L : List Ru} {N : Nat → Bool} {T : Nat → Nat → Bool} {r : Tb} {st : Stk} {u : List Nat} (h : SI L N T r st u) : ∃ s x st', st = (s, x) :: st' := by
  cases h with
  | base => exact ⟨_, _, _, rfl⟩
  | push => exact ⟨_, _, _, rfl⟩
theorem bytes_take_succ {R : ByteArray} {p : Nat} (h : p < R.size) : (bytes R).take (p + 1) = (bytes R).take p ++ [ch R p] := by
  have h' : p < (bytes R).length := by rw [bytes_len]; exact h
  rw [List.take_succ_eq_append_getElem h', bytes_get]
/-- an item of the top state tells what lies on the stack -/
theorem SI.back {L : List Ru} {N : Nat → Bool} {T : Nat → Nat → Bool} {r : Tb} (hT : TabOk L N T r) : ∀ (p : Nat) {st : Stk} {u : List Nat} {k t : Nat}, SI L N T r st u → (⟨k, p, t⟩ : It) ∈ itm r (topS st) → p ≤ (rget L k).R.size →
    ∃ (pt : Stk) (s : Nat) (xs : List Nat) (st' : Stk) (u' w : List Nat) (n : Nat), st = pt ++ (s, xs) :: st' ∧ pt.length = p ∧ SI L N T r ((s, xs) :: st') u' ∧ u = u' ++ w ∧ Ds L ((bytes (rget L k).R).take p) w (txt pt) n ∧ (⟨k, 0, t⟩ : It) ∈ itm r s
  | 0, st, u, k, t, h, hi, _ => by
    obtain ⟨s, x, st', rfl⟩ := h.ne
    exact ⟨[], s, x, st', u, [], 0, rfl, rfl, h, by simp, Ds.nil, hi⟩
  | p + 1, st, u, k, t, h, hi, hp => by
    cases h with
    | base =>
      have hi' := (hT.zero _).1 hi
      rcases hi'.inv with e | ⟨x, _, ha⟩
      · cases e
      · exact absurd ha.2.2.2.2.2.1 (by simp)
    | @push s c j n xs u w x st h1 h2 h3 h4 h5 h6 =>
      have hi' := (h5 _).1 hi
      rcases hi'.inv with ⟨⟨k0, p0, t0⟩, hx, hm, e⟩ | ⟨x, _, ha⟩
      · obtain ⟨rfl, e2, rfl⟩ : k = k0 ∧ p + 1 = p0 + 1 ∧ t = t0 := by unfold mvI at e; simpa using e
        obtain rfl : p = p0 := by omega
        obtain ⟨pt, s', xs', st', u', w', n', e1, e3, e4, e5, e6, e7⟩ := SI.back hT p (st := (s, xs) :: st) h1 hx (by omega)
        refine ⟨(j, x) :: pt, s', xs', st', u', w' ++ w, n' + n, by rw [e1]; rfl, by simp [e3], e4, by rw [e5]; simp, ?_, e7⟩
        rw [bytes_take_succ hm.1, hm.2, txt_cons]
        exact e6.app h6
      · exact absurd ha.2.2.2.2.2.1 (by simp)
/-- an item at place 0 was asked for -/
theorem SI.asked {L : List Ru} {N : Nat → Bool} {T : Nat → Nat → Bool} {r : Tb} (hT : TabOk L N T r) {st : Stk} {u : List Nat} (h : SI L N T r st u) {k t : Nat} (hk : 1 ≤ k) (hi : (⟨k, 0, t⟩ : It) ∈ itm r (topS st)) : ∃ x ∈ itm r (topS st), MvB L (rget L k).L x := by
  cases h with
  | base =>
    rcases ((hT.zero _).1 hi).inv with e | ⟨x, hx, ha⟩
    · have := congrArg It.R e; simp at this; omega
    · exact ⟨x, (hT.zero x).2 hx, ha.1, ha.2.2.2.2.1.symm⟩
  | @push s c j n xs u w x st h1 h2 h3 h4 h5 h6 =>
    rcases ((h5 _).1 hi).inv with ⟨⟨k0, p0, t0⟩, hx, hm, e⟩ | ⟨x, hx, ha⟩
    · have := congrArg It.P e; simp [mvI] at this
    · exact ⟨x, (h5 x).2 hx, ha.1, ha.2.2.2.2.1.symm⟩
/-- a right side is replaced -/
theorem SI.replace {L : List Ru} {N : Nat → Bool} {T : Nat → Nat → Bool} {r : Tb} (hT : TabOk L N T r) {st : Stk} {u : List Nat} (h : SI L N T r st u) {k a : Nat} (hk : 1 ≤ k) (hc : canR L r (topS st) a k = true) :
    ∃ (pt : Stk) (s : Nat) (xs : List Nat) (st' : Stk) (j : Nat), st = pt ++ (s, xs) :: st' ∧ pt.length = (rget L k).R.size ∧ k < L.length ∧ gto r s (rget L k).L = (j : Nat) ∧ j < r.1.length ∧ s < r.1.length ∧ SI L N T r ((j, nodeT k (txt pt)) :: (s, xs) :: st') u := by
  have hi := canR_inv hc
  have hok := hT.ok _ _ hi
  obtain ⟨pt, s, xs, st', u', w, n, e1, e2, e3, e4, e5, e6⟩ := SI.back hT _ h hi (Nat.le_refl _)
  have hs : s < r.1.length := e3.lt hT.pos
  obtain ⟨x, hx, hm⟩ := e3.asked hT hk e6
  have hlet : letB (rget L k).L = true := by unfold letB; rw [hT.cl.big k hk hok.1]; rfl
  obtain ⟨j, g1, g2, g3⟩ := hT.goto hs hx hm hlet
  rw [List.take_of_length_le (by rw [bytes_len]; exact Nat.le_refl _)] at e5
  refine ⟨pt, s, xs, st', j, e1, e2, hok.1, g1, g2, hs, ?_⟩
  rw [e4]
  exact SI.push e3 hlet g1 g2 g3 (Ds.one hk hok.1 e5)
theorem SI.shift {L : List Ru} {N : Nat → Bool} {T : Nat → Nat → Bool} {r : Tb} (hT : TabOk L N T r) {s : Nat} {x u : List Nat} {st : Stk} (h : SI L N T r ((s, x) :: st) u) {a : Nat} (ha : smallB a = true) (hc : canS r s a = true) : ∃ j : Nat, gto r s a = j ∧ j < r.1.length ∧ SI L N T r ((j, [a]) :: (s, x) :: st) (u ++ [a]) := by
  have hlet : letB a = true := by unfold letB; rw [ha]; simp
  have hc' : 0 ≤ gto r s a := of_decide_eq_true hc
  rcases hT.step s (h.lt hT.pos) a hlet with ⟨h1, _⟩ | ⟨j, h1, h2, _, h4⟩
  · omega
  · exact ⟨j, h1, h2, SI.push h hlet h1 h2 h4 (Ds.small ha Ds.nil)⟩
/-- at the end the start lies on the stack alone -/
theorem SI.done {L : List Ru} {N : Nat → Bool} {T : Nat → Nat → Bool} {r : Tb} (hT : TabOk L N T r) {S : Nat} (h0 : bytes (rget L 0).R = [S]) {st : Stk} {u : List Nat} (h : SI L N T r st u) {a : Nat} (hc : canR L r (topS st) a 0 = true) :
    a = 36 ∧ ∃ j x n, st = [(j, x), (0, [])] ∧ Ds L [S] u x n := by
  have hi := canR_inv hc
  have hsz : (rget L 0).R.size = 1 := by rw [← bytes_len, h0]; rfl
  rw [hsz] at hi
  have zero_inv : ∀ {st : Stk} {u : List Nat} {t : Nat}, SI L N T r st u → (⟨0, 0, t⟩ : It) ∈ itm r (topS st) → t = 36 ∧ st = [(0, [])] ∧ u = [] := by
    intro st u t h hi
    cases h with
    | base =>
      rcases ((hT.zero _).1 hi).inv with e | ⟨x, hx, ha⟩
      · exact ⟨congrArg It.T e, rfl, rfl⟩
      · exact absurd ha.2.2.1 (by simp)
    | @push s c j n xs u w x st h1 h2 h3 h4 h5 h6 =>
      rcases ((h5 _).1 hi).inv with ⟨⟨k0, p0, t0⟩, hx, hm, e⟩ | ⟨x, hx, ha⟩
      · have := congrArg It.P e; simp [mvI] at this
      · exact absurd ha.2.2.1 (by simp)
  obtain ⟨pt, s, xs, st', u', w, n, e1, e2, e3, e4, e5, e6⟩ := SI.back hT 1 h hi (by omega)
  obtain ⟨ha, hst, hu⟩ := zero_inv e3 e6
  obtain ⟨⟨j, x⟩, rfl⟩ : ∃ q, pt = [q] := List.length_eq_one_iff.1 e2
  rw [h0] at e5
  refine ⟨ha, j, x, n, by rw [e1, hst]; rfl, ?_⟩
  rw [e4, hu]
  simpa [txt] using e5

/-- with the end's sign: is it derived? -/
def Acc (L : List Ru) (S : Nat) (v : List Nat) : Prop := ∃ w x n, Ds L [S] w x n ∧ v = w ++ [36]
/-- an item stands where something good comes -/
def Val (L : List Ru) (S : Nat) (u : List Nat) (x : It) : Prop := ∃ z, z.head? = some x.T ∧ ∀ y t n, Ds L ((bytes (rget L x.R).R).drop x.P) y t n → Acc L S (u ++ y ++ z)
/-- what is known of the letters is so -/
structure GrSo (L : List Ru) (N : Nat → Bool) (T : Nat → Nat → Bool) : Prop where
  nul : ∀ l, l.all N = true → ∃ x n, Ds L l [] x n
  fst : ∀ k, k < L.length → ∀ p a, beg N T ((bytes (rget L k).R).drop p) a = true → ∃ w x n, Ds L ((bytes (rget L k).R).drop p) (a :: w) x n
  some_ : ∀ k, k < L.length → ∀ p, ∃ w x n, Ds L ((bytes (rget L k).R).drop p) w x n
theorem val_cl {L : List Ru} {N : Nat → Bool} {T : Nat → Nat → Bool} (hS : GrSo L N T) {S : Nat} {u : List Nat} {X : It → Prop} (hX : ∀ x, X x → IOk L x ∧ Val L S u x) (hf : ∀ c x, x < 128 → T c x = true → smallB x = true) : ∀ y, Cl L N T X y → IOk L y ∧ Val L S u y := fun y h => by
  refine h (fun y => IOk L y ∧ Val L S u y) hX ?_
  rintro ⟨k, p, t⟩ ⟨k', p', b⟩ ⟨hok, z, hz, hv⟩ ha
  refine ⟨ha.ok hok hf, ?_⟩
  obtain ⟨h1, h2, h3, h4, h5, h6, h7, h8⟩ := ha
  have h6 : p' = 0 := h6
  subst h6
  have hd : (bytes (rget L k).R).drop p = (rget L k').L :: (bytes (rget L k).R).drop (p + 1) := by
    have hl : p < (bytes (rget L k).R).length := by rw [bytes_len]; exact h1
    rw [List.drop_eq_getElem_cons hl, bytes_get, h5]
  obtain ⟨wr, xr, nr, hr, hh⟩ : ∃ wr xr nr, Ds L ((bytes (rget L k).R).drop (p + 1)) wr xr nr ∧ (wr ++ z).head? = some b := by
    unfold sgS at h8
    rw [Bool.or_eq_true, Bool.and_eq_true] at h8
    rcases h8 with h8 | ⟨h8, h9⟩
    · obtain ⟨w, x, n, hd⟩ := hS.fst k hok.1 _ _ h8
      exact ⟨_, x, n, hd, rfl⟩
    · obtain ⟨x, n, hd⟩ := hS.nul _ h8
      refine ⟨[], x, n, hd, ?_⟩
      rw [List.nil_append, hz]
      have : b = t := by simpa using h9
      rw [this]
  refine ⟨wr ++ z, hh, fun y x n hy => ?_⟩
  have := hv (y ++ wr) _ _ (by rw [hd]; exact Ds.big h3 h4 (by simpa using hy) hr)
  rw [show u ++ y ++ (wr ++ z) = u ++ (y ++ wr) ++ z from by simp]
  exact this
theorem SI.val {L : List Ru} {N : Nat → Bool} {T : Nat → Nat → Bool} {r : Tb} (hT : TabOk L N T r) (hS : GrSo L N T) {S : Nat} (h0 : bytes (rget L 0).R = [S]) {st : Stk} {u : List Nat} (h : SI L N T r st u) : ∀ x ∈ itm r (topS st), IOk L x ∧ Val L S u x := by
  induction h with
  | base =>
    intro x hx
    refine val_cl hS (fun y hy => ?_) hT.cl.gr.fst x ((hT.zero x).1 hx)
    subst hy
    refine ⟨⟨hT.cl.pos, Nat.zero_le _, Or.inl rfl⟩, [36], rfl, fun y t n hy => ?_⟩
    rw [show (⟨0, 0, 36⟩ : It).R = 0 from rfl, h0] at hy
    exact ⟨y, t, n, hy, by simp⟩
  | @push s c j n xs u w x st h1 h2 h3 h4 h5 h6 ih =>
    intro y hy
    refine val_cl hS (fun y hy => ?_) hT.cl.gr.fst y ((h5 y).1 hy)
    obtain ⟨⟨k, p, t⟩, hx, hm, rfl⟩ := hy
    obtain ⟨hok, z, hz, hv⟩ := ih _ hx
    refine ⟨mv_ok hok hm, z, hz, fun y t' n' hy => ?_⟩
    have hd : (bytes (rget L k).R).drop p = [c] ++ (bytes (rget L k).R).drop (p + 1) := by
      have hl : p < (bytes (rget L k).R).length := by rw [bytes_len]; exact hm.1
      have hc : ch (rget L k).R p = c := hm.2
      rw [List.drop_eq_getElem_cons hl, bytes_get, hc]; rfl
    have := hv (w ++ y) _ _ (by show Ds L ((bytes (rget L k).R).drop p) _ _ _; rw [hd]; exact h6.app hy)
    rw [show u ++ w ++ y ++ z = u ++ (w ++ y) ++ z from by simp]
    exact this
/-- where something can be done, something good comes -/
theorem SI.good {L : List Ru} {N : Nat → Bool} {T : Nat → Nat → Bool} {r : Tb} (hT : TabOk L N T r) (hS : GrSo L N T) {S : Nat} (h0 : bytes (rget L 0).R = [S]) {st : Stk} {u : List Nat} (h : SI L N T r st u) {a : Nat} (hc : (smallB a = true ∧ canS r (topS st) a = true) ∨ ∃ k, canR L r (topS st) a k = true) : ∃ v, Acc L S (u ++ a :: v) := by
  rcases hc with ⟨ha, hc⟩ | ⟨k, hc⟩
  · have hlet : letB a = true := by unfold letB; rw [ha]; simp
    have hc' : 0 ≤ gto r (topS st) a := of_decide_eq_true hc
    rcases hT.step _ (h.lt hT.pos) a hlet with ⟨h1, _⟩ | ⟨j, h1, h2, ⟨⟨k, p, t⟩, hx, hm⟩, h4⟩
    · omega
    · obtain ⟨hok, z, hz, hv⟩ := h.val hT hS h0 _ hx
      have hd : (bytes (rget L k).R).drop p = a :: (bytes (rget L k).R).drop (p + 1) := by
        have hl : p < (bytes (rget L k).R).length := by rw [bytes_len]; exact hm.1
        have hc : ch (rget L k).R p = a := hm.2
        rw [List.drop_eq_getElem_cons hl, bytes_get, hc]
      obtain ⟨w, x, n, hw⟩ := hS.some_ k hok.1 (p + 1)
      have := hv (a :: w) _ _ (by show Ds L ((bytes (rget L k).R).drop p) _ _ _; rw [hd]; exact Ds.small ha hw)
      exact ⟨w ++ z, by simpa using this⟩
  · have hi := canR_inv hc
    obtain ⟨hok, z, hz, hv⟩ := h.val hT hS h0 _ hi
    have := hv [] [] 0 (by show Ds L ((bytes (rget L k).R).drop (rget L k).R.size) _ _ _; rw [List.drop_eq_nil_of_le (by rw [bytes_len]; exact Nat.le_refl _)]; exact Ds.nil)
    cases z with
    | nil => cases hz
    | cons b z =>
      have : b = a := by simpa using hz
      subst this
      exact ⟨z, by simpa using ‹Acc L S (u ++ [] ++ b :: z)›⟩
end Go.Proofs.YtkglggkkbmmjkaaDoor
