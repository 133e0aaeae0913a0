import Derived.Test.YtkglggkkbmmjkabGreatDoorG18LrTab
import Derived.Test.YtkglggkkbmmjkabGreatDoorG8RRules
namespace Go.Proofs.YtkglggkkbmmjkabGreatDoor
open Go.RowKit
/-! Reading by the table. -/
inductive Ds (L : List Ru) : List Nat → List Nat → List Nat → Nat → Prop
 | nil : Ds L [] [] [] 0
 | small {c : Nat} {l w x : List Nat} {n : Nat} : zai c = true → Ds L l w x n → Ds L (c :: l) (c :: w) (c :: x) n
 | big {k : Nat} {l w1 w2 x1 x2 : List Nat} {n1 n2 : Nat} : 1 ≤ k → k < L.length → Ds L (bytes (rget L k).R) w1 x1 n1 → Ds L l w2 x2 n2 → Ds L ((rget L k).L :: l) (w1 ++ w2) ((48 + k) :: 40 :: (x1 ++ 41 :: x2)) (n1 + 1 + n2)
theorem Ds.app {L : List Ru} {l1 w1 x1 : List Nat} {n1 : Nat} (h : Ds L l1 w1 x1 n1) : ∀ {l2 w2 x2 : List Nat} {n2 : Nat}, Ds L l2 w2 x2 n2 → Ds L (l1 ++ l2) (w1 ++ w2) (x1 ++ x2) (n1 + n2) := by
 induction h with
 | nil => intro l2 w2 x2 n2 h; simpa using h
 | small hc _ ih => intro l2 w2 x2 n2 h; exact Ds.small hc (ih h)
 | @big k l wa wb xa xb na nb h1 h2 ha hb iha ihb =>
  intro l2 w2 x2 n2 h
  have := Ds.big h1 h2 ha (ihb h)
  rw [show wa ++ wb ++ w2 = wa ++ (wb ++ w2) from by simp, show (48 + k) :: 40 :: (xa ++ 41 :: xb) ++ x2 = (48 + k) :: 40 :: (xa ++ 41 :: (xb ++ x2)) from by simp, show na + 1 + nb + n2 = na + 1 + (nb + n2) from by omega]
  exact this
theorem Ds.one {L : List Ru} {k : Nat} {w x : List Nat} {n : Nat} (h1 : 1 ≤ k) (h2 : k < L.length) (h : Ds L (bytes (rget L k).R) w x n) : Ds L [(rget L k).L] w ((48 + k) :: 40 :: (x ++ [41])) (n + 1) := by
 have := Ds.big h1 h2 h Ds.nil
 simpa using this
theorem Ds.smalls {L : List Ru} {l w x : List Nat} {n : Nat} (h : Ds L l w x n) : ∀ a ∈ w, zai a = true := by
 induction h with
 | nil => intro a ha; cases ha
 | small hc _ ih =>
  intro a ha
  rcases List.mem_cons.1 ha with rfl | ha
  ·exact hc
  ·exact ih a ha
 | big _ _ _ _ ih1 ih2 =>
  intro a ha
  rcases List.mem_append.1 ha with ha | ha
  ·exact ih1 a ha
  ·exact ih2 a ha
structure GrCl (L : List Ru) (N : Nat → Bool) (T : Nat → Nat → Bool) : Prop where
 gr : GrOk L T
 pos : 0 < L.length
 big : ∀ k, 1 ≤ k → k < L.length → bigB (rget L k).L = true
 nul : ∀ k, 1 ≤ k → k < L.length → (bytes (rget L k).R).all N = true → N (rget L k).L = true
 fst : ∀ k a, 1 ≤ k → k < L.length → beg N T (bytes (rget L k).R) a = true → T (rget L k).L a = true
 let_ : ∀ k, k < L.length → ∀ c ∈ bytes (rget L k).R, letB c = true
theorem zbi {c : Nat} (h : bigB c = true) : zai c = false := by
 have := zao.1 h
 cases e : zai c
 ·rfl
 ·have := za4.1 e; omega
theorem ds_first {L : List Ru} {N : Nat → Bool} {T : Nat → Nat → Bool} (hG : GrCl L N T) {l w x : List Nat} {n : Nat} (h : Ds L l w x n) : (w = [] → l.all N = true) ∧ ∀ a w', w = a :: w' → beg N T l a = true := by
 induction h with
 | nil => exact ⟨fun _ => rfl, (fun a w' e => by cases e)⟩
 | @small c l w x n hc _ ih =>
  refine ⟨(fun e => by cases e), (fun a w' e => ?_)⟩
  cases e
  rw [beg, if_pos hc]; simp
 | @big k l w1 w2 x1 x2 n1 n2 h1 h2 _ _ ih1 ih2 =>
  have hb := hG.big k h1 h2
  refine ⟨fun e => ?_, fun a w' e => ?_⟩
  ·rw [List.append_eq_nil_iff] at e
   rw [List.all_cons, hG.nul k h1 h2 (ih1.1 e.1), ih2.1 e.2]; rfl
  ·rw [beg, zbi hb]
   simp only [Bool.false_eq_true, if_false]
   cases w1 with
   | nil =>
    rw [List.nil_append] at e
    have hn := hG.nul k h1 h2 (ih1.1 rfl)
    rw [show hasB N (rget L k).L = true from by unfold hasB; rw [hb, hn]; rfl, ih2.2 a w' e]; simp
   | cons b w1 =>
    rw [List.cons_append] at e
    obtain ⟨rfl, _⟩ := List.cons.inj e
    rw [hG.fst k b h1 h2 (ih1.2 b w1 rfl)]; rfl
def itm (r : Tb) (s : Nat) : List It := r.1.getD s []
def gto (r : Tb) (s c : Nat) : Int := toM (r.2.getD s []) c
structure TabOk (L : List Ru) (N : Nat → Bool) (T : Nat → Nat → Bool) (r : Tb) : Prop where
 cl : GrCl L N T
 pos : 0 < r.1.length
 zero : ∀ y, y ∈ itm r 0 ↔ Cl L N T (· = ⟨0, 0, 36⟩) y
 ok : ∀ s, ∀ y ∈ itm r s, IOk L y
 step : ∀ s, s < r.1.length → ∀ c, letB c = true → (gto r s c = -1 ∧ ∀ x ∈ itm r s, ¬ MvB L c x) ∨ ∃ j : Nat, gto r s c = j ∧ j < r.1.length ∧ (∃ x ∈ itm r s, MvB L c x) ∧ ∀ y, y ∈ itm r j ↔ Cl L N T (Mvd L c (itm r s)) y
 nolet : ∀ s, s < r.1.length → ∀ c, letB c = false → gto r s c = -1
 closed : ∀ s, s < r.1.length → ∀ x ∈ itm r s, ∀ y, Asks L N T x y → y ∈ itm r s
theorem TabOk.goto {L : List Ru} {N : Nat → Bool} {T : Nat → Nat → Bool} {r : Tb} (h : TabOk L N T r) {s : Nat} (hs : s < r.1.length) {x : It} (hx : x ∈ itm r s) {c : Nat} (hm : MvB L c x) (hc : letB c = true) : ∃ j : Nat, gto r s c = j ∧ j < r.1.length ∧ ∀ y, y ∈ itm r j ↔ Cl L N T (Mvd L c (itm r s)) y := by
 rcases h.step s hs c hc with ⟨_, h2⟩ | ⟨j, h1, h2, _, h4⟩
 ·exact absurd hm (h2 x hx)
 ·exact ⟨j, h1, h2, h4⟩
abbrev Stk := List (Nat × List Nat)
def txt (pt : Stk) : List Nat := pt.reverse.flatMap (·.2)
def topS (st : Stk) : Nat := (st.headD (0, [])).1
theorem txt_snoc (pt : Stk) (q : Nat × List Nat) : txt (pt ++ [q]) = q.2 ++ txt pt := by simp [txt]
theorem txt_cons (q : Nat × List Nat) (pt : Stk) : txt (q :: pt) = txt pt ++ q.2 := by simp [txt]
def nodeT (k : Nat) (x : List Nat) : List Nat := (48 + k) :: 40 :: (x ++ [41])
inductive Run (L : List Ru) (r : Tb) : Nat → Stk → List Nat → Stk → List Nat → Prop
 | refl {st : Stk} {inp : List Nat} : Run L r 0 st inp st inp
 | shift {n s a j : Nat} {x inp inp' : List Nat} {st st' : Stk} : s < r.1.length → zai a = true → gto r s a = (j : Nat) → j < r.1.length → Run L r n ((j, [a]) :: (s, x) :: st) inp st' inp' → Run L r n ((s, x) :: st) (a :: inp) st' inp'
 | reduce {n k s a j : Nat} {x inp inp' : List Nat} {pt st st' : Stk} : topS (pt ++ (s, x) :: st) < r.1.length → 1 ≤ k → k < L.length → canR L r (topS (pt ++ (s, x) :: st)) a k = true → pt.length = (rget L k).R.size → gto r s (rget L k).L = (j : Nat) → j < r.1.length →
  Run L r n ((j, nodeT k (txt pt)) :: (s, x) :: st) (a :: inp) st' inp' → Run L r (n + 1) (pt ++ (s, x) :: st) (a :: inp) st' inp'
theorem Run.trans {L : List Ru} {r : Tb} {n m : Nat} {a b c : Stk} {u v w : List Nat} (h : Run L r n a u b v) (k : Run L r m b v c w) : Run L r (n + m) a u c w := by
 induction h with
 | refl => simpa using k
 | shift h0 h1 h2 h3 _ ih => exact Run.shift h0 h1 h2 h3 (ih k)
 | reduce h0 h1 h2 h3 h4 h5 h6 _ ih =>
  have := Run.reduce h0 h1 h2 h3 h4 h5 h6 (ih k)
  rw [show ∀ a b : Nat, a + 1 + b = a + b + 1 from fun a b => by omega]
  exact this
theorem canR_of {L : List Ru} {r : Tb} {s a k : Nat} (h : (⟨k, (rget L k).R.size, a⟩ : It) ∈ itm r s) : canR L r s a k = true := by
 unfold canR zbu
 rw [List.any_eq_true]
 exact ⟨_, h, by unfold endI; simp⟩
theorem canR_inv {L : List Ru} {r : Tb} {s a k : Nat} (h : canR L r s a k = true) : (⟨k, (rget L k).R.size, a⟩ : It) ∈ itm r s := by
 unfold canR zbu at h
 rw [List.any_eq_true] at h
 obtain ⟨⟨y1, y2, y3⟩, hy, e⟩ := h
 unfold endI at e
 simp only [Bool.and_eq_true, beq_iff_eq] at e
 obtain ⟨e1, e2, e3⟩ := e
 subst e3
 subst e2
 subst e1
 exact hy
theorem drop_cons {R : ByteArray} {p c : Nat} {l : List Nat} (h : (bytes R).drop p = c :: l) : p < R.size ∧ ch R p = c ∧ (bytes R).drop (p + 1) = l := by
 have hp : p < (bytes R).length := by
  rcases Nat.lt_or_ge p (bytes R).length with hp | hp
  ·exact hp
  ·rw [List.drop_eq_nil_of_le hp] at h; cases h
 rw [List.drop_eq_getElem_cons hp] at h
 obtain ⟨e1, e2⟩ := List.cons.inj h
 have hp' : p < R.size := by rw [← zah]; exact hp
 exact ⟨hp', by rw [← e1, za5], e2⟩
theorem sig_lt {a : Nat} (h : a = 36 ∨ zai a = true) : a < 128 := by
 rcases h with h | h
 ·omega
 ·have := za4.1 h; omega
theorem sim {L : List Ru} {N : Nat → Bool} {T : Nat → Nat → Bool} {r : Tb} (hT : TabOk L N T r) {l w x : List Nat} {n : Nat} (hd : Ds L l w x n) : ∀ {s : Nat} {xs : List Nat} {st : Stk} {k p a : Nat}, s < r.1.length → (⟨k, p, a⟩ : It) ∈ itm r s → (bytes (rget L k).R).drop p = l → ∀ inp, ∃ pt : Stk,
 pt.length = l.length ∧ txt pt = x ∧ topS (pt ++ (s, xs) :: st) < r.1.length ∧ (⟨k, p + l.length, a⟩ : It) ∈ itm r (topS (pt ++ (s, xs) :: st)) ∧ Run L r n ((s, xs) :: st) (w ++ a :: inp) (pt ++ (s, xs) :: st) (a :: inp) := by
 induction hd with
 | nil =>
  intro s xs st k p a hs hi _ inp
  exact ⟨[], rfl, rfl, hs, hi, Run.refl⟩
 | @small c l w x n hc _ ih =>
  intro s xs st k p a hs hi hl inp
  obtain ⟨h1, h2, h3⟩ := drop_cons hl
  have hlet : letB c = true := by unfold letB; rw [hc]; simp
  have hm : MvB L c ⟨k, p, a⟩ := ⟨h1, h2⟩
  obtain ⟨j, g1, g2, g3⟩ := hT.goto hs hi hm hlet
  obtain ⟨pt, e1, e2, e3, e4, e5⟩ := ih (xs := [c]) (st := (s, xs) :: st) g2 ((g3 ⟨k, p + 1, a⟩).2 (Cl.base ⟨_, hi, hm, rfl⟩)) h3 inp
  refine ⟨pt ++ [(j, [c])], by simp [e1], by rw [txt_snoc, e2]; rfl, by simpa using e3, ?_, ?_⟩
  ·rw [List.append_assoc, List.length_cons, show p + (l.length + 1) = p + 1 + l.length from by omega]; exact e4
  ·rw [List.append_assoc]
   exact Run.shift hs hc g1 g2 e5
 | @big k' l w1 w2 x1 x2 n1 n2 k1 k2 hd1 hd2 ih1 ih2 =>
  intro s xs st k p a hs hi hl inp
  obtain ⟨h1, h2, h3⟩ := drop_cons hl
  have hb := hT.cl.big k' k1 k2
  have hlet : letB (rget L k').L = true := by unfold letB; rw [hb]; rfl
  have hm : MvB L (rget L k').L ⟨k, p, a⟩ := ⟨h1, h2⟩
  have hia := (hT.ok s _ hi).2.2
  obtain ⟨j, g1, g2, g3⟩ := hT.goto hs hi hm hlet
  obtain ⟨b, inp1, hbi, hb128, hsg⟩ : ∃ b inp1, w2 ++ a :: inp = b :: inp1 ∧ b < 128 ∧ sgS N T (rget L k) (p + 1) a b = true := by
   have hf := ds_first hT.cl hd2
   cases w2 with
   | nil => exact ⟨a, inp, rfl, sig_lt hia, by unfold sgS; rw [h3, hf.1 rfl]; simp⟩
   | cons b w2 => exact ⟨b, w2 ++ a :: inp, rfl, sig_lt (Or.inr (hd2.smalls b (List.mem_cons_self ..))), by unfold sgS; rw [h3, hf.2 b w2 rfl]; rfl⟩
  have hask : Asks L N T ⟨k, p, a⟩ ⟨k', 0, b⟩ := ⟨h1, by show bigB (ch (rget L k).R p) = true; rw [h2]; exact hb, k1, k2, h2.symm, rfl, hb128, hsg⟩
  obtain ⟨pt1, e1, e2, e3, e4, e5⟩ := ih1 (xs := xs) (st := st) hs (hT.closed s hs _ hi _ hask) rfl inp1
  obtain ⟨pt2, f1, f2, f3, f4, f5⟩ := ih2 (xs := nodeT k' x1) (st := (s, xs) :: st) g2 ((g3 ⟨k, p + 1, a⟩).2 (Cl.base ⟨_, hi, hm, rfl⟩)) h3 inp
  refine ⟨pt2 ++ [(j, nodeT k' x1)], by simp [f1], by rw [txt_snoc, f2]; simp [nodeT], by simpa using f3, ?_, ?_⟩
  ·rw [List.append_assoc, List.length_cons, show p + (l.length + 1) = p + 1 + l.length from by omega]; exact f4
  ·rw [zah] at e1 e4
   rw [Nat.zero_add] at e4
   rw [List.append_assoc, List.append_assoc, hbi, show n1 + 1 + n2 = n1 + (n2 + 1) from by omega]
   refine e5.trans (Run.reduce e3 k1 k2 (canR_of e4) e1 g1 g2 ?_)
   rw [e2, ← hbi]; exact f5
end Go.Proofs.YtkglggkkbmmjkabGreatDoor
namespace Go.Proofs.YtkglggkkbmmjkabGreatDoor
open Go.RowKit
/-! Parts of a text: what derives them, and what begins so. -/
def seg (T : List Nat) (i j : Nat) : List Nat := (T.drop i).take (j - i)
theorem seg_nil (T : List Nat) (i : Nat) : seg T i i = [] := by unfold seg; simp
theorem seg_len {T : List Nat} {i j : Nat} (h : j ≤ T.length) : (seg T i j).length = j - i := by
 unfold seg; rw [List.length_take, List.length_drop]; omega
theorem seg_split {T : List Nat} {i k j : Nat} (h1 : i ≤ k) (h2 : k ≤ j) : seg T i k ++ seg T k j = seg T i j := by
 unfold seg
 rw [show j - i = (k - i) + (j - k) from by omega, List.take_add, List.drop_drop, show i + (k - i) = k from by omega]
theorem seg_end (T : List Nat) (i : Nat) : seg T i T.length = T.drop i := by
 unfold seg
 rw [List.take_of_length_le (by rw [List.length_drop]; exact Nat.le_refl _)]
theorem seg_drop {T : List Nat} {i k : Nat} (h1 : i ≤ k) (h2 : k ≤ T.length) : seg T i k ++ T.drop k = T.drop i := by
 rw [← seg_end T k, ← seg_end T i, seg_split h1 h2]
theorem seg_cons {T : List Nat} {i j : Nat} (h1 : i < j) (h2 : j ≤ T.length) : seg T i j = T.getD i 0 :: seg T (i + 1) j := by
 have hi : i < T.length := by omega
 unfold seg
 rw [List.drop_eq_getElem_cons hi, show j - i = (j - (i + 1)) + 1 from by omega, List.take_succ_cons, List.getD_eq_getElem?_getD, List.getElem?_eq_getElem hi]
 rfl
theorem seg_one {T : List Nat} {i : Nat} (h : i < T.length) : seg T i (i + 1) = [T.getD i 0] := by
 rw [seg_cons (Nat.lt_succ_self i) h, seg_nil]
theorem dropT_cons {T : List Nat} {i : Nat} (h : i < T.length) : T.drop i = T.getD i 0 :: T.drop (i + 1) := by
 rw [← seg_end T i, seg_cons h (Nat.le_refl _), seg_end]
def oneP (T : List Nat) (Is : Nat → Nat → Nat → Bool) (c i j : Nat) : Bool := if zai c then decide (j = i + 1) && decide (T.getD i 0 = c) else Is c i j
def rowP (T : List Nat) (Is : Nat → Nat → Nat → Bool) : List Nat → Nat → Nat → Bool
 | [], i, j => decide (i = j)
 | c :: w, i, j => (List.range' i (j + 1 - i)).any fun k => oneP T Is c i k && rowP T Is w k j
def zbt (T : List Nat) (Is : Nat → Nat → Nat → Bool) (Go : Nat → Nat → Bool) : List Nat → Nat → Bool
 | [], i => decide (i = T.length)
 | c :: w, i => decide (i = T.length) || (bigB c && Go c i) || (List.range' i (T.length + 1 - i)).any fun k => oneP T Is c i k && zbt T Is Go w k
theorem any_range {i m : Nat} {f : Nat → Bool} : (List.range' i m).any f = true ↔ ∃ k, i ≤ k ∧ k < i + m ∧ f k = true := by
 rw [List.any_eq_true]
 constructor
 ·rintro ⟨k, hk, h⟩
  rw [List.mem_range'_1] at hk
  exact ⟨k, hk.1, hk.2, h⟩
 ·rintro ⟨k, h1, h2, h⟩
  exact ⟨k, by rw [List.mem_range'_1]; exact ⟨h1, h2⟩, h⟩
theorem rowP_cons {T : List Nat} {Is : Nat → Nat → Nat → Bool} {c : Nat} {w : List Nat} {i j : Nat} : rowP T Is (c :: w) i j = true ↔ ∃ k, i ≤ k ∧ k ≤ j ∧ oneP T Is c i k = true ∧ rowP T Is w k j = true := by
 rw [rowP, any_range]
 constructor
 ·rintro ⟨k, h1, h2, h⟩
  rw [Bool.and_eq_true] at h
  exact ⟨k, h1, by omega, h.1, h.2⟩
 ·rintro ⟨k, h1, h2, h3, h4⟩
  exact ⟨k, h1, by omega, by rw [h3, h4]; rfl⟩
theorem zbs {T : List Nat} {Is : Nat → Nat → Nat → Bool} {Go : Nat → Nat → Bool} {c : Nat} {w : List Nat} {i : Nat} : zbt T Is Go (c :: w) i = true ↔ i = T.length ∨ (bigB c = true ∧ Go c i = true) ∨ ∃ k, i ≤ k ∧ k ≤ T.length ∧ oneP T Is c i k = true ∧ zbt T Is Go w k = true := by
 rw [zbt, Bool.or_eq_true, Bool.or_eq_true, any_range, Bool.and_eq_true, decide_eq_true_iff]
 constructor
 ·rintro ((h | h) | ⟨k, h1, h2, h⟩)
  ·exact Or.inl h
  ·exact Or.inr (Or.inl h)
  ·rw [Bool.and_eq_true] at h
   exact Or.inr (Or.inr ⟨k, h1, by omega, h.1, h.2⟩)
 ·rintro (h | h | ⟨k, h1, h2, h3, h4⟩)
  ·exact Or.inl (Or.inl h)
  ·exact Or.inl (Or.inr h)
  ·exact Or.inr ⟨k, h1, by omega, by rw [h3, h4]; rfl⟩
structure PtSo (L : List Ru) (T : List Nat) (Is : Nat → Nat → Nat → Bool) (Go : Nat → Nat → Bool) : Prop where
 is : ∀ c i j, i ≤ j → j ≤ T.length → Is c i j = true → ∃ x m, Ds L [c] (seg T i j) x m
 go : ∀ c i, i ≤ T.length → Go c i = true → ∃ v x m, Ds L [c] (T.drop i ++ v) x m
structure PtCl (L : List Ru) (T : List Nat) (Is : Nat → Nat → Nat → Bool) (Go : Nat → Nat → Bool) : Prop where
 is : ∀ k, 1 ≤ k → k < L.length → ∀ i j, i ≤ j → j ≤ T.length → rowP T Is (bytes (rget L k).R) i j = true → Is (rget L k).L i j = true
 go : ∀ k, 1 ≤ k → k < L.length → ∀ i, i ≤ T.length → zbt T Is Go (bytes (rget L k).R) i = true → Go (rget L k).L i = true
theorem PtSo.one {L : List Ru} {T : List Nat} {Is : Nat → Nat → Nat → Bool} {Go : Nat → Nat → Bool} (h : PtSo L T Is Go) {c i j : Nat} (hij : i ≤ j) (hj : j ≤ T.length) (ho : oneP T Is c i j = true) : ∃ x m, Ds L [c] (seg T i j) x m := by
 unfold oneP at ho
 split at ho
 ·rename_i hc
  rw [Bool.and_eq_true, decide_eq_true_iff, decide_eq_true_iff] at ho
  obtain ⟨rfl, e⟩ := ho
  rw [seg_one (by omega), e]
  exact ⟨_, _, Ds.small hc Ds.nil⟩
 ·exact h.is c i j hij hj ho
theorem PtSo.row {L : List Ru} {T : List Nat} {Is : Nat → Nat → Nat → Bool} {Go : Nat → Nat → Bool} (h : PtSo L T Is Go) : ∀ (w : List Nat) {i j : Nat}, i ≤ j → j ≤ T.length → rowP T Is w i j = true → ∃ x m, Ds L w (seg T i j) x m
 | [], i, j, _, _, hr => by
  have e : i = j := by rw [rowP, decide_eq_true_iff] at hr; exact hr
  subst e
  rw [seg_nil]
  exact ⟨_, _, Ds.nil⟩
 | c :: w, i, j, hij, hj, hr => by
  obtain ⟨k, h1, h2, h3, h4⟩ := rowP_cons.1 hr
  obtain ⟨x1, m1, d1⟩ := h.one h1 (by omega) h3
  obtain ⟨x2, m2, d2⟩ := PtSo.row h w h2 hj h4
  rw [← seg_split h1 h2]
  exact ⟨_, _, d1.app d2⟩
theorem PtSo.ahead {L : List Ru} {T : List Nat} {Is : Nat → Nat → Nat → Bool} {Go : Nat → Nat → Bool} (h : PtSo L T Is Go) : ∀ (w : List Nat) {i : Nat}, (∀ c ∈ w, ∃ v x m, Ds L [c] v x m) → i ≤ T.length → zbt T Is Go w i = true → ∃ v x m, Ds L w (T.drop i ++ v) x m
 | [], i, _, hi, hr => by
  have e : i = T.length := by rw [zbt, decide_eq_true_iff] at hr; exact hr
  subst e
  rw [List.drop_eq_nil_of_le (Nat.le_refl _)]
  exact ⟨[], _, _, Ds.nil⟩
 | c :: w, i, hs, hi, hr => by
  have hw : ∃ v x m, Ds L w v x m := by
   clear hr
   induction w with
   | nil => exact ⟨_, _, _, Ds.nil⟩
   | cons d w ih =>
    obtain ⟨v1, x1, m1, d1⟩ := hs d (by simp)
    obtain ⟨v2, x2, m2, d2⟩ := ih (fun c' hc' => by
     rcases List.mem_cons.1 hc' with rfl | hc'
     ·exact hs _ (List.mem_cons_self ..)
     ·exact hs c' (List.mem_cons_of_mem _ (List.mem_cons_of_mem _ hc')))
    exact ⟨_, _, _, d1.app d2⟩
  obtain ⟨v2, x2, m2, d2⟩ := hw
  rcases zbs.1 hr with e | ⟨_, hg⟩ | ⟨k, h1, h2, h3, h4⟩
  ·subst e
   obtain ⟨v1, x1, m1, d1⟩ := hs c (List.mem_cons_self ..)
   rw [List.drop_eq_nil_of_le (Nat.le_refl _)]
   exact ⟨v1 ++ v2, _, _, d1.app d2⟩
  ·obtain ⟨v1, x1, m1, d1⟩ := h.go c i hi hg
   exact ⟨v1 ++ v2, x1 ++ x2, m1 + m2, by rw [← List.append_assoc]; exact d1.app d2⟩
  ·obtain ⟨x1, m1, d1⟩ := h.one h1 h2 h3
   obtain ⟨v3, x3, m3, d3⟩ := PtSo.ahead h w (fun c' hc' => hs c' (List.mem_cons_of_mem _ hc')) h2 h4
   refine ⟨v3, x1 ++ x3, m1 + m3, ?_⟩
   rw [← seg_drop h1 h2, List.append_assoc]
   exact d1.app d3
theorem oneP_small {T : List Nat} {Is : Nat → Nat → Nat → Bool} {c i : Nat} (hc : zai c = true) (h : T.getD i 0 = c) : oneP T Is c i (i + 1) = true := by
 unfold oneP
 rw [if_pos hc, h]; simp
theorem oneP_big {T : List Nat} {Is : Nat → Nat → Nat → Bool} {c i j : Nat} (hc : bigB c = true) (h : Is c i j = true) : oneP T Is c i j = true := by
 unfold oneP
 rw [if_neg (by rw [zbi hc]; simp), h]
theorem PtCl.row {L : List Ru} {T : List Nat} {Is : Nat → Nat → Nat → Bool} {Go : Nat → Nat → Bool} (h : PtCl L T Is Go) (hb : ∀ k, 1 ≤ k → k < L.length → bigB (rget L k).L = true) {l w x : List Nat} {m : Nat} (hd : Ds L l w x m) : ∀ {i j : Nat}, i ≤ j → j ≤ T.length → w = seg T i j → rowP T Is l i j = true := by
 induction hd with
 | nil =>
  intro i j h1 h2 e
  have := seg_len (T := T) (i := i) h2
  rw [← e] at this
  rw [rowP, decide_eq_true_iff]
  simp at this; omega
 | @small c l w x n hc _ ih =>
  intro i j h1 h2 e
  have hl := seg_len (T := T) (i := i) h2
  rw [← e, List.length_cons] at hl
  rw [seg_cons (by omega) h2] at e
  obtain ⟨e1, e2⟩ := List.cons.inj e
  exact rowP_cons.2 ⟨i + 1, by omega, by omega, oneP_small hc e1.symm, ih (by omega) h2 e2⟩
 | @big k l w1 w2 x1 x2 n1 n2 k1 k2 _ _ ih1 ih2 =>
  intro i j h1 h2 e
  have hl := seg_len (T := T) (i := i) h2
  rw [← e, List.length_append] at hl
  rw [← seg_split (k := i + w1.length) (by omega) (by omega)] at e
  obtain ⟨e1, e2⟩ := List.append_inj e (by rw [seg_len (by omega)]; omega)
  exact rowP_cons.2 ⟨i + w1.length, by omega, by omega, oneP_big (hb k k1 k2) (h.is k k1 k2 _ _ (by omega) (by omega) (ih1 (by omega) (by omega) e1)), ih2 (by omega) h2 e2⟩
theorem PtCl.ahead {L : List Ru} {T : List Nat} {Is : Nat → Nat → Nat → Bool} {Go : Nat → Nat → Bool} (h : PtCl L T Is Go) (hb : ∀ k, 1 ≤ k → k < L.length → bigB (rget L k).L = true) {l w x : List Nat} {m : Nat} (hd : Ds L l w x m) : ∀ {i : Nat} {v : List Nat}, i ≤ T.length → w = T.drop i ++ v → zbt T Is Go l i = true := by
 induction hd with
 | nil =>
  intro i v h1 e
  obtain ⟨e1, _⟩ := List.append_eq_nil_iff.1 e.symm
  have := congrArg List.length e1
  rw [List.length_drop, List.length_nil] at this
  rw [zbt, decide_eq_true_iff]; omega
 | @small c l w x n hc _ ih =>
  intro i v h1 e
  by_cases hi : i = T.length
  ·exact zbs.2 (Or.inl hi)
  ·rw [dropT_cons (by omega), List.cons_append] at e
   obtain ⟨e1, e2⟩ := List.cons.inj e
   exact zbs.2 (Or.inr (Or.inr ⟨i + 1, by omega, by omega, oneP_small hc e1.symm, ih (by omega) e2⟩))
 | @big k l w1 w2 x1 x2 n1 n2 k1 k2 hd1 _ ih1 ih2 =>
  intro i v h1 e
  by_cases hi : i = T.length
  ·exact zbs.2 (Or.inl hi)
  ·by_cases hw : T.length - i ≤ w1.length
   · -- the rest lies within the first
    have hle : (T.drop i).length ≤ w1.length := by rw [List.length_drop]; exact hw
    have e1 : w1 = T.drop i ++ w1.drop (T.drop i).length := by
     have h3 : w1.take (T.drop i).length = T.drop i := by
      have := congrArg (List.take (T.drop i).length) e
      rw [List.take_append_of_le_length hle, List.take_left] at this
      exact this
     rw [← h3, List.length_take, Nat.min_eq_left hle, h3]
     conv => lhs; rw [← List.take_append_drop (T.drop i).length w1]
     rw [h3]
    exact zbs.2 (Or.inr (Or.inl ⟨hb k k1 k2, h.go k k1 k2 i h1 (ih1 h1 e1)⟩))
   ·rw [← seg_drop (k := i + w1.length) (by omega) (by omega), List.append_assoc] at e
    obtain ⟨e1, e2⟩ := List.append_inj e (by rw [seg_len (by omega)]; omega)
    exact zbs.2 (Or.inr (Or.inr ⟨i + w1.length, by omega, by omega, oneP_big (hb k k1 k2) (h.is k k1 k2 _ _ (by omega) (by omega) (h.row hb hd1 (by omega) (by omega) e1)), ih2 (by omega) e2⟩))
end Go.Proofs.YtkglggkkbmmjkabGreatDoor
namespace Go.Proofs.YtkglggkkbmmjkabGreatDoor
open Go.RowKit
/-! The reference's parts of a text, as they lie in memory. -/
def isF (Is : Nat → Nat → Nat → Bool) (k : Nat) : Nat → Value := fun m => .bool (Is (65 + k) (m / 14) (m % 14))
def goF (Go : Nat → Nat → Bool) (k : Nat) : Nat → Value := fun m => .bool (Go (65 + k) m)
def RuO (w : World) (q off : Nat) (rs : List Ru) : Prop := ∀ i (h : i < rs.length), w.cell? ⟨q, off + i * 3, none⟩ = some (.int .u8 rs[i].L) ∧ w.cell? ⟨q, off + i * 3 + 1, none⟩ = some (.string rs[i].R) ∧ w.cell? ⟨q, off + i * 3 + 2, none⟩ = some (.int .i64 rs[i].A)
structure PtM (w : World) (pb q off cap : Nat) (rs : List Ru) (T : ByteArray) (gi ci gj cj : Nat) (bI bG : Nat → Nat) (Is : Nat → Nat → Nat → Bool) (Go : Nat → Nat → Bool) : Prop where
 c0 : w.cell? ⟨pb, 0, none⟩ = some (.slice (some ⟨q, off, none⟩) rs.length cap)
 c1 : w.cell? ⟨pb, 1, none⟩ = some (.string T)
 c2 : w.cell? ⟨pb, 2, none⟩ = some (.slice (some ⟨gi, 0, none⟩) 26 ci)
 c3 : w.cell? ⟨pb, 3, none⟩ = some (.slice (some ⟨gj, 0, none⟩) 26 cj)
 ri : ∀ k, k < 26 → w.cell? ⟨gi, k, none⟩ = some (.slice (some ⟨bI k, 0, none⟩) 196 196)
 rj : ∀ k, k < 26 → w.cell? ⟨gj, k, none⟩ = some (.slice (some ⟨bG k, 0, none⟩) 14 14)
 bi : ∀ k, k < 26 → Blk w (bI k) 196 (isF Is k)
 bg : ∀ k, k < 26 → Blk w (bG k) 14 (goF Go k)
 ru : RuO w q off rs
theorem isF_at (Is : Nat → Nat → Nat → Bool) {c i j : Nat} (hc : bigB c = true) (hj : j < 14) : isF Is (c - 65) (i * 14 + j) = .bool (Is c i j) := by
 have h := zao.1 hc
 unfold isF
 rw [show 65 + (c - 65) = c from by omega, show (i * 14 + j) / 14 = i from by omega, show (i * 14 + j) % 14 = j from by omega]
theorem goF_at (Go : Nat → Nat → Bool) {c i : Nat} (hc : bigB c = true) : goF Go (c - 65) i = .bool (Go c i) := by
 have h := zao.1 hc
 unfold goF
 rw [show 65 + (c - 65) = c from by omega]
theorem PtM.isc {w : World} {pb q off cap : Nat} {rs : List Ru} {T : ByteArray} {gi ci gj cj : Nat} {bI bG : Nat → Nat} {Is : Nat → Nat → Nat → Bool} {Go : Nat → Nat → Bool} (h : PtM w pb q off cap rs T gi ci gj cj bI bG Is Go) {c i j : Nat} (hc : bigB c = true) (hi : i < 14) (hj : j < 14) :
 w.cell? ⟨gi, c - 65, none⟩ = some (.slice (some ⟨bI (c - 65), 0, none⟩) 196 196) ∧ w.cell? ⟨bI (c - 65), i * 14 + j, none⟩ = some (.bool (Is c i j)) := by
 have hb := zao.1 hc
 exact ⟨h.ri _ (by omega), by rw [(h.bi (c - 65) (by omega)).cell _ (by omega), isF_at Is hc hj]⟩
theorem PtM.goc {w : World} {pb q off cap : Nat} {rs : List Ru} {T : ByteArray} {gi ci gj cj : Nat} {bI bG : Nat → Nat} {Is : Nat → Nat → Nat → Bool} {Go : Nat → Nat → Bool} (h : PtM w pb q off cap rs T gi ci gj cj bI bG Is Go) {c i : Nat} (hc : bigB c = true) (hi : i < 14) :
 w.cell? ⟨gj, c - 65, none⟩ = some (.slice (some ⟨bG (c - 65), 0, none⟩) 14 14) ∧ w.cell? ⟨bG (c - 65), i, none⟩ = some (.bool (Go c i)) := by
 have hb := zao.1 hc
 exact ⟨h.rj _ (by omega), by rw [(h.bg (c - 65) (by omega)).cell _ (by omega), goF_at Go hc]⟩
theorem bytes_getD (T : ByteArray) (i : Nat) (h : i < T.size) : (bytes T).getD i 0 = ch T i := by
 rw [List.getD_eq_getElem?_getD, List.getElem?_eq_getElem (by rw [zah]; exact h), za5]; rfl
set_option maxRecDepth 100000 in
set_option maxHeartbeats 1000000 in
theorem r_one (pb q off cap : Nat) (rs : List Ru) (T : ByteArray) (gi ci gj cj : Nat) (bI bG : Nat → Nat) (Is : Nat → Nat → Nat → Bool) (Go : Nat → Nat → Bool) (c i j : Nat) (w : World) (h : PtM w pb q off cap rs T gi ci gj cj bI bG Is Go) (hc : letB c = true) (hij : i ≤ j) (hj : j ≤ T.size) (hT : T.size ≤ 13) :
 Calls Tryz.prog 128 #[.pointer (some ⟨pb, 0, none⟩), .int .u8 (c : Nat), .int .i64 (i : Nat), .int .i64 (j : Nat)] w fun e w' => e = .returned (.bool (oneP (bytes T) Is c i j)) ∧ w' = w := by
 have c1 := h.c1
 have c2 := h.c2
 cases hs : zai c
 ·have hb : bigB c = true := by unfold letB at hc; rw [hs, Bool.or_false] at hc; exact hc
  obtain ⟨d1, d2⟩ := h.isc (i := i) (j := j) hb (by omega) (by omega)
  have hbb := zao.1 hb
  have e0 : (0 : Int) ≤ (c : Int) - 65 := by omega
  have e1 : (c : Int) - 65 < 26 := by omega
  have HR := hide (show oneP (bytes T) Is c i j = Is c i j from by unfold oneP; rw [if_neg (by rw [hs]; simp)])
  have hi13 : (i : Int) ≤ 13 := by omega
  have hj13 : (j : Int) ≤ 13 := by omega
  have hij2 : (i : Int) * 14 + (j : Int) < 196 := by omega
  clear h
  go_enter Tryz.func128, Tryz.ntmps128
  go_wp2_with (go_at_call 46; refine (zaq _ false _ hs).mono ?_; rintro e w' ⟨rfl, hw'⟩; rw [hw'])
  go_ret
  exact ⟨zap (zaa HR).symm, rfl⟩
 ·by_cases hji : j = i + 1
  ·subst hji
   have hi : i < T.size := by omega
   have HR := hide (show oneP (bytes T) Is c i (i + 1) = decide (ch T i = c) from by
    unfold oneP
    rw [if_pos hs, bytes_getD T i hi]; simp)
   have HC := hide (za8 T i hi)
   have hii : (i : Int) < T.size := by omega
   clear h
   go_enter Tryz.func128, Tryz.ntmps128
   go_wp2_with (go_at_call 46; refine (zaq _ true _ hs).mono ?_; rintro e w' ⟨rfl, hw'⟩; rw [hw'])
   go_ret
   refine ⟨zap ?_, rfl⟩
   rw [zaa HR, zaa HC]
   apply Bool.eq_iff_iff.2
   simp only [beq_iff_eq, decide_eq_true_iff]
   omega
  ·have HR := hide (show oneP (bytes T) Is c i j = false from by
    unfold oneP
    rw [if_pos hs, show decide (j = i + 1) = false from by simpa using hji]; rfl)
   have hne : ((j : Int) == (i : Int) + 1) = false := by rw [beq_eq_false_iff_ne]; omega
   clear h
   go_enter Tryz.func128, Tryz.ntmps128
   go_wp2_with (go_at_call 46; refine (zaq _ true _ hs).mono ?_; rintro e w' ⟨rfl, hw'⟩; rw [hw'])
   go_ret
   exact ⟨zap (zaa HR).symm, rfl⟩
theorem bytes_cons1 {s : ByteArray} (h : 0 < s.size) : bytes s = ch s 0 :: bytes (s.extract 1 s.size) := by
 apply List.ext_getElem
 ·rw [List.length_cons, zah, zah, ByteArray.size_extract]; omega
 ·intro k h1 h2
  rw [za5]
  cases k with
  | zero => rfl
  | succ k =>
   rw [List.getElem_cons_succ, za5, zcf _ _ _ _ (by rw [zah] at h1; omega) (Nat.le_refl _)]
   congr 1; omega
theorem ext1_size {s : ByteArray} : (s.extract 1 s.size).size = s.size - 1 := by rw [ByteArray.size_extract]; omega
theorem ext1_let {s : ByteArray} (h : ∀ k, k < s.size → letB (ch s k) = true) : ∀ k, k < (s.extract 1 s.size).size → letB (ch (s.extract 1 s.size) k) = true := fun k hk => by
 rw [ext1_size] at hk
 rw [zcf _ _ _ _ (by omega) (Nat.le_refl _)]
 exact h _ (by omega)
def rowNo (T : List Nat) (Is : Nat → Nat → Nat → Bool) (c : Nat) (l : List Nat) (i j k : Nat) : Prop := ∀ m, i ≤ m → m < k → (oneP T Is c i m && rowP T Is l m j) = false
theorem rowNo_false {T : List Nat} {Is : Nat → Nat → Nat → Bool} {c : Nat} {l : List Nat} {i j k : Nat} (h : rowNo T Is c l i j k) (hk : j < k) : rowP T Is (c :: l) i j = false := by
 cases e : rowP T Is (c :: l) i j
 ·rfl
 ·obtain ⟨m, h1, h2, h3, h4⟩ := rowP_cons.1 e
  have := h m h1 (by omega)
  rw [h3, h4] at this; cases this
theorem rowNo_succ {T : List Nat} {Is : Nat → Nat → Nat → Bool} {c : Nat} {l : List Nat} {i j k : Nat} (h : rowNo T Is c l i j k) (hk : (oneP T Is c i k && rowP T Is l k j) = false) : rowNo T Is c l i j (k + 1) := fun m h1 h2 => by
 by_cases e : m = k
 ·subst e; exact hk
 ·exact h m h1 (by omega)
set_option maxRecDepth 100000 in
set_option maxHeartbeats 1000000 in
theorem r_row (pb q off cap : Nat) (rs : List Ru) (T : ByteArray) (gi ci gj cj : Nat) (bI bG : Nat → Nat) (Is : Nat → Nat → Nat → Bool) (Go : Nat → Nat → Bool) (w : World) (h : PtM w pb q off cap rs T gi ci gj cj bI bG Is Go) (hT : T.size ≤ 13) (j : Nat) (hj : j ≤ T.size) : ∀ (m : Nat) (s : ByteArray) (i : Nat), s.size = m → m ≤ 10 → (∀ k, k < s.size → letB (ch s k) = true) → i ≤ j →
 Calls Tryz.prog 97 #[.pointer (some ⟨pb, 0, none⟩), .string s, .int .i64 (i : Nat), .int .i64 (j : Nat)] w fun e w' => e = .returned (.bool (rowP (bytes T) Is (bytes s) i j)) ∧ w' = w := by
 intro m
 induction m with
 | zero =>
  intro s i hs _ _ hij
  have hz : ((s.size : Int) == 0) = true := by rw [beq_iff_eq]; omega
  have HR := hide (show rowP (bytes T) Is (bytes s) i j = decide (i = j) from by
   rw [show bytes s = [] from List.length_eq_zero_iff.1 (by rw [zah]; exact hs), rowP])
  clear h hs
  go_enter Tryz.func97, Tryz.ntmps97
  go_wp2
  go_ret
  refine ⟨zap ?_, rfl⟩
  rw [zaa HR]
  apply Bool.eq_iff_iff.2
  simp only [beq_iff_eq, decide_eq_true_iff]
  omega
 | succ m ih =>
  intro s i hs hm hl hij
  have hpos : 0 < s.size := by omega
  have hz : ((s.size : Int) == 0) = false := by rw [beq_eq_false_iff_ne]; omega
  obtain ⟨r, hr⟩ : ∃ r : ByteArray, s.extract 1 s.size = r := ⟨_, rfl⟩
  have hrs : r.size = m := by rw [← hr, ext1_size]; omega
  have hrl : ∀ k, k < r.size → letB (ch r k) = true := by rw [← hr]; exact ext1_let hl
  have HB := hide (show bytes s = ch s 0 :: bytes r from by rw [← hr]; exact bytes_cons1 hpos)
  have hl0 := hl 0 hpos
  have HC := hide (za8 s 0 hpos)
  have hcc : ((s[0]'hpos).toNat : Int) = ((ch s 0 : Nat) : Int) := by rw [za8 s 0 hpos]
  obtain ⟨c, hc⟩ : ∃ c, ch s 0 = c := ⟨_, rfl⟩
  rw [hc] at hl0 HB hcc
  have HI := hide (fun i' (hi' : i' ≤ j) => ih r i' hrs (by omega) hrl hi')
  have H := hide h
  have HX := hide hr
  have HL0 := hide hl0
  have hs1 : (1 : Int) ≤ s.size := by omega
  have hj13 : (j : Int) ≤ 13 := by omega
  clear ih h hr hl hrl hc HC hl0 hs
  go_enter Tryz.func97, Tryz.ntmps97
  go_wp2
  go_loop [9, 10, 11] (fun kv _ _ => ∃ k : Nat, i ≤ k ∧ k ≤ j + 1 ∧ kv = .int .i64 k ∧ Hid (rowNo (bytes T) Is c (bytes r) i j k)) (fun kv _ _ => j + 1 - (intOf kv).toNat)
  case atStart => exact ⟨i, by omega, by omega, rfl, fun m h1 h2 => by omega⟩
  case round =>
   obtain ⟨k, h1, h2, rfl, hN⟩ := hrel
   by_cases hlt : k ≤ j
   ·cases ho : oneP (bytes T) Is c i k
    ·have HN := hide (rowNo_succ (zaa hN) (by rw [ho]; rfl))
     have HO := hide ho
     clear ho
     go_wp2_with (go_at_call 128; refine (r_one pb q off cap rs T gi ci gj cj bI bG Is Go c i k w (zaa H) (zaa HL0) h1 (by omega) hT).mono ?_; rintro e w' ⟨rfl, hw'⟩; rw [hw', zaa HO])
     go_round
     case rel => exact ⟨k + 1, by omega, by omega, by go_num, HN⟩
     case measure => simp [intOf]; omega
    ·have HO := hide ho
     cases hw : rowP (bytes T) Is (bytes r) k j
     ·have HN := hide (rowNo_succ (zaa hN) (by rw [ho, hw]; rfl))
      have HW := hide hw
      clear ho hw
      go_wp2_with (first
       | (go_at_call 128; refine (r_one pb q off cap rs T gi ci gj cj bI bG Is Go c i k w (zaa H) (zaa HL0) h1 (by omega) hT).mono ?_; rintro e w' ⟨rfl, hw'⟩; rw [hw', zaa HO])
       | (go_at_call 97; rw [zaa HX]; refine (zaa HI k hlt).mono ?_; rintro e w' ⟨rfl, hw'⟩; rw [hw', zaa HW]))
      go_round
      case rel => exact ⟨k + 1, by omega, by omega, by go_num, HN⟩
      case measure => simp [intOf]; omega
     ·have HN := hide (show rowP (bytes T) Is (bytes s) i j = true from by rw [zaa HB]; exact rowP_cons.2 ⟨k, h1, hlt, ho, hw⟩)
      have HW := hide hw
      clear ho hw
      go_wp2_with (first
       | (go_at_call 128; refine (r_one pb q off cap rs T gi ci gj cj bI bG Is Go c i k w (zaa H) (zaa HL0) h1 (by omega) hT).mono ?_; rintro e w' ⟨rfl, hw'⟩; rw [hw', zaa HO])
       | (go_at_call 97; rw [zaa HX]; refine (zaa HI k hlt).mono ?_; rintro e w' ⟨rfl, hw'⟩; rw [hw', zaa HW]))
      go_ret
      exact ⟨zap (zaa HN).symm, rfl⟩
   ·have HN := hide (show rowP (bytes T) Is (bytes s) i j = false from by rw [zaa HB]; exact rowNo_false (zaa hN) (by omega))
    go_wp2
    go_ret
    exact ⟨zap (zaa HN).symm, rfl⟩
end Go.Proofs.YtkglggkkbmmjkabGreatDoor
