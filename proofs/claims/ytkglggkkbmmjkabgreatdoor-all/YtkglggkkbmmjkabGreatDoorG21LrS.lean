import Derived.Test.YtkglggkkbmmjkabGreatDoorG0Leaf
import Derived.Test.YtkglggkkbmmjkabGreatDoorG20RPt4
import Derived.Test.YtkglggkkbmmjkabGreatDoorG19RPt1
namespace Go.Proofs.YtkglggkkbmmjkabGreatDoor
open Go.RowKit
theorem row_cell {w : World} {base e size g n cap : Nat} {xs : List Value} (h : w.ownsRow base e size (.slice (some ⟨g, 0, none⟩) n cap) n xs) {j : Nat} {u : Value} (hj : xs[j]? = some u) : w.cell? ⟨g, j, none⟩ = some u := by
 obtain ⟨h1, h2⟩ := h
 rcases h2 with ⟨h3, _⟩ | ⟨g', cap', cur, e, h3, h4, h5, h6, h7, h8⟩
 ·cases h3
 ·cases e
  rw [← h8] at hj
  have hlt : j < n * size := by
   rcases Nat.lt_or_ge j (n * size) with h | h
   ·exact h
   ·rw [List.getElem?_eq_none (by rw [List.length_take]; omega)] at hj; cases hj
  rw [List.getElem?_take_of_lt hlt, Array.getElem?_toList] at hj
  simp [World.cell?, h4, hj]
end Go.Proofs.YtkglggkkbmmjkabGreatDoor
namespace Go.Proofs.YtkglggkkbmmjkabGreatDoor
open Go.RowKit
/-! The parts of a text in the making: two rows of rows. -/
structure PR where
 f : Nat
 n : Nat
 v : Value
 b : Nat → Nat
 k : Nat
def PR.row (X : PR) : List Value := (List.range X.k).map fun i => .slice (some ⟨X.b i, 0, none⟩) X.n X.n
def PR.add (X : PR) (v : Value) (b : Nat) : PR := { X with v := v, b := fun i => if i = X.k then b else X.b i, k := X.k + 1 }
theorem PR.add_row (X : PR) (v : Value) (b : Nat) : (X.add v b).row = X.row ++ [.slice (some ⟨b, 0, none⟩) X.n X.n] := by
 unfold PR.row PR.add
 simp only [List.range_succ, List.map_append, List.map_cons, List.map_nil, if_true]
 congr 1
 exact List.map_congr_left fun i hi => by have := List.mem_range.1 hi; simp only [if_neg (show i ≠ X.k by omega)]
structure PbS (w wr : World) (pb : Nat) (c : Nat → Value) (X Y : PR) : Prop where
 fr : Fr [] w wr
 ps : pb = w.heap.size
 blk : Blk wr pb 4 c
 ox : wr.ownsRow (pb + 1) 95 1 X.v X.k X.row
 oy : wr.ownsRow (pb + 1) 95 1 Y.v Y.k Y.row
 cx : c X.f = X.v
 cy : c Y.f = Y.v
 bx : ∀ i, i < X.k → Blk wr (X.b i) X.n (fun _ => .bool false) ∧ pb < X.b i
 by_ : ∀ i, i < Y.k → Blk wr (Y.b i) Y.n (fun _ => .bool false) ∧ pb < Y.b i
 ix : ∀ i j, i < X.k → j < X.k → X.b i = X.b j → i = j
 iy : ∀ i j, i < Y.k → j < Y.k → Y.b i = Y.b j → i = j
 xy : ∀ i j, i < X.k → j < Y.k → X.b i ≠ Y.b j
 nx : ∀ i, i < X.k → X.v.ownBlock ≠ some (X.b i) ∧ Y.v.ownBlock ≠ some (X.b i)
 ny : ∀ i, i < Y.k → X.v.ownBlock ≠ some (Y.b i) ∧ Y.v.ownBlock ≠ some (Y.b i)
 vv : ∀ g, X.v.ownBlock = some g → Y.v.ownBlock ≠ some g
 fne : X.f ≠ Y.f
 f4 : X.f < 4 ∧ Y.f < 4
theorem PbS.swap {w wr : World} {pb : Nat} {c : Nat → Value} {X Y : PR} (h : PbS w wr pb c X Y) : PbS w wr pb c Y X :=
 ⟨h.fr, h.ps, h.blk, h.oy, h.ox, h.cy, h.cx, h.by_, h.bx, h.iy, h.ix, fun i j hi hj e => h.xy j i hj hi e.symm, fun i hi => ⟨(h.ny i hi).2, (h.ny i hi).1⟩, fun i hi => ⟨(h.nx i hi).2, (h.nx i hi).1⟩, fun g hg e => h.vv g e hg, fun e => h.fne e.symm, h.f4.2, h.f4.1⟩
theorem PbS.add {w wr w1 w2 w3 : World} {pb g cap : Nat} {c : Nat → Value} {X Y : PR} (h : PbS w wr pb c X Y) (hf1 : Fr [] wr w1) (hs1 : w1.heap.size = wr.heap.size + 1) (hB1 : Blk w1 wr.heap.size X.n (fun _ => .bool false)) (hf2 : Fr [] w1 w2)
 (hg3 : w2.grownBy w3 X.v.ownBlock) (ho3 : w3.ownsRow (pb + 1) 95 1 (.slice (some ⟨g, 0, none⟩) (X.k + 1) cap) (X.k + 1) (X.row ++ [.slice (some ⟨wr.heap.size, 0, none⟩) X.n X.n])) (hat : X.v.ownBlock = some g ∨ g = w2.heap.size) :
 PbS w (w3.setCell ⟨pb, X.f, none⟩ (.slice (some ⟨g, 0, none⟩) (X.k + 1) cap)) pb (upd c X.f (.slice (some ⟨g, 0, none⟩) (X.k + 1) cap)) (X.add (.slice (some ⟨g, 0, none⟩) (X.k + 1) cap) wr.heap.size) Y := by
 have hsz2 := hf2.size
 have hsw := h.fr.size
 have hpb := h.ps
 have hpl := h.blk.lt
 have f2 : Fr [] wr w2 := hf1.trans0 hf2
 -- blocks other than X's own row
 have key : ∀ {b n : Nat} {f : Nat → Value}, Blk w2 b n f → X.v.ownBlock ≠ some b → b ≠ pb → Blk (w3.setCell ⟨pb, X.f, none⟩ (.slice (some ⟨g, 0, none⟩) (X.k + 1) cap)) b n f := fun {b n f} hb hne hp =>
  (hb.grown hg3 (fun e => hne e.symm)).setCell_ne _ (fun e => hp e.symm) _
 have hpX : X.v.ownBlock ≠ some pb := fun e => by have := (h.ox.lt pb e).1; omega
 have hpY : Y.v.ownBlock ≠ some pb := fun e => by have := (h.oy.lt pb e).1; omega
 have hgb : pb + 1 ≤ g := (ho3.lt g rfl).1
 have hgx : ∀ b, b < wr.heap.size → X.v.ownBlock ≠ some b → g ≠ b := fun b hb hne e => by
  subst e
  rcases hat with hat | hat
  ·exact hne hat
  ·omega
 have f3 : Fr [] w w3 := Fr.of_grown (h.fr.trans0 f2) hg3 (fun k hk => Or.inr (by have := (h.ox.lt k hk).1; omega))
 have own : ∀ x, (Value.slice (some ⟨g, 0, none⟩) (X.k + 1) cap).ownBlock = some x → x = g := fun x hx => by simpa [Value.ownBlock, eq_comm] using hx
 exact {
  fr := f3.setCell _ (Or.inr (by show w.heap.size ≤ pb; omega)) _
  ps := hpb
  blk := ((h.blk.fr0 f2).grown hg3 (fun e => hpX e.symm)).setCell _ _
  ox := by rw [PR.add_row]; exact ownsRow_setCell_below ho3 (by simp) _
  oy := by
   have h1 : w2.ownsRow (pb + 1) 95 1 Y.v Y.k Y.row := zbd h.oy f2 (by simp)
   have h2 : w3.ownsRow (pb + 1) 95 1 Y.v Y.k Y.row := by
    have k3 : Fr (match X.v.ownBlock with | some k => [k] | none => []) w2 w3 := Fr.of_grown (Fr.refl _ _) hg3 (fun k hk => Or.inl (by rw [hk]; simp))
    exact zas h1 k3 (fun x hx => by
     cases hX : X.v.ownBlock with
     | none => simp
     | some k => simp only [List.mem_singleton]; intro e; subst e; exact h.vv _ hX hx)
   exact ownsRow_setCell_below h2 (by simp) _
  cx := by show upd c X.f _ X.f = _; unfold upd; rw [if_pos rfl]; rfl
  cy := by unfold upd; rw [if_neg (fun e => h.fne e.symm)]; exact h.cy
  bx := fun i hi => by
   have hi' : i < X.k + 1 := hi
   show Blk _ (if i = X.k then wr.heap.size else X.b i) X.n _ ∧ pb < (if i = X.k then wr.heap.size else X.b i)
   by_cases e : i = X.k
   ·rw [if_pos e]
    exact ⟨key (hB1.fr0 hf2) (fun e => by have := (h.ox.lt _ e).2; omega) (by omega), by omega⟩
   ·rw [if_neg e]
    obtain ⟨a1, a2⟩ := h.bx i (by omega)
    exact ⟨key (a1.fr0 f2) (h.nx i (by omega)).1 (by omega), a2⟩
  by_ := fun i hi => by
   obtain ⟨a1, a2⟩ := h.by_ i hi
   exact ⟨key (a1.fr0 f2) (h.ny i hi).1 (by omega), a2⟩
  ix := fun i j hi hj => by
   have hi' : i < X.k + 1 := hi
   have hj' : j < X.k + 1 := hj
   show (if i = X.k then wr.heap.size else X.b i) = (if j = X.k then wr.heap.size else X.b j) → i = j
   by_cases e1 : i = X.k
   ·by_cases e2 : j = X.k
    ·intro _; omega
    ·rw [if_pos e1, if_neg e2]
     have := (h.bx j (by omega)).1.lt
     intro e; omega
   ·by_cases e2 : j = X.k
    ·rw [if_pos e2, if_neg e1]
     have := (h.bx i (by omega)).1.lt
     intro e; omega
    ·rw [if_neg e1, if_neg e2]
     exact h.ix i j (by omega) (by omega)
  iy := h.iy
  xy := fun i j hi hj => by
   have hi' : i < X.k + 1 := hi
   show (if i = X.k then wr.heap.size else X.b i) ≠ Y.b j
   by_cases e1 : i = X.k
   ·rw [if_pos e1]
    have := (h.by_ j hj).1.lt
    omega
   ·rw [if_neg e1]
    exact h.xy i j (by omega) hj
  nx := fun i hi => by
   have hi' : i < X.k + 1 := hi
   show (Value.slice (some ⟨g, 0, none⟩) (X.k + 1) cap).ownBlock ≠ some (if i = X.k then wr.heap.size else X.b i) ∧ Y.v.ownBlock ≠ some (if i = X.k then wr.heap.size else X.b i)
   by_cases e1 : i = X.k
   ·rw [if_pos e1]
    refine ⟨fun e => ?_, fun e => by have := (h.oy.lt _ e).2; omega⟩
    have e := own _ e
    rcases hat with hat | hat
    ·have := (h.ox.lt _ hat).2; omega
    ·omega
   ·rw [if_neg e1]
    refine ⟨fun e => ?_, (h.nx i (by omega)).2⟩
    exact hgx _ (h.bx i (by omega)).1.lt (h.nx i (by omega)).1 (own _ e).symm
  ny := fun i hi => ⟨fun e => hgx _ (h.by_ i hi).1.lt (h.ny i hi).1 (own _ e).symm, (h.ny i hi).2⟩
  vv := fun x hx => by
   have e := own x hx
   subst e
   intro e2
   rcases hat with hat | hat
   ·exact h.vv _ hat e2
   ·have := (h.oy.lt _ e2).2; omega
  fne := h.fne
  f4 := h.f4 }
end Go.Proofs.YtkglggkkbmmjkabGreatDoor
namespace Go.Proofs.YtkglggkkbmmjkabGreatDoor
open Go.RowKit
/-! What the stack stands for. -/
theorem Cl.inv {rs : List Ru} {N : Nat → Bool} {T : Nat → Nat → Bool} {X : It → Prop} {y : It} (h : Cl rs N T X y) : X y ∨ ∃ x, Cl rs N T X x ∧ Asks rs N T x y := by
 have := h (fun y => Cl rs N T X y ∧ (X y ∨ ∃ x, Cl rs N T X x ∧ Asks rs N T x y)) (fun x hx => ⟨Cl.base hx, Or.inl hx⟩) (fun x y ⟨h1, _⟩ ha => ⟨h1.step ha, Or.inr ⟨x, h1, ha⟩⟩)
 exact this.2
inductive SI (L : List Ru) (N : Nat → Bool) (T : Nat → Nat → Bool) (r : Tb) : Stk → List Nat → Prop
 | base : SI L N T r [(0, [])] []
 | push {s c j n : Nat} {xs u w x : List Nat} {st : Stk} : SI L N T r ((s, xs) :: st) u → letB c = true → gto r s c = (j : Nat) → j < r.1.length → (∀ y, y ∈ itm r j ↔ Cl L N T (Mvd L c (itm r s)) y) → Ds L [c] w x n → SI L N T r ((j, x) :: (s, xs) :: st) (u ++ w)
theorem SI.lt {L : List Ru} {N : Nat → Bool} {T : Nat → Nat → Bool} {r : Tb} (h0 : 0 < r.1.length) {st : Stk} {u : List Nat} (h : SI L N T r st u) : topS st < r.1.length := by
 cases h with
 | base => exact h0
 | push _ _ _ h4 _ _ => exact h4
theorem SI.ne {L : List Ru} {N : Nat → Bool} {T : Nat → Nat → Bool} {r : Tb} {st : Stk} {u : List Nat} (h : SI L N T r st u) : ∃ s x st', st = (s, x) :: st' := by
 cases h with
 | base => exact ⟨_, _, _, rfl⟩
 | push => exact ⟨_, _, _, rfl⟩
theorem bytes_take_succ {R : ByteArray} {p : Nat} (h : p < R.size) : (bytes R).take (p + 1) = (bytes R).take p ++ [ch R p] := by
 have h' : p < (bytes R).length := by rw [zah]; exact h
 rw [List.take_succ_eq_append_getElem h', za5]
theorem SI.back {L : List Ru} {N : Nat → Bool} {T : Nat → Nat → Bool} {r : Tb} (hT : TabOk L N T r) : ∀ (p : Nat) {st : Stk} {u : List Nat} {k t : Nat}, SI L N T r st u → (⟨k, p, t⟩ : It) ∈ itm r (topS st) → p ≤ (rget L k).R.size →
 ∃ (pt : Stk) (s : Nat) (xs : List Nat) (st' : Stk) (u' w : List Nat) (n : Nat), st = pt ++ (s, xs) :: st' ∧ pt.length = p ∧ SI L N T r ((s, xs) :: st') u' ∧ u = u' ++ w ∧ Ds L ((bytes (rget L k).R).take p) w (txt pt) n ∧ (⟨k, 0, t⟩ : It) ∈ itm r s
 | 0, st, u, k, t, h, hi, _ => by
  obtain ⟨s, x, st', rfl⟩ := h.ne
  exact ⟨[], s, x, st', u, [], 0, rfl, rfl, h, by simp, Ds.nil, hi⟩
 | p + 1, st, u, k, t, h, hi, hp => by
  cases h with
  | base =>
   have hi' := (hT.zero _).1 hi
   rcases hi'.inv with e | ⟨x, _, ha⟩
   ·cases e
   ·exact absurd ha.2.2.2.2.2.1 (by simp)
  | @push s c j n xs u w x st h1 h2 h3 h4 h5 h6 =>
   have hi' := (h5 _).1 hi
   rcases hi'.inv with ⟨⟨k0, p0, t0⟩, hx, hm, e⟩ | ⟨x, _, ha⟩
   ·obtain ⟨rfl, e2, rfl⟩ : k = k0 ∧ p + 1 = p0 + 1 ∧ t = t0 := by unfold mvI at e; simpa using e
    obtain rfl : p = p0 := by omega
    obtain ⟨pt, s', xs', st', u', w', n', e1, e3, e4, e5, e6, e7⟩ := SI.back hT p (st := (s, xs) :: st) h1 hx (by omega)
    refine ⟨(j, x) :: pt, s', xs', st', u', w' ++ w, n' + n, by rw [e1]; rfl, by simp [e3], e4, by rw [e5]; simp, ?_, e7⟩
    rw [bytes_take_succ hm.1, hm.2, txt_cons]
    exact e6.app h6
   ·exact absurd ha.2.2.2.2.2.1 (by simp)
theorem SI.asked {L : List Ru} {N : Nat → Bool} {T : Nat → Nat → Bool} {r : Tb} (hT : TabOk L N T r) {st : Stk} {u : List Nat} (h : SI L N T r st u) {k t : Nat} (hk : 1 ≤ k) (hi : (⟨k, 0, t⟩ : It) ∈ itm r (topS st)) : ∃ x ∈ itm r (topS st), MvB L (rget L k).L x := by
 cases h with
 | base =>
  rcases ((hT.zero _).1 hi).inv with e | ⟨x, hx, ha⟩
  ·have := congrArg It.R e; simp at this; omega
  ·exact ⟨x, (hT.zero x).2 hx, ha.1, ha.2.2.2.2.1.symm⟩
 | @push s c j n xs u w x st h1 h2 h3 h4 h5 h6 =>
  rcases ((h5 _).1 hi).inv with ⟨⟨k0, p0, t0⟩, hx, hm, e⟩ | ⟨x, hx, ha⟩
  ·have := congrArg It.P e; simp [mvI] at this
  ·exact ⟨x, (h5 x).2 hx, ha.1, ha.2.2.2.2.1.symm⟩
theorem SI.replace {L : List Ru} {N : Nat → Bool} {T : Nat → Nat → Bool} {r : Tb} (hT : TabOk L N T r) {st : Stk} {u : List Nat} (h : SI L N T r st u) {k a : Nat} (hk : 1 ≤ k) (hc : canR L r (topS st) a k = true) :
 ∃ (pt : Stk) (s : Nat) (xs : List Nat) (st' : Stk) (j : Nat), st = pt ++ (s, xs) :: st' ∧ pt.length = (rget L k).R.size ∧ k < L.length ∧ gto r s (rget L k).L = (j : Nat) ∧ j < r.1.length ∧ s < r.1.length ∧ SI L N T r ((j, nodeT k (txt pt)) :: (s, xs) :: st') u := by
 have hi := canR_inv hc
 have hok := hT.ok _ _ hi
 obtain ⟨pt, s, xs, st', u', w, n, e1, e2, e3, e4, e5, e6⟩ := SI.back hT _ h hi (Nat.le_refl _)
 have hs : s < r.1.length := e3.lt hT.pos
 obtain ⟨x, hx, hm⟩ := e3.asked hT hk e6
 have hlet : letB (rget L k).L = true := by unfold letB; rw [hT.cl.big k hk hok.1]; rfl
 obtain ⟨j, g1, g2, g3⟩ := hT.goto hs hx hm hlet
 rw [List.take_of_length_le (by rw [zah]; exact Nat.le_refl _)] at e5
 refine ⟨pt, s, xs, st', j, e1, e2, hok.1, g1, g2, hs, ?_⟩
 rw [e4]
 exact SI.push e3 hlet g1 g2 g3 (Ds.one hk hok.1 e5)
theorem SI.shift {L : List Ru} {N : Nat → Bool} {T : Nat → Nat → Bool} {r : Tb} (hT : TabOk L N T r) {s : Nat} {x u : List Nat} {st : Stk} (h : SI L N T r ((s, x) :: st) u) {a : Nat} (ha : zai a = true) (hc : canS r s a = true) : ∃ j : Nat, gto r s a = j ∧ j < r.1.length ∧ SI L N T r ((j, [a]) :: (s, x) :: st) (u ++ [a]) := by
 have hlet : letB a = true := by unfold letB; rw [ha]; simp
 have hc' : 0 ≤ gto r s a := of_decide_eq_true hc
 rcases hT.step s (h.lt hT.pos) a hlet with ⟨h1, _⟩ | ⟨j, h1, h2, _, h4⟩
 ·omega
 ·exact ⟨j, h1, h2, SI.push h hlet h1 h2 h4 (Ds.small ha Ds.nil)⟩
theorem SI.done {L : List Ru} {N : Nat → Bool} {T : Nat → Nat → Bool} {r : Tb} (hT : TabOk L N T r) {S : Nat} (h0 : bytes (rget L 0).R = [S]) {st : Stk} {u : List Nat} (h : SI L N T r st u) {a : Nat} (hc : canR L r (topS st) a 0 = true) :
 a = 36 ∧ ∃ j x n, st = [(j, x), (0, [])] ∧ Ds L [S] u x n := by
 have hi := canR_inv hc
 have hsz : (rget L 0).R.size = 1 := by rw [← zah, h0]; rfl
 rw [hsz] at hi
 have zero_inv : ∀ {st : Stk} {u : List Nat} {t : Nat}, SI L N T r st u → (⟨0, 0, t⟩ : It) ∈ itm r (topS st) → t = 36 ∧ st = [(0, [])] ∧ u = [] := by
  intro st u t h hi
  cases h with
  | base =>
   rcases ((hT.zero _).1 hi).inv with e | ⟨x, hx, ha⟩
   ·exact ⟨congrArg It.T e, rfl, rfl⟩
   ·exact absurd ha.2.2.1 (by simp)
  | @push s c j n xs u w x st h1 h2 h3 h4 h5 h6 =>
   rcases ((h5 _).1 hi).inv with ⟨⟨k0, p0, t0⟩, hx, hm, e⟩ | ⟨x, hx, ha⟩
   ·have := congrArg It.P e; simp [mvI] at this
   ·exact absurd ha.2.2.1 (by simp)
 obtain ⟨pt, s, xs, st', u', w, n, e1, e2, e3, e4, e5, e6⟩ := SI.back hT 1 h hi (by omega)
 obtain ⟨ha, hst, hu⟩ := zero_inv e3 e6
 obtain ⟨⟨j, x⟩, rfl⟩ : ∃ q, pt = [q] := List.length_eq_one_iff.1 e2
 rw [h0] at e5
 refine ⟨ha, j, x, n, by rw [e1, hst]; rfl, ?_⟩
 rw [e4, hu]
 simpa [txt] using e5
def Acc (L : List Ru) (S : Nat) (v : List Nat) : Prop := ∃ w x n, Ds L [S] w x n ∧ v = w ++ [36]
def Val (L : List Ru) (S : Nat) (u : List Nat) (x : It) : Prop := ∃ z, z.head? = some x.T ∧ ∀ y t n, Ds L ((bytes (rget L x.R).R).drop x.P) y t n → Acc L S (u ++ y ++ z)
structure GrSo (L : List Ru) (N : Nat → Bool) (T : Nat → Nat → Bool) : Prop where
 nul : ∀ l, l.all N = true → ∃ x n, Ds L l [] x n
 fst : ∀ k, k < L.length → ∀ p a, beg N T ((bytes (rget L k).R).drop p) a = true → ∃ w x n, Ds L ((bytes (rget L k).R).drop p) (a :: w) x n
 some_ : ∀ k, k < L.length → ∀ p, ∃ w x n, Ds L ((bytes (rget L k).R).drop p) w x n
theorem val_cl {L : List Ru} {N : Nat → Bool} {T : Nat → Nat → Bool} (hS : GrSo L N T) {S : Nat} {u : List Nat} {X : It → Prop} (hX : ∀ x, X x → IOk L x ∧ Val L S u x) (hf : ∀ c x, x < 128 → T c x = true → zai x = true) : ∀ y, Cl L N T X y → IOk L y ∧ Val L S u y := fun y h => by
 refine h (fun y => IOk L y ∧ Val L S u y) hX ?_
 rintro ⟨k, p, t⟩ ⟨k', p', b⟩ ⟨hok, z, hz, hv⟩ ha
 refine ⟨ha.ok hok hf, ?_⟩
 obtain ⟨h1, h2, h3, h4, h5, h6, h7, h8⟩ := ha
 have h6 : p' = 0 := h6
 subst h6
 have hd : (bytes (rget L k).R).drop p = (rget L k').L :: (bytes (rget L k).R).drop (p + 1) := by
  have hl : p < (bytes (rget L k).R).length := by rw [zah]; exact h1
  rw [List.drop_eq_getElem_cons hl, za5, h5]
 obtain ⟨wr, xr, nr, hr, hh⟩ : ∃ wr xr nr, Ds L ((bytes (rget L k).R).drop (p + 1)) wr xr nr ∧ (wr ++ z).head? = some b := by
  unfold sgS at h8
  rw [Bool.or_eq_true, Bool.and_eq_true] at h8
  rcases h8 with h8 | ⟨h8, h9⟩
  ·obtain ⟨w, x, n, hd⟩ := hS.fst k hok.1 _ _ h8
   exact ⟨_, x, n, hd, rfl⟩
  ·obtain ⟨x, n, hd⟩ := hS.nul _ h8
   refine ⟨[], x, n, hd, ?_⟩
   rw [List.nil_append, hz]
   have : b = t := by simpa using h9
   rw [this]
 refine ⟨wr ++ z, hh, fun y x n hy => ?_⟩
 have := hv (y ++ wr) _ _ (by rw [hd]; exact Ds.big h3 h4 (by simpa using hy) hr)
 rw [show u ++ y ++ (wr ++ z) = u ++ (y ++ wr) ++ z from by simp]
 exact this
theorem SI.val {L : List Ru} {N : Nat → Bool} {T : Nat → Nat → Bool} {r : Tb} (hT : TabOk L N T r) (hS : GrSo L N T) {S : Nat} (h0 : bytes (rget L 0).R = [S]) {st : Stk} {u : List Nat} (h : SI L N T r st u) : ∀ x ∈ itm r (topS st), IOk L x ∧ Val L S u x := by
 induction h with
 | base =>
  intro x hx
  refine val_cl hS (fun y hy => ?_) hT.cl.gr.fst x ((hT.zero x).1 hx)
  subst hy
  refine ⟨⟨hT.cl.pos, Nat.zero_le _, Or.inl rfl⟩, [36], rfl, fun y t n hy => ?_⟩
  rw [show (⟨0, 0, 36⟩ : It).R = 0 from rfl, h0] at hy
  exact ⟨y, t, n, hy, by simp⟩
 | @push s c j n xs u w x st h1 h2 h3 h4 h5 h6 ih =>
  intro y hy
  refine val_cl hS (fun y hy => ?_) hT.cl.gr.fst y ((h5 y).1 hy)
  obtain ⟨⟨k, p, t⟩, hx, hm, rfl⟩ := hy
  obtain ⟨hok, z, hz, hv⟩ := ih _ hx
  refine ⟨mv_ok hok hm, z, hz, fun y t' n' hy => ?_⟩
  have hd : (bytes (rget L k).R).drop p = [c] ++ (bytes (rget L k).R).drop (p + 1) := by
   have hl : p < (bytes (rget L k).R).length := by rw [zah]; exact hm.1
   have hc : ch (rget L k).R p = c := hm.2
   rw [List.drop_eq_getElem_cons hl, za5, hc]; rfl
  have := hv (w ++ y) _ _ (by show Ds L ((bytes (rget L k).R).drop p) _ _ _; rw [hd]; exact h6.app hy)
  rw [show u ++ w ++ y ++ z = u ++ (w ++ y) ++ z from by simp]
  exact this
theorem SI.good {L : List Ru} {N : Nat → Bool} {T : Nat → Nat → Bool} {r : Tb} (hT : TabOk L N T r) (hS : GrSo L N T) {S : Nat} (h0 : bytes (rget L 0).R = [S]) {st : Stk} {u : List Nat} (h : SI L N T r st u) {a : Nat} (hc : (zai a = true ∧ canS r (topS st) a = true) ∨ ∃ k, canR L r (topS st) a k = true) : ∃ v, Acc L S (u ++ a :: v) := by
 rcases hc with ⟨ha, hc⟩ | ⟨k, hc⟩
 ·have hlet : letB a = true := by unfold letB; rw [ha]; simp
  have hc' : 0 ≤ gto r (topS st) a := of_decide_eq_true hc
  rcases hT.step _ (h.lt hT.pos) a hlet with ⟨h1, _⟩ | ⟨j, h1, h2, ⟨⟨k, p, t⟩, hx, hm⟩, h4⟩
  ·omega
  ·obtain ⟨hok, z, hz, hv⟩ := h.val hT hS h0 _ hx
   have hd : (bytes (rget L k).R).drop p = a :: (bytes (rget L k).R).drop (p + 1) := by
    have hl : p < (bytes (rget L k).R).length := by rw [zah]; exact hm.1
    have hc : ch (rget L k).R p = a := hm.2
    rw [List.drop_eq_getElem_cons hl, za5, hc]
   obtain ⟨w, x, n, hw⟩ := hS.some_ k hok.1 (p + 1)
   have := hv (a :: w) _ _ (by show Ds L ((bytes (rget L k).R).drop p) _ _ _; rw [hd]; exact Ds.small ha hw)
   exact ⟨w ++ z, by simpa using this⟩
 ·have hi := canR_inv hc
  obtain ⟨hok, z, hz, hv⟩ := h.val hT hS h0 _ hi
  have := hv [] [] 0 (by show Ds L ((bytes (rget L k).R).drop (rget L k).R.size) _ _ _; rw [List.drop_eq_nil_of_le (by rw [zah]; exact Nat.le_refl _)]; exact Ds.nil)
  cases z with
  | nil => cases hz
  | cons b z =>
   have : b = a := by simpa using hz
   subst this
   exact ⟨z, by simpa using ‹Acc L S (u ++ [] ++ b :: z)›⟩
end Go.Proofs.YtkglggkkbmmjkabGreatDoor
