import Derived.Test.YtkglggkkbmmjkabGreatDoorG29PNext
namespace Go.Proofs.YtkglggkkbmmjkabGreatDoor
open Go.RowKit
set_option maxHeartbeats 400000 in
theorem p_hasState (tb base : Nat) (p : Pl) (v : Value) (S : List Sd) (cores fault : Nat) (n : Int) (w : World) (h : TbAt w tb base p v S cores fault) :
 Calls Tryz.prog 73 #[.pointer (some ⟨tb, 0, none⟩), .int .i64 n] w fun e w' => e = .returned (.bool (decide (0 ≤ n) && decide (n < S.length))) ∧ w' = w := by
 obtain ⟨ao, cap, hv, _⟩ := h.form
 have c0 := h.v
 rw [hv] at c0
 clear h hv
 by_cases h0 : 0 ≤ n
 ·by_cases h1 : n < S.length
  ·go_enter Tryz.func73, Tryz.ntmps73
   go_wp2
   go_ret
   exact ⟨by simp [h0, h1], rfl⟩
  ·go_enter Tryz.func73, Tryz.ntmps73
   go_wp2
   go_ret
   exact ⟨by simp [h1], rfl⟩
 ·go_enter Tryz.func73, Tryz.ntmps73
  go_wp2
  go_ret
  exact ⟨by simp; omega, rfl⟩
def setTo (S : List Sd) (n i : Nat) (x : Int) : List Sd := S.set n ⟨(sget S n).A, fun k => if k = i then x else (sget S n).nx k, (sget S n).core⟩
theorem zba (S : List Sd) (n i : Nat) (x : Int) : (setTo S n i x).length = S.length := by simp [setTo]
theorem sget_set (S : List Sd) (n m : Nat) (s : Sd) (hn : n < S.length) : sget (S.set n s) m = if m = n then s else sget S m := by
 unfold sget
 rw [List.getD_eq_getElem?_getD, List.getD_eq_getElem?_getD, List.getElem?_set]
 by_cases e : m = n
 ·subst e; simp [hn]
 ·rw [if_neg (fun h => e h.symm), if_neg e]
theorem rwF_setTo (S : List Sd) (n i : Nat) (x : Int) (hn : n < S.length) (hi : i < 52) (j : Nat) : upd (rwF S) (n * 1268 + 1215 + i) (.int .i64 x) j = rwF (setTo S n i x) j := by
 unfold upd rwF setTo
 rw [sget_set S n _ _ hn]
 by_cases e : j / 1268 = n
 ·rw [if_pos e]
  unfold stF
  dsimp only
  by_cases h : j = n * 1268 + 1215 + i
  ·have h1 : ¬ j % 1268 < 1215 := by omega
   have h2 : j % 1268 < 1267 := by omega
   have h3 : j % 1268 - 1215 = i := by omega
   rw [if_pos h, if_neg h1, if_pos h2, if_pos h3]
  ·rw [if_neg h, e]
   by_cases h1 : j % 1268 < 1215
   ·rw [if_pos h1, if_pos h1]
   ·rw [if_neg h1, if_neg h1]
    by_cases h2 : j % 1268 < 1267
    ·have h3 : ¬ j % 1268 - 1215 = i := by omega
     rw [if_pos h2, if_pos h2, if_neg h3]
    ·rw [if_neg h2, if_neg h2]
 ·rw [if_neg e, if_neg (by intro h; omega)]
inductive zcm (p : Pl) (n : Nat) (A : Nat → Bool) (S : List Sd) (c f : Nat) : Nat → List Sd → Nat → Nat → Prop
 | zero : zcm p n A S c f 0 S c f
 | skip {i : Nat} {S1 : List Sd} {c1 f1 : Nat} : zcm p n A S c f i S1 c1 f1 → nxB p A 45 i = false → zcm p n A S c f (i + 1) (setTo S1 n i (-1)) c1 f1
 | old {i j : Nat} {S1 : List Sd} {c1 f1 : Nat} {B : Nat → Bool} : zcm p n A S c f i S1 c1 f1 → nxB p A 45 i = true → FuI p (kern p (ltr i) A) B → numP S1 B = some j → zcm p n A S c f (i + 1) (setTo S1 n i j) c1 f1
 | many {i : Nat} {S1 : List Sd} {c1 f1 : Nat} {B : Nat → Bool} : zcm p n A S c f i S1 c1 f1 → nxB p A 45 i = true → FuI p (kern p (ltr i) A) B → numP S1 B = none → 40 ≤ S1.length → zcm p n A S c f (i + 1) (setTo S1 n i (-1)) c1 6
 | new {i : Nat} {S1 : List Sd} {c1 f1 : Nat} {B : Nat → Bool} : zcm p n A S c f i S1 c1 f1 → nxB p A 45 i = true → FuI p (kern p (ltr i) A) B → numP S1 B = none → S1.length < 40 → zcm p n A S c f (i + 1) (setTo (S1 ++ [sdN S1 B c1]) n i S1.length) (corN S1 B c1) f1
structure FsS (w wr : World) (tb base f4 f5 : Nat) (p : Pl) (v0 v : Value) (S : List Sd) (cores fault : Nat) (A : Nat → Bool) : Prop where
 fr : Fr (tb :: v0.ownBlock.toList) w wr
 tab : TbAt wr tb base p v S cores fault
 b4 : Blk wr f4 1215 (zak A)
 b5 : Blk wr f5 52 (zak (nxB p A 45))
 own : ∀ g, v.ownBlock = some g → v0.ownBlock = some g ∨ w.heap.size ≤ g
 n4 : v.ownBlock ≠ some f4
 n5 : v.ownBlock ≠ some f5
 l4 : w.heap.size ≤ f4
 l5 : w.heap.size ≤ f5
 lt : tb < w.heap.size
 co : cores ≤ S.length
 le : S.length ≤ 40
theorem FsS.fr0 {w wr w' : World} {tb base f4 f5 : Nat} {p : Pl} {v0 v : Value} {S : List Sd} {cores fault : Nat} {A : Nat → Bool} (h : FsS w wr tb base f4 f5 p v0 v S cores fault A) (k : Fr [] wr w') : FsS w w' tb base f4 f5 p v0 v S cores fault A :=
 ⟨h.fr.trans0 k, h.tab.fr0 k, h.b4.fr0 k, h.b5.fr0 k, h.own, h.n4, h.n5, h.l4, h.l5, h.lt, h.co, h.le⟩
theorem FsS.far {w wr w' : World} {tb base f4 f5 x : Nat} {p : Pl} {v0 v : Value} {S : List Sd} {cores fault : Nat} {A : Nat → Bool} (h : FsS w wr tb base f4 f5 p v0 v S cores fault A) (k : Fr [x] wr w') (hx : w.heap.size ≤ x) (h4 : f4 ≠ x) (h5 : f5 ≠ x) (hv : v.ownBlock ≠ some x) : FsS w w' tb base f4 f5 p v0 v S cores fault A :=
 ⟨h.fr.trans1 k (Or.inr hx), h.tab.fr k (by have := h.lt; simp; omega) (fun g hg => by simp; intro e; exact hv (by rw [hg, e])), h.b4.fr1 k h4, h.b5.fr1 k h5, h.own, h.n4, h.n5, h.l4, h.l5, h.lt, h.co, h.le⟩
theorem corN_le (S : List Sd) (B : Nat → Bool) (c : Nat) (h : c ≤ S.length) : corN S B c ≤ (S ++ [sdN S B c]).length := by
 unfold corN; rw [List.length_append]; simp; split <;> omega
theorem FsS.new {w wr w' : World} {tb base f4 f5 : Nat} {p : Pl} {v0 v v' : Value} {S : List Sd} {cores fault : Nat} {A B : Nat → Bool} (h : FsS w wr tb base f4 f5 p v0 v S cores fault A) (k : Fr (tb :: v.ownBlock.toList) wr w') (ht : TbAt w' tb base p v' (S ++ [sdN S B cores]) (corN S B cores) fault) (hg : ∀ g, v'.ownBlock = some g → v.ownBlock = some g ∨ wr.heap.size ≤ g) (hl : S.length < 40) : FsS w w' tb base f4 f5 p v0 v' (S ++ [sdN S B cores]) (corN S B cores) fault A := by
 have hlt := h.lt
 have hsz := h.fr.size
 have h4 : f4 ∉ (tb :: v.ownBlock.toList) := by
  intro hm
  rcases List.mem_cons.1 hm with e | e
  ·have := h.l4; omega
  ·exact h.n4 (by simpa using e)
 have h5 : f5 ∉ (tb :: v.ownBlock.toList) := by
  intro hm
  rcases List.mem_cons.1 hm with e | e
  ·have := h.l5; omega
  ·exact h.n5 (by simpa using e)
 refine ⟨h.fr.trans k (fun x hx => ?_), ht, h.b4.fr k h4, h.b5.fr k h5, fun g hg' => ?_, fun e => ?_, fun e => ?_, h.l4, h.l5, h.lt, corN_le S B cores h.co, by rw [List.length_append]; simp; omega⟩
 ·rcases List.mem_cons.1 hx with e | e
  ·exact Or.inl (by rw [e]; simp)
  ·rcases h.own x (by simpa using e) with e2 | e2
   ·exact Or.inl (by rw [e2]; simp)
   ·exact Or.inr e2
 ·rcases hg g hg' with e | e
  ·exact h.own g e
  ·exact Or.inr (by omega)
 ·rcases hg f4 e with e | e
  ·exact h.n4 e
  ·have := h.b4.lt; omega
 ·rcases hg f5 e with e | e
  ·exact h.n5 e
  ·have := h.b5.lt; omega
theorem FsS.many {w wr w' : World} {tb base f4 f5 : Nat} {p : Pl} {v0 v : Value} {S : List Sd} {cores fault : Nat} {A : Nat → Bool} (h : FsS w wr tb base f4 f5 p v0 v S cores fault A) (k : Fr [tb] wr w') (ht : TbAt w' tb base p v S cores 6) : FsS w w' tb base f4 f5 p v0 v S cores 6 A := by
 have hlt := h.lt
 exact ⟨h.fr.trans k (by simp), ht, h.b4.fr1 k (by have := h.l4; omega), h.b5.fr1 k (by have := h.l5; omega), h.own, h.n4, h.n5, h.l4, h.l5, h.lt, h.co, h.le⟩
theorem FsS.put {w wr : World} {tb base f4 f5 g cap : Nat} {p : Pl} {v0 : Value} {S : List Sd} {cores fault : Nat} {A : Nat → Bool} (h : FsS w wr tb base f4 f5 p v0 (.slice (some ⟨g, 0, none⟩) S.length cap) S cores fault A) (n i : Nat) (hn : n < S.length) (hi : i < 52) (x : Int) :
 FsS w (wr.setCell ⟨g, n * 1268 + 1215 + i, none⟩ (.int .i64 x)) tb base f4 f5 p v0 (.slice (some ⟨g, 0, none⟩) (setTo S n i x).length cap) (setTo S n i x) cores fault A := by
 have k := (Fr.refl [g] wr).setCell ⟨g, n * 1268 + 1215 + i, none⟩ (by simp) (.int .i64 x)
 have hgo : (Value.slice (some ⟨g, 0, none⟩) S.length cap).ownBlock = some g := rfl
 have hgl := h.tab.row.lt hgo
 have htl := h.tab.lt
 rw [zba]
 refine ⟨h.fr.trans k (fun y hy => ?_), ⟨h.tab.blk.fr1 k (by omega), by rw [zba]; exact (h.tab.row.setCell _ _).congr fun j _ => rwF_setTo S n i x hn hi j, h.tab.lt⟩, h.b4.fr1 k (fun e => h.n4 (by rw [e]; exact hgo)), h.b5.fr1 k (fun e => h.n5 (by rw [e]; exact hgo)), h.own, h.n4, h.n5, h.l4, h.l5, h.lt, by rw [zba]; exact h.co, by rw [zba]; exact h.le⟩
 have e : y = g := by simpa using hy
 subst e
 rcases h.own y hgo with e | e
 ·exact Or.inl (by rw [e]; simp)
 ·exact Or.inr e
theorem FsS.slot {w wr : World} {tb base f4 f5 : Nat} {p : Pl} {v0 v : Value} {S : List Sd} {cores fault : Nat} {A : Nat → Bool} (h : FsS w wr tb base f4 f5 p v0 v S cores fault A) (n i : Nat) (hn : n < S.length) (hi : i < 52) :
 ∃ g cap, v = .slice (some ⟨g, 0, none⟩) S.length cap ∧ wr.cell? ⟨tb, 1359, none⟩ = some (.slice (some ⟨g, 0, none⟩) S.length cap) ∧ wr.cell? ⟨g, n * 1268 + 1215 + i, none⟩ = some (.int .i64 ((sget S n).nx i)) ∧ wr.frozen? ⟨g, n * 1268 + 1215 + i, none⟩ = false := by
 obtain ⟨ao, cap, hv, hao⟩ := h.tab.form
 obtain ⟨g, rfl, _⟩ := hao (by omega)
 subst hv
 refine ⟨g, cap, rfl, h.tab.v, ?_, h.tab.row.free _⟩
 have := h.tab.row.cs n hn (1215 + i) (by omega)
 dsimp only at this
 rw [← Nat.add_assoc] at this
 rw [this, Nat.add_assoc, rwF_at _ _ _ (by omega)]
 unfold stF
 rw [if_neg (by omega), if_pos (by omega), Nat.add_sub_cancel_left]
end Go.Proofs.YtkglggkkbmmjkabGreatDoor
namespace Go.Proofs.YtkglggkkbmmjkabGreatDoor
open Go.RowKit
set_option maxRecDepth 100000 in
set_option maxHeartbeats 3000000 in
theorem p_findSteps (tb base n : Nat) (p : Pl) (v : Value) (S : List Sd) (cores fault : Nat) (w : World) (h : TbAt w tb base p v S cores fault) (hn : n < S.length) (hS : S.length ≤ 40) (hco : cores ≤ S.length) (hbs : base ≤ w.heap.size) :
 Calls Tryz.prog 134 #[.pointer (some ⟨tb, 0, none⟩), .int .i64 n] w fun e w' => e = .returned (.tuple #[]) ∧ Fr (tb :: v.ownBlock.toList) w w' ∧ ∃ v' S' c' f', zcm p n (sget S n).A S cores fault 52 S' c' f' ∧ TbAt w' tb base p v' S' c' f' ∧ c' ≤ S'.length ∧ S'.length ≤ 40 ∧ S.length ≤ S'.length ∧ (∀ g, v'.ownBlock = some g → v.ownBlock = some g ∨ w.heap.size ≤ g) := by
 obtain ⟨A, hA⟩ : ∃ A, (sget S n).A = A := ⟨_, rfl⟩
 rw [hA]
 obtain ⟨ao, cap, hv, hao⟩ := h.form
 obtain ⟨g, hg, hgo⟩ := hao (by omega)
 subst hg
 have H := hide h
 have HV := hide hv
 have HG := hide hgo
 have lb := h.blk.lt
 have c0 := h.v
 rw [hv] at c0
 have HI := hide (show CsAt w g (n * 1268) 1215 (zak A) from by
  have h' := h
  rw [hv] at h'
  have := h'.items n hn
  rw [hA] at this; exact this)
 have hhs : (decide (0 ≤ (n : Int)) && decide ((n : Int) < S.length)) = true := by simp; omega
 have hni : (n : Int) < S.length := by omega
 clear h hv hA hao hgo
 go_enter Tryz.func134, Tryz.ntmps134
 go_wp2_with (first
  | (have h5 := zaa H5; refine zac rfl 209 (.tmp 5) (.tmp 24) rfl w4.heap.size 0 52 52 _ (zak (nxB p A 45)) rfl rfl (by exact zaa HA5) Tryz.sizeLett (by omega) (fun _ _ => rfl) ?_; intro w6 hf6 hs6 hB6; have H6 := hide (show FsS w w6 tb base w.heap.size w4.heap.size p v v S cores fault A from ⟨(h5.1.trans1 hf6 (Or.inr (by omega))).weak (by simp), (zaa H).fr ((h5.1.trans1 hf6 (Or.inr (by omega)))) (by simp) (by simp), h5.2.fr1 hf6 (by omega), hB6.congr fun i hi => zag _ _ _ i hi, fun g hg => Or.inl hg, fun e => (by have := ((zaa H).row.lt e).2; omega), fun e => (by have := ((zaa H).row.lt e).2; omega), Nat.le_refl _, by omega, lb, hco, hS⟩); clear hf6 hB6 HA5 h5)
  | (go_at_call 73; refine (p_hasState tb base p v S cores fault n _ (by exact zaa H)).mono ?_; rintro e w' ⟨rfl, hw'⟩; rw [hw', hhs])
  | (refine zbn rfl 144 (.tmp 19) rfl (some 20) rfl g (n * 1268) 1215 (zak A) _ rfl (by exact zaa HI) Tryz.underlying144 rfl Tryz.sizeItems ?_)
  | (refine zab rfl 144 rfl (some 4) rfl 1215 _ Tryz.zeroItems ?_; intro w1 hf1 hs1 hB1; have HF1 := hide hf1; have HA1 := hide hB1; clear hf1 hB1)
  | (refine zac rfl 144 (.tmp 4) (.tmp 20) rfl w.heap.size 0 1215 1215 _ (zak A) rfl rfl (by exact zaa HA1) Tryz.sizeItems (by omega) (fun _ _ => rfl) ?_; intro w2 hf2 hs2 hB2; have HF2 := hide ((zaa HF1).trans1 hf2 (Or.inr (Nat.le_refl _))); have HA2 := hide (show Blk w2 w.heap.size 1215 (zak A) from hB2.congr fun i hi => zag _ _ _ i hi); clear hf2 hB2 HA1)
  | (go_at_call 142; refine (p_nextLetters tb w.heap.size p A _ (((zaa H).fr0 (zaa HF2)).plan) (by exact zaa HA2) (Nat.lt_of_lt_of_le lb (zaa HF2).size)).mono ?_; rintro e w4 ⟨rfl, hf4⟩; have HF4 := hide ((zaa HF2).trans0 hf4); have HA4 := hide ((zaa HA2).fr0 hf4); have ls4 : w.heap.size < w4.heap.size := ((zaa HA4).lt); clear hf4 HF1)
  | (refine zab rfl 209 rfl (some 5) rfl 52 _ Tryz.zeroLett ?_; intro w5 hf5 hs5 hB5; have H5 := hide (And.intro ((zaa HF4).trans0 hf5) ((zaa HA4).fr0 hf5)); have HA5 := hide hB5; clear hf5 hB5))
 obtain ⟨f5, hf5e⟩ : ∃ f5, w4.heap.size = f5 := ⟨_, rfl⟩
 rw [hf5e] at H6 ls4
 rw [hf5e]
 clear HF2 HF4 HA2 HA4 H5 hhs c0 HI
 go_loopw [6] (fun iv wr => ∃ i : Nat, i ≤ 52 ∧ iv = .int .i64 i ∧ ∃ v1 S1 c1 f1, Hid (FsS w wr tb base w.heap.size f5 p v v1 S1 c1 f1 A ∧ zcm p n A S cores fault i S1 c1 f1 ∧ S.length ≤ S1.length)) (fun iv _ => 52 - (intOf iv).toNat)
 case atStart => exact ⟨0, by omega, rfl, v, S, cores, fault, hide ⟨zaa H6, zcm.zero, Nat.le_refl _⟩⟩
 case round =>
  obtain ⟨i, hi, rfl, v1, S1, c1, f1, hs⟩ := hrel
  clear H6
  by_cases hlt : i < 52
  ·have hnS : n < S1.length := Nat.lt_of_lt_of_le hn (zaa hs).2.2
   have hnSi : (n : Int) < S1.length := by omega
   have d0 : wr.cell? ⟨f5, i, none⟩ = some (.bool (nxB p A 45 i)) := (zaa hs).1.b5.cell i hlt
   obtain ⟨g1, cap1, hv1, q1, q2, q3⟩ := (zaa hs).1.slot n i hnS hlt
   subst hv1
   cases hx : nxB p A 45 i
   ·rw [hx] at d0
    have HN := hide (show FsS w (wr.setCell ⟨g1, n * 1268 + 1215 + i, none⟩ (.int .i64 (-1))) tb base w.heap.size f5 p v (.slice (some ⟨g1, 0, none⟩) (setTo S1 n i (-1)).length cap1) (setTo S1 n i (-1)) c1 f1 A ∧ zcm p n A S cores fault (i + 1) (setTo S1 n i (-1)) c1 f1 ∧ S.length ≤ (setTo S1 n i (-1)).length from ⟨(zaa hs).1.put n i hnS hlt (-1), (zaa hs).2.1.skip hx, by rw [zba]; exact (zaa hs).2.2⟩)
    clear hs
    go_wp2
    go_roundw
    case rel => exact ⟨i + 1, by omega, by go_num, _, _, _, _, HN⟩
    case measure => simp [intOf]; omega
   ·rw [hx] at d0
    clear q1 q2 q3
    go_wp2
    refine wp_region_held_drew (S := fun _ => True) (by kernel_rfl) trivial (fun hHeld => ?_)
    refine zae (i := 0) (v := .pointer (some ⟨tb, 0, none⟩)) rfl rfl (by kernel_rfl) (by kernel_rfl) (by kernel_rfl) (fun _ _ _ h => h) (Or.inl ⟨by rfl, fun _ _ => rfl⟩) hHeld ?_
    simp only [Act.put, List.setIfInBounds_toArray, List.set_cons_zero, List.set_cons_succ]
    refine zae (i := 1) (v := .pointer (some ⟨tb, 0, none⟩)) rfl rfl (by kernel_rfl) (by kernel_rfl) (by kernel_rfl) (fun _ _ _ h => h) (Or.inl ⟨by rfl, fun _ _ => rfl⟩) hHeld ?_
    simp only [Act.put, List.setIfInBounds_toArray, List.set_cons_zero, List.set_cons_succ]
    refine zae (i := 2) (v := .pointer (some ⟨tb, 0, none⟩)) rfl rfl (by kernel_rfl) (by kernel_rfl) (by kernel_rfl) (fun _ _ _ h => h) (Or.inl ⟨by rfl, fun _ _ => by go_simp⟩) hHeld ?_
    simp only [Act.put, List.setIfInBounds_toArray, List.set_cons_zero, List.set_cons_succ]
    refine zae (i := 3) (v := .int .i64 i) rfl rfl (by kernel_rfl) (by kernel_rfl) (by kernel_rfl) (fun _ _ _ h => h) (Or.inl ⟨by rfl, fun _ _ => rfl⟩) hHeld ?_
    simp only [Act.put, List.setIfInBounds_toArray, List.set_cons_zero, List.set_cons_succ]
    have HS0 := hide ((zaa hs).1.fr0 (Fr.refl [] wr).drew)
    have l4 := (zaa hs).1.b4.lt
    have l5 := (zaa hs).1.b5.lt
    have ls := (zaa hs).1.fr.size
    have lg : g1 < wr.heap.size := ((zaa hs).1.tab.row.lt rfl).2
    refine wpAnyH_ready (rs := [4, 6]) (by kernel_rfl) (by simp) ?_
    refine AllReadyH.cons rfl (fun K hK => ?a4) (AllReadyH.cons rfl (fun K hK => ?a6) AllReadyH.nil)
    case' a6 =>
     rw [if_pos (by rfl)]
     refine zbv 144 rfl (some 8) rfl 1215 _ Tryz.zeroItems ?_
     intro wa hfa hsa hBa
     refine hK.out _ _ trivial (fun hHeld => ?_)
     simp only [Act.put, List.setIfInBounds_toArray, List.set_cons_zero, List.set_cons_succ]
     have HSa := hide ((zaa HS0).fr0 hfa)
     refine wpAnyH_ready (rs := [4]) (by kernel_rfl) (by simp) ?_
     refine AllReadyH.cons rfl (fun K2 hK2 => ?_) AllReadyH.nil
     rw [if_pos (by rfl)]
     go_wp2_with fail
     refine (p_letterAt i _ hlt).mono ?_
     rintro e wb ⟨rfl, hwb⟩
     rw [hwb]
     refine hK2.out _ _ trivial (fun hHeld => ?_)
     clear hwb
     refine wpAnyH_ready (rs := [5]) (by kernel_rfl) (by simp) ?_
     refine AllReadyH.cons rfl (fun K3 hK3 => ?_) AllReadyH.nil
     rw [if_pos (by rfl)]
     go_wp2_with fail
     refine (p_move tb w.heap.size (ltr i) p A wa (by exact (zaa HSa).tab.plan) (by exact (zaa HSa).b4) (by exact (zaa HSa).tab.blk.lt)).mono ?_
     rintro e wc ⟨hfc, B, rfl, hFB⟩
     have HFB := hide hFB
     refine hK3.out _ _ trivial (fun hHeld => ?_)
     have HZ := hide (show FsS w wc tb base w.heap.size f5 p v (.slice (some ⟨g1, 0, none⟩) S1.length cap1) S1 c1 f1 A ∧ Blk wc wr.heap.size 1215 (zak fun _ => false) ∧ wr.heap.size ≤ wr.heap.size from ⟨(zaa HSa).fr0 hfc, hBa.fr0 hfc, Nat.le_refl _⟩)
     clear hfa hsa hBa hfc HSa hK hK2 hK3 hFB
    case' a4 =>
     rw [if_pos (by rfl)]
     go_wp2_with fail
     refine (p_letterAt i _ hlt).mono ?_
     rintro e wb ⟨rfl, hwb⟩
     rw [hwb]
     refine hK.out _ _ trivial (fun hHeld => ?_)
     clear hwb
     refine wpAnyH_ready (rs := [5, 6]) (by kernel_rfl) (by simp) ?_
     refine AllReadyH.cons rfl (fun K2 hK2 => ?c5) (AllReadyH.cons rfl (fun K2 hK2 => ?c6) AllReadyH.nil)
    case' c5 =>
     rw [if_pos (by rfl)]
     go_wp2_with fail
     refine (p_move tb w.heap.size (ltr i) p A wr.drew (by exact (zaa HS0).tab.plan) (by exact (zaa HS0).b4) (by exact (zaa HS0).tab.blk.lt)).mono ?_
     rintro e wc ⟨hfc, B, rfl, hFB⟩
     have HFB := hide hFB
     refine hK2.out _ _ trivial (fun hHeld => ?_)
     refine wpAnyH_ready (rs := [6]) (by kernel_rfl) (by simp) ?_
     refine AllReadyH.cons rfl (fun K3 hK3 => ?_) AllReadyH.nil
     rw [if_pos (by rfl)]
     refine zbv 144 rfl (some 8) rfl 1215 _ Tryz.zeroItems ?_
     intro wa hfa hsa hBa
     refine hK3.out _ _ trivial (fun hHeld => ?_)
     simp only [Act.put, List.setIfInBounds_toArray, List.set_cons_zero, List.set_cons_succ]
     have HZ := hide (show FsS w wa tb base w.heap.size f5 p v (.slice (some ⟨g1, 0, none⟩) S1.length cap1) S1 c1 f1 A ∧ Blk wa wc.heap.size 1215 (zak fun _ => false) ∧ wr.heap.size ≤ wc.heap.size from ⟨((zaa HS0).fr0 hfc).fr0 hfa, hBa, hfc.size⟩)
     clear hfa hsa hBa hfc hK hK2 hK3 hFB
    case' c6 =>
     rw [if_pos (by rfl)]
     refine zbv 144 rfl (some 8) rfl 1215 _ Tryz.zeroItems ?_
     intro wa hfa hsa hBa
     refine hK2.out _ _ trivial (fun hHeld => ?_)
     simp only [Act.put, List.setIfInBounds_toArray, List.set_cons_zero, List.set_cons_succ]
     have HSa := hide ((zaa HS0).fr0 hfa)
     refine wpAnyH_ready (rs := [5]) (by kernel_rfl) (by simp) ?_
     refine AllReadyH.cons rfl (fun K3 hK3 => ?_) AllReadyH.nil
     rw [if_pos (by rfl)]
     go_wp2_with fail
     refine (p_move tb w.heap.size (ltr i) p A wa (by exact (zaa HSa).tab.plan) (by exact (zaa HSa).b4) (by exact (zaa HSa).tab.blk.lt)).mono ?_
     rintro e wc ⟨hfc, B, rfl, hFB⟩
     have HFB := hide hFB
     refine hK3.out _ _ trivial (fun hHeld => ?_)
     have HZ := hide (show FsS w wc tb base w.heap.size f5 p v (.slice (some ⟨g1, 0, none⟩) S1.length cap1) S1 c1 f1 A ∧ Blk wc wr.heap.size 1215 (zak fun _ => false) ∧ wr.heap.size ≤ wr.heap.size from ⟨(zaa HSa).fr0 hfc, hBa.fr0 hfc, Nat.le_refl _⟩)
     clear hfa hsa hBa hfc HSa hK hK2 hK3 hFB
    all_goals
     refine za6 (i := 7) (by kernel_rfl) rfl rfl rfl 144 (.tmp 8) (.tmp 38) rfl _ 0 1215 1215 (zak fun _ => false) (zak B) (by rfl) (by rfl) (zaa HZ).2.1 Tryz.sizeItems (by omega) (by intro i hi; rfl) (by kernel_rfl) ?_
     intro w9 hf9 hs9 hB9
     have hz := (zaa HZ).2.2
     have H9 := hide (And.intro ((zaa HZ).1.far hf9 (by omega) (by omega) (by omega) (fun e => by have e2 : g1 = _ := Option.some.inj e; omega)) (hB9.congr (g := zak B) fun i hi => zag _ _ _ i hi))
     refine ⟨trivial, ?_⟩
     have hle := (zaa hs).1.le
     have hcc : c1 ≤ 40 := Nat.le_trans (zaa hs).1.co hle
     have hb9 : base ≤ w9.heap.size := Nat.le_trans hbs (zaa H9).1.fr.size
     have HX := hide hx
     clear hf9 hB9 hs9 HZ HS0 hx
     rcases hnum : numP S1 B with _ | j
     ·have HNum := hide hnum
      clear hnum
      by_cases h40 : 40 ≤ S1.length
      ·have HST := hide ((zaa hs).2.1.many (zaa HX) (zaa HFB) (zaa HNum) h40)
       go_wp2_with (go_at_call 133; refine (p_numberOf tb base _ p _ S1 c1 f1 B w9 (by exact (zaa H9).1.tab) (by exact (zaa H9).2) hle hcc hb9).mono ?_; rintro e w10 hN; obtain ⟨rfl, hf10, ht10⟩ := hN.2.1 (zaa HNum) h40; have H10 := hide ((zaa H9).1.many hf10 ht10); obtain ⟨g2, cap2, hv2, q1, q2, q3⟩ := (zaa H10).slot n i hnS hlt; cases hv2; have HN := hide (show FsS w (w10.setCell ⟨g1, n * 1268 + 1215 + i, none⟩ (.int .i64 (-1))) tb base w.heap.size f5 p v (.slice (some ⟨g1, 0, none⟩) (setTo S1 n i (-1)).length cap1) (setTo S1 n i (-1)) c1 6 A ∧ zcm p n A S cores fault (i + 1) (setTo S1 n i (-1)) c1 6 ∧ S.length ≤ (setTo S1 n i (-1)).length from ⟨(zaa H10).put n i hnS hlt (-1), zaa HST, by (rw [zba]; exact (zaa hs).2.2)⟩); clear hN hf10 ht10)
       go_roundw
       case rel => exact ⟨i + 1, by omega, by go_num, _, _, _, _, HN⟩
       case measure => simp [intOf]; omega
      ·have h40' : S1.length < 40 := by omega
       have HST := hide ((zaa hs).2.1.new (zaa HX) (zaa HFB) (zaa HNum) h40')
       have HL2 := hide (show S.length ≤ (S1 ++ [sdN S1 B c1]).length from by rw [List.length_append]; have := (zaa hs).2.2; omega)
       have hn2 : n < (S1 ++ [sdN S1 B c1]).length := by rw [List.length_append]; omega
       obtain ⟨S2, hS2⟩ : ∃ S2, S1 ++ [sdN S1 B c1] = S2 := ⟨_, rfl⟩
       rw [hS2] at HST HL2 hn2
       have HS2 := hide hS2
       clear hS2
       have hn2i : (n : Int) < S2.length := by omega
       go_wp2_with (go_at_call 133; refine (p_numberOf tb base _ p _ S1 c1 f1 B w9 (by exact (zaa H9).1.tab) (by exact (zaa H9).2) hle hcc hb9).mono ?_; rintro e w10 hN; obtain ⟨rfl, hf10, v2, ht10, hg10⟩ := hN.2.2 (zaa HNum) h40'; have H10 := hide ((zaa H9).1.new hf10 ht10 hg10 h40'); rw [zaa HS2] at H10; obtain ⟨g2, cap2, hv2, q1, q2, q3⟩ := (zaa H10).slot n i hn2 hlt; subst hv2; have HN := hide (show FsS w (w10.setCell ⟨g2, n * 1268 + 1215 + i, none⟩ (.int .i64 S1.length)) tb base w.heap.size f5 p v (.slice (some ⟨g2, 0, none⟩) (setTo S2 n i S1.length).length cap2) (setTo S2 n i S1.length) (corN S1 B c1) f1 A ∧ zcm p n A S cores fault (i + 1) (setTo S2 n i S1.length) (corN S1 B c1) f1 ∧ S.length ≤ (setTo S2 n i S1.length).length from ⟨(zaa H10).put n i hn2 hlt S1.length, zaa HST, by (rw [zba]; exact zaa HL2)⟩); clear hN hf10 ht10 hg10)
       go_roundw
       case rel => exact ⟨i + 1, by omega, by go_num, _, _, _, _, HN⟩
       case measure => simp [intOf]; omega
     ·have HNum := hide hnum
      clear hnum
      have HST := hide ((zaa hs).2.1.old (zaa HX) (zaa HFB) (zaa HNum))
      go_wp2_with (go_at_call 133; refine (p_numberOf tb base _ p _ S1 c1 f1 B w9 (by exact (zaa H9).1.tab) (by exact (zaa H9).2) hle hcc hb9).mono ?_; rintro e w10 hN; obtain ⟨rfl, hf10⟩ := hN.1 j (zaa HNum); have H10 := hide ((zaa H9).1.fr0 hf10); obtain ⟨g2, cap2, hv2, q1, q2, q3⟩ := (zaa H10).slot n i hnS hlt; cases hv2; have HN := hide (show FsS w (w10.setCell ⟨g1, n * 1268 + 1215 + i, none⟩ (.int .i64 j)) tb base w.heap.size f5 p v (.slice (some ⟨g1, 0, none⟩) (setTo S1 n i j).length cap1) (setTo S1 n i j) c1 f1 A ∧ zcm p n A S cores fault (i + 1) (setTo S1 n i j) c1 f1 ∧ S.length ≤ (setTo S1 n i j).length from ⟨(zaa H10).put n i hnS hlt j, zaa HST, by (rw [zba]; exact (zaa hs).2.2)⟩); clear hN hf10)
      go_roundw
      case rel => exact ⟨i + 1, by omega, by go_num, _, _, _, _, HN⟩
      case measure => simp [intOf]; omega
  ·have HN := hide (show zcm p n A S cores fault 52 S1 c1 f1 from by
    have e : i = 52 := by omega
    have h := (zaa hs).2.1
    rw [e] at h; exact h)
   go_wp2
   go_end0
   exact ⟨rfl, (zaa hs).1.fr, v1, S1, c1, f1, zaa HN, (zaa hs).1.tab, (zaa hs).1.co, (zaa hs).1.le, (zaa hs).2.2, (zaa hs).1.own⟩
end Go.Proofs.YtkglggkkbmmjkabGreatDoor
namespace Go.Proofs.YtkglggkkbmmjkabGreatDoor
open Go.RowKit
inductive StatesR (p : Pl) : Nat → List Sd → Nat → Nat → Prop
 | start {B : Nat → Bool} : FuI p fstI B → StatesR p 0 [sdN [] B 0] (corN [] B 0) 0
 | step {n : Nat} {S S' : List Sd} {c c' f' : Nat} : StatesR p n S c 0 → n < S.length → zcm p n (sget S n).A S c 0 52 S' c' f' → StatesR p (n + 1) S' c' f'
structure FtS (w wr : World) (tb base : Nat) (p : Pl) (v : Value) (S : List Sd) (c f : Nat) : Prop where
 fr : Fr [tb] w wr
 tab : TbAt wr tb base p v S c f
 own : ∀ g, v.ownBlock = some g → w.heap.size ≤ g
 co : c ≤ S.length
 le : S.length ≤ 40
theorem FtS.next {w wr w' : World} {tb base : Nat} {p : Pl} {v v' : Value} {S S' : List Sd} {c f c' f' : Nat} (h : FtS w wr tb base p v S c f) (k : Fr (tb :: v.ownBlock.toList) wr w') (ht : TbAt w' tb base p v' S' c' f') (hg : ∀ g, v'.ownBlock = some g → v.ownBlock = some g ∨ wr.heap.size ≤ g) (hc : c' ≤ S'.length) (hl : S'.length ≤ 40) : FtS w w' tb base p v' S' c' f' := by
 refine ⟨h.fr.trans k (fun x hx => ?_), ht, fun g hg' => ?_, hc, hl⟩
 ·rcases List.mem_cons.1 hx with e | e
  ·exact Or.inl (by rw [e]; simp)
  ·exact Or.inr (h.own x (by simpa using e))
 ·rcases hg g hg' with e | e
  ·exact h.own g e
  ·exact Nat.le_trans h.fr.size e
set_option maxRecDepth 100000 in
set_option maxHeartbeats 2000000 in
theorem p_findStates (tb : Nat) (p : Pl) (w : World) (h : Blk w tb 1362 (tbF p (.slice none 0 0) 0 0)) :
 Calls Tryz.prog 114 #[.pointer (some ⟨tb, 0, none⟩)] w fun e w' => e = .returned (.tuple #[]) ∧ Fr [tb] w w' ∧ ∃ n v S c f, StatesR p n S c f ∧ TbAt w' tb w.heap.size p v S c f ∧ (f = 0 → n = S.length) ∧ S.length ≤ 40 ∧ c ≤ S.length := by
 have lb := h.lt
 have H := hide (show TbAt w tb w.heap.size p (.slice none 0 0) [] 0 0 from ⟨h, GRow.nil _ _ _ _ _, lb⟩)
 clear h
 go_enter Tryz.func114, Tryz.ntmps114
 go_wp2_with (first
  | (have h3 := zaa H3; go_at_call 133; refine (p_numberOf tb w.heap.size w1.heap.size p _ [] 0 0 B w3 (by exact h3.1) (by exact h3.2.1) (by show 0 ≤ 40; omega) (by omega) h3.2.2.size).mono ?_; rintro e w4 hN; obtain ⟨rfl, hf4, v4, ht4, hg4⟩ := hN.2.2 rfl (by show 0 < 40; omega); have H4 := hide (show FtS w w4 tb w.heap.size p v4 [sdN [] B 0] (corN [] B 0) 0 from ⟨(Fr.weak h3.2.2 (by simp)).trans hf4 (by simp [Value.ownBlock]), ht4, fun g hg => (by rcases hg4 g hg with e | e; cases e; exact Nat.le_trans h3.2.2.size e), corN_le [] B 0 (Nat.le_refl _), by show 1 ≤ 40; omega⟩); clear hN hf4 ht4 hg4 h3)
  | (go_at_call 132; refine (p_firstItems tb p w (zaa H).plan lb).mono ?_; rintro e w1 ⟨hf1, B, rfl, hFB⟩; have HF1 := hide hf1; have HFB := hide hFB; clear hf1 hFB)
  | (refine zab rfl 144 rfl (some 2) rfl 1215 _ Tryz.zeroItems ?_; intro w2 hf2 hs2 hB2; have HF2 := hide ((zaa HF1).trans0 hf2); have HA2 := hide hB2; clear hf2 hB2)
  | (refine zac rfl 144 (.tmp 2) (.tmp 7) rfl w1.heap.size 0 1215 1215 _ (zak B) rfl rfl (by exact zaa HA2) Tryz.sizeItems (by omega) (fun _ _ => rfl) ?_; intro w3 hf3 hs3 hB3; have H3 := hide (show TbAt w3 tb w.heap.size p (.slice none 0 0) [] 0 0 ∧ Blk w3 w1.heap.size 1215 (zak B) ∧ Fr [] w w3 from ⟨(zaa H).fr0 ((zaa HF2).trans1 hf3 (Or.inr (zaa HF1).size)), hB3.congr (fun i hi => zag _ _ _ i hi), (zaa HF2).trans1 hf3 (Or.inr (zaa HF1).size)⟩); clear hf3 hB3 HA2))
 clear HF1 HF2 H3
 go_loopw [3] (fun iv wr => ∃ n : Nat, n ≤ 40 ∧ iv = .int .i64 n ∧ ∃ v S c, Hid (FtS w wr tb w.heap.size p v S c 0 ∧ StatesR p n S c 0 ∧ n ≤ S.length)) (fun iv _ => 41 - (intOf iv).toNat)
 case atStart => exact ⟨0, by omega, rfl, _, _, _, hide ⟨zaa H4, StatesR.start (zaa HFB), Nat.zero_le _⟩⟩
 case round =>
  obtain ⟨n, hn, rfl, v, S, c, hs⟩ := hrel
  clear H4
  obtain ⟨ao, cap, hv, _⟩ := (zaa hs).1.tab.form
  have q0 := (zaa hs).1.tab.v
  rw [hv] at q0
  have hle := (zaa hs).1.le
  by_cases hlt : n < S.length
  ·have hni : (n : Int) < S.length := by omega
   have hbr : w.heap.size ≤ wr.heap.size := (zaa hs).1.fr.size
   clear hv
   go_wp2_with (go_at_call 134; refine (p_findSteps tb w.heap.size n p v S c 0 wr (by exact (zaa hs).1.tab) hlt hle (zaa hs).1.co hbr).mono ?_; rintro e w5 ⟨rfl, hf5, v', S', c', f', hR, ht, hc', hl', hSS, hg⟩; have H5 := hide ((zaa hs).1.next hf5 ht hg hc' hl'); have HR5 := hide ((zaa hs).2.1.step hlt hR); have q5 := (zaa H5).tab.fault; have hn5 : n + 1 ≤ S'.length := (Nat.le_trans hlt hSS); clear hf5 hR ht hc' hl' hSS hg)
   ·rename_i hff
    have hf0 : ¬ f' = 0 := fun e => by rw [e] at hff; cases hff
    exact bodyPost_ret (v := .tuple #[]) (results_none Tryz.results114 _ _ _) rfl ⟨rfl, (zaa H5).fr, n + 1, v', S', c', f', zaa HR5, (zaa H5).tab, fun e => absurd e hf0, (zaa H5).le, (zaa H5).co⟩
   ·rename_i hff
    have hf0 : f' = 0 := by
     have : (f' : Int) = 0 := by simpa using hff
     omega
    subst hf0
    go_roundw
    case rel => exact ⟨n + 1, by have := (zaa H5).le; omega, by go_num, v', S', c', hide ⟨zaa H5, zaa HR5, hn5⟩⟩
    case measure => simp [intOf]; omega
  ·have HN := hide (show n = S.length from by have := (zaa hs).2.2; omega)
   go_wp2
   go_end0
   exact ⟨rfl, (zaa hs).1.fr, n, v, S, c, 0, (zaa hs).2.1, (zaa hs).1.tab, fun _ => zaa HN, hle, (zaa hs).1.co⟩
end Go.Proofs.YtkglggkkbmmjkabGreatDoor
