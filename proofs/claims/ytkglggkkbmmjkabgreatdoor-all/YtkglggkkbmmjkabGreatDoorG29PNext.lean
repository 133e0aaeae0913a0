import Derived.Test.YtkglggkkbmmjkabGreatDoorG28PCore
import Derived.Test.YtkglggkkbmmjkabGreatDoorG14IMath
import Derived.Test.YtkglggkkbmmjkabGreatDoorG26PLett
namespace Go.Proofs.YtkglggkkbmmjkabGreatDoor
open Go.RowKit
def numP (S : List Sd) (B : Nat → Bool) : Option Nat := S.findIdx? fun s => allB 1215 s.A B
theorem numP_some {S : List Sd} {B : Nat → Bool} {i : Nat} (hi : i < S.length) (h : allB 1215 (sget S i).A B = true) (hb : ∀ j, j < i → allB 1215 (sget S j).A B = false) : numP S B = some i := by
 unfold numP
 rw [sget_eq S i hi] at h
 rw [List.findIdx?_eq_some_iff_getElem]
 exact ⟨hi, h, fun j hj => by have := hb j hj; rw [sget_eq S j (by omega)] at this; simp [this]⟩
theorem numP_none {S : List Sd} {B : Nat → Bool} (hb : ∀ j, j < S.length → allB 1215 (sget S j).A B = false) : numP S B = none := by
 unfold numP
 rw [List.findIdx?_eq_none_iff]
 intro s hs
 obtain ⟨j, hj, rfl⟩ := List.getElem_of_mem hs
 have := hb j hj
 rw [sget_eq S j hj] at this
 exact this
def sdN (S : List Sd) (B : Nat → Bool) (cores : Nat) : Sd := ⟨B, fun _ => 0, corM S B cores⟩
def corN (S : List Sd) (B : Nat → Bool) (cores : Nat) : Nat := if corM S B cores = cores then cores + 1 else cores
def NumPO (w : World) (tb base : Nat) (p : Pl) (v : Value) (S : List Sd) (cores fault : Nat) (B : Nat → Bool) (e : Ending) (w' : World) : Prop :=
 (∀ i, numP S B = some i → e = .returned (.int .i64 i) ∧ Fr [] w w') ∧
 (numP S B = none → 40 ≤ S.length → e = .returned (.int .i64 (-1)) ∧ Fr [tb] w w' ∧ TbAt w' tb base p v S cores 6) ∧
 (numP S B = none → S.length < 40 → e = .returned (.int .i64 S.length) ∧ Fr (tb :: v.ownBlock.toList) w w' ∧ ∃ v', TbAt w' tb base p v' (S ++ [sdN S B cores]) (corN S B cores) fault ∧ (∀ g, v'.ownBlock = some g → v.ownBlock = some g ∨ w.heap.size ≤ g))
theorem Tryz.bytesState : (Tryz.prog.info? 147).map (·.bytes) = some 1640 := by kernel_rfl
set_option maxRecDepth 100000 in
theorem Tryz.partsState : ∃ i, Tryz.prog.info? 147 = some i ∧ i.zero = some (Agg 1268 (stF sd0)) ∧ i.size = 1268 ∧ i.bytes = 1640 := by
 have h1 := Tryz.zeroState
 have h2 := Tryz.sizeState
 have h3 := Tryz.bytesState
 cases hq : Tryz.prog.info? 147 with
 | none => rw [hq] at h2; cases h2
 | some i =>
  rw [hq] at h1 h2 h3
  exact ⟨i, rfl, h1, Option.some.inj h2, Option.some.inj h3⟩
theorem aux1 {n j : Nat} (h : j < n * 1268) : j < (n + 1) * 1268 ∧ j / 1268 < n := by omega
theorem aux2 {n j : Nat} (h : ¬ j < n * 1268) (h2 : j < (n + 1) * 1268) : j - n * 1268 < 1 * 1268 ∧ j / 1268 = n ∧ j % 1268 = j - n * 1268 := by omega
theorem aux3 {n j : Nat} (h2 : ¬ j < (n + 1) * 1268) : 1 * 1268 ≤ j - n * 1268 ∧ (n + 1) * 1268 ≤ j := by omega
theorem rwC_snoc (S : List Sd) (s : Sd) : rwC S.length 1268 (rwF S) ++ rwC 1 1268 (stF s) = rwC (S.length + [s].length) 1268 (rwF (S ++ [s])) := by
 apply List.ext_getElem?
 intro j
 rw [show [s].length = 1 from rfl]
 by_cases h : j < S.length * 1268
 ·rw [List.getElem?_append_left (by rw [rwC_len]; exact h), rwC_get S.length 1268 (rwF S) j h, rwC_get (S.length + 1) 1268 (rwF (S ++ [s])) j (aux1 h).1]
  unfold rwF sget
  rw [List.getD_eq_getElem?_getD, List.getD_eq_getElem?_getD, List.getElem?_append_left (aux1 h).2]
 ·rw [List.getElem?_append_right (by rw [rwC_len]; exact Nat.le_of_not_lt h), rwC_len]
  by_cases h2 : j < (S.length + 1) * 1268
  ·obtain ⟨h5, h6, h7⟩ := aux2 h h2
   rw [rwC_get 1 1268 (stF s) _ h5, rwC_get (S.length + 1) 1268 (rwF (S ++ [s])) j h2]
   unfold rwF sget
   rw [List.getD_eq_getElem?_getD, h6, h7, List.getElem?_append_right (Nat.le_refl _)]
   simp
  ·rw [List.getElem?_eq_none (by rw [rwC_len]; exact (aux3 h2).1), List.getElem?_eq_none (by rw [rwC_len]; exact (aux3 h2).2)]
theorem tbF_fault (p : Pl) (v : Value) (cores fault k : Nat) (i : Nat) (hi : i < 1362) : upd (tbF p v cores fault) 1361 (.int .i64 (k : Nat)) i = tbF p v cores k i := by
 unfold upd tbF
 by_cases h : i = 1361
 ·subst h; rfl
 ·rw [if_neg h]
  by_cases h1 : i < 1359
  ·rw [if_pos h1, if_pos h1]
  ·rw [if_neg h1, if_neg h1]
   by_cases h2 : i = 1359
   ·rw [if_pos h2, if_pos h2]
   ·rw [if_neg h2, if_neg h2, if_pos (by omega), if_pos (by omega)]
theorem stN_cells (S : List Sd) (B : Nat → Bool) (cores : Nat) (i : Nat) (hi : i < 1268) : upd (lay (stF sd0) 0 1215 (zak B)) 1267 (.int .i64 (corM S B cores : Nat)) i = stF (sdN S B cores) i := by
 unfold upd lay stF sdN sd0
 by_cases h : i = 1267
 ·subst h; rfl
 ·rw [if_neg h]
  by_cases h1 : i < 1215
  ·rw [if_pos (by omega), if_pos h1]; rfl
  ·rw [if_neg (by omega), if_neg h1, if_neg h1, if_pos (by omega), if_pos (by omega)]
def NwS (w wr : World) (tb base fb : Nat) (p : Pl) (v : Value) (S : List Sd) (cores fault : Nat) (s : Sd) : Prop := Fr [] w wr ∧ TbAt wr tb base p v S cores fault ∧ Blk wr fb 1268 (stF s) ∧ w.heap.size ≤ fb ∧ v.ownBlock ≠ some fb
theorem NwS.fr0 {w wr w' : World} {tb base fb : Nat} {p : Pl} {v : Value} {S : List Sd} {cores fault : Nat} {s : Sd} (h : NwS w wr tb base fb p v S cores fault s) (k : Fr [] wr w') : NwS w w' tb base fb p v S cores fault s :=
 ⟨h.1.trans0 k, h.2.1.fr0 k, h.2.2.1.fr0 k, h.2.2.2⟩
def NwT (w wr : World) (tb base fb : Nat) (p : Pl) (v : Value) (S : List Sd) (cores fault : Nat) (s : Sd) : Prop := Fr [tb] w wr ∧ TbAt wr tb base p v S cores fault ∧ Blk wr fb 1268 (stF s) ∧ w.heap.size ≤ fb ∧ v.ownBlock ≠ some fb
theorem NwT.fr0 {w wr w' : World} {tb base fb : Nat} {p : Pl} {v : Value} {S : List Sd} {cores fault : Nat} {s : Sd} (h : NwT w wr tb base fb p v S cores fault s) (k : Fr [] wr w') : NwT w w' tb base fb p v S cores fault s :=
 ⟨h.1.trans0 k, h.2.1.fr0 k, h.2.2.1.fr0 k, h.2.2.2⟩
theorem tbF_cores (p : Pl) (v : Value) (cores fault : Nat) (i : Nat) : upd (tbF p v cores fault) 1360 (.int .i64 ((cores : Int) + 1)) i = tbF p v (cores + 1) fault i := by
 unfold upd tbF
 by_cases h : i = 1360
 ·subst h
  rw [if_pos rfl, if_neg (by omega), if_neg (by omega), if_pos rfl]; rfl
 ·rw [if_neg h]
  by_cases h1 : i < 1359
  ·rw [if_pos h1, if_pos h1]
  ·rw [if_neg h1, if_neg h1]
   by_cases h2 : i = 1359
   ·rw [if_pos h2, if_pos h2]
   ·rw [if_neg h2, if_neg h2, if_neg h, if_neg h]
theorem tbF_v (p : Pl) (v v' : Value) (cores fault : Nat) (i : Nat) : upd (tbF p v cores fault) 1359 v' i = tbF p v' cores fault i := by
 unfold upd tbF
 by_cases h : i = 1359
 ·subst h
  rw [if_pos rfl, if_neg (by omega), if_pos rfl]
 ·rw [if_neg h]
  by_cases h1 : i < 1359
  ·rw [if_pos h1, if_pos h1]
  ·rw [if_neg h1, if_neg h1, if_neg h, if_neg h]
theorem NwS.up {w wr : World} {tb base fb : Nat} {p : Pl} {v : Value} {S : List Sd} {cores fault : Nat} {s : Sd} (h : NwS w wr tb base fb p v S cores fault s) (hf : fb ≠ tb) : NwT w (wr.setCell ⟨tb, 1360, none⟩ (.int .i64 ((cores : Int) + 1))) tb base fb p v S (cores + 1) fault s := by
 have k := (Fr.refl [tb] wr).setCell ⟨tb, 1360, none⟩ (by simp) (.int .i64 ((cores : Int) + 1))
 refine ⟨(h.1.weak (by simp)).trans k (by simp), ⟨(h.2.1.blk.setCell 1360 _).congr fun i _ => tbF_cores p v cores fault i, h.2.1.row.fr k (fun g hg => ?_), h.2.1.lt⟩, h.2.2.1.fr1 k hf, h.2.2.2⟩
 have := (h.2.1.row.lt hg).1
 have := h.2.1.lt
 simp; omega
set_option maxRecDepth 100000 in
set_option maxHeartbeats 2000000 in
theorem p_numberOf (tb base ib : Nat) (p : Pl) (v : Value) (S : List Sd) (cores fault : Nat) (B : Nat → Bool) (w : World) (h : TbAt w tb base p v S cores fault) (hB : Blk w ib 1215 (zak B)) (hS : S.length ≤ 40) (hco : cores ≤ 40) (hbs : base ≤ w.heap.size) :
 Calls Tryz.prog 133 #[.pointer (some ⟨tb, 0, none⟩), .pointer (some ⟨ib, 0, none⟩)] w fun e w' => NumPO w tb base p v S cores fault B e w' := by
 obtain ⟨ao, cap, hv, hao⟩ := h.form
 have H := hide h
 have HB := hide hB
 have lb := h.blk.lt
 have li := hB.lt
 have HV := hide hv
 clear h hB
 rw [hv] at *
 clear hv
 go_enter Tryz.func133, Tryz.ntmps133
 go_wp2
 go_loopw [5] (fun i wr => ∃ n : Nat, n ≤ S.length ∧ i = .int .i64 n ∧ Hid (∀ j, j < n → allB 1215 (sget S j).A B = false) ∧ Hid (Fr [] w wr)) (fun i _ => S.length - (intOf i).toNat)
 case atStart => exact ⟨0, by omega, rfl, fun j hj => by omega, Fr.refl _ _⟩
 case round =>
  obtain ⟨n, hn, rfl, hm, hs⟩ := hrel
  have HT := hide ((zaa H).fr0 (zaa hs))
  have c0 := (zaa HT).v
  by_cases hlt : n < S.length
  ·obtain ⟨g, hg, _⟩ := hao (by omega)
   subst hg
   have HI := hide ((zaa HT).items n hlt)
   have HBr := hide (show CsAt wr ib 0 1215 (zak B) from fun i hi => by rw [Nat.zero_add]; exact ((zaa HB).fr0 (zaa hs)).cell i hi)
   have hni : (n : Int) < S.length := by omega
   go_wp2
   refine wp_region_held_drew (S := fun w' => w'.cell? ⟨tb, 1359, none⟩ = some (.slice (some ⟨g, 0, none⟩) S.length cap) ∧ CsAt w' g (n * 1268) 1215 (zak (sget S n).A) ∧ CsAt w' ib 0 1215 (zak B)) (by kernel_rfl) ⟨c0, zaa HI, zaa HBr⟩ (fun hHeld => ?_)
   refine zae (i := 0) (v := .pointer (some ⟨tb, 0, none⟩)) rfl rfl (by kernel_rfl) (by kernel_rfl) (by kernel_rfl) (fun _ _ _ h => h) (Or.inl ⟨by rfl, fun _ _ => rfl⟩) hHeld ?_
   simp only [Act.put, List.setIfInBounds_toArray, List.set_cons_zero, List.set_cons_succ]
   refine zae (i := 1) (v := .pointer (some ⟨tb, 0, none⟩)) rfl rfl (by kernel_rfl) (by kernel_rfl) (by kernel_rfl) (fun _ _ _ h => h) (Or.inl ⟨by rfl, fun _ _ => rfl⟩) hHeld ?_
   simp only [Act.put, List.setIfInBounds_toArray, List.set_cons_zero, List.set_cons_succ]
   refine zae (i := 2) (v := .pointer (some ⟨tb, 1359, none⟩)) rfl rfl (by kernel_rfl) (by kernel_rfl) (by kernel_rfl) (fun _ _ _ h => h) (Or.inl ⟨by rfl, fun _ _ => by go_simp⟩) hHeld ?_
   simp only [Act.put, List.setIfInBounds_toArray, List.set_cons_zero, List.set_cons_succ]
   refine zae (i := 3) (v := .slice (some ⟨g, 0, none⟩) S.length cap) rfl rfl (by kernel_rfl) (by kernel_rfl) (by kernel_rfl) (fun _ _ _ h => h) (Or.inl ⟨by rfl, fun w' hw => by have hc := hw.1; go_simp⟩) hHeld ?_
   simp only [Act.put, List.setIfInBounds_toArray, List.set_cons_zero, List.set_cons_succ]
   refine zae (i := 4) (v := .int .i64 n) rfl rfl (by kernel_rfl) (by kernel_rfl) (by kernel_rfl) (fun _ _ _ h => h) (Or.inl ⟨by rfl, fun _ _ => rfl⟩) hHeld ?_
   simp only [Act.put, List.setIfInBounds_toArray, List.set_cons_zero, List.set_cons_succ]
   refine zae (i := 5) (v := .pointer (some ⟨g, n * 1268, none⟩)) rfl rfl (by kernel_rfl) (by kernel_rfl) (by kernel_rfl) (fun _ _ _ h => h) (Or.inl ⟨by rfl, fun _ _ => by go_simp⟩) hHeld ?_
   simp only [Act.put, List.setIfInBounds_toArray, List.set_cons_zero, List.set_cons_succ]
   refine zae (i := 6) (v := .pointer (some ⟨g, n * 1268, none⟩)) rfl rfl (by kernel_rfl) (by kernel_rfl) (by kernel_rfl) (fun _ _ _ h => h) (Or.inl ⟨by rfl, fun _ _ => by go_simp⟩) hHeld ?_
   simp only [Act.put, List.setIfInBounds_toArray, List.set_cons_zero, List.set_cons_succ]
   refine zae (i := 7) rfl rfl (by kernel_rfl) (by kernel_rfl) (by kernel_rfl) (fun _ _ _ h => h) (za1 (by rfl) 144 (.tmp 22) rfl g (n * 1268) 1215 (zak (sget S n).A) _ rfl (fun _ h => h.2.1) Tryz.underlying144 rfl Tryz.sizeItems) hHeld ?_
   simp only [Act.put, List.setIfInBounds_toArray, List.set_cons_zero, List.set_cons_succ]
   refine zae (i := 8) (v := .pointer (some ⟨ib, 0, none⟩)) rfl rfl (by kernel_rfl) (by kernel_rfl) (by kernel_rfl) (fun _ _ _ h => h) (Or.inl ⟨by rfl, fun _ _ => rfl⟩) hHeld ?_
   simp only [Act.put, List.setIfInBounds_toArray, List.set_cons_zero, List.set_cons_succ]
   refine zae (i := 9) (v := .pointer (some ⟨ib, 0, none⟩)) rfl rfl (by kernel_rfl) (by kernel_rfl) (by kernel_rfl) (fun _ _ _ h => h) (Or.inl ⟨by rfl, fun _ _ => rfl⟩) hHeld ?_
   simp only [Act.put, List.setIfInBounds_toArray, List.set_cons_zero, List.set_cons_succ]
   refine zae (i := 10) rfl rfl (by kernel_rfl) (by kernel_rfl) (by kernel_rfl) (fun _ _ _ h => h) (za1 (by rfl) 144 (.tmp 25) rfl ib 0 1215 (zak B) _ rfl (fun _ h => h.2.2) Tryz.underlying144 rfl Tryz.sizeItems) hHeld ?_
   simp only [Act.put, List.setIfInBounds_toArray, List.set_cons_zero, List.set_cons_succ]
   refine zae (i := 11) rfl rfl (by kernel_rfl) (by kernel_rfl) (by kernel_rfl) (fun _ _ _ h => h) (yieldsIf_eql (by rfl) 144 144 (.tmp 23) (.tmp 26) rfl 1215 (sget S n).A B _ rfl rfl Tryz.eqItems Tryz.underlying144 rfl (by kernel_rfl)) hHeld ?_
   simp only [Act.put, List.setIfInBounds_toArray, List.set_cons_zero, List.set_cons_succ]
   refine wpAnyH_done (by kernel_rfl) ?_ _
   clear hHeld
   cases he : allB 1215 (sget S n).A B
   ·have HN := hide (show ∀ j, j < n + 1 → allB 1215 (sget S j).A B = false from fun j hj => by
     by_cases e : j = n
     ·subst e; exact he
     ·exact zaa hm j (by omega))
    have H5 := hide ((zaa hs).drew)
    go_wp2
    go_roundw
    case rel => exact ⟨n + 1, by omega, by go_num, HN, H5⟩
    case measure => simp [intOf]; omega
   ·have HN := hide (numP_some hlt he (zaa hm))
    have H5 := hide ((zaa hs).drew)
    go_wp2
    go_ret
    exact ⟨fun j hj => by rw [zaa HN] at hj; cases hj; exact ⟨rfl, zaa H5⟩, (fun hj => by rw [zaa HN] at hj; cases hj), (fun hj => by rw [zaa HN] at hj; cases hj)⟩
  ·have HN := hide (numP_none (S := S) (B := B) (fun j hj => zaa hm j (by omega)))
   by_cases h40 : 40 ≤ S.length
   ·have c3 := (zaa HT).fault
    have z3 := (zaa HT).blk.free 1361
    have H6 := hide (show Fr [tb] w (wr.setCell ⟨tb, 1361, none⟩ (.int .i64 6)) ∧ TbAt (wr.setCell ⟨tb, 1361, none⟩ (.int .i64 6)) tb base p (.slice ao S.length cap) S cores 6 from by
     have k := (Fr.refl [tb] wr).setCell ⟨tb, 1361, none⟩ (by simp) (.int .i64 6)
     refine ⟨((zaa hs).weak (by simp)).trans k (by simp), ((zaa HT).blk.setCell 1361 (.int .i64 6)).congr fun i hi => tbF_fault p _ cores fault 6 i hi, (zaa HT).row.fr k (fun g hg => ?_), (zaa HT).lt⟩
     have := ((zaa HT).row.lt hg).1
     have := (zaa HT).lt
     simp; omega)
    go_wp2
    go_ret
    exact ⟨(fun j hj => by rw [zaa HN] at hj; cases hj), fun _ _ => ⟨rfl, (zaa H6).1, (zaa H6).2⟩, fun _ hh => by omega⟩
   ·have hlt40 : S.length < 40 := by omega
    go_wp2_with (first
     | (refine zab rfl 147 rfl (some 6) rfl 1268 _ Tryz.zeroState ?_; intro w1 hf1 hs1 hB1; have HF1 := hide ((zaa hs).trans0 hf1); have HA1 := hide hB1; clear hf1 hB1)
     | (refine zbn rfl 144 (.tmp 39) rfl (some 40) rfl ib 0 1215 (zak B) _ rfl (by exact fun i hi => (by rw [Nat.zero_add]; exact ((zaa HB).fr0 (zaa HF1)).cell i hi)) Tryz.underlying144 rfl Tryz.sizeItems ?_)
     | (refine zac rfl 144 (.tmp 41) (.tmp 40) rfl wr.heap.size 0 1215 1268 (stF sd0) (zak B) rfl rfl (by exact zaa HA1) Tryz.sizeItems (by omega) (fun _ _ => rfl) ?_; intro w2 hf2 hs2 hB2; have HF2 := hide ((zaa HF1).trans1 hf2 (Or.inr (zaa hs).size)); have HA2 := hide hB2; clear hf2 hB2 HA1)
     | (go_at_call 141; refine (p_coreOf tb base ib p _ S cores fault B w2 ((zaa H).fr0 (zaa HF2)) ((zaa HB).fr0 (zaa HF2)) (by omega)).mono ?_; rintro e w3 ⟨rfl, hf3⟩; have HF3 := hide ((zaa HF2).trans0 hf3); have HA3 := hide ((zaa HA2).fr0 hf3); have d0 := (zaa HA3).cell 1267 (by omega); have y0 := (zaa HA3).free 1267; clear hf3))
    obtain ⟨w4, hw4⟩ : ∃ w4, w3.setCell ⟨wr.heap.size, 1267, none⟩ (.int .i64 (corM S B cores : Nat)) = w4 := ⟨_, rfl⟩
    rw [hw4]
    have H4 := hide (show NwS w w4 tb base wr.heap.size p (.slice ao S.length cap) S cores fault (sdN S B cores) from by
     have k4 : Fr [wr.heap.size] w3 w4 := hw4 ▸ (Fr.refl [wr.heap.size] w3).setCell ⟨wr.heap.size, 1267, none⟩ (by simp) _
     have ks := (zaa hs).size
     have hnb : (Value.slice ao S.length cap).ownBlock ≠ some wr.heap.size := fun e => by have := ((zaa HT).row.lt e).2; omega
     refine ⟨(zaa HF3).trans1 k4 (Or.inr ks), ((zaa H).fr0 (zaa HF3)).fr k4 (by simp; omega) (fun g hg => by simp; intro e; exact hnb (by rw [hg, e])), hw4 ▸ (((zaa HA3).setCell 1267 _).congr fun i hi => stN_cells S B cores i hi), ks, hnb⟩)
    have e0 : w4.cell? ⟨wr.heap.size, 1267, none⟩ = some (.int .i64 (corM S B cores : Nat)) := (zaa H4).2.2.1.cell 1267 (by omega)
    have e1 := (zaa H4).2.1.cores
    clear hw4 HF1 HF2 HF3 HA2 HA3 d0 y0
    have lbb := (zaa H).lt
    have ks := (zaa hs).size
    rcases Classical.em (corM S B cores = cores) with hcc | hcc
    case' inl =>
     have hci : (((corM S B cores : Nat) : Int) == (cores : Int)) = true := by rw [beq_iff_eq]; omega
     have HCN := hide (show corN S B cores = cores + 1 from if_pos hcc)
     have HCC := hide hcc
     clear hcc
     go_region
     obtain ⟨w5, hw5⟩ : ∃ w5, w4.drew = w5 := ⟨_, rfl⟩
     rw [hw5]
     have H5 := hide (show NwS w w5 tb base wr.heap.size p (.slice ao S.length cap) S cores fault (sdN S B cores) from hw5 ▸ (zaa H4).fr0 (Fr.refl [] w4).drew)
     clear hw5 e0 e1
     have e1 := (zaa H5).2.1.cores
     have y1 := (zaa H5).2.1.blk.free 1360
     have hwt : IntKind.i64.wrap ((cores : Int) + 1) = (cores : Int) + 1 := by rw [IntKind.wrap_i64]; omega
     go_wp2
     obtain ⟨w6, hw6⟩ : ∃ w6, w5.setCell ⟨tb, 1360, none⟩ (.int .i64 ((cores : Int) + 1)) = w6 := ⟨_, rfl⟩
     rw [hw6]
     have H6 := hide (show NwT w w6 tb base wr.heap.size p (.slice ao S.length cap) S (corN S B cores) fault (sdN S B cores) from by
      rw [zaa HCN]
      exact hw6 ▸ (zaa H5).up (by omega))
     clear hw6 H5 e1 y1 H4 HCC
     have q0 := (zaa H6).2.1.v
     refine wp_region_held_drew (S := fun w' => CsAt w' wr.heap.size 0 1268 (stF (sdN S B cores))) (by kernel_rfl) (fun i hi => (by rw [Nat.zero_add]; exact (zaa H6).2.2.1.drew.cell i hi)) (fun hHeld => ?_)
     refine zae (i := 0) (v := .pointer (some ⟨tb, 0, none⟩)) rfl rfl (by kernel_rfl) (by kernel_rfl) (by kernel_rfl) (fun _ _ _ h => h) (Or.inl ⟨by rfl, fun _ _ => rfl⟩) hHeld ?_
     simp only [Act.put, List.setIfInBounds_toArray, List.set_cons_zero, List.set_cons_succ]
     refine zae (i := 1) (v := .pointer (some ⟨tb, 0, none⟩)) rfl rfl (by kernel_rfl) (by kernel_rfl) (by kernel_rfl) (fun _ _ _ h => h) (Or.inl ⟨by rfl, fun _ _ => rfl⟩) hHeld ?_
     simp only [Act.put, List.setIfInBounds_toArray, List.set_cons_zero, List.set_cons_succ]
     refine zae (i := 2) (v := .pointer (some ⟨tb, 0, none⟩)) rfl rfl (by kernel_rfl) (by kernel_rfl) (by kernel_rfl) (fun _ _ _ h => h) (Or.inl ⟨by rfl, fun _ _ => rfl⟩) hHeld ?_
     simp only [Act.put, List.setIfInBounds_toArray, List.set_cons_zero, List.set_cons_succ]
     refine zae (i := 3) (v := .pointer (some ⟨tb, 1359, none⟩)) rfl rfl (by kernel_rfl) (by kernel_rfl) (by kernel_rfl) (fun _ _ _ h => h) (Or.inl ⟨by rfl, fun _ _ => by go_simp⟩) hHeld ?_
     simp only [Act.put, List.setIfInBounds_toArray, List.set_cons_zero, List.set_cons_succ]
     refine zae (i := 5) rfl rfl (by kernel_rfl) (by kernel_rfl) (by kernel_rfl) (fun _ _ _ h => h) (za1 (by rfl) 147 (.tmp 6) rfl wr.heap.size 0 1268 (stF (sdN S B cores)) _ rfl (fun _ h => h) Tryz.underlying147 rfl Tryz.sizeState) hHeld ?_
     simp only [Act.put, List.setIfInBounds_toArray, List.set_cons_zero, List.set_cons_succ]
     refine wpAnyH_ready (rs := [4, 6]) (by kernel_rfl) (by simp) ?_
     refine AllReadyH.cons rfl (fun K hK => ?a4) (AllReadyH.cons rfl (fun K hK => ?a6) AllReadyH.nil)
     case' a4 =>
      rw [if_pos (by rfl)]
      go_wp2_with fail
      refine hK.out _ _ hHeld (fun hHeld => ?_)
      refine wpAnyH_ready (rs := [6]) (by kernel_rfl) (by simp) ?_
      refine AllReadyH.cons rfl (fun K2 hK2 => ?_) AllReadyH.nil
      rw [if_pos (by rfl)]
      refine zce 77 147 (.tmp 65) rfl (some 66) rfl 1268 (stF (sdN S B cores)) (Agg 1268 (stF sd0)) (by rfl) Tryz.underlying77 Tryz.sizeState Tryz.zeroState (by omega) (by omega) (by simp [Agg, Value.cells]) ?_
      intro w7 hf7 hs7 hB7
      have H7 := hide (show NwT w w7 tb base wr.heap.size p (.slice ao S.length cap) S (corN S B cores) fault (sdN S B cores) from (zaa H6).fr0 ((Fr.refl [] w6).drew.trans0 hf7))
      refine hK2.out _ _ (fun i hi => (by rw [Nat.zero_add]; exact (zaa H7).2.2.1.cell i hi)) (fun hHeld => ?_)
      simp only [Act.put, List.setIfInBounds_toArray, List.set_cons_zero, List.set_cons_succ]
      clear hK hK2
     case' a6 =>
      rw [if_pos (by rfl)]
      refine zce 77 147 (.tmp 65) rfl (some 66) rfl 1268 (stF (sdN S B cores)) (Agg 1268 (stF sd0)) (by rfl) Tryz.underlying77 Tryz.sizeState Tryz.zeroState (by omega) (by omega) (by simp [Agg, Value.cells]) ?_
      intro w7 hf7 hs7 hB7
      have H7 := hide (show NwT w w7 tb base wr.heap.size p (.slice ao S.length cap) S (corN S B cores) fault (sdN S B cores) from (zaa H6).fr0 ((Fr.refl [] w6).drew.trans0 hf7))
      refine hK.out _ _ (fun i hi => (by rw [Nat.zero_add]; exact (zaa H7).2.2.1.cell i hi)) (fun hHeld => ?_)
      simp only [Act.put, List.setIfInBounds_toArray, List.set_cons_zero, List.set_cons_succ]
      have q7 := (zaa H7).2.1.v
      refine wpAnyH_ready (rs := [4]) (by kernel_rfl) (by simp) ?_
      refine AllReadyH.cons rfl (fun K2 hK2 => ?_) AllReadyH.nil
      rw [if_pos (by rfl)]
      go_wp2_with fail
      refine hK2.out _ _ hHeld (fun hHeld => ?_)
      clear hK hK2 q7
    case' inr =>
     have hci : (((corM S B cores : Nat) : Int) == (cores : Int)) = false := by rw [beq_eq_false_iff_ne]; omega
     have HCN := hide (show corN S B cores = cores from if_neg hcc)
     clear hcc
     go_region
     obtain ⟨w6, hw6⟩ : ∃ w6, w4.drew = w6 := ⟨_, rfl⟩
     rw [hw6]
     have H6 := hide (show NwT w w6 tb base wr.heap.size p (.slice ao S.length cap) S (corN S B cores) fault (sdN S B cores) from by
      rw [zaa HCN]
      have := hw6 ▸ (zaa H4).fr0 (Fr.refl [] w4).drew
      exact ⟨this.1.weak (by simp), this.2⟩)
     clear hw6 H4 e0 e1
     go_wp2
     have q0 := (zaa H6).2.1.v
     refine wp_region_held_drew (S := fun w' => CsAt w' wr.heap.size 0 1268 (stF (sdN S B cores))) (by kernel_rfl) (fun i hi => (by rw [Nat.zero_add]; exact (zaa H6).2.2.1.drew.cell i hi)) (fun hHeld => ?_)
     refine zae (i := 0) (v := .pointer (some ⟨tb, 0, none⟩)) rfl rfl (by kernel_rfl) (by kernel_rfl) (by kernel_rfl) (fun _ _ _ h => h) (Or.inl ⟨by rfl, fun _ _ => rfl⟩) hHeld ?_
     simp only [Act.put, List.setIfInBounds_toArray, List.set_cons_zero, List.set_cons_succ]
     refine zae (i := 1) (v := .pointer (some ⟨tb, 0, none⟩)) rfl rfl (by kernel_rfl) (by kernel_rfl) (by kernel_rfl) (fun _ _ _ h => h) (Or.inl ⟨by rfl, fun _ _ => rfl⟩) hHeld ?_
     simp only [Act.put, List.setIfInBounds_toArray, List.set_cons_zero, List.set_cons_succ]
     refine zae (i := 2) (v := .pointer (some ⟨tb, 0, none⟩)) rfl rfl (by kernel_rfl) (by kernel_rfl) (by kernel_rfl) (fun _ _ _ h => h) (Or.inl ⟨by rfl, fun _ _ => rfl⟩) hHeld ?_
     simp only [Act.put, List.setIfInBounds_toArray, List.set_cons_zero, List.set_cons_succ]
     refine zae (i := 3) (v := .pointer (some ⟨tb, 1359, none⟩)) rfl rfl (by kernel_rfl) (by kernel_rfl) (by kernel_rfl) (fun _ _ _ h => h) (Or.inl ⟨by rfl, fun _ _ => by go_simp⟩) hHeld ?_
     simp only [Act.put, List.setIfInBounds_toArray, List.set_cons_zero, List.set_cons_succ]
     refine zae (i := 5) rfl rfl (by kernel_rfl) (by kernel_rfl) (by kernel_rfl) (fun _ _ _ h => h) (za1 (by rfl) 147 (.tmp 6) rfl wr.heap.size 0 1268 (stF (sdN S B cores)) _ rfl (fun _ h => h) Tryz.underlying147 rfl Tryz.sizeState) hHeld ?_
     simp only [Act.put, List.setIfInBounds_toArray, List.set_cons_zero, List.set_cons_succ]
     refine wpAnyH_ready (rs := [4, 6]) (by kernel_rfl) (by simp) ?_
     refine AllReadyH.cons rfl (fun K hK => ?b4) (AllReadyH.cons rfl (fun K hK => ?b6) AllReadyH.nil)
     case' b4 =>
      rw [if_pos (by rfl)]
      go_wp2_with fail
      refine hK.out _ _ hHeld (fun hHeld => ?_)
      refine wpAnyH_ready (rs := [6]) (by kernel_rfl) (by simp) ?_
      refine AllReadyH.cons rfl (fun K2 hK2 => ?_) AllReadyH.nil
      rw [if_pos (by rfl)]
      refine zce 77 147 (.tmp 65) rfl (some 66) rfl 1268 (stF (sdN S B cores)) (Agg 1268 (stF sd0)) (by rfl) Tryz.underlying77 Tryz.sizeState Tryz.zeroState (by omega) (by omega) (by simp [Agg, Value.cells]) ?_
      intro w7 hf7 hs7 hB7
      have H7 := hide (show NwT w w7 tb base wr.heap.size p (.slice ao S.length cap) S (corN S B cores) fault (sdN S B cores) from (zaa H6).fr0 ((Fr.refl [] w6).drew.trans0 hf7))
      refine hK2.out _ _ (fun i hi => (by rw [Nat.zero_add]; exact (zaa H7).2.2.1.cell i hi)) (fun hHeld => ?_)
      simp only [Act.put, List.setIfInBounds_toArray, List.set_cons_zero, List.set_cons_succ]
      clear hK hK2
     case' b6 =>
      rw [if_pos (by rfl)]
      refine zce 77 147 (.tmp 65) rfl (some 66) rfl 1268 (stF (sdN S B cores)) (Agg 1268 (stF sd0)) (by rfl) Tryz.underlying77 Tryz.sizeState Tryz.zeroState (by omega) (by omega) (by simp [Agg, Value.cells]) ?_
      intro w7 hf7 hs7 hB7
      have H7 := hide (show NwT w w7 tb base wr.heap.size p (.slice ao S.length cap) S (corN S B cores) fault (sdN S B cores) from (zaa H6).fr0 ((Fr.refl [] w6).drew.trans0 hf7))
      refine hK.out _ _ (fun i hi => (by rw [Nat.zero_add]; exact (zaa H7).2.2.1.cell i hi)) (fun hHeld => ?_)
      simp only [Act.put, List.setIfInBounds_toArray, List.set_cons_zero, List.set_cons_succ]
      have q7 := (zaa H7).2.1.v
      refine wpAnyH_ready (rs := [4]) (by kernel_rfl) (by simp) ?_
      refine AllReadyH.cons rfl (fun K2 hK2 => ?_) AllReadyH.nil
      rw [if_pos (by rfl)]
      go_wp2_with fail
      refine hK2.out _ _ hHeld (fun hHeld => ?_)
      clear hK hK2 q7
    all_goals
     refine wpAnyH_ready (rs := [7]) (by kernel_rfl) (by simp) ?_
     refine AllReadyH.cons rfl (fun K hK => ?_) AllReadyH.nil
     obtain ⟨i0, hi0, hz0, hz1, hz2⟩ := Tryz.partsState
     have hb7 : base ≤ w7.heap.size := Nat.le_trans hbs (zaa H7).1.size
     refine step_append_lies _ rfl (.tmp 64) (.tmp 66) 77 rfl base 147 i0 _ 1268 1640 Tryz.underlying77 hi0 hz0 hz1 hz2 (by simp [Agg, Value.cells]) (by omega) (.slice ao S.length cap) S.length (rwC S.length 1268 (rwF S)) (by rfl) (by exact (zaa H7).2.1.row) ⟨w6.heap.size, 0, none⟩ 1 1 (rwC 1 1268 (stF (sdN S B cores))) (by rfl) (rwC_len _ _ _) (fun j u hu => by
      have hj : j < 1 * 1268 := by rw [← rwC_len 1 1268 (stF (sdN S B cores))]; exact (List.getElem?_eq_some_iff.1 hu).1
      rw [rwC_get _ _ _ _ hj] at hu
      cases hu
      rw [Addr.add_mid, Nat.zero_add]
      exact hB7.cell j (by omega)) (fun u hu => by
      obtain ⟨j, hj, rfl⟩ := List.mem_map.1 hu
      exact oneB_stF _ (j + 1) j (by omega)) (by omega) (by unfold maxLen; omega) (by omega) hb7 _ rfl ?_
     intro g8 cap8 w8 hown8 hgrow8 hat8 hlt8
     have H8 := hide (show Fr (tb :: (Value.slice ao S.length cap).ownBlock.toList) w w8 ∧ Blk w8 tb 1362 (tbF p (.slice ao S.length cap) (corN S B cores) fault) ∧ GRow w8 base 147 1268 (.slice (some ⟨g8, 0, none⟩) (S.length + 1) cap8) (S ++ [sdN S B cores]).length (rwF (S ++ [sdN S B cores])) ∧ ((Value.slice ao S.length cap).ownBlock = some g8 ∨ w.heap.size ≤ g8) ∧ Blk w8 wr.heap.size 1268 (stF (sdN S B cores)) from by
      have hnt : some tb ≠ (Value.slice ao S.length cap).ownBlock := fun e => by have := ((zaa H).row.lt e.symm).1; omega
      refine ⟨(Fr.weak (zaa H7).1 (by simp)).of_grown hgrow8 (fun k hk => Or.inl (by rw [hk]; simp)), (zaa H7).2.1.blk.grown hgrow8 hnt, ?_, ?_, (zaa H7).2.2.1.grown hgrow8 (fun e => (zaa H7).2.2.2.2 e.symm)⟩
      ·unfold GRow
       rw [List.length_append, ← rwC_snoc]
       exact hown8
      ·rcases hat8 with h | h
       ·exact Or.inl h
       ·exact Or.inr (by rw [h]; exact (zaa H7).1.size))
     refine hK.out _ _ (fun i hi => (by rw [Nat.zero_add]; exact (zaa H8).2.2.2.2.cell i hi)) (fun hHeld => ?_)
     have r0 := (zaa H8).2.1.cell 1359 (by omega)
     have r1 := (zaa H8).2.1.free 1359
     clear hown8 hgrow8 hat8 hlt8 H7 H6 hf7 hB7 hs7 hK
     simp only [List.getElem_toArray, List.getElem_cons_succ, List.getElem_cons_zero, Act.put, List.setIfInBounds_toArray, List.set_cons_zero, List.set_cons_succ]
     refine zae (i := 8) (v := .pointer (some ⟨tb, 0, none⟩)) rfl rfl (by kernel_rfl) (by kernel_rfl) (by kernel_rfl) (fun _ _ _ h => h) (Or.inl ⟨by rfl, fun _ _ => rfl⟩) hHeld ?_
     simp only [Act.put, List.setIfInBounds_toArray, List.set_cons_zero, List.set_cons_succ]
     refine zae (i := 9) (v := .pointer (some ⟨tb, 1359, none⟩)) rfl rfl (by kernel_rfl) (by kernel_rfl) (by kernel_rfl) (fun _ _ _ h => h) (Or.inl ⟨by rfl, fun _ _ => by go_simp⟩) hHeld ?_
     simp only [Act.put, List.setIfInBounds_toArray, List.set_cons_zero, List.set_cons_succ]
     refine wpAnyH_ready (rs := [10]) (by kernel_rfl) (by simp) ?_
     refine AllReadyH.cons rfl (fun K hK => ?_) AllReadyH.nil
     rw [if_pos (by rfl)]
     go_wp2_with fail
     have HE := hide (show NumPO w tb base p (.slice ao S.length cap) S cores fault B (.returned (.int .i64 S.length)) (w8.setCell ⟨tb, 1359, none⟩ (.slice (some ⟨g8, 0, none⟩) (S.length + 1) cap8)) from by
      have k9 := (Fr.refl [tb] w8).setCell ⟨tb, 1359, none⟩ (by simp) (.slice (some ⟨g8, 0, none⟩) (S.length + 1) cap8)
      refine ⟨(fun j hj => by rw [zaa HN] at hj; cases hj), (fun _ hh => by omega), fun _ _ => ⟨rfl, (zaa H8).1.trans k9 (by simp), _, ⟨((zaa H8).2.1.setCell 1359 _).congr fun i _ => tbF_v p _ _ _ fault i, (zaa H8).2.2.1.fr k9 (fun x hx => ?_), lbb⟩, fun x hx => ?_⟩⟩
      ·have := ((zaa H8).2.2.1.lt hx).1
       simp; omega
      ·have e : g8 = x := by simpa [Value.ownBlock] using hx
       rw [← e]; exact (zaa H8).2.2.2.1)
     have hr9 : (w8.setCell ⟨tb, 1359, none⟩ (.slice (some ⟨g8, 0, none⟩) (S.length + 1) cap8)).cell? ⟨tb, 1359, none⟩ = some (.slice (some ⟨g8, 0, none⟩) (S.length + 1) cap8) := World.cell?_setCell_same _ _ _ r0
     obtain ⟨w9, hw9⟩ : ∃ w9, w8.setCell ⟨tb, 1359, none⟩ (.slice (some ⟨g8, 0, none⟩) (S.length + 1) cap8) = w9 := ⟨_, rfl⟩
     rw [hw9] at HE hr9 ⊢
     refine hK.out _ _ (fun i hi => (by rw [Nat.zero_add, ← hw9]; exact ((zaa H8).2.2.2.2.setCell_ne ⟨tb, 1359, none⟩ (by simp; omega) _).cell i hi)) (fun _ => ?_)
     refine wpAnyH_done (by kernel_rfl) ?_ _
     clear hw9 H8 hK r0 r1
     go_wp2
     go_ret
     exact zaa HE
end Go.Proofs.YtkglggkkbmmjkabGreatDoor
namespace Go.Proofs.YtkglggkkbmmjkabGreatDoor
open Go.RowKit
def kern (p : Pl) (c : Nat) (A : Nat → Bool) : Nat → Bool := fun i => decide (27 ≤ i % 135) && (p.lt (i / 135) (i % 135 / 27 - 1) == c) && A (i - 27)
def kernL (p : Pl) (c : Nat) (A : Nat → Bool) (n t : Nat) : Nat → Bool := fun i => kern p c A i && (decide (i / 135 < n) || (decide (i / 135 = n) && decide (i % 135 / 27 ≤ t)))
theorem kernL_zero (p : Pl) (c : Nat) (A : Nat → Bool) (i : Nat) : kernL p c A 0 0 i = false := by
 unfold kernL kern
 by_cases h : 27 ≤ i % 135
 ·rw [show decide (i % 135 / 27 ≤ 0) = false from by simp; omega]; simp
 ·simp [h]
theorem kernL_row (p : Pl) (c : Nat) (A : Nat → Bool) (n i : Nat) : kernL p c A n 4 i = kernL p c A (n + 1) 0 i := by
 unfold kernL kern
 by_cases h : 27 ≤ i % 135
 ·rw [show decide (i % 135 / 27 ≤ 0) = false from by simp; omega, show decide (i % 135 / 27 ≤ 4) = true from by simp; omega]
  rw [Bool.and_true, Bool.and_false, Bool.or_false]
  congr 1
  by_cases e : i / 135 < n
  ·simp [e, show i / 135 < n + 1 from by omega]
  ·by_cases e2 : i / 135 = n
   ·simp [e2]
   ·simp [e, e2, show ¬ i / 135 < n + 1 from by omega]
 ·simp [h]
theorem kernL_all (p : Pl) (c : Nat) (A : Nat → Bool) (i : Nat) (hi : i < 1215) : kernL p c A 9 0 i = kern p c A i := by
 unfold kernL
 rw [show decide (i / 135 < 9) = true from by simp; omega]; simp
theorem kernL_skip (p : Pl) (c : Nat) (A : Nat → Bool) (n t i : Nat) (h : (p.lt n t == c) = false) : kernL p c A n (t + 1) i = kernL p c A n t i := by
 unfold kernL
 by_cases e : i / 135 = n
 ·by_cases e2 : i % 135 / 27 = t + 1
  ·have : kern p c A i = false := by
    unfold kern
    rw [e, e2, Nat.add_sub_cancel, h]; simp
   rw [this]; simp
  ·rw [show decide (i % 135 / 27 ≤ t + 1) = decide (i % 135 / 27 ≤ t) from by apply decide_eq_decide.2; omega]
 ·simp [e]
theorem kernL_lay (p : Pl) (c : Nat) (A : Nat → Bool) (n t i : Nat) (ht : t < 4) (h : (p.lt n t == c) = true) :
 lay (zak (kernL p c A n t)) (n * 135 + (t + 1) * 27) 27 (zak fun k => A (n * 135 + t * 27 + k)) i = zak (kernL p c A n (t + 1)) i := by
 unfold lay zak
 by_cases hr : n * 135 + (t + 1) * 27 ≤ i ∧ i < n * 135 + (t + 1) * 27 + 27
 ·rw [if_pos hr]
  unfold kernL kern
  dsimp only
  rw [show i / 135 = n from by omega, show i % 135 / 27 = t + 1 from by omega, Nat.add_sub_cancel, h, show decide (27 ≤ i % 135) = true from by simp; omega, show n * 135 + t * 27 + (i - (n * 135 + (t + 1) * 27)) = i - 27 from by omega]
  simp
 ·rw [if_neg hr]
  unfold kernL
  by_cases e : i / 135 = n
  ·by_cases e2 : i % 135 / 27 = t + 1
   ·exact absurd (show n * 135 + (t + 1) * 27 ≤ i ∧ i < n * 135 + (t + 1) * 27 + 27 from by omega) hr
   ·rw [show decide (i % 135 / 27 ≤ t + 1) = decide (i % 135 / 27 ≤ t) from by apply decide_eq_decide.2; omega]
  ·simp [e]
def MoS (w wr : World) (pb fb : Nat) (p : Pl) (A K : Nat → Bool) : Prop := Fr [] w wr ∧ Blk wr fb 1215 (zak A) ∧ PlAt wr pb p ∧ Blk wr w.heap.size 1215 (zak fun _ => false) ∧ Blk wr (w.heap.size + 1) 1215 (zak K)
set_option maxRecDepth 100000 in
set_option maxHeartbeats 2000000 in
theorem p_move (pb fb c : Nat) (p : Pl) (A : Nat → Bool) (w : World) (hP : PlAt w pb p) (hB : Blk w fb 1215 (zak A)) (hpl : pb < w.heap.size) :
 Calls Tryz.prog 143 #[.pointer (some ⟨pb, 0, none⟩), .pointer (some ⟨fb, 0, none⟩), .int .u8 c] w fun e w' => Fr [] w w' ∧ ∃ B, e = .returned (Agg 1215 (zak B)) ∧ FuI p (kern p c A) B := by
 have HB := hide hB
 have HP := hide hP
 have lb := hB.lt
 clear hB hP
 go_enter Tryz.func143, Tryz.ntmps143
 go_wp2_with (first
  | (refine zab rfl 144 rfl (some 6) rfl 1215 _ Tryz.zeroItems ?_; intro w1 hf1 hs1 hB1; have HR := hide hB1; have HF1 := hide hf1; clear hf1 hB1)
  | (refine zab rfl 144 rfl (some 7) rfl 1215 _ Tryz.zeroItems ?_; intro w2 hf2 hs2 hB2; have H2 := hide (show MoS w w2 pb fb p A (kernL p c A 0 0) from ⟨(zaa HF1).trans0 hf2, ((zaa HB).fr0 (zaa HF1)).fr0 hf2, ((zaa HP).fr ((zaa HF1).trans0 hf2) (by simp) hpl), (zaa HR).fr0 hf2, hs1 ▸ hB2.congr fun i _ => by (unfold zak; rw [kernL_zero])⟩); clear hf2 hB2 HR HF1))
 clear HB HP
 go_loopw [8] (fun i wr => ∃ n : Nat, n ≤ 9 ∧ i = .int .i64 n ∧ Hid (MoS w wr pb fb p A (kernL p c A n 0))) (fun i _ => 9 - (intOf i).toNat)
 case atStart => exact ⟨0, by omega, rfl, H2⟩
 case round =>
  obtain ⟨n, hn, rfl, hs⟩ := hrel
  clear H2
  by_cases hlt : n < 9
  ·have hn9 : (n : Int) < 9 := by omega
   go_wp2
   go_loopw [9] (fun i wr => ∃ t : Nat, t ≤ 4 ∧ i = .int .i64 t ∧ Hid (MoS w wr pb fb p A (kernL p c A n t))) (fun i _ => 4 - (intOf i).toNat)
   case atStart => exact ⟨0, by omega, rfl, hs⟩
   case round =>
    clear hs
    obtain ⟨t, ht, rfl, hs⟩ := hrel
    by_cases htt : t < 4
    ·have d0 := ((zaa hs).2.2.1.spot n t hlt (by omega)) 0 (by omega)
     rw [Nat.add_zero] at d0
     cases hc : (p.lt n t == c)
     ·have hci : (((p.lt n t : Nat) : Int) == (c : Int)) = false := by
       rw [beq_eq_false_iff_ne] at hc ⊢; omega
      have HN := hide (show MoS w wr pb fb p A (kernL p c A n (t + 1)) from ⟨(zaa hs).1, (zaa hs).2.1, (zaa hs).2.2.1, (zaa hs).2.2.2.1, (zaa hs).2.2.2.2.congr fun i _ => by unfold zak; rw [kernL_skip p c A n t i hc]⟩)
      have d1 : wr.cell? ⟨pb, 9 + n * 150 + t * 30, none⟩ = some (.int .u8 (p.lt n t : Nat)) := d0
      clear hs hc d0
      go_wp2
      go_roundw
      case rel => exact ⟨t + 1, by omega, by go_num, HN⟩
      case measure => simp [intOf]; omega
     ·have hci : (((p.lt n t : Nat) : Int) == (c : Int)) = true := by
       rw [beq_iff_eq] at hc ⊢; omega
      have d1 : wr.cell? ⟨pb, 9 + n * 150 + t * 30, none⟩ = some (.int .u8 (p.lt n t : Nat)) := d0
      have HC := hide hc
      clear hc d0
      have ht0 : (0 : Int) ≤ (t : Int) + 1 := by omega
      have ht5 : (t : Int) < 5 := by omega
      have ht1 : (t : Int) + 1 < 5 := by omega
      have htn : ((t : Int) + 1).toNat = t + 1 := by omega
      have hwt : IntKind.i64.wrap ((t : Int) + 1) = (t : Int) + 1 := by rw [IntKind.wrap_i64]; omega
      have ls := (zaa hs).1.size
      go_wp2
      refine wp_region_held_drew (S := fun w' => CsAt w' fb (n * 135 + t * 27) 27 (zak fun k => A (n * 135 + t * 27 + k))) (by kernel_rfl) ((zaa hs).2.1.drew.cs (n * 135 + t * 27) 27 (by omega)) (fun hHeld => ?_)
      refine zae (i := 0) (v := .int .i64 n) rfl rfl (by kernel_rfl) (by kernel_rfl) (by kernel_rfl) (fun _ _ _ h => h) (Or.inl ⟨by rfl, fun _ _ => rfl⟩) hHeld ?_
      simp only [Act.put, List.setIfInBounds_toArray, List.set_cons_zero, List.set_cons_succ]
      refine zae (i := 1) (v := .int .i64 t) rfl rfl (by kernel_rfl) (by kernel_rfl) (by kernel_rfl) (fun _ _ _ h => h) (Or.inl ⟨by rfl, fun _ _ => rfl⟩) hHeld ?_
      simp only [Act.put, List.setIfInBounds_toArray, List.set_cons_zero, List.set_cons_succ]
      refine zae (i := 2) (v := .int .i64 ((t : Int) + 1)) rfl rfl (by kernel_rfl) (by kernel_rfl) (by kernel_rfl) (fun _ _ _ h => h) (Or.inl ⟨by rfl, fun _ _ => by go_simp⟩) hHeld ?_
      simp only [Act.put, List.setIfInBounds_toArray, List.set_cons_zero, List.set_cons_succ]
      refine zae (i := 3) (v := .pointer (some ⟨fb, 0, none⟩)) rfl rfl (by kernel_rfl) (by kernel_rfl) (by kernel_rfl) (fun _ _ _ h => h) (Or.inl ⟨by rfl, fun _ _ => rfl⟩) hHeld ?_
      simp only [Act.put, List.setIfInBounds_toArray, List.set_cons_zero, List.set_cons_succ]
      refine zae (i := 4) (v := .int .i64 n) rfl rfl (by kernel_rfl) (by kernel_rfl) (by kernel_rfl) (fun _ _ _ h => h) (Or.inl ⟨by rfl, fun _ _ => rfl⟩) hHeld ?_
      simp only [Act.put, List.setIfInBounds_toArray, List.set_cons_zero, List.set_cons_succ]
      refine zae (i := 5) (v := .int .i64 t) rfl rfl (by kernel_rfl) (by kernel_rfl) (by kernel_rfl) (fun _ _ _ h => h) (Or.inl ⟨by rfl, fun _ _ => rfl⟩) hHeld ?_
      simp only [Act.put, List.setIfInBounds_toArray, List.set_cons_zero, List.set_cons_succ]
      refine zae (i := 6) (v := .pointer (some ⟨fb, 0, none⟩)) rfl rfl (by kernel_rfl) (by kernel_rfl) (by kernel_rfl) (fun _ _ _ h => h) (Or.inl ⟨by rfl, fun _ _ => by go_simp⟩) hHeld ?_
      simp only [Act.put, List.setIfInBounds_toArray, List.set_cons_zero, List.set_cons_succ]
      refine zae (i := 7) (v := .pointer (some ⟨fb, 0, none⟩)) rfl rfl (by kernel_rfl) (by kernel_rfl) (by kernel_rfl) (fun _ _ _ h => h) (Or.inl ⟨by rfl, fun _ _ => by go_simp⟩) hHeld ?_
      simp only [Act.put, List.setIfInBounds_toArray, List.set_cons_zero, List.set_cons_succ]
      refine zae (i := 8) (v := .pointer (some ⟨fb, n * 135, none⟩)) rfl rfl (by kernel_rfl) (by kernel_rfl) (by kernel_rfl) (fun _ _ _ h => h) (Or.inl ⟨by rfl, fun _ _ => by go_simp⟩) hHeld ?_
      simp only [Act.put, List.setIfInBounds_toArray, List.set_cons_zero, List.set_cons_succ]
      refine zae (i := 9) (v := .pointer (some ⟨fb, n * 135 + t * 27, none⟩)) rfl rfl (by kernel_rfl) (by kernel_rfl) (by kernel_rfl) (fun _ _ _ h => h) (Or.inl ⟨by rfl, fun _ _ => by go_simp⟩) hHeld ?_
      simp only [Act.put, List.setIfInBounds_toArray, List.set_cons_zero, List.set_cons_succ]
      refine zae (i := 10) rfl rfl (by kernel_rfl) (by kernel_rfl) (by kernel_rfl) (fun _ _ _ h => h) (za1 (by rfl) 48 (.tmp 39) rfl fb (n * 135 + t * 27) 27 (zak fun k => A (n * 135 + t * 27 + k)) _ rfl (fun _ h => h) Tryz.underlying48 rfl Tryz.sizeSign) hHeld ?_
      simp only [Act.put, List.setIfInBounds_toArray, List.set_cons_zero, List.set_cons_succ]
      refine zae (i := 11) (v := .pointer (some ⟨w.heap.size + 1, 0, none⟩)) rfl rfl (by kernel_rfl) (by kernel_rfl) (by kernel_rfl) (fun _ _ _ h => h) (Or.inl ⟨by rfl, fun _ _ => by go_simp⟩) hHeld ?_
      simp only [Act.put, List.setIfInBounds_toArray, List.set_cons_zero, List.set_cons_succ]
      refine zae (i := 12) (v := .pointer (some ⟨w.heap.size + 1, n * 135, none⟩)) rfl rfl (by kernel_rfl) (by kernel_rfl) (by kernel_rfl) (fun _ _ _ h => h) (Or.inl ⟨by rfl, fun _ _ => by go_simp⟩) hHeld ?_
      simp only [Act.put, List.setIfInBounds_toArray, List.set_cons_zero, List.set_cons_succ]
      refine zae (i := 13) (v := .pointer (some ⟨w.heap.size + 1, n * 135 + (t + 1) * 27, none⟩)) rfl rfl (by kernel_rfl) (by kernel_rfl) (by kernel_rfl) (fun _ _ _ h => h) (Or.inl ⟨by rfl, fun _ _ => by go_simp⟩) hHeld ?_
      simp only [Act.put, List.setIfInBounds_toArray, List.set_cons_zero, List.set_cons_succ]
      refine za6 (i := 14) (by kernel_rfl) rfl rfl rfl 48 (.tmp 43) (.tmp 40) rfl (w.heap.size + 1) (n * 135 + (t + 1) * 27) 27 1215 _ (zak fun k => A (n * 135 + t * 27 + k)) (by rfl) (by rfl) (zaa hs).2.2.2.2.drew Tryz.sizeSign (by omega) (by intro i hi; rfl) (by kernel_rfl) ?_
      intro w5 hf5 hs5 hB5
      have HN := hide (show MoS w w5 pb fb p A (kernL p c A n (t + 1)) from ⟨(zaa hs).1.drew.trans1 hf5 (Or.inr (by omega)), (zaa hs).2.1.drew.fr1 hf5 (by omega), PlAt.fr (w := wr.drew) (zaa hs).2.2.1 hf5 (by simp; omega) (by show pb < wr.heap.size; omega), (zaa hs).2.2.2.1.drew.fr1 hf5 (by omega), hB5.congr fun i _ => kernL_lay p c A n t i htt (zaa HC)⟩)
      refine ⟨hHeld.fr hf5 (by simp; omega) (by show fb < wr.heap.size; omega), ?_⟩
      clear hf5 hB5 hs hHeld
      go_wp2
      go_roundw
      case rel => exact ⟨t + 1, by omega, by go_num, HN⟩
      case measure => simp [intOf]; omega
    ·have HN := hide (show MoS w wr pb fb p A (kernL p c A (n + 1) 0) from by
      have e : t = 4 := by omega
      subst e; exact ⟨(zaa hs).1, (zaa hs).2.1, (zaa hs).2.2.1, (zaa hs).2.2.2.1, (zaa hs).2.2.2.2.congr fun i _ => by unfold zak; rw [kernL_row]⟩)
     clear hs
     go_wp2
     go_roundw
     case rel => exact ⟨n + 1, by omega, by go_num, HN⟩
     case measure => simp [intOf]; omega
  ·have HN := hide (show MoS w wr pb fb p A (kern p c A) from by
    have e : n = 9 := by omega
    subst e; exact ⟨(zaa hs).1, (zaa hs).2.1, (zaa hs).2.2.1, (zaa hs).2.2.2.1, (zaa hs).2.2.2.2.congr fun i hi => by unfold zak; rw [kernL_all _ _ _ _ hi]⟩)
   clear hs
   go_wp2_with (first
    | (go_at_call 140; refine (p_fill pb (w.heap.size + 1) p (kern p c A) _ (by exact (zaa HN).2.2.1) (by exact (zaa HN).2.2.2.2) (Nat.lt_of_lt_of_le hpl (zaa HN).1.size) (by omega)).mono ?_; rintro e w6 ⟨rfl, hf6, B, hB6, hM6⟩; have HF6 := hide ((zaa HN).1.trans1 hf6 (Or.inr (by omega))); have HR6 := hide ((zaa HN).2.2.2.1.fr1 hf6 (by omega)); have HB6 := hide hB6; have HM6 := hide hM6; clear hf6 hB6 hM6)
    | (refine zaf rfl 144 (.tmp 7) rfl (some 46) rfl (w.heap.size + 1) 0 1215 1215 (zak B) _ rfl (by exact zaa HB6) Tryz.underlying144 rfl Tryz.sizeItems (by omega) ?_)
    | (refine zac rfl 144 (.tmp 6) (.tmp 46) rfl w.heap.size 0 1215 1215 (zak fun _ => false) (fun i => zak B (0 + i)) rfl rfl (by exact zaa HR6) Tryz.sizeItems (by omega) (fun _ _ => rfl) ?_; intro w7 hf7 hs7 hB7))
   exact bodyPost_ret (zaj Tryz.results143 _ w.heap.size rfl 1215 1215 _ _ (hB7.congr fun i hi => zag _ _ _ i hi) Tryz.underlying144 rfl Tryz.sizeItems (by omega)) rfl ⟨(zaa HF6).trans1 hf7 (Or.inr (Nat.le_refl _)), B, by congr 2; funext i; rw [Nat.zero_add], zaa HM6⟩
end Go.Proofs.YtkglggkkbmmjkabGreatDoor
namespace Go.Proofs.YtkglggkkbmmjkabGreatDoor
open Go.RowKit
def fstI : Nat → Bool := fun i => i == 0
theorem fst_cells (i : Nat) : upd (zak fun _ => false) (0 + sgO 36) (.bool true) i = zak fstI i := by
 show (if i = 0 then Value.bool true else Value.bool false) = Value.bool (i == 0)
 by_cases e : i = 0
 ·rw [if_pos e, e]; rfl
 ·rw [if_neg e, show (i == 0) = false from by simpa using e]
set_option maxRecDepth 100000 in
set_option maxHeartbeats 1600000 in
theorem p_firstItems (pb : Nat) (p : Pl) (w : World) (hP : PlAt w pb p) (hpl : pb < w.heap.size) :
 Calls Tryz.prog 132 #[.pointer (some ⟨pb, 0, none⟩)] w fun e w' => Fr [] w w' ∧ ∃ B, e = .returned (Agg 1215 (zak B)) ∧ FuI p fstI B := by
 have HP := hide hP
 clear hP
 go_enter Tryz.func132, Tryz.ntmps132
 go_wp2_with (first
  | (refine zab rfl 144 rfl (some 2) rfl 1215 _ Tryz.zeroItems ?_; intro w1 hf1 hs1 hB1; have HR := hide hB1; have HF1 := hide hf1; clear hf1 hB1)
  | (refine zab rfl 144 rfl (some 3) rfl 1215 _ Tryz.zeroItems ?_; intro w2 hf2 hs2 hB2; have HF2 := hide ((zaa HF1).trans0 hf2); have HR2 := hide ((zaa HR).fr0 hf2); have HB2 := hide (show Blk w2 (w.heap.size + 1) 1215 (zak fun _ => false) from hs1 ▸ hB2); clear hf2 hB2 HR HF1)
  | (go_at_call 100; refine (p_saddO (w.heap.size + 1) 0 36 1215 _ _ (by exact zaa HB2) (by omega) rfl).mono ?_; rintro e w3 ⟨rfl, hf3, hs3, hB3⟩; have HF3 := hide ((zaa HF2).trans1 hf3 (Or.inr (by omega))); have HR3 := hide ((zaa HR2).fr1 hf3 (by omega)); have HB3 := hide (show Blk w3 (w.heap.size + 1) 1215 (zak fstI) from hB3.congr fun i _ => fst_cells i); clear hf3 hB3)
  | (go_at_call 140; refine (p_fill pb (w.heap.size + 1) p fstI _ ((zaa HP).fr (zaa HF3) (by simp) hpl) (by exact zaa HB3) (Nat.lt_of_lt_of_le hpl (zaa HF3).size) (by omega)).mono ?_; rintro e w6 ⟨rfl, hf6, B, hB6, hM6⟩; have HF6 := hide ((zaa HF3).trans1 hf6 (Or.inr (by omega))); have HR6 := hide ((zaa HR3).fr1 hf6 (by omega)); have HB6 := hide hB6; have HM6 := hide hM6; clear hf6 hB6 hM6)
  | (refine zaf rfl 144 (.tmp 3) rfl (some 10) rfl (w.heap.size + 1) 0 1215 1215 (zak B) _ rfl (by exact zaa HB6) Tryz.underlying144 rfl Tryz.sizeItems (by omega) ?_)
  | (refine zac rfl 144 (.tmp 2) (.tmp 10) rfl w.heap.size 0 1215 1215 (zak fun _ => false) (fun i => zak B (0 + i)) rfl rfl (by exact zaa HR6) Tryz.sizeItems (by omega) (fun _ _ => rfl) ?_; intro w7 hf7 hs7 hB7))
 exact bodyPost_ret (zaj Tryz.results132 _ w.heap.size rfl 1215 1215 _ _ (hB7.congr fun i hi => zag _ _ _ i hi) Tryz.underlying144 rfl Tryz.sizeItems (by omega)) rfl ⟨(zaa HF6).trans1 hf7 (Or.inr (Nat.le_refl _)), B, by congr 2; funext i; rw [Nat.zero_add], zaa HM6⟩
def nxB (p : Pl) (A : Nat → Bool) (lim : Nat) : Nat → Bool := fun i => (List.range lim).any fun q => !(empB fun k => A (q * 27 + k)) && (letB (p.lt (q / 5) (q % 5)) && i == ltI (p.lt (q / 5) (q % 5)))
theorem nxB_succ (p : Pl) (A : Nat → Bool) (q i : Nat) : nxB p A (q + 1) i = (nxB p A q i || (!(empB fun k => A (q * 27 + k)) && (letB (p.lt (q / 5) (q % 5)) && i == ltI (p.lt (q / 5) (q % 5))))) := by
 unfold nxB
 rw [List.range_succ, List.any_append]
 simp
theorem Tryz.zeroLett : (Tryz.prog.info? 209).bind (·.zero) = some (Agg 52 (zak fun _ => false)) := by kernel_rfl
theorem Tryz.sizeLett : (Tryz.prog.info? 209).map (·.size) = some 52 := by kernel_rfl
def NxS (w wr : World) (pb fb : Nat) (p : Pl) (A X : Nat → Bool) : Prop := Fr [] w wr ∧ Blk wr fb 1215 (zak A) ∧ PlAt wr pb p ∧ Blk wr w.heap.size 52 (zak fun _ => false) ∧ Blk wr (w.heap.size + 1) 52 (zak X) ∧ pb < w.heap.size ∧ fb < w.heap.size
theorem NxS.fr0 {w wr w' : World} {pb fb : Nat} {p : Pl} {A X : Nat → Bool} (h : NxS w wr pb fb p A X) (k : Fr [] wr w') : NxS w w' pb fb p A X :=
 ⟨h.1.trans0 k, h.2.1.fr0 k, h.2.2.1.fr k (by simp) (Nat.lt_of_lt_of_le h.2.2.2.2.2.1 h.1.size), h.2.2.2.1.fr0 k, h.2.2.2.2.1.fr0 k, h.2.2.2.2.2⟩
set_option maxRecDepth 100000 in
set_option maxHeartbeats 1600000 in
theorem p_nextLetters (pb fb : Nat) (p : Pl) (A : Nat → Bool) (w : World) (hP : PlAt w pb p) (hB : Blk w fb 1215 (zak A)) (hpl : pb < w.heap.size) :
 Calls Tryz.prog 142 #[.pointer (some ⟨pb, 0, none⟩), .pointer (some ⟨fb, 0, none⟩)] w fun e w' => e = .returned (Agg 52 (zak (nxB p A 45))) ∧ Fr [] w w' := by
 have HB := hide hB
 have HP := hide hP
 have lb := hB.lt
 clear hB hP
 go_enter Tryz.func142, Tryz.ntmps142
 go_wp2_with (first
  | (refine zab rfl 209 rfl (some 4) rfl 52 _ Tryz.zeroLett ?_; intro w1 hf1 hs1 hB1; have HR := hide hB1; have HF1 := hide hf1; clear hf1 hB1)
  | (refine zab rfl 209 rfl (some 5) rfl 52 _ Tryz.zeroLett ?_; intro w2 hf2 hs2 hB2; have H2 := hide (show NxS w w2 pb fb p A (nxB p A 0) from ⟨(zaa HF1).trans0 hf2, ((zaa HB).fr0 (zaa HF1)).fr0 hf2, ((zaa HP).fr ((zaa HF1).trans0 hf2) (by simp) hpl), (zaa HR).fr0 hf2, hs1 ▸ hB2.congr fun i _ => by (unfold zak nxB; rfl), hpl, lb⟩); clear hf2 hB2 HR HF1))
 clear HB HP
 go_loopw [6] (fun i wr => ∃ n : Nat, n ≤ 9 ∧ i = .int .i64 n ∧ Hid (NxS w wr pb fb p A (nxB p A (n * 5)))) (fun i _ => 9 - (intOf i).toNat)
 case atStart => exact ⟨0, by omega, rfl, H2⟩
 case round =>
  obtain ⟨n, hn, rfl, hs⟩ := hrel
  clear H2
  by_cases hlt : n < 9
  ·have hn9 : (n : Int) < 9 := by omega
   go_wp2
   go_loopw [7] (fun i wr => ∃ t : Nat, t ≤ 5 ∧ i = .int .i64 t ∧ Hid (NxS w wr pb fb p A (nxB p A (n * 5 + t)))) (fun i _ => 5 - (intOf i).toNat)
   case atStart => exact ⟨0, by omega, rfl, hs⟩
   case round =>
    clear hs
    obtain ⟨t, ht, rfl, hs⟩ := hrel
    by_cases htt : t < 5
    ·have HX := hide (nxB_succ p A (n * 5 + t))
     rw [show (n * 5 + t) / 5 = n from by omega, show (n * 5 + t) % 5 = t from by omega, show (n * 5 + t) * 27 = n * 135 + t * 27 from by omega] at HX
     cases hemp : empB (fun k => A (n * 135 + t * 27 + k))
     ·rw [hemp] at HX
      go_wp2_with (first
       | (go_at_call 149; refine (p_isEmpty fb (n * 135 + t * 27) (fun k => A (n * 135 + t * 27 + k)) _ ((zaa hs).2.1.cs (n * 135 + t * 27) 27 (by omega)) (Nat.lt_of_lt_of_le lb (zaa hs).1.size)).mono ?_; rintro e w5 ⟨rfl, hf5⟩; rw [hemp]; have H5 := hide ((zaa hs).fr0 hf5); have d1 : w5.cell? ⟨pb, 9 + n * 150 + t * 30, none⟩ = some (.int .u8 (p.lt n t : Nat)) := ((zaa H5).2.2.1.spot n t hlt htt 0 (by omega)); clear hf5)
       | (go_at_call 150; refine (p_ladd (w.heap.size + 1) (p.lt n t) _ _ (by exact (zaa H5).2.2.2.2.1)).mono ?_; rintro e w6 ⟨rfl, hf6, hB6⟩; have H6 := hide (show NxS w w6 pb fb p A (nxB p A (n * 5 + (t + 1))) from ⟨(zaa H5).1.trans1 hf6 (Or.inr (by omega)), (zaa H5).2.1.fr1 hf6 (by omega), (zaa H5).2.2.1.fr hf6 (by simp; omega) (Nat.lt_of_lt_of_le hpl (zaa H5).1.size), (zaa H5).2.2.2.1.fr1 hf6 (by omega), hB6.congr fun i _ => by (unfold zak adL; rw [← Nat.add_assoc, zaa HX i]; rfl), hpl, lb⟩); clear hf6 hB6))
      go_roundw
      case rel => exact ⟨t + 1, by omega, by go_num, H6⟩
      case measure => simp [intOf]; omega
     ·rw [hemp] at HX
      go_wp2_with (first
       | (go_at_call 149; refine (p_isEmpty fb (n * 135 + t * 27) (fun k => A (n * 135 + t * 27 + k)) _ ((zaa hs).2.1.cs (n * 135 + t * 27) 27 (by omega)) (Nat.lt_of_lt_of_le lb (zaa hs).1.size)).mono ?_; rintro e w5 ⟨rfl, hf5⟩; rw [hemp]; have H5 := hide ((zaa hs).fr0 hf5); clear hf5))
      have H6 := hide (show NxS w w5 pb fb p A (nxB p A (n * 5 + (t + 1))) from ⟨(zaa H5).1, (zaa H5).2.1, (zaa H5).2.2.1, (zaa H5).2.2.2.1, (zaa H5).2.2.2.2.1.congr fun i _ => by (unfold zak; rw [← Nat.add_assoc, zaa HX i]; simp), hpl, lb⟩)
      go_roundw
      case rel => exact ⟨t + 1, by omega, by go_num, H6⟩
      case measure => simp [intOf]; omega
    ·have HN := hide (show NxS w wr pb fb p A (nxB p A ((n + 1) * 5)) from by
      have e : t = 5 := by omega
      subst e; rw [Nat.add_mul]; exact zaa hs)
     clear hs
     go_wp2
     go_roundw
     case rel => exact ⟨n + 1, by omega, by go_num, HN⟩
     case measure => simp [intOf]; omega
  ·have HN := hide (show NxS w wr pb fb p A (nxB p A 45) from by
    have e : n = 9 := by omega
    subst e; exact zaa hs)
   clear hs
   go_wp2_with (first
    | (refine zaf rfl 209 (.tmp 5) rfl (some 35) rfl (w.heap.size + 1) 0 52 52 (zak (nxB p A 45)) _ rfl (by exact (zaa HN).2.2.2.2.1) Tryz.underlying209 rfl Tryz.sizeLett (by omega) ?_)
    | (refine zac rfl 209 (.tmp 4) (.tmp 35) rfl w.heap.size 0 52 52 (zak fun _ => false) (fun i => zak (nxB p A 45) (0 + i)) rfl rfl (by exact (zaa HN).2.2.2.1) Tryz.sizeLett (by omega) (fun _ _ => rfl) ?_; intro w7 hf7 hs7 hB7))
   exact bodyPost_ret (zaj Tryz.results142 _ w.heap.size rfl 52 52 _ _ (hB7.congr fun i hi => zag _ _ _ i hi) Tryz.underlying209 rfl Tryz.sizeLett (by omega)) rfl ⟨by congr 2; funext i; rw [Nat.zero_add], (zaa HN).1.trans1 hf7 (Or.inr (Nat.le_refl _))⟩
end Go.Proofs.YtkglggkkbmmjkabGreatDoor
