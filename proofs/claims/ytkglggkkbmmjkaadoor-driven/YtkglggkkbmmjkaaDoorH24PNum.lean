import Derived.Test.YtkglggkkbmmjkaaDoorH23PCore
import Derived.Test.YtkglggkkbmmjkaaDoorH11RAlike
namespace Go.Proofs.YtkglggkkbmmjkaaDoor
open Go.RowKit

/-- the number of the state with these items -/
def numP (S : List Sd) (B : Nat → Bool) : Option Nat := S.findIdx? fun s => allB 1215 s.A B
theorem numP_some {S : List Sd} {B : Nat → Bool} {i : Nat} (hi : i < S.length) (h : allB 1215 (sget S i).A B = true) (hb : ∀ j, j < i → allB 1215 (sget S j).A B = false) : numP S B = some i := by
  unfold numP
  rw [sget_eq S i hi] at h
  rw [List.findIdx?_eq_some_iff_getElem]
  exact ⟨hi, h, fun j hj => by have := hb j hj; rw [sget_eq S j (by omega)] at this; simp [this]⟩
theorem numP_none {S : List Sd} {B : Nat → Bool} (hb : ∀ j, j < S.length → allB 1215 (sget S j).A B = false) : numP S B = none := by
  unfold numP
  rw [List.findIdx?_eq_none_iff]
  intro s hs
  obtain ⟨j, hj, rfl⟩ := List.getElem_of_mem hs
  have := hb j hj
  rw [sget_eq S j hj] at this
  exact this
/-- a new state -/
def sdN (S : List Sd) (B : Nat → Bool) (cores : Nat) : Sd := ⟨B, fun _ => 0, corM S B cores⟩
def corN (S : List Sd) (B : Nat → Bool) (cores : Nat) : Nat := if corM S B cores = cores then cores + 1 else cores
/-- what numberOf hands back -/
def NumPO (w : World) (tb base : Nat) (p : Pl) (v : Value) (S : List Sd) (cores fault : Nat) (B : Nat → Bool) (e : Ending) (w' : World) : Prop :=
  (∀ i, numP S B = some i → e = .returned (.int .i64 i) ∧ Fr [] w w') ∧
  (numP S B = none → 40 ≤ S.length → e = .returned (.int .i64 (-1)) ∧ Fr [tb] w w' ∧ TbAt w' tb base p v S cores 6) ∧
  (numP S B = none → S.length < 40 → e = .returned (.int .i64 S.length) ∧ Fr (tb :: v.ownBlock.toList) w w' ∧ ∃ v', TbAt w' tb base p v' (S ++ [sdN S B cores]) (corN S B cores) fault ∧ (∀ g, v'.ownBlock = some g → v.ownBlock = some g ∨ w.heap.size ≤ g))

theorem Tryd.bytesState : (Tryd.prog.info? 102).map (·.bytes) = some 1640 := by kernel_rfl
set_option maxRecDepth 100000 in
theorem Tryd.partsState : ∃ i, Tryd.prog.info? 102 = some i ∧ i.zero = some (Agg 1268 (stF sd0)) ∧ i.size = 1268 ∧ i.bytes = 1640 := by
  have h1 := Tryd.zeroState
  have h2 := Tryd.sizeState
  have h3 := Tryd.bytesState
  cases hq : Tryd.prog.info? 102 with
  | none => rw [hq] at h2; cases h2
  | some i =>
    rw [hq] at h1 h2 h3
    exact ⟨i, rfl, h1, Option.some.inj h2, Option.some.inj h3⟩
theorem aux1 {n j : Nat} (h : j < n * 1268) : j < (n + 1) * 1268 ∧ j / 1268 < n := by omega
theorem aux2 {n j : Nat} (h : ¬ j < n * 1268) (h2 : j < (n + 1) * 1268) : j - n * 1268 < 1 * 1268 ∧ j / 1268 = n ∧ j % 1268 = j - n * 1268 := by omega
theorem aux3 {n j : Nat} (h2 : ¬ j < (n + 1) * 1268) : 1 * 1268 ≤ j - n * 1268 ∧ (n + 1) * 1268 ≤ j := by omega
theorem rwC_snoc (S : List Sd) (s : Sd) : rwC S.length 1268 (rwF S) ++ rwC 1 1268 (stF s) = rwC (S.length + [s].length) 1268 (rwF (S ++ [s])) := by
  apply List.ext_getElem?
  intro j
  rw [show [s].length = 1 from rfl]
  by_cases h : j < S.length * 1268
  · rw [List.getElem?_append_left (by rw [rwC_len]; exact h), rwC_get S.length 1268 (rwF S) j h, rwC_get (S.length + 1) 1268 (rwF (S ++ [s])) j (aux1 h).1]
    unfold rwF sget
    rw [List.getD_eq_getElem?_getD, List.getD_eq_getElem?_getD, List.getElem?_append_left (aux1 h).2]
  · rw [List.getElem?_append_right (by rw [rwC_len]; exact Nat.le_of_not_lt h), rwC_len]
    by_cases h2 : j < (S.length + 1) * 1268
    · obtain ⟨h5, h6, h7⟩ := aux2 h h2
      rw [rwC_get 1 1268 (stF s) _ h5, rwC_get (S.length + 1) 1268 (rwF (S ++ [s])) j h2]
      unfold rwF sget
      rw [List.getD_eq_getElem?_getD, h6, h7, List.getElem?_append_right (Nat.le_refl _)]
      simp
    · rw [List.getElem?_eq_none (by rw [rwC_len]; exact (aux3 h2).1), List.getElem?_eq_none (by rw [rwC_len]; exact (aux3 h2).2)]
theorem tbF_fault (p : Pl) (v : Value) (cores fault k : Nat) (i : Nat) (hi : i < 1362) : upd (tbF p v cores fault) 1361 (.int .i64 (k : Nat)) i = tbF p v cores k i := by
  unfold upd tbF
  by_cases h : i = 1361
  · subst h; rfl
  · rw [if_neg h]
    by_cases h1 : i < 1359
    · rw [if_pos h1, if_pos h1]
    · rw [if_neg h1, if_neg h1]
      by_cases h2 : i = 1359
      · rw [if_pos h2, if_pos h2]
      · rw [if_neg h2, if_neg h2, if_pos (by omega), if_pos (by omega)]
theorem stN_cells (S : List Sd) (B : Nat → Bool) (cores : Nat) (i : Nat) (hi : i < 1268) : upd (lay (stF sd0) 0 1215 (boolF B)) 1267 (.int .i64 (corM S B cores : Nat)) i = stF (sdN S B cores) i := by
  unfold upd lay stF sdN sd0
  by_cases h : i = 1267
  · subst h; rfl
  · rw [if_neg h]
    by_cases h1 : i < 1215
    · rw [if_pos (by omega), if_pos h1]; rfl
    · rw [if_neg (by omega), if_neg h1, if_neg h1, if_pos (by omega), if_pos (by omega)]

/-- numberOf's state behind the new state's making -/
def NwS (w wr : World) (tb base fb : Nat) (p : Pl) (v : Value) (S : List Sd) (cores fault : Nat) (s : Sd) : Prop := Fr [] w wr ∧ TbAt wr tb base p v S cores fault ∧ Blk wr fb 1268 (stF s) ∧ w.heap.size ≤ fb ∧ v.ownBlock ≠ some fb

theorem NwS.fr0 {w wr w' : World} {tb base fb : Nat} {p : Pl} {v : Value} {S : List Sd} {cores fault : Nat} {s : Sd} (h : NwS w wr tb base fb p v S cores fault s) (k : Fr [] wr w') : NwS w w' tb base fb p v S cores fault s :=
  ⟨h.1.trans0 k, h.2.1.fr0 k, h.2.2.1.fr0 k, h.2.2.2⟩
def NwT (w wr : World) (tb base fb : Nat) (p : Pl) (v : Value) (S : List Sd) (cores fault : Nat) (s : Sd) : Prop := Fr [tb] w wr ∧ TbAt wr tb base p v S cores fault ∧ Blk wr fb 1268 (stF s) ∧ w.heap.size ≤ fb ∧ v.ownBlock ≠ some fb
theorem NwT.fr0 {w wr w' : World} {tb base fb : Nat} {p : Pl} {v : Value} {S : List Sd} {cores fault : Nat} {s : Sd} (h : NwT w wr tb base fb p v S cores fault s) (k : Fr [] wr w') : NwT w w' tb base fb p v S cores fault s :=
  ⟨h.1.trans0 k, h.2.1.fr0 k, h.2.2.1.fr0 k, h.2.2.2⟩
theorem tbF_cores (p : Pl) (v : Value) (cores fault : Nat) (i : Nat) : upd (tbF p v cores fault) 1360 (.int .i64 ((cores : Int) + 1)) i = tbF p v (cores + 1) fault i := by
  unfold upd tbF
  by_cases h : i = 1360
  · subst h
    rw [if_pos rfl, if_neg (by omega), if_neg (by omega), if_pos rfl]; rfl
  · rw [if_neg h]
    by_cases h1 : i < 1359
    · rw [if_pos h1, if_pos h1]
    · rw [if_neg h1, if_neg h1]
      by_cases h2 : i = 1359
      · rw [if_pos h2, if_pos h2]
      · rw [if_neg h2, if_neg h2, if_neg h, if_neg h]
theorem tbF_v (p : Pl) (v v' : Value) (cores fault : Nat) (i : Nat) : upd (tbF p v cores fault) 1359 v' i = tbF p v' cores fault i := by
  unfold upd tbF
  by_cases h : i = 1359
  · subst h
    rw [if_pos rfl, if_neg (by omega), if_pos rfl]
  · rw [if_neg h]
    by_cases h1 : i < 1359
    · rw [if_pos h1, if_pos h1]
    · rw [if_neg h1, if_neg h1, if_neg h, if_neg h]
theorem NwS.up {w wr : World} {tb base fb : Nat} {p : Pl} {v : Value} {S : List Sd} {cores fault : Nat} {s : Sd} (h : NwS w wr tb base fb p v S cores fault s) (hf : fb ≠ tb) : NwT w (wr.setCell ⟨tb, 1360, none⟩ (.int .i64 ((cores : Int) + 1))) tb base fb p v S (cores + 1) fault s := by
  have k := (Fr.refl [tb] wr).setCell ⟨tb, 1360, none⟩ (by simp) (.int .i64 ((cores : Int) + 1))
  refine ⟨(h.1.weak (by simp)).trans k (by simp), ⟨(h.2.1.blk.setCell 1360 _).congr fun i _ => tbF_cores p v cores fault i, h.2.1.row.fr k (fun g hg => ?_), h.2.1.lt⟩, h.2.2.1.fr1 k hf, h.2.2.2⟩
  have := (h.2.1.row.lt hg).1
  have := h.2.1.lt
  simp; omega

set_option maxRecDepth 100000 in
set_option maxHeartbeats 2000000 in
/-- table.numberOf -/
theorem p_numberOf (tb base ib : Nat) (p : Pl) (v : Value) (S : List Sd) (cores fault : Nat) (B : Nat → Bool) (w : World) (h : TbAt w tb base p v S cores fault) (hB : Blk w ib 1215 (boolF B)) (hS : S.length ≤ 40) (hco : cores ≤ 40) (hbs : base ≤ w.heap.size) :
    Calls Tryd.prog 60 #[.pointer (some ⟨tb, 0, none⟩), .pointer (some ⟨ib, 0, none⟩)] w fun e w' => NumPO w tb base p v S cores fault B e w' := by
  obtain ⟨ao, cap, hv, hao⟩ := h.form
  have H := hide h
  have HB := hide hB
  have lb := h.blk.lt
  have li := hB.lt
  have HV := hide hv
  clear h hB
  rw [hv] at *
  clear hv
  go_enter Tryd.func60, Tryd.ntmps60
  go_wp2
  go_loopw [5] (fun i wr => ∃ n : Nat, n ≤ S.length ∧ i = .int .i64 n ∧ Hid (∀ j, j < n → allB 1215 (sget S j).A B = false) ∧ Hid (Fr [] w wr)) (fun i _ => S.length - (intOf i).toNat)
  case atStart => exact ⟨0, by omega, rfl, fun j hj => by omega, Fr.refl _ _⟩
  case round =>
    obtain ⟨n, hn, rfl, hm, hs⟩ := hrel
    have HT := hide ((unhide H).fr0 (unhide hs))
    have c0 := (unhide HT).v
    by_cases hlt : n < S.length
    · obtain ⟨g, hg, _⟩ := hao (by omega)
      subst hg
      have HI := hide ((unhide HT).items n hlt)
      have HBr := hide (show CsAt wr ib 0 1215 (boolF B) from fun i hi => by rw [Nat.zero_add]; exact ((unhide HB).fr0 (unhide hs)).cell i hi)
      have hni : (n : Int) < S.length := by omega
      go_wp2
      refine wp_region_held_drew (S := fun w' => w'.cell? ⟨tb, 1359, none⟩ = some (.slice (some ⟨g, 0, none⟩) S.length cap) ∧ CsAt w' g (n * 1268) 1215 (boolF (sget S n).A) ∧ CsAt w' ib 0 1215 (boolF B)) (by kernel_rfl) ⟨c0, unhide HI, unhide HBr⟩ (fun hHeld => ?_)
      refine wpAnyH_takeD (i := 0) (v := .pointer (some ⟨tb, 0, none⟩)) rfl rfl (by kernel_rfl) (by kernel_rfl) (by kernel_rfl) (fun _ _ _ h => h) (Or.inl ⟨by rfl, fun _ _ => rfl⟩) hHeld ?_
      simp only [Act.put, List.setIfInBounds_toArray, List.set_cons_zero, List.set_cons_succ]
      refine wpAnyH_takeD (i := 1) (v := .pointer (some ⟨tb, 0, none⟩)) rfl rfl (by kernel_rfl) (by kernel_rfl) (by kernel_rfl) (fun _ _ _ h => h) (Or.inl ⟨by rfl, fun _ _ => rfl⟩) hHeld ?_
      simp only [Act.put, List.setIfInBounds_toArray, List.set_cons_zero, List.set_cons_succ]
      refine wpAnyH_takeD (i := 2) (v := .pointer (some ⟨tb, 1359, none⟩)) rfl rfl (by kernel_rfl) (by kernel_rfl) (by kernel_rfl) (fun _ _ _ h => h) (Or.inl ⟨by rfl, fun _ _ => by go_simp⟩) hHeld ?_
      simp only [Act.put, List.setIfInBounds_toArray, List.set_cons_zero, List.set_cons_succ]
      refine wpAnyH_takeD (i := 3) (v := .slice (some ⟨g, 0, none⟩) S.length cap) rfl rfl (by kernel_rfl) (by kernel_rfl) (by kernel_rfl) (fun _ _ _ h => h) (Or.inl ⟨by rfl, fun w' hw => by have hc := hw.1; go_simp⟩) hHeld ?_
      simp only [Act.put, List.setIfInBounds_toArray, List.set_cons_zero, List.set_cons_succ]
      refine wpAnyH_takeD (i := 4) (v := .int .i64 n) rfl rfl (by kernel_rfl) (by kernel_rfl) (by kernel_rfl) (fun _ _ _ h => h) (Or.inl ⟨by rfl, fun _ _ => rfl⟩) hHeld ?_
      simp only [Act.put, List.setIfInBounds_toArray, List.set_cons_zero, List.set_cons_succ]
      refine wpAnyH_takeD (i := 5) (v := .pointer (some ⟨g, n * 1268, none⟩)) rfl rfl (by kernel_rfl) (by kernel_rfl) (by kernel_rfl) (fun _ _ _ h => h) (Or.inl ⟨by rfl, fun _ _ => by go_simp⟩) hHeld ?_
      simp only [Act.put, List.setIfInBounds_toArray, List.set_cons_zero, List.set_cons_succ]
      refine wpAnyH_takeD (i := 6) (v := .pointer (some ⟨g, n * 1268, none⟩)) rfl rfl (by kernel_rfl) (by kernel_rfl) (by kernel_rfl) (fun _ _ _ h => h) (Or.inl ⟨by rfl, fun _ _ => by go_simp⟩) hHeld ?_
      simp only [Act.put, List.setIfInBounds_toArray, List.set_cons_zero, List.set_cons_succ]
      refine wpAnyH_takeD (i := 7) rfl rfl (by kernel_rfl) (by kernel_rfl) (by kernel_rfl) (fun _ _ _ h => h) (yieldsIf_load_cs (by rfl) 99 (.tmp 22) rfl g (n * 1268) 1215 (boolF (sget S n).A) _ rfl (fun _ h => h.2.1) Tryd.underlying99 rfl Tryd.sizeItems) hHeld ?_
      simp only [Act.put, List.setIfInBounds_toArray, List.set_cons_zero, List.set_cons_succ]
      refine wpAnyH_takeD (i := 8) (v := .pointer (some ⟨ib, 0, none⟩)) rfl rfl (by kernel_rfl) (by kernel_rfl) (by kernel_rfl) (fun _ _ _ h => h) (Or.inl ⟨by rfl, fun _ _ => rfl⟩) hHeld ?_
      simp only [Act.put, List.setIfInBounds_toArray, List.set_cons_zero, List.set_cons_succ]
      refine wpAnyH_takeD (i := 9) (v := .pointer (some ⟨ib, 0, none⟩)) rfl rfl (by kernel_rfl) (by kernel_rfl) (by kernel_rfl) (fun _ _ _ h => h) (Or.inl ⟨by rfl, fun _ _ => rfl⟩) hHeld ?_
      simp only [Act.put, List.setIfInBounds_toArray, List.set_cons_zero, List.set_cons_succ]
      refine wpAnyH_takeD (i := 10) rfl rfl (by kernel_rfl) (by kernel_rfl) (by kernel_rfl) (fun _ _ _ h => h) (yieldsIf_load_cs (by rfl) 99 (.tmp 25) rfl ib 0 1215 (boolF B) _ rfl (fun _ h => h.2.2) Tryd.underlying99 rfl Tryd.sizeItems) hHeld ?_
      simp only [Act.put, List.setIfInBounds_toArray, List.set_cons_zero, List.set_cons_succ]
      refine wpAnyH_takeD (i := 11) rfl rfl (by kernel_rfl) (by kernel_rfl) (by kernel_rfl) (fun _ _ _ h => h) (yieldsIf_eql (by rfl) 99 99 (.tmp 23) (.tmp 26) rfl 1215 (sget S n).A B _ rfl rfl Tryd.eqItems Tryd.underlying99 rfl (by kernel_rfl)) hHeld ?_
      simp only [Act.put, List.setIfInBounds_toArray, List.set_cons_zero, List.set_cons_succ]
      refine wpAnyH_done (by kernel_rfl) ?_ _
      clear hHeld
      cases he : allB 1215 (sget S n).A B
      · have HN := hide (show ∀ j, j < n + 1 → allB 1215 (sget S j).A B = false from fun j hj => by
          by_cases e : j = n
          · subst e; exact he
          · exact unhide hm j (by omega))
        have H5 := hide ((unhide hs).drew)
        go_wp2
        go_roundw
        case rel => exact ⟨n + 1, by omega, by go_num, HN, H5⟩
        case measure => simp [intOf]; omega
      · have HN := hide (numP_some hlt he (unhide hm))
        have H5 := hide ((unhide hs).drew)
        go_wp2
        go_ret
        exact ⟨fun j hj => by rw [unhide HN] at hj; cases hj; exact ⟨rfl, unhide H5⟩, (fun hj => by rw [unhide HN] at hj; cases hj), (fun hj => by rw [unhide HN] at hj; cases hj)⟩
    · have HN := hide (numP_none (S := S) (B := B) (fun j hj => unhide hm j (by omega)))
      by_cases h40 : 40 ≤ S.length
      · have c3 := (unhide HT).fault
        have z3 := (unhide HT).blk.free 1361
        have H6 := hide (show Fr [tb] w (wr.setCell ⟨tb, 1361, none⟩ (.int .i64 6)) ∧ TbAt (wr.setCell ⟨tb, 1361, none⟩ (.int .i64 6)) tb base p (.slice ao S.length cap) S cores 6 from by
          have k := (Fr.refl [tb] wr).setCell ⟨tb, 1361, none⟩ (by simp) (.int .i64 6)
          refine ⟨((unhide hs).weak (by simp)).trans k (by simp), ((unhide HT).blk.setCell 1361 (.int .i64 6)).congr fun i hi => tbF_fault p _ cores fault 6 i hi, (unhide HT).row.fr k (fun g hg => ?_), (unhide HT).lt⟩
          have := ((unhide HT).row.lt hg).1
          have := (unhide HT).lt
          simp; omega)
        go_wp2
        go_ret
        exact ⟨(fun j hj => by rw [unhide HN] at hj; cases hj), fun _ _ => ⟨rfl, (unhide H6).1, (unhide H6).2⟩, fun _ hh => by omega⟩
      · have hlt40 : S.length < 40 := by omega
        go_wp2_with (first
          | (refine wpList_alloc_blk rfl 102 rfl (some 6) rfl 1268 _ Tryd.zeroState ?_; intro w1 hf1 hs1 hB1; have HF1 := hide ((unhide hs).trans0 hf1); have HA1 := hide hB1; clear hf1 hB1)
          | (refine wpList_load_cs rfl 99 (.tmp 39) rfl (some 40) rfl ib 0 1215 (boolF B) _ rfl (by exact fun i hi => (by rw [Nat.zero_add]; exact ((unhide HB).fr0 (unhide HF1)).cell i hi)) Tryd.underlying99 rfl Tryd.sizeItems ?_)
          | (refine wpList_store_blk rfl 99 (.tmp 41) (.tmp 40) rfl wr.heap.size 0 1215 1268 (stF sd0) (boolF B) rfl rfl (by exact unhide HA1) Tryd.sizeItems (by omega) (fun _ _ => rfl) ?_; intro w2 hf2 hs2 hB2; have HF2 := hide ((unhide HF1).trans1 hf2 (Or.inr (unhide hs).size)); have HA2 := hide hB2; clear hf2 hB2 HA1)
          | (go_at_call 75; refine (p_coreOf tb base ib p _ S cores fault B w2 ((unhide H).fr0 (unhide HF2)) ((unhide HB).fr0 (unhide HF2)) (by omega)).mono ?_; rintro e w3 ⟨rfl, hf3⟩; have HF3 := hide ((unhide HF2).trans0 hf3); have HA3 := hide ((unhide HA2).fr0 hf3); have d0 := (unhide HA3).cell 1267 (by omega); have y0 := (unhide HA3).free 1267; clear hf3))
        obtain ⟨w4, hw4⟩ : ∃ w4, w3.setCell ⟨wr.heap.size, 1267, none⟩ (.int .i64 (corM S B cores : Nat)) = w4 := ⟨_, rfl⟩
        rw [hw4]
        have H4 := hide (show NwS w w4 tb base wr.heap.size p (.slice ao S.length cap) S cores fault (sdN S B cores) from by
          have k4 : Fr [wr.heap.size] w3 w4 := hw4 ▸ (Fr.refl [wr.heap.size] w3).setCell ⟨wr.heap.size, 1267, none⟩ (by simp) _
          have ks := (unhide hs).size
          have hnb : (Value.slice ao S.length cap).ownBlock ≠ some wr.heap.size := fun e => by have := ((unhide HT).row.lt e).2; omega
          refine ⟨(unhide HF3).trans1 k4 (Or.inr ks), ((unhide H).fr0 (unhide HF3)).fr k4 (by simp; omega) (fun g hg => by simp; intro e; exact hnb (by rw [hg, e])), hw4 ▸ (((unhide HA3).setCell 1267 _).congr fun i hi => stN_cells S B cores i hi), ks, hnb⟩)
        have e0 : w4.cell? ⟨wr.heap.size, 1267, none⟩ = some (.int .i64 (corM S B cores : Nat)) := (unhide H4).2.2.1.cell 1267 (by omega)
        have e1 := (unhide H4).2.1.cores
        clear hw4 HF1 HF2 HF3 HA2 HA3 d0 y0
        have lbb := (unhide H).lt
        have ks := (unhide hs).size
        rcases Classical.em (corM S B cores = cores) with hcc | hcc
        case' inl =>
          have hci : (((corM S B cores : Nat) : Int) == (cores : Int)) = true := by rw [beq_iff_eq]; omega
          have HCN := hide (show corN S B cores = cores + 1 from if_pos hcc)
          have HCC := hide hcc
          clear hcc
          go_region
          obtain ⟨w5, hw5⟩ : ∃ w5, w4.drew = w5 := ⟨_, rfl⟩
          rw [hw5]
          have H5 := hide (show NwS w w5 tb base wr.heap.size p (.slice ao S.length cap) S cores fault (sdN S B cores) from hw5 ▸ (unhide H4).fr0 (Fr.refl [] w4).drew)
          clear hw5 e0 e1
          have e1 := (unhide H5).2.1.cores
          have y1 := (unhide H5).2.1.blk.free 1360
          have hwt : IntKind.i64.wrap ((cores : Int) + 1) = (cores : Int) + 1 := by rw [IntKind.wrap_i64]; omega
          go_wp2
          obtain ⟨w6, hw6⟩ : ∃ w6, w5.setCell ⟨tb, 1360, none⟩ (.int .i64 ((cores : Int) + 1)) = w6 := ⟨_, rfl⟩
          rw [hw6]
          have H6 := hide (show NwT w w6 tb base wr.heap.size p (.slice ao S.length cap) S (corN S B cores) fault (sdN S B cores) from by
            rw [unhide HCN]
            exact hw6 ▸ (unhide H5).up (by omega))
          clear hw6 H5 e1 y1 H4 HCC
          have q0 := (unhide H6).2.1.v
          refine wp_region_held_drew (S := fun w' => CsAt w' wr.heap.size 0 1268 (stF (sdN S B cores))) (by kernel_rfl) (fun i hi => (by rw [Nat.zero_add]; exact (unhide H6).2.2.1.drew.cell i hi)) (fun hHeld => ?_)
          refine wpAnyH_takeD (i := 0) (v := .pointer (some ⟨tb, 0, none⟩)) rfl rfl (by kernel_rfl) (by kernel_rfl) (by kernel_rfl) (fun _ _ _ h => h) (Or.inl ⟨by rfl, fun _ _ => rfl⟩) hHeld ?_
          simp only [Act.put, List.setIfInBounds_toArray, List.set_cons_zero, List.set_cons_succ]
          refine wpAnyH_takeD (i := 1) (v := .pointer (some ⟨tb, 0, none⟩)) rfl rfl (by kernel_rfl) (by kernel_rfl) (by kernel_rfl) (fun _ _ _ h => h) (Or.inl ⟨by rfl, fun _ _ => rfl⟩) hHeld ?_
          simp only [Act.put, List.setIfInBounds_toArray, List.set_cons_zero, List.set_cons_succ]
          refine wpAnyH_takeD (i := 2) (v := .pointer (some ⟨tb, 0, none⟩)) rfl rfl (by kernel_rfl) (by kernel_rfl) (by kernel_rfl) (fun _ _ _ h => h) (Or.inl ⟨by rfl, fun _ _ => rfl⟩) hHeld ?_
          simp only [Act.put, List.setIfInBounds_toArray, List.set_cons_zero, List.set_cons_succ]
          refine wpAnyH_takeD (i := 3) (v := .pointer (some ⟨tb, 1359, none⟩)) rfl rfl (by kernel_rfl) (by kernel_rfl) (by kernel_rfl) (fun _ _ _ h => h) (Or.inl ⟨by rfl, fun _ _ => by go_simp⟩) hHeld ?_
          simp only [Act.put, List.setIfInBounds_toArray, List.set_cons_zero, List.set_cons_succ]
          refine wpAnyH_takeD (i := 5) rfl rfl (by kernel_rfl) (by kernel_rfl) (by kernel_rfl) (fun _ _ _ h => h) (yieldsIf_load_cs (by rfl) 102 (.tmp 6) rfl wr.heap.size 0 1268 (stF (sdN S B cores)) _ rfl (fun _ h => h) Tryd.underlying102 rfl Tryd.sizeState) hHeld ?_
          simp only [Act.put, List.setIfInBounds_toArray, List.set_cons_zero, List.set_cons_succ]
          refine wpAnyH_ready (rs := [4, 6]) (by kernel_rfl) (by simp) ?_
          refine AllReadyH.cons rfl (fun K hK => ?a4) (AllReadyH.cons rfl (fun K hK => ?a6) AllReadyH.nil)
          case' a4 =>
            rw [if_pos (by rfl)]
            go_wp2_with fail
            refine hK.out _ _ hHeld (fun hHeld => ?_)
            refine wpAnyH_ready (rs := [6]) (by kernel_rfl) (by simp) ?_
            refine AllReadyH.cons rfl (fun K2 hK2 => ?_) AllReadyH.nil
            rw [if_pos (by rfl)]
            refine op_buildSlice_one 55 102 (.tmp 65) rfl (some 66) rfl 1268 (stF (sdN S B cores)) (Agg 1268 (stF sd0)) (by rfl) Tryd.underlying55 Tryd.sizeState Tryd.zeroState (by omega) (by omega) (by simp [Agg, Value.cells]) ?_
            intro w7 hf7 hs7 hB7
            have H7 := hide (show NwT w w7 tb base wr.heap.size p (.slice ao S.length cap) S (corN S B cores) fault (sdN S B cores) from (unhide H6).fr0 ((Fr.refl [] w6).drew.trans0 hf7))
            refine hK2.out _ _ (fun i hi => (by rw [Nat.zero_add]; exact (unhide H7).2.2.1.cell i hi)) (fun hHeld => ?_)
            simp only [Act.put, List.setIfInBounds_toArray, List.set_cons_zero, List.set_cons_succ]
            clear hK hK2
          case' a6 =>
            rw [if_pos (by rfl)]
            refine op_buildSlice_one 55 102 (.tmp 65) rfl (some 66) rfl 1268 (stF (sdN S B cores)) (Agg 1268 (stF sd0)) (by rfl) Tryd.underlying55 Tryd.sizeState Tryd.zeroState (by omega) (by omega) (by simp [Agg, Value.cells]) ?_
            intro w7 hf7 hs7 hB7
            have H7 := hide (show NwT w w7 tb base wr.heap.size p (.slice ao S.length cap) S (corN S B cores) fault (sdN S B cores) from (unhide H6).fr0 ((Fr.refl [] w6).drew.trans0 hf7))
            refine hK.out _ _ (fun i hi => (by rw [Nat.zero_add]; exact (unhide H7).2.2.1.cell i hi)) (fun hHeld => ?_)
            simp only [Act.put, List.setIfInBounds_toArray, List.set_cons_zero, List.set_cons_succ]
            have q7 := (unhide H7).2.1.v
            refine wpAnyH_ready (rs := [4]) (by kernel_rfl) (by simp) ?_
            refine AllReadyH.cons rfl (fun K2 hK2 => ?_) AllReadyH.nil
            rw [if_pos (by rfl)]
            go_wp2_with fail
            refine hK2.out _ _ hHeld (fun hHeld => ?_)
            clear hK hK2 q7
        case' inr =>
          have hci : (((corM S B cores : Nat) : Int) == (cores : Int)) = false := by rw [beq_eq_false_iff_ne]; omega
          have HCN := hide (show corN S B cores = cores from if_neg hcc)
          clear hcc
          go_region
          obtain ⟨w6, hw6⟩ : ∃ w6, w4.drew = w6 := ⟨_, rfl⟩
          rw [hw6]
          have H6 := hide (show NwT w w6 tb base wr.heap.size p (.slice ao S.length cap) S (corN S B cores) fault (sdN S B cores) from by
            rw [unhide HCN]
            have := hw6 ▸ (unhide H4).fr0 (Fr.refl [] w4).drew
            exact ⟨this.1.weak (by simp), this.2⟩)
          clear hw6 H4 e0 e1
          go_wp2
          have q0 := (unhide H6).2.1.v
          refine wp_region_held_drew (S := fun w' => CsAt w' wr.heap.size 0 1268 (stF (sdN S B cores))) (by kernel_rfl) (fun i hi => (by rw [Nat.zero_add]; exact (unhide H6).2.2.1.drew.cell i hi)) (fun hHeld => ?_)
          refine wpAnyH_takeD (i := 0) (v := .pointer (some ⟨tb, 0, none⟩)) rfl rfl (by kernel_rfl) (by kernel_rfl) (by kernel_rfl) (fun _ _ _ h => h) (Or.inl ⟨by rfl, fun _ _ => rfl⟩) hHeld ?_
          simp only [Act.put, List.setIfInBounds_toArray, List.set_cons_zero, List.set_cons_succ]
          refine wpAnyH_takeD (i := 1) (v := .pointer (some ⟨tb, 0, none⟩)) rfl rfl (by kernel_rfl) (by kernel_rfl) (by kernel_rfl) (fun _ _ _ h => h) (Or.inl ⟨by rfl, fun _ _ => rfl⟩) hHeld ?_
          simp only [Act.put, List.setIfInBounds_toArray, List.set_cons_zero, List.set_cons_succ]
          refine wpAnyH_takeD (i := 2) (v := .pointer (some ⟨tb, 0, none⟩)) rfl rfl (by kernel_rfl) (by kernel_rfl) (by kernel_rfl) (fun _ _ _ h => h) (Or.inl ⟨by rfl, fun _ _ => rfl⟩) hHeld ?_
          simp only [Act.put, List.setIfInBounds_toArray, List.set_cons_zero, List.set_cons_succ]
          refine wpAnyH_takeD (i := 3) (v := .pointer (some ⟨tb, 1359, none⟩)) rfl rfl (by kernel_rfl) (by kernel_rfl) (by kernel_rfl) (fun _ _ _ h => h) (Or.inl ⟨by rfl, fun _ _ => by go_simp⟩) hHeld ?_
          simp only [Act.put, List.setIfInBounds_toArray, List.set_cons_zero, List.set_cons_succ]
          refine wpAnyH_takeD (i := 5) rfl rfl (by kernel_rfl) (by kernel_rfl) (by kernel_rfl) (fun _ _ _ h => h) (yieldsIf_load_cs (by rfl) 102 (.tmp 6) rfl wr.heap.size 0 1268 (stF (sdN S B cores)) _ rfl (fun _ h => h) Tryd.underlying102 rfl Tryd.sizeState) hHeld ?_
          simp only [Act.put, List.setIfInBounds_toArray, List.set_cons_zero, List.set_cons_succ]
          refine wpAnyH_ready (rs := [4, 6]) (by kernel_rfl) (by simp) ?_
          refine AllReadyH.cons rfl (fun K hK => ?b4) (AllReadyH.cons rfl (fun K hK => ?b6) AllReadyH.nil)
          case' b4 =>
            rw [if_pos (by rfl)]
            go_wp2_with fail
            refine hK.out _ _ hHeld (fun hHeld => ?_)
            refine wpAnyH_ready (rs := [6]) (by kernel_rfl) (by simp) ?_
            refine AllReadyH.cons rfl (fun K2 hK2 => ?_) AllReadyH.nil
            rw [if_pos (by rfl)]
            refine op_buildSlice_one 55 102 (.tmp 65) rfl (some 66) rfl 1268 (stF (sdN S B cores)) (Agg 1268 (stF sd0)) (by rfl) Tryd.underlying55 Tryd.sizeState Tryd.zeroState (by omega) (by omega) (by simp [Agg, Value.cells]) ?_
            intro w7 hf7 hs7 hB7
            have H7 := hide (show NwT w w7 tb base wr.heap.size p (.slice ao S.length cap) S (corN S B cores) fault (sdN S B cores) from (unhide H6).fr0 ((Fr.refl [] w6).drew.trans0 hf7))
            refine hK2.out _ _ (fun i hi => (by rw [Nat.zero_add]; exact (unhide H7).2.2.1.cell i hi)) (fun hHeld => ?_)
            simp only [Act.put, List.setIfInBounds_toArray, List.set_cons_zero, List.set_cons_succ]
            clear hK hK2
          case' b6 =>
            rw [if_pos (by rfl)]
            refine op_buildSlice_one 55 102 (.tmp 65) rfl (some 66) rfl 1268 (stF (sdN S B cores)) (Agg 1268 (stF sd0)) (by rfl) Tryd.underlying55 Tryd.sizeState Tryd.zeroState (by omega) (by omega) (by simp [Agg, Value.cells]) ?_
            intro w7 hf7 hs7 hB7
            have H7 := hide (show NwT w w7 tb base wr.heap.size p (.slice ao S.length cap) S (corN S B cores) fault (sdN S B cores) from (unhide H6).fr0 ((Fr.refl [] w6).drew.trans0 hf7))
            refine hK.out _ _ (fun i hi => (by rw [Nat.zero_add]; exact (unhide H7).2.2.1.cell i hi)) (fun hHeld => ?_)
            simp only [Act.put, List.setIfInBounds_toArray, List.set_cons_zero, List.set_cons_succ]
            have q7 := (unhide H7).2.1.v
            refine wpAnyH_ready (rs := [4]) (by kernel_rfl) (by simp) ?_
            refine AllReadyH.cons rfl (fun K2 hK2 => ?_) AllReadyH.nil
            rw [if_pos (by rfl)]
            go_wp2_with fail
            refine hK2.out _ _ hHeld (fun hHeld => ?_)
            clear hK hK2 q7
        all_goals
          refine wpAnyH_ready (rs := [7]) (by kernel_rfl) (by simp) ?_
          refine AllReadyH.cons rfl (fun K hK => ?_) AllReadyH.nil
          obtain ⟨i0, hi0, hz0, hz1, hz2⟩ := Tryd.partsState
          have hb7 : base ≤ w7.heap.size := Nat.le_trans hbs (unhide H7).1.size
          refine step_append_lies _ rfl (.tmp 64) (.tmp 66) 55 rfl base 102 i0 _ 1268 1640 Tryd.underlying55 hi0 hz0 hz1 hz2 (by simp [Agg, Value.cells]) (by omega) (.slice ao S.length cap) S.length (rwC S.length 1268 (rwF S)) (by rfl) (by exact (unhide H7).2.1.row) ⟨w6.heap.size, 0, none⟩ 1 1 (rwC 1 1268 (stF (sdN S B cores))) (by rfl) (rwC_len _ _ _) (fun j u hu => by
            have hj : j < 1 * 1268 := by rw [← rwC_len 1 1268 (stF (sdN S B cores))]; exact (List.getElem?_eq_some_iff.1 hu).1
            rw [rwC_get _ _ _ _ hj] at hu
            cases hu
            rw [Addr.add_mid, Nat.zero_add]
            exact hB7.cell j (by omega)) (fun u hu => by
            obtain ⟨j, hj, rfl⟩ := List.mem_map.1 hu
            exact oneB_stF _ (j + 1) j (by omega)) (by omega) (by unfold maxLen; omega) (by omega) hb7 _ rfl ?_
          intro g8 cap8 w8 hown8 hgrow8 hat8 hlt8
          have H8 := hide (show Fr (tb :: (Value.slice ao S.length cap).ownBlock.toList) w w8 ∧ Blk w8 tb 1362 (tbF p (.slice ao S.length cap) (corN S B cores) fault) ∧ GRow w8 base 102 1268 (.slice (some ⟨g8, 0, none⟩) (S.length + 1) cap8) (S ++ [sdN S B cores]).length (rwF (S ++ [sdN S B cores])) ∧ ((Value.slice ao S.length cap).ownBlock = some g8 ∨ w.heap.size ≤ g8) ∧ Blk w8 wr.heap.size 1268 (stF (sdN S B cores)) from by
            have hnt : some tb ≠ (Value.slice ao S.length cap).ownBlock := fun e => by have := ((unhide H).row.lt e.symm).1; omega
            refine ⟨(Fr.weak (unhide H7).1 (by simp)).of_grown hgrow8 (fun k hk => Or.inl (by rw [hk]; simp)), (unhide H7).2.1.blk.grown hgrow8 hnt, ?_, ?_, (unhide H7).2.2.1.grown hgrow8 (fun e => (unhide H7).2.2.2.2 e.symm)⟩
            · unfold GRow
              rw [List.length_append, ← rwC_snoc]
              exact hown8
            · rcases hat8 with h | h
              · exact Or.inl h
              · exact Or.inr (by rw [h]; exact (unhide H7).1.size))
          refine hK.out _ _ (fun i hi => (by rw [Nat.zero_add]; exact (unhide H8).2.2.2.2.cell i hi)) (fun hHeld => ?_)
          have r0 := (unhide H8).2.1.cell 1359 (by omega)
          have r1 := (unhide H8).2.1.free 1359
          clear hown8 hgrow8 hat8 hlt8 H7 H6 hf7 hB7 hs7 hK
          simp only [List.getElem_toArray, List.getElem_cons_succ, List.getElem_cons_zero, Act.put, List.setIfInBounds_toArray, List.set_cons_zero, List.set_cons_succ]
          refine wpAnyH_takeD (i := 8) (v := .pointer (some ⟨tb, 0, none⟩)) rfl rfl (by kernel_rfl) (by kernel_rfl) (by kernel_rfl) (fun _ _ _ h => h) (Or.inl ⟨by rfl, fun _ _ => rfl⟩) hHeld ?_
          simp only [Act.put, List.setIfInBounds_toArray, List.set_cons_zero, List.set_cons_succ]
          refine wpAnyH_takeD (i := 9) (v := .pointer (some ⟨tb, 1359, none⟩)) rfl rfl (by kernel_rfl) (by kernel_rfl) (by kernel_rfl) (fun _ _ _ h => h) (Or.inl ⟨by rfl, fun _ _ => by go_simp⟩) hHeld ?_
          simp only [Act.put, List.setIfInBounds_toArray, List.set_cons_zero, List.set_cons_succ]
          refine wpAnyH_ready (rs := [10]) (by kernel_rfl) (by simp) ?_
          refine AllReadyH.cons rfl (fun K hK => ?_) AllReadyH.nil
          rw [if_pos (by rfl)]
          go_wp2_with fail
          have HE := hide (show NumPO w tb base p (.slice ao S.length cap) S cores fault B (.returned (.int .i64 S.length)) (w8.setCell ⟨tb, 1359, none⟩ (.slice (some ⟨g8, 0, none⟩) (S.length + 1) cap8)) from by
            have k9 := (Fr.refl [tb] w8).setCell ⟨tb, 1359, none⟩ (by simp) (.slice (some ⟨g8, 0, none⟩) (S.length + 1) cap8)
            refine ⟨(fun j hj => by rw [unhide HN] at hj; cases hj), (fun _ hh => by omega), fun _ _ => ⟨rfl, (unhide H8).1.trans k9 (by simp), _, ⟨((unhide H8).2.1.setCell 1359 _).congr fun i _ => tbF_v p _ _ _ fault i, (unhide H8).2.2.1.fr k9 (fun x hx => ?_), lbb⟩, fun x hx => ?_⟩⟩
            · have := ((unhide H8).2.2.1.lt hx).1
              simp; omega
            · have e : g8 = x := by simpa [Value.ownBlock] using hx
              rw [← e]; exact (unhide H8).2.2.2.1)
          have hr9 : (w8.setCell ⟨tb, 1359, none⟩ (.slice (some ⟨g8, 0, none⟩) (S.length + 1) cap8)).cell? ⟨tb, 1359, none⟩ = some (.slice (some ⟨g8, 0, none⟩) (S.length + 1) cap8) := World.cell?_setCell_same _ _ _ r0
          obtain ⟨w9, hw9⟩ : ∃ w9, w8.setCell ⟨tb, 1359, none⟩ (.slice (some ⟨g8, 0, none⟩) (S.length + 1) cap8) = w9 := ⟨_, rfl⟩
          rw [hw9] at HE hr9 ⊢
          refine hK.out _ _ (fun i hi => (by rw [Nat.zero_add, ← hw9]; exact ((unhide H8).2.2.2.2.setCell_ne ⟨tb, 1359, none⟩ (by simp; omega) _).cell i hi)) (fun _ => ?_)
          refine wpAnyH_done (by kernel_rfl) ?_ _
          clear hw9 H8 hK r0 r1
          go_wp2
          go_ret
          exact unhide HE
end Go.Proofs.YtkglggkkbmmjkaaDoor

