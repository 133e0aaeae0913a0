import Derived.Test.YtkglggkkbmmjkabGreatDoorG44PRd4
import Derived.Test.YtkglggkkbmmjkabGreatDoorG11PartsM
namespace Go.Proofs.YtkglggkkbmmjkabGreatDoor
open Go.RowKit
structure TabP (t : ByteArray) (p : Pl) (L : List Ru) (S : List Sd) (r : Tb) : Prop where
 pl : p = plT t
 hL : L = rul (zad t 8 0 []).1
 len : S.length = r.1.length
 cS : ∀ j, j < S.length → ∀ x, (zbo S j x != -1) = canS r j x
 st : ∀ j, j < S.length → ∀ x, letB x = true → zbo S j x = gto r j x
 cR : ∀ j, j < S.length → ∀ x, sigB x = true → ∀ k, k < 9 → ruS p (sget S j).A x k = canR L r j x k
theorem plT_en {t : ByteArray} {k : Nat} (hk : k < (rul (zad t 8 0 []).1).length) : (plT t).en k (rget (rul (zad t 8 0 []).1) k).R.size = true ∧ ∀ j, j < (rget (rul (zad t 8 0 []).1) k).R.size → (plT t).en k j = false := by
 constructor
 ·show (decide (k < (rul (zad t 8 0 []).1).length) && ((rget (rul (zad t 8 0 []).1) k).R.size == (rget (rul (zad t 8 0 []).1) k).R.size)) = true
  simp [hk]
 ·intro j hj
  show (decide (k < (rul (zad t 8 0 []).1).length) && (j == (rget (rul (zad t 8 0 []).1) k).R.size)) = false
  rw [show (j == (rget (rul (zad t 8 0 []).1) k).R.size) = false from by rw [beq_eq_false_iff_ne]; omega, Bool.and_false]
theorem find_rangeI {f : Nat → Bool} {n k : Nat} (h : (List.range n).find? f = some k) : k < n ∧ f k = true ∧ ∀ j, j < k → f j = false := by
 rw [List.find?_eq_some_iff_getElem] at h
 obtain ⟨h1, i, hi, e, h2⟩ := h
 rw [List.getElem_range] at e
 subst e
 rw [List.length_range] at hi
 refine ⟨hi, h1, fun j hj => ?_⟩
 have := h2 j hj
 rw [List.getElem_range] at this
 simpa using this
def actsAt (L : List Ru) (r : Tb) (s a : Nat) : Nat → Value := acF (canS r s a) (fun k => decide (k < 9) && canR L r s a k)
theorem acF_congr {st st' : Bool} {ru ru' : Nat → Bool} (h : st = st') (h2 : ∀ k, k < 9 → ru k = ru' k) (i : Nat) (hi : i < 10) : acF st ru i = acF st' ru' i := by
 unfold acF
 split
 ·rw [h]
 ·rw [h2 _ (by omega)]
theorem p_actsR (t : ByteArray) (tb base k c : Nat) (p : Pl) (v : Value) (S : List Sd) (cores : Nat) (L : List Ru) (r : Tb) (w : World) (h : TbR w tb base p v S cores 0) (hP : TabP t p L S r) (hk : k < S.length) (hc : sigB c = true) :
 Calls Tryz.prog 78 #[.pointer (some ⟨tb, 0, none⟩), .int .i64 (k : Nat), .int .u8 (c : Nat)] w fun e w' => e = .returned (Agg 10 (actsAt L r k c)) ∧ Fr [] w w' := by
 refine (p_acts tb base k c p v S cores 0 w h hk hc).mono ?_
 rintro e w' ⟨rfl, hf⟩
 refine ⟨?_, hf⟩
 congr 1
 exact Agg.congr fun i hi => acF_congr (hP.cS k hk c) (fun j hj => by rw [hP.cR k hk c hc j hj]; simp [hj]) i hi
def SameS (L : List Ru) (r : Tb) (a : Nat) (st0 : Stk) (n : Nat) (st : Stk) : Prop := zax L r a 1048576 st0 = zax L r a (1048576 - n) st
structure StS (w wr : World) (rb tb base : Nat) (p : Pl) (v : Value) (S : List Sd) (cores : Nat) (L : List Ru) (N : Nat → Bool) (T : Nat → Nat → Bool) (r : Tb) (a : Nat) (st0 : Stk) (u : List Nat) (B n : Nat) (sv : Value) (st : Stk) : Prop where
 bel : Below rb w wr
 rd : RdS wr rb tb base p v S cores sv st
 si : SI L N T r st u
 same : SameS L r a st0 n st
 sz : st.length + szT st ≤ B + 4 * n
theorem replM_sz {k s j : Nat} {x : List Nat} {pt st : Stk} : ((j, nodeT k (txt pt)) :: (s, x) :: st).length + szT ((j, nodeT k (txt pt)) :: (s, x) :: st) ≤ (pt ++ (s, x) :: st).length + szT (pt ++ (s, x) :: st) + 4 := by
 rw [szT_cons, szT_app, List.length_cons, List.length_append]
 show _ + ((nodeT k (txt pt)).length + _) ≤ _
 unfold nodeT
 simp only [List.length_cons, List.length_append, txt_len, List.length_nil]
 omega
theorem actsAt_0 {L : List Ru} {r : Tb} {s a : Nat} : actsAt L r s a 0 = .bool (canS r s a) := rfl
theorem actsAt_1 {L : List Ru} {r : Tb} {s a : Nat} : actsAt L r s a 1 = .bool (canR L r s a 0) := rfl
def SettO (w : World) (rb tb base : Nat) (p : Pl) (v : Value) (S : List Sd) (cores : Nat) (L : List Ru) (N : Nat → Bool) (T : Nat → Nat → Bool) (r : Tb) (a : Nat) (st : Stk) (u : List Nat) (B : Nat) (e : Ending) (w' : World) : Prop :=
 ∃ (b : Bool) (st' : Stk) (sv' : Value), e = .returned (.bool b) ∧ zax L r a 1048576 st = (b, st') ∧ Below rb w w' ∧ RdS w' rb tb base p v S cores sv' st' ∧ SI L N T r st' u ∧ st'.length + szT st' ≤ B + 4194304
set_option maxRecDepth 100000 in
set_option maxHeartbeats 8000000 in
theorem p_settle (t : ByteArray) (rb tb base : Nat) (p : Pl) (v : Value) (S : List Sd) (cores : Nat) (sv : Value) (L : List Ru) (N : Nat → Bool) (T : Nat → Nat → Bool) (r : Tb) (a c F : Nat) (st : Stk) (u : List Nat) (B : Nat) (w : World) (h : RdS w rb tb base p v S cores sv st) (hP : TabP t p L S r)
 (hR : Rd L N T r c F) (hI : SI L N T r st u) (ha : sigB a = true) (hB : st.length + szT st ≤ B) (hB2 : B ≤ 80000000) :
 Calls Tryz.prog 39 #[.pointer (some ⟨rb, 0, none⟩), .int .u8 (a : Nat)] w fun e w' => SettO w rb tb base p v S cores L N T r a st u B e w' := by
 have HP := hide hP
 have HA := hide ha
 have HR := hide hR
 have HLen := hide (show ∀ st' : Stk, SI L N T r st' u → topS st' < S.length from fun st' h' => by rw [hP.len]; exact h'.lt hR.tab.pos)
 have HS0 := hide (show StS w w rb tb base p v S cores L N T r a st u B 0 sv st from ⟨Below.refl _ _, h, hI, rfl, by omega⟩)
 clear h hP hR hI ha
 go_enter Tryz.func39, Tryz.ntmps39
 go_wp2
 go_loopw [5] (fun nv wr => ∃ (n : Nat) (st' : Stk) (sv' : Value), n ≤ 1048576 ∧ nv = .int .i64 n ∧ Hid (StS w wr rb tb base p v S cores L N T r a st u B n sv' st')) (fun nv _ => 1048576 - (intOf nv).toNat)
 case atStart => exact ⟨0, st, sv, by omega, rfl, HS0⟩
 case round =>
  obtain ⟨n, st1, sv1, hn, rfl, hs⟩ := hrel
  clear HS0
  by_cases hlt : n < 1048576
  ·obtain ⟨s, x, st2, hst⟩ := (zaa hs).si.ne
   subst hst
   have hsl := zaa HLen _ (zaa hs).si
   have hsl : s < S.length := hsl
   have hlb : st2.length ≤ 90000000 := by have := (zaa hs).sz; rw [List.length_cons] at this; omega
   have hni : (n : Int) < 1048576 := by omega
   go_wp2_with (first
    | (go_at_call 40; refine (p_last rb tb base p v S cores sv1 (s, x) st2 wr (zaa hs).rd (by omega)).mono ?_; rintro e w2 ⟨rfl, hf2⟩; have HF2 := hide hf2; clear hf2))
   obtain ⟨W, hW⟩ : ∃ W, w2.alloc (.cells #[.int .i64 (s : Nat), .string (bstr x)] 89) = W := ⟨_, rfl⟩
   rw [hW]
   have HFW := hide (show Fr [] wr W from hW ▸ (zaa HF2).alloc _)
   have HWr := hide ((zaa hs).rd.fr0 (zaa HFW))
   have HWc := hide (show W.cell? ⟨rb, 0, none⟩ = some (.pointer (some ⟨tb, 0, none⟩)) ∧ W.cell? ⟨w2.heap.size, 0, none⟩ = some (.int .i64 (s : Nat)) from ⟨(zaa HWr).blk.cell 0 (by omega), by rw [← hW]; simp⟩)
   clear hW HF2
   refine wp_region_held_drew (S := fun w' => Fr [] W w') (by kernel_rfl) ((Fr.refl [] W).drew) (fun hHeld => ?_)
   refine zae (i := 0) (v := .pointer (some ⟨rb, 0, none⟩)) rfl rfl (by kernel_rfl) (by kernel_rfl) (by kernel_rfl) (fun _ _ _ h => h) (Or.inl ⟨by rfl, fun _ _ => rfl⟩) hHeld ?_
   simp only [Act.put, List.setIfInBounds_toArray, List.set_cons_zero, List.set_cons_succ]
   refine zae (i := 1) (v := .pointer (some ⟨rb, 0, none⟩)) rfl rfl (by kernel_rfl) (by kernel_rfl) (by kernel_rfl) (fun _ _ _ h => h) (Or.inl ⟨by rfl, fun _ _ => by go_simp⟩) hHeld ?_
   simp only [Act.put, List.setIfInBounds_toArray, List.set_cons_zero, List.set_cons_succ]
   refine zae (i := 2) (v := .pointer (some ⟨rb, 0, none⟩)) rfl rfl (by kernel_rfl) (by kernel_rfl) (by kernel_rfl) (fun _ _ _ h => h) (Or.inl ⟨by rfl, fun _ _ => by go_simp⟩) hHeld ?_
   simp only [Act.put, List.setIfInBounds_toArray, List.set_cons_zero, List.set_cons_succ]
   refine zae (i := 3) (v := .pointer (some ⟨tb, 0, none⟩)) rfl rfl (by kernel_rfl) (by kernel_rfl) (by kernel_rfl) (fun _ _ _ h => h) (Or.inl ⟨by rfl, fun w' hw => by (have hc := hw.cell0 (zaa HWc).1); go_simp⟩) hHeld ?_
   simp only [Act.put, List.setIfInBounds_toArray, List.set_cons_zero, List.set_cons_succ]
   refine zae (i := 4) (v := .pointer (some ⟨w2.heap.size, 0, none⟩)) rfl rfl (by kernel_rfl) (by kernel_rfl) (by kernel_rfl) (fun _ _ _ h => h) (Or.inl ⟨by rfl, fun _ _ => by go_simp⟩) hHeld ?_
   simp only [Act.put, List.setIfInBounds_toArray, List.set_cons_zero, List.set_cons_succ]
   refine zae (i := 5) (v := .int .i64 (s : Nat)) rfl rfl (by kernel_rfl) (by kernel_rfl) (by kernel_rfl) (fun _ _ _ h => h) (Or.inl ⟨by rfl, fun w' hw => by (have hc := hw.cell0 (zaa HWc).2); go_simp⟩) hHeld ?_
   simp only [Act.put, List.setIfInBounds_toArray, List.set_cons_zero, List.set_cons_succ]
   refine zae (i := 6) (v := .int .u8 (a : Nat)) rfl rfl (by kernel_rfl) (by kernel_rfl) (by kernel_rfl) (fun _ _ _ h => h) (Or.inl ⟨by rfl, fun _ _ => rfl⟩) hHeld ?_
   simp only [Act.put, List.setIfInBounds_toArray, List.set_cons_zero, List.set_cons_succ]
   refine wpAnyH_ready (rs := [7, 8]) (by kernel_rfl) (by simp) ?_
   refine AllReadyH.cons rfl (fun K hK => ?g7) (AllReadyH.cons rfl (fun K hK => ?g8) AllReadyH.nil)
   case' g7 =>
    rw [if_pos (by rfl)]
    go_wp2_with fail
    refine (p_actsR t tb base s a p v S cores L r _ (by exact ((zaa HWr).fr0 (Fr.refl [] W).drew).tab) (zaa HP) hsl (zaa HA)).mono ?_
    rintro e w3 ⟨rfl, hf3⟩
    refine hK.out _ _ (hHeld.trans0 hf3) (fun hHeld3 => ?_)
    refine wpAnyH_ready (rs := [8]) (by kernel_rfl) (by simp) ?_
    refine AllReadyH.cons rfl (fun K2 hK2 => ?_) AllReadyH.nil
    rw [if_pos (by rfl)]
    refine zbv 135 rfl (some 7) rfl 10 _ Tryz.zeroActs ?_
    intro w4 hf4 hs4 hB4
    refine hK2.out _ _ (hHeld3.trans0 hf4) (fun hHeld4 => ?_)
    refine za6 (i := 9) (by kernel_rfl) rfl rfl rfl 135 (.tmp 7) (.tmp 22) rfl w3.heap.size 0 10 10 (acF false fun _ => false) (actsAt L r s a) (by simp [Act.eval, Act.put]) (by simp [Act.eval, Act.put]) hB4 Tryz.sizeActs (by omega) (zb7 _ _ 10) (by kernel_rfl) ?_
    intro w5 hf5 hs5 hB5
    refine ⟨hHeld4.trans1 hf5 (Or.inr hHeld3.size), ?_⟩
    have H5 := hide (show Fr [] W w5 ∧ Blk w5 w3.heap.size 10 (actsAt L r s a) from ⟨hHeld4.trans1 hf5 (Or.inr hHeld3.size), hB5.congr fun i hi => zag _ _ _ i hi⟩)
    clear hK hK2 hHeld hHeld3 hHeld4 hf3 hf4 hf5 hB4 hB5 hs4 hs5
    generalize w3.heap.size = fb at *
   case' g8 =>
    rw [if_pos (by rfl)]
    refine zbv 135 rfl (some 7) rfl 10 _ Tryz.zeroActs ?_
    intro w3 hf3 hs3 hB3
    refine hK.out _ _ (hHeld.trans0 hf3) (fun hHeld3 => ?_)
    refine wpAnyH_ready (rs := [7]) (by kernel_rfl) (by simp) ?_
    refine AllReadyH.cons rfl (fun K2 hK2 => ?_) AllReadyH.nil
    rw [if_pos (by rfl)]
    go_wp2_with fail
    refine (p_actsR t tb base s a p v S cores L r _ (by exact ((zaa HWr).fr0 hHeld3).tab) (zaa HP) hsl (zaa HA)).mono ?_
    rintro e w4 ⟨rfl, hf4⟩
    refine hK2.out _ _ (hHeld3.trans0 hf4) (fun hHeld4 => ?_)
    refine za6 (i := 9) (by kernel_rfl) rfl rfl rfl 135 (.tmp 7) (.tmp 22) rfl W.drew.heap.size 0 10 10 (acF false fun _ => false) (actsAt L r s a) (by simp [Act.eval]) (by simp [Act.eval]) (hB3.fr0 hf4) Tryz.sizeActs (by omega) (zb7 _ _ 10) (by kernel_rfl) ?_
    intro w5 hf5 hs5 hB5
    refine ⟨hHeld4.trans1 hf5 (Or.inr (Nat.le_refl _)), ?_⟩
    have H5 := hide (show Fr [] W w5 ∧ Blk w5 W.heap.size 10 (actsAt L r s a) from ⟨hHeld4.trans1 hf5 (Or.inr (Nat.le_refl _)), hB5.congr fun i hi => zag _ _ _ i hi⟩)
    clear hK hK2 hHeld hHeld3 hHeld4 hf3 hf4 hf5 hB3 hB5 hs3 hs5
    generalize W.heap.size = fb at *
   all_goals
    have c0 := (zaa H5).2.cell 0 (by omega)
    have c1 := (zaa H5).2.cell 1 (by omega)
    rw [actsAt_0] at c0
    rw [actsAt_1] at c1
    have HRd5 := hide ((zaa HWr).fr0 (zaa H5).1)
    have HB5 := hide (show Below rb w w5 from (zaa hs).bel.trans (((zaa HFW).trans0 (zaa H5).1).below.mono (Nat.le_of_lt (zaa hs).rd.blk.lt)))
    clear HWc HWr HFW
    cases h1 : canS r s a
    ·rw [h1] at c0
     cases h2 : canR L r s a 0
     ·rw [h2] at c1
      cases h3 : frstR L r s a with
      | none =>
       have HE := hide (show acE (canS r s a) (fun k => decide (k < 9) && canR L r s a k) = true from acE_iff.2 ⟨h1, fun k hk => by
        unfold frstR at h3
        rw [List.find?_eq_none] at h3
        have := h3 k (List.mem_range.2 hk)
        simp [hk]; simpa using this⟩)
       have HEnd := hide (show zax L r a 1048576 st = (false, (s, x) :: st2) from by
        rw [show zax L r a 1048576 st = zax L r a (1048576 - n) ((s, x) :: st2) from (zaa hs).same, show 1048576 - n = (1048576 - (n + 1)) + 1 from by omega, zax, show topS ((s, x) :: st2) = s from rfl, h1, h2, h3]; rfl)
       clear h1 h2 h3
       go_wp2_with (go_at_call 93; refine (p_aEmpty fb _ _ w5 (by exact (zaa H5).2)).mono ?_; rintro e w6 ⟨rfl, hf6⟩; rw [zaa HE]; have HF6 := hide hf6; clear hf6)
       go_ret
       exact ⟨false, _, sv1, rfl, zaa HEnd, (zaa HB5).trans ((zaa HF6).below.mono (Nat.le_of_lt (zaa HRd5).blk.lt)), (zaa HRd5).fr0 (zaa HF6), (zaa hs).si, by have := (zaa hs).sz; omega⟩
      | some k =>
       obtain ⟨k1, k2, k3⟩ := find_rangeI h3
       have hk0 : 1 ≤ k := by
        rcases Nat.eq_zero_or_pos k with e | e
        ·subst e; rw [h2] at k2; cases k2
        ·exact e
       obtain ⟨pt, s', xs, st', j, q1, q2, q3, q4, q5, q6, q7⟩ := (zaa hs).si.replace (zaa HR).tab hk0 (by exact k2)
       have HE := hide (show acE (canS r s a) (fun k => decide (k < 9) && canR L r s a k) = false from by
        cases e : acE (canS r s a) (fun k => decide (k < 9) && canR L r s a k)
        ·rfl
        ·have := (acE_iff.1 e).2 k k1
         rw [k2] at this
         simp [k1] at this)
       have HNx := hide (show SameS L r a st (n + 1) ((j, nodeT k (txt pt)) :: (s', xs) :: st') from by
        unfold SameS
        rw [show zax L r a 1048576 st = zax L r a (1048576 - n) ((s, x) :: st2) from (zaa hs).same, show 1048576 - n = (1048576 - (n + 1)) + 1 from by omega, zax, show topS ((s, x) :: st2) = s from rfl, h1, h2, h3]
        show zax L r a _ (replM L r k ((s, x) :: st2)) = _
        rw [q1, replM_eq q2 q4])
       have HSz := hide (show ((j, nodeT k (txt pt)) :: (s', xs) :: st').length + szT ((j, nodeT k (txt pt)) :: (s', xs) :: st') ≤ B + 4 * (n + 1) from by
        have := (zaa hs).sz
        rw [q1] at this
        have h4 := replM_sz (k := k) (s := s') (j := j) (x := xs) (pt := pt) (st := st')
        omega)
       have hen := plT_en (t := t) (k := k) (by rw [← (zaa HP).hL]; exact q3)
       rw [← (zaa HP).pl, ← (zaa HP).hL] at hen
       have HEn := hide hen
       have HLf := hide (show p.left k = (rget L k).L from by rw [(zaa HP).pl, (zaa HP).hL]; rfl)
       have hs' : s' < S.length := by rw [(zaa HP).len]; exact q6
       have HSt := hide (show zbo S s' (rget L k).L = (j : Nat) from by rw [(zaa HP).st s' hs' _ (by unfold letB; rw [(zaa HR).tab.cl.big k hk0 q3]; rfl)]; exact q4)
       have hm5 : (rget L k).R.size < 5 := by
        have := (zaa HR).tab.cl.gr.small k q3
        rw [zbl L k q3]; omega
       have HRd7 := hide (show ∀ W', Fr [] w5 W' → RdS W' rb tb base p v S cores sv1 (pt ++ (s', xs) :: st') from fun W' hW' => by rw [← q1]; exact (zaa HRd5).fr0 hW')
       have hpl : st'.length ≤ 90000000 := by
        have := congrArg List.length q1
        rw [List.length_append, List.length_cons, List.length_cons] at this
        omega
       have hpz : szT pt ≤ 1000000000 := by
        have h5 := (zaa hs).sz
        rw [q1, szT_app] at h5
        omega
       have HQ2 := hide q2
       have HSI := hide q7
       have HK3 := hide (show ∀ i, i < k → (fun k => decide (k < 9) && canR L r s a k) i = false from fun i hi => by show (decide (i < 9) && canR L r s a i) = false; rw [k3 i hi]; simp)
       have HK2 := hide (show (fun k => decide (k < 9) && canR L r s a k) k = true from by show (decide (k < 9) && canR L r s a k) = true; rw [k2]; simpa using k1)
       clear h1 h2 h3 k2 k3 q1 q2 q4 q5 q6 q7 hen
       go_wp2_with (first
        | (go_at_call 93; refine (p_aEmpty fb _ _ w5 (by exact (zaa H5).2)).mono ?_; rintro e w6 ⟨rfl, hf6⟩; rw [zaa HE]; have HF6 := hide hf6; clear hf6)
        | (go_at_call 94; refine (p_firstRule fb k _ _ w6 (by exact (zaa H5).2.fr0 (zaa HF6)) k1 (zaa HK2) (zaa HK3)).mono ?_; rintro e w' ⟨rfl, hw'⟩; rw [hw'])
        | (go_at_call 95; refine (p_replace rb tb base p v S cores sv1 k (rget L k).R.size (rget L k).L j s' xs pt st' w6 (by exact zaa HRd7 w6 (zaa HF6)) (zaa HQ2) k1 hm5 (zaa HEn).1 (zaa HEn).2 (zaa HLf) hs' (zaa HSt) hpl hpz).mono ?_; rintro e w7 ⟨rfl, hb7, sv7, h7⟩; have HX := hide (show StS w w7 rb tb base p v S cores L N T r a st u B (n + 1) sv7 ((j, nodeT k (txt pt)) :: (s', xs) :: st') from ⟨((zaa HB5).trans ((zaa HF6).below.mono (Nat.le_of_lt (zaa HRd5).blk.lt))).trans hb7, h7, zaa HSI, zaa HNx, zaa HSz⟩); clear hb7 h7))
       go_roundw
       case rel => exact ⟨n + 1, _, sv7, by omega, by go_num, HX⟩
       case measure => simp [intOf]; omega
     ·rw [h2] at c1
      have HEnd := hide (show zax L r a 1048576 st = (true, (s, x) :: st2) from by
       rw [show zax L r a 1048576 st = zax L r a (1048576 - n) ((s, x) :: st2) from (zaa hs).same, show 1048576 - n = (1048576 - (n + 1)) + 1 from by omega, zax, show topS ((s, x) :: st2) = s from rfl, h1, h2]; rfl)
      clear h1 h2
      go_wp2
      go_ret
      exact ⟨true, _, sv1, rfl, zaa HEnd, zaa HB5, zaa HRd5, (zaa hs).si, by have := (zaa hs).sz; omega⟩
    ·rw [h1] at c0
     have HEnd := hide (show zax L r a 1048576 st = (true, (s, x) :: st2) from by
      rw [show zax L r a 1048576 st = zax L r a (1048576 - n) ((s, x) :: st2) from (zaa hs).same, show 1048576 - n = (1048576 - (n + 1)) + 1 from by omega, zax, show topS ((s, x) :: st2) = s from rfl, h1]; rfl)
     clear h1
     go_wp2
     go_ret
     exact ⟨true, _, sv1, rfl, zaa HEnd, zaa HB5, zaa HRd5, (zaa hs).si, by have := (zaa hs).sz; omega⟩
  ·have hn2 : n = 1048576 := by omega
   have HEnd := hide (show zax L r a 1048576 st = (false, st1) from by
    rw [show zax L r a 1048576 st = zax L r a (1048576 - n) st1 from (zaa hs).same, hn2, Nat.sub_self]; rfl)
   have hni : ¬ (n : Int) < 1048576 := by omega
   clear hn2
   go_wp2
   go_ret
   exact ⟨false, _, sv1, rfl, zaa HEnd, (zaa hs).bel, (zaa hs).rd, (zaa hs).si, by have := (zaa hs).sz; omega⟩
end Go.Proofs.YtkglggkkbmmjkabGreatDoor
namespace Go.Proofs.YtkglggkkbmmjkabGreatDoor
open Go.RowKit
theorem settle_true {L : List Ru} {r : Tb} {a : Nat} : ∀ (f : Nat) {st st' : Stk}, zax L r a f st = (true, st') → canS r (topS st') a = true ∨ canR L r (topS st') a 0 = true
 | 0, st, st', h => by rw [zax] at h; cases h
 | f + 1, st, st', h => by
  rw [zax] at h
  split at h
  ·rename_i hc
   cases h
   rw [Bool.or_eq_true] at hc
   exact hc
  ·split at h
   ·cases h
   ·exact settle_true f h
def TakeO (w : World) (rb tb base : Nat) (p : Pl) (v : Value) (S : List Sd) (cores : Nat) (L : List Ru) (N : Nat → Bool) (T : Nat → Nat → Bool) (r : Tb) (a : Nat) (st : Stk) (u : List Nat) (B : Nat) (e : Ending) (w' : World) : Prop :=
 ∃ (b : Bool) (st1 : Stk), e = .returned (.bool b) ∧ zax L r a 1048576 st = (b, st1) ∧ Below rb w w' ∧ ∃ sv',
  (b = false → RdS w' rb tb base p v S cores sv' st1 ∧ SI L N T r st1 u ∧ st1.length + szT st1 ≤ B + 4194306) ∧
  (b = true → RdS w' rb tb base p v S cores sv' (((gto r (topS st1) a).toNat, [a]) :: st1) ∧ SI L N T r (((gto r (topS st1) a).toNat, [a]) :: st1) (u ++ [a]) ∧ (((gto r (topS st1) a).toNat, [a]) :: st1).length + szT (((gto r (topS st1) a).toNat, [a]) :: st1) ≤ B + 4194306)
set_option maxRecDepth 100000 in
set_option maxHeartbeats 4000000 in
theorem p_take (t : ByteArray) (rb tb base : Nat) (p : Pl) (v : Value) (S : List Sd) (cores : Nat) (sv : Value) (L : List Ru) (N : Nat → Bool) (T : Nat → Nat → Bool) (r : Tb) (a c F : Nat) (st : Stk) (u : List Nat) (B : Nat) (w : World) (h : RdS w rb tb base p v S cores sv st) (hP : TabP t p L S r)
 (hR : Rd L N T r c F) (hI : SI L N T r st u) (ha : zai a = true) (hB : st.length + szT st ≤ B) (hB2 : B ≤ 80000000) :
 Calls Tryz.prog 92 #[.pointer (some ⟨rb, 0, none⟩), .int .u8 (a : Nat)] w fun e w' => TakeO w rb tb base p v S cores L N T r a st u B e w' := by
 obtain ⟨⟨b0, st1⟩, hset⟩ : ∃ q, zax L r a 1048576 st = q := ⟨_, rfl⟩
 have hsl := za4.1 ha
 have HH := hide h
 have HP := hide hP
 have HR := hide hR
 have HI := hide hI
 have HA := hide ha
 have HSet := hide hset
 have HSg := hide (sigB_small ha)
 clear h hP hR hI ha hset
 cases b0
 ·go_enter Tryz.func92, Tryz.ntmps92
  go_wp2_with (go_at_call 39; refine (p_settle t rb tb base p v S cores sv L N T r a c F st u B w (zaa HH) (zaa HP) (zaa HR) (zaa HI) (zaa HSg) hB hB2).mono ?_; rintro e w1 ⟨b, st', sv', rfl, h1, h2, h3, h4, h5⟩; rw [zaa HSet] at h1; obtain ⟨hb, hst⟩ := Prod.mk.inj h1; subst hb; subst hst; have HX := hide (And.intro h2 (And.intro h3 (And.intro h4 h5))); clear h1 h2 h3 h4 h5)
  go_ret
  exact ⟨false, st1, rfl, zaa HSet, (zaa HX).1, sv', fun _ => ⟨(zaa HX).2.1, (zaa HX).2.2.1, by have := (zaa HX).2.2.2; omega⟩, fun e => by cases e⟩
 ·go_enter Tryz.func92, Tryz.ntmps92
  go_wp2_with fail
  refine (p_settle t rb tb base p v S cores sv L N T r a c F st u B w (zaa HH) (zaa HP) (zaa HR) (zaa HI) (zaa HSg) hB hB2).mono ?_
  rintro e w1 ⟨b, st', sv', rfl, h1, h2, h3, h4, h5⟩
  rw [zaa HSet] at h1
  obtain ⟨hb, hst⟩ := Prod.mk.inj h1
  subst hb
  subst hst
  obtain ⟨s, x, st2, hst⟩ := h4.ne
  subst hst
  have hcan : canS r s a = true := by
   rcases settle_true _ (zaa HSet) with e | e
   ·exact e
   ·exfalso
    have := (SI.done (zaa HR).tab (zaa HR).st0 h4 e).1
    have := za4.1 (zaa HA)
    omega
  obtain ⟨j, g1, g2, g3⟩ := h4.shift (zaa HR).tab (zaa HA) hcan
  have hs : s < S.length := by rw [(zaa HP).len]; exact h4.lt (zaa HR).tab.pos
  have HJ := hide (show zbo S s a = (j : Nat) from by rw [(zaa HP).st s hs a (by unfold letB; rw [zaa HA]; simp)]; exact g1)
  have HB1 := hide h2
  have HH1 := hide h3
  have HSz := hide h5
  have HG := hide (show ((gto r (topS ((s, x) :: st2)) a).toNat, [a]) = (j, [a]) from by rw [show gto r (topS ((s, x) :: st2)) a = (j : Nat) from g1]; rfl)
  have HI2 := hide g3
  have hlen : st2.length ≤ 99999990 := by rw [List.length_cons] at h5; omega
  clear h1 h2 h3 h4 h5 g1 g3 hcan
  go_wp2_with (go_at_call 40; refine (p_last rb tb base p v S cores sv' (s, x) st2 w1 (zaa HH1) (by omega)).mono ?_; rintro e w2 ⟨rfl, hf2⟩; have HF2 := hide hf2; clear hf2)
  obtain ⟨W, hW⟩ : ∃ W, w2.alloc (.cells #[.int .i64 (s : Nat), .string (bstr x)] 89) = W := ⟨_, rfl⟩
  rw [hW]
  have HFW := hide (show Fr [] w1 W from hW ▸ (zaa HF2).alloc _)
  have HWr := hide ((zaa HH1).fr0 (zaa HFW))
  have HWd := hide ((zaa HWr).fr0 (Fr.refl [] W).drew)
  have d0 : W.cell? ⟨rb, 0, none⟩ = some (.pointer (some ⟨tb, 0, none⟩)) := (zaa HWr).blk.cell 0 (by omega)
  have d1 : W.cell? ⟨w2.heap.size, 0, none⟩ = some (.int .i64 (s : Nat)) := by rw [← hW]; simp
  clear hW HF2
  go_region_held3 (fun w' => w'.cell? ⟨rb, 0, none⟩ = some (.pointer (some ⟨tb, 0, none⟩)) ∧ w'.cell? ⟨w2.heap.size, 0, none⟩ = some (.int .i64 (s : Nat))) (go_keep) ((go_at_call 75; refine (p_tstep tb base s a p v S cores 0 _ (by exact (zaa HWd).tab) hs).mono ?_; rintro e w' ⟨rfl, hw'⟩; rw [hw', zaa HJ]))
  obtain ⟨W2, hW2⟩ : ∃ W2, W.drew = W2 := ⟨_, rfl⟩
  rw [hW2] at HWd ⊢
  have HBW := hide (show Below rb w W2 from hW2 ▸ ((zaa HB1).trans ((zaa HFW).below.mono (Nat.le_of_lt (zaa HH1).blk.lt))).drew)
  clear hW2 d0 d1 HWr
  go_wp2_with (first
   | (refine zbw rfl 158 9 5 (.tmp 26) rfl W2.heap.size 1 a (by omega) Tryz.underlying158 Tryz.underlying5 Tryz.underlying9 rfl (by simp) ?_)
   | (go_at_call 91; refine (p_pushS rb tb base p v S cores sv' ((s, x) :: st2) j [a] _ (by exact (zaa HWd).fr0 ((Fr.refl [] W2).alloc _)) (by rw [List.length_cons]; omega)).mono ?_; rintro e w5 ⟨rfl, hb5, sv5, h5⟩; have HX := hide (And.intro (show Below rb w w5 from ((zaa HBW).alloc (Nat.le_of_lt (zaa HWd).blk.lt) _).trans hb5) h5); clear hb5 h5))
  go_ret
  refine ⟨true, _, rfl, zaa HSet, (zaa HX).1, sv5, (fun e => by cases e), fun _ => ?_⟩
  rw [zaa HG]
  refine ⟨(zaa HX).2, zaa HI2, ?_⟩
  have := zaa HSz
  rw [List.length_cons, szT_cons]
  show _ + 1 + ([a].length + _) ≤ _
  simp only [List.length_cons, List.length_nil]
  rw [List.length_cons] at this
  omega
end Go.Proofs.YtkglggkkbmmjkabGreatDoor
namespace Go.Proofs.YtkglggkkbmmjkabGreatDoor
open Go.RowKit
theorem readM_cons (L : List Ru) (r : Tb) (F a : Nat) (l : List Nat) (st : Stk) : zck L r F (a :: l) st = match zax L r a F st with
 | (false, st') => (0, st')
 | (true, st') => ((zck L r F l (((gto r (topS st') a).toNat, [a]) :: st')).1 + 1, (zck L r F l (((gto r (topS st') a).toNat, [a]) :: st')).2) := by
 rw [zck]
 rcases zax L r a F st with ⟨_ | _, st'⟩ <;> rfl
def tkB (n : Nat) : Nat := 1 + 4194306 * n
theorem tkB_succ (n : Nat) : tkB n + 4194306 = tkB (n + 1) := by unfold tkB; omega
theorem tkB_le {n : Nat} (h : n ≤ 12) : tkB n ≤ 55000000 := by unfold tkB; omega
structure TaS (w wr : World) (rb tb base : Nat) (p : Pl) (v : Value) (S : List Sd) (cores : Nat) (L : List Ru) (N : Nat → Bool) (T : Nat → Nat → Bool) (r : Tb) (s : ByteArray) (st0 : Stk) (n : Nat) (sv : Value) (st : Stk) : Prop where
 bel : Below rb w wr
 rd : RdS wr rb tb base p v S cores sv st
 si : SI L N T r st ((bytes s).take n)
 same : zck L r 1048576 (bytes s) st0 = (n + (zck L r 1048576 ((bytes s).drop n) st).1, (zck L r 1048576 ((bytes s).drop n) st).2)
 sz : st.length + szT st ≤ tkB n
def TakesO (w : World) (rb tb base : Nat) (p : Pl) (v : Value) (S : List Sd) (cores : Nat) (L : List Ru) (N : Nat → Bool) (T : Nat → Nat → Bool) (r : Tb) (s : ByteArray) (st0 : Stk) (e : Ending) (w' : World) : Prop :=
 ∃ (n : Nat) (st' : Stk) (sv' : Value), e = .returned (.int .i64 (n : Nat)) ∧ zck L r 1048576 (bytes s) st0 = (n, st') ∧ Below rb w w' ∧ RdS w' rb tb base p v S cores sv' st' ∧ SI L N T r st' ((bytes s).take n) ∧ st'.length + szT st' ≤ 60000000
set_option maxRecDepth 100000 in
set_option maxHeartbeats 4000000 in
theorem p_takeAll (t : ByteArray) (rb tb base : Nat) (p : Pl) (v : Value) (S : List Sd) (cores : Nat) (sv : Value) (L : List Ru) (N : Nat → Bool) (T : Nat → Nat → Bool) (r : Tb) (c F : Nat) (s : ByteArray) (w : World) (h : RdS w rb tb base p v S cores sv [(0, [])]) (hP : TabP t p L S r)
 (hR : Rd L N T r c F) (hs : s.size ≤ 12) (ha : ∀ c ∈ bytes s, zai c = true) :
 Calls Tryz.prog 38 #[.pointer (some ⟨rb, 0, none⟩), .string s] w fun e w' => TakesO w rb tb base p v S cores L N T r s [(0, [])] e w' := by
 have HP := hide hP
 have HR := hide hR
 have HA := hide ha
 have HS0 := hide (show TaS w w rb tb base p v S cores L N T r s [(0, [])] 0 sv [(0, [])] from ⟨Below.refl _ _, h, by simpa using SI.base, by simp, by show 1 + 0 ≤ tkB 0; unfold tkB; omega⟩)
 clear h hP hR ha
 go_enter Tryz.func38, Tryz.ntmps38
 go_wp2
 go_loopw [5, 6] (fun nv _ wr => ∃ (n : Nat) (st' : Stk) (sv' : Value), n ≤ s.size ∧ nv = .int .i64 n ∧ Hid (TaS w wr rb tb base p v S cores L N T r s [(0, [])] n sv' st')) (fun nv _ _ => s.size - (intOf nv).toNat)
 case atStart => exact ⟨0, _, sv, by omega, rfl, HS0⟩
 case round =>
  obtain ⟨n, st1, sv1, hn, rfl, hst⟩ := hrel
  clear HS0
  by_cases hlt : n < s.size
  ·have hcc : ((s[n]'hlt).toNat : Int) = ((ch s n : Nat) : Int) := by rw [za8 s n hlt]
   obtain ⟨a, hch⟩ : ∃ a, ch s n = a := ⟨_, rfl⟩
   rw [hch] at hcc
   have hdr : (bytes s).drop n = a :: (bytes s).drop (n + 1) := by
    have hl : n < (bytes s).length := by rw [zah]; exact hlt
    rw [List.drop_eq_getElem_cons hl, za5, hch]
   have HAs := hide (show zai a = true from zaa HA a (List.mem_of_mem_drop (i := n) (by rw [hdr]; exact List.mem_cons_self ..)))
   have HTk := hide (show (bytes s).take (n + 1) = (bytes s).take n ++ [a] from by rw [zb1 s n hlt, hch])
   have HDr := hide hdr
   have HCh := hide hch
   have hli : (n : Int) < s.size := by omega
   clear hdr hch
   obtain ⟨⟨b0, st2⟩, hset⟩ : ∃ q, zax L r a 1048576 st1 = q := ⟨_, rfl⟩
   have HSet := hide hset
   clear hset
   cases b0
   ·have HE := hide (show zck L r 1048576 (bytes s) [(0, [])] = (n, st2) from by
     rw [(zaa hst).same, zaa HDr, readM_cons, zaa HSet]; rfl)
    go_wp2_with (go_at_call 92; refine (p_take t rb tb base p v S cores sv1 L N T r a c F st1 ((bytes s).take n) (tkB n) wr (zaa hst).rd (zaa HP) (zaa HR) (zaa hst).si (zaa HAs) (zaa hst).sz (Nat.le_trans (tkB_le (by omega)) (by omega))).mono ?_; rintro e w1 ⟨b, st', rfl, h1, h2, sv', h3, _⟩; rw [zaa HSet] at h1; obtain ⟨hb, hs2⟩ := Prod.mk.inj h1; subst hb; subst hs2; have HX := hide (And.intro ((zaa hst).bel.trans h2) (h3 rfl)); clear h1 h2 h3)
    go_ret
    exact ⟨n, _, sv', rfl, zaa HE, (zaa HX).1, (zaa HX).2.1, (zaa HX).2.2.1, by have := (zaa HX).2.2.2; have h9 := tkB_le (show n ≤ 12 by omega); omega⟩
   ·have HE := hide (show zck L r 1048576 (bytes s) [(0, [])] = ((n + 1) + (zck L r 1048576 ((bytes s).drop (n + 1)) (((gto r (topS st2) a).toNat, [a]) :: st2)).1, (zck L r 1048576 ((bytes s).drop (n + 1)) (((gto r (topS st2) a).toNat, [a]) :: st2)).2) from by
     rw [(zaa hst).same, zaa HDr, readM_cons, zaa HSet]
     dsimp only
     congr 1; omega)
    go_wp2_with (go_at_call 92; refine (p_take t rb tb base p v S cores sv1 L N T r a c F st1 ((bytes s).take n) (tkB n) wr (zaa hst).rd (zaa HP) (zaa HR) (zaa hst).si (zaa HAs) (zaa hst).sz (Nat.le_trans (tkB_le (by omega)) (by omega))).mono ?_; rintro e w1 ⟨b, st', rfl, h1, h2, sv', _, h3⟩; rw [zaa HSet] at h1; obtain ⟨hb, hs2⟩ := Prod.mk.inj h1; subst hb; subst hs2; have HX := hide (show TaS w w1 rb tb base p v S cores L N T r s [(0, [])] (n + 1) sv' (((gto r (topS st2) a).toNat, [a]) :: st2) from ⟨(zaa hst).bel.trans h2, (h3 rfl).1, (by rw [zaa HTk]; exact (h3 rfl).2.1), zaa HE, (by rw [← tkB_succ]; exact (h3 rfl).2.2)⟩); clear h1 h2 h3)
    go_roundw
    case rel => exact ⟨n + 1, _, sv', by omega, by go_num, HX⟩
    case measure => simp [intOf]; omega
  ·have hn2 : n = s.size := by omega
   have HE := hide (show zck L r 1048576 (bytes s) [(0, [])] = (s.size, st1) from by
    rw [(zaa hst).same, List.drop_eq_nil_of_le (by rw [zah]; omega), zck, hn2]; rfl)
   have hli : ¬ (n : Int) < s.size := by omega
   have HN2 := hide hn2
   clear hn2
   go_wp2
   go_ret
   exact ⟨s.size, st1, sv1, rfl, zaa HE, (zaa hst).bel, (zaa hst).rd, by have := (zaa hst).si; rw [zaa HN2] at this; exact this, by have := (zaa hst).sz; have h9 := tkB_le (show n ≤ 12 by omega); omega⟩
end Go.Proofs.YtkglggkkbmmjkabGreatDoor
