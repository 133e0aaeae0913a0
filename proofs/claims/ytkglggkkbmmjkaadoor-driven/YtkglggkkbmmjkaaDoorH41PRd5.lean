import Derived.Test.YtkglggkkbmmjkaaDoorH40PRd4
namespace Go.Proofs.YtkglggkkbmmjkaaDoor
open Go.RowKit

/-- the program's table, as the reading asks for it -/
structure TabP (t : ByteArray) (p : Pl) (L : List Ru) (S : List Sd) (r : Tb) : Prop where
  pl : p = plT t
  hL : L = rul (parse t 8 0 []).1
  len : S.length = r.1.length
  cS : ∀ j, j < S.length → ∀ x, (stepTo S j x != -1) = canS r j x
  st : ∀ j, j < S.length → ∀ x, letB x = true → stepTo S j x = gto r j x
  cR : ∀ j, j < S.length → ∀ x, sigB x = true → ∀ k, k < 9 → ruS p (sget S j).A x k = canR L r j x k
theorem plT_en {t : ByteArray} {k : Nat} (hk : k < (rul (parse t 8 0 []).1).length) : (plT t).en k (rget (rul (parse t 8 0 []).1) k).R.size = true ∧ ∀ j, j < (rget (rul (parse t 8 0 []).1) k).R.size → (plT t).en k j = false := by
  constructor
  · show (decide (k < (rul (parse t 8 0 []).1).length) && ((rget (rul (parse t 8 0 []).1) k).R.size == (rget (rul (parse t 8 0 []).1) k).R.size)) = true
    simp [hk]
  · intro j hj
    show (decide (k < (rul (parse t 8 0 []).1).length) && (j == (rget (rul (parse t 8 0 []).1) k).R.size)) = false
    rw [show (j == (rget (rul (parse t 8 0 []).1) k).R.size) = false from by rw [beq_eq_false_iff_ne]; omega, Bool.and_false]
theorem find_rangeI {f : Nat → Bool} {n k : Nat} (h : (List.range n).find? f = some k) : k < n ∧ f k = true ∧ ∀ j, j < k → f j = false := by
  rw [List.find?_eq_some_iff_getElem] at h
  obtain ⟨h1, i, hi, e, h2⟩ := h
  rw [List.getElem_range] at e
  subst e
  rw [List.length_range] at hi
  refine ⟨hi, h1, fun j hj => ?_⟩
  have := h2 j hj
  rw [List.getElem_range] at this
  simpa using this
/-- what the acts of a state are, by the reading's words -/
def actsAt (L : List Ru) (r : Tb) (s a : Nat) : Nat → Value := acF (canS r s a) (fun k => decide (k < 9) && canR L r s a k)
theorem acF_congr {st st' : Bool} {ru ru' : Nat → Bool} (h : st = st') (h2 : ∀ k, k < 9 → ru k = ru' k) (i : Nat) (hi : i < 10) : acF st ru i = acF st' ru' i := by
  unfold acF
  split
  · rw [h]
  · rw [h2 _ (by omega)]
/-- table.acts, by the reading's words -/
theorem p_actsR (t : ByteArray) (tb base k c : Nat) (p : Pl) (v : Value) (S : List Sd) (cores : Nat) (L : List Ru) (r : Tb) (w : World) (h : TbR w tb base p v S cores 0) (hP : TabP t p L S r) (hk : k < S.length) (hc : sigB c = true) :
    Calls Tryd.prog 26 #[.pointer (some ⟨tb, 0, none⟩), .int .i64 (k : Nat), .int .u8 (c : Nat)] w fun e w' => e = .returned (Agg 10 (actsAt L r k c)) ∧ Fr [] w w' := by
  refine (p_acts tb base k c p v S cores 0 w h hk hc).mono ?_
  rintro e w' ⟨rfl, hf⟩
  refine ⟨?_, hf⟩
  congr 1
  exact Agg.congr fun i hi => acF_congr (hP.cS k hk c) (fun j hj => by rw [hP.cR k hk c hc j hj]; simp [hj]) i hi

/-- n rounds are done -/
def SameS (L : List Ru) (r : Tb) (a : Nat) (st0 : Stk) (n : Nat) (st : Stk) : Prop := settleM L r a 1048576 st0 = settleM L r a (1048576 - n) st
/-- the state of settle -/
structure StS (w wr : World) (rb tb base : Nat) (p : Pl) (v : Value) (S : List Sd) (cores : Nat) (L : List Ru) (N : Nat → Bool) (T : Nat → Nat → Bool) (r : Tb) (a : Nat) (st0 : Stk) (u : List Nat) (B n : Nat) (sv : Value) (st : Stk) : Prop where
  bel : Below rb w wr
  rd : RdS wr rb tb base p v S cores sv st
  si : SI L N T r st u
  same : SameS L r a st0 n st
  sz : st.length + szT st ≤ B + 4 * n
theorem replM_sz {k s j : Nat} {x : List Nat} {pt st : Stk} : ((j, nodeT k (txt pt)) :: (s, x) :: st).length + szT ((j, nodeT k (txt pt)) :: (s, x) :: st) ≤ (pt ++ (s, x) :: st).length + szT (pt ++ (s, x) :: st) + 4 := by
  rw [szT_cons, szT_app, List.length_cons, List.length_append]
  show _ + ((nodeT k (txt pt)).length + _) ≤ _
  unfold nodeT
  simp only [List.length_cons, List.length_append, txt_len, List.length_nil]
  omega
theorem actsAt_0 {L : List Ru} {r : Tb} {s a : Nat} : actsAt L r s a 0 = .bool (canS r s a) := rfl
theorem actsAt_1 {L : List Ru} {r : Tb} {s a : Nat} : actsAt L r s a 1 = .bool (canR L r s a 0) := rfl
/-- what settle hands back -/
def SettO (w : World) (rb tb base : Nat) (p : Pl) (v : Value) (S : List Sd) (cores : Nat) (L : List Ru) (N : Nat → Bool) (T : Nat → Nat → Bool) (r : Tb) (a : Nat) (st : Stk) (u : List Nat) (B : Nat) (e : Ending) (w' : World) : Prop :=
  ∃ (b : Bool) (st' : Stk) (sv' : Value), e = .returned (.bool b) ∧ settleM L r a 1048576 st = (b, st') ∧ Below rb w w' ∧ RdS w' rb tb base p v S cores sv' st' ∧ SI L N T r st' u ∧ st'.length + szT st' ≤ B + 4194304

set_option maxRecDepth 100000 in
set_option maxHeartbeats 8000000 in
/-- reading.settle -/
theorem p_settle (t : ByteArray) (rb tb base : Nat) (p : Pl) (v : Value) (S : List Sd) (cores : Nat) (sv : Value) (L : List Ru) (N : Nat → Bool) (T : Nat → Nat → Bool) (r : Tb) (a c F : Nat) (st : Stk) (u : List Nat) (B : Nat) (w : World) (h : RdS w rb tb base p v S cores sv st) (hP : TabP t p L S r)
    (hR : Rd L N T r c F) (hI : SI L N T r st u) (ha : sigB a = true) (hB : st.length + szT st ≤ B) (hB2 : B ≤ 80000000) :
    Calls Tryd.prog 20 #[.pointer (some ⟨rb, 0, none⟩), .int .u8 (a : Nat)] w fun e w' => SettO w rb tb base p v S cores L N T r a st u B e w' := by
  have HP := hide hP
  have HA := hide ha
  have HR := hide hR
  have HLen := hide (show ∀ st' : Stk, SI L N T r st' u → topS st' < S.length from fun st' h' => by rw [hP.len]; exact h'.lt hR.tab.pos)
  have HS0 := hide (show StS w w rb tb base p v S cores L N T r a st u B 0 sv st from ⟨Below.refl _ _, h, hI, rfl, by omega⟩)
  clear h hP hR hI ha
  go_enter Tryd.func20, Tryd.ntmps20
  go_wp2
  go_loopw [5] (fun nv wr => ∃ (n : Nat) (st' : Stk) (sv' : Value), n ≤ 1048576 ∧ nv = .int .i64 n ∧ Hid (StS w wr rb tb base p v S cores L N T r a st u B n sv' st')) (fun nv _ => 1048576 - (intOf nv).toNat)
  case atStart => exact ⟨0, st, sv, by omega, rfl, HS0⟩
  case round =>
    obtain ⟨n, st1, sv1, hn, rfl, hs⟩ := hrel
    clear HS0
    by_cases hlt : n < 1048576
    · obtain ⟨s, x, st2, hst⟩ := (unhide hs).si.ne
      subst hst
      have hsl := unhide HLen _ (unhide hs).si
      have hsl : s < S.length := hsl
      have hlb : st2.length ≤ 90000000 := by have := (unhide hs).sz; rw [List.length_cons] at this; omega
      have hni : (n : Int) < 1048576 := by omega
      go_wp2_with (first
        | (go_at_call 21; refine (p_last rb tb base p v S cores sv1 (s, x) st2 wr (unhide hs).rd (by omega)).mono ?_; rintro e w2 ⟨rfl, hf2⟩; have HF2 := hide hf2; clear hf2))
      obtain ⟨W, hW⟩ : ∃ W, w2.alloc (.cells #[.int .i64 (s : Nat), .string (bstr x)] 67) = W := ⟨_, rfl⟩
      rw [hW]
      have HFW := hide (show Fr [] wr W from hW ▸ (unhide HF2).alloc _)
      have HWr := hide ((unhide hs).rd.fr0 (unhide HFW))
      have HWc := hide (show W.cell? ⟨rb, 0, none⟩ = some (.pointer (some ⟨tb, 0, none⟩)) ∧ W.cell? ⟨w2.heap.size, 0, none⟩ = some (.int .i64 (s : Nat)) from ⟨(unhide HWr).blk.cell 0 (by omega), by rw [← hW]; simp⟩)
      clear hW HF2
      refine wp_region_held_drew (S := fun w' => Fr [] W w') (by kernel_rfl) ((Fr.refl [] W).drew) (fun hHeld => ?_)
      refine wpAnyH_takeD (i := 0) (v := .pointer (some ⟨rb, 0, none⟩)) rfl rfl (by kernel_rfl) (by kernel_rfl) (by kernel_rfl) (fun _ _ _ h => h) (Or.inl ⟨by rfl, fun _ _ => rfl⟩) hHeld ?_
      simp only [Act.put, List.setIfInBounds_toArray, List.set_cons_zero, List.set_cons_succ]
      refine wpAnyH_takeD (i := 1) (v := .pointer (some ⟨rb, 0, none⟩)) rfl rfl (by kernel_rfl) (by kernel_rfl) (by kernel_rfl) (fun _ _ _ h => h) (Or.inl ⟨by rfl, fun _ _ => by go_simp⟩) hHeld ?_
      simp only [Act.put, List.setIfInBounds_toArray, List.set_cons_zero, List.set_cons_succ]
      refine wpAnyH_takeD (i := 2) (v := .pointer (some ⟨rb, 0, none⟩)) rfl rfl (by kernel_rfl) (by kernel_rfl) (by kernel_rfl) (fun _ _ _ h => h) (Or.inl ⟨by rfl, fun _ _ => by go_simp⟩) hHeld ?_
      simp only [Act.put, List.setIfInBounds_toArray, List.set_cons_zero, List.set_cons_succ]
      refine wpAnyH_takeD (i := 3) (v := .pointer (some ⟨tb, 0, none⟩)) rfl rfl (by kernel_rfl) (by kernel_rfl) (by kernel_rfl) (fun _ _ _ h => h) (Or.inl ⟨by rfl, fun w' hw => by (have hc := hw.cell0 (unhide HWc).1); go_simp⟩) hHeld ?_
      simp only [Act.put, List.setIfInBounds_toArray, List.set_cons_zero, List.set_cons_succ]
      refine wpAnyH_takeD (i := 4) (v := .pointer (some ⟨w2.heap.size, 0, none⟩)) rfl rfl (by kernel_rfl) (by kernel_rfl) (by kernel_rfl) (fun _ _ _ h => h) (Or.inl ⟨by rfl, fun _ _ => by go_simp⟩) hHeld ?_
      simp only [Act.put, List.setIfInBounds_toArray, List.set_cons_zero, List.set_cons_succ]
      refine wpAnyH_takeD (i := 5) (v := .int .i64 (s : Nat)) rfl rfl (by kernel_rfl) (by kernel_rfl) (by kernel_rfl) (fun _ _ _ h => h) (Or.inl ⟨by rfl, fun w' hw => by (have hc := hw.cell0 (unhide HWc).2); go_simp⟩) hHeld ?_
      simp only [Act.put, List.setIfInBounds_toArray, List.set_cons_zero, List.set_cons_succ]
      refine wpAnyH_takeD (i := 6) (v := .int .u8 (a : Nat)) rfl rfl (by kernel_rfl) (by kernel_rfl) (by kernel_rfl) (fun _ _ _ h => h) (Or.inl ⟨by rfl, fun _ _ => rfl⟩) hHeld ?_
      simp only [Act.put, List.setIfInBounds_toArray, List.set_cons_zero, List.set_cons_succ]
      refine wpAnyH_ready (rs := [7, 8]) (by kernel_rfl) (by simp) ?_
      refine AllReadyH.cons rfl (fun K hK => ?g7) (AllReadyH.cons rfl (fun K hK => ?g8) AllReadyH.nil)
      case' g7 =>
        rw [if_pos (by rfl)]
        go_wp2_with fail
        refine (p_actsR t tb base s a p v S cores L r _ (by exact ((unhide HWr).fr0 (Fr.refl [] W).drew).tab) (unhide HP) hsl (unhide HA)).mono ?_
        rintro e w3 ⟨rfl, hf3⟩
        refine hK.out _ _ (hHeld.trans0 hf3) (fun hHeld3 => ?_)
        refine wpAnyH_ready (rs := [8]) (by kernel_rfl) (by simp) ?_
        refine AllReadyH.cons rfl (fun K2 hK2 => ?_) AllReadyH.nil
        rw [if_pos (by rfl)]
        refine op_alloc_blk 74 rfl (some 7) rfl 10 _ Tryd.zeroActs ?_
        intro w4 hf4 hs4 hB4
        refine hK2.out _ _ (hHeld3.trans0 hf4) (fun hHeld4 => ?_)
        refine wpAnyH_store_last (i := 9) (by kernel_rfl) rfl rfl rfl 74 (.tmp 7) (.tmp 22) rfl w3.heap.size 0 10 10 (acF false fun _ => false) (actsAt L r s a) (by simp [Act.eval, Act.put]) (by simp [Act.eval, Act.put]) hB4 Tryd.sizeActs (by omega) (oneB_acF _ _ 10) (by kernel_rfl) ?_
        intro w5 hf5 hs5 hB5
        refine ⟨hHeld4.trans1 hf5 (Or.inr hHeld3.size), ?_⟩
        have H5 := hide (show Fr [] W w5 ∧ Blk w5 w3.heap.size 10 (actsAt L r s a) from ⟨hHeld4.trans1 hf5 (Or.inr hHeld3.size), hB5.congr fun i hi => lay_all _ _ _ i hi⟩)
        clear hK hK2 hHeld hHeld3 hHeld4 hf3 hf4 hf5 hB4 hB5 hs4 hs5
        generalize w3.heap.size = fb at *
      case' g8 =>
        rw [if_pos (by rfl)]
        refine op_alloc_blk 74 rfl (some 7) rfl 10 _ Tryd.zeroActs ?_
        intro w3 hf3 hs3 hB3
        refine hK.out _ _ (hHeld.trans0 hf3) (fun hHeld3 => ?_)
        refine wpAnyH_ready (rs := [7]) (by kernel_rfl) (by simp) ?_
        refine AllReadyH.cons rfl (fun K2 hK2 => ?_) AllReadyH.nil
        rw [if_pos (by rfl)]
        go_wp2_with fail
        refine (p_actsR t tb base s a p v S cores L r _ (by exact ((unhide HWr).fr0 hHeld3).tab) (unhide HP) hsl (unhide HA)).mono ?_
        rintro e w4 ⟨rfl, hf4⟩
        refine hK2.out _ _ (hHeld3.trans0 hf4) (fun hHeld4 => ?_)
        refine wpAnyH_store_last (i := 9) (by kernel_rfl) rfl rfl rfl 74 (.tmp 7) (.tmp 22) rfl W.drew.heap.size 0 10 10 (acF false fun _ => false) (actsAt L r s a) (by simp [Act.eval]) (by simp [Act.eval]) (hB3.fr0 hf4) Tryd.sizeActs (by omega) (oneB_acF _ _ 10) (by kernel_rfl) ?_
        intro w5 hf5 hs5 hB5
        refine ⟨hHeld4.trans1 hf5 (Or.inr (Nat.le_refl _)), ?_⟩
        have H5 := hide (show Fr [] W w5 ∧ Blk w5 W.heap.size 10 (actsAt L r s a) from ⟨hHeld4.trans1 hf5 (Or.inr (Nat.le_refl _)), hB5.congr fun i hi => lay_all _ _ _ i hi⟩)
        clear hK hK2 hHeld hHeld3 hHeld4 hf3 hf4 hf5 hB3 hB5 hs3 hs5
        generalize W.heap.size = fb at *
      all_goals
        have c0 := (unhide H5).2.cell 0 (by omega)
        have c1 := (unhide H5).2.cell 1 (by omega)
        rw [actsAt_0] at c0
        rw [actsAt_1] at c1
        have HRd5 := hide ((unhide HWr).fr0 (unhide H5).1)
        have HB5 := hide (show Below rb w w5 from (unhide hs).bel.trans (((unhide HFW).trans0 (unhide H5).1).below.mono (Nat.le_of_lt (unhide hs).rd.blk.lt)))
        clear HWc HWr HFW
        cases h1 : canS r s a
        · rw [h1] at c0
          cases h2 : canR L r s a 0
          · rw [h2] at c1
            cases h3 : frstR L r s a with
            | none =>
              have HE := hide (show acE (canS r s a) (fun k => decide (k < 9) && canR L r s a k) = true from acE_iff.2 ⟨h1, fun k hk => by
                unfold frstR at h3
                rw [List.find?_eq_none] at h3
                have := h3 k (List.mem_range.2 hk)
                simp [hk]; simpa using this⟩)
              have HEnd := hide (show settleM L r a 1048576 st = (false, (s, x) :: st2) from by
                rw [show settleM L r a 1048576 st = settleM L r a (1048576 - n) ((s, x) :: st2) from (unhide hs).same, show 1048576 - n = (1048576 - (n + 1)) + 1 from by omega, settleM, show topS ((s, x) :: st2) = s from rfl, h1, h2, h3]; rfl)
              clear h1 h2 h3
              go_wp2_with (go_at_call 36; refine (p_aEmpty fb _ _ w5 (by exact (unhide H5).2)).mono ?_; rintro e w6 ⟨rfl, hf6⟩; rw [unhide HE]; have HF6 := hide hf6; clear hf6)
              go_ret
              exact ⟨false, _, sv1, rfl, unhide HEnd, (unhide HB5).trans ((unhide HF6).below.mono (Nat.le_of_lt (unhide HRd5).blk.lt)), (unhide HRd5).fr0 (unhide HF6), (unhide hs).si, by have := (unhide hs).sz; omega⟩
            | some k =>
              obtain ⟨k1, k2, k3⟩ := find_rangeI h3
              have hk0 : 1 ≤ k := by
                rcases Nat.eq_zero_or_pos k with e | e
                · subst e; rw [h2] at k2; cases k2
                · exact e
              obtain ⟨pt, s', xs, st', j, q1, q2, q3, q4, q5, q6, q7⟩ := (unhide hs).si.replace (unhide HR).tab hk0 (by exact k2)
              have HE := hide (show acE (canS r s a) (fun k => decide (k < 9) && canR L r s a k) = false from by
                cases e : acE (canS r s a) (fun k => decide (k < 9) && canR L r s a k)
                · rfl
                · have := (acE_iff.1 e).2 k k1
                  rw [k2] at this
                  simp [k1] at this)
              have HNx := hide (show SameS L r a st (n + 1) ((j, nodeT k (txt pt)) :: (s', xs) :: st') from by
                unfold SameS
                rw [show settleM L r a 1048576 st = settleM L r a (1048576 - n) ((s, x) :: st2) from (unhide hs).same, show 1048576 - n = (1048576 - (n + 1)) + 1 from by omega, settleM, show topS ((s, x) :: st2) = s from rfl, h1, h2, h3]
                show settleM L r a _ (replM L r k ((s, x) :: st2)) = _
                rw [q1, replM_eq q2 q4])
              have HSz := hide (show ((j, nodeT k (txt pt)) :: (s', xs) :: st').length + szT ((j, nodeT k (txt pt)) :: (s', xs) :: st') ≤ B + 4 * (n + 1) from by
                have := (unhide hs).sz
                rw [q1] at this
                have h4 := replM_sz (k := k) (s := s') (j := j) (x := xs) (pt := pt) (st := st')
                omega)
              have hen := plT_en (t := t) (k := k) (by rw [← (unhide HP).hL]; exact q3)
              rw [← (unhide HP).pl, ← (unhide HP).hL] at hen
              have HEn := hide hen
              have HLf := hide (show p.left k = (rget L k).L from by rw [(unhide HP).pl, (unhide HP).hL]; rfl)
              have hs' : s' < S.length := by rw [(unhide HP).len]; exact q6
              have HSt := hide (show stepTo S s' (rget L k).L = (j : Nat) from by rw [(unhide HP).st s' hs' _ (by unfold letB; rw [(unhide HR).tab.cl.big k hk0 q3]; rfl)]; exact q4)
              have hm5 : (rget L k).R.size < 5 := by
                have := (unhide HR).tab.cl.gr.small k q3
                rw [rget_eq L k q3]; omega
              have HRd7 := hide (show ∀ W', Fr [] w5 W' → RdS W' rb tb base p v S cores sv1 (pt ++ (s', xs) :: st') from fun W' hW' => by rw [← q1]; exact (unhide HRd5).fr0 hW')
              have hpl : st'.length ≤ 90000000 := by
                have := congrArg List.length q1
                rw [List.length_append, List.length_cons, List.length_cons] at this
                omega
              have hpz : szT pt ≤ 1000000000 := by
                have h5 := (unhide hs).sz
                rw [q1, szT_app] at h5
                omega
              have HQ2 := hide q2
              have HSI := hide q7
              have HK3 := hide (show ∀ i, i < k → (fun k => decide (k < 9) && canR L r s a k) i = false from fun i hi => by show (decide (i < 9) && canR L r s a i) = false; rw [k3 i hi]; simp)
              have HK2 := hide (show (fun k => decide (k < 9) && canR L r s a k) k = true from by show (decide (k < 9) && canR L r s a k) = true; rw [k2]; simpa using k1)
              clear h1 h2 h3 k2 k3 q1 q2 q4 q5 q6 q7 hen
              go_wp2_with (first
                | (go_at_call 36; refine (p_aEmpty fb _ _ w5 (by exact (unhide H5).2)).mono ?_; rintro e w6 ⟨rfl, hf6⟩; rw [unhide HE]; have HF6 := hide hf6; clear hf6)
                | (go_at_call 37; refine (p_firstRule fb k _ _ w6 (by exact (unhide H5).2.fr0 (unhide HF6)) k1 (unhide HK2) (unhide HK3)).mono ?_; rintro e w' ⟨rfl, hw'⟩; rw [hw'])
                | (go_at_call 38; refine (p_replace rb tb base p v S cores sv1 k (rget L k).R.size (rget L k).L j s' xs pt st' w6 (by exact unhide HRd7 w6 (unhide HF6)) (unhide HQ2) k1 hm5 (unhide HEn).1 (unhide HEn).2 (unhide HLf) hs' (unhide HSt) hpl hpz).mono ?_; rintro e w7 ⟨rfl, hb7, sv7, h7⟩; have HX := hide (show StS w w7 rb tb base p v S cores L N T r a st u B (n + 1) sv7 ((j, nodeT k (txt pt)) :: (s', xs) :: st') from ⟨((unhide HB5).trans ((unhide HF6).below.mono (Nat.le_of_lt (unhide HRd5).blk.lt))).trans hb7, h7, unhide HSI, unhide HNx, unhide HSz⟩); clear hb7 h7))
              go_roundw
              case rel => exact ⟨n + 1, _, sv7, by omega, by go_num, HX⟩
              case measure => simp [intOf]; omega
          · rw [h2] at c1
            have HEnd := hide (show settleM L r a 1048576 st = (true, (s, x) :: st2) from by
              rw [show settleM L r a 1048576 st = settleM L r a (1048576 - n) ((s, x) :: st2) from (unhide hs).same, show 1048576 - n = (1048576 - (n + 1)) + 1 from by omega, settleM, show topS ((s, x) :: st2) = s from rfl, h1, h2]; rfl)
            clear h1 h2
            go_wp2
            go_ret
            exact ⟨true, _, sv1, rfl, unhide HEnd, unhide HB5, unhide HRd5, (unhide hs).si, by have := (unhide hs).sz; omega⟩
        · rw [h1] at c0
          have HEnd := hide (show settleM L r a 1048576 st = (true, (s, x) :: st2) from by
            rw [show settleM L r a 1048576 st = settleM L r a (1048576 - n) ((s, x) :: st2) from (unhide hs).same, show 1048576 - n = (1048576 - (n + 1)) + 1 from by omega, settleM, show topS ((s, x) :: st2) = s from rfl, h1]; rfl)
          clear h1
          go_wp2
          go_ret
          exact ⟨true, _, sv1, rfl, unhide HEnd, unhide HB5, unhide HRd5, (unhide hs).si, by have := (unhide hs).sz; omega⟩
    · have hn2 : n = 1048576 := by omega
      have HEnd := hide (show settleM L r a 1048576 st = (false, st1) from by
        rw [show settleM L r a 1048576 st = settleM L r a (1048576 - n) st1 from (unhide hs).same, hn2, Nat.sub_self]; rfl)
      have hni : ¬ (n : Int) < 1048576 := by omega
      clear hn2
      go_wp2
      go_ret
      exact ⟨false, _, sv1, rfl, unhide HEnd, (unhide hs).bel, (unhide hs).rd, (unhide hs).si, by have := (unhide hs).sz; omega⟩
end Go.Proofs.YtkglggkkbmmjkaaDoor
