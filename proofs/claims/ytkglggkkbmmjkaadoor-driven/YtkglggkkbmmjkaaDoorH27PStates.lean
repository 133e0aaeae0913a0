import Derived.Test.YtkglggkkbmmjkaaDoorH26PSteps0
namespace Go.Proofs.YtkglggkkbmmjkaaDoor
open Go.RowKit

set_option maxRecDepth 100000 in
set_option maxHeartbeats 3000000 in
/-- table.findSteps -/
theorem p_findSteps (tb base n : Nat) (p : Pl) (v : Value) (S : List Sd) (cores fault : Nat) (w : World) (h : TbAt w tb base p v S cores fault) (hn : n < S.length) (hS : S.length ≤ 40) (hco : cores ≤ S.length) (hbs : base ≤ w.heap.size) :
    Calls Tryd.prog 61 #[.pointer (some ⟨tb, 0, none⟩), .int .i64 n] w fun e w' => e = .returned (.tuple #[]) ∧ Fr (tb :: v.ownBlock.toList) w w' ∧ ∃ v' S' c' f', StepsR p n (sget S n).A S cores fault 52 S' c' f' ∧ TbAt w' tb base p v' S' c' f' ∧ c' ≤ S'.length ∧ S'.length ≤ 40 ∧ S.length ≤ S'.length ∧ (∀ g, v'.ownBlock = some g → v.ownBlock = some g ∨ w.heap.size ≤ g) := by
  obtain ⟨A, hA⟩ : ∃ A, (sget S n).A = A := ⟨_, rfl⟩
  rw [hA]
  obtain ⟨ao, cap, hv, hao⟩ := h.form
  obtain ⟨g, hg, hgo⟩ := hao (by omega)
  subst hg
  have H := hide h
  have HV := hide hv
  have HG := hide hgo
  have lb := h.blk.lt
  have c0 := h.v
  rw [hv] at c0
  have HI := hide (show CsAt w g (n * 1268) 1215 (boolF A) from by
    have h' := h
    rw [hv] at h'
    have := h'.items n hn
    rw [hA] at this; exact this)
  have hhs : (decide (0 ≤ (n : Int)) && decide ((n : Int) < S.length)) = true := by simp; omega
  have hni : (n : Int) < S.length := by omega
  clear h hv hA hao hgo
  go_enter Tryd.func61, Tryd.ntmps61
  go_wp2_with (first
    | (have h5 := unhide H5; refine wpList_store_blk rfl 132 (.tmp 5) (.tmp 24) rfl w4.heap.size 0 52 52 _ (boolF (nxB p A 45)) rfl rfl (by exact unhide HA5) Tryd.sizeLett (by omega) (fun _ _ => rfl) ?_; intro w6 hf6 hs6 hB6; have H6 := hide (show FsS w w6 tb base w.heap.size w4.heap.size p v v S cores fault A from ⟨(h5.1.trans1 hf6 (Or.inr (by omega))).weak (by simp), (unhide H).fr ((h5.1.trans1 hf6 (Or.inr (by omega)))) (by simp) (by simp), h5.2.fr1 hf6 (by omega), hB6.congr fun i hi => lay_all _ _ _ i hi, fun g hg => Or.inl hg, fun e => (by have := ((unhide H).row.lt e).2; omega), fun e => (by have := ((unhide H).row.lt e).2; omega), Nat.le_refl _, by omega, lb, hco, hS⟩); clear hf6 hB6 HA5 h5)
    | (go_at_call 24; refine (p_hasState tb base p v S cores fault n _ (by exact unhide H)).mono ?_; rintro e w' ⟨rfl, hw'⟩; rw [hw', hhs])
    | (refine wpList_load_cs rfl 99 (.tmp 19) rfl (some 20) rfl g (n * 1268) 1215 (boolF A) _ rfl (by exact unhide HI) Tryd.underlying99 rfl Tryd.sizeItems ?_)
    | (refine wpList_alloc_blk rfl 99 rfl (some 4) rfl 1215 _ Tryd.zeroItems ?_; intro w1 hf1 hs1 hB1; have HF1 := hide hf1; have HA1 := hide hB1; clear hf1 hB1)
    | (refine wpList_store_blk rfl 99 (.tmp 4) (.tmp 20) rfl w.heap.size 0 1215 1215 _ (boolF A) rfl rfl (by exact unhide HA1) Tryd.sizeItems (by omega) (fun _ _ => rfl) ?_; intro w2 hf2 hs2 hB2; have HF2 := hide ((unhide HF1).trans1 hf2 (Or.inr (Nat.le_refl _))); have HA2 := hide (show Blk w2 w.heap.size 1215 (boolF A) from hB2.congr fun i hi => lay_all _ _ _ i hi); clear hf2 hB2 HA1)
    | (go_at_call 76; refine (p_nextLetters tb w.heap.size p A _ (((unhide H).fr0 (unhide HF2)).plan) (by exact unhide HA2) (Nat.lt_of_lt_of_le lb (unhide HF2).size)).mono ?_; rintro e w4 ⟨rfl, hf4⟩; have HF4 := hide ((unhide HF2).trans0 hf4); have HA4 := hide ((unhide HA2).fr0 hf4); have ls4 : w.heap.size < w4.heap.size := ((unhide HA4).lt); clear hf4 HF1)
    | (refine wpList_alloc_blk rfl 132 rfl (some 5) rfl 52 _ Tryd.zeroLett ?_; intro w5 hf5 hs5 hB5; have H5 := hide (And.intro ((unhide HF4).trans0 hf5) ((unhide HA4).fr0 hf5)); have HA5 := hide hB5; clear hf5 hB5))
  obtain ⟨f5, hf5e⟩ : ∃ f5, w4.heap.size = f5 := ⟨_, rfl⟩
  rw [hf5e] at H6 ls4
  rw [hf5e]
  clear HF2 HF4 HA2 HA4 H5 hhs c0 HI
  go_loopw [6] (fun iv wr => ∃ i : Nat, i ≤ 52 ∧ iv = .int .i64 i ∧ ∃ v1 S1 c1 f1, Hid (FsS w wr tb base w.heap.size f5 p v v1 S1 c1 f1 A ∧ StepsR p n A S cores fault i S1 c1 f1 ∧ S.length ≤ S1.length)) (fun iv _ => 52 - (intOf iv).toNat)
  case atStart => exact ⟨0, by omega, rfl, v, S, cores, fault, hide ⟨unhide H6, StepsR.zero, Nat.le_refl _⟩⟩
  case round =>
    obtain ⟨i, hi, rfl, v1, S1, c1, f1, hs⟩ := hrel
    clear H6
    by_cases hlt : i < 52
    · have hnS : n < S1.length := Nat.lt_of_lt_of_le hn (unhide hs).2.2
      have hnSi : (n : Int) < S1.length := by omega
      have d0 : wr.cell? ⟨f5, i, none⟩ = some (.bool (nxB p A 45 i)) := (unhide hs).1.b5.cell i hlt
      obtain ⟨g1, cap1, hv1, q1, q2, q3⟩ := (unhide hs).1.slot n i hnS hlt
      subst hv1
      cases hx : nxB p A 45 i
      · rw [hx] at d0
        have HN := hide (show FsS w (wr.setCell ⟨g1, n * 1268 + 1215 + i, none⟩ (.int .i64 (-1))) tb base w.heap.size f5 p v (.slice (some ⟨g1, 0, none⟩) (setTo S1 n i (-1)).length cap1) (setTo S1 n i (-1)) c1 f1 A ∧ StepsR p n A S cores fault (i + 1) (setTo S1 n i (-1)) c1 f1 ∧ S.length ≤ (setTo S1 n i (-1)).length from ⟨(unhide hs).1.put n i hnS hlt (-1), (unhide hs).2.1.skip hx, by rw [setTo_len]; exact (unhide hs).2.2⟩)
        clear hs
        go_wp2
        go_roundw
        case rel => exact ⟨i + 1, by omega, by go_num, _, _, _, _, HN⟩
        case measure => simp [intOf]; omega
      · rw [hx] at d0
        clear q1 q2 q3
        go_wp2
        refine wp_region_held_drew (S := fun _ => True) (by kernel_rfl) trivial (fun hHeld => ?_)
        refine wpAnyH_takeD (i := 0) (v := .pointer (some ⟨tb, 0, none⟩)) rfl rfl (by kernel_rfl) (by kernel_rfl) (by kernel_rfl) (fun _ _ _ h => h) (Or.inl ⟨by rfl, fun _ _ => rfl⟩) hHeld ?_
        simp only [Act.put, List.setIfInBounds_toArray, List.set_cons_zero, List.set_cons_succ]
        refine wpAnyH_takeD (i := 1) (v := .pointer (some ⟨tb, 0, none⟩)) rfl rfl (by kernel_rfl) (by kernel_rfl) (by kernel_rfl) (fun _ _ _ h => h) (Or.inl ⟨by rfl, fun _ _ => rfl⟩) hHeld ?_
        simp only [Act.put, List.setIfInBounds_toArray, List.set_cons_zero, List.set_cons_succ]
        refine wpAnyH_takeD (i := 2) (v := .pointer (some ⟨tb, 0, none⟩)) rfl rfl (by kernel_rfl) (by kernel_rfl) (by kernel_rfl) (fun _ _ _ h => h) (Or.inl ⟨by rfl, fun _ _ => by go_simp⟩) hHeld ?_
        simp only [Act.put, List.setIfInBounds_toArray, List.set_cons_zero, List.set_cons_succ]
        refine wpAnyH_takeD (i := 3) (v := .int .i64 i) rfl rfl (by kernel_rfl) (by kernel_rfl) (by kernel_rfl) (fun _ _ _ h => h) (Or.inl ⟨by rfl, fun _ _ => rfl⟩) hHeld ?_
        simp only [Act.put, List.setIfInBounds_toArray, List.set_cons_zero, List.set_cons_succ]
        have HS0 := hide ((unhide hs).1.fr0 (Fr.refl [] wr).drew)
        have l4 := (unhide hs).1.b4.lt
        have l5 := (unhide hs).1.b5.lt
        have ls := (unhide hs).1.fr.size
        have lg : g1 < wr.heap.size := ((unhide hs).1.tab.row.lt rfl).2
        refine wpAnyH_ready (rs := [4, 6]) (by kernel_rfl) (by simp) ?_
        refine AllReadyH.cons rfl (fun K hK => ?a4) (AllReadyH.cons rfl (fun K hK => ?a6) AllReadyH.nil)
        case' a6 =>
          rw [if_pos (by rfl)]
          refine op_alloc_blk 99 rfl (some 8) rfl 1215 _ Tryd.zeroItems ?_
          intro wa hfa hsa hBa
          refine hK.out _ _ trivial (fun hHeld => ?_)
          simp only [Act.put, List.setIfInBounds_toArray, List.set_cons_zero, List.set_cons_succ]
          have HSa := hide ((unhide HS0).fr0 hfa)
          refine wpAnyH_ready (rs := [4]) (by kernel_rfl) (by simp) ?_
          refine AllReadyH.cons rfl (fun K2 hK2 => ?_) AllReadyH.nil
          rw [if_pos (by rfl)]
          go_wp2_with fail
          refine (p_letterAt i _ hlt).mono ?_
          rintro e wb ⟨rfl, hwb⟩
          rw [hwb]
          refine hK2.out _ _ trivial (fun hHeld => ?_)
          clear hwb
          refine wpAnyH_ready (rs := [5]) (by kernel_rfl) (by simp) ?_
          refine AllReadyH.cons rfl (fun K3 hK3 => ?_) AllReadyH.nil
          rw [if_pos (by rfl)]
          go_wp2_with fail
          refine (p_move tb w.heap.size (ltr i) p A wa (by exact (unhide HSa).tab.plan) (by exact (unhide HSa).b4) (by exact (unhide HSa).tab.blk.lt)).mono ?_
          rintro e wc ⟨hfc, B, rfl, hFB⟩
          have HFB := hide hFB
          refine hK3.out _ _ trivial (fun hHeld => ?_)
          have HZ := hide (show FsS w wc tb base w.heap.size f5 p v (.slice (some ⟨g1, 0, none⟩) S1.length cap1) S1 c1 f1 A ∧ Blk wc wr.heap.size 1215 (boolF fun _ => false) ∧ wr.heap.size ≤ wr.heap.size from ⟨(unhide HSa).fr0 hfc, hBa.fr0 hfc, Nat.le_refl _⟩)
          clear hfa hsa hBa hfc HSa hK hK2 hK3 hFB
        case' a4 =>
          rw [if_pos (by rfl)]
          go_wp2_with fail
          refine (p_letterAt i _ hlt).mono ?_
          rintro e wb ⟨rfl, hwb⟩
          rw [hwb]
          refine hK.out _ _ trivial (fun hHeld => ?_)
          clear hwb
          refine wpAnyH_ready (rs := [5, 6]) (by kernel_rfl) (by simp) ?_
          refine AllReadyH.cons rfl (fun K2 hK2 => ?c5) (AllReadyH.cons rfl (fun K2 hK2 => ?c6) AllReadyH.nil)
        case' c5 =>
          rw [if_pos (by rfl)]
          go_wp2_with fail
          refine (p_move tb w.heap.size (ltr i) p A wr.drew (by exact (unhide HS0).tab.plan) (by exact (unhide HS0).b4) (by exact (unhide HS0).tab.blk.lt)).mono ?_
          rintro e wc ⟨hfc, B, rfl, hFB⟩
          have HFB := hide hFB
          refine hK2.out _ _ trivial (fun hHeld => ?_)
          refine wpAnyH_ready (rs := [6]) (by kernel_rfl) (by simp) ?_
          refine AllReadyH.cons rfl (fun K3 hK3 => ?_) AllReadyH.nil
          rw [if_pos (by rfl)]
          refine op_alloc_blk 99 rfl (some 8) rfl 1215 _ Tryd.zeroItems ?_
          intro wa hfa hsa hBa
          refine hK3.out _ _ trivial (fun hHeld => ?_)
          simp only [Act.put, List.setIfInBounds_toArray, List.set_cons_zero, List.set_cons_succ]
          have HZ := hide (show FsS w wa tb base w.heap.size f5 p v (.slice (some ⟨g1, 0, none⟩) S1.length cap1) S1 c1 f1 A ∧ Blk wa wc.heap.size 1215 (boolF fun _ => false) ∧ wr.heap.size ≤ wc.heap.size from ⟨((unhide HS0).fr0 hfc).fr0 hfa, hBa, hfc.size⟩)
          clear hfa hsa hBa hfc hK hK2 hK3 hFB
        case' c6 =>
          rw [if_pos (by rfl)]
          refine op_alloc_blk 99 rfl (some 8) rfl 1215 _ Tryd.zeroItems ?_
          intro wa hfa hsa hBa
          refine hK2.out _ _ trivial (fun hHeld => ?_)
          simp only [Act.put, List.setIfInBounds_toArray, List.set_cons_zero, List.set_cons_succ]
          have HSa := hide ((unhide HS0).fr0 hfa)
          refine wpAnyH_ready (rs := [5]) (by kernel_rfl) (by simp) ?_
          refine AllReadyH.cons rfl (fun K3 hK3 => ?_) AllReadyH.nil
          rw [if_pos (by rfl)]
          go_wp2_with fail
          refine (p_move tb w.heap.size (ltr i) p A wa (by exact (unhide HSa).tab.plan) (by exact (unhide HSa).b4) (by exact (unhide HSa).tab.blk.lt)).mono ?_
          rintro e wc ⟨hfc, B, rfl, hFB⟩
          have HFB := hide hFB
          refine hK3.out _ _ trivial (fun hHeld => ?_)
          have HZ := hide (show FsS w wc tb base w.heap.size f5 p v (.slice (some ⟨g1, 0, none⟩) S1.length cap1) S1 c1 f1 A ∧ Blk wc wr.heap.size 1215 (boolF fun _ => false) ∧ wr.heap.size ≤ wr.heap.size from ⟨(unhide HSa).fr0 hfc, hBa.fr0 hfc, Nat.le_refl _⟩)
          clear hfa hsa hBa hfc HSa hK hK2 hK3 hFB
        all_goals
          refine wpAnyH_store_last (i := 7) (by kernel_rfl) rfl rfl rfl 99 (.tmp 8) (.tmp 38) rfl _ 0 1215 1215 (boolF fun _ => false) (boolF B) (by rfl) (by rfl) (unhide HZ).2.1 Tryd.sizeItems (by omega) (by intro i hi; rfl) (by kernel_rfl) ?_
          intro w9 hf9 hs9 hB9
          have hz := (unhide HZ).2.2
          have H9 := hide (And.intro ((unhide HZ).1.far hf9 (by omega) (by omega) (by omega) (fun e => by have e2 : g1 = _ := Option.some.inj e; omega)) (hB9.congr (g := boolF B) fun i hi => lay_all _ _ _ i hi))
          refine ⟨trivial, ?_⟩
          have hle := (unhide hs).1.le
          have hcc : c1 ≤ 40 := Nat.le_trans (unhide hs).1.co hle
          have hb9 : base ≤ w9.heap.size := Nat.le_trans hbs (unhide H9).1.fr.size
          have HX := hide hx
          clear hf9 hB9 hs9 HZ HS0 hx
          rcases hnum : numP S1 B with _ | j
          · have HNum := hide hnum
            clear hnum
            by_cases h40 : 40 ≤ S1.length
            · have HST := hide ((unhide hs).2.1.many (unhide HX) (unhide HFB) (unhide HNum) h40)
              go_wp2_with (go_at_call 60; refine (p_numberOf tb base _ p _ S1 c1 f1 B w9 (by exact (unhide H9).1.tab) (by exact (unhide H9).2) hle hcc hb9).mono ?_; rintro e w10 hN; obtain ⟨rfl, hf10, ht10⟩ := hN.2.1 (unhide HNum) h40; have H10 := hide ((unhide H9).1.many hf10 ht10); obtain ⟨g2, cap2, hv2, q1, q2, q3⟩ := (unhide H10).slot n i hnS hlt; cases hv2; have HN := hide (show FsS w (w10.setCell ⟨g1, n * 1268 + 1215 + i, none⟩ (.int .i64 (-1))) tb base w.heap.size f5 p v (.slice (some ⟨g1, 0, none⟩) (setTo S1 n i (-1)).length cap1) (setTo S1 n i (-1)) c1 6 A ∧ StepsR p n A S cores fault (i + 1) (setTo S1 n i (-1)) c1 6 ∧ S.length ≤ (setTo S1 n i (-1)).length from ⟨(unhide H10).put n i hnS hlt (-1), unhide HST, by (rw [setTo_len]; exact (unhide hs).2.2)⟩); clear hN hf10 ht10)
              go_roundw
              case rel => exact ⟨i + 1, by omega, by go_num, _, _, _, _, HN⟩
              case measure => simp [intOf]; omega
            · have h40' : S1.length < 40 := by omega
              have HST := hide ((unhide hs).2.1.new (unhide HX) (unhide HFB) (unhide HNum) h40')
              have HL2 := hide (show S.length ≤ (S1 ++ [sdN S1 B c1]).length from by rw [List.length_append]; have := (unhide hs).2.2; omega)
              have hn2 : n < (S1 ++ [sdN S1 B c1]).length := by rw [List.length_append]; omega
              obtain ⟨S2, hS2⟩ : ∃ S2, S1 ++ [sdN S1 B c1] = S2 := ⟨_, rfl⟩
              rw [hS2] at HST HL2 hn2
              have HS2 := hide hS2
              clear hS2
              have hn2i : (n : Int) < S2.length := by omega
              go_wp2_with (go_at_call 60; refine (p_numberOf tb base _ p _ S1 c1 f1 B w9 (by exact (unhide H9).1.tab) (by exact (unhide H9).2) hle hcc hb9).mono ?_; rintro e w10 hN; obtain ⟨rfl, hf10, v2, ht10, hg10⟩ := hN.2.2 (unhide HNum) h40'; have H10 := hide ((unhide H9).1.new hf10 ht10 hg10 h40'); rw [unhide HS2] at H10; obtain ⟨g2, cap2, hv2, q1, q2, q3⟩ := (unhide H10).slot n i hn2 hlt; subst hv2; have HN := hide (show FsS w (w10.setCell ⟨g2, n * 1268 + 1215 + i, none⟩ (.int .i64 S1.length)) tb base w.heap.size f5 p v (.slice (some ⟨g2, 0, none⟩) (setTo S2 n i S1.length).length cap2) (setTo S2 n i S1.length) (corN S1 B c1) f1 A ∧ StepsR p n A S cores fault (i + 1) (setTo S2 n i S1.length) (corN S1 B c1) f1 ∧ S.length ≤ (setTo S2 n i S1.length).length from ⟨(unhide H10).put n i hn2 hlt S1.length, unhide HST, by (rw [setTo_len]; exact unhide HL2)⟩); clear hN hf10 ht10 hg10)
              go_roundw
              case rel => exact ⟨i + 1, by omega, by go_num, _, _, _, _, HN⟩
              case measure => simp [intOf]; omega
          · have HNum := hide hnum
            clear hnum
            have HST := hide ((unhide hs).2.1.old (unhide HX) (unhide HFB) (unhide HNum))
            go_wp2_with (go_at_call 60; refine (p_numberOf tb base _ p _ S1 c1 f1 B w9 (by exact (unhide H9).1.tab) (by exact (unhide H9).2) hle hcc hb9).mono ?_; rintro e w10 hN; obtain ⟨rfl, hf10⟩ := hN.1 j (unhide HNum); have H10 := hide ((unhide H9).1.fr0 hf10); obtain ⟨g2, cap2, hv2, q1, q2, q3⟩ := (unhide H10).slot n i hnS hlt; cases hv2; have HN := hide (show FsS w (w10.setCell ⟨g1, n * 1268 + 1215 + i, none⟩ (.int .i64 j)) tb base w.heap.size f5 p v (.slice (some ⟨g1, 0, none⟩) (setTo S1 n i j).length cap1) (setTo S1 n i j) c1 f1 A ∧ StepsR p n A S cores fault (i + 1) (setTo S1 n i j) c1 f1 ∧ S.length ≤ (setTo S1 n i j).length from ⟨(unhide H10).put n i hnS hlt j, unhide HST, by (rw [setTo_len]; exact (unhide hs).2.2)⟩); clear hN hf10)
            go_roundw
            case rel => exact ⟨i + 1, by omega, by go_num, _, _, _, _, HN⟩
            case measure => simp [intOf]; omega
    · have HN := hide (show StepsR p n A S cores fault 52 S1 c1 f1 from by
        have e : i = 52 := by omega
        have h := (unhide hs).2.1
        rw [e] at h; exact h)
      go_wp2
      go_end0
      exact ⟨rfl, (unhide hs).1.fr, v1, S1, c1, f1, unhide HN, (unhide hs).1.tab, (unhide hs).1.co, (unhide hs).1.le, (unhide hs).2.2, (unhide hs).1.own⟩
end Go.Proofs.YtkglggkkbmmjkaaDoor


namespace Go.Proofs.YtkglggkkbmmjkaaDoor
open Go.RowKit

/-- the states, as far as the steps of the first n are found -/
inductive StatesR (p : Pl) : Nat → List Sd → Nat → Nat → Prop
  | start {B : Nat → Bool} : FuI p fstI B → StatesR p 0 [sdN [] B 0] (corN [] B 0) 0
  | step {n : Nat} {S S' : List Sd} {c c' f' : Nat} : StatesR p n S c 0 → n < S.length → StepsR p n (sget S n).A S c 0 52 S' c' f' → StatesR p (n + 1) S' c' f'

/-- findStates' state -/
structure FtS (w wr : World) (tb base : Nat) (p : Pl) (v : Value) (S : List Sd) (c f : Nat) : Prop where
  fr : Fr [tb] w wr
  tab : TbAt wr tb base p v S c f
  own : ∀ g, v.ownBlock = some g → w.heap.size ≤ g
  co : c ≤ S.length
  le : S.length ≤ 40
theorem FtS.next {w wr w' : World} {tb base : Nat} {p : Pl} {v v' : Value} {S S' : List Sd} {c f c' f' : Nat} (h : FtS w wr tb base p v S c f) (k : Fr (tb :: v.ownBlock.toList) wr w') (ht : TbAt w' tb base p v' S' c' f') (hg : ∀ g, v'.ownBlock = some g → v.ownBlock = some g ∨ wr.heap.size ≤ g) (hc : c' ≤ S'.length) (hl : S'.length ≤ 40) : FtS w w' tb base p v' S' c' f' := by
  refine ⟨h.fr.trans k (fun x hx => ?_), ht, fun g hg' => ?_, hc, hl⟩
  · rcases List.mem_cons.1 hx with e | e
    · exact Or.inl (by rw [e]; simp)
    · exact Or.inr (h.own x (by simpa using e))
  · rcases hg g hg' with e | e
    · exact h.own g e
    · exact Nat.le_trans h.fr.size e

set_option maxRecDepth 100000 in
set_option maxHeartbeats 2000000 in
/-- table.findStates -/
theorem p_findStates (tb : Nat) (p : Pl) (w : World) (h : Blk w tb 1362 (tbF p (.slice none 0 0) 0 0)) :
    Calls Tryd.prog 41 #[.pointer (some ⟨tb, 0, none⟩)] w fun e w' => e = .returned (.tuple #[]) ∧ Fr [tb] w w' ∧ ∃ n v S c f, StatesR p n S c f ∧ TbAt w' tb w.heap.size p v S c f ∧ (f = 0 → n = S.length) ∧ S.length ≤ 40 ∧ c ≤ S.length := by
  have lb := h.lt
  have H := hide (show TbAt w tb w.heap.size p (.slice none 0 0) [] 0 0 from ⟨h, GRow.nil _ _ _ _ _, lb⟩)
  clear h
  go_enter Tryd.func41, Tryd.ntmps41
  go_wp2_with (first
    | (have h3 := unhide H3; go_at_call 60; refine (p_numberOf tb w.heap.size w1.heap.size p _ [] 0 0 B w3 (by exact h3.1) (by exact h3.2.1) (by show 0 ≤ 40; omega) (by omega) h3.2.2.size).mono ?_; rintro e w4 hN; obtain ⟨rfl, hf4, v4, ht4, hg4⟩ := hN.2.2 rfl (by show 0 < 40; omega); have H4 := hide (show FtS w w4 tb w.heap.size p v4 [sdN [] B 0] (corN [] B 0) 0 from ⟨(Fr.weak h3.2.2 (by simp)).trans hf4 (by simp [Value.ownBlock]), ht4, fun g hg => (by rcases hg4 g hg with e | e; cases e; exact Nat.le_trans h3.2.2.size e), corN_le [] B 0 (Nat.le_refl _), by show 1 ≤ 40; omega⟩); clear hN hf4 ht4 hg4 h3)
    | (go_at_call 59; refine (p_firstItems tb p w (unhide H).plan lb).mono ?_; rintro e w1 ⟨hf1, B, rfl, hFB⟩; have HF1 := hide hf1; have HFB := hide hFB; clear hf1 hFB)
    | (refine wpList_alloc_blk rfl 99 rfl (some 2) rfl 1215 _ Tryd.zeroItems ?_; intro w2 hf2 hs2 hB2; have HF2 := hide ((unhide HF1).trans0 hf2); have HA2 := hide hB2; clear hf2 hB2)
    | (refine wpList_store_blk rfl 99 (.tmp 2) (.tmp 7) rfl w1.heap.size 0 1215 1215 _ (boolF B) rfl rfl (by exact unhide HA2) Tryd.sizeItems (by omega) (fun _ _ => rfl) ?_; intro w3 hf3 hs3 hB3; have H3 := hide (show TbAt w3 tb w.heap.size p (.slice none 0 0) [] 0 0 ∧ Blk w3 w1.heap.size 1215 (boolF B) ∧ Fr [] w w3 from ⟨(unhide H).fr0 ((unhide HF2).trans1 hf3 (Or.inr (unhide HF1).size)), hB3.congr (fun i hi => lay_all _ _ _ i hi), (unhide HF2).trans1 hf3 (Or.inr (unhide HF1).size)⟩); clear hf3 hB3 HA2))
  clear HF1 HF2 H3
  go_loopw [3] (fun iv wr => ∃ n : Nat, n ≤ 40 ∧ iv = .int .i64 n ∧ ∃ v S c, Hid (FtS w wr tb w.heap.size p v S c 0 ∧ StatesR p n S c 0 ∧ n ≤ S.length)) (fun iv _ => 41 - (intOf iv).toNat)
  case atStart => exact ⟨0, by omega, rfl, _, _, _, hide ⟨unhide H4, StatesR.start (unhide HFB), Nat.zero_le _⟩⟩
  case round =>
    obtain ⟨n, hn, rfl, v, S, c, hs⟩ := hrel
    clear H4
    obtain ⟨ao, cap, hv, _⟩ := (unhide hs).1.tab.form
    have q0 := (unhide hs).1.tab.v
    rw [hv] at q0
    have hle := (unhide hs).1.le
    by_cases hlt : n < S.length
    · have hni : (n : Int) < S.length := by omega
      have hbr : w.heap.size ≤ wr.heap.size := (unhide hs).1.fr.size
      clear hv
      go_wp2_with (go_at_call 61; refine (p_findSteps tb w.heap.size n p v S c 0 wr (by exact (unhide hs).1.tab) hlt hle (unhide hs).1.co hbr).mono ?_; rintro e w5 ⟨rfl, hf5, v', S', c', f', hR, ht, hc', hl', hSS, hg⟩; have H5 := hide ((unhide hs).1.next hf5 ht hg hc' hl'); have HR5 := hide ((unhide hs).2.1.step hlt hR); have q5 := (unhide H5).tab.fault; have hn5 : n + 1 ≤ S'.length := (Nat.le_trans hlt hSS); clear hf5 hR ht hc' hl' hSS hg)
      · rename_i hff
        have hf0 : ¬ f' = 0 := fun e => by rw [e] at hff; cases hff
        exact bodyPost_ret (v := .tuple #[]) (results_none Tryd.results41 _ _ _) rfl ⟨rfl, (unhide H5).fr, n + 1, v', S', c', f', unhide HR5, (unhide H5).tab, fun e => absurd e hf0, (unhide H5).le, (unhide H5).co⟩
      · rename_i hff
        have hf0 : f' = 0 := by
          have : (f' : Int) = 0 := by simpa using hff
          omega
        subst hf0
        go_roundw
        case rel => exact ⟨n + 1, by have := (unhide H5).le; omega, by go_num, v', S', c', hide ⟨unhide H5, unhide HR5, hn5⟩⟩
        case measure => simp [intOf]; omega
    · have HN := hide (show n = S.length from by have := (unhide hs).2.2; omega)
      go_wp2
      go_end0
      exact ⟨rfl, (unhide hs).1.fr, n, v, S, c, 0, (unhide hs).2.1, (unhide hs).1.tab, fun _ => unhide HN, hle, (unhide hs).1.co⟩
end Go.Proofs.YtkglggkkbmmjkaaDoor
