import Derived.Test.YtkglggkkbmmjkaaGreatDoorJ31PFill
namespace Go.Proofs.YtkglggkkbmmjkaaGreatDoor
open Go.RowKit

theorem Tryz.zeroItems : (Tryz.prog.info? 144).bind (·.zero) = some (Agg 1215 (boolF fun _ => false)) := by kernel_rfl
theorem Tryz.sizeItems : (Tryz.prog.info? 144).map (·.size) = some 1215 := by kernel_rfl
theorem Tryz.eqItems : EqT Tryz.prog 10000 144 1215 :=
  eqT_struct (E := 142) (eqT_array (len := 9) (m := 135) (eqT_array (len := 5) (m := 27) (E := 48)
    (eqT_struct (E := 46) (eqT_array (len := 27) (eqT_bool 9994 4 Tryz.underlying4 (by kernel_rfl)) Tryz.underlying46 (by kernel_rfl)) Tryz.underlying48 rfl rfl rfl (by kernel_rfl) (by kernel_rfl))
    Tryz.underlying141 (by kernel_rfl)) Tryz.underlying142 (by kernel_rfl)) Tryz.underlying144 rfl rfl rfl (by kernel_rfl) (by kernel_rfl)

set_option maxRecDepth 100000 in
set_option maxHeartbeats 1600000 in
/-- plan.fill -/
theorem p_fill (pb sb : Nat) (p : Pl) (A : Nat → Bool) (w : World) (hP : PlAt w pb p) (hB : Blk w sb 1215 (boolF A)) (hpl : pb < w.heap.size) (hne : pb ≠ sb) :
    Calls Tryz.prog 147 #[.pointer (some ⟨pb, 0, none⟩), .pointer (some ⟨sb, 0, none⟩)] w fun e w' => e = .returned (.tuple #[]) ∧ Fr [sb] w w' ∧ ∃ B, Blk w' sb 1215 (boolF B) ∧ FuI p A B := by
  have HS := hide (show SpS w w pb sb p A from ⟨Fr.refl _ _, hB, hP, hpl, hB.lt⟩)
  have lb := hB.lt
  clear hB hP
  go_enter Tryz.func147, Tryz.ntmps147
  go_wp2
  go_loopw [4] (fun i wr => ∃ k : Nat, k ≤ 1216 ∧ i = .int .i64 k ∧ ∃ B, Hid (SpS w wr pb sb p B ∧ FiM p A B ∧ k ≤ cntI B)) (fun i _ => 1216 - (intOf i).toNat)
  case atStart => exact ⟨0, by omega, rfl, A, hide ⟨unhide HS, ⟨fun _ h => h, fun j hj h S h1 _ => h1 j hj h⟩, Nat.zero_le _⟩⟩
  case round =>
    obtain ⟨k, hk, rfl, B, hs⟩ := hrel
    clear HS
    have hcn : k ≤ 1215 := Nat.le_trans (unhide hs).2.2 (cntI_le B)
    go_wp2_with (first
      | (refine wpList_load_cs rfl 144 (.tmp 11) rfl (some 12) rfl sb 0 1215 (boolF B) _ rfl (by exact fun i hi => (by rw [Nat.zero_add]; exact (unhide hs).1.2.1.cell i hi)) Tryz.underlying144 rfl Tryz.sizeItems ?_)
      | (refine wpList_alloc_blk rfl 144 rfl (some 5) rfl 1215 _ Tryz.zeroItems ?_; intro w3 hf3 hs3 hB3; have H3 := hide ((unhide hs).1.fr0 hf3); have HA := hide hB3; clear hf3 hB3)
      | (refine wpList_store_blk rfl 144 (.tmp 5) (.tmp 12) rfl wr.heap.size 0 1215 1215 _ (boolF B) rfl rfl (by exact unhide HA) Tryz.sizeItems (by omega) (fun _ _ => rfl) ?_; intro w4 hf4 hs4 hB4; have H4 := hide ((unhide H3).far hf4 (unhide hs).1.1.size); have HA4 := hide (show Blk w4 wr.heap.size 1215 (boolF B) from hB4.congr fun i hi => lay_all _ _ _ i hi); clear hf4 hB4 H3 HA)
      | (go_at_call 154; refine (p_spread pb sb p B _ (by exact (unhide H4).2.2.1) (by exact (unhide H4).2.1) (Nat.lt_of_lt_of_le hpl (unhide H4).1.size) hne).mono ?_; rintro e w5 ⟨rfl, hf5, C, hC5, hM5⟩; have H5 := hide (show SpS w w5 pb sb p C from ⟨(unhide H4).1.trans hf5 (by simp), hC5, (unhide H4).2.2.1.fr hf5 (by simpa using hne) (Nat.lt_of_lt_of_le hpl (unhide H4).1.size), hpl, lb⟩); have HA5 := hide ((unhide HA4).fr1 hf5 (by have := (unhide hs).1.1.size; omega)); have HM5 := hide hM5; clear hf5 hC5 hM5))
    have lr := (unhide hs).1.1.size
    refine wp_region_held_drew (S := fun w' => CsAt w' sb 0 1215 (boolF C) ∧ CsAt w' wr.heap.size 0 1215 (boolF B)) (by kernel_rfl) ⟨fun i hi => (by rw [Nat.zero_add]; exact (unhide H5).2.1.drew.cell i hi), fun i hi => (by rw [Nat.zero_add]; exact (unhide HA5).drew.cell i hi)⟩ (fun hHeld => ?_)
    refine wpAnyH_take (i := 0) (v := .pointer (some ⟨sb, 0, none⟩)) rfl (by kernel_rfl) (by kernel_rfl) (by kernel_rfl) (fun _ _ _ h => h) (Or.inl ⟨by rfl, fun _ _ => rfl⟩) hHeld ?_
    refine wpAnyH_take (i := 1) (v := .pointer (some ⟨sb, 0, none⟩)) rfl (by kernel_rfl) (by kernel_rfl) (by kernel_rfl) (fun _ _ _ h => h) (Or.inl ⟨by rfl, fun _ _ => rfl⟩) hHeld ?_
    refine wpAnyH_take (i := 2) rfl (by kernel_rfl) (by kernel_rfl) (by kernel_rfl) (fun _ _ _ h => h) (yieldsIf_load_cs (by rfl) 144 (.tmp 17) rfl sb 0 1215 (boolF C) _ rfl (fun _ h => h.1) Tryz.underlying144 rfl Tryz.sizeItems) hHeld ?_
    refine wpAnyH_take (i := 3) rfl (by kernel_rfl) (by kernel_rfl) (by kernel_rfl) (fun _ _ _ h => h) (yieldsIf_load_cs (by rfl) 144 (.tmp 5) rfl wr.heap.size 0 1215 (boolF B) _ rfl (fun _ h => h.2) Tryz.underlying144 rfl Tryz.sizeItems) hHeld ?_
    refine wpAnyH_take (i := 4) rfl (by kernel_rfl) (by kernel_rfl) (by kernel_rfl) (fun _ _ _ h => h) (yieldsIf_eql (by rfl) 144 144 (.tmp 18) (.tmp 19) rfl 1215 C B _ rfl rfl Tryz.eqItems Tryz.underlying144 rfl (by kernel_rfl)) hHeld ?_
    refine wpAnyH_done (by kernel_rfl) ?_ _
    clear hHeld
    cases he : allB 1215 C B
    · have HN := hide (show SpS w w5.drew pb sb p C ∧ FiM p A C ∧ k + 1 ≤ cntI C from ⟨(unhide H5).fr0 (Fr.refl _ _).drew, (unhide hs).2.1.round (unhide HM5), Nat.le_trans (by have := (unhide hs).2.2; omega) (cntI_lt (unhide HM5).mono he)⟩)
      clear hs H5 HM5 H4 HA4 HA5
      go_wp2
      go_roundw
      case rel => exact ⟨k + 1, by omega, by go_num, C, HN⟩
      case measure => simp [intOf]; omega
    · have HN := hide ((unhide hs).2.1.full (unhide HM5) he)
      go_wp2
      exact bodyPost_ret (v := .tuple #[]) (results_none Tryz.results147 _ _ _) rfl ⟨rfl, (unhide H5).1.drew, C, (unhide H5).2.1.drew, unhide HN⟩
end Go.Proofs.YtkglggkkbmmjkaaGreatDoor

namespace Go.Proofs.YtkglggkkbmmjkaaGreatDoor
open Go.RowKit

/-! Letters by their order. -/
def ltr (k : Nat) : Nat := if k < 26 then 65 + k else 71 + k
def ltI (c : Nat) : Nat := if c ≤ 90 then c - 65 else c - 71
theorem letB_iff {c : Nat} : letB c = true ↔ (65 ≤ c ∧ c ≤ 90) ∨ (97 ≤ c ∧ c ≤ 122) := by simp [letB, bigB, smallB]
theorem ltI_lt {c : Nat} (h : letB c = true) : ltI c < 52 := by
  have := letB_iff.1 h
  unfold ltI; split <;> omega
theorem ltr_ltI {c : Nat} (h : letB c = true) : ltr (ltI c) = c := by
  have := letB_iff.1 h
  unfold ltI ltr
  by_cases e : c ≤ 90
  · rw [if_pos e, if_pos (by omega)]; omega
  · rw [if_neg e, if_neg (by omega)]; omega
theorem ltI_ltr (k : Nat) : ltI (ltr k) = k := by
  unfold ltI ltr
  by_cases e : k < 26
  · rw [if_pos e, if_pos (by omega)]; omega
  · rw [if_neg e, if_neg (by omega)]; omega
theorem letB_ltr {k : Nat} (h : k < 52) : letB (ltr k) = true := by
  rw [letB_iff]; unfold ltr
  split <;> omega

set_option maxHeartbeats 400000 in
theorem p_letterAt (k : Nat) (w : World) (hk : k < 52) :
    Calls Tryz.prog 151 #[.int .i64 k] w fun e w' => e = .returned (.int .u8 (ltr k : Nat)) ∧ w' = w := by
  by_cases e : k < 26
  · have HC := hide (show ltr k = 65 + k from if_pos e)
    go_enter Tryz.func151, Tryz.ntmps151
    go_wp2
    go_ret
    exact ⟨ret_int (by rw [unhide HC]; omega), rfl⟩
  · have HC := hide (show ltr k = 71 + k from if_neg e)
    have h1 : 26 ≤ k := by omega
    clear e
    go_enter Tryz.func151, Tryz.ntmps151
    go_wp2
    go_ret
    exact ⟨ret_int (by rw [unhide HC]; omega), rfl⟩

set_option maxHeartbeats 400000 in
theorem p_letterIndex (c : Nat) (w : World) (hc : letB c = true) :
    Calls Tryz.prog 125 #[.int .u8 c] w fun e w' => e = .returned (.int .i64 (ltI c : Nat)) ∧ w' = w := by
  by_cases e : c ≤ 90
  · have HC := hide (show ltI c = c - 65 from if_pos e)
    have h1 : 65 ≤ c ∧ c ≤ 90 := by have := letB_iff.1 hc; omega
    have hb : bigB c = true := bigB_iff.2 h1
    clear e hc
    go_enter Tryz.func125, Tryz.ntmps125
    go_wp2_with (go_at_call 74; refine (p_isBig_is _ true _ (by exact hb)).mono ?_; rintro e w' ⟨rfl, rfl⟩)
    go_ret
    exact ⟨ret_int (by rw [unhide HC]; omega), rfl⟩
  · have HC := hide (show ltI c = c - 71 from if_neg e)
    have h1 : 97 ≤ c ∧ c ≤ 122 := by have := letB_iff.1 hc; omega
    have hs : smallB c = true := smallB_iff.2 h1
    have hb : bigB c = false := not_big_of_small hs
    clear e hc
    go_enter Tryz.func125, Tryz.ntmps125
    go_wp2_with (first | (go_at_call 74; refine (p_isBig_is _ false _ (by exact hb)).mono ?_; rintro e w' ⟨rfl, rfl⟩) | (go_at_call 117; refine (p_isSmall _ _).mono ?_; rintro e w' ⟨rfl, rfl⟩; rw [hs]))
    go_ret
    exact ⟨ret_int (by rw [unhide HC]; omega), rfl⟩

set_option maxHeartbeats 400000 in
theorem p_letterIndex_not (c : Nat) (w : World) (hc : letB c = false) :
    Calls Tryz.prog 125 #[.int .u8 c] w fun e w' => e = .returned (.int .i64 (-1)) ∧ w' = w := by
  have hb : bigB c = false := by cases h : bigB c <;> simp_all [letB]
  have hs : smallB c = false := by cases h : smallB c <;> simp_all [letB]
  clear hc
  go_enter Tryz.func125, Tryz.ntmps125
  go_wp2_with (first | (go_at_call 74; refine (p_isBig_is _ false _ (by exact hb)).mono ?_; rintro e w' ⟨rfl, rfl⟩) | (go_at_call 117; refine (p_isSmall _ _).mono ?_; rintro e w' ⟨rfl, rfl⟩; rw [hs]))
  go_ret
  exact ⟨rfl, rfl⟩

/-- a letter more -/
def adL (X : Nat → Bool) (c : Nat) : Nat → Bool := fun i => X i || (letB c && i == ltI c)
set_option maxHeartbeats 400000 in
/-- letterSet.add -/
theorem p_ladd (b c : Nat) (X : Nat → Bool) (w : World) (hB : Blk w b 52 (boolF X)) :
    Calls Tryz.prog 157 #[.pointer (some ⟨b, 0, none⟩), .int .u8 c] w fun e w' => e = .returned (.tuple #[]) ∧ Fr [b] w w' ∧ Blk w' b 52 (boolF (adL X c)) := by
  cases hc : letB c
  · have HB := hide (show Blk w b 52 (boolF (adL X c)) from hB.congr fun i _ => by simp [boolF, adL, hc])
    clear hB
    go_enter Tryz.func157, Tryz.ntmps157
    go_wp2_with (go_at_call 125; refine (p_letterIndex_not _ _ (by exact hc)).mono ?_; rintro e w' ⟨rfl, rfl⟩)
    go_end0
    exact ⟨rfl, Fr.refl _ _, unhide HB⟩
  · have HC := hide hc
    have h := ltI_lt hc
    obtain ⟨k, hk0⟩ : ∃ k, ltI c = k := ⟨_, rfl⟩
    rw [hk0] at h
    have HK := hide hk0
    have hk := hB.cell k (by omega)
    have hz := hB.free k
    have HF := hide (show Fr [b] w (w.setCell ⟨b, k, none⟩ (.bool true)) ∧ Blk (w.setCell ⟨b, k, none⟩ (.bool true)) b 52 (boolF (adL X c)) from
      ⟨(Fr.refl [b] w).setCell _ (by simp) (.bool true), (hB.setCell k (.bool true)).congr fun i _ => by
        unfold upd boolF adL
        rw [hc, hk0]
        by_cases e : i = k
        · rw [if_pos e, e]; simp
        · rw [if_neg e]; simp [e]⟩)
    clear hB hc hk0
    go_enter Tryz.func157, Tryz.ntmps157
    go_wp2_with (go_at_call 125; refine (p_letterIndex _ _ (unhide HC)).mono ?_; rintro e w' ⟨rfl, rfl⟩; rw [unhide HK])
    go_end0
    exact ⟨rfl, unhide HF⟩
end Go.Proofs.YtkglggkkbmmjkaaGreatDoor
