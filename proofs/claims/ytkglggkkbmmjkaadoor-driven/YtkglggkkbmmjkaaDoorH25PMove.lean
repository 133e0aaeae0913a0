import Derived.Test.YtkglggkkbmmjkaaDoorH20PLett
import Derived.Test.YtkglggkkbmmjkaaDoorH11RAlike
namespace Go.Proofs.YtkglggkkbmmjkaaDoor
open Go.RowKit

/-- the items behind a step -/
def kern (p : Pl) (c : Nat) (A : Nat → Bool) : Nat → Bool := fun i => decide (27 ≤ i % 135) && (p.lt (i / 135) (i % 135 / 27 - 1) == c) && A (i - 27)
/-- as far as the places ahead of n, t -/
def kernL (p : Pl) (c : Nat) (A : Nat → Bool) (n t : Nat) : Nat → Bool := fun i => kern p c A i && (decide (i / 135 < n) || (decide (i / 135 = n) && decide (i % 135 / 27 ≤ t)))
theorem kernL_zero (p : Pl) (c : Nat) (A : Nat → Bool) (i : Nat) : kernL p c A 0 0 i = false := by
  unfold kernL kern
  by_cases h : 27 ≤ i % 135
  · rw [show decide (i % 135 / 27 ≤ 0) = false from by simp; omega]; simp
  · simp [h]
theorem kernL_row (p : Pl) (c : Nat) (A : Nat → Bool) (n i : Nat) : kernL p c A n 4 i = kernL p c A (n + 1) 0 i := by
  unfold kernL kern
  by_cases h : 27 ≤ i % 135
  · rw [show decide (i % 135 / 27 ≤ 0) = false from by simp; omega, show decide (i % 135 / 27 ≤ 4) = true from by simp; omega]
    rw [Bool.and_true, Bool.and_false, Bool.or_false]
    congr 1
    by_cases e : i / 135 < n
    · simp [e, show i / 135 < n + 1 from by omega]
    · by_cases e2 : i / 135 = n
      · simp [e2]
      · simp [e, e2, show ¬ i / 135 < n + 1 from by omega]
  · simp [h]
theorem kernL_all (p : Pl) (c : Nat) (A : Nat → Bool) (i : Nat) (hi : i < 1215) : kernL p c A 9 0 i = kern p c A i := by
  unfold kernL
  rw [show decide (i / 135 < 9) = true from by simp; omega]; simp
theorem kernL_skip (p : Pl) (c : Nat) (A : Nat → Bool) (n t i : Nat) (h : (p.lt n t == c) = false) : kernL p c A n (t + 1) i = kernL p c A n t i := by
  unfold kernL
  by_cases e : i / 135 = n
  · by_cases e2 : i % 135 / 27 = t + 1
    · have : kern p c A i = false := by
        unfold kern
        rw [e, e2, Nat.add_sub_cancel, h]; simp
      rw [this]; simp
    · rw [show decide (i % 135 / 27 ≤ t + 1) = decide (i % 135 / 27 ≤ t) from by apply decide_eq_decide.2; omega]
  · simp [e]
theorem kernL_lay (p : Pl) (c : Nat) (A : Nat → Bool) (n t i : Nat) (ht : t < 4) (h : (p.lt n t == c) = true) :
    lay (boolF (kernL p c A n t)) (n * 135 + (t + 1) * 27) 27 (boolF fun k => A (n * 135 + t * 27 + k)) i = boolF (kernL p c A n (t + 1)) i := by
  unfold lay boolF
  by_cases hr : n * 135 + (t + 1) * 27 ≤ i ∧ i < n * 135 + (t + 1) * 27 + 27
  · rw [if_pos hr]
    unfold kernL kern
    dsimp only
    rw [show i / 135 = n from by omega, show i % 135 / 27 = t + 1 from by omega, Nat.add_sub_cancel, h, show decide (27 ≤ i % 135) = true from by simp; omega, show n * 135 + t * 27 + (i - (n * 135 + (t + 1) * 27)) = i - 27 from by omega]
    simp
  · rw [if_neg hr]
    unfold kernL
    by_cases e : i / 135 = n
    · by_cases e2 : i % 135 / 27 = t + 1
      · exact absurd (show n * 135 + (t + 1) * 27 ≤ i ∧ i < n * 135 + (t + 1) * 27 + 27 from by omega) hr
      · rw [show decide (i % 135 / 27 ≤ t + 1) = decide (i % 135 / 27 ≤ t) from by apply decide_eq_decide.2; omega]
    · simp [e]

/-- move's state -/
def MoS (w wr : World) (pb fb : Nat) (p : Pl) (A K : Nat → Bool) : Prop := Fr [] w wr ∧ Blk wr fb 1215 (boolF A) ∧ PlAt wr pb p ∧ Blk wr w.heap.size 1215 (boolF fun _ => false) ∧ Blk wr (w.heap.size + 1) 1215 (boolF K)

set_option maxRecDepth 100000 in
set_option maxHeartbeats 2000000 in
/-- plan.move -/
theorem p_move (pb fb c : Nat) (p : Pl) (A : Nat → Bool) (w : World) (hP : PlAt w pb p) (hB : Blk w fb 1215 (boolF A)) (hpl : pb < w.heap.size) :
    Calls Tryd.prog 77 #[.pointer (some ⟨pb, 0, none⟩), .pointer (some ⟨fb, 0, none⟩), .int .u8 c] w fun e w' => Fr [] w w' ∧ ∃ B, e = .returned (Agg 1215 (boolF B)) ∧ FuI p (kern p c A) B := by
  have HB := hide hB
  have HP := hide hP
  have lb := hB.lt
  clear hB hP
  go_enter Tryd.func77, Tryd.ntmps77
  go_wp2_with (first
    | (refine wpList_alloc_blk rfl 99 rfl (some 6) rfl 1215 _ Tryd.zeroItems ?_; intro w1 hf1 hs1 hB1; have HR := hide hB1; have HF1 := hide hf1; clear hf1 hB1)
    | (refine wpList_alloc_blk rfl 99 rfl (some 7) rfl 1215 _ Tryd.zeroItems ?_; intro w2 hf2 hs2 hB2; have H2 := hide (show MoS w w2 pb fb p A (kernL p c A 0 0) from ⟨(unhide HF1).trans0 hf2, ((unhide HB).fr0 (unhide HF1)).fr0 hf2, ((unhide HP).fr ((unhide HF1).trans0 hf2) (by simp) hpl), (unhide HR).fr0 hf2, hs1 ▸ hB2.congr fun i _ => by (unfold boolF; rw [kernL_zero])⟩); clear hf2 hB2 HR HF1))
  clear HB HP
  go_loopw [8] (fun i wr => ∃ n : Nat, n ≤ 9 ∧ i = .int .i64 n ∧ Hid (MoS w wr pb fb p A (kernL p c A n 0))) (fun i _ => 9 - (intOf i).toNat)
  case atStart => exact ⟨0, by omega, rfl, H2⟩
  case round =>
    obtain ⟨n, hn, rfl, hs⟩ := hrel
    clear H2
    by_cases hlt : n < 9
    · have hn9 : (n : Int) < 9 := by omega
      go_wp2
      go_loopw [9] (fun i wr => ∃ t : Nat, t ≤ 4 ∧ i = .int .i64 t ∧ Hid (MoS w wr pb fb p A (kernL p c A n t))) (fun i _ => 4 - (intOf i).toNat)
      case atStart => exact ⟨0, by omega, rfl, hs⟩
      case round =>
        clear hs
        obtain ⟨t, ht, rfl, hs⟩ := hrel
        by_cases htt : t < 4
        · have d0 := ((unhide hs).2.2.1.spot n t hlt (by omega)) 0 (by omega)
          rw [Nat.add_zero] at d0
          cases hc : (p.lt n t == c)
          · have hci : (((p.lt n t : Nat) : Int) == (c : Int)) = false := by
              rw [beq_eq_false_iff_ne] at hc ⊢; omega
            have HN := hide (show MoS w wr pb fb p A (kernL p c A n (t + 1)) from ⟨(unhide hs).1, (unhide hs).2.1, (unhide hs).2.2.1, (unhide hs).2.2.2.1, (unhide hs).2.2.2.2.congr fun i _ => by unfold boolF; rw [kernL_skip p c A n t i hc]⟩)
            have d1 : wr.cell? ⟨pb, 9 + n * 150 + t * 30, none⟩ = some (.int .u8 (p.lt n t : Nat)) := d0
            clear hs hc d0
            go_wp2
            go_roundw
            case rel => exact ⟨t + 1, by omega, by go_num, HN⟩
            case measure => simp [intOf]; omega
          · have hci : (((p.lt n t : Nat) : Int) == (c : Int)) = true := by
              rw [beq_iff_eq] at hc ⊢; omega
            have d1 : wr.cell? ⟨pb, 9 + n * 150 + t * 30, none⟩ = some (.int .u8 (p.lt n t : Nat)) := d0
            have HC := hide hc
            clear hc d0
            have ht0 : (0 : Int) ≤ (t : Int) + 1 := by omega
            have ht5 : (t : Int) < 5 := by omega
            have ht1 : (t : Int) + 1 < 5 := by omega
            have htn : ((t : Int) + 1).toNat = t + 1 := by omega
            have hwt : IntKind.i64.wrap ((t : Int) + 1) = (t : Int) + 1 := by rw [IntKind.wrap_i64]; omega
            have ls := (unhide hs).1.size
            go_wp2
            refine wp_region_held_drew (S := fun w' => CsAt w' fb (n * 135 + t * 27) 27 (boolF fun k => A (n * 135 + t * 27 + k))) (by kernel_rfl) ((unhide hs).2.1.drew.cs (n * 135 + t * 27) 27 (by omega)) (fun hHeld => ?_)
            refine wpAnyH_takeD (i := 0) (v := .int .i64 n) rfl rfl (by kernel_rfl) (by kernel_rfl) (by kernel_rfl) (fun _ _ _ h => h) (Or.inl ⟨by rfl, fun _ _ => rfl⟩) hHeld ?_
            simp only [Act.put, List.setIfInBounds_toArray, List.set_cons_zero, List.set_cons_succ]
            refine wpAnyH_takeD (i := 1) (v := .int .i64 t) rfl rfl (by kernel_rfl) (by kernel_rfl) (by kernel_rfl) (fun _ _ _ h => h) (Or.inl ⟨by rfl, fun _ _ => rfl⟩) hHeld ?_
            simp only [Act.put, List.setIfInBounds_toArray, List.set_cons_zero, List.set_cons_succ]
            refine wpAnyH_takeD (i := 2) (v := .int .i64 ((t : Int) + 1)) rfl rfl (by kernel_rfl) (by kernel_rfl) (by kernel_rfl) (fun _ _ _ h => h) (Or.inl ⟨by rfl, fun _ _ => by go_simp⟩) hHeld ?_
            simp only [Act.put, List.setIfInBounds_toArray, List.set_cons_zero, List.set_cons_succ]
            refine wpAnyH_takeD (i := 3) (v := .pointer (some ⟨fb, 0, none⟩)) rfl rfl (by kernel_rfl) (by kernel_rfl) (by kernel_rfl) (fun _ _ _ h => h) (Or.inl ⟨by rfl, fun _ _ => rfl⟩) hHeld ?_
            simp only [Act.put, List.setIfInBounds_toArray, List.set_cons_zero, List.set_cons_succ]
            refine wpAnyH_takeD (i := 4) (v := .int .i64 n) rfl rfl (by kernel_rfl) (by kernel_rfl) (by kernel_rfl) (fun _ _ _ h => h) (Or.inl ⟨by rfl, fun _ _ => rfl⟩) hHeld ?_
            simp only [Act.put, List.setIfInBounds_toArray, List.set_cons_zero, List.set_cons_succ]
            refine wpAnyH_takeD (i := 5) (v := .int .i64 t) rfl rfl (by kernel_rfl) (by kernel_rfl) (by kernel_rfl) (fun _ _ _ h => h) (Or.inl ⟨by rfl, fun _ _ => rfl⟩) hHeld ?_
            simp only [Act.put, List.setIfInBounds_toArray, List.set_cons_zero, List.set_cons_succ]
            refine wpAnyH_takeD (i := 6) (v := .pointer (some ⟨fb, 0, none⟩)) rfl rfl (by kernel_rfl) (by kernel_rfl) (by kernel_rfl) (fun _ _ _ h => h) (Or.inl ⟨by rfl, fun _ _ => by go_simp⟩) hHeld ?_
            simp only [Act.put, List.setIfInBounds_toArray, List.set_cons_zero, List.set_cons_succ]
            refine wpAnyH_takeD (i := 7) (v := .pointer (some ⟨fb, 0, none⟩)) rfl rfl (by kernel_rfl) (by kernel_rfl) (by kernel_rfl) (fun _ _ _ h => h) (Or.inl ⟨by rfl, fun _ _ => by go_simp⟩) hHeld ?_
            simp only [Act.put, List.setIfInBounds_toArray, List.set_cons_zero, List.set_cons_succ]
            refine wpAnyH_takeD (i := 8) (v := .pointer (some ⟨fb, n * 135, none⟩)) rfl rfl (by kernel_rfl) (by kernel_rfl) (by kernel_rfl) (fun _ _ _ h => h) (Or.inl ⟨by rfl, fun _ _ => by go_simp⟩) hHeld ?_
            simp only [Act.put, List.setIfInBounds_toArray, List.set_cons_zero, List.set_cons_succ]
            refine wpAnyH_takeD (i := 9) (v := .pointer (some ⟨fb, n * 135 + t * 27, none⟩)) rfl rfl (by kernel_rfl) (by kernel_rfl) (by kernel_rfl) (fun _ _ _ h => h) (Or.inl ⟨by rfl, fun _ _ => by go_simp⟩) hHeld ?_
            simp only [Act.put, List.setIfInBounds_toArray, List.set_cons_zero, List.set_cons_succ]
            refine wpAnyH_takeD (i := 10) rfl rfl (by kernel_rfl) (by kernel_rfl) (by kernel_rfl) (fun _ _ _ h => h) (yieldsIf_load_cs (by rfl) 48 (.tmp 39) rfl fb (n * 135 + t * 27) 27 (boolF fun k => A (n * 135 + t * 27 + k)) _ rfl (fun _ h => h) Tryd.underlying48 rfl Tryd.sizeSign) hHeld ?_
            simp only [Act.put, List.setIfInBounds_toArray, List.set_cons_zero, List.set_cons_succ]
            refine wpAnyH_takeD (i := 11) (v := .pointer (some ⟨w.heap.size + 1, 0, none⟩)) rfl rfl (by kernel_rfl) (by kernel_rfl) (by kernel_rfl) (fun _ _ _ h => h) (Or.inl ⟨by rfl, fun _ _ => by go_simp⟩) hHeld ?_
            simp only [Act.put, List.setIfInBounds_toArray, List.set_cons_zero, List.set_cons_succ]
            refine wpAnyH_takeD (i := 12) (v := .pointer (some ⟨w.heap.size + 1, n * 135, none⟩)) rfl rfl (by kernel_rfl) (by kernel_rfl) (by kernel_rfl) (fun _ _ _ h => h) (Or.inl ⟨by rfl, fun _ _ => by go_simp⟩) hHeld ?_
            simp only [Act.put, List.setIfInBounds_toArray, List.set_cons_zero, List.set_cons_succ]
            refine wpAnyH_takeD (i := 13) (v := .pointer (some ⟨w.heap.size + 1, n * 135 + (t + 1) * 27, none⟩)) rfl rfl (by kernel_rfl) (by kernel_rfl) (by kernel_rfl) (fun _ _ _ h => h) (Or.inl ⟨by rfl, fun _ _ => by go_simp⟩) hHeld ?_
            simp only [Act.put, List.setIfInBounds_toArray, List.set_cons_zero, List.set_cons_succ]
            refine wpAnyH_store_last (i := 14) (by kernel_rfl) rfl rfl rfl 48 (.tmp 43) (.tmp 40) rfl (w.heap.size + 1) (n * 135 + (t + 1) * 27) 27 1215 _ (boolF fun k => A (n * 135 + t * 27 + k)) (by rfl) (by rfl) (unhide hs).2.2.2.2.drew Tryd.sizeSign (by omega) (by intro i hi; rfl) (by kernel_rfl) ?_
            intro w5 hf5 hs5 hB5
            have HN := hide (show MoS w w5 pb fb p A (kernL p c A n (t + 1)) from ⟨(unhide hs).1.drew.trans1 hf5 (Or.inr (by omega)), (unhide hs).2.1.drew.fr1 hf5 (by omega), PlAt.fr (w := wr.drew) (unhide hs).2.2.1 hf5 (by simp; omega) (by show pb < wr.heap.size; omega), (unhide hs).2.2.2.1.drew.fr1 hf5 (by omega), hB5.congr fun i _ => kernL_lay p c A n t i htt (unhide HC)⟩)
            refine ⟨hHeld.fr hf5 (by simp; omega) (by show fb < wr.heap.size; omega), ?_⟩
            clear hf5 hB5 hs hHeld
            go_wp2
            go_roundw
            case rel => exact ⟨t + 1, by omega, by go_num, HN⟩
            case measure => simp [intOf]; omega
        · have HN := hide (show MoS w wr pb fb p A (kernL p c A (n + 1) 0) from by
            have e : t = 4 := by omega
            subst e; exact ⟨(unhide hs).1, (unhide hs).2.1, (unhide hs).2.2.1, (unhide hs).2.2.2.1, (unhide hs).2.2.2.2.congr fun i _ => by unfold boolF; rw [kernL_row]⟩)
          clear hs
          go_wp2
          go_roundw
          case rel => exact ⟨n + 1, by omega, by go_num, HN⟩
          case measure => simp [intOf]; omega
    · have HN := hide (show MoS w wr pb fb p A (kern p c A) from by
        have e : n = 9 := by omega
        subst e; exact ⟨(unhide hs).1, (unhide hs).2.1, (unhide hs).2.2.1, (unhide hs).2.2.2.1, (unhide hs).2.2.2.2.congr fun i hi => by unfold boolF; rw [kernL_all _ _ _ _ hi]⟩)
      clear hs
      go_wp2_with (first
        | (go_at_call 74; refine (p_fill pb (w.heap.size + 1) p (kern p c A) _ (by exact (unhide HN).2.2.1) (by exact (unhide HN).2.2.2.2) (Nat.lt_of_lt_of_le hpl (unhide HN).1.size) (by omega)).mono ?_; rintro e w6 ⟨rfl, hf6, B, hB6, hM6⟩; have HF6 := hide ((unhide HN).1.trans1 hf6 (Or.inr (by omega))); have HR6 := hide ((unhide HN).2.2.2.1.fr1 hf6 (by omega)); have HB6 := hide hB6; have HM6 := hide hM6; clear hf6 hB6 hM6)
        | (refine wpList_load_blk rfl 99 (.tmp 7) rfl (some 46) rfl (w.heap.size + 1) 0 1215 1215 (boolF B) _ rfl (by exact unhide HB6) Tryd.underlying99 rfl Tryd.sizeItems (by omega) ?_)
        | (refine wpList_store_blk rfl 99 (.tmp 6) (.tmp 46) rfl w.heap.size 0 1215 1215 (boolF fun _ => false) (fun i => boolF B (0 + i)) rfl rfl (by exact unhide HR6) Tryd.sizeItems (by omega) (fun _ _ => rfl) ?_; intro w7 hf7 hs7 hB7))
      exact bodyPost_ret (results_cell Tryd.results77 _ w.heap.size rfl 1215 1215 _ _ (hB7.congr fun i hi => lay_all _ _ _ i hi) Tryd.underlying99 rfl Tryd.sizeItems (by omega)) rfl ⟨(unhide HF6).trans1 hf7 (Or.inr (Nat.le_refl _)), B, by congr 2; funext i; rw [Nat.zero_add], unhide HM6⟩
end Go.Proofs.YtkglggkkbmmjkaaDoor
