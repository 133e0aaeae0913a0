import Derived.Test.YtkglggkkbmmjkaaDoorH21PSpot
import Derived.Test.YtkglggkkbmmjkaaDoorH11RAlike
import Derived.Test.YtkglggkkbmmjkaaDoorH10RPut
namespace Go.Proofs.YtkglggkkbmmjkaaDoor
open Go.RowKit

def rgd (L : List Ru) (n : Nat) : Ru := L.getD n ⟨0, ⟨#[]⟩, 0⟩
theorem rgd_snoc_lt (L : List Ru) (r : Ru) (n : Nat) (h : n ≠ L.length) : rgd (L ++ [r]) n = rgd L n := by
  unfold rgd
  rw [List.getD_eq_getElem?_getD, List.getD_eq_getElem?_getD]
  rcases Nat.lt_or_gt_of_ne h with h | h
  · rw [List.getElem?_append_left h]
  · rw [List.getElem?_eq_none (by simp; omega), List.getElem?_eq_none (by omega)]
theorem rgd_snoc_at (L : List Ru) (r : Ru) : rgd (L ++ [r]) L.length = r := by
  unfold rgd
  rw [List.getD_eq_getElem?_getD, List.getElem?_append_right (Nat.le_refl _)]; simp
theorem rgd_none (L : List Ru) : rgd L L.length = ⟨0, ⟨#[]⟩, 0⟩ := by
  unfold rgd
  rw [List.getD_eq_getElem?_getD, List.getElem?_eq_none (Nat.le_refl _)]; rfl
theorem ch_empty (t : Nat) : ch ⟨#[]⟩ t = 0 := by unfold ch; rw [dif_neg (by show ¬ t < 0; omega)]
/-- the plan on the way: of the last rule the spots below k -/
def plK (L : List Ru) (r : Ru) (N : Nat → Bool) (F : Nat → Nat → Bool) (k : Nat) : Pl where
  left := (planOf (L ++ [r]) N F).left
  lt := fun n t => if n = L.length ∧ k ≤ t then 0 else (planOf (L ++ [r]) N F).lt n t
  en := (planOf (L ++ [r]) N F).en
  bg := fun n t j => if n = L.length ∧ k ≤ t then false else (planOf (L ++ [r]) N F).bg n t j
  nl := fun n t => if n = L.length ∧ k ≤ t then false else (planOf (L ++ [r]) N F).nl n t
theorem spF_congr {p q : Pl} {n t : Nat} (h1 : p.lt n t = q.lt n t) (h2 : p.en n t = q.en n t) (h3 : ∀ j, p.bg n t j = q.bg n t j) (h4 : p.nl n t = q.nl n t) (j : Nat) : spF p n t j = spF q n t j := by
  unfold spF; rw [h1, h2, h3, h4]
/-- the rule's left letter and the end of its right side -/
theorem plK_start (L : List Ru) (r : Ru) (N : Nat → Bool) (F : Nat → Nat → Bool) (hr : r.R.size < 5) (hL : L.length < 9) (i : Nat) :
    upd (upd (plF (planOf L N F)) L.length (.int .u8 (r.L : Nat))) (9 + L.length * 150 + r.R.size * 30 + 1) (.bool true) i = plF (plK L r N F 0) i := by
  unfold upd
  by_cases h1 : i = 9 + L.length * 150 + r.R.size * 30 + 1
  · rw [if_pos h1, h1, plF_spot _ _ _ _ hr (by omega)]
    show Value.bool true = Value.bool (decide (L.length < (L ++ [r]).length) && r.R.size == (rgd (L ++ [r]) L.length).R.size)
    rw [rgd_snoc_at]; simp
  · rw [if_neg h1]
    by_cases h9 : i < 9
    · unfold plF
      rw [if_pos h9, if_pos h9]
      show (if i = L.length then _ else Value.int .u8 ((rgd L i).L : Nat)) = Value.int .u8 ((rgd (L ++ [r]) i).L : Nat)
      by_cases e : i = L.length
      · rw [if_pos e, e, rgd_snoc_at]
      · rw [if_neg e, rgd_snoc_lt L r i e]
    · show (if i = L.length then _ else plF (planOf L N F) i) = _
      rw [if_neg (by omega)]
      unfold plF
      rw [if_neg h9, if_neg h9]
      obtain ⟨n, hn⟩ : ∃ n, (i - 9) / 150 = n := ⟨_, rfl⟩
      obtain ⟨t, ht⟩ : ∃ t, (i - 9) % 150 / 30 = t := ⟨_, rfl⟩
      obtain ⟨j, hj⟩ : ∃ j, (i - 9) % 30 = j := ⟨_, rfl⟩
      rw [hn, ht, hj]
      by_cases e : n = L.length
      · have hz : ∀ x, spF (planOf L N F) n t x = spF ⟨fun _ => 0, fun _ _ => 0, fun _ _ => false, fun _ _ _ => false, fun _ _ => false⟩ n t x := fun x => by
          subst e
          refine spF_congr ?_ ?_ ?_ ?_ x
          · show ch (rgd L L.length).R t = 0
            rw [rgd_none]; exact ch_empty t
          · show (decide (L.length < L.length) && _) = false
            simp
          · intro j
            show (decide (t < (rgd L L.length).R.size) && _) = false
            rw [rgd_none, show decide (t < (⟨0, ⟨#[]⟩, 0⟩ : Ru).R.size) = false from decide_eq_false (by show ¬ t < 0; omega)]; rfl
          · show (decide (t < (rgd L L.length).R.size) && _) = false
            rw [rgd_none, show decide (t < (⟨0, ⟨#[]⟩, 0⟩ : Ru).R.size) = false from decide_eq_false (by show ¬ t < 0; omega)]; rfl
        rw [hz]
        unfold spF plK
        dsimp only
        by_cases hj0 : j = 0
        · rw [if_pos hj0, if_pos hj0, if_pos ⟨e, Nat.zero_le _⟩]
        · rw [if_neg hj0, if_neg hj0]
          by_cases hj1 : j = 1
          · rw [if_pos hj1, if_pos hj1]
            have : (t == (rgd (L ++ [r]) n).R.size) = false := by
              rw [e, rgd_snoc_at, beq_eq_false_iff_ne]
              intro h; apply h1; omega
            show Value.bool false = Value.bool (decide (n < (L ++ [r]).length) && t == (rgd (L ++ [r]) n).R.size)
            rw [this, Bool.and_false]
          · rw [if_neg hj1, if_neg hj1]
            simp only [if_pos (show n = L.length ∧ 0 ≤ t from ⟨e, Nat.zero_le _⟩)]
      · refine spF_congr ?_ ?_ ?_ ?_ j
        · unfold plK; dsimp only
          rw [if_neg (fun h => e h.1)]
          show ch (rgd L n).R t = ch (rgd (L ++ [r]) n).R t
          rw [rgd_snoc_lt L r n e]
        · show (decide (n < L.length) && t == (rgd L n).R.size) = (decide (n < (L ++ [r]).length) && t == (rgd (L ++ [r]) n).R.size)
          rw [rgd_snoc_lt L r n e, show decide (n < (L ++ [r]).length) = decide (n < L.length) from by apply decide_eq_decide.2; simp; omega]
        · intro j
          unfold plK; dsimp only
          rw [if_neg (fun h => e h.1)]
          show (decide (t < (rgd L n).R.size) && beg N F ((bytes (rgd L n).R).drop (t + 1)) (sgn j)) = (decide (t < (rgd (L ++ [r]) n).R.size) && beg N F ((bytes (rgd (L ++ [r]) n).R).drop (t + 1)) (sgn j))
          rw [rgd_snoc_lt L r n e]
        · unfold plK; dsimp only
          rw [if_neg (fun h => e h.1)]
          show (decide (t < (rgd L n).R.size) && ((bytes (rgd L n).R).drop (t + 1)).all (vanB N false)) = (decide (t < (rgd (L ++ [r]) n).R.size) && ((bytes (rgd (L ++ [r]) n).R).drop (t + 1)).all (vanB N false))
          rw [rgd_snoc_lt L r n e]
theorem plK_spot (L : List Ru) (r : Ru) (N : Nat → Bool) (F : Nat → Nat → Bool) (k : Nat) (hk : k < r.R.size) (hr : r.R.size < 5) (i : Nat) :
    lay (plF (plK L r N F k)) (9 + L.length * 150 + k * 30) 30 (sptF (ch r.R k) (r.R.extract (k + 1) r.R.size) N F) i = plF (plK L r N F (k + 1)) i := by
  unfold lay
  by_cases hr1 : 9 + L.length * 150 + k * 30 ≤ i ∧ i < 9 + L.length * 150 + k * 30 + 30
  · rw [if_pos hr1]
    obtain ⟨j, rfl⟩ : ∃ j, i = 9 + L.length * 150 + k * 30 + j := ⟨i - (9 + L.length * 150 + k * 30), by omega⟩
    rw [Nat.add_sub_cancel_left, plF_spot _ _ _ _ (by omega) (by omega)]
    have hnk : ¬ (L.length = L.length ∧ k + 1 ≤ k) := by omega
    unfold sptF spF plK
    dsimp only
    rw [if_neg hnk, if_neg hnk, if_neg hnk]
    show _ = if j = 0 then Value.int .u8 ((ch (rgd (L ++ [r]) L.length).R k : Nat)) else if j = 1 then Value.bool (decide (L.length < (L ++ [r]).length) && k == (rgd (L ++ [r]) L.length).R.size) else if j < 29 then Value.bool (decide (k < (rgd (L ++ [r]) L.length).R.size) && beg N F ((bytes (rgd (L ++ [r]) L.length).R).drop (k + 1)) (sgn (j - 2))) else Value.bool (decide (k < (rgd (L ++ [r]) L.length).R.size) && ((bytes (rgd (L ++ [r]) L.length).R).drop (k + 1)).all (vanB N false))
    have hb : bytes (r.R.extract (k + 1) r.R.size) = (bytes r.R).drop (k + 1) := by
      rw [bytes_extract, List.take_of_length_le (by rw [List.length_drop, bytes_len]; omega)]
    rw [rgd_snoc_at, hb, show decide (k < r.R.size) = true from by simp; omega, show (k == r.R.size) = false from by rw [beq_eq_false_iff_ne]; omega]
    simp
  · rw [if_neg hr1]
    unfold plF
    by_cases h9 : i < 9
    · rw [if_pos h9, if_pos h9]; rfl
    · rw [if_neg h9, if_neg h9]
      have hc : ∀ n t, (n, t) = ((i - 9) / 150, (i - 9) % 150 / 30) → ((n = L.length ∧ k ≤ t) ↔ (n = L.length ∧ k + 1 ≤ t)) := fun n t h => by
        obtain ⟨rfl, rfl⟩ := Prod.mk.inj h
        constructor
        · intro ⟨a, b⟩
          refine ⟨a, ?_⟩
          apply Classical.byContradiction
          intro hn
          apply hr1
          omega
        · intro ⟨a, b⟩; exact ⟨a, by omega⟩
      refine spF_congr (p := plK L r N F k) (q := plK L r N F (k + 1)) ?_ rfl ?_ ?_ _
      · unfold plK; dsimp only
        simp only [hc _ _ rfl]
      · intro j; unfold plK; dsimp only
        simp only [hc _ _ rfl]
      · unfold plK; dsimp only
        simp only [hc _ _ rfl]
theorem plK_end (L : List Ru) (r : Ru) (N : Nat → Bool) (F : Nat → Nat → Bool) (i : Nat) : plF (plK L r N F r.R.size) i = plF (planOf (L ++ [r]) N F) i := by
  unfold plF
  by_cases h9 : i < 9
  · rw [if_pos h9, if_pos h9]; rfl
  · rw [if_neg h9, if_neg h9]
    obtain ⟨n, hn⟩ : ∃ n, (i - 9) / 150 = n := ⟨_, rfl⟩
    obtain ⟨t, ht⟩ : ∃ t, (i - 9) % 150 / 30 = t := ⟨_, rfl⟩
    rw [hn, ht]
    by_cases hc : n = L.length ∧ r.R.size ≤ t
    · obtain ⟨rfl, h2⟩ := hc
      have hd : decide (t < (rgd (L ++ [r]) L.length).R.size) = false := by rw [rgd_snoc_at]; exact decide_eq_false (by omega)
      refine spF_congr (p := plK L r N F r.R.size) (q := planOf (L ++ [r]) N F) ?_ rfl ?_ ?_ _
      · unfold plK; dsimp only
        rw [if_pos ⟨rfl, h2⟩]
        show 0 = ch (rgd (L ++ [r]) L.length).R t
        rw [rgd_snoc_at]; unfold ch; rw [dif_neg (by omega)]
      · intro j; unfold plK; dsimp only
        rw [if_pos ⟨rfl, h2⟩]
        show false = (decide (t < (rgd (L ++ [r]) L.length).R.size) && _)
        rw [hd]; rfl
      · unfold plK; dsimp only
        rw [if_pos ⟨rfl, h2⟩]
        show false = (decide (t < (rgd (L ++ [r]) L.length).R.size) && _)
        rw [hd]; rfl
    · refine spF_congr (p := plK L r N F r.R.size) (q := planOf (L ++ [r]) N F) ?_ rfl ?_ ?_ _
      · unfold plK; dsimp only; rw [if_neg hc]
      · intro j; unfold plK; dsimp only; rw [if_neg hc]
      · unfold plK; dsimp only; rw [if_neg hc]

/-- layRule's state -/
def LyS (w wr : World) (b q cap pb : Nat) (rs : List Ru) (N : Nat → Bool) (F : Nat → Nat → Bool) (e p : Int) (r : Ru) (pl : Pl) : Prop :=
  Fr [pb] w wr ∧ GAt wr b q cap rs N F e p ∧ Blk wr pb 1359 (plF pl) ∧ Blk wr w.heap.size 3 (ruF r) ∧ b ≠ pb ∧ q ≠ pb ∧ b < w.heap.size ∧ q < w.heap.size ∧ pb < w.heap.size
theorem LyS.fr0 {w wr w' : World} {b q cap pb : Nat} {rs : List Ru} {N : Nat → Bool} {F : Nat → Nat → Bool} {e p : Int} {r : Ru} {pl : Pl} (h : LyS w wr b q cap pb rs N F e p r pl) (k : Fr [] wr w') : LyS w w' b q cap pb rs N F e p r pl :=
  ⟨h.1.trans0 k, h.2.1.fr0 k, h.2.2.1.fr0 k, h.2.2.2.1.fr0 k, h.2.2.2.2⟩
theorem LyS.put {w wr w' : World} {b q cap pb : Nat} {rs : List Ru} {N : Nat → Bool} {F : Nat → Nat → Bool} {e p : Int} {r : Ru} {pl pl' : Pl} (h : LyS w wr b q cap pb rs N F e p r pl) (k : Fr [pb] wr w') (hB : Blk w' pb 1359 (plF pl')) : LyS w w' b q cap pb rs N F e p r pl' := by
  obtain ⟨h1, h2, h3, h4, h5, h6, h7, h8, h9⟩ := h
  exact ⟨h1.trans k (by simp), h2.fr k (by simpa using h5) (by simpa using h6), hB, h4.fr1 k (by omega), h5, h6, h7, h8, h9⟩

set_option maxRecDepth 100000 in
set_option maxHeartbeats 2000000 in
/-- grammar.layRule -/
theorem p_layRule (b q cap pb : Nat) (rs L : List Ru) (N : Nat → Bool) (F : Nat → Nat → Bool) (e p : Int) (r : Ru) (w : World) (h : GAt w b q cap rs N F e p) (hP : Blk w pb 1359 (plF (planOf L N F))) (h1 : b ≠ pb) (h2 : q ≠ pb)
    (hL : L.length < 9) (hr : r.R.size < 5) (hl : ∀ i, i < r.R.size → letB (ch r.R i) = true) :
    Calls Tryd.prog 58 #[.pointer (some ⟨b, 0, none⟩), .pointer (some ⟨pb, 0, none⟩), .int .i64 L.length, Agg 3 (ruF r)] w fun e' w' => e' = .returned (.tuple #[]) ∧ Fr [pb] w w' ∧ Blk w' pb 1359 (plF (planOf (L ++ [r]) N F)) := by
  have lb := h.blk.lt
  have lq := h.lt
  have lp := hP.lt
  have H := hide h
  have HP := hide hP
  obtain ⟨n, hn0⟩ : ∃ n, L.length = n := ⟨_, rfl⟩
  rw [hn0] at hL ⊢
  have HL := hide hn0
  have HS := hide hl
  clear h hP hl hn0
  go_enter Tryd.func58, Tryd.ntmps58
  go_wp2_with (first
    | (refine wpList_box_blk rfl 114 (.tmp 3) rfl (some 7) rfl 3 (ruF r) rfl ?_; intro w1 hf1 hs1 hB1; have H1 := hide (show LyS w w1 b q cap pb rs N F e p r (planOf L N F) from ⟨hf1.weak (by simp), (unhide H).fr0 hf1, (unhide HP).fr0 hf1, hB1, h1, h2, lb, lq, lp⟩); have c0 : w1.cell? ⟨w.heap.size, 0, none⟩ = some (.int .u8 r.L) := (hB1.cell 0 (by omega)); have c1 : w1.cell? ⟨w.heap.size, 1, none⟩ = some (.string r.R) := (hB1.cell 1 (by omega)); have k0 := (unhide H1).2.2.1.cell n (by omega); have f0 := (unhide H1).2.2.1.free n; clear hf1 hB1))
  go_region
  all_goals
    obtain ⟨w2, hw2⟩ : ∃ w2, (w1.setCell ⟨pb, n, none⟩ (.int .u8 r.L)).drew = w2 := ⟨_, rfl⟩
    rw [hw2]
    have hB2 : Blk w2 pb 1359 (upd (plF (planOf L N F)) n (.int .u8 (r.L : Nat))) := hw2 ▸ ((unhide H1).2.2.1.setCell n (.int .u8 r.L)).drew
    have hf2 : Fr [pb] w1 w2 := hw2 ▸ ((Fr.refl [pb] w1).setCell ⟨pb, n, none⟩ (by simp) (.int .u8 r.L)).drew
    have HG2 := hide ((unhide H1).2.1.fr hf2 (by simpa using h1) (by simpa using h2))
    have HR2 := hide ((unhide H1).2.2.2.1.fr1 hf2 (by omega))
    have HF2 := hide ((unhide H1).1.trans hf2 (by simp))
    have HB2 := hide hB2
    have c1' : w2.cell? ⟨w.heap.size, 1, none⟩ = some (.string r.R) := (unhide HR2).cell 1 (by omega)
    have k1 := hB2.cell (9 + n * 150 + r.R.size * 30 + 1) (by omega)
    have f1 := hB2.free (9 + n * 150 + r.R.size * 30 + 1)
    have hrs : (r.R.size : Int) < 5 := by omega
    have hni : (n : Int) < 9 := by omega
    clear hw2 hB2 hf2 c0 c1 k0 f0 H HP H1
    go_wp2
    go_region
    all_goals
      obtain ⟨w3, hw3⟩ : ∃ w3, (w2.setCell ⟨pb, 9 + n * 150 + r.R.size * 30 + 1, none⟩ (.bool true)).drew = w3 := ⟨_, rfl⟩
      rw [hw3]
      have H3 := hide (show LyS w w3 b q cap pb rs N F e p r (plK L r N F 0) from by
        have hf3 : Fr [pb] w2 w3 := hw3 ▸ ((Fr.refl [pb] w2).setCell ⟨pb, 9 + n * 150 + r.R.size * 30 + 1, none⟩ (by simp) (.bool true)).drew
        have hB3 : Blk w3 pb 1359 (plF (plK L r N F 0)) := hw3 ▸ (((unhide HB2).setCell (9 + n * 150 + r.R.size * 30 + 1) (.bool true)).drew).congr fun i _ => by
          have := plK_start L r N F hr (by rw [unhide HL]; exact hL) i
          rw [unhide HL] at this; exact this
        exact ⟨(unhide HF2).trans hf3 (by simp), (unhide HG2).fr hf3 (by simpa using h1) (by simpa using h2), hB3, (unhide HR2).fr1 hf3 (by omega), h1, h2, lb, lq, lp⟩)
      clear hw3 HG2 HR2 HF2 HB2 c1' k1 f1
      go_wp2
      go_loopw [8] (fun i wr => ∃ k : Nat, k ≤ r.R.size ∧ i = .int .i64 k ∧ Hid (LyS w wr b q cap pb rs N F e p r (plK L r N F k))) (fun i _ => r.R.size - (intOf i).toNat)
      case atStart => exact ⟨0, by omega, rfl, H3⟩
      case round =>
        obtain ⟨k, hk, rfl, hs⟩ := hrel
        clear H3
        have c1 : wr.cell? ⟨w.heap.size, 1, none⟩ = some (.string r.R) := (unhide hs).2.2.2.1.cell 1 (by omega)
        by_cases hlt : k < r.R.size
        · have hk5 : (k : Int) < 5 := by omega
          have hkz : (k : Int) < r.R.size := by omega
          have hwt : IntKind.i64.wrap ((k : Int) + 1) = (k : Int) + 1 := by rw [IntKind.wrap_i64]; omega
          have hk1 : (k : Int) + 1 ≤ r.R.size := by omega
          have htn : ((k : Int) + 1).toNat = k + 1 := by omega
          have hk0 : (0 : Int) ≤ (k : Int) + 1 := by omega
          go_wp2
          refine wp_region_held_drew (S := fun w' => w'.cell? ⟨w.heap.size, 1, none⟩ = some (.string r.R)) (by kernel_rfl) (by exact c1) (fun hHeld => ?_)
          refine wpAnyH_takeD (i := 0) (v := .pointer (some ⟨pb, 0, none⟩)) rfl rfl (by kernel_rfl) (by kernel_rfl) (by kernel_rfl) (fun _ _ _ h => h) (Or.inl ⟨by rfl, fun _ _ => rfl⟩) hHeld ?_
          simp only [Act.put, List.setIfInBounds_toArray, List.set_cons_zero, List.set_cons_succ]
          refine wpAnyH_takeD (i := 1) (v := .int .i64 n) rfl rfl (by kernel_rfl) (by kernel_rfl) (by kernel_rfl) (fun _ _ _ h => h) (Or.inl ⟨by rfl, fun _ _ => rfl⟩) hHeld ?_
          simp only [Act.put, List.setIfInBounds_toArray, List.set_cons_zero, List.set_cons_succ]
          refine wpAnyH_takeD (i := 2) (v := .int .i64 k) rfl rfl (by kernel_rfl) (by kernel_rfl) (by kernel_rfl) (fun _ _ _ h => h) (Or.inl ⟨by rfl, fun _ _ => rfl⟩) hHeld ?_
          simp only [Act.put, List.setIfInBounds_toArray, List.set_cons_zero, List.set_cons_succ]
          refine wpAnyH_takeD (i := 3) (v := .pointer (some ⟨b, 0, none⟩)) rfl rfl (by kernel_rfl) (by kernel_rfl) (by kernel_rfl) (fun _ _ _ h => h) (Or.inl ⟨by rfl, fun _ _ => rfl⟩) hHeld ?_
          simp only [Act.put, List.setIfInBounds_toArray, List.set_cons_zero, List.set_cons_succ]
          refine wpAnyH_takeD (i := 4) (v := .pointer (some ⟨w.heap.size, 1, none⟩)) rfl rfl (by kernel_rfl) (by kernel_rfl) (by kernel_rfl) (fun _ _ _ h => h) (Or.inl ⟨by rfl, fun _ _ => by go_simp⟩) hHeld ?_
          simp only [Act.put, List.setIfInBounds_toArray, List.set_cons_zero, List.set_cons_succ]
          refine wpAnyH_takeD (i := 5) (v := .string r.R) rfl rfl (by kernel_rfl) (by kernel_rfl) (by kernel_rfl) (fun _ _ _ h => h) (Or.inl ⟨by rfl, fun w' hw => by dsimp only at hw; go_simp⟩) hHeld ?_
          simp only [Act.put, List.setIfInBounds_toArray, List.set_cons_zero, List.set_cons_succ]
          refine wpAnyH_takeD (i := 6) (v := .int .i64 k) rfl rfl (by kernel_rfl) (by kernel_rfl) (by kernel_rfl) (fun _ _ _ h => h) (Or.inl ⟨by rfl, fun _ _ => rfl⟩) hHeld ?_
          simp only [Act.put, List.setIfInBounds_toArray, List.set_cons_zero, List.set_cons_succ]
          refine wpAnyH_takeD (i := 7) (v := .int .u8 (r.R[k].toNat : Nat)) rfl rfl (by kernel_rfl) (by kernel_rfl) (by kernel_rfl) (fun _ _ _ h => h) (Or.inl ⟨by rfl, fun _ _ => by go_simp⟩) hHeld ?_
          simp only [Act.put, List.setIfInBounds_toArray, List.set_cons_zero, List.set_cons_succ]
          refine wpAnyH_takeD (i := 8) (v := .pointer (some ⟨w.heap.size, 1, none⟩)) rfl rfl (by kernel_rfl) (by kernel_rfl) (by kernel_rfl) (fun _ _ _ h => h) (Or.inl ⟨by rfl, fun _ _ => by go_simp⟩) hHeld ?_
          simp only [Act.put, List.setIfInBounds_toArray, List.set_cons_zero, List.set_cons_succ]
          refine wpAnyH_takeD (i := 9) (v := .string r.R) rfl rfl (by kernel_rfl) (by kernel_rfl) (by kernel_rfl) (fun _ _ _ h => h) (Or.inl ⟨by rfl, fun w' hw => by dsimp only at hw; go_simp⟩) hHeld ?_
          simp only [Act.put, List.setIfInBounds_toArray, List.set_cons_zero, List.set_cons_succ]
          refine wpAnyH_takeD (i := 10) (v := .int .i64 k) rfl rfl (by kernel_rfl) (by kernel_rfl) (by kernel_rfl) (fun _ _ _ h => h) (Or.inl ⟨by rfl, fun _ _ => rfl⟩) hHeld ?_
          simp only [Act.put, List.setIfInBounds_toArray, List.set_cons_zero, List.set_cons_succ]
          refine wpAnyH_takeD (i := 11) (v := .int .i64 ((k : Int) + 1)) rfl rfl (by kernel_rfl) (by kernel_rfl) (by kernel_rfl) (fun _ _ _ h => h) (Or.inl ⟨by rfl, fun _ _ => by go_simp⟩) hHeld ?_
          simp only [Act.put, List.setIfInBounds_toArray, List.set_cons_zero, List.set_cons_succ]
          refine wpAnyH_takeD (i := 12) (v := .string (r.R.extract (k + 1) r.R.size)) rfl rfl (by kernel_rfl) (by kernel_rfl) (by kernel_rfl) (fun _ _ _ h => h) (Or.inl ⟨by rfl, fun _ _ => by go_simp⟩) hHeld ?_
          simp only [Act.put, List.setIfInBounds_toArray, List.set_cons_zero, List.set_cons_succ]
          refine wpAnyH_takeD (i := 14) (v := .pointer (some ⟨pb, 0, none⟩)) rfl rfl (by kernel_rfl) (by kernel_rfl) (by kernel_rfl) (fun _ _ _ h => h) (Or.inl ⟨by rfl, fun _ _ => by go_simp⟩) hHeld ?_
          simp only [Act.put, List.setIfInBounds_toArray, List.set_cons_zero, List.set_cons_succ]
          refine wpAnyH_takeD (i := 15) (v := .pointer (some ⟨pb, 9, none⟩)) rfl rfl (by kernel_rfl) (by kernel_rfl) (by kernel_rfl) (fun _ _ _ h => h) (Or.inl ⟨by rfl, fun _ _ => by go_simp⟩) hHeld ?_
          simp only [Act.put, List.setIfInBounds_toArray, List.set_cons_zero, List.set_cons_succ]
          refine wpAnyH_takeD (i := 16) (v := .pointer (some ⟨pb, 9 + n * 150, none⟩)) rfl rfl (by kernel_rfl) (by kernel_rfl) (by kernel_rfl) (fun _ _ _ h => h) (Or.inl ⟨by rfl, fun _ _ => by go_simp⟩) hHeld ?_
          simp only [Act.put, List.setIfInBounds_toArray, List.set_cons_zero, List.set_cons_succ]
          refine wpAnyH_ready (rs := [13]) (by kernel_rfl) (by simp) ?_
          refine AllReadyH.cons rfl (fun K hK => ?_) AllReadyH.nil
          rw [if_pos (by rfl)]
          go_wp2_with fail
          have hcc : ((r.R[k].toNat : Nat) : Int) = ((ch r.R k : Nat) : Int) := by rw [ch_eq _ _ hlt]
          rw [hcc]
          refine (p_spotOf b q cap rs N F e p (ch r.R k) (r.R.extract (k + 1) r.R.size) _ (by exact (unhide hs).2.1.fr0 (Fr.refl [] wr).drew) (by rw [ByteArray.size_extract]; omega) (fun i hi => by
            rw [ByteArray.size_extract] at hi
            rw [ch_extract _ _ _ _ (by omega) (by omega)]
            exact unhide HS _ (by omega))).mono ?_
          rintro e' w5 ⟨rfl, hf5⟩
          have H5 := hide ((unhide hs).fr0 ((Fr.refl [] wr).drew.trans0 hf5))
          refine hK.out _ _ (by exact (unhide H5).2.2.2.1.cell 1 (by omega)) (fun hHeld => ?_)
          refine wpAnyH_takeD (i := 17) (v := .pointer (some ⟨pb, 9 + n * 150 + k * 30, none⟩)) rfl rfl (by kernel_rfl) (by kernel_rfl) (by kernel_rfl) (fun _ _ _ h => h) (Or.inl ⟨by rfl, fun _ _ => by go_simp⟩) hHeld ?_
          simp only [Act.put, List.setIfInBounds_toArray, List.set_cons_zero, List.set_cons_succ]
          refine wpAnyH_store_last (i := 18) (by kernel_rfl) rfl rfl rfl 50 (.tmp 58) (.tmp 54) rfl pb (9 + n * 150 + k * 30) 30 1359 _ (sptF (ch r.R k) (r.R.extract (k + 1) r.R.size) N F) (by rfl) (by rfl) (unhide H5).2.2.1 Tryd.sizeSpot (by omega) (oneB_sptF _ _ N F 30) (by kernel_rfl) ?_
          intro w6 hf6 hs6 hB6
          have H6 := hide (show LyS w w6 b q cap pb rs N F e p r (plK L r N F (k + 1)) from (unhide H5).put hf6 (hB6.congr fun i _ => by
            have := plK_spot L r N F k hlt hr i
            rw [unhide HL] at this; exact this))
          refine ⟨(unhide H6).2.2.2.1.cell 1 (by omega), ?_⟩
          clear hf6 hB6 hs H5 hf5 hK hHeld c1
          go_wp2
          go_roundw
          case rel => exact ⟨k + 1, by omega, by go_num, H6⟩
          case measure => simp [intOf]; omega
        · have HN := hide (show Fr [pb] w wr ∧ Blk wr pb 1359 (plF (planOf (L ++ [r]) N F)) from by
            have e : k = r.R.size := by omega
            have h := unhide hs
            rw [e] at h
            exact ⟨h.1, h.2.2.1.congr fun i _ => plK_end L r N F i⟩)
          clear hs
          go_wp2
          go_end0
          exact ⟨rfl, unhide HN⟩
end Go.Proofs.YtkglggkkbmmjkaaDoor


namespace Go.Proofs.YtkglggkkbmmjkaaDoor
open Go.RowKit

theorem Tryd.zeroPlan : (Tryd.prog.info? 54).bind (·.zero) = some (Agg 1359 (plF (planOf [] (fun _ => false) (fun _ _ => false)))) := by kernel_rfl
theorem Tryd.sizePlan : (Tryd.prog.info? 54).map (·.size) = some 1359 := by kernel_rfl
theorem planOf_nil (N N' : Nat → Bool) (F F' : Nat → Nat → Bool) (i : Nat) : plF (planOf [] N F) i = plF (planOf [] N' F') i := by
  unfold plF
  split
  · rfl
  · exact spF_congr (p := planOf [] N F) (q := planOf [] N' F') rfl rfl (fun _ => rfl) rfl _
theorem oneB_plF (p : Pl) (m : Nat) : oneB (plF p) m := fun i hi => by
  unfold plF
  split
  · rfl
  · exact oneB_spF p _ _ ((i - 9) % 30 + 1) _ (Nat.lt_succ_self _)
/-- rule 0 -/
def rul0 (c : Nat) : Ru := ⟨0, ⟨#[UInt8.ofNat c]⟩, 0⟩
/-- the rules by their numbers -/
def rul (rs : List Ru) : List Ru := rul0 (stOf rs) :: rs
theorem Tryd.sizeRuleP : (Tryd.prog.info? 114).map (·.size) = some 3 := by kernel_rfl
theorem Tryd.zeroRuleP : (Tryd.prog.info? 114).bind (·.zero) = some (Agg 3 (ruF ⟨0, ⟨#[]⟩, 0⟩)) := by kernel_rfl
end Go.Proofs.YtkglggkkbmmjkaaDoor
