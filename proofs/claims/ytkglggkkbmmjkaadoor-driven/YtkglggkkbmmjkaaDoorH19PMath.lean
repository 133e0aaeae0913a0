import Derived.Test.YtkglggkkbmmjkaaDoorH17PItem
namespace Go.Proofs.YtkglggkkbmmjkaaDoor
open Go.RowKit

structure Pl where
  left : Nat → Nat
  lt : Nat → Nat → Nat
  en : Nat → Nat → Bool
  bg : Nat → Nat → Nat → Bool
  nl : Nat → Nat → Bool
/-- a spot's cells -/
def spF (p : Pl) (n t : Nat) : Nat → Value := fun j => if j = 0 then .int .u8 (p.lt n t : Nat) else if j = 1 then .bool (p.en n t) else if j < 29 then .bool (p.bg n t (j - 2)) else .bool (p.nl n t)
/-- a plan's cells -/
def plF (p : Pl) : Nat → Value := fun i => if i < 9 then .int .u8 (p.left i : Nat) else spF p ((i - 9) / 150) ((i - 9) % 150 / 30) ((i - 9) % 30)
theorem plF_spot (p : Pl) (n t j : Nat) (ht : t < 5) (hj : j < 30) : plF p (9 + n * 150 + t * 30 + j) = spF p n t j := by
  unfold plF
  rw [if_neg (by omega), show (9 + n * 150 + t * 30 + j - 9) / 150 = n from by omega, show (9 + n * 150 + t * 30 + j - 9) % 150 / 30 = t from by omega, show (9 + n * 150 + t * 30 + j - 9) % 30 = j from by omega]
theorem oneB_spF (p : Pl) (n t m : Nat) : oneB (spF p n t) m := fun i _ => by
  unfold spF; split
  · rfl
  · split
    · rfl
    · split <;> rfl
/-- a plan lies in memory -/
def PlAt (w : World) (b : Nat) (p : Pl) : Prop := CsAt w b 0 1359 (plF p)
theorem PlAt.left {w : World} {b : Nat} {p : Pl} (h : PlAt w b p) (n : Nat) (hn : n < 9) : w.cell? ⟨b, n, none⟩ = some (.int .u8 (p.left n : Nat)) := by
  have := h n (by omega)
  rw [Nat.zero_add] at this
  rw [this]; unfold plF; rw [if_pos hn]
theorem PlAt.spot {w : World} {b : Nat} {p : Pl} (h : PlAt w b p) (n t : Nat) (hn : n < 9) (ht : t < 5) : CsAt w b (9 + n * 150 + t * 30) 30 (spF p n t) := fun j hj => by
  have := h (9 + n * 150 + t * 30 + j) (by omega)
  rw [Nat.zero_add, plF_spot p n t j ht hj] at this
  exact this
theorem PlAt.fr {S : List Nat} {w w' : World} {b : Nat} {p : Pl} (h : PlAt w b p) (k : Fr S w w') (hb : b ∉ S) (hl : b < w.heap.size) : PlAt w' b p := CsAt.fr h k hb hl

set_option maxHeartbeats 400000 in
/-- spot.behind -/
theorem p_behind (b : Nat) (p : Pl) (n t : Nat) (M : Nat → Bool) (w : World) (hB : Blk w b 30 (spF p n t)) :
    Calls Tryd.prog 92 #[.pointer (some ⟨b, 0, none⟩), Agg 27 (boolF M)] w fun e w' => e = .returned (Agg 27 (boolF fun i => p.bg n t i || (p.nl n t && M i))) ∧ Fr [] w w' := by
  have HB := hide hB
  have lb := hB.lt
  have h29 : w.cell? ⟨b, 29, none⟩ = some (.bool (p.nl n t)) := hB.cell 29 (by omega)
  clear hB
  have HG : ∀ i, i < 27 → spF p n t (2 + i) = boolF (p.bg n t) i := fun i hi => by
    unfold spF boolF
    rw [if_neg (by omega), if_neg (by omega), if_pos (by omega), Nat.add_sub_cancel_left]
  cases hnl : p.nl n t
  · rw [hnl] at h29
    go_enter Tryd.func92, Tryd.ntmps92
    go_wp2_with (first
      | (refine wpList_box_blk rfl 48 (.tmp 1) rfl (some 3) rfl 27 (boolF M) rfl ?_; intro w1 hf1 hs1 hB1; have HF1 := hide hf1; have HM := hide hB1; have HB1 := hide ((unhide HB).fr0 hf1); clear hf1 hB1)
      | (refine wpList_alloc_blk rfl 48 rfl (some 4) rfl 27 _ Tryd.zeroSign ?_; intro w2 hf2 hs2 hB2; have HF2 := hide ((unhide HF1).trans0 hf2); have HR := hide hB2; have HM2 := hide ((unhide HM).fr0 hf2); have HB2 := hide ((unhide HB1).fr0 hf2); clear hf2 hB2)
      | (refine wpList_load_blk rfl 48 (.tmp 8) rfl (some 9) rfl b 2 27 30 (spF p n t) _ rfl (by exact unhide HB2) Tryd.underlying48 rfl Tryd.sizeSign (by omega) ?_; rw [Agg.congr HG])
      | (refine wpList_alloc_blk rfl 48 rfl (some 5) rfl 27 _ Tryd.zeroSign ?_; intro w3 hf3 hs3 hB3; have HF3 := hide ((unhide HF2).trans0 hf3); have HR3 := hide ((unhide HR).fr0 hf3); have HM3 := hide ((unhide HM2).fr0 hf3); have HB3 := hide ((unhide HB2).fr0 hf3); have HA := hide hB3; clear hf3 hB3)
      | (refine wpList_store_blk rfl 48 (.tmp 5) (.tmp 9) rfl w2.heap.size 0 27 27 (sgF fun _ => false) (boolF (p.bg n t)) rfl rfl (by exact unhide HA) Tryd.sizeSign (by omega) (fun _ _ => rfl) ?_; intro w4 hf4 hs4 hB4; have HF4 := hide ((unhide HF3).trans1 hf4 (Or.inr (by omega))); have HR4 := hide (show Blk w4 (w.heap.size + 1) 27 _ from hs1 ▸ ((unhide HR3).fr1 hf4 (by omega))); have HM4 := hide ((unhide HM3).fr1 hf4 (by omega)); have h29' : w4.cell? ⟨b, 29, none⟩ = some (.bool (p.nl n t)) := (((unhide HB3).fr1 hf4 (by omega)).cell 29 (by omega)); rw [hnl] at h29'; have HA4 := hide (show Blk w4 (w.heap.size + 1 + 1) 27 (boolF (p.bg n t)) from (show w2.heap.size = w.heap.size + 1 + 1 from by rw [hs2, hs1]) ▸ hB4.congr fun i hi => lay_all _ _ _ i hi); clear hf4 hB4 HB2 HB1 HB3 HF3 HF2 HF1 HM3 HM2 HM HR HR3 HA)
      | (refine wpList_load_blk rfl 48 (.tmp 5) rfl (some 16) rfl (w.heap.size + 1 + 1) 0 27 27 (boolF (p.bg n t)) _ rfl (by exact unhide HA4) Tryd.underlying48 rfl Tryd.sizeSign (by omega) ?_)
      | (refine wpList_store_blk rfl 48 (.tmp 4) (.tmp 16) rfl (w.heap.size + 1) 0 27 27 (sgF fun _ => false) (fun i => boolF (p.bg n t) (0 + i)) rfl rfl (by exact unhide HR4) Tryd.sizeSign (by omega) (fun _ _ => rfl) ?_; intro w6 hf6 hs6 hB6))
    exact bodyPost_ret (results_cell Tryd.results92 _ (w.heap.size + 1) rfl 27 27 _ _ (hB6.congr fun i hi => lay_all _ _ _ i hi) Tryd.underlying48 rfl Tryd.sizeSign (by omega)) rfl ⟨by congr 2; funext i; simp [boolF], (unhide HF4).trans1 hf6 (Or.inr (by omega))⟩
  · rw [hnl] at h29
    go_enter Tryd.func92, Tryd.ntmps92
    go_wp2_with (first
      | (refine wpList_box_blk rfl 48 (.tmp 1) rfl (some 3) rfl 27 (boolF M) rfl ?_; intro w1 hf1 hs1 hB1; have HF1 := hide hf1; have HM := hide hB1; have HB1 := hide ((unhide HB).fr0 hf1); clear hf1 hB1)
      | (refine wpList_alloc_blk rfl 48 rfl (some 4) rfl 27 _ Tryd.zeroSign ?_; intro w2 hf2 hs2 hB2; have HF2 := hide ((unhide HF1).trans0 hf2); have HR := hide hB2; have HM2 := hide ((unhide HM).fr0 hf2); have HB2 := hide ((unhide HB1).fr0 hf2); clear hf2 hB2)
      | (refine wpList_load_blk rfl 48 (.tmp 8) rfl (some 9) rfl b 2 27 30 (spF p n t) _ rfl (by exact unhide HB2) Tryd.underlying48 rfl Tryd.sizeSign (by omega) ?_; rw [Agg.congr HG])
      | (refine wpList_alloc_blk rfl 48 rfl (some 5) rfl 27 _ Tryd.zeroSign ?_; intro w3 hf3 hs3 hB3; have HF3 := hide ((unhide HF2).trans0 hf3); have HR3 := hide ((unhide HR).fr0 hf3); have HM3 := hide ((unhide HM2).fr0 hf3); have HB3 := hide ((unhide HB2).fr0 hf3); have HA := hide hB3; clear hf3 hB3)
      | (refine wpList_store_blk rfl 48 (.tmp 5) (.tmp 9) rfl w2.heap.size 0 27 27 (sgF fun _ => false) (boolF (p.bg n t)) rfl rfl (by exact unhide HA) Tryd.sizeSign (by omega) (fun _ _ => rfl) ?_; intro w4 hf4 hs4 hB4; have HF4 := hide ((unhide HF3).trans1 hf4 (Or.inr (by omega))); have HR4 := hide (show Blk w4 (w.heap.size + 1) 27 _ from hs1 ▸ ((unhide HR3).fr1 hf4 (by omega))); have HM4 := hide ((unhide HM3).fr1 hf4 (by omega)); have h29' : w4.cell? ⟨b, 29, none⟩ = some (.bool (p.nl n t)) := (((unhide HB3).fr1 hf4 (by omega)).cell 29 (by omega)); rw [hnl] at h29'; have HA4 := hide (show Blk w4 (w.heap.size + 1 + 1) 27 (boolF (p.bg n t)) from (show w2.heap.size = w.heap.size + 1 + 1 from by rw [hs2, hs1]) ▸ hB4.congr fun i hi => lay_all _ _ _ i hi); clear hf4 hB4 HB2 HB1 HB3 HF3 HF2 HF1 HM3 HM2 HM HR HR3 HA)
      | (refine wpList_load_blk rfl 48 (.tmp 3) rfl (some 14) rfl w.heap.size 0 27 27 (boolF M) _ rfl (by exact unhide HM4) Tryd.underlying48 rfl Tryd.sizeSign (by omega) ?_)
      | (go_at_call 82; refine (p_saddAll (w.heap.size + 1 + 1) 0 27 (boolF (p.bg n t)) (p.bg n t) (fun i => M (0 + i)) w4 (by exact unhide HA4) (by omega) (fun i hi => by rw [Nat.zero_add]; rfl)).mono ?_; rintro e w5 ⟨rfl, hf5, hB5⟩; have HF5 := hide ((unhide HF4).trans1 hf5 (Or.inr (by omega))); have HR5 := hide ((unhide HR4).fr1 hf5 (by omega)); have HA5 := hide (show Blk w5 (w.heap.size + 1 + 1) 27 (boolF fun i => p.bg n t i || M i) from hB5.congr fun i hi => by (unfold orF boolF; rw [if_pos (by omega)]; simp)); clear hf5 hB5)
      | (refine wpList_load_blk rfl 48 (.tmp 5) rfl (some 16) rfl (w.heap.size + 1 + 1) 0 27 27 (boolF (fun i => p.bg n t i || M i)) _ rfl (by exact unhide HA5) Tryd.underlying48 rfl Tryd.sizeSign (by omega) ?_)
      | (refine wpList_store_blk rfl 48 (.tmp 4) (.tmp 16) rfl (w.heap.size + 1) 0 27 27 (sgF fun _ => false) (fun i => boolF (fun i => p.bg n t i || M i) (0 + i)) rfl rfl (by exact unhide HR5) Tryd.sizeSign (by omega) (fun _ _ => rfl) ?_; intro w6 hf6 hs6 hB6))
    exact bodyPost_ret (results_cell Tryd.results92 _ (w.heap.size + 1) rfl 27 27 _ _ (hB6.congr fun i hi => lay_all _ _ _ i hi) Tryd.underlying48 rfl Tryd.sizeSign (by omega)) rfl ⟨by congr 2; funext i; simp [boolF], (unhide HF5).trans1 hf6 (Or.inr (by omega))⟩

/-- what opening a big letter adds, at the rules below lim -/
def opI (p : Pl) (big : Nat) (M : Nat → Bool) (lim i : Nat) : Bool := decide (i / 135 < lim) && (p.left (i / 135) == big) && decide (i % 135 < 27) && M (i % 135)
theorem opI_skip (p : Pl) (big : Nat) (M : Nat → Bool) (k i : Nat) (h : (p.left k == big) = false) : opI p big M (k + 1) i = opI p big M k i := by
  unfold opI
  by_cases e : i / 135 = k
  · rw [e, h]; simp
  · rw [show decide (i / 135 < k + 1) = decide (i / 135 < k) from by apply decide_eq_decide.2; omega]
theorem opI_add (p : Pl) (big : Nat) (A M : Nat → Bool) (k i : Nat) (h : (p.left k == big) = true) :
    orF (boolF fun i => A i || opI p big M k i) (k * 135) 27 (fun j => A (k * 135 + j) || opI p big M k (k * 135 + j)) M i = boolF (fun i => A i || opI p big M (k + 1) i) i := by
  unfold orF boolF
  by_cases hr : k * 135 ≤ i ∧ i < k * 135 + 27
  · rw [if_pos hr]
    obtain ⟨j, rfl⟩ : ∃ j, i = k * 135 + j := ⟨i - k * 135, by omega⟩
    have h1 : (k * 135 + j) / 135 = k := by omega
    have h2 : (k * 135 + j) % 135 = j := by omega
    rw [Nat.add_sub_cancel_left]
    unfold opI
    dsimp only
    rw [h1, h2, h, show decide (k < k) = false from by simp, show decide (k < k + 1) = true from by simp, show decide (j < 27) = true from by simp; omega]
    simp
  · rw [if_neg hr]
    have : opI p big M (k + 1) i = opI p big M k i := by
      unfold opI
      by_cases e : i / 135 = k
      · rw [show decide (i % 135 < 27) = false from by simp; omega]; simp
      · rw [show decide (i / 135 < k + 1) = decide (i / 135 < k) from by apply decide_eq_decide.2; omega]
    dsimp only
    rw [this]

def OpS (w wr : World) (pb sb : Nat) (p : Pl) (A M : Nat → Bool) : Prop := Fr [sb] w wr ∧ Blk wr sb 1215 (boolF A) ∧ Blk wr w.heap.size 27 (boolF M) ∧ PlAt wr pb p ∧ w.heap.size < wr.heap.size

set_option maxRecDepth 100000 in
set_option maxHeartbeats 1000000 in
/-- plan.open -/
theorem p_open (pb sb c : Nat) (p : Pl) (A M : Nat → Bool) (w : World) (hP : PlAt w pb p) (hB : Blk w sb 1215 (boolF A)) (hpl : pb < w.heap.size) (hne : pb ≠ sb) :
    Calls Tryd.prog 93 #[.pointer (some ⟨pb, 0, none⟩), .pointer (some ⟨sb, 0, none⟩), .int .u8 c, Agg 27 (boolF M)] w fun e w' => e = .returned (.tuple #[]) ∧ Fr [sb] w w' ∧ Blk w' sb 1215 (boolF fun i => A i || opI p c M 9 i) := by
  have HB := hide hB
  have HP := hide hP
  have lb := hB.lt
  clear hB hP
  go_enter Tryd.func93, Tryd.ntmps93
  go_wp2_with (refine wpList_box_blk rfl 48 (.tmp 3) rfl (some 7) rfl 27 (boolF M) rfl ?_; intro w1 hf1 hs1 hB1; have H1 := hide (show OpS w w1 pb sb p A M from ⟨hf1.weak (by simp), (unhide HB).fr0 hf1, hB1, (unhide HP).fr hf1 (by simp) hpl, by omega⟩); clear hf1 hB1 hs1)
  go_loopw [8] (fun i wr => ∃ k : Nat, k ≤ 9 ∧ i = .int .i64 k ∧ Hid (OpS w wr pb sb p (fun i => A i || opI p c M k i) M)) (fun i _ => 9 - (intOf i).toNat)
  case atStart => exact ⟨0, by omega, rfl, hide ⟨(unhide H1).1, (unhide H1).2.1.congr fun i _ => by simp [boolF, opI], (unhide H1).2.2⟩⟩
  case round =>
    obtain ⟨k, hk, rfl, hs⟩ := hrel
    clear H1 HB HP
    by_cases hlt : k < 9
    · have d0 := (unhide hs).2.2.2.1.left k hlt
      cases hc : (p.left k == c)
      · have hci : (((p.left k : Nat) : Int) == (c : Int)) = false := by
          rw [beq_eq_false_iff_ne] at hc ⊢; omega
        have HN := hide (show OpS w wr pb sb p (fun i => A i || opI p c M (k + 1) i) M from ⟨(unhide hs).1, (unhide hs).2.1.congr fun i _ => by simp only [boolF]; rw [opI_skip p c M k i hc], (unhide hs).2.2⟩)
        clear hs hc
        go_wp2
        go_roundw
        case rel => exact ⟨k + 1, by omega, by go_num, HN⟩
        case measure => simp [intOf]; omega
      · have hci : (((p.left k : Nat) : Int) == (c : Int)) = true := by
          rw [beq_iff_eq] at hc ⊢; omega
        have HC := hide hc
        clear hc
        go_wp2
        refine wp_region_held_drew (S := fun w' => Blk w' w.heap.size 27 (boolF M)) (by kernel_rfl) (unhide hs).2.2.1.drew (fun hHeld => ?_)
        refine wpAnyH_take (i := 0) (v := .pointer (some ⟨sb, 0, none⟩)) rfl (by kernel_rfl) (by kernel_rfl) (by kernel_rfl) (fun _ _ _ h => h) (Or.inl ⟨by rfl, fun _ _ => rfl⟩) hHeld ?_
        refine wpAnyH_take (i := 1) (v := .int .i64 k) rfl (by kernel_rfl) (by kernel_rfl) (by kernel_rfl) (fun _ _ _ h => h) (Or.inl ⟨by rfl, fun _ _ => rfl⟩) hHeld ?_
        refine wpAnyH_take (i := 2) (v := .pointer (some ⟨sb, 0, none⟩)) rfl (by kernel_rfl) (by kernel_rfl) (by kernel_rfl) (fun _ _ _ h => h) (Or.inl ⟨by rfl, fun _ _ => rfl⟩) hHeld ?_
        refine wpAnyH_take (i := 3) (v := .pointer (some ⟨sb, 0, none⟩)) rfl (by kernel_rfl) (by kernel_rfl) (by kernel_rfl) (fun _ _ _ h => h) (Or.inl ⟨by rfl, fun _ _ => by go_simp⟩) hHeld ?_
        refine wpAnyH_take (i := 4) (v := .pointer (some ⟨sb, k * 135, none⟩)) rfl (by kernel_rfl) (by kernel_rfl) (by kernel_rfl) (fun _ _ _ h => h) (Or.inl ⟨by rfl, fun _ _ => by go_simp⟩) hHeld ?_
        refine wpAnyH_take (i := 5) (v := .pointer (some ⟨sb, k * 135, none⟩)) rfl (by kernel_rfl) (by kernel_rfl) (by kernel_rfl) (fun _ _ _ h => h) (Or.inl ⟨by rfl, fun _ _ => by go_simp⟩) hHeld ?_
        refine wpAnyH_take (i := 6) rfl (by kernel_rfl) (by kernel_rfl) (by kernel_rfl) (fun _ _ _ h => h) (yieldsIf_load_blk (by rfl) 48 (.tmp 7) rfl w.heap.size 0 27 27 (boolF M) _ rfl (fun _ h => h) Tryd.underlying48 rfl Tryd.sizeSign (by omega)) hHeld ?_
        refine wpAnyH_ready (rs := [7]) (by kernel_rfl) (by simp) ?_
        refine AllReadyH.cons rfl (fun K hK => ?_) AllReadyH.nil
        rw [if_pos (by rfl)]
        go_wp2_with fail
        refine (p_saddAll sb (k * 135) 1215 _ (fun j => A (k * 135 + j) || opI p c M k (k * 135 + j)) (fun i => M (0 + i)) _ (by exact (unhide hs).2.1.drew) (by omega) (fun i hi => rfl)).mono ?_
        rintro e w3 ⟨rfl, hf3, hB3⟩
        refine hK.out _ _ (hHeld.fr1 hf3 (by omega)) (fun _ => ?_)
        refine wpAnyH_done (by kernel_rfl) ?_ _
        have HN := hide (show OpS w w3 pb sb p (fun i => A i || opI p c M (k + 1) i) M from ⟨(unhide hs).1.drew.trans hf3 (by simp), hB3.congr fun i _ => by simp only [Nat.zero_add]; exact opI_add p c A M k i (unhide HC), (unhide hs).2.2.1.drew.fr1 hf3 (by omega), PlAt.fr (w := wr.drew) (unhide hs).2.2.2.1 hf3 (by simpa using hne) (Nat.lt_of_lt_of_le hpl (unhide hs).1.size), Nat.lt_of_lt_of_le (unhide hs).2.2.2.2 hf3.size⟩)
        clear hf3 hB3 hs hHeld
        go_wp2
        go_roundw
        case rel => exact ⟨k + 1, by omega, by go_num, HN⟩
        case measure => simp [intOf]; omega
    · have HN := hide (show Fr [sb] w wr ∧ Blk wr sb 1215 (boolF fun i => A i || opI p c M 9 i) from by
        have e : k = 9 := by omega
        subst e; exact ⟨(unhide hs).1, (unhide hs).2.1⟩)
      clear hs
      go_wp2
      go_end0
      exact ⟨rfl, unhide HN⟩
end Go.Proofs.YtkglggkkbmmjkaaDoor

namespace Go.Proofs.YtkglggkkbmmjkaaDoor
open Go.RowKit

/-- an item asks for another; i, j: their places in the set -/
def AskI (p : Pl) (i j : Nat) : Prop :=
  bigB (p.lt (i / 27 / 5) (i / 27 % 5)) = true ∧ j / 135 < 9 ∧ p.left (j / 135) = p.lt (i / 27 / 5) (i / 27 % 5) ∧ j % 135 < 27 ∧ (p.bg (i / 27 / 5) (i / 27 % 5) (j % 135) = true ∨ (p.nl (i / 27 / 5) (i / 27 % 5) = true ∧ i % 27 = j % 135))
def ClI (p : Pl) (A : Nat → Bool) (j : Nat) : Prop := ∀ S : Nat → Prop, (∀ i, i < 1215 → A i = true → S i) → (∀ i j, i < 1215 → S i → AskI p i j → S j) → S j
/-- a set on the way from A to the full one; the items of the places below lim have been looked at -/
structure SpM (p : Pl) (A B : Nat → Bool) (lim : Nat) : Prop where
  mono : ∀ i, A i = true → B i = true
  sound : ∀ j, j < 1215 → B j = true → ClI p A j
  step : ∀ i j, i < 1215 → A i = true → i / 27 < lim → AskI p i j → B j = true
theorem SpM.start (p : Pl) (A : Nat → Bool) : SpM p A A 0 := ⟨fun _ h => h, fun j hj h S h1 _ => h1 j hj h, fun _ _ _ _ h => by omega⟩
theorem empB_false {A : Nat → Bool} (h : empB A = false) : ∃ k, k < 27 ∧ A k = true := by
  apply Classical.byContradiction
  intro hn
  have : empB A = true := allB_iff.2 fun i hi => by
    cases e : A i
    · rfl
    · exact absurd ⟨i, hi, e⟩ hn
  rw [this] at h; cases h
theorem empB_true {A : Nat → Bool} (h : empB A = true) (k : Nat) (hk : k < 27) : A k = false := allB_iff.1 h k hk
theorem opI_iff {p : Pl} {c : Nat} {M : Nat → Bool} {lim j : Nat} : opI p c M lim j = true ↔ j / 135 < lim ∧ p.left (j / 135) = c ∧ j % 135 < 27 ∧ M (j % 135) = true := by
  unfold opI
  simp only [Bool.and_eq_true, decide_eq_true_eq, beq_iff_eq, and_assoc]

/-- a place with a big letter, and items there -/
theorem SpM.opened {p : Pl} {A B : Nat → Bool} {n t : Nat} (h : SpM p A B (n * 5 + t)) (hn : n < 9) (ht : t < 5) (hb : bigB (p.lt n t) = true) (he : empB (fun k => B (n * 135 + t * 27 + k)) = false) :
    SpM p A (fun i => B i || opI p (p.lt n t) (fun k => p.bg n t k || (p.nl n t && B (n * 135 + t * 27 + k))) 9 i) (n * 5 + t + 1) := by
  have key : ∀ k, k < 27 → (n * 135 + t * 27 + k) / 27 / 5 = n ∧ (n * 135 + t * 27 + k) / 27 % 5 = t ∧ (n * 135 + t * 27 + k) % 27 = k := fun k hk => by omega
  refine ⟨fun i hi => by simp [h.mono i hi], fun j hj hB => ?_, fun i j hi hA hl hk => ?_⟩
  · rcases Bool.or_eq_true_iff.1 hB with hB | hB
    · exact h.sound j hj hB
    · obtain ⟨h1, h2, h3, h4⟩ := opI_iff.1 hB
      rcases Bool.or_eq_true_iff.1 h4 with h4 | h4
      · obtain ⟨k, hk, hBk⟩ := empB_false he
        obtain ⟨k1, k2, k3⟩ := key k hk
        have hlt : n * 135 + t * 27 + k < 1215 := by omega
        intro S s1 s2
        refine s2 (n * 135 + t * 27 + k) j hlt (h.sound _ hlt hBk S s1 s2) ?_
        unfold AskI
        rw [k1, k2, k3]
        exact ⟨hb, h1, h2, h3, Or.inl h4⟩
      · rw [Bool.and_eq_true] at h4
        obtain ⟨k1, k2, k3⟩ := key (j % 135) h3
        have hlt : n * 135 + t * 27 + j % 135 < 1215 := by omega
        intro S s1 s2
        refine s2 (n * 135 + t * 27 + j % 135) j hlt (h.sound _ hlt h4.2 S s1 s2) ?_
        unfold AskI
        rw [k1, k2, k3]
        exact ⟨hb, h1, h2, h3, Or.inr ⟨h4.1, rfl⟩⟩
  · by_cases e : i / 27 < n * 5 + t
    · rw [h.step i j hi hA e hk]; rfl
    · have ei : i / 27 = n * 5 + t := by omega
      obtain ⟨a1, a2, a3, a4, a5⟩ := hk
      rw [show i / 27 / 5 = n from by omega, show i / 27 % 5 = t from by omega] at a1 a3 a5
      rw [Bool.or_eq_true]; right
      refine opI_iff.2 ⟨a2, a3, a4, ?_⟩
      rcases a5 with a5 | a5
      · simp [a5]
      · rw [← a5.2, show n * 135 + t * 27 + i % 27 = i from by omega, h.mono i hA, a5.1]; simp
/-- a place with no big letter, or with no items -/
theorem SpM.skip {p : Pl} {A B : Nat → Bool} {n t : Nat} (h : SpM p A B (n * 5 + t)) (ht : t < 5) (hb : bigB (p.lt n t) = false ∨ empB (fun k => B (n * 135 + t * 27 + k)) = true) : SpM p A B (n * 5 + t + 1) := by
  refine ⟨h.mono, h.sound, fun i j hi hA hl hk => ?_⟩
  by_cases e : i / 27 < n * 5 + t
  · exact h.step i j hi hA e hk
  · have ei : i / 27 = n * 5 + t := by omega
    rcases hb with hb | hb
    · have := hk.1
      rw [show i / 27 / 5 = n from by omega, show i / 27 % 5 = t from by omega, hb] at this
      cases this
    · have := empB_true hb (i % 27) (by omega)
      rw [show n * 135 + t * 27 + i % 27 = i from by omega, h.mono i hA] at this
      cases this

/-- nothing was added: the set is full -/
theorem SpM.closed {p : Pl} {A B : Nat → Bool} (h : SpM p A B 45) (he : allB 1215 B A = true) (i j : Nat) (hi : i < 1215) (hA : A i = true) (hk : AskI p i j) : j < 1215 ∧ A j = true := by
  have hj : j < 1215 := by have := hk.2.1; omega
  refine ⟨hj, ?_⟩
  rw [← allB_iff.1 he j hj]
  exact h.step i j hi hA (by omega) hk

def cntI (A : Nat → Bool) : Nat := (List.range 1215).countP A
theorem cntI_le (A : Nat → Bool) : cntI A ≤ 1215 := by
  have := List.countP_le_length (p := A) (l := List.range 1215)
  rw [List.length_range] at this
  exact this
theorem countP_lt_of {α : Type} {p q : α → Bool} : ∀ (l : List α), (∀ r ∈ l, p r = true → q r = true) → (∃ r ∈ l, p r = false ∧ q r = true) → l.countP p < l.countP q
  | [], _, h => by obtain ⟨r, hr, _⟩ := h; cases hr
  | a :: l, h, h2 => by
    have hle : l.countP p ≤ l.countP q := List.countP_mono_left fun r hr hp => h r (List.mem_cons_of_mem _ hr) hp
    simp only [List.countP_cons]
    obtain ⟨r, hr, hp, hq⟩ := h2
    rcases List.mem_cons.1 hr with rfl | hr
    · rw [hp, hq]; simp; omega
    · have := countP_lt_of l (fun r hr hp => h r (List.mem_cons_of_mem _ hr) hp) ⟨r, hr, hp, hq⟩
      have ha := h a (List.mem_cons_self ..)
      cases h1 : p a
      · cases h2 : q a <;> simp <;> omega
      · rw [ha h1]; simp; omega
theorem cntI_lt {A B : Nat → Bool} (hm : ∀ i, A i = true → B i = true) (he : allB 1215 B A = false) : cntI A + 1 ≤ cntI B := by
  refine countP_lt_of _ (fun r _ h => hm r h) ?_
  apply Classical.byContradiction
  intro hn
  have : allB 1215 B A = true := allB_iff.2 fun i hi => by
    cases e : A i
    · cases e2 : B i
      · rfl
      · exact absurd ⟨i, List.mem_range.2 hi, e, e2⟩ hn
    · exact hm i e
  rw [this] at he; cases he

/-- on the way from A: more than A, and no more than is asked for -/
def FiM (p : Pl) (A B : Nat → Bool) : Prop := (∀ i, A i = true → B i = true) ∧ ∀ j, j < 1215 → B j = true → ClI p A j
theorem ClI.trans {p : Pl} {A B : Nat → Bool} (h : ∀ j, j < 1215 → B j = true → ClI p A j) {j : Nat} (k : ClI p B j) : ClI p A j := fun S s1 s2 =>
  k S (fun i hi hB => h i hi hB S s1 s2) s2
theorem FiM.round {p : Pl} {A B C : Nat → Bool} (h : FiM p A B) (k : SpM p B C 45) : FiM p A C :=
  ⟨fun i hi => k.mono i (h.1 i hi), fun j hj hC => ClI.trans h.2 (k.sound j hj hC)⟩
/-- filled -/
def FuI (p : Pl) (A B : Nat → Bool) : Prop := ∀ j, j < 1215 → (B j = true ↔ ClI p A j)
theorem FiM.full {p : Pl} {A B C : Nat → Bool} (h : FiM p A B) (k : SpM p B C 45) (he : allB 1215 C B = true) : FuI p A C := fun j hj => by
  rw [allB_iff.1 he j hj]
  refine ⟨h.2 j hj, fun hc => ?_⟩
  have := hc (fun j => j < 1215 ∧ B j = true) (fun i hi hA => ⟨hi, h.1 i hA⟩) (fun i j hi hS hk => k.closed he i j hi hS.2 hk)
  exact this.2
end Go.Proofs.YtkglggkkbmmjkaaDoor
