import Derived.Test.YtkglggkkbmmjkabGreatDoorG45PRd7
import Derived.Test.YtkglggkkbmmjkabGreatDoorG41RTabM
import Derived.Test.YtkglggkkbmmjkabGreatDoorG43PRd1
namespace Go.Proofs.YtkglggkkbmmjkabGreatDoor
open Go.RowKit
def zcg (L : List Ru) (r : Tb) (s : Nat) (a : Nat) : Bool := !acE (canS r s a) (fun k => decide (k < 9) && canR L r s a k)
theorem aheadB_iff {L : List Ru} {r : Tb} {s a : Nat} : zcg L r s a = true ↔ (canS r s a = true ∨ ∃ k, k < 9 ∧ canR L r s a k = true) := by
 unfold zcg
 rw [Bool.not_eq_true']
 constructor
 ·intro h
  apply Classical.byContradiction
  intro hn
  have : acE (canS r s a) (fun k => decide (k < 9) && canR L r s a k) = true := acE_iff.2 ⟨by
   cases e : canS r s a
   ·rfl
   ·exact absurd (Or.inl e) hn, fun k hk => by
   cases e : canR L r s a k
   ·simp
   ·exact absurd (Or.inr ⟨k, hk, e⟩) hn⟩
  rw [h] at this; cases this
 ·intro h
  cases e : acE (canS r s a) (fun k => decide (k < 9) && canR L r s a k)
  ·rfl
  ·obtain ⟨h1, h2⟩ := acE_iff.1 e
   rcases h with h | ⟨k, hk, h⟩
   ·rw [h1] at h; cases h
   ·have := h2 k hk
    rw [h] at this; simp [hk] at this
def upS (b : Nat → Bool) (k : Nat) : Nat → Bool := fun x => decide (sgO x < k) && b x
theorem upS_succ (b : Nat → Bool) (k i : Nat) : (if b (sgn k) then upd (sgF (upS b k)) (0 + sgO (sgn k)) (.bool true) i else sgF (upS b k) i) = sgF (upS b (k + 1)) i := by
 unfold sgF upS upd
 simp only [sgO_sgn, Nat.zero_add]
 by_cases e : i = k
 ·subst e
  cases hb : b (sgn i)
  ·simp
  ·simp
 ·have : decide (i < k) = decide (i < k + 1) := by apply Bool.eq_iff_iff.2; simp; omega
  cases hb : b (sgn k)
  ·rw [if_neg (by simp), this]
  ·rw [if_pos rfl, if_neg e, this]
set_option maxRecDepth 100000 in
set_option maxHeartbeats 8000000 in
theorem p_signsAhead (t : ByteArray) (rb tb base : Nat) (p : Pl) (v : Value) (S : List Sd) (cores : Nat) (sv : Value) (L : List Ru) (r : Tb) (s : Nat) (x : List Nat) (st : Stk) (w : World) (h : RdS w rb tb base p v S cores sv ((s, x) :: st)) (hP : TabP t p L S r) (hsl : s < S.length) (hlen : st.length ≤ 90000000) :
 Calls Tryz.prog 44 #[.pointer (some ⟨rb, 0, none⟩)] w fun e w' => e = .returned (Agg 27 (sgF (upS (zcg L r s) 27))) ∧ Fr [] w w' := by
 have HH := hide h
 have HP := hide hP
 clear h hP
 go_enter Tryz.func44, Tryz.ntmps44
 go_wp2_with (first
  | (refine zab rfl 48 rfl (some 2) rfl 27 _ Tryz.zeroSign ?_; intro wa hfa hsa hBa; have HA := hide (And.intro hfa (And.intro hsa hBa)); clear hfa hsa hBa)
  | (refine zab rfl 48 rfl (some 3) rfl 27 _ Tryz.zeroSign ?_; intro wb hfb hsb hBb; have HB := hide (And.intro hfb (And.intro hsb hBb)); clear hfb hsb hBb)
  | (go_at_call 40; refine (p_last rb tb base p v S cores sv (s, x) st wb (by exact ((zaa HH).fr0 (zaa HA).1).fr0 (zaa HB).1) (by omega)).mono ?_; rintro e w1a ⟨rfl, hf1⟩; have HF1 := hide hf1; clear hf1))
 obtain ⟨W0, hW0⟩ : ∃ W0, w1a.alloc (.cells #[.int .i64 (s : Nat), .string (bstr x)] 89) = W0 := ⟨_, rfl⟩
 rw [hW0]
 have HWB := hide (show w.heap.size < wa.heap.size ∧ wa.heap.size < w1a.heap.size from by have h0 := (zaa HA).2.1; have h1 := (zaa HB).2.1; have h2 := (zaa HF1).size; omega)
 have HB2 := hide (zaa HB).2.2
 have HB0 := hide (zaa HB).1
 have HA0 := hide (zaa HA).1
 have HA2 := hide (zaa HA).2.2
 clear HA HB
 obtain ⟨sb, hsb⟩ : ∃ sb, wa.heap.size = sb := ⟨_, rfl⟩
 rw [hsb] at HWB HB2 ⊢
 clear hsb
 have HI0 := hide (show Fr [] w W0 ∧ Blk W0 w.heap.size 27 (sgF fun _ => false) ∧ Blk W0 sb 27 (sgF (upS (zcg L r s) 0)) ∧ W0.cell? ⟨w1a.heap.size, 0, none⟩ = some (.int .i64 (s : Nat)) ∧ (w.heap.size < sb ∧ sb < w1a.heap.size) from by
  have f1 : Fr [] wb W0 := hW0 ▸ (zaa HF1).alloc _
  exact ⟨((zaa HA0).trans0 (zaa HB0)).trans0 f1, ((zaa HA2).fr0 (zaa HB0)).fr0 f1, ((zaa HB2).fr0 f1).congr fun i _ => by unfold sgF upS; simp, by rw [← hW0]; simp, zaa HWB⟩)
 clear hW0 HA0 HA2 HB0 HB2 HF1 HWB
 go_loopw [5, 6] (fun iv _ wr => ∃ k : Nat, k ≤ 27 ∧ iv = .int .i64 k ∧ Hid (Fr [] w wr ∧ Blk wr w.heap.size 27 (sgF fun _ => false) ∧ Blk wr sb 27 (sgF (upS (zcg L r s) k)) ∧ wr.cell? ⟨w1a.heap.size, 0, none⟩ = some (.int .i64 (s : Nat)) ∧ (w.heap.size < sb ∧ sb < w1a.heap.size))) (fun iv _ _ => 27 - (intOf iv).toNat)
 case atStart => exact ⟨0, by omega, rfl, HI0⟩
 case round =>
  obtain ⟨k, hk, rfl, hI⟩ := hrel
  clear HI0
  by_cases hlt : k < 27
  ·have hki : (k : Int) < 27 := by omega
   obtain ⟨a, hka⟩ : ∃ a, sgn k = a := ⟨_, rfl⟩
   have HKA := hide hka
   have HA := hide (show sigB a = true from by rw [← hka]; exact sigB_sgn hlt)
   clear hka
   go_wp2_with (go_at_call 99; refine (p_signAt k wr hlt).mono ?_; rintro e w' ⟨rfl, hw'⟩; rw [hw', zaa HKA])
   obtain ⟨W, hW⟩ : ∃ W, wr = W := ⟨_, rfl⟩
   have HWr := hide (show RdS W rb tb base p v S cores sv ((s, x) :: st) from hW ▸ (zaa HH).fr0 (zaa hI).1)
   have HWc := hide (show W.cell? ⟨rb, 0, none⟩ = some (.pointer (some ⟨tb, 0, none⟩)) ∧ W.cell? ⟨w1a.heap.size, 0, none⟩ = some (.int .i64 (s : Nat)) from ⟨(zaa HWr).blk.cell 0 (by omega), hW ▸ (zaa hI).2.2.2.1⟩)
   subst hW
   refine wp_region_held_drew (S := fun w' => Fr [] wr w') (by kernel_rfl) ((Fr.refl [] wr).drew) (fun hHeld => ?_)
   refine zae (i := 0) (v := .pointer (some ⟨rb, 0, none⟩)) rfl rfl (by kernel_rfl) (by kernel_rfl) (by kernel_rfl) (fun _ _ _ h => h) (Or.inl ⟨by rfl, fun _ _ => rfl⟩) hHeld ?_
   simp only [Act.put, List.setIfInBounds_toArray, List.set_cons_zero, List.set_cons_succ]
   refine zae (i := 1) (v := .pointer (some ⟨rb, 0, none⟩)) rfl rfl (by kernel_rfl) (by kernel_rfl) (by kernel_rfl) (fun _ _ _ h => h) (Or.inl ⟨by rfl, fun _ _ => by go_simp⟩) hHeld ?_
   simp only [Act.put, List.setIfInBounds_toArray, List.set_cons_zero, List.set_cons_succ]
   refine zae (i := 2) (v := .pointer (some ⟨rb, 0, none⟩)) rfl rfl (by kernel_rfl) (by kernel_rfl) (by kernel_rfl) (fun _ _ _ h => h) (Or.inl ⟨by rfl, fun _ _ => by go_simp⟩) hHeld ?_
   simp only [Act.put, List.setIfInBounds_toArray, List.set_cons_zero, List.set_cons_succ]
   refine zae (i := 3) (v := .pointer (some ⟨tb, 0, none⟩)) rfl rfl (by kernel_rfl) (by kernel_rfl) (by kernel_rfl) (fun _ _ _ h => h) (Or.inl ⟨by rfl, fun w' hw => by (have hc := hw.cell0 (zaa HWc).1); go_simp⟩) hHeld ?_
   simp only [Act.put, List.setIfInBounds_toArray, List.set_cons_zero, List.set_cons_succ]
   refine zae (i := 4) (v := .pointer (some ⟨w1a.heap.size, 0, none⟩)) rfl rfl (by kernel_rfl) (by kernel_rfl) (by kernel_rfl) (fun _ _ _ h => h) (Or.inl ⟨by rfl, fun _ _ => by go_simp⟩) hHeld ?_
   simp only [Act.put, List.setIfInBounds_toArray, List.set_cons_zero, List.set_cons_succ]
   refine zae (i := 5) (v := .int .i64 (s : Nat)) rfl rfl (by kernel_rfl) (by kernel_rfl) (by kernel_rfl) (fun _ _ _ h => h) (Or.inl ⟨by rfl, fun w' hw => by (have hc := hw.cell0 (zaa HWc).2); go_simp⟩) hHeld ?_
   simp only [Act.put, List.setIfInBounds_toArray, List.set_cons_zero, List.set_cons_succ]
   refine zae (i := 6) (v := .int .u8 (a : Nat)) rfl rfl (by kernel_rfl) (by kernel_rfl) (by kernel_rfl) (fun _ _ _ h => h) (Or.inl ⟨by rfl, fun _ _ => rfl⟩) hHeld ?_
   simp only [Act.put, List.setIfInBounds_toArray, List.set_cons_zero, List.set_cons_succ]
   refine wpAnyH_ready (rs := [7, 8]) (by kernel_rfl) (by simp) ?_
   refine AllReadyH.cons rfl (fun K hK => ?g7) (AllReadyH.cons rfl (fun K hK => ?g8) AllReadyH.nil)
   case' g7 =>
    rw [if_pos (by rfl)]
    go_wp2_with fail
    refine (p_actsR t tb base s a p v S cores L r _ (by exact ((zaa HWr).fr0 (Fr.refl [] wr).drew).tab) (zaa HP) hsl (zaa HA)).mono ?_
    rintro e w3 ⟨rfl, hf3⟩
    refine hK.out _ _ (hHeld.trans0 hf3) (fun hHeld3 => ?_)
    refine wpAnyH_ready (rs := [8]) (by kernel_rfl) (by simp) ?_
    refine AllReadyH.cons rfl (fun K2 hK2 => ?_) AllReadyH.nil
    rw [if_pos (by rfl)]
    refine zbv 135 rfl (some 7) rfl 10 _ Tryz.zeroActs ?_
    intro w4 hf4 hs4 hB4
    refine hK2.out _ _ (hHeld3.trans0 hf4) (fun hHeld4 => ?_)
    refine za6 (i := 9) (by kernel_rfl) rfl rfl rfl 135 (.tmp 7) (.tmp 23) rfl w3.heap.size 0 10 10 (acF false fun _ => false) (actsAt L r s a) (by simp [Act.eval, Act.put]) (by simp [Act.eval, Act.put]) hB4 Tryz.sizeActs (by omega) (zb7 _ _ 10) (by kernel_rfl) ?_
    intro w5 hf5 hs5 hB5
    refine ⟨hHeld4.trans1 hf5 (Or.inr hHeld3.size), ?_⟩
    have H5 := hide (show Fr [] wr w5 ∧ Blk w5 w3.heap.size 10 (actsAt L r s a) from ⟨hHeld4.trans1 hf5 (Or.inr hHeld3.size), hB5.congr fun i hi => zag _ _ _ i hi⟩)
    clear hK hK2 hHeld hHeld3 hHeld4 hf3 hf4 hf5 hB4 hB5 hs4 hs5
    generalize w3.heap.size = fb at *
   case' g8 =>
    rw [if_pos (by rfl)]
    refine zbv 135 rfl (some 7) rfl 10 _ Tryz.zeroActs ?_
    intro w3 hf3 hs3 hB3
    refine hK.out _ _ (hHeld.trans0 hf3) (fun hHeld3 => ?_)
    refine wpAnyH_ready (rs := [7]) (by kernel_rfl) (by simp) ?_
    refine AllReadyH.cons rfl (fun K2 hK2 => ?_) AllReadyH.nil
    rw [if_pos (by rfl)]
    go_wp2_with fail
    refine (p_actsR t tb base s a p v S cores L r _ (by exact ((zaa HWr).fr0 hHeld3).tab) (zaa HP) hsl (zaa HA)).mono ?_
    rintro e w4 ⟨rfl, hf4⟩
    refine hK2.out _ _ (hHeld3.trans0 hf4) (fun hHeld4 => ?_)
    refine za6 (i := 9) (by kernel_rfl) rfl rfl rfl 135 (.tmp 7) (.tmp 23) rfl wr.drew.heap.size 0 10 10 (acF false fun _ => false) (actsAt L r s a) (by simp [Act.eval]) (by simp [Act.eval]) (hB3.fr0 hf4) Tryz.sizeActs (by omega) (zb7 _ _ 10) (by kernel_rfl) ?_
    intro w5 hf5 hs5 hB5
    refine ⟨hHeld4.trans1 hf5 (Or.inr (Nat.le_refl _)), ?_⟩
    have H5 := hide (show Fr [] wr w5 ∧ Blk w5 wr.heap.size 10 (actsAt L r s a) from ⟨hHeld4.trans1 hf5 (Or.inr (Nat.le_refl _)), hB5.congr fun i hi => zag _ _ _ i hi⟩)
    clear hK hK2 hHeld hHeld3 hHeld4 hf3 hf4 hf5 hB3 hB5 hs3 hs5
    generalize wr.heap.size = fb at *
   all_goals
    have HI5 := hide (show Fr [] w w5 ∧ Blk w5 w.heap.size 27 (sgF fun _ => false) ∧ Blk w5 sb 27 (sgF (upS (zcg L r s) k)) ∧ w5.cell? ⟨w1a.heap.size, 0, none⟩ = some (.int .i64 (s : Nat)) from ⟨(zaa hI).1.trans0 (zaa H5).1, (zaa hI).2.1.fr0 (zaa H5).1, (zaa hI).2.2.1.fr0 (zaa H5).1, (zaa H5).1.cell0 (zaa hI).2.2.2.1⟩)
    have HW2 := hide (zaa hI).2.2.2.2
    clear HWc HWr
    cases hem : acE (canS r s a) (fun k => decide (k < 9) && canR L r s a k)
    ·have HEm := hide hem
     have HUp := hide (show ∀ i, i < 27 → upd (sgF (upS (zcg L r s) k)) (0 + sgO a) (.bool true) i = sgF (upS (zcg L r s) (k + 1)) i from fun i _ => by
      have := upS_succ (zcg L r s) k i
      rw [zaa HKA, if_pos (by unfold zcg; rw [hem]; rfl)] at this
      exact this)
     clear hem
     go_wp2_with (first
      | (go_at_call 93; refine (p_aEmpty fb _ _ w5 (by exact (zaa H5).2)).mono ?_; rintro e w6 ⟨rfl, hf6⟩; rw [zaa HEm]; have HF6 := hide hf6; clear hf6)
      | (go_at_call 100; refine (p_saddO sb 0 a 27 (sgF (upS (zcg L r s) k)) w6 (by exact (zaa HI5).2.2.1.fr0 (zaa HF6)) (by omega) (zaa HA)).mono ?_; rintro e w7 ⟨rfl, hf7, hs7, hB7⟩; have HI7 := hide (show Fr [] w w7 ∧ Blk w7 w.heap.size 27 (sgF fun _ => false) ∧ Blk w7 sb 27 (sgF (upS (zcg L r s) (k + 1))) ∧ w7.cell? ⟨w1a.heap.size, 0, none⟩ = some (.int .i64 (s : Nat)) ∧ (w.heap.size < sb ∧ sb < w1a.heap.size) from ⟨((zaa HI5).1.trans0 (zaa HF6)).trans1 hf7 (Or.inr (Nat.le_of_lt (zaa HW2).1)), ((zaa HI5).2.1.fr0 (zaa HF6)).fr1 hf7 (Nat.ne_of_lt (zaa HW2).1), hB7.congr fun i hi => zaa HUp i hi, hf7.cell ((zaa HF6).cell0 (zaa HI5).2.2.2) (by have := zaa HW2; simp; omega), zaa HW2⟩); clear hf7 hs7 hB7))
     go_roundw
     case rel => exact ⟨k + 1, by omega, by go_num, HI7⟩
     case measure => simp [intOf]; omega
    ·have HEm := hide hem
     have HUp := hide (show ∀ i, i < 27 → sgF (upS (zcg L r s) k) i = sgF (upS (zcg L r s) (k + 1)) i from fun i _ => by
      have := upS_succ (zcg L r s) k i
      rw [zaa HKA, if_neg (by unfold zcg; rw [hem]; simp)] at this
      exact this)
     clear hem
     go_wp2_with (go_at_call 93; refine (p_aEmpty fb _ _ w5 (by exact (zaa H5).2)).mono ?_; rintro e w6 ⟨rfl, hf6⟩; rw [zaa HEm]; have HI7 := hide (show Fr [] w w6 ∧ Blk w6 w.heap.size 27 (sgF fun _ => false) ∧ Blk w6 sb 27 (sgF (upS (zcg L r s) (k + 1))) ∧ w6.cell? ⟨w1a.heap.size, 0, none⟩ = some (.int .i64 (s : Nat)) ∧ (w.heap.size < sb ∧ sb < w1a.heap.size) from ⟨(zaa HI5).1.trans0 hf6, (zaa HI5).2.1.fr0 hf6, ((zaa HI5).2.2.1.fr0 hf6).congr fun i hi => zaa HUp i hi, hf6.cell0 (zaa HI5).2.2.2, zaa HW2⟩); clear hf6)
     go_roundw
     case rel => exact ⟨k + 1, by omega, by go_num, HI7⟩
     case measure => simp [intOf]; omega
  ·have hk27 : k = 27 := by omega
   subst hk27
   go_wp2_with (first
    | (refine zaf rfl 48 (.tmp 3) rfl (some 28) rfl sb 0 27 27 (sgF (upS (zcg L r s) 27)) _ rfl (by exact (zaa hI).2.2.1) Tryz.underlying48 rfl Tryz.sizeSign (by omega) ?_)
    | (refine zac rfl 48 (.tmp 2) (.tmp 28) rfl w.heap.size 0 27 27 (sgF fun _ => false) (fun i => sgF (upS (zcg L r s) 27) (0 + i)) rfl rfl (by exact (zaa hI).2.1) Tryz.sizeSign (by omega) (fun _ _ => rfl) ?_; intro w7 hf7 hs7 hB7))
   exact bodyPost_ret (zaj Tryz.results44 _ w.heap.size rfl 27 27 _ _ (hB7.congr fun i hi => zag _ _ _ i hi) Tryz.underlying48 rfl Tryz.sizeSign (by omega)) rfl ⟨by congr 2; funext i; rw [Nat.zero_add], (zaa hI).1.trans1 hf7 (Or.inr (Nat.le_refl _))⟩
end Go.Proofs.YtkglggkkbmmjkabGreatDoor
namespace Go.Proofs.YtkglggkkbmmjkabGreatDoor
open Go.RowKit
set_option maxHeartbeats 400000 in
theorem p_isAllSmall (s : ByteArray) (w : World) (hs : s.size ≤ 1000) :
 Calls Tryz.prog 90 #[.string s] w fun e w' => e = .returned (.bool ((bytes s).all zai)) ∧ w' = w := by
 go_enter Tryz.func90, Tryz.ntmps90
 go_wp2
 go_loop [3] (fun nv => ∃ n : Nat, n ≤ s.size ∧ nv = .int .i64 n ∧ Hid ((bytes s).all zai = ((bytes s).drop n).all zai)) (fun nv => s.size - (intOf nv).toNat)
 case atStart => exact ⟨0, by omega, rfl, by simp [Hid]⟩
 case round =>
  obtain ⟨n, hn, rfl, hI⟩ := hrel
  by_cases hlt : n < s.size
  ·have hcc : ((s[n]'hlt).toNat : Int) = ((ch s n : Nat) : Int) := by rw [za8 s n hlt]
   obtain ⟨a, hch⟩ : ∃ a, ch s n = a := ⟨_, rfl⟩
   rw [hch] at hcc
   have hdr : (bytes s).drop n = a :: (bytes s).drop (n + 1) := by
    have hl : n < (bytes s).length := by rw [zah]; exact hlt
    rw [List.drop_eq_getElem_cons hl, za5, hch]
   have HN := hide (show (bytes s).all zai = (zai a && ((bytes s).drop (n + 1)).all zai) from by rw [zaa hI, hdr, List.all_cons])
   have hli : (n : Int) < s.size := by omega
   clear hdr hch hI
   cases hv : zai a
   ·have HR := hide (show (bytes s).all zai = false from by rw [zaa HN, hv]; rfl)
    go_wp2_with (go_at_call 110; refine (p_isSmall_is a false w hv).mono ?_; rintro e w' ⟨rfl, hw'⟩; rw [hw'])
    go_ret
    exact ⟨zap (zaa HR).symm, rfl⟩
   ·have HR := hide (show (bytes s).all zai = ((bytes s).drop (n + 1)).all zai from by rw [zaa HN, hv]; rfl)
    go_wp2_with (go_at_call 110; refine (p_isSmall_is a true w hv).mono ?_; rintro e w' ⟨rfl, hw'⟩; rw [hw'])
    go_round
    case rel => exact ⟨n + 1, by omega, by go_num, HR⟩
    case measure => simp [intOf]; omega
  ·have HR := hide (show (bytes s).all zai = true from by rw [zaa hI, List.drop_eq_nil_of_le (by rw [zah]; omega)]; rfl)
   have hli : ¬ (n : Int) < s.size := by omega
   go_wp2
   go_ret
   exact ⟨zap (zaa HR).symm, rfl⟩
theorem clsT_zero {L : List Ru} {r : Tb} : clsT L r = 0 ↔ anyC (fun k i => decide (1 < (actT L r k (sgn i)).size)) r.1.length = true := by
 unfold clsT
 split
 ·rename_i h; exact ⟨fun _ => h, fun _ => rfl⟩
 ·rename_i h
  constructor
  ·intro e
   split at e <;> cases e
  ·intro e; exact absurd e h
theorem clash_eq {t : ByteArray} {S : List Sd} {M : List (List (Nat × Nat))} (h : TIs t S M) : anyC (clK (plT t) S) S.length = anyC (fun k i => decide (1 < (actT (rul (zad t 8 0 []).1) (mOf S, M) k (sgn i)).size)) (mOf S, M).1.length := by
 rw [show (mOf S, M).1.length = S.length from zcr S]
 exact anyC_congr fun k hk i hi => by unfold clK; rw [← act_eq h hk (sigB_sgn' hi)]; rfl
def RftO (t s : ByteArray) (w w' : World) (f : Nat → Value) : Prop :=
 Fr [] w w' ∧ oneB f 1362 ∧ f 1361 = .int .i64 (errT t s : Nat) ∧
 (errT t s = 0 → ∃ S c M base ao l cap, TGood t S c ∧ TIs t S M ∧ l = S.length ∧ (∀ i, i < 1362 → f i = tbF (plT t) (.slice ao l cap) c 0 i) ∧ GRow w' base 147 1268 (.slice ao l cap) S.length (rwF S))
theorem errT_long {t s : ByteArray} (h : 12 < s.size) : errT t s = 1 := by unfold errT; rw [if_pos h]
theorem errT_tab {t s : ByteArray} (h : ¬ 12 < s.size) {x : Nat} (hx : tabR t = .inl x) : errT t s = x := by unfold errT; rw [if_neg h, hx]
theorem errT_good {t s : ByteArray} (h : ¬ 12 < s.size) {S : List Sd} {M : List (List (Nat × Nat))} (hM : TIs t S M) : errT t s = if anyC (clK (plT t) S) S.length then 8 else if (bytes s).all zai then 0 else 5 := by
 unfold errT
 rw [if_neg h, hM.tab, clash_eq hM]
 dsimp only
 by_cases hc : clsT (rul (zad t 8 0 []).1) (mOf S, M) = 0
 ·rw [if_pos hc, if_pos (clsT_zero.1 hc)]
 ·rw [if_neg hc, if_neg (fun e => hc (clsT_zero.2 e))]
theorem zco.parts2 {t : ByteArray} {w w' : World} {f : Nat → Value} (h : zco t w w' f) : ∃ (x : Nat) (ao : Option Addr) (l cap : Nat), f 1361 = .int .i64 (x : Nat) ∧ (x ≠ 0 → TErr t x) ∧ (x = 0 → ∃ S c base, TGood t S c ∧ l = S.length ∧ (∀ i, i < 1362 → f i = tbF (plT t) (.slice ao l cap) c 0 i) ∧ GRow w' base 147 1268 (.slice ao l cap) S.length (rwF S) ∧ w.heap.size ≤ base) := by
 by_cases h0 : (gErr t).1 = 0
 ·obtain ⟨n, v, S, c, fl, base, h1, h2, h3, h4, h5, h6, h7⟩ := h.2.2.2 h0
  obtain ⟨ao, cap, hv⟩ : ∃ ao cap, v = .slice ao S.length cap := by
   obtain ⟨_, k2⟩ := h6
   rcases k2 with ⟨rfl, k2⟩ | ⟨g', cap', cur, rfl, _⟩
   ·exact ⟨none, 0, by rw [k2]⟩
   ·exact ⟨_, cap', rfl⟩
  subst hv
  refine ⟨fl, ao, S.length, cap, by rw [h1 1361 (by omega)]; rfl, fun hx => Or.inr ⟨h0, n, S, c, h2⟩, fun hx => ?_⟩
  subst hx
  exact ⟨S, c, base, ⟨h0, h3 rfl ▸ h2, h4, h5⟩, rfl, h1, h6, h7⟩
 ·exact ⟨(gErr t).1, none, 0, 0, (h.2.2.1 h0).1, fun _ => Or.inl ⟨h0, rfl⟩, fun hx => absurd hx h0⟩
theorem oneB_tb0 (p : Pl) (ao : Option Addr) (l cap c f : Nat) : oneB (fun i => tbF p (.slice ao l cap) c f (0 + i)) 1362 := fun i _ => oneB_tbF p ao l cap c f (0 + i + 1) (0 + i) (Nat.lt_succ_self _)
set_option maxRecDepth 100000 in
set_option maxHeartbeats 4000000 in
theorem p_readForText (t s : ByteArray) (w : World) (ht : t.size ≤ 9223372036854775807) (hsm : s.size ≤ 9223372036854775807) :
 Calls Tryz.prog 36 #[.string t, .string s] w fun e w' => ∃ f, e = .returned (Agg 1362 f) ∧ RftO t s w w' f := by
 by_cases hl : 12 < s.size
 ·have hli : (12 : Int) < s.size := by omega
  have HE := hide (errT_long (t := t) hl)
  clear hl
  go_enter Tryz.func36, Tryz.ntmps36
  go_wp2_with (first
   | (refine zab rfl 79 rfl (some 4) rfl 1362 _ Tryz.zeroTbl ?_; intro w1 hf1 hs1 hB1; have HF1 := hide hf1; have HA1 := hide hB1; clear hf1 hB1)
   | (refine zab rfl 79 rfl (some 5) rfl 1362 _ Tryz.zeroTbl ?_; intro w2 hf2 hs2 hB2; have H5 := hide (show Fr [] w w2 ∧ Blk w2 w.heap.size 1362 zTb ∧ Blk w2 (w.heap.size + 1) 1362 zTb from ⟨(zaa HF1).trans0 hf2, (zaa HA1).fr0 hf2, hs1 ▸ hB2⟩); have k6 := (zaa H5).2.2.cell 1361 (by omega); have z6 := (zaa H5).2.2.free 1361; clear hf2 hB2 HF1 HA1)
   | (refine zaf rfl 79 (.tmp 5) rfl (some 11) rfl (w.heap.size + 1) 0 1362 1362 (upd zTb 1361 (.int .i64 ((1 : Nat) : Int))) _ rfl (by exact (zaa H5).2.2.setCell 1361 _) Tryz.underlying79 rfl Tryz.sizeTbl (by omega) ?_)
   | (refine zac rfl 79 (.tmp 4) (.tmp 11) rfl w.heap.size 0 1362 1362 zTb (fun i => upd zTb 1361 (.int .i64 ((1 : Nat) : Int)) (0 + i)) rfl rfl (by exact (zaa H5).2.1.setCell_ne ⟨w.heap.size + 1, 1361, none⟩ (by simp) _) Tryz.sizeTbl (by omega) (upd_one _) ?_; intro w9 hf9 hs9 hB9))
  exact bodyPost_ret (zaj Tryz.results36 _ w.heap.size rfl 1362 1362 _ _ (hB9.congr fun i hi => zag _ _ _ i hi) Tryz.underlying79 rfl Tryz.sizeTbl (by omega)) rfl ⟨_, rfl, ((zaa H5).1.setCell ⟨w.heap.size + 1, 1361, none⟩ (Or.inr (by simp)) _).trans1 hf9 (Or.inr (Nat.le_refl _)), upd_one _, by rw [zaa HE]; rfl, fun h => by rw [zaa HE] at h; cases h⟩
 ·have hli : ¬ (12 : Int) < s.size := by omega
  have HL := hide hl
  clear hl
  go_enter Tryz.func36, Tryz.ntmps36
  go_wp2_with (first
   | (refine zab rfl 79 rfl (some 4) rfl 1362 _ Tryz.zeroTbl ?_; intro w0 hf0 hs0 hB0; have HF0 := hide hf0; have HA0 := hide hB0; clear hf0 hB0)
   | (go_at_call 71; refine (zbg t w0 ht).mono ?_; rintro e w1 ⟨f, rfl, hT⟩; obtain ⟨x, ao, l, cap, hx1, hx2, hx3⟩ := hT.parts2; have HX1 := hide hx1; have HX2 := hide hx2; have HX3 := hide hx3; have HO := hide hT.2.1; have HF1 := hide hT.1; clear hT hx1 hx2 hx3)
   | (refine zab rfl 79 rfl (some 6) rfl 1362 _ Tryz.zeroTbl ?_; intro w2 hf2 hs2 hB2; have HF2 := hide hf2; have HB2 := hide hB2; clear hf2 hB2 hs2)
   | (refine zac rfl 79 (.tmp 6) (.tmp 13) rfl w1.heap.size 0 1362 1362 zTb f rfl rfl (by exact zaa HB2) Tryz.sizeTbl (by omega) (by exact zaa HO) ?_; intro w3 hf3 hs3 hB3; have HF3 := hide hf3; have HB3 := hide hB3; have HB3f := hide (show Blk w3 w1.heap.size 1362 f from hB3.congr fun i hi => zag _ _ _ i hi); have HFw := hide (show Fr [] w w3 ∧ Blk w3 w.heap.size 1362 zTb from ⟨(((zaa HF0).trans0 (zaa HF1)).trans0 (zaa HF2)).trans1 hf3 (Or.inr (((zaa HF0).trans0 (zaa HF1)).size)), (((zaa HA0).fr0 (zaa HF1)).fr0 (zaa HF2)).fr1 hf3 (Nat.ne_of_lt (((zaa HA0).fr0 (zaa HF1)).lt))⟩); have c6 := (hB3.cell 1361 (by omega)).trans (congrArg some ((zag _ _ _ _ (by omega)).trans (zaa HX1))); clear hf3 hB3 hs3)
   | (refine zaf rfl 79 (.tmp 6) rfl (some 17) rfl w1.heap.size 0 1362 1362 f _ rfl (by exact zaa HB3f) Tryz.underlying79 rfl Tryz.sizeTbl (by omega) ?_)
   | (refine zac rfl 79 (.tmp 4) (.tmp 17) rfl w.heap.size 0 1362 1362 zTb (fun i => f (0 + i)) rfl rfl (by exact (zaa HFw).2) Tryz.sizeTbl (by omega) (fun i hi => by show (f (0 + i)).oneCell' = true; rw [Nat.zero_add]; exact zaa HO i hi) ?_; intro w9 hf9 hs9 hB9))
  ·have hff : ((x : Int) != 0) = true := by assumption
   have hx0 : x ≠ 0 := fun e => by rw [e] at hff; cases hff
   have HE := hide (show errT t s = x from errT_tab (zaa HL) (tabR_err (zaa HX2 hx0) hx0))
   exact bodyPost_ret (zaj Tryz.results36 _ w.heap.size rfl 1362 1362 _ _ (hB9.congr fun i hi => zag _ _ _ i hi) Tryz.underlying79 rfl Tryz.sizeTbl (by omega)) rfl ⟨_, rfl, (zaa HFw).1.trans1 hf9 (Or.inr (Nat.le_refl _)), (fun i hi => by show (f (0 + i)).oneCell' = true; rw [Nat.zero_add]; exact zaa HO i hi), by rw [zaa HE]; exact zaa HX1, fun h => by rw [zaa HE] at h; exact absurd h hx0⟩
  ·have hff : ((x : Int) != 0) = false := by assumption
   have hx0 : x = 0 := by
    have : (x : Int) = 0 := by simpa using hff
    omega
   obtain ⟨S, c2, base, hG, hlS, hfi, hrow, hbs⟩ := zaa HX3 hx0
   obtain ⟨M, hM⟩ := tabR_good hG
   have hgr := hide (show ∀ g, (Value.slice ao l cap).ownBlock = some g → g ≠ w.heap.size ∧ g ≠ w1.heap.size from fun g hg => by have := hrow.lt hg; omega)
   have HTB := hide (zco.lay hfi hrow (zaa HF2) (zaa HF3) (zaa HB3))
   have HGd := hide hG
   have HM := hide hM
   have HRow := hide (show GRow w3 base 147 1268 (.slice ao l cap) S.length (rwF S) from (zaa HTB).row)
   have HErr := hide (errT_good (s := s) (zaa HL) hM)
   have hS40 : S.length ≤ 50 := by have := hG.2.2.1; omega
   have HlS := hide hlS
   clear hG hM hfi hrow hlS hff hbs HX3 HX2 HX1 HF2 HF3 HB2 HB3 HB3f HO c6 hx0
   refine (p_statesClash w1.heap.size base (plT t) _ S c2 0 w3 (by exact zaa HTB) hS40).mono ?_
   rintro e w4 ⟨rfl, hf4⟩
   have H4 := hide (show Fr [] w w4 ∧ Blk w4 w.heap.size 1362 zTb ∧ Blk w4 w1.heap.size 1362 (tbF (plT t) (.slice ao l cap) c2 0) ∧ GRow w4 base 147 1268 (.slice ao l cap) S.length (rwF S) from ⟨(zaa HFw).1.trans0 hf4, (zaa HFw).2.fr0 hf4, (zaa HTB).blk.fr0 hf4, (zaa HRow).fr hf4 (by simp)⟩)
   have hne : w.heap.size < w1.heap.size := by have := (zaa HF1).size; omega
   have hs1000 : s.size ≤ 12 := by have := zaa HL; omega
   cases hcl : anyC (clK (plT t) S) S.length
   ·rw [hcl] at HErr
    clear hcl
    cases has : (bytes s).all zai
    ·rw [has] at HErr
     have HE := hide (show errT t s = 5 from zaa HErr)
     have HAS := hide has
     clear has HErr
     have k6 := (zaa H4).2.2.1.cell 1361 (by omega)
     have z6 := (zaa H4).2.2.1.free 1361
     have HT5 := hide (show Blk (w4.setCell ⟨w1.heap.size, 1361, none⟩ (.int .i64 ((5 : Nat) : Int))) w1.heap.size 1362 (tbF (plT t) (.slice ao l cap) c2 5) from ((zaa H4).2.2.1.setCell 1361 _).congr fun i hi => tbF_fault _ _ _ _ 5 i hi)
     have HR5 := hide (show Blk (w4.setCell ⟨w1.heap.size, 1361, none⟩ (.int .i64 ((5 : Nat) : Int))) w.heap.size 1362 zTb from (zaa H4).2.1.setCell_ne ⟨w1.heap.size, 1361, none⟩ (Nat.ne_of_gt hne) _)
     go_wp2_with (first
      | (go_at_call 90; refine (p_isAllSmall s w4 (by omega)).mono ?_; rintro e w' ⟨rfl, hw'⟩; rw [hw', zaa HAS])
      | (refine zaf rfl 79 (.tmp 6) rfl (some 24) rfl w1.heap.size 0 1362 1362 (tbF (plT t) (.slice ao l cap) c2 5) _ rfl (by exact zaa HT5) Tryz.underlying79 rfl Tryz.sizeTbl (by omega) ?_)
      | (refine zac rfl 79 (.tmp 4) (.tmp 24) rfl w.heap.size 0 1362 1362 zTb (fun i => tbF (plT t) (.slice ao l cap) c2 5 (0 + i)) rfl rfl (by exact zaa HR5) Tryz.sizeTbl (by omega) (oneB_tb0 _ _ _ _ _ _) ?_; intro w9 hf9 hs9 hB9))
     exact bodyPost_ret (zaj Tryz.results36 _ w.heap.size rfl 1362 1362 _ _ (hB9.congr fun i hi => zag _ _ _ i hi) Tryz.underlying79 rfl Tryz.sizeTbl (by omega)) rfl ⟨_, rfl, ((zaa H4).1.setCell ⟨w1.heap.size, 1361, none⟩ (Or.inr (Nat.le_of_lt hne)) _).trans1 hf9 (Or.inr (Nat.le_refl _)), oneB_tb0 _ _ _ _ _ _, by rw [zaa HE]; rfl, fun h => by rw [zaa HE] at h; cases h⟩
    ·rw [has] at HErr
     have HE := hide (show errT t s = 0 from zaa HErr)
     have HAS := hide has
     clear has HErr
     go_wp2_with (first
      | (go_at_call 90; refine (p_isAllSmall s w4 (by omega)).mono ?_; rintro e w' ⟨rfl, hw'⟩; rw [hw', zaa HAS])
      | (refine zaf rfl 79 (.tmp 6) rfl (some 24) rfl w1.heap.size 0 1362 1362 (tbF (plT t) (.slice ao l cap) c2 0) _ rfl (by exact (zaa H4).2.2.1) Tryz.underlying79 rfl Tryz.sizeTbl (by omega) ?_)
      | (refine zac rfl 79 (.tmp 4) (.tmp 24) rfl w.heap.size 0 1362 1362 zTb (fun i => tbF (plT t) (.slice ao l cap) c2 0 (0 + i)) rfl rfl (by exact (zaa H4).2.1) Tryz.sizeTbl (by omega) (oneB_tb0 _ _ _ _ _ _) ?_; intro w9 hf9 hs9 hB9))
     exact bodyPost_ret (zaj Tryz.results36 _ w.heap.size rfl 1362 1362 _ _ (hB9.congr fun i hi => zag _ _ _ i hi) Tryz.underlying79 rfl Tryz.sizeTbl (by omega)) rfl ⟨_, rfl, (zaa H4).1.trans1 hf9 (Or.inr (Nat.le_refl _)), oneB_tb0 _ _ _ _ _ _, by rw [zaa HE]; rfl, fun _ => ⟨S, c2, M, base, ao, l, cap, zaa HGd, zaa HM, zaa HlS, fun i _ => congrArg _ (Nat.zero_add i), (zaa H4).2.2.2.fr hf9 (fun g hg => by have := (zaa hgr g hg).1; simpa using this)⟩⟩
   ·rw [hcl] at HErr
    have HE := hide (show errT t s = 8 from zaa HErr)
    clear hcl HErr
    have k6 := (zaa H4).2.2.1.cell 1361 (by omega)
    have z6 := (zaa H4).2.2.1.free 1361
    have HT5 := hide (show Blk (w4.setCell ⟨w1.heap.size, 1361, none⟩ (.int .i64 ((8 : Nat) : Int))) w1.heap.size 1362 (tbF (plT t) (.slice ao l cap) c2 8) from ((zaa H4).2.2.1.setCell 1361 _).congr fun i hi => tbF_fault _ _ _ _ 8 i hi)
    have HR5 := hide (show Blk (w4.setCell ⟨w1.heap.size, 1361, none⟩ (.int .i64 ((8 : Nat) : Int))) w.heap.size 1362 zTb from (zaa H4).2.1.setCell_ne ⟨w1.heap.size, 1361, none⟩ (Nat.ne_of_gt hne) _)
    go_wp2_with (first
     | (refine zaf rfl 79 (.tmp 6) rfl (some 24) rfl w1.heap.size 0 1362 1362 (tbF (plT t) (.slice ao l cap) c2 8) _ rfl (by exact zaa HT5) Tryz.underlying79 rfl Tryz.sizeTbl (by omega) ?_)
     | (refine zac rfl 79 (.tmp 4) (.tmp 24) rfl w.heap.size 0 1362 1362 zTb (fun i => tbF (plT t) (.slice ao l cap) c2 8 (0 + i)) rfl rfl (by exact zaa HR5) Tryz.sizeTbl (by omega) (oneB_tb0 _ _ _ _ _ _) ?_; intro w9 hf9 hs9 hB9))
    exact bodyPost_ret (zaj Tryz.results36 _ w.heap.size rfl 1362 1362 _ _ (hB9.congr fun i hi => zag _ _ _ i hi) Tryz.underlying79 rfl Tryz.sizeTbl (by omega)) rfl ⟨_, rfl, ((zaa H4).1.setCell ⟨w1.heap.size, 1361, none⟩ (Or.inr (Nat.le_of_lt hne)) _).trans1 hf9 (Or.inr (Nat.le_refl _)), oneB_tb0 _ _ _ _ _ _, by rw [zaa HE]; rfl, fun h => by rw [zaa HE] at h; cases h⟩
end Go.Proofs.YtkglggkkbmmjkabGreatDoor
namespace Go.Proofs.YtkglggkkbmmjkabGreatDoor
open Go.RowKit
def TextO (t s : ByteArray) (w : World) (e : Ending) (w' : World) : Prop :=
 Fr [] w w' ∧ (errT t s ≠ 0 → e = .returned (.tuple #[.slice none 0 0, .int .i64 (errT t s : Nat)])) ∧
 (errT t s = 0 → ∃ q cap, e = .returned (.tuple #[.slice (some ⟨q, 3, none⟩) (zad t 8 0 []).1.length cap, .int .i64 0]) ∧ RuO w' q 3 (zad t 8 0 []).1 ∧ q < w'.heap.size)
theorem TextO.bad {t s : ByteArray} {w w' : World} {x : Nat} (h : Fr [] w w') (he : errT t s = x) (hx : x ≠ 0) : TextO t s w (.returned (.tuple #[.slice none 0 0, .int .i64 (x : Nat)])) w' :=
 ⟨h, fun _ => by rw [he], fun e => absurd (he.symm.trans e) hx⟩
theorem errT_cl {t s : ByteArray} (h : ¬ 12 < s.size) {r : Tb} (hr : tabR t = .inr r) : errT t s = if clsT (rul (zad t 8 0 []).1) r = 0 then 8 else if (bytes s).all zai then 0 else 5 := by
 unfold errT
 rw [if_neg h, hr]
theorem ruO_of {w : World} {q : Nat} {rs : List Ru} (h : RuAt w q (rul rs)) : RuO w q 3 rs := fun i hi => by
 have hl : i + 1 < (rul rs).length := by unfold rul; simp; omega
 have := h (i + 1) hl
 have e : (rul rs)[i + 1] = rs[i] := rfl
 rw [e, show (i + 1) * 3 = 3 + i * 3 from by omega] at this
 exact this
theorem parse_some {t : ByteArray} {r : Tb} (h : tabR t = .inr r) : 1 ≤ (zad t 8 0 []).1.length := by
 have := (tabR_len h).1
 exact (zaw t 8 0 [] (by simp)).2.2 (gErr_zero this).2
set_option maxRecDepth 100000 in
set_option maxHeartbeats 4000000 in
theorem r_text (t s : ByteArray) (w : World) (ht : t.size ≤ 9223372036854775807) (hsm : s.size ≤ 9223372036854775807) :
 Calls Tryz.prog 41 #[.string t, .string s] w fun e w' => TextO t s w e w' := by
 by_cases hl : 12 < s.size
 ·have hli : (12 : Int) < s.size := by omega
  have HE := hide (errT_long (t := t) hl)
  clear hl
  go_enter Tryz.func41, Tryz.ntmps41
  go_wp2
  go_ret2
  exact TextO.bad (x := 1) (Fr.refl [] w) (zaa HE) (by omega)
 ·have hli : ¬ (12 : Int) < s.size := by omega
  have HL := hide hl
  cases htab : tabR t with
  | inl x =>
   have HT := hide htab
   have HE := hide (errT_tab hl htab)
   clear htab hl
   go_enter Tryz.func41, Tryz.ntmps41
   go_wp2_with (go_at_call 72; refine (za7 t w ht).mono ?_; rintro e w1 ⟨hf, h1, _⟩; obtain ⟨rfl, hx⟩ := h1 x (zaa HT); have hxb : ((x : Int) != 0) = true := (by rw [bne_iff_ne]; omega); have HF := hide hf; have HX := hide hx; clear hf h1 hx)
   go_ret2
   exact TextO.bad (zaa HF) (zaa HE) (zaa HX)
  | inr r =>
   have HT := hide htab
   have HE := hide (errT_cl hl htab)
   obtain ⟨z, hz⟩ : ∃ z, clsT (rul (zad t 8 0 []).1) r = z := ⟨_, rfl⟩
   rw [hz] at HE
   have HZ := hide hz
   clear htab hl hz
   by_cases hz0 : z = 0
   ·have hzb : ((z : Int) == 0) = true := by rw [beq_iff_eq]; omega
    have HE2 := hide (show errT t s = 8 from by rw [zaa HE, if_pos hz0])
    clear HE hz0
    go_enter Tryz.func41, Tryz.ntmps41
    go_wp2_with (first
     | (go_at_call 72; refine (za7 t w ht).mono ?_; rintro e w1 ⟨hf, _, h2⟩; obtain ⟨mb, q, cq, fq, Bs, T, gS, cS, ls, gT, cT, ms, rfl, hv⟩ := h2 r (zaa HT); have HV := hide hv; have HF := hide hf; clear hf h2 hv)
     | (go_at_call 88; refine (r_class w1 (zaa HV)).mono ?_; rintro e w2 ⟨rfl, hf2⟩; rw [zaa HZ]; have HF2 := hide ((zaa HF).trans0 hf2); clear hf2))
    go_ret2
    exact TextO.bad (x := 8) (zaa HF2) (zaa HE2) (by omega)
   ·have hzb : ((z : Int) == 0) = false := by rw [beq_eq_false_iff_ne]; omega
    have HE2 := hide (show errT t s = if (bytes s).all zai then 0 else 5 from by rw [zaa HE, if_neg hz0])
    clear HE hz0
    go_enter Tryz.func41, Tryz.ntmps41
    go_wp2_with (first
     | (go_at_call 72; refine (za7 t w ht).mono ?_; rintro e w1 ⟨hf, _, h2⟩; obtain ⟨mb, q, cq, fq, Bs, T, gS, cS, ls, gT, cT, ms, rfl, hv⟩ := h2 r (zaa HT); have HV := hide hv; have HF := hide hf; clear hf h2 hv)
     | (go_at_call 88; refine (r_class w1 (zaa HV)).mono ?_; rintro e w2 ⟨rfl, hf2⟩; rw [zaa HZ]; have HF2 := hide ((zaa HF).trans0 hf2); have HT2 := hide ((zaa HV).rt.tb.fr0 hf2); have hcp := (zaa HV).rt.cp; clear hf2))
    go_loop [8] (fun nv => ∃ n : Nat, n ≤ s.size ∧ nv = .int .i64 n ∧ Hid ((bytes s).all zai = ((bytes s).drop n).all zai)) (fun nv => s.size - (intOf nv).toNat)
    case atStart => exact ⟨0, by omega, rfl, by simp [Hid]⟩
    case round =>
     obtain ⟨n, hn, rfl, hI⟩ := hrel
     by_cases hlt : n < s.size
     ·have hcc : ((s[n]'hlt).toNat : Int) = ((ch s n : Nat) : Int) := by rw [za8 s n hlt]
      obtain ⟨a, hch⟩ : ∃ a, ch s n = a := ⟨_, rfl⟩
      rw [hch] at hcc
      have hdr : (bytes s).drop n = a :: (bytes s).drop (n + 1) := by
       have hl : n < (bytes s).length := by rw [zah]; exact hlt
       rw [List.drop_eq_getElem_cons hl, za5, hch]
      have HN := hide (show (bytes s).all zai = (zai a && ((bytes s).drop (n + 1)).all zai) from by rw [zaa hI, hdr, List.all_cons])
      have hli2 : (n : Int) < s.size := by omega
      clear hdr hch hI
      cases hv : zai a
      ·have HR := hide (show errT t s = 5 from by rw [zaa HE2, zaa HN, hv]; rfl)
       go_wp2_with (go_at_call 46; refine (zaq a false w2 hv).mono ?_; rintro e w' ⟨rfl, hw'⟩; rw [hw'])
       go_ret2
       exact TextO.bad (x := 5) (zaa HF2) (zaa HR) (by omega)
      ·have HR := hide (show (bytes s).all zai = ((bytes s).drop (n + 1)).all zai from by rw [zaa HN, hv]; rfl)
       go_wp2_with (go_at_call 46; refine (zaq a true w2 hv).mono ?_; rintro e w' ⟨rfl, hw'⟩; rw [hw'])
       go_round
       case rel => exact ⟨n + 1, by omega, by go_num, HR⟩
       case measure => simp [intOf]; omega
     ·have HR := hide (show errT t s = 0 from by
       rw [zaa HE2, zaa hI, List.drop_eq_nil_of_le (by rw [zah]; omega)]; rfl)
      have hli2 : ¬ (n : Int) < s.size := by omega
      have c0 := (zaa HT2).cL
      rw [show (rul (zad t 8 0 []).1).length = (zad t 8 0 []).1.length + 1 from rfl] at c0
      obtain ⟨m, hm⟩ : ∃ m, (zad t 8 0 []).1.length = m := ⟨_, rfl⟩
      rw [hm] at c0
      rw [show (rul (zad t 8 0 []).1).length = (zad t 8 0 []).1.length + 1 from rfl, hm] at hcp
      have hm1 : 1 ≤ m := by rw [← hm]; exact parse_some (zaa HT)
      have hcq : ¬ cq = 1 := by omega
      have hcq1 : (1 : Int) ≤ cq := by omega
      have HM := hide hm
      have hm8 : m ≤ 8 := by have := (zaa HT2).len; rw [show (rul (zad t 8 0 []).1).length = (zad t 8 0 []).1.length + 1 from rfl] at this; omega
      clear hm
      go_wp2
      go_ret2
      exact ⟨zaa HF2, fun e => absurd (zaa HR) e, fun _ => ⟨q, cq - 1, by rw [zaa HM]; rfl, ruO_of (zaa HT2).ru, (zaa HT2).lt⟩⟩
end Go.Proofs.YtkglggkkbmmjkabGreatDoor
