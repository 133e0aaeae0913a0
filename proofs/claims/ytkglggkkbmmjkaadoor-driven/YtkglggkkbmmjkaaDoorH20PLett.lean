import Derived.Test.YtkglggkkbmmjkaaDoorH19PMath
namespace Go.Proofs.YtkglggkkbmmjkaaDoor
open Go.RowKit

theorem Tryd.zeroSpot : (Tryd.prog.info? 50).bind (·.zero) = some (Agg 30 (spF ⟨fun _ => 0, fun _ _ => 0, fun _ _ => false, fun _ _ _ => false, fun _ _ => false⟩ 0 0)) := by kernel_rfl
theorem Tryd.sizeSpot : (Tryd.prog.info? 50).map (·.size) = some 30 := by kernel_rfl

/-- spread's state -/
def SpS (w wr : World) (pb sb : Nat) (p : Pl) (B : Nat → Bool) : Prop := Fr [sb] w wr ∧ Blk wr sb 1215 (boolF B) ∧ PlAt wr pb p ∧ pb < w.heap.size ∧ sb < w.heap.size
theorem SpS.fr0 {w wr w' : World} {pb sb : Nat} {p : Pl} {B : Nat → Bool} (h : SpS w wr pb sb p B) (k : Fr [] wr w') : SpS w w' pb sb p B :=
  ⟨h.1.trans0 k, h.2.1.fr0 k, h.2.2.1.fr k (by simp) (Nat.lt_of_lt_of_le h.2.2.2.1 h.1.size), h.2.2.2⟩
theorem SpS.far {w wr w' : World} {pb sb x : Nat} {p : Pl} {B : Nat → Bool} (h : SpS w wr pb sb p B) (k : Fr [x] wr w') (hx : w.heap.size ≤ x) : SpS w w' pb sb p B :=
  ⟨h.1.trans1 k (Or.inr hx), h.2.1.fr1 k (by have := h.2.2.2.2; omega), h.2.2.1.fr k (by have := h.2.2.2.1; simp; omega) (Nat.lt_of_lt_of_le h.2.2.2.1 h.1.size), h.2.2.2⟩

set_option maxRecDepth 100000 in
set_option maxHeartbeats 1600000 in
/-- plan.spread -/
theorem p_spread (pb sb : Nat) (p : Pl) (A : Nat → Bool) (w : World) (hP : PlAt w pb p) (hB : Blk w sb 1215 (boolF A)) (hpl : pb < w.heap.size) (hne : pb ≠ sb) :
    Calls Tryd.prog 84 #[.pointer (some ⟨pb, 0, none⟩), .pointer (some ⟨sb, 0, none⟩)] w fun e w' => e = .returned (.tuple #[]) ∧ Fr [sb] w w' ∧ ∃ B, Blk w' sb 1215 (boolF B) ∧ SpM p A B 45 := by
  have HS := hide (show SpS w w pb sb p A from ⟨Fr.refl _ _, hB, hP, hpl, hB.lt⟩)
  have lb := hB.lt
  clear hB hP
  go_enter Tryd.func84, Tryd.ntmps84
  go_wp2
  go_loopw [4] (fun i wr => ∃ n : Nat, n ≤ 9 ∧ i = .int .i64 n ∧ ∃ B, Hid (SpS w wr pb sb p B ∧ SpM p A B (n * 5))) (fun i _ => 9 - (intOf i).toNat)
  case atStart => exact ⟨0, by omega, rfl, A, hide ⟨unhide HS, SpM.start p A⟩⟩
  case round =>
    obtain ⟨n, hn, rfl, B0, hs⟩ := hrel
    clear HS
    by_cases hlt : n < 9
    · have hn9 : (n : Int) < 9 := by omega
      go_wp2
      go_loopw [5] (fun i wr => ∃ t : Nat, t ≤ 5 ∧ i = .int .i64 t ∧ ∃ B, Hid (SpS w wr pb sb p B ∧ SpM p A B (n * 5 + t))) (fun i _ => 5 - (intOf i).toNat)
      case atStart => exact ⟨0, by omega, rfl, B0, hs⟩
      case round =>
        clear hs B0
        obtain ⟨t, ht, rfl, B, hs⟩ := hrel
        by_cases htt : t < 5
        · have HPS := hide ((unhide hs).1.2.2.1.spot n t hlt htt)
          cases hbig : bigB (p.lt n t)
          · have HN := hide ((unhide hs).2.skip htt (Or.inl hbig))
            go_wp2_with (first
              | (refine wpList_load_cs rfl 50 (.tmp 22) rfl (some 23) rfl pb (9 + n * 150 + t * 30) 30 (spF p n t) _ rfl (by exact unhide HPS) Tryd.underlying50 rfl Tryd.sizeSpot ?_)
              | (refine wpList_alloc_blk rfl 50 rfl (some 6) rfl 30 _ Tryd.zeroSpot ?_; intro w3 hf3 hs3 hB3; have H3 := hide ((unhide hs).1.fr0 hf3); have HA := hide hB3; clear hf3 hB3)
              | (refine wpList_store_blk rfl 50 (.tmp 6) (.tmp 23) rfl wr.heap.size 0 30 30 _ (spF p n t) rfl rfl (by exact unhide HA) Tryd.sizeSpot (by omega) (oneB_spF p n t 30) ?_; intro w4 hf4 hs4 hB4; have H4 := hide ((unhide H3).far hf4 (unhide hs).1.1.size); have HA4 := hide (show Blk w4 wr.heap.size 30 (spF p n t) from hB4.congr fun i hi => lay_all _ _ _ i hi); have c0 : w4.cell? ⟨wr.heap.size, 0, none⟩ = some (.int .u8 (p.lt n t : Nat)) := ((unhide HA4).cell 0 (by omega)); clear hf4 hB4 HPS H3 HA)
              | (go_at_call 44; refine (p_isBig_is _ false _ (by exact hbig)).mono ?_; rintro e w' ⟨rfl, rfl⟩))
            go_roundw
            case rel => exact ⟨t + 1, by omega, by go_num, B, hide ⟨unhide H4, unhide HN⟩⟩
            case measure => simp [intOf]; omega
          · cases hemp : empB (fun k => B (n * 135 + t * 27 + k))
            · have HN := hide ((unhide hs).2.opened hlt htt hbig hemp)
              go_wp2_with (first
                | (refine wpList_load_cs rfl 50 (.tmp 22) rfl (some 23) rfl pb (9 + n * 150 + t * 30) 30 (spF p n t) _ rfl (by exact unhide HPS) Tryd.underlying50 rfl Tryd.sizeSpot ?_)
                | (refine wpList_alloc_blk rfl 50 rfl (some 6) rfl 30 _ Tryd.zeroSpot ?_; intro w3 hf3 hs3 hB3; have H3 := hide ((unhide hs).1.fr0 hf3); have HA := hide hB3; clear hf3 hB3)
                | (refine wpList_store_blk rfl 50 (.tmp 6) (.tmp 23) rfl wr.heap.size 0 30 30 _ (spF p n t) rfl rfl (by exact unhide HA) Tryd.sizeSpot (by omega) (oneB_spF p n t 30) ?_; intro w4 hf4 hs4 hB4; have H4 := hide ((unhide H3).far hf4 (unhide hs).1.1.size); have HA4 := hide (show Blk w4 wr.heap.size 30 (spF p n t) from hB4.congr fun i hi => lay_all _ _ _ i hi); have c0 : w4.cell? ⟨wr.heap.size, 0, none⟩ = some (.int .u8 (p.lt n t : Nat)) := ((unhide HA4).cell 0 (by omega)); clear hf4 hB4 HPS H3 HA)
                | (go_at_call 44; refine (p_isBig_is _ true _ (by exact hbig)).mono ?_; rintro e w' ⟨rfl, rfl⟩)
                | (go_at_call 86; refine (p_isEmpty sb (n * 135 + t * 27) (fun k => B (n * 135 + t * 27 + k)) _ ((unhide H4).2.1.cs (n * 135 + t * 27) 27 (by omega)) (Nat.lt_of_lt_of_le lb (unhide H4).1.size)).mono ?_; rintro e w5 ⟨rfl, hf5⟩; rw [hemp]; have H5 := hide ((unhide H4).fr0 hf5); have HA5 := hide ((unhide HA4).fr0 hf5); clear hf5)
                | (refine wpList_load_cs rfl 48 (.tmp 44) rfl (some 45) rfl sb (n * 135 + t * 27) 27 (boolF fun k => B (n * 135 + t * 27 + k)) _ rfl (by exact (unhide H5).2.1.cs (n * 135 + t * 27) 27 (by omega)) Tryd.underlying48 rfl Tryd.sizeSign ?_)
                | (go_at_call 92; refine (p_behind wr.heap.size p n t (fun k => B (n * 135 + t * 27 + k)) _ (by exact unhide HA5)).mono ?_; rintro e w6 ⟨rfl, hf6⟩; have H6 := hide ((unhide H5).fr0 hf6); have HA6 := hide ((unhide HA5).fr0 hf6); clear hf6)
                | (refine wpList_alloc_blk rfl 48 rfl (some 7) rfl 27 _ Tryd.zeroSign ?_; intro w7 hf7 hs7 hB7; have H7 := hide ((unhide H6).fr0 hf7); have HA7 := hide ((unhide HA6).fr0 hf7); have HS7 := hide hB7; clear hf7 hB7)
                | (refine wpList_store_blk rfl 48 (.tmp 7) (.tmp 46) rfl w6.heap.size 0 27 27 _ (boolF fun i => p.bg n t i || (p.nl n t && B (n * 135 + t * 27 + i))) rfl rfl (by exact unhide HS7) Tryd.sizeSign (by omega) (fun _ _ => rfl) ?_; intro w8 hf8 hs8 hB8; have H8 := hide ((unhide H7).far hf8 (unhide H6).1.size); have HA8 := hide ((unhide HA7).fr1 hf8 (Nat.ne_of_lt (unhide HA6).lt)); have c1 : w8.cell? ⟨wr.heap.size, 0, none⟩ = some (.int .u8 (p.lt n t : Nat)) := ((unhide HA8).cell 0 (by omega)); have HS8 := hide (show Blk w8 w6.heap.size 27 (boolF fun i => p.bg n t i || (p.nl n t && B (n * 135 + t * 27 + i))) from hB8.congr fun i hi => lay_all _ _ _ i hi); clear hf8 hB8 H7 HA7 HS7 HA6 H6 H5 HA5)
                | (refine wpList_load_blk rfl 48 (.tmp 7) rfl (some 51) rfl w6.heap.size 0 27 27 (boolF fun i => p.bg n t i || (p.nl n t && B (n * 135 + t * 27 + i))) _ rfl (by exact unhide HS8) Tryd.underlying48 rfl Tryd.sizeSign (by omega) ?_)
                | (go_at_call 93; refine (p_open pb sb (p.lt n t) p B (fun i => p.bg n t (0 + i) || (p.nl n t && B (n * 135 + t * 27 + (0 + i)))) _ (by exact (unhide H8).2.2.1) (by exact (unhide H8).2.1) (Nat.lt_of_lt_of_le hpl (unhide H8).1.size) hne).mono ?_; rintro e w9 ⟨rfl, hf9, hB9⟩; have H9 := hide (show SpS w w9 pb sb p (fun i => B i || opI p (p.lt n t) (fun k => p.bg n t k || (p.nl n t && B (n * 135 + t * 27 + k))) 9 i) from ⟨(unhide H8).1.trans hf9 (by simp), hB9.congr fun i _ => by (simp only [Nat.zero_add]), (unhide H8).2.2.1.fr hf9 (by simpa using hne) (Nat.lt_of_lt_of_le hpl (unhide H8).1.size), hpl, lb⟩); clear hf9 hB9))
              go_roundw
              case rel => exact ⟨t + 1, by omega, by go_num, _, hide ⟨unhide H9, unhide HN⟩⟩
              case measure => simp [intOf]; omega
            · have HN := hide ((unhide hs).2.skip htt (Or.inr hemp))
              have HCs := hide (show CsAt wr sb (n * 135 + t * 27) 27 (boolF fun k => B (n * 135 + t * 27 + k)) from (unhide hs).1.2.1.cs (n * 135 + t * 27) 27 (by omega))
              go_wp2_with (first
                | (refine wpList_load_cs rfl 50 (.tmp 22) rfl (some 23) rfl pb (9 + n * 150 + t * 30) 30 (spF p n t) _ rfl (by exact unhide HPS) Tryd.underlying50 rfl Tryd.sizeSpot ?_)
                | (refine wpList_alloc_blk rfl 50 rfl (some 6) rfl 30 _ Tryd.zeroSpot ?_; intro w3 hf3 hs3 hB3; have H3 := hide ((unhide hs).1.fr0 hf3); have HA := hide hB3; clear hf3 hB3)
                | (refine wpList_store_blk rfl 50 (.tmp 6) (.tmp 23) rfl wr.heap.size 0 30 30 _ (spF p n t) rfl rfl (by exact unhide HA) Tryd.sizeSpot (by omega) (oneB_spF p n t 30) ?_; intro w4 hf4 hs4 hB4; have H4 := hide ((unhide H3).far hf4 (unhide hs).1.1.size); have HA4 := hide (show Blk w4 wr.heap.size 30 (spF p n t) from hB4.congr fun i hi => lay_all _ _ _ i hi); have c0 : w4.cell? ⟨wr.heap.size, 0, none⟩ = some (.int .u8 (p.lt n t : Nat)) := ((unhide HA4).cell 0 (by omega)); clear hf4 hB4 HPS H3 HA)
                | (go_at_call 44; refine (p_isBig_is _ true _ (by exact hbig)).mono ?_; rintro e w' ⟨rfl, rfl⟩)
                | (go_at_call 86; refine (p_isEmpty sb (n * 135 + t * 27) (fun k => B (n * 135 + t * 27 + k)) _ ((unhide H4).2.1.cs (n * 135 + t * 27) 27 (by omega)) (Nat.lt_of_lt_of_le lb (unhide H4).1.size)).mono ?_; rintro e w5 ⟨rfl, hf5⟩; rw [hemp]; have H5 := hide ((unhide H4).fr0 hf5); clear hf5))
              go_roundw
              case rel => exact ⟨t + 1, by omega, by go_num, B, hide ⟨unhide H5, unhide HN⟩⟩
              case measure => simp [intOf]; omega
        · have HN := hide (show SpS w wr pb sb p B ∧ SpM p A B ((n + 1) * 5) from by
            have e : t = 5 := by omega
            subst e; rw [Nat.add_mul]; exact unhide hs)
          clear hs
          go_wp2
          go_roundw
          case rel => exact ⟨n + 1, by omega, by go_num, B, HN⟩
          case measure => simp [intOf]; omega
    · have HN := hide (show Fr [sb] w wr ∧ Blk wr sb 1215 (boolF B0) ∧ SpM p A B0 45 from by
        have e : n = 9 := by omega
        subst e; exact ⟨(unhide hs).1.1, (unhide hs).1.2.1, (unhide hs).2⟩)
      clear hs
      go_wp2
      go_end0
      exact ⟨rfl, (unhide HN).1, B0, (unhide HN).2⟩
end Go.Proofs.YtkglggkkbmmjkaaDoor

namespace Go.Proofs.YtkglggkkbmmjkaaDoor
open Go.RowKit

theorem Tryd.zeroItems : (Tryd.prog.info? 99).bind (·.zero) = some (Agg 1215 (boolF fun _ => false)) := by kernel_rfl
theorem Tryd.sizeItems : (Tryd.prog.info? 99).map (·.size) = some 1215 := by kernel_rfl
theorem Tryd.eqItems : EqT Tryd.prog 10000 99 1215 :=
  eqT_struct (E := 97) (eqT_array (len := 9) (m := 135) (eqT_array (len := 5) (m := 27) (E := 48)
    (eqT_struct (E := 46) (eqT_array (len := 27) (eqT_bool 9994 4 Tryd.underlying4 (by kernel_rfl)) Tryd.underlying46 (by kernel_rfl)) Tryd.underlying48 rfl rfl rfl (by kernel_rfl) (by kernel_rfl))
    Tryd.underlying96 (by kernel_rfl)) Tryd.underlying97 (by kernel_rfl)) Tryd.underlying99 rfl rfl rfl (by kernel_rfl) (by kernel_rfl)

set_option maxRecDepth 100000 in
set_option maxHeartbeats 1600000 in
/-- plan.fill -/
theorem p_fill (pb sb : Nat) (p : Pl) (A : Nat → Bool) (w : World) (hP : PlAt w pb p) (hB : Blk w sb 1215 (boolF A)) (hpl : pb < w.heap.size) (hne : pb ≠ sb) :
    Calls Tryd.prog 74 #[.pointer (some ⟨pb, 0, none⟩), .pointer (some ⟨sb, 0, none⟩)] w fun e w' => e = .returned (.tuple #[]) ∧ Fr [sb] w w' ∧ ∃ B, Blk w' sb 1215 (boolF B) ∧ FuI p A B := by
  have HS := hide (show SpS w w pb sb p A from ⟨Fr.refl _ _, hB, hP, hpl, hB.lt⟩)
  have lb := hB.lt
  clear hB hP
  go_enter Tryd.func74, Tryd.ntmps74
  go_wp2
  go_loopw [4] (fun i wr => ∃ k : Nat, k ≤ 1216 ∧ i = .int .i64 k ∧ ∃ B, Hid (SpS w wr pb sb p B ∧ FiM p A B ∧ k ≤ cntI B)) (fun i _ => 1216 - (intOf i).toNat)
  case atStart => exact ⟨0, by omega, rfl, A, hide ⟨unhide HS, ⟨fun _ h => h, fun j hj h S h1 _ => h1 j hj h⟩, Nat.zero_le _⟩⟩
  case round =>
    obtain ⟨k, hk, rfl, B, hs⟩ := hrel
    clear HS
    have hcn : k ≤ 1215 := Nat.le_trans (unhide hs).2.2 (cntI_le B)
    go_wp2_with (first
      | (refine wpList_load_cs rfl 99 (.tmp 11) rfl (some 12) rfl sb 0 1215 (boolF B) _ rfl (by exact fun i hi => (by rw [Nat.zero_add]; exact (unhide hs).1.2.1.cell i hi)) Tryd.underlying99 rfl Tryd.sizeItems ?_)
      | (refine wpList_alloc_blk rfl 99 rfl (some 5) rfl 1215 _ Tryd.zeroItems ?_; intro w3 hf3 hs3 hB3; have H3 := hide ((unhide hs).1.fr0 hf3); have HA := hide hB3; clear hf3 hB3)
      | (refine wpList_store_blk rfl 99 (.tmp 5) (.tmp 12) rfl wr.heap.size 0 1215 1215 _ (boolF B) rfl rfl (by exact unhide HA) Tryd.sizeItems (by omega) (fun _ _ => rfl) ?_; intro w4 hf4 hs4 hB4; have H4 := hide ((unhide H3).far hf4 (unhide hs).1.1.size); have HA4 := hide (show Blk w4 wr.heap.size 1215 (boolF B) from hB4.congr fun i hi => lay_all _ _ _ i hi); clear hf4 hB4 H3 HA)
      | (go_at_call 84; refine (p_spread pb sb p B _ (by exact (unhide H4).2.2.1) (by exact (unhide H4).2.1) (Nat.lt_of_lt_of_le hpl (unhide H4).1.size) hne).mono ?_; rintro e w5 ⟨rfl, hf5, C, hC5, hM5⟩; have H5 := hide (show SpS w w5 pb sb p C from ⟨(unhide H4).1.trans hf5 (by simp), hC5, (unhide H4).2.2.1.fr hf5 (by simpa using hne) (Nat.lt_of_lt_of_le hpl (unhide H4).1.size), hpl, lb⟩); have HA5 := hide ((unhide HA4).fr1 hf5 (by have := (unhide hs).1.1.size; omega)); have HM5 := hide hM5; clear hf5 hC5 hM5))
    have lr := (unhide hs).1.1.size
    refine wp_region_held_drew (S := fun w' => CsAt w' sb 0 1215 (boolF C) ∧ CsAt w' wr.heap.size 0 1215 (boolF B)) (by kernel_rfl) ⟨fun i hi => (by rw [Nat.zero_add]; exact (unhide H5).2.1.drew.cell i hi), fun i hi => (by rw [Nat.zero_add]; exact (unhide HA5).drew.cell i hi)⟩ (fun hHeld => ?_)
    refine wpAnyH_take (i := 0) (v := .pointer (some ⟨sb, 0, none⟩)) rfl (by kernel_rfl) (by kernel_rfl) (by kernel_rfl) (fun _ _ _ h => h) (Or.inl ⟨by rfl, fun _ _ => rfl⟩) hHeld ?_
    refine wpAnyH_take (i := 1) (v := .pointer (some ⟨sb, 0, none⟩)) rfl (by kernel_rfl) (by kernel_rfl) (by kernel_rfl) (fun _ _ _ h => h) (Or.inl ⟨by rfl, fun _ _ => rfl⟩) hHeld ?_
    refine wpAnyH_take (i := 2) rfl (by kernel_rfl) (by kernel_rfl) (by kernel_rfl) (fun _ _ _ h => h) (yieldsIf_load_cs (by rfl) 99 (.tmp 17) rfl sb 0 1215 (boolF C) _ rfl (fun _ h => h.1) Tryd.underlying99 rfl Tryd.sizeItems) hHeld ?_
    refine wpAnyH_take (i := 3) rfl (by kernel_rfl) (by kernel_rfl) (by kernel_rfl) (fun _ _ _ h => h) (yieldsIf_load_cs (by rfl) 99 (.tmp 5) rfl wr.heap.size 0 1215 (boolF B) _ rfl (fun _ h => h.2) Tryd.underlying99 rfl Tryd.sizeItems) hHeld ?_
    refine wpAnyH_take (i := 4) rfl (by kernel_rfl) (by kernel_rfl) (by kernel_rfl) (fun _ _ _ h => h) (yieldsIf_eql (by rfl) 99 99 (.tmp 18) (.tmp 19) rfl 1215 C B _ rfl rfl Tryd.eqItems Tryd.underlying99 rfl (by kernel_rfl)) hHeld ?_
    refine wpAnyH_done (by kernel_rfl) ?_ _
    clear hHeld
    cases he : allB 1215 C B
    · have HN := hide (show SpS w w5.drew pb sb p C ∧ FiM p A C ∧ k + 1 ≤ cntI C from ⟨(unhide H5).fr0 (Fr.refl _ _).drew, (unhide hs).2.1.round (unhide HM5), Nat.le_trans (by have := (unhide hs).2.2; omega) (cntI_lt (unhide HM5).mono he)⟩)
      clear hs H5 HM5 H4 HA4 HA5
      go_wp2
      go_roundw
      case rel => exact ⟨k + 1, by omega, by go_num, C, HN⟩
      case measure => simp [intOf]; omega
    · have HN := hide ((unhide hs).2.1.full (unhide HM5) he)
      go_wp2
      exact bodyPost_ret (v := .tuple #[]) (results_none Tryd.results74 _ _ _) rfl ⟨rfl, (unhide H5).1.drew, C, (unhide H5).2.1.drew, unhide HN⟩
end Go.Proofs.YtkglggkkbmmjkaaDoor

namespace Go.Proofs.YtkglggkkbmmjkaaDoor
open Go.RowKit

def ltr (k : Nat) : Nat := if k < 26 then 65 + k else 71 + k
def ltI (c : Nat) : Nat := if c ≤ 90 then c - 65 else c - 71
theorem letB_iff {c : Nat} : letB c = true ↔ (65 ≤ c ∧ c ≤ 90) ∨ (97 ≤ c ∧ c ≤ 122) := by simp [letB, bigB, smallB]
theorem ltI_lt {c : Nat} (h : letB c = true) : ltI c < 52 := by
  have := letB_iff.1 h
  unfold ltI; split <;> omega
theorem ltr_ltI {c : Nat} (h : letB c = true) : ltr (ltI c) = c := by
  have := letB_iff.1 h
  unfold ltI ltr
  by_cases e : c ≤ 90
  · rw [if_pos e, if_pos (by omega)]; omega
  · rw [if_neg e, if_neg (by omega)]; omega
theorem ltI_ltr (k : Nat) : ltI (ltr k) = k := by
  unfold ltI ltr
  by_cases e : k < 26
  · rw [if_pos e, if_pos (by omega)]; omega
  · rw [if_neg e, if_neg (by omega)]; omega
theorem letB_ltr {k : Nat} (h : k < 52) : letB (ltr k) = true := by
  rw [letB_iff]; unfold ltr
  split <;> omega

set_option maxHeartbeats 400000 in
theorem p_letterAt (k : Nat) (w : World) (hk : k < 52) :
    Calls Tryd.prog 78 #[.int .i64 k] w fun e w' => e = .returned (.int .u8 (ltr k : Nat)) ∧ w' = w := by
  by_cases e : k < 26
  · have HC := hide (show ltr k = 65 + k from if_pos e)
    go_enter Tryd.func78, Tryd.ntmps78
    go_wp2
    go_ret
    exact ⟨ret_int (by rw [unhide HC]; omega), rfl⟩
  · have HC := hide (show ltr k = 71 + k from if_neg e)
    have h1 : 26 ≤ k := by omega
    clear e
    go_enter Tryd.func78, Tryd.ntmps78
    go_wp2
    go_ret
    exact ⟨ret_int (by rw [unhide HC]; omega), rfl⟩

set_option maxHeartbeats 400000 in
theorem p_letterIndex (c : Nat) (w : World) (hc : letB c = true) :
    Calls Tryd.prog 45 #[.int .u8 c] w fun e w' => e = .returned (.int .i64 (ltI c : Nat)) ∧ w' = w := by
  by_cases e : c ≤ 90
  · have HC := hide (show ltI c = c - 65 from if_pos e)
    have h1 : 65 ≤ c ∧ c ≤ 90 := by have := letB_iff.1 hc; omega
    have hb : bigB c = true := bigB_iff.2 h1
    clear e hc
    go_enter Tryd.func45, Tryd.ntmps45
    go_wp2_with (go_at_call 44; refine (p_isBig_is _ true _ (by exact hb)).mono ?_; rintro e w' ⟨rfl, rfl⟩)
    go_ret
    exact ⟨ret_int (by rw [unhide HC]; omega), rfl⟩
  · have HC := hide (show ltI c = c - 71 from if_neg e)
    have h1 : 97 ≤ c ∧ c ≤ 122 := by have := letB_iff.1 hc; omega
    have hs : smallB c = true := smallB_iff.2 h1
    have hb : bigB c = false := not_big_of_small hs
    clear e hc
    go_enter Tryd.func45, Tryd.ntmps45
    go_wp2_with (first | (go_at_call 44; refine (p_isBig_is _ false _ (by exact hb)).mono ?_; rintro e w' ⟨rfl, rfl⟩) | (go_at_call 42; refine (p_isSmall _ _).mono ?_; rintro e w' ⟨rfl, rfl⟩; rw [hs]))
    go_ret
    exact ⟨ret_int (by rw [unhide HC]; omega), rfl⟩

set_option maxHeartbeats 400000 in
theorem p_letterIndex_not (c : Nat) (w : World) (hc : letB c = false) :
    Calls Tryd.prog 45 #[.int .u8 c] w fun e w' => e = .returned (.int .i64 (-1)) ∧ w' = w := by
  have hb : bigB c = false := by cases h : bigB c <;> simp_all [letB]
  have hs : smallB c = false := by cases h : smallB c <;> simp_all [letB]
  clear hc
  go_enter Tryd.func45, Tryd.ntmps45
  go_wp2_with (first | (go_at_call 44; refine (p_isBig_is _ false _ (by exact hb)).mono ?_; rintro e w' ⟨rfl, rfl⟩) | (go_at_call 42; refine (p_isSmall _ _).mono ?_; rintro e w' ⟨rfl, rfl⟩; rw [hs]))
  go_ret
  exact ⟨rfl, rfl⟩

/-- a letter more -/
def adL (X : Nat → Bool) (c : Nat) : Nat → Bool := fun i => X i || (letB c && i == ltI c)
set_option maxHeartbeats 400000 in
/-- letterSet.add -/
theorem p_ladd (b c : Nat) (X : Nat → Bool) (w : World) (hB : Blk w b 52 (boolF X)) :
    Calls Tryd.prog 87 #[.pointer (some ⟨b, 0, none⟩), .int .u8 c] w fun e w' => e = .returned (.tuple #[]) ∧ Fr [b] w w' ∧ Blk w' b 52 (boolF (adL X c)) := by
  cases hc : letB c
  · have HB := hide (show Blk w b 52 (boolF (adL X c)) from hB.congr fun i _ => by simp [boolF, adL, hc])
    clear hB
    go_enter Tryd.func87, Tryd.ntmps87
    go_wp2_with (go_at_call 45; refine (p_letterIndex_not _ _ (by exact hc)).mono ?_; rintro e w' ⟨rfl, rfl⟩)
    go_end0
    exact ⟨rfl, Fr.refl _ _, unhide HB⟩
  · have HC := hide hc
    have h := ltI_lt hc
    obtain ⟨k, hk0⟩ : ∃ k, ltI c = k := ⟨_, rfl⟩
    rw [hk0] at h
    have HK := hide hk0
    have hk := hB.cell k (by omega)
    have hz := hB.free k
    have HF := hide (show Fr [b] w (w.setCell ⟨b, k, none⟩ (.bool true)) ∧ Blk (w.setCell ⟨b, k, none⟩ (.bool true)) b 52 (boolF (adL X c)) from
      ⟨(Fr.refl [b] w).setCell _ (by simp) (.bool true), (hB.setCell k (.bool true)).congr fun i _ => by
        unfold upd boolF adL
        rw [hc, hk0]
        by_cases e : i = k
        · rw [if_pos e, e]; simp
        · rw [if_neg e]; simp [e]⟩)
    clear hB hc hk0
    go_enter Tryd.func87, Tryd.ntmps87
    go_wp2_with (go_at_call 45; refine (p_letterIndex _ _ (unhide HC)).mono ?_; rintro e w' ⟨rfl, rfl⟩; rw [unhide HK])
    go_end0
    exact ⟨rfl, unhide HF⟩
end Go.Proofs.YtkglggkkbmmjkaaDoor
