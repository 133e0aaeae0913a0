import Derived.Test.YtkglggkkbmmjkaaGreatDoorFollow1
namespace Go.Proofs.YtkglggkkbmmjkaaGreatDoor
open Go.RowKit

/-- the state of spreadFollow -/
def SpS (w wr : World) (b q cap : Nat) (rs : List Ru) (N : Nat → Bool) (F : Nat → Nat → Bool) (e p : Int) (tb rb : Nat) (r : Ru) (G : Nat → Nat → Bool) : Prop :=
  Fr [tb] w wr ∧ GAt wr b q cap rs N F e p ∧ Blk wr tb 702 (ftF G) ∧ Blk wr rb 3 (ruF r) ∧ w.heap.size ≤ rb ∧ b < w.heap.size ∧ q < w.heap.size ∧ tb < w.heap.size ∧ b ≠ tb ∧ q ≠ tb
theorem SpS.fr {w wr wr' : World} {b q cap : Nat} {rs : List Ru} {N : Nat → Bool} {F : Nat → Nat → Bool} {e p : Int} {tb rb : Nat} {r : Ru} {G : Nat → Nat → Bool} (h : SpS w wr b q cap rs N F e p tb rb r G) (k : Fr [] wr wr') : SpS w wr' b q cap rs N F e p tb rb r G := by
  obtain ⟨h1, h2, h3, h4, h5⟩ := h
  exact ⟨h1.trans0 k, h2.fr0 k, h3.fr0 k, h4.fr0 k, h5⟩
theorem SpS.far {w wr wr' : World} {b q cap x : Nat} {rs : List Ru} {N : Nat → Bool} {F : Nat → Nat → Bool} {e p : Int} {tb rb : Nat} {r : Ru} {G : Nat → Nat → Bool} (h : SpS w wr b q cap rs N F e p tb rb r G) (k : Fr [x] wr wr') (hx : rb < x) : SpS w wr' b q cap rs N F e p tb rb r G := by
  obtain ⟨h1, h2, h3, h4, h5, h6, h7, h8, h9, h10⟩ := h
  exact ⟨h1.trans1 k (Or.inr (by omega)), h2.fr k (by simp; omega) (by simp; omega), h3.fr1 k (by omega), h4.fr1 k (by omega), h5, h6, h7, h8, h9, h10⟩
theorem SpS.put {w wr wr' : World} {b q cap : Nat} {rs : List Ru} {N : Nat → Bool} {F : Nat → Nat → Bool} {e p : Int} {tb rb : Nat} {r : Ru} {G G' : Nat → Nat → Bool} (h : SpS w wr b q cap rs N F e p tb rb r G) (k : Fr [tb] wr wr') (hB : Blk wr' tb 702 (ftF G')) : SpS w wr' b q cap rs N F e p tb rb r G' := by
  obtain ⟨h1, h2, h3, h4, h5, h6, h7, h8, h9, h10⟩ := h
  exact ⟨h1.trans k (by simp), h2.fr k (by simp; omega) (by simp; omega), hB, h4.fr1 k (by omega), h5, h6, h7, h8, h9, h10⟩

theorem bytes_rest (s : ByteArray) (p : Nat) : bytes (s.extract (p + 1) s.size) = (bytes s).drop (p + 1) := by
  rw [bytes_extract, List.take_of_length_le (by rw [List.length_drop, bytes_len]; omega)]

set_option maxHeartbeats 3200000 in
theorem p_spreadFollow (b q cap : Nat) (rs : List Ru) (N : Nat → Bool) (F : Nat → Nat → Bool) (e p : Int) (tb : Nat) (r : Ru) (G : Nat → Nat → Bool) (w : World) (h : GAt w b q cap rs N F e p) (hT : Blk w tb 702 (ftF G)) (hb : b ≠ tb) (hq : q ≠ tb) (hL : bigB r.L = true) (hsz : r.R.size ≤ 1000) (hlet : ∀ j, j < r.R.size → letB (ch r.R j) = true) :
    Calls Tryz.prog 119 #[.pointer (some ⟨b, 0, none⟩), .pointer (some ⟨tb, 0, none⟩), .agg #[.int .u8 r.L, .string r.R, .int .i64 r.A]] w fun e' w' => e' = .returned (.tuple #[]) ∧ Fr [tb] w w' ∧ Blk w' tb 702 (ftF (jRound (foR N F r) G)) := by
  have HS := hide (show SpS w (w.alloc (.cells #[.int .u8 r.L, .string r.R, .int .i64 r.A] 166)) b q cap rs N F e p tb w.heap.size r G from
    ⟨(Fr.refl _ _).alloc _, h.fr0 ((Fr.refl _ _).alloc _), hT.alloc _, Blk.newRu w r _, Nat.le_refl _, h.blk.lt, h.lt, hT.lt, hb, hq⟩)
  have HLet := hide hlet
  have HL := hide hL
  clear h hT hb hq hlet hL
  go_enter Tryz.func119, Tryz.ntmps119
  go_wp2
  go_loopw [6] (fun i wr => ∃ k : Nat, k ≤ r.R.size ∧ i = .int .i64 k ∧ Hid (SpS w wr b q cap rs N F e p tb w.heap.size r (jRound (foRU N F r k) G))) (fun i _ => r.R.size - (intOf i).toNat)
  case atStart => exact ⟨0, by omega, rfl, HS⟩
  case round =>
    obtain ⟨k, hk, rfl, hs⟩ := hrel
    have c1 : wr.cell? ⟨w.heap.size, 1, none⟩ = some (.string r.R) := (unhide hs).2.2.2.1.cell 1 (by omega)
    by_cases hlt : k < r.R.size
    · have hch := hide (ch_eq r.R k hlt)
      have HBR := hide (bytes_rest r.R k)
      have HLR := hide (show ∀ j, j < (r.R.extract (k + 1) r.R.size).size → letB (ch (r.R.extract (k + 1) r.R.size) j) = true from fun j hj => by
        rw [ByteArray.size_extract] at hj
        rw [ch_extract _ _ _ _ (by omega) (by omega)]; exact unhide HLet _ (by omega))
      have HSR := hide (show (r.R.extract (k + 1) r.R.size).size ≤ 1000 from by rw [ByteArray.size_extract]; omega)
      obtain ⟨H, hH⟩ : ∃ H, jRound (foRU N F r k) G = H := ⟨_, rfl⟩
      have HH := hide hH
      rw [hH] at hs
      clear hH
      cases hnv : ((bytes r.R).drop (k + 1)).all (vanB N false)
      · have HNV := hide hnv
        have HFS := hide (show foSet N F r k (H r.L) = beg N F ((bytes r.R).drop (k + 1)) from funext fun x => by unfold foSet; rw [hnv]; simp)
        clear hnv
        go_wp2_with (first
          | (go_at_call 71; refine (p_firstOf b q cap rs N F e p _ _ (by exact (unhide hs).2.1) (by exact unhide HSR) (by exact unhide HLR)).mono ?_; rintro e' w3 ⟨rfl, hf3⟩; rw [unhide HBR]; have HX3 := hide ((unhide hs).fr hf3); clear hf3)
          | (refine wpList_alloc_blk rfl 48 rfl (some 8) rfl 27 _ Tryz.zeroSign ?_; intro w4 hf4 hs4 hB4; have HX4 := hide ((unhide HX3).fr hf4); have HB4 := hide hB4; clear hf4 hs4 hB4)
          | (refine wpList_store_blk rfl 48 (.tmp 8) (.tmp 24) rfl w3.heap.size 0 27 27 (sgF fun _ => false) (sgF (beg N F ((bytes r.R).drop (k + 1)))) rfl rfl (by exact unhide HB4) Tryz.sizeSign (by omega) (by intro i hi; rfl) ?_; intro w5 hf5 hs5 hB5; have HX5 := hide ((unhide HX4).far hf5 (unhide HX3).2.2.2.1.lt); have HB5 := hide (hB5.congr (g := sgF (beg N F ((bytes r.R).drop (k + 1)))) fun i hi => lay_all _ _ _ i hi); clear hf5 hs5 hB5)
          | (go_at_call 67; refine (p_isNull b q cap rs N F e p _ _ (by exact (unhide HX5).2.1) (by exact unhide HSR)).mono ?_; rintro e' w6 ⟨rfl, rfl⟩; rw [unhide HBR, unhide HNV]))
        have HB6 := hide ((unhide HB5).congr (g := sgF (foSet N F r k (H r.L))) fun i _ => by rw [unhide HFS])
        have lb1 : tb < w.heap.size := (unhide HX5).2.2.2.2.2.2.2.1
        have lb3 : w.heap.size < w3.heap.size := (unhide HX3).2.2.2.1.lt
        clear c1
        refine wp_region_held_drew (S := fun w' => Blk w' w.heap.size 3 (ruF r) ∧ Blk w' w3.heap.size 27 (sgF (foSet N F r k (H r.L)))) (by kernel_rfl) ⟨(unhide HX5).2.2.2.1.drew, (unhide HB6).drew⟩ (fun hHeld => ?_)
        refine wpAnyH_take (i := 0) (v := .pointer (some ⟨tb, 0, none⟩)) rfl (by kernel_rfl) (by kernel_rfl) (by kernel_rfl) (fun _ _ _ h => h) (Or.inl ⟨by rfl, fun _ _ => rfl⟩) hHeld ?_
        refine wpAnyH_take (i := 1) (v := .pointer (some ⟨w.heap.size, 1, none⟩)) rfl (by kernel_rfl) (by kernel_rfl) (by kernel_rfl) (fun _ _ _ h => h) (Or.inl ⟨by rfl, fun _ _ => by go_simp⟩) hHeld ?_
        refine wpAnyH_take (i := 2) (v := .string r.R) rfl (by kernel_rfl) (by kernel_rfl) (by kernel_rfl) (fun _ _ _ h => h) (Or.inl ⟨by rfl, fun w' hw => by (have hc : w'.cell? ⟨w.heap.size, 1, none⟩ = some (.string r.R) := hw.1.cell 1 (by omega)); go_simp⟩) hHeld ?_
        refine wpAnyH_take (i := 3) (v := .int .i64 k) rfl (by kernel_rfl) (by kernel_rfl) (by kernel_rfl) (fun _ _ _ h => h) (Or.inl ⟨by rfl, fun _ _ => rfl⟩) hHeld ?_
        refine wpAnyH_take (i := 4) (v := .int .u8 r.R[k].toNat) rfl (by kernel_rfl) (by kernel_rfl) (by kernel_rfl) (fun _ _ _ h => h) (Or.inl ⟨by rfl, fun _ _ => by go_simp⟩) hHeld ?_
        refine wpAnyH_take (i := 5) rfl (by kernel_rfl) (by kernel_rfl) (by kernel_rfl) (fun _ _ _ h => h) (yieldsIf_load_blk (by rfl) 48 (.tmp 8) rfl w3.heap.size 0 27 27 (sgF (foSet N F r k (H r.L))) _ rfl (fun _ h => h.2) Tryz.underlying48 rfl Tryz.sizeSign (by omega)) hHeld ?_
        refine wpAnyH_ready (rs := [6]) (by kernel_rfl) (by simp) ?_
        refine AllReadyH.cons rfl (fun K hK => ?_) AllReadyH.nil
        rw [if_pos (by rfl)]
        go_wp2_with fail
        cases hbg : bigB r.R[k].toNat
        · refine (p_taddAll_no tb 0 r.R[k].toNat _ _ hbg).mono ?_
          rintro e' w11 ⟨rfl, hf11⟩
          refine hK.out _ _ ⟨hHeld.1.fr0 hf11, hHeld.2.fr0 hf11⟩ (fun _ => ?_)
          refine wpAnyH_done (by kernel_rfl) ?_ _
          have HY := hide (show SpS w w11 b q cap rs N F e p tb w.heap.size r (jRound (foRU N F r (k + 1)) G) from by
            rw [foRU_not N F r k (by rw [unhide hch]; exact hbg), unhide HH]
            exact ((unhide HX5).fr (Fr.refl [] _).drew).fr hf11)
          clear hf11 hK
          go_wp2
          go_roundw
          case rel => exact ⟨k + 1, by omega, by go_num, HY⟩
          case measure => simp [intOf]; omega
        · refine (p_taddT tb r.R[k].toNat H _ _ (by exact (unhide HX5).2.2.1.drew) hbg).mono ?_
          rintro e' w11 ⟨rfl, hf11, hB11⟩
          refine hK.out _ _ ⟨hHeld.1.fr1 hf11 (by omega), hHeld.2.fr1 hf11 (by omega)⟩ (fun _ => ?_)
          refine wpAnyH_done (by kernel_rfl) ?_ _
          have HY := hide (show SpS w w11 b q cap rs N F e p tb w.heap.size r (jRound (foRU N F r (k + 1)) G) from by
            rw [foRU_big N F r k (by rw [unhide hch]; exact hbg), unhide HH, unhide hch]
            exact ((unhide HX5).fr (Fr.refl [] _).drew).put hf11 hB11)
          clear hf11 hB11 hK
          go_wp2
          go_roundw
          case rel => exact ⟨k + 1, by omega, by go_num, HY⟩
          case measure => simp [intOf]; omega
      · have HNV := hide hnv
        have HFS := hide (show foSet N F r k (H r.L) = fun x => beg N F ((bytes r.R).drop (k + 1)) x || H r.L x from funext fun x => by unfold foSet; rw [hnv]; simp)
        clear hnv
        go_wp2_with (first
          | (go_at_call 71; refine (p_firstOf b q cap rs N F e p _ _ (by exact (unhide hs).2.1) (by exact unhide HSR) (by exact unhide HLR)).mono ?_; rintro e' w3 ⟨rfl, hf3⟩; rw [unhide HBR]; have HX3 := hide ((unhide hs).fr hf3); clear hf3)
          | (refine wpList_alloc_blk rfl 48 rfl (some 8) rfl 27 _ Tryz.zeroSign ?_; intro w4 hf4 hs4 hB4; have HX4 := hide ((unhide HX3).fr hf4); have HB4 := hide hB4; clear hf4 hs4 hB4)
          | (refine wpList_store_blk rfl 48 (.tmp 8) (.tmp 24) rfl w3.heap.size 0 27 27 (sgF fun _ => false) (sgF (beg N F ((bytes r.R).drop (k + 1)))) rfl rfl (by exact unhide HB4) Tryz.sizeSign (by omega) (by intro i hi; rfl) ?_; intro w5 hf5 hs5 hB5; have HX5 := hide ((unhide HX4).far hf5 (unhide HX3).2.2.2.1.lt); have HB5 := hide (hB5.congr (g := sgF (beg N F ((bytes r.R).drop (k + 1)))) fun i hi => lay_all _ _ _ i hi); clear hf5 hs5 hB5)
          | (go_at_call 67; refine (p_isNull b q cap rs N F e p _ _ (by exact (unhide HX5).2.1) (by exact unhide HSR)).mono ?_; rintro e' w6 ⟨rfl, rfl⟩; rw [unhide HBR, unhide HNV]; have d0 : w6.cell? ⟨w.heap.size, 0, none⟩ = some (.int .u8 r.L) := (unhide HX5).2.2.2.1.cell 0 (by omega))
          | (go_at_call 76; refine (p_getT tb r.L H _ (by exact (unhide HX5).2.2.1) (unhide HL)).mono ?_; rintro e' w7 ⟨rfl, hf7⟩; have HX7 := hide ((unhide HX5).fr hf7); have HB7 := hide ((unhide HB5).fr0 hf7); clear hf7)
          | (refine wpList_alloc_blk rfl 48 rfl (some 9) rfl 27 _ Tryz.zeroSign ?_; intro w8 hf8 hs8 hB8; have HX8 := hide ((unhide HX7).fr hf8); have HB8 := hide ((unhide HB7).fr0 hf8); have HC8 := hide hB8; clear hf8 hs8 hB8)
          | (refine wpList_store_blk rfl 48 (.tmp 9) (.tmp 31) rfl w7.heap.size 0 27 27 (sgF fun _ => false) (sgF (H r.L)) rfl rfl (by exact unhide HC8) Tryz.sizeSign (by omega) (by intro i hi; rfl) ?_; intro w9 hf9 hs9 hB9; have HX9 := hide ((unhide HX8).far hf9 (unhide HX7).2.2.2.1.lt); have HB9 := hide ((unhide HB8).fr1 hf9 (by have := (unhide HB7).lt; omega)); have HC9 := hide (hB9.congr (g := sgF (H r.L)) fun i hi => lay_all _ _ _ i hi); clear hf9 hs9 hB9)
          | (refine wpList_load_blk rfl 48 (.tmp 9) rfl (some 32) rfl w7.heap.size 0 27 27 (sgF (H r.L)) _ rfl (by exact unhide HC9) Tryz.underlying48 rfl Tryz.sizeSign (by omega) ?_)
          | (go_at_call 118; refine (p_saddS w3.heap.size _ (H r.L) _ (by exact unhide HB9)).mono ?_; rintro e' w10 ⟨rfl, hf10, hB10⟩; have HX10 := hide ((unhide HX9).far hf10 (unhide HX3).2.2.2.1.lt); have HB10 := hide (hB10.congr (g := sgF (foSet N F r k (H r.L))) fun i _ => by rw [unhide HFS]); clear hf10 hB10))
        have lb1 : tb < w.heap.size := (unhide HX10).2.2.2.2.2.2.2.1
        have lb3 : w.heap.size < w3.heap.size := (unhide HX3).2.2.2.1.lt
        clear c1
        refine wp_region_held_drew (S := fun w' => Blk w' w.heap.size 3 (ruF r) ∧ Blk w' w3.heap.size 27 (sgF (foSet N F r k (H r.L)))) (by kernel_rfl) ⟨(unhide HX10).2.2.2.1.drew, (unhide HB10).drew⟩ (fun hHeld => ?_)
        refine wpAnyH_take (i := 0) (v := .pointer (some ⟨tb, 0, none⟩)) rfl (by kernel_rfl) (by kernel_rfl) (by kernel_rfl) (fun _ _ _ h => h) (Or.inl ⟨by rfl, fun _ _ => rfl⟩) hHeld ?_
        refine wpAnyH_take (i := 1) (v := .pointer (some ⟨w.heap.size, 1, none⟩)) rfl (by kernel_rfl) (by kernel_rfl) (by kernel_rfl) (fun _ _ _ h => h) (Or.inl ⟨by rfl, fun _ _ => by go_simp⟩) hHeld ?_
        refine wpAnyH_take (i := 2) (v := .string r.R) rfl (by kernel_rfl) (by kernel_rfl) (by kernel_rfl) (fun _ _ _ h => h) (Or.inl ⟨by rfl, fun w' hw => by (have hc : w'.cell? ⟨w.heap.size, 1, none⟩ = some (.string r.R) := hw.1.cell 1 (by omega)); go_simp⟩) hHeld ?_
        refine wpAnyH_take (i := 3) (v := .int .i64 k) rfl (by kernel_rfl) (by kernel_rfl) (by kernel_rfl) (fun _ _ _ h => h) (Or.inl ⟨by rfl, fun _ _ => rfl⟩) hHeld ?_
        refine wpAnyH_take (i := 4) (v := .int .u8 r.R[k].toNat) rfl (by kernel_rfl) (by kernel_rfl) (by kernel_rfl) (fun _ _ _ h => h) (Or.inl ⟨by rfl, fun _ _ => by go_simp⟩) hHeld ?_
        refine wpAnyH_take (i := 5) rfl (by kernel_rfl) (by kernel_rfl) (by kernel_rfl) (fun _ _ _ h => h) (yieldsIf_load_blk (by rfl) 48 (.tmp 8) rfl w3.heap.size 0 27 27 (sgF (foSet N F r k (H r.L))) _ rfl (fun _ h => h.2) Tryz.underlying48 rfl Tryz.sizeSign (by omega)) hHeld ?_
        refine wpAnyH_ready (rs := [6]) (by kernel_rfl) (by simp) ?_
        refine AllReadyH.cons rfl (fun K hK => ?_) AllReadyH.nil
        rw [if_pos (by rfl)]
        go_wp2_with fail
        cases hbg : bigB r.R[k].toNat
        · refine (p_taddAll_no tb 0 r.R[k].toNat _ _ hbg).mono ?_
          rintro e' w11 ⟨rfl, hf11⟩
          refine hK.out _ _ ⟨hHeld.1.fr0 hf11, hHeld.2.fr0 hf11⟩ (fun _ => ?_)
          refine wpAnyH_done (by kernel_rfl) ?_ _
          have HY := hide (show SpS w w11 b q cap rs N F e p tb w.heap.size r (jRound (foRU N F r (k + 1)) G) from by
            rw [foRU_not N F r k (by rw [unhide hch]; exact hbg), unhide HH]
            exact ((unhide HX10).fr (Fr.refl [] _).drew).fr hf11)
          clear hf11 hK
          go_wp2
          go_roundw
          case rel => exact ⟨k + 1, by omega, by go_num, HY⟩
          case measure => simp [intOf]; omega
        · refine (p_taddT tb r.R[k].toNat H _ _ (by exact (unhide HX10).2.2.1.drew) hbg).mono ?_
          rintro e' w11 ⟨rfl, hf11, hB11⟩
          refine hK.out _ _ ⟨hHeld.1.fr1 hf11 (by omega), hHeld.2.fr1 hf11 (by omega)⟩ (fun _ => ?_)
          refine wpAnyH_done (by kernel_rfl) ?_ _
          have HY := hide (show SpS w w11 b q cap rs N F e p tb w.heap.size r (jRound (foRU N F r (k + 1)) G) from by
            rw [foRU_big N F r k (by rw [unhide hch]; exact hbg), unhide HH, unhide hch]
            exact ((unhide HX10).fr (Fr.refl [] _).drew).put hf11 hB11)
          clear hf11 hB11 hK
          go_wp2
          go_roundw
          case rel => exact ⟨k + 1, by omega, by go_num, HY⟩
          case measure => simp [intOf]; omega
    · have HE := hide (show SpS w wr b q cap rs N F e p tb w.heap.size r (jRound (foR N F r) G) from by
        have e1 : k = r.R.size := by omega
        have := unhide hs
        rw [e1] at this; exact this)
      clear hs
      go_wp2
      go_end0
      exact ⟨rfl, (unhide HE).1, (unhide HE).2.2.1⟩
end Go.Proofs.YtkglggkkbmmjkaaGreatDoor
