import Derived.Test.YtkglggkkbmmjkabGreatDoorG36PMix
namespace Go.Proofs.YtkglggkkbmmjkabGreatDoor
open Go.RowKit
def ftF (G : Nat → Nat → Bool) : Nat → Value := fun i => .bool (G (65 + i / 27) (sgn (i % 27)))
theorem Tryz.zeroTab : (Tryz.prog.info? 51).bind (·.zero) = some (Agg 702 (ftF fun _ _ => false)) := by kernel_rfl
theorem Tryz.sizeTab : (Tryz.prog.info? 51).map (·.size) = some 702 := by kernel_rfl
theorem oneB_ftF (G : Nat → Nat → Bool) (n : Nat) : oneB (ftF G) n := fun _ _ => rfl
theorem ftF_at (G : Nat → Nat → Bool) (c i : Nat) (hc : bigB c = true) (hi : i < 27) : ftF G ((c - 65) * 27 + i) = .bool (G c (sgn i)) := by
 have h := zao.1 hc
 unfold ftF
 rw [show (c - 65) * 27 + i = i + 27 * (c - 65) from by omega, Nat.add_mul_mod_self_left, Nat.add_mul_div_left _ _ (by omega), Nat.mod_eq_of_lt hi, Nat.div_eq_of_lt hi, show 65 + (0 + (c - 65)) = c from by omega]
theorem ftF_join (G : Nat → Nat → Bool) (c : Nat) (S : Nat → Bool) (hc : bigB c = true) (i : Nat) : orF (ftF G) ((c - 65) * 27) 27 (fun i => G c (sgn i)) (fun i => S (sgn i)) i = ftF (zch G c S) i := by
 have h := zao.1 hc
 unfold orF
 by_cases hr : (c - 65) * 27 ≤ i ∧ i < (c - 65) * 27 + 27
 ·rw [if_pos hr]
  obtain ⟨k, rfl⟩ : ∃ k, i = (c - 65) * 27 + k := ⟨i - (c - 65) * 27, by omega⟩
  rw [ftF_at _ c k hc (by omega), Nat.add_sub_cancel_left]
  simp [zch]
 ·rw [if_neg hr]
  have hne : (65 + i / 27 == c) = false := by
   rw [beq_eq_false_iff_ne]
   intro he
   have hd : i / 27 = c - 65 := by omega
   have := Nat.div_add_mod i 27
   have := Nat.mod_lt i (show 0 < 27 by omega)
   rw [hd] at *
   omega
  unfold ftF zch
  rw [hne, Bool.false_and, Bool.or_false]
theorem p_sadd_end (b n : Nat) (f : Nat → Value) (w : World) (hB : Blk w b n f) (hn : 27 ≤ n) :
 Calls Tryz.prog 100 #[.pointer (some ⟨b, 0, none⟩), .int .u8 36] w fun e w' => e = .returned (.tuple #[]) ∧ Fr [b] w w' ∧ Blk w' b n (upd f 0 (.bool true)) :=
 (p_saddO b 0 36 n f w hB (by omega) rfl).mono fun e w' h => ⟨h.1, h.2.1, h.2.2.2⟩
theorem sgF_end (i : Nat) : upd (sgF fun _ => false) 0 (.bool true) i = sgF (fun x => x == 36) i := by
 unfold upd sgF
 by_cases e : i = 0
 ·rw [if_pos e, e]; rfl
 ·rw [if_neg e]
  have : (sgn i == 36) = false := by
   rw [beq_eq_false_iff_ne]; unfold sgn; rw [if_neg e]; omega
  show Value.bool false = Value.bool (sgn i == 36)
  rw [this]
theorem p_isBig_no (c : Nat) (w : World) (h : bigB c = false) : Calls Tryz.prog 67 #[.int .u8 c] w fun e w' => e = .returned (.bool false) ∧ w' = w := zbr c false w h
set_option maxHeartbeats 400000 in
theorem p_taddAll_no (b off c : Nat) (M : Nat → Value) (w : World) (hc : bigB c = false) :
 Calls Tryz.prog 108 #[.pointer (some ⟨b, off, none⟩), .int .u8 c, Agg 27 M] w fun e w' => e = .returned (.tuple #[]) ∧ Fr [] w w' := by
 go_enter Tryz.func108, Tryz.ntmps108
 go_wp2_with (first | (refine zat rfl 48 (.tmp 2) rfl (some 5) rfl 27 M rfl ?_; intro w1 hf1 hs1 hB1; have HF1 := hide hf1; clear hf1 hB1 hs1) | (go_at_call 67; refine (p_isBig_no c _ hc).mono ?_; rintro e w' ⟨rfl, rfl⟩))
 go_end0
 exact ⟨rfl, zaa HF1⟩
theorem p_taddT (b c : Nat) (G : Nat → Nat → Bool) (S : Nat → Bool) (w : World) (hB : Blk w b 702 (ftF G)) (hc : bigB c = true) :
 Calls Tryz.prog 108 #[.pointer (some ⟨b, 0, none⟩), .int .u8 c, Agg 27 fun i => sgF S (0 + i)] w fun e w' => e = .returned (.tuple #[]) ∧ Fr [b] w w' ∧ Blk w' b 702 (ftF (zch G c S)) := by
 rw [show (Agg 27 fun i => sgF S (0 + i)) = Agg 27 fun i => .bool ((fun i => S (sgn i)) i) from Agg.congr fun i _ => by rw [Nat.zero_add]; rfl]
 refine (p_taddAll b 0 c 702 _ (fun i => G c (sgn i)) (fun i => S (sgn i)) w hB (by omega) hc (fun i hi => by rw [Nat.zero_add]; exact ftF_at G c i hc hi)).mono ?_
 rintro e w' ⟨rfl, hf, hB'⟩
 exact ⟨rfl, hf, hB'.congr fun i _ => by rw [Nat.zero_add]; exact ftF_join G c S hc i⟩
theorem p_getT (b c : Nat) (G : Nat → Nat → Bool) (w : World) (hB : Blk w b 702 (ftF G)) (hc : bigB c = true) :
 Calls Tryz.prog 69 #[.pointer (some ⟨b, 0, none⟩), .int .u8 c] w fun e w' => e = .returned (Agg 27 (sgF (G c))) ∧ Fr [] w w' := by
 refine (p_get b 0 c 702 _ w hB (by omega) hc (oneB_ftF _ _)).mono ?_
 rintro e w' ⟨rfl, hf⟩
 exact ⟨by rw [Agg.congr fun i hi => by rw [Nat.zero_add, ftF_at G c i hc hi]]; rfl, hf⟩
theorem p_saddS (b : Nat) (S M : Nat → Bool) (w : World) (hB : Blk w b 27 (sgF S)) :
 Calls Tryz.prog 111 #[.pointer (some ⟨b, 0, none⟩), Agg 27 fun i => sgF M (0 + i)] w fun e w' => e = .returned (.tuple #[]) ∧ Fr [b] w w' ∧ Blk w' b 27 (sgF fun x => S x || M x) := by
 rw [show (Agg 27 fun i => sgF M (0 + i)) = Agg 27 fun i => .bool ((fun i => M (sgn i)) i) from Agg.congr fun i _ => by rw [Nat.zero_add]; rfl]
 refine (p_saddAll b 0 27 _ (fun i => S (sgn i)) (fun i => M (sgn i)) w hB (by omega) (fun i hi => by rw [Nat.zero_add]; rfl)).mono ?_
 rintro e w' ⟨rfl, hf, hB'⟩
 exact ⟨rfl, hf, hB'.congr fun i hi => sgF_or S M i hi⟩
end Go.Proofs.YtkglggkkbmmjkabGreatDoor
namespace Go.Proofs.YtkglggkkbmmjkabGreatDoor
open Go.RowKit
def SpF (w wr : World) (b q cap : Nat) (rs : List Ru) (N : Nat → Bool) (F : Nat → Nat → Bool) (e p : Int) (tb rb : Nat) (r : Ru) (G : Nat → Nat → Bool) : Prop :=
 Fr [tb] w wr ∧ GAt wr b q cap rs N F e p ∧ Blk wr tb 702 (ftF G) ∧ Blk wr rb 3 (ruF r) ∧ w.heap.size ≤ rb ∧ b < w.heap.size ∧ q < w.heap.size ∧ tb < w.heap.size ∧ b ≠ tb ∧ q ≠ tb
theorem SpF.fr {w wr wr' : World} {b q cap : Nat} {rs : List Ru} {N : Nat → Bool} {F : Nat → Nat → Bool} {e p : Int} {tb rb : Nat} {r : Ru} {G : Nat → Nat → Bool} (h : SpF w wr b q cap rs N F e p tb rb r G) (k : Fr [] wr wr') : SpF w wr' b q cap rs N F e p tb rb r G := by
 obtain ⟨h1, h2, h3, h4, h5⟩ := h
 exact ⟨h1.trans0 k, h2.fr0 k, h3.fr0 k, h4.fr0 k, h5⟩
theorem SpF.far {w wr wr' : World} {b q cap x : Nat} {rs : List Ru} {N : Nat → Bool} {F : Nat → Nat → Bool} {e p : Int} {tb rb : Nat} {r : Ru} {G : Nat → Nat → Bool} (h : SpF w wr b q cap rs N F e p tb rb r G) (k : Fr [x] wr wr') (hx : rb < x) : SpF w wr' b q cap rs N F e p tb rb r G := by
 obtain ⟨h1, h2, h3, h4, h5, h6, h7, h8, h9, h10⟩ := h
 exact ⟨h1.trans1 k (Or.inr (by omega)), h2.fr k (by simp; omega) (by simp; omega), h3.fr1 k (by omega), h4.fr1 k (by omega), h5, h6, h7, h8, h9, h10⟩
theorem SpF.put {w wr wr' : World} {b q cap : Nat} {rs : List Ru} {N : Nat → Bool} {F : Nat → Nat → Bool} {e p : Int} {tb rb : Nat} {r : Ru} {G G' : Nat → Nat → Bool} (h : SpF w wr b q cap rs N F e p tb rb r G) (k : Fr [tb] wr wr') (hB : Blk wr' tb 702 (ftF G')) : SpF w wr' b q cap rs N F e p tb rb r G' := by
 obtain ⟨h1, h2, h3, h4, h5, h6, h7, h8, h9, h10⟩ := h
 exact ⟨h1.trans k (by simp), h2.fr k (by simp; omega) (by simp; omega), hB, h4.fr1 k (by omega), h5, h6, h7, h8, h9, h10⟩
theorem bytes_rest (s : ByteArray) (p : Nat) : bytes (s.extract (p + 1) s.size) = (bytes s).drop (p + 1) := by
 rw [bytes_extract, List.take_of_length_le (by rw [List.length_drop, zah]; omega)]
set_option maxHeartbeats 3200000 in
theorem p_spreadFollow (b q cap : Nat) (rs : List Ru) (N : Nat → Bool) (F : Nat → Nat → Bool) (e p : Int) (tb : Nat) (r : Ru) (G : Nat → Nat → Bool) (w : World) (h : GAt w b q cap rs N F e p) (hT : Blk w tb 702 (ftF G)) (hb : b ≠ tb) (hq : q ≠ tb) (hL : bigB r.L = true) (hsz : r.R.size ≤ 1000) (hlet : ∀ j, j < r.R.size → letB (ch r.R j) = true) :
 Calls Tryz.prog 112 #[.pointer (some ⟨b, 0, none⟩), .pointer (some ⟨tb, 0, none⟩), .agg #[.int .u8 r.L, .string r.R, .int .i64 r.A]] w fun e' w' => e' = .returned (.tuple #[]) ∧ Fr [tb] w w' ∧ Blk w' tb 702 (ftF (zar (foR N F r) G)) := by
 have HS := hide (show SpF w (w.alloc (.cells #[.int .u8 r.L, .string r.R, .int .i64 r.A] 166)) b q cap rs N F e p tb w.heap.size r G from
  ⟨(Fr.refl _ _).alloc _, h.fr0 ((Fr.refl _ _).alloc _), hT.alloc _, Blk.newRu w r _, Nat.le_refl _, h.blk.lt, h.lt, hT.lt, hb, hq⟩)
 have HLet := hide hlet
 have HL := hide hL
 clear h hT hb hq hlet hL
 go_enter Tryz.func112, Tryz.ntmps112
 go_wp2
 go_loopw [6] (fun i wr => ∃ k : Nat, k ≤ r.R.size ∧ i = .int .i64 k ∧ Hid (SpF w wr b q cap rs N F e p tb w.heap.size r (zar (foRU N F r k) G))) (fun i _ => r.R.size - (intOf i).toNat)
 case atStart => exact ⟨0, by omega, rfl, HS⟩
 case round =>
  obtain ⟨k, hk, rfl, hs⟩ := hrel
  have c1 : wr.cell? ⟨w.heap.size, 1, none⟩ = some (.string r.R) := (zaa hs).2.2.2.1.cell 1 (by omega)
  by_cases hlt : k < r.R.size
  ·have hch := hide (za8 r.R k hlt)
   have HBR := hide (bytes_rest r.R k)
   have HLR := hide (show ∀ j, j < (r.R.extract (k + 1) r.R.size).size → letB (ch (r.R.extract (k + 1) r.R.size) j) = true from fun j hj => by
    rw [ByteArray.size_extract] at hj
    rw [zcf _ _ _ _ (by omega) (by omega)]; exact zaa HLet _ (by omega))
   have HSR := hide (show (r.R.extract (k + 1) r.R.size).size ≤ 1000 from by rw [ByteArray.size_extract]; omega)
   obtain ⟨H, hH⟩ : ∃ H, zar (foRU N F r k) G = H := ⟨_, rfl⟩
   have HH := hide hH
   rw [hH] at hs
   clear hH
   cases hnv : ((bytes r.R).drop (k + 1)).all (vanB N false)
   ·have HNV := hide hnv
    have HFS := hide (show foSet N F r k (H r.L) = beg N F ((bytes r.R).drop (k + 1)) from funext fun x => by unfold foSet; rw [hnv]; simp)
    clear hnv
    go_wp2_with (first
     | (go_at_call 64; refine (p_firstOf b q cap rs N F e p _ _ (by exact (zaa hs).2.1) (by exact zaa HSR) (by exact zaa HLR)).mono ?_; rintro e' w3 ⟨rfl, hf3⟩; rw [zaa HBR]; have HX3 := hide ((zaa hs).fr hf3); clear hf3)
     | (refine zab rfl 48 rfl (some 8) rfl 27 _ Tryz.zeroSign ?_; intro w4 hf4 hs4 hB4; have HX4 := hide ((zaa HX3).fr hf4); have HB4 := hide hB4; clear hf4 hs4 hB4)
     | (refine zac rfl 48 (.tmp 8) (.tmp 24) rfl w3.heap.size 0 27 27 (sgF fun _ => false) (sgF (beg N F ((bytes r.R).drop (k + 1)))) rfl rfl (by exact zaa HB4) Tryz.sizeSign (by omega) (by intro i hi; rfl) ?_; intro w5 hf5 hs5 hB5; have HX5 := hide ((zaa HX4).far hf5 (zaa HX3).2.2.2.1.lt); have HB5 := hide (hB5.congr (g := sgF (beg N F ((bytes r.R).drop (k + 1)))) fun i hi => zag _ _ _ i hi); clear hf5 hs5 hB5)
     | (go_at_call 60; refine (p_isNull b q cap rs N F e p _ _ (by exact (zaa HX5).2.1) (by exact zaa HSR)).mono ?_; rintro e' w6 ⟨rfl, rfl⟩; rw [zaa HBR, zaa HNV]))
    have HB6 := hide ((zaa HB5).congr (g := sgF (foSet N F r k (H r.L))) fun i _ => by rw [zaa HFS])
    have lb1 : tb < w.heap.size := (zaa HX5).2.2.2.2.2.2.2.1
    have lb3 : w.heap.size < w3.heap.size := (zaa HX3).2.2.2.1.lt
    clear c1
    refine wp_region_held_drew (S := fun w' => Blk w' w.heap.size 3 (ruF r) ∧ Blk w' w3.heap.size 27 (sgF (foSet N F r k (H r.L)))) (by kernel_rfl) ⟨(zaa HX5).2.2.2.1.drew, (zaa HB6).drew⟩ (fun hHeld => ?_)
    refine wpAnyH_take (i := 0) (v := .pointer (some ⟨tb, 0, none⟩)) rfl (by kernel_rfl) (by kernel_rfl) (by kernel_rfl) (fun _ _ _ h => h) (Or.inl ⟨by rfl, fun _ _ => rfl⟩) hHeld ?_
    refine wpAnyH_take (i := 1) (v := .pointer (some ⟨w.heap.size, 1, none⟩)) rfl (by kernel_rfl) (by kernel_rfl) (by kernel_rfl) (fun _ _ _ h => h) (Or.inl ⟨by rfl, fun _ _ => by go_simp⟩) hHeld ?_
    refine wpAnyH_take (i := 2) (v := .string r.R) rfl (by kernel_rfl) (by kernel_rfl) (by kernel_rfl) (fun _ _ _ h => h) (Or.inl ⟨by rfl, fun w' hw => by (have hc : w'.cell? ⟨w.heap.size, 1, none⟩ = some (.string r.R) := hw.1.cell 1 (by omega)); go_simp⟩) hHeld ?_
    refine wpAnyH_take (i := 3) (v := .int .i64 k) rfl (by kernel_rfl) (by kernel_rfl) (by kernel_rfl) (fun _ _ _ h => h) (Or.inl ⟨by rfl, fun _ _ => rfl⟩) hHeld ?_
    refine wpAnyH_take (i := 4) (v := .int .u8 r.R[k].toNat) rfl (by kernel_rfl) (by kernel_rfl) (by kernel_rfl) (fun _ _ _ h => h) (Or.inl ⟨by rfl, fun _ _ => by go_simp⟩) hHeld ?_
    refine wpAnyH_take (i := 5) rfl (by kernel_rfl) (by kernel_rfl) (by kernel_rfl) (fun _ _ _ h => h) (zbq (by rfl) 48 (.tmp 8) rfl w3.heap.size 0 27 27 (sgF (foSet N F r k (H r.L))) _ rfl (fun _ h => h.2) Tryz.underlying48 rfl Tryz.sizeSign (by omega)) hHeld ?_
    refine wpAnyH_ready (rs := [6]) (by kernel_rfl) (by simp) ?_
    refine AllReadyH.cons rfl (fun K hK => ?_) AllReadyH.nil
    rw [if_pos (by rfl)]
    go_wp2_with fail
    cases hbg : bigB r.R[k].toNat
    ·refine (p_taddAll_no tb 0 r.R[k].toNat _ _ hbg).mono ?_
     rintro e' w11 ⟨rfl, hf11⟩
     refine hK.out _ _ ⟨hHeld.1.fr0 hf11, hHeld.2.fr0 hf11⟩ (fun _ => ?_)
     refine wpAnyH_done (by kernel_rfl) ?_ _
     have HY := hide (show SpF w w11 b q cap rs N F e p tb w.heap.size r (zar (foRU N F r (k + 1)) G) from by
      rw [foRU_not N F r k (by rw [zaa hch]; exact hbg), zaa HH]
      exact ((zaa HX5).fr (Fr.refl [] _).drew).fr hf11)
     clear hf11 hK
     go_wp2
     go_roundw
     case rel => exact ⟨k + 1, by omega, by go_num, HY⟩
     case measure => simp [intOf]; omega
    ·refine (p_taddT tb r.R[k].toNat H _ _ (by exact (zaa HX5).2.2.1.drew) hbg).mono ?_
     rintro e' w11 ⟨rfl, hf11, hB11⟩
     refine hK.out _ _ ⟨hHeld.1.fr1 hf11 (by omega), hHeld.2.fr1 hf11 (by omega)⟩ (fun _ => ?_)
     refine wpAnyH_done (by kernel_rfl) ?_ _
     have HY := hide (show SpF w w11 b q cap rs N F e p tb w.heap.size r (zar (foRU N F r (k + 1)) G) from by
      rw [foRU_big N F r k (by rw [zaa hch]; exact hbg), zaa HH, zaa hch]
      exact ((zaa HX5).fr (Fr.refl [] _).drew).put hf11 hB11)
     clear hf11 hB11 hK
     go_wp2
     go_roundw
     case rel => exact ⟨k + 1, by omega, by go_num, HY⟩
     case measure => simp [intOf]; omega
   ·have HNV := hide hnv
    have HFS := hide (show foSet N F r k (H r.L) = fun x => beg N F ((bytes r.R).drop (k + 1)) x || H r.L x from funext fun x => by unfold foSet; rw [hnv]; simp)
    clear hnv
    go_wp2_with (first
     | (go_at_call 64; refine (p_firstOf b q cap rs N F e p _ _ (by exact (zaa hs).2.1) (by exact zaa HSR) (by exact zaa HLR)).mono ?_; rintro e' w3 ⟨rfl, hf3⟩; rw [zaa HBR]; have HX3 := hide ((zaa hs).fr hf3); clear hf3)
     | (refine zab rfl 48 rfl (some 8) rfl 27 _ Tryz.zeroSign ?_; intro w4 hf4 hs4 hB4; have HX4 := hide ((zaa HX3).fr hf4); have HB4 := hide hB4; clear hf4 hs4 hB4)
     | (refine zac rfl 48 (.tmp 8) (.tmp 24) rfl w3.heap.size 0 27 27 (sgF fun _ => false) (sgF (beg N F ((bytes r.R).drop (k + 1)))) rfl rfl (by exact zaa HB4) Tryz.sizeSign (by omega) (by intro i hi; rfl) ?_; intro w5 hf5 hs5 hB5; have HX5 := hide ((zaa HX4).far hf5 (zaa HX3).2.2.2.1.lt); have HB5 := hide (hB5.congr (g := sgF (beg N F ((bytes r.R).drop (k + 1)))) fun i hi => zag _ _ _ i hi); clear hf5 hs5 hB5)
     | (go_at_call 60; refine (p_isNull b q cap rs N F e p _ _ (by exact (zaa HX5).2.1) (by exact zaa HSR)).mono ?_; rintro e' w6 ⟨rfl, rfl⟩; rw [zaa HBR, zaa HNV]; have d0 : w6.cell? ⟨w.heap.size, 0, none⟩ = some (.int .u8 r.L) := (zaa HX5).2.2.2.1.cell 0 (by omega))
     | (go_at_call 69; refine (p_getT tb r.L H _ (by exact (zaa HX5).2.2.1) (zaa HL)).mono ?_; rintro e' w7 ⟨rfl, hf7⟩; have HX7 := hide ((zaa HX5).fr hf7); have HB7 := hide ((zaa HB5).fr0 hf7); clear hf7)
     | (refine zab rfl 48 rfl (some 9) rfl 27 _ Tryz.zeroSign ?_; intro w8 hf8 hs8 hB8; have HX8 := hide ((zaa HX7).fr hf8); have HB8 := hide ((zaa HB7).fr0 hf8); have HC8 := hide hB8; clear hf8 hs8 hB8)
     | (refine zac rfl 48 (.tmp 9) (.tmp 31) rfl w7.heap.size 0 27 27 (sgF fun _ => false) (sgF (H r.L)) rfl rfl (by exact zaa HC8) Tryz.sizeSign (by omega) (by intro i hi; rfl) ?_; intro w9 hf9 hs9 hB9; have HX9 := hide ((zaa HX8).far hf9 (zaa HX7).2.2.2.1.lt); have HB9 := hide ((zaa HB8).fr1 hf9 (by have := (zaa HB7).lt; omega)); have HC9 := hide (hB9.congr (g := sgF (H r.L)) fun i hi => zag _ _ _ i hi); clear hf9 hs9 hB9)
     | (refine zaf rfl 48 (.tmp 9) rfl (some 32) rfl w7.heap.size 0 27 27 (sgF (H r.L)) _ rfl (by exact zaa HC9) Tryz.underlying48 rfl Tryz.sizeSign (by omega) ?_)
     | (go_at_call 111; refine (p_saddS w3.heap.size _ (H r.L) _ (by exact zaa HB9)).mono ?_; rintro e' w10 ⟨rfl, hf10, hB10⟩; have HX10 := hide ((zaa HX9).far hf10 (zaa HX3).2.2.2.1.lt); have HB10 := hide (hB10.congr (g := sgF (foSet N F r k (H r.L))) fun i _ => by rw [zaa HFS]); clear hf10 hB10))
    have lb1 : tb < w.heap.size := (zaa HX10).2.2.2.2.2.2.2.1
    have lb3 : w.heap.size < w3.heap.size := (zaa HX3).2.2.2.1.lt
    clear c1
    refine wp_region_held_drew (S := fun w' => Blk w' w.heap.size 3 (ruF r) ∧ Blk w' w3.heap.size 27 (sgF (foSet N F r k (H r.L)))) (by kernel_rfl) ⟨(zaa HX10).2.2.2.1.drew, (zaa HB10).drew⟩ (fun hHeld => ?_)
    refine wpAnyH_take (i := 0) (v := .pointer (some ⟨tb, 0, none⟩)) rfl (by kernel_rfl) (by kernel_rfl) (by kernel_rfl) (fun _ _ _ h => h) (Or.inl ⟨by rfl, fun _ _ => rfl⟩) hHeld ?_
    refine wpAnyH_take (i := 1) (v := .pointer (some ⟨w.heap.size, 1, none⟩)) rfl (by kernel_rfl) (by kernel_rfl) (by kernel_rfl) (fun _ _ _ h => h) (Or.inl ⟨by rfl, fun _ _ => by go_simp⟩) hHeld ?_
    refine wpAnyH_take (i := 2) (v := .string r.R) rfl (by kernel_rfl) (by kernel_rfl) (by kernel_rfl) (fun _ _ _ h => h) (Or.inl ⟨by rfl, fun w' hw => by (have hc : w'.cell? ⟨w.heap.size, 1, none⟩ = some (.string r.R) := hw.1.cell 1 (by omega)); go_simp⟩) hHeld ?_
    refine wpAnyH_take (i := 3) (v := .int .i64 k) rfl (by kernel_rfl) (by kernel_rfl) (by kernel_rfl) (fun _ _ _ h => h) (Or.inl ⟨by rfl, fun _ _ => rfl⟩) hHeld ?_
    refine wpAnyH_take (i := 4) (v := .int .u8 r.R[k].toNat) rfl (by kernel_rfl) (by kernel_rfl) (by kernel_rfl) (fun _ _ _ h => h) (Or.inl ⟨by rfl, fun _ _ => by go_simp⟩) hHeld ?_
    refine wpAnyH_take (i := 5) rfl (by kernel_rfl) (by kernel_rfl) (by kernel_rfl) (fun _ _ _ h => h) (zbq (by rfl) 48 (.tmp 8) rfl w3.heap.size 0 27 27 (sgF (foSet N F r k (H r.L))) _ rfl (fun _ h => h.2) Tryz.underlying48 rfl Tryz.sizeSign (by omega)) hHeld ?_
    refine wpAnyH_ready (rs := [6]) (by kernel_rfl) (by simp) ?_
    refine AllReadyH.cons rfl (fun K hK => ?_) AllReadyH.nil
    rw [if_pos (by rfl)]
    go_wp2_with fail
    cases hbg : bigB r.R[k].toNat
    ·refine (p_taddAll_no tb 0 r.R[k].toNat _ _ hbg).mono ?_
     rintro e' w11 ⟨rfl, hf11⟩
     refine hK.out _ _ ⟨hHeld.1.fr0 hf11, hHeld.2.fr0 hf11⟩ (fun _ => ?_)
     refine wpAnyH_done (by kernel_rfl) ?_ _
     have HY := hide (show SpF w w11 b q cap rs N F e p tb w.heap.size r (zar (foRU N F r (k + 1)) G) from by
      rw [foRU_not N F r k (by rw [zaa hch]; exact hbg), zaa HH]
      exact ((zaa HX10).fr (Fr.refl [] _).drew).fr hf11)
     clear hf11 hK
     go_wp2
     go_roundw
     case rel => exact ⟨k + 1, by omega, by go_num, HY⟩
     case measure => simp [intOf]; omega
    ·refine (p_taddT tb r.R[k].toNat H _ _ (by exact (zaa HX10).2.2.1.drew) hbg).mono ?_
     rintro e' w11 ⟨rfl, hf11, hB11⟩
     refine hK.out _ _ ⟨hHeld.1.fr1 hf11 (by omega), hHeld.2.fr1 hf11 (by omega)⟩ (fun _ => ?_)
     refine wpAnyH_done (by kernel_rfl) ?_ _
     have HY := hide (show SpF w w11 b q cap rs N F e p tb w.heap.size r (zar (foRU N F r (k + 1)) G) from by
      rw [foRU_big N F r k (by rw [zaa hch]; exact hbg), zaa HH, zaa hch]
      exact ((zaa HX10).fr (Fr.refl [] _).drew).put hf11 hB11)
     clear hf11 hB11 hK
     go_wp2
     go_roundw
     case rel => exact ⟨k + 1, by omega, by go_num, HY⟩
     case measure => simp [intOf]; omega
  ·have HE := hide (show SpF w wr b q cap rs N F e p tb w.heap.size r (zar (foR N F r) G) from by
    have e1 : k = r.R.size := by omega
    have := zaa hs
    rw [e1] at this; exact this)
   clear hs
   go_wp2
   go_end0
   exact ⟨rfl, (zaa HE).1, (zaa HE).2.2.1⟩
end Go.Proofs.YtkglggkkbmmjkabGreatDoor
namespace Go.Proofs.YtkglggkkbmmjkabGreatDoor
open Go.RowKit
def FoS (w wr : World) (b q cap : Nat) (rs : List Ru) (N : Nat → Bool) (F : Nat → Nat → Bool) (e p : Int) (r0 tb : Nat) (G : Nat → Nat → Bool) : Prop :=
 Fr [] w wr ∧ GAt wr b q cap rs N F e p ∧ Blk wr r0 702 (ftF fun _ _ => false) ∧ Blk wr tb 702 (ftF G) ∧ w.heap.size ≤ r0 ∧ r0 < tb ∧ b < w.heap.size ∧ q < w.heap.size
theorem FoS.fr {w wr wr' : World} {b q cap : Nat} {rs : List Ru} {N : Nat → Bool} {F : Nat → Nat → Bool} {e p : Int} {r0 tb : Nat} {G : Nat → Nat → Bool} (h : FoS w wr b q cap rs N F e p r0 tb G) (k : Fr [] wr wr') : FoS w wr' b q cap rs N F e p r0 tb G := by
 obtain ⟨h1, h2, h3, h4, h5⟩ := h
 exact ⟨h1.trans0 k, h2.fr0 k, h3.fr0 k, h4.fr0 k, h5⟩
theorem FoS.far {w wr wr' : World} {b q cap x : Nat} {rs : List Ru} {N : Nat → Bool} {F : Nat → Nat → Bool} {e p : Int} {r0 tb : Nat} {G : Nat → Nat → Bool} (h : FoS w wr b q cap rs N F e p r0 tb G) (k : Fr [x] wr wr') (hx : tb < x) : FoS w wr' b q cap rs N F e p r0 tb G := by
 obtain ⟨h1, h2, h3, h4, h5, h6, h7, h8⟩ := h
 exact ⟨h1.trans1 k (Or.inr (by omega)), h2.fr k (by simp; omega) (by simp; omega), h3.fr1 k (by omega), h4.fr1 k (by omega), h5, h6, h7, h8⟩
theorem FoS.put {w wr wr' : World} {b q cap : Nat} {rs : List Ru} {N : Nat → Bool} {F : Nat → Nat → Bool} {e p : Int} {r0 tb : Nat} {G G' : Nat → Nat → Bool} (h : FoS w wr b q cap rs N F e p r0 tb G) (k : Fr [tb] wr wr') (hB : Blk wr' tb 702 (ftF G')) : FoS w wr' b q cap rs N F e p r0 tb G' := by
 obtain ⟨h1, h2, h3, h4, h5, h6, h7, h8⟩ := h
 exact ⟨h1.trans1 k (Or.inr (by omega)), h2.fr k (by simp; omega) (by simp; omega), h3.fr1 k (by omega), hB, h5, h6, h7, h8⟩
theorem fo0_join (st : Nat) : zch (fun _ _ => false) st (fun x => x == 36) = fo0 st := by
 funext a x; simp [zch, fo0]
set_option maxRecDepth 100000 in
set_option maxHeartbeats 3200000 in
theorem p_followTable (b q cap : Nat) (rs : List Ru) (N : Nat → Bool) (F : Nat → Nat → Bool) (e p : Int) (w : World) (h : GAt w b q cap rs N F e p) (hok : RuOk rs) (hst : bigB (stOf rs) = true) :
 Calls Tryz.prog 68 #[.pointer (some ⟨b, 0, none⟩)] w fun e' w' => e' = .returned (Agg 702 (ftF (zbj (zar (zaz N F rs)) rs.length (fo0 (stOf rs))))) ∧ Fr [] w w' := by
 have hlen := h.len
 have H := hide h
 have HOk := hide hok
 have HSt := hide hst
 have lb0 := h.blk.lt
 clear h hok hst
 go_enter Tryz.func68, Tryz.ntmps68
 go_wp2_with (first
  | (refine zab rfl 51 rfl (some 2) rfl 702 _ Tryz.zeroTab ?_; intro w1 hf1 hs1 hB1; have HA := hide (And.intro hf1 (And.intro hs1 hB1)); clear hf1 hs1 hB1)
  | (refine zab rfl 51 rfl (some 3) rfl 702 _ Tryz.zeroTab ?_; intro w2 hf2 hs2 hB2; have HB := hide (And.intro hf2 (And.intro hs2 hB2)); clear hf2 hs2 hB2)
  | (refine zab rfl 48 rfl (some 4) rfl 27 _ Tryz.zeroSign ?_; intro w3 hf3 hs3 hB3; have HC := hide (And.intro hf3 (And.intro hs3 hB3)); clear hf3 hs3 hB3)
  | (go_at_call 100; refine (p_sadd_end w2.heap.size 27 (sgF fun _ => false) _ (by exact (zaa HC).2.2) (by omega)).mono ?_; rintro e' w4 ⟨rfl, hf4, hB4⟩; have HD := hide (And.intro hf4 (hB4.congr (g := sgF (fun x => x == 36)) fun i _ => sgF_end i)); clear hf4 hB4))
 have HS := hide (show FoS w w4 b q cap rs N F e p w.heap.size w1.heap.size (fun _ _ => false) from
  FoS.far (wr := w3) ⟨((zaa HA).1.trans0 (zaa HB).1).trans0 (zaa HC).1, (((zaa H).fr0 (zaa HA).1).fr0 (zaa HB).1).fr0 (zaa HC).1, ((zaa HA).2.2.fr0 (zaa HB).1).fr0 (zaa HC).1, (zaa HB).2.2.fr0 (zaa HC).1, Nat.le_refl _, by have := (zaa HA).2.1; omega, (zaa H).blk.lt, (zaa H).lt⟩ (zaa HD).1 (by have := (zaa HB).2.1; omega))
 have lb1 : w.heap.size < w1.heap.size := by have := (zaa HA).2.1; omega
 have lb2 : w1.heap.size < w2.heap.size := by have := (zaa HB).2.1; omega
 have HE := hide (zaa HD).2
 clear HA HB HC HD H
 refine wp_region_held_drew (S := fun w' => Blk w' b 758 (gF (.slice (some ⟨q, 0, none⟩) rs.length cap) (stOf rs) (rset rs) N F e p) ∧ Blk w' w2.heap.size 27 (sgF (fun x => x == 36))) (by kernel_rfl) ⟨(zaa HS).2.1.blk.drew, (zaa HE).drew⟩ (fun hHeld => ?_)
 refine wpAnyH_take (i := 0) (v := .pointer (some ⟨b, 0, none⟩)) rfl (by kernel_rfl) (by kernel_rfl) (by kernel_rfl) (fun _ _ _ h => h) (Or.inl ⟨by rfl, fun _ _ => rfl⟩) hHeld ?_
 refine wpAnyH_take (i := 1) (v := .pointer (some ⟨b, 0, none⟩)) rfl (by kernel_rfl) (by kernel_rfl) (by kernel_rfl) (fun _ _ _ h => h) (Or.inl ⟨by rfl, fun _ _ => rfl⟩) hHeld ?_
 refine wpAnyH_take (i := 2) (v := .pointer (some ⟨b, 1, none⟩)) rfl (by kernel_rfl) (by kernel_rfl) (by kernel_rfl) (fun _ _ _ h => h) (Or.inl ⟨by rfl, fun _ _ => by go_simp⟩) hHeld ?_
 refine wpAnyH_take (i := 3) (v := .int .u8 (stOf rs)) rfl (by kernel_rfl) (by kernel_rfl) (by kernel_rfl) (fun _ _ _ h => h) (Or.inl ⟨by rfl, fun w' hw => by (have hc : w'.cell? ⟨b, 1, none⟩ = some (.int .u8 (stOf rs)) := hw.1.cell 1 (by omega)); go_simp⟩) hHeld ?_
 refine wpAnyH_take (i := 4) rfl (by kernel_rfl) (by kernel_rfl) (by kernel_rfl) (fun _ _ _ h => h) (zbq (by rfl) 48 (.tmp 4) rfl w2.heap.size 0 27 27 (sgF (fun x => x == 36)) _ rfl (fun _ h => h.2) Tryz.underlying48 rfl Tryz.sizeSign (by omega)) hHeld ?_
 refine wpAnyH_ready (rs := [5]) (by kernel_rfl) (by simp) ?_
 refine AllReadyH.cons rfl (fun K hK => ?_) AllReadyH.nil
 rw [if_pos (by rfl)]
 go_wp2_with fail
 refine (p_taddT w1.heap.size (stOf rs) (fun _ _ => false) _ _ (by exact (zaa HS).2.2.2.1.drew) (zaa HSt)).mono ?_
 rintro e' w5 ⟨rfl, hf5, hB5⟩
 refine hK.out _ _ ⟨hHeld.1.fr1 hf5 (by omega), hHeld.2.fr1 hf5 (by omega)⟩ (fun _ => ?_)
 refine wpAnyH_done (by kernel_rfl) ?_ _
 have HT := hide (show FoS w w5 b q cap rs N F e p w.heap.size w1.heap.size (fo0 (stOf rs)) from by
  rw [fo0_join] at hB5
  exact ((zaa HS).fr (Fr.refl [] _).drew).put hf5 hB5)
 clear hf5 hB5 hK hHeld HS HE
 go_wp2
 go_loopw [5] (fun r wr => ∃ k : Nat, k ≤ rs.length ∧ r = .int .i64 k ∧ Hid (FoS w wr b q cap rs N F e p w.heap.size w1.heap.size (zbj (zar (zaz N F rs)) k (fo0 (stOf rs))))) (fun r _ => rs.length - (intOf r).toNat)
 case atStart => exact ⟨0, by omega, rfl, HT⟩
 case round =>
  obtain ⟨k, hk, rfl, hs⟩ := hrel
  have c0 := (zaa hs).2.1.c0
  by_cases hlt : k < rs.length
  ·go_wp2
   clear c0
   go_loopw [6] (fun i wr2 => ∃ j : Nat, j ≤ rs.length ∧ i = .int .i64 j ∧ Hid (FoS w wr2 b q cap rs N F e p w.heap.size w1.heap.size (zar (zaz N F (rs.take j)) (zbj (zar (zaz N F rs)) k (fo0 (stOf rs)))))) (fun i _ => rs.length - (intOf i).toNat)
   case atStart => exact ⟨0, by omega, rfl, hs⟩
   case round =>
    obtain ⟨j, hj, rfl, hs2⟩ := hrel
    have c0 := (zaa hs2).2.1.c0
    by_cases hjt : j < rs.length
    ·obtain ⟨a0, a1, a2⟩ := (zaa hs2).2.1.ru j hjt
     have HSm := hide ((zaa hs2).2.1.small j hjt).1
     have HU := hide (foSteps_succ N F rs j hjt (zbj (zar (zaz N F rs)) k (fo0 (stOf rs))))
     have HNe := hide (show b ≠ w1.heap.size ∧ q ≠ w1.heap.size from by
      obtain ⟨_, _, _, _, x5, x6, x7, x8⟩ := zaa hs2
      omega)
     go_wp2_with (go_at_call 112; refine (p_spreadFollow b q cap rs N F e p w1.heap.size rs[j] _ _ (by exact (zaa hs2).2.1) (by exact (zaa hs2).2.2.2.1) (zaa HNe).1 (zaa HNe).2 (zaa HOk j hjt).1 (zaa HSm) (zaa HOk j hjt).2).mono ?_; rintro e' w6 ⟨rfl, hf6, hB6⟩; have HY := hide (show FoS w w6 b q cap rs N F e p w.heap.size w1.heap.size (zar (zaz N F (rs.take (j + 1))) (zbj (zar (zaz N F rs)) k (fo0 (stOf rs)))) from by rw [zaa HU]; exact (zaa hs2).put hf6 hB6); clear hf6 hB6)
     go_roundw
     case rel => exact ⟨j + 1, by omega, by go_num, HY⟩
     case measure => simp [intOf]; omega
    ·have HY := hide (show FoS w wr b q cap rs N F e p w.heap.size w1.heap.size (zbj (zar (zaz N F rs)) (k + 1) (fo0 (stOf rs))) from by
      have := zaa hs2
      rw [foSteps_all _ _ _ _ (by omega)] at this; exact this)
     clear hs2
     go_wp2
     go_roundw
     case rel => exact ⟨k + 1, by omega, by go_num, HY⟩
     case measure => simp [intOf]; omega
  ·have HK := hide (show k = rs.length by omega)
   generalize hG : zbj (zar (zaz N F rs)) k (fo0 (stOf rs)) = G at *
   have HG := hide hG
   clear hG
   go_wp2_with (first | (refine zaf rfl 51 (.tmp 3) rfl (some 41) rfl w1.heap.size 0 702 702 (ftF G) _ rfl (by exact (zaa hs).2.2.2.1) Tryz.underlying51 rfl Tryz.sizeTab (by omega) ?_) | (refine zac rfl 51 (.tmp 2) (.tmp 41) rfl w.heap.size 0 702 702 (ftF fun _ _ => false) (fun i => ftF G (0 + i)) rfl rfl (by exact (zaa hs).2.2.1) Tryz.sizeTab (by omega) (by intro i hi; rfl) ?_; intro w7 hf7 hs7 hB7))
   exact bodyPost_ret (zaj Tryz.results68 _ w.heap.size rfl 702 702 (ftF G) _ (hB7.congr fun i hi => by rw [zag _ _ _ i hi, Nat.zero_add]) Tryz.underlying51 rfl Tryz.sizeTab (by omega)) rfl ⟨by rw [← zaa HK, zaa HG], (zaa hs).1.trans1 hf7 (Or.inr (Nat.le_refl _))⟩
end Go.Proofs.YtkglggkkbmmjkabGreatDoor
namespace Go.Proofs.YtkglggkkbmmjkabGreatDoor
open Go.RowKit
def fErr (t s : ByteArray) : Nat := if wErr t s ≠ 0 then wErr t s else if s.size = 1 ∧ bigB (ch s 0) = true then 0 else 5
def zb8 (t s : ByteArray) : ByteArray := if fErr t s = 0 then lst (followT (zad t 8 0 []).1 (ch s 0)) else ⟨#[]⟩
theorem parse_ruOk (t : ByteArray) : RuOk (zad t 8 0 []).1 := fun i h =>
 ⟨((zaw t 8 0 [] (by simp)).1 _ (List.getElem_mem h)).1, ((zaw t 8 0 [] (by simp)).1 _ (List.getElem_mem h)).2.2.2⟩
theorem parse_st (t : ByteArray) (h : (zad t 8 0 []).2.2 = true) : bigB (stOf (zad t 8 0 []).1) = true := by
 have hpos := (zaw t 8 0 [] (by simp)).2.2 h
 have hl := zb0 t
 generalize (zad t 8 0 []).1 = rs at *
 cases rs with
 | nil => simp at hpos
 | cons r l => exact hl r (List.mem_cons_self ..)
set_option maxHeartbeats 1600000 in
theorem p_Follow_bad (t s : ByteArray) (w : World) (ht : t.size ≤ 9223372036854775807) (hm : s.size ≤ 9223372036854775807) (h0 : wErr t s ≠ 0) :
 Calls Tryz.prog 22 #[.string t, .string s] w fun e w' => e = .returned (.tuple #[.string ⟨#[]⟩, .int .i64 (wErr t s)]) ∧ Fr [] w w' := by
 have hb : ((((wErr t s : Nat) : Int)) != 0) = true := by rw [bne_iff_ne]; omega
 clear h0
 go_enter Tryz.func22, Tryz.ntmps22
 go_wp2_with (first
  | (go_at_call 59; refine (zbp t s _ ht hm).mono ?_; rintro e w1 ⟨f, rfl, hg⟩; have HG := hide hg; clear hg)
  | (refine zab rfl 53 rfl (some 6) rfl 758 _ Tryz.zeroGram ?_; intro w2 hf2 hs2 hB2; have HF2 := hide hf2; have HB2 := hide hB2; clear hf2 hs2 hB2)
  | (refine zac rfl 53 (.tmp 6) (.tmp 11) rfl w1.heap.size 0 758 758 (gF (.slice none 0 0) 0 (fun _ => false) (fun _ => false) (fun _ _ => false) 0 0) f rfl rfl (by exact zaa HB2) Tryz.sizeGram (by omega) (by exact (zaa HG).2.1) ?_; intro w3 hf3 hs3 hB3; have HF3 := hide hf3; have c6 := (hB3.cell 756 (by omega)).trans (congrArg some ((zag _ _ _ _ (by omega)).trans (zaa HG).2.2.1)); clear hf3 hs3 hB3))
 go_quiet (fail)
 go_wp2
 go_ret2
 exact ⟨rfl, (((zaa HG).1.trans0 (zaa HF2)).trans1 (zaa HF3) (Or.inr (zaa HG).1.size)).trans0 (zal _ _)⟩
set_option maxHeartbeats 1600000 in
theorem p_Follow_not (t s : ByteArray) (w : World) (ht : t.size ≤ 9223372036854775807) (hm : s.size ≤ 9223372036854775807) (h0 : wErr t s = 0) (h1 : ¬ (s.size = 1 ∧ bigB (ch s 0) = true)) :
 Calls Tryz.prog 22 #[.string t, .string s] w fun e w' => e = .returned (.tuple #[.string ⟨#[]⟩, .int .i64 5]) ∧ Fr [] w w' := by
 have hb : ((((wErr t s : Nat) : Int)) != 0) = false := by simp; omega
 have H0 := hide h0
 by_cases hs1 : s.size = 1
 ·have hbig : bigB s[0].toNat = false := by
   rw [← za8 s 0 (by omega)]
   cases h : bigB (ch s 0)
   ·rfl
   ·exact absurd ⟨hs1, h⟩ h1
  have e0 : ((s.size : Int) != 1) = false := by rw [hs1]; rfl
  have l0 : 0 < s.size := by omega
  clear h0 h1
  go_enter Tryz.func22, Tryz.ntmps22
  go_wp2_with (first
   | (go_at_call 59; refine (zbp t s _ ht hm).mono ?_; rintro e w1 ⟨f, rfl, hg⟩; have HG := hide hg; clear hg)
   | (refine zab rfl 53 rfl (some 6) rfl 758 _ Tryz.zeroGram ?_; intro w2 hf2 hs2 hB2; have HF2 := hide hf2; have HB2 := hide hB2; clear hf2 hs2 hB2)
   | (refine zac rfl 53 (.tmp 6) (.tmp 11) rfl w1.heap.size 0 758 758 (gF (.slice none 0 0) 0 (fun _ => false) (fun _ => false) (fun _ _ => false) 0 0) f rfl rfl (by exact zaa HB2) Tryz.sizeGram (by omega) (by exact (zaa HG).2.1) ?_; intro w3 hf3 hs3 hB3; have HF3 := hide hf3; have c6 := (hB3.cell 756 (by omega)).trans (congrArg some ((zag _ _ _ _ (by omega)).trans (zaa HG).2.2.1)); clear hf3 hs3 hB3)
   | (go_at_call 67; refine (p_isBig_no _ _ hbig).mono ?_; rintro e w' ⟨rfl, rfl⟩))
  go_ret2
  exact ⟨rfl, ((zaa HG).1.trans0 (zaa HF2)).trans1 (zaa HF3) (Or.inr (zaa HG).1.size)⟩
 ·have e0 : ((s.size : Int) != 1) = true := by rw [bne_iff_ne]; omega
  clear h0 h1
  go_enter Tryz.func22, Tryz.ntmps22
  go_wp2_with (first
   | (go_at_call 59; refine (zbp t s _ ht hm).mono ?_; rintro e w1 ⟨f, rfl, hg⟩; have HG := hide hg; clear hg)
   | (refine zab rfl 53 rfl (some 6) rfl 758 _ Tryz.zeroGram ?_; intro w2 hf2 hs2 hB2; have HF2 := hide hf2; have HB2 := hide hB2; clear hf2 hs2 hB2)
   | (refine zac rfl 53 (.tmp 6) (.tmp 11) rfl w1.heap.size 0 758 758 (gF (.slice none 0 0) 0 (fun _ => false) (fun _ => false) (fun _ _ => false) 0 0) f rfl rfl (by exact zaa HB2) Tryz.sizeGram (by omega) (by exact (zaa HG).2.1) ?_; intro w3 hf3 hs3 hB3; have HF3 := hide hf3; have c6 := (hB3.cell 756 (by omega)).trans (congrArg some ((zag _ _ _ _ (by omega)).trans (zaa HG).2.2.1)); clear hf3 hs3 hB3))
  go_ret2
  exact ⟨rfl, ((zaa HG).1.trans0 (zaa HF2)).trans1 (zaa HF3) (Or.inr (zaa HG).1.size)⟩
set_option maxRecDepth 100000 in
set_option maxHeartbeats 1600000 in
theorem p_Follow_good (t s : ByteArray) (w : World) (ht : t.size ≤ 9223372036854775807) (hm : s.size ≤ 9223372036854775807) (h0 : wErr t s = 0) (hs1 : s.size = 1) (hbg : bigB (ch s 0) = true) :
 Calls Tryz.prog 22 #[.string t, .string s] w fun e w' => e = .returned (.tuple #[.string (lst (followT (zad t 8 0 []).1 (ch s 0))), .int .i64 0]) ∧ Fr [] w w' := by
 have hb : ((((wErr t s : Nat) : Int)) != 0) = false := by simp; omega
 have H0 := hide h0
 have HC := hide (za8 s 0 (by omega))
 have hbig : bigB s[0].toNat = true := by rw [← za8 s 0 (by omega)]; exact hbg
 have e0 : ((s.size : Int) != 1) = false := by rw [hs1]; rfl
 have l0 : 0 < s.size := by omega
 obtain ⟨G, hG⟩ : ∃ G, zbj (zar (zaz (zan (zad t 8 0 []).1) (zau (zad t 8 0 []).1) (zad t 8 0 []).1)) (zad t 8 0 []).1.length (fo0 (stOf (zad t 8 0 []).1)) = G := ⟨_, rfl⟩
 have HG0 := hide hG
 clear h0 hbg hG
 go_enter Tryz.func22, Tryz.ntmps22
 go_wp2_with (first
  | (go_at_call 59; refine (zbp t s _ ht hm).mono ?_; rintro e w1 ⟨f, rfl, hg⟩; have HG := hide hg; clear hg)
  | (refine zab rfl 53 rfl (some 6) rfl 758 _ Tryz.zeroGram ?_; intro w2 hf2 hs2 hB2; have HF2 := hide hf2; have HB2 := hide hB2; clear hf2 hs2 hB2)
  | (refine zac rfl 53 (.tmp 6) (.tmp 11) rfl w1.heap.size 0 758 758 (gF (.slice none 0 0) 0 (fun _ => false) (fun _ => false) (fun _ _ => false) 0 0) f rfl rfl (by exact zaa HB2) Tryz.sizeGram (by omega) (by exact (zaa HG).2.1) ?_; intro w3 hf3 hs3 hB3; obtain ⟨q, cap, hg3⟩ := gat_of_word (zaa HG) (zaa H0) (zaa HF2) hf3 hB3; have HG3 := hide hg3; have HF3 := hide (((zaa HG).1.trans0 (zaa HF2)).trans1 hf3 (Or.inr (zaa HG).1.size)); have c6 := (hB3.cell 756 (by omega)).trans (congrArg some ((zag _ _ _ _ (by omega)).trans (zaa HG).2.2.1)); clear hf3 hs3 hB3 hg3)
  | (go_at_call 67; refine (zbr _ true _ hbig).mono ?_; rintro e w' ⟨rfl, rfl⟩)
  | (go_at_call 68; refine (p_followTable w1.heap.size q cap (zad t 8 0 []).1 _ _ 0 0 _ (by exact zaa HG3) (parse_ruOk t) (parse_st t ((zaa HG).2.2.2 (zaa H0)).2.2.2.1)).mono ?_; rintro e w4 ⟨rfl, hf4⟩; rw [zaa HG0]; have HF4 := hide ((zaa HF3).trans0 hf4); clear hf4)
  | (refine zab rfl 51 rfl (some 7) rfl 702 _ Tryz.zeroTab ?_; intro w5 hf5 hs5 hB5; have HF5 := hide ((zaa HF4).trans0 hf5); have HB5 := hide hB5; clear hf5 hs5 hB5)
  | (refine zac rfl 51 (.tmp 7) (.tmp 26) rfl w4.heap.size 0 702 702 (ftF fun _ _ => false) (ftF G) rfl rfl (by exact zaa HB5) Tryz.sizeTab (by omega) (by intro i hi; rfl) ?_; intro w6 hf6 hs6 hB6; have HF6 := hide ((zaa HF5).trans1 hf6 (Or.inr (zaa HF4).size)); have HB6 := hide (hB6.congr (g := ftF G) fun i hi => zag _ _ _ i hi); clear hf6 hs6 hB6)
  | (go_at_call 69; refine (p_getT w4.heap.size s[0].toNat G _ (by exact zaa HB6) hbig).mono ?_; rintro e w7 ⟨rfl, hf7⟩; have HF7 := hide ((zaa HF6).trans0 hf7); clear hf7)
  | (refine zab rfl 48 rfl (some 8) rfl 27 _ Tryz.zeroSign ?_; intro w8 hf8 hs8 hB8; have HF8 := hide ((zaa HF7).trans0 hf8); have HB8 := hide hB8; clear hf8 hs8 hB8)
  | (refine zac rfl 48 (.tmp 8) (.tmp 29) rfl w7.heap.size 0 27 27 (sgF fun _ => false) (sgF (G s[0].toNat)) rfl rfl (by exact zaa HB8) Tryz.sizeSign (by omega) (by intro i hi; rfl) ?_; intro w9 hf9 hs9 hB9; have HF9 := hide ((zaa HF8).trans1 hf9 (Or.inr (zaa HF7).size)); have HB9 := hide (hB9.congr (g := sgF (G s[0].toNat)) fun i hi => zag _ _ _ i hi); clear hf9 hs9 hB9)
  | (go_at_call 45; refine (p_list w7.heap.size _ _ (by exact zaa HB9)).mono ?_; rintro e w10 ⟨rfl, hf10⟩; have HF10 := hide ((zaa HF9).trans0 hf10); clear hf10))
 go_ret2
 exact ⟨by rw [zaa HC, ← zaa HG0]; rfl, zaa HF10⟩
theorem p_Follow (t s : ByteArray) (w : World) (ht : t.size ≤ 9223372036854775807) (hm : s.size ≤ 9223372036854775807) :
 Calls Tryz.prog 22 #[.string t, .string s] w fun e w' => e = .returned (.tuple #[.string (zb8 t s), .int .i64 (fErr t s)]) ∧ Fr [] w w' := by
 by_cases h0 : wErr t s = 0
 ·by_cases h1 : s.size = 1 ∧ bigB (ch s 0) = true
  ·have e1 : fErr t s = 0 := by unfold fErr; rw [if_neg (by rw [h0]; simp), if_pos h1]
   have e2 : zb8 t s = lst (followT (zad t 8 0 []).1 (ch s 0)) := by unfold zb8; rw [if_pos e1]
   rw [e1, e2]; exact p_Follow_good t s w ht hm h0 h1.1 h1.2
  ·have e1 : fErr t s = 5 := by unfold fErr; rw [if_neg (by rw [h0]; simp), if_neg h1]
   have e2 : zb8 t s = ⟨#[]⟩ := by unfold zb8; rw [e1]; rfl
   rw [e1, e2]; exact p_Follow_not t s w ht hm h0 h1
 ·have e1 : fErr t s = wErr t s := by unfold fErr; rw [if_pos h0]
  have e2 : zb8 t s = ⟨#[]⟩ := by unfold zb8; rw [e1, if_neg h0]
  rw [e1, e2]; exact p_Follow_bad t s w ht hm h0
end Go.Proofs.YtkglggkkbmmjkabGreatDoor
namespace Go.Proofs.YtkglggkkbmmjkabGreatDoor
open Go.RowKit
set_option maxHeartbeats 1600000 in
theorem r_Follow_bad (t s : ByteArray) (w : World) (ht : t.size ≤ 9223372036854775807) (hm : s.size ≤ 9223372036854775807) (h0 : wErr t s ≠ 0) :
 Calls Tryz.prog 23 #[.string t, .string s] w fun e w' => e = .returned (.tuple #[.string ⟨#[]⟩, .int .i64 (wErr t s)]) ∧ Fr [] w w' := by
 have HW := hide (wErr_eq t s)
 have hb : ((((wErr t s : Nat) : Int)) != 0) = true := by rw [bne_iff_ne]; omega
 have H0 := hide (show rwErr t s ≠ 0 from fun h => h0 (by rw [← wErr_eq]; exact h))
 clear h0
 go_enter Tryz.func23, Tryz.ntmps23
 go_wp2_with (go_at_call 61; refine (r_asked t s _ ht hm).mono ?_; rintro e w1 ⟨hf1, h1, _⟩; obtain rfl := h1 (zaa H0); rw [zaa HW]; have HF1 := hide hf1; clear hf1 h1)
 go_ret2
 exact ⟨rfl, zaa HF1⟩
set_option maxHeartbeats 1600000 in
theorem r_Follow_not (t s : ByteArray) (w : World) (ht : t.size ≤ 9223372036854775807) (hm : s.size ≤ 9223372036854775807) (h0 : wErr t s = 0) (h1 : ¬ (s.size = 1 ∧ bigB (ch s 0) = true)) :
 Calls Tryz.prog 23 #[.string t, .string s] w fun e w' => e = .returned (.tuple #[.string ⟨#[]⟩, .int .i64 5]) ∧ Fr [] w w' := by
 have H0 := hide ((wErr_eq t s).trans h0)
 by_cases hs1 : s.size = 1
 ·have hbig : bigB s[0].toNat = false := by
   rw [← za8 s 0 (by omega)]
   cases h : bigB (ch s 0)
   ·rfl
   ·exact absurd ⟨hs1, h⟩ h1
  have e0 : ((s.size : Int) != 1) = false := by rw [hs1]; rfl
  have l0 : 0 < s.size := by omega
  clear h0 h1
  go_enter Tryz.func23, Tryz.ntmps23
  go_wp2_with (first
   | (go_at_call 61; refine (r_asked t s _ ht hm).mono ?_; rintro e w1 ⟨hf1, _, h2⟩; obtain ⟨hs12, _, _, _, hwd, q, cap, rfl, hla⟩ := h2 (zaa H0); have HF1 := hide hf1; clear hf1 h2 hla hwd)
   | (go_at_call 56; refine (zav _ false _ hbig).mono ?_; rintro e w' ⟨rfl, rfl⟩))
  go_ret2
  exact ⟨rfl, zaa HF1⟩
 ·have e0 : ((s.size : Int) != 1) = true := by rw [bne_iff_ne]; omega
  clear h0 h1
  go_enter Tryz.func23, Tryz.ntmps23
  go_wp2_with (first
   | (go_at_call 61; refine (r_asked t s _ ht hm).mono ?_; rintro e w1 ⟨hf1, _, h2⟩; obtain ⟨hs12, _, _, _, hwd, q, cap, rfl, hla⟩ := h2 (zaa H0); have HF1 := hide hf1; clear hf1 h2 hla hwd))
  go_ret2
  exact ⟨rfl, zaa HF1⟩
def RFo (w wr : World) (nb fb ob q : Nat) (rs : List Ru) (N : Nat → Bool) (T O : Nat → Nat → Bool) : Prop :=
 Fr [ob] w wr ∧ LAt wr q rs ∧ Blk wr nb 128 (sF N) ∧ Blk wr fb 3328 (tF T) ∧ Blk wr ob 3328 (tF O) ∧ nb < w.heap.size ∧ fb < w.heap.size ∧ q < w.heap.size ∧ ob < w.heap.size ∧ nb ≠ ob ∧ fb ≠ ob ∧ q ≠ ob
theorem RFo.fr {w wr wr' : World} {nb fb ob q : Nat} {rs : List Ru} {N : Nat → Bool} {T O : Nat → Nat → Bool} (h : RFo w wr nb fb ob q rs N T O) (k : Fr [] wr wr') : RFo w wr' nb fb ob q rs N T O := by
 obtain ⟨h1, h2, h3, h4, h5, h6⟩ := h
 exact ⟨h1.trans0 k, h2.fr0 k, h3.fr0 k, h4.fr0 k, h5.fr0 k, h6⟩
theorem RFo.far {w wr wr' : World} {nb fb ob q x : Nat} {rs : List Ru} {N : Nat → Bool} {T O : Nat → Nat → Bool} (h : RFo w wr nb fb ob q rs N T O) (k : Fr [x] wr wr') (hx : w.heap.size ≤ x) : RFo w wr' nb fb ob q rs N T O := by
 obtain ⟨h1, h2, h3, h4, h5, h6, h7, h8, h9, h10⟩ := h
 exact ⟨h1.trans1 k (Or.inr hx), h2.fr k (by simp; omega), h3.fr1 k (by omega), h4.fr1 k (by omega), h5.fr1 k (by omega), h6, h7, h8, h9, h10⟩
theorem RFo.put {w wr wr' : World} {nb fb ob q : Nat} {rs : List Ru} {N : Nat → Bool} {T O O' : Nat → Nat → Bool} (h : RFo w wr nb fb ob q rs N T O) (k : Fr [ob] wr wr') (hB : Blk wr' ob 3328 (tF O')) : RFo w wr' nb fb ob q rs N T O' := by
 obtain ⟨h1, h2, h3, h4, h5, h6, h7, h8, h9, h10, h11, h12⟩ := h
 exact ⟨h1.trans k (by simp), h2.fr k (by simp; omega), h3.fr1 k (by omega), h4.fr1 k (by omega), hB, h6, h7, h8, h9, h10, h11, h12⟩
theorem RFo.size {w wr : World} {nb fb ob q : Nat} {rs : List Ru} {N : Nat → Bool} {T O : Nat → Nat → Bool} (h : RFo w wr nb fb ob q rs N T O) : w.heap.size ≤ wr.heap.size := h.1.size
theorem tF_fo0 (st : Nat) (h : bigB st = true) (i : Nat) (hi : i < 3328) : upd (tF fun _ _ => false) ((st - 65) * 128 + 36) (.bool true) i = tF (fo0 st) i := by
 have hb := zao.1 h
 unfold upd
 by_cases e : i = (st - 65) * 128 + 36
 ·rw [if_pos e, e, tF_at _ st 36 h (by omega)]
  simp [fo0]
 ·rw [if_neg e]
  unfold tF fo0
  have : (65 + i / 128 == st && i % 128 == 36) = false := by
   rw [Bool.and_eq_false_iff, beq_eq_false_iff_ne, beq_eq_false_iff_ne]
   have hd := Nat.div_add_mod i 128
   by_cases e1 : 65 + i / 128 = st
   ·right
    intro e2
    have h3 : i / 128 = st - 65 := by omega
    rw [h3, e2] at hd
    omega
   ·exact Or.inl e1
  rw [this]
theorem st_get {rs : List Ru} (h : 0 < rs.length) : rs[0].L = stOf rs := by
 cases rs with
 | nil => simp at h
 | cons r l => rfl
set_option maxRecDepth 100000 in
set_option maxHeartbeats 6400000 in
theorem r_Follow_good (t s : ByteArray) (w : World) (ht : t.size ≤ 9223372036854775807) (hm : s.size ≤ 9223372036854775807) (h0 : wErr t s = 0) (hs1 : s.size = 1) (hbg : bigB (ch s 0) = true) :
 Calls Tryz.prog 23 #[.string t, .string s] w fun e w' => e = .returned (.tuple #[.string (lst (followT (zad t 8 0 []).1 (ch s 0))), .int .i64 0]) ∧ Fr [] w w' := by
 obtain ⟨i0, hi0, hz0, hz1, hz2⟩ := info_parts Tryz.infoSet
 have H0 := hide ((wErr_eq t s).trans h0)
 have HC := hide (za8 s 0 (by omega))
 have hbig : bigB s[0].toNat = true := by rw [← za8 s 0 (by omega)]; exact hbg
 have HBig := hide hbig
 have e0 : ((s.size : Int) != 1) = false := by rw [hs1]; rfl
 have l0 : 0 < s.size := by omega
 have hGE : (rErr t).1 = 0 → ∀ N F, ∀ s ∈ zaz N F (zad t 8 0 []).1, rset (zad t 8 0 []).1 s.L = true := fun h N F => foSteps_in (by rw [gErr_eq]; exact h) N F
 have hNE := nulls_eq (zad t 8 0 []).1 (zb0 t)
 have hNB := nulls_bigs (zad t 8 0 []).1 (zb0 t)
 have hPos := (zaw t 8 0 [] (by simp)).2.2
 obtain ⟨rs, hrs⟩ : ∃ rs, (zad t 8 0 []).1 = rs := ⟨_, rfl⟩
 rw [hrs] at hGE hNE hNB hPos ⊢
 have HRS := hide hrs
 have HGE := hide hGE
 have HNE := hide hNE
 have HVan := hide (show vanB (zan rs) false = zan rs from funext (van_eq0 hNB))
 have HPos := hide hPos
 clear h0 hbg hGE hNE hNB hPos hrs
 go_enter Tryz.func23, Tryz.ntmps23
 go_wp2_with (first
  | (go_at_call 61; refine (r_asked t s _ ht hm).mono ?_; rintro e w1 ⟨hf1, _, h2⟩; obtain ⟨_, _, her, hok, _, q, cap, rfl, hla⟩ := h2 (zaa H0); rw [zaa HRS] at hla ⊢; have HF1 := hide hf1; have HL1 := hide hla; have hlen := hla.len; have hpos : 0 < rs.length := zaa HPos hok; have HIn := hide (zaa HGE her); clear hf1 h2 hla HPos HGE her hok)
  | (go_at_call 56; refine (zav _ true _ hbig).mono ?_; rintro e w' ⟨rfl, rfl⟩)
  | (go_at_call 62; refine (r_nulls q cap _ _ (by exact zaa HL1)).mono ?_; rintro e w2 ⟨rfl, hf2⟩; rw [zaa HNE]; have HF2 := hide ((zaa HF1).trans0 hf2); have HL2 := hide ((zaa HL1).fr0 hf2); clear hf2)
  | (refine zab rfl 105 rfl (some 8) rfl 128 _ Tryz.zeroSet ?_; intro w3 hf3 hs3 hB3; have HF3 := hide ((zaa HF2).trans0 hf3); have HL3 := hide ((zaa HL2).fr0 hf3); have HB3 := hide hB3; clear hf3 hs3 hB3)
  | (refine zac rfl 105 (.tmp 8) (.tmp 38) rfl w2.heap.size 0 128 128 (sF fun _ => false) (sF (zan rs)) rfl rfl (by exact zaa HB3) Tryz.sizeSet (by omega) (by intro i hi; rfl) ?_; intro w4 hf4 hs4 hB4; have HF4 := hide ((zaa HF3).trans1 hf4 (Or.inr (zaa HF2).size)); have HL4 := hide ((zaa HL3).fr hf4 (by have := (zaa HL2).lt; simp; omega)); have HB4 := hide (hB4.congr (g := sF (zan rs)) fun i hi => zag _ _ _ i hi); clear hf4 hs4 hB4)
  | (go_at_call 65; refine (r_firsts q cap w2.heap.size _ _ _ (by exact zaa HL4) (by exact zaa HB4)).mono ?_; rintro e w5 ⟨fb, T, rfl, hf5, hfb, hB5, hT⟩; have HF5 := hide ((zaa HF4).trans0 hf5); have HL5 := hide ((zaa HL4).fr0 hf5); have HN5 := hide ((zaa HB4).fr0 hf5); have HT5 := hide hB5; have HE := hide hT; clear hf5 hB5 hT hfb)
  | (refine wpList_make_blk rfl _ _ 117 rfl (some 41) rfl 105 i0 _ Tryz.underlying117 hi0 hz0 .i64 .i64 26 3328 rfl rfl (by rw [hz1]) (by rw [hz2]; omega) (by omega) (tF fun _ _ => false) (fun j _ => made_set j) ?_; intro w6 hf6 hs6 hB6; have HF6 := hide ((zaa HF5).trans0 hf6); have HL6 := hide ((zaa HL5).fr0 hf6); have HN6 := hide ((zaa HN5).fr0 hf6); have HT6 := hide ((zaa HT5).fr0 hf6); have HO6 := hide hB6; have a0 : w6.cell? ⟨q, 0, none⟩ = some (.int .u8 rs[0].L) := ((zaa HL6).ru 0 hpos).1; have HOk0 := hide ((zaa HL6).ok 0 hpos).1; have hb0 := zao.1 (zaa HOk0); have f0 : (0 : Int) ≤ (rs[0].L : Int) - 65 := (by omega); have f1 : (rs[0].L : Int) - 65 < 26 := (by omega); have c0 : w6.cell? ⟨w5.heap.size, (rs[0].L - 65) * 128 + 36, none⟩ = some (.bool false) := (zaa HO6).cell _ (by omega); have z0 := (zaa HO6).free ((rs[0].L - 65) * 128 + 36); clear hf6 hs6 hB6))
 have HW := hide (show RFo (w6.setCell ⟨w5.heap.size, (rs[0].L - 65) * 128 + 36, none⟩ (.bool true)) (w6.setCell ⟨w5.heap.size, (rs[0].L - 65) * 128 + 36, none⟩ (.bool true)) w2.heap.size fb w5.heap.size q rs (zan rs) T (fo0 (stOf rs)) from by
  have k := ((Fr.refl [w5.heap.size] w6).setCell ⟨w5.heap.size, (rs[0].L - 65) * 128 + 36, none⟩ (by simp) (.bool true))
  have l1 := (zaa HN5).lt
  have l2 := (zaa HT5).lt
  have l3 := (zaa HL5).lt
  have l4 := (zaa HO6).lt
  have l5 : (w6.setCell ⟨w5.heap.size, (rs[0].L - 65) * 128 + 36, none⟩ (.bool true)).heap.size = w6.heap.size := by simp
  exact ⟨Fr.refl _ _, (zaa HL6).fr k (by simp; omega), (zaa HN6).fr1 k (by omega), (zaa HT6).fr1 k (by omega), ((zaa HO6).setCell _ _).congr (g := tF (fo0 (stOf rs))) fun i hi => by rw [st_get hpos]; exact tF_fo0 _ (by rw [← st_get hpos]; exact zaa HOk0) i hi, by omega, by omega, by omega, by omega, by omega, by omega, by omega⟩)
 have HF7 := hide ((zaa HF6).trans1 ((Fr.refl [w5.heap.size] w6).setCell ⟨w5.heap.size, (rs[0].L - 65) * 128 + 36, none⟩ (by simp) (.bool true)) (Or.inr (zaa HF5).size))
 have HSz := hide (zaa HF5).size
 generalize hW7 : w6.setCell ⟨w5.heap.size, (rs[0].L - 65) * 128 + 36, none⟩ (.bool true) = w7 at *
 clear hW7 c0 z0 a0 f0 f1 hb0 HOk0 HF1 HF2 HF3 HF4 HF5 HF6 HL1 HL2 HL3 HL4 HL5 HL6 HB3 HB4 HN5 HN6 HT5 HT6 HO6
 go_loopg [11] (rs.length + 2) (fun g v wr => ∃ (k : Nat) (mv : Bool), g + k = rs.length + 2 ∧ v = .bool mv ∧ Hid (Stand (zaz (zan rs) T rs) (fo0 (stOf rs)) rs.length k mv) ∧ Hid (RFo w7 wr w2.heap.size fb w5.heap.size q rs (zan rs) T (zbj (zar (zaz (zan rs) T rs)) k (fo0 (stOf rs)))))
 case atStart => exact ⟨0, true, rfl, rfl, Stand.start _ _ _, HW⟩
 case round =>
  obtain ⟨k, mv, hg, rfl, hst, hs⟩ := hrel
  cases mv
  ·have HEnd := hide (show rlst (zbj (zar (zaz (zan rs) T rs)) k (fo0 (stOf rs)) s[0].toNat) = lst (followT rs (ch s 0)) from by
    rw [zaa HC]
    exact rlst_eq (fun x hx => by rw [(zaa hst).2 rfl _ x hx]; exact fo_iter_alike (fun c => zaa HE c x hx) rs _ _ _) (followT_sgn rs _))
   generalize zbj (zar (zaz (zan rs) T rs)) k (fo0 (stOf rs)) = O at *
   have hb0 := zao.1 hbig
   have f0 : (0 : Int) ≤ (s[0].toNat : Int) - 65 := by omega
   have f1 : (s[0].toNat : Int) - 65 < 26 := by omega
   go_wp2_with (go_at_call 47; refine (r_list w5.heap.size ((s[0].toNat - 65) * 128) 3328 (tF O) (O s[0].toNat) _ (by exact (zaa hs).2.2.2.2.1) (by omega) (fun x hx => tF_at O _ x (zaa HBig) hx)).mono ?_; rintro e w8 ⟨rfl, hf8⟩; rw [zaa HEnd]; have HF8 := hide (((zaa HF7).trans1 (zaa hs).1 (Or.inr (zaa HSz))).trans0 hf8); clear hf8)
   go_ret2
   exact ⟨rfl, zaa HF8⟩
  ·have hk := (zaa hst).1 rfl
   obtain ⟨K, hK⟩ : ∃ K, zbj (zar (zaz (zan rs) T rs)) k (fo0 (stOf rs)) = K := ⟨_, rfl⟩
   have HK := hide hK
   rw [hK] at hs
   clear hK
   go_wp2
   go_loopw [11, 12] (fun v j wr2 => ∃ (i : Nat) (mv : Bool), i ≤ rs.length ∧ v = .bool mv ∧ j = .int .i64 i ∧ Hid (Grew K (zar (zaz (zan rs) T (rs.take i)) K) mv) ∧ Hid (RFo w7 wr2 w2.heap.size fb w5.heap.size q rs (zan rs) T (zar (zaz (zan rs) T (rs.take i)) K))) (fun _ j _ => rs.length - (intOf j).toNat)
   case atStart => exact ⟨0, false, by omega, rfl, rfl, Grew.start _, hs⟩
   case round =>
    obtain ⟨i, mv, hi, rfl, rfl, hgr, hs2⟩ := hrel
    by_cases hit : i < rs.length
    ·have HU2 := hide (foSteps_succ (zan rs) T rs i hit K)
     obtain ⟨G, hG⟩ : ∃ G, zar (zaz (zan rs) T (rs.take i)) K = G := ⟨_, rfl⟩
     rw [hG] at hgr hs2
     have HU := hide ((zaa HU2).trans (by rw [hG]))
     clear hG HU2
     have hsm := ((zaa hs2).2.1.small i hit).1
     have HOk := hide ((zaa hs2).2.1.ok i hit)
     go_wp2
     go_loopw [11, 13] (fun v j wr3 => ∃ (p : Nat) (mv : Bool), p ≤ rs[i].R.size ∧ v = .bool mv ∧ j = .int .i64 p ∧ Hid (Grew K (zar (foRU (zan rs) T rs[i] p) G) mv) ∧ Hid (RFo w7 wr3 w2.heap.size fb w5.heap.size q rs (zan rs) T (zar (foRU (zan rs) T rs[i] p) G))) (fun _ j _ => rs[i].R.size - (intOf j).toNat)
     case atStart => exact ⟨0, mv, by omega, rfl, rfl, hgr, hs2⟩
     case round =>
      obtain ⟨p, mv, hp, rfl, rfl, hgr3, hs3⟩ := hrel
      obtain ⟨a0, a1, a2⟩ := (zaa hs3).2.1.ru i hit
      by_cases hpt : p < rs[i].R.size
      ·have HCh := hide (za8 rs[i].R p hpt)
       cases hbg : bigB rs[i].R[p].toNat
       ·have HU := hide (show zar (foRU (zan rs) T rs[i] (p + 1)) G = zar (foRU (zan rs) T rs[i] p) G from foRU_not _ _ _ _ (by rw [zaa HCh]; exact hbg) _)
        go_wp2_with (go_at_call 56; refine (zav _ false _ hbg).mono ?_; rintro e w' ⟨rfl, rfl⟩)
        go_roundw
        case rel => exact ⟨p + 1, mv, by omega, rfl, by go_num, hide (by rw [zaa HU]; exact zaa hgr3), hide (by rw [zaa HU]; exact zaa hs3)⟩
        case measure => simp [intOf]; omega
       ·have HBg := hide hbg
        have HBR := hide (bytes_rest rs[i].R p)
        have HLR := hide (show ∀ j, j < (rs[i].R.extract (p + 1) rs[i].R.size).size → letB (ch (rs[i].R.extract (p + 1) rs[i].R.size) j) = true from fun j hj => by
         rw [ByteArray.size_extract] at hj
         rw [zcf _ _ _ _ (by omega) (by omega)]; exact (zaa HOk).2 _ (by omega))
        obtain ⟨O, hO⟩ : ∃ O, zar (foRU (zan rs) T rs[i] p) G = O := ⟨_, rfl⟩
        obtain ⟨FS, hFS⟩ : ∃ FS, foSet (zan rs) T rs[i] p (O rs[i].L) = FS := ⟨_, rfl⟩
        have HU := hide (show zar (foRU (zan rs) T rs[i] (p + 1)) G = zch O rs[i].R[p].toNat FS from by
         rw [foRU_big _ _ _ _ (by rw [zaa HCh]; exact hbg), hO, hFS, zaa HCh])
        rw [hO] at hgr3 hs3
        have HJ := hide ((zaa hgr3).join rs[i].R[p].toNat FS)
        obtain ⟨av, hav⟩ : ∃ av, anyNew (O rs[i].R[p].toNat) FS 128 = av := ⟨_, rfl⟩
        have HAV := hide hav
        have hb := zao.1 hbg
        have e0' : (0 : Int) ≤ (rs[i].R[p].toNat : Int) - 65 := by omega
        have e1' : (rs[i].R[p].toNat : Int) - 65 < 26 := by omega
        have hbL := zao.1 (zaa HOk).1
        have f0' : (0 : Int) ≤ (rs[i].L : Int) - 65 := by omega
        have f1' : (rs[i].L : Int) - 65 < 26 := by omega
        have HOff := hide (show (rs[i].L - 65) * 128 + 128 ≤ 3328 from by omega)
        have HOff2 := hide (show (rs[i].R[p].toNat - 65) * 128 + 128 ≤ 3328 from by omega)
        have HFS0 := hide hFS
        clear hav hO hbg hgr3 hFS
        cases hnv : ((bytes rs[i].R).drop (p + 1)).all (zan rs)
        ·have HNV := hide hnv
         have HFS := hide (show FS = beg (zan rs) T ((bytes rs[i].R).drop (p + 1)) from by
          rw [← zaa HFS0]; funext x; unfold foSet; rw [zaa HVan, hnv]; simp)
         clear hnv
         cases mv <;>
         (go_wp2_with (first
           | (go_at_call 56; refine (zav _ true _ (zaa HBg)).mono ?_; rintro e w' ⟨rfl, rfl⟩)
           | (go_at_call 66; refine (r_begins w2.heap.size fb 26 (zan rs) T _ _ (by exact (zaa hs3).2.2.1) (by exact (zaa hs3).2.2.2.1) (by rw [ByteArray.size_extract]; omega) (by exact zaa HLR)).mono ?_; rintro e wa ⟨rfl, hfa⟩; rw [zaa HBR]; have HXa := hide ((zaa hs3).fr hfa); clear hfa)
           | (refine zab rfl 105 rfl (some 16) rfl 128 _ Tryz.zeroSet ?_; intro wb hfb hsb hBb; have HXb := hide ((zaa HXa).fr hfb); have HBb := hide hBb; clear hfb hsb hBb)
           | (refine zac rfl 105 (.tmp 16) (.tmp 88) rfl wa.heap.size 0 128 128 (sF fun _ => false) (sF (beg (zan rs) T ((bytes rs[i].R).drop (p + 1)))) rfl rfl (by exact zaa HBb) Tryz.sizeSet (by omega) (by intro i hi; rfl) ?_; intro wc hfc hsc hBc; have HXc := hide ((zaa HXb).far hfc (zaa HXa).size); have HBc := hide (hBc.congr (g := sF (beg (zan rs) T ((bytes rs[i].R).drop (p + 1)))) fun i hi => zag _ _ _ i hi); clear hfc hsc hBc)
           | (go_at_call 63; refine (r_null _ w2.heap.size (zan rs) _ (by rw [ByteArray.size_extract]; omega) (by exact (zaa HXc).2.2.1) (by exact zaa HLR)).mono ?_; rintro e wd ⟨rfl, hfd⟩; rw [zaa HBR, zaa HNV]; have HXd := hide ((zaa HXc).fr hfd); have HBd := hide (((zaa HBc).fr0 hfd).congr (g := sF FS) fun x _ => by rw [← zaa HFS]); obtain ⟨b0, b1, b2⟩ := (zaa HXd).2.1.ru i hit; clear hfd)
           | (go_at_call 70; refine (r_join w5.heap.size ((rs[i].R[p].toNat - 65) * 128) 3328 wa.heap.size 0 128 (tF O) (sF FS) (O rs[i].R[p].toNat) FS _ (by exact (zaa HXd).2.2.2.2.1) (zaa HOff2) (fun x hx => tF_at O _ x (zaa HBg) hx) (by exact zaa HBd) (by omega) (fun i _ => by rw [Nat.zero_add]; rfl) (by have := (zaa HXa).2.2.2.2.1.lt; omega)).mono ?_; rintro e wf ⟨rfl, hff, hsf, hBf⟩; rw [zaa HAV]; have HXf := hide ((zaa HXd).put hff (hBf.congr fun x _ => tF_join O _ _ (zaa HBg) x)); clear hff hsf hBf))
          go_roundw
          case rel =>
           refine ⟨p + 1, _, by omega, rfl, by go_num, hide ?_, hide ?_⟩
           ·rw [zaa HU]; have := zaa HJ; rw [zaa HAV] at this; exact this
           ·rw [zaa HU]; exact zaa HXf
          case measure => simp [intOf]; omega)
        ·have HNV := hide hnv
         have HMark := hide True.intro
         have HFS := hide (show FS = fun x => beg (zan rs) T ((bytes rs[i].R).drop (p + 1)) x || O rs[i].L x from by
          rw [← zaa HFS0]; funext x; unfold foSet; rw [zaa HVan, hnv]; simp)
         clear hnv
         cases mv <;>
         (go_wp2_with (first
           | (go_at_call 56; refine (zav _ true _ (zaa HBg)).mono ?_; rintro e w' ⟨rfl, rfl⟩)
           | (go_at_call 66; refine (r_begins w2.heap.size fb 26 (zan rs) T _ _ (by exact (zaa hs3).2.2.1) (by exact (zaa hs3).2.2.2.1) (by rw [ByteArray.size_extract]; omega) (by exact zaa HLR)).mono ?_; rintro e wa ⟨rfl, hfa⟩; rw [zaa HBR]; have HXa := hide ((zaa hs3).fr hfa); clear hfa)
           | (refine zab rfl 105 rfl (some 16) rfl 128 _ Tryz.zeroSet ?_; intro wb hfb hsb hBb; have HXb := hide ((zaa HXa).fr hfb); have HBb := hide hBb; clear hfb hsb hBb)
           | (refine zac rfl 105 (.tmp 16) (.tmp 88) rfl wa.heap.size 0 128 128 (sF fun _ => false) (sF (beg (zan rs) T ((bytes rs[i].R).drop (p + 1)))) rfl rfl (by exact zaa HBb) Tryz.sizeSet (by omega) (by intro i hi; rfl) ?_; intro wc hfc hsc hBc; have HXc := hide ((zaa HXb).far hfc (zaa HXa).size); have HBc := hide (hBc.congr (g := sF (beg (zan rs) T ((bytes rs[i].R).drop (p + 1)))) fun i hi => zag _ _ _ i hi); clear hfc hsc hBc)
           | (go_at_call 63; refine (r_null _ w2.heap.size (zan rs) _ (by rw [ByteArray.size_extract]; omega) (by exact (zaa HXc).2.2.1) (by exact zaa HLR)).mono ?_; rintro e wd ⟨rfl, hfd⟩; rw [zaa HBR, zaa HNV]; have HXd := hide ((zaa HXc).fr hfd); have HBd := hide ((zaa HBc).fr0 hfd); obtain ⟨b0, b1, b2⟩ := (zaa HXd).2.1.ru i hit; clear hfd)
           | (go_at_call 70; clear HMark; refine (r_join wa.heap.size 0 128 w5.heap.size ((rs[i].L - 65) * 128) 3328 (sF (beg (zan rs) T ((bytes rs[i].R).drop (p + 1)))) (tF O) (beg (zan rs) T ((bytes rs[i].R).drop (p + 1))) (O rs[i].L) _ (by exact zaa HBd) (by omega) (fun i _ => by rw [Nat.zero_add]; rfl) (by exact (zaa HXd).2.2.2.2.1) (zaa HOff) (fun x hx => tF_at O _ x (zaa HOk).1 hx) (by have := (zaa HXa).2.2.2.2.1.lt; omega)).mono ?_; rintro e we ⟨rfl, hfe, hse, hBe⟩; have HXe := hide ((zaa HXd).far hfe (zaa HXa).size); have HBe := hide (hBe.congr (g := sF FS) fun x hx => by rw [sF_or _ _ x hx, ← zaa HFS]); clear hfe hse hBe)
           | (go_at_call 70; refine (r_join w5.heap.size ((rs[i].R[p].toNat - 65) * 128) 3328 wa.heap.size 0 128 (tF O) (sF FS) (O rs[i].R[p].toNat) FS _ (by exact (zaa HXe).2.2.2.2.1) (zaa HOff2) (fun x hx => tF_at O _ x (zaa HBg) hx) (by exact zaa HBe) (by omega) (fun i _ => by rw [Nat.zero_add]; rfl) (by have := (zaa HXa).2.2.2.2.1.lt; omega)).mono ?_; rintro e wf ⟨rfl, hff, hsf, hBf⟩; rw [zaa HAV]; have HXf := hide ((zaa HXe).put hff (hBf.congr fun x _ => tF_join O _ _ (zaa HBg) x)); clear hff hsf hBf))
          go_roundw
          case rel =>
           refine ⟨p + 1, _, by omega, rfl, by go_num, hide ?_, hide ?_⟩
           ·rw [zaa HU]; have := zaa HJ; rw [zaa HAV] at this; exact this
           ·rw [zaa HU]; exact zaa HXf
          case measure => simp [intOf]; omega)
      ·have HU3 := hide (show zar (foRU (zan rs) T rs[i] p) G = zar (zaz (zan rs) T (rs.take (i + 1))) K from by
        rw [zaa HU, show p = rs[i].R.size from by omega]; rfl)
       go_wp2
       go_roundw
       case rel => exact ⟨i + 1, mv, by omega, rfl, by go_num, hide (by rw [← zaa HU3]; exact zaa hgr3), hide (by rw [← zaa HU3]; exact zaa hs3)⟩
       case measure => simp [intOf]; omega
    ·have HX := hide (show zar (zaz (zan rs) T (rs.take i)) K = zbj (zar (zaz (zan rs) T rs)) (k + 1) (fo0 (stOf rs)) from by
      rw [foSteps_all _ _ _ _ (by omega), ← zaa HK]; rfl)
     have HN2 := hide (show Stand (zaz (zan rs) T rs) (fo0 (stOf rs)) rs.length (k + 1) mv from by
      have h1 := zaa hgr
      rw [zaa HX, ← zaa HK] at h1
      exact Stand.next (zaa HIn _ _) (zaa hst) h1)
     go_wp2
     go_roundg (rs.length + 2 - (k + 1))
     case measure => omega
     case rel => exact ⟨k + 1, mv, by omega, rfl, HN2, hide (by rw [← zaa HX]; exact zaa hs2)⟩
theorem r_Follow (t s : ByteArray) (w : World) (ht : t.size ≤ 9223372036854775807) (hm : s.size ≤ 9223372036854775807) :
 Calls Tryz.prog 23 #[.string t, .string s] w fun e w' => e = .returned (.tuple #[.string (zb8 t s), .int .i64 (fErr t s)]) ∧ Fr [] w w' := by
 by_cases h0 : wErr t s = 0
 ·by_cases h1 : s.size = 1 ∧ bigB (ch s 0) = true
  ·have e1 : fErr t s = 0 := by unfold fErr; rw [if_neg (by rw [h0]; simp), if_pos h1]
   have e2 : zb8 t s = lst (followT (zad t 8 0 []).1 (ch s 0)) := by unfold zb8; rw [if_pos e1]
   rw [e1, e2]; exact r_Follow_good t s w ht hm h0 h1.1 h1.2
  ·have e1 : fErr t s = 5 := by unfold fErr; rw [if_neg (by rw [h0]; simp), if_neg h1]
   have e2 : zb8 t s = ⟨#[]⟩ := by unfold zb8; rw [e1]; rfl
   rw [e1, e2]; exact r_Follow_not t s w ht hm h0 h1
 ·have e1 : fErr t s = wErr t s := by unfold fErr; rw [if_pos h0]
  have e2 : zb8 t s = ⟨#[]⟩ := by unfold zb8; rw [e1, if_neg h0]
  rw [e1, e2]; exact r_Follow_bad t s w ht hm h0
end Go.Proofs.YtkglggkkbmmjkabGreatDoor
