import Derived.Test.YtkglggkkbmmjkabGreatDoorG5ReadGram
import Derived.ProofKit
import Derived.SizedLaws
import Derived.Deep.Slices
import Derived.Lib.SmallJoins
namespace Go.Proofs.YtkglggkkbmmjkabGreatDoor
open Go.RowKit
theorem ownsRow_slice {w : World} {base : Nat} {e : TypeId} {size : Nat} {v : Value} {n : Nat} {xs : List Value} (h : w.ownsRow base e size v n xs) : v.oneCell' = true := by
 rcases h.2 with ⟨h, _⟩ | ⟨g, cap, _, h, _⟩ <;> rw [h] <;> rfl
theorem gat_of_rr {b : Nat} {t : ByteArray} {N : Nat → Bool} {F : Nat → Nat → Bool} {w w' : World} (ht : t.size ≤ 32) (h : RRPost b t N F w w') (hok : (zad t 8 0 []).2.2 = true) :
 Below b w w' ∧ ∃ q cap, GAt w' b q cap (zad t 8 0 []).1 N F 0 0 ∧ b < q := by
 obtain ⟨h1, v, h2, h3⟩ := h
 have hp := (zaw t 8 0 [] (by simp)).2.2 hok
 obtain ⟨q, cap, rfl⟩ : ∃ q cap, v = .slice (some ⟨q, 0, none⟩) (zad t 8 0 []).1.length cap := by
  rcases h2.2 with ⟨_, hl⟩ | ⟨q, cap, _, hv, _⟩
  ·omega
  ·exact ⟨q, cap, hv⟩
 have hq := h2.lt q rfl
 rw [hok] at h3
 exact ⟨h1, q, cap, ⟨h3, RuAt.of_owns h2, by omega, hq.2, (za9 t ht).1, (za9 t ht).2⟩, by omega⟩
set_option maxHeartbeats 1600000 in
theorem p_readGrammar_rule (t : ByteArray) (w : World) (ht : t.size ≤ 32) (hok : (zad t 8 0 []).2.2 = false) :
 Calls Tryz.prog 16 #[.string t] w fun e w' => ∃ f, e = .returned (Agg 758 f) ∧ GramOut t w w' f := by
 have HG := hide (show gErr t = (2, (zad t 8 0 []).2.1) from by unfold gErr; rw [if_neg (by omega), if_pos hok])
 have HOk := hide hok
 clear hok
 go_enter Tryz.func16, Tryz.ntmps16
 go_wp2_with (first
  | (refine zab rfl 53 rfl (some 2) rfl 758 _ Tryz.zeroGram ?_; intro w1 hf1 hs1 hB1; have HF1 := hide hf1; have HB1 := hide hB1; clear hf1 hs1 hB1)
  | (refine zab rfl 53 rfl (some 3) rfl 758 _ Tryz.zeroGram ?_; intro w2 hf2 hs2 hB2; have HF2 := hide hf2; have HB2 := hide hB2; have HR2 := hide ((zaa HB1).fr0 hf2); have HL2 := hide (zaa HB1).lt; clear hf2 hs2 hB2)
  | (go_at_call 49; refine (p_readRules w1.heap.size t (fun _ => false) (fun _ _ => false) _ ht (by exact ⟨Below.refl _ _, zaa HB2, World.ownsRow_nil _ _ _ _, fun _ => rfl⟩)).mono ?_; rintro e w3 ⟨rfl, hr3⟩; have HR3 := hide ((zaa HR2).below hr3.1 (by exact zaa HL2)); have HF3 := hide (((zaa HF1).trans0 (zaa HF2)).of_below hr3.1 (zaa HF1).size); obtain ⟨v, ho3, hB3⟩ := hr3.2; rw [zaa HOk] at hB3; have HB3 := hide hB3; have HOne := hide (zb3 v (ownsRow_slice ho3) (stOf (zad t 8 0 []).1) (rset (zad t 8 0 []).1) (fun _ => false) (fun _ _ => false) 2 (zad t 8 0 []).2.1); have c6 := (hB3.cell 756 (by omega)).trans (congrArg some zct); clear hr3 ho3 hB3; simp only [Bool.false_eq_true, if_false] at c6)
  | (refine zaf rfl 53 (.tmp 3) rfl (some 25) rfl w1.heap.size 0 758 758 (gF v (stOf (zad t 8 0 []).1) (rset (zad t 8 0 []).1) (fun _ => false) (fun _ _ => false) 2 (zad t 8 0 []).2.1) _ rfl (by exact zaa HB3) Tryz.underlying53 rfl Tryz.sizeGram (by omega) ?_)
  | (refine zac rfl 53 (.tmp 2) (.tmp 25) rfl w.heap.size 0 758 758 (gF (.slice none 0 0) 0 (fun _ => false) (fun _ => false) (fun _ _ => false) 0 0) (fun i => (gF v (stOf (zad t 8 0 []).1) (rset (zad t 8 0 []).1) (fun _ => false) (fun _ _ => false) 2 (zad t 8 0 []).2.1) (0 + i)) rfl rfl (by exact zaa HR3) Tryz.sizeGram (by omega) (by intro i hi; exact zaa HOne _ (by omega)) ?_; intro w9 hf9 hs9 hB9))
 have hfin : Blk w9 w.heap.size 758 (gF v (stOf (zad t 8 0 []).1) (rset (zad t 8 0 []).1) (fun _ => false) (fun _ _ => false) 2 (zad t 8 0 []).2.1) := hB9.congr fun i hi => by rw [zag _ _ _ _ hi, Nat.zero_add]
 refine bodyPost_ret (zaj Tryz.results16 _ w.heap.size rfl 758 758 _ _ hfin Tryz.underlying53 rfl Tryz.sizeGram (by omega)) rfl ⟨_, rfl, ?_⟩
 refine ⟨(zaa HF3).trans1 hf9 (Or.inr (Nat.le_refl _)), zaa HOne, ?_, ?_, ?_⟩
 ·rw [zct, zaa HG]; rfl
 ·rw [gF_757, zaa HG]
 ·rw [zaa HG]; intro h; cases h
set_option maxHeartbeats 1600000 in
theorem p_readGrammar_name (t : ByteArray) (w : World) (ht : t.size ≤ 32) (hok : (zad t 8 0 []).2.2 = true) (k : Nat) (hn : zcl (rset (zad t 8 0 []).1) (zad t 8 0 []).1 = some k) :
 Calls Tryz.prog 16 #[.string t] w fun e w' => ∃ f, e = .returned (Agg 758 f) ∧ GramOut t w w' f := by
 have HG := hide (show gErr t = (3, k) from by unfold gErr; rw [if_neg (by omega), if_neg (by rw [hok]; simp), hn])
 have HOk := hide hok
 have HNm := hide hn
 clear hok hn
 go_enter Tryz.func16, Tryz.ntmps16
 go_wp2_with (first
  | (refine zab rfl 53 rfl (some 2) rfl 758 _ Tryz.zeroGram ?_; intro w1 hf1 hs1 hB1; have HF1 := hide hf1; have HB1 := hide hB1; clear hf1 hs1 hB1)
  | (refine zab rfl 53 rfl (some 3) rfl 758 _ Tryz.zeroGram ?_; intro w2 hf2 hs2 hB2; have HF2 := hide hf2; have HB2 := hide hB2; have HR2 := hide ((zaa HB1).fr0 hf2); have HL2 := hide (zaa HB1).lt; clear hf2 hs2 hB2)
  | (go_at_call 49; refine (p_readRules w1.heap.size t (fun _ => false) (fun _ _ => false) _ ht (by exact ⟨Below.refl _ _, zaa HB2, World.ownsRow_nil _ _ _ _, fun _ => rfl⟩)).mono ?_; rintro e w3 ⟨rfl, hr3⟩; have HR3 := hide ((zaa HR2).below hr3.1 (by exact zaa HL2)); have HF3 := hide (((zaa HF1).trans0 (zaa HF2)).of_below hr3.1 (zaa HF1).size); obtain ⟨_, q, cap, hg3, hbq⟩ := gat_of_rr ht hr3 (zaa HOk); have Hbq := hide hbq; clear hbq; have HG3 := hide hg3; have c6 := (hg3.blk.cell 756 (by omega)).trans (congrArg some zct); have Hq := hide (show w.heap.size ≤ q from by have := zaa Hbq; have := (zaa HF1).size; omega); clear hr3 hg3)
  | (go_at_call 50; refine (p_checkNames w1.heap.size q cap (zad t 8 0 []).1 (fun _ => false) (fun _ _ => false) _ (by exact zaa HG3)).mono ?_; rintro e w4 ⟨rfl, hf4, hg4⟩; rw [zaa HNm] at hg4; have HG4 := hide hg4; have HR4 := hide ((zaa HR3).fr1 hf4 (by have := zaa HL2; omega)); have HF4 := hide ((zaa HF3).trans1 hf4 (Or.inr (zaa HF1).size)); have d6 : w4.cell? ⟨w1.heap.size, 756, none⟩ = some (.int .i64 3) := (hg4.blk.cell 756 (by omega)).trans (congrArg some zct); clear hf4 hg4 c6)
  | (refine zaf rfl 53 (.tmp 3) rfl (some 25) rfl w1.heap.size 0 758 758 (gF (.slice (some ⟨q, 0, none⟩) (zad t 8 0 []).1.length cap) (stOf (zad t 8 0 []).1) (rset (zad t 8 0 []).1) (fun _ => false) (fun _ _ => false) (errOf (some k) 3) (plOf (some k))) _ rfl (by exact (zaa HG4).blk) Tryz.underlying53 rfl Tryz.sizeGram (by omega) ?_)
  | (refine zac rfl 53 (.tmp 2) (.tmp 25) rfl w.heap.size 0 758 758 (gF (.slice none 0 0) 0 (fun _ => false) (fun _ => false) (fun _ _ => false) 0 0) (fun i => (gF (.slice (some ⟨q, 0, none⟩) (zad t 8 0 []).1.length cap) (stOf (zad t 8 0 []).1) (rset (zad t 8 0 []).1) (fun _ => false) (fun _ _ => false) (errOf (some k) 3) (plOf (some k))) (0 + i)) rfl rfl (by exact zaa HR4) Tryz.sizeGram (by omega) (by intro i hi; exact zb3 _ rfl _ _ _ _ _ _ _ (by omega)) ?_; intro w9 hf9 hs9 hB9))
 have hfin : Blk w9 w.heap.size 758 (gF (.slice (some ⟨q, 0, none⟩) (zad t 8 0 []).1.length cap) (stOf (zad t 8 0 []).1) (rset (zad t 8 0 []).1) (fun _ => false) (fun _ _ => false) (errOf (some k) 3) (plOf (some k))) := hB9.congr fun i hi => by rw [zag _ _ _ _ hi, Nat.zero_add]
 refine bodyPost_ret (zaj Tryz.results16 _ w.heap.size rfl 758 758 _ _ hfin Tryz.underlying53 rfl Tryz.sizeGram (by omega)) rfl ⟨_, rfl, ?_⟩
 refine ⟨(zaa HF4).trans1 hf9 (Or.inr (Nat.le_refl _)), zb3 _ rfl _ _ _ _ _ _, ?_, ?_, ?_⟩
 ·rw [zct, zaa HG]; rfl
 ·rw [gF_757, zaa HG]; rfl
 ·rw [zaa HG]; intro h; cases h
set_option maxHeartbeats 1600000 in
theorem p_readGrammar_dead (t : ByteArray) (w : World) (ht : t.size ≤ 32) (hok : (zad t 8 0 []).2.2 = true) (hn : zcl (rset (zad t 8 0 []).1) (zad t 8 0 []).1 = none) (k : Nat) (hd : deadAt (ends (zad t 8 0 []).1) (reach (zad t 8 0 []).1) (zad t 8 0 []).1 = some k) :
 Calls Tryz.prog 16 #[.string t] w fun e w' => ∃ f, e = .returned (Agg 758 f) ∧ GramOut t w w' f := by
 have HG := hide (show gErr t = (4, k) from by unfold gErr; rw [if_neg (by omega), if_neg (by rw [hok]; simp), hn, hd])
 have HOk := hide hok
 have HNm := hide hn
 have HDd := hide hd
 clear hok hn hd
 go_enter Tryz.func16, Tryz.ntmps16
 go_wp2_with (first
  | (refine zab rfl 53 rfl (some 2) rfl 758 _ Tryz.zeroGram ?_; intro w1 hf1 hs1 hB1; have HF1 := hide hf1; have HB1 := hide hB1; clear hf1 hs1 hB1)
  | (refine zab rfl 53 rfl (some 3) rfl 758 _ Tryz.zeroGram ?_; intro w2 hf2 hs2 hB2; have HF2 := hide hf2; have HB2 := hide hB2; have HR2 := hide ((zaa HB1).fr0 hf2); have HL2 := hide (zaa HB1).lt; clear hf2 hs2 hB2)
  | (go_at_call 49; refine (p_readRules w1.heap.size t (fun _ => false) (fun _ _ => false) _ ht (by exact ⟨Below.refl _ _, zaa HB2, World.ownsRow_nil _ _ _ _, fun _ => rfl⟩)).mono ?_; rintro e w3 ⟨rfl, hr3⟩; have HR3 := hide ((zaa HR2).below hr3.1 (by exact zaa HL2)); have HF3 := hide (((zaa HF1).trans0 (zaa HF2)).of_below hr3.1 (zaa HF1).size); obtain ⟨_, q, cap, hg3, hbq⟩ := gat_of_rr ht hr3 (zaa HOk); have Hbq := hide hbq; clear hbq; have HG3 := hide hg3; have c6 := (hg3.blk.cell 756 (by omega)).trans (congrArg some zct); have Hq := hide (show w.heap.size ≤ q from by have := zaa Hbq; have := (zaa HF1).size; omega); clear hr3 hg3)
  | (go_at_call 50; refine (p_checkNames w1.heap.size q cap (zad t 8 0 []).1 (fun _ => false) (fun _ _ => false) _ (by exact zaa HG3)).mono ?_; rintro e w4 ⟨rfl, hf4, hg4⟩; rw [zaa HNm] at hg4; have HG4 := hide hg4; have HR4 := hide ((zaa HR3).fr1 hf4 (by have := zaa HL2; omega)); have HF4 := hide ((zaa HF3).trans1 hf4 (Or.inr (zaa HF1).size)); have d6 : w4.cell? ⟨w1.heap.size, 756, none⟩ = some (.int .i64 0) := (hg4.blk.cell 756 (by omega)).trans (congrArg some zct); clear hf4 hg4 c6)
  | (go_at_call 51; refine (p_checkDead w1.heap.size q cap (zad t 8 0 []).1 (fun _ => false) (fun _ _ => false) _ (by exact zaa HG4)).mono ?_; rintro e w5 ⟨rfl, hf5, hg5⟩; rw [zaa HDd] at hg5; have HG5 := hide hg5; have HR5 := hide ((zaa HR4).fr1 hf5 (by have := zaa HL2; omega)); have HF5 := hide ((zaa HF4).trans1 hf5 (Or.inr (zaa HF1).size)); have e6 : w5.cell? ⟨w1.heap.size, 756, none⟩ = some (.int .i64 4) := (hg5.blk.cell 756 (by omega)).trans (congrArg some zct); clear hf5 hg5 d6)
  | (refine zaf rfl 53 (.tmp 3) rfl (some 25) rfl w1.heap.size 0 758 758 (gF (.slice (some ⟨q, 0, none⟩) (zad t 8 0 []).1.length cap) (stOf (zad t 8 0 []).1) (rset (zad t 8 0 []).1) (fun _ => false) (fun _ _ => false) (errOf (some k) 4) (plOf (some k))) _ rfl (by exact (zaa HG5).blk) Tryz.underlying53 rfl Tryz.sizeGram (by omega) ?_)
  | (refine zac rfl 53 (.tmp 2) (.tmp 25) rfl w.heap.size 0 758 758 (gF (.slice none 0 0) 0 (fun _ => false) (fun _ => false) (fun _ _ => false) 0 0) (fun i => (gF (.slice (some ⟨q, 0, none⟩) (zad t 8 0 []).1.length cap) (stOf (zad t 8 0 []).1) (rset (zad t 8 0 []).1) (fun _ => false) (fun _ _ => false) (errOf (some k) 4) (plOf (some k))) (0 + i)) rfl rfl (by exact zaa HR5) Tryz.sizeGram (by omega) (by intro i hi; exact zb3 _ rfl _ _ _ _ _ _ _ (by omega)) ?_; intro w9 hf9 hs9 hB9))
 have hfin : Blk w9 w.heap.size 758 (gF (.slice (some ⟨q, 0, none⟩) (zad t 8 0 []).1.length cap) (stOf (zad t 8 0 []).1) (rset (zad t 8 0 []).1) (fun _ => false) (fun _ _ => false) (errOf (some k) 4) (plOf (some k))) := hB9.congr fun i hi => by rw [zag _ _ _ _ hi, Nat.zero_add]
 refine bodyPost_ret (zaj Tryz.results16 _ w.heap.size rfl 758 758 _ _ hfin Tryz.underlying53 rfl Tryz.sizeGram (by omega)) rfl ⟨_, rfl, ?_⟩
 refine ⟨(zaa HF5).trans1 hf9 (Or.inr (Nat.le_refl _)), zb3 _ rfl _ _ _ _ _ _, ?_, ?_, ?_⟩
 ·rw [zct, zaa HG]; rfl
 ·rw [gF_757, zaa HG]; rfl
 ·rw [zaa HG]; intro h; cases h
set_option maxHeartbeats 1600000 in
theorem p_readGrammar_ok (t : ByteArray) (w : World) (ht : t.size ≤ 32) (hok : (zad t 8 0 []).2.2 = true) (hn : zcl (rset (zad t 8 0 []).1) (zad t 8 0 []).1 = none) (hd : deadAt (ends (zad t 8 0 []).1) (reach (zad t 8 0 []).1) (zad t 8 0 []).1 = none) :
 Calls Tryz.prog 16 #[.string t] w fun e w' => ∃ f, e = .returned (Agg 758 f) ∧ GramOut t w w' f := by
 have HG := hide (show gErr t = (0, 0) from by unfold gErr; rw [if_neg (by omega), if_neg (by rw [hok]; simp), hn, hd])
 have HOk := hide hok
 have HNm := hide hn
 have HDd := hide hd
 clear hok hn hd
 go_enter Tryz.func16, Tryz.ntmps16
 go_wp2_with (first
  | (refine zab rfl 53 rfl (some 2) rfl 758 _ Tryz.zeroGram ?_; intro w1 hf1 hs1 hB1; have HF1 := hide hf1; have HB1 := hide hB1; clear hf1 hs1 hB1)
  | (refine zab rfl 53 rfl (some 3) rfl 758 _ Tryz.zeroGram ?_; intro w2 hf2 hs2 hB2; have HF2 := hide hf2; have HB2 := hide hB2; have HR2 := hide ((zaa HB1).fr0 hf2); have HL2 := hide (zaa HB1).lt; clear hf2 hs2 hB2)
  | (go_at_call 49; refine (p_readRules w1.heap.size t (fun _ => false) (fun _ _ => false) _ ht (by exact ⟨Below.refl _ _, zaa HB2, World.ownsRow_nil _ _ _ _, fun _ => rfl⟩)).mono ?_; rintro e w3 ⟨rfl, hr3⟩; have HR3 := hide ((zaa HR2).below hr3.1 (by exact zaa HL2)); have HF3 := hide (((zaa HF1).trans0 (zaa HF2)).of_below hr3.1 (zaa HF1).size); obtain ⟨_, q, cap, hg3, hbq⟩ := gat_of_rr ht hr3 (zaa HOk); have Hbq := hide hbq; clear hbq; have HG3 := hide hg3; have c6 := (hg3.blk.cell 756 (by omega)).trans (congrArg some zct); have Hq := hide (show w.heap.size ≤ q from by have := zaa Hbq; have := (zaa HF1).size; omega); clear hr3 hg3)
  | (go_at_call 50; refine (p_checkNames w1.heap.size q cap (zad t 8 0 []).1 (fun _ => false) (fun _ _ => false) _ (by exact zaa HG3)).mono ?_; rintro e w4 ⟨rfl, hf4, hg4⟩; rw [zaa HNm] at hg4; have HG4 := hide hg4; have HR4 := hide ((zaa HR3).fr1 hf4 (by have := zaa HL2; omega)); have HF4 := hide ((zaa HF3).trans1 hf4 (Or.inr (zaa HF1).size)); have d6 : w4.cell? ⟨w1.heap.size, 756, none⟩ = some (.int .i64 0) := (hg4.blk.cell 756 (by omega)).trans (congrArg some zct); clear hf4 hg4 c6)
  | (go_at_call 51; refine (p_checkDead w1.heap.size q cap (zad t 8 0 []).1 (fun _ => false) (fun _ _ => false) _ (by exact zaa HG4)).mono ?_; rintro e w5 ⟨rfl, hf5, hg5⟩; rw [zaa HDd] at hg5; have HG5 := hide hg5; have HR5 := hide ((zaa HR4).fr1 hf5 (by have := zaa HL2; omega)); have HF5 := hide ((zaa HF4).trans1 hf5 (Or.inr (zaa HF1).size)); have e6 : w5.cell? ⟨w1.heap.size, 756, none⟩ = some (.int .i64 0) := (hg5.blk.cell 756 (by omega)).trans (congrArg some zct); clear hf5 hg5 d6)
  | (go_at_call 52; refine (p_makersOf w1.heap.size q cap (zad t 8 0 []).1 (fun _ => false) (fun _ _ => false) _ _ false _ (by exact zaa HG5)).mono ?_; rintro e w6 ⟨rfl, hf6⟩; have HG6 := hide ((zaa HG5).fr0 hf6); have HR6 := hide ((zaa HR5).fr0 hf6); have HF6 := hide ((zaa HF5).trans0 hf6); clear hf6)
  | (refine zac rfl 45 (.tmp 23) (.tmp 22) rfl w1.heap.size 28 26 758 (gF (.slice (some ⟨q, 0, none⟩) (zad t 8 0 []).1.length cap) (stOf (zad t 8 0 []).1) (rset (zad t 8 0 []).1) (fun _ => false) (fun _ _ => false) (errOf none 4) (plOf none)) (setF (zan (zad t 8 0 []).1)) rfl rfl (by exact (zaa HG6).blk) Tryz.sizeBig (by omega) (by intro i hi; rfl) ?_; intro w7 hf7 hs7 hB7; have HG7 := hide (show GAt w7 w1.heap.size q cap (zad t 8 0 []).1 (zan (zad t 8 0 []).1) (fun _ _ => false) (errOf none 4) (plOf none) from ⟨hB7.congr fun i _ => gF_layNull i, (zaa HG6).ru.fr hf7 (by have := (zaa HG6).ne; simp; omega) (zaa HG6).lt, (zaa HG6).ne, Nat.lt_of_lt_of_le (zaa HG6).lt hf7.size, (zaa HG6).small, (zaa HG6).len⟩); have HR7 := hide ((zaa HR6).fr1 hf7 (by have := zaa HL2; omega)); have HF7 := hide ((zaa HF6).trans1 hf7 (Or.inr (zaa HF1).size)); clear hf7 hs7 hB7)
  | (go_at_call 53; refine (p_fillFirst w1.heap.size q cap (zad t 8 0 []).1 (zan (zad t 8 0 []).1) (fun _ _ => false) _ _ _ (by exact zaa HG7) (parse_ok t)).mono ?_; rintro e w8 ⟨rfl, hf8, hg8⟩; have HG8 := hide hg8; have HR8 := hide ((zaa HR7).fr1 hf8 (by have := zaa HL2; omega)); have HF8 := hide ((zaa HF7).trans1 hf8 (Or.inr (zaa HF1).size)); clear hf8 hg8)
  | (refine zaf rfl 53 (.tmp 3) rfl (some 25) rfl w1.heap.size 0 758 758 (gF (.slice (some ⟨q, 0, none⟩) (zad t 8 0 []).1.length cap) (stOf (zad t 8 0 []).1) (rset (zad t 8 0 []).1) (zan (zad t 8 0 []).1) (zau (zad t 8 0 []).1) (errOf none 4) (plOf none)) _ rfl (by exact (zaa HG8).blk) Tryz.underlying53 rfl Tryz.sizeGram (by omega) ?_)
  | (refine zac rfl 53 (.tmp 2) (.tmp 25) rfl w.heap.size 0 758 758 (gF (.slice none 0 0) 0 (fun _ => false) (fun _ => false) (fun _ _ => false) 0 0) (fun i => (gF (.slice (some ⟨q, 0, none⟩) (zad t 8 0 []).1.length cap) (stOf (zad t 8 0 []).1) (rset (zad t 8 0 []).1) (zan (zad t 8 0 []).1) (zau (zad t 8 0 []).1) (errOf none 4) (plOf none)) (0 + i)) rfl rfl (by exact zaa HR8) Tryz.sizeGram (by omega) (by intro i hi; exact zb3 _ rfl _ _ _ _ _ _ _ (by omega)) ?_; intro w9 hf9 hs9 hB9))
 have hfin : Blk w9 w.heap.size 758 (gF (.slice (some ⟨q, 0, none⟩) (zad t 8 0 []).1.length cap) (stOf (zad t 8 0 []).1) (rset (zad t 8 0 []).1) (zan (zad t 8 0 []).1) (zau (zad t 8 0 []).1) (errOf none 4) (plOf none)) := hB9.congr fun i hi => by rw [zag _ _ _ _ hi, Nat.zero_add]
 refine bodyPost_ret (zaj Tryz.results16 _ w.heap.size rfl 758 758 _ _ hfin Tryz.underlying53 rfl Tryz.sizeGram (by omega)) rfl ⟨_, rfl, ?_⟩
 refine ⟨(zaa HF8).trans1 hf9 (Or.inr (Nat.le_refl _)), zb3 _ rfl _ _ _ _ _ _, ?_, ?_, ?_⟩
 ·rw [zct, zaa HG]; rfl
 ·rw [gF_757, zaa HG]; rfl
 ·intro _
  refine ⟨ht, zaa HOk, q, cap, rfl, (zaa HG8).ru.fr hf9 (by have := zaa Hbq; have := zaa HL2; simp; omega) (zaa HG8).lt, zaa Hq, Nat.lt_of_lt_of_le (zaa HG8).lt hf9.size⟩
theorem zcd (t : ByteArray) (w : World) (hm : t.size ≤ 9223372036854775807) :
 Calls Tryz.prog 16 #[.string t] w fun e w' => ∃ f, e = .returned (Agg 758 f) ∧ GramOut t w w' f := by
 by_cases h0 : 32 < t.size
 ·exact p_readGrammar_long t w h0 hm
 ·cases h1 : (zad t 8 0 []).2.2
  ·exact p_readGrammar_rule t w (by omega) h1
  ·cases h2 : zcl (rset (zad t 8 0 []).1) (zad t 8 0 []).1 with
   | some k => exact p_readGrammar_name t w (by omega) h1 k h2
   | none => cases h3 : deadAt (ends (zad t 8 0 []).1) (reach (zad t 8 0 []).1) (zad t 8 0 []).1 with
    | some k => exact p_readGrammar_dead t w (by omega) h1 h2 k h3
    | none => exact p_readGrammar_ok t w (by omega) h1 h2 h3
end Go.Proofs.YtkglggkkbmmjkabGreatDoor
namespace Go.Proofs.YtkglggkkbmmjkabGreatDoor
open Go.RowKit
set_option maxHeartbeats 400000 in
theorem l_num (n : Int) (w : World) : Calls Tryz.prog 8 #[.int .i64 n] w fun e w' => e = .returned (.int .i64 n) ∧ w' = w := by
 go_enter Tryz.func8, Tryz.ntmps8
 go_wp2
 go_ret
 exact ⟨rfl, rfl⟩
def ScriptOk (w : World) (ao : Option Addr) (len : Nat) : Prop := len ≤ 70368744177664 ∧ ∀ i, i < len → ∃ b off, ao = some ⟨b, off, none⟩ ∧ b < w.heap.size ∧ ∃ (k n : Int) (g s : ByteArray), g.size ≤ 9223372036854775807 ∧ s.size ≤ 9223372036854775807 ∧
 w.cell? ⟨b, off + i * 4, none⟩ = some (.int .i64 k) ∧ w.cell? ⟨b, off + i * 4 + 1, none⟩ = some (.int .i64 n) ∧ w.cell? ⟨b, off + i * 4 + 2, none⟩ = some (.string g) ∧ w.cell? ⟨b, off + i * 4 + 3, none⟩ = some (.string s)
theorem ScriptOk.fr {w w' : World} {ao : Option Addr} {len : Nat} (h : ScriptOk w ao len) (k : Fr [] w w') : ScriptOk w' ao len := by
 refine ⟨h.1, fun i hi => ?_⟩
 obtain ⟨b, off, ha, hb, kk, n, g, s, hg, hs, c0, c1, c2, c3⟩ := h.2 i hi
 have e : w'.heap[b]? = w.heap[b]? := k.block b hb (by simp)
 refine ⟨b, off, ha, Nat.lt_of_lt_of_le hb k.size, kk, n, g, s, hg, hs, ?_, ?_, ?_, ?_⟩
 ·rw [World.cell?_of_block (w := w) (a := ⟨b, _, none⟩) e]; exact c0
 ·rw [World.cell?_of_block (w := w) (a := ⟨b, _, none⟩) e]; exact c1
 ·rw [World.cell?_of_block (w := w) (a := ⟨b, _, none⟩) e]; exact c2
 ·rw [World.cell?_of_block (w := w) (a := ⟨b, _, none⟩) e]; exact c3
end Go.Proofs.YtkglggkkbmmjkabGreatDoor
namespace Go.Proofs.YtkglggkkbmmjkabGreatDoor
open Go.ChangeShapes Go.WideShapes Go.ChangeAt Go.RowKit Go.Deep
theorem Tryz.own : ownKnob Tryz.prog.godebug = none := by kernel_rfl
theorem Tryz.laidOut : laidOutB Tryz.prog = true := by kernel_rfl
theorem Tryz.cellsOp : Tryz.prog.cellsOf 26 = 4 := by kernel_rfl
theorem Tryz.bytesOp : Tryz.prog.bytesOf 26 = 48 := by kernel_rfl
theorem Tryz.cellsInt : Tryz.prog.cellsOf 3 = 1 := by kernel_rfl
theorem Tryz.cellsStr : Tryz.prog.cellsOf 9 = 1 := by kernel_rfl
theorem open_op {H : Type} {enc : TypeId × Value → H} {W : World} {base : Nat} {spare : Nat → Bool} {held : Bool} {n : Nat} {a : Addr} {cs : List Value} {x : DataW H × List MemPlace}
 (hc : W.cells? base a 4 = some cs) (h : DataW.trod enc Tryz.prog W base spare held n 26 cs = some x) :
 a.spot = none ∧ a.block < W.heap.size ∧ ∃ (k n : Int) (g s : ByteArray), g.size ≤ 9223372036854775807 ∧ s.size ≤ 9223372036854775807 ∧
  W.cell? ⟨a.block, a.off, none⟩ = some (.int .i64 k) ∧ W.cell? ⟨a.block, a.off + 1, none⟩ = some (.int .i64 n) ∧ W.cell? ⟨a.block, a.off + 2, none⟩ = some (.string g) ∧ W.cell? ⟨a.block, a.off + 3, none⟩ = some (.string s) := by
 obtain ⟨_, hl, hcell⟩ := World.cells?_some hc
 obtain ⟨y0, y1, y2, y3, m, _, _, h0, h1, h2, h3⟩ := Joins.trod_struct4 Tryz.underlying26 h
 simp only [Tryz.cellsInt, Tryz.cellsStr] at h0 h1 h2 h3
 obtain ⟨k, e0, _, _⟩ := DataW.trod_int Tryz.underlying3 h0
 obtain ⟨n, e1, _, _⟩ := DataW.trod_int Tryz.underlying3 h1
 obtain ⟨g, e2, _, hg⟩ := DataW.trod_string Tryz.underlying9 h2
 obtain ⟨s, e3, _, hs⟩ := DataW.trod_string Tryz.underlying9 h3
 match cs, hl with
 | [c0, c1, c2, c3], _ =>
  simp at e0 e1 e2 e3
  subst e0 e1 e2 e3
  have a0 := hcell 0 (by omega)
  have a1 := hcell 1 (by omega)
  have a2 := hcell 2 (by omega)
  have a3 := hcell 3 (by omega)
  simp at a0 a1 a2 a3
  have hsp : a.spot = none := by
   have := World.cell?_spot a0
   simpa [Addr.add] using this
  obtain ⟨ab, ao, asp⟩ := a
  simp only at hsp
  subst hsp
  simp only [Addr.add_mid, Nat.add_zero] at a0 a1 a2 a3
  exact ⟨rfl, World.cells?_block hc (by omega), k, n, g, s, by simpa [maxLen] using hg, by simpa [maxLen] using hs, a0, a1, a2, a3⟩
set_option maxRecDepth 100000 in
theorem open_script {H : Type} {enc : TypeId × Value → H} {W : World} {fuel : Nat} {a0 : Option Addr} {len cap : Nat} {d : DataW H} {p : List MemPlace}
 (hf : DataW.trod enc Tryz.prog W 0 (fun _ => true) true fuel 22 [.slice a0 len cap] = some (d, p))
 (hsz : (DataW.weightsEach Tryz.prog [22] [d]).all (· ≤ reachBytes) = true) : ScriptOk W a0 len := by
 rcases open_slice Tryz.underlying22 hf with ⟨hcs, hx⟩ | ⟨a, len', cap', m, n, D, Pl, hcs, _, hl, hm, hmm, hx, hel⟩
 ·simp at hcs
  obtain ⟨rfl, rfl, rfl⟩ := hcs
  exact ⟨by omega, fun i hi => by omega⟩
 ·simp only [List.cons.injEq, Value.slice.injEq, and_true] at hcs
  obtain ⟨rfl, rfl, rfl⟩ := hcs
  simp only [if_true] at hmm
  subst hmm
  simp only [Prod.mk.injEq] at hx
  obtain ⟨rfl, rfl⟩ := hx
  have hsize := sized_slice hsz (j := 0) (t := 22) (e := 26) rfl rfl Tryz.underlying22
  rw [Tryz.bytesOp] at hsize
  simp only [List.length_map, List.length_range, reachBytes] at hsize
  refine ⟨by omega, fun i hi => ?_⟩
  obtain ⟨cs0, hc0, ht0⟩ := hel 0 (by omega)
  rw [Tryz.cellsOp] at hc0
  have hsp' := (open_op hc0 ht0).1
  obtain ⟨cs', hc, ht⟩ := hel i (by omega)
  rw [Tryz.cellsOp] at hc
  obtain ⟨_, hb, k, n, g, s, hg, hs, c0, c1, c2, c3⟩ := open_op hc ht
  obtain ⟨ab, ao, asp⟩ := a
  have hsp' : asp = none := by simpa [Addr.add] using hsp'
  subst hsp'
  rw [Addr.add_mid] at hb c0 c1 c2 c3
  exact ⟨ab, ao, rfl, hb, k, n, g, s, hg, hs, c0, c1, c2, c3⟩
end Go.Proofs.YtkglggkkbmmjkabGreatDoor
