import Derived.Test.YtkglggkkbmmjkaaDoorH7ReadGram
namespace Go.Proofs.YtkglggkkbmmjkaaDoor
open Go.RowKit

theorem ownsRow_slice {w : World} {base : Nat} {e : TypeId} {size : Nat} {v : Value} {n : Nat} {xs : List Value} (h : w.ownsRow base e size v n xs) : v.oneCell' = true := by
  rcases h.2 with ⟨h, _⟩ | ⟨g, cap, _, h, _⟩ <;> rw [h] <;> rfl

/-- behind readRules, where the text is one of rules -/
theorem gat_of_rr {b : Nat} {t : ByteArray} {N : Nat → Bool} {F : Nat → Nat → Bool} {w w' : World} (ht : t.size ≤ 32) (h : RRPost b t N F w w') (hok : (parse t 8 0 []).2.2 = true) :
    Below b w w' ∧ ∃ q cap, GAt w' b q cap (parse t 8 0 []).1 N F 0 0 ∧ b < q := by
  obtain ⟨h1, v, h2, h3⟩ := h
  have hp := (parse_good t 8 0 [] (by simp)).2.2 hok
  obtain ⟨q, cap, rfl⟩ : ∃ q cap, v = .slice (some ⟨q, 0, none⟩) (parse t 8 0 []).1.length cap := by
    rcases h2.2 with ⟨_, hl⟩ | ⟨q, cap, _, hv, _⟩
    · omega
    · exact ⟨q, cap, hv⟩
  have hq := h2.lt q rfl
  rw [hok] at h3
  exact ⟨h1, q, cap, ⟨h3, RuAt.of_owns h2, by omega, hq.2, (parse_small t ht).1, (parse_small t ht).2⟩, by omega⟩

set_option maxHeartbeats 1600000 in
theorem p_readGrammar_rule (t : ByteArray) (w : World) (ht : t.size ≤ 32) (hok : (parse t 8 0 []).2.2 = false) :
    Calls Tryd.prog 39 #[.string t] w fun e w' => ∃ f, e = .returned (Agg 758 f) ∧ GramOut t w w' f := by
  have HG := hide (show gErr t = (2, (parse t 8 0 []).2.1) from by unfold gErr; rw [if_neg (by omega), if_pos hok])
  have HOk := hide hok
  clear hok
  go_enter Tryd.func39, Tryd.ntmps39
  go_wp2_with (first
    | (refine wpList_alloc_blk rfl 93 rfl (some 2) rfl 758 _ Tryd.zeroGram ?_; intro w1 hf1 hs1 hB1; have HF1 := hide hf1; have HB1 := hide hB1; clear hf1 hs1 hB1)
    | (refine wpList_alloc_blk rfl 93 rfl (some 3) rfl 758 _ Tryd.zeroGram ?_; intro w2 hf2 hs2 hB2; have HF2 := hide hf2; have HB2 := hide hB2; have HR2 := hide ((unhide HB1).fr0 hf2); have HL2 := hide (unhide HB1).lt; clear hf2 hs2 hB2)
    | (go_at_call 53; refine (p_readRules w1.heap.size t (fun _ => false) (fun _ _ => false) _ ht (by exact ⟨Below.refl _ _, unhide HB2, World.ownsRow_nil _ _ _ _, fun _ => rfl⟩)).mono ?_; rintro e w3 ⟨rfl, hr3⟩; have HR3 := hide ((unhide HR2).below hr3.1 (by exact unhide HL2)); have HF3 := hide (((unhide HF1).trans0 (unhide HF2)).of_below hr3.1 (unhide HF1).size); obtain ⟨v, ho3, hB3⟩ := hr3.2; rw [unhide HOk] at hB3; have HB3 := hide hB3; have HOne := hide (oneB_gF' v (ownsRow_slice ho3) (stOf (parse t 8 0 []).1) (rset (parse t 8 0 []).1) (fun _ => false) (fun _ _ => false) 2 (parse t 8 0 []).2.1); have c6 := (hB3.cell 756 (by omega)).trans (congrArg some gF_756); clear hr3 ho3 hB3; simp only [Bool.false_eq_true, if_false] at c6)
    | (refine wpList_load_blk rfl 93 (.tmp 3) rfl (some 25) rfl w1.heap.size 0 758 758 (gF v (stOf (parse t 8 0 []).1) (rset (parse t 8 0 []).1) (fun _ => false) (fun _ _ => false) 2 (parse t 8 0 []).2.1) _ rfl (by exact unhide HB3) Tryd.underlying93 rfl Tryd.sizeGram (by omega) ?_)
    | (refine wpList_store_blk rfl 93 (.tmp 2) (.tmp 25) rfl w.heap.size 0 758 758 (gF (.slice none 0 0) 0 (fun _ => false) (fun _ => false) (fun _ _ => false) 0 0) (fun i => (gF v (stOf (parse t 8 0 []).1) (rset (parse t 8 0 []).1) (fun _ => false) (fun _ _ => false) 2 (parse t 8 0 []).2.1) (0 + i)) rfl rfl (by exact unhide HR3) Tryd.sizeGram (by omega) (by intro i hi; exact unhide HOne _ (by omega)) ?_; intro w9 hf9 hs9 hB9))
  have hfin : Blk w9 w.heap.size 758 (gF v (stOf (parse t 8 0 []).1) (rset (parse t 8 0 []).1) (fun _ => false) (fun _ _ => false) 2 (parse t 8 0 []).2.1) := hB9.congr fun i hi => by rw [lay_all _ _ _ _ hi, Nat.zero_add]
  refine bodyPost_ret (results_cell Tryd.results39 _ w.heap.size rfl 758 758 _ _ hfin Tryd.underlying93 rfl Tryd.sizeGram (by omega)) rfl ⟨_, rfl, ?_⟩
  refine ⟨(unhide HF3).trans1 hf9 (Or.inr (Nat.le_refl _)), unhide HOne, ?_, ?_, ?_⟩
  · rw [gF_756, unhide HG]; rfl
  · rw [gF_757, unhide HG]
  · rw [unhide HG]; intro h; cases h

set_option maxHeartbeats 1600000 in
theorem p_readGrammar_name (t : ByteArray) (w : World) (ht : t.size ≤ 32) (hok : (parse t 8 0 []).2.2 = true) (k : Nat) (hn : names (rset (parse t 8 0 []).1) (parse t 8 0 []).1 = some k) :
    Calls Tryd.prog 39 #[.string t] w fun e w' => ∃ f, e = .returned (Agg 758 f) ∧ GramOut t w w' f := by
  have HG := hide (show gErr t = (3, k) from by unfold gErr; rw [if_neg (by omega), if_neg (by rw [hok]; simp), hn])
  have HOk := hide hok
  have HNm := hide hn
  clear hok hn
  go_enter Tryd.func39, Tryd.ntmps39
  go_wp2_with (first
    | (refine wpList_alloc_blk rfl 93 rfl (some 2) rfl 758 _ Tryd.zeroGram ?_; intro w1 hf1 hs1 hB1; have HF1 := hide hf1; have HB1 := hide hB1; clear hf1 hs1 hB1)
    | (refine wpList_alloc_blk rfl 93 rfl (some 3) rfl 758 _ Tryd.zeroGram ?_; intro w2 hf2 hs2 hB2; have HF2 := hide hf2; have HB2 := hide hB2; have HR2 := hide ((unhide HB1).fr0 hf2); have HL2 := hide (unhide HB1).lt; clear hf2 hs2 hB2)
    | (go_at_call 53; refine (p_readRules w1.heap.size t (fun _ => false) (fun _ _ => false) _ ht (by exact ⟨Below.refl _ _, unhide HB2, World.ownsRow_nil _ _ _ _, fun _ => rfl⟩)).mono ?_; rintro e w3 ⟨rfl, hr3⟩; have HR3 := hide ((unhide HR2).below hr3.1 (by exact unhide HL2)); have HF3 := hide (((unhide HF1).trans0 (unhide HF2)).of_below hr3.1 (unhide HF1).size); obtain ⟨_, q, cap, hg3, hbq⟩ := gat_of_rr ht hr3 (unhide HOk); have Hbq := hide hbq; clear hbq; have HG3 := hide hg3; have c6 := (hg3.blk.cell 756 (by omega)).trans (congrArg some gF_756); have Hq := hide (show w.heap.size ≤ q from by have := unhide Hbq; have := (unhide HF1).size; omega); clear hr3 hg3)
    | (go_at_call 54; refine (p_checkNames w1.heap.size q cap (parse t 8 0 []).1 (fun _ => false) (fun _ _ => false) _ (by exact unhide HG3)).mono ?_; rintro e w4 ⟨rfl, hf4, hg4⟩; rw [unhide HNm] at hg4; have HG4 := hide hg4; have HR4 := hide ((unhide HR3).fr1 hf4 (by have := unhide HL2; omega)); have HF4 := hide ((unhide HF3).trans1 hf4 (Or.inr (unhide HF1).size)); have d6 : w4.cell? ⟨w1.heap.size, 756, none⟩ = some (.int .i64 3) := (hg4.blk.cell 756 (by omega)).trans (congrArg some gF_756); clear hf4 hg4 c6)
    | (refine wpList_load_blk rfl 93 (.tmp 3) rfl (some 25) rfl w1.heap.size 0 758 758 (gF (.slice (some ⟨q, 0, none⟩) (parse t 8 0 []).1.length cap) (stOf (parse t 8 0 []).1) (rset (parse t 8 0 []).1) (fun _ => false) (fun _ _ => false) (errOf (some k) 3) (plOf (some k))) _ rfl (by exact (unhide HG4).blk) Tryd.underlying93 rfl Tryd.sizeGram (by omega) ?_)
    | (refine wpList_store_blk rfl 93 (.tmp 2) (.tmp 25) rfl w.heap.size 0 758 758 (gF (.slice none 0 0) 0 (fun _ => false) (fun _ => false) (fun _ _ => false) 0 0) (fun i => (gF (.slice (some ⟨q, 0, none⟩) (parse t 8 0 []).1.length cap) (stOf (parse t 8 0 []).1) (rset (parse t 8 0 []).1) (fun _ => false) (fun _ _ => false) (errOf (some k) 3) (plOf (some k))) (0 + i)) rfl rfl (by exact unhide HR4) Tryd.sizeGram (by omega) (by intro i hi; exact oneB_gF' _ rfl _ _ _ _ _ _ _ (by omega)) ?_; intro w9 hf9 hs9 hB9))
  have hfin : Blk w9 w.heap.size 758 (gF (.slice (some ⟨q, 0, none⟩) (parse t 8 0 []).1.length cap) (stOf (parse t 8 0 []).1) (rset (parse t 8 0 []).1) (fun _ => false) (fun _ _ => false) (errOf (some k) 3) (plOf (some k))) := hB9.congr fun i hi => by rw [lay_all _ _ _ _ hi, Nat.zero_add]
  refine bodyPost_ret (results_cell Tryd.results39 _ w.heap.size rfl 758 758 _ _ hfin Tryd.underlying93 rfl Tryd.sizeGram (by omega)) rfl ⟨_, rfl, ?_⟩
  refine ⟨(unhide HF4).trans1 hf9 (Or.inr (Nat.le_refl _)), oneB_gF' _ rfl _ _ _ _ _ _, ?_, ?_, ?_⟩
  · rw [gF_756, unhide HG]; rfl
  · rw [gF_757, unhide HG]; rfl
  · rw [unhide HG]; intro h; cases h
set_option maxHeartbeats 1600000 in
theorem p_readGrammar_dead (t : ByteArray) (w : World) (ht : t.size ≤ 32) (hok : (parse t 8 0 []).2.2 = true) (hn : names (rset (parse t 8 0 []).1) (parse t 8 0 []).1 = none) (k : Nat) (hd : deadAt (ends (parse t 8 0 []).1) (reach (parse t 8 0 []).1) (parse t 8 0 []).1 = some k) :
    Calls Tryd.prog 39 #[.string t] w fun e w' => ∃ f, e = .returned (Agg 758 f) ∧ GramOut t w w' f := by
  have HG := hide (show gErr t = (4, k) from by unfold gErr; rw [if_neg (by omega), if_neg (by rw [hok]; simp), hn, hd])
  have HOk := hide hok
  have HNm := hide hn
  have HDd := hide hd
  clear hok hn hd
  go_enter Tryd.func39, Tryd.ntmps39
  go_wp2_with (first
    | (refine wpList_alloc_blk rfl 93 rfl (some 2) rfl 758 _ Tryd.zeroGram ?_; intro w1 hf1 hs1 hB1; have HF1 := hide hf1; have HB1 := hide hB1; clear hf1 hs1 hB1)
    | (refine wpList_alloc_blk rfl 93 rfl (some 3) rfl 758 _ Tryd.zeroGram ?_; intro w2 hf2 hs2 hB2; have HF2 := hide hf2; have HB2 := hide hB2; have HR2 := hide ((unhide HB1).fr0 hf2); have HL2 := hide (unhide HB1).lt; clear hf2 hs2 hB2)
    | (go_at_call 53; refine (p_readRules w1.heap.size t (fun _ => false) (fun _ _ => false) _ ht (by exact ⟨Below.refl _ _, unhide HB2, World.ownsRow_nil _ _ _ _, fun _ => rfl⟩)).mono ?_; rintro e w3 ⟨rfl, hr3⟩; have HR3 := hide ((unhide HR2).below hr3.1 (by exact unhide HL2)); have HF3 := hide (((unhide HF1).trans0 (unhide HF2)).of_below hr3.1 (unhide HF1).size); obtain ⟨_, q, cap, hg3, hbq⟩ := gat_of_rr ht hr3 (unhide HOk); have Hbq := hide hbq; clear hbq; have HG3 := hide hg3; have c6 := (hg3.blk.cell 756 (by omega)).trans (congrArg some gF_756); have Hq := hide (show w.heap.size ≤ q from by have := unhide Hbq; have := (unhide HF1).size; omega); clear hr3 hg3)
    | (go_at_call 54; refine (p_checkNames w1.heap.size q cap (parse t 8 0 []).1 (fun _ => false) (fun _ _ => false) _ (by exact unhide HG3)).mono ?_; rintro e w4 ⟨rfl, hf4, hg4⟩; rw [unhide HNm] at hg4; have HG4 := hide hg4; have HR4 := hide ((unhide HR3).fr1 hf4 (by have := unhide HL2; omega)); have HF4 := hide ((unhide HF3).trans1 hf4 (Or.inr (unhide HF1).size)); have d6 : w4.cell? ⟨w1.heap.size, 756, none⟩ = some (.int .i64 0) := (hg4.blk.cell 756 (by omega)).trans (congrArg some gF_756); clear hf4 hg4 c6)
    | (go_at_call 55; refine (p_checkDead w1.heap.size q cap (parse t 8 0 []).1 (fun _ => false) (fun _ _ => false) _ (by exact unhide HG4)).mono ?_; rintro e w5 ⟨rfl, hf5, hg5⟩; rw [unhide HDd] at hg5; have HG5 := hide hg5; have HR5 := hide ((unhide HR4).fr1 hf5 (by have := unhide HL2; omega)); have HF5 := hide ((unhide HF4).trans1 hf5 (Or.inr (unhide HF1).size)); have e6 : w5.cell? ⟨w1.heap.size, 756, none⟩ = some (.int .i64 4) := (hg5.blk.cell 756 (by omega)).trans (congrArg some gF_756); clear hf5 hg5 d6)
    | (refine wpList_load_blk rfl 93 (.tmp 3) rfl (some 25) rfl w1.heap.size 0 758 758 (gF (.slice (some ⟨q, 0, none⟩) (parse t 8 0 []).1.length cap) (stOf (parse t 8 0 []).1) (rset (parse t 8 0 []).1) (fun _ => false) (fun _ _ => false) (errOf (some k) 4) (plOf (some k))) _ rfl (by exact (unhide HG5).blk) Tryd.underlying93 rfl Tryd.sizeGram (by omega) ?_)
    | (refine wpList_store_blk rfl 93 (.tmp 2) (.tmp 25) rfl w.heap.size 0 758 758 (gF (.slice none 0 0) 0 (fun _ => false) (fun _ => false) (fun _ _ => false) 0 0) (fun i => (gF (.slice (some ⟨q, 0, none⟩) (parse t 8 0 []).1.length cap) (stOf (parse t 8 0 []).1) (rset (parse t 8 0 []).1) (fun _ => false) (fun _ _ => false) (errOf (some k) 4) (plOf (some k))) (0 + i)) rfl rfl (by exact unhide HR5) Tryd.sizeGram (by omega) (by intro i hi; exact oneB_gF' _ rfl _ _ _ _ _ _ _ (by omega)) ?_; intro w9 hf9 hs9 hB9))
  have hfin : Blk w9 w.heap.size 758 (gF (.slice (some ⟨q, 0, none⟩) (parse t 8 0 []).1.length cap) (stOf (parse t 8 0 []).1) (rset (parse t 8 0 []).1) (fun _ => false) (fun _ _ => false) (errOf (some k) 4) (plOf (some k))) := hB9.congr fun i hi => by rw [lay_all _ _ _ _ hi, Nat.zero_add]
  refine bodyPost_ret (results_cell Tryd.results39 _ w.heap.size rfl 758 758 _ _ hfin Tryd.underlying93 rfl Tryd.sizeGram (by omega)) rfl ⟨_, rfl, ?_⟩
  refine ⟨(unhide HF5).trans1 hf9 (Or.inr (Nat.le_refl _)), oneB_gF' _ rfl _ _ _ _ _ _, ?_, ?_, ?_⟩
  · rw [gF_756, unhide HG]; rfl
  · rw [gF_757, unhide HG]; rfl
  · rw [unhide HG]; intro h; cases h
set_option maxHeartbeats 1600000 in
theorem p_readGrammar_ok (t : ByteArray) (w : World) (ht : t.size ≤ 32) (hok : (parse t 8 0 []).2.2 = true) (hn : names (rset (parse t 8 0 []).1) (parse t 8 0 []).1 = none) (hd : deadAt (ends (parse t 8 0 []).1) (reach (parse t 8 0 []).1) (parse t 8 0 []).1 = none) :
    Calls Tryd.prog 39 #[.string t] w fun e w' => ∃ f, e = .returned (Agg 758 f) ∧ GramOut t w w' f := by
  have HG := hide (show gErr t = (0, 0) from by unfold gErr; rw [if_neg (by omega), if_neg (by rw [hok]; simp), hn, hd])
  have HOk := hide hok
  have HNm := hide hn
  have HDd := hide hd
  clear hok hn hd
  go_enter Tryd.func39, Tryd.ntmps39
  go_wp2_with (first
    | (refine wpList_alloc_blk rfl 93 rfl (some 2) rfl 758 _ Tryd.zeroGram ?_; intro w1 hf1 hs1 hB1; have HF1 := hide hf1; have HB1 := hide hB1; clear hf1 hs1 hB1)
    | (refine wpList_alloc_blk rfl 93 rfl (some 3) rfl 758 _ Tryd.zeroGram ?_; intro w2 hf2 hs2 hB2; have HF2 := hide hf2; have HB2 := hide hB2; have HR2 := hide ((unhide HB1).fr0 hf2); have HL2 := hide (unhide HB1).lt; clear hf2 hs2 hB2)
    | (go_at_call 53; refine (p_readRules w1.heap.size t (fun _ => false) (fun _ _ => false) _ ht (by exact ⟨Below.refl _ _, unhide HB2, World.ownsRow_nil _ _ _ _, fun _ => rfl⟩)).mono ?_; rintro e w3 ⟨rfl, hr3⟩; have HR3 := hide ((unhide HR2).below hr3.1 (by exact unhide HL2)); have HF3 := hide (((unhide HF1).trans0 (unhide HF2)).of_below hr3.1 (unhide HF1).size); obtain ⟨_, q, cap, hg3, hbq⟩ := gat_of_rr ht hr3 (unhide HOk); have Hbq := hide hbq; clear hbq; have HG3 := hide hg3; have c6 := (hg3.blk.cell 756 (by omega)).trans (congrArg some gF_756); have Hq := hide (show w.heap.size ≤ q from by have := unhide Hbq; have := (unhide HF1).size; omega); clear hr3 hg3)
    | (go_at_call 54; refine (p_checkNames w1.heap.size q cap (parse t 8 0 []).1 (fun _ => false) (fun _ _ => false) _ (by exact unhide HG3)).mono ?_; rintro e w4 ⟨rfl, hf4, hg4⟩; rw [unhide HNm] at hg4; have HG4 := hide hg4; have HR4 := hide ((unhide HR3).fr1 hf4 (by have := unhide HL2; omega)); have HF4 := hide ((unhide HF3).trans1 hf4 (Or.inr (unhide HF1).size)); have d6 : w4.cell? ⟨w1.heap.size, 756, none⟩ = some (.int .i64 0) := (hg4.blk.cell 756 (by omega)).trans (congrArg some gF_756); clear hf4 hg4 c6)
    | (go_at_call 55; refine (p_checkDead w1.heap.size q cap (parse t 8 0 []).1 (fun _ => false) (fun _ _ => false) _ (by exact unhide HG4)).mono ?_; rintro e w5 ⟨rfl, hf5, hg5⟩; rw [unhide HDd] at hg5; have HG5 := hide hg5; have HR5 := hide ((unhide HR4).fr1 hf5 (by have := unhide HL2; omega)); have HF5 := hide ((unhide HF4).trans1 hf5 (Or.inr (unhide HF1).size)); have e6 : w5.cell? ⟨w1.heap.size, 756, none⟩ = some (.int .i64 0) := (hg5.blk.cell 756 (by omega)).trans (congrArg some gF_756); clear hf5 hg5 d6)
    | (go_at_call 56; refine (p_makersOf w1.heap.size q cap (parse t 8 0 []).1 (fun _ => false) (fun _ _ => false) _ _ false _ (by exact unhide HG5)).mono ?_; rintro e w6 ⟨rfl, hf6⟩; have HG6 := hide ((unhide HG5).fr0 hf6); have HR6 := hide ((unhide HR5).fr0 hf6); have HF6 := hide ((unhide HF5).trans0 hf6); clear hf6)
    | (refine wpList_store_blk rfl 88 (.tmp 23) (.tmp 22) rfl w1.heap.size 28 26 758 (gF (.slice (some ⟨q, 0, none⟩) (parse t 8 0 []).1.length cap) (stOf (parse t 8 0 []).1) (rset (parse t 8 0 []).1) (fun _ => false) (fun _ _ => false) (errOf none 4) (plOf none)) (setF (nullS (parse t 8 0 []).1)) rfl rfl (by exact (unhide HG6).blk) Tryd.sizeBig (by omega) (by intro i hi; rfl) ?_; intro w7 hf7 hs7 hB7; have HG7 := hide (show GAt w7 w1.heap.size q cap (parse t 8 0 []).1 (nullS (parse t 8 0 []).1) (fun _ _ => false) (errOf none 4) (plOf none) from ⟨hB7.congr fun i _ => gF_layNull i, (unhide HG6).ru.fr hf7 (by have := (unhide HG6).ne; simp; omega) (unhide HG6).lt, (unhide HG6).ne, Nat.lt_of_lt_of_le (unhide HG6).lt hf7.size, (unhide HG6).small, (unhide HG6).len⟩); have HR7 := hide ((unhide HR6).fr1 hf7 (by have := unhide HL2; omega)); have HF7 := hide ((unhide HF6).trans1 hf7 (Or.inr (unhide HF1).size)); clear hf7 hs7 hB7)
    | (go_at_call 57; refine (p_fillFirst w1.heap.size q cap (parse t 8 0 []).1 (nullS (parse t 8 0 []).1) (fun _ _ => false) _ _ _ (by exact unhide HG7) (parse_ok t)).mono ?_; rintro e w8 ⟨rfl, hf8, hg8⟩; have HG8 := hide hg8; have HR8 := hide ((unhide HR7).fr1 hf8 (by have := unhide HL2; omega)); have HF8 := hide ((unhide HF7).trans1 hf8 (Or.inr (unhide HF1).size)); clear hf8 hg8)
    | (refine wpList_load_blk rfl 93 (.tmp 3) rfl (some 25) rfl w1.heap.size 0 758 758 (gF (.slice (some ⟨q, 0, none⟩) (parse t 8 0 []).1.length cap) (stOf (parse t 8 0 []).1) (rset (parse t 8 0 []).1) (nullS (parse t 8 0 []).1) (firstT (parse t 8 0 []).1) (errOf none 4) (plOf none)) _ rfl (by exact (unhide HG8).blk) Tryd.underlying93 rfl Tryd.sizeGram (by omega) ?_)
    | (refine wpList_store_blk rfl 93 (.tmp 2) (.tmp 25) rfl w.heap.size 0 758 758 (gF (.slice none 0 0) 0 (fun _ => false) (fun _ => false) (fun _ _ => false) 0 0) (fun i => (gF (.slice (some ⟨q, 0, none⟩) (parse t 8 0 []).1.length cap) (stOf (parse t 8 0 []).1) (rset (parse t 8 0 []).1) (nullS (parse t 8 0 []).1) (firstT (parse t 8 0 []).1) (errOf none 4) (plOf none)) (0 + i)) rfl rfl (by exact unhide HR8) Tryd.sizeGram (by omega) (by intro i hi; exact oneB_gF' _ rfl _ _ _ _ _ _ _ (by omega)) ?_; intro w9 hf9 hs9 hB9))
  have hfin : Blk w9 w.heap.size 758 (gF (.slice (some ⟨q, 0, none⟩) (parse t 8 0 []).1.length cap) (stOf (parse t 8 0 []).1) (rset (parse t 8 0 []).1) (nullS (parse t 8 0 []).1) (firstT (parse t 8 0 []).1) (errOf none 4) (plOf none)) := hB9.congr fun i hi => by rw [lay_all _ _ _ _ hi, Nat.zero_add]
  refine bodyPost_ret (results_cell Tryd.results39 _ w.heap.size rfl 758 758 _ _ hfin Tryd.underlying93 rfl Tryd.sizeGram (by omega)) rfl ⟨_, rfl, ?_⟩
  refine ⟨(unhide HF8).trans1 hf9 (Or.inr (Nat.le_refl _)), oneB_gF' _ rfl _ _ _ _ _ _, ?_, ?_, ?_⟩
  · rw [gF_756, unhide HG]; rfl
  · rw [gF_757, unhide HG]; rfl
  · intro _
    refine ⟨ht, unhide HOk, q, cap, rfl, (unhide HG8).ru.fr hf9 (by have := unhide Hbq; have := unhide HL2; simp; omega) (unhide HG8).lt, unhide Hq, Nat.lt_of_lt_of_le (unhide HG8).lt hf9.size⟩

theorem p_readGrammar (t : ByteArray) (w : World) (hm : t.size ≤ 9223372036854775807) :
    Calls Tryd.prog 39 #[.string t] w fun e w' => ∃ f, e = .returned (Agg 758 f) ∧ GramOut t w w' f := by
  by_cases h0 : 32 < t.size
  · exact p_readGrammar_long t w h0 hm
  · cases h1 : (parse t 8 0 []).2.2
    · exact p_readGrammar_rule t w (by omega) h1
    · cases h2 : names (rset (parse t 8 0 []).1) (parse t 8 0 []).1 with
      | some k => exact p_readGrammar_name t w (by omega) h1 k h2
      | none => cases h3 : deadAt (ends (parse t 8 0 []).1) (reach (parse t 8 0 []).1) (parse t 8 0 []).1 with
        | some k => exact p_readGrammar_dead t w (by omega) h1 h2 k h3
        | none => exact p_readGrammar_ok t w (by omega) h1 h2 h3

end Go.Proofs.YtkglggkkbmmjkaaDoor

namespace Go.Proofs.YtkglggkkbmmjkaaDoor
open Go.RowKit

set_option maxHeartbeats 400000 in
theorem l_num (n : Int) (w : World) : Calls Tryd.prog 10 #[.int .i64 n] w fun e w' => e = .returned (.int .i64 n) ∧ w' = w := by
  go_enter Tryd.func10, Tryd.ntmps10
  go_wp2
  go_ret
  exact ⟨rfl, rfl⟩

/-- a script lies in memory -/
def ScriptOk (w : World) (ao : Option Addr) (len : Nat) : Prop := len ≤ 70368744177664 ∧ ∀ i, i < len → ∃ b off, ao = some ⟨b, off, none⟩ ∧ b < w.heap.size ∧ ∃ (k n : Int) (g s : ByteArray), g.size ≤ 9223372036854775807 ∧ s.size ≤ 9223372036854775807 ∧
  w.cell? ⟨b, off + i * 4, none⟩ = some (.int .i64 k) ∧ w.cell? ⟨b, off + i * 4 + 1, none⟩ = some (.int .i64 n) ∧ w.cell? ⟨b, off + i * 4 + 2, none⟩ = some (.string g) ∧ w.cell? ⟨b, off + i * 4 + 3, none⟩ = some (.string s)
theorem ScriptOk.fr {w w' : World} {ao : Option Addr} {len : Nat} (h : ScriptOk w ao len) (k : Fr [] w w') : ScriptOk w' ao len := by
  refine ⟨h.1, fun i hi => ?_⟩
  obtain ⟨b, off, ha, hb, kk, n, g, s, hg, hs, c0, c1, c2, c3⟩ := h.2 i hi
  have e : w'.heap[b]? = w.heap[b]? := k.block b hb (by simp)
  refine ⟨b, off, ha, Nat.lt_of_lt_of_le hb k.size, kk, n, g, s, hg, hs, ?_, ?_, ?_, ?_⟩
  · rw [World.cell?_of_block (w := w) (a := ⟨b, _, none⟩) e]; exact c0
  · rw [World.cell?_of_block (w := w) (a := ⟨b, _, none⟩) e]; exact c1
  · rw [World.cell?_of_block (w := w) (a := ⟨b, _, none⟩) e]; exact c2
  · rw [World.cell?_of_block (w := w) (a := ⟨b, _, none⟩) e]; exact c3

end Go.Proofs.YtkglggkkbmmjkaaDoor
