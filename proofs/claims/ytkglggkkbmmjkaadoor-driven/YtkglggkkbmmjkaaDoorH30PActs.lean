import Derived.Test.YtkglggkkbmmjkaaDoorH29PRead0
namespace Go.Proofs.YtkglggkkbmmjkaaDoor
open Go.RowKit

theorem oneB_tbF (p : Pl) (ao : Option Addr) (l cap c f m : Nat) : oneB (tbF p (.slice ao l cap) c f) m := fun i _ => by
  unfold tbF
  split
  · exact oneB_plF p (i + 1) i (Nat.lt_succ_self _)
  · split
    · rfl
    · split <;> rfl
theorem tb_plan (p q : Pl) (v : Value) (c f : Nat) (i : Nat) : lay (tbF p v c f) 0 1359 (plF q) i = tbF q v c f i := by
  unfold lay tbF
  by_cases h : i < 1359
  · rw [if_pos ⟨Nat.zero_le _, by omega⟩, if_pos h]; rfl
  · rw [if_neg (by omega), if_neg h, if_neg h]
theorem start_big (t : ByteArray) (h : (parse t 8 0 []).2.2 = true) : bigB (stOf (parse t 8 0 []).1) = true := by
  have hpos := (parse_good t 8 0 [] (by simp)).2.2 h
  have hl : ∀ r ∈ (parse t 8 0 []).1, bigB r.L = true := fun r hr => ((parse_good t 8 0 [] (by simp)).1 r hr).1
  generalize (parse t 8 0 []).1 = rs at *
  cases rs with
  | nil => simp at hpos
  | cons r l => exact hl r (List.mem_cons_self ..)
/-- the program's plan of a text -/
def plT (t : ByteArray) : Pl := planOf (rul (parse t 8 0 []).1) (nullS (parse t 8 0 []).1) (firstT (parse t 8 0 []).1)
/-- what readTable hands back -/
def TabOut (t : ByteArray) (w w' : World) (f : Nat → Value) : Prop :=
  Fr [] w w' ∧ oneB f 1362 ∧ ((gErr t).1 ≠ 0 → f 1361 = .int .i64 ((gErr t).1 : Nat) ∧ f 1359 = .slice none 0 0) ∧
  ((gErr t).1 = 0 → ∃ n v S c fl base, (∀ i, i < 1362 → f i = tbF (plT t) v c fl i) ∧ StatesR (plT t) n S c fl ∧ (fl = 0 → n = S.length) ∧ S.length ≤ 40 ∧ c ≤ S.length ∧ GRow w' base 102 1268 v S.length (rwF S) ∧ w.heap.size ≤ base)
theorem gat_of_gram {t : ByteArray} {w w1 w2 w3 : World} {f : Nat → Value} {z : Nat → Value} (h : GramOut t w w1 f) (h0 : (gErr t).1 = 0) (hf2 : Fr [] w1 w2) (hf3 : Fr [w1.heap.size] w2 w3) (hB : Blk w3 w1.heap.size 758 (lay z 0 758 f)) :
    (parse t 8 0 []).2.2 = true ∧ ∃ q cap, GAt w3 w1.heap.size q cap (parse t 8 0 []).1 (nullS (parse t 8 0 []).1) (firstT (parse t 8 0 []).1) 0 0 := by
  obtain ⟨ht, hp, q, cap, hf, hru, hq1, hq2⟩ := h.2.2.2.2 h0
  refine ⟨hp, q, cap, by rw [← hf]; exact hB.congr fun i hi => lay_all _ _ _ i hi, (hru.fr hf2 (by simp) hq2).fr hf3 (by simp; omega) (Nat.lt_of_lt_of_le hq2 hf2.size), by omega, Nat.lt_of_lt_of_le hq2 (Nat.le_trans hf2.size hf3.size), (parse_small t ht).1, (parse_small t ht).2⟩

theorem upd_one (k : Nat) : oneB (fun i => upd zTb 1361 (.int .i64 (k : Nat)) (0 + i)) 1362 := fun i _ => by
  show (upd zTb 1361 _ (0 + i)).oneCell' = true
  unfold upd
  split
  · rfl
  · exact oneB_tbF _ _ _ _ _ _ (0 + i + 1) (0 + i) (Nat.lt_succ_self _)
theorem tb_one {w : World} {tb base : Nat} {p : Pl} {v : Value} {S : List Sd} {c fl : Nat} (h : TbAt w tb base p v S c fl) : oneB (fun i => tbF p v c fl (0 + i)) 1362 := fun i _ => by
  obtain ⟨ao, cap, hv, _⟩ := h.form
  rw [hv]
  exact oneB_tbF p ao _ cap c fl (0 + i + 1) (0 + i) (Nat.lt_succ_self _)

set_option maxRecDepth 100000 in
set_option maxHeartbeats 2000000 in
/-- readTable -/
theorem p_readTable (t : ByteArray) (w : World) (ht : t.size ≤ 9223372036854775807) :
    Calls Tryd.prog 23 #[.string t] w fun e w' => ∃ f, e = .returned (Agg 1362 f) ∧ TabOut t w w' f := by
  by_cases h0 : (gErr t).1 = 0
  · have hb : ((((gErr t).1 : Nat) : Int) != 0) = false := by simp; omega
    have H0 := hide h0
    clear h0
    go_enter Tryd.func23, Tryd.ntmps23
    go_wp2_with (first
      | (refine wpList_alloc_blk rfl 57 rfl (some 2) rfl 1362 _ Tryd.zeroTbl ?_; intro w1 hf1 hs1 hB1; have HF1 := hide hf1; have HA1 := hide hB1; clear hf1 hB1)
      | (refine wpList_alloc_blk rfl 57 rfl (some 3) rfl 1362 _ Tryd.zeroTbl ?_; intro w2 hf2 hs2 hB2; have HF2 := hide ((unhide HF1).trans0 hf2); have HA2 := hide ((unhide HA1).fr0 hf2); have HB2 := hide (show Blk w2 (w.heap.size + 1) 1362 zTb from hs1 ▸ hB2); clear hf2 hB2 HF1 HA1)
      | (go_at_call 39; refine (p_readGrammar t w2 ht).mono ?_; rintro e w3 ⟨f, rfl, hg⟩; have HG := hide hg; have HF3 := hide ((unhide HF2).trans0 hg.1); have HA3 := hide ((unhide HA2).fr0 hg.1); have HB3 := hide ((unhide HB2).fr0 hg.1); clear hg HF2 HA2 HB2)
      | (refine wpList_alloc_blk rfl 93 rfl (some 4) rfl 758 _ Tryd.zeroGram ?_; intro w4 hf4 hs4 hB4; have HF4 := hide hf4; have HB4 := hide hB4; clear hf4 hB4)
      | (refine wpList_store_blk rfl 93 (.tmp 4) (.tmp 6) rfl w3.heap.size 0 758 758 (gF (.slice none 0 0) 0 (fun _ => false) (fun _ => false) (fun _ _ => false) 0 0) f rfl rfl (by exact unhide HB4) Tryd.sizeGram (by omega) (by exact (unhide HG).2.1) ?_; intro w5 hf5 hs5 hB5; obtain ⟨hp5, q, cap, hg5⟩ := gat_of_gram (unhide HG) (unhide H0) (unhide HF4) hf5 hB5; have HP5 := hide hp5; have HG5 := hide hg5; have HF5 := hide (show Fr [] w w5 ∧ Blk w5 w.heap.size 1362 zTb ∧ Blk w5 (w.heap.size + 1) 1362 zTb from ⟨((unhide HF3).trans0 (unhide HF4)).trans1 hf5 (Or.inr (unhide HF3).size), ((unhide HA3).fr0 (unhide HF4)).fr1 hf5 (Nat.ne_of_lt (unhide HA3).lt), ((unhide HB3).fr0 (unhide HF4)).fr1 hf5 (Nat.ne_of_lt (unhide HB3).lt)⟩); have c6 := (hB5.cell 756 (by omega)).trans (congrArg some ((lay_all _ _ _ _ (by omega)).trans (unhide HG).2.2.1)); clear hf5 hB5 hg5 hp5 HF3 HA3 HB3)
      | (go_at_call 40; refine (p_makePlan w3.heap.size q cap (parse t 8 0 []).1 _ _ 0 0 w5 (by exact unhide HG5) (start_big t (unhide HP5)) (fun i h => (by have := ((parse_good t 8 0 [] (by simp)).1 _ (List.getElem_mem h)); exact ⟨by have := this.2.1; omega, this.2.2.2⟩))).mono ?_; rintro e w6 ⟨rfl, hf6⟩; have H6 := hide (show Fr [] w w6 ∧ Blk w6 w.heap.size 1362 zTb ∧ Blk w6 (w.heap.size + 1) 1362 zTb from ⟨(unhide HF5).1.trans0 hf6, (unhide HF5).2.1.fr0 hf6, (unhide HF5).2.2.fr0 hf6⟩); clear hf6)
      | (refine wpList_store_blk rfl 54 (.tmp 15) (.tmp 14) rfl (w.heap.size + 1) 0 1359 1362 zTb (plF (plT t)) rfl rfl (by exact (unhide H6).2.2) Tryd.sizePlan (by omega) (oneB_plF _ 1359) ?_; intro w7 hf7 hs7 hB7; have H7 := hide (show Fr [] w w7 ∧ Blk w7 w.heap.size 1362 zTb ∧ Blk w7 (w.heap.size + 1) 1362 (tbF (plT t) (.slice none 0 0) 0 0) from ⟨(unhide H6).1.trans1 hf7 (Or.inr (by omega)), (unhide H6).2.1.fr1 hf7 (by omega), hB7.congr fun i _ => tb_plan _ _ _ _ _ i⟩); clear hf7 hB7)
      | (go_at_call 41; refine (p_findStates (w.heap.size + 1) (plT t) w7 (by exact (unhide H7).2.2)).mono ?_; rintro e w8 ⟨rfl, hf8, n, v, S, c, fl, hR, hT, hfn, hl, hc⟩; have H8 := hide (show Fr [] w w8 ∧ Blk w8 w.heap.size 1362 zTb ∧ Blk w8 (w.heap.size + 1) 1362 (tbF (plT t) v c fl) from ⟨(unhide H7).1.trans1 hf8 (Or.inr (by omega)), (unhide H7).2.1.fr1 hf8 (by omega), hT.blk⟩); have HX := hide (And.intro hR (And.intro hT (And.intro hfn (And.intro hl (And.intro hc (And.intro (unhide H7).1.size hf8)))))); clear hR hT hfn hl hc hf8)
      | (refine wpList_load_blk rfl 57 (.tmp 3) rfl (some 17) rfl (w.heap.size + 1) 0 1362 1362 (tbF (plT t) v c fl) _ rfl (by exact (unhide H8).2.2) Tryd.underlying57 rfl Tryd.sizeTbl (by omega) ?_)
      | (refine wpList_store_blk rfl 57 (.tmp 2) (.tmp 17) rfl w.heap.size 0 1362 1362 zTb (fun i => tbF (plT t) v c fl (0 + i)) rfl rfl (by exact (unhide H8).2.1) Tryd.sizeTbl (by omega) (tb_one (unhide HX).2.1) ?_; intro w9 hf9 hs9 hB9))
    have hnw : w.heap.size < w7.heap.size := (unhide H7).2.1.lt
    exact bodyPost_ret (results_cell Tryd.results23 _ w.heap.size rfl 1362 1362 _ _ (hB9.congr fun i hi => lay_all _ _ _ i hi) Tryd.underlying57 rfl Tryd.sizeTbl (by omega)) rfl ⟨_, rfl, (unhide H8).1.trans1 hf9 (Or.inr (Nat.le_refl _)), tb_one (unhide HX).2.1, fun h => absurd (unhide H0) h, fun _ => ⟨n, v, S, c, fl, w7.heap.size, fun i _ => congrArg _ (Nat.zero_add i), (unhide HX).1, (unhide HX).2.2.1, (unhide HX).2.2.2.1, (unhide HX).2.2.2.2.1, (unhide HX).2.1.row.fr hf9 (fun g hg => by have := ((unhide HX).2.1.row.lt hg).1; simp; omega), (unhide H7).1.size⟩⟩
  · have hb : ((((gErr t).1 : Nat) : Int) != 0) = true := by rw [bne_iff_ne]; omega
    have H0 := hide h0
    clear h0
    go_enter Tryd.func23, Tryd.ntmps23
    go_wp2_with (first
      | (refine wpList_alloc_blk rfl 57 rfl (some 2) rfl 1362 _ Tryd.zeroTbl ?_; intro w1 hf1 hs1 hB1; have HF1 := hide hf1; have HA1 := hide hB1; clear hf1 hB1)
      | (refine wpList_alloc_blk rfl 57 rfl (some 3) rfl 1362 _ Tryd.zeroTbl ?_; intro w2 hf2 hs2 hB2; have HF2 := hide ((unhide HF1).trans0 hf2); have HA2 := hide ((unhide HA1).fr0 hf2); have HB2 := hide (show Blk w2 (w.heap.size + 1) 1362 zTb from hs1 ▸ hB2); clear hf2 hB2 HF1 HA1)
      | (go_at_call 39; refine (p_readGrammar t w2 ht).mono ?_; rintro e w3 ⟨f, rfl, hg⟩; have HG := hide hg; have HF3 := hide ((unhide HF2).trans0 hg.1); have HA3 := hide ((unhide HA2).fr0 hg.1); have HB3 := hide ((unhide HB2).fr0 hg.1); clear hg HF2 HA2 HB2)
      | (refine wpList_alloc_blk rfl 93 rfl (some 4) rfl 758 _ Tryd.zeroGram ?_; intro w4 hf4 hs4 hB4; have HF4 := hide hf4; have HB4 := hide hB4; clear hf4 hB4)
      | (refine wpList_store_blk rfl 93 (.tmp 4) (.tmp 6) rfl w3.heap.size 0 758 758 (gF (.slice none 0 0) 0 (fun _ => false) (fun _ => false) (fun _ _ => false) 0 0) f rfl rfl (by exact unhide HB4) Tryd.sizeGram (by omega) (by exact (unhide HG).2.1) ?_; intro w5 hf5 hs5 hB5; have H5 := hide (show Fr [] w w5 ∧ Blk w5 w.heap.size 1362 zTb ∧ Blk w5 (w.heap.size + 1) 1362 zTb from ⟨((unhide HF3).trans0 (unhide HF4)).trans1 hf5 (Or.inr (unhide HF3).size), ((unhide HA3).fr0 (unhide HF4)).fr1 hf5 (Nat.ne_of_lt (unhide HA3).lt), ((unhide HB3).fr0 (unhide HF4)).fr1 hf5 (Nat.ne_of_lt (unhide HB3).lt)⟩); have c6 := (hB5.cell 756 (by omega)).trans (congrArg some ((lay_all _ _ _ _ (by omega)).trans (unhide HG).2.2.1)); have k6 := (unhide H5).2.2.cell 1361 (by omega); have z6 := (unhide H5).2.2.free 1361; clear hf5 hB5 HF3 HA3 HB3)
      | (refine wpList_load_blk rfl 57 (.tmp 3) rfl (some 13) rfl (w.heap.size + 1) 0 1362 1362 (upd zTb 1361 (.int .i64 ((gErr t).1 : Nat))) _ rfl (by exact (unhide H5).2.2.setCell 1361 _) Tryd.underlying57 rfl Tryd.sizeTbl (by omega) ?_)
      | (refine wpList_store_blk rfl 57 (.tmp 2) (.tmp 13) rfl w.heap.size 0 1362 1362 zTb (fun i => upd zTb 1361 (.int .i64 ((gErr t).1 : Nat)) (0 + i)) rfl rfl (by exact (unhide H5).2.1.setCell_ne ⟨w.heap.size + 1, 1361, none⟩ (by simp) _) Tryd.sizeTbl (by omega) (upd_one _) ?_; intro w9 hf9 hs9 hB9))
    exact bodyPost_ret (results_cell Tryd.results23 _ w.heap.size rfl 1362 1362 _ _ (hB9.congr fun i hi => lay_all _ _ _ i hi) Tryd.underlying57 rfl Tryd.sizeTbl (by omega)) rfl ⟨_, rfl, ((unhide H5).1.setCell ⟨w.heap.size + 1, 1361, none⟩ (Or.inr (by simp)) _).trans1 hf9 (Or.inr (Nat.le_refl _)), upd_one _, fun _ => ⟨rfl, rfl⟩, fun h => absurd h (unhide H0)⟩
end Go.Proofs.YtkglggkkbmmjkaaDoor

namespace Go.Proofs.YtkglggkkbmmjkaaDoor
open Go.RowKit

/-- a table to be read -/
structure TbR (w : World) (tb base : Nat) (p : Pl) (v : Value) (S : List Sd) (cores fault : Nat) : Prop where
  blk : Blk w tb 1362 (tbF p v cores fault)
  row : GRow w base 102 1268 v S.length (rwF S)
theorem TbR.v {w : World} {tb base : Nat} {p : Pl} {v : Value} {S : List Sd} {cores fault : Nat} (h : TbR w tb base p v S cores fault) : w.cell? ⟨tb, 1359, none⟩ = some v := h.blk.cell 1359 (by omega)
theorem TbR.cores {w : World} {tb base : Nat} {p : Pl} {v : Value} {S : List Sd} {cores fault : Nat} (h : TbR w tb base p v S cores fault) : w.cell? ⟨tb, 1360, none⟩ = some (.int .i64 (cores : Nat)) := h.blk.cell 1360 (by omega)
theorem TbR.plan {w : World} {tb base : Nat} {p : Pl} {v : Value} {S : List Sd} {cores fault : Nat} (h : TbR w tb base p v S cores fault) : PlAt w tb p := fun i hi => by
  rw [Nat.zero_add, h.blk.cell i (by omega)]
  unfold tbF; rw [if_pos hi]
theorem TbR.fr0 {w w' : World} {tb base : Nat} {p : Pl} {v : Value} {S : List Sd} {cores fault : Nat} (h : TbR w tb base p v S cores fault) (k : Fr [] w w') : TbR w' tb base p v S cores fault := ⟨h.blk.fr0 k, h.row.fr k (by simp)⟩
theorem TbR.far {w w' : World} {tb base x : Nat} {p : Pl} {v : Value} {S : List Sd} {cores fault : Nat} (h : TbR w tb base p v S cores fault) (k : Fr [x] w w') (hx : tb ≠ x) (hv : v.ownBlock ≠ some x) : TbR w' tb base p v S cores fault := ⟨h.blk.fr1 k hx, h.row.fr k (fun g hg => by simp; intro e; exact hv (by rw [hg, e]))⟩
theorem TbR.form {w : World} {tb base : Nat} {p : Pl} {v : Value} {S : List Sd} {cores fault : Nat} (h : TbR w tb base p v S cores fault) : ∃ ao cap, v = .slice ao S.length cap ∧ (0 < S.length → ∃ g, ao = some ⟨g, 0, none⟩ ∧ v.ownBlock = some g) := by
  obtain ⟨h1, h2⟩ := h.row
  rcases h2 with ⟨rfl, h2⟩ | ⟨g', cap', cur, rfl, _⟩
  · exact ⟨none, 0, by rw [h2], fun hn => by omega⟩
  · exact ⟨_, cap', rfl, fun _ => ⟨g', rfl, rfl⟩⟩
theorem TbR.items {w : World} {tb base g n cap : Nat} {p : Pl} {S : List Sd} {cores fault : Nat} (h : TbR w tb base p (.slice (some ⟨g, 0, none⟩) n cap) S cores fault) (i : Nat) (hi : i < S.length) : CsAt w g (i * 1268) 1215 (boolF (sget S i).A) := fun j hj => by
  have := h.row.cs i hi j (by omega)
  dsimp only at this
  rw [this, rwF_at _ _ _ (by omega), stF_A _ _ hj]; rfl
theorem TbR.core {w : World} {tb base g n cap : Nat} {p : Pl} {S : List Sd} {cores fault : Nat} (h : TbR w tb base p (.slice (some ⟨g, 0, none⟩) n cap) S cores fault) (i : Nat) (hi : i < S.length) : w.cell? ⟨g, i * 1268 + 1267, none⟩ = some (.int .i64 ((sget S i).core : Nat)) := by
  have := h.row.cs i hi 1267 (by omega)
  dsimp only at this
  rw [this, rwF_at _ _ _ (by omega)]; rfl
theorem TbR.to {w : World} {tb base g n cap : Nat} {p : Pl} {S : List Sd} {cores fault : Nat} (h : TbR w tb base p (.slice (some ⟨g, 0, none⟩) n cap) S cores fault) (i k : Nat) (hi : i < S.length) (hk : k < 52) : w.cell? ⟨g, i * 1268 + 1215 + k, none⟩ = some (.int .i64 ((sget S i).nx k)) := by
  have := h.row.cs i hi (1215 + k) (by omega)
  dsimp only at this
  rw [← Nat.add_assoc] at this
  rw [this, Nat.add_assoc, rwF_at _ _ _ (by omega)]
  unfold stF
  rw [if_neg (by omega), if_pos (by omega), Nat.add_sub_cancel_left]

set_option maxHeartbeats 400000 in
/-- table.hasState, to be read -/
theorem p_hasStateR (tb base : Nat) (p : Pl) (v : Value) (S : List Sd) (cores fault : Nat) (n : Int) (w : World) (h : TbR w tb base p v S cores fault) :
    Calls Tryd.prog 24 #[.pointer (some ⟨tb, 0, none⟩), .int .i64 n] w fun e w' => e = .returned (.bool (decide (0 ≤ n) && decide (n < S.length))) ∧ w' = w := by
  obtain ⟨ao, cap, hv, _⟩ := h.form
  have c0 := h.v
  rw [hv] at c0
  clear h hv
  by_cases h0 : 0 ≤ n
  · by_cases h1 : n < S.length
    · go_enter Tryd.func24, Tryd.ntmps24
      go_wp2
      go_ret
      exact ⟨by simp [h0, h1], rfl⟩
    · go_enter Tryd.func24, Tryd.ntmps24
      go_wp2
      go_ret
      exact ⟨by simp [h1], rfl⟩
  · go_enter Tryd.func24, Tryd.ntmps24
    go_wp2
    go_ret
    exact ⟨by simp; omega, rfl⟩

set_option maxHeartbeats 400000 in
theorem p_isSign (c : Nat) (w : World) : Calls Tryd.prog 25 #[.int .u8 c] w fun e w' => e = .returned (.bool (sigB c)) ∧ w' = w := by
  by_cases e : c = 36
  · subst e
    go_enter Tryd.func25, Tryd.ntmps25
    go_wp2
    go_ret
    exact ⟨rfl, rfl⟩
  · have hd : ((c : Int) == 36) = false := by simp; omega
    have HC := hide (show sigB c = smallB c from by unfold sigB; rw [show (c == 36) = false from by simpa using e]; rfl)
    clear e
    go_enter Tryd.func25, Tryd.ntmps25
    go_wp2_with (go_at_call 42; refine (p_isSmall _ _).mono ?_; rintro e w' ⟨rfl, rfl⟩)
    go_ret
    exact ⟨by rw [unhide HC]; simp, rfl⟩

set_option maxHeartbeats 400000 in
/-- signSet.has -/
theorem p_shas (b off c : Nat) (A : Nat → Bool) (w : World) (h : CsAt w b off 27 (boolF A)) (hc : sigB c = true) :
    Calls Tryd.prog 43 #[.pointer (some ⟨b, off, none⟩), .int .u8 c] w fun e w' => e = .returned (.bool (A (sgO c))) ∧ w' = w := by
  have hk := sgO_lt hc
  obtain ⟨k, hk0⟩ : ∃ k, sgO c = k := ⟨_, rfl⟩
  rw [hk0] at hk ⊢
  have d0 : w.cell? ⟨b, off + k, none⟩ = some (.bool (A k)) := h k hk
  have HK := hide hk0
  have HC := hide hc
  clear hk0 hc h
  go_enter Tryd.func43, Tryd.ntmps43
  go_wp2_with (go_at_call 62; refine (p_signIndex _ _ (unhide HC)).mono ?_; rintro e w' ⟨rfl, hw'⟩; rw [hw', unhide HK])
  go_ret
  exact ⟨rfl, rfl⟩

/-- where a letter leads -/
def stepTo (S : List Sd) (k c : Nat) : Int := if letB c then (sget S k).nx (ltI c) else -1
set_option maxHeartbeats 1000000 in
/-- table.step -/
theorem p_tstep (tb base k c : Nat) (p : Pl) (v : Value) (S : List Sd) (cores fault : Nat) (w : World) (h : TbR w tb base p v S cores fault) (hk : k < S.length) :
    Calls Tryd.prog 29 #[.pointer (some ⟨tb, 0, none⟩), .int .i64 k, .int .u8 c] w fun e w' => e = .returned (.int .i64 (stepTo S k c)) ∧ w' = w := by
  have hhs : (decide (0 ≤ (k : Int)) && decide ((k : Int) < S.length)) = true := by simp; omega
  have hki : (k : Int) < S.length := by omega
  have H := hide h
  cases hc : letB c
  · have HS := hide (show stepTo S k c = -1 from by unfold stepTo; rw [hc]; rfl)
    have HC := hide hc
    clear h hc
    go_enter Tryd.func29, Tryd.ntmps29
    go_wp2_with (first
      | (go_at_call 45; refine (p_letterIndex_not _ _ (unhide HC)).mono ?_; rintro e w' ⟨rfl, hw'⟩; rw [hw'])
      | (go_at_call 24; refine (p_hasStateR tb base p v S cores fault k _ (by exact unhide H)).mono ?_; rintro e w' ⟨rfl, hw'⟩; rw [hw', hhs]))
    go_ret
    exact ⟨ret_int (unhide HS).symm, rfl⟩
  · have hl := ltI_lt hc
    obtain ⟨j, hj⟩ : ∃ j, ltI c = j := ⟨_, rfl⟩
    rw [hj] at hl
    have HS := hide (show stepTo S k c = (sget S k).nx j from by unfold stepTo; rw [hc, hj]; rfl)
    obtain ⟨ao, cap, hv, hao⟩ := h.form
    obtain ⟨g, rfl, _⟩ := hao (by omega)
    have q0 := h.v
    rw [hv] at q0 h
    have q1 := h.to k j hk hl
    have HC := hide hc
    have HJ := hide hj
    have HV := hide hv
    clear h hc hj hao hv
    go_enter Tryd.func29, Tryd.ntmps29
    go_wp2_with (first
      | (go_at_call 45; refine (p_letterIndex _ _ (unhide HC)).mono ?_; rintro e w' ⟨rfl, hw'⟩; rw [hw', unhide HJ])
      | (go_at_call 24; refine (p_hasStateR tb base p v S cores fault k _ (by exact unhide H)).mono ?_; rintro e w' ⟨rfl, hw'⟩; rw [hw', hhs]))
    go_ret
    exact ⟨ret_int (unhide HS).symm, rfl⟩
end Go.Proofs.YtkglggkkbmmjkaaDoor
