import Derived.Test.YtkglggkkbmmjkabGreatDoorG31PTMath3
import Derived.Test.YtkglggkkbmmjkabGreatDoorG30PStates
import Derived.Test.YtkglggkkbmmjkabGreatDoorG11PartsM
namespace Go.Proofs.YtkglggkkbmmjkabGreatDoor
open Go.RowKit
theorem row_gap {st : Nat → List It} (a b d : List Nat) (h : ∀ c ∈ b, st c = []) (S : List (List It)) (m : List (Nat × Nat)) : rowM st (a ++ (b ++ d)) S m = rowM st (a ++ d) S m := by
 rw [zbk, zbk]
 congr 1
 funext r
 rw [zbk, rowM_skip st b h, Option.bind_some]
theorem letters1 : List.range' 65 58 = List.range' 65 26 ++ (List.range' 91 6 ++ List.range' 97 26) := by kernel_rfl
theorem letters2 : (List.range 52).map ltr = List.range' 65 26 ++ List.range' 97 26 := by kernel_rfl
theorem row_letters {st : Nat → List It} (h : ∀ c, 91 ≤ c → c ≤ 96 → st c = []) (S : List (List It)) (m : List (Nat × Nat)) : rowM st (List.range' 65 58) S m = rowM st ((List.range 52).map ltr) S m := by
 rw [letters1, letters2]
 exact row_gap _ _ _ (fun c hc => by
  have := List.mem_range'_1.1 hc
  exact h c (by omega) (by omega)) S m
theorem step_other {L : List Ru} {N : Nat → Bool} {T : Nat → Nat → Bool} (hC : Ctx L N T) (l : List It) (c : Nat) (h1 : 91 ≤ c) (h2 : c ≤ 96) : zci L N T l c = [] := by
 refine stepM_eq (K := []) ⟨List.Pairwise.nil, (fun _ h => by cases h), fun y => ⟨(fun h => by cases h), fun ⟨x, _, hm, _⟩ => ?_⟩⟩ (full_nil L N T)
 have := hC.let_ x.R x.P hm.1
 rw [hm.2, letB_iff] at this
 omega
theorem repL_fst : repL fstI = [⟨0, 0, 36⟩] := by
 refine srt_ext (srt_repL _) (List.pairwise_singleton ..) fun y => ?_
 rw [zbz, List.mem_singleton]
 constructor
 ·rintro ⟨j, _, hj, rfl⟩
  have e : j = 0 := by simpa [fstI] using hj
  rw [e]; rfl
 ·rintro rfl
  exact ⟨0, by omega, rfl, rfl⟩
theorem start_of {L : List Ru} {N : Nat → Bool} {T : Nat → Nat → Bool} (hC : Ctx L N T) {B : Nat → Bool} (h : FuI (za0 L N T) fstI B) : zby L N T = repL B ∧ SOk L B := by
 have hf : SOk L fstI := fun j _ hj => by
  have e : j = 0 := by simpa [fstI] using hj
  rw [e]
  exact ⟨hC.pos, Nat.zero_le _, Or.inl rfl⟩
 obtain ⟨h1, h2⟩ := full_of hC.good hC.van hC.small hf h
 rw [repL_fst] at h1
 exact ⟨startM_eq h1, h2⟩
def TosOk (S : List Sd) (n : Nat) (M : List (List (Nat × Nat))) : Prop := M.length = n ∧ (∀ m, m < n → ∀ k, k < 52 → (sget S m).nx k = toM (M.getD m []) (ltr k)) ∧ ∀ m, m < n → ∀ q ∈ M.getD m [], ∃ k, k < 52 ∧ q.1 = ltr k
theorem states_tab {L : List Ru} {N : Nat → Bool} {T : Nat → Nat → Bool} (hC : Ctx L N T) {n : Nat} {S : List Sd} {c f : Nat} (h : StatesR (za0 L N T) n S c f) :
 SsOk L S ∧ S.length ≤ 40 ∧ (f = 0 ∨ f = 6) ∧ 0 < S.length ∧ n ≤ S.length ∧
 (f = 0 → ∃ M, TosOk S n M ∧ ∀ F, tabM L N T (F + n) 0 [zby L N T] [] = tabM L N T F n (mOf S) M) ∧
 (f = 6 → ∀ F, tabM L N T (F + n) 0 [zby L N T] [] = none) := by
 induction h with
 | @start B hB =>
  obtain ⟨h1, h2⟩ := start_of hC hB
  refine ⟨fun s hs => by rw [List.mem_singleton.1 hs]; exact h2, by show 1 ≤ 40; omega, Or.inl rfl, by show 0 < 1; omega, Nat.zero_le _, fun _ => ⟨[], ⟨rfl, (fun m hm => by omega), (fun m hm => by omega)⟩, fun F => ?_⟩, fun e => by cases e⟩
  rw [h1]; rfl
 | @step n S S' c c' f' _ hn hR ih =>
  obtain ⟨k1, k2, _, k4, k5, k6, _⟩ := ih
  obtain ⟨M, hM, hT⟩ := k6 rfl
  obtain ⟨h1, h2, h3, h4, h5, h6, h7⟩ := steps_row hC (k1.get hn) k1 hn k2 hR (Nat.le_refl _)
  have hget : ∀ (hh : n < (mOf S).length), (mOf S)[n] = repL (sget S n).A := fun hh => by
   rw [sget_eq S n hn]; simp [mOf]
  have hnm : n < (mOf S).length := by rw [zcr]; exact hn
  have hrow : ∀ m, rowM (zci L N T (mOf S)[n]) (List.range' 65 58) (mOf S) m = rowM (zci L N T (repL (sget S n).A)) ((List.range 52).map ltr) (mOf S) m := fun m => by
   rw [hget hnm]
   exact row_letters (fun c h1 h2 => step_other hC _ c h1 h2) _ _
  refine ⟨h1, h3, h4, by omega, by omega, fun e => ?_, fun e F => ?_⟩
  ·obtain ⟨m, hm1, hm2⟩ := h6 e
   refine ⟨M ++ [m], ⟨by rw [List.length_append, hM.1]; rfl, fun q hq k hk => ?_, fun q hq => ?_⟩, fun F => ?_⟩
   ·rw [List.getD_eq_getElem?_getD]
    by_cases e2 : q = n
    ·subst e2
     rw [List.getElem?_append_right (by rw [hM.1]; exact Nat.le_refl _), hM.1, Nat.sub_self]
     exact hm2.1 k hk
    ·rw [List.getElem?_append_left (by rw [hM.1]; omega), h5 q e2 (by omega), hM.2.1 q (by omega) k hk, List.getD_eq_getElem?_getD]
   ·rw [List.getD_eq_getElem?_getD]
    by_cases e2 : q = n
    ·subst e2
     rw [List.getElem?_append_right (by rw [hM.1]; exact Nat.le_refl _), hM.1, Nat.sub_self]
     exact hm2.2
    ·rw [List.getElem?_append_left (by rw [hM.1]; omega), ← List.getD_eq_getElem?_getD]
     exact hM.2.2 q (by omega)
   ·rw [show F + (n + 1) = (F + 1) + n from by omega, hT (F + 1), tabM, dif_pos hnm, hrow, hm1]
  ·rw [show F + (n + 1) = (F + 1) + n from by omega, hT (F + 1), tabM, dif_pos hnm, hrow, h7 e]
end Go.Proofs.YtkglggkkbmmjkabGreatDoor
namespace Go.Proofs.YtkglggkkbmmjkabGreatDoor
open Go.RowKit
def zTb : Nat → Value := tbF (za0 [] (fun _ => false) (fun _ _ => false)) (.slice none 0 0) 0 0
theorem Tryz.zeroTbl : (Tryz.prog.info? 79).bind (·.zero) = some (Agg 1362 zTb) := by kernel_rfl
theorem Tryz.sizeTbl : (Tryz.prog.info? 79).map (·.size) = some 1362 := by kernel_rfl
end Go.Proofs.YtkglggkkbmmjkabGreatDoor
namespace Go.Proofs.YtkglggkkbmmjkabGreatDoor
open Go.RowKit
theorem oneB_tbF (p : Pl) (ao : Option Addr) (l cap c f m : Nat) : oneB (tbF p (.slice ao l cap) c f) m := fun i _ => by
 unfold tbF
 split
 ·exact oneB_plF p (i + 1) i (Nat.lt_succ_self _)
 ·split
  ·rfl
  ·split <;> rfl
theorem tb_plan (p q : Pl) (v : Value) (c f : Nat) (i : Nat) : lay (tbF p v c f) 0 1359 (plF q) i = tbF q v c f i := by
 unfold lay tbF
 by_cases h : i < 1359
 ·rw [if_pos ⟨Nat.zero_le _, by omega⟩, if_pos h]; rfl
 ·rw [if_neg (by omega), if_neg h, if_neg h]
theorem start_big (t : ByteArray) (h : (zad t 8 0 []).2.2 = true) : bigB (stOf (zad t 8 0 []).1) = true := by
 have hpos := (zaw t 8 0 [] (by simp)).2.2 h
 have hl : ∀ r ∈ (zad t 8 0 []).1, bigB r.L = true := fun r hr => ((zaw t 8 0 [] (by simp)).1 r hr).1
 generalize (zad t 8 0 []).1 = rs at *
 cases rs with
 | nil => simp at hpos
 | cons r l => exact hl r (List.mem_cons_self ..)
def plT (t : ByteArray) : Pl := za0 (rul (zad t 8 0 []).1) (zan (zad t 8 0 []).1) (zau (zad t 8 0 []).1)
def zco (t : ByteArray) (w w' : World) (f : Nat → Value) : Prop :=
 Fr [] w w' ∧ oneB f 1362 ∧ ((gErr t).1 ≠ 0 → f 1361 = .int .i64 ((gErr t).1 : Nat) ∧ f 1359 = .slice none 0 0) ∧
 ((gErr t).1 = 0 → ∃ n v S c fl base, (∀ i, i < 1362 → f i = tbF (plT t) v c fl i) ∧ StatesR (plT t) n S c fl ∧ (fl = 0 → n = S.length) ∧ S.length ≤ 40 ∧ c ≤ S.length ∧ GRow w' base 147 1268 v S.length (rwF S) ∧ w.heap.size ≤ base)
theorem gat_of_gram {t : ByteArray} {w w1 w2 w3 : World} {f : Nat → Value} {z : Nat → Value} (h : GramOut t w w1 f) (h0 : (gErr t).1 = 0) (hf2 : Fr [] w1 w2) (hf3 : Fr [w1.heap.size] w2 w3) (hB : Blk w3 w1.heap.size 758 (lay z 0 758 f)) :
 (zad t 8 0 []).2.2 = true ∧ ∃ q cap, GAt w3 w1.heap.size q cap (zad t 8 0 []).1 (zan (zad t 8 0 []).1) (zau (zad t 8 0 []).1) 0 0 := by
 obtain ⟨ht, hp, q, cap, hf, hru, hq1, hq2⟩ := h.2.2.2.2 h0
 refine ⟨hp, q, cap, by rw [← hf]; exact hB.congr fun i hi => zag _ _ _ i hi, (hru.fr hf2 (by simp) hq2).fr hf3 (by simp; omega) (Nat.lt_of_lt_of_le hq2 hf2.size), by omega, Nat.lt_of_lt_of_le hq2 (Nat.le_trans hf2.size hf3.size), (za9 t ht).1, (za9 t ht).2⟩
theorem upd_one (k : Nat) : oneB (fun i => upd zTb 1361 (.int .i64 (k : Nat)) (0 + i)) 1362 := fun i _ => by
 show (upd zTb 1361 _ (0 + i)).oneCell' = true
 unfold upd
 split
 ·rfl
 ·exact oneB_tbF _ _ _ _ _ _ (0 + i + 1) (0 + i) (Nat.lt_succ_self _)
theorem tb_one {w : World} {tb base : Nat} {p : Pl} {v : Value} {S : List Sd} {c fl : Nat} (h : TbAt w tb base p v S c fl) : oneB (fun i => tbF p v c fl (0 + i)) 1362 := fun i _ => by
 obtain ⟨ao, cap, hv, _⟩ := h.form
 rw [hv]
 exact oneB_tbF p ao _ cap c fl (0 + i + 1) (0 + i) (Nat.lt_succ_self _)
set_option maxRecDepth 100000 in
set_option maxHeartbeats 2000000 in
theorem zbg (t : ByteArray) (w : World) (ht : t.size ≤ 9223372036854775807) :
 Calls Tryz.prog 71 #[.string t] w fun e w' => ∃ f, e = .returned (Agg 1362 f) ∧ zco t w w' f := by
 by_cases h0 : (gErr t).1 = 0
 ·have hb : ((((gErr t).1 : Nat) : Int) != 0) = false := by simp; omega
  have H0 := hide h0
  clear h0
  go_enter Tryz.func71, Tryz.ntmps71
  go_wp2_with (first
   | (refine zab rfl 79 rfl (some 2) rfl 1362 _ Tryz.zeroTbl ?_; intro w1 hf1 hs1 hB1; have HF1 := hide hf1; have HA1 := hide hB1; clear hf1 hB1)
   | (refine zab rfl 79 rfl (some 3) rfl 1362 _ Tryz.zeroTbl ?_; intro w2 hf2 hs2 hB2; have HF2 := hide ((zaa HF1).trans0 hf2); have HA2 := hide ((zaa HA1).fr0 hf2); have HB2 := hide (show Blk w2 (w.heap.size + 1) 1362 zTb from hs1 ▸ hB2); clear hf2 hB2 HF1 HA1)
   | (go_at_call 16; refine (zcd t w2 ht).mono ?_; rintro e w3 ⟨f, rfl, hg⟩; have HG := hide hg; have HF3 := hide ((zaa HF2).trans0 hg.1); have HA3 := hide ((zaa HA2).fr0 hg.1); have HB3 := hide ((zaa HB2).fr0 hg.1); clear hg HF2 HA2 HB2)
   | (refine zab rfl 53 rfl (some 4) rfl 758 _ Tryz.zeroGram ?_; intro w4 hf4 hs4 hB4; have HF4 := hide hf4; have HB4 := hide hB4; clear hf4 hB4)
   | (refine zac rfl 53 (.tmp 4) (.tmp 6) rfl w3.heap.size 0 758 758 (gF (.slice none 0 0) 0 (fun _ => false) (fun _ => false) (fun _ _ => false) 0 0) f rfl rfl (by exact zaa HB4) Tryz.sizeGram (by omega) (by exact (zaa HG).2.1) ?_; intro w5 hf5 hs5 hB5; obtain ⟨hp5, q, cap, hg5⟩ := gat_of_gram (zaa HG) (zaa H0) (zaa HF4) hf5 hB5; have HP5 := hide hp5; have HG5 := hide hg5; have HF5 := hide (show Fr [] w w5 ∧ Blk w5 w.heap.size 1362 zTb ∧ Blk w5 (w.heap.size + 1) 1362 zTb from ⟨((zaa HF3).trans0 (zaa HF4)).trans1 hf5 (Or.inr (zaa HF3).size), ((zaa HA3).fr0 (zaa HF4)).fr1 hf5 (Nat.ne_of_lt (zaa HA3).lt), ((zaa HB3).fr0 (zaa HF4)).fr1 hf5 (Nat.ne_of_lt (zaa HB3).lt)⟩); have c6 := (hB5.cell 756 (by omega)).trans (congrArg some ((zag _ _ _ _ (by omega)).trans (zaa HG).2.2.1)); clear hf5 hB5 hg5 hp5 HF3 HA3 HB3)
   | (go_at_call 113; refine (p_makePlan w3.heap.size q cap (zad t 8 0 []).1 _ _ 0 0 w5 (by exact zaa HG5) (start_big t (zaa HP5)) (fun i h => (by have := ((zaw t 8 0 [] (by simp)).1 _ (List.getElem_mem h)); exact ⟨by have := this.2.1; omega, this.2.2.2⟩))).mono ?_; rintro e w6 ⟨rfl, hf6⟩; have H6 := hide (show Fr [] w w6 ∧ Blk w6 w.heap.size 1362 zTb ∧ Blk w6 (w.heap.size + 1) 1362 zTb from ⟨(zaa HF5).1.trans0 hf6, (zaa HF5).2.1.fr0 hf6, (zaa HF5).2.2.fr0 hf6⟩); clear hf6)
   | (refine zac rfl 76 (.tmp 15) (.tmp 14) rfl (w.heap.size + 1) 0 1359 1362 zTb (plF (plT t)) rfl rfl (by exact (zaa H6).2.2) Tryz.sizePlan (by omega) (oneB_plF _ 1359) ?_; intro w7 hf7 hs7 hB7; have H7 := hide (show Fr [] w w7 ∧ Blk w7 w.heap.size 1362 zTb ∧ Blk w7 (w.heap.size + 1) 1362 (tbF (plT t) (.slice none 0 0) 0 0) from ⟨(zaa H6).1.trans1 hf7 (Or.inr (by omega)), (zaa H6).2.1.fr1 hf7 (by omega), hB7.congr fun i _ => tb_plan _ _ _ _ _ i⟩); clear hf7 hB7)
   | (go_at_call 114; refine (p_findStates (w.heap.size + 1) (plT t) w7 (by exact (zaa H7).2.2)).mono ?_; rintro e w8 ⟨rfl, hf8, n, v, S, c, fl, hR, hT, hfn, hl, hc⟩; have H8 := hide (show Fr [] w w8 ∧ Blk w8 w.heap.size 1362 zTb ∧ Blk w8 (w.heap.size + 1) 1362 (tbF (plT t) v c fl) from ⟨(zaa H7).1.trans1 hf8 (Or.inr (by omega)), (zaa H7).2.1.fr1 hf8 (by omega), hT.blk⟩); have HX := hide (And.intro hR (And.intro hT (And.intro hfn (And.intro hl (And.intro hc (And.intro (zaa H7).1.size hf8)))))); clear hR hT hfn hl hc hf8)
   | (refine zaf rfl 79 (.tmp 3) rfl (some 17) rfl (w.heap.size + 1) 0 1362 1362 (tbF (plT t) v c fl) _ rfl (by exact (zaa H8).2.2) Tryz.underlying79 rfl Tryz.sizeTbl (by omega) ?_)
   | (refine zac rfl 79 (.tmp 2) (.tmp 17) rfl w.heap.size 0 1362 1362 zTb (fun i => tbF (plT t) v c fl (0 + i)) rfl rfl (by exact (zaa H8).2.1) Tryz.sizeTbl (by omega) (tb_one (zaa HX).2.1) ?_; intro w9 hf9 hs9 hB9))
  have hnw : w.heap.size < w7.heap.size := (zaa H7).2.1.lt
  exact bodyPost_ret (zaj Tryz.results71 _ w.heap.size rfl 1362 1362 _ _ (hB9.congr fun i hi => zag _ _ _ i hi) Tryz.underlying79 rfl Tryz.sizeTbl (by omega)) rfl ⟨_, rfl, (zaa H8).1.trans1 hf9 (Or.inr (Nat.le_refl _)), tb_one (zaa HX).2.1, fun h => absurd (zaa H0) h, fun _ => ⟨n, v, S, c, fl, w7.heap.size, fun i _ => congrArg _ (Nat.zero_add i), (zaa HX).1, (zaa HX).2.2.1, (zaa HX).2.2.2.1, (zaa HX).2.2.2.2.1, (zaa HX).2.1.row.fr hf9 (fun g hg => by have := ((zaa HX).2.1.row.lt hg).1; simp; omega), (zaa H7).1.size⟩⟩
 ·have hb : ((((gErr t).1 : Nat) : Int) != 0) = true := by rw [bne_iff_ne]; omega
  have H0 := hide h0
  clear h0
  go_enter Tryz.func71, Tryz.ntmps71
  go_wp2_with (first
   | (refine zab rfl 79 rfl (some 2) rfl 1362 _ Tryz.zeroTbl ?_; intro w1 hf1 hs1 hB1; have HF1 := hide hf1; have HA1 := hide hB1; clear hf1 hB1)
   | (refine zab rfl 79 rfl (some 3) rfl 1362 _ Tryz.zeroTbl ?_; intro w2 hf2 hs2 hB2; have HF2 := hide ((zaa HF1).trans0 hf2); have HA2 := hide ((zaa HA1).fr0 hf2); have HB2 := hide (show Blk w2 (w.heap.size + 1) 1362 zTb from hs1 ▸ hB2); clear hf2 hB2 HF1 HA1)
   | (go_at_call 16; refine (zcd t w2 ht).mono ?_; rintro e w3 ⟨f, rfl, hg⟩; have HG := hide hg; have HF3 := hide ((zaa HF2).trans0 hg.1); have HA3 := hide ((zaa HA2).fr0 hg.1); have HB3 := hide ((zaa HB2).fr0 hg.1); clear hg HF2 HA2 HB2)
   | (refine zab rfl 53 rfl (some 4) rfl 758 _ Tryz.zeroGram ?_; intro w4 hf4 hs4 hB4; have HF4 := hide hf4; have HB4 := hide hB4; clear hf4 hB4)
   | (refine zac rfl 53 (.tmp 4) (.tmp 6) rfl w3.heap.size 0 758 758 (gF (.slice none 0 0) 0 (fun _ => false) (fun _ => false) (fun _ _ => false) 0 0) f rfl rfl (by exact zaa HB4) Tryz.sizeGram (by omega) (by exact (zaa HG).2.1) ?_; intro w5 hf5 hs5 hB5; have H5 := hide (show Fr [] w w5 ∧ Blk w5 w.heap.size 1362 zTb ∧ Blk w5 (w.heap.size + 1) 1362 zTb from ⟨((zaa HF3).trans0 (zaa HF4)).trans1 hf5 (Or.inr (zaa HF3).size), ((zaa HA3).fr0 (zaa HF4)).fr1 hf5 (Nat.ne_of_lt (zaa HA3).lt), ((zaa HB3).fr0 (zaa HF4)).fr1 hf5 (Nat.ne_of_lt (zaa HB3).lt)⟩); have c6 := (hB5.cell 756 (by omega)).trans (congrArg some ((zag _ _ _ _ (by omega)).trans (zaa HG).2.2.1)); have k6 := (zaa H5).2.2.cell 1361 (by omega); have z6 := (zaa H5).2.2.free 1361; clear hf5 hB5 HF3 HA3 HB3)
   | (refine zaf rfl 79 (.tmp 3) rfl (some 13) rfl (w.heap.size + 1) 0 1362 1362 (upd zTb 1361 (.int .i64 ((gErr t).1 : Nat))) _ rfl (by exact (zaa H5).2.2.setCell 1361 _) Tryz.underlying79 rfl Tryz.sizeTbl (by omega) ?_)
   | (refine zac rfl 79 (.tmp 2) (.tmp 13) rfl w.heap.size 0 1362 1362 zTb (fun i => upd zTb 1361 (.int .i64 ((gErr t).1 : Nat)) (0 + i)) rfl rfl (by exact (zaa H5).2.1.setCell_ne ⟨w.heap.size + 1, 1361, none⟩ (by simp) _) Tryz.sizeTbl (by omega) (upd_one _) ?_; intro w9 hf9 hs9 hB9))
  exact bodyPost_ret (zaj Tryz.results71 _ w.heap.size rfl 1362 1362 _ _ (hB9.congr fun i hi => zag _ _ _ i hi) Tryz.underlying79 rfl Tryz.sizeTbl (by omega)) rfl ⟨_, rfl, ((zaa H5).1.setCell ⟨w.heap.size + 1, 1361, none⟩ (Or.inr (by simp)) _).trans1 hf9 (Or.inr (Nat.le_refl _)), upd_one _, fun _ => ⟨rfl, rfl⟩, fun h => absurd h (zaa H0)⟩
end Go.Proofs.YtkglggkkbmmjkabGreatDoor
