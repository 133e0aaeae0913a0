import Derived.Test.YtkglggkkbmmjkabGreatDoorG17RTo
namespace Go.Proofs.YtkglggkkbmmjkabGreatDoor
open Go.RowKit
def endI (rs : List Ru) (x k : Nat) (y : It) : Bool := y.P == (rget rs y.R).R.size && (y.T == x && y.R == k)
def zbu (rs : List Ru) (l : List It) (x k : Nat) : Bool := l.any (endI rs x k)
theorem endsL_succ (rs : List Ru) (l : List It) (x k i : Nat) (h : i < l.length) : zbu rs (l.take (i + 1)) x k = (zbu rs (l.take i) x k || endI rs x k (lget l i)) := by
 unfold zbu
 rw [List.take_succ_eq_append_getElem h, List.any_append, zb6 l i h]; simp
theorem canF_set (st : Bool) (ru : Nat → Bool) (k : Nat) (hk : k < 9) (i : Nat) (hi : i < 10) : upd (canF st ru) (1 + k) (.bool true) i = canF st (fun j => ru j || j == k) i := by
 unfold upd canF
 by_cases h : i = 1 + k
 ·rw [if_pos h, if_neg (by omega), h, show 1 + k - 1 = k from by omega]; simp
 ·rw [if_neg h]
  by_cases h0 : i = 0
  ·rw [if_pos h0, if_pos h0]
  ·rw [if_neg h0, if_neg h0]
   have : (i - 1 == k) = false := by rw [beq_eq_false_iff_ne]; omega
   show Value.bool (ru (i - 1)) = Value.bool (ru (i - 1) || (i - 1 == k))
   rw [this, Bool.or_false]
theorem canF_step (st st' : Bool) (ru : Nat → Bool) (i : Nat) : upd (canF st ru) 0 (.bool st') i = canF st' ru i := by
 unfold upd canF
 by_cases h : i = 0
 ·rw [if_pos h, if_pos h]
 ·rw [if_neg h, if_neg h, if_neg h]
structure CaS (w wr : World) (cb mb q cq fq gS cS : Nat) (rs : List Ru) (N : Nat → Bool) (T : Nat → Nat → Bool) (n s : Nat) (x : Sl) (st : Bool) (ru : Nat → Bool) : Prop where
 fr : Fr [cb] w wr
 blk : Blk wr cb 10 (canF st ru)
 tb : TB wr mb q cq fq rs N T
 cS : wr.cell? ⟨mb, 130, none⟩ = some (.slice (some ⟨gS, 0, none⟩) n cS)
 cX : wr.cell? ⟨gS, s, none⟩ = some (slV x)
 its : ItAt wr x.g x.l
 ne : cb ≠ mb ∧ cb ≠ q ∧ cb ≠ fq ∧ cb ≠ gS ∧ cb ≠ x.g
 lt : cb < w.heap.size
theorem CaS.far {w wr wr' : World} {cb mb q cq fq gS cS z : Nat} {rs : List Ru} {N : Nat → Bool} {T : Nat → Nat → Bool} {n s : Nat} {x : Sl} {st : Bool} {ru : Nat → Bool} (h : CaS w wr cb mb q cq fq gS cS rs N T n s x st ru) (k : Fr [z] wr wr') (hz : wr.heap.size ≤ z) : CaS w wr' cb mb q cq fq gS cS rs N T n s x st ru := by
 have a1 := h.tb.cN.lt
 have a2 := h.tb.lt
 have a3 := h.tb.fT.lt
 have a4 := World.block_lt_of_cell? wr ⟨gS, s, none⟩ h.cX
 have a5 := h.fr.size
 have a6 := h.lt
 have hm : mb ∉ [z] := by simp; omega
 refine ⟨h.fr.trans1 k (Or.inr (by omega)), h.blk.fr1 k (by omega), h.tb.fr k hm (by simp; omega) (by simp; omega), k.cell h.cS hm, k.cell h.cX (by simp; simp at a4; omega), fun i hi => ?_, h.ne, h.lt⟩
 have a7 := World.block_lt_of_cell? wr ⟨x.g, i * 3, none⟩ (h.its i hi).1
 have hx : x.g ∉ [z] := by simp; simp at a7; omega
 exact ⟨k.cell (h.its i hi).1 hx, k.cell (h.its i hi).2.1 hx, k.cell (h.its i hi).2.2 hx⟩
theorem CaS.fr0 {w wr wr' : World} {cb mb q cq fq gS cS : Nat} {rs : List Ru} {N : Nat → Bool} {T : Nat → Nat → Bool} {n s : Nat} {x : Sl} {st : Bool} {ru : Nat → Bool} (h : CaS w wr cb mb q cq fq gS cS rs N T n s x st ru) (k : Fr [] wr wr') : CaS w wr' cb mb q cq fq gS cS rs N T n s x st ru :=
 ⟨h.fr.trans0 k, h.blk.fr0 k, h.tb.fr0 k, k.cell0 h.cS, k.cell0 h.cX, h.its.fr0 k, h.ne, h.lt⟩
theorem CaS.put {w wr wr' : World} {cb mb q cq fq gS cS : Nat} {rs : List Ru} {N : Nat → Bool} {T : Nat → Nat → Bool} {n s : Nat} {x : Sl} {st st' : Bool} {ru ru' : Nat → Bool} (h : CaS w wr cb mb q cq fq gS cS rs N T n s x st ru) (k : Fr [cb] wr wr') (hB : Blk wr' cb 10 (canF st' ru')) : CaS w wr' cb mb q cq fq gS cS rs N T n s x st' ru' := by
 obtain ⟨n1, n2, n3, n4, n5⟩ := h.ne
 exact ⟨h.fr.trans k (by simp), hB, h.tb.fr k (by simp; omega) (by simp; omega) (by simp; omega), k.cell h.cS (by simp; omega), k.cell h.cX (by simp; omega), h.its.fr k (by simp; omega), h.ne, h.lt⟩
set_option maxRecDepth 100000 in
set_option maxHeartbeats 4000000 in
theorem r_can (Bs mb q cq fq gS cS gT cT cb : Nat) (rs : List Ru) (N : Nat → Bool) (T : Nat → Nat → Bool) (ls : List Sl) (ms : List MSl) (s c : Nat) (st : Bool) (ru : Nat → Bool) (w : World) (h : TB w mb q cq fq rs N T) (hS : SAt w Bs mb (.slice (some ⟨gS, 0, none⟩) ls.length cS) ls) (hM : MT w Bs mb (.slice (some ⟨gT, 0, none⟩) ms.length cT) ms)
 (hs : s < ls.length) (hs' : s < ms.length) (hok : ∀ y ∈ ls[s].l, IOk rs y) (hB : Blk w cb 10 (canF st ru)) (hne : cb ≠ mb ∧ cb ≠ q ∧ cb ≠ fq ∧ cb ≠ gS ∧ cb ≠ ls[s].g) :
 Calls Tryz.prog 81 #[.pointer (some ⟨mb, 0, none⟩), .pointer (some ⟨cb, 0, none⟩), .int .i64 s, .int .u8 c] w fun e w' => e = .returned (.tuple #[]) ∧ Fr [cb] w w' ∧ Blk w' cb 10 (canF (st || decide (0 ≤ toM ms[s].m c)) (fun k => ru k || zbu rs ls[s].l c k)) := by
 have hlen := h.len
 have HSm := hide h.small
 have HM := hide hM
 have HS0 := hide (show CaS w w cb mb q cq fq gS cS rs N T ls.length s ls[s] st ru from ⟨Fr.refl _ _, hB, h, hS.cell, slV_get hS.own s hs, (hS.its ls[s] (List.getElem_mem hs)).1, hne, hB.lt⟩)
 have hl1 := (hS.its ls[s] (List.getElem_mem hs)).2.2.1
 have HOk := hide hok
 have hls := hS.small
 have v0 : (0 : Int) ≤ (s : Int) := by omega
 have v1 : (s : Int) < (ls.length : Int) := by omega
 generalize hx : ls[s] = x at *
 clear h hS hM hB hne hok hx
 obtain ⟨tv, htv⟩ : ∃ tv, toM ms[s].m c = tv := ⟨_, rfl⟩
 have HTV := hide htv
 rw [htv]
 clear htv
 have k0 : w.cell? ⟨cb, 0, none⟩ = some (.bool st) := (zaa HS0).blk.cell 0 (by omega)
 have z0 := (zaa HS0).blk.free 0
 have HS1 := hide (show CaS w (w.setCell ⟨cb, 0, none⟩ (.bool (st || decide (0 ≤ tv)))) cb mb q cq fq gS cS rs N T ls.length s x (st || decide (0 ≤ tv)) ru from
  (zaa HS0).put ((Fr.refl [cb] w).setCell ⟨cb, 0, none⟩ (by simp) _) (((zaa HS0).blk.setCell 0 _).congr fun i _ => canF_step _ _ _ i))
 obtain ⟨sv, hsv⟩ : ∃ sv, (st || decide (0 ≤ tv)) = sv := ⟨_, rfl⟩
 have hsv' := hsv
 rw [hsv] at HS1 ⊢
 have HSV := hide hsv
 clear hsv
 go_enter Tryz.func81, Tryz.ntmps81
 cases st
 ·simp only [Bool.false_or] at hsv'
  go_wp2_with (go_at_call 76; refine (r_to Bs mb gT cT ms s c _ (by exact zaa HM) hs').mono ?_; rintro e w2 ⟨rfl, hw2⟩; rw [hw2, zaa HTV]; clear hw2)
  go_loopw [9] (fun iv wr => ∃ i : Nat, i ≤ x.l.length ∧ iv = .int .i64 i ∧ Hid (CaS w wr cb mb q cq fq gS cS rs N T ls.length s x sv (fun k => ru k || zbu rs (x.l.take i) c k))) (fun iv _ => x.l.length - (intOf iv).toNat)
  case atStart => exact ⟨0, by omega, rfl, hide (by rw [show (fun k => ru k || zbu rs (x.l.take 0) c k) = ru from funext fun k => by simp [zbu]]; exact zaa HS1)⟩
  case round =>
   obtain ⟨i, hi, rfl, hca⟩ := hrel
   have b0 := (zaa hca).cS
   have b1 := (zaa hca).cX
   unfold slV at b1
   by_cases hlt : i < x.l.length
   ·obtain ⟨y, hy⟩ : ∃ y, lget x.l i = y := ⟨_, rfl⟩
    obtain ⟨d0, d1, d2⟩ := (zaa hca).its i hlt
    rw [hy] at d0 d1 d2
    have HIO := hide (show IOk rs y from by rw [← hy, zb6 x.l i hlt]; exact zaa HOk _ (List.getElem_mem hlt))
    have HY := hide hy
    obtain ⟨hyR, hyP, _⟩ := zaa HIO
    obtain ⟨rt, hrt⟩ : ∃ rt, (rget rs y.R).R = rt := ⟨_, rfl⟩
    have HRt := hide hrt
    have hrs4 : rt.size ≤ 4 := by rw [← hrt, zbl rs _ hyR]; exact zaa HSm _ hyR
    have HE := hide (fun k => endsL_succ rs x.l c k i hlt)
    have e0 : (0 : Int) ≤ (y.R : Int) := by omega
    have e1 : (y.R : Int) < (rs.length : Int) := by omega
    have e2 : (y.R : Int) < 9 := by omega
    clear hy hrt hyP
    go_wp2_with (first
     | (refine zab rfl 181 rfl (some 10) rfl 3 _ Tryz.zeroItem ?_; intro w2 hf2 hs2 hB2; have HF2 := hide ((zaa hca).fr0 hf2); have HB2 := hide hB2; have HN2 := hide hf2; clear hf2 hs2 hB2)
     | (refine zac rfl 181 (.tmp 10) (.tmp 47) rfl wr.heap.size 0 3 3 (itC it0) (itC y) rfl (by exact agg_it y) (by exact zaa HB2) Tryz.sizeItem (by omega) (by intro i hi; unfold itC; split; rfl; split <;> rfl) ?_; intro w3 hf3 hs3 hB3; have HF3 := hide (show CaS w w3 cb mb q cq fq gS cS rs N T ls.length s x sv (fun k => ru k || zbu rs (x.l.take i) c k) from (zaa hca).far (((zaa HN2).weak (by simp)).trans hf3 (by simp)) (Nat.le_refl _)); have HB3 := hide (hB3.congr (g := itC y) fun i hi => zag _ _ _ i hi); clear hf3 hs3 hB3))
    have hxc : wr.heap.size ≠ cb := by have := (zaa hca).blk.lt; omega
    generalize wr.heap.size = xb at *
    have t0 := (zaa HF3).tb.cL
    have t1 : w3.cell? ⟨xb, 0, none⟩ = some (.int .i64 y.R) := (zaa HB3).cell 0 (by omega)
    have t2 : w3.cell? ⟨xb, 1, none⟩ = some (.int .i64 y.P) := (zaa HB3).cell 1 (by omega)
    have t3 : w3.cell? ⟨xb, 2, none⟩ = some (.int .u8 y.T) := (zaa HB3).cell 2 (by omega)
    have t4 : w3.cell? ⟨q, y.R * 3 + 1, none⟩ = some (.string rt) := by
     rw [((zaa HF3).tb.ru y.R hyR).2.1, ← zbl rs _ hyR, zaa HRt]
    clear b0 b1 d0 d1 d2 hca HF2 HB2 HN2
    by_cases hP : y.P = rt.size
    ·have q1 : (((y.P : Nat) : Int) == (rt.size : Nat)) = true := by rw [beq_iff_eq]; omega
     by_cases hT : y.T = c
     ·have q2 : (((y.T : Nat) : Int) == (c : Nat)) = true := by rw [beq_iff_eq]; omega
      have HN := hide (show (fun k => ru k || zbu rs (x.l.take (i + 1)) c k) = fun k => (fun k => ru k || zbu rs (x.l.take i) c k) k || k == y.R from funext fun k => by
       rw [zaa HE k, zaa HY]
       unfold endI
       rw [zaa HRt, hP, hT]
       simp only [beq_self_eq_true, Bool.true_and]
       rw [Bool.or_assoc]
       congr 2
       rw [Bool.eq_iff_iff, beq_iff_eq, beq_iff_eq]; exact eq_comm)
      clear HE hP hT
      go_wp2_with fail
      go_quiet (fail)
      go_wp2_with fail
      generalize hwd : World.drewN w3 _ = wq
      have HFq := hide (show CaS w wq cb mb q cq fq gS cS rs N T ls.length s x sv (fun k => ru k || zbu rs (x.l.take i) c k) from by rw [← hwd]; exact (zaa HF3).fr0 (zal _ _))
      have u0 : wq.cell? ⟨xb, 0, none⟩ = some (.int .i64 y.R) := by rw [← hwd]; exact t1
      have u1 := (zaa HFq).blk.cell (1 + y.R) (by omega)
      have uz := (zaa HFq).blk.free (1 + y.R)
      have u2 : (wq.setCell ⟨cb, 1 + y.R, none⟩ (.bool true)).cell? ⟨xb, 0, none⟩ = some (.int .i64 y.R) := by
       rw [World.cell?_setCell_far _ _ _ _ (by simpa using fun e => hxc e.symm)]; exact u0
      have HFr := hide (show CaS w (wq.setCell ⟨cb, 1 + y.R, none⟩ (.bool true)) cb mb q cq fq gS cS rs N T ls.length s x sv (fun k => ru k || zbu rs (x.l.take (i + 1)) c k) from by
       rw [zaa HN]
       exact (zaa HFq).put ((Fr.refl [cb] wq).setCell ⟨cb, 1 + y.R, none⟩ (by simp) _) (((zaa HFq).blk.setCell (1 + y.R) _).congr fun j hj => canF_set _ _ y.R (by omega) j hj))
      clear hwd t0 t1 t2 t3 t4 HF3
      go_region_held3 (fun w' => w'.cell? ⟨xb, 0, none⟩ = some (.int .i64 y.R)) (first | exact u0 | exact u2) (fail)
      go_wp2
      go_roundw
      case rel => exact ⟨i + 1, by omega, by go_num, hide (by first | exact zaa HFr | exact (zaa HFr).fr0 ((Fr.refl [] _).drew))⟩
      case measure => simp [intOf]; omega
     ·have q2 : (((y.T : Nat) : Int) == (c : Nat)) = false := by rw [beq_eq_false_iff_ne]; omega
      have HN := hide (show (fun k => ru k || zbu rs (x.l.take (i + 1)) c k) = fun k => ru k || zbu rs (x.l.take i) c k from funext fun k => by
       rw [zaa HE k, zaa HY]
       unfold endI
       rw [show (y.T == c) = false from beq_eq_false_iff_ne.2 hT]; simp)
      clear HE hP hT
      go_wp2_with fail
      go_quiet (fail)
      go_wp2
      go_roundw
      case rel => exact ⟨i + 1, by omega, by go_num, hide (by rw [zaa HN]; exact (zaa HF3).fr0 (zal _ _))⟩
      case measure => simp [intOf]; omega
    ·have q1 : (((y.P : Nat) : Int) == (rt.size : Nat)) = false := by rw [beq_eq_false_iff_ne]; omega
     have HN := hide (show (fun k => ru k || zbu rs (x.l.take (i + 1)) c k) = fun k => ru k || zbu rs (x.l.take i) c k from funext fun k => by
      rw [zaa HE k, zaa HY]
      unfold endI
      rw [zaa HRt, show (y.P == rt.size) = false from beq_eq_false_iff_ne.2 hP]; simp)
     clear HE hP
     go_wp2_with fail
     go_quiet (fail)
     go_wp2
     go_roundw
     case rel => exact ⟨i + 1, by omega, by go_num, hide (by rw [zaa HN]; exact (zaa HF3).fr0 (zal _ _))⟩
     case measure => simp [intOf]; omega
   ·have HN := hide (show (fun k => ru k || zbu rs (x.l.take i) c k) = fun k => ru k || zbu rs x.l c k from by rw [List.take_of_length_le (by omega)])
    go_wp2
    go_end0
    exact ⟨rfl, (zaa hca).fr, by have := (zaa hca).blk; rw [zaa HN] at this; exact this⟩
 ·simp only [Bool.true_or] at hsv'
  subst hsv'
  go_wp2_with (go_at_call 76; refine (r_to Bs mb gT cT ms s c _ (by exact zaa HM) hs').mono ?_; rintro e w2 ⟨rfl, hw2⟩; rw [hw2, zaa HTV]; clear hw2)
  go_loopw [9] (fun iv wr => ∃ i : Nat, i ≤ x.l.length ∧ iv = .int .i64 i ∧ Hid (CaS w wr cb mb q cq fq gS cS rs N T ls.length s x true (fun k => ru k || zbu rs (x.l.take i) c k))) (fun iv _ => x.l.length - (intOf iv).toNat)
  case atStart => exact ⟨0, by omega, rfl, hide (by rw [show (fun k => ru k || zbu rs (x.l.take 0) c k) = ru from funext fun k => by simp [zbu]]; exact zaa HS1)⟩
  case round =>
   obtain ⟨i, hi, rfl, hca⟩ := hrel
   have b0 := (zaa hca).cS
   have b1 := (zaa hca).cX
   unfold slV at b1
   by_cases hlt : i < x.l.length
   ·obtain ⟨y, hy⟩ : ∃ y, lget x.l i = y := ⟨_, rfl⟩
    obtain ⟨d0, d1, d2⟩ := (zaa hca).its i hlt
    rw [hy] at d0 d1 d2
    have HIO := hide (show IOk rs y from by rw [← hy, zb6 x.l i hlt]; exact zaa HOk _ (List.getElem_mem hlt))
    have HY := hide hy
    obtain ⟨hyR, hyP, _⟩ := zaa HIO
    obtain ⟨rt, hrt⟩ : ∃ rt, (rget rs y.R).R = rt := ⟨_, rfl⟩
    have HRt := hide hrt
    have hrs4 : rt.size ≤ 4 := by rw [← hrt, zbl rs _ hyR]; exact zaa HSm _ hyR
    have HE := hide (fun k => endsL_succ rs x.l c k i hlt)
    have e0 : (0 : Int) ≤ (y.R : Int) := by omega
    have e1 : (y.R : Int) < (rs.length : Int) := by omega
    have e2 : (y.R : Int) < 9 := by omega
    clear hy hrt hyP
    go_wp2_with (first
     | (refine zab rfl 181 rfl (some 10) rfl 3 _ Tryz.zeroItem ?_; intro w2 hf2 hs2 hB2; have HF2 := hide ((zaa hca).fr0 hf2); have HB2 := hide hB2; have HN2 := hide hf2; clear hf2 hs2 hB2)
     | (refine zac rfl 181 (.tmp 10) (.tmp 47) rfl wr.heap.size 0 3 3 (itC it0) (itC y) rfl (by exact agg_it y) (by exact zaa HB2) Tryz.sizeItem (by omega) (by intro i hi; unfold itC; split; rfl; split <;> rfl) ?_; intro w3 hf3 hs3 hB3; have HF3 := hide (show CaS w w3 cb mb q cq fq gS cS rs N T ls.length s x true (fun k => ru k || zbu rs (x.l.take i) c k) from (zaa hca).far (((zaa HN2).weak (by simp)).trans hf3 (by simp)) (Nat.le_refl _)); have HB3 := hide (hB3.congr (g := itC y) fun i hi => zag _ _ _ i hi); clear hf3 hs3 hB3))
    have hxc : wr.heap.size ≠ cb := by have := (zaa hca).blk.lt; omega
    generalize wr.heap.size = xb at *
    have t0 := (zaa HF3).tb.cL
    have t1 : w3.cell? ⟨xb, 0, none⟩ = some (.int .i64 y.R) := (zaa HB3).cell 0 (by omega)
    have t2 : w3.cell? ⟨xb, 1, none⟩ = some (.int .i64 y.P) := (zaa HB3).cell 1 (by omega)
    have t3 : w3.cell? ⟨xb, 2, none⟩ = some (.int .u8 y.T) := (zaa HB3).cell 2 (by omega)
    have t4 : w3.cell? ⟨q, y.R * 3 + 1, none⟩ = some (.string rt) := by
     rw [((zaa HF3).tb.ru y.R hyR).2.1, ← zbl rs _ hyR, zaa HRt]
    clear b0 b1 d0 d1 d2 hca HF2 HB2 HN2
    by_cases hP : y.P = rt.size
    ·have q1 : (((y.P : Nat) : Int) == (rt.size : Nat)) = true := by rw [beq_iff_eq]; omega
     by_cases hT : y.T = c
     ·have q2 : (((y.T : Nat) : Int) == (c : Nat)) = true := by rw [beq_iff_eq]; omega
      have HN := hide (show (fun k => ru k || zbu rs (x.l.take (i + 1)) c k) = fun k => (fun k => ru k || zbu rs (x.l.take i) c k) k || k == y.R from funext fun k => by
       rw [zaa HE k, zaa HY]
       unfold endI
       rw [zaa HRt, hP, hT]
       simp only [beq_self_eq_true, Bool.true_and]
       rw [Bool.or_assoc]
       congr 2
       rw [Bool.eq_iff_iff, beq_iff_eq, beq_iff_eq]; exact eq_comm)
      clear HE hP hT
      go_wp2_with fail
      go_quiet (fail)
      go_wp2_with fail
      generalize hwd : World.drewN w3 _ = wq
      have HFq := hide (show CaS w wq cb mb q cq fq gS cS rs N T ls.length s x true (fun k => ru k || zbu rs (x.l.take i) c k) from by rw [← hwd]; exact (zaa HF3).fr0 (zal _ _))
      have u0 : wq.cell? ⟨xb, 0, none⟩ = some (.int .i64 y.R) := by rw [← hwd]; exact t1
      have u1 := (zaa HFq).blk.cell (1 + y.R) (by omega)
      have uz := (zaa HFq).blk.free (1 + y.R)
      have u2 : (wq.setCell ⟨cb, 1 + y.R, none⟩ (.bool true)).cell? ⟨xb, 0, none⟩ = some (.int .i64 y.R) := by
       rw [World.cell?_setCell_far _ _ _ _ (by simpa using fun e => hxc e.symm)]; exact u0
      have HFr := hide (show CaS w (wq.setCell ⟨cb, 1 + y.R, none⟩ (.bool true)) cb mb q cq fq gS cS rs N T ls.length s x true (fun k => ru k || zbu rs (x.l.take (i + 1)) c k) from by
       rw [zaa HN]
       exact (zaa HFq).put ((Fr.refl [cb] wq).setCell ⟨cb, 1 + y.R, none⟩ (by simp) _) (((zaa HFq).blk.setCell (1 + y.R) _).congr fun j hj => canF_set _ _ y.R (by omega) j hj))
      clear hwd t0 t1 t2 t3 t4 HF3
      go_region_held3 (fun w' => w'.cell? ⟨xb, 0, none⟩ = some (.int .i64 y.R)) (first | exact u0 | exact u2) (fail)
      go_wp2
      go_roundw
      case rel => exact ⟨i + 1, by omega, by go_num, hide (by first | exact zaa HFr | exact (zaa HFr).fr0 ((Fr.refl [] _).drew))⟩
      case measure => simp [intOf]; omega
     ·have q2 : (((y.T : Nat) : Int) == (c : Nat)) = false := by rw [beq_eq_false_iff_ne]; omega
      have HN := hide (show (fun k => ru k || zbu rs (x.l.take (i + 1)) c k) = fun k => ru k || zbu rs (x.l.take i) c k from funext fun k => by
       rw [zaa HE k, zaa HY]
       unfold endI
       rw [show (y.T == c) = false from beq_eq_false_iff_ne.2 hT]; simp)
      clear HE hP hT
      go_wp2_with fail
      go_quiet (fail)
      go_wp2
      go_roundw
      case rel => exact ⟨i + 1, by omega, by go_num, hide (by rw [zaa HN]; exact (zaa HF3).fr0 (zal _ _))⟩
      case measure => simp [intOf]; omega
    ·have q1 : (((y.P : Nat) : Int) == (rt.size : Nat)) = false := by rw [beq_eq_false_iff_ne]; omega
     have HN := hide (show (fun k => ru k || zbu rs (x.l.take (i + 1)) c k) = fun k => ru k || zbu rs (x.l.take i) c k from funext fun k => by
      rw [zaa HE k, zaa HY]
      unfold endI
      rw [zaa HRt, show (y.P == rt.size) = false from beq_eq_false_iff_ne.2 hP]; simp)
     clear HE hP
     go_wp2_with fail
     go_quiet (fail)
     go_wp2
     go_roundw
     case rel => exact ⟨i + 1, by omega, by go_num, hide (by rw [zaa HN]; exact (zaa HF3).fr0 (zal _ _))⟩
     case measure => simp [intOf]; omega
   ·have HN := hide (show (fun k => ru k || zbu rs (x.l.take i) c k) = fun k => ru k || zbu rs x.l c k from by rw [List.take_of_length_le (by omega)])
    go_wp2
    go_end0
    exact ⟨rfl, (zaa hca).fr, by have := (zaa hca).blk; rw [zaa HN] at this; exact this⟩
end Go.Proofs.YtkglggkkbmmjkabGreatDoor
namespace Go.Proofs.YtkglggkkbmmjkabGreatDoor
open Go.RowKit
abbrev Tb := List (List It) × List (List (Nat × Nat))
def canS (r : Tb) (j x : Nat) : Bool := decide (0 ≤ toM (r.2.getD j []) x)
def canR (L : List Ru) (r : Tb) (j x k : Nat) : Bool := zbu L (r.1.getD j []) x k
def actT (L : List Ru) (r : Tb) (j x : Nat) : ByteArray := wordsT (canS r j x) (canR L r j x)
end Go.Proofs.YtkglggkkbmmjkabGreatDoor
namespace Go.Proofs.YtkglggkkbmmjkabGreatDoor
open Go.RowKit
/-! The table's own properties: its states are the full sets, its steps lead to the states behind the letters. -/
open Classical in
theorem srt_of (P : It → Prop) (hP : ∀ y, P y → y.ok) : ∃ L, Srt L ∧ ∀ y, y ∈ L ↔ P y := by
 let f : Nat → Option It := fun k => if h : ∃ y, P y ∧ y.key = k then some h.choose else none
 have hf : ∀ k y, f k = some y → P y ∧ y.key = k := fun k y h => by
  by_cases hx : ∃ y, P y ∧ y.key = k
  ·have e : f k = some hx.choose := dif_pos hx
   rw [e] at h
   cases h
   exact hx.choose_spec
  ·have e : f k = none := dif_neg hx
   rw [e] at h; cases h
 refine ⟨(List.range 8832).filterMap f, ?_, fun y => ?_⟩
 ·unfold Srt
  rw [List.pairwise_filterMap]
  refine List.Pairwise.imp ?_ (List.pairwise_lt_range (n := 8832))
  intro a b hab x hx y hy
  rw [(hf a x hx).2, (hf b y hy).2]; exact hab
 ·rw [List.mem_filterMap]
  constructor
  ·rintro ⟨k, _, hk⟩; exact (hf k y hk).1
  ·intro h
   have hx : ∃ z, P z ∧ z.key = y.key := ⟨y, h, rfl⟩
   refine ⟨y.key, List.mem_range.2 (hP y h).key_lt, ?_⟩
   have e : f y.key = some hx.choose := dif_pos hx
   rw [e, It.eq_of_key (hP _ hx.choose_spec.1) (hP y h) hx.choose_spec.2]
structure GrOk (rs : List Ru) (T : Nat → Nat → Bool) : Prop where
 len : rs.length ≤ 9
 small : ∀ i (h : i < rs.length), rs[i].R.size ≤ 4
 fst : ∀ c x, x < 128 → T c x = true → zai x = true
theorem Cl.ok {rs : List Ru} {N : Nat → Bool} {T : Nat → Nat → Bool} {X : It → Prop} {y : It} (h : Cl rs N T X y) (hX : ∀ x, X x → IOk rs x) (hT : ∀ c x, x < 128 → T c x = true → zai x = true) : IOk rs y :=
 h (IOk rs) hX (fun _ _ hx ha => ha.ok hx hT)
theorem full_ex {rs : List Ru} {N : Nat → Bool} {T : Nat → Nat → Bool} (hG : GrOk rs T) {K : List It} (hK : ∀ y ∈ K, IOk rs y) : ∃ L, zb9 rs N T K L := by
 obtain ⟨L, h1, h2⟩ := srt_of (Cl rs N T (· ∈ K)) (fun y hy => (hy.ok hK hG.fst).ok hG.len hG.small)
 exact ⟨L, ⟨h1, fun y hy => ((h2 y).1 hy).ok hK hG.fst, fun y hy => (h2 y).2 (Cl.base hy), fun y hy => (h2 y).1 hy⟩, fun x hx y ha => (h2 y).2 (((h2 x).1 hx).step ha)⟩
theorem mv_ok {rs : List Ru} {c : Nat} {x : It} (h : IOk rs x) (hm : MvB rs c x) : IOk rs (mvI x) := ⟨h.1, hm.1, h.2.2⟩
theorem kern_ex {rs : List Ru} {T : Nat → Nat → Bool} (hG : GrOk rs T) {l : List It} (hl : ∀ y ∈ l, IOk rs y) (c : Nat) : ∃ K, zb2 rs c l K := by
 have hok : ∀ y, (∃ x ∈ l, MvB rs c x ∧ y = mvI x) → IOk rs y := by
  rintro y ⟨x, hx, hm, rfl⟩; exact mv_ok (hl x hx) hm
 obtain ⟨K, h1, h2⟩ := srt_of (fun y => ∃ x ∈ l, MvB rs c x ∧ y = mvI x) (fun y hy => (hok y hy).ok hG.len hG.small)
 exact ⟨K, h1, fun y hy => hok y ((h2 y).1 hy), h2⟩
def Mvd (rs : List Ru) (c : Nat) (l : List It) (y : It) : Prop := ∃ x ∈ l, MvB rs c x ∧ y = mvI x
theorem step_mem {rs : List Ru} {N : Nat → Bool} {T : Nat → Nat → Bool} (hG : GrOk rs T) {l : List It} (hl : ∀ y ∈ l, IOk rs y) (c : Nat) (y : It) : y ∈ zci rs N T l c ↔ Cl rs N T (Mvd rs c l) y := by
 obtain ⟨K, hK⟩ := kern_ex hG hl c
 obtain ⟨F, hF⟩ := full_ex (N := N) hG hK.ok
 rw [stepM_eq hK hF, hF.mem y]
 unfold Cl Mvd
 constructor
 ·intro h S h1 h2
  exact h S (fun x hx => h1 x ((hK.mem x).1 hx)) h2
 ·intro h S h1 h2
  exact h S (fun x hx => h1 x ((hK.mem x).2 hx)) h2
theorem start_mem {rs : List Ru} {N : Nat → Bool} {T : Nat → Nat → Bool} (hG : GrOk rs T) (h0 : 0 < rs.length) (y : It) : y ∈ zby rs N T ↔ Cl rs N T (· = ⟨0, 0, 36⟩) y := by
 obtain ⟨F, hF⟩ := full_ex (N := N) hG (K := [⟨0, 0, 36⟩]) (fun y hy => by rw [List.mem_singleton.1 hy]; exact ⟨h0, Nat.zero_le _, Or.inl rfl⟩)
 rw [startM_eq hF, hF.mem y]
 unfold Cl
 constructor
 ·intro h S h1 h2
  exact h S (fun x hx => h1 x (List.mem_singleton.1 hx)) h2
 ·intro h S h1 h2
  exact h S (fun x hx => h1 x (List.mem_singleton.2 hx)) h2
theorem step_ok {rs : List Ru} {N : Nat → Bool} {T : Nat → Nat → Bool} (hG : GrOk rs T) {l : List It} (hl : ∀ y ∈ l, IOk rs y) (c : Nat) : ∀ y ∈ zci rs N T l c, IOk rs y := fun y hy =>
 ((step_mem hG hl c y).1 hy).ok (fun x ⟨z, hz, hm, e⟩ => by rw [e]; exact mv_ok (hl z hz) hm) hG.fst
theorem toM_app_new {m : List (Nat × Nat)} {c j : Nat} (h : ∀ p ∈ m, p.1 ≠ c) (e : List (Nat × Nat)) : toM (m ++ (c, j) :: e) c = j := by
 unfold toM
 rw [List.find?_append, show m.find? (fun p => p.1 == c) = none from List.find?_eq_none.2 (fun p hp => by simpa using h p hp)]
 simp
theorem toM_no {m : List (Nat × Nat)} {c : Nat} (h : ∀ p ∈ m, p.1 ≠ c) : toM m c = -1 := by
 unfold toM
 rw [show m.find? (fun p => p.1 == c) = none from List.find?_eq_none.2 (fun p hp => by simpa using h p hp)]
theorem numM_spec (S : List (List It)) (L : List It) : ∃ e, (numM S L).1 = S ++ e ∧ (numM S L).2 < (numM S L).1.length ∧ (numM S L).1[(numM S L).2]? = some L := by
 unfold numM
 cases h : S.findIdx? (fun s => eqL s L) with
 | some i =>
  rw [List.findIdx?_eq_some_iff_getElem] at h
  obtain ⟨hi, he, _⟩ := h
  refine ⟨[], by simp, hi, ?_⟩
  show S[i]? = some L
  rw [List.getElem?_eq_getElem hi, eqL_iff.1 he]
 | none => exact ⟨[L], rfl, by simp, by simp⟩
def RowAt (st : Nat → List It) (S : List (List It)) (m : List (Nat × Nat)) (c : Nat) : Prop :=
 (st c = [] → toM m c = -1) ∧ (st c ≠ [] → ∃ j, toM m c = (j : Nat) ∧ S[j]? = some (st c))
theorem RowAt.ext {st : Nat → List It} {S : List (List It)} {m : List (Nat × Nat)} {c : Nat} (h : RowAt st S m c) (e : List (List It)) : RowAt st (S ++ e) m c := by
 refine ⟨h.1, fun hne => ?_⟩
 obtain ⟨j, h1, h2⟩ := h.2 hne
 refine ⟨j, h1, ?_⟩
 have hj : j < S.length := by
  rcases Nat.lt_or_ge j S.length with hj | hj
  ·exact hj
  ·rw [List.getElem?_eq_none hj] at h2; cases h2
 rw [List.getElem?_append_left hj]; exact h2
theorem rowM_spec (st : Nat → List It) : ∀ (cs : List Nat) (S : List (List It)) (m : List (Nat × Nat)) (S' : List (List It)) (m' : List (Nat × Nat)), cs.Nodup → (∀ p ∈ m, p.1 ∉ cs) → rowM st cs S m = some (S', m') →
 (∃ e, S' = S ++ e) ∧ (∃ e, m' = m ++ e ∧ ∀ p ∈ e, p.1 ∈ cs) ∧ ∀ c ∈ cs, RowAt st S' m' c
 | [], S, m, S', m', _, _, h => by
  rw [rowM] at h
  cases h
  exact ⟨⟨[], by simp⟩, ⟨[], by simp, by simp⟩, fun c hc => by cases hc⟩
 | c :: cs, S, m, S', m', hnd, hm, h => by
  have hnd' := List.nodup_cons.1 hnd
  rw [rowM] at h
  split at h
  ·rename_i h0
   obtain ⟨h1, ⟨e, he, hec⟩, h3⟩ := rowM_spec st cs S m S' m' hnd'.2 (fun p hp hc => hm p hp (List.mem_cons_of_mem _ hc)) h
   refine ⟨h1, ⟨e, he, fun p hp => List.mem_cons_of_mem _ (hec p hp)⟩, fun d hd => ?_⟩
   rcases List.mem_cons.1 hd with rfl | hd
   ·refine ⟨fun _ => toM_no fun p hp => ?_, fun hne => absurd (List.length_eq_zero_iff.1 h0) hne⟩
    rw [he] at hp
    rcases List.mem_append.1 hp with hp | hp
    ·intro e2; exact hm p hp (by rw [e2]; exact List.mem_cons_self ..)
    ·intro e2; exact hnd'.1 (by rw [← e2]; exact hec p hp)
   ·exact h3 d hd
  ·rename_i h0
   split at h
   ·cases h
   ·obtain ⟨e0, he0, hj, hget⟩ := numM_spec S (st c)
    obtain ⟨⟨e1, h1⟩, ⟨e, he, hec⟩, h3⟩ := rowM_spec st cs _ _ S' m' hnd'.2 (fun p hp hc => by
     rcases List.mem_append.1 hp with hp | hp
     ·exact hm p hp (List.mem_cons_of_mem _ hc)
     ·rw [List.mem_singleton.1 hp] at hc; exact hnd'.1 hc) h
    refine ⟨⟨e0 ++ e1, by rw [h1, he0, List.append_assoc]⟩, ⟨(c, (numM S (st c)).2) :: e, by rw [he]; simp, fun p hp => ?_⟩, fun d hd => ?_⟩
    ·rcases List.mem_cons.1 hp with rfl | hp
     ·exact List.mem_cons_self ..
     ·exact List.mem_cons_of_mem _ (hec p hp)
    ·rcases List.mem_cons.1 hd with rfl | hd
     ·refine ⟨fun hn => absurd (by rw [hn]; rfl) h0, fun _ => ⟨(numM S (st d)).2, ?_, ?_⟩⟩
      ·rw [he, List.append_assoc]
       exact toM_app_new (fun p hp e2 => hm p hp (by rw [e2]; exact List.mem_cons_self ..)) e
      ·rw [h1, List.getElem?_append_left hj]; exact hget
     ·exact h3 d hd
structure TabI (rs : List Ru) (N : Nat → Bool) (T : Nat → Nat → Bool) (S : List (List It)) (M : List (List (Nat × Nat))) : Prop where
 le : M.length ≤ S.length
 row : ∀ n (h : n < M.length), ∀ c, 65 ≤ c → c ≤ 122 → RowAt (zci rs N T (S.getD n [])) S M[n] c
 out : ∀ n (h : n < M.length), ∀ p ∈ M[n], 65 ≤ p.1 ∧ p.1 ≤ 122
theorem tabM_spec {rs : List Ru} {N : Nat → Bool} {T : Nat → Nat → Bool} : ∀ (f i : Nat) (S : List (List It)) (M : List (List (Nat × Nat))) (S' : List (List It)) (M' : List (List (Nat × Nat))), M.length = i → TabI rs N T S M → tabM rs N T f i S M = some (S', M') → TabI rs N T S' M' ∧ (∃ e, S' = S ++ e) ∧ (M'.length = i + f ∨ M'.length = S'.length)
 | 0, i, S, M, S', M', hi, hI, h => by
  rw [tabM] at h
  cases h
  exact ⟨hI, ⟨[], by simp⟩, Or.inl (by omega)⟩
 | f + 1, i, S, M, S', M', hi, hI, h => by
  rw [tabM] at h
  split at h
  ·rename_i hlt
   split at h
   ·cases h
   ·rename_i S1 m1 hr
    obtain ⟨⟨e1, he1⟩, ⟨e2, he2, hin⟩, hrow⟩ := rowM_spec _ _ _ _ _ _ (List.nodup_range' ..) (fun p hp => by cases hp) hr
    have he2 : m1 = e2 := by simpa using he2
    have hI' : TabI rs N T S1 (M ++ [m1]) := by
     have hle := hI.le
     refine ⟨by rw [he1, List.length_append, List.length_append]; simp; omega, fun n hn c h1 h2 => ?_, fun n hn p hp => ?_⟩
     ·rw [he1]
      by_cases hnM : n < M.length
      ·rw [List.getElem_append_left hnM, show (S ++ e1).getD n [] = S.getD n [] from by
        rw [List.getD_eq_getElem?_getD, List.getD_eq_getElem?_getD, List.getElem?_append_left (by omega)]]
       exact (hI.row n hnM c h1 h2).ext e1
      ·have hn' : n = M.length := by rw [List.length_append] at hn; simp at hn; omega
       subst hn'
       rw [List.getElem_append_right (by omega)]
       simp only [Nat.sub_self, List.getElem_singleton]
       rw [show (S ++ e1).getD M.length [] = S[i] from by
        rw [List.getD_eq_getElem?_getD, List.getElem?_append_left (by omega), List.getElem?_eq_getElem (by omega)]
        simp [hi]]
       rw [← he1]
       exact hrow c (by rw [List.mem_range'_1]; omega)
     ·by_cases hnM : n < M.length
      ·rw [List.getElem_append_left hnM] at hp; exact hI.out n hnM p hp
      ·have hn' : n = M.length := by rw [List.length_append] at hn; simp at hn; omega
       subst hn'
       rw [List.getElem_append_right (by omega)] at hp
       simp only [Nat.sub_self, List.getElem_singleton] at hp
       rw [he2] at hp
       have := hin p hp
       rw [List.mem_range'_1] at this; omega
    obtain ⟨k1, ⟨e3, k2⟩, k3⟩ := tabM_spec f (i + 1) S1 (M ++ [m1]) S' M' (by rw [List.length_append, hi]; rfl) hI' h
    exact ⟨k1, ⟨e1 ++ e3, by rw [k2, he1, List.append_assoc]⟩, by rcases k3 with k3 | k3 <;> omega⟩
  ·cases h
   rename_i hlt
   have := hI.le
   exact ⟨hI, ⟨[], by simp⟩, Or.inr (by omega)⟩
end Go.Proofs.YtkglggkkbmmjkabGreatDoor
