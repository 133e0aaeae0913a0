import Derived.Test.YtkglggkkbmmjkabGreatDoorG42RCor
import Derived.Test.YtkglggkkbmmjkabGreatDoorG21LrS
import Derived.Test.YtkglggkkbmmjkabGreatDoorG40RPt8
import Derived.Test.YtkglggkkbmmjkabGreatDoorG37PCalls4
import Derived.Deep.RegionHeld3
import Derived.Deep.AppendLies
namespace Go.Proofs.YtkglggkkbmmjkabGreatDoor
open Go.RowKit
theorem any_succ (f : Nat → Bool) (k : Nat) : (List.range (k + 1)).any f = ((List.range k).any f || f k) := by
 rw [List.range_succ, List.any_append]; simp
theorem mixS_succ (r : Tb) (cs : List Nat) (c : Int) (x k : Nat) : mixS r cs c x (k + 1) = (mixS r cs c x k || (((cs.getD k 0 : Nat) : Int) == c && canS r k x)) := any_succ _ k
theorem mixR_succ (L : List Ru) (r : Tb) (cs : List Nat) (c : Int) (x k i : Nat) : mixR L r cs c x (k + 1) i = (mixR L r cs c x k i || (((cs.getD k 0 : Nat) : Int) == c && canR L r k x i)) := any_succ _ k
set_option maxRecDepth 100000 in
set_option maxHeartbeats 4000000 in
theorem r_mixed {w0 : World} {L : List Ru} {N : Nat → Bool} {r : Tb} {mb q cq fq Bs : Nat} {T : Nat → Nat → Bool} {gS cS : Nat} {ls : List Sl} {gT cT : Nat} {ms : List MSl} (B g cm : Nat) (cs : List Nat) (c : Int) (x : Nat) (w : World) (h : RtV w0 w L N r mb q cq fq Bs T gS cS ls gT cT ms)
 (hr : w.ownsRow B 3 1 (.slice (some ⟨g, 0, none⟩) cs.length cm) cs.length (intC cs)) (hl : cs.length = ls.length) :
 Calls Tryz.prog 86 #[.pointer (some ⟨mb, 0, none⟩), .slice (some ⟨g, 0, none⟩) cs.length cm, .int .i64 c, .int .u8 (x : Nat)] w fun e w' => e = .returned (.string (wordsT (mixS r cs c x r.1.length) (mixR L r cs c x r.1.length))) ∧ Fr [] w w' := by
 have H := hide h
 have HR := hide hr
 have h40 := h.l40
 have HML := hide h.len
 have HL := hide hl
 have HS := hide (show r.1.length = ls.length from by rw [← h.sts, List.length_map])
 have hcl : cs.length ≤ 40 := by omega
 clear h hr hl
 go_enter Tryz.func86, Tryz.ntmps86
 go_wp2_with (refine zat rfl 139 (.tmp 11) rfl (some 12) rfl 10 (canF false fun _ => false) (by rfl) ?_; intro w2 hf2 hs2 hB2; have HF2 := hide hf2; have HB2 := hide hB2; clear hf2 hs2 hB2)
 go_loopw [10] (fun iv wr => ∃ k : Nat, k ≤ cs.length ∧ iv = .int .i64 k ∧ Hid (Fr [] w wr ∧ Blk wr w.heap.size 10 (canF (mixS r cs c x k) (mixR L r cs c x k)))) (fun iv _ => cs.length - (intOf iv).toNat)
 case atStart => exact ⟨0, by omega, rfl, zaa HF2, zaa HB2⟩
 case round =>
  obtain ⟨k, hk, rfl, hI⟩ := hrel
  clear HF2 HB2
  by_cases hlt : k < cs.length
  ·have hlt2 : k < ls.length := by have := zaa HL; omega
   have hki : (k : Int) < (cs.length : Int) := by omega
   have d0 : wr.cell? ⟨g, k, none⟩ = some (.int .i64 ((cs[k] : Nat) : Int)) := by
    refine (zaa hI).1.cell0 ?_
    have := row_cell (zaa HR) (j := k) (u := .int .i64 ((cs[k] : Nat) : Int)) (by unfold intC; rw [List.getElem?_map, List.getElem?_eq_getElem hlt]; rfl)
    exact this
   have HG := hide (show cs.getD k 0 = cs[k] from by rw [List.getD_eq_getElem?_getD, List.getElem?_eq_getElem hlt]; rfl)
   obtain ⟨ck, hck⟩ : ∃ ck, cs[k] = ck := ⟨_, rfl⟩
   rw [hck] at d0 HG
   clear hck
   by_cases he : (ck : Int) = c
   ·subst he
    have HV := hide ((zaa H).fr0 (zaa hI).1)
    have HNe := hide ((zaa H).fresh (Nat.le_refl _) hlt2)
    have HN := hide (show canF (mixS r cs ck x k || decide (0 ≤ toM (ms[k]'(by rw [zaa HML]; exact hlt2)).m x)) (fun i => mixR L r cs ck x k i || zbu L ls[k].l x i) = canF (mixS r cs ck x (k + 1)) (mixR L r cs ck x (k + 1)) from by
     have e1 : canS r k x = decide (0 ≤ toM (ms[k]'(by rw [zaa HML]; exact hlt2)).m x) := by unfold canS; rw [← (zaa H).mvs, getD_m _ _ (by rw [zaa HML]; exact hlt2)]
     have e2 : ∀ i, canR L r k x i = zbu L ls[k].l x i := fun i => by unfold canR; rw [← (zaa H).sts, getD_l _ _ hlt2]
     rw [mixS_succ, zaa HG, e1, show mixR L r cs ck x (k + 1) = fun i => mixR L r cs ck x k i || zbu L ls[k].l x i from funext fun i => by rw [mixR_succ, zaa HG, e2 i]; simp]
     simp)
    go_wp2_with (go_at_call 81; refine (r_can Bs mb q cq fq gS cS gT cT w.heap.size L N T ls ms k x _ _ _ (by exact (zaa HV).rt.tb) (by exact (zaa HV).rt.sa) (by exact (zaa HV).rt.mt) hlt2 (by rw [zaa HML]; exact hlt2) (by exact (zaa HV).rt.ok _ (List.getElem_mem hlt2)) (by exact (zaa hI).2) (by exact zaa HNe)).mono ?_; rintro e w3 ⟨rfl, hf3, hB3⟩; rw [zaa HN] at hB3; have HI3 := hide (And.intro ((zaa hI).1.trans1 hf3 (Or.inr (Nat.le_refl _))) hB3); clear hf3 hB3)
    go_roundw
    case rel => exact ⟨k + 1, by omega, by go_num, HI3⟩
    case measure => simp [intOf]; omega
   ·have hne : ((ck : Int) == c) = false := by rw [beq_eq_false_iff_ne]; exact he
    have HN := hide (show Fr [] w wr ∧ Blk wr w.heap.size 10 (canF (mixS r cs c x (k + 1)) (mixR L r cs c x (k + 1))) from ⟨(zaa hI).1, by
     rw [mixS_succ, zaa HG, hne, show mixR L r cs c x (k + 1) = mixR L r cs c x k from funext fun i => by rw [mixR_succ, zaa HG, hne]; simp]
     simpa using (zaa hI).2⟩)
    clear he
    go_wp2
    go_roundw
    case rel => exact ⟨k + 1, by omega, by go_num, HN⟩
    case measure => simp [intOf]; omega
  ·have hke : k = cs.length := by omega
   subst hke
   have HE := hide (show cs.length = r.1.length from by rw [zaa HS, zaa HL])
   go_wp2_with (go_at_call 82; refine (r_words w.heap.size _ _ _ (by exact (zaa hI).2)).mono ?_; rintro e w4 ⟨rfl, hf4⟩; have HF4 := hide ((zaa hI).1.trans0 hf4); clear hf4)
   go_ret
   exact ⟨by rw [zaa HE]; rfl, zaa HF4⟩
end Go.Proofs.YtkglggkkbmmjkabGreatDoor
namespace Go.Proofs.YtkglggkkbmmjkabGreatDoor
open Go.RowKit
theorem corV_len (Ms : List (List It)) : (corV Ms).1.length = Ms.length := by unfold corV; rw [corF_len]; simp
theorem corV_n (Ms : List (List It)) : (corV Ms).2 ≤ Ms.length := by rw [← corI_all Ms (Nat.le_refl _)]; exact corI_n Ms _ (Nat.le_refl _)
def sgsT : ByteArray := ⟨#[36, 97, 98, 99, 100, 101, 102, 103, 104, 105, 106, 107, 108, 109, 110, 111, 112, 113, 114, 115, 116, 117, 118, 119, 120, 121, 122]⟩
theorem sgsT_at : ∀ i : Fin 27, ((sgsT.data.toList[i.val]?).map UInt8.toNat) = some (sgn i.val) := by decide +kernel
theorem sgsT_get (i : Nat) (hi : i < 27) (h : i < sgsT.size) : ((sgsT[i]'h).toNat : Int) = ((sgn i : Nat) : Int) := by
 have := sgsT_at ⟨i, hi⟩
 rw [List.getElem?_eq_getElem (by simpa using h)] at this
 have e : (sgsT[i]'h).toNat = sgn i := by
  have e2 : (sgsT.data[i]'h).toNat = sgn i := by simpa using this
  exact e2
 rw [e]
set_option maxRecDepth 100000 in
set_option maxHeartbeats 4000000 in
theorem r_class {w0 : World} {L : List Ru} {N : Nat → Bool} {r : Tb} {mb q cq fq Bs : Nat} {T : Nat → Nat → Bool} {gS cS : Nat} {ls : List Sl} {gT cT : Nat} {ms : List MSl} (w : World) (h : RtV w0 w L N r mb q cq fq Bs T gS cS ls gT cT ms) :
 Calls Tryz.prog 88 #[.pointer (some ⟨mb, 0, none⟩)] w fun e w' => e = .returned (.int .i64 (clsT L r : Nat)) ∧ Fr [] w w' := by
 have H := hide h
 have h40 := h.l40
 have hpos := h.pos
 have HML := hide h.len
 have hS : r.1.length = ls.length := by rw [← h.sts, List.length_map]
 have HS := hide hS
 have HCL := hide (show (corV r.1).1.length = ls.length from by rw [corV_len, hS])
 have hcn : (corV r.1).2 ≤ 40 := by have := corV_n r.1; omega
 clear h hS
 go_enter Tryz.func88, Tryz.ntmps88
 go_wp2_with (go_at_call 83; refine (r_cores w (zaa H)).mono ?_; rintro e w1 ⟨v, rfl, hC⟩; obtain ⟨g, cm, hv⟩ := zcb hC.row (by have := zaa HCL; omega); subst hv; have HC := hide hC; have c0 := ((zaa H).fr0 hC.fr).rt.sa.cell; clear hC)
 obtain ⟨cs, hcs⟩ : ∃ cs, (corV r.1).1 = cs := ⟨_, rfl⟩
 obtain ⟨nc, hnc⟩ : ∃ nc, (corV r.1).2 = nc := ⟨_, rfl⟩
 rw [hcs] at HC HCL ⊢
 rw [hnc] at hcn ⊢
 have HCS := hide hcs
 have HNC := hide hnc
 clear hcs hnc
 go_loopw [5] (fun iv wr => ∃ k : Nat, k ≤ ls.length ∧ iv = .int .i64 k ∧ Hid (∀ j, j < k → ∀ i, i < 27 → decide (1 < (actT L r j (sgn i)).size) = false) ∧ Hid (Fr [] w1 wr)) (fun iv _ => ls.length - (intOf iv).toNat)
 case atStart => exact ⟨0, by omega, rfl, (fun j hj => by omega), Fr.refl _ _⟩
 case round =>
  obtain ⟨k, hk, rfl, hm, hs⟩ := hrel
  clear c0
  have c0 := (((zaa H).fr0 (zaa HC).fr).fr0 (zaa hs)).rt.sa.cell
  by_cases hlt : k < ls.length
  ·have hki : (k : Int) < ls.length := by omega
   go_wp2
   clear c0
   go_loopw [6] (fun iv wr => ∃ i : Nat, i ≤ 27 ∧ iv = .int .i64 i ∧ Hid (∀ j, j < i → decide (1 < (actT L r k (sgn j)).size) = false) ∧ Hid (Fr [] w1 wr)) (fun iv _ => 27 - (intOf iv).toNat)
   case atStart => exact ⟨0, by omega, rfl, (fun j hj => by omega), hs⟩
   case round =>
    clear hs
    obtain ⟨i, hi, rfl, hmi, hs⟩ := hrel
    by_cases hit : i < 27
    ·have hii : (i : Int) < 27 := by omega
     have HV := hide (((zaa H).fr0 (zaa HC).fr).fr0 (zaa hs))
     have hsg := sgsT_get i hit (show i < 27 from hit)
     unfold sgsT at hsg
     have HSG := hide hsg
     clear hsg
     have hat : wordsT (decide (0 ≤ toM (ms[k]'(by rw [zaa HML]; exact hlt)).m (sgn i))) (zbu L ls[k].l (sgn i)) = actT L r k (sgn i) := by
      unfold actT canS
      rw [← (zaa HV).mvs, getD_m _ _ (by rw [zaa HML]; exact hlt), show canR L r k (sgn i) = zbu L ls[k].l (sgn i) from by unfold canR; rw [← (zaa HV).sts, getD_l _ _ hlt]]
     obtain ⟨a, ha⟩ : ∃ a, actT L r k (sgn i) = a := ⟨_, rfl⟩
     rw [ha] at hat
     have HAT := hide hat
     have hsz : a.size ≤ 10 := by
      rw [← ha]
      show (wdU _ _ 9).length ≤ 10
      exact wdU_len _ _ 9
     have HA := hide ha
     clear hat ha
     by_cases h1 : 1 < a.size
     ·have HN := hide (show clsT L r = 0 from by
       unfold clsT
       rw [if_pos (anyC_true (k := k) (i := i) (by rw [zaa HS]; exact hlt) hit (by rw [zaa HA]; exact decide_eq_true h1))])
      have h1i : (1 : Int) < a.size := by omega
      go_wp2_with (first
      | (refine zat rfl 139 (.tmp 30) rfl (some 31) rfl 10 (canF false fun _ => false) (by rfl) ?_; intro w2 hf2 hs2 hB2; have HV2 := hide ((zaa HV).fr0 hf2); have HB2 := hide hB2; have HNe := hide ((zaa HV).fresh (Nat.le_refl _) hlt); have HF2 := hide ((zaa hs).trans0 hf2); clear hf2 hs2 hB2)
      | (go_at_call 81; rw [zaa HSG]; refine (r_can Bs mb q cq fq gS cS gT cT wr.heap.size L N T ls ms k (sgn i) false (fun _ => false) _ (by exact (zaa HV2).rt.tb) (by exact (zaa HV2).rt.sa) (by exact (zaa HV2).rt.mt) hlt (by rw [zaa HML]; exact hlt) (by exact (zaa HV2).rt.ok _ (List.getElem_mem hlt)) (by exact zaa HB2) (by exact zaa HNe)).mono ?_; rintro e w3 ⟨rfl, hf3, hB3⟩; rw [canF_first] at hB3; have HB3 := hide hB3; have HF3 := hide ((zaa HF2).trans1 hf3 (Or.inr (zaa hs).size)); clear hf3 hB3)
      | (go_at_call 82; refine (r_words wr.heap.size _ _ _ (by exact zaa HB3)).mono ?_; rintro e w4 ⟨rfl, hf4⟩; rw [zaa HAT]; have HF4 := hide ((zaa HF3).trans0 hf4); clear hf4))
      go_ret
      exact ⟨zbx (by rw [zaa HN]; rfl), (zaa HC).fr.trans0 (zaa HF4)⟩
     ·have HN := hide (show ∀ j, j < i + 1 → decide (1 < (actT L r k (sgn j)).size) = false from fun j hj => by
       by_cases e : j = i
       ·subst e; rw [zaa HA]; exact decide_eq_false h1
       ·exact zaa hmi j (by omega))
      have h1i : ¬ (1 : Int) < a.size := by omega
      go_wp2_with (first
      | (refine zat rfl 139 (.tmp 30) rfl (some 31) rfl 10 (canF false fun _ => false) (by rfl) ?_; intro w2 hf2 hs2 hB2; have HV2 := hide ((zaa HV).fr0 hf2); have HB2 := hide hB2; have HNe := hide ((zaa HV).fresh (Nat.le_refl _) hlt); have HF2 := hide ((zaa hs).trans0 hf2); clear hf2 hs2 hB2)
      | (go_at_call 81; rw [zaa HSG]; refine (r_can Bs mb q cq fq gS cS gT cT wr.heap.size L N T ls ms k (sgn i) false (fun _ => false) _ (by exact (zaa HV2).rt.tb) (by exact (zaa HV2).rt.sa) (by exact (zaa HV2).rt.mt) hlt (by rw [zaa HML]; exact hlt) (by exact (zaa HV2).rt.ok _ (List.getElem_mem hlt)) (by exact zaa HB2) (by exact zaa HNe)).mono ?_; rintro e w3 ⟨rfl, hf3, hB3⟩; rw [canF_first] at hB3; have HB3 := hide hB3; have HF3 := hide ((zaa HF2).trans1 hf3 (Or.inr (zaa hs).size)); clear hf3 hB3)
      | (go_at_call 82; refine (r_words wr.heap.size _ _ _ (by exact zaa HB3)).mono ?_; rintro e w4 ⟨rfl, hf4⟩; rw [zaa HAT]; have HF4 := hide ((zaa HF3).trans0 hf4); clear hf4))
      go_roundw
      case rel => exact ⟨i + 1, by omega, by go_num, HN, HF4⟩
      case measure => simp [intOf]; omega
    ·have HN := hide (show ∀ j, j < k + 1 → ∀ i, i < 27 → decide (1 < (actT L r j (sgn i)).size) = false from fun j hj i2 hi2 => by
      by_cases e : j = k
      ·subst e; exact zaa hmi i2 (by omega)
      ·exact zaa hm j (by omega) i2 hi2)
     go_wp2
     go_roundw
     case rel => exact ⟨k + 1, by omega, by go_num, HN, hs⟩
     case measure => simp [intOf]; omega
  ·have HAll := hide (anyC_false (f := fun k i => decide (1 < (actT L r k (sgn i)).size)) (m := r.1.length) (fun j hj i hi => zaa hm j (by rw [zaa HS] at hj; omega) i hi))
   go_wp2
   clear c0 hm
   go_loopw [9] (fun iv wr => ∃ k : Nat, k ≤ nc ∧ iv = .int .i64 k ∧ Hid (∀ j, j < k → ∀ i, i < 27 → decide (1 < (mixT L r (j : Nat) (sgn i)).size) = false) ∧ Hid (Fr [] w1 wr)) (fun iv _ => nc - (intOf iv).toNat)
   case atStart => exact ⟨0, by omega, rfl, (fun j hj => by omega), hs⟩
   case round =>
    clear hs hk hlt
    obtain ⟨k, hk, rfl, hm, hs⟩ := hrel
    by_cases hlt : k < nc
    ·have hki : (k : Int) < nc := by omega
     go_wp2
     go_loopw [10] (fun iv wr => ∃ i : Nat, i ≤ 27 ∧ iv = .int .i64 i ∧ Hid (∀ j, j < i → decide (1 < (mixT L r (k : Nat) (sgn j)).size) = false) ∧ Hid (Fr [] w1 wr)) (fun iv _ => 27 - (intOf iv).toNat)
     case atStart => exact ⟨0, by omega, rfl, (fun j hj => by omega), hs⟩
     case round =>
      clear hs
      obtain ⟨i, hi, rfl, hmi, hs⟩ := hrel
      by_cases hit : i < 27
      ·have hii : (i : Int) < 27 := by omega
       have HV := hide (((zaa H).fr0 (zaa HC).fr).fr0 (zaa hs))
       have HRw := hide (zbd (zaa HC).row (zaa hs) (by simp))
       have hsg := sgsT_get i hit (show i < 27 from hit)
       unfold sgsT at hsg
       have HSG := hide hsg
       clear hsg
       have hat : wordsT (mixS r cs (k : Nat) (sgn i) r.1.length) (mixR L r cs (k : Nat) (sgn i) r.1.length) = mixT L r (k : Nat) (sgn i) := by unfold mixT; rw [zaa HCS]
       obtain ⟨a, ha⟩ : ∃ a, mixT L r (k : Nat) (sgn i) = a := ⟨_, rfl⟩
       rw [ha] at hat
       have HAT := hide hat
       have hsz : a.size ≤ 10 := by
        rw [← ha]
        show (wdU _ _ 9).length ≤ 10
        exact wdU_len _ _ 9
       have HA := hide ha
       clear hat ha
       by_cases h1 : 1 < a.size
       ·have HN := hide (show clsT L r = 1 from by
         unfold clsT
         rw [if_neg (by rw [zaa HAll]; simp), if_pos (anyC_true (k := k) (i := i) (by rw [zaa HNC]; exact hlt) hit (by rw [zaa HA]; exact decide_eq_true h1))])
        have h1i : (1 : Int) < a.size := by omega
        go_wp2_with (go_at_call 86; rw [zaa HSG]; refine (r_mixed w.heap.size g cm cs (k : Nat) (sgn i) wr (by exact zaa HV) (by exact zaa HRw) (zaa HCL)).mono ?_; rintro e w4 ⟨rfl, hf4⟩; rw [zaa HAT]; have HF4 := hide ((zaa hs).trans0 hf4); clear hf4)
        go_ret
        exact ⟨zbx (by rw [zaa HN]; rfl), (zaa HC).fr.trans0 (zaa HF4)⟩
       ·have HN := hide (show ∀ j, j < i + 1 → decide (1 < (mixT L r (k : Nat) (sgn j)).size) = false from fun j hj => by
         by_cases e : j = i
         ·subst e; rw [zaa HA]; exact decide_eq_false h1
         ·exact zaa hmi j (by omega))
        have h1i : ¬ (1 : Int) < a.size := by omega
        go_wp2_with (go_at_call 86; rw [zaa HSG]; refine (r_mixed w.heap.size g cm cs (k : Nat) (sgn i) wr (by exact zaa HV) (by exact zaa HRw) (zaa HCL)).mono ?_; rintro e w4 ⟨rfl, hf4⟩; rw [zaa HAT]; have HF4 := hide ((zaa hs).trans0 hf4); clear hf4)
        go_roundw
        case rel => exact ⟨i + 1, by omega, by go_num, HN, HF4⟩
        case measure => simp [intOf]; omega
      ·have HN := hide (show ∀ j, j < k + 1 → ∀ i, i < 27 → decide (1 < (mixT L r (j : Nat) (sgn i)).size) = false from fun j hj i2 hi2 => by
        by_cases e : j = k
        ·subst e; exact zaa hmi i2 (by omega)
        ·exact zaa hm j (by omega) i2 hi2)
       go_wp2
       go_roundw
       case rel => exact ⟨k + 1, by omega, by go_num, HN, hs⟩
       case measure => simp [intOf]; omega
    ·have HN := hide (show clsT L r = 2 from by
      unfold clsT
      rw [if_neg (by rw [zaa HAll]; simp), if_neg (by rw [anyC_false (f := fun k i => decide (1 < (mixT L r (k : Nat) (sgn i)).size)) (m := (corV r.1).2) (fun j hj i hi => zaa hm j (by rw [zaa HNC] at hj; omega) i hi)]; simp)])
     go_wp2
     go_ret
     exact ⟨zbx (by rw [zaa HN]; rfl), (zaa HC).fr.trans0 (zaa hs)⟩
end Go.Proofs.YtkglggkkbmmjkabGreatDoor
namespace Go.Proofs.YtkglggkkbmmjkabGreatDoor
open Go.RowKit
/-! The program's reading. -/
def stC (st : Stk) : List Value := st.reverse.flatMap fun q => [.int .i64 (q.1 : Nat), .string (bstr q.2)]
theorem stC_cons (q : Nat × List Nat) (st : Stk) : stC (q :: st) = stC st ++ [.int .i64 (q.1 : Nat), .string (bstr q.2)] := by unfold stC; simp
theorem stC_len : ∀ st : Stk, (stC st).length = st.length * 2
 | [] => rfl
 | q :: st => by rw [stC_cons, List.length_append, stC_len st, List.length_cons]; simp; omega
theorem stC_app (pt st : Stk) : stC (pt ++ st) = stC st ++ stC pt := by unfold stC; simp
def rdF (tb : Nat) (v : Value) : Nat → Value := fun i => if i = 0 then .pointer (some ⟨tb, 0, none⟩) else v
structure RdS (w : World) (rb tb base : Nat) (p : Pl) (v : Value) (S : List Sd) (cores : Nat) (sv : Value) (st : Stk) : Prop where
 blk : Blk w rb 2 (rdF tb sv)
 row : w.ownsRow (rb + 1) 89 2 sv st.length (stC st)
 tab : TbR w tb base p v S cores 0
 tlt : tb < rb
 vlt : ∀ g, v.ownBlock = some g → g < rb
theorem RdS.fr0 {w w' : World} {rb tb base : Nat} {p : Pl} {v : Value} {S : List Sd} {cores : Nat} {sv : Value} {st : Stk} (h : RdS w rb tb base p v S cores sv st) (k : Fr [] w w') : RdS w' rb tb base p v S cores sv st :=
 ⟨h.blk.fr0 k, zbd h.row k (by simp), h.tab.fr0 k, h.tlt, h.vlt⟩
theorem RdS.form {w : World} {rb tb base : Nat} {p : Pl} {v : Value} {S : List Sd} {cores : Nat} {sv : Value} {q : Nat × List Nat} {st : Stk} (h : RdS w rb tb base p v S cores sv (q :: st)) : ∃ g cap, sv = .slice (some ⟨g, 0, none⟩) (st.length + 1) cap ∧ rb + 1 ≤ g ∧ g < w.heap.size := by
 obtain ⟨_, h2⟩ := h.row
 rcases h2 with ⟨_, h3⟩ | ⟨g, cap, cur, e, h3, h4, _⟩
 ·simp at h3
 ·exact ⟨g, cap, e, (h.row.lt g (by rw [e]; rfl))⟩
theorem RdS.top {w : World} {rb tb base : Nat} {p : Pl} {v : Value} {S : List Sd} {cores g cap : Nat} {q : Nat × List Nat} {st : Stk} (h : RdS w rb tb base p v S cores (.slice (some ⟨g, 0, none⟩) (st.length + 1) cap) (q :: st)) : w.cell? ⟨g, st.length * 2, none⟩ = some (.int .i64 (q.1 : Nat)) ∧ w.cell? ⟨g, st.length * 2 + 1, none⟩ = some (.string (bstr q.2)) := by
 have hr := h.row
 rw [List.length_cons, stC_cons] at hr
 refine ⟨row_cell hr ?_, row_cell hr ?_⟩
 ·rw [List.getElem?_append_right (by rw [stC_len]; exact Nat.le_refl _), stC_len, Nat.sub_self]; rfl
 ·rw [List.getElem?_append_right (by rw [stC_len]; omega), stC_len, Nat.add_sub_cancel_left]; rfl
set_option maxRecDepth 100000 in
set_option maxHeartbeats 1000000 in
theorem p_last (rb tb base : Nat) (p : Pl) (v : Value) (S : List Sd) (cores : Nat) (sv : Value) (q : Nat × List Nat) (st : Stk) (w : World) (h : RdS w rb tb base p v S cores sv (q :: st)) (hn : st.length ≤ 100000000) :
 Calls Tryz.prog 40 #[.pointer (some ⟨rb, 0, none⟩)] w fun e w' => e = .returned (.agg #[.int .i64 (q.1 : Nat), .string (bstr q.2)]) ∧ Fr [] w w' := by
 obtain ⟨g, cap, rfl, hg1, hg2⟩ := h.form
 have c0 : w.cell? ⟨rb, 1, none⟩ = some (.slice (some ⟨g, 0, none⟩) (st.length + 1) cap) := h.blk.cell 1 (by omega)
 obtain ⟨c1, c2⟩ := h.top
 obtain ⟨a, ha⟩ : ∃ a : Nat, q.1 = a := ⟨_, rfl⟩
 obtain ⟨b, hb⟩ : ∃ b : ByteArray, bstr q.2 = b := ⟨_, rfl⟩
 obtain ⟨m, hm⟩ : ∃ m : Nat, st.length = m := ⟨_, rfl⟩
 rw [ha] at c1 ⊢
 rw [hb] at c2 ⊢
 rw [hm] at c0 c1 c2 hn
 clear h ha hb hm
 have h0 : (0 : Int) ≤ (m : Int) := by omega
 have h1 : (m : Int) < (m : Int) + 1 := by omega
 have A2 : ∀ o o', Fr [] w ((w.alloc o).alloc o') := fun o o' => ((Fr.refl [] w).alloc o).alloc o'
 have k0 := fun o o' => (A2 o o').cell0 c0
 have k1 := fun o o' => (A2 o o').cell0 c1
 have k2 := fun o o' => (A2 o o').cell0 c2
 have hrb : rb < w.heap.size := by omega
 have hw1 : IntKind.i64.wrap ((m : Int) + 1 - 1) = (m : Int) := by rw [IntKind.wrap_i64]; omega
 have hw2 : IntKind.i64.wrap (m : Int) = (m : Int) := by rw [IntKind.wrap_i64]; omega
 clear A2 c0 c1 c2
 go_enter Tryz.func40, Tryz.ntmps40
 go_wp2
 go_region_held3 (fun w' => w'.cell? ⟨rb, 1, none⟩ = some (.slice (some ⟨g, 0, none⟩) (m + 1) cap) ∧ w'.cell? ⟨g, m * 2, none⟩ = some (.int .i64 (a : Nat)) ∧ w'.cell? ⟨g, m * 2 + 1, none⟩ = some (.string b)) (go_keep) (fail)
 go_wp2
 exact bodyPost_ret (v := .agg #[.int .i64 (a : Nat), .string b]) (by simp [results, Tryz.results40, go_sem]) rfl ⟨rfl, (((Fr.refl [] w).alloc _).alloc _).drew⟩
end Go.Proofs.YtkglggkkbmmjkabGreatDoor
