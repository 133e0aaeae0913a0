import Derived.Test.YtkglggkkbmmjkabGreatDoorG12RFirst
import Derived.Test.YtkglggkkbmmjkabGreatDoorG48Law
import Derived.Test.YtkglggkkbmmjkabGreatDoorG50Fo
import Derived.Test.YtkglggkkbmmjkabGreatDoorG43PRd1
import Derived.Test.YtkglggkkbmmjkabGreatDoorG42RCor
import Derived.Test.YtkglggkkbmmjkabGreatDoorG47PRdT
import Derived.Test.YtkglggkkbmmjkabGreatDoorG52St
namespace Go.Proofs.YtkglggkkbmmjkabGreatDoor
open Go.RowKit
set_option maxHeartbeats 1600000 in
theorem l_letters_Null (n : Int) (g s : ByteArray) (w : World) (hg : g.size ≤ 9223372036854775807) (hs : s.size ≤ 9223372036854775807) :
 Calls Tryz.prog 9 #[.agg #[.int .i64 2, .int .i64 n, .string g, .string s]] w fun e w' => e = .returned (.bool true) ∧ Fr [] w w' := by
 go_enter Tryz.func9, Tryz.ntmps9
 go_wp2_with (first
  | (go_at_call 18; refine (p_Null g s _ hg hs).mono ?_; rintro e w1 ⟨rfl, hf1⟩; have HO1 := hide (show OpAt w1 w.heap.size g s from OpAt.fr (by exact ⟨by simp, by simp, by simp⟩) hf1); have k2 := (zaa HO1).2.1; have k3 := (zaa HO1).2.2; have HF1 := hide (((Fr.refl [] w).alloc _).trans0 hf1); clear hf1)
  | (go_at_call 19; refine (r_Null g s _ hg hs).mono ?_; rintro e w2 ⟨rfl, hf2⟩; have HF2 := hide ((zaa HF1).trans0 hf2); clear hf2)
  | (go_at_call 8; refine (l_num _ _).mono ?_; rintro e w3 ⟨rfl, rfl⟩))
 go_ret
 exact ⟨by simp, zaa HF2⟩
set_option maxHeartbeats 400000 in
theorem l_plays_Null (n : Int) (g s : ByteArray) (w : World) (hg : g.size ≤ 9223372036854775807) (hs : s.size ≤ 9223372036854775807) :
 Calls Tryz.prog 5 #[.agg #[.int .i64 2, .int .i64 n, .string g, .string s]] w fun e w' => e = .returned (.bool true) ∧ Fr [] w w' := by
 go_enter Tryz.func5, Tryz.ntmps5
 go_wp2_with (go_at_call 9; refine (l_letters_Null n g s _ hg hs).mono ?_; rintro e w1 ⟨rfl, hf1⟩; have HF1 := hide (((Fr.refl [] w).alloc _).trans0 hf1); clear hf1)
 go_ret
 exact ⟨rfl, zaa HF1⟩
set_option maxHeartbeats 1600000 in
theorem l_letters_First (n : Int) (g s : ByteArray) (w : World) (hg : g.size ≤ 9223372036854775807) (hs : s.size ≤ 9223372036854775807) :
 Calls Tryz.prog 9 #[.agg #[.int .i64 3, .int .i64 n, .string g, .string s]] w fun e w' => e = .returned (.bool true) ∧ Fr [] w w' := by
 go_enter Tryz.func9, Tryz.ntmps9
 go_wp2_with (first
  | (go_at_call 20; refine (p_First g s _ hg hs).mono ?_; rintro e w1 ⟨rfl, hf1⟩; have HO1 := hide (show OpAt w1 w.heap.size g s from OpAt.fr (by exact ⟨by simp, by simp, by simp⟩) hf1); have k2 := (zaa HO1).2.1; have k3 := (zaa HO1).2.2; have HF1 := hide (((Fr.refl [] w).alloc _).trans0 hf1); clear hf1)
  | (go_at_call 21; refine (r_First g s _ hg hs).mono ?_; rintro e w2 ⟨rfl, hf2⟩; have HF2 := hide ((zaa HF1).trans0 hf2); clear hf2)
  | (go_at_call 8; refine (l_num _ _).mono ?_; rintro e w3 ⟨rfl, rfl⟩))
 go_ret
 exact ⟨by simp, zaa HF2⟩
set_option maxHeartbeats 400000 in
theorem l_plays_First (n : Int) (g s : ByteArray) (w : World) (hg : g.size ≤ 9223372036854775807) (hs : s.size ≤ 9223372036854775807) :
 Calls Tryz.prog 5 #[.agg #[.int .i64 3, .int .i64 n, .string g, .string s]] w fun e w' => e = .returned (.bool true) ∧ Fr [] w w' := by
 go_enter Tryz.func5, Tryz.ntmps5
 go_wp2_with (go_at_call 9; refine (l_letters_First n g s _ hg hs).mono ?_; rintro e w1 ⟨rfl, hf1⟩; have HF1 := hide (((Fr.refl [] w).alloc _).trans0 hf1); clear hf1)
 go_ret
 exact ⟨rfl, zaa HF1⟩
theorem plays_firsts : PlaysOk 2 3 := fun k n g s w h1 h2 hg hs => by
 obtain rfl | rfl : k = 2 ∨ k = 3 := by omega
 ·exact l_plays_Null n g s w hg hs
 ·exact l_plays_First n g s w hg hs
end Go.Proofs.YtkglggkkbmmjkabGreatDoor
namespace Go.Proofs.YtkglggkkbmmjkabGreatDoor
open Go.RowKit
set_option maxHeartbeats 1600000 in
theorem l_letters_Follow (n : Int) (g s : ByteArray) (w : World) (hg : g.size ≤ 9223372036854775807) (hs : s.size ≤ 9223372036854775807) :
 Calls Tryz.prog 9 #[.agg #[.int .i64 4, .int .i64 n, .string g, .string s]] w fun e w' => e = .returned (.bool true) ∧ Fr [] w w' := by
 go_enter Tryz.func9, Tryz.ntmps9
 go_wp2_with (first
  | (go_at_call 22; refine (p_Follow g s _ hg hs).mono ?_; rintro e w1 ⟨rfl, hf1⟩; have HO1 := hide (show OpAt w1 w.heap.size g s from OpAt.fr (by exact ⟨by simp, by simp, by simp⟩) hf1); have k2 := (zaa HO1).2.1; have k3 := (zaa HO1).2.2; have HF1 := hide (((Fr.refl [] w).alloc _).trans0 hf1); clear hf1)
  | (go_at_call 23; refine (r_Follow g s _ hg hs).mono ?_; rintro e w2 ⟨rfl, hf2⟩; have HF2 := hide ((zaa HF1).trans0 hf2); clear hf2)
  | (go_at_call 8; refine (l_num _ _).mono ?_; rintro e w3 ⟨rfl, rfl⟩))
 go_ret
 exact ⟨by simp, zaa HF2⟩
set_option maxHeartbeats 400000 in
theorem l_plays_Follow (n : Int) (g s : ByteArray) (w : World) (hg : g.size ≤ 9223372036854775807) (hs : s.size ≤ 9223372036854775807) :
 Calls Tryz.prog 5 #[.agg #[.int .i64 4, .int .i64 n, .string g, .string s]] w fun e w' => e = .returned (.bool true) ∧ Fr [] w w' := by
 go_enter Tryz.func5, Tryz.ntmps5
 go_wp2_with (go_at_call 9; refine (l_letters_Follow n g s _ hg hs).mono ?_; rintro e w1 ⟨rfl, hf1⟩; have HF1 := hide (((Fr.refl [] w).alloc _).trans0 hf1); clear hf1)
 go_ret
 exact ⟨rfl, zaa HF1⟩
theorem plays_follows : PlaysOk 4 4 := fun k n g s w h1 h2 hg hs => by
 obtain rfl : k = 4 := by omega
 exact l_plays_Follow n g s w hg hs
end Go.Proofs.YtkglggkkbmmjkabGreatDoor
namespace Go.Proofs.YtkglggkkbmmjkabGreatDoor
open Go.RowKit
theorem coreV_out {n : Int} {r : Tb} (h : ¬ (0 ≤ n ∧ n < r.1.length)) : coreV n (.inr r) = (0, 7) := by unfold coreV; dsimp only; rw [if_neg h]
theorem coreV_ok {n : Int} {r : Tb} (h : 0 ≤ n ∧ n < r.1.length) : coreV n (.inr r) = ((corV r.1).1.getD n.toNat 0, 0) := by unfold coreV; dsimp only; rw [if_pos h]
set_option maxRecDepth 100000 in
set_option maxHeartbeats 2000000 in
theorem r_CoreV (t : ByteArray) (n : Int) (w : World) (ht : t.size ≤ 9223372036854775807) :
 Calls Tryz.prog 31 #[.string t, .int .i64 n] w fun e w' => e = .returned (.tuple #[.int .i64 ((coreV n (tabR t)).1 : Nat), .int .i64 ((coreV n (tabR t)).2 : Nat)]) ∧ Fr [] w w' := by
 cases htab : tabR t with
 | inl x =>
  have HT := hide htab
  clear htab
  go_enter Tryz.func31, Tryz.ntmps31
  go_wp2_with (go_at_call 72; refine (za7 t w ht).mono ?_; rintro e w1 ⟨hf, h1, _⟩; obtain ⟨rfl, hx⟩ := h1 x (zaa HT); have hxb : ((x : Int) != 0) = true := (by rw [bne_iff_ne]; omega); have HF := hide hf; clear hf h1)
  go_ret2
  exact ⟨rfl, zaa HF⟩
 | inr r =>
  have HT := hide htab
  clear htab
  by_cases hin : 0 ≤ n ∧ n < r.1.length
  ·have HA := hide (coreV_ok hin)
   obtain ⟨k, rfl⟩ : ∃ k : Nat, n = k := ⟨n.toNat, by omega⟩
   have HK := hide (show k < r.1.length by omega)
   clear hin
   go_enter Tryz.func31, Tryz.ntmps31
   go_wp2_with (first
    | (go_at_call 72; refine (za7 t w ht).mono ?_; rintro e w1 ⟨hf, _, h2⟩; obtain ⟨mb, q, cq, fq, Bs, T, gS, cS, ls, gT, cT, ms, rfl, hv⟩ := h2 r (zaa HT); have HV := hide hv; have hlt : k < ls.length := (by have := zaa HK; rw [← hv.sts, List.length_map] at this; exact this); have c0 := hv.rt.sa.cell; have HF := hide hf; clear hf h2 hv)
    | (go_at_call 83; refine (r_cores w1 (zaa HV)).mono ?_; rintro e w2 ⟨v, rfl, hC⟩; have hcl : (corV r.1).1.length = ls.length := (by rw [corV_len, ← (zaa HV).sts, List.length_map]); obtain ⟨g, cm, hv⟩ := zcb hC.row (by omega); subst hv; have hk2 : k < (corV r.1).1.length := (by omega); have d0 : w2.cell? ⟨g, k, none⟩ = some (.int .i64 ((((corV r.1).1[k]) : Nat) : Int)) := row_cell hC.row (by unfold intC; rw [List.getElem?_map, List.getElem?_eq_getElem hk2]; rfl); have HFC := hide ((zaa HF).trans0 hC.fr); have hk3 : (k : Int) < ((corV r.1).1.length : Int) := (by omega); have HKK := hide hk2; clear hC hcl))
   go_ret2
   exact ⟨by rw [zaa HA, show ((k : Nat) : Int).toNat = k from rfl, List.getD_eq_getElem?_getD, List.getElem?_eq_getElem (zaa HKK)]; rfl, zaa HFC⟩
  ·have HA := hide (coreV_out hin)
   have HIn := hide hin
   clear hin
   by_cases h0 : n < 0
   ·go_enter Tryz.func31, Tryz.ntmps31
    go_wp2_with (first
     | (go_at_call 72; refine (za7 t w ht).mono ?_; rintro e w1 ⟨hf, _, h2⟩; obtain ⟨mb, q, cq, fq, Bs, T, gS, cS, ls, gT, cT, ms, rfl, hv⟩ := h2 r (zaa HT); have HV := hide hv; have c0 := hv.rt.sa.cell; have HF := hide hf; clear hf h2 hv))
    go_ret2
    exact ⟨by rw [zaa HA]; rfl, zaa HF⟩
   ·go_enter Tryz.func31, Tryz.ntmps31
    go_wp2_with (first
     | (go_at_call 72; refine (za7 t w ht).mono ?_; rintro e w1 ⟨hf, _, h2⟩; obtain ⟨mb, q, cq, fq, Bs, T, gS, cS, ls, gT, cT, ms, rfl, hv⟩ := h2 r (zaa HT); have HV := hide hv; have hge : (ls.length : Int) ≤ n := (by have h := zaa HIn; rw [← hv.sts, List.length_map] at h; omega); have c0 := hv.rt.sa.cell; have HF := hide hf; clear hf h2 hv))
    go_ret2
    exact ⟨by rw [zaa HA]; rfl, zaa HF⟩
theorem mixV_out {L : List Ru} {n : Int} {s : ByteArray} {r : Tb} (h : ¬ (0 ≤ n ∧ n < (corV r.1).2)) : mixV L n s (.inr r) = (⟨#[]⟩, 7) := by unfold mixV; dsimp only; rw [if_neg h]
theorem mixV_bad {L : List Ru} {n : Int} {s : ByteArray} {r : Tb} (h : 0 ≤ n ∧ n < (corV r.1).2) (hs : sgnX s = false) : mixV L n s (.inr r) = (⟨#[]⟩, 5) := by unfold mixV; dsimp only; rw [if_pos h, if_pos hs]
theorem mixV_ok {L : List Ru} {n : Int} {s : ByteArray} {r : Tb} (h : 0 ≤ n ∧ n < (corV r.1).2) (hs : sgnX s = true) : mixV L n s (.inr r) = (mixT L r n (ch s 0), 0) := by unfold mixV; dsimp only; rw [if_pos h, if_neg (by rw [hs]; simp)]
set_option maxRecDepth 100000 in
set_option maxHeartbeats 2000000 in
theorem r_MixV (t : ByteArray) (n : Int) (s : ByteArray) (w : World) (ht : t.size ≤ 9223372036854775807) :
 Calls Tryz.prog 33 #[.string t, .int .i64 n, .string s] w fun e w' => e = .returned (.tuple #[.string (mixV (rul (zad t 8 0 []).1) n s (tabR t)).1, .int .i64 ((mixV (rul (zad t 8 0 []).1) n s (tabR t)).2 : Nat)]) ∧ Fr [] w w' := by
 have hsx : sgnW s = sgnX s := rfl
 cases htab : tabR t with
 | inl x =>
  have HT := hide htab
  clear htab
  go_enter Tryz.func33, Tryz.ntmps33
  go_wp2_with (go_at_call 72; refine (za7 t w ht).mono ?_; rintro e w1 ⟨hf, h1, _⟩; obtain ⟨rfl, hx⟩ := h1 x (zaa HT); have hxb : ((x : Int) != 0) = true := (by rw [bne_iff_ne]; omega); have HF := hide hf; clear hf h1)
  go_ret2
  exact ⟨rfl, zaa HF⟩
 | inr r =>
  have HT := hide htab
  clear htab
  obtain ⟨nc, hnc⟩ : ∃ nc, (corV r.1).2 = nc := ⟨_, rfl⟩
  have HNC := hide hnc
  by_cases hin : 0 ≤ n ∧ n < (corV r.1).2
  ·have f1 : ¬ n < 0 := by omega
   have f2 : ¬ (nc : Int) ≤ n := by rw [← hnc]; omega
   cases hl : sgnX s
   ·have HA := hide (mixV_bad (L := rul (zad t 8 0 []).1) hin hl)
    rw [hl] at hsx
    have HSX := hide hsx
    clear hin hl hsx hnc
    go_enter Tryz.func33, Tryz.ntmps33
    go_wp2_with (first
     | (go_at_call 72; refine (za7 t w ht).mono ?_; rintro e w1 ⟨hf, _, h2⟩; obtain ⟨mb, q, cq, fq, Bs, T, gS, cS, ls, gT, cT, ms, rfl, hv⟩ := h2 r (zaa HT); have HV := hide hv; have HF := hide hf; clear hf h2 hv)
     | (go_at_call 83; refine (r_cores w1 (zaa HV)).mono ?_; rintro e w2 ⟨v, rfl, hC⟩; rw [zaa HNC]; have HFC := hide ((zaa HF).trans0 hC.fr); clear hC)
     | (go_at_call 80; refine (r_isSign s _).mono ?_; rintro e w' ⟨rfl, hw'⟩; rw [hw', zaa HSX]))
    go_ret2
    exact ⟨by rw [zaa HA]; rfl, zaa HFC⟩
   ·have HA := hide (mixV_ok (L := rul (zad t 8 0 []).1) hin hl)
    have h1 : s.size = 1 := by unfold sgnX at hl; rw [Bool.and_eq_true] at hl; exact of_decide_eq_true hl.1
    have hc0 : ((s[0]'(by omega)).toNat : Int) = ((ch s 0 : Nat) : Int) := by rw [za8 s 0 (by omega)]
    have h1' : (0 : Int) < (s.size : Int) := by omega
    obtain ⟨c, hc⟩ : ∃ c, ch s 0 = c := ⟨_, rfl⟩
    rw [hc] at hc0
    have HCC := hide hc
    rw [hl] at hsx
    have HSX := hide hsx
    clear hin hl hsx hc hnc
    go_enter Tryz.func33, Tryz.ntmps33
    go_wp2_with (first
     | (go_at_call 72; refine (za7 t w ht).mono ?_; rintro e w1 ⟨hf, _, h2⟩; obtain ⟨mb, q, cq, fq, Bs, T, gS, cS, ls, gT, cT, ms, rfl, hv⟩ := h2 r (zaa HT); have HV := hide hv; have HF := hide hf; clear hf h2 hv)
     | (go_at_call 83; refine (r_cores w1 (zaa HV)).mono ?_; rintro e w2 ⟨v, rfl, hC⟩; rw [zaa HNC]; have hcl : (corV r.1).1.length = ls.length := (by rw [corV_len, ← (zaa HV).sts, List.length_map]); obtain ⟨g, cm, hv⟩ := zcb hC.row (by have := (zaa HV).pos; omega); subst hv; have HV2 := hide ((zaa HV).fr0 hC.fr); have HRw := hide hC.row; have HCL := hide hcl; have HFC := hide ((zaa HF).trans0 hC.fr); clear hC hcl)
     | (go_at_call 80; refine (r_isSign s _).mono ?_; rintro e w' ⟨rfl, hw'⟩; rw [hw', zaa HSX])
     | (go_at_call 86; refine (r_mixed w1.heap.size g cm (corV r.1).1 n c w2 (by exact zaa HV2) (by exact zaa HRw) (zaa HCL)).mono ?_; rintro e w4 ⟨rfl, hf4⟩; have HF4 := hide ((zaa HFC).trans0 hf4); clear hf4))
    go_ret2
    exact ⟨by rw [zaa HA, zaa HCC]; rfl, zaa HF4⟩
  ·have HA := hide (mixV_out (L := rul (zad t 8 0 []).1) (s := s) hin)
   by_cases h0 : n < 0
   ·clear hin hnc hsx
    go_enter Tryz.func33, Tryz.ntmps33
    go_wp2_with (first
     | (go_at_call 72; refine (za7 t w ht).mono ?_; rintro e w1 ⟨hf, _, h2⟩; obtain ⟨mb, q, cq, fq, Bs, T, gS, cS, ls, gT, cT, ms, rfl, hv⟩ := h2 r (zaa HT); have HV := hide hv; have HF := hide hf; clear hf h2 hv)
     | (go_at_call 83; refine (r_cores w1 (zaa HV)).mono ?_; rintro e w2 ⟨v, rfl, hC⟩; rw [zaa HNC]; have HFC := hide ((zaa HF).trans0 hC.fr); clear hC))
    go_ret2
    exact ⟨by rw [zaa HA]; rfl, zaa HFC⟩
   ·have hge : (nc : Int) ≤ n := by rw [← hnc]; omega
    clear hin hnc hsx
    go_enter Tryz.func33, Tryz.ntmps33
    go_wp2_with (first
     | (go_at_call 72; refine (za7 t w ht).mono ?_; rintro e w1 ⟨hf, _, h2⟩; obtain ⟨mb, q, cq, fq, Bs, T, gS, cS, ls, gT, cT, ms, rfl, hv⟩ := h2 r (zaa HT); have HV := hide hv; have HF := hide hf; clear hf h2 hv)
     | (go_at_call 83; refine (r_cores w1 (zaa HV)).mono ?_; rintro e w2 ⟨v, rfl, hC⟩; rw [zaa HNC]; have HFC := hide ((zaa HF).trans0 hC.fr); clear hC))
    go_ret2
    exact ⟨by rw [zaa HA]; rfl, zaa HFC⟩
set_option maxRecDepth 100000 in
set_option maxHeartbeats 2000000 in
theorem r_ClassV (t : ByteArray) (w : World) (ht : t.size ≤ 9223372036854775807) :
 Calls Tryz.prog 35 #[.string t] w fun e w' => e = .returned (.tuple #[.int .i64 ((classV (rul (zad t 8 0 []).1) (tabR t)).1 : Nat), .int .i64 ((classV (rul (zad t 8 0 []).1) (tabR t)).2 : Nat)]) ∧ Fr [] w w' := by
 cases htab : tabR t with
 | inl x =>
  have HT := hide htab
  clear htab
  go_enter Tryz.func35, Tryz.ntmps35
  go_wp2_with (go_at_call 72; refine (za7 t w ht).mono ?_; rintro e w1 ⟨hf, h1, _⟩; obtain ⟨rfl, hx⟩ := h1 x (zaa HT); have hxb : ((x : Int) != 0) = true := (by rw [bne_iff_ne]; omega); have HF := hide hf; clear hf h1)
  go_ret2
  exact ⟨rfl, zaa HF⟩
 | inr r =>
  have HT := hide htab
  clear htab
  go_enter Tryz.func35, Tryz.ntmps35
  go_wp2_with (first
   | (go_at_call 72; refine (za7 t w ht).mono ?_; rintro e w1 ⟨hf, _, h2⟩; obtain ⟨mb, q, cq, fq, Bs, T, gS, cS, ls, gT, cT, ms, rfl, hv⟩ := h2 r (zaa HT); have HV := hide hv; have HF := hide hf; clear hf h2 hv)
   | (go_at_call 88; refine (r_class w1 (zaa HV)).mono ?_; rintro e w2 ⟨rfl, hf2⟩; have HF2 := hide ((zaa HF).trans0 hf2); clear hf2))
  go_ret2
  exact ⟨rfl, zaa HF2⟩
end Go.Proofs.YtkglggkkbmmjkabGreatDoor
namespace Go.Proofs.YtkglggkkbmmjkabGreatDoor
open Go.RowKit
set_option maxHeartbeats 1600000 in
theorem l_tables_States (n : Int) (g s : ByteArray) (w : World) (hg : g.size ≤ 9223372036854775807) :
 Calls Tryz.prog 10 #[.agg #[.int .i64 5, .int .i64 n, .string g, .string s]] w fun e w' => e = .returned (.bool true) ∧ Fr [] w w' := by
 go_enter Tryz.func10, Tryz.ntmps10
 go_wp2_with (first
  | (go_at_call 24; refine (p_StatesV g _ hg).mono ?_; rintro e w1 ⟨rfl, hf1⟩; have HO1 := hide (show OpAt w1 w.heap.size g s from OpAt.fr (by exact ⟨by simp, by simp, by simp⟩) hf1); have k2 := (zaa HO1).2.1; have k3 := (zaa HO1).2.2; have HF1 := hide (((Fr.refl [] w).alloc _).trans0 hf1); clear hf1)
  | (go_at_call 25; refine (r_StatesV g _ hg).mono ?_; rintro e w2 ⟨rfl, hf2⟩; have HF2 := hide ((zaa HF1).trans0 hf2); clear hf2)
  | (go_at_call 8; refine (l_num _ _).mono ?_; rintro e w3 ⟨rfl, rfl⟩))
 go_ret
 exact ⟨by simp, zaa HF2⟩
set_option maxHeartbeats 1600000 in
theorem l_tables_Step (n : Int) (g s : ByteArray) (w : World) (hg : g.size ≤ 9223372036854775807) :
 Calls Tryz.prog 10 #[.agg #[.int .i64 6, .int .i64 n, .string g, .string s]] w fun e w' => e = .returned (.bool true) ∧ Fr [] w w' := by
 go_enter Tryz.func10, Tryz.ntmps10
 go_wp2_with (first
  | (go_at_call 26; refine (p_StepV g n s _ hg).mono ?_; rintro e w1 ⟨rfl, hf1⟩; have k1 := hf1.cell0 (by exact (show (w.alloc (.cells #[.int .i64 6, .int .i64 n, .string g, .string s] 26)).cell? ⟨w.heap.size, 1, none⟩ = some (.int .i64 n) from by simp)); have HO1 := hide (show OpAt w1 w.heap.size g s from OpAt.fr (by exact ⟨by simp, by simp, by simp⟩) hf1); have k2 := (zaa HO1).2.1; have k3 := (zaa HO1).2.2; have HF1 := hide (((Fr.refl [] w).alloc _).trans0 hf1); clear hf1)
  | (go_at_call 27; refine (r_StepV g n s _ hg).mono ?_; rintro e w2 ⟨rfl, hf2⟩; have HF2 := hide ((zaa HF1).trans0 hf2); clear hf2)
  | (go_at_call 8; refine (l_num _ _).mono ?_; rintro e w3 ⟨rfl, rfl⟩))
 go_ret
 exact ⟨by simp, zaa HF2⟩
set_option maxHeartbeats 1600000 in
theorem l_tables_Acts (n : Int) (g s : ByteArray) (w : World) (hg : g.size ≤ 9223372036854775807) :
 Calls Tryz.prog 10 #[.agg #[.int .i64 7, .int .i64 n, .string g, .string s]] w fun e w' => e = .returned (.bool true) ∧ Fr [] w w' := by
 go_enter Tryz.func10, Tryz.ntmps10
 go_wp2_with (first
  | (go_at_call 28; refine (p_ActsV g n s _ hg).mono ?_; rintro e w1 ⟨rfl, hf1⟩; have k1 := hf1.cell0 (by exact (show (w.alloc (.cells #[.int .i64 7, .int .i64 n, .string g, .string s] 26)).cell? ⟨w.heap.size, 1, none⟩ = some (.int .i64 n) from by simp)); have HO1 := hide (show OpAt w1 w.heap.size g s from OpAt.fr (by exact ⟨by simp, by simp, by simp⟩) hf1); have k2 := (zaa HO1).2.1; have k3 := (zaa HO1).2.2; have HF1 := hide (((Fr.refl [] w).alloc _).trans0 hf1); clear hf1)
  | (go_at_call 29; refine (r_ActsV g n s _ hg).mono ?_; rintro e w2 ⟨rfl, hf2⟩; have HF2 := hide ((zaa HF1).trans0 hf2); clear hf2)
  | (go_at_call 8; refine (l_num _ _).mono ?_; rintro e w3 ⟨rfl, rfl⟩))
 go_ret
 exact ⟨by simp, zaa HF2⟩
set_option maxHeartbeats 400000 in
theorem l_plays_tables (k n : Int) (g s : ByteArray) (w : World) (h : k = 5 ∨ k = 6 ∨ k = 7) (hg : g.size ≤ 9223372036854775807) :
 Calls Tryz.prog 5 #[.agg #[.int .i64 k, .int .i64 n, .string g, .string s]] w fun e w' => e = .returned (.bool true) ∧ Fr [] w w' := by
 rcases h with rfl | rfl | rfl
 ·go_enter Tryz.func5, Tryz.ntmps5
  go_wp2_with (go_at_call 10; refine (l_tables_States n g s _ hg).mono ?_; rintro e w1 ⟨rfl, hf1⟩; have HF1 := hide (((Fr.refl [] w).alloc _).trans0 hf1); clear hf1)
  go_ret
  exact ⟨rfl, zaa HF1⟩
 ·go_enter Tryz.func5, Tryz.ntmps5
  go_wp2_with (go_at_call 10; refine (l_tables_Step n g s _ hg).mono ?_; rintro e w1 ⟨rfl, hf1⟩; have HF1 := hide (((Fr.refl [] w).alloc _).trans0 hf1); clear hf1)
  go_ret
  exact ⟨rfl, zaa HF1⟩
 ·go_enter Tryz.func5, Tryz.ntmps5
  go_wp2_with (go_at_call 10; refine (l_tables_Acts n g s _ hg).mono ?_; rintro e w1 ⟨rfl, hf1⟩; have HF1 := hide (((Fr.refl [] w).alloc _).trans0 hf1); clear hf1)
  go_ret
  exact ⟨rfl, zaa HF1⟩
theorem plays_tables : PlaysOk 5 7 := fun k n g s w h1 h2 hg _ => l_plays_tables k n g s w (by omega) hg
end Go.Proofs.YtkglggkkbmmjkabGreatDoor
namespace Go.Proofs.YtkglggkkbmmjkabGreatDoor
open Go.RowKit
set_option maxHeartbeats 1600000 in
theorem l_merged_Core (n : Int) (g s : ByteArray) (w : World) (hg : g.size ≤ 9223372036854775807) :
 Calls Tryz.prog 11 #[.agg #[.int .i64 8, .int .i64 n, .string g, .string s]] w fun e w' => e = .returned (.bool true) ∧ Fr [] w w' := by
 go_enter Tryz.func11, Tryz.ntmps11
 go_wp2_with (first
  | (go_at_call 30; refine (p_CoreV g n _ hg).mono ?_; rintro e w1 ⟨rfl, hf1⟩; have k1 := hf1.cell0 (by exact (show (w.alloc (.cells #[.int .i64 8, .int .i64 n, .string g, .string s] 26)).cell? ⟨w.heap.size, 1, none⟩ = some (.int .i64 n) from by simp)); have HO1 := hide (show OpAt w1 w.heap.size g s from OpAt.fr (by exact ⟨by simp, by simp, by simp⟩) hf1); have k2 := (zaa HO1).2.1; have k3 := (zaa HO1).2.2; have HF1 := hide (((Fr.refl [] w).alloc _).trans0 hf1); clear hf1)
  | (go_at_call 31; refine (r_CoreV g n _ hg).mono ?_; rintro e w2 ⟨rfl, hf2⟩; have HF2 := hide ((zaa HF1).trans0 hf2); clear hf2)
  | (go_at_call 8; refine (l_num _ _).mono ?_; rintro e w3 ⟨rfl, rfl⟩))
 go_ret
 exact ⟨by simp, zaa HF2⟩
set_option maxHeartbeats 1600000 in
theorem l_merged_Mix (n : Int) (g s : ByteArray) (w : World) (hg : g.size ≤ 9223372036854775807) :
 Calls Tryz.prog 11 #[.agg #[.int .i64 9, .int .i64 n, .string g, .string s]] w fun e w' => e = .returned (.bool true) ∧ Fr [] w w' := by
 go_enter Tryz.func11, Tryz.ntmps11
 go_wp2_with (first
  | (go_at_call 32; refine (p_MixV g n s _ hg).mono ?_; rintro e w1 ⟨rfl, hf1⟩; have k1 := hf1.cell0 (by exact (show (w.alloc (.cells #[.int .i64 9, .int .i64 n, .string g, .string s] 26)).cell? ⟨w.heap.size, 1, none⟩ = some (.int .i64 n) from by simp)); have HO1 := hide (show OpAt w1 w.heap.size g s from OpAt.fr (by exact ⟨by simp, by simp, by simp⟩) hf1); have k2 := (zaa HO1).2.1; have k3 := (zaa HO1).2.2; have HF1 := hide (((Fr.refl [] w).alloc _).trans0 hf1); clear hf1)
  | (go_at_call 33; refine (r_MixV g n s _ hg).mono ?_; rintro e w2 ⟨rfl, hf2⟩; have HF2 := hide ((zaa HF1).trans0 hf2); clear hf2)
  | (go_at_call 8; refine (l_num _ _).mono ?_; rintro e w3 ⟨rfl, rfl⟩))
 go_ret
 exact ⟨by simp, zaa HF2⟩
set_option maxHeartbeats 1600000 in
theorem l_merged_Class (n : Int) (g s : ByteArray) (w : World) (hg : g.size ≤ 9223372036854775807) :
 Calls Tryz.prog 11 #[.agg #[.int .i64 10, .int .i64 n, .string g, .string s]] w fun e w' => e = .returned (.bool true) ∧ Fr [] w w' := by
 go_enter Tryz.func11, Tryz.ntmps11
 go_wp2_with (first
  | (go_at_call 34; refine (p_ClassV g _ hg).mono ?_; rintro e w1 ⟨rfl, hf1⟩; have HO1 := hide (show OpAt w1 w.heap.size g s from OpAt.fr (by exact ⟨by simp, by simp, by simp⟩) hf1); have k2 := (zaa HO1).2.1; have k3 := (zaa HO1).2.2; have HF1 := hide (((Fr.refl [] w).alloc _).trans0 hf1); clear hf1)
  | (go_at_call 35; refine (r_ClassV g _ hg).mono ?_; rintro e w2 ⟨rfl, hf2⟩; have HF2 := hide ((zaa HF1).trans0 hf2); clear hf2)
  | (go_at_call 8; refine (l_num _ _).mono ?_; rintro e w3 ⟨rfl, rfl⟩))
 go_ret
 exact ⟨by simp, zaa HF2⟩
set_option maxHeartbeats 400000 in
theorem l_plays_merged (k n : Int) (g s : ByteArray) (w : World) (h : k = 8 ∨ k = 9 ∨ k = 10) (hg : g.size ≤ 9223372036854775807) :
 Calls Tryz.prog 5 #[.agg #[.int .i64 k, .int .i64 n, .string g, .string s]] w fun e w' => e = .returned (.bool true) ∧ Fr [] w w' := by
 rcases h with rfl | rfl | rfl
 ·go_enter Tryz.func5, Tryz.ntmps5
  go_wp2_with (go_at_call 11; refine (l_merged_Core n g s _ hg).mono ?_; rintro e w1 ⟨rfl, hf1⟩; have HF1 := hide (((Fr.refl [] w).alloc _).trans0 hf1); clear hf1)
  go_ret
  exact ⟨rfl, zaa HF1⟩
 ·go_enter Tryz.func5, Tryz.ntmps5
  go_wp2_with (go_at_call 11; refine (l_merged_Mix n g s _ hg).mono ?_; rintro e w1 ⟨rfl, hf1⟩; have HF1 := hide (((Fr.refl [] w).alloc _).trans0 hf1); clear hf1)
  go_ret
  exact ⟨rfl, zaa HF1⟩
 ·go_enter Tryz.func5, Tryz.ntmps5
  go_wp2_with (go_at_call 11; refine (l_merged_Class n g s _ hg).mono ?_; rintro e w1 ⟨rfl, hf1⟩; have HF1 := hide (((Fr.refl [] w).alloc _).trans0 hf1); clear hf1)
  go_ret
  exact ⟨rfl, zaa HF1⟩
theorem plays_cores : PlaysOk 8 9 := fun k n g s w h1 h2 hg _ => l_plays_merged k n g s w (by omega) hg
theorem plays_classes : PlaysOk 10 10 := fun k n g s w h1 h2 hg _ => l_plays_merged k n g s w (by omega) hg
end Go.Proofs.YtkglggkkbmmjkabGreatDoor
namespace Go.Proofs.YtkglggkkbmmjkabGreatDoor
open Go.RowKit
set_option maxHeartbeats 1600000 in
theorem l_plays_Tree (n : Int) (g s : ByteArray) (w : World) (hg : g.size ≤ 9223372036854775807) (hs : s.size ≤ 9223372036854775807) :
 Calls Tryz.prog 5 #[.agg #[.int .i64 11, .int .i64 n, .string g, .string s]] w fun e w' => e = .returned (.bool true) ∧ Fr [] w w' := by
 go_enter Tryz.func5, Tryz.ntmps5
 go_wp2_with (first
  | (go_at_call 12; refine (p_Tree g s _ hg hs).mono ?_; rintro e w1 ⟨hf1, y, x, rfl, hO⟩; have HO := hide hO; have HO1 := hide (show OpAt w1 w.heap.size g s from OpAt.fr (by exact ⟨by simp, by simp, by simp⟩) hf1); have k2 := (zaa HO1).2.1; have k3 := (zaa HO1).2.2; have HF1 := hide (((Fr.refl [] w).alloc _).trans0 hf1); clear hf1 hO)
  | (go_at_call 13; refine (r_Tree g s _ hg hs).mono ?_; rintro e w2 ⟨hf2, y2, x2, rfl, hO2⟩; obtain ⟨rfl, rfl⟩ := (zaa HO).uniq hO2; have HF2 := hide ((zaa HF1).trans0 hf2); clear hf2 hO2)
  | (go_at_call 8; refine (l_num _ _).mono ?_; rintro e w3 ⟨rfl, rfl⟩))
 go_ret
 exact ⟨by simp, zaa HF2⟩
theorem plays_trees : PlaysOk 11 11 := fun k n g s w h1 h2 hg hs => by
 obtain rfl : k = 11 := by omega
 exact l_plays_Tree n g s w hg hs
end Go.Proofs.YtkglggkkbmmjkabGreatDoor
namespace Go.Proofs.YtkglggkkbmmjkabGreatDoor
open Go.RowKit
set_option maxHeartbeats 1600000 in
theorem l_plays_Stop (n : Int) (g s : ByteArray) (w : World) (hg : g.size ≤ 9223372036854775807) (hs : s.size ≤ 9223372036854775807) :
 Calls Tryz.prog 5 #[.agg #[.int .i64 12, .int .i64 n, .string g, .string s]] w fun e w' => e = .returned (.bool true) ∧ Fr [] w w' := by
 go_enter Tryz.func5, Tryz.ntmps5
 go_wp2_with (first
  | (go_at_call 14; refine (p_Stop g s _ hg hs).mono ?_; rintro e w1 ⟨hf1, m, y, x, rfl, hO⟩; have HO := hide hO; have HO1 := hide (show OpAt w1 w.heap.size g s from OpAt.fr (by exact ⟨by simp, by simp, by simp⟩) hf1); have k2 := (zaa HO1).2.1; have k3 := (zaa HO1).2.2; have HF1 := hide (((Fr.refl [] w).alloc _).trans0 hf1); clear hf1 hO)
  | (go_at_call 15; refine (r_Stop g s _ hg hs).mono ?_; rintro e w2 ⟨hf2, m2, y2, x2, rfl, hO2⟩; obtain ⟨rfl, rfl, rfl⟩ := (zaa HO).uniq hO2; have HF2 := hide ((zaa HF1).trans0 hf2); clear hf2 hO2)
  | (go_at_call 8; refine (l_num _ _).mono ?_; rintro e w3 ⟨rfl, rfl⟩))
 go_ret
 exact ⟨by simp, zaa HF2⟩
theorem plays_stops : PlaysOk 12 12 := fun k n g s w h1 h2 hg hs => by
 obtain rfl : k = 12 := by omega
 exact l_plays_Stop n g s w hg hs
end Go.Proofs.YtkglggkkbmmjkabGreatDoor
