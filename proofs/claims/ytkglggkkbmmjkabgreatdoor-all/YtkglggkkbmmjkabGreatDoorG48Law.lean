import Derived.Test.YtkglggkkbmmjkabGreatDoorG47PRdT
import Derived.OwnWalk
import Derived.Test.YtkglggkkbmmjkabGreatDoorG6Script
import Derived.Test.YtkglggkkbmmjkabGreatDoorG9Same
namespace Go.Proofs.YtkglggkkbmmjkabGreatDoor
open Go.RowKit
theorem SI.form {L : List Ru} {N : Nat → Bool} {T : Nat → Nat → Bool} {r : Tb} {st : Stk} {u : List Nat} (h : SI L N T r st u) : ∃ s x st0, st = (s, x) :: st0 := by
 cases h with
 | base => exact ⟨_, _, _, rfl⟩
 | push => exact ⟨_, _, _, rfl⟩
structure Rdy (t s : ByteArray) (w w4 : World) (tb rb : Nat) (S : List Sd) (c : Nat) (M : List (List (Nat × Nat))) (base : Nat) (v : Value) : Prop where
 e0 : errT t s = 0
 fr : Fr [] w w4
 le : w.heap.size ≤ rb
 is_ : TIs t S M
 blk : Blk w4 rb 2 zRd
 tab : TbR w4 tb base (plT t) v S c 0
 tlt : tb < rb
 vlt : ∀ g, v.ownBlock = some g → g < rb
theorem rdy_of {t s : ByteArray} {w w1 w2 w3 w4 : World} {f z : Nat → Value} (h : RftO t s w w1 f) (h0 : errT t s = 0) (hf2 : Fr [] w1 w2) (hs2 : w2.heap.size = w1.heap.size + 1) (hf3 : Fr [w1.heap.size] w2 w3) (hB3 : Blk w3 w1.heap.size 1362 (lay z 0 1362 f)) (hf4 : Fr [] w3 w4) (hB4 : Blk w4 w3.heap.size 2 zRd) :
 ∃ S c M base v, Rdy t s w w4 w1.heap.size w3.heap.size S c M base v := by
 obtain ⟨h1, h2, h3, h4⟩ := h
 obtain ⟨S, c, M, base, ao, l, cap, hG, hM, hl, hfi, hrow⟩ := h4 h0
 have s3 := hf3.size
 have hT := zco.lay hfi hrow hf2 hf3 hB3
 refine ⟨S, c, M, base, _, h0, ((h1.trans0 hf2).trans1 hf3 (Or.inr h1.size)).trans0 hf4, by have := h1.size; omega, hM, hB4, hT.fr0 hf4, by omega, fun g hg => by have := (hrow.lt hg).2; omega⟩
set_option maxRecDepth 100000 in
set_option maxHeartbeats 4000000 in
theorem p_Tree (t s : ByteArray) (w : World) (ht : t.size ≤ 9223372036854775807) (hsm : s.size ≤ 9223372036854775807) :
 Calls Tryz.prog 12 #[.string t, .string s] w fun e w' => Fr [] w w' ∧ ∃ (y : ByteArray) (x : Nat), e = .returned (.tuple #[.string y, .int .i64 x]) ∧ TreeO t s y x := by
 obtain ⟨x, hx⟩ : ∃ x, errT t s = x := ⟨_, rfl⟩
 have HE := hide hx
 clear hx
 go_enter Tryz.func12, Tryz.ntmps12
 go_wp2_with (first
  | (go_at_call 36; refine (p_readForText t s w ht hsm).mono ?_; rintro e w1 ⟨f, rfl, hT⟩; have HT := hide hT; have HO := hide hT.2.1; clear hT)
  | (refine zab rfl 79 rfl (some 6) rfl 1362 _ Tryz.zeroTbl ?_; intro w2 hf2 hs2 hB2; have HF2 := hide hf2; have HB2 := hide hB2; have HS2 := hide hs2; clear hf2 hB2 hs2)
  | (refine zac rfl 79 (.tmp 6) (.tmp 13) rfl w1.heap.size 0 1362 1362 zTb f rfl rfl (by exact zaa HB2) Tryz.sizeTbl (by omega) (by exact zaa HO) ?_; intro w3 hf3 hs3 hB3; have HF3 := hide hf3; have HB3 := hide hB3; have HFw := hide (show Fr [] w w3 from ((zaa HT).1.trans0 (zaa HF2)).trans1 hf3 (Or.inr (zaa HT).1.size)); have c6 := (hB3.cell 1361 (by omega)).trans (congrArg some ((zag _ _ _ _ (by omega)).trans ((zaa HT).2.2.1.trans (by rw [zaa HE])))); clear hf3 hB3 hs3)
  | (refine zab rfl 84 rfl (some 7) rfl 2 _ Tryz.zeroRd ?_; intro w4 hf4 hs4 hB4; have HF4 := hide hf4; have HB4 := hide hB4; clear hf4 hB4 hs4))
 ·have hff : ((x : Int) != 0) = true := by assumption
  have hx0 : x ≠ 0 := fun e => by rw [e] at hff; cases hff
  go_quiet (fail)
  go_wp2
  go_ret2
  exact ⟨(zaa HFw).trans0 (zal _ _), ⟨#[]⟩, x, rfl, Or.inl ⟨by rw [zaa HE]; exact hx0, (zaa HE).symm, rfl⟩⟩
 ·have hff : ((x : Int) != 0) = false := by assumption
  have hx0 : x = 0 := by
   have : (x : Int) = 0 := by simpa using hff
   omega
  obtain ⟨S, c, M, base, v, hY⟩ := rdy_of (zaa HT) ((zaa HE).trans hx0) (zaa HF2) (zaa HS2) (zaa HF3) (zaa HB3) (zaa HF4) (zaa HB4)
  clear HT HE HF2 HS2 HF3 HB3 HF4 HB4 HB2 HO HFw c6 hff hx0
  obtain ⟨tb, htb⟩ : ∃ tb, w1.heap.size = tb := ⟨_, rfl⟩
  obtain ⟨rb, hrb⟩ : ∃ rb, w3.heap.size = rb := ⟨_, rfl⟩
  rw [htb] at hY ⊢
  rw [hrb] at hY ⊢
  clear htb hrb
  have HY := hide hY
  obtain ⟨r, hr, hRd, hlen, hsml⟩ := errT_rd hY.e0
  have : r = (mOf S, M) := by rw [hY.is_.tab] at hr; exact (Sum.inr.inj hr).symm
  subst this
  have HRd := hide hRd
  have HSm := hide hsml
  have HP := hide (tabP_of hY.is_)
  have HTb := hide hr
  clear hY hr hRd hsml
  refine (p_start rb tb base (plT t) v S c w4 (by exact (zaa HY).blk) (by exact (zaa HY).tab) (zaa HY).tlt (zaa HY).vlt).mono ?_
  rintro e w5 ⟨rfl, hb5, sv, hR5⟩
  have HF5 := hide ((zaa HY).fr.of_below hb5 (zaa HY).le)
  have HR5 := hide hR5
  clear hb5 hR5
  go_wp2_with fail
  refine (p_takeAll t rb tb base (plT t) v S c sv _ _ _ _ _ _ s w5 (zaa HR5) (zaa HP) (zaa HRd) hlen (zaa HSm)).mono ?_
  rintro e w6 ⟨n, st, sv6, rfl, hrd, hb6, hR6, hSI, hsz⟩
  have HF6 := hide ((zaa HF5).of_below hb6 (zaa HY).le)
  have HK := hide (tkn_of (zaa HY).e0 (zaa HTb) hrd)
  have HR6 := hide hR6
  have HSI := hide hSI
  have HSz := hide hsz
  clear hrd hb6 hR6 hSI hsz HR5 HF5
  by_cases hn : n < s.size
  ·have hli : (n : Int) < s.size := by omega
   go_wp2
   go_ret2
   exact ⟨zaa HF6, ⟨#[]⟩, 9, rfl, (zaa HK).short hn⟩
  ·have hli : ¬ (n : Int) < s.size := by omega
   go_wp2_with fail
   refine (p_settle t rb tb base (plT t) v S c sv6 _ _ _ _ 36 _ _ st _ 60000000 w6 (zaa HR6) (zaa HP) (zaa HRd) (zaa HSI) rfl (zaa HSz) (by omega)).mono ?_
   rintro e w7 ⟨b, st7, sv7, rfl, hset, hb7, hR7, hSI7, hsz7⟩
   have HF7 := hide ((zaa HF6).of_below hb7 (zaa HY).le)
   have HEn := hide ((zaa HK).end_ hn hset)
   have HR7 := hide hR7
   clear hset hb7 hR7 hSI7 hsz7
   cases b
   ·have HTr := hide ((zaa HEn).1 rfl)
    clear HEn
    go_wp2
    go_ret2
    exact ⟨zaa HF7, ⟨#[]⟩, 9, rfl, zaa HTr⟩
   ·obtain ⟨j, y, rfl, hTr⟩ := (zaa HEn).2 rfl
    have HTr := hide hTr
    clear hTr HEn
    go_wp2_with (go_at_call 40; refine (p_last rb tb base (plT t) v S c sv7 (j, y) [(0, [])] w7 (by exact zaa HR7) (by simp)).mono ?_; rintro e w8 ⟨rfl, hf8⟩; have HF8 := hide ((zaa HF7).trans0 hf8); clear hf8)
    go_ret2
    exact ⟨(zaa HF8).alloc _, bstr y, 0, rfl, zaa HTr⟩
set_option maxRecDepth 100000 in
set_option maxHeartbeats 4000000 in
theorem p_Stop (t s : ByteArray) (w : World) (ht : t.size ≤ 9223372036854775807) (hsm : s.size ≤ 9223372036854775807) :
 Calls Tryz.prog 14 #[.string t, .string s] w fun e w' => Fr [] w w' ∧ ∃ (n : Nat) (y : ByteArray) (x : Nat), e = .returned (.tuple #[.int .i64 n, .string y, .int .i64 x]) ∧ StopO t s n y x := by
 obtain ⟨x, hx⟩ : ∃ x, errT t s = x := ⟨_, rfl⟩
 have HE := hide hx
 clear hx
 go_enter Tryz.func14, Tryz.ntmps14
 go_wp2_with (first
  | (go_at_call 36; refine (p_readForText t s w ht hsm).mono ?_; rintro e w1 ⟨f, rfl, hT⟩; have HT := hide hT; have HO := hide hT.2.1; clear hT)
  | (refine zab rfl 79 rfl (some 7) rfl 1362 _ Tryz.zeroTbl ?_; intro w2 hf2 hs2 hB2; have HF2 := hide hf2; have HB2 := hide hB2; have HS2 := hide hs2; clear hf2 hB2 hs2)
  | (refine zac rfl 79 (.tmp 7) (.tmp 13) rfl w1.heap.size 0 1362 1362 zTb f rfl rfl (by exact zaa HB2) Tryz.sizeTbl (by omega) (by exact zaa HO) ?_; intro w3 hf3 hs3 hB3; have HF3 := hide hf3; have HB3 := hide hB3; have HFw := hide (show Fr [] w w3 from ((zaa HT).1.trans0 (zaa HF2)).trans1 hf3 (Or.inr (zaa HT).1.size)); have c6 := (hB3.cell 1361 (by omega)).trans (congrArg some ((zag _ _ _ _ (by omega)).trans ((zaa HT).2.2.1.trans (by rw [zaa HE])))); clear hf3 hB3 hs3)
  | (refine zab rfl 84 rfl (some 8) rfl 2 _ Tryz.zeroRd ?_; intro w4 hf4 hs4 hB4; have HF4 := hide hf4; have HB4 := hide hB4; clear hf4 hB4 hs4))
 ·have hff : ((x : Int) != 0) = true := by assumption
  have hx0 : x ≠ 0 := fun e => by rw [e] at hff; cases hff
  go_quiet (fail)
  go_wp2
  go_ret3
  exact ⟨(zaa HFw).trans0 (zal _ _), 0, ⟨#[]⟩, x, rfl, Or.inl ⟨by rw [zaa HE]; exact hx0, (zaa HE).symm, rfl, rfl⟩⟩
 ·have hff : ((x : Int) != 0) = false := by assumption
  have hx0 : x = 0 := by
   have : (x : Int) = 0 := by simpa using hff
   omega
  obtain ⟨S, c, M, base, v, hY⟩ := rdy_of (zaa HT) ((zaa HE).trans hx0) (zaa HF2) (zaa HS2) (zaa HF3) (zaa HB3) (zaa HF4) (zaa HB4)
  clear HT HE HF2 HS2 HF3 HB3 HF4 HB4 HB2 HO HFw c6 hff hx0
  obtain ⟨tb, htb⟩ : ∃ tb, w1.heap.size = tb := ⟨_, rfl⟩
  obtain ⟨rb, hrb⟩ : ∃ rb, w3.heap.size = rb := ⟨_, rfl⟩
  rw [htb] at hY ⊢
  rw [hrb] at hY ⊢
  clear htb hrb
  have HY := hide hY
  obtain ⟨r, hr, hRd, hlen, hsml⟩ := errT_rd hY.e0
  have : r = (mOf S, M) := by rw [hY.is_.tab] at hr; exact (Sum.inr.inj hr).symm
  subst this
  have HRd := hide hRd
  have HSm := hide hsml
  have HP := hide (tabP_of hY.is_)
  have HTb := hide hr
  clear hY hr hRd hsml
  refine (p_start rb tb base (plT t) v S c w4 (by exact (zaa HY).blk) (by exact (zaa HY).tab) (zaa HY).tlt (zaa HY).vlt).mono ?_
  rintro e w5 ⟨rfl, hb5, sv, hR5⟩
  have HF5 := hide ((zaa HY).fr.of_below hb5 (zaa HY).le)
  have HR5 := hide hR5
  clear hb5 hR5
  go_wp2_with fail
  refine (p_takeAll t rb tb base (plT t) v S c sv _ _ _ _ _ _ s w5 (zaa HR5) (zaa HP) (zaa HRd) hlen (zaa HSm)).mono ?_
  rintro e w6 ⟨n, st, sv6, rfl, hrd, hb6, hR6, hSI, hsz⟩
  have HF6 := hide ((zaa HF5).of_below hb6 (zaa HY).le)
  have HK := hide ((tkn_of (zaa HY).e0 (zaa HTb) hrd).stop)
  obtain ⟨k, y, st0, rfl⟩ := hSI.form
  have hkl : k < S.length := by rw [(zaa HP).len]; exact hSI.lt (zaa HRd).tab.pos
  have hst : st0.length ≤ 90000000 := by rw [List.length_cons] at hsz; omega
  have HR6 := hide hR6
  clear hrd hb6 hR6 hSI hsz HR5 HF5
  go_wp2_with (first
   | (go_at_call 44; refine (p_signsAhead t rb tb base (plT t) v S c sv6 _ _ k y st0 w6 (by exact zaa HR6) (zaa HP) hkl hst).mono ?_; rintro e w7 ⟨rfl, hf7⟩; have HF7 := hide ((zaa HF6).trans0 hf7); clear hf7)
   | (refine zab rfl 48 rfl (some 10) rfl 27 _ Tryz.zeroSign ?_; intro w8 hf8 hs8 hB8; have HF8 := hide ((zaa HF7).trans0 hf8); have HB8 := hide hB8; clear hf8 hs8 hB8)
   | (refine zac rfl 48 (.tmp 10) (.tmp 22) rfl w7.heap.size 0 27 27 (sgF fun _ => false) (sgF (upS (zcg (rul (zad t 8 0 []).1) (mOf S, M) k) 27)) rfl rfl (by exact zaa HB8) Tryz.sizeSign (by omega) (fun _ _ => rfl) ?_; intro w9 hf9 hs9 hB9; have HF9 := hide ((zaa HF8).trans1 hf9 (Or.inr (zaa HF7).size)); have HB9 := hide (show Blk w9 w7.heap.size 27 (sgF (upS (zcg (rul (zad t 8 0 []).1) (mOf S, M) k) 27)) from hB9.congr fun i hi => zag _ _ _ i hi); clear hf9 hs9 hB9)
   | (go_at_call 45; refine (p_list w7.heap.size _ w9 (by exact zaa HB9)).mono ?_; rintro e w10 ⟨rfl, hf10⟩; have HF10 := hide ((zaa HF9).trans0 hf10); clear hf10))
  go_ret3
  exact ⟨zaa HF10, n, _, 0, rfl, zaa HK⟩
end Go.Proofs.YtkglggkkbmmjkabGreatDoor
namespace Go.Proofs.YtkglggkkbmmjkabGreatDoor
open Go.RowKit
def OpAt (w : World) (b : Nat) (g s : ByteArray) : Prop := b < w.heap.size ∧ w.cell? ⟨b, 2, none⟩ = some (.string g) ∧ w.cell? ⟨b, 3, none⟩ = some (.string s)
theorem OpAt.fr {w w' : World} {b : Nat} {g s : ByteArray} (h : OpAt w b g s) (k : Fr [] w w') : OpAt w' b g s :=
 ⟨Nat.lt_of_lt_of_le h.1 k.size, by rw [World.cell?_of_block (k.block b h.1 (by simp))]; exact h.2.1, by rw [World.cell?_of_block (k.block b h.1 (by simp))]; exact h.2.2⟩
end Go.Proofs.YtkglggkkbmmjkabGreatDoor
namespace Go.Proofs.YtkglggkkbmmjkabGreatDoor
open Go.RowKit
set_option maxHeartbeats 1000000 in
theorem l_plays_check (n : Int) (g s : ByteArray) (w : World) (hg : g.size ≤ 9223372036854775807) :
 Calls Tryz.prog 5 #[.agg #[.int .i64 1, .int .i64 n, .string g, .string s]] w fun e w' => e = .returned (.bool true) ∧ Fr [] w w' := by
 have HE := hide (gErr_eq g)
 go_enter Tryz.func5, Tryz.ntmps5
 go_wp2_with (first | (go_at_call 6; refine (p_Check g _ hg).mono ?_; rintro e w1 ⟨rfl, hf1⟩; have HF1 := hide ((((Fr.refl [] w).alloc _)).trans0 hf1); have k2 : w1.cell? ⟨w.heap.size, 2, none⟩ = some (.string g) := by (rw [World.cell?_of_block (hf1.block w.heap.size (by simp) (by simp))]; simp)) | (go_at_call 7; refine (r_Check g _ hg).mono ?_; rintro e w2 ⟨rfl, hf2⟩; rw [← zaa HE]; have HF2 := hide ((zaa HF1).trans0 hf2); clear hf1 hf2) | (go_at_call 8; refine (l_num _ _).mono ?_; rintro e w3 ⟨rfl, rfl⟩))
 go_ret
 exact ⟨by simp, zaa HF2⟩
end Go.Proofs.YtkglggkkbmmjkabGreatDoor
namespace Go.Proofs.YtkglggkkbmmjkabGreatDoor
open Go.RowKit
def PlaysOk (lo hi : Int) : Prop := ∀ (k n : Int) (g s : ByteArray) (w : World), lo ≤ k → k ≤ hi → g.size ≤ 9223372036854775807 → s.size ≤ 9223372036854775807 →
 Calls Tryz.prog 5 #[.agg #[.int .i64 k, .int .i64 n, .string g, .string s]] w fun e w' => e = .returned (.bool true) ∧ Fr [] w w'
set_option maxRecDepth 100000 in
set_option maxHeartbeats 1600000 in
theorem l_UpTo (lo top : Int) (hp : PlaysOk lo top) (ao : Option Addr) (len cap : Nat) (w : World) (h : ScriptOk w ao len) :
 Calls Tryz.prog 4 #[.slice ao len cap, .int .i64 lo, .int .i64 top] w fun e w' => e = .returned (.int .i64 (-1)) ∧ Fr [] w w' := by
 have H := hide h
 have HP := hide hp
 have hlen := h.1
 clear h hp
 go_enter Tryz.func4, Tryz.ntmps4
 go_wp2
 go_loopw [7] (fun a wr => ∃ i : Nat, i ≤ len ∧ a = .int .i64 i ∧ Hid (Fr [] w wr)) (fun a _ => len - (intOf a).toNat)
 case atStart => exact ⟨0, by omega, rfl, Fr.refl _ _⟩
 case round =>
  obtain ⟨i, hi, rfl, hf⟩ := hrel
  by_cases hlt : i < len
  ·obtain ⟨b, off, rfl, hb, k, n, g, s, hg, hs, c0, c1, c2, c3⟩ := ((zaa H).fr (zaa hf)).2 i hlt
   have HF1 := hide ((zaa hf).alloc (.cells #[.int .i64 k, .int .i64 n, .string g, .string s] 26))
   have hbig : (i : Int) < 1152921504606846976 := by omega
   by_cases h1 : lo ≤ k
   ·by_cases h2 : k ≤ top
    ·go_wp2_with (go_at_call 5; refine (zaa HP k n g s _ h1 h2 hg hs).mono ?_; rintro e w2 ⟨rfl, hf2⟩; have HF2 := hide ((zaa HF1).trans0 hf2); clear hf2)
     go_roundw
     case rel => exact ⟨i + 1, by omega, by go_num, HF2⟩
     case measure => simp [intOf]; omega
    ·go_wp2
     go_roundw
     case rel => exact ⟨i + 1, by omega, by go_num, HF1⟩
     case measure => simp [intOf]; omega
   ·go_wp2
    go_roundw
    case rel => exact ⟨i + 1, by omega, by go_num, HF1⟩
    case measure => simp [intOf]; omega
  ·go_wp2
   go_ret
   exact ⟨rfl, zaa hf⟩
theorem plays_check : PlaysOk 1 1 := fun k n g s w h1 h2 hg _ => by
 obtain rfl : k = 1 := by omega
 exact l_plays_check n g s w hg
end Go.Proofs.YtkglggkkbmmjkabGreatDoor
