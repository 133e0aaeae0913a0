import Derived.Test.YtkglggkkbmmjkaaDoorE36TxDef
import Derived.Test.YtkglggkkbmmjkaaDoorE38RowC
import Derived.Test.YtkglggkkbmmjkaaDoorE44PTx
import Derived.OwnWalk
import Derived.Test.YtkglggkkbmmjkaaDoorE8Scr
import Derived.Test.YtkglggkkbmmjkaaDoorE37LSp4
import Derived.Test.YtkglggkkbmmjkaaDoorCards
import Derived.Test.YtkglggkkbmmjkaaDoorTie
import Derived.Test.YtkglggkkbmmjkaaDoorE0Model
import Derived.ProofKit
import Derived.LaidMore
import Derived.OpenShut
import Derived.Stop.Joined
namespace Go.Proofs.YtkglggkkbmmjkaaDoor
open Go.RowKit

structure Drv (t s : ByteArray) (r : Tb) : Prop where
  e0 : errT t s = 0
  hr : tabR t = .inr r
  rd : Rd (rul (parse t 8 0 []).1) (nullS (parse t 8 0 []).1) (firstT (parse t 8 0 []).1) r (stOf (parse t 8 0 []).1) 1048576
  len : s.size ≤ 12
  sm : ∀ c ∈ bytes s, smallB c = true
theorem drv_of {t s : ByteArray} (h : errT t s = 0) : ∃ r, Drv t s r := by
  obtain ⟨r, h1, h2, h3, h4⟩ := errT_rd h
  exact ⟨r, h, h1, h2, h3, h4⟩
theorem Drv.gerr {t s : ByteArray} {r : Tb} (h : Drv t s r) : (gErr t).1 = 0 := (tabR_len h.hr).1
theorem Drv.uq {t s : ByteArray} {r : Tb} (h : Drv t s r) : Uq (rul (parse t 8 0 []).1) (stOf (parse t 8 0 []).1) := fun _ _ _ _ _ h1 h2 => (ds_uniq h.rd.tab h.rd.nocl h.rd.st0 h1 h2).2
theorem Drv.sz {t s : ByteArray} {r : Tb} (h : Drv t s r) : GrSz (rul (parse t 8 0 []).1) := by
  obtain ⟨a, b⟩ := gErr_zero h.gerr
  exact gr_sz t a b
theorem Drv.all {t s : ByteArray} {r : Tb} (h : Drv t s r) : ∀ k, 1 ≤ k → k < (rul (parse t 8 0 []).1).length → ∃ w x n, Ds (rul (parse t 8 0 []).1) (bytes (rget (rul (parse t 8 0 []).1) k).R) w x n := fun _ _ hk => list_some _ (fun _ hc => let_all h.gerr hk hc)
end Go.Proofs.YtkglggkkbmmjkaaDoor

namespace Go.Proofs.YtkglggkkbmmjkaaDoor
open Go.RowKit

def zRd : Nat → Value := fun i => if i = 0 then .pointer none else .slice none 0 0
theorem Tryd.zeroRd : (Tryd.prog.info? 62).bind (·.zero) = some (Agg 2 zRd) := by kernel_rfl
theorem row_none (w : World) (base e size : Nat) : w.ownsRow base e size (.slice none 0 0) 0 [] := ⟨by simp, Or.inl ⟨rfl, rfl⟩⟩

set_option maxRecDepth 100000 in
set_option maxHeartbeats 1000000 in
/-- reading.start -/
theorem p_start (rb tb base : Nat) (p : Pl) (v : Value) (S : List Sd) (cores : Nat) (w : World) (hB : Blk w rb 2 zRd) (hT : TbR w tb base p v S cores 0) (tlt : tb < rb) (vlt : ∀ g, v.ownBlock = some g → g < rb) :
    Calls Tryd.prog 18 #[.pointer (some ⟨rb, 0, none⟩), .pointer (some ⟨tb, 0, none⟩)] w fun e w' => e = .returned (.tuple #[]) ∧ Below rb w w' ∧ ∃ sv', RdS w' rb tb base p v S cores sv' [(0, [])] := by
  have c0 := hB.cell 0 (by omega)
  have z0 := hB.free 0
  have hbel : Below rb w (w.setCell ⟨rb, 0, none⟩ (.pointer (some ⟨tb, 0, none⟩))) := (Below.refl rb w).setCell (by simp) _
  have HB := hide hbel
  have HR := hide (show RdS (w.setCell ⟨rb, 0, none⟩ (.pointer (some ⟨tb, 0, none⟩))) rb tb base p v S cores (.slice none 0 0) [] from
    ⟨(hB.setCell 0 _).congr fun i hi => by unfold upd zRd rdF; split <;> rfl, row_none _ _ _ _, hT.below hbel tlt vlt, tlt, vlt⟩)
  clear hB hT hbel tlt vlt
  go_enter Tryd.func18, Tryd.ntmps18
  go_wp2_with (go_at_call 34; refine (p_pushS rb tb base p v S cores (.slice none 0 0) [] 0 [] _ (by exact unhide HR) (by simp)).mono ?_; rintro e w2 ⟨rfl, hb2, sv', hR2⟩; have HB2 := hide hb2; have HR2 := hide hR2; clear hb2 hR2)
  go_end0
  exact ⟨rfl, (unhide HB).trans (unhide HB2), sv', unhide HR2⟩
end Go.Proofs.YtkglggkkbmmjkaaDoor

namespace Go.Proofs.YtkglggkkbmmjkaaDoor
open Go.RowKit

theorem SI.form {L : List Ru} {N : Nat → Bool} {T : Nat → Nat → Bool} {r : Tb} {st : Stk} {u : List Nat} (h : SI L N T r st u) : ∃ s x st0, st = (s, x) :: st0 := by
  cases h with
  | base => exact ⟨_, _, _, rfl⟩
  | push => exact ⟨_, _, _, rfl⟩
/-- the table that readForText has made, laid into a variable, and the reading beside it -/
structure Rdy (t s : ByteArray) (w w4 : World) (tb rb : Nat) (S : List Sd) (c : Nat) (M : List (List (Nat × Nat))) (base : Nat) (v : Value) : Prop where
  e0 : errT t s = 0
  fr : Fr [] w w4
  le : w.heap.size ≤ rb
  is_ : TIs t S M
  blk : Blk w4 rb 2 zRd
  tab : TbR w4 tb base (plT t) v S c 0
  tlt : tb < rb
  vlt : ∀ g, v.ownBlock = some g → g < rb
theorem rdy_of {t s : ByteArray} {w w1 w2 w3 w4 : World} {f z : Nat → Value} (h : RftO t s w w1 f) (h0 : errT t s = 0) (hf2 : Fr [] w1 w2) (hs2 : w2.heap.size = w1.heap.size + 1) (hf3 : Fr [w1.heap.size] w2 w3) (hB3 : Blk w3 w1.heap.size 1362 (lay z 0 1362 f)) (hf4 : Fr [] w3 w4) (hB4 : Blk w4 w3.heap.size 2 zRd) :
    ∃ S c M base v, Rdy t s w w4 w1.heap.size w3.heap.size S c M base v := by
  obtain ⟨h1, h2, h3, h4⟩ := h
  obtain ⟨S, c, M, base, ao, l, cap, hG, hM, hl, hfi, hrow⟩ := h4 h0
  have s3 := hf3.size
  have hT := TabOut.lay hfi hrow hf2 hf3 hB3
  refine ⟨S, c, M, base, _, h0, ((h1.trans0 hf2).trans1 hf3 (Or.inr h1.size)).trans0 hf4, by have := h1.size; omega, hM, hB4, hT.fr0 hf4, by omega, fun g hg => by have := (hrow.lt hg).2; omega⟩

set_option maxRecDepth 100000 in
set_option maxHeartbeats 4000000 in
/-- Tree -/
theorem p_Tree (t s : ByteArray) (w : World) (ht : t.size ≤ 9223372036854775807) (hsm : s.size ≤ 9223372036854775807) :
    Calls Tryd.prog 9 #[.string t, .string s] w fun e w' => Fr [] w w' ∧ ∃ (y : ByteArray) (x : Nat), e = .returned (.tuple #[.string y, .int .i64 x]) ∧ TreeO t s y x := by
  obtain ⟨x, hx⟩ : ∃ x, errT t s = x := ⟨_, rfl⟩
  have HE := hide hx
  clear hx
  go_enter Tryd.func9, Tryd.ntmps9
  go_wp2_with (first
    | (go_at_call 17; refine (p_readForText t s w ht hsm).mono ?_; rintro e w1 ⟨f, rfl, hT⟩; have HT := hide hT; have HO := hide hT.2.1; clear hT)
    | (refine wpList_alloc_blk rfl 57 rfl (some 6) rfl 1362 _ Tryd.zeroTbl ?_; intro w2 hf2 hs2 hB2; have HF2 := hide hf2; have HB2 := hide hB2; have HS2 := hide hs2; clear hf2 hB2 hs2)
    | (refine wpList_store_blk rfl 57 (.tmp 6) (.tmp 13) rfl w1.heap.size 0 1362 1362 zTb f rfl rfl (by exact unhide HB2) Tryd.sizeTbl (by omega) (by exact unhide HO) ?_; intro w3 hf3 hs3 hB3; have HF3 := hide hf3; have HB3 := hide hB3; have HFw := hide (show Fr [] w w3 from ((unhide HT).1.trans0 (unhide HF2)).trans1 hf3 (Or.inr (unhide HT).1.size)); have c6 := (hB3.cell 1361 (by omega)).trans (congrArg some ((lay_all _ _ _ _ (by omega)).trans ((unhide HT).2.2.1.trans (by rw [unhide HE])))); clear hf3 hB3 hs3)
    | (refine wpList_alloc_blk rfl 62 rfl (some 7) rfl 2 _ Tryd.zeroRd ?_; intro w4 hf4 hs4 hB4; have HF4 := hide hf4; have HB4 := hide hB4; clear hf4 hB4 hs4))
  · have hff : ((x : Int) != 0) = true := by assumption
    have hx0 : x ≠ 0 := fun e => by rw [e] at hff; cases hff
    go_quiet (fail)
    go_wp2
    go_ret2
    exact ⟨(unhide HFw).trans0 (fr_drewN _ _), ⟨#[]⟩, x, rfl, Or.inl ⟨by rw [unhide HE]; exact hx0, (unhide HE).symm, rfl⟩⟩
  · have hff : ((x : Int) != 0) = false := by assumption
    have hx0 : x = 0 := by
      have : (x : Int) = 0 := by simpa using hff
      omega
    obtain ⟨S, c, M, base, v, hY⟩ := rdy_of (unhide HT) ((unhide HE).trans hx0) (unhide HF2) (unhide HS2) (unhide HF3) (unhide HB3) (unhide HF4) (unhide HB4)
    clear HT HE HF2 HS2 HF3 HB3 HF4 HB4 HB2 HO HFw c6 hff hx0
    obtain ⟨tb, htb⟩ : ∃ tb, w1.heap.size = tb := ⟨_, rfl⟩
    obtain ⟨rb, hrb⟩ : ∃ rb, w3.heap.size = rb := ⟨_, rfl⟩
    rw [htb] at hY ⊢
    rw [hrb] at hY ⊢
    clear htb hrb
    have HY := hide hY
    obtain ⟨r, hr, hRd, hlen, hsml⟩ := errT_rd hY.e0
    have : r = (mOf S, M) := by rw [hY.is_.tab] at hr; exact (Sum.inr.inj hr).symm
    subst this
    have HRd := hide hRd
    have HSm := hide hsml
    have HP := hide (tabP_of hY.is_)
    have HTb := hide hr
    clear hY hr hRd hsml
    refine (p_start rb tb base (plT t) v S c w4 (by exact (unhide HY).blk) (by exact (unhide HY).tab) (unhide HY).tlt (unhide HY).vlt).mono ?_
    rintro e w5 ⟨rfl, hb5, sv, hR5⟩
    have HF5 := hide ((unhide HY).fr.of_below hb5 (unhide HY).le)
    have HR5 := hide hR5
    clear hb5 hR5
    go_wp2_with fail
    refine (p_takeAll t rb tb base (plT t) v S c sv _ _ _ _ _ _ s w5 (unhide HR5) (unhide HP) (unhide HRd) hlen (unhide HSm)).mono ?_
    rintro e w6 ⟨n, st, sv6, rfl, hrd, hb6, hR6, hSI, hsz⟩
    have HF6 := hide ((unhide HF5).of_below hb6 (unhide HY).le)
    have HK := hide (tkn_of (unhide HY).e0 (unhide HTb) hrd)
    have HR6 := hide hR6
    have HSI := hide hSI
    have HSz := hide hsz
    clear hrd hb6 hR6 hSI hsz HR5 HF5
    by_cases hn : n < s.size
    · have hli : (n : Int) < s.size := by omega
      go_wp2
      go_ret2
      exact ⟨unhide HF6, ⟨#[]⟩, 9, rfl, (unhide HK).short hn⟩
    · have hli : ¬ (n : Int) < s.size := by omega
      go_wp2_with fail
      refine (p_settle t rb tb base (plT t) v S c sv6 _ _ _ _ 36 _ _ st _ 60000000 w6 (unhide HR6) (unhide HP) (unhide HRd) (unhide HSI) rfl (unhide HSz) (by omega)).mono ?_
      rintro e w7 ⟨b, st7, sv7, rfl, hset, hb7, hR7, hSI7, hsz7⟩
      have HF7 := hide ((unhide HF6).of_below hb7 (unhide HY).le)
      have HEn := hide ((unhide HK).end_ hn hset)
      have HR7 := hide hR7
      clear hset hb7 hR7 hSI7 hsz7
      cases b
      · have HTr := hide ((unhide HEn).1 rfl)
        clear HEn
        go_wp2
        go_ret2
        exact ⟨unhide HF7, ⟨#[]⟩, 9, rfl, unhide HTr⟩
      · obtain ⟨j, y, rfl, hTr⟩ := (unhide HEn).2 rfl
        have HTr := hide hTr
        clear hTr HEn
        go_wp2_with (go_at_call 21; refine (p_last rb tb base (plT t) v S c sv7 (j, y) [(0, [])] w7 (by exact unhide HR7) (by simp)).mono ?_; rintro e w8 ⟨rfl, hf8⟩; have HF8 := hide ((unhide HF7).trans0 hf8); clear hf8)
        go_ret2
        exact ⟨(unhide HF8).alloc _, bstr y, 0, rfl, unhide HTr⟩

set_option maxRecDepth 100000 in
set_option maxHeartbeats 4000000 in
/-- Stop -/
theorem p_Stop (t s : ByteArray) (w : World) (ht : t.size ≤ 9223372036854775807) (hsm : s.size ≤ 9223372036854775807) :
    Calls Tryd.prog 15 #[.string t, .string s] w fun e w' => Fr [] w w' ∧ ∃ (n : Nat) (y : ByteArray) (x : Nat), e = .returned (.tuple #[.int .i64 n, .string y, .int .i64 x]) ∧ StopO t s n y x := by
  obtain ⟨x, hx⟩ : ∃ x, errT t s = x := ⟨_, rfl⟩
  have HE := hide hx
  clear hx
  go_enter Tryd.func15, Tryd.ntmps15
  go_wp2_with (first
    | (go_at_call 17; refine (p_readForText t s w ht hsm).mono ?_; rintro e w1 ⟨f, rfl, hT⟩; have HT := hide hT; have HO := hide hT.2.1; clear hT)
    | (refine wpList_alloc_blk rfl 57 rfl (some 7) rfl 1362 _ Tryd.zeroTbl ?_; intro w2 hf2 hs2 hB2; have HF2 := hide hf2; have HB2 := hide hB2; have HS2 := hide hs2; clear hf2 hB2 hs2)
    | (refine wpList_store_blk rfl 57 (.tmp 7) (.tmp 13) rfl w1.heap.size 0 1362 1362 zTb f rfl rfl (by exact unhide HB2) Tryd.sizeTbl (by omega) (by exact unhide HO) ?_; intro w3 hf3 hs3 hB3; have HF3 := hide hf3; have HB3 := hide hB3; have HFw := hide (show Fr [] w w3 from ((unhide HT).1.trans0 (unhide HF2)).trans1 hf3 (Or.inr (unhide HT).1.size)); have c6 := (hB3.cell 1361 (by omega)).trans (congrArg some ((lay_all _ _ _ _ (by omega)).trans ((unhide HT).2.2.1.trans (by rw [unhide HE])))); clear hf3 hB3 hs3)
    | (refine wpList_alloc_blk rfl 62 rfl (some 8) rfl 2 _ Tryd.zeroRd ?_; intro w4 hf4 hs4 hB4; have HF4 := hide hf4; have HB4 := hide hB4; clear hf4 hB4 hs4))
  · have hff : ((x : Int) != 0) = true := by assumption
    have hx0 : x ≠ 0 := fun e => by rw [e] at hff; cases hff
    go_quiet (fail)
    go_wp2
    go_ret3
    exact ⟨(unhide HFw).trans0 (fr_drewN _ _), 0, ⟨#[]⟩, x, rfl, Or.inl ⟨by rw [unhide HE]; exact hx0, (unhide HE).symm, rfl, rfl⟩⟩
  · have hff : ((x : Int) != 0) = false := by assumption
    have hx0 : x = 0 := by
      have : (x : Int) = 0 := by simpa using hff
      omega
    obtain ⟨S, c, M, base, v, hY⟩ := rdy_of (unhide HT) ((unhide HE).trans hx0) (unhide HF2) (unhide HS2) (unhide HF3) (unhide HB3) (unhide HF4) (unhide HB4)
    clear HT HE HF2 HS2 HF3 HB3 HF4 HB4 HB2 HO HFw c6 hff hx0
    obtain ⟨tb, htb⟩ : ∃ tb, w1.heap.size = tb := ⟨_, rfl⟩
    obtain ⟨rb, hrb⟩ : ∃ rb, w3.heap.size = rb := ⟨_, rfl⟩
    rw [htb] at hY ⊢
    rw [hrb] at hY ⊢
    clear htb hrb
    have HY := hide hY
    obtain ⟨r, hr, hRd, hlen, hsml⟩ := errT_rd hY.e0
    have : r = (mOf S, M) := by rw [hY.is_.tab] at hr; exact (Sum.inr.inj hr).symm
    subst this
    have HRd := hide hRd
    have HSm := hide hsml
    have HP := hide (tabP_of hY.is_)
    have HTb := hide hr
    clear hY hr hRd hsml
    refine (p_start rb tb base (plT t) v S c w4 (by exact (unhide HY).blk) (by exact (unhide HY).tab) (unhide HY).tlt (unhide HY).vlt).mono ?_
    rintro e w5 ⟨rfl, hb5, sv, hR5⟩
    have HF5 := hide ((unhide HY).fr.of_below hb5 (unhide HY).le)
    have HR5 := hide hR5
    clear hb5 hR5
    go_wp2_with fail
    refine (p_takeAll t rb tb base (plT t) v S c sv _ _ _ _ _ _ s w5 (unhide HR5) (unhide HP) (unhide HRd) hlen (unhide HSm)).mono ?_
    rintro e w6 ⟨n, st, sv6, rfl, hrd, hb6, hR6, hSI, hsz⟩
    have HF6 := hide ((unhide HF5).of_below hb6 (unhide HY).le)
    have HK := hide ((tkn_of (unhide HY).e0 (unhide HTb) hrd).stop)
    obtain ⟨k, y, st0, rfl⟩ := hSI.form
    have hkl : k < S.length := by rw [(unhide HP).len]; exact hSI.lt (unhide HRd).tab.pos
    have hst : st0.length ≤ 90000000 := by rw [List.length_cons] at hsz; omega
    have HR6 := hide hR6
    clear hrd hb6 hR6 hSI hsz HR5 HF5
    go_wp2_with (first
      | (go_at_call 30; refine (p_signsAhead t rb tb base (plT t) v S c sv6 _ _ k y st0 w6 (by exact unhide HR6) (unhide HP) hkl hst).mono ?_; rintro e w7 ⟨rfl, hf7⟩; have HF7 := hide ((unhide HF6).trans0 hf7); clear hf7)
      | (refine wpList_alloc_blk rfl 48 rfl (some 10) rfl 27 _ Tryd.zeroSign ?_; intro w8 hf8 hs8 hB8; have HF8 := hide ((unhide HF7).trans0 hf8); have HB8 := hide hB8; clear hf8 hs8 hB8)
      | (refine wpList_store_blk rfl 48 (.tmp 10) (.tmp 22) rfl w7.heap.size 0 27 27 (sgF fun _ => false) (sgF (upS (aheadB (rul (parse t 8 0 []).1) (mOf S, M) k) 27)) rfl rfl (by exact unhide HB8) Tryd.sizeSign (by omega) (fun _ _ => rfl) ?_; intro w9 hf9 hs9 hB9; have HF9 := hide ((unhide HF8).trans1 hf9 (Or.inr (unhide HF7).size)); have HB9 := hide (show Blk w9 w7.heap.size 27 (sgF (upS (aheadB (rul (parse t 8 0 []).1) (mOf S, M) k) 27)) from hB9.congr fun i hi => lay_all _ _ _ i hi); clear hf9 hs9 hB9)
      | (go_at_call 31; refine (p_list w7.heap.size _ w9 (by exact unhide HB9)).mono ?_; rintro e w10 ⟨rfl, hf10⟩; have HF10 := hide ((unhide HF9).trans0 hf10); clear hf10))
    go_ret3
    exact ⟨unhide HF10, n, _, 0, rfl, unhide HK⟩
end Go.Proofs.YtkglggkkbmmjkaaDoor

namespace Go.Proofs.YtkglggkkbmmjkaaDoor
open Go.RowKit

/-- the step's own variable -/
def OpAt (w : World) (b : Nat) (g s : ByteArray) : Prop := b < w.heap.size ∧ w.cell? ⟨b, 2, none⟩ = some (.string g) ∧ w.cell? ⟨b, 3, none⟩ = some (.string s)
theorem OpAt.fr {w w' : World} {b : Nat} {g s : ByteArray} (h : OpAt w b g s) (k : Fr [] w w') : OpAt w' b g s :=
  ⟨Nat.lt_of_lt_of_le h.1 k.size, by rw [World.cell?_of_block (k.block b h.1 (by simp))]; exact h.2.1, by rw [World.cell?_of_block (k.block b h.1 (by simp))]; exact h.2.2⟩

end Go.Proofs.YtkglggkkbmmjkaaDoor

namespace Go.Proofs.YtkglggkkbmmjkaaDoor
open Go.RowKit

theorem bytes_bstr {x : List Nat} (h : ∀ c ∈ x, c < 256) : bytes (bstr x) = x := by
  unfold bytes bstr
  show ((x.map UInt8.ofNat).toArray.toList).map UInt8.toNat = x
  rw [List.map_map]
  conv => rhs; rw [← List.map_id x]
  exact List.map_congr_left fun c hc => by
    show (UInt8.ofNat c).toNat = c
    rw [UInt8.toNat_ofNat', Nat.mod_eq_of_lt (by simpa using h c hc)]
theorem bstr_bytes (s : ByteArray) : bstr (bytes s) = s := by
  apply ByteArray.ext
  unfold bstr bytes
  show ((s.data.toList.map UInt8.toNat).map UInt8.ofNat).toArray = s.data
  rw [List.map_map]
  conv => rhs; rw [← Array.toArray_toList (xs := s.data), ← List.map_id s.data.toList]
  congr 1
  exact List.map_congr_left fun c _ => by simp
theorem ds_low {L : List Ru} (hl : L.length ≤ 9) {l w x : List Nat} {n : Nat} (h : Ds L l w x n) : ∀ c ∈ x, c < 256 := by
  induction h with
  | nil => intro c hc; cases hc
  | small hs _ ih =>
    intro c hc
    rcases List.mem_cons.1 hc with rfl | hc
    · have := smallB_iff.1 hs; omega
    · exact ih c hc
  | big _ h2 _ _ ih1 ih2 =>
    intro c hc
    simp only [List.mem_cons, List.mem_append] at hc
    rcases hc with rfl | rfl | hc | rfl | hc
    · omega
    · omega
    · exact ih1 c hc
    · omega
    · exact ih2 c hc
theorem TreeO.nil {t s y : ByteArray} {x : Nat} (h : TreeO t s y x) (hx : x ≠ 0) : y = ⟨#[]⟩ := by
  rcases h with ⟨_, _, h2⟩ | ⟨_, ⟨_, h2, _⟩ | ⟨h1, _⟩⟩
  · exact h2
  · exact h2
  · exact absurd h1 hx
theorem str_some {y : ByteArray} (h : 0 < y.size) : y.toList.isEmpty = false := by
  rw [List.isEmpty_eq_false_iff, ne_eq, ← List.length_eq_zero_iff, Go.ByteArray.toList_eq, Array.length_toList]
  exact Nat.ne_of_gt h
/-- a tree that is answered -/
structure SpO (t s y : ByteArray) (c h : Nat) : Prop where
  dep : h ≤ 1000
  ht : t.size ≤ 32
  hp : (parse t 8 0 []).2.2 = true
  pos : 0 < t.size
  st : ch t 0 = c
  len : s.size ≤ 12
  big : y.size ≤ 1000000
  dh : ∃ x n, Dh (rul (parse t 8 0 []).1) [c] (bytes s) x n h ∧ bytes y = x
theorem spO {t s y : ByteArray} (h : TreeO t s y 0) : ∃ c h, SpO t s y c h := by
  rcases h with ⟨h1, h2, _⟩ | ⟨h0, ⟨h1, _⟩ | ⟨_, x, n, hd, rfl⟩⟩
  · exact absurd h2.symm h1
  · cases h1
  obtain ⟨r, hD⟩ := drv_of h0
  obtain ⟨a, b⟩ := gErr_zero hD.gerr
  have hl9 := hD.sz.l9
  obtain ⟨x', m, hdh⟩ := ht_bound hl9 hd
  have e : x' = x := (ds_uniq hD.rd.tab hD.rd.nocl hD.rd.st0 hdh.ds hd).1
  subst e
  have hlen := hD.len
  have hn := tight_ds hD.sz hD.uq hd (by rw [bytes_len]; exact hlen)
  have hxl := ds_len hd
  rw [bytes_len] at hxl hdh
  obtain ⟨rs, e1, hc⟩ := parse_chR t 8 0 [] b
  rw [List.nil_append] at e1
  have hst : ch t 0 = stOf (parse t 8 0 []).1 := by
    rw [e1]
    cases rs with
    | nil => exact hc.elim
    | cons r0 rs =>
      have hr : r0.L = ch t 0 := by
        cases rs with
        | nil => have h' : SegR t 0 t.size r0 := hc; rw [h'.1]
        | cons r1 rs => obtain ⟨e, h', _⟩ := hc; rw [h'.1]
      show ch t 0 = r0.L
      exact hr.symm
  have hpos : 0 < t.size := by
    cases rs with
    | nil => exact hc.elim
    | cons r0 rs =>
      cases rs with
      | nil => have h' : SegR t 0 t.size r0 := hc; have := h'.2.1; omega
      | cons r1 rs => obtain ⟨e, h', h2, _⟩ := hc; omega
  exact ⟨stOf (parse t 8 0 []).1, 9 + 8 * s.size, by omega, a, b, hpos, hst, hlen, by rw [bstr_size]; omega, x', m, hdh, bytes_bstr (ds_low hl9 hd)⟩

set_option maxRecDepth 100000 in
set_option maxHeartbeats 1600000 in
theorem l_spelt (k n : Int) (g s : ByteArray) (w : World) (hg : g.size ≤ 9223372036854775807) (hs : s.size ≤ 9223372036854775807) :
    Calls Tryd.prog 6 #[.agg #[.int .i64 k, .int .i64 n, .string g, .string s]] w fun e w' => e = .returned (.bool true) ∧ Fr [] w w' := by
  go_enter Tryd.func6, Tryd.ntmps6
  go_wp2_with fail
  refine (p_Tree g s _ hg hs).mono ?_
  rintro e w1 ⟨hf1, y, x, rfl, hO⟩
  have HO1 := hide (show OpAt w1 w.heap.size g s from OpAt.fr (by exact ⟨by simp, by simp, by simp⟩) hf1)
  have k2 := (unhide HO1).2.1
  have k3 := (unhide HO1).2.2
  have HF1 := hide (((Fr.refl [] w).alloc _).trans0 hf1)
  clear hf1
  by_cases hx : x = 0
  · subst hx
    obtain ⟨c, h, hSp⟩ := spO hO
    clear hO
    have HSp := hide hSp
    have hpos := hSp.pos
    have hg0 := str_some hpos
    have kA2 : ∀ o, (w1.alloc o).cell? ⟨w.heap.size, 2, none⟩ = some (.string g) := fun o => (OpAt.fr (unhide HO1) ((Fr.refl [] w1).alloc o)).2.1
    have hc0 : (g[0].toNat : Int) = (c : Int) := by rw [← hSp.st, ch_eq g 0 hpos]
    clear hSp
    go_wp2_with (go_at_call 10; refine (l_num _ _).mono ?_; rintro e w3 ⟨rfl, hw3⟩; rw [hw3]; clear hw3)
    obtain ⟨xv, m, hdh, hby⟩ := (unhide HSp).dh
    have hB : Blk (w1.alloc (.cells #[.string g, .string y, .int .i64 0, .string ⟨#[]⟩, .bool false] 33)) w1.heap.size 5 (rdrF g y ([] : List Nat).length (bstr []) false) := Blk.newArr w1 _ _ 5 _ rfl (fun i hi => by
      rcases (show i = 0 ∨ i = 1 ∨ i = 2 ∨ i = 3 ∨ i = 4 by simp at hi; omega) with rfl | rfl | rfl | rfl | rfl <;> rfl)
    refine (l_letter g (unhide HSp).ht (unhide HSp).hp h c (bytes s) xv m hdh w1.heap.size 1000 y [] [] [] _ (by exact hB) (by rw [hby]; simp) (unhide HSp).dep (Nat.le_refl _) (unhide HSp).big (by rw [bytes_len]; have := (unhide HSp).len; simp; omega)).mono ?_
    rintro e w2 ⟨rfl, hf2, hB2⟩
    have hxl : ([] ++ xv : List Nat).length = y.size := by rw [List.nil_append, ← hby, bytes_len]
    rw [hxl, List.nil_append, bstr_bytes] at hB2
    have d4 : w2.cell? ⟨w1.heap.size, 4, none⟩ = some (.bool false) := hB2.cell 4 (by omega)
    have d3 : w2.cell? ⟨w1.heap.size, 3, none⟩ = some (.string s) := hB2.cell 3 (by omega)
    have d2 : w2.cell? ⟨w1.heap.size, 2, none⟩ = some (.int .i64 (y.size : Nat)) := hB2.cell 2 (by omega)
    have hl1 := (unhide HO1).1
    have d5 : w2.cell? ⟨w.heap.size, 3, none⟩ = some (.string s) := by
      rw [World.cell?_of_block (hf2.block w.heap.size (by simp; omega) (by simp; omega))]
      exact (OpAt.fr (unhide HO1) ((Fr.refl [] w1).alloc _)).2.2
    have HF2 := hide (show Fr [] w w2 from ((unhide HF1).alloc _).trans1 hf2 (Or.inr (by omega)))
    clear hB hB2 hf2 hdh hby hxl
    go_wp2
    go_quiet (fail)
    go_wp2
    go_ret
    exact ⟨by simp, (unhide HF2).trans0 (fr_drewN _ _)⟩
  · have hy := hO.nil hx
    subst hy
    have hxi : ((x : Int) != 0) = true := by rw [bne_iff_ne]; omega
    clear hO
    go_wp2_with (go_at_call 10; refine (l_num _ _).mono ?_; rintro e w3 ⟨rfl, hw3⟩; rw [hw3]; clear hw3)
    go_ret
    exact ⟨by simp, unhide HF1⟩

set_option maxRecDepth 100000 in
set_option maxHeartbeats 1600000 in
theorem l_Spelt (ao : Option Addr) (len cap : Nat) (w : World) (h : ScriptOk w ao len) :
    Calls Tryd.prog 3 #[.slice ao len cap] w fun e w' => e = .returned (.bool true) ∧ Fr [] w w' := by
  have H := hide h
  have hlen := h.1
  clear h
  go_enter Tryd.func3, Tryd.ntmps3
  go_wp2
  go_loopw [3] (fun a wr => ∃ i : Nat, i ≤ len ∧ a = .int .i64 i ∧ Hid (Fr [] w wr)) (fun a _ => len - (intOf a).toNat)
  case atStart => exact ⟨0, by omega, rfl, Fr.refl _ _⟩
  case round =>
    obtain ⟨i, hi, rfl, hf⟩ := hrel
    by_cases hlt : i < len
    · obtain ⟨b, off, rfl, hb, k, n, g, s, hg, hs, c0, c1, c2, c3⟩ := ((unhide H).fr (unhide hf)).2 i hlt
      have hbig : (i : Int) < 1152921504606846976 := by omega
      go_wp2_with (go_at_call 6; refine (l_spelt k n g s _ hg hs).mono ?_; rintro e w2 ⟨rfl, hf2⟩; have HF2 := hide ((unhide hf).trans0 hf2); clear hf2)
      go_roundw
      case rel => exact ⟨i + 1, by omega, by go_num, HF2⟩
      case measure => simp [intOf]; omega
    · go_wp2
      go_ret
      exact ⟨rfl, unhide hf⟩
end Go.Proofs.YtkglggkkbmmjkaaDoor

namespace Go.Proofs.YtkglggkkbmmjkaaDoor
open Go.ChangeShapes Go.WideShapes Go.ChangeAt Go.WideMaps Go.WideElems Go.RowKit

/-- the door's own heap is laid as the rows say -/
theorem door_met (os : Os) (args : Array Value) : laidMetH Tryd.prog Rows.speltRow.laid ((World.doorLaid Tryd.prog 400 os).forCall (fun _ _ => 0) ⟨#[], args, []⟩).memory :=
  laidMetH_of_parts3 (fuel := 8) (laidMet_of_run' 8 (by kernel_rfl) (by kernel_rfl)) (by kernel_rfl) (by kernel_rfl)
end Go.Proofs.YtkglggkkbmmjkaaDoor
