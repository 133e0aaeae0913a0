import Derived.Test.YtkglggkkbmmjkabGreatDoorG32PRead
import Derived.Test.YtkglggkkbmmjkabGreatDoorG34PCalls3
import Derived.Test.YtkglggkkbmmjkabGreatDoorG18LrTab
import Derived.Test.YtkglggkkbmmjkabGreatDoorG9Same
namespace Go.Proofs.YtkglggkkbmmjkabGreatDoor
open Go.RowKit
theorem rget_rul0 (rs : List Ru) : rget (rul rs) 0 = rul0 (stOf rs) := rfl
theorem rget_rul (rs : List Ru) (i : Nat) : rget (rul rs) (i + 1) = rget rs i := by
 unfold rget rul
 rw [List.getD_eq_getElem?_getD, List.getD_eq_getElem?_getD, List.getElem?_cons_succ]
theorem rget_mem (rs : List Ru) (i : Nat) : rget rs i ∈ rs ∨ rget rs i = ru0 := by
 rcases Nat.lt_or_ge i rs.length with h | h
 ·left; rw [zbl rs i h]; exact List.getElem_mem h
 ·right; exact rget_none rs i h
theorem ctx_of (t : ByteArray) (ht : t.size ≤ 32) (h : (zad t 8 0 []).2.2 = true) : Ctx (rul (zad t 8 0 []).1) (zan (zad t 8 0 []).1) (zau (zad t 8 0 []).1) := by
 have hg := (zaw t 8 0 [] (by simp)).1
 have hst := start_big t h
 have hlen := (za9 t ht).2
 have hb : ∀ r ∈ (zad t 8 0 []).1, bigB r.L = true := fun r hr => (hg r hr).1
 have hc := zao.1 hst
 refine ⟨⟨?_, fun i => ?_, rfl⟩, fun c => van_eq0 (nulls_bigs _ hb) c, fun c x _ hx => iterF_small _ _ _ c x hx, fun n k hk => ?_, ?_⟩
 ·unfold rul; rw [List.length_cons]; omega
 ·cases i with
  | zero => rw [rget_rul0]; show 1 ≤ 4; omega
  | succ i =>
   rw [rget_rul]
   rcases rget_mem (zad t 8 0 []).1 i with h | h
   ·exact (hg _ h).2.1
   ·rw [h]; exact Nat.zero_le _
 ·cases n with
  | zero => rw [rget_rul0] at hk ⊢; exact rul0_let _ hc k hk
  | succ n =>
   rw [rget_rul] at hk ⊢
   rcases rget_mem (zad t 8 0 []).1 n with h | h
   ·exact (hg _ h).2.2.2 k hk
   ·rw [h] at hk; exact absurd hk (Nat.not_lt_zero _)
 ·unfold rul; rw [List.length_cons]; omega
theorem good_tab {t : ByteArray} (ht : t.size ≤ 32) (hp : (zad t 8 0 []).2.2 = true) {S : List Sd} {c : Nat} (h : TGood t S c) :
 ∃ M, TosOk S S.length M ∧ SsOk (rul (zad t 8 0 []).1) S ∧ 0 < S.length ∧ ∀ F, 1 ≤ F → tabM (rul (zad t 8 0 []).1) (zan (zad t 8 0 []).1) (zau (zad t 8 0 []).1) (F + S.length) 0 [zby (rul (zad t 8 0 []).1) (zan (zad t 8 0 []).1) (zau (zad t 8 0 []).1)] [] = some (mOf S, M) := by
 obtain ⟨h1, _, _, h4, _, h6, _⟩ := states_tab (ctx_of t ht hp) h.2.1
 obtain ⟨M, hM, hF⟩ := h6 rfl
 refine ⟨M, hM, h1, h4, fun F hF1 => ?_⟩
 rw [hF F]
 obtain ⟨F', rfl⟩ : ∃ F', F = F' + 1 := ⟨F - 1, by omega⟩
 rw [tabM, dif_neg (by rw [zcr]; omega)]
theorem err_tab {t : ByteArray} (ht : t.size ≤ 32) (hp : (zad t 8 0 []).2.2 = true) {n : Nat} {S : List Sd} {c x : Nat} (hx : x ≠ 0) (h : StatesR (plT t) n S c x) :
 x = 6 ∧ n ≤ 40 ∧ ∀ F, tabM (rul (zad t 8 0 []).1) (zan (zad t 8 0 []).1) (zau (zad t 8 0 []).1) (F + n) 0 [zby (rul (zad t 8 0 []).1) (zan (zad t 8 0 []).1) (zau (zad t 8 0 []).1)] [] = none := by
 obtain ⟨_, h2, h3, _, h5, _, h7⟩ := states_tab (ctx_of t ht hp) h
 have h6 : x = 6 := by omega
 exact ⟨h6, by omega, h7 h6⟩
end Go.Proofs.YtkglggkkbmmjkabGreatDoor
namespace Go.Proofs.YtkglggkkbmmjkabGreatDoor
open Go.RowKit
theorem putback_eq {L : List Ru} {N : Nat → Bool} {T : Nat → Nat → Bool} {A : Nat → Bool} (hA : SOk L A) {c : Nat} (hc : sigB c = true) {r : Nat} (hr : r < 9) : ruS (za0 L N T) A c r = zbu L (repL A) c r := by
 apply Bool.eq_iff_iff.2
 unfold ruS zbu ruA
 rw [Bool.and_eq_true, decide_eq_true_eq, List.any_eq_true, List.any_eq_true]
 have hso := sgO_lt hc
 constructor
 ·rintro ⟨_, t, ht, h⟩
  have ht := List.mem_range.1 ht
  rw [Bool.and_eq_true] at h
  obtain ⟨h1, h2⟩ := h
  have h1' : (decide (r < L.length) && t == (rget L r).R.size) = true := h1
  rw [Bool.and_eq_true, decide_eq_true_eq, beq_iff_eq] at h1'
  have e1 : (r * 135 + t * 27 + sgO c) / 135 = r := by omega
  have e2 : (r * 135 + t * 27 + sgO c) % 135 / 27 = t := by omega
  have e3 : (r * 135 + t * 27 + sgO c) % 27 = sgO c := by omega
  refine ⟨itOf (r * 135 + t * 27 + sgO c), itOf_mem.2 ⟨by omega, h2⟩, ?_⟩
  unfold endI itOf
  dsimp only
  rw [e1, e2, e3, sgn_sgO hc, ← h1'.2]
  simp
 ·rintro ⟨x, hx, h⟩
  obtain ⟨j, hj, ha, rfl⟩ := zbz.1 hx
  unfold endI at h
  rw [Bool.and_eq_true, Bool.and_eq_true, beq_iff_eq, beq_iff_eq, beq_iff_eq] at h
  obtain ⟨h1, h2, h3⟩ := h
  obtain ⟨k1, _, _⟩ := hA j hj ha
  have h3' : j / 135 = r := h3
  have h1' : j % 135 / 27 = (rget L (j / 135)).R.size := h1
  have h2' : sgn (j % 27) = c := h2
  have hs : sgO c = j % 27 := by rw [← h2', sgO_sgn]
  have k1' : j / 135 < L.length := k1
  refine ⟨hr, j % 135 / 27, List.mem_range.2 (by omega), ?_⟩
  rw [Bool.and_eq_true]
  refine ⟨?_, by rw [hs, show r * 135 + j % 135 / 27 * 27 + j % 27 = j from by omega]; exact ha⟩
  show (decide (r < L.length) && j % 135 / 27 == (rget L r).R.size) = true
  rw [Bool.and_eq_true, decide_eq_true_eq, beq_iff_eq]
  exact ⟨by omega, by rw [h1', h3']⟩
theorem toM_cases (m : List (Nat × Nat)) (c : Nat) : toM m c = -1 ∨ 0 ≤ toM m c := by
 unfold toM
 split
 ·right; omega
 ·left; rfl
theorem step_eq {S : List Sd} {n : Nat} {M : List (List (Nat × Nat))} (h : TosOk S n M) {k : Nat} (hk : k < n) (c : Nat) : zbo S k c = toM (M.getD k []) c := by
 unfold zbo
 cases hc : letB c
 ·rw [if_neg (by simp)]
  symm
  unfold toM
  rw [show (M.getD k []).find? (fun p => p.1 == c) = none from by
   rw [List.find?_eq_none]
   intro q hq
   obtain ⟨j, hj, e⟩ := h.2.2 k hk q hq
   rw [e]
   intro e2
   have e3 : ltr j = c := by simpa using e2
   rw [← e3, letB_ltr hj] at hc; cases hc]
 ·rw [if_pos rfl, h.2.1 k hk (ltI c) (ltI_lt hc), ltr_ltI hc]
theorem stepB_eq {S : List Sd} {n : Nat} {M : List (List (Nat × Nat))} (h : TosOk S n M) {k : Nat} (hk : k < n) (c : Nat) : (zbo S k c != -1) = decide (0 ≤ toM (M.getD k []) c) := by
 rw [step_eq h hk c]
 rcases toM_cases (M.getD k []) c with e | e
 ·rw [e]; rfl
 ·rw [decide_eq_true e, bne_iff_ne]; omega
theorem acL_congr {st : Bool} {ru ru2 : Nat → Bool} (h : ∀ i, i < 9 → ru i = ru2 i) : acL st ru 9 = wdU st ru2 9 := by
 unfold acL wdU
 rw [List.filter_congr (q := ru2) (fun j hj => h j (List.mem_range.1 hj))]
theorem acts_eq {L : List Ru} {N : Nat → Bool} {T : Nat → Nat → Bool} {S : List Sd} {n : Nat} {M : List (List (Nat × Nat))} (hS : SsOk L S) (hM : TosOk S n M) {k : Nat} (hk : k < n) (hk2 : k < S.length) {c : Nat} (hc : sigB c = true) :
 (⟨(acL (zbo S k c != -1) (ruS (za0 L N T) (sget S k).A c) 9).toArray⟩ : ByteArray) = wordsT (decide (0 ≤ toM (M.getD k []) c)) (zbu L (repL (sget S k).A) c) := by
 unfold wordsT
 rw [stepB_eq hM hk c, acL_congr (fun i hi => putback_eq (hS.get hk2) hc hi)]
end Go.Proofs.YtkglggkkbmmjkabGreatDoor
namespace Go.Proofs.YtkglggkkbmmjkabGreatDoor
open Go.RowKit
/-! The calls' answers, as plain functions of the table. -/
theorem gErr_zero {t : ByteArray} (h : (gErr t).1 = 0) : t.size ≤ 32 ∧ (zad t 8 0 []).2.2 = true := by
 unfold gErr at h
 split at h
 ·cases h
 ·split at h
  ·cases h
  ·rename_i h1 h2
   exact ⟨by omega, by simpa using h2⟩
noncomputable def tabR (t : ByteArray) : Nat ⊕ Tb :=
 if (gErr t).1 ≠ 0 then .inl (gErr t).1 else
 match tabM (rul (zad t 8 0 []).1) (zan (zad t 8 0 []).1) (zau (zad t 8 0 []).1) 41 0 [zby (rul (zad t 8 0 []).1) (zan (zad t 8 0 []).1) (zau (zad t 8 0 []).1)] [] with
 | none => .inl 6
 | some r => .inr r
theorem tabR_bad {t : ByteArray} (h : (gErr t).1 ≠ 0) : tabR t = .inl (gErr t).1 := by unfold tabR; rw [if_pos h]
theorem tabR_many {t : ByteArray} (h : (gErr t).1 = 0) (k : tabM (rul (zad t 8 0 []).1) (zan (zad t 8 0 []).1) (zau (zad t 8 0 []).1) 41 0 [zby (rul (zad t 8 0 []).1) (zan (zad t 8 0 []).1) (zau (zad t 8 0 []).1)] [] = none) : tabR t = .inl 6 := by
 unfold tabR; rw [if_neg (by simp [h]), k]
theorem tabR_some {t : ByteArray} (h : (gErr t).1 = 0) {r : Tb} (k : tabM (rul (zad t 8 0 []).1) (zan (zad t 8 0 []).1) (zau (zad t 8 0 []).1) 41 0 [zby (rul (zad t 8 0 []).1) (zan (zad t 8 0 []).1) (zau (zad t 8 0 []).1)] [] = some r) : tabR t = .inr r := by
 unfold tabR; rw [if_neg (by simp [h]), k]
theorem tabR_err {t : ByteArray} {x : Nat} (h : TErr t x) (hx : x ≠ 0) : tabR t = .inl x := by
 rcases h with ⟨h1, rfl⟩ | ⟨h0, n, S, c, hS⟩
 ·exact tabR_bad h1
 ·obtain ⟨a, b⟩ := gErr_zero h0
  obtain ⟨rfl, hn, hF⟩ := err_tab a b hx hS
  have := hF (41 - n)
  rw [show 41 - n + n = 41 from by omega] at this
  exact tabR_many h0 this
structure TIs (t : ByteArray) (S : List Sd) (M : List (List (Nat × Nat))) : Prop where
 tab : tabR t = .inr (mOf S, M)
 tos : TosOk S S.length M
 ok : SsOk (rul (zad t 8 0 []).1) S
 pos : 0 < S.length
 l40 : S.length ≤ 40
theorem tabR_good {t : ByteArray} {S : List Sd} {c : Nat} (h : TGood t S c) : ∃ M, TIs t S M := by
 obtain ⟨a, b⟩ := gErr_zero h.1
 obtain ⟨M, h1, h2, h3, h4⟩ := good_tab a b h
 have := h4 (41 - S.length) (by have := h.2.2.1; omega)
 rw [show 41 - S.length + S.length = 41 from by have := h.2.2.1; omega] at this
 exact ⟨M, tabR_some h.1 this, h1, h2, h3, h.2.2.1⟩
def stV : Nat ⊕ Tb → Nat × Nat
 | .inl x => (0, x)
 | .inr r => (r.1.length, 0)
def stepV (n : Int) (s : ByteArray) : Nat ⊕ Tb → Int × Nat
 | .inl x => (0, x)
 | .inr r => if 0 ≤ n ∧ n < r.1.length then if ltrW s = false then (0, 5) else (toM (r.2.getD n.toNat []) (ch s 0), 0) else (0, 7)
def actV (L : List Ru) (n : Int) (s : ByteArray) : Nat ⊕ Tb → ByteArray × Nat
 | .inl x => (⟨#[]⟩, x)
 | .inr r => if 0 ≤ n ∧ n < r.1.length then if sgnX s = false then (⟨#[]⟩, 5) else (wordsT (decide (0 ≤ toM (r.2.getD n.toNat []) (ch s 0))) (zbu L (r.1.getD n.toNat []) (ch s 0)), 0) else (⟨#[]⟩, 7)
theorem p_StatesV (t : ByteArray) (w : World) (ht : t.size ≤ 9223372036854775807) :
 Calls Tryz.prog 24 #[.string t] w fun e w' => e = .returned (.tuple #[.int .i64 ((stV (tabR t)).1 : Nat), .int .i64 ((stV (tabR t)).2 : Nat)]) ∧ Fr [] w w' := by
 refine (p_States t w ht).mono ?_
 rintro e w' ⟨hf, n, x, rfl, h1, h2⟩
 refine ⟨?_, hf⟩
 by_cases hx : x = 0
 ·obtain ⟨S, c, hG, rfl⟩ := h2 hx
  obtain ⟨M, hM⟩ := tabR_good hG
  rw [hM.tab, hx]
  show _ = Ending.returned (.tuple #[.int .i64 ((mOf S).length : Nat), .int .i64 ((0 : Nat) : Int)])
  rw [zcr]
 ·obtain ⟨rfl, hE⟩ := h1 hx
  rw [tabR_err hE hx]; rfl
theorem p_StepV (t : ByteArray) (n : Int) (s : ByteArray) (w : World) (ht : t.size ≤ 9223372036854775807) :
 Calls Tryz.prog 26 #[.string t, .int .i64 n, .string s] w fun e w' => e = .returned (.tuple #[.int .i64 (stepV n s (tabR t)).1, .int .i64 ((stepV n s (tabR t)).2 : Nat)]) ∧ Fr [] w w' := by
 refine (p_Step t n s w ht).mono ?_
 rintro e w' ⟨hf, y, x, rfl, h⟩
 refine ⟨?_, hf⟩
 suffices hs : stepV n s (tabR t) = (y, x) by rw [hs]
 rcases h with ⟨hE, hx, rfl⟩ | ⟨S, c, hG, h⟩
 ·rw [tabR_err hE hx]; rfl
 ·obtain ⟨M, hM⟩ := tabR_good hG
  rw [hM.tab]
  unfold stepV
  dsimp only
  rw [zcr]
  rcases h with ⟨h1, rfl, rfl⟩ | ⟨h1, h2, rfl, rfl⟩ | ⟨h1, h2, rfl, rfl⟩
  ·rw [if_neg h1]
  ·rw [if_pos h1, if_pos h2]
  ·rw [if_pos h1, if_neg (by rw [h2]; simp), step_eq hM.tos (show n.toNat < S.length by omega)]
theorem repL_getD (S : List Sd) (n : Nat) (h : n < S.length) : (mOf S).getD n [] = repL (sget S n).A := by
 unfold mOf
 rw [List.getD_eq_getElem?_getD, List.getElem?_map, List.getElem?_eq_getElem h, sget_eq S n h, Option.map_some, Option.getD_some]
theorem p_ActsV (t : ByteArray) (n : Int) (s : ByteArray) (w : World) (ht : t.size ≤ 9223372036854775807) :
 Calls Tryz.prog 28 #[.string t, .int .i64 n, .string s] w fun e w' => e = .returned (.tuple #[.string (actV (rul (zad t 8 0 []).1) n s (tabR t)).1, .int .i64 ((actV (rul (zad t 8 0 []).1) n s (tabR t)).2 : Nat)]) ∧ Fr [] w w' := by
 refine (p_Acts t n s w ht).mono ?_
 rintro e w' ⟨hf, y, x, rfl, h⟩
 refine ⟨?_, hf⟩
 suffices hs : actV (rul (zad t 8 0 []).1) n s (tabR t) = (y, x) by rw [hs]
 rcases h with ⟨hE, hx, rfl⟩ | ⟨S, c, hG, h⟩
 ·rw [tabR_err hE hx]; rfl
 ·obtain ⟨M, hM⟩ := tabR_good hG
  rw [hM.tab]
  unfold actV
  dsimp only
  rw [zcr]
  rcases h with ⟨h1, rfl, rfl⟩ | ⟨h1, h2, rfl, rfl⟩ | ⟨h1, h2, rfl, rfl⟩
  ·rw [if_neg h1]
  ·rw [if_pos h1, if_pos h2]
  ·have hs : sigB (ch s 0) = true := by unfold sgnX at h2; rw [Bool.and_eq_true] at h2; exact h2.2
   rw [if_pos h1, if_neg (by rw [h2]; simp), repL_getD S _ (by omega)]
   congr 1
   exact (acts_eq hM.ok hM.tos (show n.toNat < S.length by omega) (by omega) hs).symm
end Go.Proofs.YtkglggkkbmmjkabGreatDoor
