import Derived.Test.YtkglggkkbmmjkaaGreatDoorJ45PTActs
import Derived.Test.YtkglggkkbmmjkaaGreatDoorJ46TbDef
import Derived.Test.YtkglggkkbmmjkaaGreatDoorJ14Same
import Derived.Test.YtkglggkkbmmjkaaGreatDoorJ28EqT
namespace Go.Proofs.YtkglggkkbmmjkaaGreatDoor
open Go.RowKit

/-! The calls' answers, as plain functions of the table. -/
theorem gErr_zero {t : ByteArray} (h : (gErr t).1 = 0) : t.size ≤ 32 ∧ (parse t 8 0 []).2.2 = true := by
  unfold gErr at h
  split at h
  · cases h
  · split at h
    · cases h
    · rename_i h1 h2
      exact ⟨by omega, by simpa using h2⟩
/-- the table, as both have it; or why there is none -/
noncomputable def tabR (t : ByteArray) : Nat ⊕ Tb :=
  if (gErr t).1 ≠ 0 then .inl (gErr t).1 else
  match tabM (rul (parse t 8 0 []).1) (nullS (parse t 8 0 []).1) (firstT (parse t 8 0 []).1) 41 0 [startM (rul (parse t 8 0 []).1) (nullS (parse t 8 0 []).1) (firstT (parse t 8 0 []).1)] [] with
  | none => .inl 6
  | some r => .inr r
theorem tabR_bad {t : ByteArray} (h : (gErr t).1 ≠ 0) : tabR t = .inl (gErr t).1 := by unfold tabR; rw [if_pos h]
theorem tabR_many {t : ByteArray} (h : (gErr t).1 = 0) (k : tabM (rul (parse t 8 0 []).1) (nullS (parse t 8 0 []).1) (firstT (parse t 8 0 []).1) 41 0 [startM (rul (parse t 8 0 []).1) (nullS (parse t 8 0 []).1) (firstT (parse t 8 0 []).1)] [] = none) : tabR t = .inl 6 := by
  unfold tabR; rw [if_neg (by simp [h]), k]
theorem tabR_some {t : ByteArray} (h : (gErr t).1 = 0) {r : Tb} (k : tabM (rul (parse t 8 0 []).1) (nullS (parse t 8 0 []).1) (firstT (parse t 8 0 []).1) 41 0 [startM (rul (parse t 8 0 []).1) (nullS (parse t 8 0 []).1) (firstT (parse t 8 0 []).1)] [] = some r) : tabR t = .inr r := by
  unfold tabR; rw [if_neg (by simp [h]), k]
/-- the program has no table -/
theorem tabR_err {t : ByteArray} {x : Nat} (h : TErr t x) (hx : x ≠ 0) : tabR t = .inl x := by
  rcases h with ⟨h1, rfl⟩ | ⟨h0, n, S, c, hS⟩
  · exact tabR_bad h1
  · obtain ⟨a, b⟩ := gErr_zero h0
    obtain ⟨rfl, hn, hF⟩ := err_tab a b hx hS
    have := hF (41 - n)
    rw [show 41 - n + n = 41 from by omega] at this
    exact tabR_many h0 this
/-- the program's table is the one -/
structure TIs (t : ByteArray) (S : List Sd) (M : List (List (Nat × Nat))) : Prop where
  tab : tabR t = .inr (mOf S, M)
  tos : TosOk S S.length M
  ok : SsOk (rul (parse t 8 0 []).1) S
  pos : 0 < S.length
  l40 : S.length ≤ 40
theorem tabR_good {t : ByteArray} {S : List Sd} {c : Nat} (h : TGood t S c) : ∃ M, TIs t S M := by
  obtain ⟨a, b⟩ := gErr_zero h.1
  obtain ⟨M, h1, h2, h3, h4⟩ := good_tab a b h
  have := h4 (41 - S.length) (by have := h.2.2.1; omega)
  rw [show 41 - S.length + S.length = 41 from by have := h.2.2.1; omega] at this
  exact ⟨M, tabR_some h.1 this, h1, h2, h3, h.2.2.1⟩

def stV : Nat ⊕ Tb → Nat × Nat
  | .inl x => (0, x)
  | .inr r => (r.1.length, 0)
def stepV (n : Int) (s : ByteArray) : Nat ⊕ Tb → Int × Nat
  | .inl x => (0, x)
  | .inr r => if 0 ≤ n ∧ n < r.1.length then if ltrW s = false then (0, 5) else (toM (r.2.getD n.toNat []) (ch s 0), 0) else (0, 7)
def actV (L : List Ru) (n : Int) (s : ByteArray) : Nat ⊕ Tb → ByteArray × Nat
  | .inl x => (⟨#[]⟩, x)
  | .inr r => if 0 ≤ n ∧ n < r.1.length then if sgnX s = false then (⟨#[]⟩, 5) else (wordsT (decide (0 ≤ toM (r.2.getD n.toNat []) (ch s 0))) (endsL L (r.1.getD n.toNat []) (ch s 0)), 0) else (⟨#[]⟩, 7)

theorem p_StatesV (t : ByteArray) (w : World) (ht : t.size ≤ 9223372036854775807) :
    Calls Tryz.prog 31 #[.string t] w fun e w' => e = .returned (.tuple #[.int .i64 ((stV (tabR t)).1 : Nat), .int .i64 ((stV (tabR t)).2 : Nat)]) ∧ Fr [] w w' := by
  refine (p_States t w ht).mono ?_
  rintro e w' ⟨hf, n, x, rfl, h1, h2⟩
  refine ⟨?_, hf⟩
  by_cases hx : x = 0
  · obtain ⟨S, c, hG, rfl⟩ := h2 hx
    obtain ⟨M, hM⟩ := tabR_good hG
    rw [hM.tab, hx]
    show _ = Ending.returned (.tuple #[.int .i64 ((mOf S).length : Nat), .int .i64 ((0 : Nat) : Int)])
    rw [mOf_len]
  · obtain ⟨rfl, hE⟩ := h1 hx
    rw [tabR_err hE hx]; rfl
theorem p_StepV (t : ByteArray) (n : Int) (s : ByteArray) (w : World) (ht : t.size ≤ 9223372036854775807) :
    Calls Tryz.prog 33 #[.string t, .int .i64 n, .string s] w fun e w' => e = .returned (.tuple #[.int .i64 (stepV n s (tabR t)).1, .int .i64 ((stepV n s (tabR t)).2 : Nat)]) ∧ Fr [] w w' := by
  refine (p_Step t n s w ht).mono ?_
  rintro e w' ⟨hf, y, x, rfl, h⟩
  refine ⟨?_, hf⟩
  suffices hs : stepV n s (tabR t) = (y, x) by rw [hs]
  rcases h with ⟨hE, hx, rfl⟩ | ⟨S, c, hG, h⟩
  · rw [tabR_err hE hx]; rfl
  · obtain ⟨M, hM⟩ := tabR_good hG
    rw [hM.tab]
    unfold stepV
    dsimp only
    rw [mOf_len]
    rcases h with ⟨h1, rfl, rfl⟩ | ⟨h1, h2, rfl, rfl⟩ | ⟨h1, h2, rfl, rfl⟩
    · rw [if_neg h1]
    · rw [if_pos h1, if_pos h2]
    · rw [if_pos h1, if_neg (by rw [h2]; simp), step_eq hM.tos (show n.toNat < S.length by omega)]
theorem repL_getD (S : List Sd) (n : Nat) (h : n < S.length) : (mOf S).getD n [] = repL (sget S n).A := by
  unfold mOf
  rw [List.getD_eq_getElem?_getD, List.getElem?_map, List.getElem?_eq_getElem h, sget_eq S n h, Option.map_some, Option.getD_some]
theorem p_ActsV (t : ByteArray) (n : Int) (s : ByteArray) (w : World) (ht : t.size ≤ 9223372036854775807) :
    Calls Tryz.prog 35 #[.string t, .int .i64 n, .string s] w fun e w' => e = .returned (.tuple #[.string (actV (rul (parse t 8 0 []).1) n s (tabR t)).1, .int .i64 ((actV (rul (parse t 8 0 []).1) n s (tabR t)).2 : Nat)]) ∧ Fr [] w w' := by
  refine (p_Acts t n s w ht).mono ?_
  rintro e w' ⟨hf, y, x, rfl, h⟩
  refine ⟨?_, hf⟩
  suffices hs : actV (rul (parse t 8 0 []).1) n s (tabR t) = (y, x) by rw [hs]
  rcases h with ⟨hE, hx, rfl⟩ | ⟨S, c, hG, h⟩
  · rw [tabR_err hE hx]; rfl
  · obtain ⟨M, hM⟩ := tabR_good hG
    rw [hM.tab]
    unfold actV
    dsimp only
    rw [mOf_len]
    rcases h with ⟨h1, rfl, rfl⟩ | ⟨h1, h2, rfl, rfl⟩ | ⟨h1, h2, rfl, rfl⟩
    · rw [if_neg h1]
    · rw [if_pos h1, if_pos h2]
    · have hs : sigB (ch s 0) = true := by unfold sgnX at h2; rw [Bool.and_eq_true] at h2; exact h2.2
      rw [if_pos h1, if_neg (by rw [h2]; simp), repL_getD S _ (by omega)]
      congr 1
      exact (acts_eq hM.ok hM.tos (show n.toNat < S.length by omega) (by omega) hs).symm
end Go.Proofs.YtkglggkkbmmjkaaGreatDoor

namespace Go.Proofs.YtkglggkkbmmjkaaGreatDoor
open Go.RowKit

/-- the table that lies in memory -/
structure RtV (w w' : World) (L : List Ru) (N : Nat → Bool) (r : Tb) (mb q cq fq Bs : Nat) (T : Nat → Nat → Bool) (gS cS : Nat) (ls : List Sl) (gT cT : Nat) (ms : List MSl) : Prop where
  rt : RtS w w' mb q cq fq Bs L N T (.slice (some ⟨gS, 0, none⟩) ls.length cS) ls (.slice (some ⟨gT, 0, none⟩) ms.length cT) ms (.slice none 0 0) []
  sts : ls.map (·.l) = r.1
  mvs : ms.map (·.m) = r.2
  len : ms.length = ls.length
  pos : 0 < ls.length
  l40 : ls.length ≤ 40
/-- what table hands back, by the plain function -/
def RTabV (t : ByteArray) (w : World) (e : Ending) (w' : World) : Prop :=
  Fr [] w w' ∧ (∀ x, tabR t = .inl x → e = .returned (.tuple #[.pointer none, .int .i64 (x : Nat)]) ∧ x ≠ 0) ∧
  ∀ r, tabR t = .inr r → ∃ mb q cq fq Bs T gS cS ls gT cT ms, e = .returned (.tuple #[.pointer (some ⟨mb, 0, none⟩), .int .i64 0]) ∧ RtV w w' (rul (parse t 8 0 []).1) (nullS (parse t 8 0 []).1) r mb q cq fq Bs T gS cS ls gT cT ms
theorem stOf_get {rs : List Ru} (h : 0 < rs.length) : stOf rs = (rget rs 0).L := by
  cases rs with
  | nil => exact absurd h (by simp)
  | cons r rs => rfl
theorem r_tableV (t : ByteArray) (w : World) (ht : t.size ≤ 9223372036854775807) :
    Calls Tryz.prog 79 #[.string t] w fun e w' => RTabV t w e w' := by
  by_cases h0 : (rErr t).1 = 0
  · refine (r_table_good t w ht h0).mono ?_
    rintro e w' ⟨hf, rs, r0, T, rfl, hpos, rfl, hT, h1, h2⟩
    have hg : (gErr t).1 = 0 := by rw [gErr_eq]; exact h0
    have hr : (⟨0, ⟨#[UInt8.ofNat (rget (parse t 8 0 []).1 0).L]⟩, 0⟩ : Ru) :: (parse t 8 0 []).1 = rul (parse t 8 0 []).1 := by
      unfold rul rul0; rw [stOf_get hpos]
    rw [hr, tabM_congr hT, startM_congr hT] at h1 h2
    refine ⟨hf, fun x hx => ?_, fun r hx => ?_⟩
    · cases hm : tabM (rul (parse t 8 0 []).1) (nullS (parse t 8 0 []).1) (firstT (parse t 8 0 []).1) 41 0 [startM (rul (parse t 8 0 []).1) (nullS (parse t 8 0 []).1) (firstT (parse t 8 0 []).1)] [] with
      | none =>
        rw [tabR_many hg hm] at hx
        cases hx
        exact ⟨h1 hm, by omega⟩
      | some r => rw [tabR_some hg hm] at hx; cases hx
    · cases hm : tabM (rul (parse t 8 0 []).1) (nullS (parse t 8 0 []).1) (firstT (parse t 8 0 []).1) 41 0 [startM (rul (parse t 8 0 []).1) (nullS (parse t 8 0 []).1) (firstT (parse t 8 0 []).1)] [] with
      | none => rw [tabR_many hg hm] at hx; cases hx
      | some r' =>
        rw [tabR_some hg hm] at hx
        cases hx
        obtain ⟨mb, q, cq, fq, Bs, vS, ls, vT, ms, he, hrt, e1, e2, e3, e4, e5⟩ := h2 _ _ hm
        obtain ⟨gS, cS, rfl⟩ := slice_some hrt.sa.own e4
        obtain ⟨gT, cT, rfl⟩ := slice_some hrt.mt.own (by omega)
        exact ⟨mb, q, cq, fq, Bs, T, gS, cS, ls, gT, cT, ms, he, hrt, e1, e2, e3, e4, e5⟩
  · refine (r_table_bad t w ht h0).mono ?_
    rintro e w' ⟨rfl, hf⟩
    have hg : (gErr t).1 ≠ 0 := by rw [gErr_eq]; exact h0
    refine ⟨hf, fun x hx => ?_, fun r hx => ?_⟩
    · rw [tabR_bad hg] at hx
      cases hx
      rw [gErr_eq]; exact ⟨rfl, h0⟩
    · rw [tabR_bad hg] at hx; cases hx

set_option maxRecDepth 100000 in
set_option maxHeartbeats 1000000 in
theorem r_StatesV (t : ByteArray) (w : World) (ht : t.size ≤ 9223372036854775807) :
    Calls Tryz.prog 32 #[.string t] w fun e w' => e = .returned (.tuple #[.int .i64 ((stV (tabR t)).1 : Nat), .int .i64 ((stV (tabR t)).2 : Nat)]) ∧ Fr [] w w' := by
  cases htab : tabR t with
  | inl x =>
    have HT := hide htab
    clear htab
    go_enter Tryz.func32, Tryz.ntmps32
    go_wp2_with (go_at_call 79; refine (r_tableV t w ht).mono ?_; rintro e w1 ⟨hf, h1, _⟩; obtain ⟨rfl, hx⟩ := h1 x (unhide HT); have hxb : ((x : Int) != 0) = true := (by rw [bne_iff_ne]; omega); have HF := hide hf; clear hf h1)
    go_ret2
    exact ⟨rfl, unhide HF⟩
  | inr r =>
    have HT := hide htab
    clear htab
    go_enter Tryz.func32, Tryz.ntmps32
    go_wp2_with (go_at_call 79; refine (r_tableV t w ht).mono ?_; rintro e w1 ⟨hf, _, h2⟩; obtain ⟨mb, q, cq, fq, Bs, T, gS, cS, ls, gT, cT, ms, rfl, hv⟩ := h2 r (unhide HT); have HV := hide hv; have c0 := hv.rt.sa.cell; have HF := hide hf; clear hf h2 hv)
    go_ret2
    exact ⟨by show _ = Ending.returned (.tuple #[.int .i64 (r.1.length : Nat), .int .i64 ((0 : Nat) : Int)]); rw [← (unhide HV).sts, List.length_map]; rfl, unhide HF⟩

theorem getD_m (ms : List MSl) (k : Nat) (h : k < ms.length) : (ms.map (·.m)).getD k [] = ms[k].m := by
  rw [List.getD_eq_getElem?_getD, List.getElem?_map, List.getElem?_eq_getElem h]; rfl
theorem getD_l (ls : List Sl) (k : Nat) (h : k < ls.length) : (ls.map (·.l)).getD k [] = ls[k].l := by
  rw [List.getD_eq_getElem?_getD, List.getElem?_map, List.getElem?_eq_getElem h]; rfl
theorem stepV_out {n : Int} {s : ByteArray} {r : Tb} (h : ¬ (0 ≤ n ∧ n < r.1.length)) : stepV n s (.inr r) = (0, 7) := by unfold stepV; dsimp only; rw [if_neg h]
theorem stepV_bad {n : Int} {s : ByteArray} {r : Tb} (h : 0 ≤ n ∧ n < r.1.length) (hs : ltrW s = false) : stepV n s (.inr r) = (0, 5) := by unfold stepV; dsimp only; rw [if_pos h, if_pos hs]
theorem stepV_ok {n : Int} {s : ByteArray} {r : Tb} (h : 0 ≤ n ∧ n < r.1.length) (hs : ltrW s = true) : stepV n s (.inr r) = (toM (r.2.getD n.toNat []) (ch s 0), 0) := by unfold stepV; dsimp only; rw [if_pos h, if_neg (by rw [hs]; simp)]

set_option maxRecDepth 100000 in
set_option maxHeartbeats 2000000 in
theorem r_StepV (t : ByteArray) (n : Int) (s : ByteArray) (w : World) (ht : t.size ≤ 9223372036854775807) :
    Calls Tryz.prog 34 #[.string t, .int .i64 n, .string s] w fun e w' => e = .returned (.tuple #[.int .i64 (stepV n s (tabR t)).1, .int .i64 ((stepV n s (tabR t)).2 : Nat)]) ∧ Fr [] w w' := by
  cases htab : tabR t with
  | inl x =>
    have HT := hide htab
    clear htab
    go_enter Tryz.func34, Tryz.ntmps34
    go_wp2_with (go_at_call 79; refine (r_tableV t w ht).mono ?_; rintro e w1 ⟨hf, h1, _⟩; obtain ⟨rfl, hx⟩ := h1 x (unhide HT); have hxb : ((x : Int) != 0) = true := (by rw [bne_iff_ne]; omega); have HF := hide hf; clear hf h1)
    go_ret2
    exact ⟨rfl, unhide HF⟩
  | inr r =>
    have HT := hide htab
    clear htab
    by_cases hin : 0 ≤ n ∧ n < r.1.length
    · by_cases h1 : s.size = 1
      · have hc0 : ((s[0]'(by omega)).toNat : Int) = ((ch s 0 : Nat) : Int) := by rw [ch_eq s 0 (by omega)]
        have h1i : ((s.size : Int) != 1) = false := by rw [bne_eq_false_iff_eq]; omega
        obtain ⟨c, hc⟩ : ∃ c, ch s 0 = c := ⟨_, rfl⟩
        have hw : ltrW s = letB c := by unfold ltrW; rw [hc]; simp [h1]
        rw [hc] at hc0
        have HCC := hide hc
        clear hc
        obtain ⟨k, rfl⟩ : ∃ k : Nat, n = k := ⟨n.toNat, by omega⟩
        have hk : k < r.1.length := by omega
        have HK := hide hk
        cases hl : letB c
        · have HA := hide (stepV_bad hin (hw.trans hl))
          have hbb : bigB c = false := by unfold letB at hl; rw [Bool.or_eq_false_iff] at hl; exact hl.1
          have hss : smallB c = false := by unfold letB at hl; rw [Bool.or_eq_false_iff] at hl; exact hl.2
          clear hin hk hw hl
          go_enter Tryz.func34, Tryz.ntmps34
          go_wp2_with (first
            | (go_at_call 79; refine (r_tableV t w ht).mono ?_; rintro e w1 ⟨hf, _, h2⟩; obtain ⟨mb, q, cq, fq, Bs, T, gS, cS, ls, gT, cT, ms, rfl, hv⟩ := h2 r (unhide HT); have HV := hide hv; have hlt : k < ls.length := (by have := unhide HK; rw [← hv.sts, List.length_map] at this; exact this); have c0 := hv.rt.sa.cell; have HF := hide hf; clear hf h2 hv)
            | (go_at_call 63; refine (r_isBig_is _ false _ hbb).mono ?_; rintro e w' ⟨rfl, hw'⟩; rw [hw'])
            | (go_at_call 53; refine (r_isSmall_is _ false _ hss).mono ?_; rintro e w' ⟨rfl, hw'⟩; rw [hw']))
          go_ret2
          exact ⟨by rw [unhide HA]; rfl, unhide HF⟩
        · have HA := hide (stepV_ok hin (hw.trans hl))
          clear hin hk hw
          cases hbb : bigB c <;> cases hss : smallB c
          · unfold letB at hl; rw [hbb, hss] at hl; cases hl
          all_goals
            go_enter Tryz.func34, Tryz.ntmps34
            go_wp2_with (first
              | (go_at_call 79; refine (r_tableV t w ht).mono ?_; rintro e w1 ⟨hf, _, h2⟩; obtain ⟨mb, q, cq, fq, Bs, T, gS, cS, ls, gT, cT, ms, rfl, hv⟩ := h2 r (unhide HT); have HV := hide hv; have hlt : k < ls.length := (by have := unhide HK; rw [← hv.sts, List.length_map] at this; exact this); have c0 := hv.rt.sa.cell; have HF := hide hf; clear hf h2 hv)
              | (go_at_call 63; refine (r_isBig_is _ _ _ hbb).mono ?_; rintro e w' ⟨rfl, hw'⟩; rw [hw'])
              | (go_at_call 53; refine (r_isSmall_is _ _ _ hss).mono ?_; rintro e w' ⟨rfl, hw'⟩; rw [hw'])
              | (go_at_call 83; refine (r_to Bs mb gT cT ms k c _ (unhide HV).rt.mt (by rw [(unhide HV).len]; exact hlt)).mono ?_; rintro e w' ⟨rfl, hw'⟩; rw [hw']))
            go_ret2
            exact ⟨by rw [unhide HA, ← (unhide HV).mvs, unhide HCC, getD_m _ _ (by rw [(unhide HV).len]; exact hlt)]; rfl, unhide HF⟩
      · have h1i : ((s.size : Int) != 1) = true := by rw [bne_iff_ne]; omega
        have HA := hide (stepV_bad (s := s) hin (by unfold ltrW; rw [show decide (s.size = 1) = false from by simpa using h1]; rfl))
        obtain ⟨k, rfl⟩ : ∃ k : Nat, n = k := ⟨n.toNat, by omega⟩
        have HK := hide (show k < r.1.length by omega)
        clear h1 hin
        go_enter Tryz.func34, Tryz.ntmps34
        go_wp2_with (first
          | (go_at_call 79; refine (r_tableV t w ht).mono ?_; rintro e w1 ⟨hf, _, h2⟩; obtain ⟨mb, q, cq, fq, Bs, T, gS, cS, ls, gT, cT, ms, rfl, hv⟩ := h2 r (unhide HT); have HV := hide hv; have hlt : k < ls.length := (by have := unhide HK; rw [← hv.sts, List.length_map] at this; exact this); have c0 := hv.rt.sa.cell; have HF := hide hf; clear hf h2 hv))
        go_ret2
        exact ⟨by rw [unhide HA]; rfl, unhide HF⟩
    · have HA := hide (stepV_out (s := s) hin)
      have HIn := hide hin
      clear hin
      by_cases h0 : n < 0
      · go_enter Tryz.func34, Tryz.ntmps34
        go_wp2_with (first
          | (go_at_call 79; refine (r_tableV t w ht).mono ?_; rintro e w1 ⟨hf, _, h2⟩; obtain ⟨mb, q, cq, fq, Bs, T, gS, cS, ls, gT, cT, ms, rfl, hv⟩ := h2 r (unhide HT); have HV := hide hv; have c0 := hv.rt.sa.cell; have HF := hide hf; clear hf h2 hv))
        go_ret2
        exact ⟨by rw [unhide HA]; rfl, unhide HF⟩
      · go_enter Tryz.func34, Tryz.ntmps34
        go_wp2_with (first
          | (go_at_call 79; refine (r_tableV t w ht).mono ?_; rintro e w1 ⟨hf, _, h2⟩; obtain ⟨mb, q, cq, fq, Bs, T, gS, cS, ls, gT, cT, ms, rfl, hv⟩ := h2 r (unhide HT); have HV := hide hv; have hge : (ls.length : Int) ≤ n := (by have h := unhide HIn; rw [← hv.sts, List.length_map] at h; omega); have c0 := hv.rt.sa.cell; have HF := hide hf; clear hf h2 hv))
        go_ret2
        exact ⟨by rw [unhide HA]; rfl, unhide HF⟩

theorem actV_out {L : List Ru} {n : Int} {s : ByteArray} {r : Tb} (h : ¬ (0 ≤ n ∧ n < r.1.length)) : actV L n s (.inr r) = (⟨#[]⟩, 7) := by unfold actV; dsimp only; rw [if_neg h]
theorem actV_bad {L : List Ru} {n : Int} {s : ByteArray} {r : Tb} (h : 0 ≤ n ∧ n < r.1.length) (hs : sgnX s = false) : actV L n s (.inr r) = (⟨#[]⟩, 5) := by unfold actV; dsimp only; rw [if_pos h, if_pos hs]
theorem actV_ok {L : List Ru} {n : Int} {s : ByteArray} {r : Tb} (h : 0 ≤ n ∧ n < r.1.length) (hs : sgnX s = true) : actV L n s (.inr r) = (wordsT (decide (0 ≤ toM (r.2.getD n.toNat []) (ch s 0))) (endsL L (r.1.getD n.toNat []) (ch s 0)), 0) := by unfold actV; dsimp only; rw [if_pos h, if_neg (by rw [hs]; simp)]
theorem canF_first (st : Bool) (ru : Nat → Bool) : canF (false || st) (fun k => false || ru k) = canF st ru := by simp
/-- what table's own blocks are not -/
theorem RtV.fresh {w w' : World} {L : List Ru} {N : Nat → Bool} {r : Tb} {mb q cq fq Bs : Nat} {T : Nat → Nat → Bool} {gS cS : Nat} {ls : List Sl} {gT cT : Nat} {ms : List MSl} (h : RtV w w' L N r mb q cq fq Bs T gS cS ls gT cT ms) {cb : Nat} (hc : w'.heap.size ≤ cb) {s : Nat} (hs : s < ls.length) : cb ≠ mb ∧ cb ≠ q ∧ cb ≠ fq ∧ cb ≠ gS ∧ cb ≠ ls[s].g := by
  have h1 := h.rt.bs
  have h2 := h.rt.sa.base
  have h3 := h.rt.hq
  have h4 := h.rt.hf
  have h5 := (h.rt.sa.own.lt gS rfl).2
  have h6 := (h.rt.sa.its ls[s] (List.getElem_mem hs)).2.1
  exact ⟨by omega, by omega, by omega, by omega, by omega⟩
theorem RtV.fr0 {w w' w2 : World} {L : List Ru} {N : Nat → Bool} {r : Tb} {mb q cq fq Bs : Nat} {T : Nat → Nat → Bool} {gS cS : Nat} {ls : List Sl} {gT cT : Nat} {ms : List MSl} (h : RtV w w' L N r mb q cq fq Bs T gS cS ls gT cT ms) (k : Fr [] w' w2) : RtV w w2 L N r mb q cq fq Bs T gS cS ls gT cT ms := { h with rt := h.rt.fr0 k }

set_option maxRecDepth 100000 in
set_option maxHeartbeats 2000000 in
theorem r_ActsV (t : ByteArray) (n : Int) (s : ByteArray) (w : World) (ht : t.size ≤ 9223372036854775807) :
    Calls Tryz.prog 36 #[.string t, .int .i64 n, .string s] w fun e w' => e = .returned (.tuple #[.string (actV (rul (parse t 8 0 []).1) n s (tabR t)).1, .int .i64 ((actV (rul (parse t 8 0 []).1) n s (tabR t)).2 : Nat)]) ∧ Fr [] w w' := by
  have hsx : sgnW s = sgnX s := rfl
  cases htab : tabR t with
  | inl x =>
    have HT := hide htab
    clear htab
    go_enter Tryz.func36, Tryz.ntmps36
    go_wp2_with (go_at_call 79; refine (r_tableV t w ht).mono ?_; rintro e w1 ⟨hf, h1, _⟩; obtain ⟨rfl, hx⟩ := h1 x (unhide HT); have hxb : ((x : Int) != 0) = true := (by rw [bne_iff_ne]; omega); have HF := hide hf; clear hf h1)
    go_ret2
    exact ⟨rfl, unhide HF⟩
  | inr r =>
    have HT := hide htab
    clear htab
    by_cases hin : 0 ≤ n ∧ n < r.1.length
    · obtain ⟨k, rfl⟩ : ∃ k : Nat, n = k := ⟨n.toNat, by omega⟩
      have HK := hide (show k < r.1.length by omega)
      cases hl : sgnX s
      · have HA := hide (actV_bad (L := rul (parse t 8 0 []).1) hin hl)
        rw [hl] at hsx
        have HSX := hide hsx
        clear hin hl hsx
        go_enter Tryz.func36, Tryz.ntmps36
        go_wp2_with (first
          | (go_at_call 79; refine (r_tableV t w ht).mono ?_; rintro e w1 ⟨hf, _, h2⟩; obtain ⟨mb, q, cq, fq, Bs, T, gS, cS, ls, gT, cT, ms, rfl, hv⟩ := h2 r (unhide HT); have HV := hide hv; have hlt : k < ls.length := (by have := unhide HK; rw [← hv.sts, List.length_map] at this; exact this); have c0 := hv.rt.sa.cell; have HF := hide hf; clear hf h2 hv)
          | (go_at_call 87; refine (r_isSign s _).mono ?_; rintro e w' ⟨rfl, hw'⟩; rw [hw', unhide HSX]))
        go_ret2
        exact ⟨by rw [unhide HA]; rfl, unhide HF⟩
      · have HA := hide (actV_ok (L := rul (parse t 8 0 []).1) hin hl)
        have h1 : s.size = 1 := by unfold sgnX at hl; rw [Bool.and_eq_true] at hl; exact of_decide_eq_true hl.1
        have hc0 : ((s[0]'(by omega)).toNat : Int) = ((ch s 0 : Nat) : Int) := by rw [ch_eq s 0 (by omega)]
        have h1' : (0 : Int) < (s.size : Int) := by omega
        obtain ⟨c, hc⟩ : ∃ c, ch s 0 = c := ⟨_, rfl⟩
        rw [hc] at hc0
        have HCC := hide hc
        rw [hl] at hsx
        have HSX := hide hsx
        clear hin hl hsx hc
        go_enter Tryz.func36, Tryz.ntmps36
        go_wp2_with (first
          | (go_at_call 79; refine (r_tableV t w ht).mono ?_; rintro e w1 ⟨hf, _, h2⟩; obtain ⟨mb, q, cq, fq, Bs, T, gS, cS, ls, gT, cT, ms, rfl, hv⟩ := h2 r (unhide HT); have HV := hide hv; have hlt : k < ls.length := (by have := unhide HK; rw [← hv.sts, List.length_map] at this; exact this); have c0 := hv.rt.sa.cell; have HF := hide hf; clear hf h2 hv)
          | (go_at_call 87; refine (r_isSign s _).mono ?_; rintro e w' ⟨rfl, hw'⟩; rw [hw', unhide HSX])
          | (refine wpList_box_blk rfl 139 (.tmp 35) rfl (some 36) rfl 10 (canF false fun _ => false) (by rfl) ?_; intro w2 hf2 hs2 hB2; have HV2 := hide ((unhide HV).fr0 hf2); have HB2 := hide hB2; have HNe := hide ((unhide HV).fresh (Nat.le_refl _) hlt); have HF2 := hide ((unhide HF).trans0 hf2); have HFs := hide (unhide HF).size; clear hf2 hs2 hB2)
          | (go_at_call 88; refine (r_can Bs mb q cq fq gS cS gT cT w1.heap.size _ _ T ls ms k c false (fun _ => false) _ (by exact (unhide HV2).rt.tb) (by exact (unhide HV2).rt.sa) (by exact (unhide HV2).rt.mt) hlt (by rw [(unhide HV2).len]; exact hlt) (by exact (unhide HV2).rt.ok _ (List.getElem_mem hlt)) (by exact unhide HB2) (by exact unhide HNe)).mono ?_; rintro e w3 ⟨rfl, hf3, hB3⟩; rw [canF_first] at hB3; have HB3 := hide hB3; have HF3 := hide ((unhide HF2).trans1 hf3 (Or.inr (unhide HFs))); clear hf3 hB3)
          | (go_at_call 89; refine (r_words w1.heap.size _ _ _ (by exact unhide HB3)).mono ?_; rintro e w4 ⟨rfl, hf4⟩; have HF4 := hide ((unhide HF3).trans0 hf4); clear hf4))
        go_ret2
        exact ⟨by rw [unhide HA, ← (unhide HV).mvs, ← (unhide HV).sts, unhide HCC, show ((k : Nat) : Int).toNat = k from rfl, getD_m _ _ (by rw [(unhide HV).len]; exact hlt), getD_l _ _ hlt]; rfl, unhide HF4⟩
    · have HA := hide (actV_out (L := rul (parse t 8 0 []).1) (s := s) hin)
      have HIn := hide hin
      clear hin
      by_cases h0 : n < 0
      · go_enter Tryz.func36, Tryz.ntmps36
        go_wp2_with (first
          | (go_at_call 79; refine (r_tableV t w ht).mono ?_; rintro e w1 ⟨hf, _, h2⟩; obtain ⟨mb, q, cq, fq, Bs, T, gS, cS, ls, gT, cT, ms, rfl, hv⟩ := h2 r (unhide HT); have HV := hide hv; have c0 := hv.rt.sa.cell; have HF := hide hf; clear hf h2 hv))
        go_ret2
        exact ⟨by rw [unhide HA]; rfl, unhide HF⟩
      · go_enter Tryz.func36, Tryz.ntmps36
        go_wp2_with (first
          | (go_at_call 79; refine (r_tableV t w ht).mono ?_; rintro e w1 ⟨hf, _, h2⟩; obtain ⟨mb, q, cq, fq, Bs, T, gS, cS, ls, gT, cT, ms, rfl, hv⟩ := h2 r (unhide HT); have HV := hide hv; have hge : (ls.length : Int) ≤ n := (by have h := unhide HIn; rw [← hv.sts, List.length_map] at h; omega); have c0 := hv.rt.sa.cell; have HF := hide hf; clear hf h2 hv))
        go_ret2
        exact ⟨by rw [unhide HA]; rfl, unhide HF⟩
end Go.Proofs.YtkglggkkbmmjkaaGreatDoor
