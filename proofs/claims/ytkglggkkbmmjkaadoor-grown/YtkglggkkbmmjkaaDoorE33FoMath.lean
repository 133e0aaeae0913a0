import Derived.Test.YtkglggkkbmmjkaaDoorE32LrB2
import Derived.Test.YtkglggkkbmmjkaaDoorE27TbDef
import Derived.Test.YtkglggkkbmmjkaaDoorE11RList
import Derived.Test.YtkglggkkbmmjkaaDoorE12PTab0
namespace Go.Proofs.YtkglggkkbmmjkaaDoor
open Go.RowKit

/-- as Pd, with the replacements that are begun -/
inductive Pe (L : List Ru) : List Nat → List Nat → Nat → Nat → Nat → Prop
  | here {a : Nat} {l : List Nat} : smallB a = true → Pe L (a :: l) [] a 0 0
  | down {k a n s : Nat} {l u : List Nat} : 1 ≤ k → k < L.length → Pe L (bytes (rget L k).R) u a n s → Pe L ((rget L k).L :: l) u a n (s + 1)
  | skip {c m a n s : Nat} {l w x u : List Nat} : Ds L [c] w x m → Pe L l u a n s → Pe L (c :: l) (w ++ u) a (m + n) (m + s)
theorem Pe.pd {L : List Ru} {l u : List Nat} {a n s : Nat} (h : Pe L l u a n s) : Pd L l u a n ∧ n ≤ s := by
  induction h with
  | here ha => exact ⟨Pd.here ha, Nat.le_refl _⟩
  | down h1 h2 _ ih => exact ⟨Pd.down h1 h2 ih.1, by omega⟩
  | skip hd _ ih => exact ⟨Pd.skip hd ih.1, by omega⟩
theorem Pd.pe {L : List Ru} {l u : List Nat} {a n : Nat} (h : Pd L l u a n) : ∃ s, Pe L l u a n s := by
  induction h with
  | here ha => exact ⟨0, Pe.here ha⟩
  | down h1 h2 _ ih => obtain ⟨s, hs⟩ := ih; exact ⟨s + 1, Pe.down h1 h2 hs⟩
  | skip hd _ ih => obtain ⟨s, hs⟩ := ih; exact ⟨_, Pe.skip hd hs⟩
theorem Pe.nil {L : List Ru} {u : List Nat} {a n s : Nat} (h : Pe L [] u a n s) : False := by cases h
theorem Pe.more {L : List Ru} {c a n s : Nat} {u : List Nat} (h : Pe L [c] u a n s) (l : List Nat) : Pe L (c :: l) u a n s := by
  cases h with
  | here ha => exact Pe.here ha
  | down h1 h2 h => exact Pe.down h1 h2 h
  | skip _ h => exact absurd h.nil (fun h => h)
theorem Pe.split {L : List Ru} {l u : List Nat} {a n s : Nat} (h : Pe L l u a n s) : ∃ l1 c l2 v1 u' x m n' s', l = l1 ++ c :: l2 ∧ Ds L l1 v1 x m ∧ u = v1 ++ u' ∧ n = m + n' ∧ s = m + s' ∧ Pe L [c] u' a n' s' := by
  induction h with
  | @here a l ha => exact ⟨[], a, l, [], [], [], 0, 0, 0, rfl, Ds.nil, rfl, rfl, rfl, Pe.here ha⟩
  | @down k a n s l u h1 h2 h ih => exact ⟨[], _, l, [], u, [], 0, n, s + 1, rfl, Ds.nil, rfl, by omega, by omega, Pe.down h1 h2 h⟩
  | @skip c m a n s l w x u hd h ih =>
    obtain ⟨l1, c', l2, v1, u', x', m', n', s', rfl, e2, rfl, rfl, rfl, e6⟩ := ih
    exact ⟨c :: l1, c', l2, w ++ v1, u', x ++ x', m + m', n', s', rfl, hd.app e2, by simp, by omega, by omega, e6⟩
theorem Pe.build {L : List Ru} {c a n s : Nat} {u : List Nat} (h : Pe L [c] u a n s) (l2 : List Nat) : ∀ (l1 : List Nat) {v x : List Nat} {m : Nat}, Ds L l1 v x m → Pe L (l1 ++ c :: l2) (v ++ u) a (m + n) (m + s)
  | [], v, x, m, hd => by
    obtain ⟨rfl, _, rfl⟩ := hd.nil_inv
    simpa using h.more l2
  | d :: l1, v, x, m, hd => by
    obtain ⟨w1, x1, n1, w2, x2, n2, h1, h2, rfl, _, rfl⟩ := hd.cons_inv
    have := Pe.skip h1 (Pe.build h l2 l1 h2)
    rw [List.append_assoc, Nat.add_assoc, Nat.add_assoc]
    exact this
def MinP (L : List Ru) (a c : Nat) (u : List Nat) (s : Nat) : Prop := (∃ n, Pe L [c] u a n s) ∧ ∀ t, (∃ n, Pe L [c] u a n t) → s ≤ t
theorem minP_ex {L : List Ru} {a c n s : Nat} {u : List Nat} (h : Pe L [c] u a n s) : ∃ m, MinP L a c u m ∧ m ≤ s := by
  obtain ⟨m, h1, h2, h3⟩ := least (P := fun s => ∃ n, Pe L [c] u a n s) s ⟨n, h⟩
  exact ⟨m, ⟨h1, h3⟩, h2⟩
theorem MinP.uniq {L : List Ru} {a c s t : Nat} {u : List Nat} (h : MinP L a c u s) (k : MinP L a c u t) : s = t := Nat.le_antisymm (h.2 t k.1) (k.2 s h.1)
/-- what is done ahead of a letter -/
theorem pre_claim {L : List Ru} {E : Nat} (hE : ∀ c x n, Ds L [c] [] x n → ∃ x' m, m ≤ E ∧ Ds L [c] [] x' m) (a : Nat) : ∀ (j s c : Nat) (u : List Nat), u.length ≤ j → MinP L a c u s → ∃ U : Nat → Bool, s ≤ 2 * u.length * cst L E + sumU (fun k => 1 + (rget L k).R.size * E) U (L.length - 1) ∧ ∀ k, U k = true → 1 ≤ k ∧ k < L.length ∧ ∃ s', MinP L a (rget L k).L u s' ∧ s' ≤ s := by
  intro j
  induction j with
  | zero =>
    intro s
    induction s using Nat.strongRecOn with
    | _ s ihs =>
      intro c u hu hm
      have hu0 : u = [] := List.length_eq_zero_iff.1 (by omega)
      subst hu0
      obtain ⟨n, hn⟩ := hm.1
      generalize hl : [c] = l at hn
      generalize hu' : ([] : List Nat) = u at hn
      cases hn with
      | here ha => exact ⟨fun _ => false, by omega, fun k hk => by cases hk⟩
      | skip _ h =>
        obtain ⟨_, rfl⟩ := List.cons.inj hl
        exact absurd h.nil (fun h => h)
      | @down k a n s l u k1 k2 h =>
        obtain ⟨rfl, rfl⟩ := List.cons.inj hl
        subst hu'
        obtain ⟨l1, c', l2, v1, u', x, m, n', s', e1, e2, e3, e4, e5, e6⟩ := h.split
        obtain ⟨rfl, rfl⟩ := List.append_eq_nil_iff.1 e3.symm
        obtain ⟨s0, hs0, hs0'⟩ := minP_ex e6
        obtain ⟨n0, hn0⟩ := hs0.1
        obtain ⟨x1, m1, hm1, hd1⟩ := eps_list (L := L) (M := E) l1 (fun c hc => by
          obtain ⟨x', m', _, hd⟩ := eps_mem e2 c hc
          exact hE _ _ _ hd)
        have hle := hm.2 _ ⟨_, Pe.down (l := []) k1 k2 (by rw [e1]; exact hn0.build l2 l1 hd1)⟩
        have hl1 : l1.length ≤ (rget L k).R.size := by rw [← bytes_len, e1, List.length_append]; omega
        have hl1E : l1.length * E ≤ (rget L k).R.size * E := Nat.mul_le_mul_right _ hl1
        obtain ⟨U0, hU0, hU1⟩ := ihs s0 (by omega) c' [] (by simp) hs0
        have hkU : U0 k = false := by
          cases e : U0 k
          · rfl
          · obtain ⟨_, _, t, h2, h3⟩ := hU1 k e
            have := h2.uniq hm
            omega
        refine ⟨fun i => U0 i || i == k, ?_, fun i hi => ?_⟩
        · rw [sumU_add hkU k1 _ (by omega)]; omega
        · rw [Bool.or_eq_true] at hi
          rcases hi with hi | hi
          · obtain ⟨a', b, t, h2, h3⟩ := hU1 i hi
            exact ⟨a', b, t, h2, by omega⟩
          · have : i = k := by simpa using hi
            subst this
            exact ⟨k1, k2, _, hm, Nat.le_refl _⟩
  | succ j ihj =>
    intro s
    induction s using Nat.strongRecOn with
    | _ s ihs =>
      intro c u hu hm
      obtain ⟨n, hn⟩ := hm.1
      generalize hl : [c] = l at hn
      generalize hu' : u = uu at hn
      cases hn with
      | here ha => exact ⟨fun _ => false, by omega, fun k hk => by cases hk⟩
      | skip _ h =>
        obtain ⟨_, rfl⟩ := List.cons.inj hl
        exact absurd h.nil (fun h => h)
      | @down k a n s l u k1 k2 h =>
        obtain ⟨rfl, rfl⟩ := List.cons.inj hl
        subst hu'
        obtain ⟨l1, c', l2, v1, u', x, m, n', s', e1, e2, e3, e4, e5, e6⟩ := h.split
        obtain ⟨s0, hs0, hs0'⟩ := minP_ex e6
        obtain ⟨n0, hn0⟩ := hs0.1
        have hl1 : l1.length ≤ (rget L k).R.size := by rw [← bytes_len, e1, List.length_append]; omega
        have hl1E : l1.length * E ≤ (rget L k).R.size * E := Nat.mul_le_mul_right _ hl1
        by_cases hv : v1 = []
        · subst hv
          rw [List.nil_append] at e3
          subst e3
          obtain ⟨x1, m1, hm1, hd1⟩ := eps_list (L := L) (M := E) l1 (fun c hc => by
            obtain ⟨x', m', _, hd⟩ := eps_mem e2 c hc
            exact hE _ _ _ hd)
          have hle := hm.2 _ ⟨_, Pe.down (l := []) k1 k2 (by rw [e1]; exact hn0.build l2 l1 hd1)⟩
          obtain ⟨U0, hU0, hU1⟩ := ihs s0 (by omega) c' u hu hs0
          have hkU : U0 k = false := by
            cases e : U0 k
            · rfl
            · obtain ⟨_, _, t, h2, h3⟩ := hU1 k e
              have := h2.uniq hm
              omega
          refine ⟨fun i => U0 i || i == k, ?_, fun i hi => ?_⟩
          · rw [sumU_add hkU k1 _ (by omega)]; omega
          · rw [Bool.or_eq_true] at hi
            rcases hi with hi | hi
            · obtain ⟨a', b, t, h2, h3⟩ := hU1 i hi
              exact ⟨a', b, t, h2, by omega⟩
            · have : i = k := by simpa using hi
              subst this
              exact ⟨k1, k2, _, hm, Nat.le_refl _⟩
        · obtain ⟨p, mx, hp⟩ := prt_of e2
          obtain ⟨q1, q2, q3, q4⟩ := hp.le
          have hp0 : p ≠ 0 := fun e => hv (q4 e)
          obtain ⟨x1, m1, hm1, hd1⟩ := hp.bound hE (C := cst L E) (fun c' w' hne' _ ⟨x', n', hd'⟩ => by
            obtain ⟨x2, m2, h2, h3⟩ := way_bound hE hne' hd'
            exact ⟨x2, m2, h2, h3⟩)
          have hle := hm.2 _ ⟨_, Pe.down (l := []) k1 k2 (by rw [e1, e3]; exact hn0.build l2 l1 hd1)⟩
          have hvl : 1 ≤ v1.length := List.length_pos_iff.2 hv
          have hul : u.length = v1.length + u'.length := by rw [e3, List.length_append]
          obtain ⟨U0, hU0, _⟩ := ihj s0 c' u' (by omega) hs0
          have hU := sumU_all (fun k => 1 + (rget L k).R.size * E) U0 (L.length - 1)
          have h1p : 1 * cst L E ≤ p * cst L E := Nat.mul_le_mul_right _ (by omega)
          refine ⟨fun i => false || i == k, ?_, fun i hi => ?_⟩
          · rw [sumU_one k1 (by omega), hul, Nat.mul_add, Nat.add_mul]
            unfold cst at *
            omega
          · have : i = k := by simpa using hi
            subst this
            exact ⟨k1, k2, _, hm, Nat.le_refl _⟩
theorem Rd_bnd {L : List Ru} (h : GrSz L) {S a n : Nat} {u : List Nat} (hu : u.length < 12) (hp : Pd L [S] u a n) : ∃ m, m < 1048576 ∧ Pd L [S] u a m := by
  obtain ⟨s, hs⟩ := hp.pe
  obtain ⟨s0, hs0, _⟩ := minP_ex hs
  obtain ⟨U0, hU0, _⟩ := pre_claim (E := 2048) (fun c x n hd => eps_bound h hd) a u.length s0 S u (Nat.le_refl _) hs0
  obtain ⟨m, hm⟩ := hs0.1
  have hU := sumU_all (fun k => 1 + (rget L k).R.size * 2048) U0 (L.length - 1)
  have hc := cst_le h
  have h1 : 2 * u.length * cst L 2048 ≤ 22 * cst L 2048 := Nat.mul_le_mul_right _ (by omega)
  obtain ⟨h2, h3⟩ := hm.pd
  refine ⟨m, ?_, h2⟩
  unfold cst at *
  omega
end Go.Proofs.YtkglggkkbmmjkaaDoor

namespace Go.Proofs.YtkglggkkbmmjkaaDoor
open Go.RowKit

/-- the rules that can be put back, for both -/
theorem putback_eq {L : List Ru} {N : Nat → Bool} {T : Nat → Nat → Bool} {A : Nat → Bool} (hA : SOk L A) {c : Nat} (hc : sigB c = true) {r : Nat} (hr : r < 9) : ruS (planOf L N T) A c r = endsL L (repL A) c r := by
  apply Bool.eq_iff_iff.2
  unfold ruS endsL ruA
  rw [Bool.and_eq_true, decide_eq_true_eq, List.any_eq_true, List.any_eq_true]
  have hso := sgO_lt hc
  constructor
  · rintro ⟨_, t, ht, h⟩
    have ht := List.mem_range.1 ht
    rw [Bool.and_eq_true] at h
    obtain ⟨h1, h2⟩ := h
    have h1' : (decide (r < L.length) && t == (rget L r).R.size) = true := h1
    rw [Bool.and_eq_true, decide_eq_true_eq, beq_iff_eq] at h1'
    have e1 : (r * 135 + t * 27 + sgO c) / 135 = r := by omega
    have e2 : (r * 135 + t * 27 + sgO c) % 135 / 27 = t := by omega
    have e3 : (r * 135 + t * 27 + sgO c) % 27 = sgO c := by omega
    refine ⟨itOf (r * 135 + t * 27 + sgO c), itOf_mem.2 ⟨by omega, h2⟩, ?_⟩
    unfold endI itOf
    dsimp only
    rw [e1, e2, e3, sgn_sgO hc, ← h1'.2]
    simp
  · rintro ⟨x, hx, h⟩
    obtain ⟨j, hj, ha, rfl⟩ := mem_repL.1 hx
    unfold endI at h
    rw [Bool.and_eq_true, Bool.and_eq_true, beq_iff_eq, beq_iff_eq, beq_iff_eq] at h
    obtain ⟨h1, h2, h3⟩ := h
    obtain ⟨k1, _, _⟩ := hA j hj ha
    have h3' : j / 135 = r := h3
    have h1' : j % 135 / 27 = (rget L (j / 135)).R.size := h1
    have h2' : sgn (j % 27) = c := h2
    have hs : sgO c = j % 27 := by rw [← h2', sgO_sgn]
    have k1' : j / 135 < L.length := k1
    refine ⟨hr, j % 135 / 27, List.mem_range.2 (by omega), ?_⟩
    rw [Bool.and_eq_true]
    refine ⟨?_, by rw [hs, show r * 135 + j % 135 / 27 * 27 + j % 27 = j from by omega]; exact ha⟩
    show (decide (r < L.length) && j % 135 / 27 == (rget L r).R.size) = true
    rw [Bool.and_eq_true, decide_eq_true_eq, beq_iff_eq]
    exact ⟨by omega, by rw [h1', h3']⟩
theorem toM_cases (m : List (Nat × Nat)) (c : Nat) : toM m c = -1 ∨ 0 ≤ toM m c := by
  unfold toM
  split
  · right; omega
  · left; rfl
/-- a step, for both -/
theorem step_eq {S : List Sd} {n : Nat} {M : List (List (Nat × Nat))} (h : TosOk S n M) {k : Nat} (hk : k < n) (c : Nat) : stepTo S k c = toM (M.getD k []) c := by
  unfold stepTo
  cases hc : letB c
  · rw [if_neg (by simp)]
    symm
    unfold toM
    rw [show (M.getD k []).find? (fun p => p.1 == c) = none from by
      rw [List.find?_eq_none]
      intro q hq
      obtain ⟨j, hj, e⟩ := h.2.2 k hk q hq
      rw [e]
      intro e2
      have e3 : ltr j = c := by simpa using e2
      rw [← e3, letB_ltr hj] at hc; cases hc]
  · rw [if_pos rfl, h.2.1 k hk (ltI c) (ltI_lt hc), ltr_ltI hc]
theorem stepB_eq {S : List Sd} {n : Nat} {M : List (List (Nat × Nat))} (h : TosOk S n M) {k : Nat} (hk : k < n) (c : Nat) : (stepTo S k c != -1) = decide (0 ≤ toM (M.getD k []) c) := by
  rw [step_eq h hk c]
  rcases toM_cases (M.getD k []) c with e | e
  · rw [e]; rfl
  · rw [decide_eq_true e, bne_iff_ne]; omega
theorem acL_congr {st : Bool} {ru ru2 : Nat → Bool} (h : ∀ i, i < 9 → ru i = ru2 i) : acL st ru 9 = wdU st ru2 9 := by
  unfold acL wdU
  rw [List.filter_congr (q := ru2) (fun j hj => h j (List.mem_range.1 hj))]
end Go.Proofs.YtkglggkkbmmjkaaDoor

namespace Go.Proofs.YtkglggkkbmmjkaaDoor
open Go.RowKit

theorem gErr_zero {t : ByteArray} (h : (gErr t).1 = 0) : t.size ≤ 32 ∧ (parse t 8 0 []).2.2 = true := by
  unfold gErr at h
  split at h
  · cases h
  · split at h
    · cases h
    · rename_i h1 h2
      exact ⟨by omega, by simpa using h2⟩
/-- the table, as both have it; or why there is none -/
noncomputable def tabR (t : ByteArray) : Nat ⊕ Tb :=
  if (gErr t).1 ≠ 0 then .inl (gErr t).1 else
  match tabM (rul (parse t 8 0 []).1) (nullS (parse t 8 0 []).1) (firstT (parse t 8 0 []).1) 41 0 [startM (rul (parse t 8 0 []).1) (nullS (parse t 8 0 []).1) (firstT (parse t 8 0 []).1)] [] with
  | none => .inl 6
  | some r => .inr r
theorem tabR_bad {t : ByteArray} (h : (gErr t).1 ≠ 0) : tabR t = .inl (gErr t).1 := by unfold tabR; rw [if_pos h]
theorem tabR_many {t : ByteArray} (h : (gErr t).1 = 0) (k : tabM (rul (parse t 8 0 []).1) (nullS (parse t 8 0 []).1) (firstT (parse t 8 0 []).1) 41 0 [startM (rul (parse t 8 0 []).1) (nullS (parse t 8 0 []).1) (firstT (parse t 8 0 []).1)] [] = none) : tabR t = .inl 6 := by
  unfold tabR; rw [if_neg (by simp [h]), k]
theorem tabR_some {t : ByteArray} (h : (gErr t).1 = 0) {r : Tb} (k : tabM (rul (parse t 8 0 []).1) (nullS (parse t 8 0 []).1) (firstT (parse t 8 0 []).1) 41 0 [startM (rul (parse t 8 0 []).1) (nullS (parse t 8 0 []).1) (firstT (parse t 8 0 []).1)] [] = some r) : tabR t = .inr r := by
  unfold tabR; rw [if_neg (by simp [h]), k]
/-- the program has no table -/
theorem tabR_err {t : ByteArray} {x : Nat} (h : TErr t x) (hx : x ≠ 0) : tabR t = .inl x := by
  rcases h with ⟨h1, rfl⟩ | ⟨h0, n, S, c, hS⟩
  · exact tabR_bad h1
  · obtain ⟨a, b⟩ := gErr_zero h0
    obtain ⟨rfl, hn, hF⟩ := err_tab a b hx hS
    have := hF (41 - n)
    rw [show 41 - n + n = 41 from by omega] at this
    exact tabR_many h0 this
/-- the program's table is the one -/
structure TIs (t : ByteArray) (S : List Sd) (M : List (List (Nat × Nat))) : Prop where
  tab : tabR t = .inr (mOf S, M)
  tos : TosOk S S.length M
  ok : SsOk (rul (parse t 8 0 []).1) S
  pos : 0 < S.length
  l40 : S.length ≤ 40
theorem tabR_good {t : ByteArray} {S : List Sd} {c : Nat} (h : TGood t S c) : ∃ M, TIs t S M := by
  obtain ⟨a, b⟩ := gErr_zero h.1
  obtain ⟨M, h1, h2, h3, h4⟩ := good_tab a b h
  have := h4 (41 - S.length) (by have := h.2.2.1; omega)
  rw [show 41 - S.length + S.length = 41 from by have := h.2.2.1; omega] at this
  exact ⟨M, tabR_some h.1 this, h1, h2, h3, h.2.2.1⟩

theorem repL_getD (S : List Sd) (n : Nat) (h : n < S.length) : (mOf S).getD n [] = repL (sget S n).A := by
  unfold mOf
  rw [List.getD_eq_getElem?_getD, List.getElem?_map, List.getElem?_eq_getElem h, sget_eq S n h, Option.map_some, Option.getD_some]
end Go.Proofs.YtkglggkkbmmjkaaDoor

namespace Go.Proofs.YtkglggkkbmmjkaaDoor
open Go.RowKit

/-- the letters of right sides have rules -/
theorem names_ok {t : ByteArray} (h : (gErr t).1 = 0) : ∀ r ∈ (parse t 8 0 []).1, ∀ c ∈ bytes r.R, bigB c = true → rset (parse t 8 0 []).1 c = true := by
  have hn : names (rset (parse t 8 0 []).1) (parse t 8 0 []).1 = none := by
    unfold gErr at h
    split at h
    · cases h
    split at h
    · cases h
    · cases hn : names (rset (parse t 8 0 []).1) (parse t 8 0 []).1 with
      | none => rfl
      | some k => rw [hn] at h; cases h
  intro r hr c hc hb
  obtain ⟨j, hj, rfl⟩ := List.getElem_of_mem hc
  have hj' : j < r.R.size := by rw [← bytes_len]; exact hj
  have := names_none hn r hr j hj'
  rw [bytes_get] at hb ⊢
  unfold nm hasB at this
  rw [hb] at this
  simpa using this
end Go.Proofs.YtkglggkkbmmjkaaDoor
