import Derived.Test.YtkglggkkbmmjkaaDoorH28PTMath2
import Derived.Test.YtkglggkkbmmjkaaDoorH12LrTab
import Derived.Test.YtkglggkkbmmjkaaDoorH27PStates
import Derived.Test.YtkglggkkbmmjkaaDoorH10RPut
namespace Go.Proofs.YtkglggkkbmmjkaaDoor
open Go.RowKit

theorem rowM_append (st : Nat → List It) : ∀ (cs ds : List Nat) (S : List (List It)) (m : List (Nat × Nat)), rowM st (cs ++ ds) S m = (rowM st cs S m).bind fun r => rowM st ds r.1 r.2
  | [], ds, S, m => by simp [rowM]
  | c :: cs, ds, S, m => by
    rw [List.cons_append, rowM, rowM]
    split
    · exact rowM_append st cs ds S m
    · split
      · rfl
      · exact rowM_append st cs ds _ _
theorem rowM_skip (st : Nat → List It) : ∀ (cs : List Nat), (∀ c ∈ cs, st c = []) → ∀ S m, rowM st cs S m = some (S, m)
  | [], _, S, m => rfl
  | c :: cs, h, S, m => by
    rw [rowM, if_pos (by rw [h c (List.mem_cons_self ..)]; rfl)]
    exact rowM_skip st cs (fun d hd => h d (List.mem_cons_of_mem _ hd)) S m

/-- the context of the models -/
structure Ctx (L : List Ru) (N : Nat → Bool) (T : Nat → Nat → Bool) : Prop where
  good : GoodL L
  van : ∀ c, vanB N false c = N c
  small : ∀ c x, x < 128 → T c x = true → smallB x = true
  let_ : ∀ n t, t < (rget L n).R.size → letB (ch (rget L n).R t) = true
  pos : 0 < L.length

/-- the states are sets of items of these rules -/
def SsOk (L : List Ru) (S : List Sd) : Prop := ∀ s ∈ S, SOk L s.A
theorem SsOk.get {L : List Ru} {S : List Sd} (h : SsOk L S) {n : Nat} (hn : n < S.length) : SOk L (sget S n).A := by
  rw [sget_eq S n hn]; exact h _ (List.getElem_mem hn)
theorem SsOk.setTo {L : List Ru} {S : List Sd} (h : SsOk L S) {n i : Nat} (hn : n < S.length) (x : Int) : SsOk L (setTo S n i x) := fun s hs => by
  unfold Go.Proofs.YtkglggkkbmmjkaaDoor.setTo at hs
  rcases List.mem_or_eq_of_mem_set hs with hs | hs
  · exact h s hs
  · rw [hs]; exact h.get hn
theorem SsOk.new {L : List Ru} {S : List Sd} (h : SsOk L S) {B : Nat → Bool} (hB : SOk L B) (c : Nat) : SsOk L (S ++ [sdN S B c]) := fun s hs => by
  rcases List.mem_append.1 hs with hs | hs
  · exact h s hs
  · rw [List.mem_singleton.1 hs]; exact hB
/-- the steps by the letters below i, as they were found -/
def ToOk (S : List Sd) (n i : Nat) (m : List (Nat × Nat)) : Prop := (∀ k, k < i → (sget S n).nx k = toM m (ltr k)) ∧ (∀ q ∈ m, ∃ k, k < i ∧ q.1 = ltr k)
theorem ltr_inj {j k : Nat} (h : ltr j = ltr k) : j = k := by rw [← ltI_ltr j, h, ltI_ltr]
theorem toM_new {m : List (Nat × Nat)} {i j : Nat} (h : ∀ q ∈ m, ∃ k, k < i ∧ q.1 = ltr k) : toM m (ltr i) = -1 ∧ toM (m ++ [(ltr i, j)]) (ltr i) = j ∧ ∀ k, k < i → toM (m ++ [(ltr i, j)]) (ltr k) = toM m (ltr k) := by
  have hn : m.find? (fun p => p.1 == ltr i) = none := by
    rw [List.find?_eq_none]
    intro q hq
    obtain ⟨k, hk, e⟩ := h q hq
    rw [e]
    intro e2
    have := ltr_inj (by simpa using e2 : ltr k = ltr i)
    omega
  refine ⟨by unfold toM; rw [hn], ?_, fun k hk => ?_⟩
  · unfold toM
    rw [List.find?_append, hn]
    simp
  · have hd : (ltr i == ltr k) = false := by
      rw [beq_eq_false_iff_ne]; intro e; have := ltr_inj e; omega
    unfold toM
    rw [List.find?_append]
    cases m.find? fun p => p.1 == ltr k with
    | some q => rfl
    | none => simp [hd]
theorem ToOk.skip {S : List Sd} {n i : Nat} {m : List (Nat × Nat)} (h : ToOk S n i m) (hn : n < S.length) : ToOk (setTo S n i (-1)) n (i + 1) m := by
  refine ⟨fun k hk => ?_, fun q hq => ?_⟩
  · unfold setTo
    rw [sget_set S n n _ hn, if_pos rfl]
    dsimp only
    by_cases e : k = i
    · rw [if_pos e, e, (toM_new (j := 0) h.2).1]
    · rw [if_neg e]; exact h.1 k (by omega)
  · obtain ⟨k, hk, e⟩ := h.2 q hq
    exact ⟨k, by omega, e⟩
theorem ToOk.put {S : List Sd} {n i j : Nat} {m : List (Nat × Nat)} (h : ToOk S n i m) (hn : n < S.length) : ToOk (setTo S n i j) n (i + 1) (m ++ [(ltr i, j)]) := by
  refine ⟨fun k hk => ?_, fun q hq => ?_⟩
  · unfold setTo
    rw [sget_set S n n _ hn, if_pos rfl]
    dsimp only
    by_cases e : k = i
    · rw [if_pos e, e, (toM_new (j := j) h.2).2.1]
    · rw [if_neg e, (toM_new (j := j) h.2).2.2 k (by omega)]; exact h.1 k (by omega)
  · rcases List.mem_append.1 hq with hq | hq
    · obtain ⟨k, hk, e⟩ := h.2 q hq
      exact ⟨k, by omega, e⟩
    · exact ⟨i, by omega, by rw [List.mem_singleton.1 hq]⟩
theorem sget_app (S : List Sd) (s : Sd) (n : Nat) (hn : n < S.length) : sget (S ++ [s]) n = sget S n := by
  unfold sget
  rw [List.getD_eq_getElem?_getD, List.getD_eq_getElem?_getD, List.getElem?_append_left hn]

/-- what findSteps does is what the model's row does -/
theorem steps_row {L : List Ru} {N : Nat → Bool} {T : Nat → Nat → Bool} (hC : Ctx L N T) {n : Nat} {A : Nat → Bool} {S : List Sd} {c : Nat} (hA : SOk L A) (hS : SsOk L S) (hn : n < S.length) (hl : S.length ≤ 40) {i : Nat} {S1 : List Sd} {c1 f1 : Nat} (h : StepsR (planOf L N T) n A S c 0 i S1 c1 f1) (hi : i ≤ 52) :
    SsOk L S1 ∧ S.length ≤ S1.length ∧ S1.length ≤ 40 ∧ (f1 = 0 ∨ f1 = 6) ∧ (∀ m, m ≠ n → m < S.length → sget S1 m = sget S m) ∧
    (f1 = 0 → ∃ m, rowM (stepM L N T (repL A)) ((List.range i).map ltr) (mOf S) [] = some (mOf S1, m) ∧ ToOk S1 n i m) ∧
    (f1 = 6 → rowM (stepM L N T (repL A)) ((List.range i).map ltr) (mOf S) [] = none) := by
  induction h with
  | zero => exact ⟨hS, Nat.le_refl _, hl, Or.inl rfl, fun _ _ _ => rfl, fun _ => ⟨[], rfl, ⟨fun k hk => by omega, fun q hq => by cases hq⟩⟩, fun e => by cases e⟩
  | @skip i S1 c1 f1 _ hx ih =>
    obtain ⟨h1, h2, h3, h4, h5, h6, h7⟩ := ih (by omega)
    have hn1 : n < S1.length := Nat.lt_of_lt_of_le hn h2
    have hst := step_none hC.good hA (show i < 52 from by omega) hx
    have hr : ∀ S m, rowM (stepM L N T (repL A)) [ltr i] S m = some (S, m) := rowM_skip _ _ (fun d hd => by rw [List.mem_singleton.1 hd]; exact hst)
    refine ⟨h1.setTo hn1 _, by rw [setTo_len]; exact h2, by rw [setTo_len]; exact h3, h4, fun m hm hml => ?_, fun e => ?_, fun e => ?_⟩
    · unfold setTo; rw [sget_set S1 n m _ hn1, if_neg hm]; exact h5 m hm hml
    · obtain ⟨m, hm1, hm2⟩ := h6 e
      refine ⟨m, ?_, hm2.skip hn1⟩
      rw [List.range_succ, List.map_append, rowM_append, hm1, mOf_setTo S1 n i _ hn1]
      exact hr _ _
    · rw [List.range_succ, List.map_append, rowM_append, h7 e]; rfl
  | @old i j S1 c1 f1 B _ hx hB hnum ih =>
    obtain ⟨h1, h2, h3, h4, h5, h6, h7⟩ := ih (by omega)
    have hn1 : n < S1.length := Nat.lt_of_lt_of_le hn h2
    obtain ⟨hst, hne, hBo⟩ := step_some hC.good hC.van hC.small hA (show i < 52 from by omega) hx hB
    refine ⟨h1.setTo hn1 _, by rw [setTo_len]; exact h2, by rw [setTo_len]; exact h3, h4, fun m hm hml => ?_, fun e => ?_, fun e => ?_⟩
    · unfold setTo; rw [sget_set S1 n m _ hn1, if_neg hm]; exact h5 m hm hml
    · obtain ⟨m, hm1, hm2⟩ := h6 e
      refine ⟨m ++ [(ltr i, j)], ?_, hm2.put hn1⟩
      rw [List.range_succ, List.map_append, rowM_append, hm1, mOf_setTo S1 n i _ hn1]
      show rowM (stepM L N T (repL A)) [ltr i] (mOf S1) m = _
      rw [rowM, hst, if_neg hne, numM_some hnum, if_neg (by show ¬ 40 < (mOf S1).length; rw [mOf_len]; omega)]
      rfl
    · rw [List.range_succ, List.map_append, rowM_append, h7 e]; rfl
  | @many i S1 c1 f1 B _ hx hB hnum h40 ih =>
    obtain ⟨h1, h2, h3, h4, h5, h6, h7⟩ := ih (by omega)
    have hn1 : n < S1.length := Nat.lt_of_lt_of_le hn h2
    obtain ⟨hst, hne, hBo⟩ := step_some hC.good hC.van hC.small hA (show i < 52 from by omega) hx hB
    refine ⟨h1.setTo hn1 _, by rw [setTo_len]; exact h2, by rw [setTo_len]; exact h3, Or.inr rfl, fun m hm hml => ?_, (fun e => by cases e), fun _ => ?_⟩
    · unfold setTo; rw [sget_set S1 n m _ hn1, if_neg hm]; exact h5 m hm hml
    · rw [List.range_succ, List.map_append, rowM_append]
      rcases h4 with e | e
      · obtain ⟨m, hm1, hm2⟩ := h6 e
        rw [hm1]
        show rowM (stepM L N T (repL A)) [ltr i] (mOf S1) m = _
        rw [rowM, hst, if_neg hne, numM_none hnum, if_pos (by show 40 < (mOf S1 ++ [repL B]).length; rw [List.length_append, mOf_len]; simp; omega)]
      · rw [h7 e]; rfl
  | @new i S1 c1 f1 B _ hx hB hnum h40 ih =>
    obtain ⟨h1, h2, h3, h4, h5, h6, h7⟩ := ih (by omega)
    have hn1 : n < S1.length := Nat.lt_of_lt_of_le hn h2
    obtain ⟨hst, hne, hBo⟩ := step_some hC.good hC.van hC.small hA (show i < 52 from by omega) hx hB
    have hn2 : n < (S1 ++ [sdN S1 B c1]).length := by rw [List.length_append]; omega
    refine ⟨(h1.new hBo c1).setTo hn2 _, by rw [setTo_len, List.length_append]; omega, by rw [setTo_len, List.length_append]; simp; omega, h4, fun m hm hml => ?_, fun e => ?_, fun e => ?_⟩
    · unfold setTo; rw [sget_set _ n m _ hn2, if_neg hm, sget_app _ _ _ (by omega)]; exact h5 m hm hml
    · obtain ⟨m, hm1, hm2⟩ := h6 e
      refine ⟨m ++ [(ltr i, S1.length)], ?_, ToOk.put ⟨fun k hk => by rw [sget_app _ _ _ hn1]; exact hm2.1 k hk, hm2.2⟩ hn2⟩
      rw [List.range_succ, List.map_append, rowM_append, hm1, mOf_setTo _ n i _ hn2, mOf_new]
      show rowM (stepM L N T (repL A)) [ltr i] (mOf S1) m = _
      rw [rowM, hst, if_neg hne, numM_none hnum, if_neg (by show ¬ 40 < (mOf S1 ++ [repL B]).length; rw [List.length_append, mOf_len]; simp; omega)]
      rfl
    · rw [List.range_succ, List.map_append, rowM_append, h7 e]; rfl
end Go.Proofs.YtkglggkkbmmjkaaDoor

namespace Go.Proofs.YtkglggkkbmmjkaaDoor
open Go.RowKit

theorem row_gap {st : Nat → List It} (a b d : List Nat) (h : ∀ c ∈ b, st c = []) (S : List (List It)) (m : List (Nat × Nat)) : rowM st (a ++ (b ++ d)) S m = rowM st (a ++ d) S m := by
  rw [rowM_append, rowM_append]
  congr 1
  funext r
  rw [rowM_append, rowM_skip st b h, Option.bind_some]
theorem letters1 : List.range' 65 58 = List.range' 65 26 ++ (List.range' 91 6 ++ List.range' 97 26) := by kernel_rfl
theorem letters2 : (List.range 52).map ltr = List.range' 65 26 ++ List.range' 97 26 := by kernel_rfl
theorem row_letters {st : Nat → List It} (h : ∀ c, 91 ≤ c → c ≤ 96 → st c = []) (S : List (List It)) (m : List (Nat × Nat)) : rowM st (List.range' 65 58) S m = rowM st ((List.range 52).map ltr) S m := by
  rw [letters1, letters2]
  exact row_gap _ _ _ (fun c hc => by
    have := List.mem_range'_1.1 hc
    exact h c (by omega) (by omega)) S m
theorem step_other {L : List Ru} {N : Nat → Bool} {T : Nat → Nat → Bool} (hC : Ctx L N T) (l : List It) (c : Nat) (h1 : 91 ≤ c) (h2 : c ≤ 96) : stepM L N T l c = [] := by
  refine stepM_eq (K := []) ⟨List.Pairwise.nil, (fun _ h => by cases h), fun y => ⟨(fun h => by cases h), fun ⟨x, _, hm, _⟩ => ?_⟩⟩ (full_nil L N T)
  have := hC.let_ x.R x.P hm.1
  rw [hm.2, letB_iff] at this
  omega
theorem repL_fst : repL fstI = [⟨0, 0, 36⟩] := by
  refine srt_ext (srt_repL _) (List.pairwise_singleton ..) fun y => ?_
  rw [mem_repL, List.mem_singleton]
  constructor
  · rintro ⟨j, _, hj, rfl⟩
    have e : j = 0 := by simpa [fstI] using hj
    rw [e]; rfl
  · rintro rfl
    exact ⟨0, by omega, rfl, rfl⟩
theorem start_of {L : List Ru} {N : Nat → Bool} {T : Nat → Nat → Bool} (hC : Ctx L N T) {B : Nat → Bool} (h : FuI (planOf L N T) fstI B) : startM L N T = repL B ∧ SOk L B := by
  have hf : SOk L fstI := fun j _ hj => by
    have e : j = 0 := by simpa [fstI] using hj
    rw [e]
    exact ⟨hC.pos, Nat.zero_le _, Or.inl rfl⟩
  obtain ⟨h1, h2⟩ := full_of hC.good hC.van hC.small hf h
  rw [repL_fst] at h1
  exact ⟨startM_eq h1, h2⟩
/-- the steps of the first n states -/
def TosOk (S : List Sd) (n : Nat) (M : List (List (Nat × Nat))) : Prop := M.length = n ∧ (∀ m, m < n → ∀ k, k < 52 → (sget S m).nx k = toM (M.getD m []) (ltr k)) ∧ ∀ m, m < n → ∀ q ∈ M.getD m [], ∃ k, k < 52 ∧ q.1 = ltr k

/-- what findStates does is what the model's table does -/
theorem states_tab {L : List Ru} {N : Nat → Bool} {T : Nat → Nat → Bool} (hC : Ctx L N T) {n : Nat} {S : List Sd} {c f : Nat} (h : StatesR (planOf L N T) n S c f) :
    SsOk L S ∧ S.length ≤ 40 ∧ (f = 0 ∨ f = 6) ∧ 0 < S.length ∧ n ≤ S.length ∧
    (f = 0 → ∃ M, TosOk S n M ∧ ∀ F, tabM L N T (F + n) 0 [startM L N T] [] = tabM L N T F n (mOf S) M) ∧
    (f = 6 → ∀ F, tabM L N T (F + n) 0 [startM L N T] [] = none) := by
  induction h with
  | @start B hB =>
    obtain ⟨h1, h2⟩ := start_of hC hB
    refine ⟨fun s hs => by rw [List.mem_singleton.1 hs]; exact h2, by show 1 ≤ 40; omega, Or.inl rfl, by show 0 < 1; omega, Nat.zero_le _, fun _ => ⟨[], ⟨rfl, (fun m hm => by omega), (fun m hm => by omega)⟩, fun F => ?_⟩, fun e => by cases e⟩
    rw [h1]; rfl
  | @step n S S' c c' f' _ hn hR ih =>
    obtain ⟨k1, k2, _, k4, k5, k6, _⟩ := ih
    obtain ⟨M, hM, hT⟩ := k6 rfl
    obtain ⟨h1, h2, h3, h4, h5, h6, h7⟩ := steps_row hC (k1.get hn) k1 hn k2 hR (Nat.le_refl _)
    have hget : ∀ (hh : n < (mOf S).length), (mOf S)[n] = repL (sget S n).A := fun hh => by
      rw [sget_eq S n hn]; simp [mOf]
    have hnm : n < (mOf S).length := by rw [mOf_len]; exact hn
    have hrow : ∀ m, rowM (stepM L N T (mOf S)[n]) (List.range' 65 58) (mOf S) m = rowM (stepM L N T (repL (sget S n).A)) ((List.range 52).map ltr) (mOf S) m := fun m => by
      rw [hget hnm]
      exact row_letters (fun c h1 h2 => step_other hC _ c h1 h2) _ _
    refine ⟨h1, h3, h4, by omega, by omega, fun e => ?_, fun e F => ?_⟩
    · obtain ⟨m, hm1, hm2⟩ := h6 e
      refine ⟨M ++ [m], ⟨by rw [List.length_append, hM.1]; rfl, fun q hq k hk => ?_, fun q hq => ?_⟩, fun F => ?_⟩
      · rw [List.getD_eq_getElem?_getD]
        by_cases e2 : q = n
        · subst e2
          rw [List.getElem?_append_right (by rw [hM.1]; exact Nat.le_refl _), hM.1, Nat.sub_self]
          exact hm2.1 k hk
        · rw [List.getElem?_append_left (by rw [hM.1]; omega), h5 q e2 (by omega), hM.2.1 q (by omega) k hk, List.getD_eq_getElem?_getD]
      · rw [List.getD_eq_getElem?_getD]
        by_cases e2 : q = n
        · subst e2
          rw [List.getElem?_append_right (by rw [hM.1]; exact Nat.le_refl _), hM.1, Nat.sub_self]
          exact hm2.2
        · rw [List.getElem?_append_left (by rw [hM.1]; omega), ← List.getD_eq_getElem?_getD]
          exact hM.2.2 q (by omega)
      · rw [show F + (n + 1) = (F + 1) + n from by omega, hT (F + 1), tabM, dif_pos hnm, hrow, hm1]
    · rw [show F + (n + 1) = (F + 1) + n from by omega, hT (F + 1), tabM, dif_pos hnm, hrow, h7 e]
end Go.Proofs.YtkglggkkbmmjkaaDoor

namespace Go.Proofs.YtkglggkkbmmjkaaDoor
open Go.RowKit

def zTb : Nat → Value := tbF (planOf [] (fun _ => false) (fun _ _ => false)) (.slice none 0 0) 0 0
theorem Tryd.zeroTbl : (Tryd.prog.info? 57).bind (·.zero) = some (Agg 1362 zTb) := by kernel_rfl
theorem Tryd.sizeTbl : (Tryd.prog.info? 57).map (·.size) = some 1362 := by kernel_rfl
end Go.Proofs.YtkglggkkbmmjkaaDoor
