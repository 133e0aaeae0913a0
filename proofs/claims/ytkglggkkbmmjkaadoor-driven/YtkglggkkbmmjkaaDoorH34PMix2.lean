import Derived.Test.YtkglggkkbmmjkaaDoorH33PTActs
import Derived.Test.YtkglggkkbmmjkaaDoorH12LrTab
import Derived.Test.YtkglggkkbmmjkaaDoorH9Same
import Derived.Test.YtkglggkkbmmjkaaDoorH10RPut
import Derived.Test.YtkglggkkbmmjkaaDoorH15LrB
import Derived.Test.YtkglggkkbmmjkaaDoorH16LrB3
namespace Go.Proofs.YtkglggkkbmmjkaaDoor
open Go.RowKit

theorem gErr_zero {t : ByteArray} (h : (gErr t).1 = 0) : t.size ≤ 32 ∧ (parse t 8 0 []).2.2 = true := by
  unfold gErr at h
  split at h
  · cases h
  · split at h
    · cases h
    · rename_i h1 h2
      exact ⟨by omega, by simpa using h2⟩
/-- the table, as both have it; or why there is none -/
noncomputable def tabR (t : ByteArray) : Nat ⊕ Tb :=
  if (gErr t).1 ≠ 0 then .inl (gErr t).1 else
  match tabM (rul (parse t 8 0 []).1) (nullS (parse t 8 0 []).1) (firstT (parse t 8 0 []).1) 41 0 [startM (rul (parse t 8 0 []).1) (nullS (parse t 8 0 []).1) (firstT (parse t 8 0 []).1)] [] with
  | none => .inl 6
  | some r => .inr r
theorem tabR_bad {t : ByteArray} (h : (gErr t).1 ≠ 0) : tabR t = .inl (gErr t).1 := by unfold tabR; rw [if_pos h]
theorem tabR_many {t : ByteArray} (h : (gErr t).1 = 0) (k : tabM (rul (parse t 8 0 []).1) (nullS (parse t 8 0 []).1) (firstT (parse t 8 0 []).1) 41 0 [startM (rul (parse t 8 0 []).1) (nullS (parse t 8 0 []).1) (firstT (parse t 8 0 []).1)] [] = none) : tabR t = .inl 6 := by
  unfold tabR; rw [if_neg (by simp [h]), k]
theorem tabR_some {t : ByteArray} (h : (gErr t).1 = 0) {r : Tb} (k : tabM (rul (parse t 8 0 []).1) (nullS (parse t 8 0 []).1) (firstT (parse t 8 0 []).1) 41 0 [startM (rul (parse t 8 0 []).1) (nullS (parse t 8 0 []).1) (firstT (parse t 8 0 []).1)] [] = some r) : tabR t = .inr r := by
  unfold tabR; rw [if_neg (by simp [h]), k]
/-- the program has no table -/
theorem tabR_err {t : ByteArray} {x : Nat} (h : TErr t x) (hx : x ≠ 0) : tabR t = .inl x := by
  rcases h with ⟨h1, rfl⟩ | ⟨h0, n, S, c, hS⟩
  · exact tabR_bad h1
  · obtain ⟨a, b⟩ := gErr_zero h0
    obtain ⟨rfl, hn, hF⟩ := err_tab a b hx hS
    have := hF (41 - n)
    rw [show 41 - n + n = 41 from by omega] at this
    exact tabR_many h0 this
/-- the program's table is the one -/
structure TIs (t : ByteArray) (S : List Sd) (M : List (List (Nat × Nat))) : Prop where
  tab : tabR t = .inr (mOf S, M)
  tos : TosOk S S.length M
  ok : SsOk (rul (parse t 8 0 []).1) S
  pos : 0 < S.length
  l40 : S.length ≤ 40
theorem tabR_good {t : ByteArray} {S : List Sd} {c : Nat} (h : TGood t S c) : ∃ M, TIs t S M := by
  obtain ⟨a, b⟩ := gErr_zero h.1
  obtain ⟨M, h1, h2, h3, h4⟩ := good_tab a b h
  have := h4 (41 - S.length) (by have := h.2.2.1; omega)
  rw [show 41 - S.length + S.length = 41 from by have := h.2.2.1; omega] at this
  exact ⟨M, tabR_some h.1 this, h1, h2, h3, h.2.2.1⟩

def stepV (n : Int) (s : ByteArray) : Nat ⊕ Tb → Int × Nat
  | .inl x => (0, x)
  | .inr r => if 0 ≤ n ∧ n < r.1.length then if ltrW s = false then (0, 5) else (toM (r.2.getD n.toNat []) (ch s 0), 0) else (0, 7)
def actV (L : List Ru) (n : Int) (s : ByteArray) : Nat ⊕ Tb → ByteArray × Nat
  | .inl x => (⟨#[]⟩, x)
  | .inr r => if 0 ≤ n ∧ n < r.1.length then if sgnX s = false then (⟨#[]⟩, 5) else (wordsT (decide (0 ≤ toM (r.2.getD n.toNat []) (ch s 0))) (endsL L (r.1.getD n.toNat []) (ch s 0)), 0) else (⟨#[]⟩, 7)

theorem p_StepV (t : ByteArray) (n : Int) (s : ByteArray) (w : World) (ht : t.size ≤ 9223372036854775807) :
    Calls Tryd.prog 14 #[.string t, .int .i64 n, .string s] w fun e w' => e = .returned (.tuple #[.int .i64 (stepV n s (tabR t)).1, .int .i64 ((stepV n s (tabR t)).2 : Nat)]) ∧ Fr [] w w' := by
  refine (p_Step t n s w ht).mono ?_
  rintro e w' ⟨hf, y, x, rfl, h⟩
  refine ⟨?_, hf⟩
  suffices hs : stepV n s (tabR t) = (y, x) by rw [hs]
  rcases h with ⟨hE, hx, rfl⟩ | ⟨S, c, hG, h⟩
  · rw [tabR_err hE hx]; rfl
  · obtain ⟨M, hM⟩ := tabR_good hG
    rw [hM.tab]
    unfold stepV
    dsimp only
    rw [mOf_len]
    rcases h with ⟨h1, rfl, rfl⟩ | ⟨h1, h2, rfl, rfl⟩ | ⟨h1, h2, rfl, rfl⟩
    · rw [if_neg h1]
    · rw [if_pos h1, if_pos h2]
    · rw [if_pos h1, if_neg (by rw [h2]; simp), step_eq hM.tos (show n.toNat < S.length by omega)]
theorem repL_getD (S : List Sd) (n : Nat) (h : n < S.length) : (mOf S).getD n [] = repL (sget S n).A := by
  unfold mOf
  rw [List.getD_eq_getElem?_getD, List.getElem?_map, List.getElem?_eq_getElem h, sget_eq S n h, Option.map_some, Option.getD_some]
theorem p_ActsV (t : ByteArray) (n : Int) (s : ByteArray) (w : World) (ht : t.size ≤ 9223372036854775807) :
    Calls Tryd.prog 12 #[.string t, .int .i64 n, .string s] w fun e w' => e = .returned (.tuple #[.string (actV (rul (parse t 8 0 []).1) n s (tabR t)).1, .int .i64 ((actV (rul (parse t 8 0 []).1) n s (tabR t)).2 : Nat)]) ∧ Fr [] w w' := by
  refine (p_Acts t n s w ht).mono ?_
  rintro e w' ⟨hf, y, x, rfl, h⟩
  refine ⟨?_, hf⟩
  suffices hs : actV (rul (parse t 8 0 []).1) n s (tabR t) = (y, x) by rw [hs]
  rcases h with ⟨hE, hx, rfl⟩ | ⟨S, c, hG, h⟩
  · rw [tabR_err hE hx]; rfl
  · obtain ⟨M, hM⟩ := tabR_good hG
    rw [hM.tab]
    unfold actV
    dsimp only
    rw [mOf_len]
    rcases h with ⟨h1, rfl, rfl⟩ | ⟨h1, h2, rfl, rfl⟩ | ⟨h1, h2, rfl, rfl⟩
    · rw [if_neg h1]
    · rw [if_pos h1, if_pos h2]
    · have hs : sigB (ch s 0) = true := by unfold sgnX at h2; rw [Bool.and_eq_true] at h2; exact h2.2
      rw [if_pos h1, if_neg (by rw [h2]; simp), repL_getD S _ (by omega)]
      congr 1
      exact (acts_eq hM.ok hM.tos (show n.toNat < S.length by omega) (by omega) hs).symm
end Go.Proofs.YtkglggkkbmmjkaaDoor

namespace Go.Proofs.YtkglggkkbmmjkaaDoor
open Go.RowKit

/-- the letters of right sides have rules -/
theorem names_ok {t : ByteArray} (h : (gErr t).1 = 0) : ∀ r ∈ (parse t 8 0 []).1, ∀ c ∈ bytes r.R, bigB c = true → rset (parse t 8 0 []).1 c = true := by
  have hn : names (rset (parse t 8 0 []).1) (parse t 8 0 []).1 = none := by
    unfold gErr at h
    split at h
    · cases h
    split at h
    · cases h
    · cases hn : names (rset (parse t 8 0 []).1) (parse t 8 0 []).1 with
      | none => rfl
      | some k => rw [hn] at h; cases h
  intro r hr c hc hb
  obtain ⟨j, hj, rfl⟩ := List.getElem_of_mem hc
  have hj' : j < r.R.size := by rw [← bytes_len]; exact hj
  have := names_none hn r hr j hj'
  rw [bytes_get] at hb ⊢
  unfold nm hasB at this
  rw [hb] at this
  simpa using this
end Go.Proofs.YtkglggkkbmmjkaaDoor

namespace Go.Proofs.YtkglggkkbmmjkaaDoor
open Go.RowKit

theorem parse_sum (t : ByteArray) : ∀ f i acc, i ≤ t.size → ((parse t f i acc).1.map fun r => r.R.size + 3).sum ≤ (acc.map fun r => r.R.size + 3).sum + (t.size + 1 - i)
  | 0, i, acc, _ => by rw [parse]; show (acc.map _).sum ≤ _; omega
  | f + 1, i, acc, hi => by
    have hb := runEnd_bd t 4 (i + 2)
    have hs : ∀ h : i + 2 ≤ t.size, (t.extract (i + 2) (runEnd t 4 (i + 2))).size = runEnd t 4 (i + 2) - (i + 2) := fun h => by
      rw [ByteArray.size_extract]; omega
    have hsum : ∀ h : i + 2 ≤ t.size, ((acc ++ [(⟨ch t i, t.extract (i + 2) (runEnd t 4 (i + 2)), i⟩ : Ru)]).map fun r => r.R.size + 3).sum = (acc.map fun r => r.R.size + 3).sum + (runEnd t 4 (i + 2) - (i + 2) + 3) := fun h => by
      rw [List.map_append, List.sum_append]; simp [hs h]
    rw [parse]
    split
    · split
      · split
        · split
          · show ((acc ++ [(⟨ch t i, t.extract (i + 2) (runEnd t 4 (i + 2)), i⟩ : Ru)]).map fun r => r.R.size + 3).sum ≤ _
            rw [hsum (by omega)]; omega
          · have := parse_sum t f (runEnd t 4 (i + 2) + 1) (acc ++ [⟨ch t i, t.extract (i + 2) (runEnd t 4 (i + 2)), i⟩]) (by omega)
            rw [hsum (by omega)] at this; omega
        · show ((acc ++ [(⟨ch t i, t.extract (i + 2) (runEnd t 4 (i + 2)), i⟩ : Ru)]).map fun r => r.R.size + 3).sum ≤ _
          rw [hsum (by omega)]; omega
      · show (acc.map _).sum ≤ _; omega
    · show (acc.map _).sum ≤ _; omega
theorem sumU_rul (rs : List Ru) (g : Ru → Nat) : ∀ n, n ≤ rs.length → sumU (fun k => g (rget (rul rs) k)) (fun _ => true) n = ((rs.take n).map g).sum
  | 0, _ => by simp [sumU]
  | n + 1, h => by
    rw [sumU, sumU_rul rs g n (by omega), List.take_succ_eq_append_getElem (by omega), List.map_append, List.sum_append, rget_rul, rget_eq rs n (by omega)]
    simp
theorem gr_sz (t : ByteArray) (ht : t.size ≤ 32) (hp : (parse t 8 0 []).2.2 = true) : GrSz (rul (parse t 8 0 []).1) := by
  have hC := ctx_of t ht hp
  have hlen := (parse_small t ht).2
  refine ⟨hC.good.sz, ?_, hC.good.len⟩
  have h1 : (rul (parse t 8 0 []).1).length - 1 = (parse t 8 0 []).1.length := by unfold rul; simp
  rw [h1, sumU_rul _ (fun r => r.R.size + 3) _ (Nat.le_refl _), List.take_length]
  have := parse_sum t 8 0 [] (Nat.zero_le _)
  simp at this
  omega

theorem rn_split (l1 l2 : List Ru) (r : Ru) (S : Nat → Bool) : rnRound (l1 ++ r :: l2) S = rnRound l2 (if (bytes r.R).all (rnRound l1 S) then ins (rnRound l1 S) r.L else rnRound l1 S) := by
  unfold rnRound
  rw [List.foldl_append, List.foldl_cons]
theorem null_closed {rs : List Ru} (hl : ∀ r ∈ rs, bigB r.L = true) : ∀ r ∈ rs, (bytes r.R).all (nullS rs) = true → nullS rs r.L = true := by
  intro r hr ha
  have hfix : rnRound rs (nullS rs) = nullS rs := by
    have h1 := nulls_eq rs hl
    have h2 : nullS rs = iter (rnRound rs) rs.length (fun _ => false) := by
      unfold nullS
      exact (mk_rn_iter rs hl _ (fun _ h => by cases h) rs.length).1
    rw [iter, ← h2] at h1
    exact h1
  obtain ⟨l1, l2, rfl⟩ := List.append_of_mem hr
  rw [← hfix, rn_split]
  refine rn_inf l2 _ _ ?_
  rw [if_pos (by
    rw [List.all_eq_true] at ha ⊢
    exact fun c hc => rn_inf l1 _ c (ha c hc))]
  unfold ins; simp
theorem beg_mono {N : Nat → Bool} {F G : Nat → Nat → Bool} {x : Nat} (h : ∀ c, F c x = true → G c x = true) : ∀ l, beg N F l x = true → beg N G l x = true
  | [], e => by cases e
  | c :: l, e => by
    rw [beg] at e ⊢
    split at e
    · rename_i hc; rw [if_pos hc]; exact e
    · rename_i hc
      rw [if_neg hc]
      rw [Bool.or_eq_true, Bool.and_eq_true] at e ⊢
      rcases e with e | ⟨e1, e2⟩
      · exact Or.inl (h c e)
      · exact Or.inr ⟨e1, beg_mono h l e2⟩
theorem ff_inf (N : Nat → Bool) : ∀ (l : List Ru) (F : Nat → Nat → Bool) (c x : Nat), F c x = true → ffRound N l F c x = true
  | [], _, _, _, h => h
  | r :: l, F, c, x, h => by
    show ffRound N l (joinF F r.L (beg N F (bytes r.R))) c x = true
    refine ff_inf N l _ c x ?_
    unfold joinF; rw [h]; rfl
theorem ff_split (N : Nat → Bool) (l1 l2 : List Ru) (r : Ru) (F : Nat → Nat → Bool) : ffRound N (l1 ++ r :: l2) F = ffRound N l2 (joinF (ffRound N l1 F) r.L (beg N (ffRound N l1 F) (bytes r.R))) := by
  unfold ffRound
  rw [List.foldl_append, List.foldl_cons]
theorem first_closed {rs : List Ru} : ∀ r ∈ rs, ∀ a, beg (nullS rs) (firstT rs) (bytes r.R) a = true → firstT rs r.L a = true := by
  intro r hr a ha
  have hfix : ∀ c x, ffRound (nullS rs) rs (firstT rs) c x = firstT rs c x := fun c x => by
    have := j_fix rs (ffSteps (nullS rs) rs) (ffSteps_in (nullS rs) rs) (fun _ _ => false) c x
    rw [← ffRound_eq] at this
    exact this
  obtain ⟨l1, l2, e⟩ := List.append_of_mem hr
  rw [← hfix, e, ff_split, ← e]
  refine ff_inf _ l2 _ _ _ ?_
  unfold joinF
  rw [beg_mono (F := firstT rs) (fun c hc => ff_inf _ l1 _ c a hc) _ ha]; simp
/-- a rule has a number -/
theorem rul_no {rs : List Ru} {r : Ru} (h : r ∈ rs) : ∃ k, 1 ≤ k ∧ k < (rul rs).length ∧ rget (rul rs) k = r := by
  obtain ⟨i, hi, e⟩ := List.getElem_of_mem h
  refine ⟨i + 1, by omega, by unfold rul; simp; omega, ?_⟩
  rw [rget_rul, rget_eq rs i hi, e]
theorem rul_is {rs : List Ru} {k : Nat} (h1 : 1 ≤ k) (h2 : k < (rul rs).length) : rget (rul rs) k ∈ rs := by
  obtain ⟨k, rfl⟩ : ∃ k', k = k' + 1 := ⟨k - 1, by omega⟩
  have h3 : k < rs.length := by unfold rul at h2; simp at h2; omega
  rw [rget_rul, rget_eq rs k h3]; exact List.getElem_mem h3
theorem gr_ok (t : ByteArray) (ht : t.size ≤ 32) (hp : (parse t 8 0 []).2.2 = true) : GrOk (rul (parse t 8 0 []).1) (firstT (parse t 8 0 []).1) := by
  have hC := ctx_of t ht hp
  exact ⟨hC.good.len, fun i hi => by rw [← rget_eq _ i hi]; exact hC.good.sz i, hC.small⟩
theorem gr_cl (t : ByteArray) (ht : t.size ≤ 32) (hp : (parse t 8 0 []).2.2 = true) : GrCl (rul (parse t 8 0 []).1) (nullS (parse t 8 0 []).1) (firstT (parse t 8 0 []).1) := by
  have hC := ctx_of t ht hp
  refine ⟨gr_ok t ht hp, hC.pos, fun k h1 h2 => parse_big t _ (rul_is h1 h2), fun k h1 h2 h => null_closed (parse_big t) _ (rul_is h1 h2) h, fun k a h1 h2 h => first_closed _ (rul_is h1 h2) a h, fun k hk c hc => ?_⟩
  obtain ⟨i, hi, e⟩ := List.getElem_of_mem hc
  rw [bytes_get] at e
  rw [← e]
  exact hC.let_ k i (by rw [← bytes_len]; exact hi)

theorem null_sound {rs : List Ru} (hl : ∀ r ∈ rs, bigB r.L = true) : ∀ c, nullS rs c = true → ∃ x n, Ds (rul rs) [c] [] x n := by
  have list_of : ∀ {S : Nat → Bool}, (∀ c, S c = true → ∃ x n, Ds (rul rs) [c] [] x n) → ∀ l, l.all S = true → ∃ x n, Ds (rul rs) l [] x n := by
    intro S hS l
    induction l with
    | nil => intro _; exact ⟨[], 0, Ds.nil⟩
    | cons c l ih =>
      intro h
      rw [List.all_cons, Bool.and_eq_true] at h
      obtain ⟨x1, n1, h1⟩ := hS c h.1
      obtain ⟨x2, n2, h2⟩ := ih h.2
      exact ⟨x1 ++ x2, n1 + n2, by simpa using h1.app h2⟩
  have round : ∀ (l : List Ru), (∀ r ∈ l, r ∈ rs) → ∀ S : Nat → Bool, (∀ c, S c = true → ∃ x n, Ds (rul rs) [c] [] x n) → ∀ c, rnRound l S c = true → ∃ x n, Ds (rul rs) [c] [] x n := by
    intro l
    induction l with
    | nil => intro _ S hS c h; exact hS c h
    | cons r l ih =>
      intro hin S hS c h
      have h' : rnRound l (if (bytes r.R).all S then ins S r.L else S) c = true := h
      refine ih (fun q hq => hin q (List.mem_cons_of_mem _ hq)) _ (fun c hc => ?_) c h'
      split at hc
      · rename_i ha
        unfold ins at hc
        rw [Bool.or_eq_true] at hc
        rcases hc with hc | hc
        · exact hS c hc
        · have e : c = r.L := by simpa using hc
          obtain ⟨k, k1, k2, k3⟩ := rul_no (hin r (List.mem_cons_self ..))
          obtain ⟨x, n, hd⟩ := list_of hS _ ha
          rw [← k3] at hd
          have := Ds.one k1 k2 hd
          rw [k3, ← e] at this
          exact ⟨_, _, this⟩
      · exact hS c hc
  have it : ∀ n c, iter (rnRound rs) n (fun _ => false) c = true → ∃ x m, Ds (rul rs) [c] [] x m := by
    intro n
    induction n with
    | zero => intro c h; cases h
    | succ n ih => intro c h; exact round rs (fun _ h => h) _ ih c h
  intro c h
  rw [← nulls_eq rs hl] at h
  exact it _ c h
theorem ends_sound {rs : List Ru} : ∀ c, ends rs c = true → ∃ w x n, Ds (rul rs) [c] w x n := by
  have list_of : ∀ {S : Nat → Bool}, (∀ c, S c = true → ∃ w x n, Ds (rul rs) [c] w x n) → ∀ l, l.all (vanB S true) = true → ∃ w x n, Ds (rul rs) l w x n := by
    intro S hS l
    induction l with
    | nil => intro _; exact ⟨[], [], 0, Ds.nil⟩
    | cons c l ih =>
      intro h
      rw [List.all_cons, Bool.and_eq_true] at h
      obtain ⟨w2, x2, n2, h2⟩ := ih h.2
      have hc := h.1
      unfold vanB hasB at hc
      rw [Bool.true_and, Bool.or_eq_true, Bool.and_eq_true] at hc
      rcases hc with hc | hc
      · exact ⟨_, _, _, Ds.small hc h2⟩
      · obtain ⟨w1, x1, n1, h1⟩ := hS c hc.2
        exact ⟨_, _, _, h1.app h2⟩
  have round : ∀ (l : List Ru), (∀ r ∈ l, r ∈ rs) → ∀ S : Nat → Bool, (∀ c, S c = true → ∃ w x n, Ds (rul rs) [c] w x n) → ∀ c, mkRound true l S c = true → ∃ w x n, Ds (rul rs) [c] w x n := by
    intro l
    induction l with
    | nil => intro _ S hS c h; exact hS c h
    | cons r l ih =>
      intro hin S hS c h
      have h' : mkRound true l (if (bytes r.R).all (vanB S true) then insB S r.L else S) c = true := h
      refine ih (fun q hq => hin q (List.mem_cons_of_mem _ hq)) _ (fun c hc => ?_) c h'
      split at hc
      · rename_i ha
        unfold insB at hc
        rw [Bool.or_eq_true, Bool.and_eq_true] at hc
        rcases hc with hc | hc
        · exact hS c hc
        · have e : c = r.L := by simpa using hc.2
          obtain ⟨k, k1, k2, k3⟩ := rul_no (hin r (List.mem_cons_self ..))
          obtain ⟨w, x, n, hd⟩ := list_of hS _ ha
          rw [← k3] at hd
          have := Ds.one k1 k2 hd
          rw [k3, ← e] at this
          exact ⟨_, _, _, this⟩
      · exact hS c hc
  have it : ∀ n c, iter (mkRound true rs) n (fun _ => false) c = true → ∃ w x m, Ds (rul rs) [c] w x m := by
    intro n
    induction n with
    | zero => intro c h; cases h
    | succ n ih => intro c h; exact round rs (fun _ h => h) _ ih c h
  exact it _
theorem dead_none {E U : Nat → Bool} : ∀ {l : List Ru}, deadAt E U l = none → ∀ r ∈ l, dead1 E U r = false
  | [], _, r, hr => by cases hr
  | q :: l, h, r, hr => by
    rw [deadAt] at h
    split at h
    · cases h
    · rename_i hq
      rcases List.mem_cons.1 hr with rfl | hr
      · simpa using hq
      · exact dead_none h r hr
theorem gErr_dead {t : ByteArray} (h : (gErr t).1 = 0) : deadAt (ends (parse t 8 0 []).1) (reach (parse t 8 0 []).1) (parse t 8 0 []).1 = none := by
  unfold gErr at h
  split at h
  · cases h
  · split at h
    · cases h
    · split at h
      · cases h
      · split at h
        · cases h
        · assumption
end Go.Proofs.YtkglggkkbmmjkaaDoor

namespace Go.Proofs.YtkglggkkbmmjkaaDoor
open Go.RowKit

theorem AcS.fr0 {w wr w' : World} {tb base : Nat} {p : Pl} {v : Value} {S : List Sd} {cores fault : Nat} {f : Nat → Value} (h : AcS w wr tb base p v S cores fault f) (k : Fr [] wr w') : AcS w w' tb base p v S cores fault f :=
  ⟨h.1.trans0 k, h.2.1.fr0 k, h.2.2.1.fr0 k, h.2.2.2.fr0 k⟩
theorem AcS.far {w wr w' : World} {tb base x : Nat} {p : Pl} {v : Value} {S : List Sd} {cores fault : Nat} {f : Nat → Value} (h : AcS w wr tb base p v S cores fault f) (k : Fr [x] wr w') (hx : w.heap.size + 1 < x) (hb : tb < w.heap.size) (hv : ∀ y, v.ownBlock = some y → y < w.heap.size) : AcS w w' tb base p v S cores fault f :=
  ⟨h.1.trans1 k (Or.inr (by omega)), h.2.1.far k (by omega) (fun e => by have := hv _ e; omega), h.2.2.1.fr1 k (by omega), h.2.2.2.fr1 k (by omega)⟩
theorem AcS.acc {w wr w' : World} {tb base : Nat} {p : Pl} {v : Value} {S : List Sd} {cores fault : Nat} {f g : Nat → Value} (h : AcS w wr tb base p v S cores fault f) (k : Fr [w.heap.size + 1] wr w') (hB : Blk w' (w.heap.size + 1) 10 g) (hb : tb < w.heap.size) (hv : ∀ y, v.ownBlock = some y → y < w.heap.size) : AcS w w' tb base p v S cores fault g :=
  ⟨h.1.trans1 k (Or.inr (by omega)), h.2.1.far k (by omega) (fun e => by have := hv _ e; omega), h.2.2.1.fr1 k (by omega), hB⟩

end Go.Proofs.YtkglggkkbmmjkaaDoor
