import Derived.Test.YtkglggkkbmmjkaaGreatDoorG12RFirst
import Derived.Test.YtkglggkkbmmjkaaGreatDoorG22LrR
import Derived.Test.YtkglggkkbmmjkaaGreatDoorG23LrB3
import Derived.Test.YtkglggkkbmmjkaaGreatDoorG35CallV
import Derived.Test.YtkglggkkbmmjkaaGreatDoorG34PCalls3
namespace Go.Proofs.YtkglggkkbmmjkaaGreatDoor
open Go.RowKit

/-! What follows a letter: the steps of a round. -/
theorem names_ok {t : ByteArray} (h : (gErr t).1 = 0) : ∀ r ∈ (zad t 8 0 []).1, ∀ c ∈ bytes r.R, bigB c = true → rset (zad t 8 0 []).1 c = true := by
  have hn : zb4 (rset (zad t 8 0 []).1) (zad t 8 0 []).1 = none := by
    unfold gErr at h
    split at h
    · cases h
    split at h
    · cases h
    · cases hn : zb4 (rset (zad t 8 0 []).1) (zad t 8 0 []).1 with
      | none => rfl
      | some k => rw [hn] at h; cases h
  intro r hr c hc hb
  obtain ⟨j, hj, rfl⟩ := List.getElem_of_mem hc
  have hj' : j < r.R.size := by rw [← zag]; exact hj
  have := names_none hn r hr j hj'
  rw [za1] at hb ⊢
  unfold nm hasB at this
  rw [hb] at this
  simpa using this
end Go.Proofs.YtkglggkkbmmjkaaGreatDoor

namespace Go.Proofs.YtkglggkkbmmjkaaGreatDoor
open Go.RowKit

/-! A good text's grammar and table are so. -/
theorem parse_sum (t : ByteArray) : ∀ f i acc, i ≤ t.size → ((zad t f i acc).1.map fun r => r.R.size + 3).sum ≤ (acc.map fun r => r.R.size + 3).sum + (t.size + 1 - i)
  | 0, i, acc, _ => by rw [zad]; show (acc.map _).sum ≤ _; omega
  | f + 1, i, acc, hi => by
    have hb := zb2 t 4 (i + 2)
    have hs : ∀ h : i + 2 ≤ t.size, (t.extract (i + 2) (zal t 4 (i + 2))).size = zal t 4 (i + 2) - (i + 2) := fun h => by
      rw [ByteArray.size_extract]; omega
    have hsum : ∀ h : i + 2 ≤ t.size, ((acc ++ [(⟨ch t i, t.extract (i + 2) (zal t 4 (i + 2)), i⟩ : Ru)]).map fun r => r.R.size + 3).sum = (acc.map fun r => r.R.size + 3).sum + (zal t 4 (i + 2) - (i + 2) + 3) := fun h => by
      rw [List.map_append, List.sum_append]; simp [hs h]
    rw [zad]
    split
    · split
      · split
        · split
          · show ((acc ++ [(⟨ch t i, t.extract (i + 2) (zal t 4 (i + 2)), i⟩ : Ru)]).map fun r => r.R.size + 3).sum ≤ _
            rw [hsum (by omega)]; omega
          · have := parse_sum t f (zal t 4 (i + 2) + 1) (acc ++ [⟨ch t i, t.extract (i + 2) (zal t 4 (i + 2)), i⟩]) (by omega)
            rw [hsum (by omega)] at this; omega
        · show ((acc ++ [(⟨ch t i, t.extract (i + 2) (zal t 4 (i + 2)), i⟩ : Ru)]).map fun r => r.R.size + 3).sum ≤ _
          rw [hsum (by omega)]; omega
      · show (acc.map _).sum ≤ _; omega
    · show (acc.map _).sum ≤ _; omega
theorem sumU_rul (rs : List Ru) (g : Ru → Nat) : ∀ n, n ≤ rs.length → sumU (fun k => g (rget (rul rs) k)) (fun _ => true) n = ((rs.take n).map g).sum
  | 0, _ => by simp [sumU]
  | n + 1, h => by
    rw [sumU, sumU_rul rs g n (by omega), List.take_succ_eq_append_getElem (by omega), List.map_append, List.sum_append, rget_rul, zbb rs n (by omega)]
    simp
theorem gr_sz (t : ByteArray) (ht : t.size ≤ 32) (hp : (zad t 8 0 []).2.2 = true) : GrSz (rul (zad t 8 0 []).1) := by
  have hC := ctx_of t ht hp
  have hlen := (zbp t ht).2
  refine ⟨hC.good.sz, ?_, hC.good.len⟩
  have h1 : (rul (zad t 8 0 []).1).length - 1 = (zad t 8 0 []).1.length := by unfold rul; simp
  rw [h1, sumU_rul _ (fun r => r.R.size + 3) _ (Nat.le_refl _), List.take_length]
  have := parse_sum t 8 0 [] (Nat.zero_le _)
  simp at this
  omega

/-! what is known of the letters is closed -/
theorem rn_split (l1 l2 : List Ru) (r : Ru) (S : Nat → Bool) : zas (l1 ++ r :: l2) S = zas l2 (if (bytes r.R).all (zas l1 S) then ins (zas l1 S) r.L else zas l1 S) := by
  unfold zas
  rw [List.foldl_append, List.foldl_cons]
theorem null_closed {rs : List Ru} (hl : ∀ r ∈ rs, bigB r.L = true) : ∀ r ∈ rs, (bytes r.R).all (zay rs) = true → zay rs r.L = true := by
  intro r hr ha
  have hfix : zas rs (zay rs) = zay rs := by
    have h1 := nulls_eq rs hl
    have h2 : zay rs = iter (zas rs) rs.length (fun _ => false) := by
      unfold zay
      exact (mk_rn_iter rs hl _ (fun _ h => by cases h) rs.length).1
    rw [iter, ← h2] at h1
    exact h1
  obtain ⟨l1, l2, rfl⟩ := List.append_of_mem hr
  rw [← hfix, rn_split]
  refine rn_inf l2 _ _ ?_
  rw [if_pos (by
    rw [List.all_eq_true] at ha ⊢
    exact fun c hc => rn_inf l1 _ c (ha c hc))]
  unfold ins; simp
theorem beg_mono {N : Nat → Bool} {F G : Nat → Nat → Bool} {x : Nat} (h : ∀ c, F c x = true → G c x = true) : ∀ l, beg N F l x = true → beg N G l x = true
  | [], e => by cases e
  | c :: l, e => by
    rw [beg] at e ⊢
    split at e
    · rename_i hc; rw [if_pos hc]; exact e
    · rename_i hc
      rw [if_neg hc]
      rw [Bool.or_eq_true, Bool.and_eq_true] at e ⊢
      rcases e with e | ⟨e1, e2⟩
      · exact Or.inl (h c e)
      · exact Or.inr ⟨e1, beg_mono h l e2⟩
theorem ff_inf (N : Nat → Bool) : ∀ (l : List Ru) (F : Nat → Nat → Bool) (c x : Nat), F c x = true → zav N l F c x = true
  | [], _, _, _, h => h
  | r :: l, F, c, x, h => by
    show zav N l (joinF F r.L (beg N F (bytes r.R))) c x = true
    refine ff_inf N l _ c x ?_
    unfold joinF; rw [h]; rfl
theorem ff_split (N : Nat → Bool) (l1 l2 : List Ru) (r : Ru) (F : Nat → Nat → Bool) : zav N (l1 ++ r :: l2) F = zav N l2 (joinF (zav N l1 F) r.L (beg N (zav N l1 F) (bytes r.R))) := by
  unfold zav
  rw [List.foldl_append, List.foldl_cons]
theorem first_closed {rs : List Ru} : ∀ r ∈ rs, ∀ a, beg (zay rs) (za3 rs) (bytes r.R) a = true → za3 rs r.L a = true := by
  intro r hr a ha
  have hfix : ∀ c x, zav (zay rs) rs (za3 rs) c x = za3 rs c x := fun c x => by
    have := j_fix rs (ffSteps (zay rs) rs) (ffSteps_in (zay rs) rs) (fun _ _ => false) c x
    rw [← ffRound_eq] at this
    exact this
  obtain ⟨l1, l2, e⟩ := List.append_of_mem hr
  rw [← hfix, e, ff_split, ← e]
  refine ff_inf _ l2 _ _ _ ?_
  unfold joinF
  rw [beg_mono (F := za3 rs) (fun c hc => ff_inf _ l1 _ c a hc) _ ha]; simp
theorem rul_no {rs : List Ru} {r : Ru} (h : r ∈ rs) : ∃ k, 1 ≤ k ∧ k < (rul rs).length ∧ rget (rul rs) k = r := by
  obtain ⟨i, hi, e⟩ := List.getElem_of_mem h
  refine ⟨i + 1, by omega, by unfold rul; simp; omega, ?_⟩
  rw [rget_rul, zbb rs i hi, e]
theorem rul_is {rs : List Ru} {k : Nat} (h1 : 1 ≤ k) (h2 : k < (rul rs).length) : rget (rul rs) k ∈ rs := by
  obtain ⟨k, rfl⟩ : ∃ k', k = k' + 1 := ⟨k - 1, by omega⟩
  have h3 : k < rs.length := by unfold rul at h2; simp at h2; omega
  rw [rget_rul, zbb rs k h3]; exact List.getElem_mem h3
theorem gr_ok (t : ByteArray) (ht : t.size ≤ 32) (hp : (zad t 8 0 []).2.2 = true) : GrOk (rul (zad t 8 0 []).1) (za3 (zad t 8 0 []).1) := by
  have hC := ctx_of t ht hp
  exact ⟨hC.good.len, fun i hi => by rw [← zbb _ i hi]; exact hC.good.sz i, hC.small⟩
theorem gr_cl (t : ByteArray) (ht : t.size ≤ 32) (hp : (zad t 8 0 []).2.2 = true) : GrCl (rul (zad t 8 0 []).1) (zay (zad t 8 0 []).1) (za3 (zad t 8 0 []).1) := by
  have hC := ctx_of t ht hp
  refine ⟨gr_ok t ht hp, hC.pos, fun k h1 h2 => parse_big t _ (rul_is h1 h2), fun k h1 h2 h => null_closed (parse_big t) _ (rul_is h1 h2) h, fun k a h1 h2 h => first_closed _ (rul_is h1 h2) a h, fun k hk c hc => ?_⟩
  obtain ⟨i, hi, e⟩ := List.getElem_of_mem hc
  rw [za1] at e
  rw [← e]
  exact hC.let_ k i (by rw [← zag]; exact hi)

/-! and so -/
theorem null_sound {rs : List Ru} (hl : ∀ r ∈ rs, bigB r.L = true) : ∀ c, zay rs c = true → ∃ x n, Ds (rul rs) [c] [] x n := by
  have list_of : ∀ {S : Nat → Bool}, (∀ c, S c = true → ∃ x n, Ds (rul rs) [c] [] x n) → ∀ l, l.all S = true → ∃ x n, Ds (rul rs) l [] x n := by
    intro S hS l
    induction l with
    | nil => intro _; exact ⟨[], 0, Ds.nil⟩
    | cons c l ih =>
      intro h
      rw [List.all_cons, Bool.and_eq_true] at h
      obtain ⟨x1, n1, h1⟩ := hS c h.1
      obtain ⟨x2, n2, h2⟩ := ih h.2
      exact ⟨x1 ++ x2, n1 + n2, by simpa using h1.app h2⟩
  have round : ∀ (l : List Ru), (∀ r ∈ l, r ∈ rs) → ∀ S : Nat → Bool, (∀ c, S c = true → ∃ x n, Ds (rul rs) [c] [] x n) → ∀ c, zas l S c = true → ∃ x n, Ds (rul rs) [c] [] x n := by
    intro l
    induction l with
    | nil => intro _ S hS c h; exact hS c h
    | cons r l ih =>
      intro hin S hS c h
      have h' : zas l (if (bytes r.R).all S then ins S r.L else S) c = true := h
      refine ih (fun q hq => hin q (List.mem_cons_of_mem _ hq)) _ (fun c hc => ?_) c h'
      split at hc
      · rename_i ha
        unfold ins at hc
        rw [Bool.or_eq_true] at hc
        rcases hc with hc | hc
        · exact hS c hc
        · have e : c = r.L := by simpa using hc
          obtain ⟨k, k1, k2, k3⟩ := rul_no (hin r (List.mem_cons_self ..))
          obtain ⟨x, n, hd⟩ := list_of hS _ ha
          rw [← k3] at hd
          have := Ds.one k1 k2 hd
          rw [k3, ← e] at this
          exact ⟨_, _, this⟩
      · exact hS c hc
  have it : ∀ n c, iter (zas rs) n (fun _ => false) c = true → ∃ x m, Ds (rul rs) [c] [] x m := by
    intro n
    induction n with
    | zero => intro c h; cases h
    | succ n ih => intro c h; exact round rs (fun _ h => h) _ ih c h
  intro c h
  rw [← nulls_eq rs hl] at h
  exact it _ c h
theorem ends_sound {rs : List Ru} : ∀ c, ends rs c = true → ∃ w x n, Ds (rul rs) [c] w x n := by
  have list_of : ∀ {S : Nat → Bool}, (∀ c, S c = true → ∃ w x n, Ds (rul rs) [c] w x n) → ∀ l, l.all (vanB S true) = true → ∃ w x n, Ds (rul rs) l w x n := by
    intro S hS l
    induction l with
    | nil => intro _; exact ⟨[], [], 0, Ds.nil⟩
    | cons c l ih =>
      intro h
      rw [List.all_cons, Bool.and_eq_true] at h
      obtain ⟨w2, x2, n2, h2⟩ := ih h.2
      have hc := h.1
      unfold vanB hasB at hc
      rw [Bool.true_and, Bool.or_eq_true, Bool.and_eq_true] at hc
      rcases hc with hc | hc
      · exact ⟨_, _, _, Ds.small hc h2⟩
      · obtain ⟨w1, x1, n1, h1⟩ := hS c hc.2
        exact ⟨_, _, _, h1.app h2⟩
  have round : ∀ (l : List Ru), (∀ r ∈ l, r ∈ rs) → ∀ S : Nat → Bool, (∀ c, S c = true → ∃ w x n, Ds (rul rs) [c] w x n) → ∀ c, za7 true l S c = true → ∃ w x n, Ds (rul rs) [c] w x n := by
    intro l
    induction l with
    | nil => intro _ S hS c h; exact hS c h
    | cons r l ih =>
      intro hin S hS c h
      have h' : za7 true l (if (bytes r.R).all (vanB S true) then insB S r.L else S) c = true := h
      refine ih (fun q hq => hin q (List.mem_cons_of_mem _ hq)) _ (fun c hc => ?_) c h'
      split at hc
      · rename_i ha
        unfold insB at hc
        rw [Bool.or_eq_true, Bool.and_eq_true] at hc
        rcases hc with hc | hc
        · exact hS c hc
        · have e : c = r.L := by simpa using hc.2
          obtain ⟨k, k1, k2, k3⟩ := rul_no (hin r (List.mem_cons_self ..))
          obtain ⟨w, x, n, hd⟩ := list_of hS _ ha
          rw [← k3] at hd
          have := Ds.one k1 k2 hd
          rw [k3, ← e] at this
          exact ⟨_, _, _, this⟩
      · exact hS c hc
  have it : ∀ n c, iter (za7 true rs) n (fun _ => false) c = true → ∃ w x m, Ds (rul rs) [c] w x m := by
    intro n
    induction n with
    | zero => intro c h; cases h
    | succ n ih => intro c h; exact round rs (fun _ h => h) _ ih c h
  exact it _
theorem dead_none {E U : Nat → Bool} : ∀ {l : List Ru}, deadAt E U l = none → ∀ r ∈ l, dead1 E U r = false
  | [], _, r, hr => by cases hr
  | q :: l, h, r, hr => by
    rw [deadAt] at h
    split at h
    · cases h
    · rename_i hq
      rcases List.mem_cons.1 hr with rfl | hr
      · simpa using hq
      · exact dead_none h r hr
theorem gErr_dead {t : ByteArray} (h : (gErr t).1 = 0) : deadAt (ends (zad t 8 0 []).1) (reach (zad t 8 0 []).1) (zad t 8 0 []).1 = none := by
  unfold gErr at h
  split at h
  · cases h
  · split at h
    · cases h
    · split at h
      · cases h
      · split at h
        · cases h
        · assumption
end Go.Proofs.YtkglggkkbmmjkaaGreatDoor

namespace Go.Proofs.YtkglggkkbmmjkaaGreatDoor
open Go.RowKit

end Go.Proofs.YtkglggkkbmmjkaaGreatDoor
