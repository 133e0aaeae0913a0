import Derived.Test.YtkglggkkbmmjkaaDoorH34PMix2
import Derived.Test.YtkglggkkbmmjkaaDoorH35CorV2
import Derived.Test.YtkglggkkbmmjkaaDoorH15LrB
import Derived.Test.YtkglggkkbmmjkaaDoorH13LrS
namespace Go.Proofs.YtkglggkkbmmjkaaDoor
open Go.RowKit

/-- each letter of a rule derives some word -/
theorem let_some {t : ByteArray} (h : (gErr t).1 = 0) {r : Ru} (hr : r ∈ (parse t 8 0 []).1) {c : Nat} (hc : c ∈ bytes r.R) : ∃ w x n, Ds (rul (parse t 8 0 []).1) [c] w x n := by
  obtain ⟨ht, hp⟩ := gErr_zero h
  obtain ⟨k, k1, k2, k3⟩ := rul_no hr
  have hl : letB c = true := (gr_cl t ht hp).let_ k k2 c (by rw [k3]; exact hc)
  unfold letB at hl
  rw [Bool.or_eq_true] at hl
  rcases hl with hb | hs
  · have hin := names_ok h r hr c hc hb
    unfold rset at hin
    rw [List.any_eq_true] at hin
    obtain ⟨q, hq, e⟩ := hin
    have e : q.L = c := by simpa using e
    have hd := dead_none (gErr_dead h) q hq
    unfold dead1 hasB at hd
    rw [Bool.or_eq_false_iff] at hd
    have : ends (parse t 8 0 []).1 q.L = true := by
      have := hd.1
      simp at this
      exact this.2
    rw [e] at this
    exact ends_sound c this
  · exact ⟨_, _, _, Ds.small hs Ds.nil⟩
theorem st_some {t : ByteArray} (h : (gErr t).1 = 0) : ∃ w x n, Ds (rul (parse t 8 0 []).1) [stOf (parse t 8 0 []).1] w x n := by
  obtain ⟨ht, hp⟩ := gErr_zero h
  have hpos := (parse_good t 8 0 [] (by simp)).2.2 hp
  have hr : rget (parse t 8 0 []).1 0 ∈ (parse t 8 0 []).1 := by rw [rget_eq _ 0 hpos]; exact List.getElem_mem hpos
  have hst : stOf (parse t 8 0 []).1 = (rget (parse t 8 0 []).1 0).L := by
    generalize (parse t 8 0 []).1 = rs at *
    cases rs with
    | nil => simp at hpos
    | cons r l => rfl
  have hd := dead_none (gErr_dead h) _ hr
  unfold dead1 hasB at hd
  rw [Bool.or_eq_false_iff] at hd
  have : ends (parse t 8 0 []).1 (rget (parse t 8 0 []).1 0).L = true := by
    have := hd.1
    simp at this
    exact this.2
  rw [hst]
  exact ends_sound _ this
theorem bytes_rul0 {c : Nat} (h : c < 256) : bytes (rul0 c).R = [c] := by
  unfold rul0 bytes
  show [(UInt8.ofNat c).toNat] = [c]
  rw [UInt8.toNat_ofNat', Nat.mod_eq_of_lt h]
theorem st_bytes {t : ByteArray} (h : (gErr t).1 = 0) : bytes (rget (rul (parse t 8 0 []).1) 0).R = [stOf (parse t 8 0 []).1] := by
  obtain ⟨ht, hp⟩ := gErr_zero h
  rw [rget_rul0]
  exact bytes_rul0 (by have := bigB_iff.1 (start_big t hp); omega)
theorem let_all {t : ByteArray} (h : (gErr t).1 = 0) {k : Nat} (hk : k < (rul (parse t 8 0 []).1).length) {c : Nat} (hc : c ∈ bytes (rget (rul (parse t 8 0 []).1) k).R) : ∃ w x n, Ds (rul (parse t 8 0 []).1) [c] w x n := by
  by_cases h0 : k = 0
  · subst h0
    rw [st_bytes h] at hc
    rw [List.mem_singleton.1 hc]; exact st_some h
  · exact let_some h (rul_is (by omega) hk) hc
theorem list_some {L : List Ru} : ∀ (l : List Nat), (∀ c ∈ l, ∃ w x n, Ds L [c] w x n) → ∃ w x n, Ds L l w x n
  | [], _ => ⟨[], [], 0, Ds.nil⟩
  | c :: l, h => by
    obtain ⟨w1, x1, n1, h1⟩ := h c (List.mem_cons_self ..)
    obtain ⟨w2, x2, n2, h2⟩ := list_some l (fun c hc => h c (List.mem_cons_of_mem _ hc))
    exact ⟨_, _, _, h1.app h2⟩
theorem beg_sound {L : List Ru} {N : Nat → Bool} {F : Nat → Nat → Bool} (hN : ∀ c, N c = true → ∃ x n, Ds L [c] [] x n) {a : Nat} (hF : ∀ c, F c a = true → ∃ w x n, Ds L [c] (a :: w) x n) : ∀ (l : List Nat), (∀ c ∈ l, ∃ w x n, Ds L [c] w x n) → beg N F l a = true → ∃ w x n, Ds L l (a :: w) x n
  | [], _, h => by cases h
  | c :: l, hl, h => by
    obtain ⟨w2, x2, n2, h2⟩ := list_some l (fun c hc => hl c (List.mem_cons_of_mem _ hc))
    rw [beg] at h
    split at h
    · rename_i hc
      have e : a = c := by simpa using h
      subst e
      exact ⟨_, _, _, Ds.small hc h2⟩
    · rw [Bool.or_eq_true, Bool.and_eq_true] at h
      rcases h with h | ⟨h3, h4⟩
      · obtain ⟨w1, x1, n1, h1⟩ := hF c h
        exact ⟨_, _, _, h1.app h2⟩
      · unfold hasB at h3
        rw [Bool.and_eq_true] at h3
        obtain ⟨x1, n1, h1⟩ := hN c h3.2
        obtain ⟨w5, x5, n5, h5⟩ := beg_sound hN hF l (fun c hc => hl c (List.mem_cons_of_mem _ hc)) h4
        exact ⟨w5, _, _, by simpa using h1.app h5⟩
theorem first_sound {t : ByteArray} (h : (gErr t).1 = 0) : ∀ c a, firstT (parse t 8 0 []).1 c a = true → ∃ w x n, Ds (rul (parse t 8 0 []).1) [c] (a :: w) x n := by
  have hN := null_sound (parse_big t)
  have round : ∀ (l : List Ru), (∀ r ∈ l, r ∈ (parse t 8 0 []).1) → ∀ F : Nat → Nat → Bool, (∀ c a, F c a = true → ∃ w x n, Ds (rul (parse t 8 0 []).1) [c] (a :: w) x n) → ∀ c a, ffRound (nullS (parse t 8 0 []).1) l F c a = true → ∃ w x n, Ds (rul (parse t 8 0 []).1) [c] (a :: w) x n := by
    intro l
    induction l with
    | nil => intro _ F hF c a h; exact hF c a h
    | cons r l ih =>
      intro hin F hF c a h'
      have h2 : ffRound (nullS (parse t 8 0 []).1) l (joinF F r.L (beg (nullS (parse t 8 0 []).1) F (bytes r.R))) c a = true := h'
      refine ih (fun q hq => hin q (List.mem_cons_of_mem _ hq)) _ (fun c a hc => ?_) c a h2
      unfold joinF at hc
      rw [Bool.or_eq_true, Bool.and_eq_true] at hc
      rcases hc with hc | ⟨hc, hb⟩
      · exact hF c a hc
      · have e : c = r.L := by simpa using hc
        obtain ⟨k, k1, k2, k3⟩ := rul_no (hin r (List.mem_cons_self ..))
        obtain ⟨w, x, n, hd⟩ := beg_sound hN (fun c hc => hF c a hc) (bytes r.R) (fun c hc => let_some h (hin r (List.mem_cons_self ..)) hc) hb
        rw [← k3] at hd
        have := Ds.one k1 k2 hd
        rw [k3, ← e] at this
        exact ⟨_, _, _, this⟩
  have it : ∀ n c a, iterF (ffRound (nullS (parse t 8 0 []).1) (parse t 8 0 []).1) n (fun _ _ => false) c a = true → ∃ w x m, Ds (rul (parse t 8 0 []).1) [c] (a :: w) x m := by
    intro n
    induction n with
    | zero => intro c a h; cases h
    | succ n ih => intro c a h; exact round _ (fun _ h => h) _ ih c a h
  exact it _
theorem null_list {L : List Ru} {N : Nat → Bool} (hN : ∀ c, N c = true → ∃ x n, Ds L [c] [] x n) : ∀ l, l.all N = true → ∃ x n, Ds L l [] x n := by
  intro l
  induction l with
  | nil => intro _; exact ⟨[], 0, Ds.nil⟩
  | cons c l ih =>
    intro h
    rw [List.all_cons, Bool.and_eq_true] at h
    obtain ⟨x1, n1, h1⟩ := hN c h.1
    obtain ⟨x2, n2, h2⟩ := ih h.2
    exact ⟨x1 ++ x2, n1 + n2, by simpa using h1.app h2⟩
theorem gr_so {t : ByteArray} (h : (gErr t).1 = 0) : GrSo (rul (parse t 8 0 []).1) (nullS (parse t 8 0 []).1) (firstT (parse t 8 0 []).1) :=
  ⟨null_list (null_sound (parse_big t)), fun _ hk _ a hb => beg_sound (null_sound (parse_big t)) (fun c hc => first_sound h c a hc) _ (fun _ hc => let_all h hk (List.mem_of_mem_drop hc)) hb, fun _ hk _ => list_some _ (fun _ hc => let_all h hk (List.mem_of_mem_drop hc))⟩

theorem rowM_all {P : List It → Prop} {st : Nat → List It} (hst : ∀ c, P (st c)) : ∀ (cs : List Nat) (S : List (List It)) (m : List (Nat × Nat)) (S' : List (List It)) (m' : List (Nat × Nat)), (∀ l ∈ S, P l) → rowM st cs S m = some (S', m') → ∀ l ∈ S', P l
  | [], S, m, S', m', hS, h => by rw [rowM] at h; cases h; exact hS
  | c :: cs, S, m, S', m', hS, h => by
    rw [rowM] at h
    split at h
    · exact rowM_all hst cs S m S' m' hS h
    · split at h
      · cases h
      · refine rowM_all hst cs _ _ S' m' (fun l hl => ?_) h
        unfold numM at hl
        split at hl
        · exact hS l hl
        · rcases List.mem_append.1 hl with hl | hl
          · exact hS l hl
          · rw [List.mem_singleton.1 hl]; exact hst c
theorem tabM_all {P : List It → Prop} {rs : List Ru} {N : Nat → Bool} {T : Nat → Nat → Bool} (hst : ∀ l, P l → ∀ c, P (stepM rs N T l c)) : ∀ (f i : Nat) (S : List (List It)) (M : List (List (Nat × Nat))) (S' : List (List It)) (M' : List (List (Nat × Nat))), (∀ l ∈ S, P l) → tabM rs N T f i S M = some (S', M') → ∀ l ∈ S', P l
  | 0, _, S, M, S', M', hS, h => by rw [tabM] at h; cases h; exact hS
  | f + 1, i, S, M, S', M', hS, h => by
    rw [tabM] at h
    split at h
    · split at h
      · cases h
      · rename_i hr
        exact tabM_all hst f _ _ _ S' M' (rowM_all (hst _ (hS _ (List.getElem_mem _))) _ _ _ _ _ hS hr) h
    · cases h; exact hS
theorem cl_some {rs : List Ru} {N : Nat → Bool} {T : Nat → Nat → Bool} {X : It → Prop} {y : It} (h : Cl rs N T X y) : ∃ x, X x := h (fun _ => ∃ x, X x) (fun x hx => ⟨x, hx⟩) (fun _ _ hx _ => hx)
theorem getD_mem {S : List (List It)} {s : Nat} {y : It} (h : y ∈ S.getD s []) : S.getD s [] ∈ S := by
  rw [List.getD_eq_getElem?_getD] at *
  cases e : S[s]? with
  | none => rw [e] at h; cases h
  | some l => exact List.mem_of_getElem? e
theorem tab_ok {L : List Ru} {N : Nat → Bool} {T : Nat → Nat → Bool} (hC : GrCl L N T) {S' : List (List It)} {M' : List (List (Nat × Nat))} (h40 : S'.length ≤ 40) (h : tabM L N T 41 0 [startM L N T] [] = some (S', M')) : TabOk L N T (S', M') := by
  obtain ⟨hI, ⟨e, he⟩, hlen⟩ := tabM_spec 41 0 [startM L N T] [] S' M' rfl ⟨by simp, (fun n h => by simp at h), (fun n h => by simp at h)⟩ h
  have hML : M'.length = S'.length := by have := hI.le; omega
  have hst : ∀ y, y ∈ startM L N T ↔ Cl L N T (· = ⟨0, 0, 36⟩) y := start_mem hC.gr hC.pos
  have hP := tabM_all (P := fun l => (∀ y ∈ l, IOk L y) ∧ ∀ x ∈ l, ∀ y, Asks L N T x y → y ∈ l) (rs := L) (N := N) (T := T) (fun l hl c => ⟨step_ok hC.gr hl.1 c, fun x hx y ha => by rw [step_mem hC.gr hl.1] at hx ⊢; exact hx.step ha⟩) 41 0 [startM L N T] [] S' M' (fun l hl => by
    rw [List.mem_singleton.1 hl]
    refine ⟨fun y hy => ((hst y).1 hy).ok (fun x hx => by rw [hx]; exact ⟨hC.pos, Nat.zero_le _, Or.inl rfl⟩) hC.gr.fst, fun x hx y ha => ?_⟩
    rw [hst] at hx ⊢; exact hx.step ha) h
  have h0 : itm (S', M') 0 = startM L N T := by unfold itm; rw [he]; rfl
  have hok : ∀ s, ∀ y ∈ itm (S', M') s, IOk L y := fun s y hy => (hP _ (getD_mem hy)).1 y hy
  have hrow : ∀ s, s < S'.length → ∀ c, 65 ≤ c → c ≤ 122 → RowAt (stepM L N T (itm (S', M') s)) S' (M'.getD s []) c := fun s hs c h1 h2 => by
    have := hI.row s (by omega) c h1 h2
    rw [List.getD_eq_getElem?_getD, List.getElem?_eq_getElem (by omega)]
    exact this
  have hno : ∀ s, s < S'.length → ∀ c, (∀ x ∈ itm (S', M') s, ¬ MvB L c x) → stepM L N T (itm (S', M') s) c = [] := fun s hs c hx => by
    apply List.eq_nil_iff_forall_not_mem.2
    intro y hy
    rw [step_mem hC.gr (hok s)] at hy
    obtain ⟨_, x, h1, h2, _⟩ := cl_some hy
    exact hx x h1 h2
  refine ⟨hC, by rw [he]; simp, fun y => by rw [h0]; exact hst y, hok, fun s hs c hc => ?_, fun s hs c hc => ?_, fun s hs x hx y ha => (hP _ (getD_mem hx)).2 x hx y ha⟩
  · have hcb : 65 ≤ c ∧ c ≤ 122 := by
      unfold letB at hc
      rw [Bool.or_eq_true] at hc
      rcases hc with hc | hc
      · have := bigB_iff.1 hc; omega
      · have := smallB_iff.1 hc; omega
    obtain ⟨r1, r2⟩ := hrow s hs c hcb.1 hcb.2
    by_cases hx : ∃ x ∈ itm (S', M') s, MvB L c x
    · right
      obtain ⟨x, hx1, hx2⟩ := hx
      have hne : stepM L N T (itm (S', M') s) c ≠ [] := fun e => by
        have : mvI x ∈ stepM L N T (itm (S', M') s) c := (step_mem hC.gr (hok s) c _).2 (Cl.base ⟨x, hx1, hx2, rfl⟩)
        rw [e] at this; cases this
      obtain ⟨j, j1, j2⟩ := r2 hne
      have hj : j < S'.length := by
        rcases Nat.lt_or_ge j S'.length with hj | hj
        · exact hj
        · rw [List.getElem?_eq_none hj] at j2; cases j2
      refine ⟨j, j1, hj, ⟨x, hx1, hx2⟩, fun y => ?_⟩
      have : itm (S', M') j = stepM L N T (itm (S', M') s) c := by unfold itm; show S'.getD j [] = _; rw [List.getD_eq_getElem?_getD, j2]; rfl
      rw [this]; exact step_mem hC.gr (hok s) c y
    · left
      have hx' : ∀ x ∈ itm (S', M') s, ¬ MvB L c x := fun x h1 h2 => hx ⟨x, h1, h2⟩
      exact ⟨r1 (hno s hs c hx'), hx'⟩
  · have hs : s < S'.length := hs
    by_cases hcb : 65 ≤ c ∧ c ≤ 122
    · refine (hrow s hs c hcb.1 hcb.2).1 (hno s hs c (fun x h1 h2 => ?_))
      have hk := hok s x h1
      have : ch (rget L x.R).R x.P ∈ bytes (rget L x.R).R := by
        have hl : x.P < (bytes (rget L x.R).R).length := by rw [bytes_len]; exact h2.1
        rw [← bytes_get _ _ hl]; exact List.getElem_mem hl
      have := hC.let_ x.R hk.1 _ this
      rw [h2.2, hc] at this; cases this
    · unfold gto
      refine toM_no fun p hp e => hcb ?_
      have hp' : p ∈ M'[s]'(by omega) := by
        have hp2 : p ∈ M'.getD s [] := hp
        rw [List.getD_eq_getElem?_getD, List.getElem?_eq_getElem (by omega)] at hp2
        exact hp2
      have := hI.out s (by omega) p hp'
      omega
theorem tabR_len {t : ByteArray} {r : Tb} (h : tabR t = .inr r) : (gErr t).1 = 0 ∧ tabM (rul (parse t 8 0 []).1) (nullS (parse t 8 0 []).1) (firstT (parse t 8 0 []).1) 41 0 [startM (rul (parse t 8 0 []).1) (nullS (parse t 8 0 []).1) (firstT (parse t 8 0 []).1)] [] = some r := by
  unfold tabR at h
  split at h
  · cases h
  · rename_i h0
    split at h
    · cases h
    · rename_i hm
      cases h
      exact ⟨by simpa using h0, hm⟩
theorem nocl_of {L : List Ru} {r : Tb} (h : clsT L r ≠ 0) : NoCl L r := fun s hs a ha => by
  unfold clsT at h
  split at h
  · exact absurd rfl h
  · rename_i hx
    have hk : sgO a < 27 := sgO_lt ha
    have he := sgn_sgO ha
    rcases Nat.lt_or_ge 1 (actT L r s a).size with h1 | h1
    · exact absurd (anyC_true (f := fun k i => decide (1 < (actT L r k (sgn i)).size)) hs hk (by rw [he]; exact decide_eq_true h1)) hx
    · exact h1
/-- the reading stands -/
theorem rd_of {t : ByteArray} {r : Tb} (h : tabR t = .inr r) (h40 : r.1.length ≤ 40) (hc : clsT (rul (parse t 8 0 []).1) r ≠ 0) : Rd (rul (parse t 8 0 []).1) (nullS (parse t 8 0 []).1) (firstT (parse t 8 0 []).1) r (stOf (parse t 8 0 []).1) 1048576 := by
  obtain ⟨h0, hm⟩ := tabR_len h
  obtain ⟨ht, hp⟩ := gErr_zero h0
  have hz := gr_sz t ht hp
  exact ⟨tab_ok (gr_cl t ht hp) h40 hm, gr_so h0, nocl_of hc, st_bytes h0, fun u a n hu hd => Rd_bnd hz hu hd, fun w x n hw hd => Rd_bnd2 hz hw hd, by omega⟩
end Go.Proofs.YtkglggkkbmmjkaaDoor

namespace Go.Proofs.YtkglggkkbmmjkaaDoor
open Go.RowKit

/-- as Ds, and how deep it is at most -/
inductive Dh (L : List Ru) : List Nat → List Nat → List Nat → Nat → Nat → Prop
  | nil {h : Nat} : Dh L [] [] [] 0 h
  | small {c h n : Nat} {l w x : List Nat} : smallB c = true → Dh L l w x n (h + 1) → Dh L (c :: l) (c :: w) (c :: x) n (h + 1)
  | big {k h n1 n2 : Nat} {l w1 w2 x1 x2 : List Nat} : 1 ≤ k → k < L.length → Dh L (bytes (rget L k).R) w1 x1 n1 h → Dh L l w2 x2 n2 (h + 1) → Dh L ((rget L k).L :: l) (w1 ++ w2) ((48 + k) :: 40 :: (x1 ++ 41 :: x2)) (n1 + 1 + n2) (h + 1)
theorem Dh.ds {L : List Ru} {l w x : List Nat} {n h : Nat} (hd : Dh L l w x n h) : Ds L l w x n := by
  induction hd with
  | nil => exact Ds.nil
  | small hc _ ih => exact Ds.small hc ih
  | big k1 k2 _ _ ih1 ih2 => exact Ds.big k1 k2 ih1 ih2
theorem Dh.mono {L : List Ru} {l w x : List Nat} {n h : Nat} (hd : Dh L l w x n h) : ∀ {h' : Nat}, h ≤ h' → Dh L l w x n h' := by
  induction hd with
  | nil => intro _ _; exact Dh.nil
  | @small c h n l w x hc _ ih =>
    intro h' hh
    obtain ⟨h', rfl⟩ : ∃ q, h' = q + 1 := ⟨h' - 1, by omega⟩
    exact Dh.small hc (ih hh)
  | @big k h n1 n2 l w1 w2 x1 x2 k1 k2 _ _ ih1 ih2 =>
    intro h' hh
    obtain ⟨h', rfl⟩ : ∃ q, h' = q + 1 := ⟨h' - 1, by omega⟩
    exact Dh.big k1 k2 (ih1 (by omega)) (ih2 hh)
theorem Dh.app {L : List Ru} {l1 w1 x1 : List Nat} {n1 h : Nat} (hd : Dh L l1 w1 x1 n1 h) : ∀ {l2 w2 x2 : List Nat} {n2 : Nat}, Dh L l2 w2 x2 n2 h → Dh L (l1 ++ l2) (w1 ++ w2) (x1 ++ x2) (n1 + n2) h := by
  induction hd with
  | nil => intro l2 w2 x2 n2 h2; simpa using h2
  | small hc _ ih => intro l2 w2 x2 n2 h2; exact Dh.small hc (ih h2)
  | @big k h na nb l wa wb xa xb k1 k2 ha hb iha ihb =>
    intro l2 w2 x2 n2 h2
    have := Dh.big k1 k2 ha (ihb h2)
    rw [show wa ++ wb ++ w2 = wa ++ (wb ++ w2) from by simp, show (48 + k) :: 40 :: (xa ++ 41 :: xb) ++ x2 = (48 + k) :: 40 :: (xa ++ 41 :: (xb ++ x2)) from by simp, show na + 1 + nb + n2 = na + 1 + (nb + n2) from by omega]
    exact this
/-- the first letter apart -/
theorem Dh.cons_inv {L : List Ru} {c : Nat} {l w x : List Nat} {n h : Nat} (hd : Dh L (c :: l) w x n h) : ∃ w1 x1 n1 w2 x2 n2, Dh L [c] w1 x1 n1 h ∧ Dh L l w2 x2 n2 h ∧ w = w1 ++ w2 ∧ x = x1 ++ x2 ∧ n = n1 + n2 := by
  cases hd with
  | @small _ h n _ w x hc hd => exact ⟨[c], [c], 0, w, x, n, Dh.small hc Dh.nil, hd, rfl, rfl, by omega⟩
  | @big k h n1 n2 _ w1 w2 x1 x2 k1 k2 ha hb =>
    refine ⟨w1, (48 + k) :: 40 :: (x1 ++ [41]), n1 + 1, w2, x2, n2, ?_, hb, rfl, by simp, rfl⟩
    have := Dh.big k1 k2 ha (Dh.nil (L := L) (h := h + 1))
    simpa using this
end Go.Proofs.YtkglggkkbmmjkaaDoor

namespace Go.Proofs.YtkglggkkbmmjkaaDoor
open Go.RowKit

def seg (T : List Nat) (i j : Nat) : List Nat := (T.drop i).take (j - i)
theorem seg_nil (T : List Nat) (i : Nat) : seg T i i = [] := by unfold seg; simp
theorem seg_len {T : List Nat} {i j : Nat} (h : j ≤ T.length) : (seg T i j).length = j - i := by
  unfold seg; rw [List.length_take, List.length_drop]; omega
theorem seg_split {T : List Nat} {i k j : Nat} (h1 : i ≤ k) (h2 : k ≤ j) : seg T i k ++ seg T k j = seg T i j := by
  unfold seg
  rw [show j - i = (k - i) + (j - k) from by omega, List.take_add, List.drop_drop, show i + (k - i) = k from by omega]
theorem seg_cons {T : List Nat} {i j : Nat} (h1 : i < j) (h2 : j ≤ T.length) : seg T i j = T.getD i 0 :: seg T (i + 1) j := by
  have hi : i < T.length := by omega
  unfold seg
  rw [List.drop_eq_getElem_cons hi, show j - i = (j - (i + 1)) + 1 from by omega, List.take_succ_cons, List.getD_eq_getElem?_getD, List.getElem?_eq_getElem hi]
  rfl
theorem seg_one {T : List Nat} {i : Nat} (h : i < T.length) : seg T i (i + 1) = [T.getD i 0] := by
  rw [seg_cons (Nat.lt_succ_self i) h, seg_nil]
def oneP (T : List Nat) (Is : Nat → Nat → Nat → Bool) (c i j : Nat) : Bool := if smallB c then decide (j = i + 1) && decide (T.getD i 0 = c) else Is c i j
def rowP (T : List Nat) (Is : Nat → Nat → Nat → Bool) : List Nat → Nat → Nat → Bool
  | [], i, j => decide (i = j)
  | c :: w, i, j => (List.range' i (j + 1 - i)).any fun k => oneP T Is c i k && rowP T Is w k j
def aheadP (T : List Nat) (Is : Nat → Nat → Nat → Bool) (Go : Nat → Nat → Bool) : List Nat → Nat → Bool
  | [], i => decide (i = T.length)
  | c :: w, i => decide (i = T.length) || (bigB c && Go c i) || (List.range' i (T.length + 1 - i)).any fun k => oneP T Is c i k && aheadP T Is Go w k
theorem any_range {i m : Nat} {f : Nat → Bool} : (List.range' i m).any f = true ↔ ∃ k, i ≤ k ∧ k < i + m ∧ f k = true := by
  rw [List.any_eq_true]
  constructor
  · rintro ⟨k, hk, h⟩
    rw [List.mem_range'_1] at hk
    exact ⟨k, hk.1, hk.2, h⟩
  · rintro ⟨k, h1, h2, h⟩
    exact ⟨k, by rw [List.mem_range'_1]; exact ⟨h1, h2⟩, h⟩
theorem rowP_cons {T : List Nat} {Is : Nat → Nat → Nat → Bool} {c : Nat} {w : List Nat} {i j : Nat} : rowP T Is (c :: w) i j = true ↔ ∃ k, i ≤ k ∧ k ≤ j ∧ oneP T Is c i k = true ∧ rowP T Is w k j = true := by
  rw [rowP, any_range]
  constructor
  · rintro ⟨k, h1, h2, h⟩
    rw [Bool.and_eq_true] at h
    exact ⟨k, h1, by omega, h.1, h.2⟩
  · rintro ⟨k, h1, h2, h3, h4⟩
    exact ⟨k, h1, by omega, by rw [h3, h4]; rfl⟩
/-- what is told is so -/
structure PtSo (L : List Ru) (T : List Nat) (Is : Nat → Nat → Nat → Bool) (Go : Nat → Nat → Bool) : Prop where
  is : ∀ c i j, i ≤ j → j ≤ T.length → Is c i j = true → ∃ x m, Ds L [c] (seg T i j) x m
  go : ∀ c i, i ≤ T.length → Go c i = true → ∃ v x m, Ds L [c] (T.drop i ++ v) x m
/-- nothing is new -/
structure PtCl (L : List Ru) (T : List Nat) (Is : Nat → Nat → Nat → Bool) (Go : Nat → Nat → Bool) : Prop where
  is : ∀ k, 1 ≤ k → k < L.length → ∀ i j, i ≤ j → j ≤ T.length → rowP T Is (bytes (rget L k).R) i j = true → Is (rget L k).L i j = true
  go : ∀ k, 1 ≤ k → k < L.length → ∀ i, i ≤ T.length → aheadP T Is Go (bytes (rget L k).R) i = true → Go (rget L k).L i = true
theorem PtSo.one {L : List Ru} {T : List Nat} {Is : Nat → Nat → Nat → Bool} {Go : Nat → Nat → Bool} (h : PtSo L T Is Go) {c i j : Nat} (hij : i ≤ j) (hj : j ≤ T.length) (ho : oneP T Is c i j = true) : ∃ x m, Ds L [c] (seg T i j) x m := by
  unfold oneP at ho
  split at ho
  · rename_i hc
    rw [Bool.and_eq_true, decide_eq_true_iff, decide_eq_true_iff] at ho
    obtain ⟨rfl, e⟩ := ho
    rw [seg_one (by omega), e]
    exact ⟨_, _, Ds.small hc Ds.nil⟩
  · exact h.is c i j hij hj ho
theorem PtSo.row {L : List Ru} {T : List Nat} {Is : Nat → Nat → Nat → Bool} {Go : Nat → Nat → Bool} (h : PtSo L T Is Go) : ∀ (w : List Nat) {i j : Nat}, i ≤ j → j ≤ T.length → rowP T Is w i j = true → ∃ x m, Ds L w (seg T i j) x m
  | [], i, j, _, _, hr => by
    have e : i = j := by rw [rowP, decide_eq_true_iff] at hr; exact hr
    subst e
    rw [seg_nil]
    exact ⟨_, _, Ds.nil⟩
  | c :: w, i, j, hij, hj, hr => by
    obtain ⟨k, h1, h2, h3, h4⟩ := rowP_cons.1 hr
    obtain ⟨x1, m1, d1⟩ := h.one h1 (by omega) h3
    obtain ⟨x2, m2, d2⟩ := PtSo.row h w h2 hj h4
    rw [← seg_split h1 h2]
    exact ⟨_, _, d1.app d2⟩
theorem oneP_small {T : List Nat} {Is : Nat → Nat → Nat → Bool} {c i : Nat} (hc : smallB c = true) (h : T.getD i 0 = c) : oneP T Is c i (i + 1) = true := by
  unfold oneP
  rw [if_pos hc, h]; simp
theorem oneP_big {T : List Nat} {Is : Nat → Nat → Nat → Bool} {c i j : Nat} (hc : bigB c = true) (h : Is c i j = true) : oneP T Is c i j = true := by
  unfold oneP
  rw [if_neg (by rw [big_notsmall hc]; simp), h]
theorem PtCl.row {L : List Ru} {T : List Nat} {Is : Nat → Nat → Nat → Bool} {Go : Nat → Nat → Bool} (h : PtCl L T Is Go) (hb : ∀ k, 1 ≤ k → k < L.length → bigB (rget L k).L = true) {l w x : List Nat} {m : Nat} (hd : Ds L l w x m) : ∀ {i j : Nat}, i ≤ j → j ≤ T.length → w = seg T i j → rowP T Is l i j = true := by
  induction hd with
  | nil =>
    intro i j h1 h2 e
    have := seg_len (T := T) (i := i) h2
    rw [← e] at this
    rw [rowP, decide_eq_true_iff]
    simp at this; omega
  | @small c l w x n hc _ ih =>
    intro i j h1 h2 e
    have hl := seg_len (T := T) (i := i) h2
    rw [← e, List.length_cons] at hl
    rw [seg_cons (by omega) h2] at e
    obtain ⟨e1, e2⟩ := List.cons.inj e
    exact rowP_cons.2 ⟨i + 1, by omega, by omega, oneP_small hc e1.symm, ih (by omega) h2 e2⟩
  | @big k l w1 w2 x1 x2 n1 n2 k1 k2 _ _ ih1 ih2 =>
    intro i j h1 h2 e
    have hl := seg_len (T := T) (i := i) h2
    rw [← e, List.length_append] at hl
    rw [← seg_split (k := i + w1.length) (by omega) (by omega)] at e
    obtain ⟨e1, e2⟩ := List.append_inj e (by rw [seg_len (by omega)]; omega)
    exact rowP_cons.2 ⟨i + w1.length, by omega, by omega, oneP_big (hb k k1 k2) (h.is k k1 k2 _ _ (by omega) (by omega) (ih1 (by omega) (by omega) e1)), ih2 (by omega) h2 e2⟩
end Go.Proofs.YtkglggkkbmmjkaaDoor
