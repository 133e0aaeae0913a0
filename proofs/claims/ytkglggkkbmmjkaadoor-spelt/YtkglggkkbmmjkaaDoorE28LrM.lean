import Derived.Test.YtkglggkkbmmjkaaDoorE27TbDef
namespace Go.Proofs.YtkglggkkbmmjkaaDoor
open Go.RowKit

open Classical in
theorem srt_of (P : It → Prop) (hP : ∀ y, P y → y.ok) : ∃ L, Srt L ∧ ∀ y, y ∈ L ↔ P y := by
  let f : Nat → Option It := fun k => if h : ∃ y, P y ∧ y.key = k then some h.choose else none
  have hf : ∀ k y, f k = some y → P y ∧ y.key = k := fun k y h => by
    by_cases hx : ∃ y, P y ∧ y.key = k
    · have e : f k = some hx.choose := dif_pos hx
      rw [e] at h
      cases h
      exact hx.choose_spec
    · have e : f k = none := dif_neg hx
      rw [e] at h; cases h
  refine ⟨(List.range 8832).filterMap f, ?_, fun y => ?_⟩
  · unfold Srt
    rw [List.pairwise_filterMap]
    refine List.Pairwise.imp ?_ (List.pairwise_lt_range (n := 8832))
    intro a b hab x hx y hy
    rw [(hf a x hx).2, (hf b y hy).2]; exact hab
  · rw [List.mem_filterMap]
    constructor
    · rintro ⟨k, _, hk⟩; exact (hf k y hk).1
    · intro h
      have hx : ∃ z, P z ∧ z.key = y.key := ⟨y, h, rfl⟩
      refine ⟨y.key, List.mem_range.2 (hP y h).key_lt, ?_⟩
      have e : f y.key = some hx.choose := dif_pos hx
      rw [e, It.eq_of_key (hP _ hx.choose_spec.1) (hP y h) hx.choose_spec.2]

/-- what the rules must be -/
structure GrOk (rs : List Ru) (T : Nat → Nat → Bool) : Prop where
  len : rs.length ≤ 9
  small : ∀ i (h : i < rs.length), rs[i].R.size ≤ 4
  fst : ∀ c x, x < 128 → T c x = true → smallB x = true
theorem Cl.ok {rs : List Ru} {N : Nat → Bool} {T : Nat → Nat → Bool} {X : It → Prop} {y : It} (h : Cl rs N T X y) (hX : ∀ x, X x → IOk rs x) (hT : ∀ c x, x < 128 → T c x = true → smallB x = true) : IOk rs y :=
  h (IOk rs) hX (fun _ _ hx ha => ha.ok hx hT)
theorem full_ex {rs : List Ru} {N : Nat → Bool} {T : Nat → Nat → Bool} (hG : GrOk rs T) {K : List It} (hK : ∀ y ∈ K, IOk rs y) : ∃ L, FullOf rs N T K L := by
  obtain ⟨L, h1, h2⟩ := srt_of (Cl rs N T (· ∈ K)) (fun y hy => (hy.ok hK hG.fst).ok hG.len hG.small)
  exact ⟨L, ⟨h1, fun y hy => ((h2 y).1 hy).ok hK hG.fst, fun y hy => (h2 y).2 (Cl.base hy), fun y hy => (h2 y).1 hy⟩, fun x hx y ha => (h2 y).2 (((h2 x).1 hx).step ha)⟩
theorem mv_ok {rs : List Ru} {c : Nat} {x : It} (h : IOk rs x) (hm : MvB rs c x) : IOk rs (mvI x) := ⟨h.1, hm.1, h.2.2⟩
theorem kern_ex {rs : List Ru} {T : Nat → Nat → Bool} (hG : GrOk rs T) {l : List It} (hl : ∀ y ∈ l, IOk rs y) (c : Nat) : ∃ K, KernOf rs c l K := by
  have hok : ∀ y, (∃ x ∈ l, MvB rs c x ∧ y = mvI x) → IOk rs y := by
    rintro y ⟨x, hx, hm, rfl⟩; exact mv_ok (hl x hx) hm
  obtain ⟨K, h1, h2⟩ := srt_of (fun y => ∃ x ∈ l, MvB rs c x ∧ y = mvI x) (fun y hy => (hok y hy).ok hG.len hG.small)
  exact ⟨K, h1, fun y hy => hok y ((h2 y).1 hy), h2⟩
/-- an item behind a letter -/
def Mvd (rs : List Ru) (c : Nat) (l : List It) (y : It) : Prop := ∃ x ∈ l, MvB rs c x ∧ y = mvI x
theorem step_mem {rs : List Ru} {N : Nat → Bool} {T : Nat → Nat → Bool} (hG : GrOk rs T) {l : List It} (hl : ∀ y ∈ l, IOk rs y) (c : Nat) (y : It) : y ∈ stepM rs N T l c ↔ Cl rs N T (Mvd rs c l) y := by
  obtain ⟨K, hK⟩ := kern_ex hG hl c
  obtain ⟨F, hF⟩ := full_ex (N := N) hG hK.ok
  rw [stepM_eq hK hF, hF.mem y]
  unfold Cl Mvd
  constructor
  · intro h S h1 h2
    exact h S (fun x hx => h1 x ((hK.mem x).1 hx)) h2
  · intro h S h1 h2
    exact h S (fun x hx => h1 x ((hK.mem x).2 hx)) h2
theorem start_mem {rs : List Ru} {N : Nat → Bool} {T : Nat → Nat → Bool} (hG : GrOk rs T) (h0 : 0 < rs.length) (y : It) : y ∈ startM rs N T ↔ Cl rs N T (· = ⟨0, 0, 36⟩) y := by
  obtain ⟨F, hF⟩ := full_ex (N := N) hG (K := [⟨0, 0, 36⟩]) (fun y hy => by rw [List.mem_singleton.1 hy]; exact ⟨h0, Nat.zero_le _, Or.inl rfl⟩)
  rw [startM_eq hF, hF.mem y]
  unfold Cl
  constructor
  · intro h S h1 h2
    exact h S (fun x hx => h1 x (List.mem_singleton.1 hx)) h2
  · intro h S h1 h2
    exact h S (fun x hx => h1 x (List.mem_singleton.2 hx)) h2
theorem step_ok {rs : List Ru} {N : Nat → Bool} {T : Nat → Nat → Bool} (hG : GrOk rs T) {l : List It} (hl : ∀ y ∈ l, IOk rs y) (c : Nat) : ∀ y ∈ stepM rs N T l c, IOk rs y := fun y hy =>
  ((step_mem hG hl c y).1 hy).ok (fun x ⟨z, hz, hm, e⟩ => by rw [e]; exact mv_ok (hl z hz) hm) hG.fst

theorem toM_app_new {m : List (Nat × Nat)} {c j : Nat} (h : ∀ p ∈ m, p.1 ≠ c) (e : List (Nat × Nat)) : toM (m ++ (c, j) :: e) c = j := by
  unfold toM
  rw [List.find?_append, show m.find? (fun p => p.1 == c) = none from List.find?_eq_none.2 (fun p hp => by simpa using h p hp)]
  simp
theorem toM_no {m : List (Nat × Nat)} {c : Nat} (h : ∀ p ∈ m, p.1 ≠ c) : toM m c = -1 := by
  unfold toM
  rw [show m.find? (fun p => p.1 == c) = none from List.find?_eq_none.2 (fun p hp => by simpa using h p hp)]
theorem numM_spec (S : List (List It)) (L : List It) : ∃ e, (numM S L).1 = S ++ e ∧ (numM S L).2 < (numM S L).1.length ∧ (numM S L).1[(numM S L).2]? = some L := by
  unfold numM
  cases h : S.findIdx? (fun s => eqL s L) with
  | some i =>
    rw [List.findIdx?_eq_some_iff_getElem] at h
    obtain ⟨hi, he, _⟩ := h
    refine ⟨[], by simp, hi, ?_⟩
    show S[i]? = some L
    rw [List.getElem?_eq_getElem hi, eqL_iff.1 he]
  | none => exact ⟨[L], rfl, by simp, by simp⟩
/-- what a row says of a letter -/
def RowAt (st : Nat → List It) (S : List (List It)) (m : List (Nat × Nat)) (c : Nat) : Prop :=
  (st c = [] → toM m c = -1) ∧ (st c ≠ [] → ∃ j, toM m c = (j : Nat) ∧ S[j]? = some (st c))
theorem RowAt.ext {st : Nat → List It} {S : List (List It)} {m : List (Nat × Nat)} {c : Nat} (h : RowAt st S m c) (e : List (List It)) : RowAt st (S ++ e) m c := by
  refine ⟨h.1, fun hne => ?_⟩
  obtain ⟨j, h1, h2⟩ := h.2 hne
  refine ⟨j, h1, ?_⟩
  have hj : j < S.length := by
    rcases Nat.lt_or_ge j S.length with hj | hj
    · exact hj
    · rw [List.getElem?_eq_none hj] at h2; cases h2
  rw [List.getElem?_append_left hj]; exact h2
theorem rowM_spec (st : Nat → List It) : ∀ (cs : List Nat) (S : List (List It)) (m : List (Nat × Nat)) (S' : List (List It)) (m' : List (Nat × Nat)), cs.Nodup → (∀ p ∈ m, p.1 ∉ cs) → rowM st cs S m = some (S', m') →
    (∃ e, S' = S ++ e) ∧ (∃ e, m' = m ++ e ∧ ∀ p ∈ e, p.1 ∈ cs) ∧ ∀ c ∈ cs, RowAt st S' m' c
  | [], S, m, S', m', _, _, h => by
    rw [rowM] at h
    cases h
    exact ⟨⟨[], by simp⟩, ⟨[], by simp, by simp⟩, fun c hc => by cases hc⟩
  | c :: cs, S, m, S', m', hnd, hm, h => by
    have hnd' := List.nodup_cons.1 hnd
    rw [rowM] at h
    split at h
    · rename_i h0
      obtain ⟨h1, ⟨e, he, hec⟩, h3⟩ := rowM_spec st cs S m S' m' hnd'.2 (fun p hp hc => hm p hp (List.mem_cons_of_mem _ hc)) h
      refine ⟨h1, ⟨e, he, fun p hp => List.mem_cons_of_mem _ (hec p hp)⟩, fun d hd => ?_⟩
      rcases List.mem_cons.1 hd with rfl | hd
      · refine ⟨fun _ => toM_no fun p hp => ?_, fun hne => absurd (List.length_eq_zero_iff.1 h0) hne⟩
        rw [he] at hp
        rcases List.mem_append.1 hp with hp | hp
        · intro e2; exact hm p hp (by rw [e2]; exact List.mem_cons_self ..)
        · intro e2; exact hnd'.1 (by rw [← e2]; exact hec p hp)
      · exact h3 d hd
    · rename_i h0
      split at h
      · cases h
      · obtain ⟨e0, he0, hj, hget⟩ := numM_spec S (st c)
        obtain ⟨⟨e1, h1⟩, ⟨e, he, hec⟩, h3⟩ := rowM_spec st cs _ _ S' m' hnd'.2 (fun p hp hc => by
          rcases List.mem_append.1 hp with hp | hp
          · exact hm p hp (List.mem_cons_of_mem _ hc)
          · rw [List.mem_singleton.1 hp] at hc; exact hnd'.1 hc) h
        refine ⟨⟨e0 ++ e1, by rw [h1, he0, List.append_assoc]⟩, ⟨(c, (numM S (st c)).2) :: e, by rw [he]; simp, fun p hp => ?_⟩, fun d hd => ?_⟩
        · rcases List.mem_cons.1 hp with rfl | hp
          · exact List.mem_cons_self ..
          · exact List.mem_cons_of_mem _ (hec p hp)
        · rcases List.mem_cons.1 hd with rfl | hd
          · refine ⟨fun hn => absurd (by rw [hn]; rfl) h0, fun _ => ⟨(numM S (st d)).2, ?_, ?_⟩⟩
            · rw [he, List.append_assoc]
              exact toM_app_new (fun p hp e2 => hm p hp (by rw [e2]; exact List.mem_cons_self ..)) e
            · rw [h1, List.getElem?_append_left hj]; exact hget
          · exact h3 d hd
/-- a table, as far as it is made -/
structure TabI (rs : List Ru) (N : Nat → Bool) (T : Nat → Nat → Bool) (S : List (List It)) (M : List (List (Nat × Nat))) : Prop where
  le : M.length ≤ S.length
  row : ∀ n (h : n < M.length), ∀ c, 65 ≤ c → c ≤ 122 → RowAt (stepM rs N T (S.getD n [])) S M[n] c
  out : ∀ n (h : n < M.length), ∀ p ∈ M[n], 65 ≤ p.1 ∧ p.1 ≤ 122
theorem tabM_spec {rs : List Ru} {N : Nat → Bool} {T : Nat → Nat → Bool} : ∀ (f i : Nat) (S : List (List It)) (M : List (List (Nat × Nat))) (S' : List (List It)) (M' : List (List (Nat × Nat))), M.length = i → TabI rs N T S M → tabM rs N T f i S M = some (S', M') → TabI rs N T S' M' ∧ (∃ e, S' = S ++ e) ∧ (M'.length = i + f ∨ M'.length = S'.length)
  | 0, i, S, M, S', M', hi, hI, h => by
    rw [tabM] at h
    cases h
    exact ⟨hI, ⟨[], by simp⟩, Or.inl (by omega)⟩
  | f + 1, i, S, M, S', M', hi, hI, h => by
    rw [tabM] at h
    split at h
    · rename_i hlt
      split at h
      · cases h
      · rename_i S1 m1 hr
        obtain ⟨⟨e1, he1⟩, ⟨e2, he2, hin⟩, hrow⟩ := rowM_spec _ _ _ _ _ _ (List.nodup_range' ..) (fun p hp => by cases hp) hr
        have he2 : m1 = e2 := by simpa using he2
        have hI' : TabI rs N T S1 (M ++ [m1]) := by
          have hle := hI.le
          refine ⟨by rw [he1, List.length_append, List.length_append]; simp; omega, fun n hn c h1 h2 => ?_, fun n hn p hp => ?_⟩
          · rw [he1]
            by_cases hnM : n < M.length
            · rw [List.getElem_append_left hnM, show (S ++ e1).getD n [] = S.getD n [] from by
                rw [List.getD_eq_getElem?_getD, List.getD_eq_getElem?_getD, List.getElem?_append_left (by omega)]]
              exact (hI.row n hnM c h1 h2).ext e1
            · have hn' : n = M.length := by rw [List.length_append] at hn; simp at hn; omega
              subst hn'
              rw [List.getElem_append_right (by omega)]
              simp only [Nat.sub_self, List.getElem_singleton]
              rw [show (S ++ e1).getD M.length [] = S[i] from by
                rw [List.getD_eq_getElem?_getD, List.getElem?_append_left (by omega), List.getElem?_eq_getElem (by omega)]
                simp [hi]]
              rw [← he1]
              exact hrow c (by rw [List.mem_range'_1]; omega)
          · by_cases hnM : n < M.length
            · rw [List.getElem_append_left hnM] at hp; exact hI.out n hnM p hp
            · have hn' : n = M.length := by rw [List.length_append] at hn; simp at hn; omega
              subst hn'
              rw [List.getElem_append_right (by omega)] at hp
              simp only [Nat.sub_self, List.getElem_singleton] at hp
              rw [he2] at hp
              have := hin p hp
              rw [List.mem_range'_1] at this; omega
        obtain ⟨k1, ⟨e3, k2⟩, k3⟩ := tabM_spec f (i + 1) S1 (M ++ [m1]) S' M' (by rw [List.length_append, hi]; rfl) hI' h
        exact ⟨k1, ⟨e1 ++ e3, by rw [k2, he1, List.append_assoc]⟩, by rcases k3 with k3 | k3 <;> omega⟩
    · cases h
      rename_i hlt
      have := hI.le
      exact ⟨hI, ⟨[], by simp⟩, Or.inr (by omega)⟩
end Go.Proofs.YtkglggkkbmmjkaaDoor

namespace Go.Proofs.YtkglggkkbmmjkaaDoor
open Go.RowKit

/-- letters derive a word; how that is written; by how many replacements -/
inductive Ds (L : List Ru) : List Nat → List Nat → List Nat → Nat → Prop
  | nil : Ds L [] [] [] 0
  | small {c : Nat} {l w x : List Nat} {n : Nat} : smallB c = true → Ds L l w x n → Ds L (c :: l) (c :: w) (c :: x) n
  | big {k : Nat} {l w1 w2 x1 x2 : List Nat} {n1 n2 : Nat} : 1 ≤ k → k < L.length → Ds L (bytes (rget L k).R) w1 x1 n1 → Ds L l w2 x2 n2 → Ds L ((rget L k).L :: l) (w1 ++ w2) ((48 + k) :: 40 :: (x1 ++ 41 :: x2)) (n1 + 1 + n2)
theorem Ds.app {L : List Ru} {l1 w1 x1 : List Nat} {n1 : Nat} (h : Ds L l1 w1 x1 n1) : ∀ {l2 w2 x2 : List Nat} {n2 : Nat}, Ds L l2 w2 x2 n2 → Ds L (l1 ++ l2) (w1 ++ w2) (x1 ++ x2) (n1 + n2) := by
  induction h with
  | nil => intro l2 w2 x2 n2 h; simpa using h
  | small hc _ ih => intro l2 w2 x2 n2 h; exact Ds.small hc (ih h)
  | @big k l wa wb xa xb na nb h1 h2 ha hb iha ihb =>
    intro l2 w2 x2 n2 h
    have := Ds.big h1 h2 ha (ihb h)
    rw [show wa ++ wb ++ w2 = wa ++ (wb ++ w2) from by simp, show (48 + k) :: 40 :: (xa ++ 41 :: xb) ++ x2 = (48 + k) :: 40 :: (xa ++ 41 :: (xb ++ x2)) from by simp, show na + 1 + nb + n2 = na + 1 + (nb + n2) from by omega]
    exact this
theorem Ds.one {L : List Ru} {k : Nat} {w x : List Nat} {n : Nat} (h1 : 1 ≤ k) (h2 : k < L.length) (h : Ds L (bytes (rget L k).R) w x n) : Ds L [(rget L k).L] w ((48 + k) :: 40 :: (x ++ [41])) (n + 1) := by
  have := Ds.big h1 h2 h Ds.nil
  simpa using this
theorem Ds.smalls {L : List Ru} {l w x : List Nat} {n : Nat} (h : Ds L l w x n) : ∀ a ∈ w, smallB a = true := by
  induction h with
  | nil => intro a ha; cases ha
  | small hc _ ih =>
    intro a ha
    rcases List.mem_cons.1 ha with rfl | ha
    · exact hc
    · exact ih a ha
  | big _ _ _ _ ih1 ih2 =>
    intro a ha
    rcases List.mem_append.1 ha with ha | ha
    · exact ih1 a ha
    · exact ih2 a ha

/-- the rules, with what is known of their letters: closed -/
structure GrCl (L : List Ru) (N : Nat → Bool) (T : Nat → Nat → Bool) : Prop where
  gr : GrOk L T
  pos : 0 < L.length
  big : ∀ k, 1 ≤ k → k < L.length → bigB (rget L k).L = true
  nul : ∀ k, 1 ≤ k → k < L.length → (bytes (rget L k).R).all N = true → N (rget L k).L = true
  fst : ∀ k a, 1 ≤ k → k < L.length → beg N T (bytes (rget L k).R) a = true → T (rget L k).L a = true
  let_ : ∀ k, k < L.length → ∀ c ∈ bytes (rget L k).R, letB c = true
theorem big_notsmall {c : Nat} (h : bigB c = true) : smallB c = false := by
  have := bigB_iff.1 h
  cases e : smallB c
  · rfl
  · have := smallB_iff.1 e; omega
theorem ds_first {L : List Ru} {N : Nat → Bool} {T : Nat → Nat → Bool} (hG : GrCl L N T) {l w x : List Nat} {n : Nat} (h : Ds L l w x n) : (w = [] → l.all N = true) ∧ ∀ a w', w = a :: w' → beg N T l a = true := by
  induction h with
  | nil => exact ⟨fun _ => rfl, (fun a w' e => by cases e)⟩
  | @small c l w x n hc _ ih =>
    refine ⟨(fun e => by cases e), (fun a w' e => ?_)⟩
    cases e
    rw [beg, if_pos hc]; simp
  | @big k l w1 w2 x1 x2 n1 n2 h1 h2 _ _ ih1 ih2 =>
    have hb := hG.big k h1 h2
    refine ⟨fun e => ?_, fun a w' e => ?_⟩
    · rw [List.append_eq_nil_iff] at e
      rw [List.all_cons, hG.nul k h1 h2 (ih1.1 e.1), ih2.1 e.2]; rfl
    · rw [beg, big_notsmall hb]
      simp only [Bool.false_eq_true, if_false]
      cases w1 with
      | nil =>
        rw [List.nil_append] at e
        have hn := hG.nul k h1 h2 (ih1.1 rfl)
        rw [show hasB N (rget L k).L = true from by unfold hasB; rw [hb, hn]; rfl, ih2.2 a w' e]; simp
      | cons b w1 =>
        rw [List.cons_append] at e
        obtain ⟨rfl, _⟩ := List.cons.inj e
        rw [hG.fst k b h1 h2 (ih1.2 b w1 rfl)]; rfl

def itm (r : Tb) (s : Nat) : List It := r.1.getD s []
def gto (r : Tb) (s c : Nat) : Int := toM (r.2.getD s []) c
/-- a table that stands -/
structure TabOk (L : List Ru) (N : Nat → Bool) (T : Nat → Nat → Bool) (r : Tb) : Prop where
  cl : GrCl L N T
  pos : 0 < r.1.length
  zero : ∀ y, y ∈ itm r 0 ↔ Cl L N T (· = ⟨0, 0, 36⟩) y
  ok : ∀ s, ∀ y ∈ itm r s, IOk L y
  step : ∀ s, s < r.1.length → ∀ c, letB c = true → (gto r s c = -1 ∧ ∀ x ∈ itm r s, ¬ MvB L c x) ∨ ∃ j : Nat, gto r s c = j ∧ j < r.1.length ∧ (∃ x ∈ itm r s, MvB L c x) ∧ ∀ y, y ∈ itm r j ↔ Cl L N T (Mvd L c (itm r s)) y
  nolet : ∀ s, s < r.1.length → ∀ c, letB c = false → gto r s c = -1
  closed : ∀ s, s < r.1.length → ∀ x ∈ itm r s, ∀ y, Asks L N T x y → y ∈ itm r s
theorem TabOk.goto {L : List Ru} {N : Nat → Bool} {T : Nat → Nat → Bool} {r : Tb} (h : TabOk L N T r) {s : Nat} (hs : s < r.1.length) {x : It} (hx : x ∈ itm r s) {c : Nat} (hm : MvB L c x) (hc : letB c = true) : ∃ j : Nat, gto r s c = j ∧ j < r.1.length ∧ ∀ y, y ∈ itm r j ↔ Cl L N T (Mvd L c (itm r s)) y := by
  rcases h.step s hs c hc with ⟨_, h2⟩ | ⟨j, h1, h2, _, h4⟩
  · exact absurd hm (h2 x hx)
  · exact ⟨j, h1, h2, h4⟩

abbrev Stk := List (Nat × List Nat)
def txt (pt : Stk) : List Nat := pt.reverse.flatMap (·.2)
def topS (st : Stk) : Nat := (st.headD (0, [])).1
theorem txt_snoc (pt : Stk) (q : Nat × List Nat) : txt (pt ++ [q]) = q.2 ++ txt pt := by simp [txt]
theorem txt_cons (q : Nat × List Nat) (pt : Stk) : txt (q :: pt) = txt pt ++ q.2 := by simp [txt]
def nodeT (k : Nat) (x : List Nat) : List Nat := (48 + k) :: 40 :: (x ++ [41])
/-- moves of the reading: the stack, and what is still to come; how often a right side was replaced -/
inductive Run (L : List Ru) (r : Tb) : Nat → Stk → List Nat → Stk → List Nat → Prop
  | refl {st : Stk} {inp : List Nat} : Run L r 0 st inp st inp
  | shift {n s a j : Nat} {x inp inp' : List Nat} {st st' : Stk} : s < r.1.length → smallB a = true → gto r s a = (j : Nat) → j < r.1.length → Run L r n ((j, [a]) :: (s, x) :: st) inp st' inp' → Run L r n ((s, x) :: st) (a :: inp) st' inp'
  | reduce {n k s a j : Nat} {x inp inp' : List Nat} {pt st st' : Stk} : topS (pt ++ (s, x) :: st) < r.1.length → 1 ≤ k → k < L.length → canR L r (topS (pt ++ (s, x) :: st)) a k = true → pt.length = (rget L k).R.size → gto r s (rget L k).L = (j : Nat) → j < r.1.length →
      Run L r n ((j, nodeT k (txt pt)) :: (s, x) :: st) (a :: inp) st' inp' → Run L r (n + 1) (pt ++ (s, x) :: st) (a :: inp) st' inp'
theorem Run.trans {L : List Ru} {r : Tb} {n m : Nat} {a b c : Stk} {u v w : List Nat} (h : Run L r n a u b v) (k : Run L r m b v c w) : Run L r (n + m) a u c w := by
  induction h with
  | refl => simpa using k
  | shift h0 h1 h2 h3 _ ih => exact Run.shift h0 h1 h2 h3 (ih k)
  | reduce h0 h1 h2 h3 h4 h5 h6 _ ih =>
    have := Run.reduce h0 h1 h2 h3 h4 h5 h6 (ih k)
    rw [show ∀ a b : Nat, a + 1 + b = a + b + 1 from fun a b => by omega]
    exact this
theorem canR_of {L : List Ru} {r : Tb} {s a k : Nat} (h : (⟨k, (rget L k).R.size, a⟩ : It) ∈ itm r s) : canR L r s a k = true := by
  unfold canR endsL
  rw [List.any_eq_true]
  exact ⟨_, h, by unfold endI; simp⟩
theorem canR_inv {L : List Ru} {r : Tb} {s a k : Nat} (h : canR L r s a k = true) : (⟨k, (rget L k).R.size, a⟩ : It) ∈ itm r s := by
  unfold canR endsL at h
  rw [List.any_eq_true] at h
  obtain ⟨⟨y1, y2, y3⟩, hy, e⟩ := h
  unfold endI at e
  simp only [Bool.and_eq_true, beq_iff_eq] at e
  obtain ⟨e1, e2, e3⟩ := e
  subst e3
  subst e2
  subst e1
  exact hy
theorem drop_cons {R : ByteArray} {p c : Nat} {l : List Nat} (h : (bytes R).drop p = c :: l) : p < R.size ∧ ch R p = c ∧ (bytes R).drop (p + 1) = l := by
  have hp : p < (bytes R).length := by
    rcases Nat.lt_or_ge p (bytes R).length with hp | hp
    · exact hp
    · rw [List.drop_eq_nil_of_le hp] at h; cases h
  rw [List.drop_eq_getElem_cons hp] at h
  obtain ⟨e1, e2⟩ := List.cons.inj h
  have hp' : p < R.size := by rw [← bytes_len]; exact hp
  exact ⟨hp', by rw [← e1, bytes_get], e2⟩
theorem sig_lt {a : Nat} (h : a = 36 ∨ smallB a = true) : a < 128 := by
  rcases h with h | h
  · omega
  · have := smallB_iff.1 h; omega
/-- what is derived is read so: by as many replacements, and so written -/
theorem sim {L : List Ru} {N : Nat → Bool} {T : Nat → Nat → Bool} {r : Tb} (hT : TabOk L N T r) {l w x : List Nat} {n : Nat} (hd : Ds L l w x n) : ∀ {s : Nat} {xs : List Nat} {st : Stk} {k p a : Nat}, s < r.1.length → (⟨k, p, a⟩ : It) ∈ itm r s → (bytes (rget L k).R).drop p = l → ∀ inp, ∃ pt : Stk,
    pt.length = l.length ∧ txt pt = x ∧ topS (pt ++ (s, xs) :: st) < r.1.length ∧ (⟨k, p + l.length, a⟩ : It) ∈ itm r (topS (pt ++ (s, xs) :: st)) ∧ Run L r n ((s, xs) :: st) (w ++ a :: inp) (pt ++ (s, xs) :: st) (a :: inp) := by
  induction hd with
  | nil =>
    intro s xs st k p a hs hi _ inp
    exact ⟨[], rfl, rfl, hs, hi, Run.refl⟩
  | @small c l w x n hc _ ih =>
    intro s xs st k p a hs hi hl inp
    obtain ⟨h1, h2, h3⟩ := drop_cons hl
    have hlet : letB c = true := by unfold letB; rw [hc]; simp
    have hm : MvB L c ⟨k, p, a⟩ := ⟨h1, h2⟩
    obtain ⟨j, g1, g2, g3⟩ := hT.goto hs hi hm hlet
    obtain ⟨pt, e1, e2, e3, e4, e5⟩ := ih (xs := [c]) (st := (s, xs) :: st) g2 ((g3 ⟨k, p + 1, a⟩).2 (Cl.base ⟨_, hi, hm, rfl⟩)) h3 inp
    refine ⟨pt ++ [(j, [c])], by simp [e1], by rw [txt_snoc, e2]; rfl, by simpa using e3, ?_, ?_⟩
    · rw [List.append_assoc, List.length_cons, show p + (l.length + 1) = p + 1 + l.length from by omega]; exact e4
    · rw [List.append_assoc]
      exact Run.shift hs hc g1 g2 e5
  | @big k' l w1 w2 x1 x2 n1 n2 k1 k2 hd1 hd2 ih1 ih2 =>
    intro s xs st k p a hs hi hl inp
    obtain ⟨h1, h2, h3⟩ := drop_cons hl
    have hb := hT.cl.big k' k1 k2
    have hlet : letB (rget L k').L = true := by unfold letB; rw [hb]; rfl
    have hm : MvB L (rget L k').L ⟨k, p, a⟩ := ⟨h1, h2⟩
    have hia := (hT.ok s _ hi).2.2
    obtain ⟨j, g1, g2, g3⟩ := hT.goto hs hi hm hlet
    obtain ⟨b, inp1, hbi, hb128, hsg⟩ : ∃ b inp1, w2 ++ a :: inp = b :: inp1 ∧ b < 128 ∧ sgS N T (rget L k) (p + 1) a b = true := by
      have hf := ds_first hT.cl hd2
      cases w2 with
      | nil => exact ⟨a, inp, rfl, sig_lt hia, by unfold sgS; rw [h3, hf.1 rfl]; simp⟩
      | cons b w2 => exact ⟨b, w2 ++ a :: inp, rfl, sig_lt (Or.inr (hd2.smalls b (List.mem_cons_self ..))), by unfold sgS; rw [h3, hf.2 b w2 rfl]; rfl⟩
    have hask : Asks L N T ⟨k, p, a⟩ ⟨k', 0, b⟩ := ⟨h1, by show bigB (ch (rget L k).R p) = true; rw [h2]; exact hb, k1, k2, h2.symm, rfl, hb128, hsg⟩
    obtain ⟨pt1, e1, e2, e3, e4, e5⟩ := ih1 (xs := xs) (st := st) hs (hT.closed s hs _ hi _ hask) rfl inp1
    obtain ⟨pt2, f1, f2, f3, f4, f5⟩ := ih2 (xs := nodeT k' x1) (st := (s, xs) :: st) g2 ((g3 ⟨k, p + 1, a⟩).2 (Cl.base ⟨_, hi, hm, rfl⟩)) h3 inp
    refine ⟨pt2 ++ [(j, nodeT k' x1)], by simp [f1], by rw [txt_snoc, f2]; simp [nodeT], by simpa using f3, ?_, ?_⟩
    · rw [List.append_assoc, List.length_cons, show p + (l.length + 1) = p + 1 + l.length from by omega]; exact f4
    · rw [bytes_len] at e1 e4
      rw [Nat.zero_add] at e4
      rw [List.append_assoc, List.append_assoc, hbi, show n1 + 1 + n2 = n1 + (n2 + 1) from by omega]
      refine e5.trans (Run.reduce e3 k1 k2 (canR_of e4) e1 g1 g2 ?_)
      rw [e2, ← hbi]; exact f5
end Go.Proofs.YtkglggkkbmmjkaaDoor
