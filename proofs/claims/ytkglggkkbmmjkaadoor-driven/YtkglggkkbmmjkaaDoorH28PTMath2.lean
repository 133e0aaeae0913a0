import Derived.Test.YtkglggkkbmmjkaaDoorH27PStates
import Derived.Test.YtkglggkkbmmjkaaDoorH12LrTab
namespace Go.Proofs.YtkglggkkbmmjkaaDoor
open Go.RowKit

def itOf (j : Nat) : It := ⟨j / 135, j % 135 / 27, sgn (j % 27)⟩
def ixI (x : It) : Nat := x.R * 135 + x.P * 27 + sgO x.T
theorem ixI_itOf (j : Nat) : ixI (itOf j) = j := by
  unfold ixI itOf
  dsimp only
  rw [sgO_sgn]; omega
theorem itOf_ixI {x : It} (hP : x.P < 5) (hT : sigB x.T = true) : itOf (ixI x) = x := by
  have h := sgO_lt hT
  have h1 : ixI x / 135 = x.R := by unfold ixI; omega
  have h2 : ixI x % 135 / 27 = x.P := by unfold ixI; omega
  have h3 : ixI x % 27 = sgO x.T := by unfold ixI; omega
  unfold itOf
  rw [h1, h2, h3, sgn_sgO hT]
theorem ixI_lt {x : It} (hR : x.R < 9) (hP : x.P < 5) (hT : sigB x.T = true) : ixI x < 1215 := by
  have h := sgO_lt hT
  unfold ixI; omega
theorem itOf_inj {i j : Nat} (h : itOf i = itOf j) : i = j := by rw [← ixI_itOf i, h, ixI_itOf]
/-- the items of a set, in order -/
def repL (A : Nat → Bool) : List It := ((List.range 1215).filter A).map itOf
theorem mem_repL {A : Nat → Bool} {x : It} : x ∈ repL A ↔ ∃ j, j < 1215 ∧ A j = true ∧ itOf j = x := by
  unfold repL
  rw [List.mem_map]
  constructor
  · rintro ⟨j, hj, e⟩
    rw [List.mem_filter, List.mem_range] at hj
    exact ⟨j, hj.1, hj.2, e⟩
  · rintro ⟨j, h1, h2, e⟩
    exact ⟨j, by rw [List.mem_filter, List.mem_range]; exact ⟨h1, h2⟩, e⟩
theorem itOf_mem {A : Nat → Bool} {j : Nat} : itOf j ∈ repL A ↔ j < 1215 ∧ A j = true := by
  rw [mem_repL]
  constructor
  · rintro ⟨i, h1, h2, e⟩
    rw [← itOf_inj e]; exact ⟨h1, h2⟩
  · intro ⟨h1, h2⟩; exact ⟨j, h1, h2, rfl⟩
theorem key_lt {i j : Nat} (h : i < j) : (itOf i).key < (itOf j).key := by
  unfold itOf It.key
  dsimp only
  have hi : i % 27 < 27 := Nat.mod_lt _ (by omega)
  have hj : j % 27 < 27 := Nat.mod_lt _ (by omega)
  have s1 : sgn (i % 27) < 128 := by unfold sgn; split <;> omega
  have s2 : sgn (j % 27) < 128 := by unfold sgn; split <;> omega
  by_cases e : i / 27 = j / 27
  · have h1 : i / 135 = j / 135 := by omega
    have h2 : i % 135 / 27 = j % 135 / 27 := by omega
    have h3 : i % 27 < j % 27 := by omega
    have h4 : sgn (i % 27) < sgn (j % 27) := by
      unfold sgn
      rw [if_neg (show ¬ j % 27 = 0 from by omega)]
      split <;> omega
    rw [h1, h2]; omega
  · have h1 : i / 27 < j / 27 := by omega
    have e1 : i / 135 * 8 + i % 135 / 27 < j / 135 * 8 + j % 135 / 27 := by omega
    omega
theorem srt_repL (A : Nat → Bool) : Srt (repL A) := by
  unfold Srt repL
  rw [List.pairwise_map]
  have : (List.range 1215).Pairwise (· < ·) := List.pairwise_lt_range
  exact (this.filter A).imp fun h => key_lt h
theorem repL_eq {A B : Nat → Bool} : repL A = repL B ↔ allB 1215 A B = true := by
  rw [allB_iff]
  constructor
  · intro h j hj
    have := @itOf_mem A j
    rw [h, itOf_mem] at this
    cases ha : A j
    · cases hb : B j
      · rfl
      · rw [ha, hb] at this; have := this.1 ⟨hj, rfl⟩; exact absurd this.2 (by simp)
    · exact (this.2 ⟨hj, ha⟩).2.symm ▸ rfl
  · intro h
    unfold repL
    rw [List.filter_congr (q := B) (fun j hj => h j (List.mem_range.1 hj))]
theorem eqL_repL (A B : Nat → Bool) : eqL (repL A) (repL B) = allB 1215 A B := by
  apply Bool.eq_iff_iff.2
  rw [eqL_iff, repL_eq]

/-- rules by their numbers -/
structure GoodL (L : List Ru) : Prop where
  len : L.length ≤ 9
  sz : ∀ i, (rget L i).R.size ≤ 4
  r0 : bigB (rget L 0).L = false
theorem rget_none (L : List Ru) (i : Nat) (h : L.length ≤ i) : rget L i = ru0 := by
  unfold rget
  rw [List.getD_eq_getElem?_getD, List.getElem?_eq_none h]; rfl
theorem ch_big {s : ByteArray} {t : Nat} (h : bigB (ch s t) = true) : t < s.size := by
  unfold ch at h
  split at h
  · assumption
  · cases h
theorem ask_iff {L : List Ru} {N : Nat → Bool} {T : Nat → Nat → Bool} (hG : GoodL L) (hN : ∀ c, vanB N false c = N c) (i j : Nat) :
    AskI (planOf L N T) i j ↔ Asks L N T (itOf i) (itOf j) := by
  have hv : ∀ l : List Nat, l.all (vanB N false) = l.all N := fun l => by
    induction l with
    | nil => rfl
    | cons a l ih => rw [List.all_cons, List.all_cons, ih, hN]
  obtain ⟨n, hn⟩ : ∃ n, i / 27 / 5 = n := ⟨_, rfl⟩
  obtain ⟨t, ht⟩ : ∃ t, i / 27 % 5 = t := ⟨_, rfl⟩
  have hn' : i / 135 = n := by omega
  have ht' : i % 135 / 27 = t := by omega
  unfold AskI Asks itOf
  dsimp only
  rw [hn, ht, hn', ht']
  show bigB (ch (rget L n).R t) = true ∧ j / 135 < 9 ∧ (rget L (j / 135)).L = ch (rget L n).R t ∧ j % 135 < 27 ∧ ((decide (t < (rget L n).R.size) && beg N T ((bytes (rget L n).R).drop (t + 1)) (sgn (j % 135))) = true ∨ ((decide (t < (rget L n).R.size) && ((bytes (rget L n).R).drop (t + 1)).all (vanB N false)) = true ∧ i % 27 = j % 135)) ↔ _
  rw [hv]
  constructor
  · intro ⟨h1, h2, h3, h4, h5⟩
    have hts := ch_big h1
    have hR : j / 135 < L.length := by
      rcases Nat.lt_or_ge (j / 135) L.length with h | h
      · exact h
      · rw [rget_none L _ h] at h3
        rw [← h3] at h1; cases h1
    have hR1 : 1 ≤ j / 135 := by
      rcases Nat.eq_zero_or_pos (j / 135) with h | h
      · rw [h] at h3
        rw [← h3, hG.r0] at h1; cases h1
      · exact h
    have hjm : j % 27 = j % 135 := by omega
    have hs : sgn (j % 27) < 128 := by
      have : j % 27 < 27 := Nat.mod_lt _ (by omega)
      unfold sgn; split <;> omega
    refine ⟨hts, h1, hR1, hR, h3, by omega, hs, ?_⟩
    unfold sgS
    rw [hjm, Bool.or_eq_true, Bool.and_eq_true]
    rcases h5 with h5 | ⟨h5, h6⟩
    · rw [Bool.and_eq_true] at h5; exact Or.inl h5.2
    · rw [Bool.and_eq_true] at h5
      exact Or.inr ⟨h5.2, by rw [h6]; simp⟩
  · intro ⟨h1, h2, h3, h4, h5, h6, h7, h8⟩
    have hjp : j % 135 < 27 := by omega
    have hjm : j % 27 = j % 135 := by omega
    have := hG.len
    refine ⟨h2, by omega, h5, hjp, ?_⟩
    rw [decide_eq_true h1, Bool.true_and, Bool.true_and]
    unfold sgS at h8
    rw [hjm, Bool.or_eq_true, Bool.and_eq_true] at h8
    rcases h8 with h8 | ⟨h8, h9⟩
    · exact Or.inl h8
    · refine Or.inr ⟨h8, ?_⟩
      have h10 : sgn (j % 135) = sgn (i % 27) := by simpa using h9
      exact (sgn_inj h10 hjp (Nat.mod_lt _ (by omega))).symm

/-- an item of these rules lies in a set's range -/
theorem IOk.ix {L : List Ru} (hG : GoodL L) {x : It} (h : IOk L x) : ixI x < 1215 ∧ itOf (ixI x) = x := by
  obtain ⟨h1, h2, h3⟩ := h
  have hs : sigB x.T = true := by
    rcases h3 with h | h
    · rw [h]; rfl
    · simp [sigB, h]
  have := hG.sz x.R
  have := hG.len
  exact ⟨ixI_lt (by omega) (by omega) hs, itOf_ixI (by omega) hs⟩
/-- all its items are items of these rules -/
def SOk (L : List Ru) (A : Nat → Bool) : Prop := ∀ j, j < 1215 → A j = true → IOk L (itOf j)

theorem cl_iff {L : List Ru} {N : Nat → Bool} {T : Nat → Nat → Bool} (hG : GoodL L) (hN : ∀ c, vanB N false c = N c) (hT : ∀ c x, x < 128 → T c x = true → smallB x = true) {A : Nat → Bool} (hA : SOk L A) (j : Nat) :
    (j < 1215 ∧ ClI (planOf L N T) A j) ↔ Cl L N T (· ∈ repL A) (itOf j) := by
  constructor
  · intro ⟨_, h⟩
    refine h (fun j => Cl L N T (· ∈ repL A) (itOf j)) (fun i hi ha => Cl.base (itOf_mem.2 ⟨hi, ha⟩)) (fun i j _ hs hk => hs.step ((ask_iff hG hN i j).1 hk))
  · intro h
    have := h (fun y => IOk L y ∧ ClI (planOf L N T) A (ixI y)) (fun x hx => by
      obtain ⟨i, hi, ha, rfl⟩ := mem_repL.1 hx
      refine ⟨hA i hi ha, ?_⟩
      rw [ixI_itOf]
      exact fun S s1 _ => s1 i hi ha) (fun x y hx hk => by
      have hy := hk.ok hx.1 hT
      obtain ⟨x1, x2⟩ := hx.1.ix hG
      obtain ⟨y1, y2⟩ := hy.ix hG
      refine ⟨hy, fun S s1 s2 => s2 (ixI x) (ixI y) x1 (hx.2 S s1 s2) ?_⟩
      rw [ask_iff hG hN, x2, y2]; exact hk)
    have e := (this.1.ix hG)
    rw [ixI_itOf] at e this
    exact ⟨e.1, this.2⟩
/-- a set that is filled, as a list -/
theorem full_of {L : List Ru} {N : Nat → Bool} {T : Nat → Nat → Bool} (hG : GoodL L) (hN : ∀ c, vanB N false c = N c) (hT : ∀ c x, x < 128 → T c x = true → smallB x = true) {A B : Nat → Bool} (hA : SOk L A) (h : FuI (planOf L N T) A B) : FullOf L N T (repL A) (repL B) ∧ SOk L B := by
  have hok : ∀ j, j < 1215 → B j = true → IOk L (itOf j) := fun j hj hb => by
    have hc := (cl_iff hG hN hT hA j).1 ⟨hj, (h j hj).1 hb⟩
    exact hc (IOk L) (fun x hx => by obtain ⟨i, hi, ha, rfl⟩ := mem_repL.1 hx; exact hA i hi ha) (fun x y hx hk => hk.ok hx hT)
  refine ⟨⟨⟨srt_repL B, fun y hy => ?_, fun y hy => ?_, fun y hy => ?_⟩, fun x hx y hk => ?_⟩, hok⟩
  · obtain ⟨j, hj, hb, rfl⟩ := mem_repL.1 hy
    exact hok j hj hb
  · obtain ⟨j, hj, ha, rfl⟩ := mem_repL.1 hy
    exact itOf_mem.2 ⟨hj, (h j hj).2 fun S s1 _ => s1 j hj ha⟩
  · obtain ⟨j, hj, hb, rfl⟩ := mem_repL.1 hy
    exact (cl_iff hG hN hT hA j).1 ⟨hj, (h j hj).1 hb⟩
  · obtain ⟨i, hi, hb, rfl⟩ := mem_repL.1 hx
    have hy := hk.ok (hok i hi hb) hT
    obtain ⟨y1, y2⟩ := hy.ix hG
    have hk' : AskI (planOf L N T) i (ixI y) := by rw [ask_iff hG hN, y2]; exact hk
    rw [← y2]
    exact itOf_mem.2 ⟨y1, (h _ y1).2 fun S s1 s2 => s2 i _ hi (((h i hi).1 hb) S s1 s2) hk'⟩
end Go.Proofs.YtkglggkkbmmjkaaDoor

namespace Go.Proofs.YtkglggkkbmmjkaaDoor
open Go.RowKit

theorem ch_pos {s : ByteArray} {t c : Nat} (h : ch s t = c) (hc : c ≠ 0) : t < s.size := by
  unfold ch at h
  split at h
  · assumption
  · exact absurd h.symm hc
theorem let_pos {c : Nat} (h : letB c = true) : c ≠ 0 := fun e => by rw [e] at h; cases h
/-- the items behind a step, as a list -/
theorem kern_of {L : List Ru} {N : Nat → Bool} {T : Nat → Nat → Bool} (hG : GoodL L) {A : Nat → Bool} (hA : SOk L A) {c : Nat} (hc : c ≠ 0) : KernOf L c (repL A) (repL (kern (planOf L N T) c A)) ∧ SOk L (kern (planOf L N T) c A) := by
  have key : ∀ i, i < 1215 → kern (planOf L N T) c A i = true → ∃ x ∈ repL A, MvB L c x ∧ itOf i = mvI x := fun i hi hk => by
    unfold kern at hk
    rw [Bool.and_eq_true, Bool.and_eq_true, decide_eq_true_eq, beq_iff_eq] at hk
    obtain ⟨⟨h1, h2⟩, h3⟩ := hk
    have e1 : (i - 27) / 135 = i / 135 := by omega
    have e2 : (i - 27) % 135 / 27 = i % 135 / 27 - 1 := by omega
    have e3 : (i - 27) % 27 = i % 27 := by omega
    refine ⟨itOf (i - 27), itOf_mem.2 ⟨by omega, h3⟩, ?_, ?_⟩
    · unfold MvB itOf
      dsimp only
      rw [e1, e2]
      have h2' : ch (rget L (i / 135)).R (i % 135 / 27 - 1) = c := h2
      exact ⟨ch_pos h2' hc, h2'⟩
    · unfold mvI itOf
      dsimp only
      rw [e1, e2, e3, show i % 135 / 27 - 1 + 1 = i % 135 / 27 from by omega]
  have hmv : ∀ x ∈ repL A, MvB L c x → IOk L (mvI x) := fun x hx hm => by
    obtain ⟨j, hj, ha, rfl⟩ := mem_repL.1 hx
    obtain ⟨k1, k2, k3⟩ := hA j hj ha
    exact ⟨k1, hm.1, k3⟩
  refine ⟨⟨srt_repL _, fun y hy => ?_, fun y => ⟨fun hy => ?_, fun hy => ?_⟩⟩, fun j hj hk => ?_⟩
  · obtain ⟨j, hj, hk, rfl⟩ := mem_repL.1 hy
    obtain ⟨x, hx, hm, e⟩ := key j hj hk
    rw [e]; exact hmv x hx hm
  · obtain ⟨j, hj, hk, rfl⟩ := mem_repL.1 hy
    exact key j hj hk
  · obtain ⟨x, hx, hm, rfl⟩ := hy
    have hok := hmv x hx hm
    obtain ⟨j, hj, ha, rfl⟩ := mem_repL.1 hx
    obtain ⟨m1, m2⟩ := hm
    have hsz := hG.sz (itOf j).R
    have m1' : j % 135 / 27 < (rget L (j / 135)).R.size := m1
    have hsz' : (rget L (j / 135)).R.size ≤ 4 := hsz
    have e1 : (j + 27) / 135 = j / 135 := by omega
    have e2 : (j + 27) % 135 / 27 = j % 135 / 27 + 1 := by omega
    have e3 : (j + 27) % 27 = j % 27 := by omega
    have hlt : j + 27 < 1215 := by omega
    have he : mvI (itOf j) = itOf (j + 27) := by
      unfold mvI itOf
      dsimp only
      rw [e1, e2, e3]
    rw [he]
    refine itOf_mem.2 ⟨hlt, ?_⟩
    unfold kern
    rw [Bool.and_eq_true, Bool.and_eq_true, decide_eq_true_eq, beq_iff_eq, e1, e2, Nat.add_sub_cancel, Nat.add_sub_cancel]
    exact ⟨⟨by omega, m2⟩, ha⟩
  · obtain ⟨x, hx, hm, e⟩ := key j hj hk
    rw [e]; exact hmv x hx hm

theorem full_nil (L : List Ru) (N : Nat → Bool) (T : Nat → Nat → Bool) : FullOf L N T [] [] :=
  ⟨⟨List.Pairwise.nil, (fun _ h => by cases h), (fun _ h => by cases h), (fun _ h => by cases h)⟩, (fun _ h => by cases h)⟩
theorem repL_nil {A : Nat → Bool} (h : ∀ j, j < 1215 → A j = false) : repL A = [] := by
  cases e : repL A with
  | nil => rfl
  | cons x l =>
    have hx : x ∈ repL A := by rw [e]; exact List.mem_cons_self ..
    obtain ⟨j, hj, ha, _⟩ := mem_repL.1 hx
    rw [h j hj] at ha; cases ha
/-- there is no step -/
theorem step_none {L : List Ru} {N : Nat → Bool} {T : Nat → Nat → Bool} (hG : GoodL L) {A : Nat → Bool} (hA : SOk L A) {i : Nat} (hi : i < 52) (h : nxB (planOf L N T) A 45 i = false) : stepM L N T (repL A) (ltr i) = [] := by
  have hk := (kern_of (N := N) (T := T) hG hA (let_pos (letB_ltr hi))).1
  have : repL (kern (planOf L N T) (ltr i) A) = [] := repL_nil fun j hj => by
    cases e : kern (planOf L N T) (ltr i) A j
    · rfl
    · unfold kern at e
      rw [Bool.and_eq_true, Bool.and_eq_true, decide_eq_true_eq, beq_iff_eq] at e
      obtain ⟨⟨h1, h2⟩, h3⟩ := e
      have : nxB (planOf L N T) A 45 i = true := by
        unfold nxB
        rw [List.any_eq_true]
        refine ⟨(j - 27) / 27, List.mem_range.2 (by omega), ?_⟩
        have e1 : (j - 27) / 27 / 5 = j / 135 := by omega
        have e2 : (j - 27) / 27 % 5 = j % 135 / 27 - 1 := by omega
        rw [e1, e2, h2, letB_ltr hi, ltI_ltr, Bool.true_and, Bool.and_eq_true]
        refine ⟨?_, by simp⟩
        cases em : empB fun k => A ((j - 27) / 27 * 27 + k)
        · rfl
        · have := empB_true em ((j - 27) % 27) (Nat.mod_lt _ (by omega))
          rw [show (j - 27) / 27 * 27 + (j - 27) % 27 = j - 27 from by omega, h3] at this
          cases this
      rw [this] at h; cases h
  rw [this] at hk
  exact stepM_eq hk (full_nil L N T)
/-- there is one -/
theorem step_some {L : List Ru} {N : Nat → Bool} {T : Nat → Nat → Bool} (hG : GoodL L) (hN : ∀ c, vanB N false c = N c) (hT : ∀ c x, x < 128 → T c x = true → smallB x = true) {A B : Nat → Bool} (hA : SOk L A) {i : Nat} (hi : i < 52) (h : nxB (planOf L N T) A 45 i = true) (hB : FuI (planOf L N T) (kern (planOf L N T) (ltr i) A) B) :
    stepM L N T (repL A) (ltr i) = repL B ∧ (repL B).length ≠ 0 ∧ SOk L B := by
  obtain ⟨hk, hko⟩ := kern_of (N := N) (T := T) hG hA (let_pos (letB_ltr hi))
  obtain ⟨hf, hfo⟩ := full_of hG hN hT hko hB
  refine ⟨stepM_eq hk hf, fun e => ?_, hfo⟩
  unfold nxB at h
  rw [List.any_eq_true] at h
  obtain ⟨q, hq, h⟩ := h
  have hq := List.mem_range.1 hq
  rw [Bool.and_eq_true, Bool.and_eq_true, beq_iff_eq] at h
  obtain ⟨h1, h2, h3⟩ := h
  have hem : (empB fun k => A (q * 27 + k)) = false := by simpa using h1
  obtain ⟨k, hk27, hak⟩ := empB_false hem
  have hlt : (planOf L N T).lt (q / 5) (q % 5) = ltr i := by rw [h3, ltr_ltI h2]
  have hlt' : ch (rget L (q / 5)).R (q % 5) = ltr i := hlt
  have hsz := ch_pos hlt' (let_pos (letB_ltr hi))
  have hsz4 := hG.sz (q / 5)
  have hm : itOf (q * 27 + k + 27) ∈ repL (kern (planOf L N T) (ltr i) A) := by
    refine itOf_mem.2 ⟨by omega, ?_⟩
    unfold kern
    rw [Bool.and_eq_true, Bool.and_eq_true, decide_eq_true_eq, beq_iff_eq, Nat.add_sub_cancel, show (q * 27 + k + 27) / 135 = q / 5 from by omega, show (q * 27 + k + 27) % 135 / 27 - 1 = q % 5 from by omega]
    exact ⟨⟨by omega, hlt⟩, hak⟩
  have := hf.lp.sub _ hm
  rw [List.length_eq_zero_iff] at e
  rw [e] at this; cases this

/-- the states, as lists -/
def mOf (S : List Sd) : List (List It) := S.map fun s => repL s.A
theorem mOf_len (S : List Sd) : (mOf S).length = S.length := by simp [mOf]
theorem mOf_setTo (S : List Sd) (n i : Nat) (x : Int) (hn : n < S.length) : mOf (setTo S n i x) = mOf S := by
  unfold mOf setTo
  rw [List.map_set]
  apply List.ext_getElem?
  intro j
  rw [List.getElem?_set]
  by_cases e : n = j
  · subst e
    rw [if_pos rfl, if_pos (by simpa using hn)]
    simp [hn, sget]
  · rw [if_neg e]
theorem mOf_new (S : List Sd) (B : Nat → Bool) (c : Nat) : mOf (S ++ [sdN S B c]) = mOf S ++ [repL B] := by simp [mOf, sdN]
theorem findIdx_map {α β : Type} (f : α → β) (p : β → Bool) (q : α → Bool) (h : ∀ a, p (f a) = q a) (l : List α) : (l.map f).findIdx? p = l.findIdx? q := by
  rw [List.findIdx?_map]
  congr 1
  funext a
  exact h a
theorem num_eq (S : List Sd) (B : Nat → Bool) : (mOf S).findIdx? (fun s => eqL s (repL B)) = numP S B :=
  findIdx_map (fun s : Sd => repL s.A) (fun s => eqL s (repL B)) (fun s => allB 1215 s.A B) (fun s => eqL_repL s.A B) S
theorem numM_some {S : List Sd} {B : Nat → Bool} {j : Nat} (h : numP S B = some j) : numM (mOf S) (repL B) = (mOf S, j) := by
  unfold numM; rw [num_eq, h]
theorem numM_none {S : List Sd} {B : Nat → Bool} (h : numP S B = none) : numM (mOf S) (repL B) = (mOf S ++ [repL B], S.length) := by
  unfold numM; rw [num_eq, h, mOf_len]
end Go.Proofs.YtkglggkkbmmjkaaDoor
