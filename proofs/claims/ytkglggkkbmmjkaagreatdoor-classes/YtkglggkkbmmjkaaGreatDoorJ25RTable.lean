import Derived.Test.YtkglggkkbmmjkaaGreatDoorJ24RAlike
import Derived.Deep.DeepCutAuto
namespace Go.Proofs.YtkglggkkbmmjkaaGreatDoor
open Go.RowKit

/-! The table of states, as plain functions. -/
theorem srt_ext : ∀ {a b : List It}, Srt a → Srt b → (∀ y, y ∈ a ↔ y ∈ b) → a = b
  | [], [], _, _, _ => rfl
  | [], y :: b, _, _, h => by have := (h y).2 (List.mem_cons_self ..); cases this
  | x :: a, [], _, _, h => by have := (h x).1 (List.mem_cons_self ..); cases this
  | x :: a, y :: b, ha, hb, h => by
    have ha' := List.pairwise_cons.1 ha
    have hb' := List.pairwise_cons.1 hb
    have e : x = y := by
      rcases List.mem_cons.1 ((h x).1 (List.mem_cons_self ..)) with h1 | h1
      · exact h1
      · rcases List.mem_cons.1 ((h y).2 (List.mem_cons_self ..)) with h2 | h2
        · exact h2.symm
        · have := hb'.1 x h1
          have := ha'.1 y h2
          omega
    subst e
    congr 1
    refine srt_ext ha'.2 hb'.2 fun z => ⟨fun hz => ?_, fun hz => ?_⟩
    · rcases List.mem_cons.1 ((h z).1 (List.mem_cons_of_mem _ hz)) with h1 | h1
      · have := ha'.1 z hz; rw [h1] at this; omega
      · exact h1
    · rcases List.mem_cons.1 ((h z).2 (List.mem_cons_of_mem _ hz)) with h1 | h1
      · have := hb'.1 z hz; rw [h1] at this; omega
      · exact h1
theorem KernOf.uniq {rs : List Ru} {c : Nat} {l K K' : List It} (h : KernOf rs c l K) (h' : KernOf rs c l K') : K = K' :=
  srt_ext h.srt h'.srt fun y => (h.mem y).trans (h'.mem y).symm
theorem FullOf.uniq {rs : List Ru} {N : Nat → Bool} {T : Nat → Nat → Bool} {l L L' : List It} (h : FullOf rs N T l L) (h' : FullOf rs N T l L') : L = L' :=
  srt_ext h.lp.srt h'.lp.srt fun y => (h.mem y).trans (h'.mem y).symm
theorem FullOf.nil {rs : List Ru} {N : Nat → Bool} {T : Nat → Nat → Bool} {L : List It} (h : FullOf rs N T [] L) : L = [] := by
  cases L with
  | nil => rfl
  | cons x L => exact absurd ((h.mem x).1 (List.mem_cons_self ..) (fun _ => False) (fun _ hx => by cases hx) (fun _ _ hx _ => hx)) (fun hf => hf)

open Classical in
/-- the state behind a letter (no item: there is none) -/
noncomputable def stepM (rs : List Ru) (N : Nat → Bool) (T : Nat → Nat → Bool) (l : List It) (c : Nat) : List It :=
  if h : ∃ L, ∃ K, KernOf rs c l K ∧ FullOf rs N T K L then h.choose else []
theorem stepM_eq {rs : List Ru} {N : Nat → Bool} {T : Nat → Nat → Bool} {l K L : List It} {c : Nat} (h : KernOf rs c l K) (k : FullOf rs N T K L) : stepM rs N T l c = L := by
  unfold stepM
  have hex : ∃ L, ∃ K, KernOf rs c l K ∧ FullOf rs N T K L := ⟨L, K, h, k⟩
  rw [dif_pos hex]
  obtain ⟨K', h', k'⟩ := hex.choose_spec
  have e := h.uniq h'
  subst e
  exact k'.uniq k
open Classical in
/-- state 0 -/
noncomputable def startM (rs : List Ru) (N : Nat → Bool) (T : Nat → Nat → Bool) : List It :=
  if h : ∃ L, FullOf rs N T [⟨0, 0, 36⟩] L then h.choose else []
theorem startM_eq {rs : List Ru} {N : Nat → Bool} {T : Nat → Nat → Bool} {L : List It} (k : FullOf rs N T [⟨0, 0, 36⟩] L) : startM rs N T = L := by
  unfold startM
  have hex : ∃ L, FullOf rs N T [⟨0, 0, 36⟩] L := ⟨L, k⟩
  rw [dif_pos hex]
  exact hex.choose_spec.uniq k

/-- a state gets its number -/
def numM (S : List (List It)) (L : List It) : List (List It) × Nat := match S.findIdx? fun s => eqL s L with
  | some i => (S, i)
  | none => (S ++ [L], S.length)
/-- the steps of one state, by these letters -/
noncomputable def rowM (st : Nat → List It) : List Nat → List (List It) → List (Nat × Nat) → Option (List (List It) × List (Nat × Nat))
  | [], S, m => some (S, m)
  | c :: cs, S, m => if (st c).length = 0 then rowM st cs S m else
    if 40 < (numM S (st c)).1.length then none else rowM st cs (numM S (st c)).1 (m ++ [(c, (numM S (st c)).2)])
/-- all states and steps; none: too many -/
noncomputable def tabM (rs : List Ru) (N : Nat → Bool) (T : Nat → Nat → Bool) : Nat → Nat → List (List It) → List (List (Nat × Nat)) → Option (List (List It) × List (List (Nat × Nat)))
  | 0, _, S, M => some (S, M)
  | f + 1, i, S, M => if h : i < S.length then
      match rowM (stepM rs N T S[i]) (List.range' 65 58) S [] with
      | none => none
      | some (S', m) => tabM rs N T f (i + 1) S' (M ++ [m])
    else some (S, M)
theorem numM_fst {S : List (List It)} {L : List It} : ∃ t, (numM S L).1 = S ++ t ∧ t.length ≤ 1 := by
  unfold numM
  split
  · exact ⟨[], by simp, by simp⟩
  · exact ⟨[L], rfl, by simp⟩
end Go.Proofs.YtkglggkkbmmjkaaGreatDoor

namespace Go.Proofs.YtkglggkkbmmjkaaGreatDoor
open Go.RowKit

/-- a table's cells -/
def tabF (vL : Value) (N : Nat → Bool) (vF vS vT : Value) : Nat → Value := fun i => if i = 0 then vL else if i < 129 then .bool (N (i - 1)) else if i = 129 then vF else if i = 130 then vS else vT
theorem tabF_L (vL vL' : Value) (N : Nat → Bool) (vF vS vT : Value) (i : Nat) : upd (tabF vL N vF vS vT) 0 vL' i = tabF vL' N vF vS vT i := by
  unfold upd tabF
  by_cases h : i = 0
  · rw [if_pos h, if_pos h]
  · rw [if_neg h, if_neg h, if_neg h]
theorem tabF_F (vL : Value) (N : Nat → Bool) (vF vF' vS vT : Value) (i : Nat) : upd (tabF vL N vF vS vT) 129 vF' i = tabF vL N vF' vS vT i := by
  unfold upd tabF
  by_cases h : i = 129
  · subst h; rfl
  · simp only [if_neg h]
theorem tabF_N (vL : Value) (N N' : Nat → Bool) (vF vS vT : Value) (i : Nat) : lay (tabF vL N vF vS vT) 1 128 (sF N') i = tabF vL N' vF vS vT i := by
  unfold lay tabF sF
  by_cases h : 1 ≤ i ∧ i < 1 + 128
  · rw [if_pos h, if_neg (by omega), if_pos (by omega)]
  · rw [if_neg h]
    by_cases h0 : i = 0
    · rw [if_pos h0, if_pos h0]
    · simp only [if_neg h0, if_neg (show ¬ i < 129 by omega)]
theorem ruCells_len' (rs : List Ru) : (ruCells rs).length = rs.length * 3 := by
  unfold ruCells
  induction rs with
  | nil => rfl
  | cons x l ih => rw [List.flatMap_cons, List.length_append, ih, List.length_cons]; simp; omega
theorem news_ru {w : World} {q : Nat} {rs : List Ru} (h : RuAt w q rs) : ∀ j u, (ruCells rs)[j]? = some u → w.cell? ((⟨q, 0, none⟩ : Addr).add j) = some u := fun j u hu => by
  have hj : j < rs.length * 3 := by
    rw [← ruCells_len']
    exact (List.getElem?_eq_some_iff.1 hu).1
  obtain ⟨g0, g1, g2⟩ := ruCells_get rs (j / 3) (by omega)
  obtain ⟨h0, h1, h2⟩ := h (j / 3) (by omega)
  have e : (⟨q, 0, none⟩ : Addr).add j = ⟨q, j, none⟩ := by rw [Addr.add_mid, Nat.zero_add]
  rw [e]
  rcases (by omega : j = j / 3 * 3 ∨ j = j / 3 * 3 + 1 ∨ j = j / 3 * 3 + 2) with hk | hk | hk
  · rw [hk] at hu ⊢; rw [g0] at hu; rw [h0]; exact hu
  · rw [hk] at hu ⊢; rw [g1] at hu; rw [h1]; exact hu
  · rw [hk] at hu ⊢; rw [g2] at hu; rw [h2]; exact hu

/-- a table's cells, but for its sets -/
def zTab : Nat → Value := fun i => if i = 0 then .slice none 0 0 else if i < 129 then .bool false else .slice none 0 0
theorem Tryz.zeroTable : (Tryz.prog.info? 130).bind (·.zero) = some (Agg 132 zTab) := by kernel_rfl

set_option maxRecDepth 100000 in
set_option maxHeartbeats 4000000 in
theorem r_table_bad (t : ByteArray) (w : World) (ht : t.size ≤ 9223372036854775807) (h0 : (rErr t).1 ≠ 0) :
    Calls Tryz.prog 79 #[.string t] w fun e w' => e = .returned (.tuple #[.pointer none, .int .i64 (rErr t).1]) ∧ Fr [] w w' := by
  have hb : ((((rErr t).1 : Nat) : Int) != 0) = true := by rw [bne_iff_ne]; omega
  have H0 := hide h0
  clear h0
  go_enter Tryz.func79, Tryz.ntmps79
  go_wp2_with (go_at_call 24; refine (r_read t _ ht).mono ?_; rintro e w1 ⟨hf1, h1, _⟩; obtain rfl := h1 (unhide H0); have HF1 := hide hf1; clear hf1 h1)
  go_ret2
  exact ⟨rfl, unhide HF1⟩

/-- the table's constant part, off its cells -/
theorem tb_of {W : World} {mb g2 c3 fb : Nat} {rs : List Ru} {N : Nat → Bool} {T : Nat → Nat → Bool} {vS vT : Value} {s0 : ByteArray} (hB : Blk W mb 132 (tabF (.slice (some ⟨g2, 0, none⟩) (1 + rs.length) c3) N (.slice (some ⟨fb, 0, none⟩) 26 26) vS vT))
    (hO : W.ownsRow (mb + 1) 100 3 (.slice (some ⟨g2, 0, none⟩) (1 + rs.length) c3) (1 + rs.length) ([.int .u8 0, .string s0, .int .i64 0] ++ ruCells rs)) (hT : Blk W fb 3328 (tF T))
    (hs0 : s0.size ≤ 4) (hl0 : ∀ j, j < s0.size → letB (ch s0 j) = true) (hsm : ∀ r ∈ rs, r.R.size ≤ 4 ∧ ∀ j, j < r.R.size → letB (ch r.R j) = true) (hlen : rs.length ≤ 8) : TB W mb g2 c3 fb (⟨0, s0, 0⟩ :: rs) N T := by
  have hm : ∀ r ∈ (⟨0, s0, 0⟩ :: rs : List Ru), r.R.size ≤ 4 ∧ ∀ j, j < r.R.size → letB (ch r.R j) = true := fun r hr => by
    rcases List.mem_cons.1 hr with rfl | hr
    · exact ⟨hs0, hl0⟩
    · exact hsm r hr
  refine ⟨?_, NAt.of_blk hB (by omega) (fun i hi => ?_), hB.cell 129 (by omega), RuAt.of_owns hO, (hO.lt g2 rfl).2, hT, fun i h => (hm _ (List.getElem_mem h)).1, fun i h => (hm _ (List.getElem_mem h)).2, by simp; omega⟩
  · rw [hB.cell 0 (by omega), List.length_cons, Nat.add_comm rs.length 1]; rfl
  · unfold tabF
    rw [if_neg (by omega), if_pos (by omega), show 1 + i - 1 = i from by omega]

/-- one item in a new block -/
theorem row_one (W : World) (x : It) (n : Nat) (hn : W.heap.size = n) : IRow (W.alloc (.cells #[.int .i64 x.R, .int .i64 x.P, .int .u8 x.T] 181)) n (.slice (some ⟨n, 0, none⟩) 1 1) [x] := by
  subst hn
  have hb : BT (W.alloc (.cells #[.int .i64 x.R, .int .i64 x.P, .int .u8 x.T] 181)) W.heap.size 181 (1 * 3) (itC x) := by
    show (W.heap.push _)[W.heap.size]? = _
    rw [Array.getElem?_push_size]
    congr 2
  exact IRow.of_bt (l := [x]) hb (fun j hj => by
    have hj : j < 3 := by simpa using hj
    unfold itF
    rw [show j / 3 = 0 from by omega, show j % 3 = j from by omega]; rfl) (by simp) (by unfold maxLen; omega) (Nat.le_refl _)
/-- the table's own later cells may change -/
theorem TB.set {w : World} {mb q cq fq : Nat} {rs : List Ru} {N : Nat → Bool} {T : Nat → Nat → Bool} (h : TB w mb q cq fq rs N T) (p : Nat) (hp : 130 ≤ p) (v : Value) (hq : q ≠ mb) (hf : fq ≠ mb) : TB (w.setCell ⟨mb, p, none⟩ v) mb q cq fq rs N T := by
  have k : Fr [mb] w (w.setCell ⟨mb, p, none⟩ v) := (Fr.refl [mb] w).setCell ⟨mb, p, none⟩ (by simp) v
  have hc : ∀ j, j < 130 → (w.setCell ⟨mb, p, none⟩ v).cell? ⟨mb, j, none⟩ = w.cell? ⟨mb, j, none⟩ := fun j hj => World.cell?_setCell_other _ _ _ _ (by intro e; have := congrArg Addr.off e; simp at this; omega)
  refine ⟨by rw [hc 0 (by omega)]; exact h.cL, ⟨Nat.lt_of_lt_of_le h.cN.1 k.size, fun i hi => by rw [hc (1 + i) (by omega)]; exact h.cN.2 i hi⟩, by rw [hc 129 (by omega)]; exact h.cF, h.ru.fr k (by simpa using hq) h.lt, Nat.lt_of_lt_of_le h.lt k.size, h.fT.fr1 k hf, h.small, h.lets, h.len⟩

end Go.Proofs.YtkglggkkbmmjkaaGreatDoor
