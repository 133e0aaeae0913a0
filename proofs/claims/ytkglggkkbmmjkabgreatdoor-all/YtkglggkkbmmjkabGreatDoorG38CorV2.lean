import Derived.Test.YtkglggkkbmmjkabGreatDoorG37PCalls4
import Derived.Test.YtkglggkkbmmjkabGreatDoorG35CallV
namespace Go.Proofs.YtkglggkkbmmjkabGreatDoor
open Go.RowKit
theorem steps_len {p : Pl} {n : Nat} {A : Nat → Bool} {S : List Sd} {c f i : Nat} {S1 : List Sd} {c1 f1 : Nat} (h : zcm p n A S c f i S1 c1 f1) : S.length ≤ S1.length := by
 induction h with
 | zero => exact Nat.le_refl _
 | skip _ _ ih => rw [zba]; exact ih
 | old _ _ _ _ ih => rw [zba]; exact ih
 | many _ _ _ _ _ ih => rw [zba]; exact ih
 | new _ _ _ _ _ ih => rw [zba, List.length_append]; omega
theorem states_pos {p : Pl} {n : Nat} {S : List Sd} {c f : Nat} (h : StatesR p n S c f) : 0 < S.length := by
 induction h with
 | start _ => exact Nat.one_pos
 | step _ hn hR ih => exact Nat.lt_of_lt_of_le ih (steps_len hR)
def CoreO (t : ByteArray) (n : Int) (y x : Nat) : Prop :=
 (TErr t x ∧ x ≠ 0 ∧ y = 0) ∨ ∃ S c, TGood t S c ∧ ((¬ (0 ≤ n ∧ n < S.length) ∧ x = 7 ∧ y = 0) ∨ ((0 ≤ n ∧ n < S.length) ∧ x = 0 ∧ y = (sget S n.toNat).core))
set_option maxRecDepth 100000 in
set_option maxHeartbeats 2000000 in
theorem p_Core (t : ByteArray) (n : Int) (w : World) (ht : t.size ≤ 9223372036854775807) :
 Calls Tryz.prog 30 #[.string t, .int .i64 n] w fun e w' => Fr [] w w' ∧ ∃ (y x : Nat), e = .returned (.tuple #[.int .i64 y, .int .i64 x]) ∧ CoreO t n y x := by
 go_enter Tryz.func30, Tryz.ntmps30
 go_wp2_with (first
  | (go_at_call 71; refine (zbg t w ht).mono ?_; rintro e w1 ⟨f, rfl, hT⟩; obtain ⟨x, ao, l, cap, hx1, hx0, hx2, hx3⟩ := hT.parts; have HX1 := hide hx1; have HX2 := hide hx2; have HX3 := hide hx3; have HO := hide hT.2.1; have HF1 := hide hT.1; clear hT hx1 hx2 hx3 hx0)
  | (refine zab rfl 79 rfl (some 6) rfl 1362 _ Tryz.zeroTbl ?_; intro w2 hf2 hs2 hB2; have HF2 := hide hf2; have HB2 := hide hB2; clear hf2 hB2 hs2)
  | (refine zac rfl 79 (.tmp 6) (.tmp 8) rfl w1.heap.size 0 1362 1362 zTb f rfl rfl (by exact zaa HB2) Tryz.sizeTbl (by omega) (by exact zaa HO) ?_; intro w3 hf3 hs3 hB3; have HF3 := hide hf3; have HB3 := hide hB3; have HFw := hide (show Fr [] w w3 from ((zaa HF1).trans0 (zaa HF2)).trans1 hf3 (Or.inr (zaa HF1).size)); have c6 := (hB3.cell 1361 (by omega)).trans (congrArg some ((zag _ _ _ _ (by omega)).trans (zaa HX1))); clear hf3 hB3 hs3)
  | (go_at_call 73; obtain ⟨S, c2, base, hG, hlS, hfi, hrow⟩ := zaa HX3 (by (have h : ((x : Int) != 0) = false := (by assumption); have : (x : Int) = 0 := (by simpa using h); omega)); have HTB := hide (zco.lay hfi hrow (zaa HF2) (zaa HF3) (zaa HB3)); have HGd := hide hG; refine (zbh w1.heap.size base (plT t) _ S c2 0 n _ (by exact zaa HTB)).mono ?_; rintro e w' ⟨rfl, hw'⟩; rw [hw']; obtain ⟨ao2, cap2, hv2, hao2⟩ := (zaa HTB).form; obtain ⟨g, hg2, _⟩ := hao2 (states_pos hG.2.1); have hv3 := hv2; rw [hg2] at hv3; rw [hv3] at HTB; have q0 := (zaa HTB).v; clear hG hlS hfi hrow hao2 hv2 hg2 hv3; by_cases hin : 0 ≤ n ∧ n < S.length; all_goals first | (have hh : (decide (0 ≤ n) && decide (n < S.length)) = true := (by simp [hin]); rw [hh]; have q1 := (zaa HTB).core n.toNat (by omega); have hin1 := hin.1; have hin2 := hin.2) | (have hh : (decide (0 ≤ n) && decide (n < S.length)) = false := (by rw [Bool.and_eq_false_iff, decide_eq_false_iff_not, decide_eq_false_iff_not]; omega); rw [hh])))
 ·have hff : ((x : Int) != 0) = true := by assumption
  have hx0 : x ≠ 0 := fun e => by rw [e] at hff; cases hff
  go_quiet (fail)
  go_wp2
  go_ret2
  exact ⟨(zaa HFw).trans0 (zal _ _), 0, x, rfl, Or.inl ⟨zaa HX2 hx0, hx0, rfl⟩⟩
 ·go_ret2
  exact ⟨zaa HFw, _, 0, rfl, Or.inr ⟨S, c2, zaa HGd, Or.inr ⟨⟨hin1, hin2⟩, rfl, rfl⟩⟩⟩
 ·go_ret2
  exact ⟨zaa HFw, 0, 7, rfl, Or.inr ⟨S, c2, zaa HGd, Or.inl ⟨hin, rfl, rfl⟩⟩⟩
end Go.Proofs.YtkglggkkbmmjkabGreatDoor
namespace Go.Proofs.YtkglggkkbmmjkabGreatDoor
open Go.RowKit
/-! Cores, as a plain function. -/
def corF {α : Type} (eq : α → α → Bool) : List α → List α → List Nat → Nat → List Nat × Nat
 | [], _, l, n => (l, n)
 | s :: rest, prev, l, n => match prev.findIdx? (fun p => eq s p) with
  | some k => corF eq rest (prev ++ [s]) (l ++ [l.getD k 0]) n
  | none => corF eq rest (prev ++ [s]) (l ++ [n]) (n + 1)
theorem corF_snoc {α : Type} (eq : α → α → Bool) (x : α) : ∀ (S prev : List α) (l : List Nat) (n : Nat),
 corF eq (S ++ [x]) prev l n = match (prev ++ S).findIdx? (fun p => eq x p) with
  | some k => ((corF eq S prev l n).1 ++ [(corF eq S prev l n).1.getD k 0], (corF eq S prev l n).2)
  | none => ((corF eq S prev l n).1 ++ [(corF eq S prev l n).2], (corF eq S prev l n).2 + 1)
 | [], prev, l, n => by
  rw [List.nil_append, List.append_nil]
  show corF eq [x] prev l n = _
  rw [corF, corF]
  split <;> rfl
 | s :: S, prev, l, n => by
  rw [List.cons_append, corF, corF]
  split
  ·rw [corF_snoc eq x S]; simp
  ·rw [corF_snoc eq x S]; simp
def alk2 (a b : List It) : Bool := alikeL a b && alikeL b a
def corV (Ms : List (List It)) : List Nat × Nat := corF alk2 Ms [] [] 0
theorem alike_iff {A B : Nat → Bool} : alikeL (repL A) (repL B) = true ↔ ∀ q, q < 45 → (∃ k, k < 27 ∧ A (q * 27 + k) = true) → ∃ k, k < 27 ∧ B (q * 27 + k) = true := by
 unfold alikeL
 rw [List.all_eq_true]
 constructor
 ·rintro h q hq ⟨k, hk, ha⟩
  have := h (itOf (q * 27 + k)) (itOf_mem.2 ⟨by omega, ha⟩)
  rw [List.any_eq_true] at this
  obtain ⟨y, hy, e⟩ := this
  obtain ⟨j, hj, hb, rfl⟩ := zbz.1 hy
  unfold likeI itOf at e
  simp only [Bool.and_eq_true, beq_iff_eq] at e
  exact ⟨j % 27, by omega, by rw [show q * 27 + j % 27 = j from by omega]; exact hb⟩
 ·intro h x hx
  obtain ⟨j, hj, ha, rfl⟩ := zbz.1 hx
  obtain ⟨k, hk, hb⟩ := h (j / 27) (by omega) ⟨j % 27, by omega, by rw [show j / 27 * 27 + j % 27 = j from by omega]; exact ha⟩
  rw [List.any_eq_true]
  refine ⟨itOf (j / 27 * 27 + k), itOf_mem.2 ⟨by omega, hb⟩, ?_⟩
  unfold likeI itOf
  simp only [Bool.and_eq_true, beq_iff_eq]
  omega
theorem smC_eq (A B : Nat → Bool) : smC A B 45 = alk2 (repL B) (repL A) := by
 apply Bool.eq_iff_iff.2
 unfold alk2 smC
 rw [Bool.and_eq_true, alike_iff, alike_iff, List.all_eq_true]
 have key : ∀ (C : Nat → Bool) (q : Nat), (empB fun k => C (q * 27 + k)) = false ↔ ∃ k, k < 27 ∧ C (q * 27 + k) = true := fun C q => by
  constructor
  ·exact fun h => empB_false h
  ·rintro ⟨k, hk, h⟩
   cases e : empB fun k => C (q * 27 + k)
   ·rfl
   ·have := empB_true e k hk; rw [h] at this; cases this
 constructor
 ·intro h
  refine ⟨fun q hq hk => ?_, fun q hq hk => ?_⟩
  ·have := h q (List.mem_range.2 hq)
   rw [beq_iff_eq] at this
   rw [← key] at hk ⊢; rw [this]; exact hk
  ·have := h q (List.mem_range.2 hq)
   rw [beq_iff_eq] at this
   rw [← key] at hk ⊢; rw [← this]; exact hk
 ·rintro ⟨h1, h2⟩ q hq
  have hq := List.mem_range.1 hq
  rw [beq_iff_eq]
  cases ea : empB fun k => A (q * 27 + k)
  ·exact ((key B q).2 (h2 q hq ((key A q).1 ea))).symm
  ·cases eb : empB fun k => B (q * 27 + k)
   ·have := (key A q).2 (h1 q hq ((key B q).1 eb)); rw [ea] at this; cases this
   ·rfl
def CorOk (S : List Sd) (c : Nat) : Prop := corV (mOf S) = (S.map (·.core), c) ∧ ∀ s ∈ S, s.core < c
theorem CorOk.setTo {S : List Sd} {c : Nat} (h : CorOk S c) {n : Nat} (hn : n < S.length) (i : Nat) (x : Int) : CorOk (setTo S n i x) c := by
 have e : (Go.Proofs.YtkglggkkbmmjkabGreatDoor.setTo S n i x).map (·.core) = S.map (·.core) := by
  unfold Go.Proofs.YtkglggkkbmmjkabGreatDoor.setTo
  rw [List.map_set]
  apply List.ext_getElem (by simp)
  intro j h1 h2
  rw [List.getElem_set]
  split
  ·rename_i e; subst e
   rw [List.getElem_map, sget_eq S n hn]
  ·rfl
 refine ⟨by rw [mOf_setTo S n i x hn, e]; exact h.1, fun s hs => ?_⟩
 have : s.core ∈ S.map (·.core) := by rw [← e]; exact List.mem_map_of_mem hs
 obtain ⟨s', hs', e'⟩ := List.mem_map.1 this
 rw [← e']; exact h.2 s' hs'
theorem find_findIdx {α : Type} {p : α → Bool} : ∀ {l : List α} {k : Nat}, l.findIdx? p = some k → l.find? p = l[k]?
 | [], k, h => by simp at h
 | x :: l, k, h => by
  rw [List.findIdx?_cons] at h
  rw [List.find?_cons]
  cases hx : p x with
  | true =>
   rw [hx] at h
   obtain rfl : 0 = k := by simpa using h
   rfl
  | false =>
   rw [hx] at h
   simp only [Bool.false_eq_true, if_false, Option.map_eq_some_iff] at h
   obtain ⟨j, hj, rfl⟩ := h
   rw [find_findIdx hj]; rfl
set_option maxRecDepth 100000 in
theorem CorOk.new {S : List Sd} {c : Nat} (h : CorOk S c) (B : Nat → Bool) : CorOk (S ++ [sdN S B c]) (corN S B c) := by
 have hidx : (mOf S).findIdx? (fun p => alk2 (repL B) p) = S.findIdx? (fun s => smC s.A B 45) := by
  unfold mOf
  rw [List.findIdx?_map]
  congr 1
  funext s
  show alk2 (repL B) (repL s.A) = _
  rw [smC_eq]
 have hs := corF_snoc alk2 (repL B) (mOf S) [] [] 0
 rw [List.nil_append, hidx] at hs
 have h1 : corF alk2 (mOf S) [] [] 0 = (S.map (·.core), c) := h.1
 rw [h1] at hs
 unfold CorOk
 rw [mOf_new]
 unfold corV
 cases hf : S.findIdx? (fun s => smC s.A B 45) with
 | none =>
  rw [hf] at hs
  have hn : S.find? (fun s => smC s.A B 45) = none := by
   rw [List.find?_eq_none]; rw [List.findIdx?_eq_none_iff] at hf
   intro x hx; rw [hf x hx]; simp
  have hc : corM S B c = c := by unfold corM; rw [hn]
  have hN : corN S B c = c + 1 := by unfold corN; rw [if_pos hc]
  rw [hN]
  refine ⟨by rw [hs, List.map_append]; show (_, _) = (_, _); rw [show [sdN S B c].map (·.core) = [c] from by simp [sdN, hc]], fun s hs' => ?_⟩
  rcases List.mem_append.1 hs' with h' | h'
  ·have := h.2 s h'; omega
  ·rw [List.mem_singleton.1 h']; show corM S B c < c + 1; omega
 | some k =>
  rw [hf] at hs
  have hkl : k < S.length := by
   rw [List.findIdx?_eq_some_iff_getElem] at hf; exact hf.1
  have hn : S.find? (fun s => smC s.A B 45) = some S[k] := by rw [find_findIdx hf, List.getElem?_eq_getElem hkl]
  have hc : corM S B c = S[k].core := by unfold corM; rw [hn]
  have hlt : S[k].core < c := h.2 _ (List.getElem_mem hkl)
  have hN : corN S B c = c := by unfold corN; rw [if_neg (by omega)]
  rw [hN]
  refine ⟨by rw [hs, List.map_append]; show (_, _) = (_, _); rw [show [sdN S B c].map (·.core) = [(S.map (·.core)).getD k 0] from by simp [sdN, hc, hkl]], fun s hs' => ?_⟩
  rcases List.mem_append.1 hs' with h' | h'
  ·exact h.2 s h'
  ·rw [List.mem_singleton.1 h']; show corM S B c < c; omega
theorem steps_cor {p : Pl} {n : Nat} {A : Nat → Bool} {S : List Sd} {c f i : Nat} {S1 : List Sd} {c1 f1 : Nat} (h : zcm p n A S c f i S1 c1 f1) (hn : n < S.length) (h0 : CorOk S c) : CorOk S1 c1 := by
 induction h with
 | zero => exact h0
 | skip h _ ih => exact ih.setTo (Nat.lt_of_lt_of_le hn (steps_len h)) _ _
 | old h _ _ _ ih => exact ih.setTo (Nat.lt_of_lt_of_le hn (steps_len h)) _ _
 | many h _ _ _ _ ih => exact ih.setTo (Nat.lt_of_lt_of_le hn (steps_len h)) _ _
 | new h _ _ _ _ ih => exact (ih.new _).setTo (by have := steps_len h; rw [List.length_append]; omega) _ _
theorem states_cor {p : Pl} {n : Nat} {S : List Sd} {c f : Nat} (h : StatesR p n S c f) : CorOk S c := by
 induction h with
 | start _ =>
  have := (show CorOk [] 0 from ⟨rfl, fun _ h => by cases h⟩).new
  exact this _
 | step _ hn hR ih => exact steps_cor hR hn ih
end Go.Proofs.YtkglggkkbmmjkabGreatDoor
namespace Go.Proofs.YtkglggkkbmmjkabGreatDoor
open Go.RowKit
def mixS (r : Tb) (cs : List Nat) (c : Int) (x m : Nat) : Bool := (List.range m).any fun j => ((cs.getD j 0 : Nat) : Int) == c && canS r j x
def mixR (L : List Ru) (r : Tb) (cs : List Nat) (c : Int) (x m k : Nat) : Bool := (List.range m).any fun j => ((cs.getD j 0 : Nat) : Int) == c && canR L r j x k
def mixT (L : List Ru) (r : Tb) (c : Int) (x : Nat) : ByteArray := wordsT (mixS r (corV r.1).1 c x r.1.length) (mixR L r (corV r.1).1 c x r.1.length)
def coreV (n : Int) : Nat ⊕ Tb → Nat × Nat
 | .inl x => (0, x)
 | .inr r => if 0 ≤ n ∧ n < r.1.length then ((corV r.1).1.getD n.toNat 0, 0) else (0, 7)
def mixV (L : List Ru) (n : Int) (s : ByteArray) : Nat ⊕ Tb → ByteArray × Nat
 | .inl x => (⟨#[]⟩, x)
 | .inr r => if 0 ≤ n ∧ n < (corV r.1).2 then if sgnX s = false then (⟨#[]⟩, 5) else (mixT L r n (ch s 0), 0) else (⟨#[]⟩, 7)
def clsT (L : List Ru) (r : Tb) : Nat :=
 if anyC (fun k i => decide (1 < (actT L r k (sgn i)).size)) r.1.length then 0 else if anyC (fun k i => decide (1 < (mixT L r (k : Nat) (sgn i)).size)) (corV r.1).2 then 1 else 2
def classV (L : List Ru) : Nat ⊕ Tb → Nat × Nat
 | .inl x => (0, x)
 | .inr r => (clsT L r, 0)
theorem TIs.cor {t : ByteArray} {S : List Sd} {M : List (List (Nat × Nat))} {c : Nat} (_ : TIs t S M) (hG : TGood t S c) : corV (mOf S) = (S.map (·.core), c) := (states_cor hG.2.1).1
theorem core_getD (S : List Sd) (n : Nat) (h : n < S.length) : (S.map (·.core)).getD n 0 = (sget S n).core := by
 rw [List.getD_eq_getElem?_getD, List.getElem?_map, List.getElem?_eq_getElem h, sget_eq S n h]; rfl
theorem p_CoreV (t : ByteArray) (n : Int) (w : World) (ht : t.size ≤ 9223372036854775807) :
 Calls Tryz.prog 30 #[.string t, .int .i64 n] w fun e w' => e = .returned (.tuple #[.int .i64 ((coreV n (tabR t)).1 : Nat), .int .i64 ((coreV n (tabR t)).2 : Nat)]) ∧ Fr [] w w' := by
 refine (p_Core t n w ht).mono ?_
 rintro e w' ⟨hf, y, x, rfl, h⟩
 refine ⟨?_, hf⟩
 suffices hs : coreV n (tabR t) = (y, x) by rw [hs]
 rcases h with ⟨hE, hx, rfl⟩ | ⟨S, c, hG, h⟩
 ·rw [tabR_err hE hx]; rfl
 ·obtain ⟨M, hM⟩ := tabR_good hG
  rw [hM.tab]
  unfold coreV
  dsimp only
  rw [zcr, hM.cor hG]
  rcases h with ⟨h1, rfl, rfl⟩ | ⟨h1, rfl, rfl⟩
  ·rw [if_neg h1]
  ·rw [if_pos h1, core_getD S _ (by omega)]
theorem any_congr' {m : Nat} {f g : Nat → Bool} (h : ∀ j, j < m → f j = g j) : (List.range m).any f = (List.range m).any g := by
 apply Bool.eq_iff_iff.2
 rw [List.any_eq_true, List.any_eq_true]
 constructor
 ·rintro ⟨j, hj, e⟩; exact ⟨j, hj, by rw [← h j (List.mem_range.1 hj)]; exact e⟩
 ·rintro ⟨j, hj, e⟩; exact ⟨j, hj, by rw [h j (List.mem_range.1 hj)]; exact e⟩
theorem canR_eq {t : ByteArray} {S : List Sd} {M : List (List (Nat × Nat))} (h : TIs t S M) {x : Nat} (hx : sigB x = true) {j : Nat} (hj : j < S.length) {k : Nat} (hk : k < 9) : ruS (plT t) (sget S j).A x k = canR (rul (zad t 8 0 []).1) (mOf S, M) j x k := by
 unfold canR
 dsimp only
 rw [repL_getD S j hj]
 exact putback_eq (h.ok.get hj) hx hk
theorem canS_eq {t : ByteArray} {S : List Sd} {M : List (List (Nat × Nat))} (h : TIs t S M) {x : Nat} {j : Nat} (hj : j < S.length) : (zbo S j x != -1) = canS (mOf S, M) j x := stepB_eq h.tos hj x
theorem mix_eq {t : ByteArray} {S : List Sd} {M : List (List (Nat × Nat))} {c : Nat} (h : TIs t S M) (hG : TGood t S c) (n : Int) {x : Nat} (hx : sigB x = true) :
 (⟨(acL (mxS S n x S.length) (mxR (plT t) S n x S.length) 9).toArray⟩ : ByteArray) = mixT (rul (zad t 8 0 []).1) (mOf S, M) n x := by
 unfold mixT wordsT
 dsimp only
 rw [h.cor hG, zcr]
 congr 2
 rw [show mxS S n x S.length = mixS (mOf S, M) (S.map (·.core)) n x S.length from any_congr' fun j hj => by rw [core_getD S j hj, canS_eq h hj]]
 exact acL_congr fun i hi => any_congr' fun j hj => by rw [core_getD S j hj, canR_eq h hx hj hi]
theorem act_eq {t : ByteArray} {S : List Sd} {M : List (List (Nat × Nat))} (h : TIs t S M) {j : Nat} (hj : j < S.length) {x : Nat} (hx : sigB x = true) :
 (⟨(acL (zbo S j x != -1) (ruS (plT t) (sget S j).A x) 9).toArray⟩ : ByteArray) = actT (rul (zad t 8 0 []).1) (mOf S, M) j x := by
 unfold actT wordsT
 rw [canS_eq h hj]
 congr 2
 exact acL_congr fun i hi => canR_eq h hx hj hi
theorem p_MixV (t : ByteArray) (n : Int) (s : ByteArray) (w : World) (ht : t.size ≤ 9223372036854775807) :
 Calls Tryz.prog 32 #[.string t, .int .i64 n, .string s] w fun e w' => e = .returned (.tuple #[.string (mixV (rul (zad t 8 0 []).1) n s (tabR t)).1, .int .i64 ((mixV (rul (zad t 8 0 []).1) n s (tabR t)).2 : Nat)]) ∧ Fr [] w w' := by
 refine (p_Mix t n s w ht).mono ?_
 rintro e w' ⟨hf, y, x, rfl, h⟩
 refine ⟨?_, hf⟩
 suffices hs : mixV (rul (zad t 8 0 []).1) n s (tabR t) = (y, x) by rw [hs]
 rcases h with ⟨hE, hx, rfl⟩ | ⟨S, c, hG, h⟩
 ·rw [tabR_err hE hx]; rfl
 ·obtain ⟨M, hM⟩ := tabR_good hG
  rw [hM.tab]
  unfold mixV
  dsimp only
  rw [hM.cor hG]
  dsimp only
  rcases h with ⟨h1, rfl, rfl⟩ | ⟨h1, h2, rfl, rfl⟩ | ⟨h1, h2, rfl, rfl⟩
  ·rw [if_neg h1]
  ·rw [if_pos h1, if_pos h2]
  ·have hs : sigB (ch s 0) = true := by unfold sgnX at h2; rw [Bool.and_eq_true] at h2; exact h2.2
   rw [if_pos h1, if_neg (by rw [h2]; simp), mix_eq hM hG n hs]
theorem anyC_congr {m : Nat} {f g : Nat → Nat → Bool} (h : ∀ k, k < m → ∀ i, i < 27 → f k i = g k i) : anyC f m = anyC g m := any_congr' fun k hk => any_congr' fun i hi => h k hk i hi
theorem sigB_sgn' {i : Nat} (hi : i < 27) : sigB (sgn i) = true := by
 rw [sigB_iff]
 unfold sgn
 split <;> omega
theorem p_ClassV (t : ByteArray) (w : World) (ht : t.size ≤ 9223372036854775807) :
 Calls Tryz.prog 34 #[.string t] w fun e w' => e = .returned (.tuple #[.int .i64 ((classV (rul (zad t 8 0 []).1) (tabR t)).1 : Nat), .int .i64 ((classV (rul (zad t 8 0 []).1) (tabR t)).2 : Nat)]) ∧ Fr [] w w' := by
 refine (p_Class t w ht).mono ?_
 rintro e w' ⟨hf, n, x, rfl, h1, h2⟩
 refine ⟨?_, hf⟩
 suffices hs : classV (rul (zad t 8 0 []).1) (tabR t) = (n, x) by rw [hs]
 by_cases hx : x = 0
 ·obtain ⟨S, c, hG, rfl⟩ := h2 hx
  obtain ⟨M, hM⟩ := tabR_good hG
  rw [hM.tab, hx]
  unfold classV clsT clsV
  dsimp only
  rw [zcr, hM.cor hG]
  dsimp only
  rw [anyC_congr (f := clK (plT t) S) (g := fun k i => decide (1 < (actT (rul (zad t 8 0 []).1) (mOf S, M) k (sgn i)).size)) (fun k hk i hi => by unfold clK; rw [← act_eq hM hk (sigB_sgn' hi)]; rfl),
   anyC_congr (f := clC (plT t) S) (g := fun k i => decide (1 < (mixT (rul (zad t 8 0 []).1) (mOf S, M) (k : Nat) (sgn i)).size)) (fun k hk i hi => by unfold clC; rw [← mix_eq hM hG _ (sigB_sgn' hi)]; rfl)]
 ·obtain ⟨rfl, hE⟩ := h1 hx
  rw [tabR_err hE hx]; rfl
end Go.Proofs.YtkglggkkbmmjkabGreatDoor
