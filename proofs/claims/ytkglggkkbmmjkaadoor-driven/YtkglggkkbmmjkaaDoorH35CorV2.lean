import Derived.Test.YtkglggkkbmmjkaaDoorH34PMix2
namespace Go.Proofs.YtkglggkkbmmjkaaDoor
open Go.RowKit

/-- more than one thing can be done in state k where sign i comes -/
def clK (p : Pl) (S : List Sd) (k i : Nat) : Bool := decide (1 < (acL (stepTo S k (sgn i) != -1) (ruS p (sget S k).A (sgn i)) 9).length)
/-- for some of the first m, and some sign -/
def anyC (f : Nat → Nat → Bool) (m : Nat) : Bool := (List.range m).any fun k => (List.range 27).any fun i => f k i
theorem anyC_true {f : Nat → Nat → Bool} {m k i : Nat} (hk : k < m) (hi : i < 27) (h : f k i = true) : anyC f m = true := by
  unfold anyC
  rw [List.any_eq_true]
  exact ⟨k, List.mem_range.2 hk, List.any_eq_true.2 ⟨i, List.mem_range.2 hi, h⟩⟩
theorem anyC_false {f : Nat → Nat → Bool} {m : Nat} (h : ∀ k, k < m → ∀ i, i < 27 → f k i = false) : anyC f m = false := by
  cases e : anyC f m
  · rfl
  · unfold anyC at e
    rw [List.any_eq_true] at e
    obtain ⟨k, hk, e⟩ := e
    rw [List.any_eq_true] at e
    obtain ⟨i, hi, e⟩ := e
    rw [h k (List.mem_range.1 hk) i (List.mem_range.1 hi)] at e; cases e

set_option maxRecDepth 100000 in
set_option maxHeartbeats 2000000 in
/-- table.statesClash -/
theorem p_statesClash (tb base : Nat) (p : Pl) (v : Value) (S : List Sd) (cores fault : Nat) (w : World) (h : TbR w tb base p v S cores fault) (hS : S.length ≤ 50) :
    Calls Tryd.prog 32 #[.pointer (some ⟨tb, 0, none⟩)] w fun e w' => e = .returned (.bool (anyC (clK p S) S.length)) ∧ Fr [] w w' := by
  obtain ⟨ao, cap, hv, _⟩ := h.form
  subst hv
  have H := hide h
  clear h
  go_enter Tryd.func32, Tryd.ntmps32
  go_wp2
  go_loopw [3] (fun iv wr => ∃ k : Nat, k ≤ S.length ∧ iv = .int .i64 k ∧ Hid (∀ j, j < k → ∀ i, i < 27 → clK p S j i = false) ∧ Hid (Fr [] w wr)) (fun iv _ => S.length - (intOf iv).toNat)
  case atStart => exact ⟨0, by omega, rfl, fun j hj => by omega, Fr.refl _ _⟩
  case round =>
    obtain ⟨k, hk, rfl, hm, hs⟩ := hrel
    have q0 := ((unhide H).fr0 (unhide hs)).v
    by_cases hlt : k < S.length
    · have hki : (k : Int) < S.length := by omega
      go_wp2
      clear q0
      go_loopw [4] (fun iv wr => ∃ i : Nat, i ≤ 27 ∧ iv = .int .i64 i ∧ Hid (∀ j, j < i → clK p S k j = false) ∧ Hid (Fr [] w wr)) (fun iv _ => 27 - (intOf iv).toNat)
      case atStart => exact ⟨0, by omega, rfl, (fun j hj => by omega), hs⟩
      case round =>
        clear hs
        obtain ⟨i, hi, rfl, hmi, hs⟩ := hrel
        by_cases hit : i < 27
        · have HT := hide ((unhide H).fr0 (unhide hs))
          have hsig := sigB_sgn hit
          obtain ⟨c, hc⟩ : ∃ c, sgn i = c := ⟨_, rfl⟩
          have HCC := hide hc
          rw [hc] at hsig
          have HSG := hide hsig
          clear hc hsig
          cases hcl : clK p S k i
          · have HN := hide (show ∀ j, j < i + 1 → clK p S k j = false from fun j hj => by
              by_cases e : j = i
              · subst e; exact hcl
              · exact unhide hmi j (by omega))
            have HCL := hide hcl
            clear hcl
            go_wp2_with (first
              | (go_at_call 46; refine (p_signAt i wr hit).mono ?_; rintro e w' ⟨rfl, hw'⟩; rw [hw', unhide HCC])
              | (go_at_call 26; refine (p_acts tb base k c p _ S cores fault wr (by exact unhide HT) hlt (unhide HSG)).mono ?_; rintro e w3 ⟨rfl, hf3⟩; have HF3 := hide ((unhide hs).trans0 hf3); clear hf3)
              | (refine wpList_alloc_blk rfl 74 rfl (some 5) rfl 10 _ Tryd.zeroActs ?_; intro w4 hf4 hs4 hB4; have HF4 := hide ((unhide HF3).trans0 hf4); have HB4 := hide hB4; clear hf4 hB4)
              | (refine wpList_store_blk rfl 74 (.tmp 5) (.tmp 23) rfl w3.heap.size 0 10 10 (acF false fun _ => false) (acF _ _) rfl rfl (by exact unhide HB4) Tryd.sizeActs (by omega) (oneB_acF _ _ 10) ?_; intro w5 hf5 hs5 hB5; have HF5 := hide ((unhide HF4).trans1 hf5 (Or.inr (unhide HF3).size)); have HB5 := hide (hB5.congr fun i hi => lay_all _ _ _ i hi); clear hf5 hB5)
              | (go_at_call 48; refine (p_isClash w3.heap.size _ _ w5 (by exact unhide HB5)).mono ?_; rintro e w6 ⟨rfl, hf6⟩; have hx := unhide HCL; unfold clK at hx; rw [unhide HCC] at hx; rw [hx]; have HF6 := hide ((unhide HF5).trans0 hf6); clear hf6 hx))
            go_roundw
            case rel => exact ⟨i + 1, by omega, by go_num, HN, HF6⟩
            case measure => simp [intOf]; omega
          · have HN := hide (anyC_true (f := clK p S) hlt hit hcl)
            have HCL := hide hcl
            clear hcl
            go_wp2_with (first
              | (go_at_call 46; refine (p_signAt i wr hit).mono ?_; rintro e w' ⟨rfl, hw'⟩; rw [hw', unhide HCC])
              | (go_at_call 26; refine (p_acts tb base k c p _ S cores fault wr (by exact unhide HT) hlt (unhide HSG)).mono ?_; rintro e w3 ⟨rfl, hf3⟩; have HF3 := hide ((unhide hs).trans0 hf3); clear hf3)
              | (refine wpList_alloc_blk rfl 74 rfl (some 5) rfl 10 _ Tryd.zeroActs ?_; intro w4 hf4 hs4 hB4; have HF4 := hide ((unhide HF3).trans0 hf4); have HB4 := hide hB4; clear hf4 hB4)
              | (refine wpList_store_blk rfl 74 (.tmp 5) (.tmp 23) rfl w3.heap.size 0 10 10 (acF false fun _ => false) (acF _ _) rfl rfl (by exact unhide HB4) Tryd.sizeActs (by omega) (oneB_acF _ _ 10) ?_; intro w5 hf5 hs5 hB5; have HF5 := hide ((unhide HF4).trans1 hf5 (Or.inr (unhide HF3).size)); have HB5 := hide (hB5.congr fun i hi => lay_all _ _ _ i hi); clear hf5 hB5)
              | (go_at_call 48; refine (p_isClash w3.heap.size _ _ w5 (by exact unhide HB5)).mono ?_; rintro e w6 ⟨rfl, hf6⟩; have hx := unhide HCL; unfold clK at hx; rw [unhide HCC] at hx; rw [hx]; have HF6 := hide ((unhide HF5).trans0 hf6); clear hf6 hx))
            go_ret
            exact ⟨ret_bool (unhide HN).symm, unhide HF6⟩
        · have HN := hide (show ∀ j, j < k + 1 → ∀ i, i < 27 → clK p S j i = false from fun j hj i2 hi2 => by
            by_cases e : j = k
            · subst e; exact unhide hmi i2 (by omega)
            · exact unhide hm j (by omega) i2 hi2)
          go_wp2
          go_roundw
          case rel => exact ⟨k + 1, by omega, by go_num, HN, hs⟩
          case measure => simp [intOf]; omega
    · have HN := hide (anyC_false (f := clK p S) (m := S.length) (fun j hj => unhide hm j (by omega)))
      go_wp2
      go_ret
      exact ⟨ret_bool (unhide HN).symm, unhide hs⟩

end Go.Proofs.YtkglggkkbmmjkaaDoor

namespace Go.Proofs.YtkglggkkbmmjkaaDoor
open Go.RowKit

def corF {α : Type} (eq : α → α → Bool) : List α → List α → List Nat → Nat → List Nat × Nat
  | [], _, l, n => (l, n)
  | s :: rest, prev, l, n => match prev.findIdx? (fun p => eq s p) with
    | some k => corF eq rest (prev ++ [s]) (l ++ [l.getD k 0]) n
    | none => corF eq rest (prev ++ [s]) (l ++ [n]) (n + 1)
theorem corF_snoc {α : Type} (eq : α → α → Bool) (x : α) : ∀ (S prev : List α) (l : List Nat) (n : Nat),
    corF eq (S ++ [x]) prev l n = match (prev ++ S).findIdx? (fun p => eq x p) with
      | some k => ((corF eq S prev l n).1 ++ [(corF eq S prev l n).1.getD k 0], (corF eq S prev l n).2)
      | none => ((corF eq S prev l n).1 ++ [(corF eq S prev l n).2], (corF eq S prev l n).2 + 1)
  | [], prev, l, n => by
    rw [List.nil_append, List.append_nil]
    show corF eq [x] prev l n = _
    rw [corF, corF]
    split <;> rfl
  | s :: S, prev, l, n => by
    rw [List.cons_append, corF, corF]
    split
    · rw [corF_snoc eq x S]; simp
    · rw [corF_snoc eq x S]; simp
/-- the same core, both ways -/
def alk2 (a b : List It) : Bool := alikeL a b && alikeL b a
/-- of each state the number of its core; how many there are -/
def corV (Ms : List (List It)) : List Nat × Nat := corF alk2 Ms [] [] 0

theorem alike_iff {A B : Nat → Bool} : alikeL (repL A) (repL B) = true ↔ ∀ q, q < 45 → (∃ k, k < 27 ∧ A (q * 27 + k) = true) → ∃ k, k < 27 ∧ B (q * 27 + k) = true := by
  unfold alikeL
  rw [List.all_eq_true]
  constructor
  · rintro h q hq ⟨k, hk, ha⟩
    have := h (itOf (q * 27 + k)) (itOf_mem.2 ⟨by omega, ha⟩)
    rw [List.any_eq_true] at this
    obtain ⟨y, hy, e⟩ := this
    obtain ⟨j, hj, hb, rfl⟩ := mem_repL.1 hy
    unfold likeI itOf at e
    simp only [Bool.and_eq_true, beq_iff_eq] at e
    exact ⟨j % 27, by omega, by rw [show q * 27 + j % 27 = j from by omega]; exact hb⟩
  · intro h x hx
    obtain ⟨j, hj, ha, rfl⟩ := mem_repL.1 hx
    obtain ⟨k, hk, hb⟩ := h (j / 27) (by omega) ⟨j % 27, by omega, by rw [show j / 27 * 27 + j % 27 = j from by omega]; exact ha⟩
    rw [List.any_eq_true]
    refine ⟨itOf (j / 27 * 27 + k), itOf_mem.2 ⟨by omega, hb⟩, ?_⟩
    unfold likeI itOf
    simp only [Bool.and_eq_true, beq_iff_eq]
    omega
theorem smC_eq (A B : Nat → Bool) : smC A B 45 = alk2 (repL B) (repL A) := by
  apply Bool.eq_iff_iff.2
  unfold alk2 smC
  rw [Bool.and_eq_true, alike_iff, alike_iff, List.all_eq_true]
  have key : ∀ (C : Nat → Bool) (q : Nat), (empB fun k => C (q * 27 + k)) = false ↔ ∃ k, k < 27 ∧ C (q * 27 + k) = true := fun C q => by
    constructor
    · exact fun h => empB_false h
    · rintro ⟨k, hk, h⟩
      cases e : empB fun k => C (q * 27 + k)
      · rfl
      · have := empB_true e k hk; rw [h] at this; cases this
  constructor
  · intro h
    refine ⟨fun q hq hk => ?_, fun q hq hk => ?_⟩
    · have := h q (List.mem_range.2 hq)
      rw [beq_iff_eq] at this
      rw [← key] at hk ⊢; rw [this]; exact hk
    · have := h q (List.mem_range.2 hq)
      rw [beq_iff_eq] at this
      rw [← key] at hk ⊢; rw [← this]; exact hk
  · rintro ⟨h1, h2⟩ q hq
    have hq := List.mem_range.1 hq
    rw [beq_iff_eq]
    cases ea : empB fun k => A (q * 27 + k)
    · exact ((key B q).2 (h2 q hq ((key A q).1 ea))).symm
    · cases eb : empB fun k => B (q * 27 + k)
      · have := (key A q).2 (h1 q hq ((key B q).1 eb)); rw [ea] at this; cases this
      · rfl

/-- the program's cores are these -/
def CorOk (S : List Sd) (c : Nat) : Prop := corV (mOf S) = (S.map (·.core), c) ∧ ∀ s ∈ S, s.core < c
theorem CorOk.setTo {S : List Sd} {c : Nat} (h : CorOk S c) {n : Nat} (hn : n < S.length) (i : Nat) (x : Int) : CorOk (setTo S n i x) c := by
  have e : (Go.Proofs.YtkglggkkbmmjkaaDoor.setTo S n i x).map (·.core) = S.map (·.core) := by
    unfold Go.Proofs.YtkglggkkbmmjkaaDoor.setTo
    rw [List.map_set]
    apply List.ext_getElem (by simp)
    intro j h1 h2
    rw [List.getElem_set]
    split
    · rename_i e; subst e
      rw [List.getElem_map, sget_eq S n hn]
    · rfl
  refine ⟨by rw [mOf_setTo S n i x hn, e]; exact h.1, fun s hs => ?_⟩
  have : s.core ∈ S.map (·.core) := by rw [← e]; exact List.mem_map_of_mem hs
  obtain ⟨s', hs', e'⟩ := List.mem_map.1 this
  rw [← e']; exact h.2 s' hs'
theorem find_findIdx {α : Type} {p : α → Bool} : ∀ {l : List α} {k : Nat}, l.findIdx? p = some k → l.find? p = l[k]?
  | [], k, h => by simp at h
  | x :: l, k, h => by
    rw [List.findIdx?_cons] at h
    rw [List.find?_cons]
    cases hx : p x with
    | true =>
      rw [hx] at h
      obtain rfl : 0 = k := by simpa using h
      rfl
    | false =>
      rw [hx] at h
      simp only [Bool.false_eq_true, if_false, Option.map_eq_some_iff] at h
      obtain ⟨j, hj, rfl⟩ := h
      rw [find_findIdx hj]; rfl
set_option maxRecDepth 100000 in
theorem CorOk.new {S : List Sd} {c : Nat} (h : CorOk S c) (B : Nat → Bool) : CorOk (S ++ [sdN S B c]) (corN S B c) := by
  have hidx : (mOf S).findIdx? (fun p => alk2 (repL B) p) = S.findIdx? (fun s => smC s.A B 45) := by
    unfold mOf
    rw [List.findIdx?_map]
    congr 1
    funext s
    show alk2 (repL B) (repL s.A) = _
    rw [smC_eq]
  have hs := corF_snoc alk2 (repL B) (mOf S) [] [] 0
  rw [List.nil_append, hidx] at hs
  have h1 : corF alk2 (mOf S) [] [] 0 = (S.map (·.core), c) := h.1
  rw [h1] at hs
  unfold CorOk
  rw [mOf_new]
  unfold corV
  cases hf : S.findIdx? (fun s => smC s.A B 45) with
  | none =>
    rw [hf] at hs
    have hn : S.find? (fun s => smC s.A B 45) = none := by
      rw [List.find?_eq_none]; rw [List.findIdx?_eq_none_iff] at hf
      intro x hx; rw [hf x hx]; simp
    have hc : corM S B c = c := by unfold corM; rw [hn]
    have hN : corN S B c = c + 1 := by unfold corN; rw [if_pos hc]
    rw [hN]
    refine ⟨by rw [hs, List.map_append]; show (_, _) = (_, _); rw [show [sdN S B c].map (·.core) = [c] from by simp [sdN, hc]], fun s hs' => ?_⟩
    rcases List.mem_append.1 hs' with h' | h'
    · have := h.2 s h'; omega
    · rw [List.mem_singleton.1 h']; show corM S B c < c + 1; omega
  | some k =>
    rw [hf] at hs
    have hkl : k < S.length := by
      rw [List.findIdx?_eq_some_iff_getElem] at hf; exact hf.1
    have hn : S.find? (fun s => smC s.A B 45) = some S[k] := by rw [find_findIdx hf, List.getElem?_eq_getElem hkl]
    have hc : corM S B c = S[k].core := by unfold corM; rw [hn]
    have hlt : S[k].core < c := h.2 _ (List.getElem_mem hkl)
    have hN : corN S B c = c := by unfold corN; rw [if_neg (by omega)]
    rw [hN]
    refine ⟨by rw [hs, List.map_append]; show (_, _) = (_, _); rw [show [sdN S B c].map (·.core) = [(S.map (·.core)).getD k 0] from by simp [sdN, hc, hkl]], fun s hs' => ?_⟩
    rcases List.mem_append.1 hs' with h' | h'
    · exact h.2 s h'
    · rw [List.mem_singleton.1 h']; show corM S B c < c; omega
end Go.Proofs.YtkglggkkbmmjkaaDoor

namespace Go.Proofs.YtkglggkkbmmjkaaDoor
open Go.RowKit

def mixS (r : Tb) (cs : List Nat) (c : Int) (x m : Nat) : Bool := (List.range m).any fun j => ((cs.getD j 0 : Nat) : Int) == c && canS r j x
def mixR (L : List Ru) (r : Tb) (cs : List Nat) (c : Int) (x m k : Nat) : Bool := (List.range m).any fun j => ((cs.getD j 0 : Nat) : Int) == c && canR L r j x k
def mixT (L : List Ru) (r : Tb) (c : Int) (x : Nat) : ByteArray := wordsT (mixS r (corV r.1).1 c x r.1.length) (mixR L r (corV r.1).1 c x r.1.length)
def clsT (L : List Ru) (r : Tb) : Nat :=
  if anyC (fun k i => decide (1 < (actT L r k (sgn i)).size)) r.1.length then 0 else if anyC (fun k i => decide (1 < (mixT L r (k : Nat) (sgn i)).size)) (corV r.1).2 then 1 else 2
theorem any_congr' {m : Nat} {f g : Nat → Bool} (h : ∀ j, j < m → f j = g j) : (List.range m).any f = (List.range m).any g := by
  apply Bool.eq_iff_iff.2
  rw [List.any_eq_true, List.any_eq_true]
  constructor
  · rintro ⟨j, hj, e⟩; exact ⟨j, hj, by rw [← h j (List.mem_range.1 hj)]; exact e⟩
  · rintro ⟨j, hj, e⟩; exact ⟨j, hj, by rw [h j (List.mem_range.1 hj)]; exact e⟩
theorem canR_eq {t : ByteArray} {S : List Sd} {M : List (List (Nat × Nat))} (h : TIs t S M) {x : Nat} (hx : sigB x = true) {j : Nat} (hj : j < S.length) {k : Nat} (hk : k < 9) : ruS (plT t) (sget S j).A x k = canR (rul (parse t 8 0 []).1) (mOf S, M) j x k := by
  unfold canR
  dsimp only
  rw [repL_getD S j hj]
  exact putback_eq (h.ok.get hj) hx hk
theorem canS_eq {t : ByteArray} {S : List Sd} {M : List (List (Nat × Nat))} (h : TIs t S M) {x : Nat} {j : Nat} (hj : j < S.length) : (stepTo S j x != -1) = canS (mOf S, M) j x := stepB_eq h.tos hj x
theorem act_eq {t : ByteArray} {S : List Sd} {M : List (List (Nat × Nat))} (h : TIs t S M) {j : Nat} (hj : j < S.length) {x : Nat} (hx : sigB x = true) :
    (⟨(acL (stepTo S j x != -1) (ruS (plT t) (sget S j).A x) 9).toArray⟩ : ByteArray) = actT (rul (parse t 8 0 []).1) (mOf S, M) j x := by
  unfold actT wordsT
  rw [canS_eq h hj]
  congr 2
  exact acL_congr fun i hi => canR_eq h hx hj hi
theorem anyC_congr {m : Nat} {f g : Nat → Nat → Bool} (h : ∀ k, k < m → ∀ i, i < 27 → f k i = g k i) : anyC f m = anyC g m := any_congr' fun k hk => any_congr' fun i hi => h k hk i hi
theorem sigB_sgn' {i : Nat} (hi : i < 27) : sigB (sgn i) = true := by
  rw [sigB_iff]
  unfold sgn
  split <;> omega
end Go.Proofs.YtkglggkkbmmjkaaDoor
