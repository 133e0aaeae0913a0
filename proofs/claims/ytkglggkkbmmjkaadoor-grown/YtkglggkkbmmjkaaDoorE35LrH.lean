import Derived.Test.YtkglggkkbmmjkaaDoorE33FoMath
import Derived.Test.YtkglggkkbmmjkaaDoorE34PClass
namespace Go.Proofs.YtkglggkkbmmjkaaDoor
open Go.RowKit

def corF {α : Type} (eq : α → α → Bool) : List α → List α → List Nat → Nat → List Nat × Nat
  | [], _, l, n => (l, n)
  | s :: rest, prev, l, n => match prev.findIdx? (fun p => eq s p) with
    | some k => corF eq rest (prev ++ [s]) (l ++ [l.getD k 0]) n
    | none => corF eq rest (prev ++ [s]) (l ++ [n]) (n + 1)
theorem corF_snoc {α : Type} (eq : α → α → Bool) (x : α) : ∀ (S prev : List α) (l : List Nat) (n : Nat),
    corF eq (S ++ [x]) prev l n = match (prev ++ S).findIdx? (fun p => eq x p) with
      | some k => ((corF eq S prev l n).1 ++ [(corF eq S prev l n).1.getD k 0], (corF eq S prev l n).2)
      | none => ((corF eq S prev l n).1 ++ [(corF eq S prev l n).2], (corF eq S prev l n).2 + 1)
  | [], prev, l, n => by
    rw [List.nil_append, List.append_nil]
    show corF eq [x] prev l n = _
    rw [corF, corF]
    split <;> rfl
  | s :: S, prev, l, n => by
    rw [List.cons_append, corF, corF]
    split
    · rw [corF_snoc eq x S]; simp
    · rw [corF_snoc eq x S]; simp
/-- the same core, both ways -/
def alk2 (a b : List It) : Bool := alikeL a b && alikeL b a
/-- of each state the number of its core; how many there are -/
def corV (Ms : List (List It)) : List Nat × Nat := corF alk2 Ms [] [] 0

theorem alike_iff {A B : Nat → Bool} : alikeL (repL A) (repL B) = true ↔ ∀ q, q < 45 → (∃ k, k < 27 ∧ A (q * 27 + k) = true) → ∃ k, k < 27 ∧ B (q * 27 + k) = true := by
  unfold alikeL
  rw [List.all_eq_true]
  constructor
  · rintro h q hq ⟨k, hk, ha⟩
    have := h (itOf (q * 27 + k)) (itOf_mem.2 ⟨by omega, ha⟩)
    rw [List.any_eq_true] at this
    obtain ⟨y, hy, e⟩ := this
    obtain ⟨j, hj, hb, rfl⟩ := mem_repL.1 hy
    unfold likeI itOf at e
    simp only [Bool.and_eq_true, beq_iff_eq] at e
    exact ⟨j % 27, by omega, by rw [show q * 27 + j % 27 = j from by omega]; exact hb⟩
  · intro h x hx
    obtain ⟨j, hj, ha, rfl⟩ := mem_repL.1 hx
    obtain ⟨k, hk, hb⟩ := h (j / 27) (by omega) ⟨j % 27, by omega, by rw [show j / 27 * 27 + j % 27 = j from by omega]; exact ha⟩
    rw [List.any_eq_true]
    refine ⟨itOf (j / 27 * 27 + k), itOf_mem.2 ⟨by omega, hb⟩, ?_⟩
    unfold likeI itOf
    simp only [Bool.and_eq_true, beq_iff_eq]
    omega
theorem smC_eq (A B : Nat → Bool) : smC A B 45 = alk2 (repL B) (repL A) := by
  apply Bool.eq_iff_iff.2
  unfold alk2 smC
  rw [Bool.and_eq_true, alike_iff, alike_iff, List.all_eq_true]
  have key : ∀ (C : Nat → Bool) (q : Nat), (empB fun k => C (q * 27 + k)) = false ↔ ∃ k, k < 27 ∧ C (q * 27 + k) = true := fun C q => by
    constructor
    · exact fun h => empB_false h
    · rintro ⟨k, hk, h⟩
      cases e : empB fun k => C (q * 27 + k)
      · rfl
      · have := empB_true e k hk; rw [h] at this; cases this
  constructor
  · intro h
    refine ⟨fun q hq hk => ?_, fun q hq hk => ?_⟩
    · have := h q (List.mem_range.2 hq)
      rw [beq_iff_eq] at this
      rw [← key] at hk ⊢; rw [this]; exact hk
    · have := h q (List.mem_range.2 hq)
      rw [beq_iff_eq] at this
      rw [← key] at hk ⊢; rw [← this]; exact hk
  · rintro ⟨h1, h2⟩ q hq
    have hq := List.mem_range.1 hq
    rw [beq_iff_eq]
    cases ea : empB fun k => A (q * 27 + k)
    · exact ((key B q).2 (h2 q hq ((key A q).1 ea))).symm
    · cases eb : empB fun k => B (q * 27 + k)
      · have := (key A q).2 (h1 q hq ((key B q).1 eb)); rw [ea] at this; cases this
      · rfl

/-- the program's cores are these -/
def CorOk (S : List Sd) (c : Nat) : Prop := corV (mOf S) = (S.map (·.core), c) ∧ ∀ s ∈ S, s.core < c
theorem CorOk.setTo {S : List Sd} {c : Nat} (h : CorOk S c) {n : Nat} (hn : n < S.length) (i : Nat) (x : Int) : CorOk (setTo S n i x) c := by
  have e : (Go.Proofs.YtkglggkkbmmjkaaDoor.setTo S n i x).map (·.core) = S.map (·.core) := by
    unfold Go.Proofs.YtkglggkkbmmjkaaDoor.setTo
    rw [List.map_set]
    apply List.ext_getElem (by simp)
    intro j h1 h2
    rw [List.getElem_set]
    split
    · rename_i e; subst e
      rw [List.getElem_map, sget_eq S n hn]
    · rfl
  refine ⟨by rw [mOf_setTo S n i x hn, e]; exact h.1, fun s hs => ?_⟩
  have : s.core ∈ S.map (·.core) := by rw [← e]; exact List.mem_map_of_mem hs
  obtain ⟨s', hs', e'⟩ := List.mem_map.1 this
  rw [← e']; exact h.2 s' hs'
theorem find_findIdx {α : Type} {p : α → Bool} : ∀ {l : List α} {k : Nat}, l.findIdx? p = some k → l.find? p = l[k]?
  | [], k, h => by simp at h
  | x :: l, k, h => by
    rw [List.findIdx?_cons] at h
    rw [List.find?_cons]
    cases hx : p x with
    | true =>
      rw [hx] at h
      obtain rfl : 0 = k := by simpa using h
      rfl
    | false =>
      rw [hx] at h
      simp only [Bool.false_eq_true, if_false, Option.map_eq_some_iff] at h
      obtain ⟨j, hj, rfl⟩ := h
      rw [find_findIdx hj]; rfl
set_option maxRecDepth 100000 in
theorem CorOk.new {S : List Sd} {c : Nat} (h : CorOk S c) (B : Nat → Bool) : CorOk (S ++ [sdN S B c]) (corN S B c) := by
  have hidx : (mOf S).findIdx? (fun p => alk2 (repL B) p) = S.findIdx? (fun s => smC s.A B 45) := by
    unfold mOf
    rw [List.findIdx?_map]
    congr 1
    funext s
    show alk2 (repL B) (repL s.A) = _
    rw [smC_eq]
  have hs := corF_snoc alk2 (repL B) (mOf S) [] [] 0
  rw [List.nil_append, hidx] at hs
  have h1 : corF alk2 (mOf S) [] [] 0 = (S.map (·.core), c) := h.1
  rw [h1] at hs
  unfold CorOk
  rw [mOf_new]
  unfold corV
  cases hf : S.findIdx? (fun s => smC s.A B 45) with
  | none =>
    rw [hf] at hs
    have hn : S.find? (fun s => smC s.A B 45) = none := by
      rw [List.find?_eq_none]; rw [List.findIdx?_eq_none_iff] at hf
      intro x hx; rw [hf x hx]; simp
    have hc : corM S B c = c := by unfold corM; rw [hn]
    have hN : corN S B c = c + 1 := by unfold corN; rw [if_pos hc]
    rw [hN]
    refine ⟨by rw [hs, List.map_append]; show (_, _) = (_, _); rw [show [sdN S B c].map (·.core) = [c] from by simp [sdN, hc]], fun s hs' => ?_⟩
    rcases List.mem_append.1 hs' with h' | h'
    · have := h.2 s h'; omega
    · rw [List.mem_singleton.1 h']; show corM S B c < c + 1; omega
  | some k =>
    rw [hf] at hs
    have hkl : k < S.length := by
      rw [List.findIdx?_eq_some_iff_getElem] at hf; exact hf.1
    have hn : S.find? (fun s => smC s.A B 45) = some S[k] := by rw [find_findIdx hf, List.getElem?_eq_getElem hkl]
    have hc : corM S B c = S[k].core := by unfold corM; rw [hn]
    have hlt : S[k].core < c := h.2 _ (List.getElem_mem hkl)
    have hN : corN S B c = c := by unfold corN; rw [if_neg (by omega)]
    rw [hN]
    refine ⟨by rw [hs, List.map_append]; show (_, _) = (_, _); rw [show [sdN S B c].map (·.core) = [(S.map (·.core)).getD k 0] from by simp [sdN, hc, hkl]], fun s hs' => ?_⟩
    rcases List.mem_append.1 hs' with h' | h'
    · exact h.2 s h'
    · rw [List.mem_singleton.1 h']; show corM S B c < c; omega
end Go.Proofs.YtkglggkkbmmjkaaDoor

namespace Go.Proofs.YtkglggkkbmmjkaaDoor
open Go.RowKit

def mixS (r : Tb) (cs : List Nat) (c : Int) (x m : Nat) : Bool := (List.range m).any fun j => ((cs.getD j 0 : Nat) : Int) == c && canS r j x
def mixR (L : List Ru) (r : Tb) (cs : List Nat) (c : Int) (x m k : Nat) : Bool := (List.range m).any fun j => ((cs.getD j 0 : Nat) : Int) == c && canR L r j x k
def mixT (L : List Ru) (r : Tb) (c : Int) (x : Nat) : ByteArray := wordsT (mixS r (corV r.1).1 c x r.1.length) (mixR L r (corV r.1).1 c x r.1.length)
def clsT (L : List Ru) (r : Tb) : Nat :=
  if anyC (fun k i => decide (1 < (actT L r k (sgn i)).size)) r.1.length then 0 else if anyC (fun k i => decide (1 < (mixT L r (k : Nat) (sgn i)).size)) (corV r.1).2 then 1 else 2
theorem any_congr' {m : Nat} {f g : Nat → Bool} (h : ∀ j, j < m → f j = g j) : (List.range m).any f = (List.range m).any g := by
  apply Bool.eq_iff_iff.2
  rw [List.any_eq_true, List.any_eq_true]
  constructor
  · rintro ⟨j, hj, e⟩; exact ⟨j, hj, by rw [← h j (List.mem_range.1 hj)]; exact e⟩
  · rintro ⟨j, hj, e⟩; exact ⟨j, hj, by rw [h j (List.mem_range.1 hj)]; exact e⟩
theorem canR_eq {t : ByteArray} {S : List Sd} {M : List (List (Nat × Nat))} (h : TIs t S M) {x : Nat} (hx : sigB x = true) {j : Nat} (hj : j < S.length) {k : Nat} (hk : k < 9) : ruS (plT t) (sget S j).A x k = canR (rul (parse t 8 0 []).1) (mOf S, M) j x k := by
  unfold canR
  dsimp only
  rw [repL_getD S j hj]
  exact putback_eq (h.ok.get hj) hx hk
theorem canS_eq {t : ByteArray} {S : List Sd} {M : List (List (Nat × Nat))} (h : TIs t S M) {x : Nat} {j : Nat} (hj : j < S.length) : (stepTo S j x != -1) = canS (mOf S, M) j x := stepB_eq h.tos hj x
theorem act_eq {t : ByteArray} {S : List Sd} {M : List (List (Nat × Nat))} (h : TIs t S M) {j : Nat} (hj : j < S.length) {x : Nat} (hx : sigB x = true) :
    (⟨(acL (stepTo S j x != -1) (ruS (plT t) (sget S j).A x) 9).toArray⟩ : ByteArray) = actT (rul (parse t 8 0 []).1) (mOf S, M) j x := by
  unfold actT wordsT
  rw [canS_eq h hj]
  congr 2
  exact acL_congr fun i hi => canR_eq h hx hj hi
theorem anyC_congr {m : Nat} {f g : Nat → Nat → Bool} (h : ∀ k, k < m → ∀ i, i < 27 → f k i = g k i) : anyC f m = anyC g m := any_congr' fun k hk => any_congr' fun i hi => h k hk i hi
theorem sigB_sgn' {i : Nat} (hi : i < 27) : sigB (sgn i) = true := by
  rw [sigB_iff]
  unfold sgn
  split <;> omega
end Go.Proofs.YtkglggkkbmmjkaaDoor

namespace Go.Proofs.YtkglggkkbmmjkaaDoor
open Go.RowKit

/-- each letter of a rule derives some word -/
theorem let_some {t : ByteArray} (h : (gErr t).1 = 0) {r : Ru} (hr : r ∈ (parse t 8 0 []).1) {c : Nat} (hc : c ∈ bytes r.R) : ∃ w x n, Ds (rul (parse t 8 0 []).1) [c] w x n := by
  obtain ⟨ht, hp⟩ := gErr_zero h
  obtain ⟨k, k1, k2, k3⟩ := rul_no hr
  have hl : letB c = true := (gr_cl t ht hp).let_ k k2 c (by rw [k3]; exact hc)
  unfold letB at hl
  rw [Bool.or_eq_true] at hl
  rcases hl with hb | hs
  · have hin := names_ok h r hr c hc hb
    unfold rset at hin
    rw [List.any_eq_true] at hin
    obtain ⟨q, hq, e⟩ := hin
    have e : q.L = c := by simpa using e
    have hd := dead_none (gErr_dead h) q hq
    unfold dead1 hasB at hd
    rw [Bool.or_eq_false_iff] at hd
    have : ends (parse t 8 0 []).1 q.L = true := by
      have := hd.1
      simp at this
      exact this.2
    rw [e] at this
    exact ends_sound c this
  · exact ⟨_, _, _, Ds.small hs Ds.nil⟩
theorem st_some {t : ByteArray} (h : (gErr t).1 = 0) : ∃ w x n, Ds (rul (parse t 8 0 []).1) [stOf (parse t 8 0 []).1] w x n := by
  obtain ⟨ht, hp⟩ := gErr_zero h
  have hpos := (parse_good t 8 0 [] (by simp)).2.2 hp
  have hr : rget (parse t 8 0 []).1 0 ∈ (parse t 8 0 []).1 := by rw [rget_eq _ 0 hpos]; exact List.getElem_mem hpos
  have hst : stOf (parse t 8 0 []).1 = (rget (parse t 8 0 []).1 0).L := by
    generalize (parse t 8 0 []).1 = rs at *
    cases rs with
    | nil => simp at hpos
    | cons r l => rfl
  have hd := dead_none (gErr_dead h) _ hr
  unfold dead1 hasB at hd
  rw [Bool.or_eq_false_iff] at hd
  have : ends (parse t 8 0 []).1 (rget (parse t 8 0 []).1 0).L = true := by
    have := hd.1
    simp at this
    exact this.2
  rw [hst]
  exact ends_sound _ this
theorem bytes_rul0 {c : Nat} (h : c < 256) : bytes (rul0 c).R = [c] := by
  unfold rul0 bytes
  show [(UInt8.ofNat c).toNat] = [c]
  rw [UInt8.toNat_ofNat', Nat.mod_eq_of_lt h]
theorem st_bytes {t : ByteArray} (h : (gErr t).1 = 0) : bytes (rget (rul (parse t 8 0 []).1) 0).R = [stOf (parse t 8 0 []).1] := by
  obtain ⟨ht, hp⟩ := gErr_zero h
  rw [rget_rul0]
  exact bytes_rul0 (by have := bigB_iff.1 (start_big t hp); omega)
theorem let_all {t : ByteArray} (h : (gErr t).1 = 0) {k : Nat} (hk : k < (rul (parse t 8 0 []).1).length) {c : Nat} (hc : c ∈ bytes (rget (rul (parse t 8 0 []).1) k).R) : ∃ w x n, Ds (rul (parse t 8 0 []).1) [c] w x n := by
  by_cases h0 : k = 0
  · subst h0
    rw [st_bytes h] at hc
    rw [List.mem_singleton.1 hc]; exact st_some h
  · exact let_some h (rul_is (by omega) hk) hc
theorem list_some {L : List Ru} : ∀ (l : List Nat), (∀ c ∈ l, ∃ w x n, Ds L [c] w x n) → ∃ w x n, Ds L l w x n
  | [], _ => ⟨[], [], 0, Ds.nil⟩
  | c :: l, h => by
    obtain ⟨w1, x1, n1, h1⟩ := h c (List.mem_cons_self ..)
    obtain ⟨w2, x2, n2, h2⟩ := list_some l (fun c hc => h c (List.mem_cons_of_mem _ hc))
    exact ⟨_, _, _, h1.app h2⟩
theorem beg_sound {L : List Ru} {N : Nat → Bool} {F : Nat → Nat → Bool} (hN : ∀ c, N c = true → ∃ x n, Ds L [c] [] x n) {a : Nat} (hF : ∀ c, F c a = true → ∃ w x n, Ds L [c] (a :: w) x n) : ∀ (l : List Nat), (∀ c ∈ l, ∃ w x n, Ds L [c] w x n) → beg N F l a = true → ∃ w x n, Ds L l (a :: w) x n
  | [], _, h => by cases h
  | c :: l, hl, h => by
    obtain ⟨w2, x2, n2, h2⟩ := list_some l (fun c hc => hl c (List.mem_cons_of_mem _ hc))
    rw [beg] at h
    split at h
    · rename_i hc
      have e : a = c := by simpa using h
      subst e
      exact ⟨_, _, _, Ds.small hc h2⟩
    · rw [Bool.or_eq_true, Bool.and_eq_true] at h
      rcases h with h | ⟨h3, h4⟩
      · obtain ⟨w1, x1, n1, h1⟩ := hF c h
        exact ⟨_, _, _, h1.app h2⟩
      · unfold hasB at h3
        rw [Bool.and_eq_true] at h3
        obtain ⟨x1, n1, h1⟩ := hN c h3.2
        obtain ⟨w5, x5, n5, h5⟩ := beg_sound hN hF l (fun c hc => hl c (List.mem_cons_of_mem _ hc)) h4
        exact ⟨w5, _, _, by simpa using h1.app h5⟩
theorem first_sound {t : ByteArray} (h : (gErr t).1 = 0) : ∀ c a, firstT (parse t 8 0 []).1 c a = true → ∃ w x n, Ds (rul (parse t 8 0 []).1) [c] (a :: w) x n := by
  have hN := null_sound (parse_big t)
  have round : ∀ (l : List Ru), (∀ r ∈ l, r ∈ (parse t 8 0 []).1) → ∀ F : Nat → Nat → Bool, (∀ c a, F c a = true → ∃ w x n, Ds (rul (parse t 8 0 []).1) [c] (a :: w) x n) → ∀ c a, ffRound (nullS (parse t 8 0 []).1) l F c a = true → ∃ w x n, Ds (rul (parse t 8 0 []).1) [c] (a :: w) x n := by
    intro l
    induction l with
    | nil => intro _ F hF c a h; exact hF c a h
    | cons r l ih =>
      intro hin F hF c a h'
      have h2 : ffRound (nullS (parse t 8 0 []).1) l (joinF F r.L (beg (nullS (parse t 8 0 []).1) F (bytes r.R))) c a = true := h'
      refine ih (fun q hq => hin q (List.mem_cons_of_mem _ hq)) _ (fun c a hc => ?_) c a h2
      unfold joinF at hc
      rw [Bool.or_eq_true, Bool.and_eq_true] at hc
      rcases hc with hc | ⟨hc, hb⟩
      · exact hF c a hc
      · have e : c = r.L := by simpa using hc
        obtain ⟨k, k1, k2, k3⟩ := rul_no (hin r (List.mem_cons_self ..))
        obtain ⟨w, x, n, hd⟩ := beg_sound hN (fun c hc => hF c a hc) (bytes r.R) (fun c hc => let_some h (hin r (List.mem_cons_self ..)) hc) hb
        rw [← k3] at hd
        have := Ds.one k1 k2 hd
        rw [k3, ← e] at this
        exact ⟨_, _, _, this⟩
  have it : ∀ n c a, iterF (ffRound (nullS (parse t 8 0 []).1) (parse t 8 0 []).1) n (fun _ _ => false) c a = true → ∃ w x m, Ds (rul (parse t 8 0 []).1) [c] (a :: w) x m := by
    intro n
    induction n with
    | zero => intro c a h; cases h
    | succ n ih => intro c a h; exact round _ (fun _ h => h) _ ih c a h
  exact it _
theorem null_list {L : List Ru} {N : Nat → Bool} (hN : ∀ c, N c = true → ∃ x n, Ds L [c] [] x n) : ∀ l, l.all N = true → ∃ x n, Ds L l [] x n := by
  intro l
  induction l with
  | nil => intro _; exact ⟨[], 0, Ds.nil⟩
  | cons c l ih =>
    intro h
    rw [List.all_cons, Bool.and_eq_true] at h
    obtain ⟨x1, n1, h1⟩ := hN c h.1
    obtain ⟨x2, n2, h2⟩ := ih h.2
    exact ⟨x1 ++ x2, n1 + n2, by simpa using h1.app h2⟩
theorem gr_so {t : ByteArray} (h : (gErr t).1 = 0) : GrSo (rul (parse t 8 0 []).1) (nullS (parse t 8 0 []).1) (firstT (parse t 8 0 []).1) :=
  ⟨null_list (null_sound (parse_big t)), fun _ hk _ a hb => beg_sound (null_sound (parse_big t)) (fun c hc => first_sound h c a hc) _ (fun _ hc => let_all h hk (List.mem_of_mem_drop hc)) hb, fun _ hk _ => list_some _ (fun _ hc => let_all h hk (List.mem_of_mem_drop hc))⟩

theorem rowM_all {P : List It → Prop} {st : Nat → List It} (hst : ∀ c, P (st c)) : ∀ (cs : List Nat) (S : List (List It)) (m : List (Nat × Nat)) (S' : List (List It)) (m' : List (Nat × Nat)), (∀ l ∈ S, P l) → rowM st cs S m = some (S', m') → ∀ l ∈ S', P l
  | [], S, m, S', m', hS, h => by rw [rowM] at h; cases h; exact hS
  | c :: cs, S, m, S', m', hS, h => by
    rw [rowM] at h
    split at h
    · exact rowM_all hst cs S m S' m' hS h
    · split at h
      · cases h
      · refine rowM_all hst cs _ _ S' m' (fun l hl => ?_) h
        unfold numM at hl
        split at hl
        · exact hS l hl
        · rcases List.mem_append.1 hl with hl | hl
          · exact hS l hl
          · rw [List.mem_singleton.1 hl]; exact hst c
theorem tabM_all {P : List It → Prop} {rs : List Ru} {N : Nat → Bool} {T : Nat → Nat → Bool} (hst : ∀ l, P l → ∀ c, P (stepM rs N T l c)) : ∀ (f i : Nat) (S : List (List It)) (M : List (List (Nat × Nat))) (S' : List (List It)) (M' : List (List (Nat × Nat))), (∀ l ∈ S, P l) → tabM rs N T f i S M = some (S', M') → ∀ l ∈ S', P l
  | 0, _, S, M, S', M', hS, h => by rw [tabM] at h; cases h; exact hS
  | f + 1, i, S, M, S', M', hS, h => by
    rw [tabM] at h
    split at h
    · split at h
      · cases h
      · rename_i hr
        exact tabM_all hst f _ _ _ S' M' (rowM_all (hst _ (hS _ (List.getElem_mem _))) _ _ _ _ _ hS hr) h
    · cases h; exact hS
theorem cl_some {rs : List Ru} {N : Nat → Bool} {T : Nat → Nat → Bool} {X : It → Prop} {y : It} (h : Cl rs N T X y) : ∃ x, X x := h (fun _ => ∃ x, X x) (fun x hx => ⟨x, hx⟩) (fun _ _ hx _ => hx)
theorem getD_mem {S : List (List It)} {s : Nat} {y : It} (h : y ∈ S.getD s []) : S.getD s [] ∈ S := by
  rw [List.getD_eq_getElem?_getD] at *
  cases e : S[s]? with
  | none => rw [e] at h; cases h
  | some l => exact List.mem_of_getElem? e
theorem tab_ok {L : List Ru} {N : Nat → Bool} {T : Nat → Nat → Bool} (hC : GrCl L N T) {S' : List (List It)} {M' : List (List (Nat × Nat))} (h40 : S'.length ≤ 40) (h : tabM L N T 41 0 [startM L N T] [] = some (S', M')) : TabOk L N T (S', M') := by
  obtain ⟨hI, ⟨e, he⟩, hlen⟩ := tabM_spec 41 0 [startM L N T] [] S' M' rfl ⟨by simp, (fun n h => by simp at h), (fun n h => by simp at h)⟩ h
  have hML : M'.length = S'.length := by have := hI.le; omega
  have hst : ∀ y, y ∈ startM L N T ↔ Cl L N T (· = ⟨0, 0, 36⟩) y := start_mem hC.gr hC.pos
  have hP := tabM_all (P := fun l => (∀ y ∈ l, IOk L y) ∧ ∀ x ∈ l, ∀ y, Asks L N T x y → y ∈ l) (rs := L) (N := N) (T := T) (fun l hl c => ⟨step_ok hC.gr hl.1 c, fun x hx y ha => by rw [step_mem hC.gr hl.1] at hx ⊢; exact hx.step ha⟩) 41 0 [startM L N T] [] S' M' (fun l hl => by
    rw [List.mem_singleton.1 hl]
    refine ⟨fun y hy => ((hst y).1 hy).ok (fun x hx => by rw [hx]; exact ⟨hC.pos, Nat.zero_le _, Or.inl rfl⟩) hC.gr.fst, fun x hx y ha => ?_⟩
    rw [hst] at hx ⊢; exact hx.step ha) h
  have h0 : itm (S', M') 0 = startM L N T := by unfold itm; rw [he]; rfl
  have hok : ∀ s, ∀ y ∈ itm (S', M') s, IOk L y := fun s y hy => (hP _ (getD_mem hy)).1 y hy
  have hrow : ∀ s, s < S'.length → ∀ c, 65 ≤ c → c ≤ 122 → RowAt (stepM L N T (itm (S', M') s)) S' (M'.getD s []) c := fun s hs c h1 h2 => by
    have := hI.row s (by omega) c h1 h2
    rw [List.getD_eq_getElem?_getD, List.getElem?_eq_getElem (by omega)]
    exact this
  have hno : ∀ s, s < S'.length → ∀ c, (∀ x ∈ itm (S', M') s, ¬ MvB L c x) → stepM L N T (itm (S', M') s) c = [] := fun s hs c hx => by
    apply List.eq_nil_iff_forall_not_mem.2
    intro y hy
    rw [step_mem hC.gr (hok s)] at hy
    obtain ⟨_, x, h1, h2, _⟩ := cl_some hy
    exact hx x h1 h2
  refine ⟨hC, by rw [he]; simp, fun y => by rw [h0]; exact hst y, hok, fun s hs c hc => ?_, fun s hs c hc => ?_, fun s hs x hx y ha => (hP _ (getD_mem hx)).2 x hx y ha⟩
  · have hcb : 65 ≤ c ∧ c ≤ 122 := by
      unfold letB at hc
      rw [Bool.or_eq_true] at hc
      rcases hc with hc | hc
      · have := bigB_iff.1 hc; omega
      · have := smallB_iff.1 hc; omega
    obtain ⟨r1, r2⟩ := hrow s hs c hcb.1 hcb.2
    by_cases hx : ∃ x ∈ itm (S', M') s, MvB L c x
    · right
      obtain ⟨x, hx1, hx2⟩ := hx
      have hne : stepM L N T (itm (S', M') s) c ≠ [] := fun e => by
        have : mvI x ∈ stepM L N T (itm (S', M') s) c := (step_mem hC.gr (hok s) c _).2 (Cl.base ⟨x, hx1, hx2, rfl⟩)
        rw [e] at this; cases this
      obtain ⟨j, j1, j2⟩ := r2 hne
      have hj : j < S'.length := by
        rcases Nat.lt_or_ge j S'.length with hj | hj
        · exact hj
        · rw [List.getElem?_eq_none hj] at j2; cases j2
      refine ⟨j, j1, hj, ⟨x, hx1, hx2⟩, fun y => ?_⟩
      have : itm (S', M') j = stepM L N T (itm (S', M') s) c := by unfold itm; show S'.getD j [] = _; rw [List.getD_eq_getElem?_getD, j2]; rfl
      rw [this]; exact step_mem hC.gr (hok s) c y
    · left
      have hx' : ∀ x ∈ itm (S', M') s, ¬ MvB L c x := fun x h1 h2 => hx ⟨x, h1, h2⟩
      exact ⟨r1 (hno s hs c hx'), hx'⟩
  · have hs : s < S'.length := hs
    by_cases hcb : 65 ≤ c ∧ c ≤ 122
    · refine (hrow s hs c hcb.1 hcb.2).1 (hno s hs c (fun x h1 h2 => ?_))
      have hk := hok s x h1
      have : ch (rget L x.R).R x.P ∈ bytes (rget L x.R).R := by
        have hl : x.P < (bytes (rget L x.R).R).length := by rw [bytes_len]; exact h2.1
        rw [← bytes_get _ _ hl]; exact List.getElem_mem hl
      have := hC.let_ x.R hk.1 _ this
      rw [h2.2, hc] at this; cases this
    · unfold gto
      refine toM_no fun p hp e => hcb ?_
      have hp' : p ∈ M'[s]'(by omega) := by
        have hp2 : p ∈ M'.getD s [] := hp
        rw [List.getD_eq_getElem?_getD, List.getElem?_eq_getElem (by omega)] at hp2
        exact hp2
      have := hI.out s (by omega) p hp'
      omega
theorem tabR_len {t : ByteArray} {r : Tb} (h : tabR t = .inr r) : (gErr t).1 = 0 ∧ tabM (rul (parse t 8 0 []).1) (nullS (parse t 8 0 []).1) (firstT (parse t 8 0 []).1) 41 0 [startM (rul (parse t 8 0 []).1) (nullS (parse t 8 0 []).1) (firstT (parse t 8 0 []).1)] [] = some r := by
  unfold tabR at h
  split at h
  · cases h
  · rename_i h0
    split at h
    · cases h
    · rename_i hm
      cases h
      exact ⟨by simpa using h0, hm⟩
theorem nocl_of {L : List Ru} {r : Tb} (h : clsT L r ≠ 0) : NoCl L r := fun s hs a ha => by
  unfold clsT at h
  split at h
  · exact absurd rfl h
  · rename_i hx
    have hk : sgO a < 27 := sgO_lt ha
    have he := sgn_sgO ha
    rcases Nat.lt_or_ge 1 (actT L r s a).size with h1 | h1
    · exact absurd (anyC_true (f := fun k i => decide (1 < (actT L r k (sgn i)).size)) hs hk (by rw [he]; exact decide_eq_true h1)) hx
    · exact h1
/-- the reading stands -/
theorem rd_of {t : ByteArray} {r : Tb} (h : tabR t = .inr r) (h40 : r.1.length ≤ 40) (hc : clsT (rul (parse t 8 0 []).1) r ≠ 0) : Rd (rul (parse t 8 0 []).1) (nullS (parse t 8 0 []).1) (firstT (parse t 8 0 []).1) r (stOf (parse t 8 0 []).1) 1048576 := by
  obtain ⟨h0, hm⟩ := tabR_len h
  obtain ⟨ht, hp⟩ := gErr_zero h0
  have hz := gr_sz t ht hp
  exact ⟨tab_ok (gr_cl t ht hp) h40 hm, gr_so h0, nocl_of hc, st_bytes h0, fun u a n hu hd => Rd_bnd hz hu hd, fun w x n hw hd => Rd_bnd2 hz hw hd, by omega⟩
end Go.Proofs.YtkglggkkbmmjkaaDoor
