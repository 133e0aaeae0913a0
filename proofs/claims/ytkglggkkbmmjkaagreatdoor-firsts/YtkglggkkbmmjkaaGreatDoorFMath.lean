import Derived.Test.YtkglggkkbmmjkaaGreatDoorSame
import Derived.Test.YtkglggkkbmmjkaaGreatDoorRNulls
namespace Go.Proofs.YtkglggkkbmmjkaaGreatDoor
open Go.RowKit

/-! Rounds over tables, column by column. -/

/-- one step of a round: a letter, and what joins its set -/
structure Stp where
  L : Nat
  B : Nat → (Nat → Bool) → Bool
def stepF (F : Nat → Nat → Bool) (s : Stp) : Nat → Nat → Bool := joinF F s.L (fun x => s.B x (fun c => F c x))
def jRound (l : List Stp) (F : Nat → Nat → Bool) : Nat → Nat → Bool := l.foldl stepF F
def colStep (x : Nat) (C : Nat → Bool) (s : Stp) : Nat → Bool := fun a => C a || (a == s.L && s.B x C)
def colRound (l : List Stp) (x : Nat) (C : Nat → Bool) : Nat → Bool := l.foldl (colStep x) C
theorem jRound_col : ∀ (l : List Stp) (F : Nat → Nat → Bool) (c x : Nat), jRound l F c x = colRound l x (fun c => F c x) c
  | [], _, _, _ => rfl
  | s :: l, F, c, x => by
    show jRound l (stepF F s) c x = colRound l x (colStep x (fun c => F c x) s) c
    rw [jRound_col l]; rfl
theorem iterF_col (l : List Stp) (F0 : Nat → Nat → Bool) : ∀ (n c x : Nat), iterF (jRound l) n F0 c x = iter (colRound l x) n (fun c => F0 c x) c
  | 0, _, _ => rfl
  | n + 1, c, x => by
    show jRound l (iterF (jRound l) n F0) c x = colRound l x (iter (colRound l x) n (fun c => F0 c x)) c
    rw [jRound_col, show (fun c => iterF (jRound l) n F0 c x) = iter (colRound l x) n (fun c => F0 c x) from funext fun c => iterF_col l F0 n c x]
theorem col_inf (x : Nat) : ∀ (l : List Stp) (C : Nat → Bool) (a : Nat), C a = true → colRound l x C a = true
  | [], _, _, h => h
  | s :: l, C, a, h => by
    refine col_inf x l (colStep x C s) a ?_
    unfold colStep; rw [h]; rfl
theorem col_new (rs : List Ru) (x : Nat) : ∀ (l : List Stp), (∀ s ∈ l, rset rs s.L = true) → ∀ (C : Nat → Bool) (a : Nat), C a = false → colRound l x C a = true → rset rs a = true
  | [], _, C, a, h1, h2 => by
    have : C a = true := h2
    rw [h1] at this; cases this
  | s :: l, hl, C, a, h1, h2 => by
    have h2' : colRound l x (colStep x C s) a = true := h2
    cases h3 : colStep x C s a
    · exact col_new rs x l (fun s hs => hl s (List.mem_cons_of_mem _ hs)) _ a h3 h2'
    · unfold colStep at h3
      rw [h1, Bool.false_or, Bool.and_eq_true, beq_iff_eq] at h3
      rw [h3.1]; exact hl s (List.mem_cons_self ..)
theorem j_fix (rs : List Ru) (l : List Stp) (hl : ∀ s ∈ l, rset rs s.L = true) (F0 : Nat → Nat → Bool) (c x : Nat) : iterF (jRound l) (rs.length + 1) F0 c x = iterF (jRound l) rs.length F0 c x := by
  rw [iterF_col, iterF_col]
  exact congrFun (fix_rounds rs (colRound l x) (col_inf x l) (col_new rs x l hl) (fun c => F0 c x)) c
theorem iter_stay {f : (Nat → Bool) → (Nat → Bool)} {k : Nat} {S : Nat → Bool} (h : iter f (k + 1) S = iter f k S) : ∀ j, iter f (k + j) S = iter f k S
  | 0 => rfl
  | j + 1 => by
    show f (iter f (k + j) S) = iter f k S
    rw [iter_stay h j]; exact h
theorem j_stable (l : List Stp) (F0 : Nat → Nat → Bool) (k n : Nat) (hk : k ≤ n) (h : ∀ c x, x < 128 → iterF (jRound l) (k + 1) F0 c x = iterF (jRound l) k F0 c x) (c x : Nat) (hx : x < 128) :
    iterF (jRound l) (k + 1) F0 c x = iterF (jRound l) n F0 c x := by
  have hc : iter (colRound l x) (k + 1) (fun c => F0 c x) = iter (colRound l x) k (fun c => F0 c x) := funext fun c => by rw [← iterF_col, ← iterF_col]; exact h c x hx
  rw [iterF_col, iterF_col, hc, show n = k + (n - k) from by omega, iter_stay hc]

/-- has a table grown since? -/
def Grew (F G : Nat → Nat → Bool) (v : Bool) : Prop := (∀ c x, F c x = true → G c x = true) ∧ (v = false → ∀ c x, x < 128 → G c x = F c x) ∧ (v = true → ∃ c x, x < 128 ∧ G c x = true ∧ F c x = false)
theorem Grew.start (F : Nat → Nat → Bool) : Grew F F false := ⟨fun _ _ h => h, fun _ _ _ _ => rfl, fun h => by cases h⟩
theorem Grew.join {F G : Nat → Nat → Bool} {v : Bool} (h : Grew F G v) (L : Nat) (B : Nat → Bool) : Grew F (joinF G L B) (v || anyNew (G L) B 128) := by
  refine ⟨fun c x hx => by unfold joinF; rw [h.1 c x hx]; rfl, fun hv c x hx => ?_, fun hv => ?_⟩
  · rw [Bool.or_eq_false_iff] at hv
    have h1 := h.2.1 hv.1 c x hx
    have h2 := List.any_eq_false.1 hv.2 x (List.mem_range.2 hx)
    unfold joinF
    by_cases e : c = L
    · subst e
      rw [← h1]
      cases hg : G c x
      · have : B x = false := by simpa [hg] using h2
        rw [this]; simp
      · simp
    · rw [h1]; simp [e]
  · rw [Bool.or_eq_true] at hv
    rcases hv with hv | hv
    · obtain ⟨c, x, hx, hg, hf⟩ := h.2.2 hv
      exact ⟨c, x, hx, by unfold joinF; rw [hg]; rfl, hf⟩
    · obtain ⟨x, hx, hb⟩ := List.any_eq_true.1 hv
      simp only [Bool.and_eq_true, Bool.not_eq_true'] at hb
      refine ⟨L, x, List.mem_range.1 hx, by unfold joinF; rw [hb.1]; simp, ?_⟩
      cases hf : F L x
      · rfl
      · rw [h.1 L x hf] at hb; cases hb.2

/-- where the loop stands: so many rounds, and shall there be one more? -/
def Stand (l : List Stp) (F0 : Nat → Nat → Bool) (n k : Nat) (v : Bool) : Prop := (v = true → k ≤ n) ∧ (v = false → ∀ c x, x < 128 → iterF (jRound l) k F0 c x = iterF (jRound l) n F0 c x)
theorem Stand.start (l : List Stp) (F0 : Nat → Nat → Bool) (n : Nat) : Stand l F0 n 0 true := ⟨fun _ => Nat.zero_le _, fun h => by cases h⟩
theorem Stand.next {rs : List Ru} {l : List Stp} {F0 : Nat → Nat → Bool} {k : Nat} {v : Bool} (hl : ∀ s ∈ l, rset rs s.L = true) (h : Stand l F0 rs.length k true)
    (hg : Grew (iterF (jRound l) k F0) (iterF (jRound l) (k + 1) F0) v) : Stand l F0 rs.length (k + 1) v := by
  have hk := h.1 rfl
  refine ⟨fun hv => ?_, fun hv => j_stable l F0 k rs.length hk (hg.2.1 hv)⟩
  obtain ⟨c, x, hx, h1, h2⟩ := hg.2.2 hv
  rcases Nat.lt_or_ge k rs.length with hlt | hge
  · exact hlt
  · have e : k = rs.length := by omega
    subst e
    rw [j_fix rs l hl F0 c x, h2] at h1; cases h1

/-! First sets -/
def begc (N : Nat → Bool) (x : Nat) (C : Nat → Bool) : List Nat → Bool
  | [] => false
  | c :: l => if smallB c then x == c else C c || (hasB N c && begc N x C l)
theorem beg_col (N : Nat → Bool) (F : Nat → Nat → Bool) (x : Nat) : ∀ l, beg N F l x = begc N x (fun c => F c x) l
  | [] => rfl
  | c :: l => by rw [beg, begc, beg_col N F x l]
def ffSteps (N : Nat → Bool) (rs : List Ru) : List Stp := rs.map fun r => ⟨r.L, fun x C => begc N x C (bytes r.R)⟩
theorem ffRound_eq (N : Nat → Bool) (rs : List Ru) : ffRound N rs = jRound (ffSteps N rs) := by
  funext F
  unfold ffRound jRound ffSteps
  rw [List.foldl_map]
  congr 1
  funext F r
  unfold stepF
  congr 1
  funext x
  exact beg_col N F x _
theorem ffSteps_in (N : Nat → Bool) (rs : List Ru) : ∀ s ∈ ffSteps N rs, rset rs s.L = true := fun s hs => by
  obtain ⟨r, hr, rfl⟩ := List.mem_map.1 hs
  exact rset_mem hr

theorem beg_alike {N N' : Nat → Bool} {F F' : Nat → Nat → Bool} (hN : ∀ c, bigB c = true → N c = N' c) {x : Nat} (hF : ∀ c, F c x = F' c x) : ∀ l, beg N F l x = beg N' F' l x
  | [] => rfl
  | c :: l => by
    rw [beg, beg, beg_alike hN hF l, hF c]
    have : hasB N c = hasB N' c := by
      unfold hasB
      cases hb : bigB c
      · rfl
      · rw [hN c hb]
    rw [this]
theorem beg_small {N : Nat → Bool} {F : Nat → Nat → Bool} (hF : ∀ c x, F c x = true → smallB x = true) : ∀ l x, beg N F l x = true → smallB x = true
  | [], _, h => by cases h
  | c :: l, x, h => by
    rw [beg] at h
    split at h
    · have : x = c := by simpa using h
      subst this; assumption
    · rw [Bool.or_eq_true, Bool.and_eq_true] at h
      rcases h with h | h
      · exact hF c x h
      · exact beg_small hF l x h.2
theorem joinF_small {F : Nat → Nat → Bool} {L : Nat} {B : Nat → Bool} (hF : ∀ c x, F c x = true → smallB x = true) (hB : ∀ x, B x = true → smallB x = true) : ∀ c x, joinF F L B c x = true → smallB x = true := fun c x h => by
  unfold joinF at h
  rw [Bool.or_eq_true, Bool.and_eq_true] at h
  rcases h with h | h
  · exact hF c x h
  · exact hB x h.2
theorem ffRound_small (N : Nat → Bool) : ∀ (rs : List Ru) (F : Nat → Nat → Bool), (∀ c x, F c x = true → smallB x = true) → ∀ c x, ffRound N rs F c x = true → smallB x = true
  | [], _, h => h
  | r :: rs, F, h => ffRound_small N rs (joinF F r.L (beg N F (bytes r.R))) (joinF_small h (beg_small h _))
theorem iterF_small (N : Nat → Bool) (rs : List Ru) : ∀ n c x, iterF (ffRound N rs) n (fun _ _ => false) c x = true → smallB x = true
  | 0, _, _, h => by cases h
  | n + 1, c, x, h => ffRound_small N rs _ (iterF_small N rs n) c x h

/-! nulls -/
theorem van_eq0 {S : Nat → Bool} (h : Bigs S) (c : Nat) : vanB S false c = S c := by
  unfold vanB hasB
  cases h1 : S c
  · simp
  · simp [h c h1]
theorem mk_rn_fold (l : List Ru) (hl : ∀ r ∈ l, bigB r.L = true) : ∀ S, Bigs S → mkRound false l S = rnRound l S ∧ Bigs (rnRound l S) := by
  induction l with
  | nil => exact fun S h => ⟨rfl, h⟩
  | cons r l ih =>
    intro S h
    have hr := hl r (List.mem_cons_self ..)
    have e : (bytes r.R).all (vanB S false) = (bytes r.R).all S := by
      rw [show vanB S false = S from funext (van_eq0 h)]
    show mkRound false l (if (bytes r.R).all (vanB S false) then insB S r.L else S) = rnRound l (if (bytes r.R).all S then Go.Proofs.YtkglggkkbmmjkaaGreatDoor.ins S r.L else S) ∧ Bigs (rnRound l (if (bytes r.R).all S then Go.Proofs.YtkglggkkbmmjkaaGreatDoor.ins S r.L else S))
    rw [e, ins_insB hr]
    have hb : Bigs (if (bytes r.R).all S then Go.Proofs.YtkglggkkbmmjkaaGreatDoor.ins S r.L else S) := by
      split
      · exact h.ins hr
      · exact h
    exact ih (fun r hr => hl r (List.mem_cons_of_mem _ hr)) _ hb
theorem mk_rn_iter (rs : List Ru) (hl : ∀ r ∈ rs, bigB r.L = true) (S : Nat → Bool) (hS : Bigs S) : ∀ n, iter (mkRound false rs) n S = iter (rnRound rs) n S ∧ Bigs (iter (rnRound rs) n S)
  | 0 => ⟨rfl, hS⟩
  | n + 1 => by
    obtain ⟨h1, h2⟩ := mk_rn_iter rs hl S hS n
    show mkRound false rs (iter (mkRound false rs) n S) = rnRound rs (iter (rnRound rs) n S) ∧ Bigs (rnRound rs (iter (rnRound rs) n S))
    rw [h1]; exact mk_rn_fold rs hl _ h2
theorem rn_inf (l : List Ru) : ∀ (S : Nat → Bool) (x : Nat), S x = true → rnRound l S x = true := by
  induction l with
  | nil => exact fun _ _ h => h
  | cons r l ih =>
    intro S x h
    show rnRound l (if (bytes r.R).all S then ins S r.L else S) x = true
    apply ih
    split
    · simp [ins, h]
    · exact h
theorem rn_new (l : List Ru) : ∀ (S : Nat → Bool) (x : Nat), S x = false → rnRound l S x = true → rset l x = true := by
  induction l with
  | nil => intro S x h1 h2; exact absurd h2 (by show ¬ S x = true; rw [h1]; simp)
  | cons r l ih =>
    intro S x h1 h2
    have h2' : rnRound l (if (bytes r.R).all S then ins S r.L else S) x = true := h2
    by_cases e : r.L = x
    · simp [rset, e]
    · have : rset l x = true := by
        refine ih _ x ?_ h2'
        split
        · simp only [ins, h1, Bool.false_or, beq_eq_false_iff_ne]; exact fun h => e h.symm
        · exact h1
      unfold rset at this ⊢
      rw [List.any_cons, this, Bool.or_true]
theorem nulls_eq (rs : List Ru) (hl : ∀ r ∈ rs, bigB r.L = true) : iter (rnRound rs) (rs.length + 1) (fun _ => false) = nullS rs := by
  unfold nullS
  rw [(mk_rn_iter rs hl _ (fun _ h => by cases h) rs.length).1]
  exact fix_rounds rs (rnRound rs) (rn_inf rs) (rn_new rs) _
theorem nulls_bigs (rs : List Ru) (hl : ∀ r ∈ rs, bigB r.L = true) : Bigs (nullS rs) := by
  unfold nullS
  rw [(mk_rn_iter rs hl _ (fun _ h => by cases h) rs.length).1]
  exact (mk_rn_iter rs hl _ (fun _ h => by cases h) rs.length).2

end Go.Proofs.YtkglggkkbmmjkaaGreatDoor
