import Derived.Test.YtkglggkkbmmjkaaGreatDoorRFirst
namespace Go.Proofs.YtkglggkkbmmjkaaGreatDoor
open Go.RowKit

/-! What follows a letter: the steps of a round. -/
theorem jRound_append (l l' : List Stp) (F : Nat → Nat → Bool) : jRound (l ++ l') F = jRound l' (jRound l F) := by unfold jRound; rw [List.foldl_append]
theorem colRound_append (l l' : List Stp) (x : Nat) (C : Nat → Bool) : colRound (l ++ l') x C = colRound l' x (colRound l x C) := by unfold colRound; rw [List.foldl_append]

/-- what comes behind place p of a rule's right side -/
def foSet (N : Nat → Bool) (F : Nat → Nat → Bool) (r : Ru) (p : Nat) (M : Nat → Bool) : Nat → Bool := fun x => beg N F ((bytes r.R).drop (p + 1)) x || (((bytes r.R).drop (p + 1)).all (vanB N false) && M x)
def foStp (N : Nat → Bool) (F : Nat → Nat → Bool) (r : Ru) (p : Nat) : Stp := ⟨ch r.R p, fun x C => foSet N F r p (fun _ => C r.L) x⟩
def foRU (N : Nat → Bool) (F : Nat → Nat → Bool) (r : Ru) (p : Nat) : List Stp := (List.range p).flatMap fun k => if bigB (ch r.R k) then [foStp N F r k] else []
def foR (N : Nat → Bool) (F : Nat → Nat → Bool) (r : Ru) : List Stp := foRU N F r r.R.size
def foSteps (N : Nat → Bool) (F : Nat → Nat → Bool) (rs : List Ru) : List Stp := rs.flatMap (foR N F)
theorem foRU_succ (N : Nat → Bool) (F : Nat → Nat → Bool) (r : Ru) (p : Nat) : foRU N F r (p + 1) = foRU N F r p ++ if bigB (ch r.R p) then [foStp N F r p] else [] := by
  unfold foRU
  rw [List.range_succ, List.flatMap_append]
  simp
theorem foRU_big (N : Nat → Bool) (F : Nat → Nat → Bool) (r : Ru) (p : Nat) (h : bigB (ch r.R p) = true) (G : Nat → Nat → Bool) : jRound (foRU N F r (p + 1)) G = joinF (jRound (foRU N F r p) G) (ch r.R p) (foSet N F r p (jRound (foRU N F r p) G r.L)) := by
  rw [foRU_succ, if_pos h, jRound_append]; rfl
theorem foRU_not (N : Nat → Bool) (F : Nat → Nat → Bool) (r : Ru) (p : Nat) (h : bigB (ch r.R p) = false) (G : Nat → Nat → Bool) : jRound (foRU N F r (p + 1)) G = jRound (foRU N F r p) G := by
  rw [foRU_succ, h]; simp
theorem foSteps_succ (N : Nat → Bool) (F : Nat → Nat → Bool) (rs : List Ru) (j : Nat) (h : j < rs.length) (G : Nat → Nat → Bool) : jRound (foSteps N F (rs.take (j + 1))) G = jRound (foR N F rs[j]) (jRound (foSteps N F (rs.take j)) G) := by
  unfold foSteps
  rw [List.take_succ_eq_append_getElem h, List.flatMap_append, jRound_append]
  simp
theorem foSteps_all (N : Nat → Bool) (F : Nat → Nat → Bool) (rs : List Ru) (j : Nat) (h : rs.length ≤ j) (G : Nat → Nat → Bool) : jRound (foSteps N F (rs.take j)) G = jRound (foSteps N F rs) G := by rw [List.take_of_length_le h]

theorem foSteps_mem {N : Nat → Bool} {F : Nat → Nat → Bool} {rs : List Ru} {s : Stp} (h : s ∈ foSteps N F rs) : ∃ r ∈ rs, ∃ p, p < r.R.size ∧ bigB (ch r.R p) = true ∧ s = foStp N F r p := by
  unfold foSteps at h
  obtain ⟨r, hr, h⟩ := List.mem_flatMap.1 h
  unfold foR foRU at h
  obtain ⟨p, hp, h⟩ := List.mem_flatMap.1 h
  split at h
  · exact ⟨r, hr, p, List.mem_range.1 hp, by assumption, by simpa using h⟩
  · cases h

theorem foSet_alike {N : Nat → Bool} {F F' : Nat → Nat → Bool} {x : Nat} (hF : ∀ c, F c x = F' c x) (r : Ru) (p : Nat) (M : Nat → Bool) : foSet N F r p M x = foSet N F' r p M x := by
  unfold foSet
  rw [beg_alike (fun _ _ => rfl) hF]
theorem foRU_alike {N : Nat → Bool} {F F' : Nat → Nat → Bool} {x : Nat} (hF : ∀ c, F c x = F' c x) (r : Ru) : ∀ (p : Nat) (C : Nat → Bool), colRound (foRU N F r p) x C = colRound (foRU N F' r p) x C
  | 0, _ => rfl
  | p + 1, C => by
    rw [foRU_succ, foRU_succ, colRound_append, colRound_append, foRU_alike hF r p C]
    split
    · show colStep x _ (foStp N F r p) = colStep x _ (foStp N F' r p)
      unfold colStep
      rw [show (foStp N F r p).B x = (foStp N F' r p).B x from funext fun D => foSet_alike hF r p (fun _ => D r.L)]; rfl
    · rfl
theorem foSteps_alike {N : Nat → Bool} {F F' : Nat → Nat → Bool} {x : Nat} (hF : ∀ c, F c x = F' c x) : ∀ (rs : List Ru) (C : Nat → Bool), colRound (foSteps N F rs) x C = colRound (foSteps N F' rs) x C
  | [], _ => rfl
  | r :: rs, C => by
    show colRound (foR N F r ++ foSteps N F rs) x C = colRound (foR N F' r ++ foSteps N F' rs) x C
    rw [colRound_append, colRound_append, foSteps_alike hF rs]
    unfold foR
    rw [foRU_alike hF]
theorem fo_iter_alike {N : Nat → Bool} {F F' : Nat → Nat → Bool} {x : Nat} (hF : ∀ c, F c x = F' c x) (rs : List Ru) (G : Nat → Nat → Bool) (n c : Nat) : iterF (jRound (foSteps N F rs)) n G c x = iterF (jRound (foSteps N F' rs)) n G c x := by
  rw [iterF_col, iterF_col, show colRound (foSteps N F rs) x = colRound (foSteps N F' rs) x from funext (foSteps_alike hF rs)]

/-- the start's own set -/
def fo0 (st : Nat) : Nat → Nat → Bool := fun a x => a == st && x == 36
/-- the table of what follows -/
def followT (rs : List Ru) : Nat → Nat → Bool := iterF (jRound (foSteps (nullS rs) (firstT rs) rs)) rs.length (fo0 (stOf rs))

def Sgn (x : Nat) : Prop := x = 36 ∨ smallB x = true
theorem jRound_sgn : ∀ (l : List Stp), (∀ s ∈ l, ∀ x C, s.B x C = true → (∃ a, C a = true) ∨ Sgn x) → ∀ G : Nat → Nat → Bool, (∀ c x, G c x = true → Sgn x) → ∀ c x, jRound l G c x = true → Sgn x
  | [], _, _, h => h
  | s :: l, hl, G, h => by
    refine jRound_sgn l (fun s hs => hl s (List.mem_cons_of_mem _ hs)) (stepF G s) (fun c x hx => ?_)
    unfold stepF joinF at hx
    rw [Bool.or_eq_true, Bool.and_eq_true] at hx
    rcases hx with hx | hx
    · exact h c x hx
    · rcases hl s (List.mem_cons_self ..) x _ hx.2 with ⟨a, ha⟩ | hx
      · exact h a x ha
      · exact hx
theorem iter_sgn (l : List Stp) (hl : ∀ s ∈ l, ∀ x C, s.B x C = true → (∃ a, C a = true) ∨ Sgn x) (G : Nat → Nat → Bool) (h : ∀ c x, G c x = true → Sgn x) : ∀ n c x, iterF (jRound l) n G c x = true → Sgn x
  | 0 => h
  | n + 1 => jRound_sgn l hl _ (iter_sgn l hl G h n)
theorem followT_sgn (rs : List Ru) (c x : Nat) (h : followT rs c x = true) : x = 36 ∨ smallB x = true := by
  refine iter_sgn _ (fun s hs x C hx => ?_) (fo0 (stOf rs)) (fun c x hx => ?_) _ c x h
  · obtain ⟨r, _, p, _, _, rfl⟩ := foSteps_mem hs
    have hx' : foSet (nullS rs) (firstT rs) r p (fun _ => C r.L) x = true := hx
    unfold foSet at hx'
    rw [Bool.or_eq_true, Bool.and_eq_true] at hx'
    rcases hx' with h1 | h1
    · exact Or.inr (Or.inr (beg_small (iterF_small _ _ _) _ x h1))
    · exact Or.inl ⟨r.L, h1.2⟩
  · unfold fo0 at hx
    rw [Bool.and_eq_true] at hx
    exact Or.inl (by simpa using hx.2)

/-- the letters of right sides have rules -/
theorem names_ok {t : ByteArray} (h : (gErr t).1 = 0) : ∀ r ∈ (parse t 8 0 []).1, ∀ c ∈ bytes r.R, bigB c = true → rset (parse t 8 0 []).1 c = true := by
  have hn : names (rset (parse t 8 0 []).1) (parse t 8 0 []).1 = none := by
    unfold gErr at h
    split at h
    · cases h
    split at h
    · cases h
    · cases hn : names (rset (parse t 8 0 []).1) (parse t 8 0 []).1 with
      | none => rfl
      | some k => rw [hn] at h; cases h
  intro r hr c hc hb
  obtain ⟨j, hj, rfl⟩ := List.getElem_of_mem hc
  have hj' : j < r.R.size := by rw [← bytes_len]; exact hj
  have := names_none hn r hr j hj'
  rw [bytes_get] at hb ⊢
  unfold nm hasB at this
  rw [hb] at this
  simpa using this
theorem foSteps_in {t : ByteArray} (h : (gErr t).1 = 0) (N : Nat → Bool) (F : Nat → Nat → Bool) : ∀ s ∈ foSteps N F (parse t 8 0 []).1, rset (parse t 8 0 []).1 s.L = true := fun s hs => by
  obtain ⟨r, hr, p, hp, hb, rfl⟩ := foSteps_mem hs
  refine names_ok h r hr (ch r.R p) ?_ hb
  have hp' : p < (bytes r.R).length := by rw [bytes_len]; exact hp
  rw [← bytes_get r.R p hp']; exact List.getElem_mem hp'

end Go.Proofs.YtkglggkkbmmjkaaGreatDoor
