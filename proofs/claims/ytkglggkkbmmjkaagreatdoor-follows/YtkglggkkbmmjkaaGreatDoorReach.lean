import Derived.Test.YtkglggkkbmmjkaaGreatDoorSets
namespace Go.Proofs.YtkglggkkbmmjkaaGreatDoor
open Go.RowKit

theorem setF_addAll : ∀ (l : List Nat) (f : Nat → Value) (S : Nat → Bool), (∀ i, i < 26 → f i = setF S i) → ∀ i, i < 26 → addAllF f 0 l i = setF (l.foldl insB S) i
  | [], f, S, h, i, hi => h i hi
  | c :: l, f, S, h, i, hi => by
    show addAllF (addF f 0 c) 0 l i = setF (l.foldl insB (insB S c)) i
    refine setF_addAll l (addF f 0 c) (insB S c) (fun j hj => ?_) i hi
    rw [← setF_add S c j hj]
    unfold addF
    split
    · unfold upd; split
      · rfl
      · exact h j hj
    · exact h j hj

/-- one round of reachedLetters -/
def rdRound (rs : List Ru) (S : Nat → Bool) : Nat → Bool := rs.foldl (fun S r => if hasB S r.L then (bytes r.R).foldl insB S else S) S
def rdUpTo (rs : List Ru) (j : Nat) (S : Nat → Bool) : Nat → Bool := rdRound (rs.take j) S
theorem rdUpTo_succ (rs : List Ru) (j : Nat) (S : Nat → Bool) (h : j < rs.length) :
    rdUpTo rs (j + 1) S = if hasB (rdUpTo rs j S) rs[j].L then (bytes rs[j].R).foldl insB (rdUpTo rs j S) else rdUpTo rs j S := by
  unfold rdUpTo rdRound
  rw [List.take_succ_eq_append_getElem h, List.foldl_append]; rfl
theorem rdUpTo_all (rs : List Ru) (j : Nat) (S : Nat → Bool) (h : rs.length ≤ j) : rdUpTo rs j S = rdRound rs S := by
  unfold rdUpTo; rw [List.take_of_length_le h]
theorem GAt.c1 {w : World} {b q cap : Nat} {rs : List Ru} {N : Nat → Bool} {F : Nat → Nat → Bool} {e p : Int} (h : GAt w b q cap rs N F e p) : w.cell? ⟨b, 1, none⟩ = some (.int .u8 (stOf rs)) := h.blk.cell 1 (by omega)

set_option maxHeartbeats 1600000 in
theorem p_reachedLetters (b q cap : Nat) (rs : List Ru) (N : Nat → Bool) (F : Nat → Nat → Bool) (e p : Int) (w : World) (h : GAt w b q cap rs N F e p) :
    Calls Tryz.prog 112 #[.pointer (some ⟨b, 0, none⟩)] w fun e' w' => e' = .returned (Agg 26 (setF (iter (rdRound rs) rs.length (insB (fun _ => false) (stOf rs))))) ∧ Fr [] w w' := by
  have H := hide h
  have hlen := h.len
  clear h
  go_enter Tryz.func112, Tryz.ntmps112
  go_wp2_with (first | (refine wpList_alloc_blk rfl 45 rfl (some 2) rfl 26 _ Tryz.zeroBig ?_; intro w1 hf1 hs1 hB1; have HA := hide (And.intro hf1 (And.intro hs1 hB1)); clear hf1 hs1 hB1) | (refine wpList_alloc_blk rfl 45 rfl (some 3) rfl 26 _ Tryz.zeroBig ?_; intro w2 hf2 hs2 hB2; have HB := hide (And.intro hf2 (And.intro hs2 hB2)); clear hf2 hs2 hB2; have HS := hide (show LS w w2 b q cap rs N F e p w.heap.size w1.heap.size (fun _ => false) from ⟨(unhide HA).1.trans0 (unhide HB).1, ((unhide H).fr0 (unhide HA).1).fr0 (unhide HB).1, (unhide HA).2.2.fr0 (unhide HB).1, (unhide HB).2.2, Nat.le_refl _, by have := (unhide HA).2.1; omega, (unhide H).lt, (unhide H).blk.lt⟩); clear HA HB H; have c0 := (unhide HS).2.1.c1) | (go_at_call 114; refine (p_add _ _ _ 26 _ _ (by exact (unhide HS).2.2.2.1) (by omega)).mono ?_; rintro e w4 ⟨rfl, hf4⟩))
  have HS4 := hide ((unhide HS).add hf4.1 hf4.2.2)
  clear hf4 HS c0
  go_loopw [4] (fun r wr => ∃ k : Nat, k ≤ rs.length ∧ r = .int .i64 k ∧ Hid (LS w wr b q cap rs N F e p w.heap.size w1.heap.size (iter (rdRound rs) k (insB (fun _ => false) (stOf rs))))) (fun r _ => rs.length - (intOf r).toNat)
  case atStart => exact ⟨0, by omega, rfl, HS4⟩
  case round =>
    obtain ⟨k, hk, rfl, hs⟩ := hrel
    have c0 := (unhide hs).2.1.c0
    by_cases hlt : k < rs.length
    · go_wp2
      clear c0
      go_loopw [5] (fun i wr2 => ∃ j : Nat, j ≤ rs.length ∧ i = .int .i64 j ∧ Hid (LS w wr2 b q cap rs N F e p w.heap.size w1.heap.size (rdUpTo rs j (iter (rdRound rs) k (insB (fun _ => false) (stOf rs)))))) (fun i _ => rs.length - (intOf i).toNat)
      case atStart => exact ⟨0, by omega, rfl, hs⟩
      case round =>
        obtain ⟨j, hj, rfl, hs2⟩ := hrel
        have c0 := (unhide hs2).2.1.c0
        by_cases hjt : j < rs.length
        · obtain ⟨a0, a1, a2⟩ := (unhide hs2).2.1.ru j hjt
          have hsm := ((unhide hs2).2.1.small j hjt).1
          have HX := hide ((unhide hs2).fr ((Fr.refl _ _).alloc (.cells #[.int .u8 rs[j].L, .string rs[j].R, .int .i64 rs[j].A] 166)))
          have HU := hide (rdUpTo_succ rs j (iter (rdRound rs) k (insB (fun _ => false) (stOf rs))) hjt)
          cases hv : hasB (rdUpTo rs j (iter (rdRound rs) k (insB (fun _ => false) (stOf rs)))) rs[j].L
          · have HN := hide (show rdUpTo rs (j + 1) (iter (rdRound rs) k (insB (fun _ => false) (stOf rs))) = rdUpTo rs j (iter (rdRound rs) k (insB (fun _ => false) (stOf rs))) from by rw [unhide HU, hv]; rfl)
            clear HU
            go_wp2_with (go_at_call 110; refine (p_has _ _ _ _ _ (by exact (unhide HX).2.2.2.1.setAt0)).mono ?_; rintro e w' ⟨rfl, rfl⟩)
            go_roundw
            case rel => exact ⟨j + 1, by omega, by go_num, hide (by rw [unhide HN]; exact unhide HX)⟩
            case measure => simp [intOf]; omega
          · have HN := hide (show rdUpTo rs (j + 1) (iter (rdRound rs) k (insB (fun _ => false) (stOf rs))) = (bytes rs[j].R).foldl insB (rdUpTo rs j (iter (rdRound rs) k (insB (fun _ => false) (stOf rs)))) from by rw [unhide HU, hv]; rfl)
            clear HU
            go_wp2_with (first | (go_at_call 110; refine (p_has _ _ _ _ _ (by exact (unhide HX).2.2.2.1.setAt0)).mono ?_; rintro e w' ⟨rfl, rfl⟩) | (go_at_call 137; refine (p_addBigLetters _ _ _ 26 _ _ hsm (by exact (unhide HX).2.2.2.1) (by omega)).mono ?_; rintro e w3 ⟨rfl, hf3⟩))
            have HY := hide ((unhide HX).put hf3.1 (hf3.2.2.congr fun i hi => setF_addAll _ _ _ (fun _ _ => rfl) i hi))
            clear hf3
            go_roundw
            case rel => exact ⟨j + 1, by omega, by go_num, hide (by rw [unhide HN]; exact unhide HY)⟩
            case measure => simp [intOf]; omega
        · have HY := hide (show LS w wr b q cap rs N F e p w.heap.size w1.heap.size (iter (rdRound rs) (k + 1) (insB (fun _ => false) (stOf rs))) from by
            have := unhide hs2
            rw [rdUpTo_all _ _ _ (by omega)] at this; exact this)
          clear hs2
          go_wp2
          go_roundw
          case rel => exact ⟨k + 1, by omega, by go_num, HY⟩
          case measure => simp [intOf]; omega
    · have HK : Hid (k = rs.length) := hide (by omega)
      go_wp2_with (first | (refine wpList_load_blk rfl 45 _ rfl (some 43) rfl _ 0 26 26 _ _ rfl (by exact (unhide hs).2.2.2.1) Tryz.underlying45 rfl Tryz.sizeBig (by omega) ?_) | (refine wpList_store_blk rfl 45 _ _ rfl _ 0 26 26 _ _ rfl rfl (by exact (unhide hs).2.2.1) Tryz.sizeBig (by omega) (by intro i hi; rfl) ?_; intro w5 hf5 hs5 hB5))
      exact bodyPost_ret (results_cell Tryz.results112 _ w.heap.size rfl 26 26 _ _ (hB5.congr fun i hi => lay_all _ _ _ i hi) Tryz.underlying45 rfl Tryz.sizeBig (by omega)) rfl ⟨by rw [← unhide HK], (unhide hs).1.trans1 hf5 (Or.inr (Nat.le_refl _))⟩
end Go.Proofs.YtkglggkkbmmjkaaGreatDoor
