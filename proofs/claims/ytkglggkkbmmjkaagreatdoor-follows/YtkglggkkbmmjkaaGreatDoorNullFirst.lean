import Derived.Test.YtkglggkkbmmjkaaGreatDoorLists
namespace Go.Proofs.YtkglggkkbmmjkaaGreatDoor
open Go.RowKit

def nullOf (t s : ByteArray) : Bool := if wErr t s = 0 then (bytes s).all (vanB (nullS (parse t 8 0 []).1) false) else false
def firstOfW (t s : ByteArray) : ByteArray := if wErr t s = 0 then lst (beg (nullS (parse t 8 0 []).1) (firstT (parse t 8 0 []).1) (bytes s)) else ⟨#[]⟩

theorem word_let {rs : List Ru} {s : ByteArray} (h : (bytes s).all (wordB rs) = true) : ∀ i, i < s.size → letB (ch s i) = true := fun i hi => by
  have hi' : i < (bytes s).length := by rw [bytes_len]; exact hi
  have := List.all_eq_true.1 h _ (List.getElem_mem hi')
  rw [bytes_get] at this
  simp only [wordB, hasB, Bool.or_eq_true, Bool.and_eq_true] at this
  simp only [letB, Bool.or_eq_true]
  rcases this with h | h
  · exact Or.inr h
  · exact Or.inl h.1

/-- the grammar that was read, laid into a variable of the caller's -/
theorem gat_of_word {t s : ByteArray} {w w1 w2 w3 : World} {f : Nat → Value} {z : Nat → Value} (h : WordOut t s w w1 f) (h0 : wErr t s = 0) (hf2 : Fr [] w1 w2) (hf3 : Fr [w1.heap.size] w2 w3) (hB : Blk w3 w1.heap.size 758 (lay z 0 758 f)) :
    ∃ q cap, GAt w3 w1.heap.size q cap (parse t 8 0 []).1 (nullS (parse t 8 0 []).1) (firstT (parse t 8 0 []).1) 0 0 := by
  obtain ⟨_, ht, _, _, _, q, cap, hf, hru, hq1, hq2⟩ := h.2.2.2 h0
  refine ⟨q, cap, by rw [← hf]; exact hB.congr fun i hi => lay_all _ _ _ i hi, (hru.fr hf2 (by simp) hq2).fr hf3 (by simp; omega) (Nat.lt_of_lt_of_le hq2 hf2.size), by omega, Nat.lt_of_lt_of_le hq2 (Nat.le_trans hf2.size hf3.size), (parse_small t ht).1, (parse_small t ht).2⟩

set_option maxHeartbeats 1000000 in
theorem p_Null (t s : ByteArray) (w : World) (ht : t.size ≤ 9223372036854775807) (hm : s.size ≤ 9223372036854775807) :
    Calls Tryz.prog 25 #[.string t, .string s] w fun e w' => e = .returned (.tuple #[.bool (nullOf t s), .int .i64 (wErr t s)]) ∧ Fr [] w w' := by
  by_cases h0 : wErr t s = 0
  · have hb : ((((wErr t s : Nat) : Int)) != 0) = false := by simp; omega
    have H0 := hide h0
    have HN := hide (show nullOf t s = (bytes s).all (vanB (nullS (parse t 8 0 []).1) false) from by unfold nullOf; rw [if_pos h0])
    clear h0
    go_enter Tryz.func25, Tryz.ntmps25
    go_wp2_with (first
      | (go_at_call 66; refine (p_readWithWord t s _ ht hm).mono ?_; rintro e w1 ⟨f, rfl, hg⟩; have HG := hide hg; clear hg)
      | (refine wpList_alloc_blk rfl 53 rfl (some 6) rfl 758 _ Tryz.zeroGram ?_; intro w2 hf2 hs2 hB2; have HF2 := hide hf2; have HB2 := hide hB2; clear hf2 hs2 hB2)
      | (refine wpList_store_blk rfl 53 (.tmp 6) (.tmp 9) rfl w1.heap.size 0 758 758 (gF (.slice none 0 0) 0 (fun _ => false) (fun _ => false) (fun _ _ => false) 0 0) f rfl rfl (by exact unhide HB2) Tryz.sizeGram (by omega) (by exact (unhide HG).2.1) ?_; intro w3 hf3 hs3 hB3; obtain ⟨q, cap, hg3⟩ := gat_of_word (unhide HG) (unhide H0) (unhide HF2) hf3 hB3; have HG3 := hide hg3; have HF3 := hide hf3; have c6 := (hB3.cell 756 (by omega)).trans (congrArg some ((lay_all _ _ _ _ (by omega)).trans (unhide HG).2.2.1)); clear hf3 hs3 hB3 hg3)
      | (go_at_call 67; refine (p_isNull w1.heap.size q cap (parse t 8 0 []).1 _ _ 0 0 s _ (by exact unhide HG3) (by have := ((unhide HG).2.2.2 (unhide H0)).1; omega)).mono ?_; rintro e w4 ⟨rfl, rfl⟩))
    go_ret2
    exact ⟨by rw [unhide HN, unhide H0]; rfl, ((unhide HG).1.trans0 (unhide HF2)).trans1 (unhide HF3) (Or.inr (unhide HG).1.size)⟩
  · have hb : ((((wErr t s : Nat) : Int)) != 0) = true := by rw [bne_iff_ne]; omega
    have HN := hide (show nullOf t s = false from by unfold nullOf; rw [if_neg h0])
    clear h0
    go_enter Tryz.func25, Tryz.ntmps25
    go_wp2_with (first
      | (go_at_call 66; refine (p_readWithWord t s _ ht hm).mono ?_; rintro e w1 ⟨f, rfl, hg⟩; have HG := hide hg; clear hg)
      | (refine wpList_alloc_blk rfl 53 rfl (some 6) rfl 758 _ Tryz.zeroGram ?_; intro w2 hf2 hs2 hB2; have HF2 := hide hf2; have HB2 := hide hB2; clear hf2 hs2 hB2)
      | (refine wpList_store_blk rfl 53 (.tmp 6) (.tmp 9) rfl w1.heap.size 0 758 758 (gF (.slice none 0 0) 0 (fun _ => false) (fun _ => false) (fun _ _ => false) 0 0) f rfl rfl (by exact unhide HB2) Tryz.sizeGram (by omega) (by exact (unhide HG).2.1) ?_; intro w3 hf3 hs3 hB3; have HF3 := hide hf3; have c6 := (hB3.cell 756 (by omega)).trans (congrArg some ((lay_all _ _ _ _ (by omega)).trans (unhide HG).2.2.1)); clear hf3 hs3 hB3))
    go_quiet (fail)
    go_wp2
    go_ret2
    exact ⟨by rw [unhide HN]; rfl, (((unhide HG).1.trans0 (unhide HF2)).trans1 (unhide HF3) (Or.inr (unhide HG).1.size)).trans0 (fr_drewN _ _)⟩

set_option maxHeartbeats 1000000 in
theorem p_First (t s : ByteArray) (w : World) (ht : t.size ≤ 9223372036854775807) (hm : s.size ≤ 9223372036854775807) :
    Calls Tryz.prog 27 #[.string t, .string s] w fun e w' => e = .returned (.tuple #[.string (firstOfW t s), .int .i64 (wErr t s)]) ∧ Fr [] w w' := by
  by_cases h0 : wErr t s = 0
  · have hb : ((((wErr t s : Nat) : Int)) != 0) = false := by simp; omega
    have H0 := hide h0
    have HN := hide (show firstOfW t s = lst (beg (nullS (parse t 8 0 []).1) (firstT (parse t 8 0 []).1) (bytes s)) from by unfold firstOfW; rw [if_pos h0])
    clear h0
    go_enter Tryz.func27, Tryz.ntmps27
    go_wp2_with (first
      | (go_at_call 66; refine (p_readWithWord t s _ ht hm).mono ?_; rintro e w1 ⟨f, rfl, hg⟩; have HG := hide hg; clear hg)
      | (refine wpList_alloc_blk rfl 53 rfl (some 6) rfl 758 _ Tryz.zeroGram ?_; intro w2 hf2 hs2 hB2; have HF2 := hide hf2; have HB2 := hide hB2; clear hf2 hs2 hB2)
      | (refine wpList_store_blk rfl 53 (.tmp 6) (.tmp 10) rfl w1.heap.size 0 758 758 (gF (.slice none 0 0) 0 (fun _ => false) (fun _ => false) (fun _ _ => false) 0 0) f rfl rfl (by exact unhide HB2) Tryz.sizeGram (by omega) (by exact (unhide HG).2.1) ?_; intro w3 hf3 hs3 hB3; obtain ⟨q, cap, hg3⟩ := gat_of_word (unhide HG) (unhide H0) (unhide HF2) hf3 hB3; have HG3 := hide hg3; have HF3 := hide (((unhide HG).1.trans0 (unhide HF2)).trans1 hf3 (Or.inr (unhide HG).1.size)); have c6 := (hB3.cell 756 (by omega)).trans (congrArg some ((lay_all _ _ _ _ (by omega)).trans (unhide HG).2.2.1)); clear hf3 hs3 hB3 hg3)
      | (go_at_call 71; refine (p_firstOf w1.heap.size q cap (parse t 8 0 []).1 _ _ 0 0 s _ (by exact unhide HG3) (by have := ((unhide HG).2.2.2 (unhide H0)).1; omega) (word_let ((unhide HG).2.2.2 (unhide H0)).2.2.2.2.1)).mono ?_; rintro e w4 ⟨rfl, hf4⟩; have HF4 := hide ((unhide HF3).trans0 hf4); clear hf4)
      | (refine wpList_alloc_blk rfl 48 rfl (some 7) rfl 27 _ Tryz.zeroSign ?_; intro w5 hf5 hs5 hB5; have HF5 := hide ((unhide HF4).trans0 hf5); have HB5 := hide hB5; clear hf5 hs5 hB5)
      | (refine wpList_store_blk rfl 48 (.tmp 7) (.tmp 17) rfl w4.heap.size 0 27 27 (sgF fun _ => false) (sgF (beg (nullS (parse t 8 0 []).1) (firstT (parse t 8 0 []).1) (bytes s))) rfl rfl (by exact unhide HB5) Tryz.sizeSign (by omega) (by intro i hi; rfl) ?_; intro w6 hf6 hs6 hB6; have HF6 := hide ((unhide HF5).trans1 hf6 (Or.inr (unhide HF4).size)); have HB6 := hide (hB6.congr fun i hi => lay_all _ _ _ i hi); clear hf6 hs6 hB6)
      | (go_at_call 52; refine (p_list w4.heap.size _ _ (by exact unhide HB6)).mono ?_; rintro e w7 ⟨rfl, hf7⟩; have HF7 := hide ((unhide HF6).trans0 hf7); clear hf7))
    go_ret2
    exact ⟨by rw [unhide HN, unhide H0]; rfl, unhide HF7⟩
  · have hb : ((((wErr t s : Nat) : Int)) != 0) = true := by rw [bne_iff_ne]; omega
    have HN := hide (show firstOfW t s = ⟨#[]⟩ from by unfold firstOfW; rw [if_neg h0])
    clear h0
    go_enter Tryz.func27, Tryz.ntmps27
    go_wp2_with (first
      | (go_at_call 66; refine (p_readWithWord t s _ ht hm).mono ?_; rintro e w1 ⟨f, rfl, hg⟩; have HG := hide hg; clear hg)
      | (refine wpList_alloc_blk rfl 53 rfl (some 6) rfl 758 _ Tryz.zeroGram ?_; intro w2 hf2 hs2 hB2; have HF2 := hide hf2; have HB2 := hide hB2; clear hf2 hs2 hB2)
      | (refine wpList_store_blk rfl 53 (.tmp 6) (.tmp 10) rfl w1.heap.size 0 758 758 (gF (.slice none 0 0) 0 (fun _ => false) (fun _ => false) (fun _ _ => false) 0 0) f rfl rfl (by exact unhide HB2) Tryz.sizeGram (by omega) (by exact (unhide HG).2.1) ?_; intro w3 hf3 hs3 hB3; have HF3 := hide hf3; have c6 := (hB3.cell 756 (by omega)).trans (congrArg some ((lay_all _ _ _ _ (by omega)).trans (unhide HG).2.2.1)); clear hf3 hs3 hB3))
    go_quiet (fail)
    go_wp2
    go_ret2
    exact ⟨by rw [unhide HN]; rfl, (((unhide HG).1.trans0 (unhide HF2)).trans1 (unhide HF3) (Or.inr (unhide HG).1.size)).trans0 (fr_drewN _ _)⟩

end Go.Proofs.YtkglggkkbmmjkaaGreatDoor
