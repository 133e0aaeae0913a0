import Derived.Test.YtkglggkkbmmjkaaGreatDoorFollow3
namespace Go.Proofs.YtkglggkkbmmjkaaGreatDoor
open Go.RowKit

/-- what is wrong with a letter that Follow is asked of; its answer -/
def fErr (t s : ByteArray) : Nat := if wErr t s ≠ 0 then wErr t s else if s.size = 1 ∧ bigB (ch s 0) = true then 0 else 5
def followOf (t s : ByteArray) : ByteArray := if fErr t s = 0 then lst (followT (parse t 8 0 []).1 (ch s 0)) else ⟨#[]⟩

theorem parse_ruOk (t : ByteArray) : RuOk (parse t 8 0 []).1 := fun i h =>
  ⟨((parse_good t 8 0 [] (by simp)).1 _ (List.getElem_mem h)).1, ((parse_good t 8 0 [] (by simp)).1 _ (List.getElem_mem h)).2.2.2⟩
theorem parse_st (t : ByteArray) (h : (parse t 8 0 []).2.2 = true) : bigB (stOf (parse t 8 0 []).1) = true := by
  have hpos := (parse_good t 8 0 [] (by simp)).2.2 h
  have hl := parse_big t
  generalize (parse t 8 0 []).1 = rs at *
  cases rs with
  | nil => simp at hpos
  | cons r l => exact hl r (List.mem_cons_self ..)

set_option maxHeartbeats 1600000 in
theorem p_Follow_bad (t s : ByteArray) (w : World) (ht : t.size ≤ 9223372036854775807) (hm : s.size ≤ 9223372036854775807) (h0 : wErr t s ≠ 0) :
    Calls Tryz.prog 29 #[.string t, .string s] w fun e w' => e = .returned (.tuple #[.string ⟨#[]⟩, .int .i64 (wErr t s)]) ∧ Fr [] w w' := by
  have hb : ((((wErr t s : Nat) : Int)) != 0) = true := by rw [bne_iff_ne]; omega
  clear h0
  go_enter Tryz.func29, Tryz.ntmps29
  go_wp2_with (first
    | (go_at_call 66; refine (p_readWithWord t s _ ht hm).mono ?_; rintro e w1 ⟨f, rfl, hg⟩; have HG := hide hg; clear hg)
    | (refine wpList_alloc_blk rfl 53 rfl (some 6) rfl 758 _ Tryz.zeroGram ?_; intro w2 hf2 hs2 hB2; have HF2 := hide hf2; have HB2 := hide hB2; clear hf2 hs2 hB2)
    | (refine wpList_store_blk rfl 53 (.tmp 6) (.tmp 11) rfl w1.heap.size 0 758 758 (gF (.slice none 0 0) 0 (fun _ => false) (fun _ => false) (fun _ _ => false) 0 0) f rfl rfl (by exact unhide HB2) Tryz.sizeGram (by omega) (by exact (unhide HG).2.1) ?_; intro w3 hf3 hs3 hB3; have HF3 := hide hf3; have c6 := (hB3.cell 756 (by omega)).trans (congrArg some ((lay_all _ _ _ _ (by omega)).trans (unhide HG).2.2.1)); clear hf3 hs3 hB3))
  go_quiet (fail)
  go_wp2
  go_ret2
  exact ⟨rfl, (((unhide HG).1.trans0 (unhide HF2)).trans1 (unhide HF3) (Or.inr (unhide HG).1.size)).trans0 (fr_drewN _ _)⟩

set_option maxHeartbeats 1600000 in
theorem p_Follow_not (t s : ByteArray) (w : World) (ht : t.size ≤ 9223372036854775807) (hm : s.size ≤ 9223372036854775807) (h0 : wErr t s = 0) (h1 : ¬ (s.size = 1 ∧ bigB (ch s 0) = true)) :
    Calls Tryz.prog 29 #[.string t, .string s] w fun e w' => e = .returned (.tuple #[.string ⟨#[]⟩, .int .i64 5]) ∧ Fr [] w w' := by
  have hb : ((((wErr t s : Nat) : Int)) != 0) = false := by simp; omega
  have H0 := hide h0
  by_cases hs1 : s.size = 1
  · have hbig : bigB s[0].toNat = false := by
      rw [← ch_eq s 0 (by omega)]
      cases h : bigB (ch s 0)
      · rfl
      · exact absurd ⟨hs1, h⟩ h1
    have e0 : ((s.size : Int) != 1) = false := by rw [hs1]; rfl
    have l0 : 0 < s.size := by omega
    clear h0 h1
    go_enter Tryz.func29, Tryz.ntmps29
    go_wp2_with (first
      | (go_at_call 66; refine (p_readWithWord t s _ ht hm).mono ?_; rintro e w1 ⟨f, rfl, hg⟩; have HG := hide hg; clear hg)
      | (refine wpList_alloc_blk rfl 53 rfl (some 6) rfl 758 _ Tryz.zeroGram ?_; intro w2 hf2 hs2 hB2; have HF2 := hide hf2; have HB2 := hide hB2; clear hf2 hs2 hB2)
      | (refine wpList_store_blk rfl 53 (.tmp 6) (.tmp 11) rfl w1.heap.size 0 758 758 (gF (.slice none 0 0) 0 (fun _ => false) (fun _ => false) (fun _ _ => false) 0 0) f rfl rfl (by exact unhide HB2) Tryz.sizeGram (by omega) (by exact (unhide HG).2.1) ?_; intro w3 hf3 hs3 hB3; have HF3 := hide hf3; have c6 := (hB3.cell 756 (by omega)).trans (congrArg some ((lay_all _ _ _ _ (by omega)).trans (unhide HG).2.2.1)); clear hf3 hs3 hB3)
      | (go_at_call 74; refine (p_isBig_no _ _ hbig).mono ?_; rintro e w' ⟨rfl, rfl⟩))
    go_ret2
    exact ⟨rfl, ((unhide HG).1.trans0 (unhide HF2)).trans1 (unhide HF3) (Or.inr (unhide HG).1.size)⟩
  · have e0 : ((s.size : Int) != 1) = true := by rw [bne_iff_ne]; omega
    clear h0 h1
    go_enter Tryz.func29, Tryz.ntmps29
    go_wp2_with (first
      | (go_at_call 66; refine (p_readWithWord t s _ ht hm).mono ?_; rintro e w1 ⟨f, rfl, hg⟩; have HG := hide hg; clear hg)
      | (refine wpList_alloc_blk rfl 53 rfl (some 6) rfl 758 _ Tryz.zeroGram ?_; intro w2 hf2 hs2 hB2; have HF2 := hide hf2; have HB2 := hide hB2; clear hf2 hs2 hB2)
      | (refine wpList_store_blk rfl 53 (.tmp 6) (.tmp 11) rfl w1.heap.size 0 758 758 (gF (.slice none 0 0) 0 (fun _ => false) (fun _ => false) (fun _ _ => false) 0 0) f rfl rfl (by exact unhide HB2) Tryz.sizeGram (by omega) (by exact (unhide HG).2.1) ?_; intro w3 hf3 hs3 hB3; have HF3 := hide hf3; have c6 := (hB3.cell 756 (by omega)).trans (congrArg some ((lay_all _ _ _ _ (by omega)).trans (unhide HG).2.2.1)); clear hf3 hs3 hB3))
    go_ret2
    exact ⟨rfl, ((unhide HG).1.trans0 (unhide HF2)).trans1 (unhide HF3) (Or.inr (unhide HG).1.size)⟩

set_option maxRecDepth 100000 in
set_option maxHeartbeats 1600000 in
theorem p_Follow_good (t s : ByteArray) (w : World) (ht : t.size ≤ 9223372036854775807) (hm : s.size ≤ 9223372036854775807) (h0 : wErr t s = 0) (hs1 : s.size = 1) (hbg : bigB (ch s 0) = true) :
    Calls Tryz.prog 29 #[.string t, .string s] w fun e w' => e = .returned (.tuple #[.string (lst (followT (parse t 8 0 []).1 (ch s 0))), .int .i64 0]) ∧ Fr [] w w' := by
  have hb : ((((wErr t s : Nat) : Int)) != 0) = false := by simp; omega
  have H0 := hide h0
  have HC := hide (ch_eq s 0 (by omega))
  have hbig : bigB s[0].toNat = true := by rw [← ch_eq s 0 (by omega)]; exact hbg
  have e0 : ((s.size : Int) != 1) = false := by rw [hs1]; rfl
  have l0 : 0 < s.size := by omega
  obtain ⟨G, hG⟩ : ∃ G, iterF (jRound (foSteps (nullS (parse t 8 0 []).1) (firstT (parse t 8 0 []).1) (parse t 8 0 []).1)) (parse t 8 0 []).1.length (fo0 (stOf (parse t 8 0 []).1)) = G := ⟨_, rfl⟩
  have HG0 := hide hG
  clear h0 hbg hG
  go_enter Tryz.func29, Tryz.ntmps29
  go_wp2_with (first
    | (go_at_call 66; refine (p_readWithWord t s _ ht hm).mono ?_; rintro e w1 ⟨f, rfl, hg⟩; have HG := hide hg; clear hg)
    | (refine wpList_alloc_blk rfl 53 rfl (some 6) rfl 758 _ Tryz.zeroGram ?_; intro w2 hf2 hs2 hB2; have HF2 := hide hf2; have HB2 := hide hB2; clear hf2 hs2 hB2)
    | (refine wpList_store_blk rfl 53 (.tmp 6) (.tmp 11) rfl w1.heap.size 0 758 758 (gF (.slice none 0 0) 0 (fun _ => false) (fun _ => false) (fun _ _ => false) 0 0) f rfl rfl (by exact unhide HB2) Tryz.sizeGram (by omega) (by exact (unhide HG).2.1) ?_; intro w3 hf3 hs3 hB3; obtain ⟨q, cap, hg3⟩ := gat_of_word (unhide HG) (unhide H0) (unhide HF2) hf3 hB3; have HG3 := hide hg3; have HF3 := hide (((unhide HG).1.trans0 (unhide HF2)).trans1 hf3 (Or.inr (unhide HG).1.size)); have c6 := (hB3.cell 756 (by omega)).trans (congrArg some ((lay_all _ _ _ _ (by omega)).trans (unhide HG).2.2.1)); clear hf3 hs3 hB3 hg3)
    | (go_at_call 74; refine (p_isBig_is _ true _ hbig).mono ?_; rintro e w' ⟨rfl, rfl⟩)
    | (go_at_call 75; refine (p_followTable w1.heap.size q cap (parse t 8 0 []).1 _ _ 0 0 _ (by exact unhide HG3) (parse_ruOk t) (parse_st t ((unhide HG).2.2.2 (unhide H0)).2.2.2.1)).mono ?_; rintro e w4 ⟨rfl, hf4⟩; rw [unhide HG0]; have HF4 := hide ((unhide HF3).trans0 hf4); clear hf4)
    | (refine wpList_alloc_blk rfl 51 rfl (some 7) rfl 702 _ Tryz.zeroTab ?_; intro w5 hf5 hs5 hB5; have HF5 := hide ((unhide HF4).trans0 hf5); have HB5 := hide hB5; clear hf5 hs5 hB5)
    | (refine wpList_store_blk rfl 51 (.tmp 7) (.tmp 26) rfl w4.heap.size 0 702 702 (ftF fun _ _ => false) (ftF G) rfl rfl (by exact unhide HB5) Tryz.sizeTab (by omega) (by intro i hi; rfl) ?_; intro w6 hf6 hs6 hB6; have HF6 := hide ((unhide HF5).trans1 hf6 (Or.inr (unhide HF4).size)); have HB6 := hide (hB6.congr (g := ftF G) fun i hi => lay_all _ _ _ i hi); clear hf6 hs6 hB6)
    | (go_at_call 76; refine (p_getT w4.heap.size s[0].toNat G _ (by exact unhide HB6) hbig).mono ?_; rintro e w7 ⟨rfl, hf7⟩; have HF7 := hide ((unhide HF6).trans0 hf7); clear hf7)
    | (refine wpList_alloc_blk rfl 48 rfl (some 8) rfl 27 _ Tryz.zeroSign ?_; intro w8 hf8 hs8 hB8; have HF8 := hide ((unhide HF7).trans0 hf8); have HB8 := hide hB8; clear hf8 hs8 hB8)
    | (refine wpList_store_blk rfl 48 (.tmp 8) (.tmp 29) rfl w7.heap.size 0 27 27 (sgF fun _ => false) (sgF (G s[0].toNat)) rfl rfl (by exact unhide HB8) Tryz.sizeSign (by omega) (by intro i hi; rfl) ?_; intro w9 hf9 hs9 hB9; have HF9 := hide ((unhide HF8).trans1 hf9 (Or.inr (unhide HF7).size)); have HB9 := hide (hB9.congr (g := sgF (G s[0].toNat)) fun i hi => lay_all _ _ _ i hi); clear hf9 hs9 hB9)
    | (go_at_call 52; refine (p_list w7.heap.size _ _ (by exact unhide HB9)).mono ?_; rintro e w10 ⟨rfl, hf10⟩; have HF10 := hide ((unhide HF9).trans0 hf10); clear hf10))
  go_ret2
  exact ⟨by rw [unhide HC, ← unhide HG0]; rfl, unhide HF10⟩

theorem p_Follow (t s : ByteArray) (w : World) (ht : t.size ≤ 9223372036854775807) (hm : s.size ≤ 9223372036854775807) :
    Calls Tryz.prog 29 #[.string t, .string s] w fun e w' => e = .returned (.tuple #[.string (followOf t s), .int .i64 (fErr t s)]) ∧ Fr [] w w' := by
  by_cases h0 : wErr t s = 0
  · by_cases h1 : s.size = 1 ∧ bigB (ch s 0) = true
    · have e1 : fErr t s = 0 := by unfold fErr; rw [if_neg (by rw [h0]; simp), if_pos h1]
      have e2 : followOf t s = lst (followT (parse t 8 0 []).1 (ch s 0)) := by unfold followOf; rw [if_pos e1]
      rw [e1, e2]; exact p_Follow_good t s w ht hm h0 h1.1 h1.2
    · have e1 : fErr t s = 5 := by unfold fErr; rw [if_neg (by rw [h0]; simp), if_neg h1]
      have e2 : followOf t s = ⟨#[]⟩ := by unfold followOf; rw [e1]; rfl
      rw [e1, e2]; exact p_Follow_not t s w ht hm h0 h1
  · have e1 : fErr t s = wErr t s := by unfold fErr; rw [if_pos h0]
    have e2 : followOf t s = ⟨#[]⟩ := by unfold followOf; rw [e1, if_neg h0]
    rw [e1, e2]; exact p_Follow_bad t s w ht hm h0

end Go.Proofs.YtkglggkkbmmjkaaGreatDoor
