import Derived.Test.YtkglggkkbmmjkaaGreatDoorRList
import Derived.Test.YtkglggkkbmmjkaaGreatDoorRAsked
namespace Go.Proofs.YtkglggkkbmmjkaaGreatDoor
open Go.RowKit

theorem parse_big (t : ByteArray) : ∀ r ∈ (parse t 8 0 []).1, bigB r.L = true := fun r hr => ((parse_good t 8 0 [] (by simp)).1 r hr).1
theorem rset_big {rs : List Ru} (hl : ∀ r ∈ rs, bigB r.L = true) {c : Nat} (h : rset rs c = true) : bigB c = true := by
  unfold rset at h
  obtain ⟨r, hr, hx⟩ := List.any_eq_true.1 h
  have hx : r.L = c := by simpa using hx
  rw [← hx]; exact hl r hr
theorem word_eq {rs : List Ru} (hl : ∀ r ∈ rs, bigB r.L = true) (c : Nat) : wordB rs c = rWordB rs c := by
  unfold wordB rWordB hasB
  cases h : rset rs c
  · simp
  · rw [rset_big hl h]; rfl
theorem wErr_eq (t s : ByteArray) : rwErr t s = wErr t s := by
  unfold rwErr wErr
  rw [gErr_eq, show wordB (parse t 8 0 []).1 = rWordB (parse t 8 0 []).1 from funext (word_eq (parse_big t))]
theorem rword_let {rs : List Ru} (hl : ∀ r ∈ rs, bigB r.L = true) {s : ByteArray} (h : (bytes s).all (rWordB rs) = true) : ∀ i, i < s.size → letB (ch s i) = true := by
  refine word_let (rs := rs) ?_
  rw [show wordB rs = rWordB rs from funext (word_eq hl)]; exact h
theorem null_eq {t s : ByteArray} (h : wErr t s = 0) : (bytes s).all (nullS (parse t 8 0 []).1) = nullOf t s := by
  unfold nullOf
  rw [if_pos h, show vanB (nullS (parse t 8 0 []).1) false = nullS (parse t 8 0 []).1 from funext (van_eq0 (nulls_bigs _ (parse_big t)))]
theorem first_eq {t s : ByteArray} (h : wErr t s = 0) {T : Nat → Nat → Bool} (hT : ∀ c x, x < 128 → T c x = firstT (parse t 8 0 []).1 c x) : rlst (beg (nullS (parse t 8 0 []).1) T (bytes s)) = firstOfW t s := by
  unfold firstOfW
  rw [if_pos h]
  exact rlst_eq (fun x hx => beg_alike (fun _ _ => rfl) (fun c => hT c x hx) _) (fun x hx => Or.inr (beg_small (iterF_small _ _ _) _ x hx))

set_option maxHeartbeats 1600000 in
theorem r_Null (t s : ByteArray) (w : World) (ht : t.size ≤ 9223372036854775807) (hm : s.size ≤ 9223372036854775807) :
    Calls Tryz.prog 26 #[.string t, .string s] w fun e w' => e = .returned (.tuple #[.bool (nullOf t s), .int .i64 (wErr t s)]) ∧ Fr [] w w' := by
  have HW := hide (wErr_eq t s)
  by_cases h0 : wErr t s = 0
  · have HE := hide (null_eq h0)
    have HB := hide (parse_big t)
    have H0 := hide h0
    clear h0
    go_enter Tryz.func26, Tryz.ntmps26
    go_wp2_with (first
      | (go_at_call 68; refine (r_asked t s _ ht hm).mono ?_; rintro e w1 ⟨hf1, _, h2⟩; obtain ⟨hs12, _, _, _, hwd, q, cap, rfl, hla⟩ := h2 ((unhide HW).trans (unhide H0)); have HF1 := hide hf1; have HL1 := hide hla; have HWD := hide (rword_let (unhide HB) hwd); clear hf1 h2 hla hwd)
      | (go_at_call 69; refine (r_nulls q cap _ _ (by exact unhide HL1)).mono ?_; rintro e w2 ⟨rfl, hf2⟩; rw [nulls_eq _ (unhide HB)]; have HF2 := hide ((unhide HF1).trans0 hf2); clear hf2)
      | (refine wpList_alloc_blk rfl 105 rfl (some 8) rfl 128 _ Tryz.zeroSet ?_; intro w3 hf3 hs3 hB3; have HF3 := hide ((unhide HF2).trans0 hf3); have HB3 := hide hB3; clear hf3 hs3 hB3)
      | (refine wpList_store_blk rfl 105 (.tmp 8) (.tmp 20) rfl w2.heap.size 0 128 128 (sF fun _ => false) (sF (nullS (parse t 8 0 []).1)) rfl rfl (by exact unhide HB3) Tryz.sizeSet (by omega) (by intro i hi; rfl) ?_; intro w4 hf4 hs4 hB4; have HF4 := hide ((unhide HF3).trans1 hf4 (Or.inr (unhide HF2).size)); have HB4 := hide (hB4.congr (g := sF (nullS (parse t 8 0 []).1)) fun i hi => lay_all _ _ _ i hi); clear hf4 hs4 hB4)
      | (go_at_call 70; refine (r_null s w2.heap.size _ _ (by omega) (by exact unhide HB4) (unhide HWD)).mono ?_; rintro e w5 ⟨rfl, hf5⟩; rw [unhide HE]; have HF5 := hide ((unhide HF4).trans0 hf5); clear hf5))
    go_ret2
    exact ⟨by rw [unhide H0]; rfl, unhide HF5⟩
  · have HN := hide (show nullOf t s = false from by unfold nullOf; rw [if_neg h0])
    have hb : ((((wErr t s : Nat) : Int)) != 0) = true := by rw [bne_iff_ne]; omega
    have H0 := hide (show rwErr t s ≠ 0 from fun h => h0 (by rw [← wErr_eq]; exact h))
    clear h0
    go_enter Tryz.func26, Tryz.ntmps26
    go_wp2_with (go_at_call 68; refine (r_asked t s _ ht hm).mono ?_; rintro e w1 ⟨hf1, h1, _⟩; obtain rfl := h1 (unhide H0); rw [unhide HW]; have HF1 := hide hf1; clear hf1 h1)
    go_ret2
    exact ⟨by rw [unhide HN]; rfl, unhide HF1⟩

set_option maxHeartbeats 1600000 in
theorem r_First (t s : ByteArray) (w : World) (ht : t.size ≤ 9223372036854775807) (hm : s.size ≤ 9223372036854775807) :
    Calls Tryz.prog 28 #[.string t, .string s] w fun e w' => e = .returned (.tuple #[.string (firstOfW t s), .int .i64 (wErr t s)]) ∧ Fr [] w w' := by
  have HW := hide (wErr_eq t s)
  by_cases h0 : wErr t s = 0
  · have HB := hide (parse_big t)
    have H0 := hide h0
    clear h0
    go_enter Tryz.func28, Tryz.ntmps28
    go_wp2_with (first
      | (go_at_call 68; refine (r_asked t s _ ht hm).mono ?_; rintro e w1 ⟨hf1, _, h2⟩; obtain ⟨hs12, _, _, _, hwd, q, cap, rfl, hla⟩ := h2 ((unhide HW).trans (unhide H0)); have HF1 := hide hf1; have HL1 := hide hla; have HWD := hide (rword_let (unhide HB) hwd); clear hf1 h2 hla hwd)
      | (go_at_call 69; refine (r_nulls q cap _ _ (by exact unhide HL1)).mono ?_; rintro e w2 ⟨rfl, hf2⟩; rw [nulls_eq _ (unhide HB)]; have HF2 := hide ((unhide HF1).trans0 hf2); have HL2 := hide ((unhide HL1).fr0 hf2); clear hf2)
      | (refine wpList_alloc_blk rfl 105 rfl (some 8) rfl 128 _ Tryz.zeroSet ?_; intro w3 hf3 hs3 hB3; have HF3 := hide ((unhide HF2).trans0 hf3); have HL3 := hide ((unhide HL2).fr0 hf3); have HB3 := hide hB3; clear hf3 hs3 hB3)
      | (refine wpList_store_blk rfl 105 (.tmp 8) (.tmp 21) rfl w2.heap.size 0 128 128 (sF fun _ => false) (sF (nullS (parse t 8 0 []).1)) rfl rfl (by exact unhide HB3) Tryz.sizeSet (by omega) (by intro i hi; rfl) ?_; intro w4 hf4 hs4 hB4; have HF4 := hide ((unhide HF3).trans1 hf4 (Or.inr (unhide HF2).size)); have HL4 := hide ((unhide HL3).fr hf4 (by have := (unhide HL2).lt; simp; omega)); have HB4 := hide (hB4.congr (g := sF (nullS (parse t 8 0 []).1)) fun i hi => lay_all _ _ _ i hi); clear hf4 hs4 hB4)
      | (go_at_call 72; refine (r_firsts q cap w2.heap.size _ _ _ (by exact unhide HL4) (by exact unhide HB4)).mono ?_; rintro e w5 ⟨fb, T, rfl, hf5, _, hB5, hT⟩; have HF5 := hide ((unhide HF4).trans0 hf5); have HN5 := hide ((unhide HB4).fr0 hf5); have HT5 := hide hB5; have HE := hide (first_eq (unhide H0) hT); clear hf5 hB5 hT)
      | (go_at_call 73; refine (r_begins w2.heap.size fb 26 _ T s _ (by exact unhide HN5) (by exact unhide HT5) (by omega) (unhide HWD)).mono ?_; rintro e w6 ⟨rfl, hf6⟩; have HF6 := hide ((unhide HF5).trans0 hf6); clear hf6)
      | (refine wpList_alloc_blk rfl 105 rfl (some 10) rfl 128 _ Tryz.zeroSet ?_; intro w7 hf7 hs7 hB7; have HF7 := hide ((unhide HF6).trans0 hf7); have HB7 := hide hB7; clear hf7 hs7 hB7)
      | (refine wpList_store_blk rfl 105 (.tmp 10) (.tmp 26) rfl w6.heap.size 0 128 128 (sF fun _ => false) (sF (beg (nullS (parse t 8 0 []).1) T (bytes s))) rfl rfl (by exact unhide HB7) Tryz.sizeSet (by omega) (by intro i hi; rfl) ?_; intro w8 hf8 hs8 hB8; have HF8 := hide ((unhide HF7).trans1 hf8 (Or.inr (unhide HF6).size)); have HB8 := hide (hB8.congr (g := sF (beg (nullS (parse t 8 0 []).1) T (bytes s))) fun i hi => lay_all _ _ _ i hi); clear hf8 hs8 hB8)
      | (go_at_call 54; refine (r_list w6.heap.size 0 128 _ (beg (nullS (parse t 8 0 []).1) T (bytes s)) _ (by exact unhide HB8) (by omega) (fun i _ => by rw [Nat.zero_add]; rfl)).mono ?_; rintro e w9 ⟨rfl, hf9⟩; rw [unhide HE]; have HF9 := hide ((unhide HF8).trans0 hf9); clear hf9))
    go_ret2
    exact ⟨by rw [unhide H0]; rfl, unhide HF9⟩
  · have HN := hide (show firstOfW t s = ⟨#[]⟩ from by unfold firstOfW; rw [if_neg h0])
    have hb : ((((wErr t s : Nat) : Int)) != 0) = true := by rw [bne_iff_ne]; omega
    have H0 := hide (show rwErr t s ≠ 0 from fun h => h0 (by rw [← wErr_eq]; exact h))
    clear h0
    go_enter Tryz.func28, Tryz.ntmps28
    go_wp2_with (go_at_call 68; refine (r_asked t s _ ht hm).mono ?_; rintro e w1 ⟨hf1, h1, _⟩; obtain rfl := h1 (unhide H0); rw [unhide HW]; have HF1 := hide hf1; clear hf1 h1)
    go_ret2
    exact ⟨by rw [unhide HN]; rfl, unhide HF1⟩

end Go.Proofs.YtkglggkkbmmjkaaGreatDoor
