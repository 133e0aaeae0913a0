import Derived.Test.YtkglggkkbmmjkaaReadRules
namespace Go.Proofs.Ytkglggkkbmmjkaa
open Go.RowKit

theorem parse_bad0 (t : ByteArray) (f i : Nat) (acc : List Ru) (h : ¬ (i < t.size ∧ bigB (ch t i) = true)) : parse t (f + 1) i acc = (acc, i, false) := by
  rw [parse, if_neg h]
theorem parse_bad1 (t : ByteArray) (f i : Nat) (acc : List Ru) (h : i < t.size ∧ bigB (ch t i) = true) (h1 : ¬ (i + 1 < t.size ∧ ch t (i + 1) = 61)) : parse t (f + 1) i acc = (acc, i + 1, false) := by
  rw [parse, if_pos h, if_neg h1]
theorem parse_end (t : ByteArray) (f i : Nat) (acc : List Ru) (h : i < t.size ∧ bigB (ch t i) = true) (h1 : i + 1 < t.size ∧ ch t (i + 1) = 61) (h2 : ¬ runEnd t 4 (i + 2) < t.size) :
    parse t (f + 1) i acc = (acc ++ [⟨ch t i, t.extract (i + 2) (runEnd t 4 (i + 2)), i⟩], runEnd t 4 (i + 2), true) := by
  rw [parse, if_pos h, if_pos h1, if_neg h2]
theorem parse_bad2 (t : ByteArray) (f i : Nat) (acc : List Ru) (h : i < t.size ∧ bigB (ch t i) = true) (h1 : i + 1 < t.size ∧ ch t (i + 1) = 61) (h2 : runEnd t 4 (i + 2) < t.size)
    (h3 : f = 0 ∨ ch t (runEnd t 4 (i + 2)) ≠ 59) : parse t (f + 1) i acc = (acc ++ [⟨ch t i, t.extract (i + 2) (runEnd t 4 (i + 2)), i⟩], runEnd t 4 (i + 2), false) := by
  rw [parse, if_pos h, if_pos h1, if_pos h2, if_pos h3]
theorem parse_more (t : ByteArray) (f i : Nat) (acc : List Ru) (h : i < t.size ∧ bigB (ch t i) = true) (h1 : i + 1 < t.size ∧ ch t (i + 1) = 61) (h2 : runEnd t 4 (i + 2) < t.size)
    (h3 : ¬ (f = 0 ∨ ch t (runEnd t 4 (i + 2)) ≠ 59)) : parse t (f + 1) i acc = parse t f (runEnd t 4 (i + 2) + 1) (acc ++ [⟨ch t i, t.extract (i + 2) (runEnd t 4 (i + 2)), i⟩]) := by
  rw [parse, if_pos h, if_pos h1, if_pos h2, if_neg h3]

set_option maxHeartbeats 1600000 in
theorem p_readRules (b : Nat) (t : ByteArray) (N : Nat → Bool) (F : Nat → Nat → Bool) (w : World) (ht : t.size ≤ 32) (h : RS b N F w w (.slice none 0 0) [] 0 0) :
    Calls Try.prog 24 #[.pointer (some ⟨b, 0, none⟩), .string t] w fun e w' => e = .returned (.tuple #[]) ∧ RRPost b t N F w w' := by
  have H : Hid (RS b N F w w (.slice none 0 0) [] 0 0) := h
  clear h
  go_enter Try.func24, Try.ntmps24
  go_wp2
  go_loopw [4, 5] (fun a n wr => ∃ (k i : Nat) (acc : List Ru) (v : Value), k ≤ 7 ∧ i ≤ 33 ∧ acc.length = k ∧ n = .int .i64 (k + 1 : Nat) ∧ a = .int .i64 i ∧ Hid (parse t 8 0 [] = parse t (8 - k) i acc) ∧ Hid (RS b N F w wr v acc 0 0))
    (fun _ n _ => 9 - (intOf n).toNat)
  case atStart => exact ⟨0, 0, [], _, by omega, by omega, rfl, rfl, rfl, rfl, H⟩
  case round =>
    obtain ⟨k, i, acc, v, hk, hi, hl, rfl, rfl, hp, hs⟩ := hrel
    have HL : Hid (acc.length = k) := hl
    clear hl
    have hf : Hid (parse t 8 0 [] = parse t ((7 - k) + 1) i acc) := by
      show _ = _
      rw [hp.out, show 8 - k = (7 - k) + 1 from by omega]
    clear hp
    by_cases h0 : i < t.size ∧ bigB (ch t i) = true
    · by_cases h1 : i + 1 < t.size ∧ ch t (i + 1) = 61
      · have hbd := runEnd_bd t 4 (i + 2)
        have hi0 : i < t.size := h0.1
        have hi1 : i + 1 < t.size := h1.1
        by_cases h2 : runEnd t 4 (i + 2) < t.size
        · by_cases h3 : k = 7
          · have HP := hide (hf.out.trans (parse_bad2 t _ i acc h0 h1 h2 (by omega)))
            have hk8 : ((k : Int) + 1 == 8) = true := by simp; omega
            have H0 := hide h0
            have H1 := hide h1
            clear h0 h1 hf h3
            go_wp2_with (first | (go_at_call 31; refine (p_readRule_ok t i _ ht hi0 (unhide H0).2 hi1 (unhide H1).2).mono ?_; rintro e w1 ⟨hf1, rfl⟩; have HS1 := hide ((unhide hs).fr (hf1.alloc (.cells #[.int .u8 (ch t i), .string (t.extract (i + 2) (runEnd t 4 (i + 2))), .int .i64 i] 68))) ) | (go_at_call 32; refine (p_addRule b N F w _ v acc ⟨ch t i, t.extract (i + 2) (runEnd t 4 (i + 2)), i⟩ (unhide H0).2 (by exact unhide HS1) (by have := unhide HL; omega)).mono ?_; rintro e w2 ⟨rfl, v', hs2⟩; have HS2 := hide hs2; clear hs2) | (go_at_call 14; refine (p_refuse b _ _ _ _ (by exact (unhide HS2).2.1)).mono ?_; rintro e w3 ⟨rfl, hf2⟩))
            exact bodyPost_ret (v := .tuple #[]) (results_none Try.results24 _ _ _) rfl ⟨rfl, (unhide HS2).refused hf2.1 hf2.2.2 rfl (unhide HP)⟩
          · have hk8 : ((k : Int) + 1 == 8) = false := by simp; omega
            by_cases h4 : ch t (runEnd t 4 (i + 2)) = 59
            · have HP := hide (hf.out.trans (parse_more t _ i acc h0 h1 h2 (by omega)))
              have hc : (((t[runEnd t 4 (i + 2)].toNat : Nat) : Int) != 59) = false := by
                rw [ch_eq t _ h2] at h4; simp; omega
              have H0 := hide h0
              have H1 := hide h1
              clear h0 h1 hf h4
              go_wp2_with (first | (go_at_call 31; refine (p_readRule_ok t i _ ht hi0 (unhide H0).2 hi1 (unhide H1).2).mono ?_; rintro e w1 ⟨hf1, rfl⟩; have HS1 := hide ((unhide hs).fr (hf1.alloc (.cells #[.int .u8 (ch t i), .string (t.extract (i + 2) (runEnd t 4 (i + 2))), .int .i64 i] 68))) ) | (go_at_call 32; refine (p_addRule b N F w _ v acc ⟨ch t i, t.extract (i + 2) (runEnd t 4 (i + 2)), i⟩ (unhide H0).2 (by exact unhide HS1) (by have := unhide HL; omega)).mono ?_; rintro e w2 ⟨rfl, v', hs2⟩; have HS2 := hide hs2; clear hs2) | (go_at_call 14; refine (p_refuse b _ _ _ _ (by exact (unhide HS2).2.1)).mono ?_; rintro e w3 ⟨rfl, hf2⟩))
              go_roundw
              case rel => exact ⟨k + 1, runEnd t 4 (i + 2) + 1, _, v', by omega, by omega, by have := unhide HL; simp; omega, by go_num, by go_num, hide (by rw [unhide HP, show 8 - (k + 1) = 7 - k from by omega]), HS2⟩
              case measure => simp [intOf]; omega
            · have HP := hide (hf.out.trans (parse_bad2 t _ i acc h0 h1 h2 (Or.inr h4)))
              have hc : (((t[runEnd t 4 (i + 2)].toNat : Nat) : Int) != 59) = true := by
                rw [ch_eq t _ h2] at h4; rw [bne_iff_ne]; omega
              have H0 := hide h0
              have H1 := hide h1
              clear h0 h1 hf h4
              go_wp2_with (first | (go_at_call 31; refine (p_readRule_ok t i _ ht hi0 (unhide H0).2 hi1 (unhide H1).2).mono ?_; rintro e w1 ⟨hf1, rfl⟩; have HS1 := hide ((unhide hs).fr (hf1.alloc (.cells #[.int .u8 (ch t i), .string (t.extract (i + 2) (runEnd t 4 (i + 2))), .int .i64 i] 68))) ) | (go_at_call 32; refine (p_addRule b N F w _ v acc ⟨ch t i, t.extract (i + 2) (runEnd t 4 (i + 2)), i⟩ (unhide H0).2 (by exact unhide HS1) (by have := unhide HL; omega)).mono ?_; rintro e w2 ⟨rfl, v', hs2⟩; have HS2 := hide hs2; clear hs2) | (go_at_call 14; refine (p_refuse b _ _ _ _ (by exact (unhide HS2).2.1)).mono ?_; rintro e w3 ⟨rfl, hf2⟩))
              exact bodyPost_ret (v := .tuple #[]) (results_none Try.results24 _ _ _) rfl ⟨rfl, (unhide HS2).refused hf2.1 hf2.2.2 rfl (unhide HP)⟩
        · have HP := hide (hf.out.trans (parse_end t _ i acc h0 h1 h2))
          have H0 := hide h0
          have H1 := hide h1
          clear h0 h1 hf
          go_wp2_with (first | (go_at_call 31; refine (p_readRule_ok t i _ ht hi0 (unhide H0).2 hi1 (unhide H1).2).mono ?_; rintro e w1 ⟨hf1, rfl⟩; have HS1 := hide ((unhide hs).fr (hf1.alloc (.cells #[.int .u8 (ch t i), .string (t.extract (i + 2) (runEnd t 4 (i + 2))), .int .i64 i] 68))) ) | (go_at_call 32; refine (p_addRule b N F w _ v acc ⟨ch t i, t.extract (i + 2) (runEnd t 4 (i + 2)), i⟩ (unhide H0).2 (by exact unhide HS1) (by have := unhide HL; omega)).mono ?_; rintro e w2 ⟨rfl, v', hs2⟩; have HS2 := hide hs2; clear hs2) | (go_at_call 14; refine (p_refuse b _ _ _ _ (by exact (unhide HS2).2.1)).mono ?_; rintro e w3 ⟨rfl, hf2⟩))
          exact bodyPost_ret (v := .tuple #[]) (results_none Try.results24 _ _ _) rfl ⟨rfl, (unhide HS2).ended (unhide HP)⟩
      · have HP := hide (hf.out.trans (parse_bad1 t _ i acc h0 h1))
        have H0 := hide h0
        have H1 := hide h1
        clear h0 h1 hf
        go_wp2_with (first | (go_at_call 31; refine (p_readRule_bad1 t i _ ht (unhide H0).1 (unhide H0).2 (unhide H1)).mono ?_; rintro e w1 ⟨hf1, rfl⟩; have HS1 := hide ((unhide hs).fr (hf1.alloc (.cells #[.int .u8 0, .string ⟨#[]⟩, .int .i64 0] 68))) ) | (go_at_call 14; refine (p_refuse b _ _ _ _ (by exact (unhide HS1).2.1)).mono ?_; rintro e w2 ⟨rfl, hf2⟩))
        exact bodyPost_ret (v := .tuple #[]) (results_none Try.results24 _ _ _) rfl ⟨rfl, (unhide HS1).refused hf2.1 hf2.2.2 (by omega) (unhide HP)⟩
    · have HP := hide (hf.out.trans (parse_bad0 t _ i acc h0))
      have H0 := hide h0
      clear h0 hf
      go_wp2_with (first | (go_at_call 31; refine (p_readRule_bad0 t i _ ht (by omega) (unhide H0)).mono ?_; rintro e w1 ⟨hf1, rfl⟩; have HS1 := hide ((unhide hs).fr (hf1.alloc (.cells #[.int .u8 0, .string ⟨#[]⟩, .int .i64 0] 68))) ) | (go_at_call 14; refine (p_refuse b _ _ _ _ (by exact (unhide HS1).2.1)).mono ?_; rintro e w2 ⟨rfl, hf2⟩))
      exact bodyPost_ret (v := .tuple #[]) (results_none Try.results24 _ _ _) rfl ⟨rfl, (unhide HS1).refused hf2.1 hf2.2.2 rfl (unhide HP)⟩

end Go.Proofs.Ytkglggkkbmmjkaa
