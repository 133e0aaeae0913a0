import Derived.Test.YtkglggkkbmmjkaaPartsM
namespace Go.Proofs.Ytkglggkkbmmjkaa
open Go.RowKit


set_option maxHeartbeats 1000000 in
theorem l_within (s : ByteArray) (c : Nat) (w : World) (hs : s.size ≤ 1000) :
    Calls Try.prog 13 #[.string s, .int .u8 c] w fun e w' => e = .returned (.bool (inB s c)) ∧ w' = w := by
  go_enter Try.func13, Try.ntmps13
  go_wp2
  go_loop [5] (fun i => ∃ k : Nat, k ≤ s.size ∧ i = .int .i64 k ∧ Hid (((bytes s).take k).any (· == c) = false)) (fun i => s.size - (intOf i).toNat)
  case atStart => exact ⟨0, by omega, rfl, rfl⟩
  case round =>
    obtain ⟨k, hk, rfl, hd⟩ := hrel
    by_cases hlt : k < s.size
    · have hch := hide (ch_eq s k hlt)
      have HM := hide (show ((bytes s).take (k + 1)).any (· == c) = (s[k].toNat == c) from by
        rw [bytes_snoc s k hlt, List.any_append, unhide hd, unhide hch]; simp)
      clear hd
      by_cases hc : s[k].toNat = c
      · have HE := hide (show inB s c = true from by
          unfold inB
          rw [← List.take_append_drop (k + 1) (bytes s), List.any_append, unhide HM]; simp [hc])
        clear HM
        have h1 : (((s[k].toNat : Int)) == (c : Int)) = true := by rw [hc]; simp
        go_wp2
        go_ret
        exact ⟨ret_bool (a := true) (unhide HE).symm, rfl⟩
      · have HN := hide (show ((bytes s).take (k + 1)).any (· == c) = false from (unhide HM).trans (by simp [hc]))
        clear HM
        have h1 : (((s[k].toNat : Int)) == (c : Int)) = false := by rw [beq_eq_false_iff_ne]; omega
        go_wp2
        go_round
        case rel => exact ⟨k + 1, by omega, by go_num, HN⟩
        case measure => simp [intOf]; omega
    · have HE := hide (show inB s c = false from by unfold inB; rw [← bytes_take_all s k (by omega)]; exact unhide hd)
      go_wp2
      go_ret
      exact ⟨ret_bool (a := false) (unhide HE).symm, rfl⟩

set_option maxRecDepth 100000 in
set_option maxHeartbeats 1600000 in
theorem l_joined (a b : ByteArray) (w : World) (ha : a.size ≤ 1000) (hb : b.size ≤ 1000) :
    Calls Try.prog 8 #[.string a, .string b] w fun e w' => e = .returned (.string (lst (joinS a b))) ∧ Fr [] w w' := by
  go_enter Try.func8, Try.ntmps8
  go_wp2
  go_loopw [5, 6] (fun v i wr => ∃ c : Nat, 97 ≤ c ∧ c ≤ 123 ∧ v = .string ⟨(lstU (joinS a b) (c - 97)).toArray⟩ ∧ i = .int .i64 c ∧ Hid (Fr [] w wr)) (fun _ i _ => 123 - (intOf i).toNat)
  case atStart => exact ⟨97, by omega, by omega, rfl, rfl, Fr.refl _ _⟩
  case round =>
    obtain ⟨c, hc1, hc2, rfl, rfl, hf⟩ := hrel
    by_cases hlt : c ≤ 122
    · have HS1 := hide (show lstU (joinS a b) (c + 1 - 97) = lstU (joinS a b) (c - 97) ++ if inB a c || inB b c then [UInt8.ofNat c] else [] from by
        rw [show c + 1 - 97 = (c - 97) + 1 from by omega, lstU_succ, show 97 + (c - 97) = c from by omega, show joinS a b c = (inB a c || inB b c) from by
          unfold joinS; rw [show (c != 36) = true from by rw [bne_iff_ne]; omega, Bool.true_and]])
      have hll := lstU_len (joinS a b) (c - 97)
      have hmod : (c : Int) % 256 = c := by omega
      cases hx : inB a c
      · cases hy : inB b c
        · have HN := hide (show lstU (joinS a b) (c + 1 - 97) = lstU (joinS a b) (c - 97) from (unhide HS1).trans (by rw [hx, hy]; simp))
          clear HS1
          go_wp2_with (go_at_call 13; refine (l_within _ c _ (by assumption)).mono ?_; rintro e w1 ⟨rfl, rfl⟩; first | rw [hx] | rw [hy])
          go_roundw
          case rel => exact ⟨c + 1, by omega, by omega, by rw [unhide HN], by go_num, hf⟩
          case measure => simp [intOf]; omega
        · have HN := hide (show lstU (joinS a b) (c + 1 - 97) = lstU (joinS a b) (c - 97) ++ [UInt8.ofNat c] from (unhide HS1).trans (by rw [hx, hy]; rfl))
          clear HS1
          go_wp2_with (first | (go_at_call 13; refine (l_within _ c _ (by assumption)).mono ?_; rintro e w1 ⟨rfl, rfl⟩; first | rw [hx] | rw [hy]) | (refine wpList_str_one rfl 51 9 5 (.tmp 28) rfl w1.heap.size 1 c (by omega) Try.underlying51 Try.underlying5 Try.underlying9 rfl (by simp) ?_; have HF2 := hide ((unhide hf).alloc (.cells #[.int .u8 c] 5))))
          go_roundw
          case rel => exact ⟨c + 1, by omega, by omega, by rw [unhide HN]; simp [ByteArray.ext_iff], by go_num, HF2⟩
          case measure => simp [intOf]; omega
      · have HN := hide (show lstU (joinS a b) (c + 1 - 97) = lstU (joinS a b) (c - 97) ++ [UInt8.ofNat c] from (unhide HS1).trans (by rw [hx]; rfl))
        clear HS1
        go_wp2_with (first | (go_at_call 13; refine (l_within _ c _ (by assumption)).mono ?_; rintro e w1 ⟨rfl, rfl⟩; first | rw [hx] | skip) | (refine wpList_str_one rfl 51 9 5 (.tmp 28) rfl w1.heap.size 1 c (by omega) Try.underlying51 Try.underlying5 Try.underlying9 rfl (by simp) ?_; have HF2 := hide ((unhide hf).alloc (.cells #[.int .u8 c] 5))))
        go_roundw
        case rel => exact ⟨c + 1, by omega, by omega, by rw [unhide HN]; simp [ByteArray.ext_iff], by go_num, HF2⟩
        case measure => simp [intOf]; omega
    · have HN := hide (show (⟨(lstU (joinS a b) (c - 97)).toArray⟩ : ByteArray) = lst (joinS a b) from by
        rw [show c - 97 = 26 from by omega]; rfl)
      go_wp2
      go_ret
      exact ⟨by rw [unhide HN]; rfl, unhide hf⟩

end Go.Proofs.Ytkglggkkbmmjkaa
