import Derived.Test.YtkglggkkbmmjkaaGreatDoorFoMath
namespace Go.Proofs.YtkglggkkbmmjkaaGreatDoor
open Go.RowKit

/-- a table of signs: 26 sets -/
def ftF (G : Nat → Nat → Bool) : Nat → Value := fun i => .bool (G (65 + i / 27) (sgn (i % 27)))
theorem Tryz.zeroTab : (Tryz.prog.info? 51).bind (·.zero) = some (Agg 702 (ftF fun _ _ => false)) := by kernel_rfl
theorem Tryz.sizeTab : (Tryz.prog.info? 51).map (·.size) = some 702 := by kernel_rfl
theorem oneB_ftF (G : Nat → Nat → Bool) (n : Nat) : oneB (ftF G) n := fun _ _ => rfl
theorem ftF_at (G : Nat → Nat → Bool) (c i : Nat) (hc : bigB c = true) (hi : i < 27) : ftF G ((c - 65) * 27 + i) = .bool (G c (sgn i)) := by
  have h := bigB_iff.1 hc
  unfold ftF
  rw [show (c - 65) * 27 + i = i + 27 * (c - 65) from by omega, Nat.add_mul_mod_self_left, Nat.add_mul_div_left _ _ (by omega), Nat.mod_eq_of_lt hi, Nat.div_eq_of_lt hi, show 65 + (0 + (c - 65)) = c from by omega]
theorem ftF_join (G : Nat → Nat → Bool) (c : Nat) (S : Nat → Bool) (hc : bigB c = true) (i : Nat) : orF (ftF G) ((c - 65) * 27) 27 (fun i => G c (sgn i)) (fun i => S (sgn i)) i = ftF (joinF G c S) i := by
  have h := bigB_iff.1 hc
  unfold orF
  by_cases hr : (c - 65) * 27 ≤ i ∧ i < (c - 65) * 27 + 27
  · rw [if_pos hr]
    obtain ⟨k, rfl⟩ : ∃ k, i = (c - 65) * 27 + k := ⟨i - (c - 65) * 27, by omega⟩
    rw [ftF_at _ c k hc (by omega), Nat.add_sub_cancel_left]
    simp [joinF]
  · rw [if_neg hr]
    have hne : (65 + i / 27 == c) = false := by
      rw [beq_eq_false_iff_ne]
      intro he
      have hd : i / 27 = c - 65 := by omega
      have := Nat.div_add_mod i 27
      have := Nat.mod_lt i (show 0 < 27 by omega)
      rw [hd] at *
      omega
    unfold ftF joinF
    rw [hne, Bool.false_and, Bool.or_false]

/-- signSet.add of the end sign -/
theorem p_sadd_end (b n : Nat) (f : Nat → Value) (w : World) (hB : Blk w b n f) (hn : 27 ≤ n) :
    Calls Tryz.prog 107 #[.pointer (some ⟨b, 0, none⟩), .int .u8 36] w fun e w' => e = .returned (.tuple #[]) ∧ Fr [b] w w' ∧ Blk w' b n (upd f 0 (.bool true)) :=
  (p_saddO b 0 36 n f w hB (by omega) rfl).mono fun e w' h => ⟨h.1, h.2.1, h.2.2.2⟩
theorem sgF_end (i : Nat) : upd (sgF fun _ => false) 0 (.bool true) i = sgF (fun x => x == 36) i := by
  unfold upd sgF
  by_cases e : i = 0
  · rw [if_pos e, e]; rfl
  · rw [if_neg e]
    have : (sgn i == 36) = false := by
      rw [beq_eq_false_iff_ne]; unfold sgn; rw [if_neg e]; omega
    show Value.bool false = Value.bool (sgn i == 36)
    rw [this]


theorem p_isBig_no (c : Nat) (w : World) (h : bigB c = false) : Calls Tryz.prog 74 #[.int .u8 c] w fun e w' => e = .returned (.bool false) ∧ w' = w := p_isBig_is c false w h

set_option maxHeartbeats 400000 in
/-- signTable.addAll at another byte -/
theorem p_taddAll_no (b off c : Nat) (M : Nat → Value) (w : World) (hc : bigB c = false) :
    Calls Tryz.prog 115 #[.pointer (some ⟨b, off, none⟩), .int .u8 c, Agg 27 M] w fun e w' => e = .returned (.tuple #[]) ∧ Fr [] w w' := by
  go_enter Tryz.func115, Tryz.ntmps115
  go_wp2_with (first | (refine wpList_box_blk rfl 48 (.tmp 2) rfl (some 5) rfl 27 M rfl ?_; intro w1 hf1 hs1 hB1; have HF1 := hide hf1; clear hf1 hB1 hs1) | (go_at_call 74; refine (p_isBig_no c _ hc).mono ?_; rintro e w' ⟨rfl, rfl⟩))
  go_end0
  exact ⟨rfl, unhide HF1⟩

/-- signTable.addAll on a table of its own -/
theorem p_taddT (b c : Nat) (G : Nat → Nat → Bool) (S : Nat → Bool) (w : World) (hB : Blk w b 702 (ftF G)) (hc : bigB c = true) :
    Calls Tryz.prog 115 #[.pointer (some ⟨b, 0, none⟩), .int .u8 c, Agg 27 fun i => sgF S (0 + i)] w fun e w' => e = .returned (.tuple #[]) ∧ Fr [b] w w' ∧ Blk w' b 702 (ftF (joinF G c S)) := by
  rw [show (Agg 27 fun i => sgF S (0 + i)) = Agg 27 fun i => .bool ((fun i => S (sgn i)) i) from Agg.congr fun i _ => by rw [Nat.zero_add]; rfl]
  refine (p_taddAll b 0 c 702 _ (fun i => G c (sgn i)) (fun i => S (sgn i)) w hB (by omega) hc (fun i hi => by rw [Nat.zero_add]; exact ftF_at G c i hc hi)).mono ?_
  rintro e w' ⟨rfl, hf, hB'⟩
  exact ⟨rfl, hf, hB'.congr fun i _ => by rw [Nat.zero_add]; exact ftF_join G c S hc i⟩
/-- signTable.get on a table of its own -/
theorem p_getT (b c : Nat) (G : Nat → Nat → Bool) (w : World) (hB : Blk w b 702 (ftF G)) (hc : bigB c = true) :
    Calls Tryz.prog 76 #[.pointer (some ⟨b, 0, none⟩), .int .u8 c] w fun e w' => e = .returned (Agg 27 (sgF (G c))) ∧ Fr [] w w' := by
  refine (p_get b 0 c 702 _ w hB (by omega) hc (oneB_ftF _ _)).mono ?_
  rintro e w' ⟨rfl, hf⟩
  exact ⟨by rw [Agg.congr fun i hi => by rw [Nat.zero_add, ftF_at G c i hc hi]]; rfl, hf⟩
/-- signSet.addAll of a loaded set -/
theorem p_saddS (b : Nat) (S M : Nat → Bool) (w : World) (hB : Blk w b 27 (sgF S)) :
    Calls Tryz.prog 118 #[.pointer (some ⟨b, 0, none⟩), Agg 27 fun i => sgF M (0 + i)] w fun e w' => e = .returned (.tuple #[]) ∧ Fr [b] w w' ∧ Blk w' b 27 (sgF fun x => S x || M x) := by
  rw [show (Agg 27 fun i => sgF M (0 + i)) = Agg 27 fun i => .bool ((fun i => M (sgn i)) i) from Agg.congr fun i _ => by rw [Nat.zero_add]; rfl]
  refine (p_saddAll b 0 27 _ (fun i => S (sgn i)) (fun i => M (sgn i)) w hB (by omega) (fun i hi => by rw [Nat.zero_add]; rfl)).mono ?_
  rintro e w' ⟨rfl, hf, hB'⟩
  exact ⟨rfl, hf, hB'.congr fun i hi => sgF_or S M i hi⟩

end Go.Proofs.YtkglggkkbmmjkaaGreatDoor
