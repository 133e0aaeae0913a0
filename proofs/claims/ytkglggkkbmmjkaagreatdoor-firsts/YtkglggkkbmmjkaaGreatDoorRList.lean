import Derived.Test.YtkglggkkbmmjkaaGreatDoorRFirsts
import Derived.Test.YtkglggkkbmmjkaaGreatDoorPartsM
namespace Go.Proofs.YtkglggkkbmmjkaaGreatDoor
open Go.RowKit

def rlU (S : Nat → Bool) (k : Nat) : List UInt8 := ((List.range k).filter S).map UInt8.ofNat
def rlst (S : Nat → Bool) : ByteArray := ⟨(rlU S 128).toArray⟩
theorem rlU_succ (S : Nat → Bool) (k : Nat) : rlU S (k + 1) = rlU S k ++ if S k then [UInt8.ofNat k] else [] := by
  unfold rlU
  rw [List.range_succ, List.filter_append, List.map_append]
  congr 1
  cases h : S k <;> simp [h]

theorem rlU_len (S : Nat → Bool) (k : Nat) : (rlU S k).length ≤ k := by
  unfold rlU
  rw [List.length_map]
  have := List.length_filter_le S (List.range k)
  rwa [List.length_range] at this

/-- a list of signs: the two ways to write it -/
theorem rlst_eq {S T : Nat → Bool} (h : ∀ x, x < 128 → S x = T x) (hT : ∀ x, T x = true → x = 36 ∨ smallB x = true) : rlst S = lst T := by
  have e1 : rlU S 128 = rlU T 128 := by
    unfold rlU
    rw [List.filter_congr (fun x hx => h x (List.mem_range.1 hx))]
  have hr : List.range 128 = List.range 36 ++ ([36] ++ (List.range' 37 60 ++ ((List.range 26).map (fun j => 97 + j) ++ List.range' 123 5))) := by decide
  have z1 : (List.range 36).filter T = [] := List.filter_eq_nil_iff.2 fun x hx ht => by
    have := List.mem_range.1 hx
    rcases hT x ht with e | e
    · omega
    · have := smallB_iff.1 e; omega
  have z2 : (List.range' 37 60).filter T = [] := List.filter_eq_nil_iff.2 fun x hx ht => by
    have := List.mem_range'_1.1 hx
    rcases hT x ht with e | e
    · omega
    · have := smallB_iff.1 e; omega
  have z3 : (List.range' 123 5).filter T = [] := List.filter_eq_nil_iff.2 fun x hx ht => by
    have := List.mem_range'_1.1 hx
    rcases hT x ht with e | e
    · omega
    · have := smallB_iff.1 e; omega
  have e2 : rlU T 128 = lstU T 26 := by
    unfold rlU lstU
    rw [hr, List.filter_append, List.filter_append, List.filter_append, List.filter_append, z1, z2, z3, List.filter_map, List.nil_append, List.nil_append, List.append_nil, List.map_append, List.map_map]
    congr 1
    cases h36 : T 36 <;> simp [h36]
  unfold rlst lst
  rw [e1, e2]

set_option maxRecDepth 100000 in
set_option maxHeartbeats 1600000 in
theorem r_list (b off n : Nat) (f : Nat → Value) (S : Nat → Bool) (w : World) (hB : Blk w b n f) (hn : off + 128 ≤ n) (hS : ∀ i, i < 128 → f (off + i) = .bool (S i)) :
    Calls Tryz.prog 54 #[.pointer (some ⟨b, off, none⟩)] w fun e w' => e = .returned (.string (rlst S)) ∧ Fr [] w w' := by
  have HB := hide hB
  have HS := hide hS
  clear hB hS
  go_enter Tryz.func54, Tryz.ntmps54
  go_wp2
  go_loopw [3, 4] (fun v i wr => ∃ c : Nat, c ≤ 128 ∧ v = .string ⟨(rlU S c).toArray⟩ ∧ i = .int .i64 c ∧ Hid (Fr [] w wr)) (fun _ i _ => 128 - (intOf i).toNat)
  case atStart => exact ⟨0, by omega, rfl, rfl, Fr.refl _ _⟩
  case round =>
    obtain ⟨c, hc, rfl, rfl, hf⟩ := hrel
    by_cases hlt : c < 128
    · have HS1 := hide (rlU_succ S c)
      have d0 : wr.cell? ⟨b, off + c, none⟩ = some (.bool (S c)) := by rw [((unhide HB).fr0 (unhide hf)).cell _ (by omega), unhide HS c hlt]
      have hmod : (c : Int) % 256 = c := by omega
      have hll := rlU_len S c
      cases hv : S c
      · rw [hv] at d0
        have HN := hide (show rlU S (c + 1) = rlU S c from (unhide HS1).trans (by rw [hv]; simp))
        clear HS1
        go_wp2
        go_roundw
        case rel => exact ⟨c + 1, by omega, by rw [unhide HN], by go_num, hf⟩
        case measure => simp [intOf]; omega
      · rw [hv] at d0
        have HN := hide (show rlU S (c + 1) = rlU S c ++ [UInt8.ofNat c] from (unhide HS1).trans (by rw [hv]; rfl))
        clear HS1
        go_wp2_with (refine wpList_str_one rfl 158 9 5 (.tmp 17) rfl wr.heap.size 1 c (by omega) Tryz.underlying158 Tryz.underlying5 Tryz.underlying9 rfl (by simp) ?_; have HF2 := hide ((unhide hf).alloc (.cells #[.int .u8 c] 5)))
        go_roundw
        case rel => exact ⟨c + 1, by omega, by rw [unhide HN]; simp [ByteArray.ext_iff], by go_num, HF2⟩
        case measure => simp [intOf]; omega
    · have HN := hide (show (⟨(rlU S c).toArray⟩ : ByteArray) = rlst S from by
        rw [show c = 128 from by omega]; rfl)
      go_wp2
      go_ret
      exact ⟨by rw [unhide HN]; rfl, unhide hf⟩

end Go.Proofs.YtkglggkkbmmjkaaGreatDoor
