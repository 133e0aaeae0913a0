import Derived.Test.YtkglggkkbmmjkaaGreatDoorG10Words
import Derived.Test.YtkglggkkbmmjkaaGreatDoorG11PartsM
import Derived.Test.YtkglggkkbmmjkaaGreatDoorG9Same
namespace Go.Proofs.YtkglggkkbmmjkaaGreatDoor
open Go.RowKit

def rlU (S : Nat → Bool) (k : Nat) : List UInt8 := ((List.range k).filter S).map UInt8.ofNat
def rlst (S : Nat → Bool) : ByteArray := ⟨(rlU S 128).toArray⟩
theorem rlU_succ (S : Nat → Bool) (k : Nat) : rlU S (k + 1) = rlU S k ++ if S k then [UInt8.ofNat k] else [] := by
  unfold rlU
  rw [List.range_succ, List.filter_append, List.map_append]
  congr 1
  cases h : S k <;> simp [h]

theorem rlU_len (S : Nat → Bool) (k : Nat) : (rlU S k).length ≤ k := by
  unfold rlU
  rw [List.length_map]
  have := List.length_filter_le S (List.range k)
  rwa [List.length_range] at this

theorem rlst_eq {S T : Nat → Bool} (h : ∀ x, x < 128 → S x = T x) (hT : ∀ x, T x = true → x = 36 ∨ zah x = true) : rlst S = lst T := by
  have e1 : rlU S 128 = rlU T 128 := by
    unfold rlU
    rw [List.filter_congr (fun x hx => h x (List.mem_range.1 hx))]
  have hr : List.range 128 = List.range 36 ++ ([36] ++ (List.range' 37 60 ++ ((List.range 26).map (fun j => 97 + j) ++ List.range' 123 5))) := by decide
  have z1 : (List.range 36).filter T = [] := List.filter_eq_nil_iff.2 fun x hx ht => by
    have := List.mem_range.1 hx
    rcases hT x ht with e | e
    · omega
    · have := zaw.1 e; omega
  have z2 : (List.range' 37 60).filter T = [] := List.filter_eq_nil_iff.2 fun x hx ht => by
    have := List.mem_range'_1.1 hx
    rcases hT x ht with e | e
    · omega
    · have := zaw.1 e; omega
  have z3 : (List.range' 123 5).filter T = [] := List.filter_eq_nil_iff.2 fun x hx ht => by
    have := List.mem_range'_1.1 hx
    rcases hT x ht with e | e
    · omega
    · have := zaw.1 e; omega
  have e2 : rlU T 128 = lstU T 26 := by
    unfold rlU lstU
    rw [hr, List.filter_append, List.filter_append, List.filter_append, List.filter_append, z1, z2, z3, List.filter_map, List.nil_append, List.nil_append, List.append_nil, List.map_append, List.map_map]
    congr 1
    cases h36 : T 36 <;> simp [h36]
  unfold rlst lst
  rw [e1, e2]

set_option maxRecDepth 100000 in
set_option maxHeartbeats 1600000 in
theorem r_list (b off n : Nat) (f : Nat → Value) (S : Nat → Bool) (w : World) (hB : Blk w b n f) (hn : off + 128 ≤ n) (hS : ∀ i, i < 128 → f (off + i) = .bool (S i)) :
    Calls Tryz.prog 54 #[.pointer (some ⟨b, off, none⟩)] w fun e w' => e = .returned (.string (rlst S)) ∧ Fr [] w w' := by
  have HB := hide hB
  have HS := hide hS
  clear hB hS
  go_enter Tryz.func54, Tryz.ntmps54
  go_wp2
  go_loopw [3, 4] (fun v i wr => ∃ c : Nat, c ≤ 128 ∧ v = .string ⟨(rlU S c).toArray⟩ ∧ i = .int .i64 c ∧ Hid (Fr [] w wr)) (fun _ i _ => 128 - (intOf i).toNat)
  case atStart => exact ⟨0, by omega, rfl, rfl, Fr.refl _ _⟩
  case round =>
    obtain ⟨c, hc, rfl, rfl, hf⟩ := hrel
    by_cases hlt : c < 128
    · have HS1 := hide (rlU_succ S c)
      have d0 : wr.cell? ⟨b, off + c, none⟩ = some (.bool (S c)) := by rw [((zaa HB).fr0 (zaa hf)).cell _ (by omega), zaa HS c hlt]
      have hmod : (c : Int) % 256 = c := by omega
      have hll := rlU_len S c
      cases hv : S c
      · rw [hv] at d0
        have HN := hide (show rlU S (c + 1) = rlU S c from (zaa HS1).trans (by rw [hv]; simp))
        clear HS1
        go_wp2
        go_roundw
        case rel => exact ⟨c + 1, by omega, by rw [zaa HN], by go_num, hf⟩
        case measure => simp [intOf]; omega
      · rw [hv] at d0
        have HN := hide (show rlU S (c + 1) = rlU S c ++ [UInt8.ofNat c] from (zaa HS1).trans (by rw [hv]; rfl))
        clear HS1
        go_wp2_with (refine zbj rfl 158 9 5 (.tmp 17) rfl wr.heap.size 1 c (by omega) Tryz.underlying158 Tryz.underlying5 Tryz.underlying9 rfl (by simp) ?_; have HF2 := hide ((zaa hf).alloc (.cells #[.int .u8 c] 5)))
        go_roundw
        case rel => exact ⟨c + 1, by omega, by rw [zaa HN]; simp [ByteArray.ext_iff], by go_num, HF2⟩
        case measure => simp [intOf]; omega
    · have HN := hide (show (⟨(rlU S c).toArray⟩ : ByteArray) = rlst S from by
        rw [show c = 128 from by omega]; rfl)
      go_wp2
      go_ret
      exact ⟨by rw [zaa HN]; rfl, zaa hf⟩

end Go.Proofs.YtkglggkkbmmjkaaGreatDoor

namespace Go.Proofs.YtkglggkkbmmjkaaGreatDoor
open Go.RowKit

def rWordB (rs : List Ru) (c : Nat) : Bool := zah c || rset rs c
def rwErr (t s : ByteArray) : Nat := if 12 < s.size then 1 else if (rErr t).1 ≠ 0 then (rErr t).1 else if (bytes s).all (rWordB (zad t 8 0 []).1) then 0 else 5

def AskOut (t s : ByteArray) (w : World) (e : Ending) (w' : World) : Prop := Fr [] w w' ∧
  (rwErr t s ≠ 0 → e = .returned (.tuple #[.slice none 0 0, .int .i64 (rwErr t s)])) ∧
  (rwErr t s = 0 → s.size ≤ 12 ∧ t.size ≤ 32 ∧ (rErr t).1 = 0 ∧ (zad t 8 0 []).2.2 = true ∧ (bytes s).all (rWordB (zad t 8 0 []).1) = true ∧ ∃ q cap, e = .returned (.tuple #[.slice (some ⟨q, 0, none⟩) (zad t 8 0 []).1.length cap, .int .i64 0]) ∧ LAt w' q (zad t 8 0 []).1)
theorem AskOut.bad {t s : ByteArray} {w w' : World} {e : Ending} {a : Nat} (h : rwErr t s = a) (ha : a ≠ 0) (hf : Fr [] w w') (he : e = .returned (.tuple #[.slice none 0 0, .int .i64 a])) : AskOut t s w e w' :=
  ⟨hf, fun _ => by rw [h]; exact he, fun h0 => absurd (by rw [h] at h0; exact h0) ha⟩

end Go.Proofs.YtkglggkkbmmjkaaGreatDoor

namespace Go.Proofs.YtkglggkkbmmjkaaGreatDoor
open Go.RowKit

theorem parse_big (t : ByteArray) : ∀ r ∈ (zad t 8 0 []).1, bigB r.L = true := fun r hr => ((zax t 8 0 [] (by simp)).1 r hr).1
end Go.Proofs.YtkglggkkbmmjkaaGreatDoor
