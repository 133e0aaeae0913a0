import Derived.Test.YtkglggkkbmmjkaaGreatDoorJ15RFirsts
import Derived.Test.YtkglggkkbmmjkaaGreatDoorJ17PartsM
import Derived.Test.YtkglggkkbmmjkaaGreatDoorJ14Same
namespace Go.Proofs.YtkglggkkbmmjkaaGreatDoor
open Go.RowKit

def rlU (S : Nat → Bool) (k : Nat) : List UInt8 := ((List.range k).filter S).map UInt8.ofNat
def rlst (S : Nat → Bool) : ByteArray := ⟨(rlU S 128).toArray⟩
theorem rlU_succ (S : Nat → Bool) (k : Nat) : rlU S (k + 1) = rlU S k ++ if S k then [UInt8.ofNat k] else [] := by
  unfold rlU
  rw [List.range_succ, List.filter_append, List.map_append]
  congr 1
  cases h : S k <;> simp [h]

theorem rlU_len (S : Nat → Bool) (k : Nat) : (rlU S k).length ≤ k := by
  unfold rlU
  rw [List.length_map]
  have := List.length_filter_le S (List.range k)
  rwa [List.length_range] at this

/-- a list of signs: the two ways to write it -/
theorem rlst_eq {S T : Nat → Bool} (h : ∀ x, x < 128 → S x = T x) (hT : ∀ x, T x = true → x = 36 ∨ smallB x = true) : rlst S = lst T := by
  have e1 : rlU S 128 = rlU T 128 := by
    unfold rlU
    rw [List.filter_congr (fun x hx => h x (List.mem_range.1 hx))]
  have hr : List.range 128 = List.range 36 ++ ([36] ++ (List.range' 37 60 ++ ((List.range 26).map (fun j => 97 + j) ++ List.range' 123 5))) := by decide
  have z1 : (List.range 36).filter T = [] := List.filter_eq_nil_iff.2 fun x hx ht => by
    have := List.mem_range.1 hx
    rcases hT x ht with e | e
    · omega
    · have := smallB_iff.1 e; omega
  have z2 : (List.range' 37 60).filter T = [] := List.filter_eq_nil_iff.2 fun x hx ht => by
    have := List.mem_range'_1.1 hx
    rcases hT x ht with e | e
    · omega
    · have := smallB_iff.1 e; omega
  have z3 : (List.range' 123 5).filter T = [] := List.filter_eq_nil_iff.2 fun x hx ht => by
    have := List.mem_range'_1.1 hx
    rcases hT x ht with e | e
    · omega
    · have := smallB_iff.1 e; omega
  have e2 : rlU T 128 = lstU T 26 := by
    unfold rlU lstU
    rw [hr, List.filter_append, List.filter_append, List.filter_append, List.filter_append, z1, z2, z3, List.filter_map, List.nil_append, List.nil_append, List.append_nil, List.map_append, List.map_map]
    congr 1
    cases h36 : T 36 <;> simp [h36]
  unfold rlst lst
  rw [e1, e2]

set_option maxRecDepth 100000 in
set_option maxHeartbeats 1600000 in
theorem r_list (b off n : Nat) (f : Nat → Value) (S : Nat → Bool) (w : World) (hB : Blk w b n f) (hn : off + 128 ≤ n) (hS : ∀ i, i < 128 → f (off + i) = .bool (S i)) :
    Calls Tryz.prog 54 #[.pointer (some ⟨b, off, none⟩)] w fun e w' => e = .returned (.string (rlst S)) ∧ Fr [] w w' := by
  have HB := hide hB
  have HS := hide hS
  clear hB hS
  go_enter Tryz.func54, Tryz.ntmps54
  go_wp2
  go_loopw [3, 4] (fun v i wr => ∃ c : Nat, c ≤ 128 ∧ v = .string ⟨(rlU S c).toArray⟩ ∧ i = .int .i64 c ∧ Hid (Fr [] w wr)) (fun _ i _ => 128 - (intOf i).toNat)
  case atStart => exact ⟨0, by omega, rfl, rfl, Fr.refl _ _⟩
  case round =>
    obtain ⟨c, hc, rfl, rfl, hf⟩ := hrel
    by_cases hlt : c < 128
    · have HS1 := hide (rlU_succ S c)
      have d0 : wr.cell? ⟨b, off + c, none⟩ = some (.bool (S c)) := by rw [((unhide HB).fr0 (unhide hf)).cell _ (by omega), unhide HS c hlt]
      have hmod : (c : Int) % 256 = c := by omega
      have hll := rlU_len S c
      cases hv : S c
      · rw [hv] at d0
        have HN := hide (show rlU S (c + 1) = rlU S c from (unhide HS1).trans (by rw [hv]; simp))
        clear HS1
        go_wp2
        go_roundw
        case rel => exact ⟨c + 1, by omega, by rw [unhide HN], by go_num, hf⟩
        case measure => simp [intOf]; omega
      · rw [hv] at d0
        have HN := hide (show rlU S (c + 1) = rlU S c ++ [UInt8.ofNat c] from (unhide HS1).trans (by rw [hv]; rfl))
        clear HS1
        go_wp2_with (refine wpList_str_one rfl 158 9 5 (.tmp 17) rfl wr.heap.size 1 c (by omega) Tryz.underlying158 Tryz.underlying5 Tryz.underlying9 rfl (by simp) ?_; have HF2 := hide ((unhide hf).alloc (.cells #[.int .u8 c] 5)))
        go_roundw
        case rel => exact ⟨c + 1, by omega, by rw [unhide HN]; simp [ByteArray.ext_iff], by go_num, HF2⟩
        case measure => simp [intOf]; omega
    · have HN := hide (show (⟨(rlU S c).toArray⟩ : ByteArray) = rlst S from by
        rw [show c = 128 from by omega]; rfl)
      go_wp2
      go_ret
      exact ⟨by rw [unhide HN]; rfl, unhide hf⟩

end Go.Proofs.YtkglggkkbmmjkaaGreatDoor

namespace Go.Proofs.YtkglggkkbmmjkaaGreatDoor
open Go.RowKit

def rWordB (rs : List Ru) (c : Nat) : Bool := smallB c || rset rs c
def rwErr (t s : ByteArray) : Nat := if 12 < s.size then 1 else if (rErr t).1 ≠ 0 then (rErr t).1 else if (bytes s).all (rWordB (parse t 8 0 []).1) then 0 else 5

/-- what asked hands back -/
def AskOut (t s : ByteArray) (w : World) (e : Ending) (w' : World) : Prop := Fr [] w w' ∧
  (rwErr t s ≠ 0 → e = .returned (.tuple #[.slice none 0 0, .int .i64 (rwErr t s)])) ∧
  (rwErr t s = 0 → s.size ≤ 12 ∧ t.size ≤ 32 ∧ (rErr t).1 = 0 ∧ (parse t 8 0 []).2.2 = true ∧ (bytes s).all (rWordB (parse t 8 0 []).1) = true ∧ ∃ q cap, e = .returned (.tuple #[.slice (some ⟨q, 0, none⟩) (parse t 8 0 []).1.length cap, .int .i64 0]) ∧ LAt w' q (parse t 8 0 []).1)
theorem AskOut.bad {t s : ByteArray} {w w' : World} {e : Ending} {a : Nat} (h : rwErr t s = a) (ha : a ≠ 0) (hf : Fr [] w w') (he : e = .returned (.tuple #[.slice none 0 0, .int .i64 a])) : AskOut t s w e w' :=
  ⟨hf, fun _ => by rw [h]; exact he, fun h0 => absurd (by rw [h] at h0; exact h0) ha⟩

set_option maxHeartbeats 1000000 in
theorem r_asked (t s : ByteArray) (w : World) (ht : t.size ≤ 9223372036854775807) (hm : s.size ≤ 9223372036854775807) :
    Calls Tryz.prog 68 #[.string t, .string s] w fun e w' => AskOut t s w e w' := by
  by_cases h12 : 12 < s.size
  · have HG := hide (show rwErr t s = 1 from by unfold rwErr; rw [if_pos h12])
    go_enter Tryz.func68, Tryz.ntmps68
    go_wp2
    go_ret2
    exact AskOut.bad (unhide HG) (by decide) (Fr.refl _ _) rfl
  · by_cases h0 : (rErr t).1 = 0
    · have HG := hide (show rwErr t s = if (bytes s).all (rWordB (parse t 8 0 []).1) then 0 else 5 from by unfold rwErr; rw [if_neg h12, if_neg (by rw [h0]; simp)])
      have H0 := hide h0
      clear h0
      go_enter Tryz.func68, Tryz.ntmps68
      go_wp2_with (go_at_call 24; refine (r_read t _ ht).mono ?_; rintro e w1 ⟨hf1, h1, h2⟩; obtain ⟨ht32, hok, q, cap, rfl, hla, hq⟩ := h2 (unhide H0); have HF1 := hide hf1; have HL1 := hide hla; have HOk := hide hok; clear hf1 h1 h2 hla hq hok)
      generalize hP : (parse t 8 0 []).1 = rs at *
      have HPP := hide hP
      clear hP
      go_loop [9] (fun a => ∃ i : Nat, i ≤ s.size ∧ a = .int .i64 i ∧ Hid (((bytes s).take i).all (rWordB rs) = true)) (fun a => s.size - (intOf a).toNat)
      case atStart => exact ⟨0, by omega, rfl, rfl⟩
      case round =>
        obtain ⟨i, hi, rfl, hd⟩ := hrel
        by_cases hlt : i < s.size
        · have hch := hide (ch_eq s i hlt)
          have HM := hide (show ((bytes s).take (i + 1)).all (rWordB rs) = rWordB rs s[i].toNat from by
            rw [bytes_snoc s i hlt, List.all_append, unhide hd, unhide hch]; simp)
          clear hd
          cases h1 : smallB s[i].toNat
          · cases h2 : rset rs s[i].toNat
            · have HE := hide (show rwErr t s = 5 from (unhide HG).trans (by
                rw [show (bytes s).all (rWordB rs) = false from by rw [← List.take_append_drop (i + 1) (bytes s), List.all_append, unhide HM]; simp [rWordB, h1, h2]]; rfl))
              clear HM
              go_wp2_with (first | (go_at_call 62; refine (r_has q cap _ rs _ (by exact unhide HL1)).mono ?_; rintro e w' ⟨rfl, rfl⟩) | (go_at_call 53; refine (r_isSmall_is _ false _ h1).mono ?_; rintro e w' ⟨rfl, rfl⟩))
              go_ret2
              exact AskOut.bad (unhide HE) (by decide) (unhide HF1) rfl
            · have HN := hide (show ((bytes s).take (i + 1)).all (rWordB rs) = true from (unhide HM).trans (by simp [rWordB, h2]))
              clear HM
              go_wp2_with (first | (go_at_call 62; refine (r_has q cap _ rs _ (by exact unhide HL1)).mono ?_; rintro e w' ⟨rfl, rfl⟩) | (go_at_call 53; refine (r_isSmall_is _ false _ h1).mono ?_; rintro e w' ⟨rfl, rfl⟩))
              go_round
              case rel => exact ⟨i + 1, by omega, by go_num, HN⟩
              case measure => simp [intOf]; omega
          · have HN := hide (show ((bytes s).take (i + 1)).all (rWordB rs) = true from (unhide HM).trans (by simp [rWordB, h1]))
            clear HM
            go_wp2_with (first | (go_at_call 62; refine (r_has q cap _ rs _ (by exact unhide HL1)).mono ?_; rintro e w' ⟨rfl, rfl⟩) | (go_at_call 53; refine (r_isSmall_is _ true _ h1).mono ?_; rintro e w' ⟨rfl, rfl⟩))
            go_round
            case rel => exact ⟨i + 1, by omega, by go_num, HN⟩
            case measure => simp [intOf]; omega
        · have HA := hide (show (bytes s).all (rWordB rs) = true from by rw [← bytes_take_all s i (by omega)]; exact unhide hd)
          have HE := hide (show rwErr t s = 0 from (unhide HG).trans (by rw [unhide HA]; rfl))
          clear hd
          go_wp2
          go_ret2
          exact ⟨unhide HF1, fun h => absurd (unhide HE) h, fun _ => ⟨by omega, ht32, unhide H0, unhide HOk, by rw [unhide HPP]; exact unhide HA, q, cap, by rw [unhide HPP]; rfl, by rw [unhide HPP]; exact unhide HL1⟩⟩
    · have HG := hide (show rwErr t s = (rErr t).1 from by unfold rwErr; rw [if_neg h12, if_pos h0])
      have hne : ((((rErr t).1 : Nat) : Int) != 0) = true := by rw [bne_iff_ne]; omega
      have H0 := hide h0
      clear h0
      go_enter Tryz.func68, Tryz.ntmps68
      go_wp2_with (go_at_call 24; refine (r_read t _ ht).mono ?_; rintro e w1 ⟨hf1, h1, h2⟩; obtain rfl := h1 (unhide H0); have HF1 := hide hf1; clear hf1 h1 h2)
      go_ret2
      exact AskOut.bad (unhide HG) (unhide H0) (unhide HF1) rfl

end Go.Proofs.YtkglggkkbmmjkaaGreatDoor
