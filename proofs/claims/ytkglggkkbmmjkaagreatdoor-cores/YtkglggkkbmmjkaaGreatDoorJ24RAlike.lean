import Derived.Test.YtkglggkkbmmjkaaGreatDoorJ23RNumber
namespace Go.Proofs.YtkglggkkbmmjkaaGreatDoor
open Go.RowKit

/-- just one sign? -/
def sgnW (s : ByteArray) : Bool := decide (s.size = 1) && (ch s 0 == 36 || smallB (ch s 0))

set_option maxHeartbeats 1000000 in
theorem r_isSign (s : ByteArray) (w : World) :
    Calls Tryz.prog 87 #[.string s] w fun e w' => e = .returned (.bool (sgnW s)) ∧ w' = w := by
  by_cases h1 : s.size = 1
  · have e1 : (((s.size : Nat) : Int) == 1) = true := by rw [h1]; rfl
    have l0 : 0 < s.size := by omega
    have hch := ch_eq s 0 l0
    by_cases h2 : s[0].toNat = 36
    · have e2 : (((s[0].toNat : Nat) : Int) == 36) = true := by rw [h2]; rfl
      have HE := hide (show sgnW s = true from by unfold sgnW; rw [hch, h2, h1]; rfl)
      clear h1 h2 hch
      go_enter Tryz.func87, Tryz.ntmps87
      go_wp2
      go_ret
      exact ⟨ret_bool (unhide HE).symm, rfl⟩
    · have e2 : (((s[0].toNat : Nat) : Int) == 36) = false := by rw [beq_eq_false_iff_ne]; omega
      have HE := hide (show sgnW s = smallB s[0].toNat from by unfold sgnW; rw [hch, h1]; simp [h2])
      clear h1 h2 hch
      go_enter Tryz.func87, Tryz.ntmps87
      go_wp2_with (go_at_call 53; refine (r_isSmall _ _).mono ?_; rintro e w' ⟨rfl, rfl⟩)
      go_ret
      exact ⟨ret_bool (unhide HE).symm, rfl⟩
  · have e1 : (((s.size : Nat) : Int) == 1) = false := by rw [beq_eq_false_iff_ne]; omega
    have HE := hide (show sgnW s = false from by unfold sgnW; simp [h1])
    clear h1
    go_enter Tryz.func87, Tryz.ntmps87
    go_wp2
    go_ret
    exact ⟨ret_bool (unhide HE).symm, rfl⟩

/-! what can be done, as a text -/
def wdU (st : Bool) (ru : Nat → Bool) (k : Nat) : List UInt8 := (if st then [115] else []) ++ ((List.range k).filter ru).map fun i => UInt8.ofNat (48 + i)
def wordsT (st : Bool) (ru : Nat → Bool) : ByteArray := ⟨(wdU st ru 9).toArray⟩
theorem wdU_succ (st : Bool) (ru : Nat → Bool) (k : Nat) : wdU st ru (k + 1) = wdU st ru k ++ if ru k then [UInt8.ofNat (48 + k)] else [] := by
  unfold wdU
  rw [List.range_succ, List.filter_append, List.map_append, List.append_assoc]
  congr 2
  cases h : ru k <;> simp [h]
theorem wdU_len (st : Bool) (ru : Nat → Bool) (k : Nat) : (wdU st ru k).length ≤ k + 1 := by
  unfold wdU
  have h := List.length_filter_le ru (List.range k)
  rw [List.length_range] at h
  rw [List.length_append, List.length_map]
  cases st <;> simp <;> omega
/-- the cells of what can be done -/
def canF (st : Bool) (ru : Nat → Bool) : Nat → Value := fun i => if i = 0 then .bool st else .bool (ru (i - 1))

set_option maxRecDepth 100000 in
set_option maxHeartbeats 1600000 in
theorem r_words (b : Nat) (st : Bool) (ru : Nat → Bool) (w : World) (hB : Blk w b 10 (canF st ru)) :
    Calls Tryz.prog 89 #[.pointer (some ⟨b, 0, none⟩)] w fun e w' => e = .returned (.string (wordsT st ru)) ∧ Fr [] w w' := by
  have HB := hide hB
  have c0 : w.cell? ⟨b, 0, none⟩ = some (.bool st) := hB.cell 0 (by omega)
  clear hB
  cases st
  · go_enter Tryz.func89, Tryz.ntmps89
    go_wp2
    go_loopw [3, 4] (fun v i wr => ∃ c : Nat, c ≤ 9 ∧ v = .string ⟨(wdU false ru c).toArray⟩ ∧ i = .int .i64 c ∧ Hid (Fr [] w wr)) (fun _ i _ => 9 - (intOf i).toNat)
    case atStart => exact ⟨0, by omega, rfl, rfl, Fr.refl _ _⟩
    case round =>
      obtain ⟨c, hc, rfl, rfl, hf⟩ := hrel
      by_cases hlt : c < 9
      · have HS1 := hide (wdU_succ false ru c)
        have d0 : wr.cell? ⟨b, 1 + c, none⟩ = some (.bool (ru c)) := by
          rw [((unhide HB).fr0 (unhide hf)).cell (1 + c) (by omega)]
          unfold canF
          rw [if_neg (by omega), show 1 + c - 1 = c from by omega]
        have hmod : (48 + (c : Int)) % 256 = 48 + c := by omega
        have hll := wdU_len false ru c
        cases hv : ru c
        · rw [hv] at d0
          have HN := hide (show wdU false ru (c + 1) = wdU false ru c from (unhide HS1).trans (by rw [hv]; simp))
          clear HS1
          go_wp2
          go_roundw
          case rel => exact ⟨c + 1, by omega, by rw [unhide HN], by go_num, hf⟩
          case measure => simp [intOf]; omega
        · rw [hv] at d0
          have HN := hide (show wdU false ru (c + 1) = wdU false ru c ++ [UInt8.ofNat (48 + c)] from (unhide HS1).trans (by rw [hv]; rfl))
          clear HS1
          go_wp2_with (refine wpList_str_one rfl 158 9 5 (.tmp 23) rfl wr.heap.size 1 (48 + c) (by omega) Tryz.underlying158 Tryz.underlying5 Tryz.underlying9 rfl (by simp) ?_; have HF2 := hide ((unhide hf).alloc (.cells #[.int .u8 (48 + c : Int)] 5)))
          go_roundw
          case rel => exact ⟨c + 1, by omega, by rw [unhide HN]; simp [ByteArray.ext_iff], by go_num, HF2⟩
          case measure => simp [intOf]; omega
      · have HN := hide (show (⟨(wdU false ru c).toArray⟩ : ByteArray) = wordsT false ru from by
          rw [show c = 9 from by omega]; rfl)
        go_wp2
        go_ret
        exact ⟨by rw [unhide HN]; rfl, unhide hf⟩
  · go_enter Tryz.func89, Tryz.ntmps89
    go_wp2
    go_loopw [3, 4] (fun v i wr => ∃ c : Nat, c ≤ 9 ∧ v = .string ⟨(wdU true ru c).toArray⟩ ∧ i = .int .i64 c ∧ Hid (Fr [] w wr)) (fun _ i _ => 9 - (intOf i).toNat)
    case atStart => exact ⟨0, by omega, rfl, rfl, Fr.refl _ _⟩
    case round =>
      obtain ⟨c, hc, rfl, rfl, hf⟩ := hrel
      by_cases hlt : c < 9
      · have HS1 := hide (wdU_succ true ru c)
        have d0 : wr.cell? ⟨b, 1 + c, none⟩ = some (.bool (ru c)) := by
          rw [((unhide HB).fr0 (unhide hf)).cell (1 + c) (by omega)]
          unfold canF
          rw [if_neg (by omega), show 1 + c - 1 = c from by omega]
        have hmod : (48 + (c : Int)) % 256 = 48 + c := by omega
        have hll := wdU_len true ru c
        cases hv : ru c
        · rw [hv] at d0
          have HN := hide (show wdU true ru (c + 1) = wdU true ru c from (unhide HS1).trans (by rw [hv]; simp))
          clear HS1
          go_wp2
          go_roundw
          case rel => exact ⟨c + 1, by omega, by rw [unhide HN], by go_num, hf⟩
          case measure => simp [intOf]; omega
        · rw [hv] at d0
          have HN := hide (show wdU true ru (c + 1) = wdU true ru c ++ [UInt8.ofNat (48 + c)] from (unhide HS1).trans (by rw [hv]; rfl))
          clear HS1
          go_wp2_with (refine wpList_str_one rfl 158 9 5 (.tmp 23) rfl wr.heap.size 1 (48 + c) (by omega) Tryz.underlying158 Tryz.underlying5 Tryz.underlying9 rfl (by simp) ?_; have HF2 := hide ((unhide hf).alloc (.cells #[.int .u8 (48 + c : Int)] 5)))
          go_roundw
          case rel => exact ⟨c + 1, by omega, by rw [unhide HN]; simp [ByteArray.ext_iff], by go_num, HF2⟩
          case measure => simp [intOf]; omega
      · have HN := hide (show (⟨(wdU true ru c).toArray⟩ : ByteArray) = wordsT true ru from by
          rw [show c = 9 from by omega]; rfl)
        go_wp2
        go_ret
        exact ⟨by rw [unhide HN]; rfl, unhide hf⟩
end Go.Proofs.YtkglggkkbmmjkaaGreatDoor

namespace Go.Proofs.YtkglggkkbmmjkaaGreatDoor
open Go.RowKit

def likeI (x y : It) : Bool := x.R == y.R && x.P == y.P
def alikeL (a b : List It) : Bool := a.all fun x => b.any (likeI x)

set_option maxRecDepth 100000 in
set_option maxHeartbeats 2000000 in
theorem r_alike (qa ca qb cb : Nat) (a b : List It) (w : World) (ha : ItAt w qa a) (hb : ItAt w qb b) (na : a.length ≤ 10000) (nb : b.length ≤ 10000) :
    Calls Tryz.prog 127 #[.slice (some ⟨qa, 0, none⟩) a.length ca, .slice (some ⟨qb, 0, none⟩) b.length cb] w fun e w' => e = .returned (.bool (alikeL a b)) ∧ Fr [] w w' := by
  have HA := hide ha
  have HB := hide hb
  clear ha hb
  go_enter Tryz.func127, Tryz.ntmps127
  go_wp2
  go_loopw [5] (fun i wr => ∃ k : Nat, k ≤ a.length ∧ i = .int .i64 k ∧ Hid ((a.take k).all (fun x => b.any (likeI x)) = true) ∧ Hid (Fr [] w wr)) (fun i _ => a.length - (intOf i).toNat)
  case atStart => exact ⟨0, by omega, rfl, rfl, Fr.refl _ _⟩
  case round =>
    obtain ⟨i, hi, rfl, hd, hf⟩ := hrel
    by_cases hlt : i < a.length
    · obtain ⟨x, hx⟩ : ∃ x, lget a i = x := ⟨_, rfl⟩
      have HX := hide hx
      clear hx
      go_wp2
      go_loopw [6, 7] (fun v j wr2 => ∃ k : Nat, k ≤ b.length ∧ v = .bool ((b.take k).any (likeI x)) ∧ j = .int .i64 k ∧ Hid (Fr [] w wr2)) (fun _ j _ => b.length - (intOf j).toNat)
      case atStart => exact ⟨0, by omega, rfl, rfl, hf⟩
      case round =>
        obtain ⟨k, hk, rfl, rfl, hf2⟩ := hrel
        obtain ⟨iv, hiv⟩ : ∃ iv, (b.take k).any (likeI x) = iv := ⟨_, rfl⟩
        by_cases hkt : k < b.length
        · obtain ⟨c0, c1, c2⟩ := ((unhide HA).fr0 (unhide hf2)) i hlt
          obtain ⟨d0, d1, d2⟩ := ((unhide HB).fr0 (unhide hf2)) k hkt
          rw [unhide HX] at c0 c1 c2
          obtain ⟨y, hy⟩ : ∃ y, lget b k = y := ⟨_, rfl⟩
          rw [hy] at d0 d1 d2
          have HS := hide (show (b.take (k + 1)).any (likeI x) = (iv || likeI x y) from by
            rw [List.take_succ_eq_append_getElem hkt, List.any_append, hiv, ← lget_eq b k hkt, hy]; simp)
          rw [hiv]
          clear hiv hy
          cases iv
          · by_cases h1 : x.R = y.R
            · have q1 : (((x.R : Nat) : Int) == (y.R : Nat)) = true := by rw [beq_iff_eq]; omega
              by_cases h2 : x.P = y.P
              · have q2 : (((x.P : Nat) : Int) == (y.P : Nat)) = true := by rw [beq_iff_eq]; omega
                have HN := hide (show (b.take (k + 1)).any (likeI x) = true from (unhide HS).trans (by unfold likeI; rw [h1, h2]; simp))
                clear HS h1 h2
                go_wp2_with fail
                go_quiet (fail)
                go_wp2
                go_roundw
                case rel => exact ⟨k + 1, by omega, by rw [unhide HN], by go_num, (unhide hf2).trans0 (fr_drewN _ _)⟩
                case measure => simp [intOf]; omega
              · have q2 : (((x.P : Nat) : Int) == (y.P : Nat)) = false := by rw [beq_eq_false_iff_ne]; omega
                have HN := hide (show (b.take (k + 1)).any (likeI x) = false from (unhide HS).trans (by unfold likeI; simp [h2]))
                clear HS h1 h2
                go_wp2_with fail
                go_quiet (fail)
                go_wp2
                go_roundw
                case rel => exact ⟨k + 1, by omega, by rw [unhide HN], by go_num, (unhide hf2).trans0 (fr_drewN _ _)⟩
                case measure => simp [intOf]; omega
            · have q1 : (((x.R : Nat) : Int) == (y.R : Nat)) = false := by rw [beq_eq_false_iff_ne]; omega
              have HN := hide (show (b.take (k + 1)).any (likeI x) = false from (unhide HS).trans (by unfold likeI; simp [h1]))
              clear HS h1
              go_wp2_with fail
              go_quiet (fail)
              go_wp2
              go_roundw
              case rel => exact ⟨k + 1, by omega, by rw [unhide HN], by go_num, (unhide hf2).trans0 (fr_drewN _ _)⟩
              case measure => simp [intOf]; omega
          · have HN := hide (show (b.take (k + 1)).any (likeI x) = true from (unhide HS).trans (by simp))
            clear HS
            go_wp2_with fail
            go_quiet (fail)
            go_wp2
            go_roundw
            case rel => exact ⟨k + 1, by omega, by rw [unhide HN], by go_num, (unhide hf2).trans0 (fr_drewN _ _)⟩
            case measure => simp [intOf]; omega
        · have hall : (b.take k).any (likeI x) = b.any (likeI x) := by rw [List.take_of_length_le (by omega)]
          have HAny := hide (show b.any (likeI x) = iv from by rw [← hall]; exact hiv)
          have HT := hide (show (a.take (i + 1)).all (fun x => b.any (likeI x)) = iv from by
            rw [List.take_succ_eq_append_getElem hlt, List.all_append, unhide hd, ← lget_eq a i hlt, unhide HX]
            simp [unhide HAny])
          rw [hiv]
          clear hiv hall
          cases iv
          · have HN := hide (show alikeL a b = false from by
              unfold alikeL
              rw [← List.take_append_drop (i + 1) a, List.all_append, unhide HT]; simp)
            clear HT
            go_wp2
            go_ret
            exact ⟨ret_bool (unhide HN).symm, unhide hf2⟩
          · go_wp2
            go_roundw
            case rel => exact ⟨i + 1, by omega, by go_num, HT, hf2⟩
            case measure => simp [intOf]; omega
    · have HN := hide (show alikeL a b = true from by
        have := unhide hd
        rw [List.take_of_length_le (by omega)] at this; exact this)
      clear hd
      go_wp2
      go_ret
      exact ⟨ret_bool (unhide HN).symm, unhide hf⟩
end Go.Proofs.YtkglggkkbmmjkaaGreatDoor
