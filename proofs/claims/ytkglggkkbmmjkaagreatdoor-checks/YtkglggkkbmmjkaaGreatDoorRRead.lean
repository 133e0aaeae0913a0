import Derived.Test.YtkglggkkbmmjkaaGreatDoorRRules
namespace Go.Proofs.YtkglggkkbmmjkaaGreatDoor
open Go.RowKit

def rBad (t : ByteArray) (rs : List Ru) (i : Nat) : Bool := bigB (ch t i) && !rset rs (ch t i)
def rNames (t : ByteArray) (rs : List Ru) : Option Nat := (List.range t.size).find? (rBad t rs)
def rDead (E U : Nat → Bool) : List Ru → Option Nat
  | [] => none
  | r :: l => if !E r.L || !U r.L then some r.A else rDead E U l
def rEnds (rs : List Ru) : Nat → Bool := iter (reRound rs) (rs.length + 1) fun _ => false
def rUsed (rs : List Ru) : Nat → Bool := iter (ruRound rs) (rs.length + 1) (ins (fun _ => false) (stOf rs))
def rErr (t : ByteArray) : Nat × Nat :=
  if 32 < t.size then (1, 0) else
  if (parse t 8 0 []).2.2 = false then (2, (parse t 8 0 []).2.1) else
  match rNames t (parse t 8 0 []).1 with
  | some k => (3, k)
  | none => match rDead (rEnds (parse t 8 0 []).1) (rUsed (parse t 8 0 []).1) (parse t 8 0 []).1 with
    | some k => (4, k)
    | none => (0, 0)

/-- what read hands back -/
def ReadOut (t : ByteArray) (w : World) (e : Ending) (w' : World) : Prop := Fr [] w w' ∧
  ((rErr t).1 ≠ 0 → e = .returned (.tuple #[.slice none 0 0, .int .i64 (rErr t).1, .int .i64 (rErr t).2])) ∧
  ((rErr t).1 = 0 → t.size ≤ 32 ∧ (parse t 8 0 []).2.2 = true ∧ ∃ q cap, e = .returned (.tuple #[.slice (some ⟨q, 0, none⟩) (parse t 8 0 []).1.length cap, .int .i64 0, .int .i64 0]) ∧ LAt w' q (parse t 8 0 []).1 ∧ w.heap.size ≤ q)

theorem ReadOut.bad {t : ByteArray} {w w' : World} {e : Ending} {a b : Nat} (h : rErr t = (a, b)) (ha : a ≠ 0) (hf : Fr [] w w') (he : e = .returned (.tuple #[.slice none 0 0, .int .i64 a, .int .i64 b])) : ReadOut t w e w' :=
  ⟨hf, fun _ => by rw [h]; exact he, fun h0 => absurd (by rw [h] at h0; exact h0) ha⟩

set_option maxHeartbeats 1000000 in
theorem r_read_long (t : ByteArray) (w : World) (ht : 32 < t.size) (hm : t.size ≤ 9223372036854775807) :
    Calls Tryz.prog 24 #[.string t] w fun e w' => ReadOut t w e w' := by
  have HG := hide (show rErr t = (1, 0) from by unfold rErr; rw [if_pos ht])
  go_enter Tryz.func24, Tryz.ntmps24
  go_wp2
  go_ret3
  exact ReadOut.bad (unhide HG) (by decide) (Fr.refl _ _) rfl

set_option maxHeartbeats 1000000 in
theorem r_read_rule (t : ByteArray) (w : World) (ht : t.size ≤ 32) (hok : (parse t 8 0 []).2.2 = false) :
    Calls Tryz.prog 24 #[.string t] w fun e w' => ReadOut t w e w' := by
  have HG := hide (show rErr t = (2, (parse t 8 0 []).2.1) from by unfold rErr; rw [if_neg (by omega), if_pos hok])
  have HOk := hide hok
  clear hok
  go_enter Tryz.func24, Tryz.ntmps24
  go_wp2_with (go_at_call 61; refine (r_rules t _ ht).mono ?_; rintro e w1 ⟨hf1, h1, h2⟩; obtain rfl := h1 (unhide HOk); have HF1 := hide hf1; clear hf1 h1 h2)
  go_ret3
  exact ReadOut.bad (unhide HG) (by decide) (unhide HF1) rfl

theorem rDead_drop (E U : Nat → Bool) (rs : List Ru) (j : Nat) (h : j < rs.length) : rDead E U (rs.drop j) = if !E rs[j].L || !U rs[j].L then some rs[j].A else rDead E U (rs.drop (j + 1)) := by
  rw [drop_cons' rs j h, rDead]

set_option maxRecDepth 100000 in
set_option maxHeartbeats 4000000 in
theorem r_read_ok (t : ByteArray) (w : World) (ht : t.size ≤ 32) (hok : (parse t 8 0 []).2.2 = true) :
    Calls Tryz.prog 24 #[.string t] w fun e w' => ReadOut t w e w' := by
  have HG := hide (show rErr t = (match rNames t (parse t 8 0 []).1 with
    | some k => (3, k)
    | none => match rDead (rEnds (parse t 8 0 []).1) (rUsed (parse t 8 0 []).1) (parse t 8 0 []).1 with
      | some k => (4, k)
      | none => (0, 0)) from by unfold rErr; rw [if_neg (by omega), if_neg (by rw [hok]; simp)])
  have HOk := hide hok
  have hlen := (parse_small t ht).2
  have hpos := (parse_good t 8 0 [] (by simp)).2.2 hok
  clear hok
  go_enter Tryz.func24, Tryz.ntmps24
  go_wp2_with (go_at_call 61; refine (r_rules t _ ht).mono ?_; rintro e w1 ⟨hf1, h1, h2⟩; obtain ⟨q, cap, rfl, hru, hq1, hq2⟩ := h2 (unhide HOk); have HF1 := hide hf1; have HL1 := hide (show LAt w1 q (parse t 8 0 []).1 from ⟨hru, hq2, (parse_small t ht).1, parse_ok t, (parse_small t ht).2⟩); have HQ := hide hq1; clear hf1 h1 h2 hru hq1 hq2)
  generalize hP : (parse t 8 0 []).1 = rs at *
  have HPP := hide hP
  clear hP
  go_loop [7] (fun a => ∃ i : Nat, i ≤ t.size ∧ a = .int .i64 i ∧ Hid (∀ k, k < i → rBad t rs k = false)) (fun a => t.size - (intOf a).toNat)
  case atStart => exact ⟨0, by omega, rfl, fun k hk => by omega⟩
  case round =>
    obtain ⟨i, hi, rfl, hd⟩ := hrel
    by_cases hlt : i < t.size
    · have hch := hide (ch_eq t i hlt)
      cases h1 : bigB t[i].toNat
      · have HN := hide (show ∀ k, k < i + 1 → rBad t rs k = false from fun k hk => by
          by_cases e : k = i
          · subst e; unfold rBad; rw [unhide hch, h1]; rfl
          · exact unhide hd k (by omega))
        clear hd
        go_wp2_with (first | (go_at_call 62; refine (r_has q cap _ rs _ (by exact unhide HL1)).mono ?_; rintro e w' ⟨rfl, rfl⟩) | (go_at_call 63; refine (r_isBig_is _ false _ h1).mono ?_; rintro e w' ⟨rfl, rfl⟩))
        go_round
        case rel => exact ⟨i + 1, by omega, by go_num, HN⟩
        case measure => simp [intOf]; omega
      · cases h2 : rset rs t[i].toNat
        · have HN := hide (show rNames t rs = some i from find_range_some _ _ _ hlt (unhide hd) (by unfold rBad; rw [unhide hch, h1, h2]; rfl))
          clear hd
          go_wp2_with (first | (go_at_call 62; refine (r_has q cap _ rs _ (by exact unhide HL1)).mono ?_; rintro e w' ⟨rfl, rfl⟩) | (go_at_call 63; refine (r_isBig_is _ true _ h1).mono ?_; rintro e w' ⟨rfl, rfl⟩))
          go_ret3
          exact ReadOut.bad ((unhide HG).trans (by rw [unhide HN])) (by decide) (unhide HF1) rfl
        · have HN := hide (show ∀ k, k < i + 1 → rBad t rs k = false from fun k hk => by
            by_cases e : k = i
            · subst e; unfold rBad; rw [unhide hch, h1, h2]; rfl
            · exact unhide hd k (by omega))
          clear hd
          go_wp2_with (first | (go_at_call 62; refine (r_has q cap _ rs _ (by exact unhide HL1)).mono ?_; rintro e w' ⟨rfl, rfl⟩) | (go_at_call 63; refine (r_isBig_is _ true _ h1).mono ?_; rintro e w' ⟨rfl, rfl⟩))
          go_round
          case rel => exact ⟨i + 1, by omega, by go_num, HN⟩
          case measure => simp [intOf]; omega
    · have HN := hide (show rNames t rs = none from find_range _ _ (fun k hk => unhide hd k (by omega)))
      have HG2 := hide ((unhide HG).trans (by rw [unhide HN]))
      clear hd HG HN
      go_wp2_with (first
        | (go_at_call 64; refine (r_ends q cap rs _ (by exact unhide HL1)).mono ?_; rintro e w2 ⟨rfl, hf2⟩; have HF2 := hide ((unhide HF1).trans0 hf2); have HL2 := hide ((unhide HL1).fr0 hf2); clear hf2)
        | (refine wpList_alloc_blk rfl 105 rfl (some 9) rfl 128 _ Tryz.zeroSet ?_; intro w3 hf3 hs3 hB3; have HF3 := hide ((unhide HF2).trans0 hf3); have HL3 := hide ((unhide HL2).fr0 hf3); have HB3 := hide hB3; have Hs3 := hide hs3; clear hf3 hs3 hB3)
        | (refine wpList_store_blk rfl 105 (.tmp 9) (.tmp 44) rfl w2.heap.size 0 128 128 (sF fun _ => false) (sF (rEnds rs)) rfl rfl (by exact unhide HB3) Tryz.sizeSet (by omega) (by intro i hi; rfl) ?_; intro w4 hf4 hs4 hB4; have HF4 := hide ((unhide HF3).trans1 hf4 (Or.inr (unhide HF2).size)); have HL4 := hide ((unhide HL3).fr hf4 (by have := (unhide HL2).lt; simp; omega)); have HB4 := hide (hB4.congr fun i hi => lay_all _ _ _ i hi); clear hf4 hs4 hB4)
        | (go_at_call 65; refine (r_used q cap rs _ (by exact unhide HL4) hpos).mono ?_; rintro e w5 ⟨rfl, hf5⟩; have HF5 := hide ((unhide HF4).trans0 hf5); have HL5 := hide ((unhide HL4).fr0 hf5); have HB5 := hide ((unhide HB4).fr0 hf5); clear hf5)
        | (refine wpList_alloc_blk rfl 105 rfl (some 10) rfl 128 _ Tryz.zeroSet ?_; intro w6 hf6 hs6 hB6; have HF6 := hide ((unhide HF5).trans0 hf6); have HL6 := hide ((unhide HL5).fr0 hf6); have HB6 := hide ((unhide HB5).fr0 hf6); have HC6 := hide hB6; clear hf6 hs6 hB6)
        | (refine wpList_store_blk rfl 105 (.tmp 10) (.tmp 46) rfl w5.heap.size 0 128 128 (sF fun _ => false) (sF (rUsed rs)) rfl rfl (by exact unhide HC6) Tryz.sizeSet (by omega) (by intro i hi; rfl) ?_; intro w7 hf7 hs7 hB7; have HF7 := hide ((unhide HF6).trans1 hf7 (Or.inr (unhide HF5).size)); have HL7 := hide ((unhide HL6).fr hf7 (by have := (unhide HL5).lt; simp; omega)); have HB7 := hide ((unhide HB6).fr1 hf7 (by have := (unhide HB5).lt; omega)); have HC7 := hide (hB7.congr fun i hi => lay_all _ _ _ i hi); clear hf7 hs7 hB7))
      go_loop [11] (fun a => ∃ i : Nat, i ≤ rs.length ∧ a = .int .i64 i ∧ Hid (rDead (rEnds rs) (rUsed rs) rs = rDead (rEnds rs) (rUsed rs) (rs.drop i))) (fun a => rs.length - (intOf a).toNat)
      case atStart => exact ⟨0, by omega, rfl, rfl⟩
      case round =>
        obtain ⟨j, hj, rfl, hd⟩ := hrel
        by_cases hjt : j < rs.length
        · obtain ⟨a0, a1, a2⟩ := (unhide HL7).ru j hjt
          have hL : rs[j].L < 128 := big_lt ((unhide HL7).ok j hjt).1
          have b0 : w7.cell? ⟨w2.heap.size, rs[j].L, none⟩ = some (.bool (rEnds rs rs[j].L)) := (unhide HB7).cell _ hL
          have b1 : w7.cell? ⟨w5.heap.size, rs[j].L, none⟩ = some (.bool (rUsed rs rs[j].L)) := (unhide HC7).cell _ hL
          have HU := hide ((unhide hd).trans (rDead_drop _ _ rs j hjt))
          clear hd
          cases h1 : rEnds rs rs[j].L
          · have HN := hide ((unhide HG2).trans (by rw [unhide HU, h1]; first | done | rfl))
            rw [h1] at b0
            go_wp2
            go_quiet (fail)
            go_wp2
            go_ret3
            exact ReadOut.bad (unhide HN) (by decide) ((unhide HF7).trans0 (fr_drewN _ _)) rfl
          · rw [h1] at b0
            cases h2 : rUsed rs rs[j].L
            · have HN := hide ((unhide HG2).trans (by rw [unhide HU, h1, h2]; first | done | rfl))
              rw [h2] at b1
              go_wp2
              go_quiet (fail)
              go_wp2
              go_ret3
              exact ReadOut.bad (unhide HN) (by decide) ((unhide HF7).trans0 (fr_drewN _ _)) rfl
            · have HN := hide ((unhide HU).trans (by rw [h1, h2]; first | done | rfl))
              rw [h2] at b1
              go_wp2
              go_round
              case rel => exact ⟨j + 1, by omega, by go_num, HN⟩
              case measure => simp [intOf]; omega
        · have HN := hide (show rErr t = (0, 0) from (unhide HG2).trans (by rw [unhide hd, List.drop_of_length_le (by omega)]; first | done | rfl))
          clear hd
          go_wp2
          go_ret3
          exact ⟨unhide HF7, fun h => absurd (by rw [unhide HN]) h, fun _ => ⟨ht, unhide HOk, q, cap, by rw [unhide HPP]; rfl, by rw [unhide HPP]; exact unhide HL7, unhide HQ⟩⟩
end Go.Proofs.YtkglggkkbmmjkaaGreatDoor
