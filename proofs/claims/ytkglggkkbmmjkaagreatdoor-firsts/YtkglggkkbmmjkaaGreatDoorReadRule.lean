import Derived.Test.YtkglggkkbmmjkaaGreatDoorRead
namespace Go.Proofs.YtkglggkkbmmjkaaGreatDoor
open Go.RowKit

set_option maxHeartbeats 400000 in
theorem p_readRule_bad0 (t : ByteArray) (i : Nat) (w : World) (_ht : t.size ≤ 32) (_hi : i ≤ 100) (hb : ¬ (i < t.size ∧ bigB (ch t i) = true)) :
    Calls Tryz.prog 108 #[.string t, .int .i64 i] w fun e w' => Fr [] w w' ∧ e = .returned (.tuple #[.agg #[.int .u8 0, .string ⟨#[]⟩, .int .i64 0], .int .i64 i, .bool false]) := by
  by_cases hlt : i < t.size
  · have hb' : bigB t[i].toNat = false := by
      rw [← ch_eq t i hlt]
      cases h : bigB (ch t i) <;> simp_all
    clear hb
    go_enter Tryz.func108, Tryz.ntmps108
    go_wp2_with (go_at_call 74; refine (p_isBig _ _).mono ?_; rintro e w' ⟨rfl, rfl⟩)
    exact bodyPost_ret (v := .tuple #[.agg #[.int .u8 0, .string ⟨#[]⟩, .int .i64 0], .int .i64 i, .bool false]) (by simp [results, Tryz.results108, go_sem]) rfl ⟨((Fr.refl _ _).alloc _).alloc _, rfl⟩
  · clear hb
    go_enter Tryz.func108, Tryz.ntmps108
    go_wp2
    exact bodyPost_ret (v := .tuple #[.agg #[.int .u8 0, .string ⟨#[]⟩, .int .i64 0], .int .i64 i, .bool false]) (by simp [results, Tryz.results108, go_sem]) rfl ⟨((Fr.refl _ _).alloc _).alloc _, rfl⟩

set_option maxHeartbeats 400000 in
theorem p_readRule_bad1 (t : ByteArray) (i : Nat) (w : World) (_ht : t.size ≤ 32) (hlt : i < t.size) (hb : bigB (ch t i) = true) (hb1 : ¬ (i + 1 < t.size ∧ ch t (i + 1) = 61)) :
    Calls Tryz.prog 108 #[.string t, .int .i64 i] w fun e w' => Fr [] w w' ∧ e = .returned (.tuple #[.agg #[.int .u8 0, .string ⟨#[]⟩, .int .i64 0], .int .i64 (i + 1), .bool false]) := by
  rw [ch_eq t i hlt] at hb
  by_cases hlt1 : i + 1 < t.size
  · have hb' : ((t[i + 1].toNat : Int) != 61) = true := by
      rw [bne_iff_ne]; rw [ch_eq t (i + 1) hlt1] at hb1
      intro h; exact hb1 ⟨hlt1, by omega⟩
    clear hb1
    go_enter Tryz.func108, Tryz.ntmps108
    go_wp2_with (go_at_call 74; refine (p_isBig _ _).mono ?_; rintro e w' ⟨rfl, rfl⟩)
    exact bodyPost_ret (v := .tuple #[.agg #[.int .u8 0, .string ⟨#[]⟩, .int .i64 0], .int .i64 (i + 1), .bool false]) (by simp [results, Tryz.results108, go_sem]) rfl ⟨((Fr.refl _ _).alloc _).alloc _, rfl⟩
  · clear hb1
    go_enter Tryz.func108, Tryz.ntmps108
    go_wp2_with (go_at_call 74; refine (p_isBig _ _).mono ?_; rintro e w' ⟨rfl, rfl⟩)
    exact bodyPost_ret (v := .tuple #[.agg #[.int .u8 0, .string ⟨#[]⟩, .int .i64 0], .int .i64 (i + 1), .bool false]) (by simp [results, Tryz.results108, go_sem]) rfl ⟨((Fr.refl _ _).alloc _).alloc _, rfl⟩

theorem runEnd_step (t : ByteArray) (i k : Nat) (h : i + k < t.size) (hk : k < 4) (hl : letB (ch t (i + k)) = true) : runEnd t (4 - k) (i + k) = runEnd t (4 - (k + 1)) (i + (k + 1)) := by
  rw [show 4 - k = (4 - (k + 1)) + 1 from by omega]
  rw [runEnd, if_pos ⟨h, hl⟩]; rfl
theorem runEnd_stop (t : ByteArray) (i k : Nat) (h : ¬ (i + k < t.size ∧ k < 4 ∧ letB (ch t (i + k)) = true)) (hk : k ≤ 4) : runEnd t (4 - k) (i + k) = i + k := by
  by_cases e : k = 4
  · subst e; simp [runEnd]
  · rw [show 4 - k = (4 - (k + 1)) + 1 from by omega]
    rw [runEnd, if_neg (by intro hh; exact h ⟨hh.1, by omega, hh.2⟩)]

set_option maxHeartbeats 1000000 in
theorem p_readRule_ok (t : ByteArray) (i : Nat) (w : World) (ht : t.size ≤ 32) (hlt : i < t.size) (hb : bigB (ch t i) = true) (hlt1 : i + 1 < t.size) (hb1 : ch t (i + 1) = 61) :
    Calls Tryz.prog 108 #[.string t, .int .i64 i] w fun e w' => Fr [] w w' ∧ e = .returned (.tuple #[.agg #[.int .u8 (ch t i), .string (t.extract (i + 2) (runEnd t 4 (i + 2))), .int .i64 i], .int .i64 (runEnd t 4 (i + 2)), .bool true]) := by
  have hbd := runEnd_bd t 4 (i + 2)
  rw [ch_eq t i hlt] at hb
  have hb' : ((t[i + 1].toNat : Int) != 61) = false := by
    rw [ch_eq t (i + 1) hlt1] at hb1; simp; omega
  have HI : Hid (ch t i = t[i].toNat) := ch_eq t i hlt
  clear hb1
  go_enter Tryz.func108, Tryz.ntmps108
  go_wp2_with (go_at_call 74; refine (p_isBig _ _).mono ?_; rintro e w' ⟨rfl, rfl⟩)
  go_loop [10] (fun e => ∃ k : Nat, k ≤ 4 ∧ i + 2 + k ≤ t.size ∧ e = .int .i64 (i + 2 + k : Nat) ∧ Hid (runEnd t 4 (i + 2) = runEnd t (4 - k) (i + 2 + k))) (fun e => t.size - (intOf e).toNat)
  case atStart => exact ⟨0, by omega, by omega, by go_num, rfl⟩
  case round =>
    obtain ⟨k, hk, hk2, rfl, hr⟩ := hrel
    by_cases h1 : i + 2 + k < t.size
    · by_cases h2 : k < 4
      · cases h3 : letB t[i + 2 + k].toNat
        · have he : Hid (runEnd t 4 (i + 2) = i + 2 + k) := by
            show _ = _
            rw [hr.out]; exact runEnd_stop t (i + 2) k (by rw [ch_eq t _ h1]; simp [h3]) hk
          go_wp2_with (go_at_call 81; refine (p_isLetter _ _).mono ?_; rintro e w' ⟨rfl, rfl⟩)
          exact bodyPost_ret (v := .tuple #[.agg #[.int .u8 t[i].toNat, .string (t.extract (i + 1 + 1) (i + 2 + k)), .int .i64 i], .int .i64 (i + 2 + k), .bool true]) (by simp [results, Tryz.results108, go_sem]) rfl ⟨((Fr.refl _ _).alloc _).alloc _, by rw [he.out, HI.out]; simp⟩
        · have he : Hid (runEnd t 4 (i + 2) = runEnd t (4 - (k + 1)) (i + 2 + (k + 1))) := by
            show _ = _
            rw [hr.out]; exact runEnd_step t (i + 2) k h1 h2 (by rw [ch_eq t _ h1]; exact h3)
          go_wp2_with (go_at_call 81; refine (p_isLetter _ _).mono ?_; rintro e w' ⟨rfl, rfl⟩)
          go_round
          case rel => exact ⟨k + 1, by omega, by omega, by go_num, he⟩
          case measure => simp [intOf]; omega
      · have he : Hid (runEnd t 4 (i + 2) = i + 2 + k) := by
          show _ = _
          rw [hr.out]; exact runEnd_stop t (i + 2) k (by omega) hk
        go_wp2
        exact bodyPost_ret (v := .tuple #[.agg #[.int .u8 t[i].toNat, .string (t.extract (i + 1 + 1) (i + 2 + k)), .int .i64 i], .int .i64 (i + 2 + k), .bool true]) (by simp [results, Tryz.results108, go_sem]) rfl ⟨((Fr.refl _ _).alloc _).alloc _, by rw [he.out, HI.out]; simp⟩
    · have he : Hid (runEnd t 4 (i + 2) = i + 2 + k) := by
        show _ = _
        rw [hr.out]; exact runEnd_stop t (i + 2) k (by omega) hk
      go_wp2
      exact bodyPost_ret (v := .tuple #[.agg #[.int .u8 t[i].toNat, .string (t.extract (i + 1 + 1) (i + 2 + k)), .int .i64 i], .int .i64 (i + 2 + k), .bool true]) (by simp [results, Tryz.results108, go_sem]) rfl ⟨((Fr.refl _ _).alloc _).alloc _, by rw [he.out, HI.out]; simp⟩
end Go.Proofs.YtkglggkkbmmjkaaGreatDoor
