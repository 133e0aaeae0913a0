import Derived.Test.YtkglggkkbmmjkaaDoorH0Model
namespace Go.Proofs.YtkglggkkbmmjkaaDoor
open Go.RowKit

set_option maxHeartbeats 400000 in
theorem p_isBig (c : Nat) (w : World) :
    Calls Tryd.prog 44 #[.int .u8 c] w fun e w' => e = .returned (.bool (bigB c)) ∧ w' = w := by
  by_cases h1 : (65 : Int) ≤ c <;> by_cases h2 : (c : Int) ≤ 90
  all_goals
    go_enter Tryd.func44, Tryd.ntmps44
    go_wp2
    go_ret
    exact ⟨by simp [bigB_int, h1, h2], rfl⟩

set_option maxHeartbeats 400000 in
theorem p_isSmall (c : Nat) (w : World) :
    Calls Tryd.prog 42 #[.int .u8 c] w fun e w' => e = .returned (.bool (smallB c)) ∧ w' = w := by
  by_cases h1 : (97 : Int) ≤ c <;> by_cases h2 : (c : Int) ≤ 122
  all_goals
    go_enter Tryd.func42, Tryd.ntmps42
    go_wp2
    go_ret
    exact ⟨by simp [smallB_int, h1, h2], rfl⟩

set_option maxHeartbeats 400000 in
theorem p_isLetter (c : Nat) (w : World) :
    Calls Tryd.prog 28 #[.int .u8 c] w fun e w' => e = .returned (.bool (letB c)) ∧ w' = w := by
  cases hb : bigB c
  all_goals
    go_enter Tryd.func28, Tryd.ntmps28
    go_wp2_with (first | (go_at_call 44; refine (p_isBig _ _).mono ?_; rintro e w' ⟨rfl, rfl⟩) | (go_at_call 42; refine (p_isSmall _ _).mono ?_; rintro e w' ⟨rfl, rfl⟩))
    go_ret
    exact ⟨by simp [letB, hb], rfl⟩

/-- a set of big letters lies in memory -/
def SetAt (w : World) (b off : Nat) (S : Nat → Bool) : Prop := ∀ k, k < 26 → w.cell? ⟨b, off + k, none⟩ = some (.bool (S (65 + k)))

set_option maxHeartbeats 400000 in
theorem p_has (b off c : Nat) (S : Nat → Bool) (w : World) (hc : SetAt w b off S) :
    Calls Tryd.prog 66 #[.pointer (some ⟨b, off, none⟩), .int .u8 c] w fun e w' => e = .returned (.bool (hasB S c)) ∧ w' = w := by
  by_cases hb : bigB c = true
  · have h := bigB_iff.1 hb
    obtain ⟨k, rfl⟩ : ∃ k, c = 65 + k := ⟨c - 65, by omega⟩
    have hk := hc k (by omega)
    clear hc
    go_enter Tryd.func66, Tryd.ntmps66
    go_wp2_with (go_at_call 44; refine (p_isBig _ _).mono ?_; rintro e w' ⟨rfl, rfl⟩)
    go_ret
    exact ⟨by simp [hasB, hb], rfl⟩
  · have hb : bigB c = false := by simpa using hb
    clear hc
    go_enter Tryd.func66, Tryd.ntmps66
    go_wp2_with (go_at_call 44; refine (p_isBig _ _).mono ?_; rintro e w' ⟨rfl, rfl⟩)
    go_ret
    exact ⟨by simp [hasB, hb], rfl⟩

def addF (f : Nat → Value) (off c : Nat) : Nat → Value := if bigB c then upd f (off + (c - 65)) (.bool true) else f

set_option maxHeartbeats 400000 in
theorem p_add (b off c n : Nat) (f : Nat → Value) (w : World) (hB : Blk w b n f) (hn : off + 26 ≤ n) :
    Calls Tryd.prog 70 #[.pointer (some ⟨b, off, none⟩), .int .u8 c] w fun e w' => e = .returned (.tuple #[]) ∧ Fr [b] w w' ∧ w'.heap.size = w.heap.size ∧ Blk w' b n (addF f off c) := by
  by_cases hb : bigB c = true
  · have h := bigB_iff.1 hb
    obtain ⟨k, rfl⟩ : ∃ k, c = 65 + k := ⟨c - 65, by omega⟩
    have hk := hB.cell (off + k) (by omega)
    have hz := hB.free (off + k)
    have hB' := hB.setCell (off + k) (.bool true)
    have hF := (Fr.refl [b] w).setCell ⟨b, off + k, none⟩ (by simp) (.bool true)
    have fin : Fr [b] w (w.setCell ⟨b, off + k, none⟩ (.bool true)) ∧ (w.setCell ⟨b, off + k, none⟩ (.bool true)).heap.size = w.heap.size ∧ Blk (w.setCell ⟨b, off + k, none⟩ (.bool true)) b n (addF f off (65 + k)) := by
      refine ⟨hF, by simp, ?_⟩
      simpa [addF, hb] using hB'
    have HF : Hid (Fr [b] w (w.setCell ⟨b, off + k, none⟩ (.bool true)) ∧ (w.setCell ⟨b, off + k, none⟩ (.bool true)).heap.size = w.heap.size ∧ Blk (w.setCell ⟨b, off + k, none⟩ (.bool true)) b n (addF f off (65 + k))) := fin
    clear fin hB' hF hB
    go_enter Tryd.func70, Tryd.ntmps70
    go_wp2_with (go_at_call 44; refine (p_isBig _ _).mono ?_; rintro e w' ⟨rfl, rfl⟩)
    go_end0
    exact ⟨rfl, HF.out⟩
  · have hb : bigB c = false := by simpa using hb
    have HB : Hid (Blk w b n f) := hB
    clear hB
    go_enter Tryd.func70, Tryd.ntmps70
    go_wp2_with (go_at_call 44; refine (p_isBig _ _).mono ?_; rintro e w' ⟨rfl, rfl⟩)
    go_end0
    exact ⟨rfl, Fr.refl _ _, rfl, by simpa [addF, hb] using HB.out⟩

set_option maxHeartbeats 400000 in
theorem p_vanishes (s : ByteArray) (b off : Nat) (S : Nat → Bool) (sm : Bool) (w : World) (hs : s.size ≤ 1000) (hc : SetAt w b off S) :
    Calls Tryd.prog 69 #[.string s, .pointer (some ⟨b, off, none⟩), .bool sm] w fun e w' => e = .returned (.bool ((bytes s).all (vanB S sm))) ∧ w' = w := by
  go_enter Tryd.func69, Tryd.ntmps69
  go_wp2
  go_loop [7] (fun i => ∃ k : Nat, k ≤ s.size ∧ i = .int .i64 k ∧ ((bytes s).take k).all (vanB S sm) = true) (fun i => s.size - (intOf i).toNat)
  case atStart => exact ⟨0, Nat.zero_le _, rfl, by simp⟩
  case round =>
    obtain ⟨k, hk, rfl, hall⟩ := hrel
    by_cases hlt : k < s.size
    · have hch := ch_eq s k hlt
      have hsn := bytes_snoc s k hlt
      by_cases hv : vanB S sm (ch s k) = true
      · have hall' : Hid (((bytes s).take (k + 1)).all (vanB S sm) = true) := by
          show _ = _
          rw [hsn, List.all_append, hall]; simp [hv]
        rw [hch] at hv
        clear hall hsn hch
        simp only [vanB, Bool.or_eq_true, Bool.and_eq_true] at hv
        cases sm <;> cases h1 : smallB s[k].toNat <;> simp only [h1, and_true, and_false, false_or, true_or, Bool.false_eq_true] at hv
        all_goals
          go_wp2_with (first | (go_at_call 42; refine (p_isSmall _ _).mono ?_; rintro e w' ⟨rfl, rfl⟩) | (go_at_call 66; refine (p_has _ _ _ S _ hc).mono ?_; rintro e w' ⟨rfl, rfl⟩))
          go_round
          case rel => exact ⟨k + 1, by omega, by go_num, hall'.out⟩
          case measure => simp [intOf]; omega
      · have hf : Hid ((bytes s).all (vanB S sm) = false) := by
          show _ = _
          rw [← List.take_append_drop (k + 1) (bytes s), List.all_append, hsn, List.all_append]
          simp [hv]
        rw [hch] at hv
        clear hall hsn hch
        have h2 : hasB S s[k].toNat = false := by cases h : hasB S s[k].toNat <;> simp_all [vanB]
        have h3 : sm = true → smallB s[k].toNat = false := by intro e; cases h : smallB s[k].toNat <;> simp_all [vanB]
        clear hv
        cases sm
        · clear h3
          go_wp2_with (first | (go_at_call 42; refine (p_isSmall _ _).mono ?_; rintro e w' ⟨rfl, rfl⟩) | (go_at_call 66; refine (p_has _ _ _ S _ hc).mono ?_; rintro e w' ⟨rfl, rfl⟩))
          go_ret
          exact ⟨ret_bool (a := false) hf.out.symm, rfl⟩
        · have h3 := h3 rfl
          go_wp2_with (first | (go_at_call 42; refine (p_isSmall _ _).mono ?_; rintro e w' ⟨rfl, rfl⟩) | (go_at_call 66; refine (p_has _ _ _ S _ hc).mono ?_; rintro e w' ⟨rfl, rfl⟩))
          go_ret
          exact ⟨ret_bool (a := false) hf.out.symm, rfl⟩
    · have hf : Hid ((bytes s).all (vanB S sm) = true) := by
        show _ = _
        rw [← bytes_take_all s k (by omega)]; exact hall
      clear hall
      go_wp2
      go_ret
      exact ⟨ret_bool (a := true) hf.out.symm, rfl⟩

end Go.Proofs.YtkglggkkbmmjkaaDoor

namespace Go.Proofs.YtkglggkkbmmjkaaDoor
open Go.RowKit

def addAllF (f : Nat → Value) (off : Nat) (l : List Nat) : Nat → Value := l.foldl (fun f c => addF f off c) f

set_option maxHeartbeats 400000 in
theorem p_addBigLetters (s : ByteArray) (b off n : Nat) (f : Nat → Value) (w : World) (hs : s.size ≤ 1000) (hB : Blk w b n f) (hn : off + 26 ≤ n) :
    Calls Tryd.prog 80 #[.pointer (some ⟨b, off, none⟩), .string s] w fun e w' => e = .returned (.tuple #[]) ∧ Fr [b] w w' ∧ w'.heap.size = w.heap.size ∧ Blk w' b n (addAllF f off (bytes s)) := by
  have HB : Hid (Blk w b n f) := hB
  clear hB
  go_enter Tryd.func80, Tryd.ntmps80
  go_wp2
  go_loopw [4] (fun i wr => ∃ k : Nat, k ≤ s.size ∧ i = .int .i64 k ∧ Hid (Fr [b] w wr ∧ wr.heap.size = w.heap.size ∧ Blk wr b n (addAllF f off ((bytes s).take k)))) (fun i _ => s.size - (intOf i).toNat)
  case atStart => exact ⟨0, Nat.zero_le _, rfl, Fr.refl _ _, rfl, by simpa [addAllF] using HB.out⟩
  case round =>
    obtain ⟨k, hk, rfl, hh⟩ := hrel
    by_cases hlt : k < s.size
    · have hch : Hid (ch s k = s[k].toNat) := ch_eq s k hlt
      have hsn : Hid ((bytes s).take (k + 1) = (bytes s).take k ++ [ch s k]) := bytes_snoc s k hlt
      go_wp2_with (go_at_call 70; refine (p_add _ _ _ _ _ _ hh.out.2.2 hn).mono ?_; rintro e w1 ⟨rfl, hf1⟩)
      have hh2 : Hid (Fr [b] w w1 ∧ w1.heap.size = w.heap.size ∧ Blk w1 b n (addAllF f off ((bytes s).take (k + 1)))) := by
        refine ⟨hh.out.1.trans hf1.1 (by simp), by rw [hf1.2.1, hh.out.2.1], ?_⟩
        rw [hsn.out, hch.out]; simpa [addAllF] using hf1.2.2
      go_roundw
      case rel => exact ⟨k + 1, by omega, by go_num, hh2⟩
      case measure => simp [intOf]; omega
    · have hh2 : Hid (Fr [b] w wr ∧ wr.heap.size = w.heap.size ∧ Blk wr b n (addAllF f off (bytes s))) := by
        have := hh.out
        rw [bytes_take_all s k (by omega)] at this; exact this
      clear hh
      go_wp2
      go_end0
      exact ⟨rfl, hh2.out⟩

/-- the two cells of a refusal -/
def refF (f : Nat → Value) (e p : Int) : Nat → Value := upd (upd f 756 (.int .i64 e)) 757 (.int .i64 p)

set_option maxHeartbeats 400000 in
theorem p_refuse (b : Nat) (e p : Int) (f : Nat → Value) (w : World) (hB : Blk w b 758 f) :
    Calls Tryd.prog 52 #[.pointer (some ⟨b, 0, none⟩), .int .i64 e, .int .i64 p] w fun e' w' => e' = .returned (.tuple #[]) ∧ Fr [b] w w' ∧ w'.heap.size = w.heap.size ∧ Blk w' b 758 (refF f e p) := by
  have h6 := hB.cell 756 (by omega)
  have h7 := hB.cell 757 (by omega)
  have z6 := hB.free 756
  have z7 := hB.free 757
  have fin : Hid (Fr [b] w ((w.setCell ⟨b, 756, none⟩ (.int .i64 e)).setCell ⟨b, 757, none⟩ (.int .i64 p)) ∧ ((w.setCell ⟨b, 756, none⟩ (.int .i64 e)).setCell ⟨b, 757, none⟩ (.int .i64 p)).heap.size = w.heap.size ∧
      Blk ((w.setCell ⟨b, 756, none⟩ (.int .i64 e)).setCell ⟨b, 757, none⟩ (.int .i64 p)) b 758 (refF f e p)) :=
    ⟨((Fr.refl [b] w).setCell _ (by simp) _).setCell _ (by simp) _, by simp, (hB.setCell 756 _).setCell 757 _⟩
  clear hB
  go_enter Tryd.func52, Tryd.ntmps52
  go_wp2
  go_end0
  exact ⟨rfl, fin.out⟩

set_option maxHeartbeats 400000 in
theorem p_rightPlace (b A : Nat) (w : World) (hA : A ≤ 1000) (hc : w.cell? ⟨b, 2, none⟩ = some (.int .i64 A)) :
    Calls Tryd.prog 67 #[.pointer (some ⟨b, 0, none⟩)] w fun e w' => e = .returned (.int .i64 (A + 2)) ∧ w' = w := by
  go_enter Tryd.func67, Tryd.ntmps67
  go_wp2
  go_ret
  exact ⟨rfl, rfl⟩

end Go.Proofs.YtkglggkkbmmjkaaDoor

namespace Go.Proofs.YtkglggkkbmmjkaaDoor
open Go.RowKit

set_option maxHeartbeats 400000 in
theorem p_readRule_bad0 (t : ByteArray) (i : Nat) (w : World) (_ht : t.size ≤ 32) (_hi : i ≤ 100) (hb : ¬ (i < t.size ∧ bigB (ch t i) = true)) :
    Calls Tryd.prog 64 #[.string t, .int .i64 i] w fun e w' => Fr [] w w' ∧ e = .returned (.tuple #[.agg #[.int .u8 0, .string ⟨#[]⟩, .int .i64 0], .int .i64 i, .bool false]) := by
  by_cases hlt : i < t.size
  · have hb' : bigB t[i].toNat = false := by
      rw [← ch_eq t i hlt]
      cases h : bigB (ch t i) <;> simp_all
    clear hb
    go_enter Tryd.func64, Tryd.ntmps64
    go_wp2_with (go_at_call 44; refine (p_isBig _ _).mono ?_; rintro e w' ⟨rfl, rfl⟩)
    exact bodyPost_ret (v := .tuple #[.agg #[.int .u8 0, .string ⟨#[]⟩, .int .i64 0], .int .i64 i, .bool false]) (by simp [results, Tryd.results64, go_sem]) rfl ⟨((Fr.refl _ _).alloc _).alloc _, rfl⟩
  · clear hb
    go_enter Tryd.func64, Tryd.ntmps64
    go_wp2
    exact bodyPost_ret (v := .tuple #[.agg #[.int .u8 0, .string ⟨#[]⟩, .int .i64 0], .int .i64 i, .bool false]) (by simp [results, Tryd.results64, go_sem]) rfl ⟨((Fr.refl _ _).alloc _).alloc _, rfl⟩

set_option maxHeartbeats 400000 in
theorem p_readRule_bad1 (t : ByteArray) (i : Nat) (w : World) (_ht : t.size ≤ 32) (hlt : i < t.size) (hb : bigB (ch t i) = true) (hb1 : ¬ (i + 1 < t.size ∧ ch t (i + 1) = 61)) :
    Calls Tryd.prog 64 #[.string t, .int .i64 i] w fun e w' => Fr [] w w' ∧ e = .returned (.tuple #[.agg #[.int .u8 0, .string ⟨#[]⟩, .int .i64 0], .int .i64 (i + 1), .bool false]) := by
  rw [ch_eq t i hlt] at hb
  by_cases hlt1 : i + 1 < t.size
  · have hb' : ((t[i + 1].toNat : Int) != 61) = true := by
      rw [bne_iff_ne]; rw [ch_eq t (i + 1) hlt1] at hb1
      intro h; exact hb1 ⟨hlt1, by omega⟩
    clear hb1
    go_enter Tryd.func64, Tryd.ntmps64
    go_wp2_with (go_at_call 44; refine (p_isBig _ _).mono ?_; rintro e w' ⟨rfl, rfl⟩)
    exact bodyPost_ret (v := .tuple #[.agg #[.int .u8 0, .string ⟨#[]⟩, .int .i64 0], .int .i64 (i + 1), .bool false]) (by simp [results, Tryd.results64, go_sem]) rfl ⟨((Fr.refl _ _).alloc _).alloc _, rfl⟩
  · clear hb1
    go_enter Tryd.func64, Tryd.ntmps64
    go_wp2_with (go_at_call 44; refine (p_isBig _ _).mono ?_; rintro e w' ⟨rfl, rfl⟩)
    exact bodyPost_ret (v := .tuple #[.agg #[.int .u8 0, .string ⟨#[]⟩, .int .i64 0], .int .i64 (i + 1), .bool false]) (by simp [results, Tryd.results64, go_sem]) rfl ⟨((Fr.refl _ _).alloc _).alloc _, rfl⟩

theorem runEnd_step (t : ByteArray) (i k : Nat) (h : i + k < t.size) (hk : k < 4) (hl : letB (ch t (i + k)) = true) : runEnd t (4 - k) (i + k) = runEnd t (4 - (k + 1)) (i + (k + 1)) := by
  rw [show 4 - k = (4 - (k + 1)) + 1 from by omega]
  rw [runEnd, if_pos ⟨h, hl⟩]; rfl
theorem runEnd_stop (t : ByteArray) (i k : Nat) (h : ¬ (i + k < t.size ∧ k < 4 ∧ letB (ch t (i + k)) = true)) (hk : k ≤ 4) : runEnd t (4 - k) (i + k) = i + k := by
  by_cases e : k = 4
  · subst e; simp [runEnd]
  · rw [show 4 - k = (4 - (k + 1)) + 1 from by omega]
    rw [runEnd, if_neg (by intro hh; exact h ⟨hh.1, by omega, hh.2⟩)]

set_option maxHeartbeats 1000000 in
theorem p_readRule_ok (t : ByteArray) (i : Nat) (w : World) (ht : t.size ≤ 32) (hlt : i < t.size) (hb : bigB (ch t i) = true) (hlt1 : i + 1 < t.size) (hb1 : ch t (i + 1) = 61) :
    Calls Tryd.prog 64 #[.string t, .int .i64 i] w fun e w' => Fr [] w w' ∧ e = .returned (.tuple #[.agg #[.int .u8 (ch t i), .string (t.extract (i + 2) (runEnd t 4 (i + 2))), .int .i64 i], .int .i64 (runEnd t 4 (i + 2)), .bool true]) := by
  have hbd := runEnd_bd t 4 (i + 2)
  rw [ch_eq t i hlt] at hb
  have hb' : ((t[i + 1].toNat : Int) != 61) = false := by
    rw [ch_eq t (i + 1) hlt1] at hb1; simp; omega
  have HI : Hid (ch t i = t[i].toNat) := ch_eq t i hlt
  clear hb1
  go_enter Tryd.func64, Tryd.ntmps64
  go_wp2_with (go_at_call 44; refine (p_isBig _ _).mono ?_; rintro e w' ⟨rfl, rfl⟩)
  go_loop [10] (fun e => ∃ k : Nat, k ≤ 4 ∧ i + 2 + k ≤ t.size ∧ e = .int .i64 (i + 2 + k : Nat) ∧ Hid (runEnd t 4 (i + 2) = runEnd t (4 - k) (i + 2 + k))) (fun e => t.size - (intOf e).toNat)
  case atStart => exact ⟨0, by omega, by omega, by go_num, rfl⟩
  case round =>
    obtain ⟨k, hk, hk2, rfl, hr⟩ := hrel
    by_cases h1 : i + 2 + k < t.size
    · by_cases h2 : k < 4
      · cases h3 : letB t[i + 2 + k].toNat
        · have he : Hid (runEnd t 4 (i + 2) = i + 2 + k) := by
            show _ = _
            rw [hr.out]; exact runEnd_stop t (i + 2) k (by rw [ch_eq t _ h1]; simp [h3]) hk
          go_wp2_with (go_at_call 28; refine (p_isLetter _ _).mono ?_; rintro e w' ⟨rfl, rfl⟩)
          exact bodyPost_ret (v := .tuple #[.agg #[.int .u8 t[i].toNat, .string (t.extract (i + 1 + 1) (i + 2 + k)), .int .i64 i], .int .i64 (i + 2 + k), .bool true]) (by simp [results, Tryd.results64, go_sem]) rfl ⟨((Fr.refl _ _).alloc _).alloc _, by rw [he.out, HI.out]; simp⟩
        · have he : Hid (runEnd t 4 (i + 2) = runEnd t (4 - (k + 1)) (i + 2 + (k + 1))) := by
            show _ = _
            rw [hr.out]; exact runEnd_step t (i + 2) k h1 h2 (by rw [ch_eq t _ h1]; exact h3)
          go_wp2_with (go_at_call 28; refine (p_isLetter _ _).mono ?_; rintro e w' ⟨rfl, rfl⟩)
          go_round
          case rel => exact ⟨k + 1, by omega, by omega, by go_num, he⟩
          case measure => simp [intOf]; omega
      · have he : Hid (runEnd t 4 (i + 2) = i + 2 + k) := by
          show _ = _
          rw [hr.out]; exact runEnd_stop t (i + 2) k (by omega) hk
        go_wp2
        exact bodyPost_ret (v := .tuple #[.agg #[.int .u8 t[i].toNat, .string (t.extract (i + 1 + 1) (i + 2 + k)), .int .i64 i], .int .i64 (i + 2 + k), .bool true]) (by simp [results, Tryd.results64, go_sem]) rfl ⟨((Fr.refl _ _).alloc _).alloc _, by rw [he.out, HI.out]; simp⟩
    · have he : Hid (runEnd t 4 (i + 2) = i + 2 + k) := by
        show _ = _
        rw [hr.out]; exact runEnd_stop t (i + 2) k (by omega) hk
      go_wp2
      exact bodyPost_ret (v := .tuple #[.agg #[.int .u8 t[i].toNat, .string (t.extract (i + 1 + 1) (i + 2 + k)), .int .i64 i], .int .i64 (i + 2 + k), .bool true]) (by simp [results, Tryd.results64, go_sem]) rfl ⟨((Fr.refl _ _).alloc _).alloc _, by rw [he.out, HI.out]; simp⟩
end Go.Proofs.YtkglggkkbmmjkaaDoor
