import Derived.Test.YtkglggkkbmmjkaaGreatDoorRNulls
import Derived.Deep.LoopGhost
namespace Go.Proofs.YtkglggkkbmmjkaaGreatDoor
open Go.RowKit

/-- the reference's table: 26 sets -/
def tF (F : Nat → Nat → Bool) : Nat → Value := fun i => .bool (F (65 + i / 128) (i % 128))
theorem tF_at (F : Nat → Nat → Bool) (c i : Nat) (hc : bigB c = true) (hi : i < 128) : tF F ((c - 65) * 128 + i) = .bool (F c i) := by
  have h := bigB_iff.1 hc
  unfold tF
  rw [show (c - 65) * 128 + i = i + 128 * (c - 65) from by omega, Nat.add_mul_mod_self_left, Nat.add_mul_div_left _ _ (by omega), Nat.mod_eq_of_lt hi, Nat.div_eq_of_lt hi, show 65 + (0 + (c - 65)) = c from by omega]
theorem tF_join (F : Nat → Nat → Bool) (c : Nat) (M : Nat → Bool) (hc : bigB c = true) (i : Nat) : orF (tF F) ((c - 65) * 128) 128 (F c) M i = tF (joinF F c M) i := by
  have h := bigB_iff.1 hc
  unfold orF
  by_cases hr : (c - 65) * 128 ≤ i ∧ i < (c - 65) * 128 + 128
  · rw [if_pos hr]
    obtain ⟨k, rfl⟩ : ∃ k, i = (c - 65) * 128 + k := ⟨i - (c - 65) * 128, by omega⟩
    rw [tF_at _ c k hc (by omega), Nat.add_sub_cancel_left]
    simp [joinF]
  · rw [if_neg hr]
    have hne : (65 + i / 128 == c) = false := by
      rw [beq_eq_false_iff_ne]
      intro he
      have hd : i / 128 = c - 65 := by omega
      have := Nat.div_add_mod i 128
      have := Nat.mod_lt i (show 0 < 128 by omega)
      rw [hd] at *
      omega
    unfold tF joinF
    rw [hne, Bool.false_and, Bool.or_false]
theorem sF_or (S M : Nat → Bool) (i : Nat) (hi : i < 128) : orF (sF S) 0 128 S M i = sF (fun x => S x || M x) i := by
  unfold orF sF; rw [if_pos (by omega)]; rfl

/-- the state of begins -/
def BS (w wr : World) (nb no fb : Nat) (N : Nat → Bool) (F : Nat → Nat → Bool) (r0 r1 : Nat) (S : Nat → Bool) : Prop :=
  Fr [] w wr ∧ NAt wr nb no N ∧ Blk wr fb 3328 (tF F) ∧ Blk wr r0 128 (sF fun _ => false) ∧ Blk wr r1 128 (sF S) ∧ w.heap.size ≤ r0 ∧ r0 < r1 ∧ nb < w.heap.size ∧ fb < w.heap.size
theorem BS.put {w wr wr' : World} {nb no fb : Nat} {N : Nat → Bool} {F : Nat → Nat → Bool} {r0 r1 : Nat} {S S' : Nat → Bool} (h : BS w wr nb no fb N F r0 r1 S) (k : Fr [r1] wr wr') (hB : Blk wr' r1 128 (sF S')) : BS w wr' nb no fb N F r0 r1 S' := by
  obtain ⟨h1, h2, h3, h4, h5, h6, h7, h8, h9⟩ := h
  exact ⟨h1.trans1 k (Or.inr (by omega)), h2.fr1 k (by omega), h3.fr1 k (by omega), h4.fr1 k (by omega), hB, h6, h7, h8, h9⟩

set_option maxHeartbeats 1600000 in
theorem r_beginsO (nb no fb cap : Nat) (N : Nat → Bool) (F : Nat → Nat → Bool) (s : ByteArray) (w : World) (hN : NAt w nb no N) (hF : Blk w fb 3328 (tF F)) (hs : s.size ≤ 1000) (hl : ∀ i, i < s.size → letB (ch s i) = true) :
    Calls Tryz.prog 73 #[.pointer (some ⟨nb, no, none⟩), .slice (some ⟨fb, 0, none⟩) 26 cap, .string s] w fun e' w' => e' = .returned (Agg 128 (sF (beg N F (bytes s)))) ∧ Fr [] w w' := by
  have HN := hide hN
  have HFF := hide hF
  have HL := hide hl
  clear hN hF hl
  go_enter Tryz.func73, Tryz.ntmps73
  go_wp2_with (first | (refine wpList_alloc_blk rfl 105 rfl (some 6) rfl 128 _ Tryz.zeroSet ?_; intro w1 hf1 hs1 hB1; have HA := hide (And.intro hf1 (And.intro hs1 hB1)); clear hf1 hs1 hB1) | (refine wpList_alloc_blk rfl 105 rfl (some 7) rfl 128 _ Tryz.zeroSet ?_; intro w2 hf2 hs2 hB2; have HB := hide (And.intro hf2 (And.intro hs2 hB2)); clear hf2 hs2 hB2))
  have HS := hide (show BS w w2 nb no fb N F w.heap.size w1.heap.size (fun _ => false) from
    ⟨(unhide HA).1.trans0 (unhide HB).1, ((unhide HN).fr0 (unhide HA).1).fr0 (unhide HB).1, ((unhide HFF).fr0 (unhide HA).1).fr0 (unhide HB).1, (unhide HA).2.2.fr0 (unhide HB).1, (unhide HB).2.2, Nat.le_refl _, by have := (unhide HA).2.1; omega, (unhide HN).lt, (unhide HFF).lt⟩)
  clear HA HB HN HFF
  go_loopw [8] (fun i wr => ∃ (k : Nat) (S : Nat → Bool), k ≤ s.size ∧ i = .int .i64 k ∧ Hid (∀ x, beg N F (bytes s) x = (S x || beg N F ((bytes s).drop k) x)) ∧ Hid (BS w wr nb no fb N F w.heap.size w1.heap.size S)) (fun i _ => s.size - (intOf i).toNat)
  case atStart => exact ⟨0, fun _ => false, by omega, rfl, fun x => by simp, HS⟩
  case round =>
    obtain ⟨k, S, hk, rfl, hd, hst⟩ := hrel
    by_cases hlt : k < s.size
    · have hch := hide (ch_eq s k hlt)
      have hlt2 : s[k].toNat < 128 := by rw [← unhide hch]; exact let_lt (unhide HL k hlt)
      have HD := hide (show ∀ x, beg N F (bytes s) x = (S x || if smallB (ch s k) then x == ch s k else F (ch s k) x || (hasB N (ch s k) && beg N F ((bytes s).drop (k + 1)) x)) from fun x => by rw [unhide hd x, bytes_drop s k hlt, beg])
      clear hd
      cases h1 : smallB s[k].toNat
      · have hbig : bigB s[k].toNat = true := by
          have := unhide HL k hlt
          rw [unhide hch] at this
          simpa [letB, h1] using this
        have hb := bigB_iff.1 hbig
        have e0 : (0 : Int) ≤ (s[k].toNat : Int) - 65 := by omega
        have e1 : (s[k].toNat : Int) - 65 < 26 := by omega
        have HNe := hide (show w1.heap.size ≠ fb from by have := unhide hst; obtain ⟨_, _, _, _, _, x6, x7, x8, x9⟩ := this; omega)
        have HTM := hide (show ∀ i, i < 128 → tF F ((s[k].toNat - 65) * 128 + i) = .bool (F s[k].toNat i) from fun i hi => tF_at F _ i hbig hi)
        have hoff : (s[k].toNat - 65) * 128 + 128 ≤ 3328 := by omega
        cases hn : N s[k].toNat
        · have HE := hide (show ∀ x, beg N F (bytes s) x = (S x || F s[k].toNat x) from fun x => by rw [unhide HD x, unhide hch, h1, hasB, hn]; simp)
          clear HD
          go_wp2_with (first | (go_at_call 53; refine (r_isSmall_is _ false _ h1).mono ?_; rintro e w' ⟨rfl, rfl⟩) | (go_at_call 77; refine (r_join w1.heap.size 0 128 fb ((s[k].toNat - 65) * 128) 3328 (sF S) (tF F) S (F s[k].toNat) _ (by exact (unhide hst).2.2.2.2.1) (by omega) (fun i _ => by rw [Nat.zero_add]; rfl) (by exact (unhide hst).2.2.1) hoff (unhide HTM) (unhide HNe)).mono ?_; rintro e w4 ⟨rfl, hf4, hs4, hB4⟩; have HS4 := hide ((unhide hst).put hf4 (hB4.congr fun i hi => sF_or S (F s[k].toNat) i hi)); have d4 := ((unhide HS4).2.1.cell s[k].toNat hlt2).trans (congrArg (fun v => some (Value.bool v)) hn); clear hf4 hs4 hB4) | (refine wpList_load_blk rfl 105 (.tmp 7) rfl (some 36) rfl w1.heap.size 0 128 128 (sF (fun x => S x || F s[k].toNat x)) _ rfl (by exact (unhide HS4).2.2.2.2.1) Tryz.underlying105 rfl Tryz.sizeSet (by omega) ?_) | (refine wpList_store_blk rfl 105 (.tmp 6) (.tmp 36) rfl w.heap.size 0 128 128 (sF fun _ => false) (fun i => sF (fun x => S x || F s[k].toNat x) (0 + i)) rfl rfl (by exact (unhide HS4).2.2.2.1) Tryz.sizeSet (by omega) (by intro i hi; rfl) ?_; intro w5 hf5 hs5 hB5))
          exact bodyPost_ret (results_cell Tryz.results73 _ w.heap.size rfl 128 128 (sF (fun x => S x || F s[k].toNat x)) _ (hB5.congr fun i hi => by rw [lay_all _ _ _ i hi, Nat.zero_add]) Tryz.underlying105 rfl Tryz.sizeSet (by omega)) rfl ⟨by rw [show beg N F (bytes s) = (fun x => S x || F s[k].toNat x) from funext fun x => unhide HE x], (unhide HS4).1.trans1 hf5 (Or.inr (Nat.le_refl _))⟩
        · have HE := hide (show ∀ x, beg N F (bytes s) x = ((S x || F s[k].toNat x) || beg N F ((bytes s).drop (k + 1)) x) from fun x => by rw [unhide HD x, unhide hch, h1, hasB, hn, hbig]; simp [Bool.or_assoc])
          clear HD
          go_wp2_with (first | (go_at_call 53; refine (r_isSmall_is _ false _ h1).mono ?_; rintro e w' ⟨rfl, rfl⟩) | (go_at_call 77; refine (r_join w1.heap.size 0 128 fb ((s[k].toNat - 65) * 128) 3328 (sF S) (tF F) S (F s[k].toNat) _ (by exact (unhide hst).2.2.2.2.1) (by omega) (fun i _ => by rw [Nat.zero_add]; rfl) (by exact (unhide hst).2.2.1) hoff (unhide HTM) (unhide HNe)).mono ?_; rintro e w4 ⟨rfl, hf4, hs4, hB4⟩; have HS4 := hide ((unhide hst).put hf4 (hB4.congr fun i hi => sF_or S (F s[k].toNat) i hi)); have d4 := ((unhide HS4).2.1.cell s[k].toNat hlt2).trans (congrArg (fun v => some (Value.bool v)) hn); clear hf4 hs4 hB4))
          go_roundw
          case rel => exact ⟨k + 1, fun x => S x || F s[k].toNat x, by omega, by go_num, HE, HS4⟩
          case measure => simp [intOf]; omega
      · have HE := hide (show ∀ x, beg N F (bytes s) x = (S x || x == s[k].toNat) from fun x => by rw [unhide HD x, unhide hch, h1]; rfl)
        have d0 := (unhide hst).2.2.2.2.1.cell s[k].toNat hlt2
        have z0 := (unhide hst).2.2.2.2.1.free s[k].toNat
        have HS3 := hide (show BS w (wr.setCell ⟨w1.heap.size, s[k].toNat, none⟩ (.bool true)) nb no fb N F w.heap.size w1.heap.size (ins S s[k].toNat) from (unhide hst).put ((Fr.refl _ _).setCell _ (by simp) _) (((unhide hst).2.2.2.2.1.setCell _ _).congr fun i _ => sF_add S _ i))
        clear HD
        go_wp2_with (first | (go_at_call 53; refine (r_isSmall_is _ true _ h1).mono ?_; rintro e w' ⟨rfl, rfl⟩) | (refine wpList_load_blk rfl 105 (.tmp 7) rfl (some 23) rfl w1.heap.size 0 128 128 (sF (ins S s[k].toNat)) _ rfl (by exact (unhide HS3).2.2.2.2.1) Tryz.underlying105 rfl Tryz.sizeSet (by omega) ?_) | (refine wpList_store_blk rfl 105 (.tmp 6) (.tmp 23) rfl w.heap.size 0 128 128 (sF fun _ => false) (fun i => sF (ins S s[k].toNat) (0 + i)) rfl rfl (by exact (unhide HS3).2.2.2.1) Tryz.sizeSet (by omega) (by intro i hi; rfl) ?_; intro w5 hf5 hs5 hB5))
        exact bodyPost_ret (results_cell Tryz.results73 _ w.heap.size rfl 128 128 (sF (ins S s[k].toNat)) _ (hB5.congr fun i hi => by rw [lay_all _ _ _ i hi, Nat.zero_add]) Tryz.underlying105 rfl Tryz.sizeSet (by omega)) rfl ⟨by rw [show beg N F (bytes s) = (ins S s[k].toNat) from funext fun x => unhide HE x], (unhide HS3).1.trans1 hf5 (Or.inr (Nat.le_refl _))⟩
    · have HE := hide (show ∀ x, beg N F (bytes s) x = S x from fun x => by rw [unhide hd x, List.drop_eq_nil_of_le (by rw [bytes_len]; omega), beg, Bool.or_false])
      go_wp2_with (first | (refine wpList_load_blk rfl 105 (.tmp 7) rfl (some 37) rfl w1.heap.size 0 128 128 (sF (S)) _ rfl (by exact (unhide hst).2.2.2.2.1) Tryz.underlying105 rfl Tryz.sizeSet (by omega) ?_) | (refine wpList_store_blk rfl 105 (.tmp 6) (.tmp 37) rfl w.heap.size 0 128 128 (sF fun _ => false) (fun i => sF (S) (0 + i)) rfl rfl (by exact (unhide hst).2.2.2.1) Tryz.sizeSet (by omega) (by intro i hi; rfl) ?_; intro w5 hf5 hs5 hB5))
      exact bodyPost_ret (results_cell Tryz.results73 _ w.heap.size rfl 128 128 (sF (S)) _ (hB5.congr fun i hi => by rw [lay_all _ _ _ i hi, Nat.zero_add]) Tryz.underlying105 rfl Tryz.sizeSet (by omega)) rfl ⟨by rw [show beg N F (bytes s) = (S) from funext fun x => unhide HE x], (unhide hst).1.trans1 hf5 (Or.inr (Nat.le_refl _))⟩

theorem r_begins (nb fb cap : Nat) (N : Nat → Bool) (F : Nat → Nat → Bool) (s : ByteArray) (w : World) (hN : Blk w nb 128 (sF N)) (hF : Blk w fb 3328 (tF F)) (hs : s.size ≤ 1000) (hl : ∀ i, i < s.size → letB (ch s i) = true) :
    Calls Tryz.prog 73 #[.pointer (some ⟨nb, 0, none⟩), .slice (some ⟨fb, 0, none⟩) 26 cap, .string s] w fun e' w' => e' = .returned (Agg 128 (sF (beg N F (bytes s)))) ∧ Fr [] w w' := r_beginsO nb 0 fb cap N F s w (NAt.of_set hN) hF hs hl
end Go.Proofs.YtkglggkkbmmjkaaGreatDoor
