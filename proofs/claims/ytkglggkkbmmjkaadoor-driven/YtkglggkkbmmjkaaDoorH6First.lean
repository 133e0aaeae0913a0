import Derived.Test.YtkglggkkbmmjkaaDoorH5Table
namespace Go.Proofs.YtkglggkkbmmjkaaDoor
open Go.RowKit

/-- the small letters that words derived from a word begin with, as far as F knows -/
def beg (N : Nat → Bool) (F : Nat → Nat → Bool) : List Nat → Nat → Bool
  | [], _ => false
  | c :: l, x => if smallB c then x == c else F c x || (hasB N c && beg N F l x)

theorem gF_first {v : Value} {st : Nat} {R N : Nat → Bool} {F : Nat → Nat → Bool} {e p : Int} (c i : Nat) (hc : bigB c = true) (hi : i < 27) : gF v st R N F e p (54 + (c - 65) * 27 + i) = .bool (F c (sgn i)) := by
  have h := bigB_iff.1 hc
  unfold gF
  rw [if_neg (by omega), if_neg (by omega), if_neg (by omega), if_neg (by omega), if_pos (by omega)]
  rw [show 54 + (c - 65) * 27 + i - 54 = i + 27 * (c - 65) from by omega, Nat.add_mul_mod_self_left, Nat.add_mul_div_left _ _ (by omega), Nat.mod_eq_of_lt hi, Nat.div_eq_of_lt hi]
  rw [show 65 + (0 + (c - 65)) = c from by omega]
theorem gF_null {v : Value} {st : Nat} {R N : Nat → Bool} {F : Nat → Nat → Bool} {e p : Int} (k : Nat) (hk : k < 26) : gF v st R N F e p (28 + k) = .bool (N (65 + k)) := by
  unfold gF
  rw [if_neg (by omega), if_neg (by omega), if_neg (by omega), if_pos (by omega), show 28 + k - 28 = k from by omega]
theorem GAt.null {w : World} {b q cap : Nat} {rs : List Ru} {N : Nat → Bool} {F : Nat → Nat → Bool} {e p : Int} (h : GAt w b q cap rs N F e p) : SetAt w b 28 N := fun k hk => by
  rw [h.blk.cell (28 + k) (by omega), gF_null k hk]
theorem oneB_gF (a : Option Addr) (l c st : Nat) (R N : Nat → Bool) (F : Nat → Nat → Bool) (e p : Int) : oneB (gF (.slice a l c) st R N F e p) 758 := fun i _ => by
  unfold gF
  split
  · rfl
  split
  · rfl
  split
  · rfl
  split
  · rfl
  split
  · rfl
  split
  · rfl
  · rfl

theorem sgF_add (S : Nat → Bool) (c i : Nat) (hc : smallB c = true) (hi : i < 27) : upd (sgF S) (0 + (c - 96)) (.bool true) i = sgF (fun x => S x || x == c) i := by
  have h := smallB_iff.1 hc
  unfold upd sgF
  by_cases e : i = 0 + (c - 96)
  · rw [if_pos e, e, Nat.zero_add, sgn_small c hc]; simp
  · rw [if_neg e]
    have : (sgn i == c) = false := by
      rw [beq_eq_false_iff_ne, ← sgn_small c hc]
      intro h2; have := sgn_inj h2 hi (by omega); omega
    show Value.bool (S (sgn i)) = Value.bool (S (sgn i) || sgn i == c)
    rw [this, Bool.or_false]
theorem sgF_or0 (S : Nat → Bool) (G : Nat → Bool) (i : Nat) (hi : i < 27) : orF (sgF S) 0 27 (fun i => S (sgn i)) (fun i => G (sgn (0 + i))) i = sgF (fun x => S x || G x) i := by
  unfold orF sgF; rw [if_pos (by omega)]; show Value.bool (S (sgn (i - 0)) || G (sgn (0 + (i - 0)))) = Value.bool (S (sgn i) || G (sgn i)); rw [Nat.sub_zero, Nat.zero_add]
/-- the state of firstOf -/
def FS (w wr : World) (b q cap : Nat) (rs : List Ru) (N : Nat → Bool) (F : Nat → Nat → Bool) (e p : Int) (r0 r1 : Nat) (S : Nat → Bool) : Prop :=
  Fr [] w wr ∧ GAt wr b q cap rs N F e p ∧ Blk wr r0 27 (sgF fun _ => false) ∧ Blk wr r1 27 (sgF S) ∧ w.heap.size ≤ r0 ∧ r0 < r1 ∧ q < w.heap.size ∧ b < w.heap.size
theorem FS.fr {w wr wr' : World} {b q cap : Nat} {rs : List Ru} {N : Nat → Bool} {F : Nat → Nat → Bool} {e p : Int} {r0 r1 : Nat} {S : Nat → Bool} (h : FS w wr b q cap rs N F e p r0 r1 S) (k : Fr [] wr wr') : FS w wr' b q cap rs N F e p r0 r1 S := by
  obtain ⟨h1, h2, h3, h4, h5⟩ := h
  exact ⟨h1.trans0 k, h2.fr0 k, h3.fr0 k, h4.fr0 k, h5⟩
theorem FS.far {w wr wr' : World} {b q cap x : Nat} {rs : List Ru} {N : Nat → Bool} {F : Nat → Nat → Bool} {e p : Int} {r0 r1 : Nat} {S : Nat → Bool} (h : FS w wr b q cap rs N F e p r0 r1 S) (k : Fr [x] wr wr') (hx : r1 < x) : FS w wr' b q cap rs N F e p r0 r1 S := by
  obtain ⟨h1, h2, h3, h4, h5, h6, h7, h8⟩ := h
  exact ⟨h1.trans1 k (Or.inr (by omega)), h2.fr k (by simp; omega) (by simp; omega), h3.fr1 k (by omega), h4.fr1 k (by omega), h5, h6, h7, h8⟩
theorem FS.put {w wr wr' : World} {b q cap : Nat} {rs : List Ru} {N : Nat → Bool} {F : Nat → Nat → Bool} {e p : Int} {r0 r1 : Nat} {S S' : Nat → Bool} (h : FS w wr b q cap rs N F e p r0 r1 S) (k : Fr [r1] wr wr') (hB : Blk wr' r1 27 (sgF S')) : FS w wr' b q cap rs N F e p r0 r1 S' := by
  obtain ⟨h1, h2, h3, h4, h5, h6, h7, h8⟩ := h
  exact ⟨h1.trans1 k (Or.inr (by omega)), h2.fr k (by simp; omega) (by simp; omega), h3.fr1 k (by omega), hB, h5, h6, h7, h8⟩

theorem bytes_drop (s : ByteArray) (k : Nat) (h : k < s.size) : (bytes s).drop k = ch s k :: (bytes s).drop (k + 1) := by
  rw [List.drop_eq_getElem_cons (by rw [bytes_len]; exact h), bytes_get]

/-- the end of firstOf, as a value: what is in the set so far -/
theorem p_get' (b c q cap : Nat) (rs : List Ru) (N : Nat → Bool) (F : Nat → Nat → Bool) (e p : Int) (w : World) (h : GAt w b q cap rs N F e p) (hc : bigB c = true) :
    Calls Tryd.prog 81 #[.pointer (some ⟨b, 54, none⟩), .int .u8 c] w fun e w' => e = .returned (Agg 27 fun i => .bool (F c (sgn i))) ∧ Fr [] w w' := by
  refine (p_get b 54 c 758 _ w h.blk (by omega) hc (oneB_gF _ _ _ _ _ _ _ _ _)).mono ?_
  rintro e w' ⟨rfl, hf⟩
  exact ⟨by rw [Agg.congr fun i hi => gF_first c i hc hi], hf⟩

set_option maxHeartbeats 1600000 in
theorem p_firstOf (b q cap : Nat) (rs : List Ru) (N : Nat → Bool) (F : Nat → Nat → Bool) (e p : Int) (s : ByteArray) (w : World) (h : GAt w b q cap rs N F e p) (hs : s.size ≤ 1000) (hl : ∀ i, i < s.size → letB (ch s i) = true) :
    Calls Tryd.prog 71 #[.pointer (some ⟨b, 0, none⟩), .string s] w fun e' w' => e' = .returned (Agg 27 (sgF (beg N F (bytes s)))) ∧ Fr [] w w' := by
  have H := hide h
  have HL := hide hl
  clear h hl
  go_enter Tryd.func71, Tryd.ntmps71
  go_wp2_with (first | (refine wpList_alloc_blk rfl 48 rfl (some 4) rfl 27 _ Tryd.zeroSign ?_; intro w1 hf1 hs1 hB1; have HA := hide (And.intro hf1 (And.intro hs1 hB1)); clear hf1 hs1 hB1) | (refine wpList_alloc_blk rfl 48 rfl (some 5) rfl 27 _ Tryd.zeroSign ?_; intro w2 hf2 hs2 hB2; have HB := hide (And.intro hf2 (And.intro hs2 hB2)); clear hf2 hs2 hB2))
  have HS := hide (show FS w w2 b q cap rs N F e p w.heap.size w1.heap.size (fun _ => false) from
    ⟨(unhide HA).1.trans0 (unhide HB).1, ((unhide H).fr0 (unhide HA).1).fr0 (unhide HB).1, (unhide HA).2.2.fr0 (unhide HB).1, (unhide HB).2.2, Nat.le_refl _, by have := (unhide HA).2.1; omega, (unhide H).lt, (unhide H).blk.lt⟩)
  clear HA HB H
  go_loopw [6] (fun i wr => ∃ (k : Nat) (S : Nat → Bool), k ≤ s.size ∧ i = .int .i64 k ∧ Hid (∀ x, beg N F (bytes s) x = (S x || beg N F ((bytes s).drop k) x)) ∧ Hid (FS w wr b q cap rs N F e p w.heap.size w1.heap.size S)) (fun i _ => s.size - (intOf i).toNat)
  case atStart => exact ⟨0, fun _ => false, by omega, rfl, fun x => by simp, HS⟩
  case round =>
    obtain ⟨k, S, hk, rfl, hd, hst⟩ := hrel
    by_cases hlt : k < s.size
    · have hch := hide (ch_eq s k hlt)
      have HD := hide (show ∀ x, beg N F (bytes s) x = (S x || if smallB (ch s k) then x == ch s k else F (ch s k) x || (hasB N (ch s k) && beg N F ((bytes s).drop (k + 1)) x)) from fun x => by rw [unhide hd x, bytes_drop s k hlt, beg])
      clear hd
      cases h1 : smallB s[k].toNat
      · have hbig : bigB s[k].toNat = true := by
          have := unhide HL k hlt
          rw [unhide hch] at this
          simpa [letB, h1] using this
        cases h2 : hasB N s[k].toNat
        · have HE := hide (show ∀ x, beg N F (bytes s) x = (S x || F s[k].toNat x) from fun x => by rw [unhide HD x, unhide hch, h1, h2]; simp)
          clear HD
          go_wp2_with (first | (go_at_call 42; refine (p_isSmall _ _).mono ?_; rintro e w' ⟨rfl, rfl⟩) | (go_at_call 81; refine (p_get' b _ q cap rs N F e p _ (by exact (unhide hst).2.1) hbig).mono ?_; rintro e w3 ⟨rfl, hf3⟩; have HS3 := hide ((unhide hst).fr hf3); clear hf3) | (refine wpList_alloc_blk rfl 48 rfl (some 8) rfl 27 _ Tryd.zeroSign ?_; intro w4 hf4 hs4 hB4; have HS4 := hide ((unhide HS3).fr hf4); have HB4 := hide hB4; clear hf4 hs4 hB4) | (refine wpList_store_blk rfl 48 (.tmp 8) (.tmp 27) rfl w3.heap.size 0 27 27 (sgF fun _ => false) (fun i => .bool (F s[k].toNat (sgn i))) rfl rfl (by exact unhide HB4) Tryd.sizeSign (by omega) (by intro i hi; rfl) ?_; intro w5 hf5 hs5 hB5; have HS5 := hide ((unhide HS4).far hf5 (by exact (unhide HS3).2.2.2.1.lt)); have HB5 := hide (hB5.congr fun i hi => lay_all _ _ _ i hi); clear hf5 hs5 hB5) | (refine wpList_load_blk rfl 48 (.tmp 8) rfl (some 28) rfl w3.heap.size 0 27 27 (fun i => .bool (F s[k].toNat (sgn i))) _ rfl (by exact unhide HB5) Tryd.underlying48 rfl Tryd.sizeSign (by omega) ?_) | (go_at_call 82; refine (p_saddAll w1.heap.size 0 27 (sgF S) (fun i => S (sgn i)) (fun i => F s[k].toNat (sgn (0 + i))) _ (by exact (unhide HS5).2.2.2.1) (by omega) (fun i _ => by rw [Nat.zero_add]; rfl)).mono ?_; rintro e w6 ⟨rfl, hf6⟩; have HS6 := hide ((unhide HS5).put hf6.1 (hf6.2.congr fun i hi => sgF_or0 S (F s[k].toNat) i hi)); clear hf6) | (go_at_call 66; refine (p_has_is b 28 _ N false _ (by exact (unhide HS6).2.1.null) h2).mono ?_; rintro e w7 ⟨rfl, rfl⟩) | (refine wpList_load_blk rfl 48 (.tmp 5) rfl (some 36) rfl w1.heap.size 0 27 27 (sgF (fun x => S x || F s[k].toNat x)) _ rfl (by exact (unhide HS6).2.2.2.1) Tryd.underlying48 rfl Tryd.sizeSign (by omega) ?_) | (refine wpList_store_blk rfl 48 (.tmp 4) (.tmp 36) rfl w.heap.size 0 27 27 (sgF fun _ => false) (fun i => sgF (fun x => S x || F s[k].toNat x) (0 + i)) rfl rfl (by exact (unhide HS6).2.2.1) Tryd.sizeSign (by omega) (by intro i hi; rfl) ?_; intro w9 hf9 hs9 hB9))
          have hfin : Blk w9 w.heap.size 27 (sgF (beg N F (bytes s))) := hB9.congr fun i hi => by
            rw [lay_all _ _ _ _ hi, Nat.zero_add]
            unfold sgF
            rw [unhide HE]
          exact bodyPost_ret (results_cell Tryd.results71 _ w.heap.size rfl 27 27 (sgF (beg N F (bytes s))) _ hfin Tryd.underlying48 rfl Tryd.sizeSign (by omega)) rfl ⟨rfl, (unhide HS6).1.trans1 hf9 (Or.inr (Nat.le_refl _))⟩
        · have HE := hide (show ∀ x, beg N F (bytes s) x = ((S x || F s[k].toNat x) || beg N F ((bytes s).drop (k + 1)) x) from fun x => by rw [unhide HD x, unhide hch, h1, h2]; simp [Bool.or_assoc])
          clear HD
          go_wp2_with (first | (go_at_call 42; refine (p_isSmall _ _).mono ?_; rintro e w' ⟨rfl, rfl⟩) | (go_at_call 81; refine (p_get' b _ q cap rs N F e p _ (by exact (unhide hst).2.1) hbig).mono ?_; rintro e w3 ⟨rfl, hf3⟩; have HS3 := hide ((unhide hst).fr hf3); clear hf3) | (refine wpList_alloc_blk rfl 48 rfl (some 8) rfl 27 _ Tryd.zeroSign ?_; intro w4 hf4 hs4 hB4; have HS4 := hide ((unhide HS3).fr hf4); have HB4 := hide hB4; clear hf4 hs4 hB4) | (refine wpList_store_blk rfl 48 (.tmp 8) (.tmp 27) rfl w3.heap.size 0 27 27 (sgF fun _ => false) (fun i => .bool (F s[k].toNat (sgn i))) rfl rfl (by exact unhide HB4) Tryd.sizeSign (by omega) (by intro i hi; rfl) ?_; intro w5 hf5 hs5 hB5; have HS5 := hide ((unhide HS4).far hf5 (by exact (unhide HS3).2.2.2.1.lt)); have HB5 := hide (hB5.congr fun i hi => lay_all _ _ _ i hi); clear hf5 hs5 hB5) | (refine wpList_load_blk rfl 48 (.tmp 8) rfl (some 28) rfl w3.heap.size 0 27 27 (fun i => .bool (F s[k].toNat (sgn i))) _ rfl (by exact unhide HB5) Tryd.underlying48 rfl Tryd.sizeSign (by omega) ?_) | (go_at_call 82; refine (p_saddAll w1.heap.size 0 27 (sgF S) (fun i => S (sgn i)) (fun i => F s[k].toNat (sgn (0 + i))) _ (by exact (unhide HS5).2.2.2.1) (by omega) (fun i _ => by rw [Nat.zero_add]; rfl)).mono ?_; rintro e w6 ⟨rfl, hf6⟩; have HS6 := hide ((unhide HS5).put hf6.1 (hf6.2.congr fun i hi => sgF_or0 S (F s[k].toNat) i hi)); clear hf6) | (go_at_call 66; refine (p_has_is b 28 _ N true _ (by exact (unhide HS6).2.1.null) h2).mono ?_; rintro e w7 ⟨rfl, rfl⟩))
          go_roundw
          case rel => exact ⟨k + 1, _, by omega, by go_num, HE, HS6⟩
          case measure => simp [intOf]; omega
      · have HE := hide (show ∀ x, beg N F (bytes s) x = (S x || x == s[k].toNat) from fun x => by rw [unhide HD x, unhide hch, h1]; rfl)
        clear HD
        go_wp2_with (first | (go_at_call 42; refine (p_isSmall _ _).mono ?_; rintro e w' ⟨rfl, rfl⟩) | (go_at_call 47; refine (p_sadd w1.heap.size 0 _ 27 _ _ (by exact (unhide hst).2.2.2.1) (by omega) h1).mono ?_; rintro e w3 ⟨rfl, hf3⟩; have HS3 := hide ((unhide hst).put hf3.1 (hf3.2.2.congr fun i hi => sgF_add S _ i h1 hi)); clear hf3) | (refine wpList_load_blk rfl 48 (.tmp 5) rfl (some 22) rfl w1.heap.size 0 27 27 (sgF (fun x => S x || x == s[k].toNat)) _ rfl (by exact (unhide HS3).2.2.2.1) Tryd.underlying48 rfl Tryd.sizeSign (by omega) ?_) | (refine wpList_store_blk rfl 48 (.tmp 4) (.tmp 22) rfl w.heap.size 0 27 27 (sgF fun _ => false) (fun i => sgF (fun x => S x || x == s[k].toNat) (0 + i)) rfl rfl (by exact (unhide HS3).2.2.1) Tryd.sizeSign (by omega) (by intro i hi; rfl) ?_; intro w9 hf9 hs9 hB9))
        have hfin : Blk w9 w.heap.size 27 (sgF (beg N F (bytes s))) := hB9.congr fun i hi => by
          rw [lay_all _ _ _ _ hi, Nat.zero_add]
          unfold sgF
          rw [unhide HE]
        exact bodyPost_ret (results_cell Tryd.results71 _ w.heap.size rfl 27 27 (sgF (beg N F (bytes s))) _ hfin Tryd.underlying48 rfl Tryd.sizeSign (by omega)) rfl ⟨rfl, (unhide HS3).1.trans1 hf9 (Or.inr (Nat.le_refl _))⟩
    · have HE := hide (show ∀ x, beg N F (bytes s) x = S x from fun x => by rw [unhide hd x, List.drop_of_length_le (by rw [bytes_len]; omega), beg, Bool.or_false])
      clear hd
      go_wp2_with (first | (refine wpList_load_blk rfl 48 (.tmp 5) rfl (some 37) rfl w1.heap.size 0 27 27 (sgF S) _ rfl (by exact (unhide hst).2.2.2.1) Tryd.underlying48 rfl Tryd.sizeSign (by omega) ?_) | (refine wpList_store_blk rfl 48 (.tmp 4) (.tmp 37) rfl w.heap.size 0 27 27 (sgF fun _ => false) (fun i => sgF S (0 + i)) rfl rfl (by exact (unhide hst).2.2.1) Tryd.sizeSign (by omega) (by intro i hi; rfl) ?_; intro w9 hf9 hs9 hB9))
      have hfin : Blk w9 w.heap.size 27 (sgF (beg N F (bytes s))) := hB9.congr fun i hi => by
        rw [lay_all _ _ _ _ hi, Nat.zero_add]
        unfold sgF
        rw [unhide HE]
      exact bodyPost_ret (results_cell Tryd.results71 _ w.heap.size rfl 27 27 (sgF (beg N F (bytes s))) _ hfin Tryd.underlying48 rfl Tryd.sizeSign (by omega)) rfl ⟨rfl, (unhide hst).1.trans1 hf9 (Or.inr (Nat.le_refl _))⟩
end Go.Proofs.YtkglggkkbmmjkaaDoor
