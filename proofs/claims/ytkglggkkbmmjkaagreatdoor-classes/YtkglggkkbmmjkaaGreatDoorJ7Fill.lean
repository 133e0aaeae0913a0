import Derived.Test.YtkglggkkbmmjkaaGreatDoorJ6Table
namespace Go.Proofs.YtkglggkkbmmjkaaGreatDoor
open Go.RowKit

/-- the small letters that words derived from a word begin with, as far as F knows -/
def beg (N : Nat → Bool) (F : Nat → Nat → Bool) : List Nat → Nat → Bool
  | [], _ => false
  | c :: l, x => if smallB c then x == c else F c x || (hasB N c && beg N F l x)

theorem gF_first {v : Value} {st : Nat} {R N : Nat → Bool} {F : Nat → Nat → Bool} {e p : Int} (c i : Nat) (hc : bigB c = true) (hi : i < 27) : gF v st R N F e p (54 + (c - 65) * 27 + i) = .bool (F c (sgn i)) := by
  have h := bigB_iff.1 hc
  unfold gF
  rw [if_neg (by omega), if_neg (by omega), if_neg (by omega), if_neg (by omega), if_pos (by omega)]
  rw [show 54 + (c - 65) * 27 + i - 54 = i + 27 * (c - 65) from by omega, Nat.add_mul_mod_self_left, Nat.add_mul_div_left _ _ (by omega), Nat.mod_eq_of_lt hi, Nat.div_eq_of_lt hi]
  rw [show 65 + (0 + (c - 65)) = c from by omega]
theorem gF_null {v : Value} {st : Nat} {R N : Nat → Bool} {F : Nat → Nat → Bool} {e p : Int} (k : Nat) (hk : k < 26) : gF v st R N F e p (28 + k) = .bool (N (65 + k)) := by
  unfold gF
  rw [if_neg (by omega), if_neg (by omega), if_neg (by omega), if_pos (by omega), show 28 + k - 28 = k from by omega]
theorem GAt.null {w : World} {b q cap : Nat} {rs : List Ru} {N : Nat → Bool} {F : Nat → Nat → Bool} {e p : Int} (h : GAt w b q cap rs N F e p) : SetAt w b 28 N := fun k hk => by
  rw [h.blk.cell (28 + k) (by omega), gF_null k hk]
theorem oneB_gF (a : Option Addr) (l c st : Nat) (R N : Nat → Bool) (F : Nat → Nat → Bool) (e p : Int) : oneB (gF (.slice a l c) st R N F e p) 758 := fun i _ => by
  unfold gF
  split
  · rfl
  split
  · rfl
  split
  · rfl
  split
  · rfl
  split
  · rfl
  split
  · rfl
  · rfl

theorem sgF_add (S : Nat → Bool) (c i : Nat) (hc : smallB c = true) (hi : i < 27) : upd (sgF S) (0 + (c - 96)) (.bool true) i = sgF (fun x => S x || x == c) i := by
  have h := smallB_iff.1 hc
  unfold upd sgF
  by_cases e : i = 0 + (c - 96)
  · rw [if_pos e, e, Nat.zero_add, sgn_small c hc]; simp
  · rw [if_neg e]
    have : (sgn i == c) = false := by
      rw [beq_eq_false_iff_ne, ← sgn_small c hc]
      intro h2; have := sgn_inj h2 hi (by omega); omega
    show Value.bool (S (sgn i)) = Value.bool (S (sgn i) || sgn i == c)
    rw [this, Bool.or_false]
theorem sgF_or0 (S : Nat → Bool) (G : Nat → Bool) (i : Nat) (hi : i < 27) : orF (sgF S) 0 27 (fun i => S (sgn i)) (fun i => G (sgn (0 + i))) i = sgF (fun x => S x || G x) i := by
  unfold orF sgF; rw [if_pos (by omega)]; show Value.bool (S (sgn (i - 0)) || G (sgn (0 + (i - 0)))) = Value.bool (S (sgn i) || G (sgn i)); rw [Nat.sub_zero, Nat.zero_add]
theorem sgF_or (S M : Nat → Bool) (i : Nat) (hi : i < 27) : orF (sgF S) 0 27 (fun i => S (sgn i)) (fun i => M (sgn i)) i = sgF (fun x => S x || M x) i := by
  unfold orF sgF; rw [if_pos (by omega)]; rfl

/-- the state of firstOf -/
def FS (w wr : World) (b q cap : Nat) (rs : List Ru) (N : Nat → Bool) (F : Nat → Nat → Bool) (e p : Int) (r0 r1 : Nat) (S : Nat → Bool) : Prop :=
  Fr [] w wr ∧ GAt wr b q cap rs N F e p ∧ Blk wr r0 27 (sgF fun _ => false) ∧ Blk wr r1 27 (sgF S) ∧ w.heap.size ≤ r0 ∧ r0 < r1 ∧ q < w.heap.size ∧ b < w.heap.size
theorem FS.fr {w wr wr' : World} {b q cap : Nat} {rs : List Ru} {N : Nat → Bool} {F : Nat → Nat → Bool} {e p : Int} {r0 r1 : Nat} {S : Nat → Bool} (h : FS w wr b q cap rs N F e p r0 r1 S) (k : Fr [] wr wr') : FS w wr' b q cap rs N F e p r0 r1 S := by
  obtain ⟨h1, h2, h3, h4, h5⟩ := h
  exact ⟨h1.trans0 k, h2.fr0 k, h3.fr0 k, h4.fr0 k, h5⟩
theorem FS.far {w wr wr' : World} {b q cap x : Nat} {rs : List Ru} {N : Nat → Bool} {F : Nat → Nat → Bool} {e p : Int} {r0 r1 : Nat} {S : Nat → Bool} (h : FS w wr b q cap rs N F e p r0 r1 S) (k : Fr [x] wr wr') (hx : r1 < x) : FS w wr' b q cap rs N F e p r0 r1 S := by
  obtain ⟨h1, h2, h3, h4, h5, h6, h7, h8⟩ := h
  exact ⟨h1.trans1 k (Or.inr (by omega)), h2.fr k (by simp; omega) (by simp; omega), h3.fr1 k (by omega), h4.fr1 k (by omega), h5, h6, h7, h8⟩
theorem FS.put {w wr wr' : World} {b q cap : Nat} {rs : List Ru} {N : Nat → Bool} {F : Nat → Nat → Bool} {e p : Int} {r0 r1 : Nat} {S S' : Nat → Bool} (h : FS w wr b q cap rs N F e p r0 r1 S) (k : Fr [r1] wr wr') (hB : Blk wr' r1 27 (sgF S')) : FS w wr' b q cap rs N F e p r0 r1 S' := by
  obtain ⟨h1, h2, h3, h4, h5, h6, h7, h8⟩ := h
  exact ⟨h1.trans1 k (Or.inr (by omega)), h2.fr k (by simp; omega) (by simp; omega), h3.fr1 k (by omega), hB, h5, h6, h7, h8⟩

theorem bytes_drop (s : ByteArray) (k : Nat) (h : k < s.size) : (bytes s).drop k = ch s k :: (bytes s).drop (k + 1) := by
  rw [List.drop_eq_getElem_cons (by rw [bytes_len]; exact h), bytes_get]

/-- the end of firstOf, as a value: what is in the set so far -/
theorem p_get' (b c q cap : Nat) (rs : List Ru) (N : Nat → Bool) (F : Nat → Nat → Bool) (e p : Int) (w : World) (h : GAt w b q cap rs N F e p) (hc : bigB c = true) :
    Calls Tryz.prog 76 #[.pointer (some ⟨b, 54, none⟩), .int .u8 c] w fun e w' => e = .returned (Agg 27 fun i => .bool (F c (sgn i))) ∧ Fr [] w w' := by
  refine (p_get b 54 c 758 _ w h.blk (by omega) hc (oneB_gF _ _ _ _ _ _ _ _ _)).mono ?_
  rintro e w' ⟨rfl, hf⟩
  exact ⟨by rw [Agg.congr fun i hi => gF_first c i hc hi], hf⟩

set_option maxHeartbeats 1600000 in
theorem p_firstOf (b q cap : Nat) (rs : List Ru) (N : Nat → Bool) (F : Nat → Nat → Bool) (e p : Int) (s : ByteArray) (w : World) (h : GAt w b q cap rs N F e p) (hs : s.size ≤ 1000) (hl : ∀ i, i < s.size → letB (ch s i) = true) :
    Calls Tryz.prog 71 #[.pointer (some ⟨b, 0, none⟩), .string s] w fun e' w' => e' = .returned (Agg 27 (sgF (beg N F (bytes s)))) ∧ Fr [] w w' := by
  have H := hide h
  have HL := hide hl
  clear h hl
  go_enter Tryz.func71, Tryz.ntmps71
  go_wp2_with (first | (refine wpList_alloc_blk rfl 48 rfl (some 4) rfl 27 _ Tryz.zeroSign ?_; intro w1 hf1 hs1 hB1; have HA := hide (And.intro hf1 (And.intro hs1 hB1)); clear hf1 hs1 hB1) | (refine wpList_alloc_blk rfl 48 rfl (some 5) rfl 27 _ Tryz.zeroSign ?_; intro w2 hf2 hs2 hB2; have HB := hide (And.intro hf2 (And.intro hs2 hB2)); clear hf2 hs2 hB2))
  have HS := hide (show FS w w2 b q cap rs N F e p w.heap.size w1.heap.size (fun _ => false) from
    ⟨(unhide HA).1.trans0 (unhide HB).1, ((unhide H).fr0 (unhide HA).1).fr0 (unhide HB).1, (unhide HA).2.2.fr0 (unhide HB).1, (unhide HB).2.2, Nat.le_refl _, by have := (unhide HA).2.1; omega, (unhide H).lt, (unhide H).blk.lt⟩)
  clear HA HB H
  go_loopw [6] (fun i wr => ∃ (k : Nat) (S : Nat → Bool), k ≤ s.size ∧ i = .int .i64 k ∧ Hid (∀ x, beg N F (bytes s) x = (S x || beg N F ((bytes s).drop k) x)) ∧ Hid (FS w wr b q cap rs N F e p w.heap.size w1.heap.size S)) (fun i _ => s.size - (intOf i).toNat)
  case atStart => exact ⟨0, fun _ => false, by omega, rfl, fun x => by simp, HS⟩
  case round =>
    obtain ⟨k, S, hk, rfl, hd, hst⟩ := hrel
    by_cases hlt : k < s.size
    · have hch := hide (ch_eq s k hlt)
      have HD := hide (show ∀ x, beg N F (bytes s) x = (S x || if smallB (ch s k) then x == ch s k else F (ch s k) x || (hasB N (ch s k) && beg N F ((bytes s).drop (k + 1)) x)) from fun x => by rw [unhide hd x, bytes_drop s k hlt, beg])
      clear hd
      cases h1 : smallB s[k].toNat
      · have hbig : bigB s[k].toNat = true := by
          have := unhide HL k hlt
          rw [unhide hch] at this
          simpa [letB, h1] using this
        cases h2 : hasB N s[k].toNat
        · have HE := hide (show ∀ x, beg N F (bytes s) x = (S x || F s[k].toNat x) from fun x => by rw [unhide HD x, unhide hch, h1, h2]; simp)
          clear HD
          go_wp2_with (first | (go_at_call 117; refine (p_isSmall _ _).mono ?_; rintro e w' ⟨rfl, rfl⟩) | (go_at_call 76; refine (p_get' b _ q cap rs N F e p _ (by exact (unhide hst).2.1) hbig).mono ?_; rintro e w3 ⟨rfl, hf3⟩; have HS3 := hide ((unhide hst).fr hf3); clear hf3) | (refine wpList_alloc_blk rfl 48 rfl (some 8) rfl 27 _ Tryz.zeroSign ?_; intro w4 hf4 hs4 hB4; have HS4 := hide ((unhide HS3).fr hf4); have HB4 := hide hB4; clear hf4 hs4 hB4) | (refine wpList_store_blk rfl 48 (.tmp 8) (.tmp 27) rfl w3.heap.size 0 27 27 (sgF fun _ => false) (fun i => .bool (F s[k].toNat (sgn i))) rfl rfl (by exact unhide HB4) Tryz.sizeSign (by omega) (by intro i hi; rfl) ?_; intro w5 hf5 hs5 hB5; have HS5 := hide ((unhide HS4).far hf5 (by exact (unhide HS3).2.2.2.1.lt)); have HB5 := hide (hB5.congr fun i hi => lay_all _ _ _ i hi); clear hf5 hs5 hB5) | (refine wpList_load_blk rfl 48 (.tmp 8) rfl (some 28) rfl w3.heap.size 0 27 27 (fun i => .bool (F s[k].toNat (sgn i))) _ rfl (by exact unhide HB5) Tryz.underlying48 rfl Tryz.sizeSign (by omega) ?_) | (go_at_call 118; refine (p_saddAll w1.heap.size 0 27 (sgF S) (fun i => S (sgn i)) (fun i => F s[k].toNat (sgn (0 + i))) _ (by exact (unhide HS5).2.2.2.1) (by omega) (fun i _ => by rw [Nat.zero_add]; rfl)).mono ?_; rintro e w6 ⟨rfl, hf6⟩; have HS6 := hide ((unhide HS5).put hf6.1 (hf6.2.congr fun i hi => sgF_or0 S (F s[k].toNat) i hi)); clear hf6) | (go_at_call 110; refine (p_has_is b 28 _ N false _ (by exact (unhide HS6).2.1.null) h2).mono ?_; rintro e w7 ⟨rfl, rfl⟩) | (refine wpList_load_blk rfl 48 (.tmp 5) rfl (some 36) rfl w1.heap.size 0 27 27 (sgF (fun x => S x || F s[k].toNat x)) _ rfl (by exact (unhide HS6).2.2.2.1) Tryz.underlying48 rfl Tryz.sizeSign (by omega) ?_) | (refine wpList_store_blk rfl 48 (.tmp 4) (.tmp 36) rfl w.heap.size 0 27 27 (sgF fun _ => false) (fun i => sgF (fun x => S x || F s[k].toNat x) (0 + i)) rfl rfl (by exact (unhide HS6).2.2.1) Tryz.sizeSign (by omega) (by intro i hi; rfl) ?_; intro w9 hf9 hs9 hB9))
          have hfin : Blk w9 w.heap.size 27 (sgF (beg N F (bytes s))) := hB9.congr fun i hi => by
            rw [lay_all _ _ _ _ hi, Nat.zero_add]
            unfold sgF
            rw [unhide HE]
          exact bodyPost_ret (results_cell Tryz.results71 _ w.heap.size rfl 27 27 (sgF (beg N F (bytes s))) _ hfin Tryz.underlying48 rfl Tryz.sizeSign (by omega)) rfl ⟨rfl, (unhide HS6).1.trans1 hf9 (Or.inr (Nat.le_refl _))⟩
        · have HE := hide (show ∀ x, beg N F (bytes s) x = ((S x || F s[k].toNat x) || beg N F ((bytes s).drop (k + 1)) x) from fun x => by rw [unhide HD x, unhide hch, h1, h2]; simp [Bool.or_assoc])
          clear HD
          go_wp2_with (first | (go_at_call 117; refine (p_isSmall _ _).mono ?_; rintro e w' ⟨rfl, rfl⟩) | (go_at_call 76; refine (p_get' b _ q cap rs N F e p _ (by exact (unhide hst).2.1) hbig).mono ?_; rintro e w3 ⟨rfl, hf3⟩; have HS3 := hide ((unhide hst).fr hf3); clear hf3) | (refine wpList_alloc_blk rfl 48 rfl (some 8) rfl 27 _ Tryz.zeroSign ?_; intro w4 hf4 hs4 hB4; have HS4 := hide ((unhide HS3).fr hf4); have HB4 := hide hB4; clear hf4 hs4 hB4) | (refine wpList_store_blk rfl 48 (.tmp 8) (.tmp 27) rfl w3.heap.size 0 27 27 (sgF fun _ => false) (fun i => .bool (F s[k].toNat (sgn i))) rfl rfl (by exact unhide HB4) Tryz.sizeSign (by omega) (by intro i hi; rfl) ?_; intro w5 hf5 hs5 hB5; have HS5 := hide ((unhide HS4).far hf5 (by exact (unhide HS3).2.2.2.1.lt)); have HB5 := hide (hB5.congr fun i hi => lay_all _ _ _ i hi); clear hf5 hs5 hB5) | (refine wpList_load_blk rfl 48 (.tmp 8) rfl (some 28) rfl w3.heap.size 0 27 27 (fun i => .bool (F s[k].toNat (sgn i))) _ rfl (by exact unhide HB5) Tryz.underlying48 rfl Tryz.sizeSign (by omega) ?_) | (go_at_call 118; refine (p_saddAll w1.heap.size 0 27 (sgF S) (fun i => S (sgn i)) (fun i => F s[k].toNat (sgn (0 + i))) _ (by exact (unhide HS5).2.2.2.1) (by omega) (fun i _ => by rw [Nat.zero_add]; rfl)).mono ?_; rintro e w6 ⟨rfl, hf6⟩; have HS6 := hide ((unhide HS5).put hf6.1 (hf6.2.congr fun i hi => sgF_or0 S (F s[k].toNat) i hi)); clear hf6) | (go_at_call 110; refine (p_has_is b 28 _ N true _ (by exact (unhide HS6).2.1.null) h2).mono ?_; rintro e w7 ⟨rfl, rfl⟩))
          go_roundw
          case rel => exact ⟨k + 1, _, by omega, by go_num, HE, HS6⟩
          case measure => simp [intOf]; omega
      · have HE := hide (show ∀ x, beg N F (bytes s) x = (S x || x == s[k].toNat) from fun x => by rw [unhide HD x, unhide hch, h1]; rfl)
        clear HD
        go_wp2_with (first | (go_at_call 117; refine (p_isSmall _ _).mono ?_; rintro e w' ⟨rfl, rfl⟩) | (go_at_call 107; refine (p_sadd w1.heap.size 0 _ 27 _ _ (by exact (unhide hst).2.2.2.1) (by omega) h1).mono ?_; rintro e w3 ⟨rfl, hf3⟩; have HS3 := hide ((unhide hst).put hf3.1 (hf3.2.2.congr fun i hi => sgF_add S _ i h1 hi)); clear hf3) | (refine wpList_load_blk rfl 48 (.tmp 5) rfl (some 22) rfl w1.heap.size 0 27 27 (sgF (fun x => S x || x == s[k].toNat)) _ rfl (by exact (unhide HS3).2.2.2.1) Tryz.underlying48 rfl Tryz.sizeSign (by omega) ?_) | (refine wpList_store_blk rfl 48 (.tmp 4) (.tmp 22) rfl w.heap.size 0 27 27 (sgF fun _ => false) (fun i => sgF (fun x => S x || x == s[k].toNat) (0 + i)) rfl rfl (by exact (unhide HS3).2.2.1) Tryz.sizeSign (by omega) (by intro i hi; rfl) ?_; intro w9 hf9 hs9 hB9))
        have hfin : Blk w9 w.heap.size 27 (sgF (beg N F (bytes s))) := hB9.congr fun i hi => by
          rw [lay_all _ _ _ _ hi, Nat.zero_add]
          unfold sgF
          rw [unhide HE]
        exact bodyPost_ret (results_cell Tryz.results71 _ w.heap.size rfl 27 27 (sgF (beg N F (bytes s))) _ hfin Tryz.underlying48 rfl Tryz.sizeSign (by omega)) rfl ⟨rfl, (unhide HS3).1.trans1 hf9 (Or.inr (Nat.le_refl _))⟩
    · have HE := hide (show ∀ x, beg N F (bytes s) x = S x from fun x => by rw [unhide hd x, List.drop_of_length_le (by rw [bytes_len]; omega), beg, Bool.or_false])
      clear hd
      go_wp2_with (first | (refine wpList_load_blk rfl 48 (.tmp 5) rfl (some 37) rfl w1.heap.size 0 27 27 (sgF S) _ rfl (by exact (unhide hst).2.2.2.1) Tryz.underlying48 rfl Tryz.sizeSign (by omega) ?_) | (refine wpList_store_blk rfl 48 (.tmp 4) (.tmp 37) rfl w.heap.size 0 27 27 (sgF fun _ => false) (fun i => sgF S (0 + i)) rfl rfl (by exact (unhide hst).2.2.1) Tryz.sizeSign (by omega) (by intro i hi; rfl) ?_; intro w9 hf9 hs9 hB9))
      have hfin : Blk w9 w.heap.size 27 (sgF (beg N F (bytes s))) := hB9.congr fun i hi => by
        rw [lay_all _ _ _ _ hi, Nat.zero_add]
        unfold sgF
        rw [unhide HE]
      exact bodyPost_ret (results_cell Tryz.results71 _ w.heap.size rfl 27 27 (sgF (beg N F (bytes s))) _ hfin Tryz.underlying48 rfl Tryz.sizeSign (by omega)) rfl ⟨rfl, (unhide hst).1.trans1 hf9 (Or.inr (Nat.le_refl _))⟩
end Go.Proofs.YtkglggkkbmmjkaaGreatDoor

namespace Go.Proofs.YtkglggkkbmmjkaaGreatDoor
open Go.RowKit

def joinF (F : Nat → Nat → Bool) (c : Nat) (S : Nat → Bool) : Nat → Nat → Bool := fun a x => F a x || (a == c && S x)
def ffRound (N : Nat → Bool) (rs : List Ru) (F : Nat → Nat → Bool) : Nat → Nat → Bool := rs.foldl (fun F r => joinF F r.L (beg N F (bytes r.R))) F
def ffUpTo (N : Nat → Bool) (rs : List Ru) (j : Nat) (F : Nat → Nat → Bool) : Nat → Nat → Bool := ffRound N (rs.take j) F
def iterF (f : (Nat → Nat → Bool) → (Nat → Nat → Bool)) : Nat → (Nat → Nat → Bool) → (Nat → Nat → Bool)
  | 0, F => F
  | n + 1, F => f (iterF f n F)
theorem ffUpTo_succ (N : Nat → Bool) (rs : List Ru) (j : Nat) (F : Nat → Nat → Bool) (h : j < rs.length) : ffUpTo N rs (j + 1) F = joinF (ffUpTo N rs j F) rs[j].L (beg N (ffUpTo N rs j F) (bytes rs[j].R)) := by
  unfold ffUpTo ffRound
  rw [List.take_succ_eq_append_getElem h, List.foldl_append]; rfl
theorem ffUpTo_all (N : Nat → Bool) (rs : List Ru) (j : Nat) (F : Nat → Nat → Bool) (h : rs.length ≤ j) : ffUpTo N rs j F = ffRound N rs F := by
  unfold ffUpTo; rw [List.take_of_length_le h]

theorem gF_join {v : Value} {st : Nat} {R N : Nat → Bool} {F : Nat → Nat → Bool} {e p : Int} (c : Nat) (S : Nat → Bool) (hc : bigB c = true) (i : Nat) :
    orF (gF v st R N F e p) (54 + (c - 65) * 27) 27 (fun i => F c (sgn i)) (fun i => S (sgn i)) i = gF v st R N (joinF F c S) e p i := by
  have h := bigB_iff.1 hc
  unfold orF
  by_cases hr : 54 + (c - 65) * 27 ≤ i ∧ i < 54 + (c - 65) * 27 + 27
  · rw [if_pos hr]
    obtain ⟨k, rfl⟩ : ∃ k, i = 54 + (c - 65) * 27 + k := ⟨i - (54 + (c - 65) * 27), by omega⟩
    rw [gF_first c k hc (by omega), Nat.add_sub_cancel_left]
    simp [joinF]
  · rw [if_neg hr]
    unfold gF
    by_cases h0 : i = 0
    · simp [h0]
    by_cases h1 : i = 1
    · simp [h1]
    by_cases h2 : i < 28
    · simp only [if_neg h0, if_neg h1, if_pos h2]
    by_cases h3 : i < 54
    · simp only [if_neg h0, if_neg h1, if_neg h2, if_pos h3]
    by_cases h4 : i < 756
    · have hne : (65 + (i - 54) / 27 == c) = false := by
        rw [beq_eq_false_iff_ne]
        intro he
        have hd : (i - 54) / 27 = c - 65 := by omega
        have := Nat.div_add_mod (i - 54) 27
        have := Nat.mod_lt (i - 54) (show 0 < 27 by omega)
        rw [hd] at *
        omega
      simp only [if_neg h0, if_neg h1, if_neg h2, if_neg h3, if_pos h4, joinF, hne, Bool.false_and, Bool.or_false]
    · simp only [if_neg h0, if_neg h1, if_neg h2, if_neg h3, if_neg h4]

theorem p_taddAll' (b c q cap : Nat) (rs : List Ru) (N : Nat → Bool) (F : Nat → Nat → Bool) (e p : Int) (S : Nat → Bool) (w : World) (h : GAt w b q cap rs N F e p) (hc : bigB c = true) :
    Calls Tryz.prog 115 #[.pointer (some ⟨b, 54, none⟩), .int .u8 c, Agg 27 fun i => sgF S (0 + i)] w fun e' w' => e' = .returned (.tuple #[]) ∧ Fr [b] w w' ∧ GAt w' b q cap rs N (joinF F c S) e p := by
  rw [show (Agg 27 fun i => sgF S (0 + i)) = Agg 27 fun i => .bool ((fun i => S (sgn i)) i) from Agg.congr fun i _ => by rw [Nat.zero_add]; rfl]
  refine (p_taddAll b 54 c 758 _ (fun i => F c (sgn i)) (fun i => S (sgn i)) w h.blk (by omega) hc (fun i hi => gF_first c i hc hi)).mono ?_
  rintro e w' ⟨rfl, hf, hB⟩
  exact ⟨rfl, hf, ⟨hB.congr fun i _ => gF_join c S hc i, h.ru.fr hf (by have := h.ne; simp; omega) h.lt, h.ne, Nat.lt_of_lt_of_le h.lt hf.size, h.small, h.len⟩⟩

/-- the rules' letters are letters -/
def RuOk (rs : List Ru) : Prop := ∀ i (h : i < rs.length), bigB rs[i].L = true ∧ ∀ j, j < rs[i].R.size → letB (ch rs[i].R j) = true

/-- the state of fillFirst -/
def TS (w wr : World) (b q cap : Nat) (rs : List Ru) (N : Nat → Bool) (F : Nat → Nat → Bool) (e p : Int) : Prop := Fr [b] w wr ∧ GAt wr b q cap rs N F e p ∧ b < w.heap.size ∧ q < w.heap.size
theorem TS.fr {w wr wr' : World} {b q cap : Nat} {rs : List Ru} {N : Nat → Bool} {F : Nat → Nat → Bool} {e p : Int} (h : TS w wr b q cap rs N F e p) (k : Fr [] wr wr') : TS w wr' b q cap rs N F e p := ⟨h.1.trans0 k, h.2.1.fr0 k, h.2.2⟩
theorem TS.far {w wr wr' : World} {b q cap x : Nat} {rs : List Ru} {N : Nat → Bool} {F : Nat → Nat → Bool} {e p : Int} (h : TS w wr b q cap rs N F e p) (k : Fr [x] wr wr') (hx : w.heap.size ≤ x) : TS w wr' b q cap rs N F e p :=
  ⟨h.1.trans1 k (Or.inr hx), h.2.1.fr k (by have := h.2.2; simp; omega) (by have := h.2.2; simp; omega), h.2.2⟩

set_option maxHeartbeats 1600000 in
theorem p_fillFirst (b q cap : Nat) (rs : List Ru) (N : Nat → Bool) (F : Nat → Nat → Bool) (e p : Int) (w : World) (h : GAt w b q cap rs N F e p) (hok : RuOk rs) :
    Calls Tryz.prog 60 #[.pointer (some ⟨b, 0, none⟩)] w fun e' w' => e' = .returned (.tuple #[]) ∧ Fr [b] w w' ∧ GAt w' b q cap rs N (iterF (ffRound N rs) rs.length F) e p := by
  have hlen := h.len
  have HS := hide (show TS w w b q cap rs N F e p from ⟨Fr.refl _ _, h, h.blk.lt, h.lt⟩)
  have HOk := hide hok
  clear h hok
  go_enter Tryz.func60, Tryz.ntmps60
  go_wp2
  go_loopw [2] (fun r wr => ∃ k : Nat, k ≤ rs.length ∧ r = .int .i64 k ∧ Hid (TS w wr b q cap rs N (iterF (ffRound N rs) k F) e p)) (fun r _ => rs.length - (intOf r).toNat)
  case atStart => exact ⟨0, by omega, rfl, HS⟩
  case round =>
    obtain ⟨k, hk, rfl, hs⟩ := hrel
    have c0 := (unhide hs).2.1.c0
    by_cases hlt : k < rs.length
    · go_wp2
      clear c0
      go_loopw [3] (fun i wr2 => ∃ j : Nat, j ≤ rs.length ∧ i = .int .i64 j ∧ Hid (TS w wr2 b q cap rs N (ffUpTo N rs j (iterF (ffRound N rs) k F)) e p)) (fun i _ => rs.length - (intOf i).toNat)
      case atStart => exact ⟨0, by omega, rfl, hs⟩
      case round =>
        obtain ⟨j, hj, rfl, hs2⟩ := hrel
        have c0 := (unhide hs2).2.1.c0
        by_cases hjt : j < rs.length
        · obtain ⟨a0, a1, a2⟩ := (unhide hs2).2.1.ru j hjt
          have hsm := ((unhide hs2).2.1.small j hjt).1
          have HX := hide ((unhide hs2).fr ((Fr.refl _ _).alloc (.cells #[.int .u8 rs[j].L, .string rs[j].R, .int .i64 rs[j].A] 166)))
          have HR := hide (Blk.newRu wr rs[j] 166)
          have HU := hide (ffUpTo_succ N rs j (iterF (ffRound N rs) k F) hjt)
          go_wp2_with (first | (go_at_call 71; refine (p_firstOf b q cap rs N _ e p _ _ (by exact (unhide HX).2.1) hsm (unhide HOk j hjt).2).mono ?_; rintro e' w3 ⟨rfl, hf3⟩; have HX3 := hide ((unhide HX).fr hf3); have HR3 := hide ((unhide HR).fr0 hf3); clear hf3) | (refine wpList_alloc_blk rfl 48 rfl (some 5) rfl 27 _ Tryz.zeroSign ?_; intro w4 hf4 hs4 hB4; have HX4 := hide ((unhide HX3).fr hf4); have HR4 := hide ((unhide HR3).fr0 hf4); have HB4 := hide hB4; clear hf4 hs4 hB4) | (refine wpList_store_blk rfl 48 (.tmp 5) (.tmp 34) rfl w3.heap.size 0 27 27 (sgF fun _ => false) (sgF (beg N (ffUpTo N rs j (iterF (ffRound N rs) k F)) (bytes rs[j].R))) rfl rfl (by exact unhide HB4) Tryz.sizeSign (by omega) (by intro i hi; rfl) ?_; intro w5 hf5 hs5 hB5; have HX5 := hide ((unhide HX4).far hf5 (by exact (unhide HX3).1.size)); have HR5 := hide ((unhide HR4).fr1 hf5 (by have := (unhide HR3).lt; omega)); have HB5 := hide (hB5.congr fun i hi => lay_all _ _ _ i hi); clear hf5 hs5 hB5))
          generalize hG : ffUpTo N rs j (iterF (ffRound N rs) k F) = G at *
          have HG := hide hG
          clear hG c0 a0 a1 a2 hs
          have lb1 : b < wr.heap.size := (unhide hs2).2.1.blk.lt
          have lb3 : b < w3.heap.size := (unhide HX3).2.1.blk.lt
          refine wp_region_held_drew (S := fun w' => Blk w' wr.heap.size 3 (ruF rs[j]) ∧ Blk w' w3.heap.size 27 (sgF (beg N G (bytes rs[j].R)))) (by kernel_rfl) ⟨(unhide HR5).drew, (unhide HB5).drew⟩ (fun hHeld => ?_)
          refine wpAnyH_take (i := 0) (v := .pointer (some ⟨b, 0, none⟩)) rfl (by kernel_rfl) (by kernel_rfl) (by kernel_rfl) (fun _ _ _ h => h) (Or.inl ⟨by rfl, fun _ _ => rfl⟩) hHeld ?_
          refine wpAnyH_take (i := 1) (v := .pointer (some ⟨b, 0, none⟩)) rfl (by kernel_rfl) (by kernel_rfl) (by kernel_rfl) (fun _ _ _ h => h) (Or.inl ⟨by rfl, fun _ _ => rfl⟩) hHeld ?_
          refine wpAnyH_take (i := 2) (v := .pointer (some ⟨b, 54, none⟩)) rfl (by kernel_rfl) (by kernel_rfl) (by kernel_rfl) (fun _ _ _ h => h) (Or.inl ⟨by rfl, fun _ _ => by go_simp⟩) hHeld ?_
          refine wpAnyH_take (i := 3) (v := .pointer (some ⟨wr.heap.size, 0, none⟩)) rfl (by kernel_rfl) (by kernel_rfl) (by kernel_rfl) (fun _ _ _ h => h) (Or.inl ⟨by rfl, fun _ _ => by go_simp⟩) hHeld ?_
          refine wpAnyH_take (i := 4) (v := .int .u8 rs[j].L) rfl (by kernel_rfl) (by kernel_rfl) (by kernel_rfl) (fun _ _ _ h => h) (Or.inl ⟨by rfl, fun w' hw => by have hc : w'.cell? ⟨wr.heap.size, 0, none⟩ = some (.int .u8 rs[j].L) := hw.1.cell 0 (by omega)
                                                                                                                                                                      go_simp⟩) hHeld ?_
          refine wpAnyH_take (i := 5) rfl (by kernel_rfl) (by kernel_rfl) (by kernel_rfl) (fun _ _ _ h => h) (yieldsIf_load_blk (by rfl) 48 (.tmp 5) rfl w3.heap.size 0 27 27 (sgF (beg N G (bytes rs[j].R))) _ rfl (fun _ h => h.2) Tryz.underlying48 rfl Tryz.sizeSign (by omega)) hHeld ?_
          refine wpAnyH_ready (rs := [6]) (by kernel_rfl) (by simp) ?_
          refine AllReadyH.cons rfl (fun K hK => ?_) AllReadyH.nil
          rw [if_pos (by rfl)]
          go_wp2_with fail
          refine (p_taddAll' b rs[j].L q cap rs N G e p (beg N G (bytes rs[j].R)) _ (by exact (unhide HX5).2.1.fr0 (Fr.refl [] w5).drew) (unhide HOk j hjt).1).mono ?_
          rintro e' w6 ⟨rfl, hf6, hg6⟩
          refine hK.out _ _ ⟨hHeld.1.fr1 hf6 (by omega), hHeld.2.fr1 hf6 (by omega)⟩ (fun _ => ?_)
          refine wpAnyH_done (by kernel_rfl) ?_ _
          have HY := hide (show TS w w6 b q cap rs N (ffUpTo N rs (j + 1) (iterF (ffRound N rs) k F)) e p from ⟨((unhide HX5).1.drew).trans hf6 (by simp), by rw [unhide HU]; exact hg6, (unhide HX5).2.2⟩)
          clear hg6 hf6 hK
          go_wp2
          go_roundw
          case rel => exact ⟨j + 1, by omega, by go_num, HY⟩
          case measure => simp [intOf]; omega
        · have HY := hide (show TS w wr b q cap rs N (iterF (ffRound N rs) (k + 1) F) e p from by
            have := unhide hs2
            rw [ffUpTo_all _ _ _ _ (by omega)] at this; exact this)
          clear hs2
          go_wp2
          go_roundw
          case rel => exact ⟨k + 1, by omega, by go_num, HY⟩
          case measure => simp [intOf]; omega
    · have HN := hide (show TS w wr b q cap rs N (iterF (ffRound N rs) rs.length F) e p from by
        have e1 : k = rs.length := by omega
        have := unhide hs
        rw [e1] at this; exact this)
      clear hs
      go_wp2
      go_end0
      exact ⟨rfl, (unhide HN).1, (unhide HN).2.1⟩
end Go.Proofs.YtkglggkkbmmjkaaGreatDoor
