import Derived.Test.YtkglggkkbmmjkaaGreatDoorJ11RUsed
import Derived.Deep.LoopGhost
namespace Go.Proofs.YtkglggkkbmmjkaaGreatDoor
open Go.RowKit

def rnRound (rs : List Ru) (S : Nat → Bool) : Nat → Bool := rs.foldl (fun S r => if (bytes r.R).all S then ins S r.L else S) S
def rnUpTo (rs : List Ru) (j : Nat) (S : Nat → Bool) : Nat → Bool := rnRound (rs.take j) S
theorem rnUpTo_succ (rs : List Ru) (j : Nat) (S : Nat → Bool) (h : j < rs.length) :
    rnUpTo rs (j + 1) S = if (bytes rs[j].R).all (rnUpTo rs j S) then ins (rnUpTo rs j S) rs[j].L else rnUpTo rs j S := by
  unfold rnUpTo rnRound
  rw [List.take_succ_eq_append_getElem h, List.foldl_append]; rfl
theorem rnUpTo_all (rs : List Ru) (j : Nat) (S : Nat → Bool) (h : rs.length ≤ j) : rnUpTo rs j S = rnRound rs S := by
  unfold rnUpTo; rw [List.take_of_length_le h]

set_option maxHeartbeats 1600000 in
theorem r_nulls (q cap : Nat) (rs : List Ru) (w : World) (h : LAt w q rs) :
    Calls Tryz.prog 69 #[.slice (some ⟨q, 0, none⟩) rs.length cap] w fun e' w' => e' = .returned (Agg 128 (sF (iter (rnRound rs) (rs.length + 1) fun _ => false))) ∧ Fr [] w w' := by
  have H := hide h
  have hlen := h.len
  clear h
  go_enter Tryz.func69, Tryz.ntmps69
  go_wp2_with (first | (refine wpList_alloc_blk rfl 105 rfl (some 2) rfl 128 _ Tryz.zeroSet ?_; intro w1 hf1 hs1 hB1; have HA := hide (And.intro hf1 (And.intro hs1 hB1)); clear hf1 hs1 hB1) | (refine wpList_alloc_blk rfl 105 rfl (some 3) rfl 128 _ Tryz.zeroSet ?_; intro w2 hf2 hs2 hB2; have HB := hide (And.intro hf2 (And.intro hs2 hB2)); clear hf2 hs2 hB2))
  have HS := hide (show US w w2 q rs w.heap.size w1.heap.size (fun _ => false) from
    ⟨(unhide HA).1.trans0 (unhide HB).1, ((unhide H).fr0 (unhide HA).1).fr0 (unhide HB).1, (unhide HA).2.2.fr0 (unhide HB).1, (unhide HB).2.2, Nat.le_refl _, by have := (unhide HA).2.1; omega, (unhide H).lt⟩)
  clear HA HB H
  go_loopw [4] (fun r wr => ∃ k : Nat, k ≤ rs.length + 1 ∧ r = .int .i64 k ∧ Hid (US w wr q rs w.heap.size w1.heap.size (iter (rnRound rs) k fun _ => false))) (fun r _ => rs.length + 1 - (intOf r).toNat)
  case atStart => exact ⟨0, by omega, rfl, HS⟩
  case round =>
    obtain ⟨k, hk, rfl, hs⟩ := hrel
    by_cases hlt : k ≤ rs.length
    · go_wp2
      go_loopw [5] (fun i wr2 => ∃ j : Nat, j ≤ rs.length ∧ i = .int .i64 j ∧ Hid (US w wr2 q rs w.heap.size w1.heap.size (rnUpTo rs j (iter (rnRound rs) k fun _ => false)))) (fun i _ => rs.length - (intOf i).toNat)
      case atStart => exact ⟨0, by omega, rfl, hs⟩
      case round =>
        obtain ⟨j, hj, rfl, hs2⟩ := hrel
        by_cases hjt : j < rs.length
        · obtain ⟨a0, a1, a2⟩ := (unhide hs2).2.1.ru j hjt
          have hsm := ((unhide hs2).2.1.small j hjt).1
          have HOk := hide ((unhide hs2).2.1.ok j hjt)
          have HU := hide (rnUpTo_succ rs j (iter (rnRound rs) k fun _ => false) hjt)
          generalize hG : rnUpTo rs j (iter (rnRound rs) k fun _ => false) = G at *
          clear hG
          go_wp2
          go_loop [6, 7] (fun al i => ∃ m : Nat, m ≤ rs[j].R.size ∧ i = .int .i64 m ∧ al = .bool (((bytes rs[j].R).take m).all G)) (fun _ i => rs[j].R.size - (intOf i).toNat)
          case atStart => exact ⟨0, by omega, rfl, by simp⟩
          case round =>
            obtain ⟨m, hm, rfl, rfl⟩ := hrel
            by_cases hmt : m < rs[j].R.size
            · have hch := hide (ch_eq rs[j].R m hmt)
              have hlt : rs[j].R[m].toNat < 128 := by rw [← unhide hch]; exact let_lt ((unhide HOk).2 m hmt)
              have hcl : wr.cell? ⟨w1.heap.size, rs[j].R[m].toNat, none⟩ = some (.bool (G rs[j].R[m].toNat)) := (unhide hs2).2.2.2.1.cell _ hlt
              have HM := hide (all_snoc rs[j].R m hmt G)
              cases hal : ((bytes rs[j].R).take m).all G
              · have HN := hide (show ((bytes rs[j].R).take (m + 1)).all G = false from by rw [unhide HM, hal]; rfl)
                clear HM
                go_wp2
                go_round
                case rel => exact ⟨m + 1, by omega, by go_num, by rw [unhide HN]⟩
                case measure => simp [intOf]; omega
              · have HN := hide (show ((bytes rs[j].R).take (m + 1)).all G = G rs[j].R[m].toNat from by rw [unhide HM, hal, unhide hch]; simp)
                clear HM
                go_wp2
                go_round
                case rel => exact ⟨m + 1, by omega, by go_num, by rw [unhide HN]⟩
                case measure => simp [intOf]; omega
            · have HE := hide (show ((bytes rs[j].R).take m) = bytes rs[j].R from bytes_take_all _ _ (by omega))
              cases hal : ((bytes rs[j].R).take m).all G
              · have HN := hide (show rnUpTo rs (j + 1) (iter (rnRound rs) k fun _ => false) = G from by rw [unhide HU, ← unhide HE, hal]; rfl)
                clear HU
                go_wp2
                go_roundw
                case rel => exact ⟨j + 1, by omega, by go_num, hide (by rw [unhide HN]; exact unhide hs2)⟩
                case measure => simp [intOf]; omega
              · have HN := hide (show rnUpTo rs (j + 1) (iter (rnRound rs) k fun _ => false) = ins G rs[j].L from by rw [unhide HU, ← unhide HE, hal]; rfl)
                have hL : rs[j].L < 128 := big_lt (unhide HOk).1
                have d0 := (unhide hs2).2.2.2.1.cell rs[j].L hL
                have z0 := (unhide hs2).2.2.2.1.free rs[j].L
                have HY := hide ((unhide hs2).set rs[j].L)
                clear HU
                go_wp2
                go_roundw
                case rel => exact ⟨j + 1, by omega, by go_num, hide (by rw [unhide HN]; exact unhide HY)⟩
                case measure => simp [intOf]; omega
        · have HY := hide (show US w wr q rs w.heap.size w1.heap.size (iter (rnRound rs) (k + 1) fun _ => false) from by
            have := unhide hs2
            rw [rnUpTo_all _ _ _ (by omega)] at this; exact this)
          clear hs2
          go_wp2
          go_roundw
          case rel => exact ⟨k + 1, by omega, by go_num, HY⟩
          case measure => simp [intOf]; omega
    · have HK := hide (show k = rs.length + 1 by omega)
      go_wp2_with (first | (refine wpList_load_blk rfl 105 (.tmp 3) rfl (some 49) rfl w1.heap.size 0 128 128 (sF (iter (rnRound rs) k fun _ => false)) _ rfl (by exact (unhide hs).2.2.2.1) Tryz.underlying105 rfl Tryz.sizeSet (by omega) ?_) | (refine wpList_store_blk rfl 105 (.tmp 2) (.tmp 49) rfl w.heap.size 0 128 128 (sF fun _ => false) (fun i => sF (iter (rnRound rs) k fun _ => false) (0 + i)) rfl rfl (by exact (unhide hs).2.2.1) Tryz.sizeSet (by omega) (by intro i hi; rfl) ?_; intro w5 hf5 hs5 hB5))
      exact bodyPost_ret (results_cell Tryz.results69 _ w.heap.size rfl 128 128 (sF (iter (rnRound rs) k fun _ => false)) _ (hB5.congr fun i hi => by rw [lay_all _ _ _ i hi, Nat.zero_add]) Tryz.underlying105 rfl Tryz.sizeSet (by omega)) rfl ⟨by rw [← unhide HK], (unhide hs).1.trans1 hf5 (Or.inr (Nat.le_refl _))⟩

/-- the reference's sets of letters lie in memory at an offset: one of a table's -/
theorem orF_skip (f : Nat → Value) (off k : Nat) (A M : Nat → Bool) (h : f (off + k) = .bool (A k)) (hm : (A k || M k) = A k) (i : Nat) : orF f off k A M i = orF f off (k + 1) A M i := by
  unfold orF
  by_cases h2 : off ≤ i ∧ i < off + k
  · rw [if_pos h2, if_pos (by omega)]
  · rw [if_neg h2]
    by_cases e : i = off + k
    · subst e; rw [if_pos (by omega), show off + k - off = k from by omega, hm, h]
    · rw [if_neg (by omega)]
def anyNew (A M : Nat → Bool) (k : Nat) : Bool := (List.range k).any fun i => M i && !A i
theorem anyNew_succ (A M : Nat → Bool) (k : Nat) : anyNew A M (k + 1) = (anyNew A M k || (M k && !A k)) := by
  unfold anyNew; rw [List.range_succ, List.any_append]; simp

set_option maxRecDepth 100000 in
set_option maxHeartbeats 1600000 in
/-- Set.join -/
theorem r_join (b off n b2 off2 n2 : Nat) (f f2 : Nat → Value) (A M : Nat → Bool) (w : World) (hB : Blk w b n f) (hn : off + 128 ≤ n) (hA : ∀ i, i < 128 → f (off + i) = .bool (A i))
    (hB2 : Blk w b2 n2 f2) (hn2 : off2 + 128 ≤ n2) (hM : ∀ i, i < 128 → f2 (off2 + i) = .bool (M i)) (hne : b ≠ b2) :
    Calls Tryz.prog 77 #[.pointer (some ⟨b, off, none⟩), .pointer (some ⟨b2, off2, none⟩)] w fun e w' => e = .returned (.bool (anyNew A M 128)) ∧ Fr [b] w w' ∧ w'.heap.size = w.heap.size ∧ Blk w' b n (orF f off 128 A M) := by
  have HB := hide hB
  have HA := hide hA
  have HB2 := hide hB2
  have HM := hide hM
  have HNe := hide hne
  clear hB hA hB2 hM hne
  go_enter Tryz.func77, Tryz.ntmps77
  go_wp2
  go_loopw [5, 6] (fun mo a wr => ∃ k : Nat, k ≤ 128 ∧ a = .int .i64 k ∧ mo = .bool (anyNew A M k) ∧ Hid (Fr [b] w wr ∧ wr.heap.size = w.heap.size ∧ Blk wr b n (orF f off k A M) ∧ Blk wr b2 n2 f2)) (fun _ a _ => 128 - (intOf a).toNat)
  case atStart => exact ⟨0, by omega, rfl, rfl, Fr.refl _ _, rfl, (unhide HB).congr fun i _ => (orF_zero f off A M i).symm, unhide HB2⟩
  case round =>
    obtain ⟨k, hk, rfl, rfl, hs⟩ := hrel
    by_cases hlt : k < 128
    · obtain ⟨av, hav⟩ : ∃ av, A k = av := ⟨_, rfl⟩
      obtain ⟨mv, hmv⟩ : ∃ mv, M k = mv := ⟨_, rfl⟩
      have d0 : wr.cell? ⟨b, off + k, none⟩ = some (.bool av) := by
        rw [(unhide hs).2.2.1.cell (off + k) (by omega)]; unfold orF; rw [if_neg (by omega), unhide HA k hlt, hav]
      have z0 := (unhide hs).2.2.1.free (off + k)
      have d1 : wr.cell? ⟨b2, off2 + k, none⟩ = some (.bool mv) := by rw [(unhide hs).2.2.2.cell _ (by omega), unhide HM k hlt, hmv]
      have HS := hide (anyNew_succ A M k)
      have HAV := hide hav
      have HMV := hide hmv
      clear hav hmv
      cases mv
      · have HN := hide ((unhide HS).trans (show _ = anyNew A M k from by rw [unhide HMV]; simp))
        have HY := hide (show Fr [b] w wr ∧ wr.heap.size = w.heap.size ∧ Blk wr b n (orF f off (k + 1) A M) ∧ Blk wr b2 n2 f2 from ⟨(unhide hs).1, (unhide hs).2.1, (unhide hs).2.2.1.congr fun i _ => orF_skip f off k A M (unhide HA k hlt) (by rw [unhide HMV]; simp) i, (unhide hs).2.2.2⟩)
        clear HS hs
        go_wp2
        go_roundw
        case rel => exact ⟨k + 1, by omega, by go_num, by rw [unhide HN], HY⟩
        case measure => simp [intOf]; omega
      · cases av
        · have HN := hide ((unhide HS).trans (show _ = true from by rw [unhide HMV, unhide HAV]; simp))
          have HY := hide (show Fr [b] w (wr.setCell ⟨b, off + k, none⟩ (.bool true)) ∧ (wr.setCell ⟨b, off + k, none⟩ (.bool true)).heap.size = w.heap.size ∧ Blk (wr.setCell ⟨b, off + k, none⟩ (.bool true)) b n (orF f off (k + 1) A M) ∧ Blk (wr.setCell ⟨b, off + k, none⟩ (.bool true)) b2 n2 f2 from
            ⟨(unhide hs).1.setCell _ (by simp) _, by simpa using (unhide hs).2.1, ((unhide hs).2.2.1.setCell (off + k) _).congr fun i _ => by
              have := orF_succ f off k A M i
              rw [unhide HMV, unhide HAV] at this; exact this, (unhide hs).2.2.2.setCell_ne _ (by exact unhide HNe) _⟩)
          clear HS hs
          go_wp2
          go_roundw
          case rel => exact ⟨k + 1, by omega, by go_num, by rw [unhide HN], HY⟩
          case measure => simp [intOf]; omega
        · have HN := hide ((unhide HS).trans (show _ = anyNew A M k from by rw [unhide HMV, unhide HAV]; simp))
          have HY := hide (show Fr [b] w wr ∧ wr.heap.size = w.heap.size ∧ Blk wr b n (orF f off (k + 1) A M) ∧ Blk wr b2 n2 f2 from ⟨(unhide hs).1, (unhide hs).2.1, (unhide hs).2.2.1.congr fun i _ => orF_skip f off k A M (unhide HA k hlt) (by rw [unhide HAV]; simp) i, (unhide hs).2.2.2⟩)
          clear HS hs
          go_wp2
          go_roundw
          case rel => exact ⟨k + 1, by omega, by go_num, by rw [unhide HN], HY⟩
          case measure => simp [intOf]; omega
    · have HK := hide (show k = 128 by omega)
      go_wp2
      go_ret
      exact ⟨ret_bool (by rw [unhide HK]), (unhide hs).1, (unhide hs).2.1, by have := (unhide hs).2.2.1; rw [unhide HK] at this; exact this⟩

/-- a set that lies in a block from a place on -/
def NAt (w : World) (b off : Nat) (N : Nat → Bool) : Prop := b < w.heap.size ∧ ∀ i, i < 128 → w.cell? ⟨b, off + i, none⟩ = some (.bool (N i))
theorem NAt.lt {w : World} {b off : Nat} {N : Nat → Bool} (h : NAt w b off N) : b < w.heap.size := h.1
theorem NAt.cell {w : World} {b off : Nat} {N : Nat → Bool} (h : NAt w b off N) (i : Nat) (hi : i < 128) : w.cell? ⟨b, off + i, none⟩ = some (.bool (N i)) := h.2 i hi
theorem NAt.fr {S : List Nat} {w w' : World} {b off : Nat} {N : Nat → Bool} (h : NAt w b off N) (k : Fr S w w') (hb : b ∉ S) : NAt w' b off N :=
  ⟨Nat.lt_of_lt_of_le h.1 k.size, fun i hi => by
    have := h.2 i hi
    unfold World.cell? at this ⊢
    rw [k.block b h.1 hb]; exact this⟩
theorem NAt.fr0 {w w' : World} {b off : Nat} {N : Nat → Bool} (h : NAt w b off N) (k : Fr [] w w') : NAt w' b off N := h.fr k (by simp)
theorem NAt.fr1 {w w' : World} {b off x : Nat} {N : Nat → Bool} (h : NAt w b off N) (k : Fr [x] w w') (hb : b ≠ x) : NAt w' b off N := h.fr k (by simpa using hb)
theorem NAt.of_blk {w : World} {b off n : Nat} {f : Nat → Value} {N : Nat → Bool} (h : Blk w b n f) (hn : off + 128 ≤ n) (hf : ∀ i, i < 128 → f (off + i) = .bool (N i)) : NAt w b off N :=
  ⟨h.lt, fun i hi => by rw [h.cell _ (by omega), hf i hi]⟩
theorem NAt.of_set {w : World} {b : Nat} {N : Nat → Bool} (h : Blk w b 128 (sF N)) : NAt w b 0 N := NAt.of_blk h (by omega) (fun i _ => by rw [Nat.zero_add]; rfl)

set_option maxHeartbeats 1000000 in
theorem r_nullO (s : ByteArray) (b off : Nat) (S : Nat → Bool) (w : World) (hs : s.size ≤ 1000) (hB : NAt w b off S) (hl : ∀ i, i < s.size → letB (ch s i) = true) :
    Calls Tryz.prog 70 #[.pointer (some ⟨b, off, none⟩), .string s] w fun e w' => e = .returned (.bool ((bytes s).all S)) ∧ Fr [] w w' := by
  have H := hide hB
  have HL := hide hl
  clear hB hl
  go_enter Tryz.func70, Tryz.ntmps70
  go_wp2
  go_loopw [5] (fun i wr => ∃ k : Nat, k ≤ s.size ∧ i = .int .i64 k ∧ Hid (((bytes s).take k).all S = true) ∧ Hid (Fr [] w wr)) (fun i _ => s.size - (intOf i).toNat)
  case atStart => exact ⟨0, by omega, rfl, rfl, Fr.refl _ _⟩
  case round =>
    obtain ⟨k, hk, rfl, hd, hf⟩ := hrel
    by_cases hlt : k < s.size
    · have hch := hide (ch_eq s k hlt)
      have hlt2 : s[k].toNat < 128 := by rw [← unhide hch]; exact let_lt (unhide HL k hlt)
      have HM := hide (show ((bytes s).take (k + 1)).all S = S s[k].toNat from by
        rw [bytes_snoc s k hlt, List.all_append, unhide hd, unhide hch]; simp)
      obtain ⟨sv, hsv⟩ : ∃ sv, S s[k].toNat = sv := ⟨_, rfl⟩
      have d0 : wr.cell? ⟨b, off + s[k].toNat, none⟩ = some (.bool sv) := by rw [((unhide H).fr0 (unhide hf)).cell _ hlt2, hsv]
      have HSV := hide hsv
      clear hd hsv
      cases sv
      · have HE := hide (show (bytes s).all S = false from by
          rw [← List.take_append_drop (k + 1) (bytes s), List.all_append, unhide HM, unhide HSV]; simp)
        clear HM
        go_wp2
        go_quiet (fail)
        go_wp2
        go_ret
        exact ⟨ret_bool (a := false) (unhide HE).symm, (unhide hf).trans0 (fr_drewN _ _)⟩
      · have HN := hide ((unhide HM).trans (unhide HSV))
        clear HM
        go_wp2
        go_quiet (fail)
        go_wp2
        go_roundw
        case rel => exact ⟨k + 1, by omega, by go_num, HN, (unhide hf).trans0 (fr_drewN _ _)⟩
        case measure => simp [intOf]; omega
    · have HE := hide (show (bytes s).all S = true from by rw [← bytes_take_all s k (by omega)]; exact unhide hd)
      go_wp2
      go_ret
      exact ⟨ret_bool (a := true) (unhide HE).symm, unhide hf⟩

theorem r_null (s : ByteArray) (b : Nat) (S : Nat → Bool) (w : World) (hs : s.size ≤ 1000) (hB : Blk w b 128 (sF S)) (hl : ∀ i, i < s.size → letB (ch s i) = true) :
    Calls Tryz.prog 70 #[.pointer (some ⟨b, 0, none⟩), .string s] w fun e w' => e = .returned (.bool ((bytes s).all S)) ∧ Fr [] w w' := r_nullO s b 0 S w hs (NAt.of_set hB) hl

end Go.Proofs.YtkglggkkbmmjkaaGreatDoor

namespace Go.Proofs.YtkglggkkbmmjkaaGreatDoor
open Go.RowKit

/-- the reference's table: 26 sets -/
def tF (F : Nat → Nat → Bool) : Nat → Value := fun i => .bool (F (65 + i / 128) (i % 128))
theorem tF_at (F : Nat → Nat → Bool) (c i : Nat) (hc : bigB c = true) (hi : i < 128) : tF F ((c - 65) * 128 + i) = .bool (F c i) := by
  have h := bigB_iff.1 hc
  unfold tF
  rw [show (c - 65) * 128 + i = i + 128 * (c - 65) from by omega, Nat.add_mul_mod_self_left, Nat.add_mul_div_left _ _ (by omega), Nat.mod_eq_of_lt hi, Nat.div_eq_of_lt hi, show 65 + (0 + (c - 65)) = c from by omega]
theorem tF_join (F : Nat → Nat → Bool) (c : Nat) (M : Nat → Bool) (hc : bigB c = true) (i : Nat) : orF (tF F) ((c - 65) * 128) 128 (F c) M i = tF (joinF F c M) i := by
  have h := bigB_iff.1 hc
  unfold orF
  by_cases hr : (c - 65) * 128 ≤ i ∧ i < (c - 65) * 128 + 128
  · rw [if_pos hr]
    obtain ⟨k, rfl⟩ : ∃ k, i = (c - 65) * 128 + k := ⟨i - (c - 65) * 128, by omega⟩
    rw [tF_at _ c k hc (by omega), Nat.add_sub_cancel_left]
    simp [joinF]
  · rw [if_neg hr]
    have hne : (65 + i / 128 == c) = false := by
      rw [beq_eq_false_iff_ne]
      intro he
      have hd : i / 128 = c - 65 := by omega
      have := Nat.div_add_mod i 128
      have := Nat.mod_lt i (show 0 < 128 by omega)
      rw [hd] at *
      omega
    unfold tF joinF
    rw [hne, Bool.false_and, Bool.or_false]
theorem sF_or (S M : Nat → Bool) (i : Nat) (hi : i < 128) : orF (sF S) 0 128 S M i = sF (fun x => S x || M x) i := by
  unfold orF sF; rw [if_pos (by omega)]; rfl

/-- the state of begins -/
def BS (w wr : World) (nb no fb : Nat) (N : Nat → Bool) (F : Nat → Nat → Bool) (r0 r1 : Nat) (S : Nat → Bool) : Prop :=
  Fr [] w wr ∧ NAt wr nb no N ∧ Blk wr fb 3328 (tF F) ∧ Blk wr r0 128 (sF fun _ => false) ∧ Blk wr r1 128 (sF S) ∧ w.heap.size ≤ r0 ∧ r0 < r1 ∧ nb < w.heap.size ∧ fb < w.heap.size
theorem BS.put {w wr wr' : World} {nb no fb : Nat} {N : Nat → Bool} {F : Nat → Nat → Bool} {r0 r1 : Nat} {S S' : Nat → Bool} (h : BS w wr nb no fb N F r0 r1 S) (k : Fr [r1] wr wr') (hB : Blk wr' r1 128 (sF S')) : BS w wr' nb no fb N F r0 r1 S' := by
  obtain ⟨h1, h2, h3, h4, h5, h6, h7, h8, h9⟩ := h
  exact ⟨h1.trans1 k (Or.inr (by omega)), h2.fr1 k (by omega), h3.fr1 k (by omega), h4.fr1 k (by omega), hB, h6, h7, h8, h9⟩

set_option maxHeartbeats 1600000 in
theorem r_beginsO (nb no fb cap : Nat) (N : Nat → Bool) (F : Nat → Nat → Bool) (s : ByteArray) (w : World) (hN : NAt w nb no N) (hF : Blk w fb 3328 (tF F)) (hs : s.size ≤ 1000) (hl : ∀ i, i < s.size → letB (ch s i) = true) :
    Calls Tryz.prog 73 #[.pointer (some ⟨nb, no, none⟩), .slice (some ⟨fb, 0, none⟩) 26 cap, .string s] w fun e' w' => e' = .returned (Agg 128 (sF (beg N F (bytes s)))) ∧ Fr [] w w' := by
  have HN := hide hN
  have HFF := hide hF
  have HL := hide hl
  clear hN hF hl
  go_enter Tryz.func73, Tryz.ntmps73
  go_wp2_with (first | (refine wpList_alloc_blk rfl 105 rfl (some 6) rfl 128 _ Tryz.zeroSet ?_; intro w1 hf1 hs1 hB1; have HA := hide (And.intro hf1 (And.intro hs1 hB1)); clear hf1 hs1 hB1) | (refine wpList_alloc_blk rfl 105 rfl (some 7) rfl 128 _ Tryz.zeroSet ?_; intro w2 hf2 hs2 hB2; have HB := hide (And.intro hf2 (And.intro hs2 hB2)); clear hf2 hs2 hB2))
  have HS := hide (show BS w w2 nb no fb N F w.heap.size w1.heap.size (fun _ => false) from
    ⟨(unhide HA).1.trans0 (unhide HB).1, ((unhide HN).fr0 (unhide HA).1).fr0 (unhide HB).1, ((unhide HFF).fr0 (unhide HA).1).fr0 (unhide HB).1, (unhide HA).2.2.fr0 (unhide HB).1, (unhide HB).2.2, Nat.le_refl _, by have := (unhide HA).2.1; omega, (unhide HN).lt, (unhide HFF).lt⟩)
  clear HA HB HN HFF
  go_loopw [8] (fun i wr => ∃ (k : Nat) (S : Nat → Bool), k ≤ s.size ∧ i = .int .i64 k ∧ Hid (∀ x, beg N F (bytes s) x = (S x || beg N F ((bytes s).drop k) x)) ∧ Hid (BS w wr nb no fb N F w.heap.size w1.heap.size S)) (fun i _ => s.size - (intOf i).toNat)
  case atStart => exact ⟨0, fun _ => false, by omega, rfl, fun x => by simp, HS⟩
  case round =>
    obtain ⟨k, S, hk, rfl, hd, hst⟩ := hrel
    by_cases hlt : k < s.size
    · have hch := hide (ch_eq s k hlt)
      have hlt2 : s[k].toNat < 128 := by rw [← unhide hch]; exact let_lt (unhide HL k hlt)
      have HD := hide (show ∀ x, beg N F (bytes s) x = (S x || if smallB (ch s k) then x == ch s k else F (ch s k) x || (hasB N (ch s k) && beg N F ((bytes s).drop (k + 1)) x)) from fun x => by rw [unhide hd x, bytes_drop s k hlt, beg])
      clear hd
      cases h1 : smallB s[k].toNat
      · have hbig : bigB s[k].toNat = true := by
          have := unhide HL k hlt
          rw [unhide hch] at this
          simpa [letB, h1] using this
        have hb := bigB_iff.1 hbig
        have e0 : (0 : Int) ≤ (s[k].toNat : Int) - 65 := by omega
        have e1 : (s[k].toNat : Int) - 65 < 26 := by omega
        have HNe := hide (show w1.heap.size ≠ fb from by have := unhide hst; obtain ⟨_, _, _, _, _, x6, x7, x8, x9⟩ := this; omega)
        have HTM := hide (show ∀ i, i < 128 → tF F ((s[k].toNat - 65) * 128 + i) = .bool (F s[k].toNat i) from fun i hi => tF_at F _ i hbig hi)
        have hoff : (s[k].toNat - 65) * 128 + 128 ≤ 3328 := by omega
        cases hn : N s[k].toNat
        · have HE := hide (show ∀ x, beg N F (bytes s) x = (S x || F s[k].toNat x) from fun x => by rw [unhide HD x, unhide hch, h1, hasB, hn]; simp)
          clear HD
          go_wp2_with (first | (go_at_call 53; refine (r_isSmall_is _ false _ h1).mono ?_; rintro e w' ⟨rfl, rfl⟩) | (go_at_call 77; refine (r_join w1.heap.size 0 128 fb ((s[k].toNat - 65) * 128) 3328 (sF S) (tF F) S (F s[k].toNat) _ (by exact (unhide hst).2.2.2.2.1) (by omega) (fun i _ => by rw [Nat.zero_add]; rfl) (by exact (unhide hst).2.2.1) hoff (unhide HTM) (unhide HNe)).mono ?_; rintro e w4 ⟨rfl, hf4, hs4, hB4⟩; have HS4 := hide ((unhide hst).put hf4 (hB4.congr fun i hi => sF_or S (F s[k].toNat) i hi)); have d4 := ((unhide HS4).2.1.cell s[k].toNat hlt2).trans (congrArg (fun v => some (Value.bool v)) hn); clear hf4 hs4 hB4) | (refine wpList_load_blk rfl 105 (.tmp 7) rfl (some 36) rfl w1.heap.size 0 128 128 (sF (fun x => S x || F s[k].toNat x)) _ rfl (by exact (unhide HS4).2.2.2.2.1) Tryz.underlying105 rfl Tryz.sizeSet (by omega) ?_) | (refine wpList_store_blk rfl 105 (.tmp 6) (.tmp 36) rfl w.heap.size 0 128 128 (sF fun _ => false) (fun i => sF (fun x => S x || F s[k].toNat x) (0 + i)) rfl rfl (by exact (unhide HS4).2.2.2.1) Tryz.sizeSet (by omega) (by intro i hi; rfl) ?_; intro w5 hf5 hs5 hB5))
          exact bodyPost_ret (results_cell Tryz.results73 _ w.heap.size rfl 128 128 (sF (fun x => S x || F s[k].toNat x)) _ (hB5.congr fun i hi => by rw [lay_all _ _ _ i hi, Nat.zero_add]) Tryz.underlying105 rfl Tryz.sizeSet (by omega)) rfl ⟨by rw [show beg N F (bytes s) = (fun x => S x || F s[k].toNat x) from funext fun x => unhide HE x], (unhide HS4).1.trans1 hf5 (Or.inr (Nat.le_refl _))⟩
        · have HE := hide (show ∀ x, beg N F (bytes s) x = ((S x || F s[k].toNat x) || beg N F ((bytes s).drop (k + 1)) x) from fun x => by rw [unhide HD x, unhide hch, h1, hasB, hn, hbig]; simp [Bool.or_assoc])
          clear HD
          go_wp2_with (first | (go_at_call 53; refine (r_isSmall_is _ false _ h1).mono ?_; rintro e w' ⟨rfl, rfl⟩) | (go_at_call 77; refine (r_join w1.heap.size 0 128 fb ((s[k].toNat - 65) * 128) 3328 (sF S) (tF F) S (F s[k].toNat) _ (by exact (unhide hst).2.2.2.2.1) (by omega) (fun i _ => by rw [Nat.zero_add]; rfl) (by exact (unhide hst).2.2.1) hoff (unhide HTM) (unhide HNe)).mono ?_; rintro e w4 ⟨rfl, hf4, hs4, hB4⟩; have HS4 := hide ((unhide hst).put hf4 (hB4.congr fun i hi => sF_or S (F s[k].toNat) i hi)); have d4 := ((unhide HS4).2.1.cell s[k].toNat hlt2).trans (congrArg (fun v => some (Value.bool v)) hn); clear hf4 hs4 hB4))
          go_roundw
          case rel => exact ⟨k + 1, fun x => S x || F s[k].toNat x, by omega, by go_num, HE, HS4⟩
          case measure => simp [intOf]; omega
      · have HE := hide (show ∀ x, beg N F (bytes s) x = (S x || x == s[k].toNat) from fun x => by rw [unhide HD x, unhide hch, h1]; rfl)
        have d0 := (unhide hst).2.2.2.2.1.cell s[k].toNat hlt2
        have z0 := (unhide hst).2.2.2.2.1.free s[k].toNat
        have HS3 := hide (show BS w (wr.setCell ⟨w1.heap.size, s[k].toNat, none⟩ (.bool true)) nb no fb N F w.heap.size w1.heap.size (ins S s[k].toNat) from (unhide hst).put ((Fr.refl _ _).setCell _ (by simp) _) (((unhide hst).2.2.2.2.1.setCell _ _).congr fun i _ => sF_add S _ i))
        clear HD
        go_wp2_with (first | (go_at_call 53; refine (r_isSmall_is _ true _ h1).mono ?_; rintro e w' ⟨rfl, rfl⟩) | (refine wpList_load_blk rfl 105 (.tmp 7) rfl (some 23) rfl w1.heap.size 0 128 128 (sF (ins S s[k].toNat)) _ rfl (by exact (unhide HS3).2.2.2.2.1) Tryz.underlying105 rfl Tryz.sizeSet (by omega) ?_) | (refine wpList_store_blk rfl 105 (.tmp 6) (.tmp 23) rfl w.heap.size 0 128 128 (sF fun _ => false) (fun i => sF (ins S s[k].toNat) (0 + i)) rfl rfl (by exact (unhide HS3).2.2.2.1) Tryz.sizeSet (by omega) (by intro i hi; rfl) ?_; intro w5 hf5 hs5 hB5))
        exact bodyPost_ret (results_cell Tryz.results73 _ w.heap.size rfl 128 128 (sF (ins S s[k].toNat)) _ (hB5.congr fun i hi => by rw [lay_all _ _ _ i hi, Nat.zero_add]) Tryz.underlying105 rfl Tryz.sizeSet (by omega)) rfl ⟨by rw [show beg N F (bytes s) = (ins S s[k].toNat) from funext fun x => unhide HE x], (unhide HS3).1.trans1 hf5 (Or.inr (Nat.le_refl _))⟩
    · have HE := hide (show ∀ x, beg N F (bytes s) x = S x from fun x => by rw [unhide hd x, List.drop_eq_nil_of_le (by rw [bytes_len]; omega), beg, Bool.or_false])
      go_wp2_with (first | (refine wpList_load_blk rfl 105 (.tmp 7) rfl (some 37) rfl w1.heap.size 0 128 128 (sF (S)) _ rfl (by exact (unhide hst).2.2.2.2.1) Tryz.underlying105 rfl Tryz.sizeSet (by omega) ?_) | (refine wpList_store_blk rfl 105 (.tmp 6) (.tmp 37) rfl w.heap.size 0 128 128 (sF fun _ => false) (fun i => sF (S) (0 + i)) rfl rfl (by exact (unhide hst).2.2.2.1) Tryz.sizeSet (by omega) (by intro i hi; rfl) ?_; intro w5 hf5 hs5 hB5))
      exact bodyPost_ret (results_cell Tryz.results73 _ w.heap.size rfl 128 128 (sF (S)) _ (hB5.congr fun i hi => by rw [lay_all _ _ _ i hi, Nat.zero_add]) Tryz.underlying105 rfl Tryz.sizeSet (by omega)) rfl ⟨by rw [show beg N F (bytes s) = (S) from funext fun x => unhide HE x], (unhide hst).1.trans1 hf5 (Or.inr (Nat.le_refl _))⟩

theorem r_begins (nb fb cap : Nat) (N : Nat → Bool) (F : Nat → Nat → Bool) (s : ByteArray) (w : World) (hN : Blk w nb 128 (sF N)) (hF : Blk w fb 3328 (tF F)) (hs : s.size ≤ 1000) (hl : ∀ i, i < s.size → letB (ch s i) = true) :
    Calls Tryz.prog 73 #[.pointer (some ⟨nb, 0, none⟩), .slice (some ⟨fb, 0, none⟩) 26 cap, .string s] w fun e' w' => e' = .returned (Agg 128 (sF (beg N F (bytes s)))) ∧ Fr [] w w' := r_beginsO nb 0 fb cap N F s w (NAt.of_set hN) hF hs hl
end Go.Proofs.YtkglggkkbmmjkaaGreatDoor
