import Derived.Test.YtkglggkkbmmjkaaGreatDoorRSets
namespace Go.Proofs.YtkglggkkbmmjkaaGreatDoor
open Go.RowKit

def ruRound (rs : List Ru) (S : Nat → Bool) : Nat → Bool := rs.foldl (fun S r => if S r.L then (bytes r.R).foldl ins S else S) S
def ruUpTo (rs : List Ru) (j : Nat) (S : Nat → Bool) : Nat → Bool := ruRound (rs.take j) S
theorem ruUpTo_succ (rs : List Ru) (j : Nat) (S : Nat → Bool) (h : j < rs.length) :
    ruUpTo rs (j + 1) S = if ruUpTo rs j S rs[j].L then (bytes rs[j].R).foldl ins (ruUpTo rs j S) else ruUpTo rs j S := by
  unfold ruUpTo ruRound
  rw [List.take_succ_eq_append_getElem h, List.foldl_append]; rfl
theorem ruUpTo_all (rs : List Ru) (j : Nat) (S : Nat → Bool) (h : rs.length ≤ j) : ruUpTo rs j S = ruRound rs S := by
  unfold ruUpTo; rw [List.take_of_length_le h]
theorem foldl_ins_mono : ∀ (l : List Nat) (S : Nat → Bool) (x : Nat), S x = true → l.foldl ins S x = true
  | [], _, _, h => h
  | c :: l, S, x, h => foldl_ins_mono l (ins S c) x (by simp [ins, h])
theorem foldl_snoc (s : ByteArray) (k : Nat) (h : k < s.size) (S : Nat → Bool) : ((bytes s).take (k + 1)).foldl ins S = ins (((bytes s).take k).foldl ins S) (ch s k) := by
  rw [bytes_snoc s k h, List.foldl_append]; rfl

set_option maxHeartbeats 1600000 in
theorem r_used (q cap : Nat) (rs : List Ru) (w : World) (h : LAt w q rs) (h0 : 0 < rs.length) :
    Calls Tryz.prog 65 #[.slice (some ⟨q, 0, none⟩) rs.length cap] w fun e' w' => e' = .returned (Agg 128 (sF (iter (ruRound rs) (rs.length + 1) (ins (fun _ => false) (stOf rs))))) ∧ Fr [] w w' := by
  have H := hide h
  have hlen := h.len
  clear h
  go_enter Tryz.func65, Tryz.ntmps65
  have hL0 : rs[0].L < 128 := big_lt ((unhide H).ok 0 h0).1
  have HL0 := hide (show stOf rs = rs[0].L from by
    cases rs with
    | nil => simp at h0
    | cons r l => rfl)
  have hn0 : (0 : Int) < (rs.length : Int) := by omega
  go_wp2_with (first
    | (refine wpList_alloc_blk rfl 105 rfl (some 2) rfl 128 _ Tryz.zeroSet ?_; intro w1 hf1 hs1 hB1; have HA := hide (And.intro hf1 (And.intro hs1 hB1)); clear hf1 hs1 hB1)
    | (refine wpList_alloc_blk rfl 105 rfl (some 3) rfl 128 _ Tryz.zeroSet ?_; intro w2 hf2 hs2 hB2; have HB := hide (And.intro hf2 (And.intro hs2 hB2)); clear hf2 hs2 hB2; have HS := hide (show US w w2 q rs w.heap.size w1.heap.size (fun _ => false) from ⟨(unhide HA).1.trans0 (unhide HB).1, ((unhide H).fr0 (unhide HA).1).fr0 (unhide HB).1, (unhide HA).2.2.fr0 (unhide HB).1, (unhide HB).2.2, Nat.le_refl _, by have := (unhide HA).2.1; omega, (unhide H).lt⟩); clear HA HB H; have b0 : w2.cell? ⟨q, 0, none⟩ = some (.int .u8 rs[0].L) := ((unhide HS).2.1.ru 0 h0).1; have b1 := (unhide HS).2.2.2.1.cell rs[0].L hL0; have b2 := (unhide HS).2.2.2.1.free rs[0].L; have HS4 := hide ((unhide HS).set rs[0].L)))
  clear HS b0 b1 b2
  go_loopw [4] (fun r wr => ∃ k : Nat, k ≤ rs.length + 1 ∧ r = .int .i64 k ∧ Hid (US w wr q rs w.heap.size w1.heap.size (iter (ruRound rs) k (ins (fun _ => false) (stOf rs))))) (fun r _ => rs.length + 1 - (intOf r).toNat)
  case atStart => exact ⟨0, by omega, rfl, hide (by rw [unhide HL0]; exact unhide HS4)⟩
  case round =>
    obtain ⟨k, hk, rfl, hs⟩ := hrel
    by_cases hlt : k ≤ rs.length
    · go_wp2
      go_loopw [5] (fun i wr2 => ∃ j : Nat, j ≤ rs.length ∧ i = .int .i64 j ∧ Hid (US w wr2 q rs w.heap.size w1.heap.size (ruUpTo rs j (iter (ruRound rs) k (ins (fun _ => false) (stOf rs)))))) (fun i _ => rs.length - (intOf i).toNat)
      case atStart => exact ⟨0, by omega, rfl, hs⟩
      case round =>
        obtain ⟨j, hj, rfl, hs2⟩ := hrel
        by_cases hjt : j < rs.length
        · obtain ⟨a0, a1, a2⟩ := (unhide hs2).2.1.ru j hjt
          have hsm := ((unhide hs2).2.1.small j hjt).1
          have HOk := hide ((unhide hs2).2.1.ok j hjt)
          have HU := hide (ruUpTo_succ rs j (iter (ruRound rs) k (ins (fun _ => false) (stOf rs))) hjt)
          generalize hG : ruUpTo rs j (iter (ruRound rs) k (ins (fun _ => false) (stOf rs))) = G at *
          clear hG
          have hL : rs[j].L < 128 := big_lt (unhide HOk).1
          go_wp2
          clear a0 a1 a2
          go_loopw [6] (fun i wr3 => ∃ m : Nat, m ≤ rs[j].R.size ∧ i = .int .i64 m ∧ Hid (0 < m → G rs[j].L = true) ∧ Hid (US w wr3 q rs w.heap.size w1.heap.size (((bytes rs[j].R).take m).foldl ins G))) (fun i _ => rs[j].R.size - (intOf i).toNat)
          case atStart => exact ⟨0, by omega, rfl, fun h => by omega, by simpa using hs2⟩
          case round =>
            obtain ⟨m, hm, rfl, hg, hs3⟩ := hrel
            obtain ⟨a0, a1, a2⟩ := (unhide hs3).2.1.ru j hjt
            cases hv : G rs[j].L
            · have hm0 : m = 0 := by
                rcases Nat.eq_zero_or_pos m with h | h
                · exact h
                · exact absurd (unhide hg h) (by rw [hv]; simp)
              subst hm0
              have d0 : wr.cell? ⟨w1.heap.size, rs[j].L, none⟩ = some (.bool false) := by
                rw [(unhide hs3).2.2.2.1.cell _ hL]; simp [sF, hv]
              have HN := hide (show ruUpTo rs (j + 1) (iter (ruRound rs) k (ins (fun _ => false) (stOf rs))) = G from by rw [unhide HU, hv]; rfl)
              clear HU hg
              go_wp2
              go_roundw
              case rel => exact ⟨j + 1, by omega, by go_num, hide (by rw [unhide HN]; simpa using unhide hs3)⟩
              case measure => simp [intOf]; omega
            · have d0 : wr.cell? ⟨w1.heap.size, rs[j].L, none⟩ = some (.bool true) := by
                rw [(unhide hs3).2.2.2.1.cell _ hL]; simp [sF, foldl_ins_mono _ _ _ hv]
              by_cases hmt : m < rs[j].R.size
              · have hch := hide (ch_eq rs[j].R m hmt)
                have hlt : rs[j].R[m].toNat < 128 := by rw [← unhide hch]; exact let_lt ((unhide HOk).2 m hmt)
                have d1 := (unhide hs3).2.2.2.1.cell rs[j].R[m].toNat hlt
                have z1 := (unhide hs3).2.2.2.1.free rs[j].R[m].toNat
                have HY := hide (show US w (wr.setCell ⟨w1.heap.size, rs[j].R[m].toNat, none⟩ (.bool true)) q rs w.heap.size w1.heap.size (((bytes rs[j].R).take (m + 1)).foldl ins G) from by
                  rw [foldl_snoc _ _ hmt, unhide hch]; exact (unhide hs3).set _)
                clear HU hg
                go_wp2
                go_roundw
                case rel => exact ⟨m + 1, by omega, by go_num, hide (fun _ => trivial), HY⟩
                case measure => simp [intOf]; omega
              · have HN := hide (show ruUpTo rs (j + 1) (iter (ruRound rs) k (ins (fun _ => false) (stOf rs))) = ((bytes rs[j].R).take m).foldl ins G from by rw [unhide HU, hv, bytes_take_all _ _ (by omega)]; rfl)
                clear HU hg
                go_wp2
                go_roundw
                case rel => exact ⟨j + 1, by omega, by go_num, hide (by rw [unhide HN]; exact unhide hs3)⟩
                case measure => simp [intOf]; omega
        · have HY := hide (show US w wr q rs w.heap.size w1.heap.size (iter (ruRound rs) (k + 1) (ins (fun _ => false) (stOf rs))) from by
            have := unhide hs2
            rw [ruUpTo_all _ _ _ (by omega)] at this; exact this)
          clear hs2
          go_wp2
          go_roundw
          case rel => exact ⟨k + 1, by omega, by go_num, HY⟩
          case measure => simp [intOf]; omega
    · have HK := hide (show k = rs.length + 1 by omega)
      go_wp2_with (first | (refine wpList_load_blk rfl 105 (.tmp 3) rfl (some 51) rfl w1.heap.size 0 128 128 (sF (iter (ruRound rs) k (ins (fun _ => false) (stOf rs)))) _ rfl (by exact (unhide hs).2.2.2.1) Tryz.underlying105 rfl Tryz.sizeSet (by omega) ?_) | (refine wpList_store_blk rfl 105 (.tmp 2) (.tmp 51) rfl w.heap.size 0 128 128 (sF fun _ => false) (fun i => sF (iter (ruRound rs) k (ins (fun _ => false) (stOf rs))) (0 + i)) rfl rfl (by exact (unhide hs).2.2.1) Tryz.sizeSet (by omega) (by intro i hi; rfl) ?_; intro w5 hf5 hs5 hB5))
      exact bodyPost_ret (results_cell Tryz.results65 _ w.heap.size rfl 128 128 (sF (iter (ruRound rs) k (ins (fun _ => false) (stOf rs)))) _ (hB5.congr fun i hi => by rw [lay_all _ _ _ i hi, Nat.zero_add]) Tryz.underlying105 rfl Tryz.sizeSet (by omega)) rfl ⟨by rw [← unhide HK], (unhide hs).1.trans1 hf5 (Or.inr (Nat.le_refl _))⟩
end Go.Proofs.YtkglggkkbmmjkaaGreatDoor
