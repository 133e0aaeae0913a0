import Derived.Test.YtkglggkkbmmjkabGreatDoorG6Script
namespace Go.Proofs.YtkglggkkbmmjkabGreatDoor
open Go.RowKit
set_option maxHeartbeats 1000000 in
theorem p_Check (t : ByteArray) (w : World) (hm : t.size ≤ 9223372036854775807) :
 Calls Tryz.prog 6 #[.string t] w fun e w' => e = .returned (.tuple #[.int .i64 (gErr t).1, .int .i64 (gErr t).2]) ∧ Fr [] w w' := by
 go_enter Tryz.func6, Tryz.ntmps6
 go_wp2_with (first
  | (go_at_call 16; refine (zcd t _ hm).mono ?_; rintro e w1 ⟨f, rfl, hg⟩; have HG := hide hg; clear hg)
  | (refine zab rfl 53 rfl (some 4) rfl 758 _ Tryz.zeroGram ?_; intro w2 hf2 hs2 hB2; have HF2 := hide hf2; have HB2 := hide hB2; clear hf2 hs2 hB2)
  | (refine zac rfl 53 (.tmp 4) (.tmp 6) rfl w1.heap.size 0 758 758 (gF (.slice none 0 0) 0 (fun _ => false) (fun _ => false) (fun _ _ => false) 0 0) f rfl rfl (by exact zaa HB2) Tryz.sizeGram (by omega) (by exact (zaa HG).2.1) ?_; intro w3 hf3 hs3 hB3; have HF3 := hide hf3; have HB3 := hide (hB3.congr fun i hi => zag _ _ _ i hi); clear hf3 hs3 hB3))
 have c6 := ((zaa HB3).cell 756 (by omega)).trans (congrArg some (zaa HG).2.2.1)
 have c7 := ((zaa HB3).cell 757 (by omega)).trans (congrArg some (zaa HG).2.2.2.1)
 go_quiet (fail)
 go_wp2
 go_ret2
 exact ⟨rfl, (((zaa HG).1.trans0 (zaa HF2)).trans1 (zaa HF3) (Or.inr (zaa HG).1.size)).trans0 (zal _ _)⟩
end Go.Proofs.YtkglggkkbmmjkabGreatDoor
namespace Go.Proofs.YtkglggkkbmmjkabGreatDoor
open Go.RowKit
set_option maxHeartbeats 400000 in
theorem r_isBig (c : Nat) (w : World) :
 Calls Tryz.prog 56 #[.int .u8 c] w fun e w' => e = .returned (.bool (bigB c)) ∧ w' = w := by
 by_cases h1 : (65 : Int) ≤ c <;> by_cases h2 : (c : Int) ≤ 90
 all_goals
  go_enter Tryz.func56, Tryz.ntmps56
  go_wp2
  go_ret
  exact ⟨by simp [bigB_int, h1, h2], rfl⟩
set_option maxHeartbeats 400000 in
theorem r_isSmall (c : Nat) (w : World) :
 Calls Tryz.prog 46 #[.int .u8 c] w fun e w' => e = .returned (.bool (zai c)) ∧ w' = w := by
 by_cases h1 : (97 : Int) ≤ c <;> by_cases h2 : (c : Int) ≤ 122
 all_goals
  go_enter Tryz.func46, Tryz.ntmps46
  go_wp2
  go_ret
  exact ⟨by simp [smallB_int, h1, h2], rfl⟩
def sF (S : Nat → Bool) : Nat → Value := fun k => .bool (S k)
theorem sF_add (S : Nat → Bool) (c i : Nat) : upd (sF S) c (.bool true) i = sF (ins S c) i := by
 unfold upd sF ins
 by_cases e : i = c
 ·rw [if_pos e, e]; simp
 ·rw [if_neg e]; simp [e]
theorem Tryz.zeroSet : (Tryz.prog.info? 105).bind (·.zero) = some (Agg 128 (sF fun _ => false)) := by kernel_rfl
theorem Tryz.sizeSet : (Tryz.prog.info? 105).map (·.size) = some 128 := by kernel_rfl
theorem zaq (c : Nat) (v : Bool) (w : World) (h : zai c = v) : Calls Tryz.prog 46 #[.int .u8 c] w fun e w' => e = .returned (.bool v) ∧ w' = w := by
 subst h; exact r_isSmall c w
theorem zav (c : Nat) (v : Bool) (w : World) (h : bigB c = v) : Calls Tryz.prog 56 #[.int .u8 c] w fun e w' => e = .returned (.bool v) ∧ w' = w := by
 subst h; exact r_isBig c w
structure LAt (w : World) (q : Nat) (rs : List Ru) : Prop where
 ru : RuAt w q rs
 lt : q < w.heap.size
 small : ∀ i (h : i < rs.length), rs[i].R.size ≤ 1000 ∧ rs[i].A ≤ 1000
 ok : RuOk rs
 len : rs.length ≤ 8
theorem LAt.fr {S : List Nat} {w w' : World} {q : Nat} {rs : List Ru} (h : LAt w q rs) (k : Fr S w w') (hq : q ∉ S) : LAt w' q rs :=
 ⟨h.ru.fr k hq h.lt, Nat.lt_of_lt_of_le h.lt k.size, h.small, h.ok, h.len⟩
theorem LAt.fr0 {w w' : World} {q : Nat} {rs : List Ru} (h : LAt w q rs) (k : Fr [] w w') : LAt w' q rs := h.fr k (by simp)
set_option maxHeartbeats 400000 in
theorem r_has (q cap c : Nat) (rs : List Ru) (w : World) (h : LAt w q rs) :
 Calls Tryz.prog 55 #[.slice (some ⟨q, 0, none⟩) rs.length cap, .int .u8 c] w fun e w' => e = .returned (.bool (rset rs c)) ∧ w' = w := by
 have H := hide h
 have hlen := h.len
 clear h
 go_enter Tryz.func55, Tryz.ntmps55
 go_wp2
 go_loop [5] (fun i => ∃ k : Nat, k ≤ rs.length ∧ i = .int .i64 k ∧ Hid (rset (rs.take k) c = false)) (fun i => rs.length - (intOf i).toNat)
 case atStart => exact ⟨0, by omega, rfl, rfl⟩
 case round =>
  obtain ⟨k, hk, rfl, hd⟩ := hrel
  by_cases hlt : k < rs.length
  ·obtain ⟨a0, a1, a2⟩ := (zaa H).ru k hlt
   have HT := hide (show rset (rs.take (k + 1)) c = (rs[k].L == c) from by
    unfold rset
    rw [List.take_succ_eq_append_getElem hlt, List.any_append]
    have := zaa hd; unfold rset at this; rw [this]; simp)
   clear hd
   cases hq : (rs[k].L == c)
   ·have hq' : ((rs[k].L : Int) == (c : Int)) = false := by
     rw [beq_eq_false_iff_ne] at hq ⊢; omega
    have HN := hide ((zaa HT).trans hq)
    clear HT hq
    go_wp2
    go_round
    case rel => exact ⟨k + 1, by omega, by go_num, HN⟩
    case measure => simp [intOf]; omega
   ·have hq' : ((rs[k].L : Int) == (c : Int)) = true := by
     rw [beq_iff_eq] at hq ⊢; omega
    have HN := hide (show rset rs c = true from by
     unfold rset; rw [List.any_eq_true]; exact ⟨rs[k], List.getElem_mem hlt, hq⟩)
    clear HT hq
    go_wp2
    go_ret
    exact ⟨zap (a := true) (zaa HN).symm, rfl⟩
  ·have HN := hide (show rset rs c = false from by
    have := zaa hd; rw [List.take_of_length_le (by omega)] at this; exact this)
   go_wp2
   go_ret
   exact ⟨zap (a := false) (zaa HN).symm, rfl⟩
def US (w wr : World) (q : Nat) (rs : List Ru) (r0 r1 : Nat) (S : Nat → Bool) : Prop :=
 Fr [] w wr ∧ LAt wr q rs ∧ Blk wr r0 128 (sF fun _ => false) ∧ Blk wr r1 128 (sF S) ∧ w.heap.size ≤ r0 ∧ r0 < r1 ∧ q < w.heap.size
theorem US.put {w wr wr' : World} {q : Nat} {rs : List Ru} {r0 r1 : Nat} {S S' : Nat → Bool} (h : US w wr q rs r0 r1 S) (k : Fr [r1] wr wr') (hB : Blk wr' r1 128 (sF S')) : US w wr' q rs r0 r1 S' := by
 obtain ⟨h1, h2, h3, h4, h5, h6, h7⟩ := h
 exact ⟨h1.trans1 k (Or.inr (by omega)), h2.fr k (by simp; omega), h3.fr1 k (by omega), hB, h5, h6, h7⟩
theorem US.set {w wr : World} {q : Nat} {rs : List Ru} {r0 r1 : Nat} {S : Nat → Bool} (h : US w wr q rs r0 r1 S) (c : Nat) : US w (wr.setCell ⟨r1, c, none⟩ (.bool true)) q rs r0 r1 (ins S c) :=
 h.put ((Fr.refl _ _).setCell _ (by simp) _) ((h.2.2.2.1.setCell c _).congr fun i _ => sF_add S c i)
theorem let_lt {c : Nat} (h : letB c = true) : c < 128 := by
 simp only [letB, Bool.or_eq_true, zao, za4] at h; omega
theorem big_lt {c : Nat} (h : bigB c = true) : c < 128 := by have := zao.1 h; omega
def reOk (S : Nat → Bool) (c : Nat) : Bool := zai c || S c
def zbc (rs : List Ru) (S : Nat → Bool) : Nat → Bool := rs.foldl (fun S r => if (bytes r.R).all (reOk S) then ins S r.L else S) S
def reUpTo (rs : List Ru) (j : Nat) (S : Nat → Bool) : Nat → Bool := zbc (rs.take j) S
theorem reUpTo_succ (rs : List Ru) (j : Nat) (S : Nat → Bool) (h : j < rs.length) :
 reUpTo rs (j + 1) S = if (bytes rs[j].R).all (reOk (reUpTo rs j S)) then ins (reUpTo rs j S) rs[j].L else reUpTo rs j S := by
 unfold reUpTo zbc
 rw [List.take_succ_eq_append_getElem h, List.foldl_append]; rfl
theorem reUpTo_all (rs : List Ru) (j : Nat) (S : Nat → Bool) (h : rs.length ≤ j) : reUpTo rs j S = zbc rs S := by
 unfold reUpTo; rw [List.take_of_length_le h]
theorem all_snoc (s : ByteArray) (k : Nat) (h : k < s.size) (p : Nat → Bool) : ((bytes s).take (k + 1)).all p = (((bytes s).take k).all p && p (ch s k)) := by
 rw [zb1 s k h, List.all_append]; simp
set_option maxHeartbeats 1600000 in
theorem r_ends (q cap : Nat) (rs : List Ru) (w : World) (h : LAt w q rs) :
 Calls Tryz.prog 57 #[.slice (some ⟨q, 0, none⟩) rs.length cap] w fun e' w' => e' = .returned (Agg 128 (sF (iter (zbc rs) (rs.length + 1) fun _ => false))) ∧ Fr [] w w' := by
 have H := hide h
 have hlen := h.len
 clear h
 go_enter Tryz.func57, Tryz.ntmps57
 go_wp2_with (first | (refine zab rfl 105 rfl (some 2) rfl 128 _ Tryz.zeroSet ?_; intro w1 hf1 hs1 hB1; have HA := hide (And.intro hf1 (And.intro hs1 hB1)); clear hf1 hs1 hB1) | (refine zab rfl 105 rfl (some 3) rfl 128 _ Tryz.zeroSet ?_; intro w2 hf2 hs2 hB2; have HB := hide (And.intro hf2 (And.intro hs2 hB2)); clear hf2 hs2 hB2))
 have HS := hide (show US w w2 q rs w.heap.size w1.heap.size (fun _ => false) from
  ⟨(zaa HA).1.trans0 (zaa HB).1, ((zaa H).fr0 (zaa HA).1).fr0 (zaa HB).1, (zaa HA).2.2.fr0 (zaa HB).1, (zaa HB).2.2, Nat.le_refl _, by have := (zaa HA).2.1; omega, (zaa H).lt⟩)
 clear HA HB H
 go_loopw [4] (fun r wr => ∃ k : Nat, k ≤ rs.length + 1 ∧ r = .int .i64 k ∧ Hid (US w wr q rs w.heap.size w1.heap.size (iter (zbc rs) k fun _ => false))) (fun r _ => rs.length + 1 - (intOf r).toNat)
 case atStart => exact ⟨0, by omega, rfl, HS⟩
 case round =>
  obtain ⟨k, hk, rfl, hs⟩ := hrel
  by_cases hlt : k ≤ rs.length
  ·go_wp2
   go_loopw [5] (fun i wr2 => ∃ j : Nat, j ≤ rs.length ∧ i = .int .i64 j ∧ Hid (US w wr2 q rs w.heap.size w1.heap.size (reUpTo rs j (iter (zbc rs) k fun _ => false)))) (fun i _ => rs.length - (intOf i).toNat)
   case atStart => exact ⟨0, by omega, rfl, hs⟩
   case round =>
    obtain ⟨j, hj, rfl, hs2⟩ := hrel
    by_cases hjt : j < rs.length
    ·obtain ⟨a0, a1, a2⟩ := (zaa hs2).2.1.ru j hjt
     have hsm := ((zaa hs2).2.1.small j hjt).1
     have HOk := hide ((zaa hs2).2.1.ok j hjt)
     have HU := hide (reUpTo_succ rs j (iter (zbc rs) k fun _ => false) hjt)
     generalize hG : reUpTo rs j (iter (zbc rs) k fun _ => false) = G at *
     clear hG
     go_wp2
     go_loop [6, 7] (fun al i => ∃ m : Nat, m ≤ rs[j].R.size ∧ i = .int .i64 m ∧ al = .bool (((bytes rs[j].R).take m).all (reOk G))) (fun _ i => rs[j].R.size - (intOf i).toNat)
     case atStart => exact ⟨0, by omega, rfl, by simp⟩
     case round =>
      obtain ⟨m, hm, rfl, rfl⟩ := hrel
      by_cases hmt : m < rs[j].R.size
      ·have hch := hide (za8 rs[j].R m hmt)
       have hlt : rs[j].R[m].toNat < 128 := by rw [← zaa hch]; exact let_lt ((zaa HOk).2 m hmt)
       have hcl : wr.cell? ⟨w1.heap.size, rs[j].R[m].toNat, none⟩ = some (.bool (G rs[j].R[m].toNat)) := (zaa hs2).2.2.2.1.cell _ hlt
       have HM := hide (all_snoc rs[j].R m hmt (reOk G))
       cases hal : ((bytes rs[j].R).take m).all (reOk G)
       ·have HN := hide (show ((bytes rs[j].R).take (m + 1)).all (reOk G) = false from by rw [zaa HM, hal]; rfl)
        clear HM
        go_wp2
        go_round
        case rel => exact ⟨m + 1, by omega, by go_num, by rw [zaa HN]⟩
        case measure => simp [intOf]; omega
       ·cases h1 : zai rs[j].R[m].toNat
        ·have HN := hide (show ((bytes rs[j].R).take (m + 1)).all (reOk G) = G rs[j].R[m].toNat from by rw [zaa HM, hal, zaa hch]; simp [reOk, h1])
         clear HM
         go_wp2_with (go_at_call 46; refine (zaq _ false _ h1).mono ?_; rintro e w' ⟨rfl, rfl⟩)
         go_round
         case rel => exact ⟨m + 1, by omega, by go_num, by rw [zaa HN]⟩
         case measure => simp [intOf]; omega
        ·have HN := hide (show ((bytes rs[j].R).take (m + 1)).all (reOk G) = true from by rw [zaa HM, hal, zaa hch]; simp [reOk, h1])
         clear HM
         go_wp2_with (go_at_call 46; refine (zaq _ true _ h1).mono ?_; rintro e w' ⟨rfl, rfl⟩)
         go_round
         case rel => exact ⟨m + 1, by omega, by go_num, by rw [zaa HN]⟩
         case measure => simp [intOf]; omega
      ·have HE := hide (show ((bytes rs[j].R).take m) = bytes rs[j].R from za2 _ _ (by omega))
       cases hal : ((bytes rs[j].R).take m).all (reOk G)
       ·have HN := hide (show reUpTo rs (j + 1) (iter (zbc rs) k fun _ => false) = G from by rw [zaa HU, ← zaa HE, hal]; rfl)
        clear HU
        go_wp2
        go_roundw
        case rel => exact ⟨j + 1, by omega, by go_num, hide (by rw [zaa HN]; exact zaa hs2)⟩
        case measure => simp [intOf]; omega
       ·have HN := hide (show reUpTo rs (j + 1) (iter (zbc rs) k fun _ => false) = ins G rs[j].L from by rw [zaa HU, ← zaa HE, hal]; rfl)
        have hL : rs[j].L < 128 := big_lt (zaa HOk).1
        have d0 := (zaa hs2).2.2.2.1.cell rs[j].L hL
        have z0 := (zaa hs2).2.2.2.1.free rs[j].L
        have HY := hide ((zaa hs2).set rs[j].L)
        clear HU
        go_wp2
        go_roundw
        case rel => exact ⟨j + 1, by omega, by go_num, hide (by rw [zaa HN]; exact zaa HY)⟩
        case measure => simp [intOf]; omega
    ·have HY := hide (show US w wr q rs w.heap.size w1.heap.size (iter (zbc rs) (k + 1) fun _ => false) from by
      have := zaa hs2
      rw [reUpTo_all _ _ _ (by omega)] at this; exact this)
     clear hs2
     go_wp2
     go_roundw
     case rel => exact ⟨k + 1, by omega, by go_num, HY⟩
     case measure => simp [intOf]; omega
  ·have HK := hide (show k = rs.length + 1 by omega)
   go_wp2_with (first | (refine zaf rfl 105 (.tmp 3) rfl (some 55) rfl w1.heap.size 0 128 128 (sF (iter (zbc rs) k fun _ => false)) _ rfl (by exact (zaa hs).2.2.2.1) Tryz.underlying105 rfl Tryz.sizeSet (by omega) ?_) | (refine zac rfl 105 (.tmp 2) (.tmp 55) rfl w.heap.size 0 128 128 (sF fun _ => false) (fun i => sF (iter (zbc rs) k fun _ => false) (0 + i)) rfl rfl (by exact (zaa hs).2.2.1) Tryz.sizeSet (by omega) (by intro i hi; rfl) ?_; intro w5 hf5 hs5 hB5))
   exact bodyPost_ret (zaj Tryz.results57 _ w.heap.size rfl 128 128 (sF (iter (zbc rs) k fun _ => false)) _ (hB5.congr fun i hi => by rw [zag _ _ _ i hi, Nat.zero_add]) Tryz.underlying105 rfl Tryz.sizeSet (by omega)) rfl ⟨by rw [← zaa HK], (zaa hs).1.trans1 hf5 (Or.inr (Nat.le_refl _))⟩
end Go.Proofs.YtkglggkkbmmjkabGreatDoor
namespace Go.Proofs.YtkglggkkbmmjkabGreatDoor
open Go.RowKit
def zb5 (rs : List Ru) (S : Nat → Bool) : Nat → Bool := rs.foldl (fun S r => if S r.L then (bytes r.R).foldl ins S else S) S
def ruUpTo (rs : List Ru) (j : Nat) (S : Nat → Bool) : Nat → Bool := zb5 (rs.take j) S
theorem ruUpTo_succ (rs : List Ru) (j : Nat) (S : Nat → Bool) (h : j < rs.length) :
 ruUpTo rs (j + 1) S = if ruUpTo rs j S rs[j].L then (bytes rs[j].R).foldl ins (ruUpTo rs j S) else ruUpTo rs j S := by
 unfold ruUpTo zb5
 rw [List.take_succ_eq_append_getElem h, List.foldl_append]; rfl
theorem ruUpTo_all (rs : List Ru) (j : Nat) (S : Nat → Bool) (h : rs.length ≤ j) : ruUpTo rs j S = zb5 rs S := by
 unfold ruUpTo; rw [List.take_of_length_le h]
theorem foldl_ins_mono : ∀ (l : List Nat) (S : Nat → Bool) (x : Nat), S x = true → l.foldl ins S x = true
 | [], _, _, h => h
 | c :: l, S, x, h => foldl_ins_mono l (ins S c) x (by simp [ins, h])
theorem foldl_snoc (s : ByteArray) (k : Nat) (h : k < s.size) (S : Nat → Bool) : ((bytes s).take (k + 1)).foldl ins S = ins (((bytes s).take k).foldl ins S) (ch s k) := by
 rw [zb1 s k h, List.foldl_append]; rfl
set_option maxHeartbeats 1600000 in
theorem r_used (q cap : Nat) (rs : List Ru) (w : World) (h : LAt w q rs) (h0 : 0 < rs.length) :
 Calls Tryz.prog 58 #[.slice (some ⟨q, 0, none⟩) rs.length cap] w fun e' w' => e' = .returned (Agg 128 (sF (iter (zb5 rs) (rs.length + 1) (ins (fun _ => false) (stOf rs))))) ∧ Fr [] w w' := by
 have H := hide h
 have hlen := h.len
 clear h
 go_enter Tryz.func58, Tryz.ntmps58
 have hL0 : rs[0].L < 128 := big_lt ((zaa H).ok 0 h0).1
 have HL0 := hide (show stOf rs = rs[0].L from by
  cases rs with
  | nil => simp at h0
  | cons r l => rfl)
 have hn0 : (0 : Int) < (rs.length : Int) := by omega
 go_wp2_with (first
  | (refine zab rfl 105 rfl (some 2) rfl 128 _ Tryz.zeroSet ?_; intro w1 hf1 hs1 hB1; have HA := hide (And.intro hf1 (And.intro hs1 hB1)); clear hf1 hs1 hB1)
  | (refine zab rfl 105 rfl (some 3) rfl 128 _ Tryz.zeroSet ?_; intro w2 hf2 hs2 hB2; have HB := hide (And.intro hf2 (And.intro hs2 hB2)); clear hf2 hs2 hB2; have HS := hide (show US w w2 q rs w.heap.size w1.heap.size (fun _ => false) from ⟨(zaa HA).1.trans0 (zaa HB).1, ((zaa H).fr0 (zaa HA).1).fr0 (zaa HB).1, (zaa HA).2.2.fr0 (zaa HB).1, (zaa HB).2.2, Nat.le_refl _, by have := (zaa HA).2.1; omega, (zaa H).lt⟩); clear HA HB H; have b0 : w2.cell? ⟨q, 0, none⟩ = some (.int .u8 rs[0].L) := ((zaa HS).2.1.ru 0 h0).1; have b1 := (zaa HS).2.2.2.1.cell rs[0].L hL0; have b2 := (zaa HS).2.2.2.1.free rs[0].L; have HS4 := hide ((zaa HS).set rs[0].L)))
 clear HS b0 b1 b2
 go_loopw [4] (fun r wr => ∃ k : Nat, k ≤ rs.length + 1 ∧ r = .int .i64 k ∧ Hid (US w wr q rs w.heap.size w1.heap.size (iter (zb5 rs) k (ins (fun _ => false) (stOf rs))))) (fun r _ => rs.length + 1 - (intOf r).toNat)
 case atStart => exact ⟨0, by omega, rfl, hide (by rw [zaa HL0]; exact zaa HS4)⟩
 case round =>
  obtain ⟨k, hk, rfl, hs⟩ := hrel
  by_cases hlt : k ≤ rs.length
  ·go_wp2
   go_loopw [5] (fun i wr2 => ∃ j : Nat, j ≤ rs.length ∧ i = .int .i64 j ∧ Hid (US w wr2 q rs w.heap.size w1.heap.size (ruUpTo rs j (iter (zb5 rs) k (ins (fun _ => false) (stOf rs)))))) (fun i _ => rs.length - (intOf i).toNat)
   case atStart => exact ⟨0, by omega, rfl, hs⟩
   case round =>
    obtain ⟨j, hj, rfl, hs2⟩ := hrel
    by_cases hjt : j < rs.length
    ·obtain ⟨a0, a1, a2⟩ := (zaa hs2).2.1.ru j hjt
     have hsm := ((zaa hs2).2.1.small j hjt).1
     have HOk := hide ((zaa hs2).2.1.ok j hjt)
     have HU := hide (ruUpTo_succ rs j (iter (zb5 rs) k (ins (fun _ => false) (stOf rs))) hjt)
     generalize hG : ruUpTo rs j (iter (zb5 rs) k (ins (fun _ => false) (stOf rs))) = G at *
     clear hG
     have hL : rs[j].L < 128 := big_lt (zaa HOk).1
     go_wp2
     clear a0 a1 a2
     go_loopw [6] (fun i wr3 => ∃ m : Nat, m ≤ rs[j].R.size ∧ i = .int .i64 m ∧ Hid (0 < m → G rs[j].L = true) ∧ Hid (US w wr3 q rs w.heap.size w1.heap.size (((bytes rs[j].R).take m).foldl ins G))) (fun i _ => rs[j].R.size - (intOf i).toNat)
     case atStart => exact ⟨0, by omega, rfl, fun h => by omega, by simpa using hs2⟩
     case round =>
      obtain ⟨m, hm, rfl, hg, hs3⟩ := hrel
      obtain ⟨a0, a1, a2⟩ := (zaa hs3).2.1.ru j hjt
      cases hv : G rs[j].L
      ·have hm0 : m = 0 := by
        rcases Nat.eq_zero_or_pos m with h | h
        ·exact h
        ·exact absurd (zaa hg h) (by rw [hv]; simp)
       subst hm0
       have d0 : wr.cell? ⟨w1.heap.size, rs[j].L, none⟩ = some (.bool false) := by
        rw [(zaa hs3).2.2.2.1.cell _ hL]; simp [sF, hv]
       have HN := hide (show ruUpTo rs (j + 1) (iter (zb5 rs) k (ins (fun _ => false) (stOf rs))) = G from by rw [zaa HU, hv]; rfl)
       clear HU hg
       go_wp2
       go_roundw
       case rel => exact ⟨j + 1, by omega, by go_num, hide (by rw [zaa HN]; simpa using zaa hs3)⟩
       case measure => simp [intOf]; omega
      ·have d0 : wr.cell? ⟨w1.heap.size, rs[j].L, none⟩ = some (.bool true) := by
        rw [(zaa hs3).2.2.2.1.cell _ hL]; simp [sF, foldl_ins_mono _ _ _ hv]
       by_cases hmt : m < rs[j].R.size
       ·have hch := hide (za8 rs[j].R m hmt)
        have hlt : rs[j].R[m].toNat < 128 := by rw [← zaa hch]; exact let_lt ((zaa HOk).2 m hmt)
        have d1 := (zaa hs3).2.2.2.1.cell rs[j].R[m].toNat hlt
        have z1 := (zaa hs3).2.2.2.1.free rs[j].R[m].toNat
        have HY := hide (show US w (wr.setCell ⟨w1.heap.size, rs[j].R[m].toNat, none⟩ (.bool true)) q rs w.heap.size w1.heap.size (((bytes rs[j].R).take (m + 1)).foldl ins G) from by
         rw [foldl_snoc _ _ hmt, zaa hch]; exact (zaa hs3).set _)
        clear HU hg
        go_wp2
        go_roundw
        case rel => exact ⟨m + 1, by omega, by go_num, hide (fun _ => trivial), HY⟩
        case measure => simp [intOf]; omega
       ·have HN := hide (show ruUpTo rs (j + 1) (iter (zb5 rs) k (ins (fun _ => false) (stOf rs))) = ((bytes rs[j].R).take m).foldl ins G from by rw [zaa HU, hv, za2 _ _ (by omega)]; rfl)
        clear HU hg
        go_wp2
        go_roundw
        case rel => exact ⟨j + 1, by omega, by go_num, hide (by rw [zaa HN]; exact zaa hs3)⟩
        case measure => simp [intOf]; omega
    ·have HY := hide (show US w wr q rs w.heap.size w1.heap.size (iter (zb5 rs) (k + 1) (ins (fun _ => false) (stOf rs))) from by
      have := zaa hs2
      rw [ruUpTo_all _ _ _ (by omega)] at this; exact this)
     clear hs2
     go_wp2
     go_roundw
     case rel => exact ⟨k + 1, by omega, by go_num, HY⟩
     case measure => simp [intOf]; omega
  ·have HK := hide (show k = rs.length + 1 by omega)
   go_wp2_with (first | (refine zaf rfl 105 (.tmp 3) rfl (some 51) rfl w1.heap.size 0 128 128 (sF (iter (zb5 rs) k (ins (fun _ => false) (stOf rs)))) _ rfl (by exact (zaa hs).2.2.2.1) Tryz.underlying105 rfl Tryz.sizeSet (by omega) ?_) | (refine zac rfl 105 (.tmp 2) (.tmp 51) rfl w.heap.size 0 128 128 (sF fun _ => false) (fun i => sF (iter (zb5 rs) k (ins (fun _ => false) (stOf rs))) (0 + i)) rfl rfl (by exact (zaa hs).2.2.1) Tryz.sizeSet (by omega) (by intro i hi; rfl) ?_; intro w5 hf5 hs5 hB5))
   exact bodyPost_ret (zaj Tryz.results58 _ w.heap.size rfl 128 128 (sF (iter (zb5 rs) k (ins (fun _ => false) (stOf rs)))) _ (hB5.congr fun i hi => by rw [zag _ _ _ i hi, Nat.zero_add]) Tryz.underlying105 rfl Tryz.sizeSet (by omega)) rfl ⟨by rw [← zaa HK], (zaa hs).1.trans1 hf5 (Or.inr (Nat.le_refl _))⟩
end Go.Proofs.YtkglggkkbmmjkabGreatDoor
