import Derived.Test.YtkglggkkbmmjkabGreatDoorG7RUsed
import Derived.Deep.LoopGhost
namespace Go.Proofs.YtkglggkkbmmjkabGreatDoor
open Go.RowKit
def zay (rs : List Ru) (S : Nat → Bool) : Nat → Bool := rs.foldl (fun S r => if (bytes r.R).all S then ins S r.L else S) S
def rnUpTo (rs : List Ru) (j : Nat) (S : Nat → Bool) : Nat → Bool := zay (rs.take j) S
theorem rnUpTo_succ (rs : List Ru) (j : Nat) (S : Nat → Bool) (h : j < rs.length) :
 rnUpTo rs (j + 1) S = if (bytes rs[j].R).all (rnUpTo rs j S) then ins (rnUpTo rs j S) rs[j].L else rnUpTo rs j S := by
 unfold rnUpTo zay
 rw [List.take_succ_eq_append_getElem h, List.foldl_append]; rfl
theorem rnUpTo_all (rs : List Ru) (j : Nat) (S : Nat → Bool) (h : rs.length ≤ j) : rnUpTo rs j S = zay rs S := by
 unfold rnUpTo; rw [List.take_of_length_le h]
set_option maxHeartbeats 1600000 in
theorem r_nulls (q cap : Nat) (rs : List Ru) (w : World) (h : LAt w q rs) :
 Calls Tryz.prog 62 #[.slice (some ⟨q, 0, none⟩) rs.length cap] w fun e' w' => e' = .returned (Agg 128 (sF (iter (zay rs) (rs.length + 1) fun _ => false))) ∧ Fr [] w w' := by
 have H := hide h
 have hlen := h.len
 clear h
 go_enter Tryz.func62, Tryz.ntmps62
 go_wp2_with (first | (refine zab rfl 105 rfl (some 2) rfl 128 _ Tryz.zeroSet ?_; intro w1 hf1 hs1 hB1; have HA := hide (And.intro hf1 (And.intro hs1 hB1)); clear hf1 hs1 hB1) | (refine zab rfl 105 rfl (some 3) rfl 128 _ Tryz.zeroSet ?_; intro w2 hf2 hs2 hB2; have HB := hide (And.intro hf2 (And.intro hs2 hB2)); clear hf2 hs2 hB2))
 have HS := hide (show US w w2 q rs w.heap.size w1.heap.size (fun _ => false) from
  ⟨(zaa HA).1.trans0 (zaa HB).1, ((zaa H).fr0 (zaa HA).1).fr0 (zaa HB).1, (zaa HA).2.2.fr0 (zaa HB).1, (zaa HB).2.2, Nat.le_refl _, by have := (zaa HA).2.1; omega, (zaa H).lt⟩)
 clear HA HB H
 go_loopw [4] (fun r wr => ∃ k : Nat, k ≤ rs.length + 1 ∧ r = .int .i64 k ∧ Hid (US w wr q rs w.heap.size w1.heap.size (iter (zay rs) k fun _ => false))) (fun r _ => rs.length + 1 - (intOf r).toNat)
 case atStart => exact ⟨0, by omega, rfl, HS⟩
 case round =>
  obtain ⟨k, hk, rfl, hs⟩ := hrel
  by_cases hlt : k ≤ rs.length
  ·go_wp2
   go_loopw [5] (fun i wr2 => ∃ j : Nat, j ≤ rs.length ∧ i = .int .i64 j ∧ Hid (US w wr2 q rs w.heap.size w1.heap.size (rnUpTo rs j (iter (zay rs) k fun _ => false)))) (fun i _ => rs.length - (intOf i).toNat)
   case atStart => exact ⟨0, by omega, rfl, hs⟩
   case round =>
    obtain ⟨j, hj, rfl, hs2⟩ := hrel
    by_cases hjt : j < rs.length
    ·obtain ⟨a0, a1, a2⟩ := (zaa hs2).2.1.ru j hjt
     have hsm := ((zaa hs2).2.1.small j hjt).1
     have HOk := hide ((zaa hs2).2.1.ok j hjt)
     have HU := hide (rnUpTo_succ rs j (iter (zay rs) k fun _ => false) hjt)
     generalize hG : rnUpTo rs j (iter (zay rs) k fun _ => false) = G at *
     clear hG
     go_wp2
     go_loop [6, 7] (fun al i => ∃ m : Nat, m ≤ rs[j].R.size ∧ i = .int .i64 m ∧ al = .bool (((bytes rs[j].R).take m).all G)) (fun _ i => rs[j].R.size - (intOf i).toNat)
     case atStart => exact ⟨0, by omega, rfl, by simp⟩
     case round =>
      obtain ⟨m, hm, rfl, rfl⟩ := hrel
      by_cases hmt : m < rs[j].R.size
      ·have hch := hide (za8 rs[j].R m hmt)
       have hlt : rs[j].R[m].toNat < 128 := by rw [← zaa hch]; exact let_lt ((zaa HOk).2 m hmt)
       have hcl : wr.cell? ⟨w1.heap.size, rs[j].R[m].toNat, none⟩ = some (.bool (G rs[j].R[m].toNat)) := (zaa hs2).2.2.2.1.cell _ hlt
       have HM := hide (all_snoc rs[j].R m hmt G)
       cases hal : ((bytes rs[j].R).take m).all G
       ·have HN := hide (show ((bytes rs[j].R).take (m + 1)).all G = false from by rw [zaa HM, hal]; rfl)
        clear HM
        go_wp2
        go_round
        case rel => exact ⟨m + 1, by omega, by go_num, by rw [zaa HN]⟩
        case measure => simp [intOf]; omega
       ·have HN := hide (show ((bytes rs[j].R).take (m + 1)).all G = G rs[j].R[m].toNat from by rw [zaa HM, hal, zaa hch]; simp)
        clear HM
        go_wp2
        go_round
        case rel => exact ⟨m + 1, by omega, by go_num, by rw [zaa HN]⟩
        case measure => simp [intOf]; omega
      ·have HE := hide (show ((bytes rs[j].R).take m) = bytes rs[j].R from za2 _ _ (by omega))
       cases hal : ((bytes rs[j].R).take m).all G
       ·have HN := hide (show rnUpTo rs (j + 1) (iter (zay rs) k fun _ => false) = G from by rw [zaa HU, ← zaa HE, hal]; rfl)
        clear HU
        go_wp2
        go_roundw
        case rel => exact ⟨j + 1, by omega, by go_num, hide (by rw [zaa HN]; exact zaa hs2)⟩
        case measure => simp [intOf]; omega
       ·have HN := hide (show rnUpTo rs (j + 1) (iter (zay rs) k fun _ => false) = ins G rs[j].L from by rw [zaa HU, ← zaa HE, hal]; rfl)
        have hL : rs[j].L < 128 := big_lt (zaa HOk).1
        have d0 := (zaa hs2).2.2.2.1.cell rs[j].L hL
        have z0 := (zaa hs2).2.2.2.1.free rs[j].L
        have HY := hide ((zaa hs2).set rs[j].L)
        clear HU
        go_wp2
        go_roundw
        case rel => exact ⟨j + 1, by omega, by go_num, hide (by rw [zaa HN]; exact zaa HY)⟩
        case measure => simp [intOf]; omega
    ·have HY := hide (show US w wr q rs w.heap.size w1.heap.size (iter (zay rs) (k + 1) fun _ => false) from by
      have := zaa hs2
      rw [rnUpTo_all _ _ _ (by omega)] at this; exact this)
     clear hs2
     go_wp2
     go_roundw
     case rel => exact ⟨k + 1, by omega, by go_num, HY⟩
     case measure => simp [intOf]; omega
  ·have HK := hide (show k = rs.length + 1 by omega)
   go_wp2_with (first | (refine zaf rfl 105 (.tmp 3) rfl (some 49) rfl w1.heap.size 0 128 128 (sF (iter (zay rs) k fun _ => false)) _ rfl (by exact (zaa hs).2.2.2.1) Tryz.underlying105 rfl Tryz.sizeSet (by omega) ?_) | (refine zac rfl 105 (.tmp 2) (.tmp 49) rfl w.heap.size 0 128 128 (sF fun _ => false) (fun i => sF (iter (zay rs) k fun _ => false) (0 + i)) rfl rfl (by exact (zaa hs).2.2.1) Tryz.sizeSet (by omega) (by intro i hi; rfl) ?_; intro w5 hf5 hs5 hB5))
   exact bodyPost_ret (zaj Tryz.results62 _ w.heap.size rfl 128 128 (sF (iter (zay rs) k fun _ => false)) _ (hB5.congr fun i hi => by rw [zag _ _ _ i hi, Nat.zero_add]) Tryz.underlying105 rfl Tryz.sizeSet (by omega)) rfl ⟨by rw [← zaa HK], (zaa hs).1.trans1 hf5 (Or.inr (Nat.le_refl _))⟩
theorem orF_skip (f : Nat → Value) (off k : Nat) (A M : Nat → Bool) (h : f (off + k) = .bool (A k)) (hm : (A k || M k) = A k) (i : Nat) : orF f off k A M i = orF f off (k + 1) A M i := by
 unfold orF
 by_cases h2 : off ≤ i ∧ i < off + k
 ·rw [if_pos h2, if_pos (by omega)]
 ·rw [if_neg h2]
  by_cases e : i = off + k
  ·subst e; rw [if_pos (by omega), show off + k - off = k from by omega, hm, h]
  ·rw [if_neg (by omega)]
def anyNew (A M : Nat → Bool) (k : Nat) : Bool := (List.range k).any fun i => M i && !A i
theorem anyNew_succ (A M : Nat → Bool) (k : Nat) : anyNew A M (k + 1) = (anyNew A M k || (M k && !A k)) := by
 unfold anyNew; rw [List.range_succ, List.any_append]; simp
set_option maxRecDepth 100000 in
set_option maxHeartbeats 1600000 in
theorem r_join (b off n b2 off2 n2 : Nat) (f f2 : Nat → Value) (A M : Nat → Bool) (w : World) (hB : Blk w b n f) (hn : off + 128 ≤ n) (hA : ∀ i, i < 128 → f (off + i) = .bool (A i))
 (hB2 : Blk w b2 n2 f2) (hn2 : off2 + 128 ≤ n2) (hM : ∀ i, i < 128 → f2 (off2 + i) = .bool (M i)) (hne : b ≠ b2) :
 Calls Tryz.prog 70 #[.pointer (some ⟨b, off, none⟩), .pointer (some ⟨b2, off2, none⟩)] w fun e w' => e = .returned (.bool (anyNew A M 128)) ∧ Fr [b] w w' ∧ w'.heap.size = w.heap.size ∧ Blk w' b n (orF f off 128 A M) := by
 have HB := hide hB
 have HA := hide hA
 have HB2 := hide hB2
 have HM := hide hM
 have HNe := hide hne
 clear hB hA hB2 hM hne
 go_enter Tryz.func70, Tryz.ntmps70
 go_wp2
 go_loopw [5, 6] (fun mo a wr => ∃ k : Nat, k ≤ 128 ∧ a = .int .i64 k ∧ mo = .bool (anyNew A M k) ∧ Hid (Fr [b] w wr ∧ wr.heap.size = w.heap.size ∧ Blk wr b n (orF f off k A M) ∧ Blk wr b2 n2 f2)) (fun _ a _ => 128 - (intOf a).toNat)
 case atStart => exact ⟨0, by omega, rfl, rfl, Fr.refl _ _, rfl, (zaa HB).congr fun i _ => (orF_zero f off A M i).symm, zaa HB2⟩
 case round =>
  obtain ⟨k, hk, rfl, rfl, hs⟩ := hrel
  by_cases hlt : k < 128
  ·obtain ⟨av, hav⟩ : ∃ av, A k = av := ⟨_, rfl⟩
   obtain ⟨mv, hmv⟩ : ∃ mv, M k = mv := ⟨_, rfl⟩
   have d0 : wr.cell? ⟨b, off + k, none⟩ = some (.bool av) := by
    rw [(zaa hs).2.2.1.cell (off + k) (by omega)]; unfold orF; rw [if_neg (by omega), zaa HA k hlt, hav]
   have z0 := (zaa hs).2.2.1.free (off + k)
   have d1 : wr.cell? ⟨b2, off2 + k, none⟩ = some (.bool mv) := by rw [(zaa hs).2.2.2.cell _ (by omega), zaa HM k hlt, hmv]
   have HS := hide (anyNew_succ A M k)
   have HAV := hide hav
   have HMV := hide hmv
   clear hav hmv
   cases mv
   ·have HN := hide ((zaa HS).trans (show _ = anyNew A M k from by rw [zaa HMV]; simp))
    have HY := hide (show Fr [b] w wr ∧ wr.heap.size = w.heap.size ∧ Blk wr b n (orF f off (k + 1) A M) ∧ Blk wr b2 n2 f2 from ⟨(zaa hs).1, (zaa hs).2.1, (zaa hs).2.2.1.congr fun i _ => orF_skip f off k A M (zaa HA k hlt) (by rw [zaa HMV]; simp) i, (zaa hs).2.2.2⟩)
    clear HS hs
    go_wp2
    go_roundw
    case rel => exact ⟨k + 1, by omega, by go_num, by rw [zaa HN], HY⟩
    case measure => simp [intOf]; omega
   ·cases av
    ·have HN := hide ((zaa HS).trans (show _ = true from by rw [zaa HMV, zaa HAV]; simp))
     have HY := hide (show Fr [b] w (wr.setCell ⟨b, off + k, none⟩ (.bool true)) ∧ (wr.setCell ⟨b, off + k, none⟩ (.bool true)).heap.size = w.heap.size ∧ Blk (wr.setCell ⟨b, off + k, none⟩ (.bool true)) b n (orF f off (k + 1) A M) ∧ Blk (wr.setCell ⟨b, off + k, none⟩ (.bool true)) b2 n2 f2 from
      ⟨(zaa hs).1.setCell _ (by simp) _, by simpa using (zaa hs).2.1, ((zaa hs).2.2.1.setCell (off + k) _).congr fun i _ => by
        have := orF_succ f off k A M i
        rw [zaa HMV, zaa HAV] at this; exact this, (zaa hs).2.2.2.setCell_ne _ (by exact zaa HNe) _⟩)
     clear HS hs
     go_wp2
     go_roundw
     case rel => exact ⟨k + 1, by omega, by go_num, by rw [zaa HN], HY⟩
     case measure => simp [intOf]; omega
    ·have HN := hide ((zaa HS).trans (show _ = anyNew A M k from by rw [zaa HMV, zaa HAV]; simp))
     have HY := hide (show Fr [b] w wr ∧ wr.heap.size = w.heap.size ∧ Blk wr b n (orF f off (k + 1) A M) ∧ Blk wr b2 n2 f2 from ⟨(zaa hs).1, (zaa hs).2.1, (zaa hs).2.2.1.congr fun i _ => orF_skip f off k A M (zaa HA k hlt) (by rw [zaa HAV]; simp) i, (zaa hs).2.2.2⟩)
     clear HS hs
     go_wp2
     go_roundw
     case rel => exact ⟨k + 1, by omega, by go_num, by rw [zaa HN], HY⟩
     case measure => simp [intOf]; omega
  ·have HK := hide (show k = 128 by omega)
   go_wp2
   go_ret
   exact ⟨zap (by rw [zaa HK]), (zaa hs).1, (zaa hs).2.1, by have := (zaa hs).2.2.1; rw [zaa HK] at this; exact this⟩
def NAt (w : World) (b off : Nat) (N : Nat → Bool) : Prop := b < w.heap.size ∧ ∀ i, i < 128 → w.cell? ⟨b, off + i, none⟩ = some (.bool (N i))
theorem NAt.lt {w : World} {b off : Nat} {N : Nat → Bool} (h : NAt w b off N) : b < w.heap.size := h.1
theorem NAt.cell {w : World} {b off : Nat} {N : Nat → Bool} (h : NAt w b off N) (i : Nat) (hi : i < 128) : w.cell? ⟨b, off + i, none⟩ = some (.bool (N i)) := h.2 i hi
theorem NAt.fr {S : List Nat} {w w' : World} {b off : Nat} {N : Nat → Bool} (h : NAt w b off N) (k : Fr S w w') (hb : b ∉ S) : NAt w' b off N :=
 ⟨Nat.lt_of_lt_of_le h.1 k.size, fun i hi => by
   have := h.2 i hi
   unfold World.cell? at this ⊢
   rw [k.block b h.1 hb]; exact this⟩
theorem NAt.fr0 {w w' : World} {b off : Nat} {N : Nat → Bool} (h : NAt w b off N) (k : Fr [] w w') : NAt w' b off N := h.fr k (by simp)
theorem NAt.fr1 {w w' : World} {b off x : Nat} {N : Nat → Bool} (h : NAt w b off N) (k : Fr [x] w w') (hb : b ≠ x) : NAt w' b off N := h.fr k (by simpa using hb)
theorem NAt.of_blk {w : World} {b off n : Nat} {f : Nat → Value} {N : Nat → Bool} (h : Blk w b n f) (hn : off + 128 ≤ n) (hf : ∀ i, i < 128 → f (off + i) = .bool (N i)) : NAt w b off N :=
 ⟨h.lt, fun i hi => by rw [h.cell _ (by omega), hf i hi]⟩
theorem NAt.of_set {w : World} {b : Nat} {N : Nat → Bool} (h : Blk w b 128 (sF N)) : NAt w b 0 N := NAt.of_blk h (by omega) (fun i _ => by rw [Nat.zero_add]; rfl)
set_option maxHeartbeats 1000000 in
theorem r_nullO (s : ByteArray) (b off : Nat) (S : Nat → Bool) (w : World) (hs : s.size ≤ 1000) (hB : NAt w b off S) (hl : ∀ i, i < s.size → letB (ch s i) = true) :
 Calls Tryz.prog 63 #[.pointer (some ⟨b, off, none⟩), .string s] w fun e w' => e = .returned (.bool ((bytes s).all S)) ∧ Fr [] w w' := by
 have H := hide hB
 have HL := hide hl
 clear hB hl
 go_enter Tryz.func63, Tryz.ntmps63
 go_wp2
 go_loopw [5] (fun i wr => ∃ k : Nat, k ≤ s.size ∧ i = .int .i64 k ∧ Hid (((bytes s).take k).all S = true) ∧ Hid (Fr [] w wr)) (fun i _ => s.size - (intOf i).toNat)
 case atStart => exact ⟨0, by omega, rfl, rfl, Fr.refl _ _⟩
 case round =>
  obtain ⟨k, hk, rfl, hd, hf⟩ := hrel
  by_cases hlt : k < s.size
  ·have hch := hide (za8 s k hlt)
   have hlt2 : s[k].toNat < 128 := by rw [← zaa hch]; exact let_lt (zaa HL k hlt)
   have HM := hide (show ((bytes s).take (k + 1)).all S = S s[k].toNat from by
    rw [zb1 s k hlt, List.all_append, zaa hd, zaa hch]; simp)
   obtain ⟨sv, hsv⟩ : ∃ sv, S s[k].toNat = sv := ⟨_, rfl⟩
   have d0 : wr.cell? ⟨b, off + s[k].toNat, none⟩ = some (.bool sv) := by rw [((zaa H).fr0 (zaa hf)).cell _ hlt2, hsv]
   have HSV := hide hsv
   clear hd hsv
   cases sv
   ·have HE := hide (show (bytes s).all S = false from by
     rw [← List.take_append_drop (k + 1) (bytes s), List.all_append, zaa HM, zaa HSV]; simp)
    clear HM
    go_wp2
    go_quiet (fail)
    go_wp2
    go_ret
    exact ⟨zap (a := false) (zaa HE).symm, (zaa hf).trans0 (zal _ _)⟩
   ·have HN := hide ((zaa HM).trans (zaa HSV))
    clear HM
    go_wp2
    go_quiet (fail)
    go_wp2
    go_roundw
    case rel => exact ⟨k + 1, by omega, by go_num, HN, (zaa hf).trans0 (zal _ _)⟩
    case measure => simp [intOf]; omega
  ·have HE := hide (show (bytes s).all S = true from by rw [← za2 s k (by omega)]; exact zaa hd)
   go_wp2
   go_ret
   exact ⟨zap (a := true) (zaa HE).symm, zaa hf⟩
theorem r_null (s : ByteArray) (b : Nat) (S : Nat → Bool) (w : World) (hs : s.size ≤ 1000) (hB : Blk w b 128 (sF S)) (hl : ∀ i, i < s.size → letB (ch s i) = true) :
 Calls Tryz.prog 63 #[.pointer (some ⟨b, 0, none⟩), .string s] w fun e w' => e = .returned (.bool ((bytes s).all S)) ∧ Fr [] w w' := r_nullO s b 0 S w hs (NAt.of_set hB) hl
end Go.Proofs.YtkglggkkbmmjkabGreatDoor
namespace Go.Proofs.YtkglggkkbmmjkabGreatDoor
open Go.RowKit
def tF (F : Nat → Nat → Bool) : Nat → Value := fun i => .bool (F (65 + i / 128) (i % 128))
theorem tF_at (F : Nat → Nat → Bool) (c i : Nat) (hc : bigB c = true) (hi : i < 128) : tF F ((c - 65) * 128 + i) = .bool (F c i) := by
 have h := zao.1 hc
 unfold tF
 rw [show (c - 65) * 128 + i = i + 128 * (c - 65) from by omega, Nat.add_mul_mod_self_left, Nat.add_mul_div_left _ _ (by omega), Nat.mod_eq_of_lt hi, Nat.div_eq_of_lt hi, show 65 + (0 + (c - 65)) = c from by omega]
theorem tF_join (F : Nat → Nat → Bool) (c : Nat) (M : Nat → Bool) (hc : bigB c = true) (i : Nat) : orF (tF F) ((c - 65) * 128) 128 (F c) M i = tF (zch F c M) i := by
 have h := zao.1 hc
 unfold orF
 by_cases hr : (c - 65) * 128 ≤ i ∧ i < (c - 65) * 128 + 128
 ·rw [if_pos hr]
  obtain ⟨k, rfl⟩ : ∃ k, i = (c - 65) * 128 + k := ⟨i - (c - 65) * 128, by omega⟩
  rw [tF_at _ c k hc (by omega), Nat.add_sub_cancel_left]
  simp [zch]
 ·rw [if_neg hr]
  have hne : (65 + i / 128 == c) = false := by
   rw [beq_eq_false_iff_ne]
   intro he
   have hd : i / 128 = c - 65 := by omega
   have := Nat.div_add_mod i 128
   have := Nat.mod_lt i (show 0 < 128 by omega)
   rw [hd] at *
   omega
  unfold tF zch
  rw [hne, Bool.false_and, Bool.or_false]
theorem sF_or (S M : Nat → Bool) (i : Nat) (hi : i < 128) : orF (sF S) 0 128 S M i = sF (fun x => S x || M x) i := by
 unfold orF sF; rw [if_pos (by omega)]; rfl
def BS (w wr : World) (nb no fb : Nat) (N : Nat → Bool) (F : Nat → Nat → Bool) (r0 r1 : Nat) (S : Nat → Bool) : Prop :=
 Fr [] w wr ∧ NAt wr nb no N ∧ Blk wr fb 3328 (tF F) ∧ Blk wr r0 128 (sF fun _ => false) ∧ Blk wr r1 128 (sF S) ∧ w.heap.size ≤ r0 ∧ r0 < r1 ∧ nb < w.heap.size ∧ fb < w.heap.size
theorem BS.put {w wr wr' : World} {nb no fb : Nat} {N : Nat → Bool} {F : Nat → Nat → Bool} {r0 r1 : Nat} {S S' : Nat → Bool} (h : BS w wr nb no fb N F r0 r1 S) (k : Fr [r1] wr wr') (hB : Blk wr' r1 128 (sF S')) : BS w wr' nb no fb N F r0 r1 S' := by
 obtain ⟨h1, h2, h3, h4, h5, h6, h7, h8, h9⟩ := h
 exact ⟨h1.trans1 k (Or.inr (by omega)), h2.fr1 k (by omega), h3.fr1 k (by omega), h4.fr1 k (by omega), hB, h6, h7, h8, h9⟩
set_option maxHeartbeats 1600000 in
theorem r_beginsO (nb no fb cap : Nat) (N : Nat → Bool) (F : Nat → Nat → Bool) (s : ByteArray) (w : World) (hN : NAt w nb no N) (hF : Blk w fb 3328 (tF F)) (hs : s.size ≤ 1000) (hl : ∀ i, i < s.size → letB (ch s i) = true) :
 Calls Tryz.prog 66 #[.pointer (some ⟨nb, no, none⟩), .slice (some ⟨fb, 0, none⟩) 26 cap, .string s] w fun e' w' => e' = .returned (Agg 128 (sF (beg N F (bytes s)))) ∧ Fr [] w w' := by
 have HN := hide hN
 have HFF := hide hF
 have HL := hide hl
 clear hN hF hl
 go_enter Tryz.func66, Tryz.ntmps66
 go_wp2_with (first | (refine zab rfl 105 rfl (some 6) rfl 128 _ Tryz.zeroSet ?_; intro w1 hf1 hs1 hB1; have HA := hide (And.intro hf1 (And.intro hs1 hB1)); clear hf1 hs1 hB1) | (refine zab rfl 105 rfl (some 7) rfl 128 _ Tryz.zeroSet ?_; intro w2 hf2 hs2 hB2; have HB := hide (And.intro hf2 (And.intro hs2 hB2)); clear hf2 hs2 hB2))
 have HS := hide (show BS w w2 nb no fb N F w.heap.size w1.heap.size (fun _ => false) from
  ⟨(zaa HA).1.trans0 (zaa HB).1, ((zaa HN).fr0 (zaa HA).1).fr0 (zaa HB).1, ((zaa HFF).fr0 (zaa HA).1).fr0 (zaa HB).1, (zaa HA).2.2.fr0 (zaa HB).1, (zaa HB).2.2, Nat.le_refl _, by have := (zaa HA).2.1; omega, (zaa HN).lt, (zaa HFF).lt⟩)
 clear HA HB HN HFF
 go_loopw [8] (fun i wr => ∃ (k : Nat) (S : Nat → Bool), k ≤ s.size ∧ i = .int .i64 k ∧ Hid (∀ x, beg N F (bytes s) x = (S x || beg N F ((bytes s).drop k) x)) ∧ Hid (BS w wr nb no fb N F w.heap.size w1.heap.size S)) (fun i _ => s.size - (intOf i).toNat)
 case atStart => exact ⟨0, fun _ => false, by omega, rfl, fun x => by simp, HS⟩
 case round =>
  obtain ⟨k, S, hk, rfl, hd, hst⟩ := hrel
  by_cases hlt : k < s.size
  ·have hch := hide (za8 s k hlt)
   have hlt2 : s[k].toNat < 128 := by rw [← zaa hch]; exact let_lt (zaa HL k hlt)
   have HD := hide (show ∀ x, beg N F (bytes s) x = (S x || if zai (ch s k) then x == ch s k else F (ch s k) x || (hasB N (ch s k) && beg N F ((bytes s).drop (k + 1)) x)) from fun x => by rw [zaa hd x, bytes_drop s k hlt, beg])
   clear hd
   cases h1 : zai s[k].toNat
   ·have hbig : bigB s[k].toNat = true := by
     have := zaa HL k hlt
     rw [zaa hch] at this
     simpa [letB, h1] using this
    have hb := zao.1 hbig
    have e0 : (0 : Int) ≤ (s[k].toNat : Int) - 65 := by omega
    have e1 : (s[k].toNat : Int) - 65 < 26 := by omega
    have HNe := hide (show w1.heap.size ≠ fb from by have := zaa hst; obtain ⟨_, _, _, _, _, x6, x7, x8, x9⟩ := this; omega)
    have HTM := hide (show ∀ i, i < 128 → tF F ((s[k].toNat - 65) * 128 + i) = .bool (F s[k].toNat i) from fun i hi => tF_at F _ i hbig hi)
    have hoff : (s[k].toNat - 65) * 128 + 128 ≤ 3328 := by omega
    cases hn : N s[k].toNat
    ·have HE := hide (show ∀ x, beg N F (bytes s) x = (S x || F s[k].toNat x) from fun x => by rw [zaa HD x, zaa hch, h1, hasB, hn]; simp)
     clear HD
     go_wp2_with (first | (go_at_call 46; refine (zaq _ false _ h1).mono ?_; rintro e w' ⟨rfl, rfl⟩) | (go_at_call 70; refine (r_join w1.heap.size 0 128 fb ((s[k].toNat - 65) * 128) 3328 (sF S) (tF F) S (F s[k].toNat) _ (by exact (zaa hst).2.2.2.2.1) (by omega) (fun i _ => by rw [Nat.zero_add]; rfl) (by exact (zaa hst).2.2.1) hoff (zaa HTM) (zaa HNe)).mono ?_; rintro e w4 ⟨rfl, hf4, hs4, hB4⟩; have HS4 := hide ((zaa hst).put hf4 (hB4.congr fun i hi => sF_or S (F s[k].toNat) i hi)); have d4 := ((zaa HS4).2.1.cell s[k].toNat hlt2).trans (congrArg (fun v => some (Value.bool v)) hn); clear hf4 hs4 hB4) | (refine zaf rfl 105 (.tmp 7) rfl (some 36) rfl w1.heap.size 0 128 128 (sF (fun x => S x || F s[k].toNat x)) _ rfl (by exact (zaa HS4).2.2.2.2.1) Tryz.underlying105 rfl Tryz.sizeSet (by omega) ?_) | (refine zac rfl 105 (.tmp 6) (.tmp 36) rfl w.heap.size 0 128 128 (sF fun _ => false) (fun i => sF (fun x => S x || F s[k].toNat x) (0 + i)) rfl rfl (by exact (zaa HS4).2.2.2.1) Tryz.sizeSet (by omega) (by intro i hi; rfl) ?_; intro w5 hf5 hs5 hB5))
     exact bodyPost_ret (zaj Tryz.results66 _ w.heap.size rfl 128 128 (sF (fun x => S x || F s[k].toNat x)) _ (hB5.congr fun i hi => by rw [zag _ _ _ i hi, Nat.zero_add]) Tryz.underlying105 rfl Tryz.sizeSet (by omega)) rfl ⟨by rw [show beg N F (bytes s) = (fun x => S x || F s[k].toNat x) from funext fun x => zaa HE x], (zaa HS4).1.trans1 hf5 (Or.inr (Nat.le_refl _))⟩
    ·have HE := hide (show ∀ x, beg N F (bytes s) x = ((S x || F s[k].toNat x) || beg N F ((bytes s).drop (k + 1)) x) from fun x => by rw [zaa HD x, zaa hch, h1, hasB, hn, hbig]; simp [Bool.or_assoc])
     clear HD
     go_wp2_with (first | (go_at_call 46; refine (zaq _ false _ h1).mono ?_; rintro e w' ⟨rfl, rfl⟩) | (go_at_call 70; refine (r_join w1.heap.size 0 128 fb ((s[k].toNat - 65) * 128) 3328 (sF S) (tF F) S (F s[k].toNat) _ (by exact (zaa hst).2.2.2.2.1) (by omega) (fun i _ => by rw [Nat.zero_add]; rfl) (by exact (zaa hst).2.2.1) hoff (zaa HTM) (zaa HNe)).mono ?_; rintro e w4 ⟨rfl, hf4, hs4, hB4⟩; have HS4 := hide ((zaa hst).put hf4 (hB4.congr fun i hi => sF_or S (F s[k].toNat) i hi)); have d4 := ((zaa HS4).2.1.cell s[k].toNat hlt2).trans (congrArg (fun v => some (Value.bool v)) hn); clear hf4 hs4 hB4))
     go_roundw
     case rel => exact ⟨k + 1, fun x => S x || F s[k].toNat x, by omega, by go_num, HE, HS4⟩
     case measure => simp [intOf]; omega
   ·have HE := hide (show ∀ x, beg N F (bytes s) x = (S x || x == s[k].toNat) from fun x => by rw [zaa HD x, zaa hch, h1]; rfl)
    have d0 := (zaa hst).2.2.2.2.1.cell s[k].toNat hlt2
    have z0 := (zaa hst).2.2.2.2.1.free s[k].toNat
    have HS3 := hide (show BS w (wr.setCell ⟨w1.heap.size, s[k].toNat, none⟩ (.bool true)) nb no fb N F w.heap.size w1.heap.size (ins S s[k].toNat) from (zaa hst).put ((Fr.refl _ _).setCell _ (by simp) _) (((zaa hst).2.2.2.2.1.setCell _ _).congr fun i _ => sF_add S _ i))
    clear HD
    go_wp2_with (first | (go_at_call 46; refine (zaq _ true _ h1).mono ?_; rintro e w' ⟨rfl, rfl⟩) | (refine zaf rfl 105 (.tmp 7) rfl (some 23) rfl w1.heap.size 0 128 128 (sF (ins S s[k].toNat)) _ rfl (by exact (zaa HS3).2.2.2.2.1) Tryz.underlying105 rfl Tryz.sizeSet (by omega) ?_) | (refine zac rfl 105 (.tmp 6) (.tmp 23) rfl w.heap.size 0 128 128 (sF fun _ => false) (fun i => sF (ins S s[k].toNat) (0 + i)) rfl rfl (by exact (zaa HS3).2.2.2.1) Tryz.sizeSet (by omega) (by intro i hi; rfl) ?_; intro w5 hf5 hs5 hB5))
    exact bodyPost_ret (zaj Tryz.results66 _ w.heap.size rfl 128 128 (sF (ins S s[k].toNat)) _ (hB5.congr fun i hi => by rw [zag _ _ _ i hi, Nat.zero_add]) Tryz.underlying105 rfl Tryz.sizeSet (by omega)) rfl ⟨by rw [show beg N F (bytes s) = (ins S s[k].toNat) from funext fun x => zaa HE x], (zaa HS3).1.trans1 hf5 (Or.inr (Nat.le_refl _))⟩
  ·have HE := hide (show ∀ x, beg N F (bytes s) x = S x from fun x => by rw [zaa hd x, List.drop_eq_nil_of_le (by rw [zah]; omega), beg, Bool.or_false])
   go_wp2_with (first | (refine zaf rfl 105 (.tmp 7) rfl (some 37) rfl w1.heap.size 0 128 128 (sF (S)) _ rfl (by exact (zaa hst).2.2.2.2.1) Tryz.underlying105 rfl Tryz.sizeSet (by omega) ?_) | (refine zac rfl 105 (.tmp 6) (.tmp 37) rfl w.heap.size 0 128 128 (sF fun _ => false) (fun i => sF (S) (0 + i)) rfl rfl (by exact (zaa hst).2.2.2.1) Tryz.sizeSet (by omega) (by intro i hi; rfl) ?_; intro w5 hf5 hs5 hB5))
   exact bodyPost_ret (zaj Tryz.results66 _ w.heap.size rfl 128 128 (sF (S)) _ (hB5.congr fun i hi => by rw [zag _ _ _ i hi, Nat.zero_add]) Tryz.underlying105 rfl Tryz.sizeSet (by omega)) rfl ⟨by rw [show beg N F (bytes s) = (S) from funext fun x => zaa HE x], (zaa hst).1.trans1 hf5 (Or.inr (Nat.le_refl _))⟩
theorem r_begins (nb fb cap : Nat) (N : Nat → Bool) (F : Nat → Nat → Bool) (s : ByteArray) (w : World) (hN : Blk w nb 128 (sF N)) (hF : Blk w fb 3328 (tF F)) (hs : s.size ≤ 1000) (hl : ∀ i, i < s.size → letB (ch s i) = true) :
 Calls Tryz.prog 66 #[.pointer (some ⟨nb, 0, none⟩), .slice (some ⟨fb, 0, none⟩) 26 cap, .string s] w fun e' w' => e' = .returned (Agg 128 (sF (beg N F (bytes s)))) ∧ Fr [] w w' := r_beginsO nb 0 fb cap N F s w (NAt.of_set hN) hF hs hl
end Go.Proofs.YtkglggkkbmmjkabGreatDoor
namespace Go.Proofs.YtkglggkkbmmjkabGreatDoor
open Go.RowKit
theorem Tryz.infoRRule : (Tryz.prog.info? 100).map (fun i => (i.zero, i.size, i.bytes)) = some (some (.agg #[.int .u8 0, .string ⟨#[]⟩, .int .i64 0]), 3, 32) := by kernel_rfl
theorem zas {S : List Nat} {w w' : World} {base : Nat} {e : TypeId} {size : Nat} {v : Value} {n : Nat} {xs : List Value} (h : w.ownsRow base e size v n xs) (k : Fr S w w') (hS : ∀ g, v.ownBlock = some g → g ∉ S) : w'.ownsRow base e size v n xs := by
 obtain ⟨h1, h2⟩ := h
 refine ⟨h1, ?_⟩
 rcases h2 with h2 | ⟨g, cap, cur, hv, hg, hh, r⟩
 ·exact Or.inl h2
 ·have hlt : g < w.heap.size := by
   rcases Nat.lt_or_ge g w.heap.size with h | h
   ·exact h
   ·rw [Array.getElem?_eq_none h] at hh; cases hh
  exact Or.inr ⟨g, cap, cur, hv, hg, by rw [k.block g hlt (hS g (by rw [hv]; rfl))]; exact hh, r⟩
def QS (w wr : World) (v : Value) (acc : List Ru) : Prop :=
 Fr [] w wr ∧ wr.ownsRow w.heap.size 100 3 v acc.length (zbf acc)
theorem QS.fr {w wr wr' : World} {v : Value} {acc : List Ru} (h : QS w wr v acc) (k : Fr [] wr wr') : QS w wr' v acc := ⟨h.1.trans0 k, zbd h.2 k (by simp)⟩
def XS (w wr : World) (v : Value) (acc : List Ru) (x : Nat) (r : Ru) : Prop :=
 QS w wr v acc ∧ Blk wr x 3 (ruF r) ∧ w.heap.size ≤ x ∧ (∀ g, v.ownBlock = some g → g < x)
theorem XS.fr {w wr wr' : World} {v : Value} {acc : List Ru} {x : Nat} {r : Ru} (h : XS w wr v acc x r) (k : Fr [] wr wr') : XS w wr' v acc x r := ⟨h.1.fr k, h.2.1.fr0 k, h.2.2⟩
theorem XS.set {w wr : World} {v : Value} {acc : List Ru} {x L A : Nat} {R : ByteArray} (h : XS w wr v acc x ⟨L, R, A⟩) (R' : ByteArray) : XS w (wr.setCell ⟨x, 1, none⟩ (.string R')) v acc x ⟨L, R', A⟩ := by
 obtain ⟨⟨h1, h2⟩, h3, h4, h5⟩ := h
 refine ⟨⟨h1.setCell _ (Or.inr h4) _, zas h2 ((Fr.refl [x] _).setCell _ (by simp) _) (fun g hg => by have := h5 g hg; simp; omega)⟩, (h3.setCell 1 _).congr fun i hi => ?_, h4, h5⟩
 unfold upd ruF
 by_cases e : i = 1
 ·subst e; simp
 ·simp only [if_neg e]
theorem extract_snoc (t : ByteArray) (a b : Nat) (h : a ≤ b) : t.extract a b ++ t.extract b (b + 1) = t.extract a (b + 1) := by
 rw [ByteArray.extract_append_extract]
 congr 1 <;> omega
theorem QS.append {w wr w1 : World} {v : Value} {acc : List Ru} {r : Ru} {g cap : Nat} {o : Obj} (h : QS w wr v acc) (hown : w1.ownsRow w.heap.size 100 3 (.slice (some ⟨g, 0, none⟩) (acc.length + 1) cap) (acc.length + 1) (zbf acc ++ [.int .u8 r.L, .string r.R, .int .i64 r.A]))
 (hgrow : (wr.alloc o).grownBy w1 v.ownBlock) : QS w w1 (.slice (some ⟨g, 0, none⟩) (acc.length + 1) cap) (acc ++ [r]) := by
 refine ⟨(h.1.alloc o).of_grown hgrow (fun k hk => Or.inr (h.2.lt k hk).1), ?_⟩
 rw [ruCells_snoc, List.length_append]; exact hown
theorem QS.ru {w wr : World} {acc : List Ru} {g n cap : Nat} (h : QS w wr (.slice (some ⟨g, 0, none⟩) n cap) acc) (hn : n = acc.length) : RuAt wr g acc ∧ w.heap.size ≤ g ∧ g < wr.heap.size := by
 subst hn
 exact ⟨RuAt.of_owns h.2, h.2.lt g rfl⟩
def RulesOut (t : ByteArray) (w : World) (e : Ending) (w' : World) : Prop := Fr [] w w' ∧
 ((zad t 8 0 []).2.2 = false → e = .returned (.tuple #[.slice none 0 0, .int .i64 (zad t 8 0 []).2.1])) ∧
 ((zad t 8 0 []).2.2 = true → ∃ q cap, e = .returned (.tuple #[.slice (some ⟨q, 0, none⟩) (zad t 8 0 []).1.length cap, .int .i64 (-1)]) ∧ RuAt w' q (zad t 8 0 []).1 ∧ w.heap.size ≤ q ∧ q < w'.heap.size)
set_option maxRecDepth 100000 in
set_option maxHeartbeats 8000000 in
theorem r_rules (t : ByteArray) (w : World) (ht : t.size ≤ 32) :
 Calls Tryz.prog 54 #[.string t] w fun e w' => RulesOut t w e w' := by
 obtain ⟨i0, hi0, hz0, hz1, hz2⟩ := info_parts Tryz.infoRRule
 go_enter Tryz.func54, Tryz.ntmps54
 go_wp2
 go_loopw [4, 5] (fun v a wr => ∃ (k i : Nat) (acc : List Ru), k ≤ 7 ∧ i ≤ 33 ∧ acc.length = k ∧ a = .int .i64 i ∧ Hid (zad t 8 0 [] = zad t (8 - k) i acc) ∧ Hid (QS w wr v acc))
  (fun _ a _ => 40 - (intOf a).toNat)
 case atStart => exact ⟨0, 0, [], by omega, by omega, rfl, rfl, rfl, Fr.refl _ _, World.ownsRow_nil _ _ _ _⟩
 case round =>
  obtain ⟨k, i, acc, hk, hi, hl, rfl, hp, hs⟩ := hrel
  have HL : Hid (acc.length = k) := hl
  clear hl
  have hf : Hid (zad t 8 0 [] = zad t ((7 - k) + 1) i acc) := by
   show _ = _
   rw [hp.out, show 8 - k = (7 - k) + 1 from by omega]
  clear hp
  by_cases hi0' : i < t.size
  ·cases hb0 : bigB t[i].toNat
   ·have HP := hide ((zaa hf).trans (parse_bad0 t _ i acc (by rw [za8 t i hi0', hb0]; simp)))
    clear hf
    go_wp2_with (go_at_call 56; refine (zav _ false _ hb0).mono ?_; rintro e w' ⟨rfl, rfl⟩)
    go_ret2
    exact ⟨(zaa hs).1, fun _ => by rw [zaa HP]; rfl, fun h => by rw [zaa HP] at h; cases h⟩
   ·by_cases hi1 : i + 1 < t.size
    ·by_cases hc1 : ch t (i + 1) = 61
     ·have hc1' : (((t[i + 1].toNat : Nat) : Int) != 61) = false := by
       rw [za8 t _ hi1] at hc1; simp; omega
      have HI := hide (za8 t i hi0')
      have HX0 := hide (show XS w (wr.alloc (.cells #[.int .u8 (t[i].toNat), .string ⟨#[]⟩, .int .i64 i] 100)) u4 acc wr.heap.size ⟨t[i].toNat, ⟨#[]⟩, i⟩ from
       ⟨(zaa hs).fr ((Fr.refl _ _).alloc _), Blk.newRu wr ⟨t[i].toNat, ⟨#[]⟩, i⟩ _, (zaa hs).1.size, fun g hg => ((zaa hs).2.lt g hg).2⟩)
      have HE0 := hide (show (⟨#[]⟩ : ByteArray) = t.extract (i + 2) (i + 2 + 0) from by apply ByteArray.ext; simp)
      go_wp2_with (go_at_call 56; refine (zav _ true _ hb0).mono ?_; rintro e w' ⟨rfl, rfl⟩)
      obtain ⟨xb, hxb⟩ : ∃ xb, w'.heap.size = xb := ⟨_, rfl⟩
      rw [hxb] at HX0 ⊢
      clear hxb
      go_loopw [5] (fun a wr2 => ∃ (j : Nat) (R : ByteArray), j ≤ 4 ∧ i + 2 + j ≤ t.size ∧ a = .int .i64 (i + 2 + j : Nat) ∧ R.size = j ∧ Hid (R = t.extract (i + 2) (i + 2 + j)) ∧ Hid (zam t 4 (i + 2) = zam t (4 - j) (i + 2 + j)) ∧ Hid (XS w wr2 u4 acc xb ⟨t[i].toNat, R, i⟩)) (fun a _ => t.size - (intOf a).toNat)
      case atStart => exact ⟨0, ⟨#[]⟩, by omega, by omega, by go_num, rfl, HE0, rfl, HX0⟩
      case round =>
       obtain ⟨j, R, hj, hjs, rfl, hRs, hRe, hrun, hx⟩ := hrel
       have c1 : wr.cell? ⟨xb, 1, none⟩ = some (.string R) := (zaa hx).2.1.cell 1 (by omega)
       have z1 := (zaa hx).2.1.free 1
       by_cases h1 : i + 2 + j < t.size ∧ j < 4 ∧ letB (ch t (i + 2 + j)) = true
       ·have h1a := h1.1
        have h1b := h1.2.1
        have hlet : letB t[i + 2 + j].toNat = true := by rw [← za8 t _ h1a]; exact h1.2.2
        cases hbg : bigB t[i + 2 + j].toNat
        ·have hsmall : zai t[i + 2 + j].toNat = true := by simpa [letB, hbg] using hlet
         have HR1 := hide ((zaa hrun).trans (runEnd_step t (i + 2) j h1a h1b h1.2.2))
         clear h1 hf hs HX0 HE0 HI HL hlet
         go_wp2_with (first | (go_at_call 56; refine (zav _ false _ hbg).mono ?_; rintro e w' ⟨rfl, rfl⟩) | (go_at_call 46; refine (zaq _ true _ hsmall).mono ?_; rintro e w' ⟨rfl, rfl⟩))
         go_region
         all_goals
          go_wp2
          go_roundw
          case rel => exact ⟨j + 1, R ++ t.extract (i + 2 + j) (i + 2 + j + 1), by omega, by omega, by go_num, by rw [ByteArray.size_append, ByteArray.size_extract, hRs]; omega, hide (by rw [zaa hRe, extract_snoc t _ _ (by omega)]; rfl), HR1, hide (((zaa hx).set _).fr ((Fr.refl _ _).drew))⟩
          case measure => simp [intOf]; omega
        ·have HR1 := hide ((zaa hrun).trans (runEnd_step t (i + 2) j h1a h1b h1.2.2))
         clear h1 hf hs HX0 HE0 HI HL hlet
         go_wp2_with (go_at_call 56; refine (zav _ true _ hbg).mono ?_; rintro e w' ⟨rfl, rfl⟩)
         go_region
         all_goals
          go_wp2
          go_roundw
          case rel => exact ⟨j + 1, R ++ t.extract (i + 2 + j) (i + 2 + j + 1), by omega, by omega, by go_num, by rw [ByteArray.size_append, ByteArray.size_extract, hRs]; omega, hide (by rw [zaa hRe, extract_snoc t _ _ (by omega)]; rfl), HR1, hide (((zaa hx).set _).fr ((Fr.refl _ _).drew))⟩
          case measure => simp [intOf]; omega
       ·have HE := hide ((zaa hrun).trans (runEnd_stop t (i + 2) j h1 hj))
        by_cases h2 : i + 2 + j < t.size
        ·by_cases h3 : j < 4
         ·have hnl : letB t[i + 2 + j].toNat = false := by
           rw [← za8 t _ h2]
           cases h : letB (ch t (i + 2 + j)) with
           | false => rfl
           | true => exact absurd ⟨h2, h3, h⟩ h1
          have hnb : bigB t[i + 2 + j].toNat = false := by
           cases h : bigB t[i + 2 + j].toNat with
           | false => rfl
           | true => simp [letB, h] at hnl
          have hns : zai t[i + 2 + j].toNat = false := by
           cases h : zai t[i + 2 + j].toNat with
           | false => rfl
           | true => simp [letB, h] at hnl
          clear hnl
          have hbd := zcj t 4 (i + 2)
          have c0 : wr.cell? ⟨xb, 0, none⟩ = some (.int .u8 (t[i].toNat)) := (zaa hx).2.1.cell 0 (by omega)
          have c2 : wr.cell? ⟨xb, 2, none⟩ = some (.int .i64 i) := (zaa hx).2.1.cell 2 (by omega)
          have HRu := hide (show (⟨t[i].toNat, R, i⟩ : Ru) = ⟨ch t i, t.extract (i + 2) (zam t 4 (i + 2)), i⟩ from by rw [zaa HE, zaa HI, zaa hRe])
          have hacc : acc.length ≤ 7 := by have := zaa HL; omega
          have hb0c : bigB (ch t i) = true := by rw [zaa HI]; exact hb0
          have heq : (((i : Int) + 2 + j) == (t.size : Int)) = false := by rw [beq_eq_false_iff_ne]; omega
          by_cases hsc : ch t (i + 2 + j) = 59
          ·have hscb : (((t[i + 2 + j].toNat : Nat) : Int) != 59) = false := by
            rw [za8 t _ h2] at hsc; simp; omega
           by_cases hk7 : k = 7
           ·have hk8 : (((acc.length : Int) + 1) == 8) = true := by have := zaa HL; simp; omega
            have HP := hide ((zaa hf).trans (zcc t _ i acc ⟨hi0', hb0c⟩ ⟨hi1, hc1⟩ (by rw [zaa HE]; exact h2) (by omega)))
            clear hf hc1 hsc hk7 hb0c h1
            go_wp2_with (first
            | (go_at_call 56; refine (zav _ false _ hnb).mono ?_; rintro e w' ⟨rfl, rfl⟩)
            | (go_at_call 46; refine (zaq _ false _ hns).mono ?_; rintro e w' ⟨rfl, rfl⟩)
            | (at_builtin; refine wpList_append_lies _ rfl (.tmp 72) (.tmp 74) 55 rfl w.heap.size 100 i0 _ 3 32 Tryz.underlying55 hi0 hz0 hz1 hz2 rfl (by omega) u4 acc.length (zbf acc) rfl (by exact (zaa hx).1.2.alloc _) _ 1 1 [.int .u8 (t[i].toNat), .string R, .int .i64 i] rfl rfl (World.news_of_block (cs := #[.int .u8 (t[i].toNat), .string R, .int .i64 i]) (t := 100) (fr := (0, 0)) (heap_alloc_new _ _)) (by simp [Value.oneCell']) (by omega) (by unfold maxLen; omega) (by omega) (by have := (zaa hx).1.1.size; simp; omega) _ rfl ?_; intro g cap w1 hown1 hgrow1 hat1 hlt1; have HQ1 := hide (QS.append (r := ⟨t[i].toNat, R, i⟩) (zaa hx).1 hown1 hgrow1); clear hown1 hgrow1 hat1 hlt1))
            go_ret2
            exact ⟨(zaa HQ1).1, fun _ => by rw [zaa HP, zaa HE]; simp, fun h => by rw [zaa HP] at h; cases h⟩
           ·have hk8 : (((acc.length : Int) + 1) == 8) = false := by have := zaa HL; simp; omega
            have HP := hide ((zaa hf).trans (parse_more t _ i acc ⟨hi0', hb0c⟩ ⟨hi1, hc1⟩ (by rw [zaa HE]; exact h2) (by rw [zaa HE]; omega)))
            clear hf hc1 hsc hb0c h1
            go_wp2_with (first
            | (go_at_call 56; refine (zav _ false _ hnb).mono ?_; rintro e w' ⟨rfl, rfl⟩)
            | (go_at_call 46; refine (zaq _ false _ hns).mono ?_; rintro e w' ⟨rfl, rfl⟩)
            | (at_builtin; refine wpList_append_lies _ rfl (.tmp 72) (.tmp 74) 55 rfl w.heap.size 100 i0 _ 3 32 Tryz.underlying55 hi0 hz0 hz1 hz2 rfl (by omega) u4 acc.length (zbf acc) rfl (by exact (zaa hx).1.2.alloc _) _ 1 1 [.int .u8 (t[i].toNat), .string R, .int .i64 i] rfl rfl (World.news_of_block (cs := #[.int .u8 (t[i].toNat), .string R, .int .i64 i]) (t := 100) (fr := (0, 0)) (heap_alloc_new _ _)) (by simp [Value.oneCell']) (by omega) (by unfold maxLen; omega) (by omega) (by have := (zaa hx).1.1.size; simp; omega) _ rfl ?_; intro g cap w1 hown1 hgrow1 hat1 hlt1; have HQ1 := hide (QS.append (r := ⟨t[i].toNat, R, i⟩) (zaa hx).1 hown1 hgrow1); clear hown1 hgrow1 hat1 hlt1))
            go_roundw
            case rel => exact ⟨k + 1, i + 2 + j + 1, acc ++ [⟨t[i].toNat, R, i⟩], by omega, by omega, by have := zaa HL; simp; omega, by go_num, hide (by rw [zaa HP, zaa HE, zaa HRu, zaa HE, show 8 - (k + 1) = 7 - k from by omega]), HQ1⟩
            case measure => simp [intOf]; omega
          ·have hscb : (((t[i + 2 + j].toNat : Nat) : Int) != 59) = true := by
            rw [za8 t _ h2] at hsc; rw [bne_iff_ne]; omega
           have HP := hide ((zaa hf).trans (zcc t _ i acc ⟨hi0', hb0c⟩ ⟨hi1, hc1⟩ (by rw [zaa HE]; exact h2) (Or.inr (by rw [zaa HE]; exact hsc))))
           clear hf hc1 hsc hb0c h1
           go_wp2_with (first
            | (go_at_call 56; refine (zav _ false _ hnb).mono ?_; rintro e w' ⟨rfl, rfl⟩)
            | (go_at_call 46; refine (zaq _ false _ hns).mono ?_; rintro e w' ⟨rfl, rfl⟩)
            | (at_builtin; refine wpList_append_lies _ rfl (.tmp 72) (.tmp 74) 55 rfl w.heap.size 100 i0 _ 3 32 Tryz.underlying55 hi0 hz0 hz1 hz2 rfl (by omega) u4 acc.length (zbf acc) rfl (by exact (zaa hx).1.2.alloc _) _ 1 1 [.int .u8 (t[i].toNat), .string R, .int .i64 i] rfl rfl (World.news_of_block (cs := #[.int .u8 (t[i].toNat), .string R, .int .i64 i]) (t := 100) (fr := (0, 0)) (heap_alloc_new _ _)) (by simp [Value.oneCell']) (by omega) (by unfold maxLen; omega) (by omega) (by have := (zaa hx).1.1.size; simp; omega) _ rfl ?_; intro g cap w1 hown1 hgrow1 hat1 hlt1; have HQ1 := hide (QS.append (r := ⟨t[i].toNat, R, i⟩) (zaa hx).1 hown1 hgrow1); clear hown1 hgrow1 hat1 hlt1))
           go_ret2
           exact ⟨(zaa HQ1).1, fun _ => by rw [zaa HP, zaa HE]; simp, fun h => by rw [zaa HP] at h; cases h⟩
         ·have hj4 := hide h3
          have hbd := zcj t 4 (i + 2)
          have c0 : wr.cell? ⟨xb, 0, none⟩ = some (.int .u8 (t[i].toNat)) := (zaa hx).2.1.cell 0 (by omega)
          have c2 : wr.cell? ⟨xb, 2, none⟩ = some (.int .i64 i) := (zaa hx).2.1.cell 2 (by omega)
          have HRu := hide (show (⟨t[i].toNat, R, i⟩ : Ru) = ⟨ch t i, t.extract (i + 2) (zam t 4 (i + 2)), i⟩ from by rw [zaa HE, zaa HI, zaa hRe])
          have hacc : acc.length ≤ 7 := by have := zaa HL; omega
          have hb0c : bigB (ch t i) = true := by rw [zaa HI]; exact hb0
          have heq : (((i : Int) + 2 + j) == (t.size : Int)) = false := by rw [beq_eq_false_iff_ne]; omega
          by_cases hsc : ch t (i + 2 + j) = 59
          ·have hscb : (((t[i + 2 + j].toNat : Nat) : Int) != 59) = false := by
            rw [za8 t _ h2] at hsc; simp; omega
           by_cases hk7 : k = 7
           ·have hk8 : (((acc.length : Int) + 1) == 8) = true := by have := zaa HL; simp; omega
            have HP := hide ((zaa hf).trans (zcc t _ i acc ⟨hi0', hb0c⟩ ⟨hi1, hc1⟩ (by rw [zaa HE]; exact h2) (by omega)))
            clear hf hc1 hsc hk7 hb0c h1
            go_wp2_with (first
            | (at_builtin; refine wpList_append_lies _ rfl (.tmp 72) (.tmp 74) 55 rfl w.heap.size 100 i0 _ 3 32 Tryz.underlying55 hi0 hz0 hz1 hz2 rfl (by omega) u4 acc.length (zbf acc) rfl (by exact (zaa hx).1.2.alloc _) _ 1 1 [.int .u8 (t[i].toNat), .string R, .int .i64 i] rfl rfl (World.news_of_block (cs := #[.int .u8 (t[i].toNat), .string R, .int .i64 i]) (t := 100) (fr := (0, 0)) (heap_alloc_new _ _)) (by simp [Value.oneCell']) (by omega) (by unfold maxLen; omega) (by omega) (by have := (zaa hx).1.1.size; simp; omega) _ rfl ?_; intro g cap w1 hown1 hgrow1 hat1 hlt1; have HQ1 := hide (QS.append (r := ⟨t[i].toNat, R, i⟩) (zaa hx).1 hown1 hgrow1); clear hown1 hgrow1 hat1 hlt1))
            go_ret2
            exact ⟨(zaa HQ1).1, fun _ => by rw [zaa HP, zaa HE]; simp, fun h => by rw [zaa HP] at h; cases h⟩
           ·have hk8 : (((acc.length : Int) + 1) == 8) = false := by have := zaa HL; simp; omega
            have HP := hide ((zaa hf).trans (parse_more t _ i acc ⟨hi0', hb0c⟩ ⟨hi1, hc1⟩ (by rw [zaa HE]; exact h2) (by rw [zaa HE]; omega)))
            clear hf hc1 hsc hb0c h1
            go_wp2_with (first
            | (at_builtin; refine wpList_append_lies _ rfl (.tmp 72) (.tmp 74) 55 rfl w.heap.size 100 i0 _ 3 32 Tryz.underlying55 hi0 hz0 hz1 hz2 rfl (by omega) u4 acc.length (zbf acc) rfl (by exact (zaa hx).1.2.alloc _) _ 1 1 [.int .u8 (t[i].toNat), .string R, .int .i64 i] rfl rfl (World.news_of_block (cs := #[.int .u8 (t[i].toNat), .string R, .int .i64 i]) (t := 100) (fr := (0, 0)) (heap_alloc_new _ _)) (by simp [Value.oneCell']) (by omega) (by unfold maxLen; omega) (by omega) (by have := (zaa hx).1.1.size; simp; omega) _ rfl ?_; intro g cap w1 hown1 hgrow1 hat1 hlt1; have HQ1 := hide (QS.append (r := ⟨t[i].toNat, R, i⟩) (zaa hx).1 hown1 hgrow1); clear hown1 hgrow1 hat1 hlt1))
            go_roundw
            case rel => exact ⟨k + 1, i + 2 + j + 1, acc ++ [⟨t[i].toNat, R, i⟩], by omega, by omega, by have := zaa HL; simp; omega, by go_num, hide (by rw [zaa HP, zaa HE, zaa HRu, zaa HE, show 8 - (k + 1) = 7 - k from by omega]), HQ1⟩
            case measure => simp [intOf]; omega
          ·have hscb : (((t[i + 2 + j].toNat : Nat) : Int) != 59) = true := by
            rw [za8 t _ h2] at hsc; rw [bne_iff_ne]; omega
           have HP := hide ((zaa hf).trans (zcc t _ i acc ⟨hi0', hb0c⟩ ⟨hi1, hc1⟩ (by rw [zaa HE]; exact h2) (Or.inr (by rw [zaa HE]; exact hsc))))
           clear hf hc1 hsc hb0c h1
           go_wp2_with (first
            | (at_builtin; refine wpList_append_lies _ rfl (.tmp 72) (.tmp 74) 55 rfl w.heap.size 100 i0 _ 3 32 Tryz.underlying55 hi0 hz0 hz1 hz2 rfl (by omega) u4 acc.length (zbf acc) rfl (by exact (zaa hx).1.2.alloc _) _ 1 1 [.int .u8 (t[i].toNat), .string R, .int .i64 i] rfl rfl (World.news_of_block (cs := #[.int .u8 (t[i].toNat), .string R, .int .i64 i]) (t := 100) (fr := (0, 0)) (heap_alloc_new _ _)) (by simp [Value.oneCell']) (by omega) (by unfold maxLen; omega) (by omega) (by have := (zaa hx).1.1.size; simp; omega) _ rfl ?_; intro g cap w1 hown1 hgrow1 hat1 hlt1; have HQ1 := hide (QS.append (r := ⟨t[i].toNat, R, i⟩) (zaa hx).1 hown1 hgrow1); clear hown1 hgrow1 hat1 hlt1))
           go_ret2
           exact ⟨(zaa HQ1).1, fun _ => by rw [zaa HP, zaa HE]; simp, fun h => by rw [zaa HP] at h; cases h⟩
        ·have hj5 := hide h2
         have hbd := zcj t 4 (i + 2)
         have c0 : wr.cell? ⟨xb, 0, none⟩ = some (.int .u8 (t[i].toNat)) := (zaa hx).2.1.cell 0 (by omega)
         have c2 : wr.cell? ⟨xb, 2, none⟩ = some (.int .i64 i) := (zaa hx).2.1.cell 2 (by omega)
         have HRu := hide (show (⟨t[i].toNat, R, i⟩ : Ru) = ⟨ch t i, t.extract (i + 2) (zam t 4 (i + 2)), i⟩ from by rw [zaa HE, zaa HI, zaa hRe])
         have hacc : acc.length ≤ 7 := by have := zaa HL; omega
         have hb0c : bigB (ch t i) = true := by rw [zaa HI]; exact hb0
         have heq : (((i : Int) + 2 + j) == (t.size : Int)) = true := by rw [beq_iff_eq]; omega
         have HP := hide ((zaa hf).trans (parse_end t _ i acc ⟨hi0', hb0c⟩ ⟨hi1, hc1⟩ (by rw [zaa HE]; exact h2)))
         clear hf hc1 hb0c h1
         go_wp2_with (first
          | (at_builtin; refine wpList_append_lies _ rfl (.tmp 72) (.tmp 74) 55 rfl w.heap.size 100 i0 _ 3 32 Tryz.underlying55 hi0 hz0 hz1 hz2 rfl (by omega) u4 acc.length (zbf acc) rfl (by exact (zaa hx).1.2.alloc _) _ 1 1 [.int .u8 (t[i].toNat), .string R, .int .i64 i] rfl rfl (World.news_of_block (cs := #[.int .u8 (t[i].toNat), .string R, .int .i64 i]) (t := 100) (fr := (0, 0)) (heap_alloc_new _ _)) (by simp [Value.oneCell']) (by omega) (by unfold maxLen; omega) (by omega) (by have := (zaa hx).1.1.size; simp; omega) _ rfl ?_; intro g cap w1 hown1 hgrow1 hat1 hlt1; have HQ1 := hide (QS.append (r := ⟨t[i].toNat, R, i⟩) (zaa hx).1 hown1 hgrow1); clear hown1 hgrow1 hat1 hlt1))
         go_ret2
         exact ⟨(zaa HQ1).1, (fun h => by rw [zaa HP] at h; cases h), fun _ => ⟨g, cap, by rw [zaa HP]; simp, by rw [zaa HP, ← zaa HRu]; exact (zaa HQ1).ru (by simp)⟩⟩
     ·have hc1' : (((t[i + 1].toNat : Nat) : Int) != 61) = true := by
       rw [za8 t _ hi1] at hc1; rw [bne_iff_ne]; omega
      have HP := hide ((zaa hf).trans (parse_bad1 t _ i acc ⟨hi0', by rw [za8 t i hi0']; exact hb0⟩ (fun h => hc1 h.2)))
      clear hf hc1
      go_wp2_with (go_at_call 56; refine (zav _ true _ hb0).mono ?_; rintro e w' ⟨rfl, rfl⟩)
      go_ret2
      exact ⟨(zaa hs).1.alloc _, fun _ => by rw [zaa HP]; simp, fun h => by rw [zaa HP] at h; cases h⟩
    ·have HP := hide ((zaa hf).trans (parse_bad1 t _ i acc ⟨hi0', by rw [za8 t i hi0']; exact hb0⟩ (fun h => hi1 h.1)))
     clear hf
     go_wp2_with (go_at_call 56; refine (zav _ true _ hb0).mono ?_; rintro e w' ⟨rfl, rfl⟩)
     go_ret2
     exact ⟨(zaa hs).1.alloc _, fun _ => by rw [zaa HP]; simp, fun h => by rw [zaa HP] at h; cases h⟩
  ·have HP := hide ((zaa hf).trans (parse_bad0 t _ i acc (fun h => hi0' h.1)))
   clear hf
   go_wp2
   go_ret2
   exact ⟨(zaa hs).1, fun _ => by rw [zaa HP]; rfl, fun h => by rw [zaa HP] at h; cases h⟩
end Go.Proofs.YtkglggkkbmmjkabGreatDoor
