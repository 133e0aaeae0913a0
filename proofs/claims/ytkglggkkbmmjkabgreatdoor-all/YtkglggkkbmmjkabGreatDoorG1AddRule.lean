import Derived.Test.YtkglggkkbmmjkabGreatDoorG0Leaf
import Derived.Deep.RegionLaw
import Derived.BigQuiet
import Derived.Deep.AppendLies
namespace Go.Proofs.YtkglggkkbmmjkabGreatDoor
open Go.RowKit
def addAllF (f : Nat → Value) (off : Nat) (l : List Nat) : Nat → Value := l.foldl (fun f c => addF f off c) f
set_option maxHeartbeats 400000 in
theorem p_addBigLetters (s : ByteArray) (b off n : Nat) (f : Nat → Value) (w : World) (hs : s.size ≤ 1000) (hB : Blk w b n f) (hn : off + 26 ≤ n) :
 Calls Tryz.prog 130 #[.pointer (some ⟨b, off, none⟩), .string s] w fun e w' => e = .returned (.tuple #[]) ∧ Fr [b] w w' ∧ w'.heap.size = w.heap.size ∧ Blk w' b n (addAllF f off (bytes s)) := by
 have HB : Hid (Blk w b n f) := hB
 clear hB
 go_enter Tryz.func130, Tryz.ntmps130
 go_wp2
 go_loopw [4] (fun i wr => ∃ k : Nat, k ≤ s.size ∧ i = .int .i64 k ∧ Hid (Fr [b] w wr ∧ wr.heap.size = w.heap.size ∧ Blk wr b n (addAllF f off ((bytes s).take k)))) (fun i _ => s.size - (intOf i).toNat)
 case atStart => exact ⟨0, Nat.zero_le _, rfl, Fr.refl _ _, rfl, by simpa [addAllF] using HB.out⟩
 case round =>
  obtain ⟨k, hk, rfl, hh⟩ := hrel
  by_cases hlt : k < s.size
  ·have hch : Hid (ch s k = s[k].toNat) := za8 s k hlt
   have hsn : Hid ((bytes s).take (k + 1) = (bytes s).take k ++ [ch s k]) := zb1 s k hlt
   go_wp2_with (go_at_call 107; refine (p_add _ _ _ _ _ _ hh.out.2.2 hn).mono ?_; rintro e w1 ⟨rfl, hf1⟩)
   have hh2 : Hid (Fr [b] w w1 ∧ w1.heap.size = w.heap.size ∧ Blk w1 b n (addAllF f off ((bytes s).take (k + 1)))) := by
    refine ⟨hh.out.1.trans hf1.1 (by simp), by rw [hf1.2.1, hh.out.2.1], ?_⟩
    rw [hsn.out, hch.out]; simpa [addAllF] using hf1.2.2
   go_roundw
   case rel => exact ⟨k + 1, by omega, by go_num, hh2⟩
   case measure => simp [intOf]; omega
  ·have hh2 : Hid (Fr [b] w wr ∧ wr.heap.size = w.heap.size ∧ Blk wr b n (addAllF f off (bytes s))) := by
    have := hh.out
    rw [za2 s k (by omega)] at this; exact this
   clear hh
   go_wp2
   go_end0
   exact ⟨rfl, hh2.out⟩
def refF (f : Nat → Value) (e p : Int) : Nat → Value := upd (upd f 756 (.int .i64 e)) 757 (.int .i64 p)
set_option maxHeartbeats 400000 in
theorem zcn (b : Nat) (e p : Int) (f : Nat → Value) (w : World) (hB : Blk w b 758 f) :
 Calls Tryz.prog 48 #[.pointer (some ⟨b, 0, none⟩), .int .i64 e, .int .i64 p] w fun e' w' => e' = .returned (.tuple #[]) ∧ Fr [b] w w' ∧ w'.heap.size = w.heap.size ∧ Blk w' b 758 (refF f e p) := by
 have h6 := hB.cell 756 (by omega)
 have h7 := hB.cell 757 (by omega)
 have z6 := hB.free 756
 have z7 := hB.free 757
 have fin : Hid (Fr [b] w ((w.setCell ⟨b, 756, none⟩ (.int .i64 e)).setCell ⟨b, 757, none⟩ (.int .i64 p)) ∧ ((w.setCell ⟨b, 756, none⟩ (.int .i64 e)).setCell ⟨b, 757, none⟩ (.int .i64 p)).heap.size = w.heap.size ∧
  Blk ((w.setCell ⟨b, 756, none⟩ (.int .i64 e)).setCell ⟨b, 757, none⟩ (.int .i64 p)) b 758 (refF f e p)) :=
  ⟨((Fr.refl [b] w).setCell _ (by simp) _).setCell _ (by simp) _, by simp, (hB.setCell 756 _).setCell 757 _⟩
 clear hB
 go_enter Tryz.func48, Tryz.ntmps48
 go_wp2
 go_end0
 exact ⟨rfl, fin.out⟩
set_option maxHeartbeats 400000 in
theorem p_rightPlace (b A : Nat) (w : World) (hA : A ≤ 1000) (hc : w.cell? ⟨b, 2, none⟩ = some (.int .i64 A)) :
 Calls Tryz.prog 104 #[.pointer (some ⟨b, 0, none⟩)] w fun e w' => e = .returned (.int .i64 (A + 2)) ∧ w' = w := by
 go_enter Tryz.func104, Tryz.ntmps104
 go_wp2
 go_ret
 exact ⟨rfl, rfl⟩
end Go.Proofs.YtkglggkkbmmjkabGreatDoor
namespace Go.Proofs.YtkglggkkbmmjkabGreatDoor
open Go.RowKit
set_option maxHeartbeats 400000 in
theorem p_readRule_bad0 (t : ByteArray) (i : Nat) (w : World) (_ht : t.size ≤ 32) (_hi : i ≤ 100) (hb : ¬ (i < t.size ∧ bigB (ch t i) = true)) :
 Calls Tryz.prog 101 #[.string t, .int .i64 i] w fun e w' => Fr [] w w' ∧ e = .returned (.tuple #[.agg #[.int .u8 0, .string ⟨#[]⟩, .int .i64 0], .int .i64 i, .bool false]) := by
 by_cases hlt : i < t.size
 ·have hb' : bigB t[i].toNat = false := by
   rw [← za8 t i hlt]
   cases h : bigB (ch t i) <;> simp_all
  clear hb
  go_enter Tryz.func101, Tryz.ntmps101
  go_wp2_with (go_at_call 67; refine (p_isBig _ _).mono ?_; rintro e w' ⟨rfl, rfl⟩)
  exact bodyPost_ret (v := .tuple #[.agg #[.int .u8 0, .string ⟨#[]⟩, .int .i64 0], .int .i64 i, .bool false]) (by simp [results, Tryz.results101, go_sem]) rfl ⟨((Fr.refl _ _).alloc _).alloc _, rfl⟩
 ·clear hb
  go_enter Tryz.func101, Tryz.ntmps101
  go_wp2
  exact bodyPost_ret (v := .tuple #[.agg #[.int .u8 0, .string ⟨#[]⟩, .int .i64 0], .int .i64 i, .bool false]) (by simp [results, Tryz.results101, go_sem]) rfl ⟨((Fr.refl _ _).alloc _).alloc _, rfl⟩
set_option maxHeartbeats 400000 in
theorem p_readRule_bad1 (t : ByteArray) (i : Nat) (w : World) (_ht : t.size ≤ 32) (hlt : i < t.size) (hb : bigB (ch t i) = true) (hb1 : ¬ (i + 1 < t.size ∧ ch t (i + 1) = 61)) :
 Calls Tryz.prog 101 #[.string t, .int .i64 i] w fun e w' => Fr [] w w' ∧ e = .returned (.tuple #[.agg #[.int .u8 0, .string ⟨#[]⟩, .int .i64 0], .int .i64 (i + 1), .bool false]) := by
 rw [za8 t i hlt] at hb
 by_cases hlt1 : i + 1 < t.size
 ·have hb' : ((t[i + 1].toNat : Int) != 61) = true := by
   rw [bne_iff_ne]; rw [za8 t (i + 1) hlt1] at hb1
   intro h; exact hb1 ⟨hlt1, by omega⟩
  clear hb1
  go_enter Tryz.func101, Tryz.ntmps101
  go_wp2_with (go_at_call 67; refine (p_isBig _ _).mono ?_; rintro e w' ⟨rfl, rfl⟩)
  exact bodyPost_ret (v := .tuple #[.agg #[.int .u8 0, .string ⟨#[]⟩, .int .i64 0], .int .i64 (i + 1), .bool false]) (by simp [results, Tryz.results101, go_sem]) rfl ⟨((Fr.refl _ _).alloc _).alloc _, rfl⟩
 ·clear hb1
  go_enter Tryz.func101, Tryz.ntmps101
  go_wp2_with (go_at_call 67; refine (p_isBig _ _).mono ?_; rintro e w' ⟨rfl, rfl⟩)
  exact bodyPost_ret (v := .tuple #[.agg #[.int .u8 0, .string ⟨#[]⟩, .int .i64 0], .int .i64 (i + 1), .bool false]) (by simp [results, Tryz.results101, go_sem]) rfl ⟨((Fr.refl _ _).alloc _).alloc _, rfl⟩
theorem runEnd_step (t : ByteArray) (i k : Nat) (h : i + k < t.size) (hk : k < 4) (hl : letB (ch t (i + k)) = true) : zam t (4 - k) (i + k) = zam t (4 - (k + 1)) (i + (k + 1)) := by
 rw [show 4 - k = (4 - (k + 1)) + 1 from by omega]
 rw [zam, if_pos ⟨h, hl⟩]; rfl
theorem runEnd_stop (t : ByteArray) (i k : Nat) (h : ¬ (i + k < t.size ∧ k < 4 ∧ letB (ch t (i + k)) = true)) (hk : k ≤ 4) : zam t (4 - k) (i + k) = i + k := by
 by_cases e : k = 4
 ·subst e; simp [zam]
 ·rw [show 4 - k = (4 - (k + 1)) + 1 from by omega]
  rw [zam, if_neg (by intro hh; exact h ⟨hh.1, by omega, hh.2⟩)]
set_option maxHeartbeats 1000000 in
theorem p_readRule_ok (t : ByteArray) (i : Nat) (w : World) (ht : t.size ≤ 32) (hlt : i < t.size) (hb : bigB (ch t i) = true) (hlt1 : i + 1 < t.size) (hb1 : ch t (i + 1) = 61) :
 Calls Tryz.prog 101 #[.string t, .int .i64 i] w fun e w' => Fr [] w w' ∧ e = .returned (.tuple #[.agg #[.int .u8 (ch t i), .string (t.extract (i + 2) (zam t 4 (i + 2))), .int .i64 i], .int .i64 (zam t 4 (i + 2)), .bool true]) := by
 have hbd := zcj t 4 (i + 2)
 rw [za8 t i hlt] at hb
 have hb' : ((t[i + 1].toNat : Int) != 61) = false := by
  rw [za8 t (i + 1) hlt1] at hb1; simp; omega
 have HI : Hid (ch t i = t[i].toNat) := za8 t i hlt
 clear hb1
 go_enter Tryz.func101, Tryz.ntmps101
 go_wp2_with (go_at_call 67; refine (p_isBig _ _).mono ?_; rintro e w' ⟨rfl, rfl⟩)
 go_loop [10] (fun e => ∃ k : Nat, k ≤ 4 ∧ i + 2 + k ≤ t.size ∧ e = .int .i64 (i + 2 + k : Nat) ∧ Hid (zam t 4 (i + 2) = zam t (4 - k) (i + 2 + k))) (fun e => t.size - (intOf e).toNat)
 case atStart => exact ⟨0, by omega, by omega, by go_num, rfl⟩
 case round =>
  obtain ⟨k, hk, hk2, rfl, hr⟩ := hrel
  by_cases h1 : i + 2 + k < t.size
  ·by_cases h2 : k < 4
   ·cases h3 : letB t[i + 2 + k].toNat
    ·have he : Hid (zam t 4 (i + 2) = i + 2 + k) := by
      show _ = _
      rw [hr.out]; exact runEnd_stop t (i + 2) k (by rw [za8 t _ h1]; simp [h3]) hk
     go_wp2_with (go_at_call 74; refine (p_isLetter _ _).mono ?_; rintro e w' ⟨rfl, rfl⟩)
     exact bodyPost_ret (v := .tuple #[.agg #[.int .u8 t[i].toNat, .string (t.extract (i + 1 + 1) (i + 2 + k)), .int .i64 i], .int .i64 (i + 2 + k), .bool true]) (by simp [results, Tryz.results101, go_sem]) rfl ⟨((Fr.refl _ _).alloc _).alloc _, by rw [he.out, HI.out]; simp⟩
    ·have he : Hid (zam t 4 (i + 2) = zam t (4 - (k + 1)) (i + 2 + (k + 1))) := by
      show _ = _
      rw [hr.out]; exact runEnd_step t (i + 2) k h1 h2 (by rw [za8 t _ h1]; exact h3)
     go_wp2_with (go_at_call 74; refine (p_isLetter _ _).mono ?_; rintro e w' ⟨rfl, rfl⟩)
     go_round
     case rel => exact ⟨k + 1, by omega, by omega, by go_num, he⟩
     case measure => simp [intOf]; omega
   ·have he : Hid (zam t 4 (i + 2) = i + 2 + k) := by
     show _ = _
     rw [hr.out]; exact runEnd_stop t (i + 2) k (by omega) hk
    go_wp2
    exact bodyPost_ret (v := .tuple #[.agg #[.int .u8 t[i].toNat, .string (t.extract (i + 1 + 1) (i + 2 + k)), .int .i64 i], .int .i64 (i + 2 + k), .bool true]) (by simp [results, Tryz.results101, go_sem]) rfl ⟨((Fr.refl _ _).alloc _).alloc _, by rw [he.out, HI.out]; simp⟩
  ·have he : Hid (zam t 4 (i + 2) = i + 2 + k) := by
    show _ = _
    rw [hr.out]; exact runEnd_stop t (i + 2) k (by omega) hk
   go_wp2
   exact bodyPost_ret (v := .tuple #[.agg #[.int .u8 t[i].toNat, .string (t.extract (i + 1 + 1) (i + 2 + k)), .int .i64 i], .int .i64 (i + 2 + k), .bool true]) (by simp [results, Tryz.results101, go_sem]) rfl ⟨((Fr.refl _ _).alloc _).alloc _, by rw [he.out, HI.out]; simp⟩
end Go.Proofs.YtkglggkkbmmjkabGreatDoor
namespace Go.Proofs.YtkglggkkbmmjkabGreatDoor
open Go.RowKit
theorem Tryz.infoRule : (Tryz.prog.info? 166).map (fun i => (i.zero, i.size, i.bytes)) = some (some (.agg #[.int .u8 0, .string ⟨#[]⟩, .int .i64 0]), 3, 32) := by kernel_rfl
theorem cell_new2 (W : World) (N : Nat) (A : Array Value) (T : TypeId) (Y : Obj) (k : Nat) (v : Value) (hs : W.heap.size = N) (hk : A[k]? = some v) : ((W.alloc (.cells A T)).alloc Y).drew.cell? ⟨N, k, none⟩ = some v := by
 subst hs
 have h : ((W.alloc (.cells A T)).alloc Y).drew.heap[W.heap.size]? = some (.cells A T) := by
  show ((W.heap.push _).push Y)[W.heap.size]? = _
  rw [Array.getElem?_push, if_neg (by simp), Array.getElem?_push]; simp
 simp only [World.cell?, h]
 simpa using hk
theorem heap_new2 (w : World) (X Y : Obj) : ((w.alloc X).alloc Y).drew.heap[w.heap.size + 1]? = some Y := by
 show ((w.heap.push X).push Y)[w.heap.size + 1]? = some Y
 rw [Array.getElem?_push]; simp
set_option maxRecDepth 100000 in
set_option maxHeartbeats 1600000 in
theorem p_addRule_more (b n L A q cap : Nat) (R : ByteArray) (f : Nat → Value) (xs : List Value) (w : World) (hB : Blk w b 758 f) (h0 : f 0 = .slice (some ⟨q, 0, none⟩) n cap)
 (hown : w.ownsRow (b + 1) 166 3 (.slice (some ⟨q, 0, none⟩) n cap) n xs) (hn : n ≤ 8) (hn0 : 0 < n) :
 Calls Tryz.prog 102 #[.pointer (some ⟨b, 0, none⟩), .agg #[.int .u8 L, .string R, .int .i64 A]] w fun e w' => e = .returned (.tuple #[]) ∧ Below b w w' ∧
  ∃ g c, w'.ownsRow (b + 1) 166 3 (.slice (some ⟨g, 0, none⟩) (n + 1) c) (n + 1) (xs ++ [.int .u8 L, .string R, .int .i64 A]) ∧ Blk w' b 758 (addF (upd f 0 (.slice (some ⟨g, 0, none⟩) (n + 1) c)) 2 L) := by
 obtain ⟨i0, hi0, hz0, hz1, hz2⟩ := info_parts Tryz.infoRule
 have c0 := (hB.cell 0 (by omega)).trans (by rw [h0])
 have z0 := hB.free 0
 have lb := hB.lt
 have zA : ∀ o, (w.alloc o).frozen? ⟨b, 0, none⟩ = false := fun o => (hB.alloc o).free 0
 have zAA : ∀ o o', ((w.alloc o).alloc o').frozen? ⟨b, 0, none⟩ = false := fun o o' => ((hB.alloc o).alloc o').free 0
 have HB : Hid (Blk w b 758 f) := hB
 have HO : Hid (w.ownsRow (b + 1) 166 3 (.slice (some ⟨q, 0, none⟩) n cap) n xs) := hown
 have hne : ((n : Int) == 0) = false := by simp; omega
 obtain ⟨hbq, lq⟩ : b + 1 ≤ q ∧ q < w.heap.size := hown.lt q rfl
 have nb : some b ≠ (Value.slice (some ⟨q, 0, none⟩) n cap).ownBlock := by simp [Value.ownBlock]; omega
 have nw : some w.heap.size ≠ (Value.slice (some ⟨q, 0, none⟩) n cap).ownBlock := by simp [Value.ownBlock]; omega
 clear hown hB h0
 go_enter Tryz.func102, Tryz.ntmps102
 go_wp2_with fail
 go_region_law
  ((refine step_append_lies _ (by rfl) _ _ _ (by rfl) (b + 1) 166 i0 _ 3 32 Tryz.underlying42 hi0 hz0 hz1 hz2 rfl (by omega) (.slice (some ⟨q, 0, none⟩) n cap) n xs (by rfl) (((HO.out.alloc _).alloc _).drew)
     ⟨w.heap.size + 1, 0, none⟩ 1 1 [.int .u8 L, .string R, .int .i64 A] (by rfl) (by rfl) (World.news_of_block (cs := #[.int .u8 L, .string R, .int .i64 A]) (t := 166) (fr := (0, 0)) (heap_new2 w _ _)) (by simp [Value.oneCell'])
     (by omega) (by unfold maxLen; omega) (by omega) (by simp; omega) (w.heap.size + 2) (by simp) ?_; intro gg c1 w1 hown1 hgrow hat hlt
    have B1 : Blk w1 b 758 f := (((HB.out.alloc _).alloc _).drew).grown hgrow nb
    have d0 := B1.cell 0 (by omega)
    have e0 := B1.free 0
    have d1 : w1.cell? ⟨w.heap.size, 0, none⟩ = some (.int .u8 L) := (hgrow.cell_far ⟨w.heap.size, 0, none⟩ (by simp; omega) nw).trans (by simp)
    have HB1 : Hid (Blk w1 b 758 f) := B1
    clear B1))
 all_goals
  go_wp2_with fail
  have d2 : (w1.setCell ⟨b, 0, none⟩ (.slice (some ⟨gg, 0, none⟩) (n + 1) c1)).cell? ⟨w.heap.size, 0, none⟩ = some (.int .u8 L) := by
   rw [World.cell?_setCell_other _ _ _ _ (by intro h; have := congrArg Addr.block h; simp at this; omega)]; exact d1
  have HB2 : Hid (Blk (w1.setCell ⟨b, 0, none⟩ (.slice (some ⟨gg, 0, none⟩) (n + 1) c1)) b 758 (upd f 0 (.slice (some ⟨gg, 0, none⟩) (n + 1) c1))) := HB1.out.setCell 0 _
  have HO2 : Hid ((w1.setCell ⟨b, 0, none⟩ (.slice (some ⟨gg, 0, none⟩) (n + 1) c1)).ownsRow (b + 1) 166 3 (.slice (some ⟨gg, 0, none⟩) (n + 1) c1) (n + 1) (xs ++ [.int .u8 L, .string R, .int .i64 A])) := ownsRow_setCell_below hown1 (by simp) _
  have HW2 : Hid (Below b w (w1.setCell ⟨b, 0, none⟩ (.slice (some ⟨gg, 0, none⟩) (n + 1) c1))) :=
   (((((Below.refl b w).alloc (by omega) _).alloc (by simp; omega) _).drew).grown hgrow (by simp; omega) (fun k hk => by simp [Value.ownBlock] at hk; omega)).setCell (by simp) _
  have lb2 : b < w1.heap.size := HB1.out.lt
  clear hgrow hown1 hat d0 e0 d1 HB HO HB1 c0 z0
  go_region_with (go_at_call 107; refine (p_add b 2 L 758 _ _ (by exact HB2.out.drew) (by omega)).mono ?_; rintro e w2 ⟨rfl, hf2⟩)
  go_end0
  exact ⟨rfl, HW2.out.trans (Below.trans (Below.drew (Below.refl _ _)) (hf2.1.belowOf (by simp) (by simp; omega))), gg, c1, zbd HO2.out.drew hf2.1 (by simp), hf2.2.2⟩
set_option maxRecDepth 100000 in
set_option maxHeartbeats 1600000 in
theorem p_addRule_first (b L A : Nat) (R : ByteArray) (f : Nat → Value) (w : World) (hB : Blk w b 758 f) (h0 : f 0 = .slice none 0 0) :
 Calls Tryz.prog 102 #[.pointer (some ⟨b, 0, none⟩), .agg #[.int .u8 L, .string R, .int .i64 A]] w fun e w' => e = .returned (.tuple #[]) ∧ Below b w w' ∧
  ∃ g c, w'.ownsRow (b + 1) 166 3 (.slice (some ⟨g, 0, none⟩) 1 c) 1 [.int .u8 L, .string R, .int .i64 A] ∧ Blk w' b 758 (addF (upd (upd f 1 (.int .u8 L)) 0 (.slice (some ⟨g, 0, none⟩) 1 c)) 2 L) := by
 obtain ⟨i0, hi0, hz0, hz1, hz2⟩ := info_parts Tryz.infoRule
 have c0 := (hB.cell 0 (by omega)).trans (by rw [h0])
 have c1 := hB.cell 1 (by omega)
 have z1 := hB.free 1
 have z0 := hB.free 0
 have lb := hB.lt
 have HB : Hid (Blk (w.setCell ⟨b, 1, none⟩ (.int .u8 L)) b 758 (upd f 1 (.int .u8 L))) := hB.setCell 1 _
 have zA : ∀ o, (w.alloc o).frozen? ⟨b, 1, none⟩ = false := fun o => (hB.alloc o).free 1
 clear hB h0
 go_enter Tryz.func102, Tryz.ntmps102
 go_wp2_with fail
 go_region_law
  ((refine step_append_lies _ (by rfl) _ _ _ (by rfl) (b + 1) 166 i0 _ 3 32 Tryz.underlying42 hi0 hz0 hz1 hz2 rfl (by omega) (.slice none 0 0) 0 [] (by rfl) (World.ownsRow_nil _ _ _ _)
     ⟨w.heap.size + 1, 0, none⟩ 1 1 [.int .u8 L, .string R, .int .i64 A] (by rfl) (by rfl) (World.news_of_block (cs := #[.int .u8 L, .string R, .int .i64 A]) (t := 166) (fr := (0, 0)) (by simpa using heap_new2 (w.setCell ⟨b, 1, none⟩ (.int .u8 L)) (.cells #[.int .u8 L, .string R, .int .i64 A] 166) (.cells #[.int .u8 L, .string R, .int .i64 A] 166))) (by simp [Value.oneCell'])
     (by omega) (by unfold maxLen; omega) (by omega) (by simp; omega) (w.heap.size + 2) (by simp) ?_; intro gg c1 w1 hown1 hgrow hat hlt
    have B1 : Blk w1 b 758 (upd f 1 (.int .u8 L)) := (((HB.out.alloc _).alloc _).drew).grown hgrow (by simp [Value.ownBlock])
    have d0 := B1.cell 0 (by omega)
    have e0 := B1.free 0
    have d1 : w1.cell? ⟨w.heap.size, 0, none⟩ = some (.int .u8 L) := (hgrow.cell_far ⟨w.heap.size, 0, none⟩ (by simp; omega) (by simp [Value.ownBlock])).trans (cell_new2 _ _ _ _ _ _ _ (by simp) rfl)
    have HB1 : Hid (Blk w1 b 758 (upd f 1 (.int .u8 L))) := B1
    clear B1))
 all_goals
  go_wp2_with fail
  have d2 : (w1.setCell ⟨b, 0, none⟩ (.slice (some ⟨gg, 0, none⟩) 1 c1)).cell? ⟨w.heap.size, 0, none⟩ = some (.int .u8 L) := by
   rw [World.cell?_setCell_other _ _ _ _ (by intro h; have := congrArg Addr.block h; simp at this; omega)]; exact d1
  have HB2 : Hid (Blk (w1.setCell ⟨b, 0, none⟩ (.slice (some ⟨gg, 0, none⟩) 1 c1)) b 758 (upd (upd f 1 (.int .u8 L)) 0 (.slice (some ⟨gg, 0, none⟩) 1 c1))) := HB1.out.setCell 0 _
  have HO2 : Hid ((w1.setCell ⟨b, 0, none⟩ (.slice (some ⟨gg, 0, none⟩) 1 c1)).ownsRow (b + 1) 166 3 (.slice (some ⟨gg, 0, none⟩) 1 c1) 1 [.int .u8 L, .string R, .int .i64 A]) := ownsRow_setCell_below hown1 (by simp) _
  have HW2 : Hid (Below b w (w1.setCell ⟨b, 0, none⟩ (.slice (some ⟨gg, 0, none⟩) 1 c1))) :=
   ((((((Below.refl b w).setCell (p := ⟨b, 1, none⟩) (by simp) (.int .u8 L)).alloc (by simp; omega) _).alloc (by simp; omega) _).drew).grown hgrow (by simp; omega) (fun k hk => by simp [Value.ownBlock] at hk)).setCell (by simp) _
  have lb2 : b < w1.heap.size := HB1.out.lt
  clear hgrow hown1 hat d0 e0 d1 HB HB1 c0 z0
  go_region_with (go_at_call 107; refine (p_add b 2 L 758 _ _ (by exact HB2.out.drew) (by omega)).mono ?_; rintro e w2 ⟨rfl, hf2⟩)
  go_end0
  exact ⟨rfl, HW2.out.trans (Below.trans (Below.drew (Below.refl _ _)) (hf2.1.belowOf (by simp) (by simp; omega))), gg, c1, zbd HO2.out.drew hf2.1 (by simp), hf2.2.2⟩
end Go.Proofs.YtkglggkkbmmjkabGreatDoor
