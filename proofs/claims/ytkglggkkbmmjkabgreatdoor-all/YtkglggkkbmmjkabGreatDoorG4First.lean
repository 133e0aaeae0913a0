import Derived.Test.YtkglggkkbmmjkabGreatDoorG3Names
namespace Go.Proofs.YtkglggkkbmmjkabGreatDoor
open Go.RowKit
def sgF (S : Nat → Bool) : Nat → Value := fun k => .bool (S (sgn k))
theorem Tryz.zeroSign : (Tryz.prog.info? 48).bind (·.zero) = some (Agg 27 (sgF fun _ => false)) := by kernel_rfl
theorem Tryz.sizeSign : (Tryz.prog.info? 48).map (·.size) = some 27 := by kernel_rfl
theorem sgn_small (c : Nat) (h : zai c = true) : sgn (c - 96) = c := by
 have := za4.1 h
 unfold sgn; rw [if_neg (by omega)]; omega
theorem sgn_inj {i j : Nat} (h : sgn i = sgn j) (hi : i < 27) (hj : j < 27) : i = j := by
 unfold sgn at h
 split at h <;> split at h <;> omega
def sgO (c : Nat) : Nat := if c = 36 then 0 else c - 96
def sigB (c : Nat) : Bool := c == 36 || zai c
theorem sigB_iff {c : Nat} : sigB c = true ↔ c = 36 ∨ (97 ≤ c ∧ c ≤ 122) := by simp [sigB, zai]
theorem sgO_lt {c : Nat} (h : sigB c = true) : sgO c < 27 := by
 have := sigB_iff.1 h
 unfold sgO; split <;> omega
theorem sgn_sgO {c : Nat} (h : sigB c = true) : sgn (sgO c) = c := by
 have := sigB_iff.1 h
 unfold sgO sgn
 by_cases e : c = 36
 ·rw [if_pos e, if_pos rfl, e]
 ·rw [if_neg e, if_neg (by omega)]; omega
theorem sgO_sgn {k : Nat} : sgO (sgn k) = k := by
 unfold sgO sgn
 by_cases e : k = 0
 ·rw [if_pos e, if_pos rfl, e]
 ·rw [if_neg e, if_neg (by omega)]; omega
theorem sigB_sgn {k : Nat} (h : k < 27) : sigB (sgn k) = true := by
 rw [sigB_iff]; unfold sgn
 split <;> omega
set_option maxHeartbeats 400000 in
theorem p_signIndex (c : Nat) (w : World) (hc : sigB c = true) :
 Calls Tryz.prog 129 #[.int .u8 c] w fun e w' => e = .returned (.int .i64 (sgO c : Nat)) ∧ w' = w := by
 have h := sigB_iff.1 hc
 by_cases e : c = 36
 ·subst e
  go_enter Tryz.func129, Tryz.ntmps129
  go_wp2
  go_ret
  exact ⟨rfl, rfl⟩
 ·have hd : ((c : Int) == 36) = false := by simp; omega
  have HC := hide (show sgO c = c - 96 from if_neg e)
  have hs : zai c = true := za4.2 (by omega)
  have h97 : 97 ≤ c ∧ c ≤ 122 := by omega
  clear e h
  go_enter Tryz.func129, Tryz.ntmps129
  go_wp2_with (go_at_call 110; refine (zb4 _ _).mono ?_; rintro e w' ⟨rfl, rfl⟩)
  go_ret
  exact ⟨zbx (by rw [zaa HC]; omega), rfl⟩
set_option maxHeartbeats 400000 in
theorem p_signAt (k : Nat) (w : World) (hk : k < 27) :
 Calls Tryz.prog 99 #[.int .i64 k] w fun e w' => e = .returned (.int .u8 (sgn k : Nat)) ∧ w' = w := by
 by_cases e : k = 0
 ·subst e
  go_enter Tryz.func99, Tryz.ntmps99
  go_wp2
  go_ret
  exact ⟨rfl, rfl⟩
 ·have hd : ((k : Int) == 0) = false := by simp; omega
  have HC := hide (show sgn k = 96 + k from if_neg e)
  have h1 : 1 ≤ k := by omega
  clear e
  go_enter Tryz.func99, Tryz.ntmps99
  go_wp2
  go_ret
  exact ⟨zbx (by rw [zaa HC]; omega), rfl⟩
set_option maxHeartbeats 400000 in
theorem p_saddO (b off c n : Nat) (f : Nat → Value) (w : World) (hB : Blk w b n f) (hn : off + 27 ≤ n) (hc : sigB c = true) :
 Calls Tryz.prog 100 #[.pointer (some ⟨b, off, none⟩), .int .u8 c] w fun e w' => e = .returned (.tuple #[]) ∧ Fr [b] w w' ∧ w'.heap.size = w.heap.size ∧ Blk w' b n (upd f (off + sgO c) (.bool true)) := by
 have HC := hide hc
 have h := sgO_lt hc
 obtain ⟨k, hk0⟩ : ∃ k, sgO c = k := ⟨_, rfl⟩
 rw [hk0] at h
 have HK := hide hk0
 have hk := hB.cell (off + k) (by omega)
 have hz := hB.free (off + k)
 have HF := hide (show Fr [b] w (w.setCell ⟨b, off + k, none⟩ (.bool true)) ∧ (w.setCell ⟨b, off + k, none⟩ (.bool true)).heap.size = w.heap.size ∧ Blk (w.setCell ⟨b, off + k, none⟩ (.bool true)) b n (upd f (off + k) (.bool true)) from
  ⟨(Fr.refl [b] w).setCell _ (by simp) (.bool true), by simp, hB.setCell _ (.bool true)⟩)
 clear hB hc hk0
 go_enter Tryz.func100, Tryz.ntmps100
 go_wp2_with (go_at_call 129; refine (p_signIndex _ _ (zaa HC)).mono ?_; rintro e w' ⟨rfl, rfl⟩; rw [zaa HK])
 go_end0
 exact ⟨rfl, by rw [zaa HK]; exact zaa HF⟩
theorem p_sadd (b off c n : Nat) (f : Nat → Value) (w : World) (hB : Blk w b n f) (hn : off + 27 ≤ n) (hc : zai c = true) :
 Calls Tryz.prog 100 #[.pointer (some ⟨b, off, none⟩), .int .u8 c] w fun e w' => e = .returned (.tuple #[]) ∧ Fr [b] w w' ∧ w'.heap.size = w.heap.size ∧ Blk w' b n (upd f (off + (c - 96)) (.bool true)) := by
 have h := za4.1 hc
 have e : sgO c = c - 96 := if_neg (by omega)
 have := p_saddO b off c n f w hB hn (by simp [sigB, hc])
 rw [e] at this
 exact this
set_option maxHeartbeats 400000 in
theorem p_get (b off c n : Nat) (f : Nat → Value) (w : World) (hB : Blk w b n f) (hn : off + 702 ≤ n) (hc : bigB c = true) (h1 : oneB f n) :
 Calls Tryz.prog 69 #[.pointer (some ⟨b, off, none⟩), .int .u8 c] w fun e w' => e = .returned (Agg 27 fun i => f (off + (c - 65) * 27 + i)) ∧ Fr [] w w' := by
 have h := zao.1 hc
 have HB := hide hB
 have HO := hide (show oneB (fun i => f (off + (c - 65) * 27 + i)) 27 from fun i hi => h1 _ (by omega))
 clear hB h1
 go_enter Tryz.func69, Tryz.ntmps69
 go_wp2_with (first
  | (refine zab rfl 48 rfl (some 4) rfl 27 _ Tryz.zeroSign ?_; intro w1 hf1 hs1 hB1; have HF1 := hide hf1; have HB1 := hide hB1; have HG1 := hide ((zaa HB).fr0 hf1); clear hf1 hB1)
  | (refine zab rfl 48 rfl (some 5) rfl 27 _ Tryz.zeroSign ?_; intro w2 hf2 hs2 hB2; have HF2 := hide hf2; have HB2 := hide ((zaa HB1).fr0 hf2); have HG2 := hide ((zaa HG1).fr0 hf2); clear hf2 hB2)
  | (go_at_call 67; refine (zbr _ true _ (by exact hc)).mono ?_; rintro e w' ⟨rfl, rfl⟩)
  | (refine zaf rfl 48 (.tmp 15) rfl (some 16) rfl b (off + (c - 65) * 27) 27 n f _ rfl (by exact zaa HG2) Tryz.underlying48 rfl Tryz.sizeSign (by omega) ?_)
  | (refine zac rfl 48 (.tmp 4) (.tmp 16) rfl w.heap.size 0 27 27 (sgF fun _ => false) (fun i => f (off + (c - 65) * 27 + i)) rfl rfl (by exact zaa HB2) Tryz.sizeSign (by omega) (by exact zaa HO) ?_; intro w5 hf5 hs5 hB5))
 exact bodyPost_ret (zaj Tryz.results69 _ w.heap.size rfl 27 27 (fun i => f (off + (c - 65) * 27 + i)) _ (hB5.congr fun i hi => zag _ _ _ i hi) Tryz.underlying48 rfl Tryz.sizeSign (by omega)) rfl ⟨rfl, ((zaa HF1).trans0 (zaa HF2)).trans1 hf5 (Or.inr (Nat.le_refl _))⟩
def orF (f : Nat → Value) (off k : Nat) (A M : Nat → Bool) : Nat → Value := fun i => if off ≤ i ∧ i < off + k then .bool (A (i - off) || M (i - off)) else f i
theorem orF_zero (f : Nat → Value) (off : Nat) (A M : Nat → Bool) (i : Nat) : orF f off 0 A M i = f i := by
 unfold orF; rw [if_neg (by omega)]
theorem orF_succ (f : Nat → Value) (off k : Nat) (A M : Nat → Bool) (i : Nat) : upd (orF f off k A M) (off + k) (.bool (A k || M k)) i = orF f off (k + 1) A M i := by
 unfold upd orF
 by_cases h : i = off + k
 ·subst h; rw [if_pos rfl, if_pos (by omega), show off + k - off = k from by omega]
 ·rw [if_neg h]
  by_cases h2 : off ≤ i ∧ i < off + k
  ·rw [if_pos h2, if_pos (by omega)]
  ·rw [if_neg h2, if_neg (by omega)]
set_option maxHeartbeats 1000000 in
theorem p_saddAll (b off n : Nat) (f : Nat → Value) (A M : Nat → Bool) (w : World) (hB : Blk w b n f) (hn : off + 27 ≤ n) (hA : ∀ i, i < 27 → f (off + i) = .bool (A i)) :
 Calls Tryz.prog 111 #[.pointer (some ⟨b, off, none⟩), Agg 27 fun i => .bool (M i)] w fun e w' => e = .returned (.tuple #[]) ∧ Fr [b] w w' ∧ Blk w' b n (orF f off 27 A M) := by
 have HB := hide hB
 have HA := hide hA
 have lb := hB.lt
 clear hB hA
 go_enter Tryz.func111, Tryz.ntmps111
 go_wp2_with (refine zat rfl 48 (.tmp 1) rfl (some 3) rfl 27 (fun i => .bool (M i)) rfl ?_; intro w1 hf1 hs1 hB1; have HF1 := hide hf1; have HM := hide hB1; have HB1 := hide ((zaa HB).fr0 hf1); clear hf1 hB1 hs1)
 go_loopw [4] (fun i wr => ∃ k : Nat, k ≤ 27 ∧ i = .int .i64 k ∧ Hid (Fr [b] w wr ∧ Blk wr b n (orF f off k A M) ∧ Blk wr w.heap.size 27 (fun i => .bool (M i)))) (fun i _ => 27 - (intOf i).toNat)
 case atStart => exact ⟨0, by omega, rfl, Fr.weak (zaa HF1) (by simp), (zaa HB1).congr fun i _ => (orF_zero f off A M i).symm, zaa HM⟩
 case round =>
  obtain ⟨k, hk, rfl, hs⟩ := hrel
  by_cases hlt : k < 27
  ·obtain ⟨av, hav⟩ : ∃ av, A k = av := ⟨_, rfl⟩
   have d0 : wr.cell? ⟨b, off + k, none⟩ = some (.bool av) := by
    rw [(zaa hs).2.1.cell (off + k) (by omega)]; unfold orF; rw [if_neg (by omega), zaa HA k hlt, hav]
   have z0 := (zaa hs).2.1.free (off + k)
   have d1 : wr.cell? ⟨w.heap.size, k, none⟩ = some (.bool (M k)) := (zaa hs).2.2.cell k hlt
   have HN := hide (show Fr [b] w (wr.setCell ⟨b, off + k, none⟩ (.bool (av || M k))).drew ∧ Blk (wr.setCell ⟨b, off + k, none⟩ (.bool (av || M k))).drew b n (orF f off (k + 1) A M) ∧ Blk (wr.setCell ⟨b, off + k, none⟩ (.bool (av || M k))).drew w.heap.size 27 (fun i => .bool (M i)) from
    ⟨((zaa hs).1.setCell _ (by simp) _).drew, (((zaa hs).2.1.setCell (off + k) _).congr fun i _ => by rw [← hav]; exact orF_succ f off k A M i).drew, ((zaa hs).2.2.setCell_ne _ (by simp; omega) _).drew⟩)
   clear HF1 HM HB1 HB HA hs hav
   cases av
   ·go_wp2
    go_region
    all_goals
     go_wp2
     go_roundw
     case rel => exact ⟨k + 1, by omega, by go_num, HN⟩
     case measure => simp [intOf]; omega
   ·go_wp2
    go_region
    all_goals
     go_wp2
     go_roundw
     case rel => exact ⟨k + 1, by omega, by go_num, HN⟩
     case measure => simp [intOf]; omega
  ·have HN := hide (show Fr [b] w wr ∧ Blk wr b n (orF f off 27 A M) from by
    have e : k = 27 := by omega
    subst e; exact ⟨(zaa hs).1, (zaa hs).2.1⟩)
   clear hs
   go_wp2
   go_end0
   exact ⟨rfl, zaa HN⟩
end Go.Proofs.YtkglggkkbmmjkabGreatDoor
namespace Go.Proofs.YtkglggkkbmmjkabGreatDoor
open Go.RowKit
section
variable {P : Program} {ops : Array Oper} {S : World → Prop}
theorem zbq {o : Oper} {a : Act} (hw : Region.wanted o (yielded ops a.tmps) = true) (T : TypeId) (x : Operand) (ho : o.op = .load T x) (b off m n : Nat) (f : Nat → Value) (d : TypeDesc)
 (hx : a.eval x = .pointer (some ⟨b, off, none⟩)) (hS : ∀ w, S w → Blk w b n f)
 (hu : P.underlying T = some d) (hd : d.isRow = true) (hi : (P.info? T).map (·.size) = some m) (hm : off + m ≤ n) : YieldsIf P ops S o (Agg m fun i => f (off + i)) a :=
 .inl ⟨hw, fun w hw' => by
  unfold execOp
  simp only [ho, hx, Instr.loadAt, Instr.sureAddr, Sem.run_bind, Sem.run_pure, Result.andThen_ok, run_loadVar_blk T b off m n f d (hS w hw') hu hd hi hm]⟩
end
set_option maxHeartbeats 400000 in
theorem p_taddAll (b off c n : Nat) (f : Nat → Value) (A M : Nat → Bool) (w : World) (hB : Blk w b n f) (hn : off + 702 ≤ n) (hc : bigB c = true) (hA : ∀ i, i < 27 → f (off + (c - 65) * 27 + i) = .bool (A i)) :
 Calls Tryz.prog 108 #[.pointer (some ⟨b, off, none⟩), .int .u8 c, Agg 27 fun i => .bool (M i)] w fun e w' => e = .returned (.tuple #[]) ∧ Fr [b] w w' ∧ Blk w' b n (orF f (off + (c - 65) * 27) 27 A M) := by
 have h := zao.1 hc
 have hi0 : (0 : Int) ≤ (c : Int) - 65 := by omega
 have hi1 : (c : Int) - 65 < 26 := by omega
 have hwr : IntKind.u8.wrap ((c : Int) - 65) = (c : Int) - 65 := by simp [IntKind.wrap, IntKind.bits, IntKind.signed]; omega
 have h65 : (65 : Int) ≤ (c : Int) := by omega
 have htn : ((c : Int) - 65).toNat = c - 65 := by omega
 have HB := hide hB
 have HA := hide hA
 have lb := hB.lt
 clear hB hA
 go_enter Tryz.func108, Tryz.ntmps108
 go_wp2_with (first | (refine zat rfl 48 (.tmp 2) rfl (some 5) rfl 27 (fun i => .bool (M i)) rfl ?_; intro w1 hf1 hs1 hB1; have HF1 := hide hf1; have HM := hide hB1; have HB1 := hide ((zaa HB).fr0 hf1); clear hf1 hB1 hs1) | (go_at_call 67; refine (zbr _ true _ (by exact hc)).mono ?_; rintro e w' ⟨rfl, rfl⟩))
 refine wp_region_held_drew (S := fun w' => Blk w' w.heap.size 27 (fun i => .bool (M i))) (by kernel_rfl) (zaa HM).drew (fun hHeld => ?_)
 refine wpAnyH_take (i := 0) (v := .pointer (some ⟨b, off, none⟩)) rfl (by kernel_rfl) (by kernel_rfl) (by kernel_rfl) (fun _ _ _ h => h) (Or.inl ⟨by rfl, fun _ _ => rfl⟩) hHeld ?_
 refine wpAnyH_take (i := 1) (v := .int .u8 c) rfl (by kernel_rfl) (by kernel_rfl) (by kernel_rfl) (fun _ _ _ h => h) (Or.inl ⟨by rfl, fun _ _ => rfl⟩) hHeld ?_
 refine wpAnyH_take (i := 2) (v := .int .u8 ((c : Int) - 65)) rfl (by kernel_rfl) (by kernel_rfl) (by kernel_rfl) (fun _ _ _ h => h) (Or.inl ⟨by rfl, fun _ _ => by go_simp⟩) hHeld ?_
 refine wpAnyH_take (i := 3) (v := .pointer (some ⟨b, off, none⟩)) rfl (by kernel_rfl) (by kernel_rfl) (by kernel_rfl) (fun _ _ _ h => h) (Or.inl ⟨by rfl, fun _ _ => rfl⟩) hHeld ?_
 refine wpAnyH_take (i := 4) (v := .pointer (some ⟨b, off, none⟩)) rfl (by kernel_rfl) (by kernel_rfl) (by kernel_rfl) (fun _ _ _ h => h) (Or.inl ⟨by rfl, fun _ _ => by go_simp⟩) hHeld ?_
 refine wpAnyH_take (i := 5) (v := .pointer (some ⟨b, off + (c - 65) * 27, none⟩)) rfl (by kernel_rfl) (by kernel_rfl) (by kernel_rfl) (fun _ _ _ h => h) (Or.inl ⟨by rfl, fun _ _ => by go_simp⟩) hHeld ?_
 refine wpAnyH_take (i := 6) rfl (by kernel_rfl) (by kernel_rfl) (by kernel_rfl) (fun _ _ _ h => h) (zbq (by rfl) 48 (.tmp 5) rfl w.heap.size 0 27 27 (fun i => .bool (M i)) _ rfl (fun _ h => h) Tryz.underlying48 rfl Tryz.sizeSign (by omega)) hHeld ?_
 refine wpAnyH_ready (rs := [7]) (by kernel_rfl) (by simp) ?_
 refine AllReadyH.cons rfl (fun K hK => ?_) AllReadyH.nil
 rw [if_pos (by rfl)]
 go_wp2_with fail
 refine (p_saddAll b (off + (c - 65) * 27) n f A M _ (by exact (zaa HB1).drew) (by omega) (zaa HA)).mono ?_
 rintro e w3 ⟨rfl, hf3⟩
 refine hK.out _ _ (hHeld.fr1 hf3.1 (by omega)) (fun _ => ?_)
 refine wpAnyH_done (by kernel_rfl) ?_ _
 go_wp2
 go_end0
 exact ⟨rfl, (Fr.weak (zaa HF1) (by simp)).drew.trans hf3.1 (by simp), hf3.2⟩
end Go.Proofs.YtkglggkkbmmjkabGreatDoor
namespace Go.Proofs.YtkglggkkbmmjkabGreatDoor
open Go.RowKit
def beg (N : Nat → Bool) (F : Nat → Nat → Bool) : List Nat → Nat → Bool
 | [], _ => false
 | c :: l, x => if zai c then x == c else F c x || (hasB N c && beg N F l x)
theorem gF_first {v : Value} {st : Nat} {R N : Nat → Bool} {F : Nat → Nat → Bool} {e p : Int} (c i : Nat) (hc : bigB c = true) (hi : i < 27) : gF v st R N F e p (54 + (c - 65) * 27 + i) = .bool (F c (sgn i)) := by
 have h := zao.1 hc
 unfold gF
 rw [if_neg (by omega), if_neg (by omega), if_neg (by omega), if_neg (by omega), if_pos (by omega)]
 rw [show 54 + (c - 65) * 27 + i - 54 = i + 27 * (c - 65) from by omega, Nat.add_mul_mod_self_left, Nat.add_mul_div_left _ _ (by omega), Nat.mod_eq_of_lt hi, Nat.div_eq_of_lt hi]
 rw [show 65 + (0 + (c - 65)) = c from by omega]
theorem gF_null {v : Value} {st : Nat} {R N : Nat → Bool} {F : Nat → Nat → Bool} {e p : Int} (k : Nat) (hk : k < 26) : gF v st R N F e p (28 + k) = .bool (N (65 + k)) := by
 unfold gF
 rw [if_neg (by omega), if_neg (by omega), if_neg (by omega), if_pos (by omega), show 28 + k - 28 = k from by omega]
theorem GAt.null {w : World} {b q cap : Nat} {rs : List Ru} {N : Nat → Bool} {F : Nat → Nat → Bool} {e p : Int} (h : GAt w b q cap rs N F e p) : SetAt w b 28 N := fun k hk => by
 rw [h.blk.cell (28 + k) (by omega), gF_null k hk]
theorem oneB_gF (a : Option Addr) (l c st : Nat) (R N : Nat → Bool) (F : Nat → Nat → Bool) (e p : Int) : oneB (gF (.slice a l c) st R N F e p) 758 := fun i _ => by
 unfold gF
 split
 ·rfl
 split
 ·rfl
 split
 ·rfl
 split
 ·rfl
 split
 ·rfl
 split
 ·rfl
 ·rfl
theorem sgF_add (S : Nat → Bool) (c i : Nat) (hc : zai c = true) (hi : i < 27) : upd (sgF S) (0 + (c - 96)) (.bool true) i = sgF (fun x => S x || x == c) i := by
 have h := za4.1 hc
 unfold upd sgF
 by_cases e : i = 0 + (c - 96)
 ·rw [if_pos e, e, Nat.zero_add, sgn_small c hc]; simp
 ·rw [if_neg e]
  have : (sgn i == c) = false := by
   rw [beq_eq_false_iff_ne, ← sgn_small c hc]
   intro h2; have := sgn_inj h2 hi (by omega); omega
  show Value.bool (S (sgn i)) = Value.bool (S (sgn i) || sgn i == c)
  rw [this, Bool.or_false]
theorem sgF_or0 (S : Nat → Bool) (G : Nat → Bool) (i : Nat) (hi : i < 27) : orF (sgF S) 0 27 (fun i => S (sgn i)) (fun i => G (sgn (0 + i))) i = sgF (fun x => S x || G x) i := by
 unfold orF sgF; rw [if_pos (by omega)]; show Value.bool (S (sgn (i - 0)) || G (sgn (0 + (i - 0)))) = Value.bool (S (sgn i) || G (sgn i)); rw [Nat.sub_zero, Nat.zero_add]
theorem sgF_or (S M : Nat → Bool) (i : Nat) (hi : i < 27) : orF (sgF S) 0 27 (fun i => S (sgn i)) (fun i => M (sgn i)) i = sgF (fun x => S x || M x) i := by
 unfold orF sgF; rw [if_pos (by omega)]; rfl
def FS (w wr : World) (b q cap : Nat) (rs : List Ru) (N : Nat → Bool) (F : Nat → Nat → Bool) (e p : Int) (r0 r1 : Nat) (S : Nat → Bool) : Prop :=
 Fr [] w wr ∧ GAt wr b q cap rs N F e p ∧ Blk wr r0 27 (sgF fun _ => false) ∧ Blk wr r1 27 (sgF S) ∧ w.heap.size ≤ r0 ∧ r0 < r1 ∧ q < w.heap.size ∧ b < w.heap.size
theorem FS.fr {w wr wr' : World} {b q cap : Nat} {rs : List Ru} {N : Nat → Bool} {F : Nat → Nat → Bool} {e p : Int} {r0 r1 : Nat} {S : Nat → Bool} (h : FS w wr b q cap rs N F e p r0 r1 S) (k : Fr [] wr wr') : FS w wr' b q cap rs N F e p r0 r1 S := by
 obtain ⟨h1, h2, h3, h4, h5⟩ := h
 exact ⟨h1.trans0 k, h2.fr0 k, h3.fr0 k, h4.fr0 k, h5⟩
theorem FS.far {w wr wr' : World} {b q cap x : Nat} {rs : List Ru} {N : Nat → Bool} {F : Nat → Nat → Bool} {e p : Int} {r0 r1 : Nat} {S : Nat → Bool} (h : FS w wr b q cap rs N F e p r0 r1 S) (k : Fr [x] wr wr') (hx : r1 < x) : FS w wr' b q cap rs N F e p r0 r1 S := by
 obtain ⟨h1, h2, h3, h4, h5, h6, h7, h8⟩ := h
 exact ⟨h1.trans1 k (Or.inr (by omega)), h2.fr k (by simp; omega) (by simp; omega), h3.fr1 k (by omega), h4.fr1 k (by omega), h5, h6, h7, h8⟩
theorem FS.put {w wr wr' : World} {b q cap : Nat} {rs : List Ru} {N : Nat → Bool} {F : Nat → Nat → Bool} {e p : Int} {r0 r1 : Nat} {S S' : Nat → Bool} (h : FS w wr b q cap rs N F e p r0 r1 S) (k : Fr [r1] wr wr') (hB : Blk wr' r1 27 (sgF S')) : FS w wr' b q cap rs N F e p r0 r1 S' := by
 obtain ⟨h1, h2, h3, h4, h5, h6, h7, h8⟩ := h
 exact ⟨h1.trans1 k (Or.inr (by omega)), h2.fr k (by simp; omega) (by simp; omega), h3.fr1 k (by omega), hB, h5, h6, h7, h8⟩
theorem bytes_drop (s : ByteArray) (k : Nat) (h : k < s.size) : (bytes s).drop k = ch s k :: (bytes s).drop (k + 1) := by
 rw [List.drop_eq_getElem_cons (by rw [zah]; exact h), za5]
theorem p_get' (b c q cap : Nat) (rs : List Ru) (N : Nat → Bool) (F : Nat → Nat → Bool) (e p : Int) (w : World) (h : GAt w b q cap rs N F e p) (hc : bigB c = true) :
 Calls Tryz.prog 69 #[.pointer (some ⟨b, 54, none⟩), .int .u8 c] w fun e w' => e = .returned (Agg 27 fun i => .bool (F c (sgn i))) ∧ Fr [] w w' := by
 refine (p_get b 54 c 758 _ w h.blk (by omega) hc (oneB_gF _ _ _ _ _ _ _ _ _)).mono ?_
 rintro e w' ⟨rfl, hf⟩
 exact ⟨by rw [Agg.congr fun i hi => gF_first c i hc hi], hf⟩
set_option maxHeartbeats 1600000 in
theorem p_firstOf (b q cap : Nat) (rs : List Ru) (N : Nat → Bool) (F : Nat → Nat → Bool) (e p : Int) (s : ByteArray) (w : World) (h : GAt w b q cap rs N F e p) (hs : s.size ≤ 1000) (hl : ∀ i, i < s.size → letB (ch s i) = true) :
 Calls Tryz.prog 64 #[.pointer (some ⟨b, 0, none⟩), .string s] w fun e' w' => e' = .returned (Agg 27 (sgF (beg N F (bytes s)))) ∧ Fr [] w w' := by
 have H := hide h
 have HL := hide hl
 clear h hl
 go_enter Tryz.func64, Tryz.ntmps64
 go_wp2_with (first | (refine zab rfl 48 rfl (some 4) rfl 27 _ Tryz.zeroSign ?_; intro w1 hf1 hs1 hB1; have HA := hide (And.intro hf1 (And.intro hs1 hB1)); clear hf1 hs1 hB1) | (refine zab rfl 48 rfl (some 5) rfl 27 _ Tryz.zeroSign ?_; intro w2 hf2 hs2 hB2; have HB := hide (And.intro hf2 (And.intro hs2 hB2)); clear hf2 hs2 hB2))
 have HS := hide (show FS w w2 b q cap rs N F e p w.heap.size w1.heap.size (fun _ => false) from
  ⟨(zaa HA).1.trans0 (zaa HB).1, ((zaa H).fr0 (zaa HA).1).fr0 (zaa HB).1, (zaa HA).2.2.fr0 (zaa HB).1, (zaa HB).2.2, Nat.le_refl _, by have := (zaa HA).2.1; omega, (zaa H).lt, (zaa H).blk.lt⟩)
 clear HA HB H
 go_loopw [6] (fun i wr => ∃ (k : Nat) (S : Nat → Bool), k ≤ s.size ∧ i = .int .i64 k ∧ Hid (∀ x, beg N F (bytes s) x = (S x || beg N F ((bytes s).drop k) x)) ∧ Hid (FS w wr b q cap rs N F e p w.heap.size w1.heap.size S)) (fun i _ => s.size - (intOf i).toNat)
 case atStart => exact ⟨0, fun _ => false, by omega, rfl, fun x => by simp, HS⟩
 case round =>
  obtain ⟨k, S, hk, rfl, hd, hst⟩ := hrel
  by_cases hlt : k < s.size
  ·have hch := hide (za8 s k hlt)
   have HD := hide (show ∀ x, beg N F (bytes s) x = (S x || if zai (ch s k) then x == ch s k else F (ch s k) x || (hasB N (ch s k) && beg N F ((bytes s).drop (k + 1)) x)) from fun x => by rw [zaa hd x, bytes_drop s k hlt, beg])
   clear hd
   cases h1 : zai s[k].toNat
   ·have hbig : bigB s[k].toNat = true := by
     have := zaa HL k hlt
     rw [zaa hch] at this
     simpa [letB, h1] using this
    cases h2 : hasB N s[k].toNat
    ·have HE := hide (show ∀ x, beg N F (bytes s) x = (S x || F s[k].toNat x) from fun x => by rw [zaa HD x, zaa hch, h1, h2]; simp)
     clear HD
     go_wp2_with (first | (go_at_call 110; refine (zb4 _ _).mono ?_; rintro e w' ⟨rfl, rfl⟩) | (go_at_call 69; refine (p_get' b _ q cap rs N F e p _ (by exact (zaa hst).2.1) hbig).mono ?_; rintro e w3 ⟨rfl, hf3⟩; have HS3 := hide ((zaa hst).fr hf3); clear hf3) | (refine zab rfl 48 rfl (some 8) rfl 27 _ Tryz.zeroSign ?_; intro w4 hf4 hs4 hB4; have HS4 := hide ((zaa HS3).fr hf4); have HB4 := hide hB4; clear hf4 hs4 hB4) | (refine zac rfl 48 (.tmp 8) (.tmp 27) rfl w3.heap.size 0 27 27 (sgF fun _ => false) (fun i => .bool (F s[k].toNat (sgn i))) rfl rfl (by exact zaa HB4) Tryz.sizeSign (by omega) (by intro i hi; rfl) ?_; intro w5 hf5 hs5 hB5; have HS5 := hide ((zaa HS4).far hf5 (by exact (zaa HS3).2.2.2.1.lt)); have HB5 := hide (hB5.congr fun i hi => zag _ _ _ i hi); clear hf5 hs5 hB5) | (refine zaf rfl 48 (.tmp 8) rfl (some 28) rfl w3.heap.size 0 27 27 (fun i => .bool (F s[k].toNat (sgn i))) _ rfl (by exact zaa HB5) Tryz.underlying48 rfl Tryz.sizeSign (by omega) ?_) | (go_at_call 111; refine (p_saddAll w1.heap.size 0 27 (sgF S) (fun i => S (sgn i)) (fun i => F s[k].toNat (sgn (0 + i))) _ (by exact (zaa HS5).2.2.2.1) (by omega) (fun i _ => by rw [Nat.zero_add]; rfl)).mono ?_; rintro e w6 ⟨rfl, hf6⟩; have HS6 := hide ((zaa HS5).put hf6.1 (hf6.2.congr fun i hi => sgF_or0 S (F s[k].toNat) i hi)); clear hf6) | (go_at_call 103; refine (p_has_is b 28 _ N false _ (by exact (zaa HS6).2.1.null) h2).mono ?_; rintro e w7 ⟨rfl, rfl⟩) | (refine zaf rfl 48 (.tmp 5) rfl (some 36) rfl w1.heap.size 0 27 27 (sgF (fun x => S x || F s[k].toNat x)) _ rfl (by exact (zaa HS6).2.2.2.1) Tryz.underlying48 rfl Tryz.sizeSign (by omega) ?_) | (refine zac rfl 48 (.tmp 4) (.tmp 36) rfl w.heap.size 0 27 27 (sgF fun _ => false) (fun i => sgF (fun x => S x || F s[k].toNat x) (0 + i)) rfl rfl (by exact (zaa HS6).2.2.1) Tryz.sizeSign (by omega) (by intro i hi; rfl) ?_; intro w9 hf9 hs9 hB9))
     have hfin : Blk w9 w.heap.size 27 (sgF (beg N F (bytes s))) := hB9.congr fun i hi => by
      rw [zag _ _ _ _ hi, Nat.zero_add]
      unfold sgF
      rw [zaa HE]
     exact bodyPost_ret (zaj Tryz.results64 _ w.heap.size rfl 27 27 (sgF (beg N F (bytes s))) _ hfin Tryz.underlying48 rfl Tryz.sizeSign (by omega)) rfl ⟨rfl, (zaa HS6).1.trans1 hf9 (Or.inr (Nat.le_refl _))⟩
    ·have HE := hide (show ∀ x, beg N F (bytes s) x = ((S x || F s[k].toNat x) || beg N F ((bytes s).drop (k + 1)) x) from fun x => by rw [zaa HD x, zaa hch, h1, h2]; simp [Bool.or_assoc])
     clear HD
     go_wp2_with (first | (go_at_call 110; refine (zb4 _ _).mono ?_; rintro e w' ⟨rfl, rfl⟩) | (go_at_call 69; refine (p_get' b _ q cap rs N F e p _ (by exact (zaa hst).2.1) hbig).mono ?_; rintro e w3 ⟨rfl, hf3⟩; have HS3 := hide ((zaa hst).fr hf3); clear hf3) | (refine zab rfl 48 rfl (some 8) rfl 27 _ Tryz.zeroSign ?_; intro w4 hf4 hs4 hB4; have HS4 := hide ((zaa HS3).fr hf4); have HB4 := hide hB4; clear hf4 hs4 hB4) | (refine zac rfl 48 (.tmp 8) (.tmp 27) rfl w3.heap.size 0 27 27 (sgF fun _ => false) (fun i => .bool (F s[k].toNat (sgn i))) rfl rfl (by exact zaa HB4) Tryz.sizeSign (by omega) (by intro i hi; rfl) ?_; intro w5 hf5 hs5 hB5; have HS5 := hide ((zaa HS4).far hf5 (by exact (zaa HS3).2.2.2.1.lt)); have HB5 := hide (hB5.congr fun i hi => zag _ _ _ i hi); clear hf5 hs5 hB5) | (refine zaf rfl 48 (.tmp 8) rfl (some 28) rfl w3.heap.size 0 27 27 (fun i => .bool (F s[k].toNat (sgn i))) _ rfl (by exact zaa HB5) Tryz.underlying48 rfl Tryz.sizeSign (by omega) ?_) | (go_at_call 111; refine (p_saddAll w1.heap.size 0 27 (sgF S) (fun i => S (sgn i)) (fun i => F s[k].toNat (sgn (0 + i))) _ (by exact (zaa HS5).2.2.2.1) (by omega) (fun i _ => by rw [Nat.zero_add]; rfl)).mono ?_; rintro e w6 ⟨rfl, hf6⟩; have HS6 := hide ((zaa HS5).put hf6.1 (hf6.2.congr fun i hi => sgF_or0 S (F s[k].toNat) i hi)); clear hf6) | (go_at_call 103; refine (p_has_is b 28 _ N true _ (by exact (zaa HS6).2.1.null) h2).mono ?_; rintro e w7 ⟨rfl, rfl⟩))
     go_roundw
     case rel => exact ⟨k + 1, _, by omega, by go_num, HE, HS6⟩
     case measure => simp [intOf]; omega
   ·have HE := hide (show ∀ x, beg N F (bytes s) x = (S x || x == s[k].toNat) from fun x => by rw [zaa HD x, zaa hch, h1]; rfl)
    clear HD
    go_wp2_with (first | (go_at_call 110; refine (zb4 _ _).mono ?_; rintro e w' ⟨rfl, rfl⟩) | (go_at_call 100; refine (p_sadd w1.heap.size 0 _ 27 _ _ (by exact (zaa hst).2.2.2.1) (by omega) h1).mono ?_; rintro e w3 ⟨rfl, hf3⟩; have HS3 := hide ((zaa hst).put hf3.1 (hf3.2.2.congr fun i hi => sgF_add S _ i h1 hi)); clear hf3) | (refine zaf rfl 48 (.tmp 5) rfl (some 22) rfl w1.heap.size 0 27 27 (sgF (fun x => S x || x == s[k].toNat)) _ rfl (by exact (zaa HS3).2.2.2.1) Tryz.underlying48 rfl Tryz.sizeSign (by omega) ?_) | (refine zac rfl 48 (.tmp 4) (.tmp 22) rfl w.heap.size 0 27 27 (sgF fun _ => false) (fun i => sgF (fun x => S x || x == s[k].toNat) (0 + i)) rfl rfl (by exact (zaa HS3).2.2.1) Tryz.sizeSign (by omega) (by intro i hi; rfl) ?_; intro w9 hf9 hs9 hB9))
    have hfin : Blk w9 w.heap.size 27 (sgF (beg N F (bytes s))) := hB9.congr fun i hi => by
     rw [zag _ _ _ _ hi, Nat.zero_add]
     unfold sgF
     rw [zaa HE]
    exact bodyPost_ret (zaj Tryz.results64 _ w.heap.size rfl 27 27 (sgF (beg N F (bytes s))) _ hfin Tryz.underlying48 rfl Tryz.sizeSign (by omega)) rfl ⟨rfl, (zaa HS3).1.trans1 hf9 (Or.inr (Nat.le_refl _))⟩
  ·have HE := hide (show ∀ x, beg N F (bytes s) x = S x from fun x => by rw [zaa hd x, List.drop_of_length_le (by rw [zah]; omega), beg, Bool.or_false])
   clear hd
   go_wp2_with (first | (refine zaf rfl 48 (.tmp 5) rfl (some 37) rfl w1.heap.size 0 27 27 (sgF S) _ rfl (by exact (zaa hst).2.2.2.1) Tryz.underlying48 rfl Tryz.sizeSign (by omega) ?_) | (refine zac rfl 48 (.tmp 4) (.tmp 37) rfl w.heap.size 0 27 27 (sgF fun _ => false) (fun i => sgF S (0 + i)) rfl rfl (by exact (zaa hst).2.2.1) Tryz.sizeSign (by omega) (by intro i hi; rfl) ?_; intro w9 hf9 hs9 hB9))
   have hfin : Blk w9 w.heap.size 27 (sgF (beg N F (bytes s))) := hB9.congr fun i hi => by
    rw [zag _ _ _ _ hi, Nat.zero_add]
    unfold sgF
    rw [zaa HE]
   exact bodyPost_ret (zaj Tryz.results64 _ w.heap.size rfl 27 27 (sgF (beg N F (bytes s))) _ hfin Tryz.underlying48 rfl Tryz.sizeSign (by omega)) rfl ⟨rfl, (zaa hst).1.trans1 hf9 (Or.inr (Nat.le_refl _))⟩
end Go.Proofs.YtkglggkkbmmjkabGreatDoor
