import Derived.Test.YtkglggkkbmmjkaaDoorH4Names
namespace Go.Proofs.YtkglggkkbmmjkaaDoor
open Go.RowKit

/-- a set of signs, as cells -/
def sgF (S : Nat → Bool) : Nat → Value := fun k => .bool (S (sgn k))
theorem Tryd.zeroSign : (Tryd.prog.info? 48).bind (·.zero) = some (Agg 27 (sgF fun _ => false)) := by kernel_rfl
theorem Tryd.sizeSign : (Tryd.prog.info? 48).map (·.size) = some 27 := by kernel_rfl
theorem sgn_small (c : Nat) (h : smallB c = true) : sgn (c - 96) = c := by
  have := smallB_iff.1 h
  unfold sgn; rw [if_neg (by omega)]; omega
theorem sgn_inj {i j : Nat} (h : sgn i = sgn j) (hi : i < 27) (hj : j < 27) : i = j := by
  unfold sgn at h
  split at h <;> split at h <;> omega

/-- a sign's place in a set -/
def sgO (c : Nat) : Nat := if c = 36 then 0 else c - 96
def sigB (c : Nat) : Bool := c == 36 || smallB c
theorem sigB_iff {c : Nat} : sigB c = true ↔ c = 36 ∨ (97 ≤ c ∧ c ≤ 122) := by simp [sigB, smallB]
theorem sgO_lt {c : Nat} (h : sigB c = true) : sgO c < 27 := by
  have := sigB_iff.1 h
  unfold sgO; split <;> omega
theorem sgn_sgO {c : Nat} (h : sigB c = true) : sgn (sgO c) = c := by
  have := sigB_iff.1 h
  unfold sgO sgn
  by_cases e : c = 36
  · rw [if_pos e, if_pos rfl, e]
  · rw [if_neg e, if_neg (by omega)]; omega
theorem sgO_sgn {k : Nat} : sgO (sgn k) = k := by
  unfold sgO sgn
  by_cases e : k = 0
  · rw [if_pos e, if_pos rfl, e]
  · rw [if_neg e, if_neg (by omega)]; omega
theorem sigB_sgn {k : Nat} (h : k < 27) : sigB (sgn k) = true := by
  rw [sigB_iff]; unfold sgn
  split <;> omega

set_option maxHeartbeats 400000 in
theorem p_signIndex (c : Nat) (w : World) (hc : sigB c = true) :
    Calls Tryd.prog 62 #[.int .u8 c] w fun e w' => e = .returned (.int .i64 (sgO c : Nat)) ∧ w' = w := by
  have h := sigB_iff.1 hc
  by_cases e : c = 36
  · subst e
    go_enter Tryd.func62, Tryd.ntmps62
    go_wp2
    go_ret
    exact ⟨rfl, rfl⟩
  · have hd : ((c : Int) == 36) = false := by simp; omega
    have HC := hide (show sgO c = c - 96 from if_neg e)
    have hs : smallB c = true := smallB_iff.2 (by omega)
    have h97 : 97 ≤ c ∧ c ≤ 122 := by omega
    clear e h
    go_enter Tryd.func62, Tryd.ntmps62
    go_wp2_with (go_at_call 42; refine (p_isSmall _ _).mono ?_; rintro e w' ⟨rfl, rfl⟩)
    go_ret
    exact ⟨ret_int (by rw [unhide HC]; omega), rfl⟩

set_option maxHeartbeats 400000 in
theorem p_signAt (k : Nat) (w : World) (hk : k < 27) :
    Calls Tryd.prog 46 #[.int .i64 k] w fun e w' => e = .returned (.int .u8 (sgn k : Nat)) ∧ w' = w := by
  by_cases e : k = 0
  · subst e
    go_enter Tryd.func46, Tryd.ntmps46
    go_wp2
    go_ret
    exact ⟨rfl, rfl⟩
  · have hd : ((k : Int) == 0) = false := by simp; omega
    have HC := hide (show sgn k = 96 + k from if_neg e)
    have h1 : 1 ≤ k := by omega
    clear e
    go_enter Tryd.func46, Tryd.ntmps46
    go_wp2
    go_ret
    exact ⟨ret_int (by rw [unhide HC]; omega), rfl⟩

set_option maxHeartbeats 400000 in
/-- signSet.add of a sign -/
theorem p_saddO (b off c n : Nat) (f : Nat → Value) (w : World) (hB : Blk w b n f) (hn : off + 27 ≤ n) (hc : sigB c = true) :
    Calls Tryd.prog 47 #[.pointer (some ⟨b, off, none⟩), .int .u8 c] w fun e w' => e = .returned (.tuple #[]) ∧ Fr [b] w w' ∧ w'.heap.size = w.heap.size ∧ Blk w' b n (upd f (off + sgO c) (.bool true)) := by
  have HC := hide hc
  have h := sgO_lt hc
  obtain ⟨k, hk0⟩ : ∃ k, sgO c = k := ⟨_, rfl⟩
  rw [hk0] at h
  have HK := hide hk0
  have hk := hB.cell (off + k) (by omega)
  have hz := hB.free (off + k)
  have HF := hide (show Fr [b] w (w.setCell ⟨b, off + k, none⟩ (.bool true)) ∧ (w.setCell ⟨b, off + k, none⟩ (.bool true)).heap.size = w.heap.size ∧ Blk (w.setCell ⟨b, off + k, none⟩ (.bool true)) b n (upd f (off + k) (.bool true)) from
    ⟨(Fr.refl [b] w).setCell _ (by simp) (.bool true), by simp, hB.setCell _ (.bool true)⟩)
  clear hB hc hk0
  go_enter Tryd.func47, Tryd.ntmps47
  go_wp2_with (go_at_call 62; refine (p_signIndex _ _ (unhide HC)).mono ?_; rintro e w' ⟨rfl, rfl⟩; rw [unhide HK])
  go_end0
  exact ⟨rfl, by rw [unhide HK]; exact unhide HF⟩

theorem p_sadd (b off c n : Nat) (f : Nat → Value) (w : World) (hB : Blk w b n f) (hn : off + 27 ≤ n) (hc : smallB c = true) :
    Calls Tryd.prog 47 #[.pointer (some ⟨b, off, none⟩), .int .u8 c] w fun e w' => e = .returned (.tuple #[]) ∧ Fr [b] w w' ∧ w'.heap.size = w.heap.size ∧ Blk w' b n (upd f (off + (c - 96)) (.bool true)) := by
  have h := smallB_iff.1 hc
  have e : sgO c = c - 96 := if_neg (by omega)
  have := p_saddO b off c n f w hB hn (by simp [sigB, hc])
  rw [e] at this
  exact this

set_option maxHeartbeats 400000 in
/-- signTable.get -/
theorem p_get (b off c n : Nat) (f : Nat → Value) (w : World) (hB : Blk w b n f) (hn : off + 702 ≤ n) (hc : bigB c = true) (h1 : oneB f n) :
    Calls Tryd.prog 81 #[.pointer (some ⟨b, off, none⟩), .int .u8 c] w fun e w' => e = .returned (Agg 27 fun i => f (off + (c - 65) * 27 + i)) ∧ Fr [] w w' := by
  have h := bigB_iff.1 hc
  have HB := hide hB
  have HO := hide (show oneB (fun i => f (off + (c - 65) * 27 + i)) 27 from fun i hi => h1 _ (by omega))
  clear hB h1
  go_enter Tryd.func81, Tryd.ntmps81
  go_wp2_with (first
    | (refine wpList_alloc_blk rfl 48 rfl (some 4) rfl 27 _ Tryd.zeroSign ?_; intro w1 hf1 hs1 hB1; have HF1 := hide hf1; have HB1 := hide hB1; have HG1 := hide ((unhide HB).fr0 hf1); clear hf1 hB1)
    | (refine wpList_alloc_blk rfl 48 rfl (some 5) rfl 27 _ Tryd.zeroSign ?_; intro w2 hf2 hs2 hB2; have HF2 := hide hf2; have HB2 := hide ((unhide HB1).fr0 hf2); have HG2 := hide ((unhide HG1).fr0 hf2); clear hf2 hB2)
    | (go_at_call 44; refine (p_isBig_is _ true _ (by exact hc)).mono ?_; rintro e w' ⟨rfl, rfl⟩)
    | (refine wpList_load_blk rfl 48 (.tmp 15) rfl (some 16) rfl b (off + (c - 65) * 27) 27 n f _ rfl (by exact unhide HG2) Tryd.underlying48 rfl Tryd.sizeSign (by omega) ?_)
    | (refine wpList_store_blk rfl 48 (.tmp 4) (.tmp 16) rfl w.heap.size 0 27 27 (sgF fun _ => false) (fun i => f (off + (c - 65) * 27 + i)) rfl rfl (by exact unhide HB2) Tryd.sizeSign (by omega) (by exact unhide HO) ?_; intro w5 hf5 hs5 hB5))
  exact bodyPost_ret (results_cell Tryd.results81 _ w.heap.size rfl 27 27 (fun i => f (off + (c - 65) * 27 + i)) _ (hB5.congr fun i hi => lay_all _ _ _ i hi) Tryd.underlying48 rfl Tryd.sizeSign (by omega)) rfl ⟨rfl, ((unhide HF1).trans0 (unhide HF2)).trans1 hf5 (Or.inr (Nat.le_refl _))⟩

/-- the first k signs joined -/
def orF (f : Nat → Value) (off k : Nat) (A M : Nat → Bool) : Nat → Value := fun i => if off ≤ i ∧ i < off + k then .bool (A (i - off) || M (i - off)) else f i
theorem orF_zero (f : Nat → Value) (off : Nat) (A M : Nat → Bool) (i : Nat) : orF f off 0 A M i = f i := by
  unfold orF; rw [if_neg (by omega)]
theorem orF_succ (f : Nat → Value) (off k : Nat) (A M : Nat → Bool) (i : Nat) : upd (orF f off k A M) (off + k) (.bool (A k || M k)) i = orF f off (k + 1) A M i := by
  unfold upd orF
  by_cases h : i = off + k
  · subst h; rw [if_pos rfl, if_pos (by omega), show off + k - off = k from by omega]
  · rw [if_neg h]
    by_cases h2 : off ≤ i ∧ i < off + k
    · rw [if_pos h2, if_pos (by omega)]
    · rw [if_neg h2, if_neg (by omega)]

set_option maxHeartbeats 1000000 in
/-- signSet.addAll -/
theorem p_saddAll (b off n : Nat) (f : Nat → Value) (A M : Nat → Bool) (w : World) (hB : Blk w b n f) (hn : off + 27 ≤ n) (hA : ∀ i, i < 27 → f (off + i) = .bool (A i)) :
    Calls Tryd.prog 82 #[.pointer (some ⟨b, off, none⟩), Agg 27 fun i => .bool (M i)] w fun e w' => e = .returned (.tuple #[]) ∧ Fr [b] w w' ∧ Blk w' b n (orF f off 27 A M) := by
  have HB := hide hB
  have HA := hide hA
  have lb := hB.lt
  clear hB hA
  go_enter Tryd.func82, Tryd.ntmps82
  go_wp2_with (refine wpList_box_blk rfl 48 (.tmp 1) rfl (some 3) rfl 27 (fun i => .bool (M i)) rfl ?_; intro w1 hf1 hs1 hB1; have HF1 := hide hf1; have HM := hide hB1; have HB1 := hide ((unhide HB).fr0 hf1); clear hf1 hB1 hs1)
  go_loopw [4] (fun i wr => ∃ k : Nat, k ≤ 27 ∧ i = .int .i64 k ∧ Hid (Fr [b] w wr ∧ Blk wr b n (orF f off k A M) ∧ Blk wr w.heap.size 27 (fun i => .bool (M i)))) (fun i _ => 27 - (intOf i).toNat)
  case atStart => exact ⟨0, by omega, rfl, Fr.weak (unhide HF1) (by simp), (unhide HB1).congr fun i _ => (orF_zero f off A M i).symm, unhide HM⟩
  case round =>
    obtain ⟨k, hk, rfl, hs⟩ := hrel
    by_cases hlt : k < 27
    · obtain ⟨av, hav⟩ : ∃ av, A k = av := ⟨_, rfl⟩
      have d0 : wr.cell? ⟨b, off + k, none⟩ = some (.bool av) := by
        rw [(unhide hs).2.1.cell (off + k) (by omega)]; unfold orF; rw [if_neg (by omega), unhide HA k hlt, hav]
      have z0 := (unhide hs).2.1.free (off + k)
      have d1 : wr.cell? ⟨w.heap.size, k, none⟩ = some (.bool (M k)) := (unhide hs).2.2.cell k hlt
      have HN := hide (show Fr [b] w (wr.setCell ⟨b, off + k, none⟩ (.bool (av || M k))).drew ∧ Blk (wr.setCell ⟨b, off + k, none⟩ (.bool (av || M k))).drew b n (orF f off (k + 1) A M) ∧ Blk (wr.setCell ⟨b, off + k, none⟩ (.bool (av || M k))).drew w.heap.size 27 (fun i => .bool (M i)) from
        ⟨((unhide hs).1.setCell _ (by simp) _).drew, (((unhide hs).2.1.setCell (off + k) _).congr fun i _ => by rw [← hav]; exact orF_succ f off k A M i).drew, ((unhide hs).2.2.setCell_ne _ (by simp; omega) _).drew⟩)
      clear HF1 HM HB1 HB HA hs hav
      cases av
      · go_wp2
        go_region
        all_goals
          go_wp2
          go_roundw
          case rel => exact ⟨k + 1, by omega, by go_num, HN⟩
          case measure => simp [intOf]; omega
      · go_wp2
        go_region
        all_goals
          go_wp2
          go_roundw
          case rel => exact ⟨k + 1, by omega, by go_num, HN⟩
          case measure => simp [intOf]; omega
    · have HN := hide (show Fr [b] w wr ∧ Blk wr b n (orF f off 27 A M) from by
        have e : k = 27 := by omega
        subst e; exact ⟨(unhide hs).1, (unhide hs).2.1⟩)
      clear hs
      go_wp2
      go_end0
      exact ⟨rfl, unhide HN⟩
end Go.Proofs.YtkglggkkbmmjkaaDoor

namespace Go.Proofs.YtkglggkkbmmjkaaDoor
open Go.RowKit

section
variable {P : Program} {ops : Array Oper} {S : World → Prop}
/-- A whole array or struct is read, in a region that draws its order. -/
theorem yieldsIf_load_blk {o : Oper} {a : Act} (hw : Region.wanted o (yielded ops a.tmps) = true) (T : TypeId) (x : Operand) (ho : o.op = .load T x) (b off m n : Nat) (f : Nat → Value) (d : TypeDesc)
    (hx : a.eval x = .pointer (some ⟨b, off, none⟩)) (hS : ∀ w, S w → Blk w b n f)
    (hu : P.underlying T = some d) (hd : d.isRow = true) (hi : (P.info? T).map (·.size) = some m) (hm : off + m ≤ n) : YieldsIf P ops S o (Agg m fun i => f (off + i)) a :=
  .inl ⟨hw, fun w hw' => by
    unfold execOp
    simp only [ho, hx, Instr.loadAt, Instr.sureAddr, Sem.run_bind, Sem.run_pure, Result.andThen_ok, run_loadVar_blk T b off m n f d (hS w hw') hu hd hi hm]⟩
end

set_option maxHeartbeats 400000 in
/-- signTable.addAll at a big letter -/
theorem p_taddAll (b off c n : Nat) (f : Nat → Value) (A M : Nat → Bool) (w : World) (hB : Blk w b n f) (hn : off + 702 ≤ n) (hc : bigB c = true) (hA : ∀ i, i < 27 → f (off + (c - 65) * 27 + i) = .bool (A i)) :
    Calls Tryd.prog 72 #[.pointer (some ⟨b, off, none⟩), .int .u8 c, Agg 27 fun i => .bool (M i)] w fun e w' => e = .returned (.tuple #[]) ∧ Fr [b] w w' ∧ Blk w' b n (orF f (off + (c - 65) * 27) 27 A M) := by
  have h := bigB_iff.1 hc
  have hi0 : (0 : Int) ≤ (c : Int) - 65 := by omega
  have hi1 : (c : Int) - 65 < 26 := by omega
  have hwr : IntKind.u8.wrap ((c : Int) - 65) = (c : Int) - 65 := by simp [IntKind.wrap, IntKind.bits, IntKind.signed]; omega
  have h65 : (65 : Int) ≤ (c : Int) := by omega
  have htn : ((c : Int) - 65).toNat = c - 65 := by omega
  have HB := hide hB
  have HA := hide hA
  have lb := hB.lt
  clear hB hA
  go_enter Tryd.func72, Tryd.ntmps72
  go_wp2_with (first | (refine wpList_box_blk rfl 48 (.tmp 2) rfl (some 5) rfl 27 (fun i => .bool (M i)) rfl ?_; intro w1 hf1 hs1 hB1; have HF1 := hide hf1; have HM := hide hB1; have HB1 := hide ((unhide HB).fr0 hf1); clear hf1 hB1 hs1) | (go_at_call 44; refine (p_isBig_is _ true _ (by exact hc)).mono ?_; rintro e w' ⟨rfl, rfl⟩))
  refine wp_region_held_drew (S := fun w' => Blk w' w.heap.size 27 (fun i => .bool (M i))) (by kernel_rfl) (unhide HM).drew (fun hHeld => ?_)
  refine wpAnyH_take (i := 0) (v := .pointer (some ⟨b, off, none⟩)) rfl (by kernel_rfl) (by kernel_rfl) (by kernel_rfl) (fun _ _ _ h => h) (Or.inl ⟨by rfl, fun _ _ => rfl⟩) hHeld ?_
  refine wpAnyH_take (i := 1) (v := .int .u8 c) rfl (by kernel_rfl) (by kernel_rfl) (by kernel_rfl) (fun _ _ _ h => h) (Or.inl ⟨by rfl, fun _ _ => rfl⟩) hHeld ?_
  refine wpAnyH_take (i := 2) (v := .int .u8 ((c : Int) - 65)) rfl (by kernel_rfl) (by kernel_rfl) (by kernel_rfl) (fun _ _ _ h => h) (Or.inl ⟨by rfl, fun _ _ => by go_simp⟩) hHeld ?_
  refine wpAnyH_take (i := 3) (v := .pointer (some ⟨b, off, none⟩)) rfl (by kernel_rfl) (by kernel_rfl) (by kernel_rfl) (fun _ _ _ h => h) (Or.inl ⟨by rfl, fun _ _ => rfl⟩) hHeld ?_
  refine wpAnyH_take (i := 4) (v := .pointer (some ⟨b, off, none⟩)) rfl (by kernel_rfl) (by kernel_rfl) (by kernel_rfl) (fun _ _ _ h => h) (Or.inl ⟨by rfl, fun _ _ => by go_simp⟩) hHeld ?_
  refine wpAnyH_take (i := 5) (v := .pointer (some ⟨b, off + (c - 65) * 27, none⟩)) rfl (by kernel_rfl) (by kernel_rfl) (by kernel_rfl) (fun _ _ _ h => h) (Or.inl ⟨by rfl, fun _ _ => by go_simp⟩) hHeld ?_
  refine wpAnyH_take (i := 6) rfl (by kernel_rfl) (by kernel_rfl) (by kernel_rfl) (fun _ _ _ h => h) (yieldsIf_load_blk (by rfl) 48 (.tmp 5) rfl w.heap.size 0 27 27 (fun i => .bool (M i)) _ rfl (fun _ h => h) Tryd.underlying48 rfl Tryd.sizeSign (by omega)) hHeld ?_
  refine wpAnyH_ready (rs := [7]) (by kernel_rfl) (by simp) ?_
  refine AllReadyH.cons rfl (fun K hK => ?_) AllReadyH.nil
  rw [if_pos (by rfl)]
  go_wp2_with fail
  refine (p_saddAll b (off + (c - 65) * 27) n f A M _ (by exact (unhide HB1).drew) (by omega) (unhide HA)).mono ?_
  rintro e w3 ⟨rfl, hf3⟩
  refine hK.out _ _ (hHeld.fr1 hf3.1 (by omega)) (fun _ => ?_)
  refine wpAnyH_done (by kernel_rfl) ?_ _
  go_wp2
  go_end0
  exact ⟨rfl, (Fr.weak (unhide HF1) (by simp)).drew.trans hf3.1 (by simp), hf3.2⟩
end Go.Proofs.YtkglggkkbmmjkaaDoor
