import Derived.Test.YtkglggkkbmmjkaaGreatDoorSigns
namespace Go.Proofs.YtkglggkkbmmjkaaGreatDoor
open Go.RowKit

section
variable {P : Program} {ops : Array Oper} {S : World → Prop}
/-- A whole array or struct is read, in a region that draws its order. -/
theorem yieldsIf_load_blk {o : Oper} {a : Act} (hw : Region.wanted o (yielded ops a.tmps) = true) (T : TypeId) (x : Operand) (ho : o.op = .load T x) (b off m n : Nat) (f : Nat → Value) (d : TypeDesc)
    (hx : a.eval x = .pointer (some ⟨b, off, none⟩)) (hS : ∀ w, S w → Blk w b n f)
    (hu : P.underlying T = some d) (hd : d.isRow = true) (hi : (P.info? T).map (·.size) = some m) (hm : off + m ≤ n) : YieldsIf P ops S o (Agg m fun i => f (off + i)) a :=
  .inl ⟨hw, fun w hw' => by
    unfold execOp
    simp only [ho, hx, Instr.loadAt, Instr.sureAddr, Sem.run_bind, Sem.run_pure, Result.andThen_ok, run_loadVar_blk T b off m n f d (hS w hw') hu hd hi hm]⟩
end

set_option maxHeartbeats 400000 in
/-- signTable.addAll at a big letter -/
theorem p_taddAll (b off c n : Nat) (f : Nat → Value) (A M : Nat → Bool) (w : World) (hB : Blk w b n f) (hn : off + 702 ≤ n) (hc : bigB c = true) (hA : ∀ i, i < 27 → f (off + (c - 65) * 27 + i) = .bool (A i)) :
    Calls Tryz.prog 115 #[.pointer (some ⟨b, off, none⟩), .int .u8 c, Agg 27 fun i => .bool (M i)] w fun e w' => e = .returned (.tuple #[]) ∧ Fr [b] w w' ∧ Blk w' b n (orF f (off + (c - 65) * 27) 27 A M) := by
  have h := bigB_iff.1 hc
  have hi0 : (0 : Int) ≤ (c : Int) - 65 := by omega
  have hi1 : (c : Int) - 65 < 26 := by omega
  have hwr : IntKind.u8.wrap ((c : Int) - 65) = (c : Int) - 65 := by simp [IntKind.wrap, IntKind.bits, IntKind.signed]; omega
  have h65 : (65 : Int) ≤ (c : Int) := by omega
  have htn : ((c : Int) - 65).toNat = c - 65 := by omega
  have HB := hide hB
  have HA := hide hA
  have lb := hB.lt
  clear hB hA
  go_enter Tryz.func115, Tryz.ntmps115
  go_wp2_with (first | (refine wpList_box_blk rfl 48 (.tmp 2) rfl (some 5) rfl 27 (fun i => .bool (M i)) rfl ?_; intro w1 hf1 hs1 hB1; have HF1 := hide hf1; have HM := hide hB1; have HB1 := hide ((unhide HB).fr0 hf1); clear hf1 hB1 hs1) | (go_at_call 74; refine (p_isBig_is _ true _ (by exact hc)).mono ?_; rintro e w' ⟨rfl, rfl⟩))
  refine wp_region_held_drew (S := fun w' => Blk w' w.heap.size 27 (fun i => .bool (M i))) (by kernel_rfl) (unhide HM).drew (fun hHeld => ?_)
  refine wpAnyH_take (i := 0) (v := .pointer (some ⟨b, off, none⟩)) rfl (by kernel_rfl) (by kernel_rfl) (by kernel_rfl) (fun _ _ _ h => h) (Or.inl ⟨by rfl, fun _ _ => rfl⟩) hHeld ?_
  refine wpAnyH_take (i := 1) (v := .int .u8 c) rfl (by kernel_rfl) (by kernel_rfl) (by kernel_rfl) (fun _ _ _ h => h) (Or.inl ⟨by rfl, fun _ _ => rfl⟩) hHeld ?_
  refine wpAnyH_take (i := 2) (v := .int .u8 ((c : Int) - 65)) rfl (by kernel_rfl) (by kernel_rfl) (by kernel_rfl) (fun _ _ _ h => h) (Or.inl ⟨by rfl, fun _ _ => by go_simp⟩) hHeld ?_
  refine wpAnyH_take (i := 3) (v := .pointer (some ⟨b, off, none⟩)) rfl (by kernel_rfl) (by kernel_rfl) (by kernel_rfl) (fun _ _ _ h => h) (Or.inl ⟨by rfl, fun _ _ => rfl⟩) hHeld ?_
  refine wpAnyH_take (i := 4) (v := .pointer (some ⟨b, off, none⟩)) rfl (by kernel_rfl) (by kernel_rfl) (by kernel_rfl) (fun _ _ _ h => h) (Or.inl ⟨by rfl, fun _ _ => by go_simp⟩) hHeld ?_
  refine wpAnyH_take (i := 5) (v := .pointer (some ⟨b, off + (c - 65) * 27, none⟩)) rfl (by kernel_rfl) (by kernel_rfl) (by kernel_rfl) (fun _ _ _ h => h) (Or.inl ⟨by rfl, fun _ _ => by go_simp⟩) hHeld ?_
  refine wpAnyH_take (i := 6) rfl (by kernel_rfl) (by kernel_rfl) (by kernel_rfl) (fun _ _ _ h => h) (yieldsIf_load_blk (by rfl) 48 (.tmp 5) rfl w.heap.size 0 27 27 (fun i => .bool (M i)) _ rfl (fun _ h => h) Tryz.underlying48 rfl Tryz.sizeSign (by omega)) hHeld ?_
  refine wpAnyH_ready (rs := [7]) (by kernel_rfl) (by simp) ?_
  refine AllReadyH.cons rfl (fun K hK => ?_) AllReadyH.nil
  rw [if_pos (by rfl)]
  go_wp2_with fail
  refine (p_saddAll b (off + (c - 65) * 27) n f A M _ (by exact (unhide HB1).drew) (by omega) (unhide HA)).mono ?_
  rintro e w3 ⟨rfl, hf3⟩
  refine hK.out _ _ (hHeld.fr1 hf3.1 (by omega)) (fun _ => ?_)
  refine wpAnyH_done (by kernel_rfl) ?_ _
  go_wp2
  go_end0
  exact ⟨rfl, (Fr.weak (unhide HF1) (by simp)).drew.trans hf3.1 (by simp), hf3.2⟩
end Go.Proofs.YtkglggkkbmmjkaaGreatDoor
