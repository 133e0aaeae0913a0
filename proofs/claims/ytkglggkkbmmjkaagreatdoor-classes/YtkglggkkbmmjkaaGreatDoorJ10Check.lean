import Derived.Test.YtkglggkkbmmjkaaGreatDoorJ9Scr
import Derived.ProofKit
import Derived.SizedLaws
import Derived.Deep.Slices
import Derived.Lib.SmallJoins
namespace Go.Proofs.YtkglggkkbmmjkaaGreatDoor
open Go.ChangeShapes Go.WideShapes Go.ChangeAt Go.RowKit Go.Deep

theorem Tryz.own : ownKnob Tryz.prog.godebug = none := by kernel_rfl
theorem Tryz.laidOut : laidOutB Tryz.prog = true := by kernel_rfl
theorem Tryz.cellsOp : Tryz.prog.cellsOf 26 = 4 := by kernel_rfl
theorem Tryz.bytesOp : Tryz.prog.bytesOf 26 = 48 := by kernel_rfl
theorem Tryz.cellsInt : Tryz.prog.cellsOf 3 = 1 := by kernel_rfl
theorem Tryz.cellsStr : Tryz.prog.cellsOf 9 = 1 := by kernel_rfl

/-- one step's cells -/
theorem open_op {H : Type} {enc : TypeId × Value → H} {W : World} {base : Nat} {spare : Nat → Bool} {held : Bool} {n : Nat} {a : Addr} {cs : List Value} {x : DataW H × List MemPlace}
    (hc : W.cells? base a 4 = some cs) (h : DataW.trod enc Tryz.prog W base spare held n 26 cs = some x) :
    a.spot = none ∧ a.block < W.heap.size ∧ ∃ (k n : Int) (g s : ByteArray), g.size ≤ 9223372036854775807 ∧ s.size ≤ 9223372036854775807 ∧
      W.cell? ⟨a.block, a.off, none⟩ = some (.int .i64 k) ∧ W.cell? ⟨a.block, a.off + 1, none⟩ = some (.int .i64 n) ∧ W.cell? ⟨a.block, a.off + 2, none⟩ = some (.string g) ∧ W.cell? ⟨a.block, a.off + 3, none⟩ = some (.string s) := by
  obtain ⟨_, hl, hcell⟩ := World.cells?_some hc
  obtain ⟨y0, y1, y2, y3, m, _, _, h0, h1, h2, h3⟩ := Joins.trod_struct4 Tryz.underlying26 h
  simp only [Tryz.cellsInt, Tryz.cellsStr] at h0 h1 h2 h3
  obtain ⟨k, e0, _, _⟩ := DataW.trod_int Tryz.underlying3 h0
  obtain ⟨n, e1, _, _⟩ := DataW.trod_int Tryz.underlying3 h1
  obtain ⟨g, e2, _, hg⟩ := DataW.trod_string Tryz.underlying9 h2
  obtain ⟨s, e3, _, hs⟩ := DataW.trod_string Tryz.underlying9 h3
  match cs, hl with
  | [c0, c1, c2, c3], _ =>
    simp at e0 e1 e2 e3
    subst e0 e1 e2 e3
    have a0 := hcell 0 (by omega)
    have a1 := hcell 1 (by omega)
    have a2 := hcell 2 (by omega)
    have a3 := hcell 3 (by omega)
    simp at a0 a1 a2 a3
    have hsp : a.spot = none := by
      have := World.cell?_spot a0
      simpa [Addr.add] using this
    obtain ⟨ab, ao, asp⟩ := a
    simp only at hsp
    subst hsp
    simp only [Addr.add_mid, Nat.add_zero] at a0 a1 a2 a3
    exact ⟨rfl, World.cells?_block hc (by omega), k, n, g, s, by simpa [maxLen] using hg, by simpa [maxLen] using hs, a0, a1, a2, a3⟩

set_option maxRecDepth 100000 in
/-- a script that came in -/
theorem open_script {H : Type} {enc : TypeId × Value → H} {W : World} {fuel : Nat} {a0 : Option Addr} {len cap : Nat} {d : DataW H} {p : List MemPlace}
    (hf : DataW.trod enc Tryz.prog W 0 (fun _ => true) true fuel 22 [.slice a0 len cap] = some (d, p))
    (hsz : (DataW.weightsEach Tryz.prog [22] [d]).all (· ≤ reachBytes) = true) : ScriptOk W a0 len := by
  rcases open_slice Tryz.underlying22 hf with ⟨hcs, hx⟩ | ⟨a, len', cap', m, n, D, Pl, hcs, _, hl, hm, hmm, hx, hel⟩
  · simp at hcs
    obtain ⟨rfl, rfl, rfl⟩ := hcs
    exact ⟨by omega, fun i hi => by omega⟩
  · simp only [List.cons.injEq, Value.slice.injEq, and_true] at hcs
    obtain ⟨rfl, rfl, rfl⟩ := hcs
    simp only [if_true] at hmm
    subst hmm
    simp only [Prod.mk.injEq] at hx
    obtain ⟨rfl, rfl⟩ := hx
    have hsize := sized_slice hsz (j := 0) (t := 22) (e := 26) rfl rfl Tryz.underlying22
    rw [Tryz.bytesOp] at hsize
    simp only [List.length_map, List.length_range, reachBytes] at hsize
    refine ⟨by omega, fun i hi => ?_⟩
    obtain ⟨cs0, hc0, ht0⟩ := hel 0 (by omega)
    rw [Tryz.cellsOp] at hc0
    have hsp' := (open_op hc0 ht0).1
    obtain ⟨cs', hc, ht⟩ := hel i (by omega)
    rw [Tryz.cellsOp] at hc
    obtain ⟨_, hb, k, n, g, s, hg, hs, c0, c1, c2, c3⟩ := open_op hc ht
    obtain ⟨ab, ao, asp⟩ := a
    have hsp' : asp = none := by simpa [Addr.add] using hsp'
    subst hsp'
    rw [Addr.add_mid] at hb c0 c1 c2 c3
    exact ⟨ab, ao, rfl, hb, k, n, g, s, hg, hs, c0, c1, c2, c3⟩

theorem Fr.belowAll {w w' : World} (h : Fr [] w w') : Below w.heap.size w w' := h.below

end Go.Proofs.YtkglggkkbmmjkaaGreatDoor

namespace Go.Proofs.YtkglggkkbmmjkaaGreatDoor
open Go.RowKit

set_option maxHeartbeats 1000000 in
theorem p_Check (t : ByteArray) (w : World) (hm : t.size ≤ 9223372036854775807) :
    Calls Tryz.prog 13 #[.string t] w fun e w' => e = .returned (.tuple #[.int .i64 (gErr t).1, .int .i64 (gErr t).2]) ∧ Fr [] w w' := by
  go_enter Tryz.func13, Tryz.ntmps13
  go_wp2_with (first
    | (go_at_call 23; refine (p_readGrammar t _ hm).mono ?_; rintro e w1 ⟨f, rfl, hg⟩; have HG := hide hg; clear hg)
    | (refine wpList_alloc_blk rfl 53 rfl (some 4) rfl 758 _ Tryz.zeroGram ?_; intro w2 hf2 hs2 hB2; have HF2 := hide hf2; have HB2 := hide hB2; clear hf2 hs2 hB2)
    | (refine wpList_store_blk rfl 53 (.tmp 4) (.tmp 6) rfl w1.heap.size 0 758 758 (gF (.slice none 0 0) 0 (fun _ => false) (fun _ => false) (fun _ _ => false) 0 0) f rfl rfl (by exact unhide HB2) Tryz.sizeGram (by omega) (by exact (unhide HG).2.1) ?_; intro w3 hf3 hs3 hB3; have HF3 := hide hf3; have HB3 := hide (hB3.congr fun i hi => lay_all _ _ _ i hi); clear hf3 hs3 hB3))
  have c6 := ((unhide HB3).cell 756 (by omega)).trans (congrArg some (unhide HG).2.2.1)
  have c7 := ((unhide HB3).cell 757 (by omega)).trans (congrArg some (unhide HG).2.2.2.1)
  go_quiet (fail)
  go_wp2
  go_ret2
  exact ⟨rfl, (((unhide HG).1.trans0 (unhide HF2)).trans1 (unhide HF3) (Or.inr (unhide HG).1.size)).trans0 (fr_drewN _ _)⟩

end Go.Proofs.YtkglggkkbmmjkaaGreatDoor
