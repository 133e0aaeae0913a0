import Derived.Test.YtkglggkkbmmjkaaGreatDoorFollow2
namespace Go.Proofs.YtkglggkkbmmjkaaGreatDoor
open Go.RowKit

/-- the state of followTable -/
def FoS (w wr : World) (b q cap : Nat) (rs : List Ru) (N : Nat → Bool) (F : Nat → Nat → Bool) (e p : Int) (r0 tb : Nat) (G : Nat → Nat → Bool) : Prop :=
  Fr [] w wr ∧ GAt wr b q cap rs N F e p ∧ Blk wr r0 702 (ftF fun _ _ => false) ∧ Blk wr tb 702 (ftF G) ∧ w.heap.size ≤ r0 ∧ r0 < tb ∧ b < w.heap.size ∧ q < w.heap.size
theorem FoS.fr {w wr wr' : World} {b q cap : Nat} {rs : List Ru} {N : Nat → Bool} {F : Nat → Nat → Bool} {e p : Int} {r0 tb : Nat} {G : Nat → Nat → Bool} (h : FoS w wr b q cap rs N F e p r0 tb G) (k : Fr [] wr wr') : FoS w wr' b q cap rs N F e p r0 tb G := by
  obtain ⟨h1, h2, h3, h4, h5⟩ := h
  exact ⟨h1.trans0 k, h2.fr0 k, h3.fr0 k, h4.fr0 k, h5⟩
theorem FoS.far {w wr wr' : World} {b q cap x : Nat} {rs : List Ru} {N : Nat → Bool} {F : Nat → Nat → Bool} {e p : Int} {r0 tb : Nat} {G : Nat → Nat → Bool} (h : FoS w wr b q cap rs N F e p r0 tb G) (k : Fr [x] wr wr') (hx : tb < x) : FoS w wr' b q cap rs N F e p r0 tb G := by
  obtain ⟨h1, h2, h3, h4, h5, h6, h7, h8⟩ := h
  exact ⟨h1.trans1 k (Or.inr (by omega)), h2.fr k (by simp; omega) (by simp; omega), h3.fr1 k (by omega), h4.fr1 k (by omega), h5, h6, h7, h8⟩
theorem FoS.put {w wr wr' : World} {b q cap : Nat} {rs : List Ru} {N : Nat → Bool} {F : Nat → Nat → Bool} {e p : Int} {r0 tb : Nat} {G G' : Nat → Nat → Bool} (h : FoS w wr b q cap rs N F e p r0 tb G) (k : Fr [tb] wr wr') (hB : Blk wr' tb 702 (ftF G')) : FoS w wr' b q cap rs N F e p r0 tb G' := by
  obtain ⟨h1, h2, h3, h4, h5, h6, h7, h8⟩ := h
  exact ⟨h1.trans1 k (Or.inr (by omega)), h2.fr k (by simp; omega) (by simp; omega), h3.fr1 k (by omega), hB, h5, h6, h7, h8⟩
theorem fo0_join (st : Nat) : joinF (fun _ _ => false) st (fun x => x == 36) = fo0 st := by
  funext a x; simp [joinF, fo0]

set_option maxRecDepth 100000 in
set_option maxHeartbeats 3200000 in
theorem p_followTable (b q cap : Nat) (rs : List Ru) (N : Nat → Bool) (F : Nat → Nat → Bool) (e p : Int) (w : World) (h : GAt w b q cap rs N F e p) (hok : RuOk rs) (hst : bigB (stOf rs) = true) :
    Calls Tryz.prog 75 #[.pointer (some ⟨b, 0, none⟩)] w fun e' w' => e' = .returned (Agg 702 (ftF (iterF (jRound (foSteps N F rs)) rs.length (fo0 (stOf rs))))) ∧ Fr [] w w' := by
  have hlen := h.len
  have H := hide h
  have HOk := hide hok
  have HSt := hide hst
  have lb0 := h.blk.lt
  clear h hok hst
  go_enter Tryz.func75, Tryz.ntmps75
  go_wp2_with (first
    | (refine wpList_alloc_blk rfl 51 rfl (some 2) rfl 702 _ Tryz.zeroTab ?_; intro w1 hf1 hs1 hB1; have HA := hide (And.intro hf1 (And.intro hs1 hB1)); clear hf1 hs1 hB1)
    | (refine wpList_alloc_blk rfl 51 rfl (some 3) rfl 702 _ Tryz.zeroTab ?_; intro w2 hf2 hs2 hB2; have HB := hide (And.intro hf2 (And.intro hs2 hB2)); clear hf2 hs2 hB2)
    | (refine wpList_alloc_blk rfl 48 rfl (some 4) rfl 27 _ Tryz.zeroSign ?_; intro w3 hf3 hs3 hB3; have HC := hide (And.intro hf3 (And.intro hs3 hB3)); clear hf3 hs3 hB3)
    | (go_at_call 107; refine (p_sadd_end w2.heap.size 27 (sgF fun _ => false) _ (by exact (unhide HC).2.2) (by omega)).mono ?_; rintro e' w4 ⟨rfl, hf4, hB4⟩; have HD := hide (And.intro hf4 (hB4.congr (g := sgF (fun x => x == 36)) fun i _ => sgF_end i)); clear hf4 hB4))
  have HS := hide (show FoS w w4 b q cap rs N F e p w.heap.size w1.heap.size (fun _ _ => false) from
    FoS.far (wr := w3) ⟨((unhide HA).1.trans0 (unhide HB).1).trans0 (unhide HC).1, (((unhide H).fr0 (unhide HA).1).fr0 (unhide HB).1).fr0 (unhide HC).1, ((unhide HA).2.2.fr0 (unhide HB).1).fr0 (unhide HC).1, (unhide HB).2.2.fr0 (unhide HC).1, Nat.le_refl _, by have := (unhide HA).2.1; omega, (unhide H).blk.lt, (unhide H).lt⟩ (unhide HD).1 (by have := (unhide HB).2.1; omega))
  have lb1 : w.heap.size < w1.heap.size := by have := (unhide HA).2.1; omega
  have lb2 : w1.heap.size < w2.heap.size := by have := (unhide HB).2.1; omega
  have HE := hide (unhide HD).2
  clear HA HB HC HD H
  refine wp_region_held_drew (S := fun w' => Blk w' b 758 (gF (.slice (some ⟨q, 0, none⟩) rs.length cap) (stOf rs) (rset rs) N F e p) ∧ Blk w' w2.heap.size 27 (sgF (fun x => x == 36))) (by kernel_rfl) ⟨(unhide HS).2.1.blk.drew, (unhide HE).drew⟩ (fun hHeld => ?_)
  refine wpAnyH_take (i := 0) (v := .pointer (some ⟨b, 0, none⟩)) rfl (by kernel_rfl) (by kernel_rfl) (by kernel_rfl) (fun _ _ _ h => h) (Or.inl ⟨by rfl, fun _ _ => rfl⟩) hHeld ?_
  refine wpAnyH_take (i := 1) (v := .pointer (some ⟨b, 0, none⟩)) rfl (by kernel_rfl) (by kernel_rfl) (by kernel_rfl) (fun _ _ _ h => h) (Or.inl ⟨by rfl, fun _ _ => rfl⟩) hHeld ?_
  refine wpAnyH_take (i := 2) (v := .pointer (some ⟨b, 1, none⟩)) rfl (by kernel_rfl) (by kernel_rfl) (by kernel_rfl) (fun _ _ _ h => h) (Or.inl ⟨by rfl, fun _ _ => by go_simp⟩) hHeld ?_
  refine wpAnyH_take (i := 3) (v := .int .u8 (stOf rs)) rfl (by kernel_rfl) (by kernel_rfl) (by kernel_rfl) (fun _ _ _ h => h) (Or.inl ⟨by rfl, fun w' hw => by (have hc : w'.cell? ⟨b, 1, none⟩ = some (.int .u8 (stOf rs)) := hw.1.cell 1 (by omega)); go_simp⟩) hHeld ?_
  refine wpAnyH_take (i := 4) rfl (by kernel_rfl) (by kernel_rfl) (by kernel_rfl) (fun _ _ _ h => h) (yieldsIf_load_blk (by rfl) 48 (.tmp 4) rfl w2.heap.size 0 27 27 (sgF (fun x => x == 36)) _ rfl (fun _ h => h.2) Tryz.underlying48 rfl Tryz.sizeSign (by omega)) hHeld ?_
  refine wpAnyH_ready (rs := [5]) (by kernel_rfl) (by simp) ?_
  refine AllReadyH.cons rfl (fun K hK => ?_) AllReadyH.nil
  rw [if_pos (by rfl)]
  go_wp2_with fail
  refine (p_taddT w1.heap.size (stOf rs) (fun _ _ => false) _ _ (by exact (unhide HS).2.2.2.1.drew) (unhide HSt)).mono ?_
  rintro e' w5 ⟨rfl, hf5, hB5⟩
  refine hK.out _ _ ⟨hHeld.1.fr1 hf5 (by omega), hHeld.2.fr1 hf5 (by omega)⟩ (fun _ => ?_)
  refine wpAnyH_done (by kernel_rfl) ?_ _
  have HT := hide (show FoS w w5 b q cap rs N F e p w.heap.size w1.heap.size (fo0 (stOf rs)) from by
    rw [fo0_join] at hB5
    exact ((unhide HS).fr (Fr.refl [] _).drew).put hf5 hB5)
  clear hf5 hB5 hK hHeld HS HE
  go_wp2
  go_loopw [5] (fun r wr => ∃ k : Nat, k ≤ rs.length ∧ r = .int .i64 k ∧ Hid (FoS w wr b q cap rs N F e p w.heap.size w1.heap.size (iterF (jRound (foSteps N F rs)) k (fo0 (stOf rs))))) (fun r _ => rs.length - (intOf r).toNat)
  case atStart => exact ⟨0, by omega, rfl, HT⟩
  case round =>
    obtain ⟨k, hk, rfl, hs⟩ := hrel
    have c0 := (unhide hs).2.1.c0
    by_cases hlt : k < rs.length
    · go_wp2
      clear c0
      go_loopw [6] (fun i wr2 => ∃ j : Nat, j ≤ rs.length ∧ i = .int .i64 j ∧ Hid (FoS w wr2 b q cap rs N F e p w.heap.size w1.heap.size (jRound (foSteps N F (rs.take j)) (iterF (jRound (foSteps N F rs)) k (fo0 (stOf rs)))))) (fun i _ => rs.length - (intOf i).toNat)
      case atStart => exact ⟨0, by omega, rfl, hs⟩
      case round =>
        obtain ⟨j, hj, rfl, hs2⟩ := hrel
        have c0 := (unhide hs2).2.1.c0
        by_cases hjt : j < rs.length
        · obtain ⟨a0, a1, a2⟩ := (unhide hs2).2.1.ru j hjt
          have HSm := hide ((unhide hs2).2.1.small j hjt).1
          have HU := hide (foSteps_succ N F rs j hjt (iterF (jRound (foSteps N F rs)) k (fo0 (stOf rs))))
          have HNe := hide (show b ≠ w1.heap.size ∧ q ≠ w1.heap.size from by
            obtain ⟨_, _, _, _, x5, x6, x7, x8⟩ := unhide hs2
            omega)
          go_wp2_with (go_at_call 119; refine (p_spreadFollow b q cap rs N F e p w1.heap.size rs[j] _ _ (by exact (unhide hs2).2.1) (by exact (unhide hs2).2.2.2.1) (unhide HNe).1 (unhide HNe).2 (unhide HOk j hjt).1 (unhide HSm) (unhide HOk j hjt).2).mono ?_; rintro e' w6 ⟨rfl, hf6, hB6⟩; have HY := hide (show FoS w w6 b q cap rs N F e p w.heap.size w1.heap.size (jRound (foSteps N F (rs.take (j + 1))) (iterF (jRound (foSteps N F rs)) k (fo0 (stOf rs)))) from by rw [unhide HU]; exact (unhide hs2).put hf6 hB6); clear hf6 hB6)
          go_roundw
          case rel => exact ⟨j + 1, by omega, by go_num, HY⟩
          case measure => simp [intOf]; omega
        · have HY := hide (show FoS w wr b q cap rs N F e p w.heap.size w1.heap.size (iterF (jRound (foSteps N F rs)) (k + 1) (fo0 (stOf rs))) from by
            have := unhide hs2
            rw [foSteps_all _ _ _ _ (by omega)] at this; exact this)
          clear hs2
          go_wp2
          go_roundw
          case rel => exact ⟨k + 1, by omega, by go_num, HY⟩
          case measure => simp [intOf]; omega
    · have HK := hide (show k = rs.length by omega)
      generalize hG : iterF (jRound (foSteps N F rs)) k (fo0 (stOf rs)) = G at *
      have HG := hide hG
      clear hG
      go_wp2_with (first | (refine wpList_load_blk rfl 51 (.tmp 3) rfl (some 41) rfl w1.heap.size 0 702 702 (ftF G) _ rfl (by exact (unhide hs).2.2.2.1) Tryz.underlying51 rfl Tryz.sizeTab (by omega) ?_) | (refine wpList_store_blk rfl 51 (.tmp 2) (.tmp 41) rfl w.heap.size 0 702 702 (ftF fun _ _ => false) (fun i => ftF G (0 + i)) rfl rfl (by exact (unhide hs).2.2.1) Tryz.sizeTab (by omega) (by intro i hi; rfl) ?_; intro w7 hf7 hs7 hB7))
      exact bodyPost_ret (results_cell Tryz.results75 _ w.heap.size rfl 702 702 (ftF G) _ (hB7.congr fun i hi => by rw [lay_all _ _ _ i hi, Nat.zero_add]) Tryz.underlying51 rfl Tryz.sizeTab (by omega)) rfl ⟨by rw [← unhide HK, unhide HG], (unhide hs).1.trans1 hf7 (Or.inr (Nat.le_refl _))⟩
end Go.Proofs.YtkglggkkbmmjkaaGreatDoor
