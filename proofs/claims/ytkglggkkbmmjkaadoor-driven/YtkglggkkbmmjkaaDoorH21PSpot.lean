import Derived.Test.YtkglggkkbmmjkaaDoorH20PLett
import Derived.Test.YtkglggkkbmmjkaaDoorH10RPut
namespace Go.Proofs.YtkglggkkbmmjkaaDoor
open Go.RowKit

/-- a plan of these rules (rule 0 first) -/
def planOf (L : List Ru) (N : Nat → Bool) (F : Nat → Nat → Bool) : Pl where
  left := fun n => (L.getD n ⟨0, ⟨#[]⟩, 0⟩).L
  lt := fun n t => ch (L.getD n ⟨0, ⟨#[]⟩, 0⟩).R t
  en := fun n t => decide (n < L.length) && t == (L.getD n ⟨0, ⟨#[]⟩, 0⟩).R.size
  bg := fun n t k => decide (t < (L.getD n ⟨0, ⟨#[]⟩, 0⟩).R.size) && beg N F ((bytes (L.getD n ⟨0, ⟨#[]⟩, 0⟩).R).drop (t + 1)) (sgn k)
  nl := fun n t => decide (t < (L.getD n ⟨0, ⟨#[]⟩, 0⟩).R.size) && ((bytes (L.getD n ⟨0, ⟨#[]⟩, 0⟩).R).drop (t + 1)).all (vanB N false)
/-- a spot, by what is behind it -/
def sptF (c : Nat) (s : ByteArray) (N : Nat → Bool) (F : Nat → Nat → Bool) : Nat → Value := fun j => if j = 0 then .int .u8 (c : Nat) else if j = 1 then .bool false else if j < 29 then .bool (beg N F (bytes s) (sgn (j - 2))) else .bool ((bytes s).all (vanB N false))
theorem oneB_sptF (c : Nat) (s : ByteArray) (N : Nat → Bool) (F : Nat → Nat → Bool) (m : Nat) : oneB (sptF c s N F) m := fun i _ => by
  unfold sptF; split
  · rfl
  · split
    · rfl
    · split <;> rfl
def zSpot : Nat → Value := spF ⟨fun _ => 0, fun _ _ => 0, fun _ _ => false, fun _ _ _ => false, fun _ _ => false⟩ 0 0

theorem spt_cells (c : Nat) (s : ByteArray) (N : Nat → Bool) (F : Nat → Nat → Bool) (i : Nat) (hi : i < 30) :
    upd (lay (upd zSpot 0 (.int .u8 c)) 2 27 (sgF (beg N F (bytes s)))) 29 (.bool ((bytes s).all (vanB N false))) (0 + i) = sptF c s N F i := by
  rw [Nat.zero_add]
  unfold upd lay sptF
  by_cases h29 : i = 29
  · subst h29; rfl
  · rw [if_neg h29]
    by_cases h2 : 2 ≤ i ∧ i < 2 + 27
    · rw [if_pos h2, if_neg (by omega), if_neg (by omega), if_pos (by omega)]; rfl
    · rw [if_neg h2]
      by_cases h0 : i = 0
      · subst h0; rfl
      · obtain rfl : i = 1 := by omega
        rfl

set_option maxRecDepth 100000 in
set_option maxHeartbeats 1600000 in
theorem p_spotOf (b q cap : Nat) (rs : List Ru) (N : Nat → Bool) (F : Nat → Nat → Bool) (e p : Int) (c : Nat) (s : ByteArray) (w : World) (h : GAt w b q cap rs N F e p) (hs : s.size ≤ 1000) (hl : ∀ i, i < s.size → letB (ch s i) = true) :
    Calls Tryd.prog 73 #[.pointer (some ⟨b, 0, none⟩), .int .u8 c, .string s] w fun e' w' => e' = .returned (Agg 30 (sptF c s N F)) ∧ Fr [] w w' := by
  have H := hide h
  have lb := h.blk.lt
  have lq := h.lt
  clear h
  go_enter Tryd.func73, Tryd.ntmps73
  go_wp2_with (first
    | (refine wpList_alloc_blk rfl 50 rfl (some 6) rfl 30 _ Tryd.zeroSpot ?_; intro w1 hf1 hs1 hB1; have HR := hide hB1; have HF1 := hide hf1; clear hf1 hB1)
    | (refine wpList_alloc_blk rfl 50 rfl (some 7) rfl 30 _ Tryd.zeroSpot ?_; intro w2 hf2 hs2 hB2; have HF2 := hide ((unhide HF1).trans0 hf2); have HR2 := hide ((unhide HR).fr0 hf2); have HB2 := hide (show Blk w2 (w.heap.size + 1) 30 zSpot from hs1 ▸ hB2); have c0 := (unhide HB2).cell 0 (by omega); have z0 := (unhide HB2).free 0; clear hf2 hB2 HR HF1)
    | (go_at_call 71; refine (p_firstOf b q cap rs N F e p s _ (((unhide H).fr0 ((unhide HF2).setCell ⟨w.heap.size + 1, 0, none⟩ (Or.inr (by simp)) (.int .u8 c)))) hs hl).mono ?_; rintro e' w3 ⟨rfl, hf3⟩; have HF3 := hide (((unhide HF2).setCell ⟨w.heap.size + 1, 0, none⟩ (Or.inr (by simp)) (.int .u8 c)).trans0 hf3); have HR3 := hide (((unhide HR2).setCell_ne ⟨w.heap.size + 1, 0, none⟩ (by simp) (.int .u8 c)).fr0 hf3); have HB3 := hide (((unhide HB2).setCell 0 (.int .u8 c)).fr0 hf3); clear hf3)
    | (refine wpList_store_blk rfl 48 (.tmp 13) (.tmp 12) rfl (w.heap.size + 1) 2 27 30 (upd zSpot 0 (.int .u8 c)) (sgF (beg N F (bytes s))) rfl rfl (by exact unhide HB3) Tryd.sizeSign (by omega) (fun _ _ => rfl) ?_; intro w4 hf4 hs4 hB4; have HF4 := hide ((unhide HF3).trans1 hf4 (Or.inr (by omega))); have HR4 := hide ((unhide HR3).fr1 hf4 (by omega)); have HB4 := hide hB4; have c29 := (unhide HB4).cell 29 (by omega); have z29 := (unhide HB4).free 29; clear hf4 hB4)
    | (go_at_call 83; refine (p_isNull b q cap rs N F e p s _ ((unhide H).fr0 (unhide HF4)) hs).mono ?_; rintro e' w5 ⟨rfl, rfl⟩)
    | (refine wpList_load_blk rfl 50 (.tmp 7) rfl (some 18) rfl (w.heap.size + 1) 0 30 30 (upd (lay (upd zSpot 0 (.int .u8 c)) 2 27 (sgF (beg N F (bytes s)))) 29 (.bool ((bytes s).all (vanB N false)))) _ rfl (by exact (unhide HB4).setCell 29 (.bool ((bytes s).all (vanB N false)))) Tryd.underlying50 rfl Tryd.sizeSpot (by omega) ?_; rw [Agg.congr (spt_cells c s N F)])
    | (refine wpList_store_blk rfl 50 (.tmp 6) (.tmp 18) rfl w.heap.size 0 30 30 zSpot (sptF c s N F) rfl rfl (by exact (unhide HR4).setCell_ne ⟨w.heap.size + 1, 29, none⟩ (by simp) (.bool ((bytes s).all (vanB N false)))) Tryd.sizeSpot (by omega) (oneB_sptF c s N F 30) ?_; intro w7 hf7 hs7 hB7))
  exact bodyPost_ret (results_cell Tryd.results73 _ w.heap.size rfl 30 30 _ _ (hB7.congr fun i hi => lay_all _ _ _ i hi) Tryd.underlying50 rfl Tryd.sizeSpot (by omega)) rfl ⟨rfl, ((unhide HF4).setCell ⟨w.heap.size + 1, 29, none⟩ (Or.inr (by simp)) _).trans1 hf7 (Or.inr (Nat.le_refl _))⟩
end Go.Proofs.YtkglggkkbmmjkaaDoor

