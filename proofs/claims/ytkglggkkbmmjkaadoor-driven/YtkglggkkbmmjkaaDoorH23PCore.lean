import Derived.Test.YtkglggkkbmmjkaaDoorH22PPlan0
import Derived.Test.YtkglggkkbmmjkaaDoorH18PTab0
namespace Go.Proofs.YtkglggkkbmmjkaaDoor
open Go.RowKit

/-- makePlan's state -/
def MpS (w wr : World) (b q cap : Nat) (rs L : List Ru) (N : Nat → Bool) (F : Nat → Nat → Bool) (e p : Int) : Prop :=
  Fr [] w wr ∧ GAt wr b q cap rs N F e p ∧ Blk wr (w.heap.size + 1) 1359 (plF (planOf L N F)) ∧ Blk wr w.heap.size 1359 (plF (planOf [] (fun _ => false) (fun _ _ => false))) ∧ b < w.heap.size ∧ q < w.heap.size

theorem MpS.fr0 {w wr w' : World} {b q cap : Nat} {rs L : List Ru} {N : Nat → Bool} {F : Nat → Nat → Bool} {e p : Int} (h : MpS w wr b q cap rs L N F e p) (k : Fr [] wr w') : MpS w w' b q cap rs L N F e p :=
  ⟨h.1.trans0 k, h.2.1.fr0 k, h.2.2.1.fr0 k, h.2.2.2.1.fr0 k, h.2.2.2.2⟩
theorem MpS.far {w wr w' : World} {b q cap x : Nat} {rs L : List Ru} {N : Nat → Bool} {F : Nat → Nat → Bool} {e p : Int} (h : MpS w wr b q cap rs L N F e p) (k : Fr [x] wr w') (hx : w.heap.size + 1 < x) : MpS w w' b q cap rs L N F e p :=
  ⟨h.1.trans1 k (Or.inr (by omega)), h.2.1.fr k (by have := h.2.2.2.2; simp; omega) (by have := h.2.2.2.2; simp; omega), h.2.2.1.fr1 k (by omega), h.2.2.2.1.fr1 k (by omega), h.2.2.2.2⟩
theorem MpS.put {w wr w' : World} {b q cap : Nat} {rs L L' : List Ru} {N : Nat → Bool} {F : Nat → Nat → Bool} {e p : Int} (h : MpS w wr b q cap rs L N F e p) (k : Fr [w.heap.size + 1] wr w') (hB : Blk w' (w.heap.size + 1) 1359 (plF (planOf L' N F))) : MpS w w' b q cap rs L' N F e p :=
  ⟨h.1.trans1 k (Or.inr (by omega)), h.2.1.fr k (by have := h.2.2.2.2; simp; omega) (by have := h.2.2.2.2; simp; omega), hB, h.2.2.2.1.fr1 k (by omega), h.2.2.2.2⟩
theorem rul0_cells (c i : Nat) (hi : i < 3) : upd (ruF ⟨0, ⟨#[]⟩, 0⟩) 1 (.string ⟨#[UInt8.ofNat c]⟩) i = ruF (rul0 c) i := by
  rcases (by omega : i = 0 ∨ i = 1 ∨ i = 2) with rfl | rfl | rfl <;> rfl
theorem rul0_let (c : Nat) (h : 65 ≤ c ∧ c ≤ 90) (i : Nat) (hi : i < (rul0 c).R.size) : letB (ch (rul0 c).R i) = true := by
  obtain rfl : i = 0 := by
    have : i < 1 := hi
    omega
  have e : ch (rul0 c).R 0 = c := by
    show (UInt8.ofNat c).toNat = c
    rw [UInt8.toNat_ofNat']; omega
  rw [e]
  simp [letB, bigB_iff.2 h]


set_option maxRecDepth 100000 in
set_option maxHeartbeats 2000000 in
/-- grammar.makePlan -/
theorem p_makePlan (b q cap : Nat) (rs : List Ru) (N : Nat → Bool) (F : Nat → Nat → Bool) (e p : Int) (w : World) (h : GAt w b q cap rs N F e p) (hst : bigB (stOf rs) = true)
    (hr : ∀ i (h : i < rs.length), rs[i].R.size < 5 ∧ ∀ j, j < rs[i].R.size → letB (ch rs[i].R j) = true) :
    Calls Tryd.prog 40 #[.pointer (some ⟨b, 0, none⟩)] w fun e' w' => e' = .returned (Agg 1359 (plF (planOf (rul rs) N F))) ∧ Fr [] w w' := by
  have lb := h.blk.lt
  have lq := h.lt
  have hlen := h.len
  have H := hide h
  have HR := hide hr
  have hcb := bigB_iff.1 hst
  have k1 : w.cell? ⟨b, 1, none⟩ = some (.int .u8 (stOf rs : Nat)) := h.blk.cell 1 (by omega)
  obtain ⟨c, hc0⟩ : ∃ c, stOf rs = c := ⟨_, rfl⟩
  rw [hc0] at k1 hcb
  have HC := hide hc0
  clear h hr hst hc0
  go_enter Tryd.func40, Tryd.ntmps40
  go_wp2_with (first
    | (refine wpList_alloc_blk rfl 54 rfl (some 2) rfl 1359 _ Tryd.zeroPlan ?_; intro w1 hf1 hs1 hB1; have HR1 := hide hB1; have HF1 := hide hf1; clear hf1 hB1)
    | (refine wpList_alloc_blk rfl 54 rfl (some 3) rfl 1359 _ Tryd.zeroPlan ?_; intro w2 hf2 hs2 hB2; have H2 := hide (show MpS w w2 b q cap rs [] N F e p from ⟨(unhide HF1).trans0 hf2, ((unhide H).fr0 (unhide HF1)).fr0 hf2, hs1 ▸ hB2.congr fun i _ => planOf_nil _ _ _ _ i, (unhide HR1).fr0 hf2, lb, lq⟩); have k1' : w2.cell? ⟨b, 1, none⟩ = some (.int .u8 (c : Nat)) := ((unhide HC) ▸ (unhide H2).2.1.blk.cell 1 (by omega)); clear hf2 hB2 HR1 HF1)
    | (refine wpList_alloc_blk rfl 114 rfl (some 4) rfl 3 _ Tryd.zeroRuleP ?_; intro w3 hf3 hs3 hB3; have H3 := hide (show MpS w w3 b q cap rs [] N F e p from (unhide H2).fr0 hf3); have HZ3 := hide (show Blk w3 (w.heap.size + 1 + 1) 3 _ from (show w2.heap.size = w.heap.size + 1 + 1 from by (rw [hs2, hs1])) ▸ hB3); have k3 : w3.cell? ⟨b, 1, none⟩ = some (.int .u8 (c : Nat)) := ((unhide HC) ▸ (unhide H3).2.1.blk.cell 1 (by omega)); have z1 := (unhide HZ3).cell 1 (by omega); have y1 := (unhide HZ3).free 1; clear hf3 hB3 k1' k1)
    | (refine wpList_str_one rfl 44 9 5 (.tmp 10) rfl (w.heap.size + 1 + 1 + 1) 1 c (by omega) Tryd.underlying44 Tryd.underlying5 Tryd.underlying9 rfl (by rw [show w.heap.size + 1 + 1 + 1 = w3.heap.size from by (rw [hs3, hs2, hs1])]; simp) ?_; have H4 := hide (show MpS w ((w3.setCell ⟨w.heap.size + 1 + 1, 1, none⟩ (.string ⟨#[UInt8.ofNat c]⟩)).alloc (.cells #[.int .u8 c] 5)) b q cap rs [] N F e p from ((unhide H3).far ((Fr.refl [w.heap.size + 1 + 1] _).setCell ⟨w.heap.size + 1 + 1, 1, none⟩ (by simp) _) (by omega)).fr0 ((Fr.refl [] _).alloc _)); have HZ4 := hide (show Blk ((w3.setCell ⟨w.heap.size + 1 + 1, 1, none⟩ (.string ⟨#[UInt8.ofNat c]⟩)).alloc (.cells #[.int .u8 c] 5)) (w.heap.size + 1 + 1) 3 (ruF (rul0 c)) from (((unhide HZ3).setCell 1 (.string ⟨#[UInt8.ofNat c]⟩)).congr fun i hi => rul0_cells c i hi).alloc _); clear H3 H2)
    | (refine wpList_load_blk rfl 114 (.tmp 4) rfl (some 14) rfl (w.heap.size + 1 + 1) 0 3 3 (ruF (rul0 c)) _ rfl (by exact unhide HZ4) Tryd.underlying114 rfl Tryd.sizeRuleP (by omega) ?_; rw [show (Agg 3 fun i => ruF (rul0 c) (0 + i)) = Agg 3 (ruF (rul0 c)) from rfl])
    | (go_at_call 58; refine (p_layRule b q cap (w.heap.size + 1) rs [] N F e p (rul0 c) _ (by exact (unhide H4).2.1) (by exact (unhide H4).2.2.1) (by omega) (by omega) (by show 0 < 9; omega) (by show 1 < 5; omega) (rul0_let c hcb)).mono ?_; rintro e' w5 ⟨rfl, hf5, hB5⟩; have H5 := hide (show MpS w w5 b q cap rs ((rul rs).take 1) N F e p from ((unhide H4).put hf5 (by rw [show (rul rs).take 1 = [] ++ [rul0 c] from by (unfold rul; rw [unhide HC]; rfl)]; exact hB5))); have hq := (unhide H5).2.1.c0; clear hf5 hB5 H4 HZ4))
  clear HZ3 z1 y1 k3
  go_loopw [5] (fun i wr => ∃ k : Nat, k ≤ rs.length ∧ i = .int .i64 k ∧ Hid (MpS w wr b q cap rs ((rul rs).take (k + 1)) N F e p)) (fun i _ => rs.length - (intOf i).toNat)
  case atStart => exact ⟨0, by omega, rfl, H5⟩
  case round =>
    obtain ⟨k, hk, rfl, hs⟩ := hrel
    clear H5 hq
    have hq := (unhide hs).2.1.c0
    by_cases hlt : k < rs.length
    · have hR := unhide HR k hlt
      obtain ⟨a0, a1, a2⟩ := (unhide hs).2.1.ru k hlt
      have HK := hide (show CsAt wr q (k * 3) 3 (ruF rs[k]) from fun i hi => by
        rcases (by omega : i = 0 ∨ i = 1 ∨ i = 2) with rfl | rfl | rfl
        · exact a0
        · exact a1
        · exact a2)
      have HLn := hide (show ((rul rs).take (k + 1)).length = k + 1 from by rw [List.length_take]; unfold rul; simp; omega)
      have HTk := hide (show (rul rs).take (k + 1 + 1) = (rul rs).take (k + 1) ++ [rs[k]] from by
        rw [List.take_add_one, show (rul rs)[k + 1]? = some rs[k] from by unfold rul; simp [hlt]]; rfl)
      clear a0 a1 a2
      go_wp2_with (first
        | (refine wpList_load_cs rfl 114 (.tmp 33) rfl (some 34) rfl q (k * 3) 3 (ruF rs[k]) _ rfl (by exact unhide HK) Tryd.underlying114 rfl Tryd.sizeRuleP ?_)
        | (go_at_call 58; have hcall := (p_layRule b q cap (w.heap.size + 1) rs ((rul rs).take (k + 1)) N F e p rs[k] wr (by exact (unhide hs).2.1) (by exact (unhide hs).2.2.1) (by omega) (by omega) (by rw [unhide HLn]; omega) hR.1 hR.2); rw [unhide HLn] at hcall; refine hcall.mono ?_; rintro e' w5 ⟨rfl, hf5, hB5⟩; have H5 := hide (show MpS w w5 b q cap rs ((rul rs).take (k + 1 + 1)) N F e p from ((unhide hs).put hf5 (by rw [unhide HTk]; exact hB5))); clear hf5 hB5 hcall))
      go_roundw
      case rel => exact ⟨k + 1, by omega, by go_num, H5⟩
      case measure => simp [intOf]; omega
    · have HN := hide (show MpS w wr b q cap rs (rul rs) N F e p from by
        have e1 : k = rs.length := by omega
        have h := unhide hs
        rw [e1, List.take_of_length_le (by unfold rul; simp)] at h; exact h)
      clear hs
      go_wp2_with (first
        | (refine wpList_load_blk rfl 54 (.tmp 3) rfl (some 36) rfl (w.heap.size + 1) 0 1359 1359 (plF (planOf (rul rs) N F)) _ rfl (by exact (unhide HN).2.2.1) Tryd.underlying54 rfl Tryd.sizePlan (by omega) ?_)
        | (refine wpList_store_blk rfl 54 (.tmp 2) (.tmp 36) rfl w.heap.size 0 1359 1359 (plF (planOf [] (fun _ => false) (fun _ _ => false))) (fun i => plF (planOf (rul rs) N F) (0 + i)) rfl rfl (by exact (unhide HN).2.2.2.1) Tryd.sizePlan (by omega) (fun i hi => oneB_plF (planOf (rul rs) N F) 1359 (0 + i) (by omega)) ?_; intro w7 hf7 hs7 hB7))
      exact bodyPost_ret (results_cell Tryd.results40 _ w.heap.size rfl 1359 1359 _ _ (hB7.congr fun i hi => lay_all _ _ _ i hi) Tryd.underlying54 rfl Tryd.sizePlan (by omega)) rfl ⟨by congr 2; funext i; rw [Nat.zero_add], (unhide HN).1.trans1 hf7 (Or.inr (Nat.le_refl _))⟩
end Go.Proofs.YtkglggkkbmmjkaaDoor


namespace Go.Proofs.YtkglggkkbmmjkaaDoor
open Go.RowKit

/-- a table's cells -/
def tbF (p : Pl) (v : Value) (cores fault : Nat) : Nat → Value := fun i => if i < 1359 then plF p i else if i = 1359 then v else if i = 1360 then .int .i64 (cores : Nat) else .int .i64 (fault : Nat)
/-- a table lies in memory; its states in a block from base on -/
structure TbAt (w : World) (tb base : Nat) (p : Pl) (v : Value) (S : List Sd) (cores fault : Nat) : Prop where
  blk : Blk w tb 1362 (tbF p v cores fault)
  row : GRow w base 102 1268 v S.length (rwF S)
  lt : tb < base
theorem TbAt.v {w : World} {tb base : Nat} {p : Pl} {v : Value} {S : List Sd} {cores fault : Nat} (h : TbAt w tb base p v S cores fault) : w.cell? ⟨tb, 1359, none⟩ = some v := h.blk.cell 1359 (by omega)
theorem TbAt.cores {w : World} {tb base : Nat} {p : Pl} {v : Value} {S : List Sd} {cores fault : Nat} (h : TbAt w tb base p v S cores fault) : w.cell? ⟨tb, 1360, none⟩ = some (.int .i64 (cores : Nat)) := h.blk.cell 1360 (by omega)
theorem TbAt.fault {w : World} {tb base : Nat} {p : Pl} {v : Value} {S : List Sd} {cores fault : Nat} (h : TbAt w tb base p v S cores fault) : w.cell? ⟨tb, 1361, none⟩ = some (.int .i64 (fault : Nat)) := h.blk.cell 1361 (by omega)
theorem TbAt.plan {w : World} {tb base : Nat} {p : Pl} {v : Value} {S : List Sd} {cores fault : Nat} (h : TbAt w tb base p v S cores fault) : PlAt w tb p := fun i hi => by
  rw [Nat.zero_add, h.blk.cell i (by omega)]
  unfold tbF; rw [if_pos hi]
theorem TbAt.fr {X : List Nat} {w w' : World} {tb base : Nat} {p : Pl} {v : Value} {S : List Sd} {cores fault : Nat} (h : TbAt w tb base p v S cores fault) (k : Fr X w w') (hb : tb ∉ X) (hv : ∀ g, v.ownBlock = some g → g ∉ X) : TbAt w' tb base p v S cores fault :=
  ⟨h.blk.fr k hb, h.row.fr k hv, h.lt⟩
theorem TbAt.fr0 {w w' : World} {tb base : Nat} {p : Pl} {v : Value} {S : List Sd} {cores fault : Nat} (h : TbAt w tb base p v S cores fault) (k : Fr [] w w') : TbAt w' tb base p v S cores fault := h.fr k (by simp) (by simp)
/-- the items of a state -/
theorem TbAt.items {w : World} {tb base g n cap : Nat} {p : Pl} {S : List Sd} {cores fault : Nat} (h : TbAt w tb base p (.slice (some ⟨g, 0, none⟩) n cap) S cores fault) (i : Nat) (hi : i < S.length) : CsAt w g (i * 1268) 1215 (boolF (sget S i).A) := fun j hj => by
  have := h.row.cs i hi j (by omega)
  dsimp only at this
  rw [this, rwF_at _ _ _ (by omega), stF_A _ _ hj]; rfl
theorem TbAt.core {w : World} {tb base g n cap : Nat} {p : Pl} {S : List Sd} {cores fault : Nat} (h : TbAt w tb base p (.slice (some ⟨g, 0, none⟩) n cap) S cores fault) (i : Nat) (hi : i < S.length) : w.cell? ⟨g, i * 1268 + 1267, none⟩ = some (.int .i64 ((sget S i).core : Nat)) := by
  have := h.row.cs i hi 1267 (by omega)
  dsimp only at this
  rw [this, rwF_at _ _ _ (by omega)]; rfl

/-- the same rules and places -/
def smC (A B : Nat → Bool) (lim : Nat) : Bool := (List.range lim).all fun q => (empB fun k => A (q * 27 + k)) == (empB fun k => B (q * 27 + k))
theorem smC_succ (A B : Nat → Bool) (q : Nat) : smC A B (q + 1) = (smC A B q && ((empB fun k => A (q * 27 + k)) == (empB fun k => B (q * 27 + k)))) := by
  unfold smC
  rw [List.range_succ, List.all_append]; simp
theorem smC_mono {A B : Nat → Bool} {q r : Nat} (h : q ≤ r) (hs : smC A B q = false) : smC A B r = false := by
  cases e : smC A B r
  · rfl
  · have : smC A B q = true := by
      unfold smC at *
      rw [List.all_eq_true] at e ⊢
      intro x hx
      exact e x (List.mem_range.2 (by have := List.mem_range.1 hx; omega))
    rw [this] at hs; cases hs

set_option maxRecDepth 100000 in
set_option maxHeartbeats 1600000 in
/-- itemSet.sameCore -/
theorem p_sameCore (b o c : Nat) (A B : Nat → Bool) (w : World) (hA : CsAt w b o 1215 (boolF A)) (hB : CsAt w c 0 1215 (boolF B)) (lb : b < w.heap.size) (lc : c < w.heap.size) :
    Calls Tryd.prog 85 #[.pointer (some ⟨b, o, none⟩), .pointer (some ⟨c, 0, none⟩)] w fun e w' => e = .returned (.bool (smC A B 45)) ∧ Fr [] w w' := by
  have HA := hide hA
  have HB := hide hB
  clear hA hB
  go_enter Tryd.func85, Tryd.ntmps85
  go_wp2
  go_loopw [5] (fun i wr => ∃ n : Nat, n ≤ 9 ∧ i = .int .i64 n ∧ Hid (smC A B (n * 5) = true) ∧ Hid (Fr [] w wr)) (fun i _ => 9 - (intOf i).toNat)
  case atStart => exact ⟨0, by omega, rfl, rfl, Fr.refl _ _⟩
  case round =>
    obtain ⟨n, hn, rfl, hm0, hs⟩ := hrel
    by_cases hlt : n < 9
    · have hn9 : (n : Int) < 9 := by omega
      go_wp2
      go_loopw [6] (fun i wr => ∃ t : Nat, t ≤ 5 ∧ i = .int .i64 t ∧ Hid (smC A B (n * 5 + t) = true) ∧ Hid (Fr [] w wr)) (fun i _ => 5 - (intOf i).toNat)
      case atStart => exact ⟨0, by omega, rfl, hm0, hs⟩
      case round =>
        clear hs hm0
        obtain ⟨t, ht, rfl, hm, hs⟩ := hrel
        by_cases htt : t < 5
        · have HX := hide (smC_succ A B (n * 5 + t))
          rw [show (n * 5 + t) * 27 = n * 135 + t * 27 from by omega] at HX
          have HAc := hide (show CsAt wr b (o + n * 135 + t * 27) 27 (boolF fun k => A (n * 135 + t * 27 + k)) from by
            have := ((unhide HA).fr (unhide hs) (by simp) lb).sub (n * 135 + t * 27) 27 (by omega)
            rw [← Nat.add_assoc] at this; exact this)
          have lbr := Nat.lt_of_lt_of_le lb (unhide hs).size
          have HBc : ∀ w5, Fr [] w w5 → CsAt w5 c (n * 135 + t * 27) 27 (boolF fun k => B (n * 135 + t * 27 + k)) := fun w5 hf => by
            have := ((unhide HB).fr hf (by simp) lc).sub (n * 135 + t * 27) 27 (by omega)
            rw [Nat.zero_add] at this; exact this
          cases hea : (empB fun k => A (n * 135 + t * 27 + k)) <;> cases heb : (empB fun k => B (n * 135 + t * 27 + k))
          all_goals
            rw [hea, heb] at HX
            go_wp2_with (first
              | (have h5 := unhide H5; go_at_call 86; refine (p_isEmpty c _ (fun k => B (n * 135 + t * 27 + k)) w5 (by exact HBc _ h5) (Nat.lt_of_lt_of_le lc h5.size)).mono ?_; rintro e w6 ⟨rfl, hf6⟩; rw [heb]; have H6 := hide (h5.trans0 hf6); clear hf6 h5)
              | (go_at_call 86; refine (p_isEmpty b _ (fun k => A (n * 135 + t * 27 + k)) wr (by exact unhide HAc) lbr).mono ?_; rintro e w5 ⟨rfl, hf5⟩; rw [hea]; have H5 := hide ((unhide hs).trans0 hf5); clear hf5))
          · have HN := hide (show smC A B (n * 5 + (t + 1)) = true from (unhide HX).trans (by rw [unhide hm]; rfl))
            go_roundw
            case rel => exact ⟨t + 1, by omega, by go_num, HN, H6⟩
            case measure => simp [intOf]; omega
          · have HN := hide (show smC A B 45 = false from smC_mono (by omega) ((unhide HX).trans (by simp)))
            go_ret
            exact ⟨ret_bool (unhide HN).symm, unhide H6⟩
          · have HN := hide (show smC A B 45 = false from smC_mono (by omega) ((unhide HX).trans (by simp)))
            go_ret
            exact ⟨ret_bool (unhide HN).symm, unhide H6⟩
          · have HN := hide (show smC A B (n * 5 + (t + 1)) = true from (unhide HX).trans (by rw [unhide hm]; rfl))
            go_roundw
            case rel => exact ⟨t + 1, by omega, by go_num, HN, H6⟩
            case measure => simp [intOf]; omega
        · have HN := hide (show smC A B ((n + 1) * 5) = true from by
            have e : t = 5 := by omega
            subst e; rw [Nat.add_mul]; exact unhide hm)
          go_wp2
          go_roundw
          case rel => exact ⟨n + 1, by omega, by go_num, HN, hs⟩
          case measure => simp [intOf]; omega
    · have HN := hide (show smC A B 45 = true from by
        have e : n = 9 := by omega
        subst e; exact unhide hm0)
      go_wp2
      go_ret
      exact ⟨ret_bool (unhide HN).symm, unhide hs⟩
end Go.Proofs.YtkglggkkbmmjkaaDoor

namespace Go.Proofs.YtkglggkkbmmjkaaDoor
open Go.RowKit

theorem TbAt.form {w : World} {tb base : Nat} {p : Pl} {v : Value} {S : List Sd} {cores fault : Nat} (h : TbAt w tb base p v S cores fault) : ∃ ao cap, v = .slice ao S.length cap ∧ (0 < S.length → ∃ g, ao = some ⟨g, 0, none⟩ ∧ v.ownBlock = some g) := by
  obtain ⟨h1, h2⟩ := h.row
  rcases h2 with ⟨rfl, h2⟩ | ⟨g', cap', cur, rfl, _⟩
  · exact ⟨none, 0, by rw [h2], fun hn => by omega⟩
  · exact ⟨_, cap', rfl, fun _ => ⟨g', rfl, rfl⟩⟩

/-- the core of these items: that of the first state with the same one, or the next -/
def corM (S : List Sd) (B : Nat → Bool) (cores : Nat) : Nat := match S.find? fun s => smC s.A B 45 with
  | some s => s.core
  | none => cores
theorem sget_eq (S : List Sd) (i : Nat) (h : i < S.length) : sget S i = S[i] := by simp [sget, h]
theorem corM_some {S : List Sd} {B : Nat → Bool} {cores i : Nat} (hi : i < S.length) (h : smC (sget S i).A B 45 = true) (hb : ∀ j, j < i → smC (sget S j).A B 45 = false) : corM S B cores = (sget S i).core := by
  unfold corM
  have : S.find? (fun s => smC s.A B 45) = some (sget S i) := by
    rw [sget_eq S i hi] at *
    rw [List.find?_eq_some_iff_getElem]
    exact ⟨h, i, hi, rfl, fun j hj => by have := hb j hj; rw [sget_eq S j (by omega)] at this; simp [this]⟩
  rw [this]
theorem corM_none {S : List Sd} {B : Nat → Bool} {cores : Nat} (hb : ∀ j, j < S.length → smC (sget S j).A B 45 = false) : corM S B cores = cores := by
  unfold corM
  have : S.find? (fun s => smC s.A B 45) = none := by
    rw [List.find?_eq_none]
    intro s hs
    obtain ⟨j, hj, rfl⟩ := List.getElem_of_mem hs
    have := hb j hj
    rw [sget_eq S j hj] at this
    simp [this]
  rw [this]

set_option maxRecDepth 100000 in
set_option maxHeartbeats 1600000 in
/-- table.coreOf -/
theorem p_coreOf (tb base ib : Nat) (p : Pl) (v : Value) (S : List Sd) (cores fault : Nat) (B : Nat → Bool) (w : World) (h : TbAt w tb base p v S cores fault) (hB : Blk w ib 1215 (boolF B)) (hS : S.length ≤ 50) :
    Calls Tryd.prog 75 #[.pointer (some ⟨tb, 0, none⟩), .pointer (some ⟨ib, 0, none⟩)] w fun e w' => e = .returned (.int .i64 (corM S B cores : Nat)) ∧ Fr [] w w' := by
  obtain ⟨ao, cap, rfl, hao⟩ := h.form
  have H := hide h
  have HB := hide hB
  have lb := h.blk.lt
  have li := hB.lt
  clear h hB
  go_enter Tryd.func75, Tryd.ntmps75
  go_wp2
  go_loopw [5] (fun i wr => ∃ n : Nat, n ≤ S.length ∧ i = .int .i64 n ∧ Hid (∀ j, j < n → smC (sget S j).A B 45 = false) ∧ Hid (Fr [] w wr)) (fun i _ => S.length - (intOf i).toNat)
  case atStart => exact ⟨0, by omega, rfl, fun j hj => by omega, Fr.refl _ _⟩
  case round =>
    obtain ⟨n, hn, rfl, hm, hs⟩ := hrel
    have HT := hide ((unhide H).fr0 (unhide hs))
    have c0 := (unhide HT).v
    have c1 := (unhide HT).cores
    by_cases hlt : n < S.length
    · obtain ⟨g, rfl, _⟩ := hao (by omega)
      have HI := hide ((unhide HT).items n hlt)
      have HBr := hide (show CsAt wr ib 0 1215 (boolF B) from fun i hi => by rw [Nat.zero_add]; exact ((unhide HB).fr0 (unhide hs)).cell i hi)
      have lg : g < wr.heap.size := ((unhide HT).row.lt rfl).2
      have lir := Nat.lt_of_lt_of_le li (unhide hs).size
      cases he : smC (sget S n).A B 45
      · have HN := hide (show ∀ j, j < n + 1 → smC (sget S j).A B 45 = false from fun j hj => by
          by_cases e : j = n
          · subst e; exact he
          · exact unhide hm j (by omega))
        go_wp2_with (go_at_call 85; refine (p_sameCore g (n * 1268) ib (sget S n).A B wr (by exact unhide HI) (by exact unhide HBr) lg lir).mono ?_; rintro e w5 ⟨rfl, hf5⟩; rw [he]; have H5 := hide ((unhide hs).trans0 hf5); clear hf5)
        go_roundw
        case rel => exact ⟨n + 1, by omega, by go_num, HN, H5⟩
        case measure => simp [intOf]; omega
      · have HN := hide (corM_some (cores := cores) hlt he (unhide hm))
        go_wp2_with (go_at_call 85; refine (p_sameCore g (n * 1268) ib (sget S n).A B wr (by exact unhide HI) (by exact unhide HBr) lg lir).mono ?_; rintro e w5 ⟨rfl, hf5⟩; rw [he]; have H5 := hide ((unhide hs).trans0 hf5); have d0 := ((unhide HT).fr0 hf5).v; have d1 := ((unhide HT).fr0 hf5).core n hlt; clear hf5)
        go_ret
        exact ⟨ret_int (by rw [unhide HN]), unhide H5⟩
    · have HN := hide (corM_none (cores := cores) (S := S) (B := B) (fun j hj => unhide hm j (by omega)))
      go_wp2
      go_ret
      exact ⟨ret_int (by rw [unhide HN]), unhide hs⟩
end Go.Proofs.YtkglggkkbmmjkaaDoor
