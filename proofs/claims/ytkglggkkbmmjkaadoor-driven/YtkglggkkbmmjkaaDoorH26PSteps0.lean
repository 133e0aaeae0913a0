import Derived.Test.YtkglggkkbmmjkaaDoorH25PMove
import Derived.Test.YtkglggkkbmmjkaaDoorH24PNum
namespace Go.Proofs.YtkglggkkbmmjkaaDoor
open Go.RowKit

/-- the first state's kernel -/
def fstI : Nat → Bool := fun i => i == 0
theorem fst_cells (i : Nat) : upd (boolF fun _ => false) (0 + sgO 36) (.bool true) i = boolF fstI i := by
  show (if i = 0 then Value.bool true else Value.bool false) = Value.bool (i == 0)
  by_cases e : i = 0
  · rw [if_pos e, e]; rfl
  · rw [if_neg e, show (i == 0) = false from by simpa using e]
set_option maxRecDepth 100000 in
set_option maxHeartbeats 1600000 in
/-- plan.firstItems -/
theorem p_firstItems (pb : Nat) (p : Pl) (w : World) (hP : PlAt w pb p) (hpl : pb < w.heap.size) :
    Calls Tryd.prog 59 #[.pointer (some ⟨pb, 0, none⟩)] w fun e w' => Fr [] w w' ∧ ∃ B, e = .returned (Agg 1215 (boolF B)) ∧ FuI p fstI B := by
  have HP := hide hP
  clear hP
  go_enter Tryd.func59, Tryd.ntmps59
  go_wp2_with (first
    | (refine wpList_alloc_blk rfl 99 rfl (some 2) rfl 1215 _ Tryd.zeroItems ?_; intro w1 hf1 hs1 hB1; have HR := hide hB1; have HF1 := hide hf1; clear hf1 hB1)
    | (refine wpList_alloc_blk rfl 99 rfl (some 3) rfl 1215 _ Tryd.zeroItems ?_; intro w2 hf2 hs2 hB2; have HF2 := hide ((unhide HF1).trans0 hf2); have HR2 := hide ((unhide HR).fr0 hf2); have HB2 := hide (show Blk w2 (w.heap.size + 1) 1215 (boolF fun _ => false) from hs1 ▸ hB2); clear hf2 hB2 HR HF1)
    | (go_at_call 47; refine (p_saddO (w.heap.size + 1) 0 36 1215 _ _ (by exact unhide HB2) (by omega) rfl).mono ?_; rintro e w3 ⟨rfl, hf3, hs3, hB3⟩; have HF3 := hide ((unhide HF2).trans1 hf3 (Or.inr (by omega))); have HR3 := hide ((unhide HR2).fr1 hf3 (by omega)); have HB3 := hide (show Blk w3 (w.heap.size + 1) 1215 (boolF fstI) from hB3.congr fun i _ => fst_cells i); clear hf3 hB3)
    | (go_at_call 74; refine (p_fill pb (w.heap.size + 1) p fstI _ ((unhide HP).fr (unhide HF3) (by simp) hpl) (by exact unhide HB3) (Nat.lt_of_lt_of_le hpl (unhide HF3).size) (by omega)).mono ?_; rintro e w6 ⟨rfl, hf6, B, hB6, hM6⟩; have HF6 := hide ((unhide HF3).trans1 hf6 (Or.inr (by omega))); have HR6 := hide ((unhide HR3).fr1 hf6 (by omega)); have HB6 := hide hB6; have HM6 := hide hM6; clear hf6 hB6 hM6)
    | (refine wpList_load_blk rfl 99 (.tmp 3) rfl (some 10) rfl (w.heap.size + 1) 0 1215 1215 (boolF B) _ rfl (by exact unhide HB6) Tryd.underlying99 rfl Tryd.sizeItems (by omega) ?_)
    | (refine wpList_store_blk rfl 99 (.tmp 2) (.tmp 10) rfl w.heap.size 0 1215 1215 (boolF fun _ => false) (fun i => boolF B (0 + i)) rfl rfl (by exact unhide HR6) Tryd.sizeItems (by omega) (fun _ _ => rfl) ?_; intro w7 hf7 hs7 hB7))
  exact bodyPost_ret (results_cell Tryd.results59 _ w.heap.size rfl 1215 1215 _ _ (hB7.congr fun i hi => lay_all _ _ _ i hi) Tryd.underlying99 rfl Tryd.sizeItems (by omega)) rfl ⟨(unhide HF6).trans1 hf7 (Or.inr (Nat.le_refl _)), B, by congr 2; funext i; rw [Nat.zero_add], unhide HM6⟩

/-- the letters by which there is a step, by the places below lim -/
def nxB (p : Pl) (A : Nat → Bool) (lim : Nat) : Nat → Bool := fun i => (List.range lim).any fun q => !(empB fun k => A (q * 27 + k)) && (letB (p.lt (q / 5) (q % 5)) && i == ltI (p.lt (q / 5) (q % 5)))
theorem nxB_succ (p : Pl) (A : Nat → Bool) (q i : Nat) : nxB p A (q + 1) i = (nxB p A q i || (!(empB fun k => A (q * 27 + k)) && (letB (p.lt (q / 5) (q % 5)) && i == ltI (p.lt (q / 5) (q % 5))))) := by
  unfold nxB
  rw [List.range_succ, List.any_append]
  simp
theorem Tryd.zeroLett : (Tryd.prog.info? 132).bind (·.zero) = some (Agg 52 (boolF fun _ => false)) := by kernel_rfl
theorem Tryd.sizeLett : (Tryd.prog.info? 132).map (·.size) = some 52 := by kernel_rfl
/-- nextLetters' state -/
def NxS (w wr : World) (pb fb : Nat) (p : Pl) (A X : Nat → Bool) : Prop := Fr [] w wr ∧ Blk wr fb 1215 (boolF A) ∧ PlAt wr pb p ∧ Blk wr w.heap.size 52 (boolF fun _ => false) ∧ Blk wr (w.heap.size + 1) 52 (boolF X) ∧ pb < w.heap.size ∧ fb < w.heap.size
theorem NxS.fr0 {w wr w' : World} {pb fb : Nat} {p : Pl} {A X : Nat → Bool} (h : NxS w wr pb fb p A X) (k : Fr [] wr w') : NxS w w' pb fb p A X :=
  ⟨h.1.trans0 k, h.2.1.fr0 k, h.2.2.1.fr k (by simp) (Nat.lt_of_lt_of_le h.2.2.2.2.2.1 h.1.size), h.2.2.2.1.fr0 k, h.2.2.2.2.1.fr0 k, h.2.2.2.2.2⟩

set_option maxRecDepth 100000 in
set_option maxHeartbeats 1600000 in
/-- plan.nextLetters -/
theorem p_nextLetters (pb fb : Nat) (p : Pl) (A : Nat → Bool) (w : World) (hP : PlAt w pb p) (hB : Blk w fb 1215 (boolF A)) (hpl : pb < w.heap.size) :
    Calls Tryd.prog 76 #[.pointer (some ⟨pb, 0, none⟩), .pointer (some ⟨fb, 0, none⟩)] w fun e w' => e = .returned (Agg 52 (boolF (nxB p A 45))) ∧ Fr [] w w' := by
  have HB := hide hB
  have HP := hide hP
  have lb := hB.lt
  clear hB hP
  go_enter Tryd.func76, Tryd.ntmps76
  go_wp2_with (first
    | (refine wpList_alloc_blk rfl 132 rfl (some 4) rfl 52 _ Tryd.zeroLett ?_; intro w1 hf1 hs1 hB1; have HR := hide hB1; have HF1 := hide hf1; clear hf1 hB1)
    | (refine wpList_alloc_blk rfl 132 rfl (some 5) rfl 52 _ Tryd.zeroLett ?_; intro w2 hf2 hs2 hB2; have H2 := hide (show NxS w w2 pb fb p A (nxB p A 0) from ⟨(unhide HF1).trans0 hf2, ((unhide HB).fr0 (unhide HF1)).fr0 hf2, ((unhide HP).fr ((unhide HF1).trans0 hf2) (by simp) hpl), (unhide HR).fr0 hf2, hs1 ▸ hB2.congr fun i _ => by (unfold boolF nxB; rfl), hpl, lb⟩); clear hf2 hB2 HR HF1))
  clear HB HP
  go_loopw [6] (fun i wr => ∃ n : Nat, n ≤ 9 ∧ i = .int .i64 n ∧ Hid (NxS w wr pb fb p A (nxB p A (n * 5)))) (fun i _ => 9 - (intOf i).toNat)
  case atStart => exact ⟨0, by omega, rfl, H2⟩
  case round =>
    obtain ⟨n, hn, rfl, hs⟩ := hrel
    clear H2
    by_cases hlt : n < 9
    · have hn9 : (n : Int) < 9 := by omega
      go_wp2
      go_loopw [7] (fun i wr => ∃ t : Nat, t ≤ 5 ∧ i = .int .i64 t ∧ Hid (NxS w wr pb fb p A (nxB p A (n * 5 + t)))) (fun i _ => 5 - (intOf i).toNat)
      case atStart => exact ⟨0, by omega, rfl, hs⟩
      case round =>
        clear hs
        obtain ⟨t, ht, rfl, hs⟩ := hrel
        by_cases htt : t < 5
        · have HX := hide (nxB_succ p A (n * 5 + t))
          rw [show (n * 5 + t) / 5 = n from by omega, show (n * 5 + t) % 5 = t from by omega, show (n * 5 + t) * 27 = n * 135 + t * 27 from by omega] at HX
          cases hemp : empB (fun k => A (n * 135 + t * 27 + k))
          · rw [hemp] at HX
            go_wp2_with (first
              | (go_at_call 86; refine (p_isEmpty fb (n * 135 + t * 27) (fun k => A (n * 135 + t * 27 + k)) _ ((unhide hs).2.1.cs (n * 135 + t * 27) 27 (by omega)) (Nat.lt_of_lt_of_le lb (unhide hs).1.size)).mono ?_; rintro e w5 ⟨rfl, hf5⟩; rw [hemp]; have H5 := hide ((unhide hs).fr0 hf5); have d1 : w5.cell? ⟨pb, 9 + n * 150 + t * 30, none⟩ = some (.int .u8 (p.lt n t : Nat)) := ((unhide H5).2.2.1.spot n t hlt htt 0 (by omega)); clear hf5)
              | (go_at_call 87; refine (p_ladd (w.heap.size + 1) (p.lt n t) _ _ (by exact (unhide H5).2.2.2.2.1)).mono ?_; rintro e w6 ⟨rfl, hf6, hB6⟩; have H6 := hide (show NxS w w6 pb fb p A (nxB p A (n * 5 + (t + 1))) from ⟨(unhide H5).1.trans1 hf6 (Or.inr (by omega)), (unhide H5).2.1.fr1 hf6 (by omega), (unhide H5).2.2.1.fr hf6 (by simp; omega) (Nat.lt_of_lt_of_le hpl (unhide H5).1.size), (unhide H5).2.2.2.1.fr1 hf6 (by omega), hB6.congr fun i _ => by (unfold boolF adL; rw [← Nat.add_assoc, unhide HX i]; rfl), hpl, lb⟩); clear hf6 hB6))
            go_roundw
            case rel => exact ⟨t + 1, by omega, by go_num, H6⟩
            case measure => simp [intOf]; omega
          · rw [hemp] at HX
            go_wp2_with (first
              | (go_at_call 86; refine (p_isEmpty fb (n * 135 + t * 27) (fun k => A (n * 135 + t * 27 + k)) _ ((unhide hs).2.1.cs (n * 135 + t * 27) 27 (by omega)) (Nat.lt_of_lt_of_le lb (unhide hs).1.size)).mono ?_; rintro e w5 ⟨rfl, hf5⟩; rw [hemp]; have H5 := hide ((unhide hs).fr0 hf5); clear hf5))
            have H6 := hide (show NxS w w5 pb fb p A (nxB p A (n * 5 + (t + 1))) from ⟨(unhide H5).1, (unhide H5).2.1, (unhide H5).2.2.1, (unhide H5).2.2.2.1, (unhide H5).2.2.2.2.1.congr fun i _ => by (unfold boolF; rw [← Nat.add_assoc, unhide HX i]; simp), hpl, lb⟩)
            go_roundw
            case rel => exact ⟨t + 1, by omega, by go_num, H6⟩
            case measure => simp [intOf]; omega
        · have HN := hide (show NxS w wr pb fb p A (nxB p A ((n + 1) * 5)) from by
            have e : t = 5 := by omega
            subst e; rw [Nat.add_mul]; exact unhide hs)
          clear hs
          go_wp2
          go_roundw
          case rel => exact ⟨n + 1, by omega, by go_num, HN⟩
          case measure => simp [intOf]; omega
    · have HN := hide (show NxS w wr pb fb p A (nxB p A 45) from by
        have e : n = 9 := by omega
        subst e; exact unhide hs)
      clear hs
      go_wp2_with (first
        | (refine wpList_load_blk rfl 132 (.tmp 5) rfl (some 35) rfl (w.heap.size + 1) 0 52 52 (boolF (nxB p A 45)) _ rfl (by exact (unhide HN).2.2.2.2.1) Tryd.underlying132 rfl Tryd.sizeLett (by omega) ?_)
        | (refine wpList_store_blk rfl 132 (.tmp 4) (.tmp 35) rfl w.heap.size 0 52 52 (boolF fun _ => false) (fun i => boolF (nxB p A 45) (0 + i)) rfl rfl (by exact (unhide HN).2.2.2.1) Tryd.sizeLett (by omega) (fun _ _ => rfl) ?_; intro w7 hf7 hs7 hB7))
      exact bodyPost_ret (results_cell Tryd.results76 _ w.heap.size rfl 52 52 _ _ (hB7.congr fun i hi => lay_all _ _ _ i hi) Tryd.underlying132 rfl Tryd.sizeLett (by omega)) rfl ⟨by congr 2; funext i; rw [Nat.zero_add], (unhide HN).1.trans1 hf7 (Or.inr (Nat.le_refl _))⟩
end Go.Proofs.YtkglggkkbmmjkaaDoor

namespace Go.Proofs.YtkglggkkbmmjkaaDoor
open Go.RowKit

set_option maxHeartbeats 400000 in
/-- table.hasState -/
theorem p_hasState (tb base : Nat) (p : Pl) (v : Value) (S : List Sd) (cores fault : Nat) (n : Int) (w : World) (h : TbAt w tb base p v S cores fault) :
    Calls Tryd.prog 24 #[.pointer (some ⟨tb, 0, none⟩), .int .i64 n] w fun e w' => e = .returned (.bool (decide (0 ≤ n) && decide (n < S.length))) ∧ w' = w := by
  obtain ⟨ao, cap, hv, _⟩ := h.form
  have c0 := h.v
  rw [hv] at c0
  clear h hv
  by_cases h0 : 0 ≤ n
  · by_cases h1 : n < S.length
    · go_enter Tryd.func24, Tryd.ntmps24
      go_wp2
      go_ret
      exact ⟨by simp [h0, h1], rfl⟩
    · go_enter Tryd.func24, Tryd.ntmps24
      go_wp2
      go_ret
      exact ⟨by simp [h1], rfl⟩
  · go_enter Tryd.func24, Tryd.ntmps24
    go_wp2
    go_ret
    exact ⟨by simp; omega, rfl⟩

/-- a step of a state is set -/
def setTo (S : List Sd) (n i : Nat) (x : Int) : List Sd := S.set n ⟨(sget S n).A, fun k => if k = i then x else (sget S n).nx k, (sget S n).core⟩
theorem setTo_len (S : List Sd) (n i : Nat) (x : Int) : (setTo S n i x).length = S.length := by simp [setTo]
theorem sget_set (S : List Sd) (n m : Nat) (s : Sd) (hn : n < S.length) : sget (S.set n s) m = if m = n then s else sget S m := by
  unfold sget
  rw [List.getD_eq_getElem?_getD, List.getD_eq_getElem?_getD, List.getElem?_set]
  by_cases e : m = n
  · subst e; simp [hn]
  · rw [if_neg (fun h => e h.symm), if_neg e]
theorem rwF_setTo (S : List Sd) (n i : Nat) (x : Int) (hn : n < S.length) (hi : i < 52) (j : Nat) : upd (rwF S) (n * 1268 + 1215 + i) (.int .i64 x) j = rwF (setTo S n i x) j := by
  unfold upd rwF setTo
  rw [sget_set S n _ _ hn]
  by_cases e : j / 1268 = n
  · rw [if_pos e]
    unfold stF
    dsimp only
    by_cases h : j = n * 1268 + 1215 + i
    · have h1 : ¬ j % 1268 < 1215 := by omega
      have h2 : j % 1268 < 1267 := by omega
      have h3 : j % 1268 - 1215 = i := by omega
      rw [if_pos h, if_neg h1, if_pos h2, if_pos h3]
    · rw [if_neg h, e]
      by_cases h1 : j % 1268 < 1215
      · rw [if_pos h1, if_pos h1]
      · rw [if_neg h1, if_neg h1]
        by_cases h2 : j % 1268 < 1267
        · have h3 : ¬ j % 1268 - 1215 = i := by omega
          rw [if_pos h2, if_pos h2, if_neg h3]
        · rw [if_neg h2, if_neg h2]
  · rw [if_neg e, if_neg (by intro h; omega)]

/-- the steps of state n by the letters below i: what becomes of the states -/
inductive StepsR (p : Pl) (n : Nat) (A : Nat → Bool) (S : List Sd) (c f : Nat) : Nat → List Sd → Nat → Nat → Prop
  | zero : StepsR p n A S c f 0 S c f
  | skip {i : Nat} {S1 : List Sd} {c1 f1 : Nat} : StepsR p n A S c f i S1 c1 f1 → nxB p A 45 i = false → StepsR p n A S c f (i + 1) (setTo S1 n i (-1)) c1 f1
  | old {i j : Nat} {S1 : List Sd} {c1 f1 : Nat} {B : Nat → Bool} : StepsR p n A S c f i S1 c1 f1 → nxB p A 45 i = true → FuI p (kern p (ltr i) A) B → numP S1 B = some j → StepsR p n A S c f (i + 1) (setTo S1 n i j) c1 f1
  | many {i : Nat} {S1 : List Sd} {c1 f1 : Nat} {B : Nat → Bool} : StepsR p n A S c f i S1 c1 f1 → nxB p A 45 i = true → FuI p (kern p (ltr i) A) B → numP S1 B = none → 40 ≤ S1.length → StepsR p n A S c f (i + 1) (setTo S1 n i (-1)) c1 6
  | new {i : Nat} {S1 : List Sd} {c1 f1 : Nat} {B : Nat → Bool} : StepsR p n A S c f i S1 c1 f1 → nxB p A 45 i = true → FuI p (kern p (ltr i) A) B → numP S1 B = none → S1.length < 40 → StepsR p n A S c f (i + 1) (setTo (S1 ++ [sdN S1 B c1]) n i S1.length) (corN S1 B c1) f1

/-- findSteps' state -/
structure FsS (w wr : World) (tb base f4 f5 : Nat) (p : Pl) (v0 v : Value) (S : List Sd) (cores fault : Nat) (A : Nat → Bool) : Prop where
  fr : Fr (tb :: v0.ownBlock.toList) w wr
  tab : TbAt wr tb base p v S cores fault
  b4 : Blk wr f4 1215 (boolF A)
  b5 : Blk wr f5 52 (boolF (nxB p A 45))
  own : ∀ g, v.ownBlock = some g → v0.ownBlock = some g ∨ w.heap.size ≤ g
  n4 : v.ownBlock ≠ some f4
  n5 : v.ownBlock ≠ some f5
  l4 : w.heap.size ≤ f4
  l5 : w.heap.size ≤ f5
  lt : tb < w.heap.size
  co : cores ≤ S.length
  le : S.length ≤ 40
theorem FsS.fr0 {w wr w' : World} {tb base f4 f5 : Nat} {p : Pl} {v0 v : Value} {S : List Sd} {cores fault : Nat} {A : Nat → Bool} (h : FsS w wr tb base f4 f5 p v0 v S cores fault A) (k : Fr [] wr w') : FsS w w' tb base f4 f5 p v0 v S cores fault A :=
  ⟨h.fr.trans0 k, h.tab.fr0 k, h.b4.fr0 k, h.b5.fr0 k, h.own, h.n4, h.n5, h.l4, h.l5, h.lt, h.co, h.le⟩
/-- a block of its own changes -/
theorem FsS.far {w wr w' : World} {tb base f4 f5 x : Nat} {p : Pl} {v0 v : Value} {S : List Sd} {cores fault : Nat} {A : Nat → Bool} (h : FsS w wr tb base f4 f5 p v0 v S cores fault A) (k : Fr [x] wr w') (hx : w.heap.size ≤ x) (h4 : f4 ≠ x) (h5 : f5 ≠ x) (hv : v.ownBlock ≠ some x) : FsS w w' tb base f4 f5 p v0 v S cores fault A :=
  ⟨h.fr.trans1 k (Or.inr hx), h.tab.fr k (by have := h.lt; simp; omega) (fun g hg => by simp; intro e; exact hv (by rw [hg, e])), h.b4.fr1 k h4, h.b5.fr1 k h5, h.own, h.n4, h.n5, h.l4, h.l5, h.lt, h.co, h.le⟩
theorem corN_le (S : List Sd) (B : Nat → Bool) (c : Nat) (h : c ≤ S.length) : corN S B c ≤ (S ++ [sdN S B c]).length := by
  unfold corN; rw [List.length_append]; simp; split <;> omega
/-- numberOf has added a state -/
theorem FsS.new {w wr w' : World} {tb base f4 f5 : Nat} {p : Pl} {v0 v v' : Value} {S : List Sd} {cores fault : Nat} {A B : Nat → Bool} (h : FsS w wr tb base f4 f5 p v0 v S cores fault A) (k : Fr (tb :: v.ownBlock.toList) wr w') (ht : TbAt w' tb base p v' (S ++ [sdN S B cores]) (corN S B cores) fault) (hg : ∀ g, v'.ownBlock = some g → v.ownBlock = some g ∨ wr.heap.size ≤ g) (hl : S.length < 40) : FsS w w' tb base f4 f5 p v0 v' (S ++ [sdN S B cores]) (corN S B cores) fault A := by
  have hlt := h.lt
  have hsz := h.fr.size
  have h4 : f4 ∉ (tb :: v.ownBlock.toList) := by
    intro hm
    rcases List.mem_cons.1 hm with e | e
    · have := h.l4; omega
    · exact h.n4 (by simpa using e)
  have h5 : f5 ∉ (tb :: v.ownBlock.toList) := by
    intro hm
    rcases List.mem_cons.1 hm with e | e
    · have := h.l5; omega
    · exact h.n5 (by simpa using e)
  refine ⟨h.fr.trans k (fun x hx => ?_), ht, h.b4.fr k h4, h.b5.fr k h5, fun g hg' => ?_, fun e => ?_, fun e => ?_, h.l4, h.l5, h.lt, corN_le S B cores h.co, by rw [List.length_append]; simp; omega⟩
  · rcases List.mem_cons.1 hx with e | e
    · exact Or.inl (by rw [e]; simp)
    · rcases h.own x (by simpa using e) with e2 | e2
      · exact Or.inl (by rw [e2]; simp)
      · exact Or.inr e2
  · rcases hg g hg' with e | e
    · exact h.own g e
    · exact Or.inr (by omega)
  · rcases hg f4 e with e | e
    · exact h.n4 e
    · have := h.b4.lt; omega
  · rcases hg f5 e with e | e
    · exact h.n5 e
    · have := h.b5.lt; omega
/-- numberOf has found too many -/
theorem FsS.many {w wr w' : World} {tb base f4 f5 : Nat} {p : Pl} {v0 v : Value} {S : List Sd} {cores fault : Nat} {A : Nat → Bool} (h : FsS w wr tb base f4 f5 p v0 v S cores fault A) (k : Fr [tb] wr w') (ht : TbAt w' tb base p v S cores 6) : FsS w w' tb base f4 f5 p v0 v S cores 6 A := by
  have hlt := h.lt
  exact ⟨h.fr.trans k (by simp), ht, h.b4.fr1 k (by have := h.l4; omega), h.b5.fr1 k (by have := h.l5; omega), h.own, h.n4, h.n5, h.l4, h.l5, h.lt, h.co, h.le⟩
/-- the step is laid down -/
theorem FsS.put {w wr : World} {tb base f4 f5 g cap : Nat} {p : Pl} {v0 : Value} {S : List Sd} {cores fault : Nat} {A : Nat → Bool} (h : FsS w wr tb base f4 f5 p v0 (.slice (some ⟨g, 0, none⟩) S.length cap) S cores fault A) (n i : Nat) (hn : n < S.length) (hi : i < 52) (x : Int) :
    FsS w (wr.setCell ⟨g, n * 1268 + 1215 + i, none⟩ (.int .i64 x)) tb base f4 f5 p v0 (.slice (some ⟨g, 0, none⟩) (setTo S n i x).length cap) (setTo S n i x) cores fault A := by
  have k := (Fr.refl [g] wr).setCell ⟨g, n * 1268 + 1215 + i, none⟩ (by simp) (.int .i64 x)
  have hgo : (Value.slice (some ⟨g, 0, none⟩) S.length cap).ownBlock = some g := rfl
  have hgl := h.tab.row.lt hgo
  have htl := h.tab.lt
  rw [setTo_len]
  refine ⟨h.fr.trans k (fun y hy => ?_), ⟨h.tab.blk.fr1 k (by omega), by rw [setTo_len]; exact (h.tab.row.setCell _ _).congr fun j _ => rwF_setTo S n i x hn hi j, h.tab.lt⟩, h.b4.fr1 k (fun e => h.n4 (by rw [e]; exact hgo)), h.b5.fr1 k (fun e => h.n5 (by rw [e]; exact hgo)), h.own, h.n4, h.n5, h.l4, h.l5, h.lt, by rw [setTo_len]; exact h.co, by rw [setTo_len]; exact h.le⟩
  have e : y = g := by simpa using hy
  subst e
  rcases h.own y hgo with e | e
  · exact Or.inl (by rw [e]; simp)
  · exact Or.inr e
/-- where the step is laid down -/
theorem FsS.slot {w wr : World} {tb base f4 f5 : Nat} {p : Pl} {v0 v : Value} {S : List Sd} {cores fault : Nat} {A : Nat → Bool} (h : FsS w wr tb base f4 f5 p v0 v S cores fault A) (n i : Nat) (hn : n < S.length) (hi : i < 52) :
    ∃ g cap, v = .slice (some ⟨g, 0, none⟩) S.length cap ∧ wr.cell? ⟨tb, 1359, none⟩ = some (.slice (some ⟨g, 0, none⟩) S.length cap) ∧ wr.cell? ⟨g, n * 1268 + 1215 + i, none⟩ = some (.int .i64 ((sget S n).nx i)) ∧ wr.frozen? ⟨g, n * 1268 + 1215 + i, none⟩ = false := by
  obtain ⟨ao, cap, hv, hao⟩ := h.tab.form
  obtain ⟨g, rfl, _⟩ := hao (by omega)
  subst hv
  refine ⟨g, cap, rfl, h.tab.v, ?_, h.tab.row.free _⟩
  have := h.tab.row.cs n hn (1215 + i) (by omega)
  dsimp only at this
  rw [← Nat.add_assoc] at this
  rw [this, Nat.add_assoc, rwF_at _ _ _ (by omega)]
  unfold stF
  rw [if_neg (by omega), if_pos (by omega), Nat.add_sub_cancel_left]
end Go.Proofs.YtkglggkkbmmjkaaDoor
