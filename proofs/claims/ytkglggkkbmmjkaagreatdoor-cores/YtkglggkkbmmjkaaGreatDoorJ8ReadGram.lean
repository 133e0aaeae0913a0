import Derived.Test.YtkglggkkbmmjkaaGreatDoorJ7Fill
namespace Go.Proofs.YtkglggkkbmmjkaaGreatDoor
open Go.RowKit

/-- a rule that was read -/
def GoodRu (t : ByteArray) (r : Ru) : Prop := bigB r.L = true ∧ r.R.size ≤ 4 ∧ r.A < t.size ∧ ∀ j, j < r.R.size → letB (ch r.R j) = true

theorem goodRu_new (t : ByteArray) (i : Nat) (h : i < t.size ∧ bigB (ch t i) = true) (h1 : i + 1 < t.size) : GoodRu t ⟨ch t i, t.extract (i + 2) (runEnd t 4 (i + 2)), i⟩ := by
  have hb := runEnd_bd t 4 (i + 2)
  have hs : (t.extract (i + 2) (runEnd t 4 (i + 2))).size = runEnd t 4 (i + 2) - (i + 2) := by
    rw [ByteArray.size_extract]; omega
  refine ⟨h.2, by show (t.extract (i + 2) (runEnd t 4 (i + 2))).size ≤ 4; omega, h.1, fun j hj => ?_⟩
  have hj' : j < runEnd t 4 (i + 2) - (i + 2) := by rw [← hs]; exact hj
  show letB (ch (t.extract (i + 2) (runEnd t 4 (i + 2))) j) = true
  rw [ch_extract t _ _ j hj' (by omega)]
  exact runEnd_let t 4 (i + 2) (i + 2 + j) (by omega) (by omega)

theorem parse_good (t : ByteArray) : ∀ f i acc, (∀ r ∈ acc, GoodRu t r) → (∀ r ∈ (parse t f i acc).1, GoodRu t r) ∧ (parse t f i acc).1.length ≤ acc.length + f ∧ ((parse t f i acc).2.2 = true → 0 < (parse t f i acc).1.length)
  | 0, i, acc, h => by simp [parse]; exact h
  | f + 1, i, acc, h => by
    by_cases h0 : i < t.size ∧ bigB (ch t i) = true
    · by_cases h1 : i + 1 < t.size ∧ ch t (i + 1) = 61
      · have hg := goodRu_new t i h0 h1.1
        have hn : ∀ r ∈ acc ++ [⟨ch t i, t.extract (i + 2) (runEnd t 4 (i + 2)), i⟩], GoodRu t r := by
          intro r hr
          rcases List.mem_append.1 hr with hr | hr
          · exact h r hr
          · rw [List.mem_singleton.1 hr]; exact hg
        by_cases h2 : runEnd t 4 (i + 2) < t.size
        · by_cases h3 : f = 0 ∨ ch t (runEnd t 4 (i + 2)) ≠ 59
          · rw [parse_bad2 t f i acc h0 h1 h2 h3]; exact ⟨hn, by simp, fun h => by cases h⟩
          · rw [parse_more t f i acc h0 h1 h2 h3]
            obtain ⟨a, b, c⟩ := parse_good t f (runEnd t 4 (i + 2) + 1) _ hn
            exact ⟨a, by simp at b; omega, c⟩
        · rw [parse_end t f i acc h0 h1 h2]; exact ⟨hn, by simp, fun _ => by simp⟩
      · rw [parse_bad1 t f i acc h0 h1]; exact ⟨h, by show acc.length ≤ _; omega, fun h => by cases h⟩
    · rw [parse_bad0 t f i acc h0]; exact ⟨h, by show acc.length ≤ _; omega, fun h => by cases h⟩

theorem parse_ok (t : ByteArray) : RuOk (parse t 8 0 []).1 := fun i h => by
  have := (parse_good t 8 0 [] (by simp)).1 _ (List.getElem_mem h)
  exact ⟨this.1, this.2.2.2⟩
theorem parse_small (t : ByteArray) (ht : t.size ≤ 32) : (∀ i (h : i < (parse t 8 0 []).1.length), (parse t 8 0 []).1[i].R.size ≤ 1000 ∧ (parse t 8 0 []).1[i].A ≤ 1000) ∧ (parse t 8 0 []).1.length ≤ 8 := by
  have h := parse_good t 8 0 [] (by simp)
  refine ⟨fun i hi => ?_, by simpa using h.2.1⟩
  have := h.1 _ (List.getElem_mem hi)
  have h2 := this.2.1
  have h3 := this.2.2.1
  exact ⟨by omega, by omega⟩

def nullS (rs : List Ru) : Nat → Bool := iter (mkRound false rs) rs.length fun _ => false
def firstT (rs : List Ru) : Nat → Nat → Bool := iterF (ffRound (nullS rs) rs) rs.length fun _ _ => false
/-- what is wrong with a text, and where -/
def gErr (t : ByteArray) : Nat × Nat :=
  if 32 < t.size then (1, 0) else
  if (parse t 8 0 []).2.2 = false then (2, (parse t 8 0 []).2.1) else
  match names (rset (parse t 8 0 []).1) (parse t 8 0 []).1 with
  | some k => (3, k)
  | none => match deadAt (ends (parse t 8 0 []).1) (reach (parse t 8 0 []).1) (parse t 8 0 []).1 with
    | some k => (4, k)
    | none => (0, 0)

theorem gF_756 {v : Value} {st : Nat} {R N : Nat → Bool} {F : Nat → Nat → Bool} {e p : Int} : gF v st R N F e p 756 = .int .i64 e := by simp [gF]
theorem gF_757 {v : Value} {st : Nat} {R N : Nat → Bool} {F : Nat → Nat → Bool} {e p : Int} : gF v st R N F e p 757 = .int .i64 p := by simp [gF]
theorem gF_layNull {v : Value} {st : Nat} {R N N' : Nat → Bool} {F : Nat → Nat → Bool} {e p : Int} (i : Nat) : lay (gF v st R N F e p) 28 26 (setF N') i = gF v st R N' F e p i := by
  unfold lay
  by_cases h : 28 ≤ i ∧ i < 28 + 26
  · rw [if_pos h]
    obtain ⟨k, rfl⟩ : ∃ k, i = 28 + k := ⟨i - 28, by omega⟩
    rw [gF_null k (by omega), Nat.add_sub_cancel_left]; rfl
  · rw [if_neg h]
    unfold gF
    by_cases h0 : i = 0
    · simp [h0]
    by_cases h1 : i = 1
    · simp [h1]
    by_cases h2 : i < 28
    · simp only [if_neg h0, if_neg h1, if_pos h2]
    · simp only [if_neg h0, if_neg h1, if_neg h2, if_neg (show ¬ i < 54 by omega)]
theorem oneB_gF' (v : Value) (hv : v.oneCell' = true) (st : Nat) (R N : Nat → Bool) (F : Nat → Nat → Bool) (e p : Int) : oneB (gF v st R N F e p) 758 := fun i _ => by
  unfold gF
  split
  · exact hv
  split
  · rfl
  split
  · rfl
  split
  · rfl
  split
  · rfl
  split
  · rfl
  · rfl

theorem Fr.of_below {w w2 w3 : World} {B : Nat} (h : Fr [] w w2) (k : Below B w2 w3) (hB : w.heap.size ≤ B) : Fr [] w w3 :=
  ⟨k.os.trans h.os, k.tape.trans h.tape, k.output.trans h.output, Nat.le_trans h.size k.size, fun i hi hn => by rw [k.block i (by omega), h.block i hi hn]⟩
theorem Blk.below {w w' : World} {B b n : Nat} {f : Nat → Value} (h : Blk w b n f) (k : Below B w w') (hb : b < B) : Blk w' b n f := by
  obtain ⟨T, e⟩ := h
  exact ⟨T, by rw [k.block b hb, e]⟩

theorem Tryz.zeroGram : (Tryz.prog.info? 53).bind (·.zero) = some (Agg 758 (gF (.slice none 0 0) 0 (fun _ => false) (fun _ => false) (fun _ _ => false) 0 0)) := by kernel_rfl
theorem Tryz.sizeGram : (Tryz.prog.info? 53).map (·.size) = some 758 := by kernel_rfl

end Go.Proofs.YtkglggkkbmmjkaaGreatDoor

namespace Go.Proofs.YtkglggkkbmmjkaaGreatDoor
open Go.RowKit

/-- what readGrammar hands back -/
def GramOut (t : ByteArray) (w w' : World) (f : Nat → Value) : Prop :=
  Fr [] w w' ∧ oneB f 758 ∧ f 756 = .int .i64 (gErr t).1 ∧ f 757 = .int .i64 (gErr t).2 ∧
  ((gErr t).1 = 0 → t.size ≤ 32 ∧ (parse t 8 0 []).2.2 = true ∧ ∃ q cap, f = gF (.slice (some ⟨q, 0, none⟩) (parse t 8 0 []).1.length cap) (stOf (parse t 8 0 []).1) (rset (parse t 8 0 []).1) (nullS (parse t 8 0 []).1) (firstT (parse t 8 0 []).1) 0 0 ∧
    RuAt w' q (parse t 8 0 []).1 ∧ w.heap.size ≤ q ∧ q < w'.heap.size)

set_option maxHeartbeats 1600000 in
theorem p_readGrammar_long (t : ByteArray) (w : World) (ht : 32 < t.size) (hm : t.size ≤ 9223372036854775807) :
    Calls Tryz.prog 23 #[.string t] w fun e w' => ∃ f, e = .returned (Agg 758 f) ∧ GramOut t w w' f := by
  have HG := hide (show gErr t = (1, 0) from by unfold gErr; rw [if_pos ht])
  go_enter Tryz.func23, Tryz.ntmps23
  go_wp2_with (first
    | (refine wpList_alloc_blk rfl 53 rfl (some 2) rfl 758 _ Tryz.zeroGram ?_; intro w1 hf1 hs1 hB1; have HF1 := hide hf1; have HB1 := hide hB1; clear hf1 hs1 hB1)
    | (refine wpList_alloc_blk rfl 53 rfl (some 3) rfl 758 _ Tryz.zeroGram ?_; intro w2 hf2 hs2 hB2; have HF2 := hide hf2; have HB2 := hide hB2; have HR2 := hide ((unhide HB1).fr0 hf2); clear hf2 hs2 hB2)
    | (go_at_call 55; refine (p_refuse w1.heap.size 1 0 _ _ (by exact unhide HB2)).mono ?_; rintro e w3 ⟨rfl, hf3⟩; have HF3 := hide hf3.1; have HB3 := hide (hf3.2.2.congr fun i hi => gF_ref _ _ _ _ _ _ _ _ _ i hi); have HR3 := hide ((unhide HR2).fr1 hf3.1 (by have := (unhide HB1).lt; omega)); clear hf3)
    | (refine wpList_load_blk rfl 53 (.tmp 3) rfl (some 8) rfl w1.heap.size 0 758 758 (gF (.slice none 0 0) 0 (fun _ => false) (fun _ => false) (fun _ _ => false) 1 0) _ rfl (by exact unhide HB3) Tryz.underlying53 rfl Tryz.sizeGram (by omega) ?_)
    | (refine wpList_store_blk rfl 53 (.tmp 2) (.tmp 8) rfl w.heap.size 0 758 758 (gF (.slice none 0 0) 0 (fun _ => false) (fun _ => false) (fun _ _ => false) 0 0) (fun i => gF (.slice none 0 0) 0 (fun _ => false) (fun _ => false) (fun _ _ => false) 1 0 (0 + i)) rfl rfl (by exact unhide HR3) Tryz.sizeGram (by omega) (by intro i hi; exact oneB_gF' _ rfl _ _ _ _ _ _ _ (by omega)) ?_; intro w9 hf9 hs9 hB9))
  have hfin : Blk w9 w.heap.size 758 (gF (.slice none 0 0) 0 (fun _ => false) (fun _ => false) (fun _ _ => false) 1 0) := hB9.congr fun i hi => by rw [lay_all _ _ _ _ hi, Nat.zero_add]
  refine bodyPost_ret (results_cell Tryz.results23 _ w.heap.size rfl 758 758 _ _ hfin Tryz.underlying53 rfl Tryz.sizeGram (by omega)) rfl ⟨_, rfl, ?_⟩
  refine ⟨(((unhide HF1).trans0 (unhide HF2)).trans1 (unhide HF3) (Or.inr (unhide HF1).size)).trans1 hf9 (Or.inr (Nat.le_refl _)), oneB_gF' _ rfl _ _ _ _ _ _, ?_, ?_, ?_⟩
  · rw [gF_756, unhide HG]; rfl
  · rw [gF_757, unhide HG]; rfl
  · rw [unhide HG]; intro h; cases h

end Go.Proofs.YtkglggkkbmmjkaaGreatDoor
