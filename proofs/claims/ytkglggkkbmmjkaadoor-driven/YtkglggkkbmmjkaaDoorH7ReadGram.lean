import Derived.Test.YtkglggkkbmmjkaaDoorH6First
namespace Go.Proofs.YtkglggkkbmmjkaaDoor
open Go.RowKit

def joinF (F : Nat → Nat → Bool) (c : Nat) (S : Nat → Bool) : Nat → Nat → Bool := fun a x => F a x || (a == c && S x)
def ffRound (N : Nat → Bool) (rs : List Ru) (F : Nat → Nat → Bool) : Nat → Nat → Bool := rs.foldl (fun F r => joinF F r.L (beg N F (bytes r.R))) F
def ffUpTo (N : Nat → Bool) (rs : List Ru) (j : Nat) (F : Nat → Nat → Bool) : Nat → Nat → Bool := ffRound N (rs.take j) F
def iterF (f : (Nat → Nat → Bool) → (Nat → Nat → Bool)) : Nat → (Nat → Nat → Bool) → (Nat → Nat → Bool)
  | 0, F => F
  | n + 1, F => f (iterF f n F)
theorem ffUpTo_succ (N : Nat → Bool) (rs : List Ru) (j : Nat) (F : Nat → Nat → Bool) (h : j < rs.length) : ffUpTo N rs (j + 1) F = joinF (ffUpTo N rs j F) rs[j].L (beg N (ffUpTo N rs j F) (bytes rs[j].R)) := by
  unfold ffUpTo ffRound
  rw [List.take_succ_eq_append_getElem h, List.foldl_append]; rfl
theorem ffUpTo_all (N : Nat → Bool) (rs : List Ru) (j : Nat) (F : Nat → Nat → Bool) (h : rs.length ≤ j) : ffUpTo N rs j F = ffRound N rs F := by
  unfold ffUpTo; rw [List.take_of_length_le h]

theorem gF_join {v : Value} {st : Nat} {R N : Nat → Bool} {F : Nat → Nat → Bool} {e p : Int} (c : Nat) (S : Nat → Bool) (hc : bigB c = true) (i : Nat) :
    orF (gF v st R N F e p) (54 + (c - 65) * 27) 27 (fun i => F c (sgn i)) (fun i => S (sgn i)) i = gF v st R N (joinF F c S) e p i := by
  have h := bigB_iff.1 hc
  unfold orF
  by_cases hr : 54 + (c - 65) * 27 ≤ i ∧ i < 54 + (c - 65) * 27 + 27
  · rw [if_pos hr]
    obtain ⟨k, rfl⟩ : ∃ k, i = 54 + (c - 65) * 27 + k := ⟨i - (54 + (c - 65) * 27), by omega⟩
    rw [gF_first c k hc (by omega), Nat.add_sub_cancel_left]
    simp [joinF]
  · rw [if_neg hr]
    unfold gF
    by_cases h0 : i = 0
    · simp [h0]
    by_cases h1 : i = 1
    · simp [h1]
    by_cases h2 : i < 28
    · simp only [if_neg h0, if_neg h1, if_pos h2]
    by_cases h3 : i < 54
    · simp only [if_neg h0, if_neg h1, if_neg h2, if_pos h3]
    by_cases h4 : i < 756
    · have hne : (65 + (i - 54) / 27 == c) = false := by
        rw [beq_eq_false_iff_ne]
        intro he
        have hd : (i - 54) / 27 = c - 65 := by omega
        have := Nat.div_add_mod (i - 54) 27
        have := Nat.mod_lt (i - 54) (show 0 < 27 by omega)
        rw [hd] at *
        omega
      simp only [if_neg h0, if_neg h1, if_neg h2, if_neg h3, if_pos h4, joinF, hne, Bool.false_and, Bool.or_false]
    · simp only [if_neg h0, if_neg h1, if_neg h2, if_neg h3, if_neg h4]

theorem p_taddAll' (b c q cap : Nat) (rs : List Ru) (N : Nat → Bool) (F : Nat → Nat → Bool) (e p : Int) (S : Nat → Bool) (w : World) (h : GAt w b q cap rs N F e p) (hc : bigB c = true) :
    Calls Tryd.prog 72 #[.pointer (some ⟨b, 54, none⟩), .int .u8 c, Agg 27 fun i => sgF S (0 + i)] w fun e' w' => e' = .returned (.tuple #[]) ∧ Fr [b] w w' ∧ GAt w' b q cap rs N (joinF F c S) e p := by
  rw [show (Agg 27 fun i => sgF S (0 + i)) = Agg 27 fun i => .bool ((fun i => S (sgn i)) i) from Agg.congr fun i _ => by rw [Nat.zero_add]; rfl]
  refine (p_taddAll b 54 c 758 _ (fun i => F c (sgn i)) (fun i => S (sgn i)) w h.blk (by omega) hc (fun i hi => gF_first c i hc hi)).mono ?_
  rintro e w' ⟨rfl, hf, hB⟩
  exact ⟨rfl, hf, ⟨hB.congr fun i _ => gF_join c S hc i, h.ru.fr hf (by have := h.ne; simp; omega) h.lt, h.ne, Nat.lt_of_lt_of_le h.lt hf.size, h.small, h.len⟩⟩

/-- the rules' letters are letters -/
def RuOk (rs : List Ru) : Prop := ∀ i (h : i < rs.length), bigB rs[i].L = true ∧ ∀ j, j < rs[i].R.size → letB (ch rs[i].R j) = true

/-- the state of fillFirst -/
def TS (w wr : World) (b q cap : Nat) (rs : List Ru) (N : Nat → Bool) (F : Nat → Nat → Bool) (e p : Int) : Prop := Fr [b] w wr ∧ GAt wr b q cap rs N F e p ∧ b < w.heap.size ∧ q < w.heap.size
theorem TS.fr {w wr wr' : World} {b q cap : Nat} {rs : List Ru} {N : Nat → Bool} {F : Nat → Nat → Bool} {e p : Int} (h : TS w wr b q cap rs N F e p) (k : Fr [] wr wr') : TS w wr' b q cap rs N F e p := ⟨h.1.trans0 k, h.2.1.fr0 k, h.2.2⟩
theorem TS.far {w wr wr' : World} {b q cap x : Nat} {rs : List Ru} {N : Nat → Bool} {F : Nat → Nat → Bool} {e p : Int} (h : TS w wr b q cap rs N F e p) (k : Fr [x] wr wr') (hx : w.heap.size ≤ x) : TS w wr' b q cap rs N F e p :=
  ⟨h.1.trans1 k (Or.inr hx), h.2.1.fr k (by have := h.2.2; simp; omega) (by have := h.2.2; simp; omega), h.2.2⟩

set_option maxHeartbeats 1600000 in
theorem p_fillFirst (b q cap : Nat) (rs : List Ru) (N : Nat → Bool) (F : Nat → Nat → Bool) (e p : Int) (w : World) (h : GAt w b q cap rs N F e p) (hok : RuOk rs) :
    Calls Tryd.prog 57 #[.pointer (some ⟨b, 0, none⟩)] w fun e' w' => e' = .returned (.tuple #[]) ∧ Fr [b] w w' ∧ GAt w' b q cap rs N (iterF (ffRound N rs) rs.length F) e p := by
  have hlen := h.len
  have HS := hide (show TS w w b q cap rs N F e p from ⟨Fr.refl _ _, h, h.blk.lt, h.lt⟩)
  have HOk := hide hok
  clear h hok
  go_enter Tryd.func57, Tryd.ntmps57
  go_wp2
  go_loopw [2] (fun r wr => ∃ k : Nat, k ≤ rs.length ∧ r = .int .i64 k ∧ Hid (TS w wr b q cap rs N (iterF (ffRound N rs) k F) e p)) (fun r _ => rs.length - (intOf r).toNat)
  case atStart => exact ⟨0, by omega, rfl, HS⟩
  case round =>
    obtain ⟨k, hk, rfl, hs⟩ := hrel
    have c0 := (unhide hs).2.1.c0
    by_cases hlt : k < rs.length
    · go_wp2
      clear c0
      go_loopw [3] (fun i wr2 => ∃ j : Nat, j ≤ rs.length ∧ i = .int .i64 j ∧ Hid (TS w wr2 b q cap rs N (ffUpTo N rs j (iterF (ffRound N rs) k F)) e p)) (fun i _ => rs.length - (intOf i).toNat)
      case atStart => exact ⟨0, by omega, rfl, hs⟩
      case round =>
        obtain ⟨j, hj, rfl, hs2⟩ := hrel
        have c0 := (unhide hs2).2.1.c0
        by_cases hjt : j < rs.length
        · obtain ⟨a0, a1, a2⟩ := (unhide hs2).2.1.ru j hjt
          have hsm := ((unhide hs2).2.1.small j hjt).1
          have HX := hide ((unhide hs2).fr ((Fr.refl _ _).alloc (.cells #[.int .u8 rs[j].L, .string rs[j].R, .int .i64 rs[j].A] 114)))
          have HR := hide (Blk.newRu wr rs[j] 114)
          have HU := hide (ffUpTo_succ N rs j (iterF (ffRound N rs) k F) hjt)
          go_wp2_with (first | (go_at_call 71; refine (p_firstOf b q cap rs N _ e p _ _ (by exact (unhide HX).2.1) hsm (unhide HOk j hjt).2).mono ?_; rintro e' w3 ⟨rfl, hf3⟩; have HX3 := hide ((unhide HX).fr hf3); have HR3 := hide ((unhide HR).fr0 hf3); clear hf3) | (refine wpList_alloc_blk rfl 48 rfl (some 5) rfl 27 _ Tryd.zeroSign ?_; intro w4 hf4 hs4 hB4; have HX4 := hide ((unhide HX3).fr hf4); have HR4 := hide ((unhide HR3).fr0 hf4); have HB4 := hide hB4; clear hf4 hs4 hB4) | (refine wpList_store_blk rfl 48 (.tmp 5) (.tmp 34) rfl w3.heap.size 0 27 27 (sgF fun _ => false) (sgF (beg N (ffUpTo N rs j (iterF (ffRound N rs) k F)) (bytes rs[j].R))) rfl rfl (by exact unhide HB4) Tryd.sizeSign (by omega) (by intro i hi; rfl) ?_; intro w5 hf5 hs5 hB5; have HX5 := hide ((unhide HX4).far hf5 (by exact (unhide HX3).1.size)); have HR5 := hide ((unhide HR4).fr1 hf5 (by have := (unhide HR3).lt; omega)); have HB5 := hide (hB5.congr fun i hi => lay_all _ _ _ i hi); clear hf5 hs5 hB5))
          generalize hG : ffUpTo N rs j (iterF (ffRound N rs) k F) = G at *
          have HG := hide hG
          clear hG c0 a0 a1 a2 hs
          have lb1 : b < wr.heap.size := (unhide hs2).2.1.blk.lt
          have lb3 : b < w3.heap.size := (unhide HX3).2.1.blk.lt
          refine wp_region_held_drew (S := fun w' => Blk w' wr.heap.size 3 (ruF rs[j]) ∧ Blk w' w3.heap.size 27 (sgF (beg N G (bytes rs[j].R)))) (by kernel_rfl) ⟨(unhide HR5).drew, (unhide HB5).drew⟩ (fun hHeld => ?_)
          refine wpAnyH_take (i := 0) (v := .pointer (some ⟨b, 0, none⟩)) rfl (by kernel_rfl) (by kernel_rfl) (by kernel_rfl) (fun _ _ _ h => h) (Or.inl ⟨by rfl, fun _ _ => rfl⟩) hHeld ?_
          refine wpAnyH_take (i := 1) (v := .pointer (some ⟨b, 0, none⟩)) rfl (by kernel_rfl) (by kernel_rfl) (by kernel_rfl) (fun _ _ _ h => h) (Or.inl ⟨by rfl, fun _ _ => rfl⟩) hHeld ?_
          refine wpAnyH_take (i := 2) (v := .pointer (some ⟨b, 54, none⟩)) rfl (by kernel_rfl) (by kernel_rfl) (by kernel_rfl) (fun _ _ _ h => h) (Or.inl ⟨by rfl, fun _ _ => by go_simp⟩) hHeld ?_
          refine wpAnyH_take (i := 3) (v := .pointer (some ⟨wr.heap.size, 0, none⟩)) rfl (by kernel_rfl) (by kernel_rfl) (by kernel_rfl) (fun _ _ _ h => h) (Or.inl ⟨by rfl, fun _ _ => by go_simp⟩) hHeld ?_
          refine wpAnyH_take (i := 4) (v := .int .u8 rs[j].L) rfl (by kernel_rfl) (by kernel_rfl) (by kernel_rfl) (fun _ _ _ h => h) (Or.inl ⟨by rfl, fun w' hw => by have hc : w'.cell? ⟨wr.heap.size, 0, none⟩ = some (.int .u8 rs[j].L) := hw.1.cell 0 (by omega)
                                                                                                                                                                      go_simp⟩) hHeld ?_
          refine wpAnyH_take (i := 5) rfl (by kernel_rfl) (by kernel_rfl) (by kernel_rfl) (fun _ _ _ h => h) (yieldsIf_load_blk (by rfl) 48 (.tmp 5) rfl w3.heap.size 0 27 27 (sgF (beg N G (bytes rs[j].R))) _ rfl (fun _ h => h.2) Tryd.underlying48 rfl Tryd.sizeSign (by omega)) hHeld ?_
          refine wpAnyH_ready (rs := [6]) (by kernel_rfl) (by simp) ?_
          refine AllReadyH.cons rfl (fun K hK => ?_) AllReadyH.nil
          rw [if_pos (by rfl)]
          go_wp2_with fail
          refine (p_taddAll' b rs[j].L q cap rs N G e p (beg N G (bytes rs[j].R)) _ (by exact (unhide HX5).2.1.fr0 (Fr.refl [] w5).drew) (unhide HOk j hjt).1).mono ?_
          rintro e' w6 ⟨rfl, hf6, hg6⟩
          refine hK.out _ _ ⟨hHeld.1.fr1 hf6 (by omega), hHeld.2.fr1 hf6 (by omega)⟩ (fun _ => ?_)
          refine wpAnyH_done (by kernel_rfl) ?_ _
          have HY := hide (show TS w w6 b q cap rs N (ffUpTo N rs (j + 1) (iterF (ffRound N rs) k F)) e p from ⟨((unhide HX5).1.drew).trans hf6 (by simp), by rw [unhide HU]; exact hg6, (unhide HX5).2.2⟩)
          clear hg6 hf6 hK
          go_wp2
          go_roundw
          case rel => exact ⟨j + 1, by omega, by go_num, HY⟩
          case measure => simp [intOf]; omega
        · have HY := hide (show TS w wr b q cap rs N (iterF (ffRound N rs) (k + 1) F) e p from by
            have := unhide hs2
            rw [ffUpTo_all _ _ _ _ (by omega)] at this; exact this)
          clear hs2
          go_wp2
          go_roundw
          case rel => exact ⟨k + 1, by omega, by go_num, HY⟩
          case measure => simp [intOf]; omega
    · have HN := hide (show TS w wr b q cap rs N (iterF (ffRound N rs) rs.length F) e p from by
        have e1 : k = rs.length := by omega
        have := unhide hs
        rw [e1] at this; exact this)
      clear hs
      go_wp2
      go_end0
      exact ⟨rfl, (unhide HN).1, (unhide HN).2.1⟩
end Go.Proofs.YtkglggkkbmmjkaaDoor

namespace Go.Proofs.YtkglggkkbmmjkaaDoor
open Go.RowKit

/-- a rule that was read -/
def GoodRu (t : ByteArray) (r : Ru) : Prop := bigB r.L = true ∧ r.R.size ≤ 4 ∧ r.A < t.size ∧ ∀ j, j < r.R.size → letB (ch r.R j) = true

theorem goodRu_new (t : ByteArray) (i : Nat) (h : i < t.size ∧ bigB (ch t i) = true) (h1 : i + 1 < t.size) : GoodRu t ⟨ch t i, t.extract (i + 2) (runEnd t 4 (i + 2)), i⟩ := by
  have hb := runEnd_bd t 4 (i + 2)
  have hs : (t.extract (i + 2) (runEnd t 4 (i + 2))).size = runEnd t 4 (i + 2) - (i + 2) := by
    rw [ByteArray.size_extract]; omega
  refine ⟨h.2, by show (t.extract (i + 2) (runEnd t 4 (i + 2))).size ≤ 4; omega, h.1, fun j hj => ?_⟩
  have hj' : j < runEnd t 4 (i + 2) - (i + 2) := by rw [← hs]; exact hj
  show letB (ch (t.extract (i + 2) (runEnd t 4 (i + 2))) j) = true
  rw [ch_extract t _ _ j hj' (by omega)]
  exact runEnd_let t 4 (i + 2) (i + 2 + j) (by omega) (by omega)

theorem parse_good (t : ByteArray) : ∀ f i acc, (∀ r ∈ acc, GoodRu t r) → (∀ r ∈ (parse t f i acc).1, GoodRu t r) ∧ (parse t f i acc).1.length ≤ acc.length + f ∧ ((parse t f i acc).2.2 = true → 0 < (parse t f i acc).1.length)
  | 0, i, acc, h => by simp [parse]; exact h
  | f + 1, i, acc, h => by
    by_cases h0 : i < t.size ∧ bigB (ch t i) = true
    · by_cases h1 : i + 1 < t.size ∧ ch t (i + 1) = 61
      · have hg := goodRu_new t i h0 h1.1
        have hn : ∀ r ∈ acc ++ [⟨ch t i, t.extract (i + 2) (runEnd t 4 (i + 2)), i⟩], GoodRu t r := by
          intro r hr
          rcases List.mem_append.1 hr with hr | hr
          · exact h r hr
          · rw [List.mem_singleton.1 hr]; exact hg
        by_cases h2 : runEnd t 4 (i + 2) < t.size
        · by_cases h3 : f = 0 ∨ ch t (runEnd t 4 (i + 2)) ≠ 59
          · rw [parse_bad2 t f i acc h0 h1 h2 h3]; exact ⟨hn, by simp, fun h => by cases h⟩
          · rw [parse_more t f i acc h0 h1 h2 h3]
            obtain ⟨a, b, c⟩ := parse_good t f (runEnd t 4 (i + 2) + 1) _ hn
            exact ⟨a, by simp at b; omega, c⟩
        · rw [parse_end t f i acc h0 h1 h2]; exact ⟨hn, by simp, fun _ => by simp⟩
      · rw [parse_bad1 t f i acc h0 h1]; exact ⟨h, by show acc.length ≤ _; omega, fun h => by cases h⟩
    · rw [parse_bad0 t f i acc h0]; exact ⟨h, by show acc.length ≤ _; omega, fun h => by cases h⟩

theorem parse_ok (t : ByteArray) : RuOk (parse t 8 0 []).1 := fun i h => by
  have := (parse_good t 8 0 [] (by simp)).1 _ (List.getElem_mem h)
  exact ⟨this.1, this.2.2.2⟩
theorem parse_small (t : ByteArray) (ht : t.size ≤ 32) : (∀ i (h : i < (parse t 8 0 []).1.length), (parse t 8 0 []).1[i].R.size ≤ 1000 ∧ (parse t 8 0 []).1[i].A ≤ 1000) ∧ (parse t 8 0 []).1.length ≤ 8 := by
  have h := parse_good t 8 0 [] (by simp)
  refine ⟨fun i hi => ?_, by simpa using h.2.1⟩
  have := h.1 _ (List.getElem_mem hi)
  have h2 := this.2.1
  have h3 := this.2.2.1
  exact ⟨by omega, by omega⟩

def nullS (rs : List Ru) : Nat → Bool := iter (mkRound false rs) rs.length fun _ => false
def firstT (rs : List Ru) : Nat → Nat → Bool := iterF (ffRound (nullS rs) rs) rs.length fun _ _ => false
/-- what is wrong with a text, and where -/
def gErr (t : ByteArray) : Nat × Nat :=
  if 32 < t.size then (1, 0) else
  if (parse t 8 0 []).2.2 = false then (2, (parse t 8 0 []).2.1) else
  match names (rset (parse t 8 0 []).1) (parse t 8 0 []).1 with
  | some k => (3, k)
  | none => match deadAt (ends (parse t 8 0 []).1) (reach (parse t 8 0 []).1) (parse t 8 0 []).1 with
    | some k => (4, k)
    | none => (0, 0)

theorem gF_756 {v : Value} {st : Nat} {R N : Nat → Bool} {F : Nat → Nat → Bool} {e p : Int} : gF v st R N F e p 756 = .int .i64 e := by simp [gF]
theorem gF_757 {v : Value} {st : Nat} {R N : Nat → Bool} {F : Nat → Nat → Bool} {e p : Int} : gF v st R N F e p 757 = .int .i64 p := by simp [gF]
theorem gF_layNull {v : Value} {st : Nat} {R N N' : Nat → Bool} {F : Nat → Nat → Bool} {e p : Int} (i : Nat) : lay (gF v st R N F e p) 28 26 (setF N') i = gF v st R N' F e p i := by
  unfold lay
  by_cases h : 28 ≤ i ∧ i < 28 + 26
  · rw [if_pos h]
    obtain ⟨k, rfl⟩ : ∃ k, i = 28 + k := ⟨i - 28, by omega⟩
    rw [gF_null k (by omega), Nat.add_sub_cancel_left]; rfl
  · rw [if_neg h]
    unfold gF
    by_cases h0 : i = 0
    · simp [h0]
    by_cases h1 : i = 1
    · simp [h1]
    by_cases h2 : i < 28
    · simp only [if_neg h0, if_neg h1, if_pos h2]
    · simp only [if_neg h0, if_neg h1, if_neg h2, if_neg (show ¬ i < 54 by omega)]
theorem oneB_gF' (v : Value) (hv : v.oneCell' = true) (st : Nat) (R N : Nat → Bool) (F : Nat → Nat → Bool) (e p : Int) : oneB (gF v st R N F e p) 758 := fun i _ => by
  unfold gF
  split
  · exact hv
  split
  · rfl
  split
  · rfl
  split
  · rfl
  split
  · rfl
  split
  · rfl
  · rfl

theorem Fr.of_below {w w2 w3 : World} {B : Nat} (h : Fr [] w w2) (k : Below B w2 w3) (hB : w.heap.size ≤ B) : Fr [] w w3 :=
  ⟨k.os.trans h.os, k.tape.trans h.tape, k.output.trans h.output, Nat.le_trans h.size k.size, fun i hi hn => by rw [k.block i (by omega), h.block i hi hn]⟩
theorem Blk.below {w w' : World} {B b n : Nat} {f : Nat → Value} (h : Blk w b n f) (k : Below B w w') (hb : b < B) : Blk w' b n f := by
  obtain ⟨T, e⟩ := h
  exact ⟨T, by rw [k.block b hb, e]⟩

theorem Tryd.zeroGram : (Tryd.prog.info? 93).bind (·.zero) = some (Agg 758 (gF (.slice none 0 0) 0 (fun _ => false) (fun _ => false) (fun _ _ => false) 0 0)) := by kernel_rfl
theorem Tryd.sizeGram : (Tryd.prog.info? 93).map (·.size) = some 758 := by kernel_rfl

end Go.Proofs.YtkglggkkbmmjkaaDoor

namespace Go.Proofs.YtkglggkkbmmjkaaDoor
open Go.RowKit

/-- what readGrammar hands back -/
def GramOut (t : ByteArray) (w w' : World) (f : Nat → Value) : Prop :=
  Fr [] w w' ∧ oneB f 758 ∧ f 756 = .int .i64 (gErr t).1 ∧ f 757 = .int .i64 (gErr t).2 ∧
  ((gErr t).1 = 0 → t.size ≤ 32 ∧ (parse t 8 0 []).2.2 = true ∧ ∃ q cap, f = gF (.slice (some ⟨q, 0, none⟩) (parse t 8 0 []).1.length cap) (stOf (parse t 8 0 []).1) (rset (parse t 8 0 []).1) (nullS (parse t 8 0 []).1) (firstT (parse t 8 0 []).1) 0 0 ∧
    RuAt w' q (parse t 8 0 []).1 ∧ w.heap.size ≤ q ∧ q < w'.heap.size)

set_option maxHeartbeats 1600000 in
theorem p_readGrammar_long (t : ByteArray) (w : World) (ht : 32 < t.size) (hm : t.size ≤ 9223372036854775807) :
    Calls Tryd.prog 39 #[.string t] w fun e w' => ∃ f, e = .returned (Agg 758 f) ∧ GramOut t w w' f := by
  have HG := hide (show gErr t = (1, 0) from by unfold gErr; rw [if_pos ht])
  go_enter Tryd.func39, Tryd.ntmps39
  go_wp2_with (first
    | (refine wpList_alloc_blk rfl 93 rfl (some 2) rfl 758 _ Tryd.zeroGram ?_; intro w1 hf1 hs1 hB1; have HF1 := hide hf1; have HB1 := hide hB1; clear hf1 hs1 hB1)
    | (refine wpList_alloc_blk rfl 93 rfl (some 3) rfl 758 _ Tryd.zeroGram ?_; intro w2 hf2 hs2 hB2; have HF2 := hide hf2; have HB2 := hide hB2; have HR2 := hide ((unhide HB1).fr0 hf2); clear hf2 hs2 hB2)
    | (go_at_call 52; refine (p_refuse w1.heap.size 1 0 _ _ (by exact unhide HB2)).mono ?_; rintro e w3 ⟨rfl, hf3⟩; have HF3 := hide hf3.1; have HB3 := hide (hf3.2.2.congr fun i hi => gF_ref _ _ _ _ _ _ _ _ _ i hi); have HR3 := hide ((unhide HR2).fr1 hf3.1 (by have := (unhide HB1).lt; omega)); clear hf3)
    | (refine wpList_load_blk rfl 93 (.tmp 3) rfl (some 8) rfl w1.heap.size 0 758 758 (gF (.slice none 0 0) 0 (fun _ => false) (fun _ => false) (fun _ _ => false) 1 0) _ rfl (by exact unhide HB3) Tryd.underlying93 rfl Tryd.sizeGram (by omega) ?_)
    | (refine wpList_store_blk rfl 93 (.tmp 2) (.tmp 8) rfl w.heap.size 0 758 758 (gF (.slice none 0 0) 0 (fun _ => false) (fun _ => false) (fun _ _ => false) 0 0) (fun i => gF (.slice none 0 0) 0 (fun _ => false) (fun _ => false) (fun _ _ => false) 1 0 (0 + i)) rfl rfl (by exact unhide HR3) Tryd.sizeGram (by omega) (by intro i hi; exact oneB_gF' _ rfl _ _ _ _ _ _ _ (by omega)) ?_; intro w9 hf9 hs9 hB9))
  have hfin : Blk w9 w.heap.size 758 (gF (.slice none 0 0) 0 (fun _ => false) (fun _ => false) (fun _ _ => false) 1 0) := hB9.congr fun i hi => by rw [lay_all _ _ _ _ hi, Nat.zero_add]
  refine bodyPost_ret (results_cell Tryd.results39 _ w.heap.size rfl 758 758 _ _ hfin Tryd.underlying93 rfl Tryd.sizeGram (by omega)) rfl ⟨_, rfl, ?_⟩
  refine ⟨(((unhide HF1).trans0 (unhide HF2)).trans1 (unhide HF3) (Or.inr (unhide HF1).size)).trans1 hf9 (Or.inr (Nat.le_refl _)), oneB_gF' _ rfl _ _ _ _ _ _, ?_, ?_, ?_⟩
  · rw [gF_756, unhide HG]; rfl
  · rw [gF_757, unhide HG]; rfl
  · rw [unhide HG]; intro h; cases h

end Go.Proofs.YtkglggkkbmmjkaaDoor
