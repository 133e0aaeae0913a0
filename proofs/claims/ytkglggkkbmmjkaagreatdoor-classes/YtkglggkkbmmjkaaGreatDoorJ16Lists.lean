import Derived.Test.YtkglggkkbmmjkaaGreatDoorJ9Scr
import Derived.Laws.IdiomStrings
namespace Go.Proofs.YtkglggkkbmmjkaaGreatDoor
open Go.RowKit

def wordB (rs : List Ru) (c : Nat) : Bool := smallB c || hasB (rset rs) c
theorem p_isSmall_is (c : Nat) (v : Bool) (w : World) (h : smallB c = v) : Calls Tryz.prog 117 #[.int .u8 c] w fun e w' => e = .returned (.bool v) ∧ w' = w := by
  subst h; exact p_isSmall c w

set_option maxHeartbeats 1000000 in
theorem p_isWord (b q cap : Nat) (rs : List Ru) (N : Nat → Bool) (F : Nat → Nat → Bool) (e p : Int) (s : ByteArray) (w : World) (h : GAt w b q cap rs N F e p) (hs : s.size ≤ 1000) :
    Calls Tryz.prog 116 #[.pointer (some ⟨b, 0, none⟩), .string s] w fun e' w' => e' = .returned (.bool ((bytes s).all (wordB rs))) ∧ Fr [] w w' := by
  have H := hide h
  clear h
  go_enter Tryz.func116, Tryz.ntmps116
  go_wp2
  go_loopw [5] (fun i wr => ∃ k : Nat, k ≤ s.size ∧ i = .int .i64 k ∧ Hid (((bytes s).take k).all (wordB rs) = true) ∧ Hid (Fr [] w wr)) (fun i _ => s.size - (intOf i).toNat)
  case atStart => exact ⟨0, by omega, rfl, rfl, Fr.refl _ _⟩
  case round =>
    obtain ⟨k, hk, rfl, hd, hf⟩ := hrel
    by_cases hlt : k < s.size
    · have hch := hide (ch_eq s k hlt)
      have HM := hide (show ((bytes s).take (k + 1)).all (wordB rs) = wordB rs s[k].toNat from by
        rw [bytes_snoc s k hlt, List.all_append, unhide hd, unhide hch]; simp)
      have HSet := hide ((unhide H).fr0 (unhide hf)).ruled
      clear hd
      cases h1 : smallB s[k].toNat
      · cases h2 : hasB (rset rs) s[k].toNat
        · have HE := hide (show (bytes s).all (wordB rs) = false from by
            rw [← List.take_append_drop (k + 1) (bytes s), List.all_append, unhide HM]; simp [wordB, h1, h2])
          clear HM
          go_wp2
          go_quiet ((first | (go_at_call 117; exact Calls.quiet_of_same (p_isSmall_is _ false _ h1)) | (go_at_call 110; exact Calls.quiet_of_same (p_has_is _ _ _ _ false _ (by exact unhide HSet) h2))))
          go_wp2
          go_ret
          exact ⟨ret_bool (a := false) (unhide HE).symm, (unhide hf).trans0 (fr_drewN _ _)⟩
        · have HN := hide (show ((bytes s).take (k + 1)).all (wordB rs) = true from (unhide HM).trans (by simp [wordB, h2]))
          clear HM
          go_wp2
          go_quiet ((first | (go_at_call 117; exact Calls.quiet_of_same (p_isSmall_is _ false _ h1)) | (go_at_call 110; exact Calls.quiet_of_same (p_has_is _ _ _ _ true _ (by exact unhide HSet) h2))))
          go_wp2
          go_roundw
          case rel => exact ⟨k + 1, by omega, by go_num, HN, (unhide hf).trans0 (fr_drewN _ _)⟩
          case measure => simp [intOf]; omega
      · have HN := hide (show ((bytes s).take (k + 1)).all (wordB rs) = true from (unhide HM).trans (by simp [wordB, h1]))
        clear HM
        go_wp2
        go_quiet ((go_at_call 117; exact Calls.quiet_of_same (p_isSmall_is _ true _ h1)))
        go_wp2
        go_roundw
        case rel => exact ⟨k + 1, by omega, by go_num, HN, (unhide hf).trans0 (fr_drewN _ _)⟩
        case measure => simp [intOf]; omega
    · have HE := hide (show (bytes s).all (wordB rs) = true from by rw [← bytes_take_all s k (by omega)]; exact unhide hd)
      go_wp2
      go_ret
      exact ⟨ret_bool (a := true) (unhide HE).symm, unhide hf⟩

set_option maxHeartbeats 400000 in
theorem p_isNull (b q cap : Nat) (rs : List Ru) (N : Nat → Bool) (F : Nat → Nat → Bool) (e p : Int) (s : ByteArray) (w : World) (h : GAt w b q cap rs N F e p) (hs : s.size ≤ 1000) :
    Calls Tryz.prog 67 #[.pointer (some ⟨b, 0, none⟩), .string s] w fun e' w' => e' = .returned (.bool ((bytes s).all (vanB N false))) ∧ w' = w := by
  have H := hide h
  clear h
  go_enter Tryz.func67, Tryz.ntmps67
  go_wp2_with (go_at_call 113; refine (p_vanishes s b 28 N false _ hs (by exact (unhide H).null)).mono ?_; rintro e' w' ⟨rfl, rfl⟩)
  go_ret
  exact ⟨rfl, rfl⟩

/-- what is wrong with a word -/
def wErr (t s : ByteArray) : Nat := if 12 < s.size then 1 else if (gErr t).1 ≠ 0 then (gErr t).1 else if (bytes s).all (wordB (parse t 8 0 []).1) then 0 else 5

/-- what readWithWord hands back -/
def WordOut (t s : ByteArray) (w w' : World) (f : Nat → Value) : Prop :=
  Fr [] w w' ∧ oneB f 758 ∧ f 756 = .int .i64 (wErr t s) ∧
  (wErr t s = 0 → s.size ≤ 12 ∧ t.size ≤ 32 ∧ (gErr t).1 = 0 ∧ (parse t 8 0 []).2.2 = true ∧ (bytes s).all (wordB (parse t 8 0 []).1) = true ∧ ∃ q cap, f = gF (.slice (some ⟨q, 0, none⟩) (parse t 8 0 []).1.length cap) (stOf (parse t 8 0 []).1) (rset (parse t 8 0 []).1) (nullS (parse t 8 0 []).1) (firstT (parse t 8 0 []).1) 0 0 ∧
    RuAt w' q (parse t 8 0 []).1 ∧ w.heap.size ≤ q ∧ q < w'.heap.size)

set_option maxHeartbeats 1600000 in
theorem p_readWithWord_long (t s : ByteArray) (w : World) (hs : 12 < s.size) (hm : s.size ≤ 9223372036854775807) :
    Calls Tryz.prog 66 #[.string t, .string s] w fun e w' => ∃ f, e = .returned (Agg 758 f) ∧ WordOut t s w w' f := by
  have HG := hide (show wErr t s = 1 from by unfold wErr; rw [if_pos hs])
  go_enter Tryz.func66, Tryz.ntmps66
  go_wp2_with (first
    | (refine wpList_alloc_blk rfl 53 rfl (some 4) rfl 758 _ Tryz.zeroGram ?_; intro w1 hf1 hs1 hB1; have HF1 := hide hf1; have HB1 := hide hB1; clear hf1 hs1 hB1)
    | (refine wpList_alloc_blk rfl 53 rfl (some 5) rfl 758 _ Tryz.zeroGram ?_; intro w2 hf2 hs2 hB2; have HF2 := hide hf2; have HB2 := hide hB2; have HR2 := hide ((unhide HB1).fr0 hf2); clear hf2 hs2 hB2)
    | (go_at_call 55; refine (p_refuse w1.heap.size 1 0 _ _ (by exact unhide HB2)).mono ?_; rintro e w3 ⟨rfl, hf3⟩; have HF3 := hide hf3.1; have HB3 := hide (hf3.2.2.congr fun i hi => gF_ref _ _ _ _ _ _ _ _ _ i hi); have HR3 := hide ((unhide HR2).fr1 hf3.1 (by have := (unhide HB1).lt; omega)); clear hf3)
    | (refine wpList_load_blk rfl 53 (.tmp 5) rfl (some 11) rfl w1.heap.size 0 758 758 (gF (.slice none 0 0) 0 (fun _ => false) (fun _ => false) (fun _ _ => false) 1 0) _ rfl (by exact unhide HB3) Tryz.underlying53 rfl Tryz.sizeGram (by omega) ?_)
    | (refine wpList_store_blk rfl 53 (.tmp 4) (.tmp 11) rfl w.heap.size 0 758 758 (gF (.slice none 0 0) 0 (fun _ => false) (fun _ => false) (fun _ _ => false) 0 0) (fun i => gF (.slice none 0 0) 0 (fun _ => false) (fun _ => false) (fun _ _ => false) 1 0 (0 + i)) rfl rfl (by exact unhide HR3) Tryz.sizeGram (by omega) (by intro i hi; exact oneB_gF' _ rfl _ _ _ _ _ _ _ (by omega)) ?_; intro w9 hf9 hs9 hB9))
  have hfin : Blk w9 w.heap.size 758 (gF (.slice none 0 0) 0 (fun _ => false) (fun _ => false) (fun _ _ => false) 1 0) := hB9.congr fun i hi => by rw [lay_all _ _ _ _ hi, Nat.zero_add]
  refine bodyPost_ret (results_cell Tryz.results66 _ w.heap.size rfl 758 758 _ _ hfin Tryz.underlying53 rfl Tryz.sizeGram (by omega)) rfl ⟨_, rfl, ?_⟩
  refine ⟨(((unhide HF1).trans0 (unhide HF2)).trans1 (unhide HF3) (Or.inr (unhide HF1).size)).trans1 hf9 (Or.inr (Nat.le_refl _)), oneB_gF' _ rfl _ _ _ _ _ _, ?_, ?_⟩
  · rw [gF_756, unhide HG]; rfl
  · rw [unhide HG]; intro h; cases h

set_option maxHeartbeats 1600000 in
theorem p_readWithWord_short (t s : ByteArray) (w : World) (hs : s.size ≤ 12) (hm : t.size ≤ 9223372036854775807) :
    Calls Tryz.prog 66 #[.string t, .string s] w fun e w' => ∃ f, e = .returned (Agg 758 f) ∧ WordOut t s w w' f := by
  by_cases h0 : (gErr t).1 = 0
  · cases hw : (bytes s).all (wordB (parse t 8 0 []).1)
    · have HW := hide (show wErr t s = 5 from by unfold wErr; rw [if_neg (by omega), if_neg (by rw [h0]; simp), hw]; rfl)
      have H0 := hide h0
      have HWd := hide hw
      clear h0 hw
      go_enter Tryz.func66, Tryz.ntmps66
      go_wp2_with (first
        | (refine wpList_alloc_blk rfl 53 rfl (some 4) rfl 758 _ Tryz.zeroGram ?_; intro w1 hf1 hs1 hB1; have HF1 := hide hf1; have HB1 := hide hB1; clear hf1 hs1 hB1)
        | (go_at_call 23; refine (p_readGrammar t _ hm).mono ?_; rintro e w2 ⟨f, rfl, hg⟩; obtain ⟨q, cap, hfq, hru, hq1, hq2⟩ := (hg.2.2.2.2 (unhide H0)).2.2; have HG := hide hg; have HR2 := hide ((unhide HB1).fr0 hg.1); have HFQ := hide hfq; have HRU := hide hru; have HQ2 := hide hq2; have HQ1 := hide hq1; have HT := hide (hg.2.2.2.2 (unhide H0)).1; clear hg hfq hru hq1 hq2)
        | (refine wpList_alloc_blk rfl 53 rfl (some 6) rfl 758 _ Tryz.zeroGram ?_; intro w3 hf3 hs3 hB3; have HF3 := hide hf3; have HB3 := hide hB3; have HR3 := hide ((unhide HR2).fr0 hf3); clear hf3 hs3 hB3)
        | (refine wpList_store_blk rfl 53 (.tmp 6) (.tmp 13) rfl w2.heap.size 0 758 758 (gF (.slice none 0 0) 0 (fun _ => false) (fun _ => false) (fun _ _ => false) 0 0) f rfl rfl (by exact unhide HB3) Tryz.sizeGram (by omega) (by exact (unhide HG).2.1) ?_; intro w4 hf4 hs4 hB4; have HF4 := hide hf4; have HR4 := hide ((unhide HR3).fr1 hf4 (by have := (unhide HR2).lt; omega)); have HG4 := hide (show GAt w4 w2.heap.size q cap (parse t 8 0 []).1 (nullS (parse t 8 0 []).1) (firstT (parse t 8 0 []).1) 0 0 from ⟨by rw [← unhide HFQ]; exact hB4.congr fun i hi => lay_all _ _ _ i hi, ((unhide HRU).fr (unhide HF3) (by simp) (unhide HQ2)).fr hf4 (by have := unhide HQ2; simp; omega) (by have := unhide HQ2; have := (unhide HF3).size; omega), by have := unhide HQ2; omega, by have := unhide HQ2; have := (unhide HF3).size; have := hf4.size; omega, (parse_small t (unhide HT)).1, (parse_small t (unhide HT)).2⟩); have c6 := ((unhide HG4).blk.cell 756 (by omega)).trans (congrArg some gF_756); clear hf4 hs4 hB4)
        | (go_at_call 116; refine (p_isWord w2.heap.size q cap (parse t 8 0 []).1 _ _ 0 0 s _ (by exact unhide HG4) (by omega)).mono ?_; rintro e w5 ⟨rfl, hf5⟩; rw [unhide HWd]; have HG5 := hide ((unhide HG4).fr0 hf5); have HR5 := hide ((unhide HR4).fr0 hf5); have HF5 := hide hf5; clear hf5)
        | (go_at_call 55; refine (p_refuse w2.heap.size 5 0 _ _ (by exact (unhide HG5).blk)).mono ?_; rintro e w6 ⟨rfl, hf6⟩; have HF6 := hide hf6.1; have HB6 := hide (hf6.2.2.congr fun i hi => gF_ref _ _ _ _ _ _ _ _ _ i hi); have HR6 := hide ((unhide HR5).fr1 hf6.1 (by have := (unhide HR2).lt; omega)); clear hf6)
        | (refine wpList_load_blk rfl 53 (.tmp 6) rfl (some 23) rfl w2.heap.size 0 758 758 (gF (.slice (some ⟨q, 0, none⟩) (parse t 8 0 []).1.length cap) (stOf (parse t 8 0 []).1) (rset (parse t 8 0 []).1) (nullS (parse t 8 0 []).1) (firstT (parse t 8 0 []).1) 5 0) _ rfl (by exact unhide HB6) Tryz.underlying53 rfl Tryz.sizeGram (by omega) ?_)
        | (refine wpList_store_blk rfl 53 (.tmp 4) (.tmp 23) rfl w.heap.size 0 758 758 (gF (.slice none 0 0) 0 (fun _ => false) (fun _ => false) (fun _ _ => false) 0 0) (fun i => gF (.slice (some ⟨q, 0, none⟩) (parse t 8 0 []).1.length cap) (stOf (parse t 8 0 []).1) (rset (parse t 8 0 []).1) (nullS (parse t 8 0 []).1) (firstT (parse t 8 0 []).1) 5 0 (0 + i)) rfl rfl (by exact unhide HR6) Tryz.sizeGram (by omega) (by intro i hi; exact oneB_gF' _ rfl _ _ _ _ _ _ _ (by omega)) ?_; intro w9 hf9 hs9 hB9))
      have hfin : Blk w9 w.heap.size 758 (gF (.slice (some ⟨q, 0, none⟩) (parse t 8 0 []).1.length cap) (stOf (parse t 8 0 []).1) (rset (parse t 8 0 []).1) (nullS (parse t 8 0 []).1) (firstT (parse t 8 0 []).1) 5 0) := hB9.congr fun i hi => by rw [lay_all _ _ _ _ hi, Nat.zero_add]
      refine bodyPost_ret (results_cell Tryz.results66 _ w.heap.size rfl 758 758 _ _ hfin Tryz.underlying53 rfl Tryz.sizeGram (by omega)) rfl ⟨_, rfl, ?_⟩
      have f2 := (unhide HF1).trans0 (unhide HG).1
      refine ⟨((((f2.trans0 (unhide HF3)).trans1 (unhide HF4) (Or.inr f2.size)).trans0 (unhide HF5)).trans1 (unhide HF6) (Or.inr f2.size)).trans1 hf9 (Or.inr (Nat.le_refl _)), oneB_gF' _ rfl _ _ _ _ _ _, ?_, ?_⟩
      · rw [gF_756, unhide HW]; rfl
      · rw [unhide HW]; intro h; cases h
    · have HW := hide (show wErr t s = 0 from by unfold wErr; rw [if_neg (by omega), if_neg (by rw [h0]; simp), hw]; rfl)
      have H0 := hide h0
      have HWd := hide hw
      clear h0 hw
      go_enter Tryz.func66, Tryz.ntmps66
      go_wp2_with (first
        | (refine wpList_alloc_blk rfl 53 rfl (some 4) rfl 758 _ Tryz.zeroGram ?_; intro w1 hf1 hs1 hB1; have HF1 := hide hf1; have HB1 := hide hB1; clear hf1 hs1 hB1)
        | (go_at_call 23; refine (p_readGrammar t _ hm).mono ?_; rintro e w2 ⟨f, rfl, hg⟩; obtain ⟨q, cap, hfq, hru, hq1, hq2⟩ := (hg.2.2.2.2 (unhide H0)).2.2; have HG := hide hg; have HR2 := hide ((unhide HB1).fr0 hg.1); have HFQ := hide hfq; have HRU := hide hru; have HQ2 := hide hq2; have HQ1 := hide hq1; have HT := hide (hg.2.2.2.2 (unhide H0)); clear hg hfq hru hq1 hq2)
        | (refine wpList_alloc_blk rfl 53 rfl (some 6) rfl 758 _ Tryz.zeroGram ?_; intro w3 hf3 hs3 hB3; have HF3 := hide hf3; have HB3 := hide hB3; have HR3 := hide ((unhide HR2).fr0 hf3); clear hf3 hs3 hB3)
        | (refine wpList_store_blk rfl 53 (.tmp 6) (.tmp 13) rfl w2.heap.size 0 758 758 (gF (.slice none 0 0) 0 (fun _ => false) (fun _ => false) (fun _ _ => false) 0 0) f rfl rfl (by exact unhide HB3) Tryz.sizeGram (by omega) (by exact (unhide HG).2.1) ?_; intro w4 hf4 hs4 hB4; have HF4 := hide hf4; have HR4 := hide ((unhide HR3).fr1 hf4 (by have := (unhide HR2).lt; omega)); have HG4 := hide (show GAt w4 w2.heap.size q cap (parse t 8 0 []).1 (nullS (parse t 8 0 []).1) (firstT (parse t 8 0 []).1) 0 0 from ⟨by rw [← unhide HFQ]; exact hB4.congr fun i hi => lay_all _ _ _ i hi, ((unhide HRU).fr (unhide HF3) (by simp) (unhide HQ2)).fr hf4 (by have := unhide HQ2; simp; omega) (by have := unhide HQ2; have := (unhide HF3).size; omega), by have := unhide HQ2; omega, by have := unhide HQ2; have := (unhide HF3).size; have := hf4.size; omega, (parse_small t (unhide HT).1).1, (parse_small t (unhide HT).1).2⟩); have c6 := ((unhide HG4).blk.cell 756 (by omega)).trans (congrArg some gF_756); clear hf4 hs4 hB4)
        | (go_at_call 116; refine (p_isWord w2.heap.size q cap (parse t 8 0 []).1 _ _ 0 0 s _ (by exact unhide HG4) (by omega)).mono ?_; rintro e w5 ⟨rfl, hf5⟩; rw [unhide HWd]; have HG5 := hide ((unhide HG4).fr0 hf5); have HR5 := hide ((unhide HR4).fr0 hf5); have HF5 := hide hf5; clear hf5)
        | (refine wpList_load_blk rfl 53 (.tmp 6) rfl (some 23) rfl w2.heap.size 0 758 758 (gF (.slice (some ⟨q, 0, none⟩) (parse t 8 0 []).1.length cap) (stOf (parse t 8 0 []).1) (rset (parse t 8 0 []).1) (nullS (parse t 8 0 []).1) (firstT (parse t 8 0 []).1) 0 0) _ rfl (by exact (unhide HG5).blk) Tryz.underlying53 rfl Tryz.sizeGram (by omega) ?_)
        | (refine wpList_store_blk rfl 53 (.tmp 4) (.tmp 23) rfl w.heap.size 0 758 758 (gF (.slice none 0 0) 0 (fun _ => false) (fun _ => false) (fun _ _ => false) 0 0) (fun i => gF (.slice (some ⟨q, 0, none⟩) (parse t 8 0 []).1.length cap) (stOf (parse t 8 0 []).1) (rset (parse t 8 0 []).1) (nullS (parse t 8 0 []).1) (firstT (parse t 8 0 []).1) 0 0 (0 + i)) rfl rfl (by exact unhide HR5) Tryz.sizeGram (by omega) (by intro i hi; exact oneB_gF' _ rfl _ _ _ _ _ _ _ (by omega)) ?_; intro w9 hf9 hs9 hB9))
      have hfin : Blk w9 w.heap.size 758 (gF (.slice (some ⟨q, 0, none⟩) (parse t 8 0 []).1.length cap) (stOf (parse t 8 0 []).1) (rset (parse t 8 0 []).1) (nullS (parse t 8 0 []).1) (firstT (parse t 8 0 []).1) 0 0) := hB9.congr fun i hi => by rw [lay_all _ _ _ _ hi, Nat.zero_add]
      refine bodyPost_ret (results_cell Tryz.results66 _ w.heap.size rfl 758 758 _ _ hfin Tryz.underlying53 rfl Tryz.sizeGram (by omega)) rfl ⟨_, rfl, ?_⟩
      have f2 := (unhide HF1).trans0 (unhide HG).1
      have hq1 : w.heap.size + 1 ≤ q := by have := unhide HQ1; have := (unhide HB1).lt; omega
      refine ⟨(((f2.trans0 (unhide HF3)).trans1 (unhide HF4) (Or.inr f2.size)).trans0 (unhide HF5)).trans1 hf9 (Or.inr (Nat.le_refl _)), oneB_gF' _ rfl _ _ _ _ _ _, ?_, ?_⟩
      · rw [gF_756, unhide HW]; rfl
      · intro _
        exact ⟨hs, (unhide HT).1, unhide H0, (unhide HT).2.1, unhide HWd, q, cap, rfl, (unhide HG5).ru.fr hf9 (by simp; omega) (unhide HG5).lt, by omega, Nat.lt_of_lt_of_le (unhide HG5).lt hf9.size⟩
  · have HW := hide (show wErr t s = (gErr t).1 from by unfold wErr; rw [if_neg (by omega), if_pos h0])
    have hne : ((((gErr t).1 : Nat) : Int) == 0) = false := by rw [beq_eq_false_iff_ne]; omega
    have H0 := hide h0
    clear h0
    go_enter Tryz.func66, Tryz.ntmps66
    go_wp2_with (first
      | (refine wpList_alloc_blk rfl 53 rfl (some 4) rfl 758 _ Tryz.zeroGram ?_; intro w1 hf1 hs1 hB1; have HF1 := hide hf1; have HB1 := hide hB1; clear hf1 hs1 hB1)
      | (go_at_call 23; refine (p_readGrammar t _ hm).mono ?_; rintro e w2 ⟨f, rfl, hg⟩; have HG := hide hg; have HR2 := hide ((unhide HB1).fr0 hg.1); clear hg)
      | (refine wpList_alloc_blk rfl 53 rfl (some 6) rfl 758 _ Tryz.zeroGram ?_; intro w3 hf3 hs3 hB3; have HF3 := hide hf3; have HB3 := hide hB3; have HR3 := hide ((unhide HR2).fr0 hf3); clear hf3 hs3 hB3)
      | (refine wpList_store_blk rfl 53 (.tmp 6) (.tmp 13) rfl w2.heap.size 0 758 758 (gF (.slice none 0 0) 0 (fun _ => false) (fun _ => false) (fun _ _ => false) 0 0) f rfl rfl (by exact unhide HB3) Tryz.sizeGram (by omega) (by exact (unhide HG).2.1) ?_; intro w4 hf4 hs4 hB4; have HF4 := hide hf4; have HR4 := hide ((unhide HR3).fr1 hf4 (by have := (unhide HR2).lt; omega)); have HB4 := hide (hB4.congr fun i hi => lay_all _ _ _ i hi); have c6 := ((unhide HB4).cell 756 (by omega)).trans (congrArg some (unhide HG).2.2.1); clear hf4 hs4 hB4)
      | (refine wpList_load_blk rfl 53 (.tmp 6) rfl (some 23) rfl w2.heap.size 0 758 758 f _ rfl (by exact unhide HB4) Tryz.underlying53 rfl Tryz.sizeGram (by omega) ?_)
      | (refine wpList_store_blk rfl 53 (.tmp 4) (.tmp 23) rfl w.heap.size 0 758 758 (gF (.slice none 0 0) 0 (fun _ => false) (fun _ => false) (fun _ _ => false) 0 0) (fun i => f (0 + i)) rfl rfl (by exact unhide HR4) Tryz.sizeGram (by omega) (by intro i hi; exact (unhide HG).2.1 _ (by omega)) ?_; intro w9 hf9 hs9 hB9))
    have hfin : Blk w9 w.heap.size 758 f := hB9.congr fun i hi => by rw [lay_all _ _ _ _ hi, Nat.zero_add]
    refine bodyPost_ret (results_cell Tryz.results66 _ w.heap.size rfl 758 758 _ _ hfin Tryz.underlying53 rfl Tryz.sizeGram (by omega)) rfl ⟨_, rfl, ?_⟩
    have f2 := (unhide HF1).trans0 (unhide HG).1
    refine ⟨((f2.trans0 (unhide HF3)).trans1 (unhide HF4) (Or.inr f2.size)).trans1 hf9 (Or.inr (Nat.le_refl _)), (unhide HG).2.1, ?_, ?_⟩
    · rw [(unhide HG).2.2.1, unhide HW]
    · rw [unhide HW]; intro h; exact absurd h (unhide H0)

theorem p_readWithWord (t s : ByteArray) (w : World) (ht : t.size ≤ 9223372036854775807) (hm : s.size ≤ 9223372036854775807) :
    Calls Tryz.prog 66 #[.string t, .string s] w fun e w' => ∃ f, e = .returned (Agg 758 f) ∧ WordOut t s w w' f := by
  by_cases h : 12 < s.size
  · exact p_readWithWord_long t s w h hm
  · exact p_readWithWord_short t s w (by omega) ht

end Go.Proofs.YtkglggkkbmmjkaaGreatDoor

namespace Go.Proofs.YtkglggkkbmmjkaaGreatDoor
open Go.RowKit

/-! Lists of signs, as strings. -/
def bv (l : List UInt8) : List Value := l.map fun b => .int .u8 (b.toNat : Int)
/-- the signs of a set, up to code 96 + k -/
def lstU (S : Nat → Bool) (k : Nat) : List UInt8 := (if S 36 then [36] else []) ++ ((List.range k).filter fun j => S (97 + j)).map fun j => UInt8.ofNat (97 + j)
def lst (S : Nat → Bool) : ByteArray := ⟨(lstU S 26).toArray⟩
theorem lstU_succ (S : Nat → Bool) (k : Nat) : lstU S (k + 1) = lstU S k ++ if S (97 + k) then [UInt8.ofNat (97 + k)] else [] := by
  unfold lstU
  rw [List.range_succ, List.filter_append, List.map_append, List.append_assoc]
  congr 2
  cases h : S (97 + k) <;> simp [h]
theorem lstU_len (S : Nat → Bool) (k : Nat) : (lstU S k).length ≤ k + 1 := by
  unfold lstU
  rw [List.length_append, List.length_map]
  have := List.length_filter_le (fun j => S (97 + j)) (List.range k)
  rw [List.length_range] at this
  split <;> simp <;> omega

theorem run_str_own {P : Program} (w : World) (base : Nat) (src dst e : TypeId) (v : Value) (l : List UInt8) (hs : P.underlying src = some (.slice e)) (he : P.underlying e = some (.int .u8)) (hd : P.underlying dst = some .string)
    (h : w.ownsRow base e 1 v l.length (bv l)) : (convert src dst v).run P w = .ok (.string ⟨l.toArray⟩) w := by
  rcases h.2 with ⟨rfl, hl⟩ | ⟨g, cap, _, rfl, _⟩
  · rw [run_convert_bytes_string w src dst e none 0 0 hs he hd]
    have : l = [] := List.length_eq_zero_iff.1 hl
    subst this
    rfl
  · have hc := h.cells (g := g) rfl
    exact run_convert_bytes_back w src dst e ⟨g, 0, none⟩ cap l hs he hd (fun j hj => hc j _ (by simp [bv, hj]))

theorem wpList_str_own {P : Program} {ops : Array Oper} {rest : List Oper} {o : Oper} {a : Act} {w : World} {Q : Exit → Act → World → Prop} (hgd : o.guard = none) (base : Nat) (src dst e : TypeId) (x : Operand) (ho : o.op = .convert src dst x) (v : Value) (l : List UInt8)
    (hs : P.underlying src = some (.slice e)) (he : P.underlying e = some (.int .u8)) (hd : P.underlying dst = some .string) (hx : a.eval x = v) (h : w.ownsRow base e 1 v l.length (bv l))
    (hK : wpList P ops Q rest (a.put o.dst (.string ⟨l.toArray⟩)) w) : wpList P ops Q (o :: rest) a w := by
  refine wpList_plain hgd fun K hK' => ?_
  unfold Oper.wp
  simp only [execOp, ho, hx, Sem.run_bind, run_str_own w base src dst e v l hs he hd h, Result.andThen_ok, Sem.run_pure, Oper.upon]
  exact hK' _ _ hK

theorem Tryz.infoByte : (Tryz.prog.info? 5).map (fun i => (i.zero, i.size, i.bytes)) = some (some (.int .u8 0), 1, 1) := by kernel_rfl

/-- the state of a list that grows -/
def LsS (w wr : World) (v : Value) (l : List UInt8) : Prop := Fr [] w wr ∧ wr.ownsRow w.heap.size 5 1 v l.length (bv l)
theorem LsS.append {w wr w1 : World} {v : Value} {l : List UInt8} {g cap : Nat} {o : Obj} (b : UInt8) (h : LsS w wr v l) (hown : w1.ownsRow w.heap.size 5 1 (.slice (some ⟨g, 0, none⟩) (l.length + 1) cap) (l.length + 1) (bv l ++ [.int .u8 (b.toNat : Int)]))
    (hgrow : (wr.alloc o).grownBy w1 v.ownBlock) : LsS w w1 (.slice (some ⟨g, 0, none⟩) (l.length + 1) cap) (l ++ [b]) := by
  refine ⟨(h.1.alloc o).of_grown hgrow (fun k hk => Or.inr (h.2.lt k hk).1), ?_⟩
  rw [List.length_append, show bv (l ++ [b]) = bv l ++ [.int .u8 (b.toNat : Int)] from by simp [bv]]; exact hown

theorem sgn_code (c : Nat) (h : 97 ≤ c) : sgn (1 + c - 97) = c := by unfold sgn; rw [if_neg (by omega)]; omega

/-- the signs of a set whose places are below k -/
def lsI (S : Nat → Bool) (k : Nat) : List UInt8 := ((List.range k).filter fun j => S (sgn j)).map fun j => UInt8.ofNat (sgn j)
theorem lsI_succ (S : Nat → Bool) (k : Nat) : lsI S (k + 1) = lsI S k ++ if S (sgn k) then [UInt8.ofNat (sgn k)] else [] := by
  unfold lsI
  rw [List.range_succ, List.filter_append, List.map_append]
  congr 1
  cases h : S (sgn k) <;> simp [h]
theorem lsI_eq (S : Nat → Bool) : ∀ k, lsI S (k + 1) = lstU S k
  | 0 => by
    rw [lsI_succ]
    show [] ++ (if S 36 then [UInt8.ofNat 36] else []) = _
    unfold lstU
    cases S 36 <;> rfl
  | k + 1 => by
    rw [lsI_succ, lsI_eq S k, lstU_succ, show sgn (k + 1) = 97 + k from by unfold sgn; rw [if_neg (by omega)]; omega]
theorem lsI_len (S : Nat → Bool) (k : Nat) : (lsI S k).length ≤ k := by
  unfold lsI
  rw [List.length_map]
  have := List.length_filter_le (fun j => S (sgn j)) (List.range k)
  rw [List.length_range] at this
  exact this

set_option maxRecDepth 100000 in
set_option maxHeartbeats 1600000 in
theorem p_list (b : Nat) (S : Nat → Bool) (w : World) (h : Blk w b 27 (sgF S)) :
    Calls Tryz.prog 52 #[.pointer (some ⟨b, 0, none⟩)] w fun e w' => e = .returned (.string (lst S)) ∧ Fr [] w w' := by
  obtain ⟨i0, hi0, hz0, hz1, hz2⟩ := info_parts Tryz.infoByte
  have H := hide h
  clear h
  go_enter Tryz.func52, Tryz.ntmps52
  go_wp2
  go_loopw [3, 4] (fun v a wr => ∃ k : Nat, k ≤ 27 ∧ a = .int .i64 k ∧ Hid (LsS w wr v (lsI S k))) (fun _ a _ => 27 - (intOf a).toNat)
  case atStart => exact ⟨0, by omega, rfl, hide ⟨Fr.refl _ _, World.ownsRow_nil _ _ _ _⟩⟩
  case round =>
    obtain ⟨k, hk, rfl, hs⟩ := hrel
    by_cases hlt : k < 27
    · have d0 : wr.cell? ⟨b, k, none⟩ = some (.bool (S (sgn k))) := ((unhide H).fr0 (unhide hs).1).cell k hlt
      have HS1 := hide (lsI_succ S k)
      have hll := lsI_len S k
      have hcb := hide (show ((UInt8.ofNat (sgn k)).toNat : Int) = (sgn k : Nat) from by
        have := sigB_iff.1 (sigB_sgn hlt)
        rw [UInt8.toNat_ofNat']; omega)
      cases hv : S (sgn k)
      · rw [hv] at d0
        have HN := hide (show lsI S (k + 1) = lsI S k from (unhide HS1).trans (by rw [hv]; simp))
        go_wp2
        go_roundw
        case rel => exact ⟨k + 1, by omega, by go_num, hide (by rw [unhide HN]; exact unhide hs)⟩
        case measure => simp [intOf]; omega
      · rw [hv] at d0
        have HN := hide (show lsI S (k + 1) = lsI S k ++ [UInt8.ofNat (sgn k)] from (unhide HS1).trans (by rw [hv]; rfl))
        obtain ⟨c, hc⟩ : ∃ c, sgn k = c := ⟨_, rfl⟩
        rw [hc] at HN hcb
        have HCC := hide hc
        clear hc HS1 hv
        go_wp2_with (first
          | (go_at_call 106; refine (p_signAt k _ hlt).mono ?_; rintro e w' ⟨rfl, rfl⟩; rw [unhide HCC])
          | (at_builtin; refine wpList_append_lies _ rfl (.tmp 15) (.tmp 18) 158 rfl w.heap.size 5 i0 _ 1 1 Tryz.underlying158 hi0 hz0 hz1 hz2 rfl (by omega) u3 (lsI S k).length (bv (lsI S k)) rfl (by exact (unhide hs).2.alloc _) _ 1 1 [.int .u8 c] rfl rfl (World.news_of_block (cs := #[.int .u8 c]) (t := 5) (fr := (0, 0)) (heap_alloc_new _ _)) (by simp [Value.oneCell']) (by omega) (by unfold maxLen; omega) (by omega) (by have := (unhide hs).1.size; simp; omega) _ rfl ?_; intro g2 cap2 w2 hown2 hgrow2 hat2 hlt2; have HQ2 := hide (LsS.append (UInt8.ofNat c) (unhide hs) (by rw [unhide hcb]; exact hown2) hgrow2); clear hown2 hgrow2 hat2 hlt2))
        go_roundw
        case rel => exact ⟨k + 1, by omega, by go_num, hide (by rw [unhide HN]; exact unhide HQ2)⟩
        case measure => simp [intOf]; omega
    · have HN := hide (show LsS w wr u3 (lstU S 26) from by
        have := unhide hs
        rw [show k = 26 + 1 from by omega, lsI_eq] at this; exact this)
      clear hs
      go_wp2_with (refine wpList_str_own rfl w.heap.size 158 9 5 (.tmp 20) rfl u3 (lstU S 26) Tryz.underlying158 Tryz.underlying5 Tryz.underlying9 rfl (by exact (unhide HN).2) ?_)
      go_ret
      exact ⟨rfl, (unhide HN).1⟩

end Go.Proofs.YtkglggkkbmmjkaaGreatDoor
