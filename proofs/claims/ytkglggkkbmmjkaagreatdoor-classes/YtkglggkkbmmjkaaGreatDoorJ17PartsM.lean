import Derived.Test.YtkglggkkbmmjkaaGreatDoorJ16Lists
namespace Go.Proofs.YtkglggkkbmmjkaaGreatDoor
open Go.RowKit

def nullOf (t s : ByteArray) : Bool := if wErr t s = 0 then (bytes s).all (vanB (nullS (parse t 8 0 []).1) false) else false
def firstOfW (t s : ByteArray) : ByteArray := if wErr t s = 0 then lst (beg (nullS (parse t 8 0 []).1) (firstT (parse t 8 0 []).1) (bytes s)) else ⟨#[]⟩

theorem word_let {rs : List Ru} {s : ByteArray} (h : (bytes s).all (wordB rs) = true) : ∀ i, i < s.size → letB (ch s i) = true := fun i hi => by
  have hi' : i < (bytes s).length := by rw [bytes_len]; exact hi
  have := List.all_eq_true.1 h _ (List.getElem_mem hi')
  rw [bytes_get] at this
  simp only [wordB, hasB, Bool.or_eq_true, Bool.and_eq_true] at this
  simp only [letB, Bool.or_eq_true]
  rcases this with h | h
  · exact Or.inr h
  · exact Or.inl h.1

/-- the grammar that was read, laid into a variable of the caller's -/
theorem gat_of_word {t s : ByteArray} {w w1 w2 w3 : World} {f : Nat → Value} {z : Nat → Value} (h : WordOut t s w w1 f) (h0 : wErr t s = 0) (hf2 : Fr [] w1 w2) (hf3 : Fr [w1.heap.size] w2 w3) (hB : Blk w3 w1.heap.size 758 (lay z 0 758 f)) :
    ∃ q cap, GAt w3 w1.heap.size q cap (parse t 8 0 []).1 (nullS (parse t 8 0 []).1) (firstT (parse t 8 0 []).1) 0 0 := by
  obtain ⟨_, ht, _, _, _, q, cap, hf, hru, hq1, hq2⟩ := h.2.2.2 h0
  refine ⟨q, cap, by rw [← hf]; exact hB.congr fun i hi => lay_all _ _ _ i hi, (hru.fr hf2 (by simp) hq2).fr hf3 (by simp; omega) (Nat.lt_of_lt_of_le hq2 hf2.size), by omega, Nat.lt_of_lt_of_le hq2 (Nat.le_trans hf2.size hf3.size), (parse_small t ht).1, (parse_small t ht).2⟩

set_option maxHeartbeats 1000000 in
theorem p_Null (t s : ByteArray) (w : World) (ht : t.size ≤ 9223372036854775807) (hm : s.size ≤ 9223372036854775807) :
    Calls Tryz.prog 25 #[.string t, .string s] w fun e w' => e = .returned (.tuple #[.bool (nullOf t s), .int .i64 (wErr t s)]) ∧ Fr [] w w' := by
  by_cases h0 : wErr t s = 0
  · have hb : ((((wErr t s : Nat) : Int)) != 0) = false := by simp; omega
    have H0 := hide h0
    have HN := hide (show nullOf t s = (bytes s).all (vanB (nullS (parse t 8 0 []).1) false) from by unfold nullOf; rw [if_pos h0])
    clear h0
    go_enter Tryz.func25, Tryz.ntmps25
    go_wp2_with (first
      | (go_at_call 66; refine (p_readWithWord t s _ ht hm).mono ?_; rintro e w1 ⟨f, rfl, hg⟩; have HG := hide hg; clear hg)
      | (refine wpList_alloc_blk rfl 53 rfl (some 6) rfl 758 _ Tryz.zeroGram ?_; intro w2 hf2 hs2 hB2; have HF2 := hide hf2; have HB2 := hide hB2; clear hf2 hs2 hB2)
      | (refine wpList_store_blk rfl 53 (.tmp 6) (.tmp 9) rfl w1.heap.size 0 758 758 (gF (.slice none 0 0) 0 (fun _ => false) (fun _ => false) (fun _ _ => false) 0 0) f rfl rfl (by exact unhide HB2) Tryz.sizeGram (by omega) (by exact (unhide HG).2.1) ?_; intro w3 hf3 hs3 hB3; obtain ⟨q, cap, hg3⟩ := gat_of_word (unhide HG) (unhide H0) (unhide HF2) hf3 hB3; have HG3 := hide hg3; have HF3 := hide hf3; have c6 := (hB3.cell 756 (by omega)).trans (congrArg some ((lay_all _ _ _ _ (by omega)).trans (unhide HG).2.2.1)); clear hf3 hs3 hB3 hg3)
      | (go_at_call 67; refine (p_isNull w1.heap.size q cap (parse t 8 0 []).1 _ _ 0 0 s _ (by exact unhide HG3) (by have := ((unhide HG).2.2.2 (unhide H0)).1; omega)).mono ?_; rintro e w4 ⟨rfl, rfl⟩))
    go_ret2
    exact ⟨by rw [unhide HN, unhide H0]; rfl, ((unhide HG).1.trans0 (unhide HF2)).trans1 (unhide HF3) (Or.inr (unhide HG).1.size)⟩
  · have hb : ((((wErr t s : Nat) : Int)) != 0) = true := by rw [bne_iff_ne]; omega
    have HN := hide (show nullOf t s = false from by unfold nullOf; rw [if_neg h0])
    clear h0
    go_enter Tryz.func25, Tryz.ntmps25
    go_wp2_with (first
      | (go_at_call 66; refine (p_readWithWord t s _ ht hm).mono ?_; rintro e w1 ⟨f, rfl, hg⟩; have HG := hide hg; clear hg)
      | (refine wpList_alloc_blk rfl 53 rfl (some 6) rfl 758 _ Tryz.zeroGram ?_; intro w2 hf2 hs2 hB2; have HF2 := hide hf2; have HB2 := hide hB2; clear hf2 hs2 hB2)
      | (refine wpList_store_blk rfl 53 (.tmp 6) (.tmp 9) rfl w1.heap.size 0 758 758 (gF (.slice none 0 0) 0 (fun _ => false) (fun _ => false) (fun _ _ => false) 0 0) f rfl rfl (by exact unhide HB2) Tryz.sizeGram (by omega) (by exact (unhide HG).2.1) ?_; intro w3 hf3 hs3 hB3; have HF3 := hide hf3; have c6 := (hB3.cell 756 (by omega)).trans (congrArg some ((lay_all _ _ _ _ (by omega)).trans (unhide HG).2.2.1)); clear hf3 hs3 hB3))
    go_quiet (fail)
    go_wp2
    go_ret2
    exact ⟨by rw [unhide HN]; rfl, (((unhide HG).1.trans0 (unhide HF2)).trans1 (unhide HF3) (Or.inr (unhide HG).1.size)).trans0 (fr_drewN _ _)⟩

set_option maxHeartbeats 1000000 in
theorem p_First (t s : ByteArray) (w : World) (ht : t.size ≤ 9223372036854775807) (hm : s.size ≤ 9223372036854775807) :
    Calls Tryz.prog 27 #[.string t, .string s] w fun e w' => e = .returned (.tuple #[.string (firstOfW t s), .int .i64 (wErr t s)]) ∧ Fr [] w w' := by
  by_cases h0 : wErr t s = 0
  · have hb : ((((wErr t s : Nat) : Int)) != 0) = false := by simp; omega
    have H0 := hide h0
    have HN := hide (show firstOfW t s = lst (beg (nullS (parse t 8 0 []).1) (firstT (parse t 8 0 []).1) (bytes s)) from by unfold firstOfW; rw [if_pos h0])
    clear h0
    go_enter Tryz.func27, Tryz.ntmps27
    go_wp2_with (first
      | (go_at_call 66; refine (p_readWithWord t s _ ht hm).mono ?_; rintro e w1 ⟨f, rfl, hg⟩; have HG := hide hg; clear hg)
      | (refine wpList_alloc_blk rfl 53 rfl (some 6) rfl 758 _ Tryz.zeroGram ?_; intro w2 hf2 hs2 hB2; have HF2 := hide hf2; have HB2 := hide hB2; clear hf2 hs2 hB2)
      | (refine wpList_store_blk rfl 53 (.tmp 6) (.tmp 10) rfl w1.heap.size 0 758 758 (gF (.slice none 0 0) 0 (fun _ => false) (fun _ => false) (fun _ _ => false) 0 0) f rfl rfl (by exact unhide HB2) Tryz.sizeGram (by omega) (by exact (unhide HG).2.1) ?_; intro w3 hf3 hs3 hB3; obtain ⟨q, cap, hg3⟩ := gat_of_word (unhide HG) (unhide H0) (unhide HF2) hf3 hB3; have HG3 := hide hg3; have HF3 := hide (((unhide HG).1.trans0 (unhide HF2)).trans1 hf3 (Or.inr (unhide HG).1.size)); have c6 := (hB3.cell 756 (by omega)).trans (congrArg some ((lay_all _ _ _ _ (by omega)).trans (unhide HG).2.2.1)); clear hf3 hs3 hB3 hg3)
      | (go_at_call 71; refine (p_firstOf w1.heap.size q cap (parse t 8 0 []).1 _ _ 0 0 s _ (by exact unhide HG3) (by have := ((unhide HG).2.2.2 (unhide H0)).1; omega) (word_let ((unhide HG).2.2.2 (unhide H0)).2.2.2.2.1)).mono ?_; rintro e w4 ⟨rfl, hf4⟩; have HF4 := hide ((unhide HF3).trans0 hf4); clear hf4)
      | (refine wpList_alloc_blk rfl 48 rfl (some 7) rfl 27 _ Tryz.zeroSign ?_; intro w5 hf5 hs5 hB5; have HF5 := hide ((unhide HF4).trans0 hf5); have HB5 := hide hB5; clear hf5 hs5 hB5)
      | (refine wpList_store_blk rfl 48 (.tmp 7) (.tmp 17) rfl w4.heap.size 0 27 27 (sgF fun _ => false) (sgF (beg (nullS (parse t 8 0 []).1) (firstT (parse t 8 0 []).1) (bytes s))) rfl rfl (by exact unhide HB5) Tryz.sizeSign (by omega) (by intro i hi; rfl) ?_; intro w6 hf6 hs6 hB6; have HF6 := hide ((unhide HF5).trans1 hf6 (Or.inr (unhide HF4).size)); have HB6 := hide (hB6.congr fun i hi => lay_all _ _ _ i hi); clear hf6 hs6 hB6)
      | (go_at_call 52; refine (p_list w4.heap.size _ _ (by exact unhide HB6)).mono ?_; rintro e w7 ⟨rfl, hf7⟩; have HF7 := hide ((unhide HF6).trans0 hf7); clear hf7))
    go_ret2
    exact ⟨by rw [unhide HN, unhide H0]; rfl, unhide HF7⟩
  · have hb : ((((wErr t s : Nat) : Int)) != 0) = true := by rw [bne_iff_ne]; omega
    have HN := hide (show firstOfW t s = ⟨#[]⟩ from by unfold firstOfW; rw [if_neg h0])
    clear h0
    go_enter Tryz.func27, Tryz.ntmps27
    go_wp2_with (first
      | (go_at_call 66; refine (p_readWithWord t s _ ht hm).mono ?_; rintro e w1 ⟨f, rfl, hg⟩; have HG := hide hg; clear hg)
      | (refine wpList_alloc_blk rfl 53 rfl (some 6) rfl 758 _ Tryz.zeroGram ?_; intro w2 hf2 hs2 hB2; have HF2 := hide hf2; have HB2 := hide hB2; clear hf2 hs2 hB2)
      | (refine wpList_store_blk rfl 53 (.tmp 6) (.tmp 10) rfl w1.heap.size 0 758 758 (gF (.slice none 0 0) 0 (fun _ => false) (fun _ => false) (fun _ _ => false) 0 0) f rfl rfl (by exact unhide HB2) Tryz.sizeGram (by omega) (by exact (unhide HG).2.1) ?_; intro w3 hf3 hs3 hB3; have HF3 := hide hf3; have c6 := (hB3.cell 756 (by omega)).trans (congrArg some ((lay_all _ _ _ _ (by omega)).trans (unhide HG).2.2.1)); clear hf3 hs3 hB3))
    go_quiet (fail)
    go_wp2
    go_ret2
    exact ⟨by rw [unhide HN]; rfl, (((unhide HG).1.trans0 (unhide HF2)).trans1 (unhide HF3) (Or.inr (unhide HG).1.size)).trans0 (fr_drewN _ _)⟩

end Go.Proofs.YtkglggkkbmmjkaaGreatDoor

namespace Go.Proofs.YtkglggkkbmmjkaaGreatDoor
open Go.RowKit
def inB (s : ByteArray) (c : Nat) : Bool := (bytes s).any (· == c)
def joinS (a b : ByteArray) : Nat → Bool := fun x => x != 36 && (inB a x || inB b x)

theorem bytes_extract (s : ByteArray) (a b : Nat) : bytes (s.extract a b) = ((bytes s).drop a).take (b - a) := by
  unfold bytes
  rw [ByteArray.data_extract, Array.toList_extract, List.extract_eq_take_drop, List.map_take, List.map_drop]
theorem bytes_cons (s : ByteArray) (h : 0 < s.size) : bytes s = ch s 0 :: bytes (s.extract 1 s.size) := by
  rw [bytes_extract, List.take_of_length_le (by rw [List.length_drop, bytes_len]; omega)]
  have := bytes_drop s 0 h
  rwa [List.drop_zero] at this
theorem bytes_one (s : ByteArray) (h : 0 < s.size) : bytes (s.extract 0 1) = [ch s 0] := by
  rw [bytes_extract, List.drop_zero]
  have := bytes_drop s 0 h
  rw [List.drop_zero] at this
  rw [this]; rfl
theorem byte_one (s : ByteArray) (h : 0 < s.size) : s.extract 0 1 = ⟨#[UInt8.ofNat (ch s 0)]⟩ := by
  apply ByteArray.ext
  apply Array.ext
  · simp [ByteArray.data_extract]; omega
  · intro i h1 h2
    obtain rfl : i = 0 := by simpa using h2
    rw [ch_eq s 0 h]
    simp [ByteArray.data_extract]; rfl

theorem beg_end (N : Nat → Bool) (F : Nat → Nat → Bool) (hF : ∀ c, F c 36 = false) : ∀ l, beg N F l 36 = false
  | [] => rfl
  | c :: l => by
    rw [beg]
    by_cases h : smallB c = true
    · rw [if_pos h, beq_eq_false_iff_ne]
      have := smallB_iff.1 h; omega
    · rw [if_neg h, hF c, beg_end N F hF l, Bool.and_false]; rfl
theorem ffRound_end (N : Nat → Bool) : ∀ (rs : List Ru) (F : Nat → Nat → Bool), (∀ c, F c 36 = false) → ∀ c, ffRound N rs F c 36 = false
  | [], F, h, c => h c
  | r :: rs, F, h, c => by
    refine ffRound_end N rs _ (fun a => ?_) c
    show (F a 36 || (a == r.L && beg N F (bytes r.R) 36)) = false
    rw [h a, beg_end N F h, Bool.and_false]; rfl
theorem iterF_end (N : Nat → Bool) (rs : List Ru) : ∀ n c, iterF (ffRound N rs) n (fun _ _ => false) c 36 = false
  | 0, _ => rfl
  | n + 1, c => ffRound_end N rs _ (iterF_end N rs n) c
theorem firstT_end (rs : List Ru) (c : Nat) : firstT rs c 36 = false := iterF_end _ rs _ c

theorem lst_congr {S T : Nat → Bool} (h0 : S 36 = T 36) (h : ∀ c, 97 ≤ c → c ≤ 122 → S c = T c) : lst S = lst T := by
  unfold lst lstU
  rw [h0, List.filter_congr (q := fun j => T (97 + j)) (fun j hj => by
    have := List.mem_range.1 hj
    exact h (97 + j) (by omega) (by omega))]
theorem lst_one (c : Nat) (h : smallB c = true) : lst (fun x => x == c) = ⟨#[UInt8.ofNat c]⟩ := by
  have h1 := smallB_iff.1 h
  have key : ∀ j : Fin 26, (List.range 26).filter (fun k => 97 + k == 97 + j.val) = [j.val] := by decide
  have := key ⟨c - 97, by omega⟩
  simp only [show 97 + (c - 97) = c from by omega] at this
  unfold lst lstU
  rw [this]
  simp only [show (36 == c) = false from by rw [beq_eq_false_iff_ne]; omega]
  simp only [List.map_cons, List.map_nil, show 97 + (c - 97) = c from by omega]; rfl
theorem inB_lst (S : Nat → Bool) (c : Nat) (h1 : 97 ≤ c) (h2 : c ≤ 122) : inB (lst S) c = S c := by
  unfold inB
  rw [show bytes (lst S) = (lstU S 26).map UInt8.toNat from rfl]
  unfold lstU
  rw [List.map_append, List.any_append, show ((if S 36 then [(36 : UInt8)] else []).map UInt8.toNat).any (· == c) = false from by
    cases S 36
    · rfl
    · simp; omega, Bool.false_or, List.map_map, List.any_map, Bool.eq_iff_iff, List.any_eq_true]
  simp only [List.mem_filter, List.mem_range, Function.comp_apply, UInt8.toNat_ofNat', beq_iff_eq]
  constructor
  · rintro ⟨j, ⟨hj, hS⟩, he⟩
    rw [Nat.mod_eq_of_lt (by omega)] at he
    rw [← he]; exact hS
  · intro hS
    exact ⟨c - 97, ⟨by omega, by rw [show 97 + (c - 97) = c from by omega]; exact hS⟩, by omega⟩
theorem lst_size (S : Nat → Bool) : (lst S).size ≤ 1000 := by
  have := lstU_len S 26
  show (lstU S 26).toArray.size ≤ 1000
  simp; omega

/-- the parts of a good word -/
theorem wErr_part {t s a : ByteArray} (h : wErr t s = 0) (hs : a.size ≤ s.size) (hb : ∀ c ∈ bytes a, c ∈ bytes s) : wErr t a = 0 := by
  unfold wErr at h ⊢
  split at h
  · cases h
  · rename_i h1
    split at h
    · contradiction
    · rename_i h2
      split at h
      · rename_i h3
        rw [if_neg (by omega), if_neg h2, if_pos (by
          rw [List.all_eq_true] at h3 ⊢
          exact fun c hc => h3 c (hb c hc))]
      · cases h
theorem wErr_zero {t s : ByteArray} (h : wErr t s = 0) : s.size ≤ 12 ∧ (bytes s).all (wordB (parse t 8 0 []).1) = true := by
  unfold wErr at h
  split at h
  · cases h
  · split at h
    · contradiction
    · split at h
      · exact ⟨by omega, by assumption⟩
      · cases h

/-- what parts asks of a word that is not empty -/
structure PartOk (t s : ByteArray) : Prop where
  wa : wErr t (s.extract 0 1) = 0
  wb : wErr t (s.extract 1 s.size) = 0
  na : nullOf t s = (nullOf t (s.extract 0 1) && nullOf t (s.extract 1 s.size))
  sm : 97 ≤ ch s 0 → nullOf t (s.extract 0 1) = false ∧ firstOfW t (s.extract 0 1) = s.extract 0 1
  no : nullOf t (s.extract 0 1) = false → firstOfW t s = firstOfW t (s.extract 0 1)
  ye : nullOf t (s.extract 0 1) = true → firstOfW t s = lst (joinS (firstOfW t (s.extract 0 1)) (firstOfW t (s.extract 1 s.size)))
  z1 : (firstOfW t (s.extract 0 1)).size ≤ 1000
  z2 : (firstOfW t (s.extract 1 s.size)).size ≤ 1000

theorem partOk {t s : ByteArray} (h : wErr t s = 0) (hs : 0 < s.size) : PartOk t s := by
  have hc := bytes_cons s hs
  have wa : wErr t (s.extract 0 1) = 0 := wErr_part h (by rw [ByteArray.size_extract]; omega) (by rw [bytes_one s hs, hc]; simp)
  have wb : wErr t (s.extract 1 s.size) = 0 := wErr_part h (by rw [ByteArray.size_extract]; omega) (by rw [hc]; intro c hc; exact List.mem_cons_of_mem _ hc)
  have e1 : nullOf t (s.extract 0 1) = hasB (nullS (parse t 8 0 []).1) (ch s 0) := by
    unfold nullOf; rw [if_pos wa, bytes_one s hs]; simp [vanB]
  have e2 : ∀ x, firstOfW t x = lst (beg (nullS (parse t 8 0 []).1) (firstT (parse t 8 0 []).1) (bytes x)) ∨ firstOfW t x = ⟨#[]⟩ := fun x => by
    unfold firstOfW; split
    · exact Or.inl rfl
    · exact Or.inr rfl
  have ez : ∀ x, (firstOfW t x).size ≤ 1000 := fun x => by
    rcases e2 x with e | e <;> rw [e]
    · exact lst_size _
    · decide
  have f0 : firstOfW t s = lst (beg (nullS (parse t 8 0 []).1) (firstT (parse t 8 0 []).1) (bytes s)) := by unfold firstOfW; rw [if_pos h]
  have f1 : firstOfW t (s.extract 0 1) = lst (beg (nullS (parse t 8 0 []).1) (firstT (parse t 8 0 []).1) [ch s 0]) := by unfold firstOfW; rw [if_pos wa, bytes_one s hs]
  have f2 : firstOfW t (s.extract 1 s.size) = lst (beg (nullS (parse t 8 0 []).1) (firstT (parse t 8 0 []).1) (bytes (s.extract 1 s.size))) := by unfold firstOfW; rw [if_pos wb]
  have hend := beg_end (nullS (parse t 8 0 []).1) (firstT (parse t 8 0 []).1) (firstT_end _)
  have hw := (List.all_eq_true.1 (wErr_zero h).2) (ch s 0) (by rw [hc]; simp)
  refine ⟨wa, wb, ?_, ?_, ?_, ?_, ez _, ez _⟩
  · rw [e1]
    unfold nullOf
    rw [if_pos h, if_pos wb]
    conv => lhs; rw [hc]
    simp [vanB]
  · intro h97
    have hbig : bigB (ch s 0) = false := by simp [bigB]; omega
    have hsm : smallB (ch s 0) = true := by
      simp only [wordB, hasB, hbig, Bool.false_and, Bool.or_false] at hw; exact hw
    refine ⟨by rw [e1, hasB, hbig]; rfl, ?_⟩
    rw [f1, byte_one s hs, ← lst_one _ hsm]
    exact lst_congr (by rw [beg, if_pos hsm]) (fun c _ _ => by rw [beg, if_pos hsm])
  · intro hn
    rw [e1] at hn
    rw [f0, f1, hc]
    refine lst_congr (by rw [hend, hend]) (fun c _ _ => ?_)
    rw [beg, beg, hn]; rfl
  · intro hn
    rw [e1] at hn
    rw [f0, f1, f2, hc]
    refine lst_congr (by rw [hend]; rfl) (fun c h1 h2 => ?_)
    have hsm : smallB (ch s 0) = false := by
      rw [hasB, Bool.and_eq_true] at hn
      cases h3 : smallB (ch s 0)
      · rfl
      · rw [not_big_of_small h3] at hn; cases hn.1
    unfold joinS
    rw [inB_lst _ c h1 h2, inB_lst _ c h1 h2, show (c != 36) = true from by rw [bne_iff_ne]; omega, beg, beg, hn, hsm]
    simp [beg]

/-- a string of one byte -/
theorem wpList_str_one {P : Program} {ops : Array Oper} {rest : List Oper} {o : Oper} {a : Act} {w : World} {Q : Exit → Act → World → Prop} (hgd : o.guard = none) (src dst e : TypeId) (x : Operand) (ho : o.op = .convert src dst x) (g cap c : Nat) (hc : c < 256)
    (hs : P.underlying src = some (.slice e)) (he : P.underlying e = some (.int .u8)) (hd : P.underlying dst = some .string) (hx : a.eval x = .slice (some ⟨g, 0, none⟩) 1 cap) (h : w.cell? ⟨g, 0, none⟩ = some (.int .u8 c))
    (hK : wpList P ops Q rest (a.put o.dst (.string ⟨#[UInt8.ofNat c]⟩)) w) : wpList P ops Q (o :: rest) a w := by
  refine wpList_plain hgd fun K hK' => ?_
  unfold Oper.wp
  have := run_convert_bytes_back w src dst e ⟨g, 0, none⟩ cap [UInt8.ofNat c] hs he hd (fun j hj => by
    obtain rfl : j = 0 := by simpa using hj
    rw [show (Addr.add ⟨g, 0, none⟩ 0) = ⟨g, 0, none⟩ from rfl, h]
    simp only [List.getElem_cons_zero, UInt8.toNat_ofNat']
    rw [Nat.mod_eq_of_lt hc])
  simp only [List.length_cons, List.length_nil, Nat.zero_add] at this
  simp only [execOp, ho, hx, Sem.run_bind, this, Result.andThen_ok, Sem.run_pure, Oper.upon]
  exact hK' _ _ hK


end Go.Proofs.YtkglggkkbmmjkaaGreatDoor
