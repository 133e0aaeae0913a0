import Derived.Test.YtkglggkkbmmjkaaDoorE36TxDef
import Derived.Test.YtkglggkkbmmjkaaDoorE9LSp2
import Derived.Test.YtkglggkkbmmjkaaDoorE10RUsed
import Derived.Test.YtkglggkkbmmjkaaDoorE27TbDef
import Derived.Test.YtkglggkkbmmjkaaDoorE31LrHt
import Derived.Test.YtkglggkkbmmjkaaDoorE34PClass
namespace Go.Proofs.YtkglggkkbmmjkaaDoor
open Go.RowKit

theorem inB_lst36 (S : Nat → Bool) : inB (lst S) 36 = S 36 := by
  unfold inB
  rw [show bytes (lst S) = (lstU S 26).map UInt8.toNat from rfl]
  unfold lstU
  rw [List.map_append, List.any_append]
  have h2 : ((((List.range 26).filter fun j => S (97 + j)).map fun j => UInt8.ofNat (97 + j)).map UInt8.toNat).any (· == 36) = false := by
    rw [List.map_map, List.any_map, List.any_eq_false]
    intro j hj
    have := List.mem_range.1 (List.mem_filter.1 hj).1
    simp only [Function.comp_apply, UInt8.toNat_ofNat', beq_iff_eq]
    omega
  rw [h2, Bool.or_false]
  cases S 36
  · rfl
  · rfl
theorem errT_of {t s s' : ByteArray} (h : errT t s = 0) (h1 : s'.size ≤ 12) (h2 : ∀ c ∈ bytes s', smallB c = true) : errT t s' = 0 := by
  obtain ⟨r, hr, hc, _, _⟩ := errT_ok h
  unfold errT
  rw [if_neg (by omega), hr]
  dsimp only
  rw [if_neg hc, if_pos (List.all_eq_true.2 h2)]
theorem bytes_one' (c : Nat) (h : c < 256) : bytes (⟨#[UInt8.ofNat c]⟩ : ByteArray) = [c] := by
  show [(UInt8.ofNat c).toNat] = [c]
  rw [UInt8.toNat_ofNat', Nat.mod_eq_of_lt (by simpa using h)]
theorem bytes_app (a b : ByteArray) : bytes (a ++ b) = bytes a ++ bytes b := by
  unfold bytes
  rw [ByteArray.data_append, Array.toList_append, List.map_append]
theorem bytes_take0 (s : ByteArray) (p : Nat) : bytes (s.extract 0 p) = (bytes s).take p := by
  rw [bytes_extract, List.drop_zero, Nat.sub_zero]
/-- what is known of Stop's answer where there is no error -/
structure GrO (t s : ByteArray) (p : Nat) (y : ByteArray) : Prop where
  le : p ≤ s.size
  le12 : s.size ≤ 12
  sz : y.size ≤ 1000
  some_ : 0 < y.size
  not_ : p < s.size → inB y (ch s p) = false
  tree : ∀ y' x', TreeO t (s.extract 0 p) y' x' → (x' = 0 ∧ inB y 36 = true) ∨ (x' = 9 ∧ inB y 36 = false)
  more : p < 12 → ∀ c, smallB c = true → ∀ q y' x', StopO t (s.extract 0 p ++ ⟨#[UInt8.ofNat c]⟩) q y' x' → x' = 0 ∧ ((inB y c = true ∧ q = p + 1) ∨ (inB y c = false ∧ q = p))
theorem grO {t s y : ByteArray} {p x : Nat} (h0 : errT t s = 0) (h : StopO t s p y x) : x = 0 ∧ GrO t s p y := by
  rcases h with ⟨h1, _⟩ | ⟨_, rfl, hp, hg, hn, b, b0, ba, rfl⟩
  · exact absurd h0 h1
  obtain ⟨r, hr, hc, h12, hsm⟩ := errT_ok h0
  have hsmt : ∀ c ∈ (bytes s).take p, smallB c = true := fun c hc => hsm c (List.mem_of_mem_take hc)
  have hinb : ∀ c, smallB c = true → inB (lst b) c = b c := fun c hc => inB_lst b c (smallB_iff.1 hc).1 (smallB_iff.1 hc).2
  refine ⟨rfl, hp, h12, lst_size b, ?_, ?_, ?_, ?_⟩
  · have key : ∃ c, inB (lst b) c = true := by
      obtain ⟨z, x', n, hd⟩ := hg
      cases z with
      | nil => exact ⟨36, by rw [inB_lst36]; exact b0.2 ⟨x', n, by simpa using hd⟩⟩
      | cons a z =>
        have ha := hd.smalls a (by simp)
        exact ⟨a, by rw [hinb a ha]; exact (ba a ha).2 ⟨z, x', n, by simpa using hd⟩⟩
    obtain ⟨c, hc⟩ := key
    unfold inB at hc
    obtain ⟨d, hd, _⟩ := List.any_eq_true.1 hc
    rw [← bytes_len]
    exact List.length_pos_of_mem hd
  · intro hlt
    have hcs : smallB (ch s p) = true := hsm _ (by
      rw [← bytes_get s p (by rw [bytes_len]; exact hlt)]; exact List.getElem_mem _)
    rw [hinb _ hcs]
    cases e : b (ch s p)
    · rfl
    · have := (ba _ hcs).1 e
      rw [← bytes_snoc s p hlt] at this
      exact absurd this (hn hlt)
  · intro y' x' hT
    have e0 : errT t (s.extract 0 p) = 0 := errT_of h0 (by rw [ByteArray.size_extract]; omega) (by rw [bytes_take0]; exact hsmt)
    rcases hT with ⟨h1, _⟩ | ⟨_, ⟨rfl, _, hno⟩ | ⟨rfl, x1, n, hd, _⟩⟩
    · exact absurd e0 h1
    · right
      refine ⟨rfl, ?_⟩
      rw [inB_lst36]
      cases e : b 36
      · rfl
      · have := b0.1 e
        rw [← bytes_take0] at this
        exact absurd this hno
    · left
      refine ⟨rfl, ?_⟩
      rw [inB_lst36]
      refine b0.2 ⟨x1, n, ?_⟩
      rw [← bytes_take0]; exact hd
  · intro hp12 c hc q y' x' hS
    have hc256 : c < 256 := by have := smallB_iff.1 hc; omega
    have eb : bytes (s.extract 0 p ++ ⟨#[UInt8.ofNat c]⟩) = (bytes s).take p ++ [c] := by rw [bytes_app, bytes_take0, bytes_one' c hc256]
    have el : ((bytes s).take p).length = p := by rw [List.length_take, bytes_len]; omega
    have es : (s.extract 0 p ++ ⟨#[UInt8.ofNat c]⟩ : ByteArray).size = p + 1 := by rw [← bytes_len, eb, List.length_append, el]; rfl
    have e0 : errT t (s.extract 0 p ++ ⟨#[UInt8.ofNat c]⟩) = 0 := errT_of h0 (by rw [es]; omega) (by
      rw [eb]
      intro d hd
      rcases List.mem_append.1 hd with hd | hd
      · exact hsmt d hd
      · rw [List.mem_singleton.1 hd]; exact hc)
    rcases hS with ⟨h1, _⟩ | ⟨_, rfl, hq, hgq, hnq, _⟩
    · exact absurd e0 h1
    rw [es] at hq hnq
    rw [eb] at hgq hnq
    have tk : ∀ m, m ≤ p → ((bytes s).take p ++ [c]).take m = ((bytes s).take p).take m := fun m hm => List.take_append_of_le_length (by omega)
    have tk1 : ((bytes s).take p ++ [c]).take (p + 1) = (bytes s).take p ++ [c] := List.take_of_length_le (by rw [List.length_append, el]; simp)
    refine ⟨rfl, ?_⟩
    rw [hinb c hc]
    cases e : b c
    · right
      refine ⟨rfl, ?_⟩
      have hng : ¬ GoodW (rul (parse t 8 0 []).1) (stOf (parse t 8 0 []).1) ((bytes s).take p ++ [c]) := fun h => by
        have := (ba c hc).2 h
        rw [e] at this; cases this
      have hq1 : q ≠ p + 1 := fun h => by rw [h, tk1] at hgq; exact hng hgq
      rcases Nat.lt_or_ge q p with hqp | hqp
      · exfalso
        refine hnq (by omega) ?_
        rw [tk (q + 1) (by omega)]
        exact GoodW.take (q := p) (by rw [List.take_take, Nat.min_self]; exact hg) (by omega)
      · omega
    · left
      refine ⟨rfl, ?_⟩
      have hgc := (ba c hc).1 e
      rcases Nat.lt_or_ge q (p + 1) with hqp | hqp
      · exfalso
        refine hnq hqp (GoodW.take (q := p + 1) (by rw [tk1]; exact hgc) (by omega))
      · omega
end Go.Proofs.YtkglggkkbmmjkaaDoor

namespace Go.Proofs.YtkglggkkbmmjkaaDoor
open Go.RowKit

theorem ds_len {L : List Ru} {l w x : List Nat} {n : Nat} (h : Ds L l w x n) : x.length = w.length + 3 * n := by
  induction h with
  | nil => rfl
  | small _ _ ih => rw [List.length_cons, List.length_cons, ih]; omega
  | big _ _ _ _ ih1 ih2 => simp only [List.length_cons, List.length_append]; omega
theorem ch_mid {S : ByteArray} {pre post : List Nat} {c : Nat} (h : bytes S = pre ++ c :: post) : ch S pre.length = c ∧ pre.length < S.size := by
  have hl : pre.length < S.size := by
    rw [← bytes_len, h, List.length_append, List.length_cons]; omega
  refine ⟨?_, hl⟩
  rw [← bytes_get S pre.length (by rw [bytes_len]; exact hl)]
  simp only [h]
  rw [List.getElem_append_right (Nat.le_refl _)]; simp
/-- letter, of what is written so -/
theorem l_letter (t : ByteArray) (ht : t.size ≤ 32) (hp : (parse t 8 0 []).2.2 = true) : ∀ (h c : Nat) (wv xv : List Nat) (n : Nat), Dh (rul (parse t 8 0 []).1) [c] wv xv n h → ∀ (b d : Nat) (S : ByteArray) (T pre post : List Nat) (w : World), Blk w b 5 (rdrF t S pre.length (bstr T) false) → bytes S = pre ++ (xv ++ post) → h ≤ d → d ≤ 1000 → S.size ≤ 1000000 → T.length + wv.length ≤ 1000 →
    Calls Tryd.prog 11 #[.pointer (some ⟨b, 0, none⟩), .int .u8 c, .int .i64 d] w fun e w' => e = .returned (.tuple #[]) ∧ Fr [b] w w' ∧ Blk w' b 5 (rdrF t S (pre ++ xv).length (bstr (T ++ wv)) false) := by
  have hsz := gr_sz t ht hp
  have hcl := gr_cl t ht hp
  intro h
  induction h with
  | zero =>
    intro c wv xv n hd
    generalize hz : (0 : Nat) = z at hd
    cases hd with
    | small => omega
    | big => omega
  | succ h ih =>
    intro c wv xv n hd b d S T pre post w hB hS hhd hd2 hSz hT
    generalize hz : h + 1 = z at hd
    cases hd with
    | @small _ h' _ _ w' x' hc hd' =>
      obtain ⟨rfl, rfl, _⟩ := hd'.ds.nil_inv
      have hS' : bytes S = pre ++ c :: post := by rw [hS]; rfl
      obtain ⟨e1, e2⟩ := ch_mid hS'
      refine (l_letter_small b pre.length c d t S (bstr T) w hB e2 hSz (by rw [bstr_size]; omega) e1 hc (by omega) hd2).mono ?_
      rintro e w' ⟨rfl, hB', hf'⟩
      refine ⟨rfl, hf', ?_⟩
      rw [List.length_append, bstr_app]
      exact hB'
    | @big k h' n1 n2 _ w1 w2 x1 x2 k1 k2 ha hb =>
      obtain rfl : h = h' := by omega
      obtain ⟨rfl, rfl, _⟩ := hb.ds.nil_inv
      have hl9 := hsz.l9
      have hS0 : bytes S = pre ++ (48 + k) :: (40 :: (x1 ++ 41 :: post)) := by rw [hS]; simp
      have hS1 : bytes S = (pre ++ [48 + k]) ++ 40 :: (x1 ++ 41 :: post) := by rw [hS]; simp
      have hS2 : bytes S = (pre ++ [48 + k, 40] ++ x1) ++ 41 :: post := by rw [hS]; simp
      obtain ⟨a1, a2⟩ := ch_mid hS0
      obtain ⟨b1, b2⟩ := ch_mid hS1
      obtain ⟨c1, c2⟩ := ch_mid hS2
      have l1 : (pre ++ [48 + k]).length = pre.length + 1 := by simp
      have l2 : (pre ++ [48 + k, 40] ++ x1).length = pre.length + 2 + x1.length := by simp; omega
      rw [l1] at b1 b2
      rw [l2] at c1 c2
      rw [List.append_nil] at hT
      have hR4 := hsz.r4 k
      refine (l_letter_big b pre.length (rget (rul (parse t 8 0 []).1) k).L d k x1.length t S (bstr T) (rget (rul (parse t 8 0 []).1) k).R (bstr (T ++ w1))
        (fun i a' T' => ∃ (xa wa xb wb : List Nat) (nb : Nat), a' = pre.length + 2 + xa.length ∧ T' = bstr (T ++ wa) ∧ x1 = xa ++ xb ∧ w1 = wa ++ wb ∧ Dh (rul (parse t 8 0 []).1) ((bytes (rget (rul (parse t 8 0 []).1) k).R).drop i) wb xb nb h)
        w hB hSz (by omega) k1 (by omega) (hcl.big k k1 k2) a1 b1 c1 c2 (by omega) hd2 (fun w => l_right t k w hp ht k1 k2 (by omega)) ⟨[], [], x1, w1, n1, rfl, by simp, rfl, rfl, by simpa using ha⟩ ?_ ?_).mono ?_
      · rintro i hi a' T' w' ⟨xa, wa, xb, wb, nb, rfl, rfl, ex, ew, hdh⟩ hB'
        have hdr : (bytes (rget (rul (parse t 8 0 []).1) k).R).drop i = ch (rget (rul (parse t 8 0 []).1) k).R i :: (bytes (rget (rul (parse t 8 0 []).1) k).R).drop (i + 1) := by
          rw [List.drop_eq_getElem_cons (by rw [bytes_len]; exact hi), bytes_get]
        rw [hdr] at hdh
        obtain ⟨w3, x3, n3, w4, x4, n4, d3, d4, rfl, rfl, _⟩ := hdh.cons_inv
        have ll : (pre ++ [48 + k, 40] ++ xa).length = pre.length + 2 + xa.length := by simp; omega
        rw [← ll] at hB'
        have hT' : (T ++ wa).length + w3.length ≤ 1000 := by
          rw [ew] at hT
          simp only [List.length_append] at hT ⊢
          omega
        refine (ih _ w3 x3 n3 d3 b (d - 1) S (T ++ wa) (pre ++ [48 + k, 40] ++ xa) (x4 ++ 41 :: post) w' hB' (by rw [hS0, ex]; simp) (by omega) (by omega) hSz hT').mono ?_
        rintro e w'' ⟨rfl, hf, hB''⟩
        refine ⟨rfl, hf, _, _, ⟨xa ++ x3, wa ++ w3, x4, w4, n4, ?_, ?_, by rw [ex, List.append_assoc], by rw [ew, List.append_assoc], d4⟩, hB''⟩
        · simp; omega
        · rw [List.append_assoc]
      · rintro a' T' ⟨xa, wa, xb, wb, nb, rfl, rfl, ex, ew, hdh⟩
        rw [List.drop_eq_nil_of_le (by rw [bytes_len]; exact Nat.le_refl _)] at hdh
        obtain ⟨rfl, rfl, _⟩ := hdh.ds.nil_inv
        rw [List.append_nil] at ex ew
        subst ex
        subst ew
        exact ⟨rfl, rfl⟩
      · rintro e w' ⟨rfl, hB', hf'⟩
        refine ⟨rfl, hf', ?_⟩
        rw [List.append_nil]
        have : (pre ++ (48 + k) :: 40 :: (x1 ++ [41])).length = pre.length + 2 + x1.length + 1 := by simp; omega
        rw [this]
        exact hB'
end Go.Proofs.YtkglggkkbmmjkaaDoor
