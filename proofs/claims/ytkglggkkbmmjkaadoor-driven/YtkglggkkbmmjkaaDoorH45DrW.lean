import Derived.Test.YtkglggkkbmmjkaaDoorH44PRdT
import Derived.OwnWalk
import Derived.Test.YtkglggkkbmmjkaaDoorH34PMix2
namespace Go.Proofs.YtkglggkkbmmjkaaDoor
open Go.RowKit

theorem SI.form {L : List Ru} {N : Nat → Bool} {T : Nat → Nat → Bool} {r : Tb} {st : Stk} {u : List Nat} (h : SI L N T r st u) : ∃ s x st0, st = (s, x) :: st0 := by
  cases h with
  | base => exact ⟨_, _, _, rfl⟩
  | push => exact ⟨_, _, _, rfl⟩
/-- the table that readForText has made, laid into a variable, and the reading beside it -/
structure Rdy (t s : ByteArray) (w w4 : World) (tb rb : Nat) (S : List Sd) (c : Nat) (M : List (List (Nat × Nat))) (base : Nat) (v : Value) : Prop where
  e0 : errT t s = 0
  fr : Fr [] w w4
  le : w.heap.size ≤ rb
  is_ : TIs t S M
  blk : Blk w4 rb 2 zRd
  tab : TbR w4 tb base (plT t) v S c 0
  tlt : tb < rb
  vlt : ∀ g, v.ownBlock = some g → g < rb
theorem rdy_of {t s : ByteArray} {w w1 w2 w3 w4 : World} {f z : Nat → Value} (h : RftO t s w w1 f) (h0 : errT t s = 0) (hf2 : Fr [] w1 w2) (hs2 : w2.heap.size = w1.heap.size + 1) (hf3 : Fr [w1.heap.size] w2 w3) (hB3 : Blk w3 w1.heap.size 1362 (lay z 0 1362 f)) (hf4 : Fr [] w3 w4) (hB4 : Blk w4 w3.heap.size 2 zRd) :
    ∃ S c M base v, Rdy t s w w4 w1.heap.size w3.heap.size S c M base v := by
  obtain ⟨h1, h2, h3, h4⟩ := h
  obtain ⟨S, c, M, base, ao, l, cap, hG, hM, hl, hfi, hrow⟩ := h4 h0
  have s3 := hf3.size
  have hT := TabOut.lay hfi hrow hf2 hf3 hB3
  refine ⟨S, c, M, base, _, h0, ((h1.trans0 hf2).trans1 hf3 (Or.inr h1.size)).trans0 hf4, by have := h1.size; omega, hM, hB4, hT.fr0 hf4, by omega, fun g hg => by have := (hrow.lt hg).2; omega⟩

set_option maxRecDepth 100000 in
set_option maxHeartbeats 4000000 in
/-- Tree -/
theorem p_Tree (t s : ByteArray) (w : World) (ht : t.size ≤ 9223372036854775807) (hsm : s.size ≤ 9223372036854775807) :
    Calls Tryd.prog 9 #[.string t, .string s] w fun e w' => Fr [] w w' ∧ ∃ (y : ByteArray) (x : Nat), e = .returned (.tuple #[.string y, .int .i64 x]) ∧ TreeO t s y x := by
  obtain ⟨x, hx⟩ : ∃ x, errT t s = x := ⟨_, rfl⟩
  have HE := hide hx
  clear hx
  go_enter Tryd.func9, Tryd.ntmps9
  go_wp2_with (first
    | (go_at_call 17; refine (p_readForText t s w ht hsm).mono ?_; rintro e w1 ⟨f, rfl, hT⟩; have HT := hide hT; have HO := hide hT.2.1; clear hT)
    | (refine wpList_alloc_blk rfl 57 rfl (some 6) rfl 1362 _ Tryd.zeroTbl ?_; intro w2 hf2 hs2 hB2; have HF2 := hide hf2; have HB2 := hide hB2; have HS2 := hide hs2; clear hf2 hB2 hs2)
    | (refine wpList_store_blk rfl 57 (.tmp 6) (.tmp 13) rfl w1.heap.size 0 1362 1362 zTb f rfl rfl (by exact unhide HB2) Tryd.sizeTbl (by omega) (by exact unhide HO) ?_; intro w3 hf3 hs3 hB3; have HF3 := hide hf3; have HB3 := hide hB3; have HFw := hide (show Fr [] w w3 from ((unhide HT).1.trans0 (unhide HF2)).trans1 hf3 (Or.inr (unhide HT).1.size)); have c6 := (hB3.cell 1361 (by omega)).trans (congrArg some ((lay_all _ _ _ _ (by omega)).trans ((unhide HT).2.2.1.trans (by rw [unhide HE])))); clear hf3 hB3 hs3)
    | (refine wpList_alloc_blk rfl 62 rfl (some 7) rfl 2 _ Tryd.zeroRd ?_; intro w4 hf4 hs4 hB4; have HF4 := hide hf4; have HB4 := hide hB4; clear hf4 hB4 hs4))
  · have hff : ((x : Int) != 0) = true := by assumption
    have hx0 : x ≠ 0 := fun e => by rw [e] at hff; cases hff
    go_quiet (fail)
    go_wp2
    go_ret2
    exact ⟨(unhide HFw).trans0 (fr_drewN _ _), ⟨#[]⟩, x, rfl, Or.inl ⟨by rw [unhide HE]; exact hx0, (unhide HE).symm, rfl⟩⟩
  · have hff : ((x : Int) != 0) = false := by assumption
    have hx0 : x = 0 := by
      have : (x : Int) = 0 := by simpa using hff
      omega
    obtain ⟨S, c, M, base, v, hY⟩ := rdy_of (unhide HT) ((unhide HE).trans hx0) (unhide HF2) (unhide HS2) (unhide HF3) (unhide HB3) (unhide HF4) (unhide HB4)
    clear HT HE HF2 HS2 HF3 HB3 HF4 HB4 HB2 HO HFw c6 hff hx0
    obtain ⟨tb, htb⟩ : ∃ tb, w1.heap.size = tb := ⟨_, rfl⟩
    obtain ⟨rb, hrb⟩ : ∃ rb, w3.heap.size = rb := ⟨_, rfl⟩
    rw [htb] at hY ⊢
    rw [hrb] at hY ⊢
    clear htb hrb
    have HY := hide hY
    obtain ⟨r, hr, hRd, hlen, hsml⟩ := errT_rd hY.e0
    have : r = (mOf S, M) := by rw [hY.is_.tab] at hr; exact (Sum.inr.inj hr).symm
    subst this
    have HRd := hide hRd
    have HSm := hide hsml
    have HP := hide (tabP_of hY.is_)
    have HTb := hide hr
    clear hY hr hRd hsml
    refine (p_start rb tb base (plT t) v S c w4 (by exact (unhide HY).blk) (by exact (unhide HY).tab) (unhide HY).tlt (unhide HY).vlt).mono ?_
    rintro e w5 ⟨rfl, hb5, sv, hR5⟩
    have HF5 := hide ((unhide HY).fr.of_below hb5 (unhide HY).le)
    have HR5 := hide hR5
    clear hb5 hR5
    go_wp2_with fail
    refine (p_takeAll t rb tb base (plT t) v S c sv _ _ _ _ _ _ s w5 (unhide HR5) (unhide HP) (unhide HRd) hlen (unhide HSm)).mono ?_
    rintro e w6 ⟨n, st, sv6, rfl, hrd, hb6, hR6, hSI, hsz⟩
    have HF6 := hide ((unhide HF5).of_below hb6 (unhide HY).le)
    have HK := hide (tkn_of (unhide HY).e0 (unhide HTb) hrd)
    have HR6 := hide hR6
    have HSI := hide hSI
    have HSz := hide hsz
    clear hrd hb6 hR6 hSI hsz HR5 HF5
    by_cases hn : n < s.size
    · have hli : (n : Int) < s.size := by omega
      go_wp2
      go_ret2
      exact ⟨unhide HF6, ⟨#[]⟩, 9, rfl, (unhide HK).short hn⟩
    · have hli : ¬ (n : Int) < s.size := by omega
      go_wp2_with fail
      refine (p_settle t rb tb base (plT t) v S c sv6 _ _ _ _ 36 _ _ st _ 60000000 w6 (unhide HR6) (unhide HP) (unhide HRd) (unhide HSI) rfl (unhide HSz) (by omega)).mono ?_
      rintro e w7 ⟨b, st7, sv7, rfl, hset, hb7, hR7, hSI7, hsz7⟩
      have HF7 := hide ((unhide HF6).of_below hb7 (unhide HY).le)
      have HEn := hide ((unhide HK).end_ hn hset)
      have HR7 := hide hR7
      clear hset hb7 hR7 hSI7 hsz7
      cases b
      · have HTr := hide ((unhide HEn).1 rfl)
        clear HEn
        go_wp2
        go_ret2
        exact ⟨unhide HF7, ⟨#[]⟩, 9, rfl, unhide HTr⟩
      · obtain ⟨j, y, rfl, hTr⟩ := (unhide HEn).2 rfl
        have HTr := hide hTr
        clear hTr HEn
        go_wp2_with (go_at_call 21; refine (p_last rb tb base (plT t) v S c sv7 (j, y) [(0, [])] w7 (by exact unhide HR7) (by simp)).mono ?_; rintro e w8 ⟨rfl, hf8⟩; have HF8 := hide ((unhide HF7).trans0 hf8); clear hf8)
        go_ret2
        exact ⟨(unhide HF8).alloc _, bstr y, 0, rfl, unhide HTr⟩

end Go.Proofs.YtkglggkkbmmjkaaDoor

namespace Go.Proofs.YtkglggkkbmmjkaaDoor
open Go.RowKit

def stI (st : Stk) : List Value := (st.map fun q => Value.int .i64 ((q.1 : Nat) : Int)).reverse
theorem stI_cons (q : Nat × List Nat) (st : Stk) : stI (q :: st) = stI st ++ [.int .i64 ((q.1 : Nat) : Int)] := by unfold stI; simp
theorem stI_len (st : Stk) : (stI st).length = st.length := by unfold stI; simp
theorem stI_app (pt st : Stk) : stI (pt ++ st) = stI st ++ stI pt := by unfold stI; simp
theorem ownsRow_take1 {w : World} {base e g n m cap : Nat} {xs ys : List Value} (h : w.ownsRow base e 1 (.slice (some ⟨g, 0, none⟩) n cap) n (xs ++ ys)) (hx : xs.length = m) (hm : m ≤ n) : w.ownsRow base e 1 (.slice (some ⟨g, 0, none⟩) m cap) m xs := by
  obtain ⟨h1, h2⟩ := h
  refine ⟨by omega, Or.inr ?_⟩
  rcases h2 with ⟨h3, _⟩ | ⟨g', cap', cur, e', h3, h4, h5, h6, h7, h8⟩
  · cases h3
  · cases e'
    refine ⟨g, cap, cur, rfl, h3, h4, by omega, h6, h7, ?_⟩
    have := congrArg (List.take (m * 1)) h8
    rw [List.take_take, Nat.min_eq_left (Nat.mul_le_mul_right 1 hm), Nat.mul_one, ← hx, List.take_left] at this
    rw [hx] at this
    rw [Nat.mul_one]
    exact this
theorem stI_form {w : World} {base : Nat} {sv : Value} {q : Nat × List Nat} {st : Stk} (h : w.ownsRow base 3 1 sv (q :: st).length (stI (q :: st))) : ∃ g cap, sv = .slice (some ⟨g, 0, none⟩) (st.length + 1) cap ∧ base ≤ g ∧ g < w.heap.size ∧ st.length + 1 ≤ cap ∧ cap ≤ maxLen ∧ w.cell? ⟨g, st.length, none⟩ = some (.int .i64 ((q.1 : Nat) : Int)) := by
  have h' := h
  obtain ⟨_, h2⟩ := h
  rcases h2 with ⟨_, h3⟩ | ⟨g, cap, cur, e, h3, h4, h5, h6, _⟩
  · simp at h3
  · have := h'.lt g (by rw [e]; rfl)
    refine ⟨g, cap, e, this.1, this.2, h5, h6, ?_⟩
    rw [e] at h'
    refine row_cell h' ?_
    rw [stI_cons, List.getElem?_append_right (by rw [stI_len]; exact Nat.le_refl _), stI_len, Nat.sub_self]; rfl
theorem errT_le (t s : ByteArray) : errT t s ≤ 8 := by
  unfold errT
  split
  · omega
  · split
    · rename_i x hx
      unfold tabR at hx
      split at hx
      · have := Sum.inl.inj hx
        rw [← this]
        unfold gErr
        split
        · simp
        · split
          · simp
          · split
            · simp
            · split <;> simp
      · split at hx
        · have := Sum.inl.inj hx; omega
        · cases hx
    · split
      · omega
      · split <;> omega
/-- the text with its end's sign -/
structure TxE (s x : ByteArray) : Prop where
  sz : x.size = s.size + 1
  at_ : ∀ i, i ≤ s.size → ch x i = nxS s i
theorem txE (s : ByteArray) : TxE s (s ++ ⟨#[36]⟩) := by
  have hb : bytes (s ++ ⟨#[36]⟩) = bytes s ++ [36] := by rw [bytes_app]; rfl
  have hz : (s ++ ⟨#[36]⟩ : ByteArray).size = s.size + 1 := by rw [← bytes_len, hb, List.length_append, bytes_len]; rfl
  refine ⟨hz, fun i hi => ?_⟩
  have h1 := bytes_get (s ++ ⟨#[36]⟩) i (by rw [bytes_len, hz]; omega)
  rw [← h1]
  simp only [hb]
  unfold nxS
  by_cases h : i < s.size
  · rw [if_pos h, List.getElem_append_left (by rw [bytes_len]; exact h), bytes_get]
  · obtain rfl : i = s.size := by omega
    rw [if_neg h, List.getElem_append_right (by rw [bytes_len]; exact Nat.le_refl _)]; simp
theorem TxE.one {s x : ByteArray} (h : TxE s x) {i : Nat} (hi : i ≤ s.size) : x.extract i (i + 1) = ⟨#[UInt8.ofNat (nxS s i)]⟩ := by
  rw [byte_at x i (by have := h.sz; omega), h.at_ i hi]
theorem ch_one {c : Nat} (h : c < 256) : ch (⟨#[UInt8.ofNat c]⟩ : ByteArray) 0 = c := by
  have := bytes_get (⟨#[UInt8.ofNat c]⟩ : ByteArray) 0 (by rw [bytes_one' c h]; simp)
  rw [← this]
  simp only [bytes_one' c h]
  rfl
theorem actV_of {L : List Ru} {r : Tb} {j a : Nat} (hj : j < r.1.length) (ha : sigB a = true) (h2 : a < 256) : actV L (j : Int) ⟨#[UInt8.ofNat a]⟩ (.inr r) = (actT L r j a, 0) := by
  unfold actV
  dsimp only
  have hs : sgnX (⟨#[UInt8.ofNat a]⟩ : ByteArray) = true := by
    unfold sgnX
    rw [ch_one h2, ha]; rfl
  rw [if_pos ⟨by omega, by omega⟩, if_neg (by rw [hs]; simp), ch_one h2]
  rfl
theorem stepV_of {r : Tb} {j a : Nat} (hj : j < r.1.length) (ha : letB a = true) (h2 : a < 256) : stepV (j : Int) ⟨#[UInt8.ofNat a]⟩ (.inr r) = (gto r j a, 0) := by
  unfold stepV
  dsimp only
  have hs : ltrW (⟨#[UInt8.ofNat a]⟩ : ByteArray) = true := by
    unfold ltrW
    rw [ch_one h2, ha]; rfl
  rw [if_pos ⟨by omega, by omega⟩, if_neg (by rw [hs]; simp), ch_one h2]
  rfl
end Go.Proofs.YtkglggkkbmmjkaaDoor
