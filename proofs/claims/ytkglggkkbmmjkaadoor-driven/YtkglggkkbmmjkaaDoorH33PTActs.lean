import Derived.Test.YtkglggkkbmmjkaaDoorH32PCalls2
import Derived.Test.YtkglggkkbmmjkaaDoorH29PRead0
import Derived.Test.YtkglggkkbmmjkaaDoorH12LrTab
namespace Go.Proofs.YtkglggkkbmmjkaaDoor
open Go.RowKit

def AcIO (n : Int) (c : Nat) (p : Pl) (S : List Sd) (w : World) (e : Ending) (w' : World) : Prop := Fr [] w w' ∧ ∃ st ru, e = .returned (Agg 10 (acF st ru)) ∧ ((0 ≤ n ∧ n < S.length) → st = (stepTo S n.toNat c != -1) ∧ ru = ruS p (sget S n.toNat).A c)
set_option maxRecDepth 100000 in
set_option maxHeartbeats 1000000 in
/-- table.acts, whatever the number -/
theorem p_actsI (tb base c : Nat) (n : Int) (p : Pl) (v : Value) (S : List Sd) (cores fault : Nat) (w : World) (h : TbR w tb base p v S cores fault) (hc : sigB c = true) :
    Calls Tryd.prog 26 #[.pointer (some ⟨tb, 0, none⟩), .int .i64 n, .int .u8 c] w fun e w' => AcIO n c p S w e w' := by
  by_cases hn : 0 ≤ n ∧ n < S.length
  · have hk : n = (n.toNat : Nat) := by omega
    have := p_acts tb base n.toNat c p v S cores fault w h (by omega) hc
    rw [← hk] at this
    exact this.mono fun e w' ⟨h1, h2⟩ => ⟨h2, _, _, h1, fun _ => ⟨rfl, rfl⟩⟩
  · have hhs : (decide (0 ≤ n) && decide (n < S.length)) = false := by
      rw [Bool.and_eq_false_iff, decide_eq_false_iff_not, decide_eq_false_iff_not]; omega
    have H := hide h
    have HNN := hide hn
    clear h hn hc
    go_enter Tryd.func26, Tryd.ntmps26
    go_wp2_with (first
      | (refine wpList_alloc_blk rfl 74 rfl (some 6) rfl 10 _ Tryd.zeroActs ?_; intro w1 hf1 hs1 hB1; have HF1 := hide hf1; have HA1 := hide hB1; clear hf1 hB1)
      | (refine wpList_alloc_blk rfl 74 rfl (some 7) rfl 10 _ Tryd.zeroActs ?_; intro w2 hf2 hs2 hB2; have HF2 := hide ((unhide HF1).trans0 hf2); have HA2 := hide ((unhide HA1).fr0 hf2); have HB2 := hide (show Blk w2 (w.heap.size + 1) 10 (acF false fun _ => false) from hs1 ▸ hB2); clear hf2 hB2 HF1 HA1)
      | (go_at_call 24; refine (p_hasStateR tb base p _ S cores fault n _ (by exact (unhide H).fr0 (unhide HF2))).mono ?_; rintro e w' ⟨rfl, hw'⟩; rw [hw', hhs])
      | (refine wpList_load_blk rfl 74 (.tmp 7) rfl (some 14) rfl (w.heap.size + 1) 0 10 10 (acF false fun _ => false) _ rfl (by exact unhide HB2) Tryd.underlying74 rfl Tryd.sizeActs (by omega) ?_)
      | (refine wpList_store_blk rfl 74 (.tmp 6) (.tmp 14) rfl w.heap.size 0 10 10 (acF false fun _ => false) (fun i => acF false (fun _ => false) (0 + i)) rfl rfl (by exact unhide HA2) Tryd.sizeActs (by omega) (fun i hi => oneB_acF _ _ (0 + i + 1) (0 + i) (Nat.lt_succ_self _)) ?_; intro w7 hf7 hs7 hB7))
    exact bodyPost_ret (results_cell Tryd.results26 _ w.heap.size rfl 10 10 _ _ (hB7.congr fun i hi => lay_all _ _ _ i hi) Tryd.underlying74 rfl Tryd.sizeActs (by omega)) rfl ⟨(unhide HF2).trans1 hf7 (Or.inr (Nat.le_refl _)), false, fun _ => false, by congr 2; funext i; rw [Nat.zero_add], fun e => absurd e (unhide HNN)⟩

/-- a word that is one sign -/
def sgnX (s : ByteArray) : Bool := decide (s.size = 1) && sigB (ch s 0)
/-- what Acts hands back -/
def ActsO (t : ByteArray) (n : Int) (s y : ByteArray) (x : Nat) : Prop :=
  (TErr t x ∧ x ≠ 0 ∧ y = ⟨#[]⟩) ∨ ∃ S c, TGood t S c ∧ ((¬ (0 ≤ n ∧ n < S.length) ∧ x = 7 ∧ y = ⟨#[]⟩) ∨ ((0 ≤ n ∧ n < S.length) ∧ sgnX s = false ∧ x = 5 ∧ y = ⟨#[]⟩) ∨ ((0 ≤ n ∧ n < S.length) ∧ sgnX s = true ∧ x = 0 ∧ y = ⟨(acL (stepTo S n.toNat (ch s 0) != -1) (ruS (plT t) (sget S n.toNat).A (ch s 0)) 9).toArray⟩))

set_option maxRecDepth 100000 in
set_option maxHeartbeats 2000000 in
/-- Acts -/
theorem p_Acts (t : ByteArray) (n : Int) (s : ByteArray) (w : World) (ht : t.size ≤ 9223372036854775807) :
    Calls Tryd.prog 12 #[.string t, .int .i64 n, .string s] w fun e w' => Fr [] w w' ∧ ∃ (y : ByteArray) (x : Nat), e = .returned (.tuple #[.string y, .int .i64 x]) ∧ ActsO t n s y x := by
  by_cases h1 : s.size = 1
  · have hc0 : ((s[0]'(by omega)).toNat : Int) = ((ch s 0 : Nat) : Int) := by rw [ch_eq s 0 (by omega)]
    have h1i : ((s.size : Int) != 1) = false := by rw [bne_eq_false_iff_eq]; omega
    obtain ⟨c, hc⟩ : ∃ c, ch s 0 = c := ⟨_, rfl⟩
    have HW := hide (show sgnX s = sigB c from by unfold sgnX; rw [hc]; simp [h1])
    rw [hc] at hc0
    have HCC := hide hc
    clear hc
    cases hl : sigB c
    · rw [hl] at HW
      go_enter Tryd.func12, Tryd.ntmps12
      go_wp2_with (first
        | (go_at_call 23; refine (p_readTable t w ht).mono ?_; rintro e w1 ⟨f, rfl, hT⟩; obtain ⟨x, ao, l, cap, hx1, hx0, hx2, hx3⟩ := hT.parts; have HX1 := hide hx1; have HX2 := hide hx2; have HX3 := hide hx3; have HO := hide hT.2.1; have HF1 := hide hT.1; clear hT hx1 hx2 hx3 hx0)
        | (refine wpList_alloc_blk rfl 57 rfl (some 8) rfl 1362 _ Tryd.zeroTbl ?_; intro w2 hf2 hs2 hB2; have HF2 := hide hf2; have HB2 := hide hB2; clear hf2 hB2 hs2)
        | (refine wpList_store_blk rfl 57 (.tmp 8) (.tmp 11) rfl w1.heap.size 0 1362 1362 zTb f rfl rfl (by exact unhide HB2) Tryd.sizeTbl (by omega) (by exact unhide HO) ?_; intro w3 hf3 hs3 hB3; have HF3 := hide hf3; have HB3 := hide hB3; have HFw := hide (show Fr [] w w3 from ((unhide HF1).trans0 (unhide HF2)).trans1 hf3 (Or.inr (unhide HF1).size)); have c6 := (hB3.cell 1361 (by omega)).trans (congrArg some ((lay_all _ _ _ _ (by omega)).trans (unhide HX1))); clear hf3 hB3 hs3)
        | (go_at_call 24; obtain ⟨S, c2, base, hG, hlS, hfi, hrow⟩ := unhide HX3 (by (have h : ((x : Int) != 0) = false := (by assumption); have : (x : Int) = 0 := (by simpa using h); omega)); have HTB := hide (TabOut.lay hfi hrow (unhide HF2) (unhide HF3) (unhide HB3)); have HGd := hide hG; refine (p_hasStateR w1.heap.size base (plT t) _ S c2 0 n _ (by exact unhide HTB)).mono ?_; rintro e w' ⟨rfl, hw'⟩; rw [hw']; clear hG hlS hfi hrow)
        | (go_at_call 25; refine (p_isSign c _).mono ?_; rintro e w' ⟨rfl, hw'⟩; rw [hw', hl]))
      · have hff : ((x : Int) != 0) = true := by assumption
        have hx0 : x ≠ 0 := fun e => by rw [e] at hff; cases hff
        go_quiet (fail)
        go_wp2
        go_ret2
        exact ⟨(unhide HFw).trans0 (fr_drewN _ _), ⟨#[]⟩, x, rfl, Or.inl ⟨unhide HX2 hx0, hx0, rfl⟩⟩
      · have hh : (!decide (0 ≤ n)) = true ∨ (!decide (n < S.length)) = true := by assumption
        have hh2 : ¬ (0 ≤ n ∧ n < S.length) := by simp at hh; omega
        go_ret2
        exact ⟨unhide HFw, ⟨#[]⟩, 7, rfl, Or.inr ⟨S, c2, unhide HGd, Or.inl ⟨hh2, rfl, rfl⟩⟩⟩
      · have hh : (!decide (0 ≤ n)) = false ∧ (!decide (n < S.length)) = false := by assumption
        have hh2 : 0 ≤ n ∧ n < S.length := by simpa using hh
        go_ret2
        exact ⟨unhide HFw, ⟨#[]⟩, 5, rfl, Or.inr ⟨S, c2, unhide HGd, Or.inr (Or.inl ⟨hh2, unhide HW, rfl, rfl⟩)⟩⟩
    · rw [hl] at HW
      go_enter Tryd.func12, Tryd.ntmps12
      go_wp2_with (first
        | (go_at_call 23; refine (p_readTable t w ht).mono ?_; rintro e w1 ⟨f, rfl, hT⟩; obtain ⟨x, ao, l, cap, hx1, hx0, hx2, hx3⟩ := hT.parts; have HX1 := hide hx1; have HX2 := hide hx2; have HX3 := hide hx3; have HO := hide hT.2.1; have HF1 := hide hT.1; clear hT hx1 hx2 hx3 hx0)
        | (refine wpList_alloc_blk rfl 57 rfl (some 8) rfl 1362 _ Tryd.zeroTbl ?_; intro w2 hf2 hs2 hB2; have HF2 := hide hf2; have HB2 := hide hB2; clear hf2 hB2 hs2)
        | (refine wpList_store_blk rfl 57 (.tmp 8) (.tmp 11) rfl w1.heap.size 0 1362 1362 zTb f rfl rfl (by exact unhide HB2) Tryd.sizeTbl (by omega) (by exact unhide HO) ?_; intro w3 hf3 hs3 hB3; have HF3 := hide hf3; have HB3 := hide hB3; have HFw := hide (show Fr [] w w3 from ((unhide HF1).trans0 (unhide HF2)).trans1 hf3 (Or.inr (unhide HF1).size)); have c6 := (hB3.cell 1361 (by omega)).trans (congrArg some ((lay_all _ _ _ _ (by omega)).trans (unhide HX1))); clear hf3 hB3 hs3)
        | (go_at_call 24; obtain ⟨S, c2, base, hG, hlS, hfi, hrow⟩ := unhide HX3 (by (have h : ((x : Int) != 0) = false := (by assumption); have : (x : Int) = 0 := (by simpa using h); omega)); have HTB := hide (TabOut.lay hfi hrow (unhide HF2) (unhide HF3) (unhide HB3)); have HGd := hide hG; refine (p_hasStateR w1.heap.size base (plT t) _ S c2 0 n _ (by exact unhide HTB)).mono ?_; rintro e w' ⟨rfl, hw'⟩; rw [hw']; clear hG hlS hfi hrow)
        | (go_at_call 25; refine (p_isSign c _).mono ?_; rintro e w' ⟨rfl, hw'⟩; rw [hw', hl])
        | (go_at_call 26; refine (p_actsI w1.heap.size base c n (plT t) _ S c2 0 w3 (by exact unhide HTB) hl).mono ?_; rintro e w4 ⟨hf4, st, ru, rfl, hsr⟩; have HF4 := hide ((unhide HFw).trans0 hf4); have HSR := hide hsr; clear hf4 hsr)
        | (refine wpList_alloc_blk rfl 74 rfl (some 9) rfl 10 _ Tryd.zeroActs ?_; intro w5 hf5 hs5 hB5; have HF5 := hide ((unhide HF4).trans0 hf5); have HB5 := hide hB5; clear hf5 hB5)
        | (refine wpList_store_blk rfl 74 (.tmp 9) (.tmp 32) rfl w4.heap.size 0 10 10 (acF false fun _ => false) (acF st ru) rfl rfl (by exact unhide HB5) Tryd.sizeActs (by omega) (oneB_acF st ru 10) ?_; intro w6 hf6 hs6 hB6; have HF6 := hide ((unhide HF5).trans1 hf6 (Or.inr (unhide HF4).size)); have HB6 := hide (show Blk w6 w4.heap.size 10 (acF st ru) from hB6.congr fun i hi => lay_all _ _ _ i hi); clear hf6 hB6)
        | (go_at_call 27; refine (p_alist w4.heap.size st ru w6 (by exact unhide HB6)).mono ?_; rintro e w7 ⟨rfl, hf7⟩; have HF7 := hide ((unhide HF6).trans0 hf7); clear hf7))
      · have hff : ((x : Int) != 0) = true := by assumption
        have hx0 : x ≠ 0 := fun e => by rw [e] at hff; cases hff
        go_quiet (fail)
        go_wp2
        go_ret2
        exact ⟨(unhide HFw).trans0 (fr_drewN _ _), ⟨#[]⟩, x, rfl, Or.inl ⟨unhide HX2 hx0, hx0, rfl⟩⟩
      · have hh : (!decide (0 ≤ n)) = true ∨ (!decide (n < S.length)) = true := by assumption
        have hh2 : ¬ (0 ≤ n ∧ n < S.length) := by simp at hh; omega
        go_ret2
        exact ⟨unhide HFw, ⟨#[]⟩, 7, rfl, Or.inr ⟨S, c2, unhide HGd, Or.inl ⟨hh2, rfl, rfl⟩⟩⟩
      · have hh : (!decide (0 ≤ n)) = false ∧ (!decide (n < S.length)) = false := by assumption
        have hh2 : 0 ≤ n ∧ n < S.length := by simpa using hh
        go_ret2
        obtain ⟨e1, e2⟩ := unhide HSR hh2
        exact ⟨unhide HF7, _, 0, rfl, Or.inr ⟨S, c2, unhide HGd, Or.inr (Or.inr ⟨hh2, unhide HW, rfl, by rw [e1, e2, unhide HCC]⟩)⟩⟩
  · have h1i : ((s.size : Int) != 1) = true := by rw [bne_iff_ne]; omega
    have HW := hide (show sgnX s = false from by unfold sgnX; rw [show decide (s.size = 1) = false from by simpa using h1]; rfl)
    clear h1
    go_enter Tryd.func12, Tryd.ntmps12
    go_wp2_with (first
      | (go_at_call 23; refine (p_readTable t w ht).mono ?_; rintro e w1 ⟨f, rfl, hT⟩; obtain ⟨x, ao, l, cap, hx1, hx0, hx2, hx3⟩ := hT.parts; have HX1 := hide hx1; have HX2 := hide hx2; have HX3 := hide hx3; have HO := hide hT.2.1; have HF1 := hide hT.1; clear hT hx1 hx2 hx3 hx0)
      | (refine wpList_alloc_blk rfl 57 rfl (some 8) rfl 1362 _ Tryd.zeroTbl ?_; intro w2 hf2 hs2 hB2; have HF2 := hide hf2; have HB2 := hide hB2; clear hf2 hB2 hs2)
      | (refine wpList_store_blk rfl 57 (.tmp 8) (.tmp 11) rfl w1.heap.size 0 1362 1362 zTb f rfl rfl (by exact unhide HB2) Tryd.sizeTbl (by omega) (by exact unhide HO) ?_; intro w3 hf3 hs3 hB3; have HF3 := hide hf3; have HB3 := hide hB3; have HFw := hide (show Fr [] w w3 from ((unhide HF1).trans0 (unhide HF2)).trans1 hf3 (Or.inr (unhide HF1).size)); have c6 := (hB3.cell 1361 (by omega)).trans (congrArg some ((lay_all _ _ _ _ (by omega)).trans (unhide HX1))); clear hf3 hB3 hs3)
      | (go_at_call 24; obtain ⟨S, c2, base, hG, hlS, hfi, hrow⟩ := unhide HX3 (by (have h : ((x : Int) != 0) = false := (by assumption); have : (x : Int) = 0 := (by simpa using h); omega)); have HTB := hide (TabOut.lay hfi hrow (unhide HF2) (unhide HF3) (unhide HB3)); have HGd := hide hG; refine (p_hasStateR w1.heap.size base (plT t) _ S c2 0 n _ (by exact unhide HTB)).mono ?_; rintro e w' ⟨rfl, hw'⟩; rw [hw']; clear hG hlS hfi hrow))
    · have hff : ((x : Int) != 0) = true := by assumption
      have hx0 : x ≠ 0 := fun e => by rw [e] at hff; cases hff
      go_quiet (fail)
      go_wp2
      go_ret2
      exact ⟨(unhide HFw).trans0 (fr_drewN _ _), ⟨#[]⟩, x, rfl, Or.inl ⟨unhide HX2 hx0, hx0, rfl⟩⟩
    · have hh : (!decide (0 ≤ n)) = true ∨ (!decide (n < S.length)) = true := by assumption
      have hh2 : ¬ (0 ≤ n ∧ n < S.length) := by simp at hh; omega
      go_ret2
      exact ⟨unhide HFw, ⟨#[]⟩, 7, rfl, Or.inr ⟨S, c2, unhide HGd, Or.inl ⟨hh2, rfl, rfl⟩⟩⟩
    · have hh : (!decide (0 ≤ n)) = false ∧ (!decide (n < S.length)) = false := by assumption
      have hh2 : 0 ≤ n ∧ n < S.length := by simpa using hh
      go_ret2
      exact ⟨unhide HFw, ⟨#[]⟩, 5, rfl, Or.inr ⟨S, c2, unhide HGd, Or.inr (Or.inl ⟨hh2, unhide HW, rfl, rfl⟩)⟩⟩
end Go.Proofs.YtkglggkkbmmjkaaDoor

namespace Go.Proofs.YtkglggkkbmmjkaaDoor
open Go.RowKit

theorem rget_rul0 (rs : List Ru) : rget (rul rs) 0 = rul0 (stOf rs) := rfl
theorem rget_rul (rs : List Ru) (i : Nat) : rget (rul rs) (i + 1) = rget rs i := by
  unfold rget rul
  rw [List.getD_eq_getElem?_getD, List.getD_eq_getElem?_getD, List.getElem?_cons_succ]
theorem rget_mem (rs : List Ru) (i : Nat) : rget rs i ∈ rs ∨ rget rs i = ru0 := by
  rcases Nat.lt_or_ge i rs.length with h | h
  · left; rw [rget_eq rs i h]; exact List.getElem_mem h
  · right; exact rget_none rs i h
/-- the models fit the text's rules -/
theorem ctx_of (t : ByteArray) (ht : t.size ≤ 32) (h : (parse t 8 0 []).2.2 = true) : Ctx (rul (parse t 8 0 []).1) (nullS (parse t 8 0 []).1) (firstT (parse t 8 0 []).1) := by
  have hg := (parse_good t 8 0 [] (by simp)).1
  have hst := start_big t h
  have hlen := (parse_small t ht).2
  have hb : ∀ r ∈ (parse t 8 0 []).1, bigB r.L = true := fun r hr => (hg r hr).1
  have hc := bigB_iff.1 hst
  refine ⟨⟨?_, fun i => ?_, rfl⟩, fun c => van_eq0 (nulls_bigs _ hb) c, fun c x _ hx => iterF_small _ _ _ c x hx, fun n k hk => ?_, ?_⟩
  · unfold rul; rw [List.length_cons]; omega
  · cases i with
    | zero => rw [rget_rul0]; show 1 ≤ 4; omega
    | succ i =>
      rw [rget_rul]
      rcases rget_mem (parse t 8 0 []).1 i with h | h
      · exact (hg _ h).2.1
      · rw [h]; exact Nat.zero_le _
  · cases n with
    | zero => rw [rget_rul0] at hk ⊢; exact rul0_let _ hc k hk
    | succ n =>
      rw [rget_rul] at hk ⊢
      rcases rget_mem (parse t 8 0 []).1 n with h | h
      · exact (hg _ h).2.2.2 k hk
      · rw [h] at hk; exact absurd hk (Nat.not_lt_zero _)
  · unfold rul; rw [List.length_cons]; omega
/-- the program's table is the model's -/
theorem good_tab {t : ByteArray} (ht : t.size ≤ 32) (hp : (parse t 8 0 []).2.2 = true) {S : List Sd} {c : Nat} (h : TGood t S c) :
    ∃ M, TosOk S S.length M ∧ SsOk (rul (parse t 8 0 []).1) S ∧ 0 < S.length ∧ ∀ F, 1 ≤ F → tabM (rul (parse t 8 0 []).1) (nullS (parse t 8 0 []).1) (firstT (parse t 8 0 []).1) (F + S.length) 0 [startM (rul (parse t 8 0 []).1) (nullS (parse t 8 0 []).1) (firstT (parse t 8 0 []).1)] [] = some (mOf S, M) := by
  obtain ⟨h1, _, _, h4, _, h6, _⟩ := states_tab (ctx_of t ht hp) h.2.1
  obtain ⟨M, hM, hF⟩ := h6 rfl
  refine ⟨M, hM, h1, h4, fun F hF1 => ?_⟩
  rw [hF F]
  obtain ⟨F', rfl⟩ : ∃ F', F = F' + 1 := ⟨F - 1, by omega⟩
  rw [tabM, dif_neg (by rw [mOf_len]; omega)]
/-- too many states, for both -/
theorem err_tab {t : ByteArray} (ht : t.size ≤ 32) (hp : (parse t 8 0 []).2.2 = true) {n : Nat} {S : List Sd} {c x : Nat} (hx : x ≠ 0) (h : StatesR (plT t) n S c x) :
    x = 6 ∧ n ≤ 40 ∧ ∀ F, tabM (rul (parse t 8 0 []).1) (nullS (parse t 8 0 []).1) (firstT (parse t 8 0 []).1) (F + n) 0 [startM (rul (parse t 8 0 []).1) (nullS (parse t 8 0 []).1) (firstT (parse t 8 0 []).1)] [] = none := by
  obtain ⟨_, h2, h3, _, h5, _, h7⟩ := states_tab (ctx_of t ht hp) h
  have h6 : x = 6 := by omega
  exact ⟨h6, by omega, h7 h6⟩
end Go.Proofs.YtkglggkkbmmjkaaDoor

namespace Go.Proofs.YtkglggkkbmmjkaaDoor
open Go.RowKit

/-- the rules that can be put back, for both -/
theorem putback_eq {L : List Ru} {N : Nat → Bool} {T : Nat → Nat → Bool} {A : Nat → Bool} (hA : SOk L A) {c : Nat} (hc : sigB c = true) {r : Nat} (hr : r < 9) : ruS (planOf L N T) A c r = endsL L (repL A) c r := by
  apply Bool.eq_iff_iff.2
  unfold ruS endsL ruA
  rw [Bool.and_eq_true, decide_eq_true_eq, List.any_eq_true, List.any_eq_true]
  have hso := sgO_lt hc
  constructor
  · rintro ⟨_, t, ht, h⟩
    have ht := List.mem_range.1 ht
    rw [Bool.and_eq_true] at h
    obtain ⟨h1, h2⟩ := h
    have h1' : (decide (r < L.length) && t == (rget L r).R.size) = true := h1
    rw [Bool.and_eq_true, decide_eq_true_eq, beq_iff_eq] at h1'
    have e1 : (r * 135 + t * 27 + sgO c) / 135 = r := by omega
    have e2 : (r * 135 + t * 27 + sgO c) % 135 / 27 = t := by omega
    have e3 : (r * 135 + t * 27 + sgO c) % 27 = sgO c := by omega
    refine ⟨itOf (r * 135 + t * 27 + sgO c), itOf_mem.2 ⟨by omega, h2⟩, ?_⟩
    unfold endI itOf
    dsimp only
    rw [e1, e2, e3, sgn_sgO hc, ← h1'.2]
    simp
  · rintro ⟨x, hx, h⟩
    obtain ⟨j, hj, ha, rfl⟩ := mem_repL.1 hx
    unfold endI at h
    rw [Bool.and_eq_true, Bool.and_eq_true, beq_iff_eq, beq_iff_eq, beq_iff_eq] at h
    obtain ⟨h1, h2, h3⟩ := h
    obtain ⟨k1, _, _⟩ := hA j hj ha
    have h3' : j / 135 = r := h3
    have h1' : j % 135 / 27 = (rget L (j / 135)).R.size := h1
    have h2' : sgn (j % 27) = c := h2
    have hs : sgO c = j % 27 := by rw [← h2', sgO_sgn]
    have k1' : j / 135 < L.length := k1
    refine ⟨hr, j % 135 / 27, List.mem_range.2 (by omega), ?_⟩
    rw [Bool.and_eq_true]
    refine ⟨?_, by rw [hs, show r * 135 + j % 135 / 27 * 27 + j % 27 = j from by omega]; exact ha⟩
    show (decide (r < L.length) && j % 135 / 27 == (rget L r).R.size) = true
    rw [Bool.and_eq_true, decide_eq_true_eq, beq_iff_eq]
    exact ⟨by omega, by rw [h1', h3']⟩
theorem toM_cases (m : List (Nat × Nat)) (c : Nat) : toM m c = -1 ∨ 0 ≤ toM m c := by
  unfold toM
  split
  · right; omega
  · left; rfl
/-- a step, for both -/
theorem step_eq {S : List Sd} {n : Nat} {M : List (List (Nat × Nat))} (h : TosOk S n M) {k : Nat} (hk : k < n) (c : Nat) : stepTo S k c = toM (M.getD k []) c := by
  unfold stepTo
  cases hc : letB c
  · rw [if_neg (by simp)]
    symm
    unfold toM
    rw [show (M.getD k []).find? (fun p => p.1 == c) = none from by
      rw [List.find?_eq_none]
      intro q hq
      obtain ⟨j, hj, e⟩ := h.2.2 k hk q hq
      rw [e]
      intro e2
      have e3 : ltr j = c := by simpa using e2
      rw [← e3, letB_ltr hj] at hc; cases hc]
  · rw [if_pos rfl, h.2.1 k hk (ltI c) (ltI_lt hc), ltr_ltI hc]
theorem stepB_eq {S : List Sd} {n : Nat} {M : List (List (Nat × Nat))} (h : TosOk S n M) {k : Nat} (hk : k < n) (c : Nat) : (stepTo S k c != -1) = decide (0 ≤ toM (M.getD k []) c) := by
  rw [step_eq h hk c]
  rcases toM_cases (M.getD k []) c with e | e
  · rw [e]; rfl
  · rw [decide_eq_true e, bne_iff_ne]; omega
theorem acL_congr {st : Bool} {ru ru2 : Nat → Bool} (h : ∀ i, i < 9 → ru i = ru2 i) : acL st ru 9 = wdU st ru2 9 := by
  unfold acL wdU
  rw [List.filter_congr (q := ru2) (fun j hj => h j (List.mem_range.1 hj))]
/-- Acts, for both -/
theorem acts_eq {L : List Ru} {N : Nat → Bool} {T : Nat → Nat → Bool} {S : List Sd} {n : Nat} {M : List (List (Nat × Nat))} (hS : SsOk L S) (hM : TosOk S n M) {k : Nat} (hk : k < n) (hk2 : k < S.length) {c : Nat} (hc : sigB c = true) :
    (⟨(acL (stepTo S k c != -1) (ruS (planOf L N T) (sget S k).A c) 9).toArray⟩ : ByteArray) = wordsT (decide (0 ≤ toM (M.getD k []) c)) (endsL L (repL (sget S k).A) c) := by
  unfold wordsT
  rw [stepB_eq hM hk c, acL_congr (fun i hi => putback_eq (hS.get hk2) hc hi)]
end Go.Proofs.YtkglggkkbmmjkaaDoor
