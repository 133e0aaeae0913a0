import Derived.Test.YtkglggkkbmmjkaaDoorE23RTo
import Derived.Test.YtkglggkkbmmjkaaDoorE24PRead0
import Derived.Test.YtkglggkkbmmjkaaDoorE26PCalls
import Derived.Test.YtkglggkkbmmjkaaDoorE9LSp2
import Derived.Test.YtkglggkkbmmjkaaDoorE4Names
import Derived.Deep.QuietTactic
import Derived.Test.YtkglggkkbmmjkaaDoorE22TMath
namespace Go.Proofs.YtkglggkkbmmjkaaDoor
open Go.RowKit

/-- an item at its rule's end, with this sign -/
def endI (rs : List Ru) (x k : Nat) (y : It) : Bool := y.P == (rget rs y.R).R.size && (y.T == x && y.R == k)
def endsL (rs : List Ru) (l : List It) (x k : Nat) : Bool := l.any (endI rs x k)
/-- the state of can -/
structure CaS (w wr : World) (cb mb q cq fq gS cS : Nat) (rs : List Ru) (N : Nat → Bool) (T : Nat → Nat → Bool) (n s : Nat) (x : Sl) (st : Bool) (ru : Nat → Bool) : Prop where
  fr : Fr [cb] w wr
  blk : Blk wr cb 10 (canF st ru)
  tb : TB wr mb q cq fq rs N T
  cS : wr.cell? ⟨mb, 130, none⟩ = some (.slice (some ⟨gS, 0, none⟩) n cS)
  cX : wr.cell? ⟨gS, s, none⟩ = some (slV x)
  its : ItAt wr x.g x.l
  ne : cb ≠ mb ∧ cb ≠ q ∧ cb ≠ fq ∧ cb ≠ gS ∧ cb ≠ x.g
  lt : cb < w.heap.size
theorem CaS.far {w wr wr' : World} {cb mb q cq fq gS cS z : Nat} {rs : List Ru} {N : Nat → Bool} {T : Nat → Nat → Bool} {n s : Nat} {x : Sl} {st : Bool} {ru : Nat → Bool} (h : CaS w wr cb mb q cq fq gS cS rs N T n s x st ru) (k : Fr [z] wr wr') (hz : wr.heap.size ≤ z) : CaS w wr' cb mb q cq fq gS cS rs N T n s x st ru := by
  have a1 := h.tb.cN.lt
  have a2 := h.tb.lt
  have a3 := h.tb.fT.lt
  have a4 := World.block_lt_of_cell? wr ⟨gS, s, none⟩ h.cX
  have a5 := h.fr.size
  have a6 := h.lt
  have hm : mb ∉ [z] := by simp; omega
  refine ⟨h.fr.trans1 k (Or.inr (by omega)), h.blk.fr1 k (by omega), h.tb.fr k hm (by simp; omega) (by simp; omega), k.cell h.cS hm, k.cell h.cX (by simp; simp at a4; omega), fun i hi => ?_, h.ne, h.lt⟩
  have a7 := World.block_lt_of_cell? wr ⟨x.g, i * 3, none⟩ (h.its i hi).1
  have hx : x.g ∉ [z] := by simp; simp at a7; omega
  exact ⟨k.cell (h.its i hi).1 hx, k.cell (h.its i hi).2.1 hx, k.cell (h.its i hi).2.2 hx⟩
theorem CaS.fr0 {w wr wr' : World} {cb mb q cq fq gS cS : Nat} {rs : List Ru} {N : Nat → Bool} {T : Nat → Nat → Bool} {n s : Nat} {x : Sl} {st : Bool} {ru : Nat → Bool} (h : CaS w wr cb mb q cq fq gS cS rs N T n s x st ru) (k : Fr [] wr wr') : CaS w wr' cb mb q cq fq gS cS rs N T n s x st ru :=
  ⟨h.fr.trans0 k, h.blk.fr0 k, h.tb.fr0 k, k.cell0 h.cS, k.cell0 h.cX, h.its.fr0 k, h.ne, h.lt⟩
theorem CaS.put {w wr wr' : World} {cb mb q cq fq gS cS : Nat} {rs : List Ru} {N : Nat → Bool} {T : Nat → Nat → Bool} {n s : Nat} {x : Sl} {st st' : Bool} {ru ru' : Nat → Bool} (h : CaS w wr cb mb q cq fq gS cS rs N T n s x st ru) (k : Fr [cb] wr wr') (hB : Blk wr' cb 10 (canF st' ru')) : CaS w wr' cb mb q cq fq gS cS rs N T n s x st' ru' := by
  obtain ⟨n1, n2, n3, n4, n5⟩ := h.ne
  exact ⟨h.fr.trans k (by simp), hB, h.tb.fr k (by simp; omega) (by simp; omega) (by simp; omega), k.cell h.cS (by simp; omega), k.cell h.cX (by simp; omega), h.its.fr k (by simp; omega), h.ne, h.lt⟩

end Go.Proofs.YtkglggkkbmmjkaaDoor

namespace Go.Proofs.YtkglggkkbmmjkaaDoor
open Go.RowKit

theorem rget_rul0 (rs : List Ru) : rget (rul rs) 0 = rul0 (stOf rs) := rfl
theorem rget_rul (rs : List Ru) (i : Nat) : rget (rul rs) (i + 1) = rget rs i := by
  unfold rget rul
  rw [List.getD_eq_getElem?_getD, List.getD_eq_getElem?_getD, List.getElem?_cons_succ]
theorem rget_mem (rs : List Ru) (i : Nat) : rget rs i ∈ rs ∨ rget rs i = ru0 := by
  rcases Nat.lt_or_ge i rs.length with h | h
  · left; rw [rget_eq rs i h]; exact List.getElem_mem h
  · right; exact rget_none rs i h
/-- the models fit the text's rules -/
theorem ctx_of (t : ByteArray) (ht : t.size ≤ 32) (h : (parse t 8 0 []).2.2 = true) : Ctx (rul (parse t 8 0 []).1) (nullS (parse t 8 0 []).1) (firstT (parse t 8 0 []).1) := by
  have hg := (parse_good t 8 0 [] (by simp)).1
  have hst := start_big t h
  have hlen := (parse_small t ht).2
  have hb : ∀ r ∈ (parse t 8 0 []).1, bigB r.L = true := fun r hr => (hg r hr).1
  have hc := bigB_iff.1 hst
  refine ⟨⟨?_, fun i => ?_, rfl⟩, fun c => van_eq0 (nulls_bigs _ hb) c, fun c x _ hx => iterF_small _ _ _ c x hx, fun n k hk => ?_, ?_⟩
  · unfold rul; rw [List.length_cons]; omega
  · cases i with
    | zero => rw [rget_rul0]; show 1 ≤ 4; omega
    | succ i =>
      rw [rget_rul]
      rcases rget_mem (parse t 8 0 []).1 i with h | h
      · exact (hg _ h).2.1
      · rw [h]; exact Nat.zero_le _
  · cases n with
    | zero => rw [rget_rul0] at hk ⊢; exact rul0_let _ hc k hk
    | succ n =>
      rw [rget_rul] at hk ⊢
      rcases rget_mem (parse t 8 0 []).1 n with h | h
      · exact (hg _ h).2.2.2 k hk
      · rw [h] at hk; exact absurd hk (Nat.not_lt_zero _)
  · unfold rul; rw [List.length_cons]; omega
/-- the program's table is the model's -/
theorem good_tab {t : ByteArray} (ht : t.size ≤ 32) (hp : (parse t 8 0 []).2.2 = true) {S : List Sd} {c : Nat} (h : TGood t S c) :
    ∃ M, TosOk S S.length M ∧ SsOk (rul (parse t 8 0 []).1) S ∧ 0 < S.length ∧ ∀ F, 1 ≤ F → tabM (rul (parse t 8 0 []).1) (nullS (parse t 8 0 []).1) (firstT (parse t 8 0 []).1) (F + S.length) 0 [startM (rul (parse t 8 0 []).1) (nullS (parse t 8 0 []).1) (firstT (parse t 8 0 []).1)] [] = some (mOf S, M) := by
  obtain ⟨h1, _, _, h4, _, h6, _⟩ := states_tab (ctx_of t ht hp) h.2.1
  obtain ⟨M, hM, hF⟩ := h6 rfl
  refine ⟨M, hM, h1, h4, fun F hF1 => ?_⟩
  rw [hF F]
  obtain ⟨F', rfl⟩ : ∃ F', F = F' + 1 := ⟨F - 1, by omega⟩
  rw [tabM, dif_neg (by rw [mOf_len]; omega)]
/-- too many states, for both -/
theorem err_tab {t : ByteArray} (ht : t.size ≤ 32) (hp : (parse t 8 0 []).2.2 = true) {n : Nat} {S : List Sd} {c x : Nat} (hx : x ≠ 0) (h : StatesR (plT t) n S c x) :
    x = 6 ∧ n ≤ 40 ∧ ∀ F, tabM (rul (parse t 8 0 []).1) (nullS (parse t 8 0 []).1) (firstT (parse t 8 0 []).1) (F + n) 0 [startM (rul (parse t 8 0 []).1) (nullS (parse t 8 0 []).1) (firstT (parse t 8 0 []).1)] [] = none := by
  obtain ⟨_, h2, h3, _, h5, _, h7⟩ := states_tab (ctx_of t ht hp) h
  have h6 : x = 6 := by omega
  exact ⟨h6, by omega, h7 h6⟩
end Go.Proofs.YtkglggkkbmmjkaaDoor

namespace Go.Proofs.YtkglggkkbmmjkaaDoor
open Go.RowKit

def SegR (t : ByteArray) (i e : Nat) (r : Ru) : Prop := r = ⟨ch t i, t.extract (i + 2) e, i⟩ ∧ i + 2 ≤ e ∧ e ≤ t.size ∧ ∀ j, i ≤ j → j < e → ch t j ≠ 59
/-- the rules lie one behind another -/
def ChainR (t : ByteArray) : Nat → List Ru → Prop
  | _, [] => False
  | i, [r] => SegR t i t.size r
  | i, r :: r' :: rs => ∃ e, SegR t i e r ∧ e < t.size ∧ ch t e = 59 ∧ ChainR t (e + 1) (r' :: rs)
theorem parse_chR (t : ByteArray) : ∀ f i acc, (parse t f i acc).2.2 = true → ∃ rs, (parse t f i acc).1 = acc ++ rs ∧ ChainR t i rs
  | 0, i, acc, h => by rw [parse] at h; cases h
  | f + 1, i, acc, h => by
    by_cases h0 : i < t.size ∧ bigB (ch t i) = true
    · by_cases h1 : i + 1 < t.size ∧ ch t (i + 1) = 61
      · have hb := runEnd_bd t 4 (i + 2)
        have hne : ∀ j, i ≤ j → j < runEnd t 4 (i + 2) → ch t j ≠ 59 := by
          intro j hj1 hj2 e
          rcases Nat.lt_or_ge j (i + 2) with h | h
          · rcases (show j = i ∨ j = i + 1 by omega) with rfl | rfl
            · rw [e] at h0; exact absurd h0.2 (by decide)
            · rw [e] at h1; exact absurd h1.2 (by decide)
          · have := runEnd_let t 4 (i + 2) j h hj2
            rw [e] at this; cases this
        by_cases h2 : runEnd t 4 (i + 2) < t.size
        · by_cases h3 : f = 0 ∨ ch t (runEnd t 4 (i + 2)) ≠ 59
          · rw [parse_bad2 t f i acc h0 h1 h2 h3] at h; cases h
          · rw [parse_more t f i acc h0 h1 h2 h3] at h ⊢
            obtain ⟨rs, e, hc⟩ := parse_chR t f _ _ h
            rw [e]
            refine ⟨⟨ch t i, t.extract (i + 2) (runEnd t 4 (i + 2)), i⟩ :: rs, by simp, ?_⟩
            cases rs with
            | nil => exact hc.elim
            | cons r' rs => exact ⟨runEnd t 4 (i + 2), ⟨rfl, by omega, by omega, hne⟩, h2, Classical.byContradiction fun h => h3 (Or.inr h), hc⟩
        · rw [parse_end t f i acc h0 h1 h2]
          have he : runEnd t 4 (i + 2) = t.size := by omega
          refine ⟨[⟨ch t i, t.extract (i + 2) (runEnd t 4 (i + 2)), i⟩], rfl, ?_⟩
          rw [he] at hne ⊢
          exact ⟨rfl, by omega, Nat.le_refl _, hne⟩
      · rw [parse_bad1 t f i acc h0 h1] at h; cases h
    · rw [parse_bad0 t f i acc h0] at h; cases h
theorem ChainR.at_ {t : ByteArray} : ∀ {rs : List Ru} {i : Nat}, ChainR t i rs → (rget rs 0).A = i ∧ ∀ k, k < rs.length → ∃ e, SegR t (rget rs k).A e (rget rs k) ∧ (k + 1 < rs.length → e < t.size ∧ ch t e = 59 ∧ (rget rs (k + 1)).A = e + 1) ∧ (k + 1 = rs.length → e = t.size)
  | [], _, h => h.elim
  | [r], i, h => by
    have h' : SegR t i t.size r := h
    have hA : r.A = i := by rw [h'.1]
    refine ⟨hA, fun k hk => ?_⟩
    obtain rfl : k = 0 := by simpa using hk
    refine ⟨t.size, ?_, fun h => absurd h (by simp), fun _ => rfl⟩
    show SegR t r.A t.size r
    rw [hA]; exact h'
  | r :: r' :: rs, i, h => by
    obtain ⟨e, h1, h2, h3, h4⟩ := h
    have hA : r.A = i := by rw [h1.1]
    obtain ⟨i1, i2⟩ := ChainR.at_ h4
    refine ⟨hA, fun k hk => ?_⟩
    cases k with
    | zero =>
      refine ⟨e, ?_, fun _ => ⟨h2, h3, i1⟩, fun h => absurd h (by simp)⟩
      show SegR t r.A e r
      rw [hA]; exact h1
    | succ k =>
      obtain ⟨e', a1, a2, a3⟩ := i2 k (by simpa using hk)
      exact ⟨e', a1, fun h => a2 (by simpa using h), fun h => a3 (by simpa using h)⟩
theorem byte_at (s : ByteArray) (i : Nat) (h : i < s.size) : s.extract i (i + 1) = ⟨#[UInt8.ofNat (ch s i)]⟩ := by
  apply ByteArray.ext
  apply Array.ext
  · simp [ByteArray.data_extract]; omega
  · intro k h1 h2
    obtain rfl : k = 0 := by simpa using h2
    rw [ch_eq s i h]
    simp [ByteArray.data_extract]; rfl
/-- what right is to find: rule k, its place and its end -/
structure RgO (t : ByteArray) (k a e : Nat) : Prop where
  two : a + 2 ≤ e
  le : e ≤ t.size
  no : ∀ j, a ≤ j → j < e → ch t j ≠ 59
  L : ch t a = (rget (rul (parse t 8 0 []).1) k).L
  R : t.extract (a + 2) e = (rget (rul (parse t 8 0 []).1) k).R
def plR (t : ByteArray) (k : Nat) : Nat := (rget (rul (parse t 8 0 []).1) k).A
theorem rg_of {t : ByteArray} (h : (parse t 8 0 []).2.2 = true) : plR t 1 = 0 ∧ ∀ k, 1 ≤ k → k < (rul (parse t 8 0 []).1).length → ∃ e, RgO t k (plR t k) e ∧ (k + 1 < (rul (parse t 8 0 []).1).length → e < t.size ∧ ch t e = 59 ∧ plR t (k + 1) = e + 1) ∧ (k + 1 = (rul (parse t 8 0 []).1).length → e = t.size) := by
  obtain ⟨rs, e, hc⟩ := parse_chR t 8 0 [] h
  rw [List.nil_append] at e
  obtain ⟨h1, h2⟩ := hc.at_
  unfold plR
  refine ⟨by rw [rget_rul, e]; exact h1, fun k k1 k2 => ?_⟩
  obtain ⟨k, rfl⟩ : ∃ q, k = q + 1 := ⟨k - 1, by omega⟩
  have hl : (rul (parse t 8 0 []).1).length = rs.length + 1 := by rw [e]; rfl
  obtain ⟨e', a1, a2, a3⟩ := h2 k (by omega)
  simp only [rget_rul, e]
  refine ⟨e', ⟨a1.2.1, a1.2.2.1, a1.2.2.2, ?_, ?_⟩, fun h => a2 (by rw [e] at hl; omega), fun h => a3 (by rw [e] at hl; omega)⟩
  · rw [rget_rul, e]; conv => rhs; rw [a1.1]
  · rw [rget_rul, e]; conv => rhs; rw [a1.1]
end Go.Proofs.YtkglggkkbmmjkaaDoor

namespace Go.Proofs.YtkglggkkbmmjkaaDoor
open Go.RowKit

set_option maxRecDepth 100000 in
set_option maxHeartbeats 1600000 in
theorem l_right (t : ByteArray) (k : Nat) (w : World) (h : (parse t 8 0 []).2.2 = true) (ht : t.size ≤ 32) (k1 : 1 ≤ k) (k2 : k < (rul (parse t 8 0 []).1).length) (k8 : k ≤ 1000) :
    Calls Tryd.prog 13 #[.string t, .int .i64 k] w fun e w' => e = .returned (.tuple #[.string ⟨#[UInt8.ofNat (rget (rul (parse t 8 0 []).1) k).L]⟩, .string (rget (rul (parse t 8 0 []).1) k).R]) ∧ Fr [] w w' := by
  obtain ⟨h1, hk⟩ := rg_of h
  have HK := hide hk
  have HP := hide h1
  clear hk h1 h
  go_enter Tryd.func13, Tryd.ntmps13
  go_wp2
  go_loop [6, 7] (fun a i => ∃ m : Nat, 1 ≤ m ∧ m ≤ k ∧ a = .int .i64 (plR t m : Nat) ∧ i = .int .i64 m) (fun _ i => k - (intOf i).toNat)
  case atStart => exact ⟨1, by omega, k1, by rw [unhide HP]; rfl, rfl⟩
  case round =>
    obtain ⟨m, m1, m2, rfl, rfl⟩ := hrel
    by_cases hlt : m < k
    · obtain ⟨e, hO, hN, _⟩ := unhide HK m m1 (by omega)
      obtain ⟨n1, n2, n3⟩ := hN (by omega)
      obtain ⟨a, ha⟩ : ∃ a, plR t m = a := ⟨_, rfl⟩
      rw [ha] at hO ⊢
      have HO := hide hO
      have h2 := hO.two
      have HN2 := hide n2
      have HN3 := hide n3
      clear hO n2 n3 ha hN
      go_wp2
      go_loop [6] (fun v => ∃ j : Nat, a ≤ j ∧ j ≤ e ∧ v = .int .i64 j) (fun v => e - (intOf v).toNat)
      case atStart => exact ⟨a, by omega, by omega, rfl⟩
      case round =>
        obtain ⟨j, j1, j2, rfl⟩ := hrel
        have hjs : j < t.size := by omega
        by_cases hj : j < e
        · have hc : ((t[j].toNat : Int) != 59) = true := by
            have := (unhide HO).no j j1 hj
            rw [ch_eq t j hjs] at this
            rw [bne_iff_ne]; omega
          go_wp2
          go_round
          case rel => exact ⟨j + 1, by omega, by omega, by go_num⟩
          case measure => simp [intOf]; omega
        · obtain rfl : j = e := by omega
          have hc : ((t[j].toNat : Int) != 59) = false := by
            have := unhide HN2
            rw [ch_eq t j hjs] at this
            rw [bne_eq_false_iff_eq]; omega
          go_wp2
          go_round
          case rel => exact ⟨m + 1, by omega, by omega, by rw [unhide HN3]; go_num, by go_num⟩
          case measure => simp [intOf]; omega
    · obtain rfl : m = k := by omega
      obtain ⟨e, hO, hN, hE⟩ := unhide HK m m1 k2
      obtain ⟨a, ha⟩ : ∃ a, plR t m = a := ⟨_, rfl⟩
      rw [ha] at hO ⊢
      have HO := hide hO
      have h2 := hO.two
      have h3 := hO.le
      have HC := hide (show e = t.size ∨ ch t e = 59 from by
        rcases Nat.lt_or_ge (m + 1) (rul (parse t 8 0 []).1).length with h | h
        · exact Or.inr (hN h).2.1
        · exact Or.inl (hE (by omega)))
      clear hO ha hN hE HK HP
      go_wp2
      go_loop [8] (fun v => ∃ j : Nat, a ≤ j ∧ j ≤ e ∧ v = .int .i64 j) (fun v => e - (intOf v).toNat)
      case atStart => exact ⟨a, by omega, by omega, rfl⟩
      case round =>
        obtain ⟨j, j1, j2, rfl⟩ := hrel
        by_cases hj : j < e
        · have hjs : j < t.size := by omega
          have hc : ((t[j].toNat : Int) != 59) = true := by
            have := (unhide HO).no j j1 hj
            rw [ch_eq t j hjs] at this
            rw [bne_iff_ne]; omega
          go_wp2
          go_round
          case rel => exact ⟨j + 1, by omega, by omega, by go_num⟩
          case measure => simp [intOf]; omega
        · obtain rfl : j = e := by omega
          have HR := hide (show (.returned (.tuple #[.string (t.extract a (a + 1)), .string (t.extract (a + 2) j)]) : Ending) = .returned (.tuple #[.string ⟨#[UInt8.ofNat (rget (rul (parse t 8 0 []).1) m).L]⟩, .string (rget (rul (parse t 8 0 []).1) m).R]) from by
            rw [byte_at t a (by omega), (unhide HO).L, (unhide HO).R])
          by_cases hjs : j < t.size
          · have hc : ((t[j].toNat : Int) != 59) = false := by
              have := (unhide HC).resolve_left (by omega)
              rw [ch_eq t j hjs] at this
              rw [bne_eq_false_iff_eq]; omega
            go_wp2
            go_quiet (fail)
            go_wp2
            go_ret2
            exact ⟨by rw [← unhide HR]; rfl, fr_drewN _ _⟩
          · obtain rfl : j = t.size := by omega
            go_wp2
            go_quiet (fail)
            go_wp2
            go_ret2
            exact ⟨by rw [← unhide HR]; rfl, fr_drewN _ _⟩
end Go.Proofs.YtkglggkkbmmjkaaDoor

namespace Go.Proofs.YtkglggkkbmmjkaaDoor
open Go.RowKit

/-- a table: its states, their steps -/
abbrev Tb := List (List It) × List (List (Nat × Nat))
/-- what can be done in a state where a sign comes -/
def canS (r : Tb) (j x : Nat) : Bool := decide (0 ≤ toM (r.2.getD j []) x)
def canR (L : List Ru) (r : Tb) (j x k : Nat) : Bool := endsL L (r.1.getD j []) x k
def actT (L : List Ru) (r : Tb) (j x : Nat) : ByteArray := wordsT (canS r j x) (canR L r j x)
end Go.Proofs.YtkglggkkbmmjkaaDoor
