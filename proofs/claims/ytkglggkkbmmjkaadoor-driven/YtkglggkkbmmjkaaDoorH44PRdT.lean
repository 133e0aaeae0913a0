import Derived.Test.YtkglggkkbmmjkaaDoorH37TxDef
import Derived.Test.YtkglggkkbmmjkaaDoorH38LrT2
import Derived.Test.YtkglggkkbmmjkaaDoorH43PTx
import Derived.Test.YtkglggkkbmmjkaaDoorH33PTActs
import Derived.Test.YtkglggkkbmmjkaaDoorH10RPut
import Derived.Test.YtkglggkkbmmjkaaDoorH4Names
import Derived.Deep.QuietTactic
import Derived.Test.YtkglggkkbmmjkaaDoorH8Scr
namespace Go.Proofs.YtkglggkkbmmjkaaDoor
open Go.RowKit

structure Drv (t s : ByteArray) (r : Tb) : Prop where
  e0 : errT t s = 0
  hr : tabR t = .inr r
  rd : Rd (rul (parse t 8 0 []).1) (nullS (parse t 8 0 []).1) (firstT (parse t 8 0 []).1) r (stOf (parse t 8 0 []).1) 1048576
  len : s.size ≤ 12
  sm : ∀ c ∈ bytes s, smallB c = true
theorem drv_of {t s : ByteArray} (h : errT t s = 0) : ∃ r, Drv t s r := by
  obtain ⟨r, h1, h2, h3, h4⟩ := errT_rd h
  exact ⟨r, h, h1, h2, h3, h4⟩
theorem Drv.gerr {t s : ByteArray} {r : Tb} (h : Drv t s r) : (gErr t).1 = 0 := (tabR_len h.hr).1
theorem Drv.uq {t s : ByteArray} {r : Tb} (h : Drv t s r) : Uq (rul (parse t 8 0 []).1) (stOf (parse t 8 0 []).1) := fun _ _ _ _ _ h1 h2 => (ds_uniq h.rd.tab h.rd.nocl h.rd.st0 h1 h2).2
theorem Drv.sz {t s : ByteArray} {r : Tb} (h : Drv t s r) : GrSz (rul (parse t 8 0 []).1) := by
  obtain ⟨a, b⟩ := gErr_zero h.gerr
  exact gr_sz t a b
theorem Drv.all {t s : ByteArray} {r : Tb} (h : Drv t s r) : ∀ k, 1 ≤ k → k < (rul (parse t 8 0 []).1).length → ∃ w x n, Ds (rul (parse t 8 0 []).1) (bytes (rget (rul (parse t 8 0 []).1) k).R) w x n := fun _ _ hk => list_some _ (fun _ hc => let_all h.gerr hk hc)
/-- behind n replacements and i letters -/
structure Dst (t s : ByteArray) (r : Tb) (st : Stk) (i n : Nat) : Prop where
  le : i ≤ s.size
  si : SI (rul (parse t 8 0 []).1) (nullS (parse t 8 0 []).1) (firstT (parse t 8 0 []).1) r st ((bytes s).take i)
  run : Run (rul (parse t 8 0 []).1) r n [(0, [])] (bytes s ++ [36]) st ((bytes s).drop i ++ [36])
  n1 : n ≤ 8001
theorem dst0 (t s : ByteArray) (r : Tb) : Dst t s r [(0, [])] 0 0 := ⟨Nat.zero_le _, by rw [List.take_zero]; exact SI.base, by rw [List.drop_zero]; exact Run.refl, by omega⟩
/-- the sign that comes -/
def nxS (s : ByteArray) (i : Nat) : Nat := if i < s.size then ch s i else 36
theorem nx_rest {s : ByteArray} {i : Nat} (h : i ≤ s.size) : (bytes s).drop i ++ [36] = nxS s i :: ((bytes s).drop (i + 1) ++ if i < s.size then [36] else []) := by
  unfold nxS
  by_cases hi : i < s.size
  · rw [if_pos hi, if_pos hi, List.drop_eq_getElem_cons (by rw [bytes_len]; exact hi), bytes_get]; rfl
  · rw [if_neg hi, if_neg hi, List.drop_eq_nil_of_le (by rw [bytes_len]; omega), List.drop_eq_nil_of_le (by rw [bytes_len]; omega)]; rfl
theorem nx_sig {t s : ByteArray} {r : Tb} (h : Drv t s r) {i : Nat} : (i < s.size ∧ smallB (nxS s i) = true) ∨ (¬ i < s.size ∧ nxS s i = 36) := by
  unfold nxS
  by_cases hi : i < s.size
  · refine Or.inl ⟨hi, ?_⟩
    rw [if_pos hi]
    refine h.sm _ ?_
    rw [← bytes_get s i (by rw [bytes_len]; exact hi)]; exact List.getElem_mem _
  · exact Or.inr ⟨hi, by rw [if_neg hi]⟩
theorem nx_sigB {t s : ByteArray} {r : Tb} (h : Drv t s r) (i : Nat) : sigB (nxS s i) = true := by
  rcases nx_sig h (i := i) with ⟨_, h1⟩ | ⟨_, h1⟩
  · exact sigB_of (Or.inr h1)
  · exact sigB_of (Or.inl h1)
theorem take_rest (s : ByteArray) (i : Nat) : (bytes s).take i ++ ((bytes s).drop i ++ [36]) = bytes s ++ [36] := by
  rw [← List.append_assoc, List.take_append_drop]
/-- where something can be done, few replacements were done -/
theorem dst_bound {t s : ByteArray} {r : Tb} (h : Drv t s r) {st : Stk} {i n : Nat} (hd : Dst t s r st i n) (hc : (smallB (nxS s i) = true ∧ canS r (topS st) (nxS s i) = true) ∨ ∃ k, canR (rul (parse t 8 0 []).1) r (topS st) (nxS s i) k = true) : n ≤ 8000 := by
  obtain ⟨v, hv⟩ := hd.si.good h.rd.tab h.rd.so h.rd.st0 hc
  have hrun := hd.run
  rw [← take_rest s i] at hrun
  have hnr := nx_rest hd.le
  rcases nx_sig h (i := i) with ⟨hi, ha⟩ | ⟨hi, ha⟩
  · obtain ⟨w, x, m, z', hds, e⟩ := acc_split hv ha
    obtain ⟨m0, hp0⟩ := pd_of hds _ _ _ e
    obtain ⟨m1, h1, hp⟩ := tight_pd h.sz h.all h.uq hp0 (by rw [List.length_take, bytes_len]; have := h.len; omega)
    rw [hnr] at hrun
    obtain ⟨st', f1, f2, f3⟩ := sim_p h.rd.tab h.rd.so hp (xs := []) (st := []) h.rd.tab.pos h.rd.item0 (by simpa using h.rd.st0) ((bytes s).drop (i + 1) ++ if i < s.size then [36] else [])
    rcases hrun.det h.rd.tab h.rd.nocl f3 with ⟨k, _, e⟩ | ⟨k, hk, e⟩
    · omega
    · generalize hin : nxS s i :: ((bytes s).drop (i + 1) ++ if i < s.size then [36] else []) = inA at hk
      cases hk with
      | refl => omega
      | shift _ _ _ _ h' =>
        have := h'.len
        rw [List.length_cons] at this; omega
      | @reduce n k s0 a' j x inp' _ pt st1 _ h0 h1 h2 h3 h4 h5 h6 h7 =>
        obtain ⟨rfl, rfl⟩ := List.cons.inj hin
        have hlen := h.rd.tab.cl.gr.len
        have := h.rd.nocl.sr (k := k) h0 (sigB_small ha) (by omega) f2
        rw [h3] at this; cases this
  · rw [ha] at hv hnr
    obtain ⟨x, m, hds⟩ := acc_end hv
    have hm := tight_ds h.sz h.uq hds (by rw [List.length_take, bytes_len]; have := h.len; omega)
    have hin : (bytes s).drop (i + 1) ++ (if i < s.size then [36] else []) = [] := by
      rw [if_neg hi, List.append_nil, List.drop_eq_nil_of_le (by rw [bytes_len]; omega)]
    rw [hnr, hin] at hrun
    obtain ⟨pt, e1, e2, e3, e4, e5⟩ := sim h.rd.tab hds (xs := []) (st := []) h.rd.tab.pos h.rd.item0 (by simpa using h.rd.st0) []
    have hsz : (rget (rul (parse t 8 0 []).1) 0).R.size = 1 := by rw [← bytes_len, h.rd.st0]; rfl
    have c1 : canR (rul (parse t 8 0 []).1) r (topS (pt ++ [(0, [])])) 36 0 = true := canR_of (by rw [hsz]; exact e4)
    rcases hrun.det h.rd.tab h.rd.nocl e5 with ⟨k, _, e⟩ | ⟨k, hk, e⟩
    · omega
    · obtain ⟨rfl, _, _⟩ := hk.stuck h.rd.tab h.rd.nocl (by rfl) c1
      omega
/-- nothing can be done: the text is not derived -/
theorem dst_none {t s : ByteArray} {r : Tb} (h : Drv t s r) {st : Stk} {i n : Nat} (hd : Dst t s r st i n) (hS : canS r (topS st) (nxS s i) = false) (hR : ∀ k, k < 9 → canR (rul (parse t 8 0 []).1) r (topS st) (nxS s i) k = false) : ¬ ∃ x m, Ds (rul (parse t 8 0 []).1) [stOf (parse t 8 0 []).1] (bytes s) x m := by
  rintro ⟨x, m, hds⟩
  have hnr := nx_rest hd.le
  obtain ⟨pt, e1, e2, e3, e4, e5⟩ := sim h.rd.tab hds (xs := []) (st := []) h.rd.tab.pos h.rd.item0 (by simpa using h.rd.st0) []
  have hsz : (rget (rul (parse t 8 0 []).1) 0).R.size = 1 := by rw [← bytes_len, h.rd.st0]; rfl
  have c1 : canR (rul (parse t 8 0 []).1) r (topS (pt ++ [(0, [])])) 36 0 = true := canR_of (by rw [hsz]; exact e4)
  have hlen := h.rd.tab.cl.gr.len
  have hrun := hd.run
  rw [hnr] at hrun
  have key : ∀ {st' : Stk} {inp : List Nat} {k : Nat}, Run (rul (parse t 8 0 []).1) r k st (nxS s i :: inp) st' [36] → (st' = st ∧ nxS s i :: inp = [36]) := by
    intro st' inp k hk
    generalize hin : nxS s i :: inp = inA at hk
    cases hk with
    | refl => exact ⟨rfl, rfl⟩
    | shift h0 _ h2 _ _ =>
      obtain ⟨rfl, _⟩ := List.cons.inj hin
      exact absurd (hS.symm.trans (canS_of h2)) (by simp)
    | @reduce n k s0 a' j x inp' _ pt st1 _ h0 h1 h2 h3 h4 h5 h6 h7 =>
      obtain ⟨rfl, rfl⟩ := List.cons.inj hin
      have := hR k (by omega)
      rw [h3] at this; cases this
  rcases hrun.det h.rd.tab h.rd.nocl e5 with ⟨k, hk, e⟩ | ⟨k, hk, e⟩
  · obtain ⟨e6, e7⟩ := key hk
    rw [e6] at c1
    have : nxS s i = 36 := (List.cons.inj e7).1
    rw [this] at hR
    rw [hR 0 (by omega)] at c1; cases c1
  · obtain ⟨rfl, e6, e7⟩ := hk.stuck h.rd.tab h.rd.nocl (by rfl) c1
    have : nxS s i = 36 := (List.cons.inj e7).1
    rw [this, e6] at hR
    rw [hR 0 (by omega)] at c1; cases c1
theorem wdU_one {ru : Nat → Bool} {k : Nat} (h : (wdU false ru 9).length ≤ 1) (hk : k < 9) (hr : ru k = true) : wdU false ru 9 = [UInt8.ofNat (48 + k)] := by
  unfold wdU at *
  have hm : k ∈ (List.range 9).filter ru := List.mem_filter.2 ⟨List.mem_range.2 hk, hr⟩
  generalize (List.range 9).filter ru = l at *
  cases l with
  | nil => cases hm
  | cons a l =>
    cases l with
    | nil => rw [List.mem_singleton.1 hm]; rfl
    | cons b l => simp at h
theorem wdU_nil {ru : Nat → Bool} (h : ∀ k, k < 9 → ru k = false) : (List.range 9).filter ru = [] := by
  rw [List.filter_eq_nil_iff]
  intro k hk
  rw [h k (List.mem_range.1 hk)]; simp
/-- a turn -/
theorem dst_turn {t s : ByteArray} {r : Tb} (h : Drv t s r) {st : Stk} {i n : Nat} (hd : Dst t s r st i n) :
    (actT (rul (parse t 8 0 []).1) r (topS st) (nxS s i) = ⟨#[]⟩ ∧ ¬ ∃ x m, Ds (rul (parse t 8 0 []).1) [stOf (parse t 8 0 []).1] (bytes s) x m) ∨
    (actT (rul (parse t 8 0 []).1) r (topS st) (nxS s i) = ⟨#[48]⟩ ∧ i = s.size ∧ ∃ x m, Ds (rul (parse t 8 0 []).1) [stOf (parse t 8 0 []).1] (bytes s) x m) ∨
    (actT (rul (parse t 8 0 []).1) r (topS st) (nxS s i) = ⟨#[115]⟩ ∧ i < s.size ∧ n ≤ 8000 ∧ ∃ j : Nat, gto r (topS st) (nxS s i) = j ∧ j < r.1.length ∧ Dst t s r ((j, [nxS s i]) :: st) (i + 1) n) ∨
    (∃ k, 1 ≤ k ∧ k < 9 ∧ k < (rul (parse t 8 0 []).1).length ∧ actT (rul (parse t 8 0 []).1) r (topS st) (nxS s i) = ⟨#[UInt8.ofNat (48 + k)]⟩ ∧ n ≤ 8000 ∧ ∃ (pt : Stk) (s0 : Nat) (xs : List Nat) (st' : Stk) (j : Nat), st = pt ++ (s0, xs) :: st' ∧ pt.length = (rget (rul (parse t 8 0 []).1) k).R.size ∧ gto r s0 (rget (rul (parse t 8 0 []).1) k).L = (j : Nat) ∧ j < r.1.length ∧ s0 < r.1.length ∧ Dst t s r ((j, nodeT k (txt pt)) :: (s0, xs) :: st') i (n + 1)) := by
  have hlt := hd.si.lt h.rd.tab.pos
  have hlen := h.rd.tab.cl.gr.len
  have hsig := nx_sigB h i
  have hno := h.rd.nocl _ hlt _ hsig
  rw [actT_len] at hno
  unfold actT wordsT
  cases hS : canS r (topS st) (nxS s i)
  · by_cases hR : ∃ k, k < 9 ∧ canR (rul (parse t 8 0 []).1) r (topS st) (nxS s i) k = true
    · obtain ⟨k, hk, hc⟩ := hR
      rw [hS] at hno
      rw [wdU_one hno hk hc]
      have hb := dst_bound h hd (Or.inr ⟨k, hc⟩)
      cases k with
      | zero =>
        obtain ⟨ha, j, x, m, _, hds⟩ := hd.si.done h.rd.tab h.rd.st0 hc
        refine Or.inr (Or.inl ⟨rfl, ?_, ?_⟩)
        · rcases nx_sig h (i := i) with ⟨_, h1⟩ | ⟨h1, _⟩
          · rw [ha] at h1; cases h1
          · have := hd.le; omega
        · have hi : i = s.size := by
            rcases nx_sig h (i := i) with ⟨_, h1⟩ | ⟨h1, _⟩
            · rw [ha] at h1; cases h1
            · have := hd.le; omega
          rw [hi, bytes_take_all s _ (Nat.le_refl _)] at hds
          exact ⟨x, m, hds⟩
      | succ k =>
        obtain ⟨pt, s0, xs, st', j, e1, e2, e3, e4, e5, e6, e7⟩ := hd.si.replace h.rd.tab (by omega) hc
        refine Or.inr (Or.inr (Or.inr ⟨k + 1, by omega, hk, e3, rfl, hb, pt, s0, xs, st', j, e1, e2, e4, e5, e6, hd.le, e7, ?_, by omega⟩))
        have hrun := hd.run
        refine hrun.trans (m := 1) ?_
        rw [nx_rest hd.le, e1]
        rw [e1] at hlt hc
        exact Run.reduce hlt (by omega) e3 hc e2 e4 e5 Run.refl
    · have hR' : ∀ k, k < 9 → canR (rul (parse t 8 0 []).1) r (topS st) (nxS s i) k = false := fun k hk => by
        cases e : canR (rul (parse t 8 0 []).1) r (topS st) (nxS s i) k
        · rfl
        · exact absurd ⟨k, hk, e⟩ hR
      refine Or.inl ⟨?_, dst_none h hd hS hR'⟩
      unfold wdU
      rw [wdU_nil hR']; rfl
  · have hR' : ∀ k, k < 9 → canR (rul (parse t 8 0 []).1) r (topS st) (nxS s i) k = false := fun k hk => h.rd.nocl.sr hlt hsig hk hS
    have hsm : i < s.size ∧ smallB (nxS s i) = true := by
      rcases nx_sig h (i := i) with h1 | ⟨_, h1⟩
      · exact h1
      · rw [h1, h.rd.noS hlt] at hS; cases hS
    have hb := dst_bound h hd (Or.inl ⟨hsm.2, hS⟩)
    obtain ⟨s0, x, st1, e⟩ := hd.si.ne
    have hd' := hd.si
    rw [e] at hd'
    have hS' : canS r s0 (nxS s i) = true := by rw [e] at hS; exact hS
    obtain ⟨j, g1, g2, g3⟩ := hd'.shift h.rd.tab hsm.2 hS'
    have hch : nxS s i = ch s i := by unfold nxS; rw [if_pos hsm.1]
    refine Or.inr (Or.inr (Or.inl ⟨?_, hsm.1, hb, j, by rw [e]; exact g1, g2, by omega, ?_, ?_, by omega⟩))
    · unfold wdU
      rw [wdU_nil hR']; rfl
    · rw [e, bytes_snoc s i hsm.1, ← hch]; exact g3
    · have hrun := hd.run
      rw [nx_rest hd.le, if_pos hsm.1, e] at hrun
      rw [e]
      have := hrun.trans (Run.shift (by rw [e] at hlt; exact hlt) hsm.2 g1 g2 Run.refl)
      simpa using this
end Go.Proofs.YtkglggkkbmmjkaaDoor

namespace Go.Proofs.YtkglggkkbmmjkaaDoor
open Go.RowKit

def SegR (t : ByteArray) (i e : Nat) (r : Ru) : Prop := r = ⟨ch t i, t.extract (i + 2) e, i⟩ ∧ i + 2 ≤ e ∧ e ≤ t.size ∧ ∀ j, i ≤ j → j < e → ch t j ≠ 59
/-- the rules lie one behind another -/
def ChainR (t : ByteArray) : Nat → List Ru → Prop
  | _, [] => False
  | i, [r] => SegR t i t.size r
  | i, r :: r' :: rs => ∃ e, SegR t i e r ∧ e < t.size ∧ ch t e = 59 ∧ ChainR t (e + 1) (r' :: rs)
theorem parse_chR (t : ByteArray) : ∀ f i acc, (parse t f i acc).2.2 = true → ∃ rs, (parse t f i acc).1 = acc ++ rs ∧ ChainR t i rs
  | 0, i, acc, h => by rw [parse] at h; cases h
  | f + 1, i, acc, h => by
    by_cases h0 : i < t.size ∧ bigB (ch t i) = true
    · by_cases h1 : i + 1 < t.size ∧ ch t (i + 1) = 61
      · have hb := runEnd_bd t 4 (i + 2)
        have hne : ∀ j, i ≤ j → j < runEnd t 4 (i + 2) → ch t j ≠ 59 := by
          intro j hj1 hj2 e
          rcases Nat.lt_or_ge j (i + 2) with h | h
          · rcases (show j = i ∨ j = i + 1 by omega) with rfl | rfl
            · rw [e] at h0; exact absurd h0.2 (by decide)
            · rw [e] at h1; exact absurd h1.2 (by decide)
          · have := runEnd_let t 4 (i + 2) j h hj2
            rw [e] at this; cases this
        by_cases h2 : runEnd t 4 (i + 2) < t.size
        · by_cases h3 : f = 0 ∨ ch t (runEnd t 4 (i + 2)) ≠ 59
          · rw [parse_bad2 t f i acc h0 h1 h2 h3] at h; cases h
          · rw [parse_more t f i acc h0 h1 h2 h3] at h ⊢
            obtain ⟨rs, e, hc⟩ := parse_chR t f _ _ h
            rw [e]
            refine ⟨⟨ch t i, t.extract (i + 2) (runEnd t 4 (i + 2)), i⟩ :: rs, by simp, ?_⟩
            cases rs with
            | nil => exact hc.elim
            | cons r' rs => exact ⟨runEnd t 4 (i + 2), ⟨rfl, by omega, by omega, hne⟩, h2, Classical.byContradiction fun h => h3 (Or.inr h), hc⟩
        · rw [parse_end t f i acc h0 h1 h2]
          have he : runEnd t 4 (i + 2) = t.size := by omega
          refine ⟨[⟨ch t i, t.extract (i + 2) (runEnd t 4 (i + 2)), i⟩], rfl, ?_⟩
          rw [he] at hne ⊢
          exact ⟨rfl, by omega, Nat.le_refl _, hne⟩
      · rw [parse_bad1 t f i acc h0 h1] at h; cases h
    · rw [parse_bad0 t f i acc h0] at h; cases h
theorem ChainR.at_ {t : ByteArray} : ∀ {rs : List Ru} {i : Nat}, ChainR t i rs → (rget rs 0).A = i ∧ ∀ k, k < rs.length → ∃ e, SegR t (rget rs k).A e (rget rs k) ∧ (k + 1 < rs.length → e < t.size ∧ ch t e = 59 ∧ (rget rs (k + 1)).A = e + 1) ∧ (k + 1 = rs.length → e = t.size)
  | [], _, h => h.elim
  | [r], i, h => by
    have h' : SegR t i t.size r := h
    have hA : r.A = i := by rw [h'.1]
    refine ⟨hA, fun k hk => ?_⟩
    obtain rfl : k = 0 := by simpa using hk
    refine ⟨t.size, ?_, fun h => absurd h (by simp), fun _ => rfl⟩
    show SegR t r.A t.size r
    rw [hA]; exact h'
  | r :: r' :: rs, i, h => by
    obtain ⟨e, h1, h2, h3, h4⟩ := h
    have hA : r.A = i := by rw [h1.1]
    obtain ⟨i1, i2⟩ := ChainR.at_ h4
    refine ⟨hA, fun k hk => ?_⟩
    cases k with
    | zero =>
      refine ⟨e, ?_, fun _ => ⟨h2, h3, i1⟩, fun h => absurd h (by simp)⟩
      show SegR t r.A e r
      rw [hA]; exact h1
    | succ k =>
      obtain ⟨e', a1, a2, a3⟩ := i2 k (by simpa using hk)
      exact ⟨e', a1, fun h => a2 (by simpa using h), fun h => a3 (by simpa using h)⟩
theorem byte_at (s : ByteArray) (i : Nat) (h : i < s.size) : s.extract i (i + 1) = ⟨#[UInt8.ofNat (ch s i)]⟩ := by
  apply ByteArray.ext
  apply Array.ext
  · simp [ByteArray.data_extract]; omega
  · intro k h1 h2
    obtain rfl : k = 0 := by simpa using h2
    rw [ch_eq s i h]
    simp [ByteArray.data_extract]; rfl
/-- what right is to find: rule k, its place and its end -/
structure RgO (t : ByteArray) (k a e : Nat) : Prop where
  two : a + 2 ≤ e
  le : e ≤ t.size
  no : ∀ j, a ≤ j → j < e → ch t j ≠ 59
  L : ch t a = (rget (rul (parse t 8 0 []).1) k).L
  R : t.extract (a + 2) e = (rget (rul (parse t 8 0 []).1) k).R
def plR (t : ByteArray) (k : Nat) : Nat := (rget (rul (parse t 8 0 []).1) k).A
theorem rg_of {t : ByteArray} (h : (parse t 8 0 []).2.2 = true) : plR t 1 = 0 ∧ ∀ k, 1 ≤ k → k < (rul (parse t 8 0 []).1).length → ∃ e, RgO t k (plR t k) e ∧ (k + 1 < (rul (parse t 8 0 []).1).length → e < t.size ∧ ch t e = 59 ∧ plR t (k + 1) = e + 1) ∧ (k + 1 = (rul (parse t 8 0 []).1).length → e = t.size) := by
  obtain ⟨rs, e, hc⟩ := parse_chR t 8 0 [] h
  rw [List.nil_append] at e
  obtain ⟨h1, h2⟩ := hc.at_
  unfold plR
  refine ⟨by rw [rget_rul, e]; exact h1, fun k k1 k2 => ?_⟩
  obtain ⟨k, rfl⟩ : ∃ q, k = q + 1 := ⟨k - 1, by omega⟩
  have hl : (rul (parse t 8 0 []).1).length = rs.length + 1 := by rw [e]; rfl
  obtain ⟨e', a1, a2, a3⟩ := h2 k (by omega)
  simp only [rget_rul, e]
  refine ⟨e', ⟨a1.2.1, a1.2.2.1, a1.2.2.2, ?_, ?_⟩, fun h => a2 (by rw [e] at hl; omega), fun h => a3 (by rw [e] at hl; omega)⟩
  · rw [rget_rul, e]; conv => rhs; rw [a1.1]
  · rw [rget_rul, e]; conv => rhs; rw [a1.1]
end Go.Proofs.YtkglggkkbmmjkaaDoor

namespace Go.Proofs.YtkglggkkbmmjkaaDoor
open Go.RowKit

set_option maxRecDepth 100000 in
set_option maxHeartbeats 1600000 in
theorem l_rightQ (t : ByteArray) (k : Nat) (w : World) (h : (parse t 8 0 []).2.2 = true) (ht : t.size ≤ 32) (k1 : 1 ≤ k) (k2 : k < (rul (parse t 8 0 []).1).length) (k8 : k ≤ 1000) :
    Calls Tryd.prog 13 #[.string t, .int .i64 k] w fun e w' => e = .returned (.tuple #[.string ⟨#[UInt8.ofNat (rget (rul (parse t 8 0 []).1) k).L]⟩, .string (rget (rul (parse t 8 0 []).1) k).R]) ∧ ∃ n, w' = w.drewN n := by
  obtain ⟨h1, hk⟩ := rg_of h
  have HK := hide hk
  have HP := hide h1
  clear hk h1 h
  go_enter Tryd.func13, Tryd.ntmps13
  go_wp2
  go_loop [6, 7] (fun a i => ∃ m : Nat, 1 ≤ m ∧ m ≤ k ∧ a = .int .i64 (plR t m : Nat) ∧ i = .int .i64 m) (fun _ i => k - (intOf i).toNat)
  case atStart => exact ⟨1, by omega, k1, by rw [unhide HP]; rfl, rfl⟩
  case round =>
    obtain ⟨m, m1, m2, rfl, rfl⟩ := hrel
    by_cases hlt : m < k
    · obtain ⟨e, hO, hN, _⟩ := unhide HK m m1 (by omega)
      obtain ⟨n1, n2, n3⟩ := hN (by omega)
      obtain ⟨a, ha⟩ : ∃ a, plR t m = a := ⟨_, rfl⟩
      rw [ha] at hO ⊢
      have HO := hide hO
      have h2 := hO.two
      have HN2 := hide n2
      have HN3 := hide n3
      clear hO n2 n3 ha hN
      go_wp2
      go_loop [6] (fun v => ∃ j : Nat, a ≤ j ∧ j ≤ e ∧ v = .int .i64 j) (fun v => e - (intOf v).toNat)
      case atStart => exact ⟨a, by omega, by omega, rfl⟩
      case round =>
        obtain ⟨j, j1, j2, rfl⟩ := hrel
        have hjs : j < t.size := by omega
        by_cases hj : j < e
        · have hc : ((t[j].toNat : Int) != 59) = true := by
            have := (unhide HO).no j j1 hj
            rw [ch_eq t j hjs] at this
            rw [bne_iff_ne]; omega
          go_wp2
          go_round
          case rel => exact ⟨j + 1, by omega, by omega, by go_num⟩
          case measure => simp [intOf]; omega
        · obtain rfl : j = e := by omega
          have hc : ((t[j].toNat : Int) != 59) = false := by
            have := unhide HN2
            rw [ch_eq t j hjs] at this
            rw [bne_eq_false_iff_eq]; omega
          go_wp2
          go_round
          case rel => exact ⟨m + 1, by omega, by omega, by rw [unhide HN3]; go_num, by go_num⟩
          case measure => simp [intOf]; omega
    · obtain rfl : m = k := by omega
      obtain ⟨e, hO, hN, hE⟩ := unhide HK m m1 k2
      obtain ⟨a, ha⟩ : ∃ a, plR t m = a := ⟨_, rfl⟩
      rw [ha] at hO ⊢
      have HO := hide hO
      have h2 := hO.two
      have h3 := hO.le
      have HC := hide (show e = t.size ∨ ch t e = 59 from by
        rcases Nat.lt_or_ge (m + 1) (rul (parse t 8 0 []).1).length with h | h
        · exact Or.inr (hN h).2.1
        · exact Or.inl (hE (by omega)))
      clear hO ha hN hE HK HP
      go_wp2
      go_loop [8] (fun v => ∃ j : Nat, a ≤ j ∧ j ≤ e ∧ v = .int .i64 j) (fun v => e - (intOf v).toNat)
      case atStart => exact ⟨a, by omega, by omega, rfl⟩
      case round =>
        obtain ⟨j, j1, j2, rfl⟩ := hrel
        by_cases hj : j < e
        · have hjs : j < t.size := by omega
          have hc : ((t[j].toNat : Int) != 59) = true := by
            have := (unhide HO).no j j1 hj
            rw [ch_eq t j hjs] at this
            rw [bne_iff_ne]; omega
          go_wp2
          go_round
          case rel => exact ⟨j + 1, by omega, by omega, by go_num⟩
          case measure => simp [intOf]; omega
        · obtain rfl : j = e := by omega
          have HR := hide (show (.returned (.tuple #[.string (t.extract a (a + 1)), .string (t.extract (a + 2) j)]) : Ending) = .returned (.tuple #[.string ⟨#[UInt8.ofNat (rget (rul (parse t 8 0 []).1) m).L]⟩, .string (rget (rul (parse t 8 0 []).1) m).R]) from by
            rw [byte_at t a (by omega), (unhide HO).L, (unhide HO).R])
          by_cases hjs : j < t.size
          · have hc : ((t[j].toNat : Int) != 59) = false := by
              have := (unhide HC).resolve_left (by omega)
              rw [ch_eq t j hjs] at this
              rw [bne_eq_false_iff_eq]; omega
            go_wp2
            go_quiet (fail)
            go_wp2
            go_ret2
            exact ⟨by rw [← unhide HR]; rfl, _, rfl⟩
          · obtain rfl : j = t.size := by omega
            go_wp2
            go_quiet (fail)
            go_wp2
            go_ret2
            exact ⟨by rw [← unhide HR]; rfl, _, rfl⟩
end Go.Proofs.YtkglggkkbmmjkaaDoor

namespace Go.Proofs.YtkglggkkbmmjkaaDoor
open Go.RowKit

theorem bytes_one' (c : Nat) (h : c < 256) : bytes (⟨#[UInt8.ofNat c]⟩ : ByteArray) = [c] := by
  show [(UInt8.ofNat c).toNat] = [c]
  rw [UInt8.toNat_ofNat', Nat.mod_eq_of_lt (by simpa using h)]
theorem bytes_app (a b : ByteArray) : bytes (a ++ b) = bytes a ++ bytes b := by
  unfold bytes
  rw [ByteArray.data_append, Array.toList_append, List.map_append]
end Go.Proofs.YtkglggkkbmmjkaaDoor

namespace Go.Proofs.YtkglggkkbmmjkaaDoor
open Go.RowKit

/-- the step's own variable -/
def OpAt (w : World) (b : Nat) (g s : ByteArray) : Prop := b < w.heap.size ∧ w.cell? ⟨b, 2, none⟩ = some (.string g) ∧ w.cell? ⟨b, 3, none⟩ = some (.string s)
theorem OpAt.fr {w w' : World} {b : Nat} {g s : ByteArray} (h : OpAt w b g s) (k : Fr [] w w') : OpAt w' b g s :=
  ⟨Nat.lt_of_lt_of_le h.1 k.size, by rw [World.cell?_of_block (k.block b h.1 (by simp))]; exact h.2.1, by rw [World.cell?_of_block (k.block b h.1 (by simp))]; exact h.2.2⟩

end Go.Proofs.YtkglggkkbmmjkaaDoor

namespace Go.Proofs.YtkglggkkbmmjkaaDoor
open Go.RowKit

def zRd : Nat → Value := fun i => if i = 0 then .pointer none else .slice none 0 0
theorem Tryd.zeroRd : (Tryd.prog.info? 62).bind (·.zero) = some (Agg 2 zRd) := by kernel_rfl
theorem row_none (w : World) (base e size : Nat) : w.ownsRow base e size (.slice none 0 0) 0 [] := ⟨by simp, Or.inl ⟨rfl, rfl⟩⟩

set_option maxRecDepth 100000 in
set_option maxHeartbeats 1000000 in
/-- reading.start -/
theorem p_start (rb tb base : Nat) (p : Pl) (v : Value) (S : List Sd) (cores : Nat) (w : World) (hB : Blk w rb 2 zRd) (hT : TbR w tb base p v S cores 0) (tlt : tb < rb) (vlt : ∀ g, v.ownBlock = some g → g < rb) :
    Calls Tryd.prog 18 #[.pointer (some ⟨rb, 0, none⟩), .pointer (some ⟨tb, 0, none⟩)] w fun e w' => e = .returned (.tuple #[]) ∧ Below rb w w' ∧ ∃ sv', RdS w' rb tb base p v S cores sv' [(0, [])] := by
  have c0 := hB.cell 0 (by omega)
  have z0 := hB.free 0
  have hbel : Below rb w (w.setCell ⟨rb, 0, none⟩ (.pointer (some ⟨tb, 0, none⟩))) := (Below.refl rb w).setCell (by simp) _
  have HB := hide hbel
  have HR := hide (show RdS (w.setCell ⟨rb, 0, none⟩ (.pointer (some ⟨tb, 0, none⟩))) rb tb base p v S cores (.slice none 0 0) [] from
    ⟨(hB.setCell 0 _).congr fun i hi => by unfold upd zRd rdF; split <;> rfl, row_none _ _ _ _, hT.below hbel tlt vlt, tlt, vlt⟩)
  clear hB hT hbel tlt vlt
  go_enter Tryd.func18, Tryd.ntmps18
  go_wp2_with (go_at_call 34; refine (p_pushS rb tb base p v S cores (.slice none 0 0) [] 0 [] _ (by exact unhide HR) (by simp)).mono ?_; rintro e w2 ⟨rfl, hb2, sv', hR2⟩; have HB2 := hide hb2; have HR2 := hide hR2; clear hb2 hR2)
  go_end0
  exact ⟨rfl, (unhide HB).trans (unhide HB2), sv', unhide HR2⟩
end Go.Proofs.YtkglggkkbmmjkaaDoor
