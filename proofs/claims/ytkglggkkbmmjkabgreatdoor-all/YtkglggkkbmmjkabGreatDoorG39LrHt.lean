import Derived.Test.YtkglggkkbmmjkabGreatDoorG36PMix
import Derived.Test.YtkglggkkbmmjkabGreatDoorG38CorV2
import Derived.Test.YtkglggkkbmmjkabGreatDoorG21LrS
import Derived.Deep.AppendLies
import Derived.Deep.RegionLaw
import Derived.BigQuiet
import Derived.OwnWalk
import Derived.Test.YtkglggkkbmmjkabGreatDoorG23LrB3
namespace Go.Proofs.YtkglggkkbmmjkabGreatDoor
open Go.RowKit
theorem let_some {t : ByteArray} (h : (gErr t).1 = 0) {r : Ru} (hr : r ∈ (zad t 8 0 []).1) {c : Nat} (hc : c ∈ bytes r.R) : ∃ w x n, Ds (rul (zad t 8 0 []).1) [c] w x n := by
 obtain ⟨ht, hp⟩ := gErr_zero h
 obtain ⟨k, k1, k2, k3⟩ := rul_no hr
 have hl : letB c = true := (gr_cl t ht hp).let_ k k2 c (by rw [k3]; exact hc)
 unfold letB at hl
 rw [Bool.or_eq_true] at hl
 rcases hl with hb | hs
 ·have hin := names_ok h r hr c hc hb
  unfold rset at hin
  rw [List.any_eq_true] at hin
  obtain ⟨q, hq, e⟩ := hin
  have e : q.L = c := by simpa using e
  have hd := dead_none (gErr_dead h) q hq
  unfold dead1 hasB at hd
  rw [Bool.or_eq_false_iff] at hd
  have : ends (zad t 8 0 []).1 q.L = true := by
   have := hd.1
   simp at this
   exact this.2
  rw [e] at this
  exact ends_sound c this
 ·exact ⟨_, _, _, Ds.small hs Ds.nil⟩
theorem st_some {t : ByteArray} (h : (gErr t).1 = 0) : ∃ w x n, Ds (rul (zad t 8 0 []).1) [stOf (zad t 8 0 []).1] w x n := by
 obtain ⟨ht, hp⟩ := gErr_zero h
 have hpos := (zaw t 8 0 [] (by simp)).2.2 hp
 have hr : rget (zad t 8 0 []).1 0 ∈ (zad t 8 0 []).1 := by rw [zbl _ 0 hpos]; exact List.getElem_mem hpos
 have hst : stOf (zad t 8 0 []).1 = (rget (zad t 8 0 []).1 0).L := by
  generalize (zad t 8 0 []).1 = rs at *
  cases rs with
  | nil => simp at hpos
  | cons r l => rfl
 have hd := dead_none (gErr_dead h) _ hr
 unfold dead1 hasB at hd
 rw [Bool.or_eq_false_iff] at hd
 have : ends (zad t 8 0 []).1 (rget (zad t 8 0 []).1 0).L = true := by
  have := hd.1
  simp at this
  exact this.2
 rw [hst]
 exact ends_sound _ this
theorem bytes_rul0 {c : Nat} (h : c < 256) : bytes (rul0 c).R = [c] := by
 unfold rul0 bytes
 show [(UInt8.ofNat c).toNat] = [c]
 rw [UInt8.toNat_ofNat', Nat.mod_eq_of_lt h]
theorem st_bytes {t : ByteArray} (h : (gErr t).1 = 0) : bytes (rget (rul (zad t 8 0 []).1) 0).R = [stOf (zad t 8 0 []).1] := by
 obtain ⟨ht, hp⟩ := gErr_zero h
 rw [rget_rul0]
 exact bytes_rul0 (by have := zao.1 (start_big t hp); omega)
theorem let_all {t : ByteArray} (h : (gErr t).1 = 0) {k : Nat} (hk : k < (rul (zad t 8 0 []).1).length) {c : Nat} (hc : c ∈ bytes (rget (rul (zad t 8 0 []).1) k).R) : ∃ w x n, Ds (rul (zad t 8 0 []).1) [c] w x n := by
 by_cases h0 : k = 0
 ·subst h0
  rw [st_bytes h] at hc
  rw [List.mem_singleton.1 hc]; exact st_some h
 ·exact let_some h (rul_is (by omega) hk) hc
theorem list_some {L : List Ru} : ∀ (l : List Nat), (∀ c ∈ l, ∃ w x n, Ds L [c] w x n) → ∃ w x n, Ds L l w x n
 | [], _ => ⟨[], [], 0, Ds.nil⟩
 | c :: l, h => by
  obtain ⟨w1, x1, n1, h1⟩ := h c (List.mem_cons_self ..)
  obtain ⟨w2, x2, n2, h2⟩ := list_some l (fun c hc => h c (List.mem_cons_of_mem _ hc))
  exact ⟨_, _, _, h1.app h2⟩
theorem beg_sound {L : List Ru} {N : Nat → Bool} {F : Nat → Nat → Bool} (hN : ∀ c, N c = true → ∃ x n, Ds L [c] [] x n) {a : Nat} (hF : ∀ c, F c a = true → ∃ w x n, Ds L [c] (a :: w) x n) : ∀ (l : List Nat), (∀ c ∈ l, ∃ w x n, Ds L [c] w x n) → beg N F l a = true → ∃ w x n, Ds L l (a :: w) x n
 | [], _, h => by cases h
 | c :: l, hl, h => by
  obtain ⟨w2, x2, n2, h2⟩ := list_some l (fun c hc => hl c (List.mem_cons_of_mem _ hc))
  rw [beg] at h
  split at h
  ·rename_i hc
   have e : a = c := by simpa using h
   subst e
   exact ⟨_, _, _, Ds.small hc h2⟩
  ·rw [Bool.or_eq_true, Bool.and_eq_true] at h
   rcases h with h | ⟨h3, h4⟩
   ·obtain ⟨w1, x1, n1, h1⟩ := hF c h
    exact ⟨_, _, _, h1.app h2⟩
   ·unfold hasB at h3
    rw [Bool.and_eq_true] at h3
    obtain ⟨x1, n1, h1⟩ := hN c h3.2
    obtain ⟨w5, x5, n5, h5⟩ := beg_sound hN hF l (fun c hc => hl c (List.mem_cons_of_mem _ hc)) h4
    exact ⟨w5, _, _, by simpa using h1.app h5⟩
theorem first_sound {t : ByteArray} (h : (gErr t).1 = 0) : ∀ c a, zau (zad t 8 0 []).1 c a = true → ∃ w x n, Ds (rul (zad t 8 0 []).1) [c] (a :: w) x n := by
 have hN := null_sound (zb0 t)
 have round : ∀ (l : List Ru), (∀ r ∈ l, r ∈ (zad t 8 0 []).1) → ∀ F : Nat → Nat → Bool, (∀ c a, F c a = true → ∃ w x n, Ds (rul (zad t 8 0 []).1) [c] (a :: w) x n) → ∀ c a, za3 (zan (zad t 8 0 []).1) l F c a = true → ∃ w x n, Ds (rul (zad t 8 0 []).1) [c] (a :: w) x n := by
  intro l
  induction l with
  | nil => intro _ F hF c a h; exact hF c a h
  | cons r l ih =>
   intro hin F hF c a h'
   have h2 : za3 (zan (zad t 8 0 []).1) l (zch F r.L (beg (zan (zad t 8 0 []).1) F (bytes r.R))) c a = true := h'
   refine ih (fun q hq => hin q (List.mem_cons_of_mem _ hq)) _ (fun c a hc => ?_) c a h2
   unfold zch at hc
   rw [Bool.or_eq_true, Bool.and_eq_true] at hc
   rcases hc with hc | ⟨hc, hb⟩
   ·exact hF c a hc
   ·have e : c = r.L := by simpa using hc
    obtain ⟨k, k1, k2, k3⟩ := rul_no (hin r (List.mem_cons_self ..))
    obtain ⟨w, x, n, hd⟩ := beg_sound hN (fun c hc => hF c a hc) (bytes r.R) (fun c hc => let_some h (hin r (List.mem_cons_self ..)) hc) hb
    rw [← k3] at hd
    have := Ds.one k1 k2 hd
    rw [k3, ← e] at this
    exact ⟨_, _, _, this⟩
 have it : ∀ n c a, zbj (za3 (zan (zad t 8 0 []).1) (zad t 8 0 []).1) n (fun _ _ => false) c a = true → ∃ w x m, Ds (rul (zad t 8 0 []).1) [c] (a :: w) x m := by
  intro n
  induction n with
  | zero => intro c a h; cases h
  | succ n ih => intro c a h; exact round _ (fun _ h => h) _ ih c a h
 exact it _
theorem null_list {L : List Ru} {N : Nat → Bool} (hN : ∀ c, N c = true → ∃ x n, Ds L [c] [] x n) : ∀ l, l.all N = true → ∃ x n, Ds L l [] x n := by
 intro l
 induction l with
 | nil => intro _; exact ⟨[], 0, Ds.nil⟩
 | cons c l ih =>
  intro h
  rw [List.all_cons, Bool.and_eq_true] at h
  obtain ⟨x1, n1, h1⟩ := hN c h.1
  obtain ⟨x2, n2, h2⟩ := ih h.2
  exact ⟨x1 ++ x2, n1 + n2, by simpa using h1.app h2⟩
theorem gr_so {t : ByteArray} (h : (gErr t).1 = 0) : GrSo (rul (zad t 8 0 []).1) (zan (zad t 8 0 []).1) (zau (zad t 8 0 []).1) :=
 ⟨null_list (null_sound (zb0 t)), fun _ hk _ a hb => beg_sound (null_sound (zb0 t)) (fun c hc => first_sound h c a hc) _ (fun _ hc => let_all h hk (List.mem_of_mem_drop hc)) hb, fun _ hk _ => list_some _ (fun _ hc => let_all h hk (List.mem_of_mem_drop hc))⟩
/-! the table -/
theorem rowM_all {P : List It → Prop} {st : Nat → List It} (hst : ∀ c, P (st c)) : ∀ (cs : List Nat) (S : List (List It)) (m : List (Nat × Nat)) (S' : List (List It)) (m' : List (Nat × Nat)), (∀ l ∈ S, P l) → rowM st cs S m = some (S', m') → ∀ l ∈ S', P l
 | [], S, m, S', m', hS, h => by rw [rowM] at h; cases h; exact hS
 | c :: cs, S, m, S', m', hS, h => by
  rw [rowM] at h
  split at h
  ·exact rowM_all hst cs S m S' m' hS h
  ·split at h
   ·cases h
   ·refine rowM_all hst cs _ _ S' m' (fun l hl => ?_) h
    unfold numM at hl
    split at hl
    ·exact hS l hl
    ·rcases List.mem_append.1 hl with hl | hl
     ·exact hS l hl
     ·rw [List.mem_singleton.1 hl]; exact hst c
theorem tabM_all {P : List It → Prop} {rs : List Ru} {N : Nat → Bool} {T : Nat → Nat → Bool} (hst : ∀ l, P l → ∀ c, P (zci rs N T l c)) : ∀ (f i : Nat) (S : List (List It)) (M : List (List (Nat × Nat))) (S' : List (List It)) (M' : List (List (Nat × Nat))), (∀ l ∈ S, P l) → tabM rs N T f i S M = some (S', M') → ∀ l ∈ S', P l
 | 0, _, S, M, S', M', hS, h => by rw [tabM] at h; cases h; exact hS
 | f + 1, i, S, M, S', M', hS, h => by
  rw [tabM] at h
  split at h
  ·split at h
   ·cases h
   ·rename_i hr
    exact tabM_all hst f _ _ _ S' M' (rowM_all (hst _ (hS _ (List.getElem_mem _))) _ _ _ _ _ hS hr) h
  ·cases h; exact hS
theorem cl_some {rs : List Ru} {N : Nat → Bool} {T : Nat → Nat → Bool} {X : It → Prop} {y : It} (h : Cl rs N T X y) : ∃ x, X x := h (fun _ => ∃ x, X x) (fun x hx => ⟨x, hx⟩) (fun _ _ hx _ => hx)
theorem getD_mem {S : List (List It)} {s : Nat} {y : It} (h : y ∈ S.getD s []) : S.getD s [] ∈ S := by
 rw [List.getD_eq_getElem?_getD] at *
 cases e : S[s]? with
 | none => rw [e] at h; cases h
 | some l => exact List.mem_of_getElem? e
theorem tab_ok {L : List Ru} {N : Nat → Bool} {T : Nat → Nat → Bool} (hC : GrCl L N T) {S' : List (List It)} {M' : List (List (Nat × Nat))} (h40 : S'.length ≤ 40) (h : tabM L N T 41 0 [zby L N T] [] = some (S', M')) : TabOk L N T (S', M') := by
 obtain ⟨hI, ⟨e, he⟩, hlen⟩ := tabM_spec 41 0 [zby L N T] [] S' M' rfl ⟨by simp, (fun n h => by simp at h), (fun n h => by simp at h)⟩ h
 have hML : M'.length = S'.length := by have := hI.le; omega
 have hst : ∀ y, y ∈ zby L N T ↔ Cl L N T (· = ⟨0, 0, 36⟩) y := start_mem hC.gr hC.pos
 have hP := tabM_all (P := fun l => (∀ y ∈ l, IOk L y) ∧ ∀ x ∈ l, ∀ y, Asks L N T x y → y ∈ l) (rs := L) (N := N) (T := T) (fun l hl c => ⟨step_ok hC.gr hl.1 c, fun x hx y ha => by rw [step_mem hC.gr hl.1] at hx ⊢; exact hx.step ha⟩) 41 0 [zby L N T] [] S' M' (fun l hl => by
  rw [List.mem_singleton.1 hl]
  refine ⟨fun y hy => ((hst y).1 hy).ok (fun x hx => by rw [hx]; exact ⟨hC.pos, Nat.zero_le _, Or.inl rfl⟩) hC.gr.fst, fun x hx y ha => ?_⟩
  rw [hst] at hx ⊢; exact hx.step ha) h
 have h0 : itm (S', M') 0 = zby L N T := by unfold itm; rw [he]; rfl
 have hok : ∀ s, ∀ y ∈ itm (S', M') s, IOk L y := fun s y hy => (hP _ (getD_mem hy)).1 y hy
 have hrow : ∀ s, s < S'.length → ∀ c, 65 ≤ c → c ≤ 122 → RowAt (zci L N T (itm (S', M') s)) S' (M'.getD s []) c := fun s hs c h1 h2 => by
  have := hI.row s (by omega) c h1 h2
  rw [List.getD_eq_getElem?_getD, List.getElem?_eq_getElem (by omega)]
  exact this
 have hno : ∀ s, s < S'.length → ∀ c, (∀ x ∈ itm (S', M') s, ¬ MvB L c x) → zci L N T (itm (S', M') s) c = [] := fun s hs c hx => by
  apply List.eq_nil_iff_forall_not_mem.2
  intro y hy
  rw [step_mem hC.gr (hok s)] at hy
  obtain ⟨_, x, h1, h2, _⟩ := cl_some hy
  exact hx x h1 h2
 refine ⟨hC, by rw [he]; simp, fun y => by rw [h0]; exact hst y, hok, fun s hs c hc => ?_, fun s hs c hc => ?_, fun s hs x hx y ha => (hP _ (getD_mem hx)).2 x hx y ha⟩
 ·have hcb : 65 ≤ c ∧ c ≤ 122 := by
   unfold letB at hc
   rw [Bool.or_eq_true] at hc
   rcases hc with hc | hc
   ·have := zao.1 hc; omega
   ·have := za4.1 hc; omega
  obtain ⟨r1, r2⟩ := hrow s hs c hcb.1 hcb.2
  by_cases hx : ∃ x ∈ itm (S', M') s, MvB L c x
  ·right
   obtain ⟨x, hx1, hx2⟩ := hx
   have hne : zci L N T (itm (S', M') s) c ≠ [] := fun e => by
    have : mvI x ∈ zci L N T (itm (S', M') s) c := (step_mem hC.gr (hok s) c _).2 (Cl.base ⟨x, hx1, hx2, rfl⟩)
    rw [e] at this; cases this
   obtain ⟨j, j1, j2⟩ := r2 hne
   have hj : j < S'.length := by
    rcases Nat.lt_or_ge j S'.length with hj | hj
    ·exact hj
    ·rw [List.getElem?_eq_none hj] at j2; cases j2
   refine ⟨j, j1, hj, ⟨x, hx1, hx2⟩, fun y => ?_⟩
   have : itm (S', M') j = zci L N T (itm (S', M') s) c := by unfold itm; show S'.getD j [] = _; rw [List.getD_eq_getElem?_getD, j2]; rfl
   rw [this]; exact step_mem hC.gr (hok s) c y
  ·left
   have hx' : ∀ x ∈ itm (S', M') s, ¬ MvB L c x := fun x h1 h2 => hx ⟨x, h1, h2⟩
   exact ⟨r1 (hno s hs c hx'), hx'⟩
 ·have hs : s < S'.length := hs
  by_cases hcb : 65 ≤ c ∧ c ≤ 122
  ·refine (hrow s hs c hcb.1 hcb.2).1 (hno s hs c (fun x h1 h2 => ?_))
   have hk := hok s x h1
   have : ch (rget L x.R).R x.P ∈ bytes (rget L x.R).R := by
    have hl : x.P < (bytes (rget L x.R).R).length := by rw [zah]; exact h2.1
    rw [← za5 _ _ hl]; exact List.getElem_mem hl
   have := hC.let_ x.R hk.1 _ this
   rw [h2.2, hc] at this; cases this
  ·unfold gto
   refine toM_no fun p hp e => hcb ?_
   have hp' : p ∈ M'[s]'(by omega) := by
    have hp2 : p ∈ M'.getD s [] := hp
    rw [List.getD_eq_getElem?_getD, List.getElem?_eq_getElem (by omega)] at hp2
    exact hp2
   have := hI.out s (by omega) p hp'
   omega
theorem tabR_len {t : ByteArray} {r : Tb} (h : tabR t = .inr r) : (gErr t).1 = 0 ∧ tabM (rul (zad t 8 0 []).1) (zan (zad t 8 0 []).1) (zau (zad t 8 0 []).1) 41 0 [zby (rul (zad t 8 0 []).1) (zan (zad t 8 0 []).1) (zau (zad t 8 0 []).1)] [] = some r := by
 unfold tabR at h
 split at h
 ·cases h
 ·rename_i h0
  split at h
  ·cases h
  ·rename_i hm
   cases h
   exact ⟨by simpa using h0, hm⟩
theorem nocl_of {L : List Ru} {r : Tb} (h : clsT L r ≠ 0) : NoCl L r := fun s hs a ha => by
 unfold clsT at h
 split at h
 ·exact absurd rfl h
 ·rename_i hx
  have hk : sgO a < 27 := sgO_lt ha
  have he := sgn_sgO ha
  rcases Nat.lt_or_ge 1 (actT L r s a).size with h1 | h1
  ·exact absurd (anyC_true (f := fun k i => decide (1 < (actT L r k (sgn i)).size)) hs hk (by rw [he]; exact decide_eq_true h1)) hx
  ·exact h1
theorem rd_of {t : ByteArray} {r : Tb} (h : tabR t = .inr r) (h40 : r.1.length ≤ 40) (hc : clsT (rul (zad t 8 0 []).1) r ≠ 0) : Rd (rul (zad t 8 0 []).1) (zan (zad t 8 0 []).1) (zau (zad t 8 0 []).1) r (stOf (zad t 8 0 []).1) 1048576 := by
 obtain ⟨h0, hm⟩ := tabR_len h
 obtain ⟨ht, hp⟩ := gErr_zero h0
 have hz := gr_sz t ht hp
 exact ⟨tab_ok (gr_cl t ht hp) h40 hm, gr_so h0, nocl_of hc, st_bytes h0, fun u a n hu hd => Rd_bnd hz hu hd, fun w x n hw hd => Rd_bnd2 hz hw hd, by omega⟩
end Go.Proofs.YtkglggkkbmmjkabGreatDoor
namespace Go.Proofs.YtkglggkkbmmjkabGreatDoor
open Go.RowKit
theorem Tryz.infoBools : (Tryz.prog.info? 95).map (fun i => (i.zero, i.size, i.bytes)) = some (some (.slice none 0 0), 1, 24) := by kernel_rfl
def pbF (v0 v1 v2 v3 : Value) : Nat → Value := fun i => if i = 0 then v0 else if i = 1 then v1 else if i = 2 then v2 else v3
def PbI (w wr : World) (c0 : Value) (T : ByteArray) (k l : Nat) (vI : Value) (bI : Nat → Nat) (vJ : Value) (bJ : Nat → Nat) : Prop :=
 PbS w wr w.heap.size (pbF c0 (.string T) vI vJ) ⟨2, 196, vI, bI, k⟩ ⟨3, 14, vJ, bJ, l⟩
theorem Tryz.infoBool1 : (Tryz.prog.info? 4).map (fun i => (i.zero, i.size, i.bytes)) = some (some (.bool false), 1, 1) := by kernel_rfl
theorem make_bools (n : Nat) (hn : n ≤ 1000) : ∃ cs : Array Value, (∀ w : World, (Instr.makeSlice 95 (.int .i64 n) (.int .i64 n)).run Tryz.prog w = .ok (.slice (some ⟨w.heap.size, 0, none⟩) n n) (w.alloc (.cells cs 4))) ∧ ∀ w : World, Blk (w.alloc (.cells cs 4)) w.heap.size n (fun _ => .bool false) := by
 obtain ⟨i0, hi0, hz0, hz1, hz2⟩ := info_parts Tryz.infoBool1
 refine ⟨madeCells (Value.bool false).cells (n * i0.size), fun w => ?_, fun w => ?_⟩
 ·have := run_make (P := Tryz.prog) w 95 4 i0 _ Tryz.underlying95 hi0 hz0 .i64 .i64 n n (by omega) (Int.le_refl _) (by rw [hz2]; omega) (by omega)
  simpa using this
 ·rw [hz1, Nat.mul_one]
  refine Blk.newArr w _ _ n _ (size_madeCells _ _) fun j hj => ?_
  simp [madeCells, Value.cells, Nat.mod_one]
theorem pbF_2 (v0 v1 v2 v3 v : Value) : upd (pbF v0 v1 v2 v3) 2 v = pbF v0 v1 v v3 := by
 funext i
 unfold upd pbF
 by_cases h : i = 2
 ·subst h; simp
 ·rw [if_neg h]
  by_cases h0 : i = 0
  ·rw [if_pos h0, if_pos h0]
  ·rw [if_neg h0, if_neg h0, if_neg h, if_neg h]
theorem pbF_3 (v0 v1 v2 v3 v : Value) (i : Nat) (h : i < 4) : upd (pbF v0 v1 v2 v3) 3 v i = pbF v0 v1 v2 v i := by
 have : i = 0 ∨ i = 1 ∨ i = 2 ∨ i = 3 := by omega
 rcases this with rfl | rfl | rfl | rfl <;> rfl
theorem PbS.congr {w wr : World} {pb : Nat} {c c' : Nat → Value} {X Y : PR} (h : PbS w wr pb c X Y) (e : ∀ i, i < 4 → c i = c' i) : PbS w wr pb c' X Y :=
 { h with blk := h.blk.congr e, cx := (e _ h.f4.1).symm.trans h.cx, cy := (e _ h.f4.2).symm.trans h.cy }
theorem PbI.addI {w wr w2 w3 : World} {c0 : Value} {T : ByteArray} {k l g cap : Nat} {vI : Value} {bI : Nat → Nat} {vJ : Value} {bJ : Nat → Nat} {o : Obj} (h : PbI w wr c0 T k l vI bI vJ bJ) (hB1 : Blk (wr.alloc o) wr.heap.size 196 (fun _ => .bool false)) (hf2 : Fr [] (wr.alloc o) w2)
 (hg3 : w2.grownBy w3 vI.ownBlock) (ho3 : w3.ownsRow (w.heap.size + 1) 95 1 (.slice (some ⟨g, 0, none⟩) (k + 1) cap) (k + 1) ((PR.mk 2 196 vI bI k).row ++ [.slice (some ⟨wr.heap.size, 0, none⟩) 196 196])) (hat : vI.ownBlock = some g ∨ g = w2.heap.size) :
 PbI w (w3.setCell ⟨w.heap.size, 2, none⟩ (.slice (some ⟨g, 0, none⟩) (k + 1) cap)) c0 T (k + 1) l (.slice (some ⟨g, 0, none⟩) (k + 1) cap) (fun i => if i = k then wr.heap.size else bI i) vJ bJ := by
 have := PbS.add (X := PR.mk 2 196 vI bI k) h ((Fr.refl [] wr).alloc o) (by simp) hB1 hf2 hg3 ho3 hat
 rw [pbF_2] at this
 exact this
theorem PbI.addJ {w wr w2 w3 : World} {c0 : Value} {T : ByteArray} {k l g cap : Nat} {vI : Value} {bI : Nat → Nat} {vJ : Value} {bJ : Nat → Nat} {o : Obj} (h : PbI w wr c0 T k l vI bI vJ bJ) (hB1 : Blk (wr.alloc o) wr.heap.size 14 (fun _ => .bool false)) (hf2 : Fr [] (wr.alloc o) w2)
 (hg3 : w2.grownBy w3 vJ.ownBlock) (ho3 : w3.ownsRow (w.heap.size + 1) 95 1 (.slice (some ⟨g, 0, none⟩) (l + 1) cap) (l + 1) ((PR.mk 3 14 vJ bJ l).row ++ [.slice (some ⟨wr.heap.size, 0, none⟩) 14 14])) (hat : vJ.ownBlock = some g ∨ g = w2.heap.size) :
 PbI w (w3.setCell ⟨w.heap.size, 3, none⟩ (.slice (some ⟨g, 0, none⟩) (l + 1) cap)) c0 T k (l + 1) vI bI (.slice (some ⟨g, 0, none⟩) (l + 1) cap) (fun i => if i = l then wr.heap.size else bJ i) := by
 have := (PbS.add (X := PR.mk 3 14 vJ bJ l) (PbS.swap h) ((Fr.refl [] wr).alloc o) (by simp) hB1 hf2 hg3 ho3 hat).swap
 exact this.congr fun i hi => pbF_3 c0 (.string T) vI vJ _ i hi
theorem PbI.fin {w wr : World} {q off cap : Nat} {rs : List Ru} {T : ByteArray} {vI : Value} {bI : Nat → Nat} {vJ : Value} {bJ : Nat → Nat} (h : PbI w wr (.slice (some ⟨q, off, none⟩) rs.length cap) T 26 26 vI bI vJ bJ) (hR : RuO w q off rs) (hq : q < w.heap.size) :
 ∃ gi ci gj cj, PtM wr w.heap.size q off cap rs T gi ci gj cj bI bJ (fun _ _ _ => false) (fun _ _ => false) ∧ PtD w.heap.size w.heap.size q gi gj bI bJ := by
 obtain ⟨gi, ci, eI, hI1, hI2⟩ := h.ox.form (by show 0 < 26; omega)
 obtain ⟨gj, cj, eJ, hJ1, hJ2⟩ := h.oy.form (by show 0 < 26; omega)
 have eI : vI = .slice (some ⟨gi, 0, none⟩) 26 ci := eI
 have eJ : vJ = .slice (some ⟨gj, 0, none⟩) 26 cj := eJ
 subst eI
 subst eJ
 have e0 : ∀ k b, (Value.slice (some ⟨k, 0, none⟩) 26 b).ownBlock = some k := fun _ _ => rfl
 refine ⟨gi, ci, gj, cj, ⟨h.blk.cell 0 (by omega), h.blk.cell 1 (by omega), h.blk.cell 2 (by omega), h.blk.cell 3 (by omega), fun k hk => ?_, fun k hk => ?_, fun k hk => ?_, fun k hk => ?_, fun k hk => ?_⟩, ⟨fun k hk => ?_, fun k hk => ?_, h.ix, h.iy, fun k l hk hl => h.xy k l hk hl, fun k hk => ?_, fun k hk => ?_⟩⟩
 ·exact row_cell h.ox (by unfold PR.row; rw [List.getElem?_map, List.getElem?_range hk]; rfl)
 ·exact row_cell h.oy (by unfold PR.row; rw [List.getElem?_map, List.getElem?_range hk]; rfl)
 ·exact (h.bx k hk).1
 ·exact (h.by_ k hk).1
 ·exact ⟨h.fr.cell0 (hR k hk).1, h.fr.cell0 (hR k hk).2.1, h.fr.cell0 (hR k hk).2.2⟩
 ·exact Nat.le_of_lt (h.bx k hk).2
 ·exact Nat.le_of_lt (h.by_ k hk).2
 ·have a1 : w.heap.size < bI k := (h.bx k hk).2
  have a2 := (h.nx k hk).1
  have a3 := (h.nx k hk).2
  refine ⟨by omega, fun e => a2 ?_, fun e => a3 ?_, by omega⟩
  ·show _ = some (bI k); rw [e]; rfl
  ·show _ = some (bI k); rw [e]; rfl
 ·have a1 : w.heap.size < bJ k := (h.by_ k hk).2
  have a2 := (h.ny k hk).1
  have a3 := (h.ny k hk).2
  refine ⟨by omega, fun e => a2 ?_, fun e => a3 ?_, by omega⟩
  ·show _ = some (bJ k); rw [e]; rfl
  ·show _ = some (bJ k); rw [e]; rfl
def cellB (w : World) (b o : Nat) : Bool := match w.cell? ⟨b, o, none⟩ with
 | some (.bool x) => x
 | _ => false
def cntW (bI bG : Nat → Nat) (w : World) : Nat := cntT (fun c i j => cellB w (bI (c - 65)) (i * 14 + j)) (fun c i => cellB w (bG (c - 65)) i)
theorem nF_congr {f g : Nat → Bool} {n : Nat} (h : ∀ i, i < n → f i = g i) : nF f n = nF g n := by
 unfold nF
 rw [List.filter_congr fun i hi => by rw [h i (List.mem_range.1 hi)]]
theorem PtM.cnt {w : World} {pb q off cap : Nat} {rs : List Ru} {T : ByteArray} {gi ci gj cj : Nat} {bI bG : Nat → Nat} {Is : Nat → Nat → Nat → Bool} {Go : Nat → Nat → Bool} (h : PtM w pb q off cap rs T gi ci gj cj bI bG Is Go) : cntW bI bG w = cntT Is Go := by
 unfold cntW cntT
 rw [nF_congr (f := fI fun c i j => cellB w (bI (c - 65)) (i * 14 + j)) (g := fI Is) fun m hm => ?_, nF_congr (f := fG fun c i => cellB w (bG (c - 65)) i) (g := fG Go) fun m hm => ?_]
 ·show cellB w (bG (65 + m / 14 - 65)) (m % 14) = Go (65 + m / 14) (m % 14)
  unfold cellB
  have h1 : m / 14 < 26 := by omega
  rw [(h.goc (c := 65 + m / 14) (i := m % 14) (zao.2 (by omega)) (by omega)).2]
 ·show cellB w (bI (65 + m / 196 - 65)) (m % 196 / 14 * 14 + m % 196 % 14) = Is (65 + m / 196) (m % 196 / 14) (m % 196 % 14)
  unfold cellB
  have h1 : m / 196 < 26 := by omega
  rw [(h.isc (c := 65 + m / 196) (i := m % 196 / 14) (j := m % 196 % 14) (zao.2 (by omega)) (by omega) (by omega)).2]
def PartsO (w : World) (q off cap : Nat) (rs : List Ru) (T : ByteArray) (e : Ending) (w' : World) : Prop :=
 ∃ (pb gi ci gj cj : Nat) (bI bG : Nat → Nat) (Is : Nat → Nat → Nat → Bool) (Go : Nat → Nat → Bool), e = .returned (.pointer (some ⟨pb, 0, none⟩)) ∧ Fr [] w w' ∧ PtM w' pb q off cap rs T gi ci gj cj bI bG Is Go ∧ PtSo (rul rs) (bytes T) Is Go ∧ PtCl (rul rs) (bytes T) Is Go
def PtR (rs : List Ru) : Prop := ∀ r ∈ rs, bigB r.L = true ∧ (∀ c ∈ bytes r.R, ∃ v x m, Ds (rul rs) [c] v x m) ∧ (∀ k, k < r.R.size → letB (ch r.R k) = true) ∧ r.R.size ≤ 4
structure GpS (w wr : World) (q off cap : Nat) (rs : List Ru) (T : ByteArray) (gi ci gj cj : Nat) (bI bG : Nat → Nat) (Is : Nat → Nat → Nat → Bool) (Go : Nat → Nat → Bool) : Prop where
 bel : Below w.heap.size w wr
 pt : PtM wr w.heap.size q off cap rs T gi ci gj cj bI bG Is Go
 so : PtSo (rul rs) (bytes T) Is Go
theorem GpS.cl {rs : List Ru} {T : ByteArray} {Is : Nat → Nat → Nat → Bool} {Go : Nat → Nat → Bool} (h : ∀ i (hi : i < rs.length), clR (bytes T) Is Go rs[i] (T.size + 1) (T.size + 1)) : PtCl (rul rs) (bytes T) Is Go := by
 have key : ∀ k, 1 ≤ k → k < (rul rs).length → clR (bytes T) Is Go (rget (rul rs) k) (T.size + 1) (T.size + 1) := fun k h1 h2 => by
  have hm := rul_is h1 h2
  obtain ⟨i, hi, e⟩ := List.getElem_of_mem hm
  rw [← e]; exact h i hi
 exact ⟨fun k h1 h2 i j hij hj hr => (key k h1 h2).1 i j (by rw [zah] at hj; omega) hij hj hr, fun k h1 h2 i hi hr => (key k h1 h2).2.1 i (by rw [zah] at hi; omega) hr⟩
def GpE (w wr : World) (q off cap : Nat) (rs : List Ru) (T : ByteArray) (gi ci gj cj : Nat) (bI bG : Nat → Nat) (Is : Nat → Nat → Nat → Bool) (Go : Nat → Nat → Bool) (m : Bool) : Prop :=
 GpS w wr q off cap rs T gi ci gj cj bI bG Is Go ∧ (m = false → PtCl (rul rs) (bytes T) Is Go)
def GpM (w wr : World) (q off cap : Nat) (rs : List Ru) (T : ByteArray) (gi ci gj cj : Nat) (bI bG : Nat → Nat) (Is : Nat → Nat → Nat → Bool) (Go : Nat → Nat → Bool) (Is1 : Nat → Nat → Nat → Bool) (Go1 : Nat → Nat → Bool) (m : Bool) (i : Nat) : Prop :=
 GpS w wr q off cap rs T gi ci gj cj bI bG Is1 Go1 ∧ (m = false → Is1 = Is ∧ Go1 = Go ∧ ∀ j (hj : j < rs.length), j < i → clR (bytes T) Is Go rs[j] (T.size + 1) (T.size + 1)) ∧ (m = true → cntT Is1 Go1 < cntT Is Go)
def GpN (T : ByteArray) (x : Ru) (Is1 : Nat → Nat → Nat → Bool) (Go1 : Nat → Nat → Bool) (Is2 : Nat → Nat → Nat → Bool) (Go2 : Nat → Nat → Bool) (b : Bool) : Prop :=
 (b = false → Is2 = Is1 ∧ Go2 = Go1 ∧ clR (bytes T) Is1 Go1 x (T.size + 1) (T.size + 1)) ∧ (b = true → cntT Is2 Go2 < cntT Is1 Go1)
theorem GpM.next {w wr w5 : World} {q off cap : Nat} {rs : List Ru} {T : ByteArray} {gi ci gj cj : Nat} {bI bG : Nat → Nat} {Is : Nat → Nat → Nat → Bool} {Go : Nat → Nat → Bool} {Is1 : Nat → Nat → Nat → Bool} {Go1 : Nat → Nat → Bool} {Is2 : Nat → Nat → Nat → Bool} {Go2 : Nat → Nat → Bool} {i : Nat} {x : Ru} {m b : Bool} {hil : i < rs.length}
 (h : GpM w wr q off cap rs T gi ci gj cj bI bG Is Go Is1 Go1 m i) (hx : rs[i] = x) (hg : GpS w w5 q off cap rs T gi ci gj cj bI bG Is2 Go2) (hn : GpN T x Is1 Go1 Is2 Go2 b) : GpM w w5 q off cap rs T gi ci gj cj bI bG Is Go Is2 Go2 (m || b) (i + 1) := by
 obtain ⟨_, h1, h2⟩ := h
 cases m
 ·obtain ⟨rfl, rfl, h3⟩ := h1 rfl
  refine ⟨hg, fun hb => ?_, hn.2⟩
  obtain ⟨rfl, rfl, h4⟩ := hn.1 hb
  refine ⟨rfl, rfl, fun j hj h => ?_⟩
  by_cases e : j = i
  ·subst e; rw [hx]; exact h4
  ·exact h3 j hj (by omega)
 ·refine ⟨hg, (fun hb => by cases hb), fun _ => ?_⟩
  have h1 := h2 rfl
  cases b
  ·obtain ⟨rfl, rfl, _⟩ := hn.1 rfl; exact h1
  ·have := hn.2 rfl; omega
theorem GpM.cl {w wr : World} {q off cap : Nat} {rs : List Ru} {T : ByteArray} {gi ci gj cj : Nat} {bI bG : Nat → Nat} {Is : Nat → Nat → Nat → Bool} {Go : Nat → Nat → Bool} {Is1 : Nat → Nat → Nat → Bool} {Go1 : Nat → Nat → Bool} {i : Nat} {m : Bool} (h : GpM w wr q off cap rs T gi ci gj cj bI bG Is Go Is1 Go1 m i) (hi : i = rs.length) :
 GpE w wr q off cap rs T gi ci gj cj bI bG Is1 Go1 m ∧ cntW bI bG wr + (match Value.bool m with | .bool true => 1 | _ => 0) < cntT Is Go + 1 := by
 refine ⟨⟨h.1, fun e => ?_⟩, ?_⟩
 ·obtain ⟨rfl, rfl, h3⟩ := h.2.1 e
  exact GpS.cl fun j hj => h3 j hj (by omega)
 ·rw [h.1.pt.cnt]
  cases m
  ·obtain ⟨e1, e2, _⟩ := h.2.1 rfl
   rw [e1, e2]
   generalize cntT Is Go = b
   show b + 0 < b + 1
   omega
  ·have := h.2.2 rfl
   generalize cntT Is1 Go1 = a at *
   generalize cntT Is Go = b at *
   show a + 1 < b + 1
   omega
set_option maxRecDepth 100000 in
set_option maxHeartbeats 4000000 in
theorem r_parts (q off cap : Nat) (rs : List Ru) (T : ByteArray) (w : World) (hR : RuO w q off rs) (hq : q < w.heap.size) (hT : T.size ≤ 13) (hG : PtR rs) (hn : rs.length ≤ 100) :
 Calls Tryz.prog 42 #[.slice (some ⟨q, off, none⟩) rs.length cap, .string T] w fun e w' => PartsO w q off cap rs T e w' := by
 have HR := hide hR
 have HG := hide hG
 clear hR hG
 obtain ⟨i0, hi0, hz0, hz1, hz2⟩ := info_parts Tryz.infoBools
 have HI0 := hide (show PbI w (w.alloc (.cells #[.slice (some ⟨q, off, none⟩) rs.length cap, .string T, .slice none 0 0, .slice none 0 0] 98)) (.slice (some ⟨q, off, none⟩) rs.length cap) T 0 0 (.slice none 0 0) (fun _ => 0) (.slice none 0 0) (fun _ => 0) from by
  refine ⟨(Fr.refl [] w).alloc _, rfl, Blk.newArr w _ _ 4 _ rfl fun j hj => ?_, World.ownsRow_nil _ _ _ _, World.ownsRow_nil _ _ _ _, rfl, rfl, (fun i hi => absurd hi (Nat.not_lt_zero i)), (fun i hi => absurd hi (Nat.not_lt_zero i)), (fun i j hi => absurd hi (Nat.not_lt_zero i)), (fun i j hi => absurd hi (Nat.not_lt_zero i)), (fun i j hi => absurd hi (Nat.not_lt_zero i)), (fun i hi => absurd hi (Nat.not_lt_zero i)), (fun i hi => absurd hi (Nat.not_lt_zero i)), (fun g hg => by cases hg), by decide, by decide⟩
  have : j = 0 ∨ j = 1 ∨ j = 2 ∨ j = 3 := by
   have : j < 4 := hj
   omega
  rcases this with rfl | rfl | rfl | rfl <;> rfl)
 go_enter Tryz.func42, Tryz.ntmps42
 go_wp2
 go_loopw [6] (fun cv wr => ∃ (k : Nat) (vI : Value) (bI : Nat → Nat) (vJ : Value) (bJ : Nat → Nat), k ≤ 26 ∧ cv = .int .i64 k ∧ Hid (PbI w wr (.slice (some ⟨q, off, none⟩) rs.length cap) T k k vI bI vJ bJ)) (fun cv _ => 26 - (intOf cv).toNat)
 case atStart => exact ⟨0, _, _, _, _, by omega, rfl, HI0⟩
 case round =>
  obtain ⟨k, vI, bI, vJ, bJ, hk, rfl, hI⟩ := hrel
  clear HI0
  by_cases hlt : k < 26
  ·have hki : (k : Int) < 26 := by omega
   have c2 : wr.cell? ⟨w.heap.size, 2, none⟩ = some vI := (zaa hI).blk.cell 2 (by omega)
   have z2 := (zaa hI).blk.free 2
   have hsz : w.heap.size < wr.heap.size := (zaa hI).blk.lt
   have cA : ∀ o, (wr.alloc o).cell? ⟨w.heap.size, 2, none⟩ = some vI := fun o => ((Fr.refl [] wr).alloc o).cell0 c2
   have cAA : ∀ o o', ((wr.alloc o).alloc o').cell? ⟨w.heap.size, 2, none⟩ = some vI := fun o o' => (((Fr.refl [] wr).alloc o).alloc o').cell0 c2
   obtain ⟨cs, hmk0, hmB⟩ := make_bools 196 (by omega)
   have hmk : ∀ w : World, (Instr.makeSlice 95 (.int .i64 196) (.int .i64 196)).run Tryz.prog w = .ok (.slice (some ⟨w.heap.size, 0, none⟩) 196 196) (w.alloc (.cells cs 4)) := hmk0
   clear hmk0
   have HMB := hide hmB
   clear hmB
   have nb2 : some w.heap.size ≠ vI.ownBlock := fun e => by have := ((zaa hI).ox.lt _ e.symm).1; omega
   go_wp2_with fail
   go_region_law
    ((refine step_append_lies _ (by rfl) _ _ _ (by rfl) (w.heap.size + 1) 95 i0 _ 1 24 Tryz.underlying96 hi0 hz0 hz1 hz2 rfl (by omega) vI k (PR.mk 2 196 vI bI k).row (by rfl) ((((zaa hI).ox.alloc _).alloc _).drew)
       ⟨wr.heap.size + 1, 0, none⟩ 1 1 [.slice (some ⟨wr.heap.size, 0, none⟩) 196 196] (by rfl) (by rfl) (World.news_of_block (cs := #[.slice (some ⟨wr.heap.size, 0, none⟩) 196 196]) (t := 95) (fr := (0, 0)) (heap_new2 wr _ _)) (by simp [Value.oneCell'])
       (by omega) (by unfold maxLen; omega) (by omega) (by simp; omega) (wr.heap.size + 2) (by simp) ?_; intro gg c1 w3 hown3 hgrow hat hlt3
      have HN := hide ((zaa hI).addI (zaa HMB wr) (((Fr.refl [] _).alloc _).drew) hgrow hown3 (hat.imp id fun h => by rw [h]; simp))
      have B3 : Blk w3 w.heap.size 4 _ := ((((zaa hI).blk.alloc _).alloc _).drew).grown hgrow (nb2)
      have d0 := B3.cell 2 (by omega)
      have e0 := B3.free 2
      clear B3 hown3 hgrow hat hlt3))
   all_goals
    clear c2 z2 cA cAA d0 e0 hmk HMB hI nb2
    obtain ⟨w4, hw4⟩ : ∃ w4, w3.setCell ⟨w.heap.size, 2, none⟩ (.slice (some ⟨gg, 0, none⟩) (k + 1) c1) = w4 := ⟨_, rfl⟩
    rw [hw4] at HN ⊢
    clear hw4 hsz
    have c3 : w4.cell? ⟨w.heap.size, 3, none⟩ = some vJ := (zaa HN).blk.cell 3 (by omega)
    have z3 := (zaa HN).blk.free 3
    have hsz : w.heap.size < w4.heap.size := (zaa HN).blk.lt
    have cA : ∀ o, (w4.alloc o).cell? ⟨w.heap.size, 3, none⟩ = some vJ := fun o => ((Fr.refl [] w4).alloc o).cell0 c3
    have cAA : ∀ o o', ((w4.alloc o).alloc o').cell? ⟨w.heap.size, 3, none⟩ = some vJ := fun o o' => (((Fr.refl [] w4).alloc o).alloc o').cell0 c3
    obtain ⟨cs2, hmk0, hmB⟩ := make_bools 14 (by omega)
    have hmk : ∀ w : World, (Instr.makeSlice 95 (.int .i64 14) (.int .i64 14)).run Tryz.prog w = .ok (.slice (some ⟨w.heap.size, 0, none⟩) 14 14) (w.alloc (.cells cs2 4)) := hmk0
    have HMB2 := hide hmB
    clear hmB hmk0
    have nb3 : some w.heap.size ≠ vJ.ownBlock := fun e => by have := ((zaa HN).oy.lt _ e.symm).1; omega
    go_wp2_with fail
    go_region_law
     ((refine step_append_lies _ (by rfl) _ _ _ (by rfl) (w.heap.size + 1) 95 i0 _ 1 24 Tryz.underlying96 hi0 hz0 hz1 hz2 rfl (by omega) vJ k (PR.mk 3 14 vJ bJ k).row (by rfl) ((((zaa HN).oy.alloc _).alloc _).drew)
        ⟨w4.heap.size + 1, 0, none⟩ 1 1 [.slice (some ⟨w4.heap.size, 0, none⟩) 14 14] (by rfl) (by rfl) (World.news_of_block (cs := #[.slice (some ⟨w4.heap.size, 0, none⟩) 14 14]) (t := 95) (fr := (0, 0)) (heap_new2 w4 _ _)) (by simp [Value.oneCell'])
        (by omega) (by unfold maxLen; omega) (by omega) (by simp; omega) (w4.heap.size + 2) (by simp) ?_; intro gg2 c4 w5 hown3 hgrow hat hlt3
       have HN2 := hide ((zaa HN).addJ (zaa HMB2 w4) (((Fr.refl [] _).alloc _).drew) hgrow hown3 (hat.imp id fun h => by rw [h]; simp))
       have B3 : Blk w5 w.heap.size 4 _ := ((((zaa HN).blk.alloc _).alloc _).drew).grown hgrow (nb3)
       have d0 := B3.cell 3 (by omega)
       have e0 := B3.free 3
       clear B3 hown3 hgrow hat hlt3))
    all_goals
     go_wp2
     go_roundw
     case rel => exact ⟨k + 1, _, _, _, _, by omega, by go_num, HN2⟩
     case measure => simp [intOf]; omega
  ·have hk26 : k = 26 := by omega
   have hI26 : PbI w wr (.slice (some ⟨q, off, none⟩) rs.length cap) T 26 26 vI bI vJ bJ := by
    have := zaa hI
    rw [hk26] at this
    exact this
   have hki : ¬ (k : Int) < 26 := by omega
   obtain ⟨gi, ci, gj, cj, hM, hD⟩ := hI26.fin (zaa HR) hq
   have HD := hide hD
   have hfr := hI26.fr
   clear hI26 hk26 hlt hk
   have HS0 := hide (show GpS w wr q off cap rs T gi ci gj cj bI bJ (fun _ _ _ => false) (fun _ _ => false) from ⟨⟨hfr.os, hfr.tape, hfr.output, hfr.size, fun x hx => hfr.block x hx (by simp)⟩, hM, ⟨(fun _ _ _ _ _ e => by cases e), (fun _ _ _ e => by cases e)⟩⟩)
   clear hM hD hfr hI
   go_wp2
   go_loopw [7, 8, 9] (fun mv _ _ wr => ∃ (m : Bool) (Is : Nat → Nat → Nat → Bool) (Go : Nat → Nat → Bool), mv = .bool m ∧ Hid (GpE w wr q off cap rs T gi ci gj cj bI bJ Is Go m)) (fun mv _ _ wr => cntW bI bJ wr + (match mv with | .bool true => 1 | _ => 0))
   case atStart => exact ⟨true, _, _, rfl, hide ⟨zaa HS0, fun e => by cases e⟩⟩
   case round =>
    obtain ⟨m, Is, Go, rfl, hS⟩ := hrel
    clear HS0
    cases m
    ·have HCl := hide ((zaa hS).2 rfl)
     go_wp2
     go_ret
     exact ⟨_, gi, ci, gj, cj, bI, bJ, Is, Go, rfl, ⟨(zaa hS).1.bel.os, (zaa hS).1.bel.tape, (zaa hS).1.bel.output, (zaa hS).1.bel.size, fun x hx _ => (zaa hS).1.bel.block x hx⟩, (zaa hS).1.pt, (zaa hS).1.so, zaa HCl⟩
    ·have HC := hide (zaa hS).1.pt.cnt
     go_wp2
     go_loopw [7, 8, 9] (fun mv rv _ wr => ∃ (m : Bool) (i : Nat) (Is1 : Nat → Nat → Nat → Bool) (Go1 : Nat → Nat → Bool), i ≤ rs.length ∧ mv = .bool m ∧ rv = .int .i64 i ∧ Hid (GpM w wr q off cap rs T gi ci gj cj bI bJ Is Go Is1 Go1 m i)) (fun _ rv _ _ => rs.length - (intOf rv).toNat)
     case atStart => exact ⟨false, 0, Is, Go, by omega, rfl, rfl, hide ⟨(zaa hS).1, (fun _ => ⟨rfl, rfl, fun j hj h => by omega⟩), fun e => by cases e⟩⟩
     case round =>
      obtain ⟨m, i, Is1, Go1, hi, rfl, rfl, hX⟩ := hrel
      by_cases hil : i < rs.length
      ·have hii : (i : Int) < rs.length := by omega
       obtain ⟨r1, r2, r3⟩ := (zaa hX).1.pt.ru i hil
       obtain ⟨x, hx⟩ : ∃ x, rs[i] = x := ⟨_, rfl⟩
       rw [hx] at r1 r2 r3
       obtain ⟨g1, g2, g3, g4⟩ := zaa HG x (hx ▸ List.getElem_mem hil)
       obtain ⟨k0, k1, k2, k3⟩ := rul_no (rs := rs) (hx ▸ List.getElem_mem hil : x ∈ rs)
       have HXi := hide hx
       have HK3 := hide k3
       have HG1 := hide g1
       have HG2 := hide g2
       have HG3 := hide g3
       have hhs : w.heap.size ≤ wr.heap.size := (zaa hX).1.bel.size
       clear hx k3 g1 g2 g3
       cases m
       ·go_wp2_with (go_at_call 96; refine (r_grows w.heap.size w.heap.size q off cap rs T gi ci gj cj bI bJ (rul rs) x k0 Is1 Go1 wr (by exact (zaa hX).1.pt) (zaa HD) hhs (zaa hX).1.so hT k1 k2 (zaa HK3) (zaa HG1) (zaa HG2) (zaa HG3) g4).mono ?_; rintro e w5 ⟨b, Is2, Go2, rfl, hb5, hp5, hs5, hn5, hy5⟩; have HGp := hide (show GpS w w5 q off cap rs T gi ci gj cj bI bJ Is2 Go2 from ⟨(zaa hX).1.bel.trans hb5, hp5, hs5⟩); have HN5 := hide (show GpN T x Is1 Go1 Is2 Go2 b from ⟨hn5, hy5⟩); clear hb5 hp5 hs5 hn5 hy5)
        go_roundw
        case rel => exact ⟨b, i + 1, Is2, Go2, by omega, rfl, by go_num, hide ((zaa hX).next (zaa HXi) (zaa HGp) (zaa HN5))⟩
        case measure => simp [intOf]; omega
       ·go_wp2_with (go_at_call 96; refine (r_grows w.heap.size w.heap.size q off cap rs T gi ci gj cj bI bJ (rul rs) x k0 Is1 Go1 wr (by exact (zaa hX).1.pt) (zaa HD) hhs (zaa hX).1.so hT k1 k2 (zaa HK3) (zaa HG1) (zaa HG2) (zaa HG3) g4).mono ?_; rintro e w5 ⟨b, Is2, Go2, rfl, hb5, hp5, hs5, hn5, hy5⟩; have HGp := hide (show GpS w w5 q off cap rs T gi ci gj cj bI bJ Is2 Go2 from ⟨(zaa hX).1.bel.trans hb5, hp5, hs5⟩); have HN5 := hide (show GpN T x Is1 Go1 Is2 Go2 b from ⟨hn5, hy5⟩); clear hb5 hp5 hs5 hn5 hy5)
        go_roundw
        case rel => exact ⟨true, i + 1, Is2, Go2, by omega, rfl, by go_num, hide ((zaa hX).next (zaa HXi) (zaa HGp) (zaa HN5))⟩
        case measure => simp [intOf]; omega
      ·have hii : ¬ (i : Int) < rs.length := by omega
       have hir : i = rs.length := by omega
       have HE := hide ((zaa hX).cl hir)
       clear hir
       go_wp2
       go_roundw
       case rel => exact ⟨m, Is1, Go1, rfl, hide (zaa HE).1⟩
       case measure =>
        rw [zaa HC]
        exact (zaa HE).2
end Go.Proofs.YtkglggkkbmmjkabGreatDoor
namespace Go.Proofs.YtkglggkkbmmjkabGreatDoor
open Go.RowKit
/-! How deep: there is a way that is not. -/
inductive Dh (L : List Ru) : List Nat → List Nat → List Nat → Nat → Nat → Prop
 | nil {h : Nat} : Dh L [] [] [] 0 h
 | small {c h n : Nat} {l w x : List Nat} : zai c = true → Dh L l w x n (h + 1) → Dh L (c :: l) (c :: w) (c :: x) n (h + 1)
 | big {k h n1 n2 : Nat} {l w1 w2 x1 x2 : List Nat} : 1 ≤ k → k < L.length → Dh L (bytes (rget L k).R) w1 x1 n1 h → Dh L l w2 x2 n2 (h + 1) → Dh L ((rget L k).L :: l) (w1 ++ w2) ((48 + k) :: 40 :: (x1 ++ 41 :: x2)) (n1 + 1 + n2) (h + 1)
theorem Dh.ds {L : List Ru} {l w x : List Nat} {n h : Nat} (hd : Dh L l w x n h) : Ds L l w x n := by
 induction hd with
 | nil => exact Ds.nil
 | small hc _ ih => exact Ds.small hc ih
 | big k1 k2 _ _ ih1 ih2 => exact Ds.big k1 k2 ih1 ih2
theorem Dh.mono {L : List Ru} {l w x : List Nat} {n h : Nat} (hd : Dh L l w x n h) : ∀ {h' : Nat}, h ≤ h' → Dh L l w x n h' := by
 induction hd with
 | nil => intro _ _; exact Dh.nil
 | @small c h n l w x hc _ ih =>
  intro h' hh
  obtain ⟨h', rfl⟩ : ∃ q, h' = q + 1 := ⟨h' - 1, by omega⟩
  exact Dh.small hc (ih hh)
 | @big k h n1 n2 l w1 w2 x1 x2 k1 k2 _ _ ih1 ih2 =>
  intro h' hh
  obtain ⟨h', rfl⟩ : ∃ q, h' = q + 1 := ⟨h' - 1, by omega⟩
  exact Dh.big k1 k2 (ih1 (by omega)) (ih2 hh)
theorem Dh.app {L : List Ru} {l1 w1 x1 : List Nat} {n1 h : Nat} (hd : Dh L l1 w1 x1 n1 h) : ∀ {l2 w2 x2 : List Nat} {n2 : Nat}, Dh L l2 w2 x2 n2 h → Dh L (l1 ++ l2) (w1 ++ w2) (x1 ++ x2) (n1 + n2) h := by
 induction hd with
 | nil => intro l2 w2 x2 n2 h2; simpa using h2
 | small hc _ ih => intro l2 w2 x2 n2 h2; exact Dh.small hc (ih h2)
 | @big k h na nb l wa wb xa xb k1 k2 ha hb iha ihb =>
  intro l2 w2 x2 n2 h2
  have := Dh.big k1 k2 ha (ihb h2)
  rw [show wa ++ wb ++ w2 = wa ++ (wb ++ w2) from by simp, show (48 + k) :: 40 :: (xa ++ 41 :: xb) ++ x2 = (48 + k) :: 40 :: (xa ++ 41 :: (xb ++ x2)) from by simp, show na + 1 + nb + n2 = na + 1 + (nb + n2) from by omega]
  exact this
theorem Dh.cons_inv {L : List Ru} {c : Nat} {l w x : List Nat} {n h : Nat} (hd : Dh L (c :: l) w x n h) : ∃ w1 x1 n1 w2 x2 n2, Dh L [c] w1 x1 n1 h ∧ Dh L l w2 x2 n2 h ∧ w = w1 ++ w2 ∧ x = x1 ++ x2 ∧ n = n1 + n2 := by
 cases hd with
 | @small _ h n _ w x hc hd => exact ⟨[c], [c], 0, w, x, n, Dh.small hc Dh.nil, hd, rfl, rfl, by omega⟩
 | @big k h n1 n2 _ w1 w2 x1 x2 k1 k2 ha hb =>
  refine ⟨w1, (48 + k) :: 40 :: (x1 ++ [41]), n1 + 1, w2, x2, n2, ?_, hb, rfl, by simp, rfl⟩
  have := Dh.big k1 k2 ha (Dh.nil (L := L) (h := h + 1))
  simpa using this
theorem Ds.dec {L : List Ru} (hb : ∀ k, 1 ≤ k → k < L.length → bigB (rget L k).L = true) {l w x : List Nat} {n : Nat} (h : Ds L l w x n) : ∀ {w' x' y y' : List Nat} {n' : Nat}, Ds L l w' x' n' → x ++ y = x' ++ y' → x = x' ∧ w = w' ∧ y = y' := by
 induction h with
 | nil =>
  intro w' x' y y' n' h' e
  obtain ⟨rfl, rfl, _⟩ := h'.nil_inv
  exact ⟨rfl, rfl, by simpa using e⟩
 | @small c l w x n hc _ ih =>
  intro w' x' y y' n' h' e
  generalize hl : c :: l = l' at h'
  cases h' with
  | nil => cases hl
  | small hc' h' =>
   obtain ⟨rfl, rfl⟩ := List.cons.inj hl
   obtain ⟨_, e2⟩ := List.cons.inj e
   obtain ⟨rfl, rfl, rfl⟩ := ih h' e2
   exact ⟨rfl, rfl, rfl⟩
  | @big k _ w1 w2 x1 x2 n1 n2 k1 k2 ha hb' =>
   obtain ⟨e1, _⟩ := List.cons.inj hl
   rw [e1, zbi (hb k k1 k2)] at hc; cases hc
 | @big k l w1 w2 x1 x2 n1 n2 k1 k2 _ _ ih1 ih2 =>
  intro w' x' y y' n' h' e
  generalize hl : (rget L k).L :: l = l' at h'
  cases h' with
  | nil => cases hl
  | small hc' h' =>
   obtain ⟨e1, _⟩ := List.cons.inj hl
   rw [← e1, zbi (hb k k1 k2)] at hc'; cases hc'
  | @big k' _ w1' w2' x1' x2' n1' n2' k1' k2' ha hb' =>
   obtain ⟨_, rfl⟩ := List.cons.inj hl
   rw [List.cons_append, List.cons_append, List.cons_append, List.cons_append] at e
   obtain ⟨e0, e1⟩ := List.cons.inj e
   obtain ⟨_, e2⟩ := List.cons.inj e1
   obtain rfl : k = k' := by omega
   rw [List.append_assoc, List.append_assoc] at e2
   obtain ⟨rfl, rfl, e3⟩ := ih1 ha e2
   rw [List.cons_append, List.cons_append] at e3
   obtain ⟨_, e4⟩ := List.cons.inj e3
   obtain ⟨rfl, rfl, rfl⟩ := ih2 hb' e4
   exact ⟨rfl, rfl, rfl⟩
theorem cnt_le (U : Nat → Bool) : ∀ n, sumU (fun _ => 1) U n ≤ n
 | 0 => Nat.le_refl _
 | n + 1 => by
  have := cnt_le U n
  rw [sumU]
  split <;> omega
theorem ht_list {L : List Ru} (h9 : L.length ≤ 9) {N : Nat} (hE : ∀ n, n ≤ N → ∀ c w, MinW L c w n → ∃ (x : List Nat) (U : Nat → Bool), Dh L [c] w x n (1 + sumU (fun _ => 1) U (L.length - 1) + 8 * w.length) ∧ ∀ k, U k = true → ∃ n', MinW L (rget L k).L w n' ∧ n' ≤ n) :
 ∀ (l w x : List Nat) (n : Nat), Ds L l w x n → (∀ x' m, Ds L l w x' m → n ≤ m) → n ≤ N → ∃ (x' : List Nat) (U : Nat → Bool), Dh L l w x' n (1 + sumU (fun _ => 1) U (L.length - 1) + 8 * w.length) ∧ ∀ k, U k = true → ∃ n', MinW L (rget L k).L w n' ∧ n' ≤ n
 | [], w, x, n, hd, _, _ => by
  obtain ⟨rfl, rfl, rfl⟩ := hd.nil_inv
  exact ⟨[], fun _ => false, Dh.nil, fun k hk => by cases hk⟩
 | c :: l, w, x, n, hd, hm, hN => by
  obtain ⟨w1, x1, n1, w2, x2, n2, h1, h2, rfl, rfl, rfl⟩ := hd.cons_inv
  have m1 : MinW L c w1 n1 := ⟨⟨x1, h1⟩, fun m ⟨x', h'⟩ => by have := hm _ _ (h'.app h2); omega⟩
  have m2 : ∀ x' m, Ds L l w2 x' m → n2 ≤ m := fun x' m h' => by have := hm _ _ (h1.app h'); omega
  obtain ⟨xa, Ua, da, ua⟩ := hE n1 (by omega) c w1 m1
  obtain ⟨xb, Ub, db, ub⟩ := ht_list h9 hE l w2 x2 n2 h2 m2 (by omega)
  have hL : (w1 ++ w2).length = w1.length + w2.length := List.length_append
  have ca := cnt_le Ua (L.length - 1)
  have cb := cnt_le Ub (L.length - 1)
  obtain ⟨UA, hA, uA⟩ : ∃ U : Nat → Bool, 1 + sumU (fun _ => 1) Ua (L.length - 1) + 8 * w1.length ≤ 1 + sumU (fun _ => 1) U (L.length - 1) + 8 * (w1 ++ w2).length ∧ ∀ k, U k = true → ∃ n', MinW L (rget L k).L (w1 ++ w2) n' ∧ n' ≤ n1 + n2 := by
   by_cases e : w2 = []
   ·subst e
    refine ⟨Ua, by simp, fun k hk => ?_⟩
    obtain ⟨n', a, b⟩ := ua k hk
    exact ⟨n', by simpa using a, by omega⟩
   ·have : 0 < w2.length := List.length_pos_iff.2 e
    exact ⟨fun _ => false, by omega, fun k hk => by cases hk⟩
  obtain ⟨UB, hB, uB⟩ : ∃ U : Nat → Bool, 1 + sumU (fun _ => 1) Ub (L.length - 1) + 8 * w2.length ≤ 1 + sumU (fun _ => 1) U (L.length - 1) + 8 * (w1 ++ w2).length ∧ ∀ k, U k = true → ∃ n', MinW L (rget L k).L (w1 ++ w2) n' ∧ n' ≤ n1 + n2 := by
   by_cases e : w1 = []
   ·subst e
    refine ⟨Ub, by simp, fun k hk => ?_⟩
    obtain ⟨n', a, b⟩ := ub k hk
    exact ⟨n', by simpa using a, by omega⟩
   ·have : 0 < w1.length := List.length_pos_iff.2 e
    exact ⟨fun _ => false, by omega, fun k hk => by cases hk⟩
  by_cases hle : sumU (fun _ => 1) UA (L.length - 1) ≤ sumU (fun _ => 1) UB (L.length - 1)
  ·exact ⟨xa ++ xb, UB, (da.mono (by omega)).app (db.mono hB), uB⟩
  ·exact ⟨xa ++ xb, UA, (da.mono hA).app (db.mono (by omega)), uA⟩
theorem ht_claim {L : List Ru} (h9 : L.length ≤ 9) : ∀ (n c : Nat) (w : List Nat), MinW L c w n → ∃ (x : List Nat) (U : Nat → Bool), Dh L [c] w x n (1 + sumU (fun _ => 1) U (L.length - 1) + 8 * w.length) ∧ ∀ k, U k = true → ∃ n', MinW L (rget L k).L w n' ∧ n' ≤ n := by
 intro n
 induction n using Nat.strongRecOn with
 | _ n ih =>
  intro c w hm
  obtain ⟨x, hx⟩ := hm.1
  generalize hl : [c] = l at hx
  generalize hw : w = w0 at hx
  cases hx with
  | nil => cases hl
  | @small _ _ w x n hc hd =>
   obtain ⟨rfl, rfl⟩ := List.cons.inj hl
   obtain ⟨rfl, rfl, rfl⟩ := hd.nil_inv
   subst hw
   exact ⟨[c], fun _ => false, (Dh.small hc (Dh.nil (h := 1))).mono (by omega), fun k hk => by cases hk⟩
  | @big k l w1 w2 x1 x2 n1 n2 k1 k2 hd1 hd2 =>
   obtain ⟨rfl, rfl⟩ := List.cons.inj hl
   obtain ⟨rfl, rfl, rfl⟩ := hd2.nil_inv
   simp only [List.append_nil] at hw ⊢
   subst hw
   obtain ⟨x', U, hD, hU⟩ := ht_list (L := L) h9 (N := n1) (fun m hm' c w h => ih m (by omega) c w h) _ _ _ _ hd1 (fun x' m h' => by
    have := hm.2 _ ⟨_, Ds.one k1 k2 h'⟩
    omega) (Nat.le_refl _)
   have hkU : U k = false := by
    cases e : U k
    ·rfl
    ·obtain ⟨n', a, b⟩ := hU k e
     have := a.uniq hm
     omega
   have hD2 := Dh.big (l := []) (w2 := []) (x2 := []) (n2 := 0) k1 k2 hD Dh.nil
   rw [List.append_nil] at hD2
   refine ⟨_, fun i => U i || i == k, hD2.mono ?_, fun i hi => ?_⟩
   ·rw [sumU_add hkU k1 _ (by omega)]; omega
   ·rw [Bool.or_eq_true] at hi
    rcases hi with hi | hi
    ·obtain ⟨n', a, b⟩ := hU i hi
     exact ⟨n', a, by omega⟩
    ·have : i = k := by simpa using hi
     subst this
     exact ⟨_, hm, Nat.le_refl _⟩
theorem ht_bound {L : List Ru} (h9 : L.length ≤ 9) {c n : Nat} {w x : List Nat} (hd : Ds L [c] w x n) : ∃ x' m, Dh L [c] w x' m (9 + 8 * w.length) := by
 obtain ⟨m, hm, _⟩ := minW_ex hd
 obtain ⟨x', U, h, _⟩ := ht_claim h9 m c w hm
 have := cnt_le U (L.length - 1)
 exact ⟨x', m, h.mono (by omega)⟩
end Go.Proofs.YtkglggkkbmmjkabGreatDoor
