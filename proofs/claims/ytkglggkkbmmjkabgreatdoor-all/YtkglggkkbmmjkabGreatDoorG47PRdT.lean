import Derived.Test.YtkglggkkbmmjkabGreatDoorG46RTx1
namespace Go.Proofs.YtkglggkkbmmjkabGreatDoor
open Go.RowKit
theorem Ds.len {L : List Ru} {l w x : List Nat} {n : Nat} (h : Ds L l w x n) : x.length = w.length + 3 * n := by
 induction h with
 | nil => rfl
 | small _ _ ih => rw [List.length_cons, List.length_cons, ih]; omega
 | big _ _ _ _ ih1 ih2 => simp only [List.length_cons, List.length_append, ih1, ih2]; omega
theorem ptR_of {t : ByteArray} (h : (gErr t).1 = 0) : PtR (zad t 8 0 []).1 := fun r hr =>
 ⟨((zaw t 8 0 [] (by simp)).1 r hr).1, fun _ hc => let_some h hr hc, ((zaw t 8 0 [] (by simp)).1 r hr).2.2.2, ((zaw t 8 0 [] (by simp)).1 r hr).2.1⟩
theorem parse_8 (t : ByteArray) : (zad t 8 0 []).1.length ≤ 8 := by
 have := (zaw t 8 0 [] (by simp)).2.1
 simpa using this
theorem st_get0 {rs : List Ru} (h : 0 < rs.length) : rs[0].L = stOf rs := by
 cases rs with
 | nil => exact absurd h (by simp)
 | cons r rs => rfl
theorem st_big {t : ByteArray} (h : (gErr t).1 = 0) {rs : List Ru} (hrs : (zad t 8 0 []).1 = rs) (hp : 0 < rs.length) : bigB rs[0].L = true ∧ rs[0].L = stOf (zad t 8 0 []).1 := by
 subst hrs
 exact ⟨(ptR_of h _ (List.getElem_mem hp)).1, st_get0 hp⟩
theorem wr_inv' {L : List Ru} {c n : Nat} {u x : List Nat} (hd : Ds L [c] u x n) : (zai c = true ∧ u = [c]) ∨ ∃ k, 1 ≤ k ∧ k < L.length ∧ (rget L k).L = c ∧ ∃ x' n', Ds L (bytes (rget L k).R) u x' n' := by
 generalize hl : [c] = l at hd
 cases hd with
 | nil => cases hl
 | small hc hd =>
  obtain ⟨rfl, rfl⟩ := List.cons.inj hl
  obtain ⟨e1, _, _⟩ := hd.nil_inv
  exact Or.inl ⟨hc, by rw [e1]⟩
 | @big k _ w1 w2 x1 x2 n1 n2 k1 k2 da db =>
  obtain ⟨e0, rfl⟩ := List.cons.inj hl
  obtain ⟨e1, _, _⟩ := db.nil_inv
  subst e1
  exact Or.inr ⟨k, k1, k2, e0.symm, x1, n1, by rw [List.append_nil]; exact da⟩
theorem pt_is {rs : List Ru} {T : ByteArray} {Is : Nat → Nat → Nat → Bool} {Go : Nat → Nat → Bool} {c : Nat} (hs : PtSo (rul rs) (bytes T) Is Go) (hc : PtCl (rul rs) (bytes T) Is Go) (hR : PtR rs) (hb : bigB c = true) : Is c 0 T.size = true ↔ ∃ x n, Ds (rul rs) [c] (bytes T) x n := by
 have e : seg (bytes T) 0 T.size = bytes T := by unfold seg; rw [List.drop_zero, Nat.sub_zero]; exact za2 T _ (Nat.le_refl _)
 constructor
 ·intro h
  have := hs.is c 0 T.size (Nat.zero_le _) (by rw [zah]; exact Nat.le_refl _) h
  rw [e] at this; exact this
 ·rintro ⟨x, n, hd⟩
  have := hc.row (fun k k1 k2 => (hR _ (rul_is k1 k2)).1) hd (i := 0) (j := T.size) (Nat.zero_le _) (by rw [zah]; exact Nat.le_refl _) e.symm
  obtain ⟨k, h1, h2, h3, h4⟩ := rowP_cons.1 this
  rw [rowP, decide_eq_true_iff] at h4
  subst h4
  unfold oneP at h3
  rw [if_neg (by rw [zbi hb]; simp)] at h3
  exact h3
theorem pt_go {rs : List Ru} {T : ByteArray} {Is : Nat → Nat → Nat → Bool} {Go : Nat → Nat → Bool} {c : Nat} (hs : PtSo (rul rs) (bytes T) Is Go) (hc : PtCl (rul rs) (bytes T) Is Go) (hR : PtR rs) (hb : bigB c = true) : Go c 0 = true ↔ GoodW (rul rs) c (bytes T) := by
 constructor
 ·intro h
  obtain ⟨v, x, n, hd⟩ := hs.go c 0 (Nat.zero_le _) h
  rw [List.drop_zero] at hd
  exact ⟨v, x, n, hd⟩
 ·rintro ⟨v, x, n, hd⟩
  rcases wr_inv' hd with ⟨hs', _⟩ | ⟨k, k1, k2, k3, x', n', hd'⟩
  ·rw [zbi hb] at hs'; cases hs'
  ·have := hc.ahead (fun k k1 k2 => (hR _ (rul_is k1 k2)).1) hd' (i := 0) (v := v) (Nat.zero_le _) (by rw [List.drop_zero])
   have := hc.go k k1 k2 0 (Nat.zero_le _) this
   rw [k3] at this; exact this
set_option maxRecDepth 100000 in
set_option maxHeartbeats 4000000 in
theorem r_Tree (t s : ByteArray) (w : World) (ht : t.size ≤ 9223372036854775807) (hsm : s.size ≤ 9223372036854775807) :
 Calls Tryz.prog 13 #[.string t, .string s] w fun e w' => Fr [] w w' ∧ ∃ (y : ByteArray) (x : Nat), e = .returned (.tuple #[.string y, .int .i64 x]) ∧ TreeO t s y x := by
 obtain ⟨x, hx⟩ : ∃ x, errT t s = x := ⟨_, rfl⟩
 have HE := hide hx
 by_cases hx0 : x = 0
 ·subst hx0
  obtain ⟨r, hr, hRd, hlen, hsml⟩ := errT_rd hx
  have hg := (tabR_len hr).1
  have HPos := hide (parse_some hr)
  have HR := hide (ptR_of hg)
  have HRd := hide hRd
  have H8 := hide (parse_8 t)
  obtain ⟨rs, hrs⟩ : ∃ rs, (zad t 8 0 []).1 = rs := ⟨_, rfl⟩
  have HSt := hide (fun hp => st_big hg hrs hp)
  rw [hrs] at HPos HR H8 HRd
  have HRs := hide hrs
  have hp : 0 < rs.length := zaa HPos
  obtain ⟨c, hc⟩ : ∃ c, rs[0].L = c := ⟨_, rfl⟩
  obtain ⟨hcb, hcs⟩ := zaa HSt hp
  rw [hc] at hcb hcs
  have hb := zao.1 hcb
  have e0 : (0 : Int) ≤ (c : Int) - 65 := by omega
  have e1 : (c : Int) - 65 < 26 := by omega
  have hpi : (0 : Int) < rs.length := by omega
  have hsi : (s.size : Int) < 196 := by omega
  have HCB := hide hcb
  have HCS := hide hcs
  have HC := hide hc
  clear hx hr hRd hsml hg hrs HSt hc hcb hcs HPos
  go_enter Tryz.func13, Tryz.ntmps13
  go_wp2_with (first
   | (go_at_call 41; refine (r_text t s w ht hsm).mono ?_; rintro e w1 ⟨hf, _, h2⟩; obtain ⟨q, cap, rfl, hru, hq⟩ := h2 (zaa HE); rw [zaa HRs] at hru ⊢; have HF := hide hf; have HRu := hide hru; have HQ := hide hq; clear hf h2 hru hq)
   | (go_at_call 42; refine (r_parts q 3 cap rs s w1 (by exact zaa HRu) (zaa HQ) (by omega) (zaa HR) (by have := zaa H8; omega)).mono ?_; rintro e w2 ⟨pb, gi, ci, gj, cj, bI, bG, Is, Go, rfl, hf2, hM, hso, hcl⟩; have HF2 := hide ((zaa HF).trans0 hf2); have HM := hide hM; have HSo := hide hso; have HCl := hide hcl; clear hf2 hM hso hcl))
  have c2 := (zaa HM).c2
  have r0 : w2.cell? ⟨q, 3, none⟩ = some (.int .u8 (c : Nat)) := by have := ((zaa HM).ru 0 hp).1; rw [zaa HC] at this; exact this
  obtain ⟨d1, d2⟩ := (zaa HM).isc (i := 0) (j := s.size) (zaa HCB) (by omega) (by omega)
  rw [Nat.zero_mul, Nat.zero_add] at d2
  cases hv : Is c 0 s.size
  ·rw [hv] at d2
   have HTr := hide (show TreeO t s ⟨#[]⟩ 9 from Or.inr ⟨zaa HE, Or.inl ⟨rfl, rfl, fun hx => by
    rw [zaa HRs, ← zaa HRs, ← zaa HCS, zaa HRs] at hx
    rw [(pt_is (zaa HSo) (zaa HCl) (zaa HR) (zaa HCB)).2 hx] at hv; cases hv⟩⟩)
   clear hv
   go_quiet (fail)
   go_wp2
   go_ret2
   exact ⟨(zaa HF2).trans0 (zal _ _), ⟨#[]⟩, 9, rfl, zaa HTr⟩
  ·rw [hv] at d2
   obtain ⟨x0, n0, hd0⟩ := (pt_is (zaa HSo) (zaa HCl) (zaa HR) (zaa HCB)).1 hv
   obtain ⟨x, n, hdh⟩ := ht_bound (by unfold rul; rw [List.length_cons]; have := zaa H8; omega) hd0
   rw [zah] at hdh
   have hU : UqL (rul rs) [c] (bytes s) := fun y p y' p' hy hy' => by
    have hcs := zaa HCS
    rw [zaa HRs] at hcs
    rw [hcs] at hy hy'
    exact (ds_uniq (zaa HRd).tab (zaa HRd).nocl (zaa HRd).st0 hy hy').1
   have hxl : x.length ≤ 100000000 := by
    have hcs := zaa HCS
    rw [zaa HRs] at hcs
    obtain ⟨x2, m2, hm2, hd2⟩ := (zaa HRd).bnd2 (bytes s) x n (by rw [zah]; exact hlen) (by rw [← hcs]; exact hdh.ds)
    rw [← hcs] at hd2
    have e := hU _ _ _ _ hdh.ds hd2
    rw [e, hd2.len, zah]; omega
   have HTr := hide (show TreeO t s (bstr x) 0 from Or.inr ⟨zaa HE, Or.inr ⟨rfl, x, n, by rw [← zaa HCS, zaa HRs]; exact hdh.ds, rfl⟩⟩)
   have eS : seg (bytes s) 0 s.size = bytes s := by unfold seg; rw [List.drop_zero, Nat.sub_zero]; exact za2 s _ (Nat.le_refl _)
   rw [← eS] at hdh hU
   have HDh := hide hdh
   have HU := hide hU
   have HK := hide (show PtK q 3 cap rs s Is Go from ⟨zaa HSo, zaa HCl, by omega, zaa HR, zaa H8⟩)
   have hhh : 9 + 8 * s.size ≤ 200 + 1 := by omega
   clear hv hd0 hdh hU eS
   go_quiet (fail)
   obtain ⟨w3, hw3⟩ : ∃ w3, w2.drewN nq = w3 := ⟨_, rfl⟩
   have hf3 : Fr [] w2 w3 := hw3 ▸ zal w2 nq
   have HF3 := hide ((zaa HF2).trans0 hf3)
   have HM3 := hide ((zaa HM).fr0 hf3)
   have r3 := hf3.cell0 r0
   rw [hw3]
   clear hw3 hf3 c2 d1 d2 r0 HM HF2
   go_wp2_with (go_at_call 43; refine (r_letters (zaa HK) 200 (by omega) c 0 s.size x n (9 + 8 * s.size) w3 (zaa HM3) (by unfold letB; rw [zaa HCB]; rfl) (Nat.zero_le _) (Nat.le_refl _) (zaa HDh) (zaa HU) hhh hxl).mono ?_; rintro e w4 ⟨rfl, hf4⟩; have HF4 := hide ((zaa HF3).trans0 hf4); clear hf4)
   go_ret2
   exact ⟨zaa HF4, bstr x, 0, rfl, zaa HTr⟩
 ·have hxb : ((x : Int) != 0) = true := by rw [bne_iff_ne]; omega
  go_enter Tryz.func13, Tryz.ntmps13
  go_wp2_with (go_at_call 41; refine (r_text t s w ht hsm).mono ?_; rintro e w1 ⟨hf, h1, _⟩; obtain rfl := h1 (by rw [zaa HE]; exact hx0); rw [zaa HE]; have HF := hide hf; clear hf h1)
  go_ret2
  exact ⟨zaa HF, ⟨#[]⟩, x, rfl, Or.inl ⟨by rw [zaa HE]; exact hx0, (zaa HE).symm, rfl⟩⟩
end Go.Proofs.YtkglggkkbmmjkabGreatDoor
namespace Go.Proofs.YtkglggkkbmmjkabGreatDoor
open Go.RowKit
/-! What the reading tells of a text. -/
theorem tabP_of {t : ByteArray} {S : List Sd} {M : List (List (Nat × Nat))} (h : TIs t S M) : TabP t (plT t) (rul (zad t 8 0 []).1) S (mOf S, M) :=
 ⟨rfl, rfl, (zcr S).symm, fun _ hj _ => canS_eq h hj, fun _ hj x _ => step_eq h.tos hj x, fun _ hj _ hx _ hk => canR_eq h hx hj hk⟩
theorem Rd.good {L : List Ru} {N : Nat → Bool} {T : Nat → Nat → Bool} {r : Tb} {S F : Nat} (h : Rd L N T r S F) : ∀ (l : List Nat) {st : Stk} {u : List Nat}, SI L N T r st u → Rch L r st u → (∀ c ∈ l, zai c = true) → u.length + l.length ≤ 12 → Good L S u →
 Good L S (u ++ l.take (zck L r F l st).1)
 | [], st, u, hI, hR, _, _, hu => by rw [zck]; simpa using hu
 | a :: l, st, u, hI, hR, hs, hl, hu => by
  have ha := hs a (List.mem_cons_self ..)
  by_cases hg : Good L S (u ++ [a])
  ·obtain ⟨st', j, e1, e2, e3, e4, _⟩ := h.step hI hR ha (by rw [List.length_cons] at hl; omega) hg
   rw [zck, e1]
   dsimp only
   rw [e2, Int.toNat_natCast]
   have := Rd.good h l e3 e4 (fun c hc => hs c (List.mem_cons_of_mem _ hc)) (by rw [List.length_append]; rw [List.length_cons] at hl; simp; omega) hg
   simpa using this
  ·obtain ⟨e1, e2⟩ := h.none hI ha hg
   rw [zck, settle_no e1 (fun k _ => e2 k)]
   simpa using hu
theorem rch0 (L : List Ru) (r : Tb) : Rch L r [(0, [])] [] := ⟨0, fun _ => Run.refl⟩
theorem take_small {l : List Nat} (h : ∀ c ∈ l, zai c = true) (n : Nat) : ∀ c ∈ l.take n, zai c = true := fun c hc => h c (List.mem_of_mem_take hc)
structure Tkn (t s : ByteArray) (r : Tb) (n : Nat) (st : Stk) : Prop where
 e0 : errT t s = 0
 hr : tabR t = .inr r
 rd : Rd (rul (zad t 8 0 []).1) (zan (zad t 8 0 []).1) (zau (zad t 8 0 []).1) r (stOf (zad t 8 0 []).1) 1048576
 len : s.size ≤ 12
 sm : ∀ c ∈ bytes s, zai c = true
 n_le : n ≤ s.size
 si : SI (rul (zad t 8 0 []).1) (zan (zad t 8 0 []).1) (zau (zad t 8 0 []).1) r st ((bytes s).take n)
 rch : Rch (rul (zad t 8 0 []).1) r st ((bytes s).take n)
 stp : n < s.size → ¬ Good (rul (zad t 8 0 []).1) (stOf (zad t 8 0 []).1) ((bytes s).take (n + 1))
 god : Good (rul (zad t 8 0 []).1) (stOf (zad t 8 0 []).1) ((bytes s).take n)
theorem tkn_of {t s : ByteArray} {r : Tb} {n : Nat} {st : Stk} (h0 : errT t s = 0) (hr : tabR t = .inr r) (h : zck (rul (zad t 8 0 []).1) r 1048576 (bytes s) [(0, [])] = (n, st)) : Tkn t s r n st := by
 obtain ⟨r', h1, h2, h3, h4⟩ := errT_rd h0
 have : r' = r := by rw [hr] at h1; exact (Sum.inr.inj h1).symm
 subst this
 have hl : (bytes s).length = s.size := zah s
 obtain ⟨a1, a2, a3, a4⟩ := h2.read (bytes s) (SI.base) (rch0 _ _) h4 (by rw [hl]; simpa using h3)
 obtain ⟨w, x, m, hd⟩ := st_some (tabR_len hr).1
 have a5 := h2.good (bytes s) (SI.base) (rch0 _ _) h4 (by rw [hl]; simpa using h3) ⟨w ++ [36], w, x, m, hd, by simp⟩
 rw [h] at a1 a2 a3 a4 a5
 rw [List.nil_append] at a2 a3 a4 a5
 exact ⟨h0, hr, h2, h3, h4, by rw [← hl]; exact a1, a2, a3, fun hn => a4 (by rw [hl]; exact hn), a5⟩
theorem Tkn.short {t s : ByteArray} {r : Tb} {n : Nat} {st : Stk} (h : Tkn t s r n st) (hn : n < s.size) : TreeO t s ⟨#[]⟩ 9 := by
 refine Or.inr ⟨h.e0, Or.inl ⟨rfl, rfl, ?_⟩⟩
 rintro ⟨x, m, hd⟩
 refine h.stp hn ((good_iff (take_small h.sm _)).2 ?_)
 have : GoodW (rul (zad t 8 0 []).1) (stOf (zad t 8 0 []).1) ((bytes s).take s.size) := ⟨[], x, m, by rw [List.append_nil, za2 s _ (Nat.le_refl _)]; exact hd⟩
 exact this.take (by omega)
theorem tkn_full {s : ByteArray} {n : Nat} (hn : ¬ n < s.size) : (bytes s).take n = bytes s := za2 s _ (by omega)
theorem Tkn.end_ {t s : ByteArray} {r : Tb} {n : Nat} {st st' : Stk} {b : Bool} (h : Tkn t s r n st) (hn : ¬ n < s.size) (hs : zax (rul (zad t 8 0 []).1) r 36 1048576 st = (b, st')) :
 (b = false → TreeO t s ⟨#[]⟩ 9) ∧ (b = true → ∃ j x, st' = [(j, x), (0, [])] ∧ TreeO t s (bstr x) 0) := by
 have hf := h.rd.fin h.si h.rch (by rw [tkn_full hn, zah]; exact h.len)
 rw [tkn_full hn] at hf
 by_cases hx : ∃ x m, Ds (rul (zad t 8 0 []).1) [stOf (zad t 8 0 []).1] (bytes s) x m
 ·obtain ⟨j, x, m, hd, e⟩ := hf.1 hx
  rw [hs] at e
  obtain ⟨e1, e2⟩ := Prod.mk.inj e
  exact ⟨(fun hb => by rw [hb] at e1; cases e1), fun _ => ⟨j, x, e2, Or.inr ⟨h.e0, Or.inr ⟨rfl, x, m, hd, rfl⟩⟩⟩⟩
 ·have e := (hf.2 hx).1
  rw [hs] at e
  obtain ⟨e1, e2⟩ := Prod.mk.inj e
  exact ⟨fun _ => Or.inr ⟨h.e0, Or.inl ⟨rfl, rfl, hx⟩⟩, (fun hb => by rw [hb] at e1; cases e1)⟩
theorem Tkn.stop {t s : ByteArray} {r : Tb} {n : Nat} {st : Stk} (h : Tkn t s r n st) : StopO t s n (lst (upS (zcg (rul (zad t 8 0 []).1) r (topS st)) 27)) 0 := by
 have hs := take_small h.sm n
 have hlt := h.si.lt h.rd.tab.pos
 refine Or.inr ⟨h.e0, rfl, h.n_le, (good_iff hs).1 h.god, fun hn hg => h.stp hn ((good_iff (take_small h.sm _)).2 hg), _, ?_, ?_, rfl⟩
 ·unfold upS
  rw [decide_eq_true (sgO_lt (c := 36) rfl), Bool.true_and, aheadB_iff]
  have hf := h.rd.fin h.si h.rch (by rw [List.length_take, zah]; have := h.len; omega)
  constructor
  ·intro hc
   apply Classical.byContradiction
   intro hx
   have e := (hf.2 hx).2
   rcases hc with hc | ⟨k, _, hc⟩
   ·rw [h.rd.noS hlt] at hc; cases hc
   ·rw [e k] at hc; cases hc
  ·intro hx
   obtain ⟨j, x, m, hd, e⟩ := hf.1 hx
   apply Classical.byContradiction
   intro hc
   rw [settle_no (by
    cases e : canS r (topS st) 36
    ·rfl
    ·exact absurd (Or.inl e) hc) (fun k hk => by
    cases e : canR (rul (zad t 8 0 []).1) r (topS st) 36 k
    ·rfl
    ·exact absurd (Or.inr ⟨k, hk, e⟩) hc)] at e
   cases e
 ·intro a ha
  unfold upS
  rw [decide_eq_true (sgO_lt (c := a) (by unfold sigB; rw [ha]; simp)), Bool.true_and, aheadB_iff]
  rw [← h.rd.ahead h.si h.rch ha, good_iff (fun c hc => by
   rcases List.mem_append.1 hc with hc | hc
   ·exact hs c hc
   ·rw [List.mem_singleton.1 hc]; exact ha)]
end Go.Proofs.YtkglggkkbmmjkabGreatDoor
namespace Go.Proofs.YtkglggkkbmmjkabGreatDoor
open Go.RowKit
def zRd : Nat → Value := fun i => if i = 0 then .pointer none else .slice none 0 0
theorem Tryz.zeroRd : (Tryz.prog.info? 84).bind (·.zero) = some (Agg 2 zRd) := by kernel_rfl
theorem row_none (w : World) (base e size : Nat) : w.ownsRow base e size (.slice none 0 0) 0 [] := ⟨by simp, Or.inl ⟨rfl, rfl⟩⟩
set_option maxRecDepth 100000 in
set_option maxHeartbeats 1000000 in
theorem p_start (rb tb base : Nat) (p : Pl) (v : Value) (S : List Sd) (cores : Nat) (w : World) (hB : Blk w rb 2 zRd) (hT : TbR w tb base p v S cores 0) (tlt : tb < rb) (vlt : ∀ g, v.ownBlock = some g → g < rb) :
 Calls Tryz.prog 37 #[.pointer (some ⟨rb, 0, none⟩), .pointer (some ⟨tb, 0, none⟩)] w fun e w' => e = .returned (.tuple #[]) ∧ Below rb w w' ∧ ∃ sv', RdS w' rb tb base p v S cores sv' [(0, [])] := by
 have c0 := hB.cell 0 (by omega)
 have z0 := hB.free 0
 have hbel : Below rb w (w.setCell ⟨rb, 0, none⟩ (.pointer (some ⟨tb, 0, none⟩))) := (Below.refl rb w).setCell (by simp) _
 have HB := hide hbel
 have HR := hide (show RdS (w.setCell ⟨rb, 0, none⟩ (.pointer (some ⟨tb, 0, none⟩))) rb tb base p v S cores (.slice none 0 0) [] from
  ⟨(hB.setCell 0 _).congr fun i hi => by unfold upd zRd rdF; split <;> rfl, row_none _ _ _ _, hT.below hbel tlt vlt, tlt, vlt⟩)
 clear hB hT hbel tlt vlt
 go_enter Tryz.func37, Tryz.ntmps37
 go_wp2_with (go_at_call 91; refine (p_pushS rb tb base p v S cores (.slice none 0 0) [] 0 [] _ (by exact zaa HR) (by simp)).mono ?_; rintro e w2 ⟨rfl, hb2, sv', hR2⟩; have HB2 := hide hb2; have HR2 := hide hR2; clear hb2 hR2)
 go_end0
 exact ⟨rfl, (zaa HB).trans (zaa HB2), sv', zaa HR2⟩
end Go.Proofs.YtkglggkkbmmjkabGreatDoor
