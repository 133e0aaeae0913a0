import Derived.Test.YtkglggkkbmmjkabGreatDoorG16TMath
import Derived.Deep.DeepCutAuto
namespace Go.Proofs.YtkglggkkbmmjkabGreatDoor
open Go.RowKit
theorem beg_congr {N : Nat → Bool} {T T' : Nat → Nat → Bool} {x : Nat} (h : ∀ c, T c x = T' c x) : ∀ l, beg N T l x = beg N T' l x
 | [] => rfl
 | c :: l => by rw [beg, beg, h c, beg_congr h l]
theorem asks_congr {rs : List Ru} {N : Nat → Bool} {T T' : Nat → Nat → Bool} (h : ∀ c x, x < 128 → T c x = T' c x) : Asks rs N T = Asks rs N T' := by
 funext x y
 apply propext
 unfold Asks sgS
 constructor
 ·rintro ⟨h1, h2, h3, h4, h5, h6, h7, h8⟩
  exact ⟨h1, h2, h3, h4, h5, h6, h7, by rw [← beg_congr (fun c => h c _ h7)]; exact h8⟩
 ·rintro ⟨h1, h2, h3, h4, h5, h6, h7, h8⟩
  exact ⟨h1, h2, h3, h4, h5, h6, h7, by rw [beg_congr (fun c => h c _ h7)]; exact h8⟩
theorem full_congr {rs : List Ru} {N : Nat → Bool} {T T' : Nat → Nat → Bool} (h : ∀ c x, x < 128 → T c x = T' c x) : zb9 rs N T = zb9 rs N T' := by
 funext l L
 apply propext
 have ha := asks_congr (rs := rs) (N := N) h
 have hc : ∀ X y, Cl rs N T X y ↔ Cl rs N T' X y := fun X y => by unfold Cl; rw [ha]
 constructor
 ·rintro ⟨⟨h1, h2, h3, h4⟩, h5⟩
  exact ⟨⟨h1, h2, h3, fun y hy => (hc _ y).1 (h4 y hy)⟩, fun x hx y hy => h5 x hx y (by rw [ha]; exact hy)⟩
 ·rintro ⟨⟨h1, h2, h3, h4⟩, h5⟩
  exact ⟨⟨h1, h2, h3, fun y hy => (hc _ y).2 (h4 y hy)⟩, fun x hx y hy => h5 x hx y (by rw [← ha]; exact hy)⟩
theorem stepM_congr {rs : List Ru} {N : Nat → Bool} {T T' : Nat → Nat → Bool} (h : ∀ c x, x < 128 → T c x = T' c x) : zci rs N T = zci rs N T' := by
 funext l c
 unfold zci
 rw [full_congr h]
theorem startM_congr {rs : List Ru} {N : Nat → Bool} {T T' : Nat → Nat → Bool} (h : ∀ c x, x < 128 → T c x = T' c x) : zby rs N T = zby rs N T' := by
 unfold zby
 rw [full_congr h]
theorem tabM_congr {rs : List Ru} {N : Nat → Bool} {T T' : Nat → Nat → Bool} (h : ∀ c x, x < 128 → T c x = T' c x) : ∀ f i S M, tabM rs N T f i S M = tabM rs N T' f i S M
 | 0, _, _, _ => rfl
 | f + 1, i, S, M => by
  rw [tabM, tabM, stepM_congr h]
  split
  ·split
   ·rfl
   ·exact tabM_congr h f _ _ _
  ·rfl
end Go.Proofs.YtkglggkkbmmjkabGreatDoor
namespace Go.Proofs.YtkglggkkbmmjkabGreatDoor
open Go.RowKit
def tabF (vL : Value) (N : Nat → Bool) (vF vS vT : Value) : Nat → Value := fun i => if i = 0 then vL else if i < 129 then .bool (N (i - 1)) else if i = 129 then vF else if i = 130 then vS else vT
theorem tabF_L (vL vL' : Value) (N : Nat → Bool) (vF vS vT : Value) (i : Nat) : upd (tabF vL N vF vS vT) 0 vL' i = tabF vL' N vF vS vT i := by
 unfold upd tabF
 by_cases h : i = 0
 ·rw [if_pos h, if_pos h]
 ·rw [if_neg h, if_neg h, if_neg h]
theorem tabF_F (vL : Value) (N : Nat → Bool) (vF vF' vS vT : Value) (i : Nat) : upd (tabF vL N vF vS vT) 129 vF' i = tabF vL N vF' vS vT i := by
 unfold upd tabF
 by_cases h : i = 129
 ·subst h; rfl
 ·simp only [if_neg h]
theorem tabF_N (vL : Value) (N N' : Nat → Bool) (vF vS vT : Value) (i : Nat) : lay (tabF vL N vF vS vT) 1 128 (sF N') i = tabF vL N' vF vS vT i := by
 unfold lay tabF sF
 by_cases h : 1 ≤ i ∧ i < 1 + 128
 ·rw [if_pos h, if_neg (by omega), if_pos (by omega)]
 ·rw [if_neg h]
  by_cases h0 : i = 0
  ·rw [if_pos h0, if_pos h0]
  ·simp only [if_neg h0, if_neg (show ¬ i < 129 by omega)]
theorem ruCells_len' (rs : List Ru) : (zbf rs).length = rs.length * 3 := by
 unfold zbf
 induction rs with
 | nil => rfl
 | cons x l ih => rw [List.flatMap_cons, List.length_append, ih, List.length_cons]; simp; omega
theorem news_ru {w : World} {q : Nat} {rs : List Ru} (h : RuAt w q rs) : ∀ j u, (zbf rs)[j]? = some u → w.cell? ((⟨q, 0, none⟩ : Addr).add j) = some u := fun j u hu => by
 have hj : j < rs.length * 3 := by
  rw [← ruCells_len']
  exact (List.getElem?_eq_some_iff.1 hu).1
 obtain ⟨g0, g1, g2⟩ := ruCells_get rs (j / 3) (by omega)
 obtain ⟨h0, h1, h2⟩ := h (j / 3) (by omega)
 have e : (⟨q, 0, none⟩ : Addr).add j = ⟨q, j, none⟩ := by rw [Addr.add_mid, Nat.zero_add]
 rw [e]
 rcases (by omega : j = j / 3 * 3 ∨ j = j / 3 * 3 + 1 ∨ j = j / 3 * 3 + 2) with hk | hk | hk
 ·rw [hk] at hu ⊢; rw [g0] at hu; rw [h0]; exact hu
 ·rw [hk] at hu ⊢; rw [g1] at hu; rw [h1]; exact hu
 ·rw [hk] at hu ⊢; rw [g2] at hu; rw [h2]; exact hu
def zTab : Nat → Value := fun i => if i = 0 then .slice none 0 0 else if i < 129 then .bool false else .slice none 0 0
set_option maxRecDepth 100000 in
set_option maxHeartbeats 4000000 in
theorem r_table_bad (t : ByteArray) (w : World) (ht : t.size ≤ 9223372036854775807) (h0 : (rErr t).1 ≠ 0) :
 Calls Tryz.prog 72 #[.string t] w fun e w' => e = .returned (.tuple #[.pointer none, .int .i64 (rErr t).1]) ∧ Fr [] w w' := by
 have hb : ((((rErr t).1 : Nat) : Int) != 0) = true := by rw [bne_iff_ne]; omega
 have H0 := hide h0
 clear h0
 go_enter Tryz.func72, Tryz.ntmps72
 go_wp2_with (go_at_call 17; refine (r_read t _ ht).mono ?_; rintro e w1 ⟨hf1, h1, _⟩; obtain rfl := h1 (zaa H0); have HF1 := hide hf1; clear hf1 h1)
 go_ret2
 exact ⟨rfl, zaa HF1⟩
theorem tb_of {W : World} {mb g2 c3 fb : Nat} {rs : List Ru} {N : Nat → Bool} {T : Nat → Nat → Bool} {vS vT : Value} {s0 : ByteArray} (hB : Blk W mb 132 (tabF (.slice (some ⟨g2, 0, none⟩) (1 + rs.length) c3) N (.slice (some ⟨fb, 0, none⟩) 26 26) vS vT))
 (hO : W.ownsRow (mb + 1) 100 3 (.slice (some ⟨g2, 0, none⟩) (1 + rs.length) c3) (1 + rs.length) ([.int .u8 0, .string s0, .int .i64 0] ++ zbf rs)) (hT : Blk W fb 3328 (tF T))
 (hs0 : s0.size ≤ 4) (hl0 : ∀ j, j < s0.size → letB (ch s0 j) = true) (hsm : ∀ r ∈ rs, r.R.size ≤ 4 ∧ ∀ j, j < r.R.size → letB (ch r.R j) = true) (hlen : rs.length ≤ 8) : TB W mb g2 c3 fb (⟨0, s0, 0⟩ :: rs) N T := by
 have hm : ∀ r ∈ (⟨0, s0, 0⟩ :: rs : List Ru), r.R.size ≤ 4 ∧ ∀ j, j < r.R.size → letB (ch r.R j) = true := fun r hr => by
  rcases List.mem_cons.1 hr with rfl | hr
  ·exact ⟨hs0, hl0⟩
  ·exact hsm r hr
 refine ⟨?_, NAt.of_blk hB (by omega) (fun i hi => ?_), hB.cell 129 (by omega), RuAt.of_owns hO, (hO.lt g2 rfl).2, hT, fun i h => (hm _ (List.getElem_mem h)).1, fun i h => (hm _ (List.getElem_mem h)).2, by simp; omega⟩
 ·rw [hB.cell 0 (by omega), List.length_cons, Nat.add_comm rs.length 1]; rfl
 ·unfold tabF
  rw [if_neg (by omega), if_pos (by omega), show 1 + i - 1 = i from by omega]
theorem row_one (W : World) (x : It) (n : Nat) (hn : W.heap.size = n) : IRow (W.alloc (.cells #[.int .i64 x.R, .int .i64 x.P, .int .u8 x.T] 181)) n (.slice (some ⟨n, 0, none⟩) 1 1) [x] := by
 subst hn
 have hb : BT (W.alloc (.cells #[.int .i64 x.R, .int .i64 x.P, .int .u8 x.T] 181)) W.heap.size 181 (1 * 3) (itC x) := by
  show (W.heap.push _)[W.heap.size]? = _
  rw [Array.getElem?_push_size]
  congr 2
 exact IRow.of_bt (l := [x]) hb (fun j hj => by
  have hj : j < 3 := by simpa using hj
  unfold itF
  rw [show j / 3 = 0 from by omega, show j % 3 = j from by omega]; rfl) (by simp) (by unfold maxLen; omega) (Nat.le_refl _)
theorem TB.set {w : World} {mb q cq fq : Nat} {rs : List Ru} {N : Nat → Bool} {T : Nat → Nat → Bool} (h : TB w mb q cq fq rs N T) (p : Nat) (hp : 130 ≤ p) (v : Value) (hq : q ≠ mb) (hf : fq ≠ mb) : TB (w.setCell ⟨mb, p, none⟩ v) mb q cq fq rs N T := by
 have k : Fr [mb] w (w.setCell ⟨mb, p, none⟩ v) := (Fr.refl [mb] w).setCell ⟨mb, p, none⟩ (by simp) v
 have hc : ∀ j, j < 130 → (w.setCell ⟨mb, p, none⟩ v).cell? ⟨mb, j, none⟩ = w.cell? ⟨mb, j, none⟩ := fun j hj => World.cell?_setCell_other _ _ _ _ (by intro e; have := congrArg Addr.off e; simp at this; omega)
 refine ⟨by rw [hc 0 (by omega)]; exact h.cL, ⟨Nat.lt_of_lt_of_le h.cN.1 k.size, fun i hi => by rw [hc (1 + i) (by omega)]; exact h.cN.2 i hi⟩, by rw [hc 129 (by omega)]; exact h.cF, h.ru.fr k (by simpa using hq) h.lt, Nat.lt_of_lt_of_le h.lt k.size, h.fT.fr1 k hf, h.small, h.lets, h.len⟩
end Go.Proofs.YtkglggkkbmmjkabGreatDoor
namespace Go.Proofs.YtkglggkkbmmjkabGreatDoor
open Go.RowKit
structure MSl where
 v : Value
 m : List (Nat × Nat)
def zcq (m : List (Nat × Nat)) : List Value := m.flatMap fun p => [.int .u8 p.1, .int .i64 p.2]
theorem mvCells_get : ∀ (m : List (Nat × Nat)) (i : Nat) (h : i < m.length), (zcq m)[i * 2]? = some (.int .u8 m[i].1) ∧ (zcq m)[i * 2 + 1]? = some (.int .i64 m[i].2)
 | r :: l, 0, _ => by simp [zcq]
 | r :: l, i + 1, h => by
  have := mvCells_get l i (by simpa using h)
  simp only [zcq, List.flatMap_cons] at this ⊢
  rw [show (i + 1) * 2 = i * 2 + 2 from by omega]
  simpa using this
structure MT (w : World) (Bs mb : Nat) (vT : Value) (ms : List MSl) : Prop where
 cell : w.cell? ⟨mb, 131, none⟩ = some vT
 free : w.frozen? ⟨mb, 131, none⟩ = false
 own : w.ownsRow Bs 183 1 vT ms.length (ms.map (·.v))
 its : ∀ x ∈ ms, w.ownsRow 0 186 2 x.v x.m.length (zcq x.m) ∧ x.m.length ≤ 100 ∧ ∀ g, x.v.ownBlock = some g → vT.ownBlock ≠ some g ∧ g ≠ mb
 base : mb < Bs
 small : ms.length ≤ 50
theorem row1_get {w : World} {Bs gS n cS : Nat} {e : TypeId} {xs : List Value} (h : w.ownsRow Bs e 1 (.slice (some ⟨gS, 0, none⟩) n cS) xs.length xs) (i : Nat) (hi : i < xs.length) : w.cell? ⟨gS, i, none⟩ = some xs[i] := by
 have := h.cells (g := gS) rfl i xs[i] (by simp [hi])
 simpa only [Addr.add_mid, Nat.zero_add] using this
theorem moves_get {w : World} {B g n c : Nat} {e : TypeId} {m : List (Nat × Nat)} (h : w.ownsRow B e 2 (.slice (some ⟨g, 0, none⟩) n c) m.length (zcq m)) (i : Nat) (hi : i < m.length) : w.cell? ⟨g, i * 2, none⟩ = some (.int .u8 m[i].1) ∧ w.cell? ⟨g, i * 2 + 1, none⟩ = some (.int .i64 m[i].2) := by
 obtain ⟨g0, g1⟩ := mvCells_get m i hi
 have a0 := h.cells (g := g) rfl _ _ g0
 have a1 := h.cells (g := g) rfl _ _ g1
 simp only [Addr.add_mid, Nat.zero_add] at a0 a1
 exact ⟨a0, a1⟩
def toM (m : List (Nat × Nat)) (c : Nat) : Int := match m.find? (fun p => p.1 == c) with
 | some p => p.2
 | none => -1
theorem toM_some {m : List (Nat × Nat)} {c i : Nat} (hi : i < m.length) (h : m[i].1 = c) (hb : ∀ j (hj : j < m.length), j < i → m[j].1 ≠ c) : toM m c = m[i].2 := by
 unfold toM
 rw [show m.find? (fun p => p.1 == c) = some m[i] from by
  rw [List.find?_eq_some_iff_getElem]
  exact ⟨by simp [h], i, hi, rfl, fun j hj => by simpa using hb j (by omega) hj⟩]
theorem toM_none {m : List (Nat × Nat)} {c : Nat} (hb : ∀ j (hj : j < m.length), m[j].1 ≠ c) : toM m c = -1 := by
 unfold toM
 rw [show m.find? (fun p => p.1 == c) = none from by
  rw [List.find?_eq_none]
  intro p hp
  obtain ⟨j, hj, rfl⟩ := List.getElem_of_mem hp
  simpa using hb j hj]
set_option maxRecDepth 100000 in
set_option maxHeartbeats 2000000 in
theorem r_to (Bs mb gT cT : Nat) (ms : List MSl) (s c : Nat) (w : World) (h : MT w Bs mb (.slice (some ⟨gT, 0, none⟩) ms.length cT) ms) (hs : s < ms.length) :
 Calls Tryz.prog 76 #[.pointer (some ⟨mb, 0, none⟩), .int .i64 s, .int .u8 c] w fun e w' => e = .returned (.int .i64 (toM ms[s].m c)) ∧ w' = w := by
 have c0 := h.cell
 have c1 : w.cell? ⟨gT, s, none⟩ = some ms[s].v := by
  have := row1_get (xs := ms.map (·.v)) (by rw [List.length_map]; exact h.own) s (by rw [List.length_map]; exact hs)
  simpa using this
 obtain ⟨hown, hl100, _⟩ := h.its ms[s] (List.getElem_mem hs)
 have HOwn := hide hown
 have v0 : (0 : Int) ≤ (s : Int) := by omega
 have v1 : (s : Int) < (ms.length : Int) := by omega
 generalize hx : ms[s] = x at *
 clear h hx
 rcases hown.2 with ⟨hv, h0⟩ | ⟨g, cap, cur, hv, _⟩
 ·rw [hv] at c1
  have HN := hide (show toM x.m c = -1 from toM_none (fun j hj => by omega))
  clear hown
  go_enter Tryz.func76, Tryz.ntmps76
  go_wp2
  go_loop [7] (fun i => i = .int .i64 0) (fun _ => 0)
  case atStart => rfl
  case round =>
   obtain rfl := hrel
   go_wp2
   go_ret
   exact ⟨zbx (zaa HN).symm, rfl⟩
 ·rw [hv] at c1 HOwn
  clear hown
  go_enter Tryz.func76, Tryz.ntmps76
  go_wp2
  go_loop [7] (fun i => ∃ k : Nat, k ≤ x.m.length ∧ i = .int .i64 k ∧ Hid (∀ j (hj : j < x.m.length), j < k → x.m[j].1 ≠ c)) (fun i => x.m.length - (intOf i).toNat)
  case atStart => exact ⟨0, by omega, rfl, fun j _ hj => by omega⟩
  case round =>
   obtain ⟨k, hk, rfl, hd⟩ := hrel
   by_cases hlt : k < x.m.length
   ·obtain ⟨d0, d1⟩ := moves_get (zaa HOwn) k hlt
    by_cases he : x.m[k].1 = c
    ·have q1 : (((x.m[k].1 : Nat) : Int) == (c : Nat)) = true := by rw [beq_iff_eq]; omega
     have HN := hide (toM_some hlt he (zaa hd))
     clear hd he
     go_wp2
     go_ret
     exact ⟨zbx (zaa HN).symm, rfl⟩
    ·have q1 : (((x.m[k].1 : Nat) : Int) == (c : Nat)) = false := by rw [beq_eq_false_iff_ne]; omega
     have HN := hide (show ∀ j (hj : j < x.m.length), j < k + 1 → x.m[j].1 ≠ c from fun j hj h1 => by
      by_cases e : j = k
      ·subst e; exact he
      ·exact zaa hd j hj (by omega))
     clear hd he
     go_wp2
     go_round
     case rel => exact ⟨k + 1, by omega, by go_num, HN⟩
     case measure => simp [intOf]; omega
   ·have HN := hide (toM_none (m := x.m) (c := c) (fun j hj => zaa hd j hj (by omega)))
    clear hd
    go_wp2
    go_ret
    exact ⟨zbx (zaa HN).symm, rfl⟩
end Go.Proofs.YtkglggkkbmmjkabGreatDoor
