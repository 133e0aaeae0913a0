import Derived.Test.YtkglggkkbmmjkaaGreatDoorJ25RTable
namespace Go.Proofs.YtkglggkkbmmjkaaGreatDoor
open Go.RowKit

/-- the steps of a state: a slice of moves -/
structure MSl where
  v : Value
  m : List (Nat × Nat)
def mvCells (m : List (Nat × Nat)) : List Value := m.flatMap fun p => [.int .u8 p.1, .int .i64 p.2]
theorem mvCells_get : ∀ (m : List (Nat × Nat)) (i : Nat) (h : i < m.length), (mvCells m)[i * 2]? = some (.int .u8 m[i].1) ∧ (mvCells m)[i * 2 + 1]? = some (.int .i64 m[i].2)
  | r :: l, 0, _ => by simp [mvCells]
  | r :: l, i + 1, h => by
    have := mvCells_get l i (by simpa using h)
    simp only [mvCells, List.flatMap_cons] at this ⊢
    rw [show (i + 1) * 2 = i * 2 + 2 from by omega]
    simpa using this
/-- a table's steps -/
structure MT (w : World) (Bs mb : Nat) (vT : Value) (ms : List MSl) : Prop where
  cell : w.cell? ⟨mb, 131, none⟩ = some vT
  free : w.frozen? ⟨mb, 131, none⟩ = false
  own : w.ownsRow Bs 183 1 vT ms.length (ms.map (·.v))
  its : ∀ x ∈ ms, w.ownsRow 0 186 2 x.v x.m.length (mvCells x.m) ∧ x.m.length ≤ 100 ∧ ∀ g, x.v.ownBlock = some g → vT.ownBlock ≠ some g ∧ g ≠ mb
  base : mb < Bs
  small : ms.length ≤ 50
theorem row1_get {w : World} {Bs gS n cS : Nat} {e : TypeId} {xs : List Value} (h : w.ownsRow Bs e 1 (.slice (some ⟨gS, 0, none⟩) n cS) xs.length xs) (i : Nat) (hi : i < xs.length) : w.cell? ⟨gS, i, none⟩ = some xs[i] := by
  have := h.cells (g := gS) rfl i xs[i] (by simp [hi])
  simpa only [Addr.add_mid, Nat.zero_add] using this
theorem moves_get {w : World} {B g n c : Nat} {e : TypeId} {m : List (Nat × Nat)} (h : w.ownsRow B e 2 (.slice (some ⟨g, 0, none⟩) n c) m.length (mvCells m)) (i : Nat) (hi : i < m.length) : w.cell? ⟨g, i * 2, none⟩ = some (.int .u8 m[i].1) ∧ w.cell? ⟨g, i * 2 + 1, none⟩ = some (.int .i64 m[i].2) := by
  obtain ⟨g0, g1⟩ := mvCells_get m i hi
  have a0 := h.cells (g := g) rfl _ _ g0
  have a1 := h.cells (g := g) rfl _ _ g1
  simp only [Addr.add_mid, Nat.zero_add] at a0 a1
  exact ⟨a0, a1⟩

/-- the state behind a letter; -1: there is none -/
def toM (m : List (Nat × Nat)) (c : Nat) : Int := match m.find? (fun p => p.1 == c) with
  | some p => p.2
  | none => -1
theorem toM_some {m : List (Nat × Nat)} {c i : Nat} (hi : i < m.length) (h : m[i].1 = c) (hb : ∀ j (hj : j < m.length), j < i → m[j].1 ≠ c) : toM m c = m[i].2 := by
  unfold toM
  rw [show m.find? (fun p => p.1 == c) = some m[i] from by
    rw [List.find?_eq_some_iff_getElem]
    exact ⟨by simp [h], i, hi, rfl, fun j hj => by simpa using hb j (by omega) hj⟩]
theorem toM_none {m : List (Nat × Nat)} {c : Nat} (hb : ∀ j (hj : j < m.length), m[j].1 ≠ c) : toM m c = -1 := by
  unfold toM
  rw [show m.find? (fun p => p.1 == c) = none from by
    rw [List.find?_eq_none]
    intro p hp
    obtain ⟨j, hj, rfl⟩ := List.getElem_of_mem hp
    simpa using hb j hj]

set_option maxRecDepth 100000 in
set_option maxHeartbeats 2000000 in
theorem r_to (Bs mb gT cT : Nat) (ms : List MSl) (s c : Nat) (w : World) (h : MT w Bs mb (.slice (some ⟨gT, 0, none⟩) ms.length cT) ms) (hs : s < ms.length) :
    Calls Tryz.prog 83 #[.pointer (some ⟨mb, 0, none⟩), .int .i64 s, .int .u8 c] w fun e w' => e = .returned (.int .i64 (toM ms[s].m c)) ∧ w' = w := by
  have c0 := h.cell
  have c1 : w.cell? ⟨gT, s, none⟩ = some ms[s].v := by
    have := row1_get (xs := ms.map (·.v)) (by rw [List.length_map]; exact h.own) s (by rw [List.length_map]; exact hs)
    simpa using this
  obtain ⟨hown, hl100, _⟩ := h.its ms[s] (List.getElem_mem hs)
  have HOwn := hide hown
  have v0 : (0 : Int) ≤ (s : Int) := by omega
  have v1 : (s : Int) < (ms.length : Int) := by omega
  generalize hx : ms[s] = x at *
  clear h hx
  rcases hown.2 with ⟨hv, h0⟩ | ⟨g, cap, cur, hv, _⟩
  · rw [hv] at c1
    have HN := hide (show toM x.m c = -1 from toM_none (fun j hj => by omega))
    clear hown
    go_enter Tryz.func83, Tryz.ntmps83
    go_wp2
    go_loop [7] (fun i => i = .int .i64 0) (fun _ => 0)
    case atStart => rfl
    case round =>
      obtain rfl := hrel
      go_wp2
      go_ret
      exact ⟨ret_int (unhide HN).symm, rfl⟩
  · rw [hv] at c1 HOwn
    clear hown
    go_enter Tryz.func83, Tryz.ntmps83
    go_wp2
    go_loop [7] (fun i => ∃ k : Nat, k ≤ x.m.length ∧ i = .int .i64 k ∧ Hid (∀ j (hj : j < x.m.length), j < k → x.m[j].1 ≠ c)) (fun i => x.m.length - (intOf i).toNat)
    case atStart => exact ⟨0, by omega, rfl, fun j _ hj => by omega⟩
    case round =>
      obtain ⟨k, hk, rfl, hd⟩ := hrel
      by_cases hlt : k < x.m.length
      · obtain ⟨d0, d1⟩ := moves_get (unhide HOwn) k hlt
        by_cases he : x.m[k].1 = c
        · have q1 : (((x.m[k].1 : Nat) : Int) == (c : Nat)) = true := by rw [beq_iff_eq]; omega
          have HN := hide (toM_some hlt he (unhide hd))
          clear hd he
          go_wp2
          go_ret
          exact ⟨ret_int (unhide HN).symm, rfl⟩
        · have q1 : (((x.m[k].1 : Nat) : Int) == (c : Nat)) = false := by rw [beq_eq_false_iff_ne]; omega
          have HN := hide (show ∀ j (hj : j < x.m.length), j < k + 1 → x.m[j].1 ≠ c from fun j hj h1 => by
            by_cases e : j = k
            · subst e; exact he
            · exact unhide hd j hj (by omega))
          clear hd he
          go_wp2
          go_round
          case rel => exact ⟨k + 1, by omega, by go_num, HN⟩
          case measure => simp [intOf]; omega
      · have HN := hide (toM_none (m := x.m) (c := c) (fun j hj => unhide hd j hj (by omega)))
        clear hd
        go_wp2
        go_ret
        exact ⟨ret_int (unhide HN).symm, rfl⟩
end Go.Proofs.YtkglggkkbmmjkaaGreatDoor

namespace Go.Proofs.YtkglggkkbmmjkaaGreatDoor
open Go.RowKit

/-- an item at its rule's end, with this sign -/
def endI (rs : List Ru) (x k : Nat) (y : It) : Bool := y.P == (rget rs y.R).R.size && (y.T == x && y.R == k)
def endsL (rs : List Ru) (l : List It) (x k : Nat) : Bool := l.any (endI rs x k)
theorem endsL_succ (rs : List Ru) (l : List It) (x k i : Nat) (h : i < l.length) : endsL rs (l.take (i + 1)) x k = (endsL rs (l.take i) x k || endI rs x k (lget l i)) := by
  unfold endsL
  rw [List.take_succ_eq_append_getElem h, List.any_append, lget_eq l i h]; simp
theorem canF_set (st : Bool) (ru : Nat → Bool) (k : Nat) (hk : k < 9) (i : Nat) (hi : i < 10) : upd (canF st ru) (1 + k) (.bool true) i = canF st (fun j => ru j || j == k) i := by
  unfold upd canF
  by_cases h : i = 1 + k
  · rw [if_pos h, if_neg (by omega), h, show 1 + k - 1 = k from by omega]; simp
  · rw [if_neg h]
    by_cases h0 : i = 0
    · rw [if_pos h0, if_pos h0]
    · rw [if_neg h0, if_neg h0]
      have : (i - 1 == k) = false := by rw [beq_eq_false_iff_ne]; omega
      show Value.bool (ru (i - 1)) = Value.bool (ru (i - 1) || (i - 1 == k))
      rw [this, Bool.or_false]
theorem canF_step (st st' : Bool) (ru : Nat → Bool) (i : Nat) : upd (canF st ru) 0 (.bool st') i = canF st' ru i := by
  unfold upd canF
  by_cases h : i = 0
  · rw [if_pos h, if_pos h]
  · rw [if_neg h, if_neg h, if_neg h]

/-- the state of can -/
structure CaS (w wr : World) (cb mb q cq fq gS cS : Nat) (rs : List Ru) (N : Nat → Bool) (T : Nat → Nat → Bool) (n s : Nat) (x : Sl) (st : Bool) (ru : Nat → Bool) : Prop where
  fr : Fr [cb] w wr
  blk : Blk wr cb 10 (canF st ru)
  tb : TB wr mb q cq fq rs N T
  cS : wr.cell? ⟨mb, 130, none⟩ = some (.slice (some ⟨gS, 0, none⟩) n cS)
  cX : wr.cell? ⟨gS, s, none⟩ = some (slV x)
  its : ItAt wr x.g x.l
  ne : cb ≠ mb ∧ cb ≠ q ∧ cb ≠ fq ∧ cb ≠ gS ∧ cb ≠ x.g
  lt : cb < w.heap.size
theorem CaS.far {w wr wr' : World} {cb mb q cq fq gS cS z : Nat} {rs : List Ru} {N : Nat → Bool} {T : Nat → Nat → Bool} {n s : Nat} {x : Sl} {st : Bool} {ru : Nat → Bool} (h : CaS w wr cb mb q cq fq gS cS rs N T n s x st ru) (k : Fr [z] wr wr') (hz : wr.heap.size ≤ z) : CaS w wr' cb mb q cq fq gS cS rs N T n s x st ru := by
  have a1 := h.tb.cN.lt
  have a2 := h.tb.lt
  have a3 := h.tb.fT.lt
  have a4 := World.block_lt_of_cell? wr ⟨gS, s, none⟩ h.cX
  have a5 := h.fr.size
  have a6 := h.lt
  have hm : mb ∉ [z] := by simp; omega
  refine ⟨h.fr.trans1 k (Or.inr (by omega)), h.blk.fr1 k (by omega), h.tb.fr k hm (by simp; omega) (by simp; omega), k.cell h.cS hm, k.cell h.cX (by simp; simp at a4; omega), fun i hi => ?_, h.ne, h.lt⟩
  have a7 := World.block_lt_of_cell? wr ⟨x.g, i * 3, none⟩ (h.its i hi).1
  have hx : x.g ∉ [z] := by simp; simp at a7; omega
  exact ⟨k.cell (h.its i hi).1 hx, k.cell (h.its i hi).2.1 hx, k.cell (h.its i hi).2.2 hx⟩
theorem CaS.fr0 {w wr wr' : World} {cb mb q cq fq gS cS : Nat} {rs : List Ru} {N : Nat → Bool} {T : Nat → Nat → Bool} {n s : Nat} {x : Sl} {st : Bool} {ru : Nat → Bool} (h : CaS w wr cb mb q cq fq gS cS rs N T n s x st ru) (k : Fr [] wr wr') : CaS w wr' cb mb q cq fq gS cS rs N T n s x st ru :=
  ⟨h.fr.trans0 k, h.blk.fr0 k, h.tb.fr0 k, k.cell0 h.cS, k.cell0 h.cX, h.its.fr0 k, h.ne, h.lt⟩
theorem CaS.put {w wr wr' : World} {cb mb q cq fq gS cS : Nat} {rs : List Ru} {N : Nat → Bool} {T : Nat → Nat → Bool} {n s : Nat} {x : Sl} {st st' : Bool} {ru ru' : Nat → Bool} (h : CaS w wr cb mb q cq fq gS cS rs N T n s x st ru) (k : Fr [cb] wr wr') (hB : Blk wr' cb 10 (canF st' ru')) : CaS w wr' cb mb q cq fq gS cS rs N T n s x st' ru' := by
  obtain ⟨n1, n2, n3, n4, n5⟩ := h.ne
  exact ⟨h.fr.trans k (by simp), hB, h.tb.fr k (by simp; omega) (by simp; omega) (by simp; omega), k.cell h.cS (by simp; omega), k.cell h.cX (by simp; omega), h.its.fr k (by simp; omega), h.ne, h.lt⟩

set_option maxRecDepth 100000 in
set_option maxHeartbeats 4000000 in
theorem r_can (Bs mb q cq fq gS cS gT cT cb : Nat) (rs : List Ru) (N : Nat → Bool) (T : Nat → Nat → Bool) (ls : List Sl) (ms : List MSl) (s c : Nat) (st : Bool) (ru : Nat → Bool) (w : World) (h : TB w mb q cq fq rs N T) (hS : SAt w Bs mb (.slice (some ⟨gS, 0, none⟩) ls.length cS) ls) (hM : MT w Bs mb (.slice (some ⟨gT, 0, none⟩) ms.length cT) ms)
    (hs : s < ls.length) (hs' : s < ms.length) (hok : ∀ y ∈ ls[s].l, IOk rs y) (hB : Blk w cb 10 (canF st ru)) (hne : cb ≠ mb ∧ cb ≠ q ∧ cb ≠ fq ∧ cb ≠ gS ∧ cb ≠ ls[s].g) :
    Calls Tryz.prog 88 #[.pointer (some ⟨mb, 0, none⟩), .pointer (some ⟨cb, 0, none⟩), .int .i64 s, .int .u8 c] w fun e w' => e = .returned (.tuple #[]) ∧ Fr [cb] w w' ∧ Blk w' cb 10 (canF (st || decide (0 ≤ toM ms[s].m c)) (fun k => ru k || endsL rs ls[s].l c k)) := by
  have hlen := h.len
  have HSm := hide h.small
  have HM := hide hM
  have HS0 := hide (show CaS w w cb mb q cq fq gS cS rs N T ls.length s ls[s] st ru from ⟨Fr.refl _ _, hB, h, hS.cell, slV_get hS.own s hs, (hS.its ls[s] (List.getElem_mem hs)).1, hne, hB.lt⟩)
  have hl1 := (hS.its ls[s] (List.getElem_mem hs)).2.2.1
  have HOk := hide hok
  have hls := hS.small
  have v0 : (0 : Int) ≤ (s : Int) := by omega
  have v1 : (s : Int) < (ls.length : Int) := by omega
  generalize hx : ls[s] = x at *
  clear h hS hM hB hne hok hx
  obtain ⟨tv, htv⟩ : ∃ tv, toM ms[s].m c = tv := ⟨_, rfl⟩
  have HTV := hide htv
  rw [htv]
  clear htv
  have k0 : w.cell? ⟨cb, 0, none⟩ = some (.bool st) := (unhide HS0).blk.cell 0 (by omega)
  have z0 := (unhide HS0).blk.free 0
  have HS1 := hide (show CaS w (w.setCell ⟨cb, 0, none⟩ (.bool (st || decide (0 ≤ tv)))) cb mb q cq fq gS cS rs N T ls.length s x (st || decide (0 ≤ tv)) ru from
    (unhide HS0).put ((Fr.refl [cb] w).setCell ⟨cb, 0, none⟩ (by simp) _) (((unhide HS0).blk.setCell 0 _).congr fun i _ => canF_step _ _ _ i))
  obtain ⟨sv, hsv⟩ : ∃ sv, (st || decide (0 ≤ tv)) = sv := ⟨_, rfl⟩
  have hsv' := hsv
  rw [hsv] at HS1 ⊢
  have HSV := hide hsv
  clear hsv
  go_enter Tryz.func88, Tryz.ntmps88
  cases st
  · simp only [Bool.false_or] at hsv'
    go_wp2_with (go_at_call 83; refine (r_to Bs mb gT cT ms s c _ (by exact unhide HM) hs').mono ?_; rintro e w2 ⟨rfl, hw2⟩; rw [hw2, unhide HTV]; clear hw2)
    go_loopw [9] (fun iv wr => ∃ i : Nat, i ≤ x.l.length ∧ iv = .int .i64 i ∧ Hid (CaS w wr cb mb q cq fq gS cS rs N T ls.length s x sv (fun k => ru k || endsL rs (x.l.take i) c k))) (fun iv _ => x.l.length - (intOf iv).toNat)
    case atStart => exact ⟨0, by omega, rfl, hide (by rw [show (fun k => ru k || endsL rs (x.l.take 0) c k) = ru from funext fun k => by simp [endsL]]; exact unhide HS1)⟩
    case round =>
      obtain ⟨i, hi, rfl, hca⟩ := hrel
      have b0 := (unhide hca).cS
      have b1 := (unhide hca).cX
      unfold slV at b1
      by_cases hlt : i < x.l.length
      · obtain ⟨y, hy⟩ : ∃ y, lget x.l i = y := ⟨_, rfl⟩
        obtain ⟨d0, d1, d2⟩ := (unhide hca).its i hlt
        rw [hy] at d0 d1 d2
        have HIO := hide (show IOk rs y from by rw [← hy, lget_eq x.l i hlt]; exact unhide HOk _ (List.getElem_mem hlt))
        have HY := hide hy
        obtain ⟨hyR, hyP, _⟩ := unhide HIO
        obtain ⟨rt, hrt⟩ : ∃ rt, (rget rs y.R).R = rt := ⟨_, rfl⟩
        have HRt := hide hrt
        have hrs4 : rt.size ≤ 4 := by rw [← hrt, rget_eq rs _ hyR]; exact unhide HSm _ hyR
        have HE := hide (fun k => endsL_succ rs x.l c k i hlt)
        have e0 : (0 : Int) ≤ (y.R : Int) := by omega
        have e1 : (y.R : Int) < (rs.length : Int) := by omega
        have e2 : (y.R : Int) < 9 := by omega
        clear hy hrt hyP
        go_wp2_with (first
          | (refine wpList_alloc_blk rfl 181 rfl (some 10) rfl 3 _ Tryz.zeroItem ?_; intro w2 hf2 hs2 hB2; have HF2 := hide ((unhide hca).fr0 hf2); have HB2 := hide hB2; have HN2 := hide hf2; clear hf2 hs2 hB2)
          | (refine wpList_store_blk rfl 181 (.tmp 10) (.tmp 47) rfl wr.heap.size 0 3 3 (itC it0) (itC y) rfl (by exact agg_it y) (by exact unhide HB2) Tryz.sizeItem (by omega) (by intro i hi; unfold itC; split; rfl; split <;> rfl) ?_; intro w3 hf3 hs3 hB3; have HF3 := hide (show CaS w w3 cb mb q cq fq gS cS rs N T ls.length s x sv (fun k => ru k || endsL rs (x.l.take i) c k) from (unhide hca).far (((unhide HN2).weak (by simp)).trans hf3 (by simp)) (Nat.le_refl _)); have HB3 := hide (hB3.congr (g := itC y) fun i hi => lay_all _ _ _ i hi); clear hf3 hs3 hB3))
        have hxc : wr.heap.size ≠ cb := by have := (unhide hca).blk.lt; omega
        generalize wr.heap.size = xb at *
        have t0 := (unhide HF3).tb.cL
        have t1 : w3.cell? ⟨xb, 0, none⟩ = some (.int .i64 y.R) := (unhide HB3).cell 0 (by omega)
        have t2 : w3.cell? ⟨xb, 1, none⟩ = some (.int .i64 y.P) := (unhide HB3).cell 1 (by omega)
        have t3 : w3.cell? ⟨xb, 2, none⟩ = some (.int .u8 y.T) := (unhide HB3).cell 2 (by omega)
        have t4 : w3.cell? ⟨q, y.R * 3 + 1, none⟩ = some (.string rt) := by
          rw [((unhide HF3).tb.ru y.R hyR).2.1, ← rget_eq rs _ hyR, unhide HRt]
        clear b0 b1 d0 d1 d2 hca HF2 HB2 HN2
        by_cases hP : y.P = rt.size
        · have q1 : (((y.P : Nat) : Int) == (rt.size : Nat)) = true := by rw [beq_iff_eq]; omega
          by_cases hT : y.T = c
          · have q2 : (((y.T : Nat) : Int) == (c : Nat)) = true := by rw [beq_iff_eq]; omega
            have HN := hide (show (fun k => ru k || endsL rs (x.l.take (i + 1)) c k) = fun k => (fun k => ru k || endsL rs (x.l.take i) c k) k || k == y.R from funext fun k => by
              rw [unhide HE k, unhide HY]
              unfold endI
              rw [unhide HRt, hP, hT]
              simp only [beq_self_eq_true, Bool.true_and]
              rw [Bool.or_assoc]
              congr 2
              rw [Bool.eq_iff_iff, beq_iff_eq, beq_iff_eq]; exact eq_comm)
            clear HE hP hT
            go_wp2_with fail
            go_quiet (fail)
            go_wp2_with fail
            generalize hwd : World.drewN w3 _ = wq
            have HFq := hide (show CaS w wq cb mb q cq fq gS cS rs N T ls.length s x sv (fun k => ru k || endsL rs (x.l.take i) c k) from by rw [← hwd]; exact (unhide HF3).fr0 (fr_drewN _ _))
            have u0 : wq.cell? ⟨xb, 0, none⟩ = some (.int .i64 y.R) := by rw [← hwd]; exact t1
            have u1 := (unhide HFq).blk.cell (1 + y.R) (by omega)
            have uz := (unhide HFq).blk.free (1 + y.R)
            have u2 : (wq.setCell ⟨cb, 1 + y.R, none⟩ (.bool true)).cell? ⟨xb, 0, none⟩ = some (.int .i64 y.R) := by
              rw [World.cell?_setCell_far _ _ _ _ (by simpa using fun e => hxc e.symm)]; exact u0
            have HFr := hide (show CaS w (wq.setCell ⟨cb, 1 + y.R, none⟩ (.bool true)) cb mb q cq fq gS cS rs N T ls.length s x sv (fun k => ru k || endsL rs (x.l.take (i + 1)) c k) from by
              rw [unhide HN]
              exact (unhide HFq).put ((Fr.refl [cb] wq).setCell ⟨cb, 1 + y.R, none⟩ (by simp) _) (((unhide HFq).blk.setCell (1 + y.R) _).congr fun j hj => canF_set _ _ y.R (by omega) j hj))
            clear hwd t0 t1 t2 t3 t4 HF3
            go_region_held3 (fun w' => w'.cell? ⟨xb, 0, none⟩ = some (.int .i64 y.R)) (first | exact u0 | exact u2) (fail)
            go_wp2
            go_roundw
            case rel => exact ⟨i + 1, by omega, by go_num, hide (by first | exact unhide HFr | exact (unhide HFr).fr0 ((Fr.refl [] _).drew))⟩
            case measure => simp [intOf]; omega
          · have q2 : (((y.T : Nat) : Int) == (c : Nat)) = false := by rw [beq_eq_false_iff_ne]; omega
            have HN := hide (show (fun k => ru k || endsL rs (x.l.take (i + 1)) c k) = fun k => ru k || endsL rs (x.l.take i) c k from funext fun k => by
              rw [unhide HE k, unhide HY]
              unfold endI
              rw [show (y.T == c) = false from beq_eq_false_iff_ne.2 hT]; simp)
            clear HE hP hT
            go_wp2_with fail
            go_quiet (fail)
            go_wp2
            go_roundw
            case rel => exact ⟨i + 1, by omega, by go_num, hide (by rw [unhide HN]; exact (unhide HF3).fr0 (fr_drewN _ _))⟩
            case measure => simp [intOf]; omega
        · have q1 : (((y.P : Nat) : Int) == (rt.size : Nat)) = false := by rw [beq_eq_false_iff_ne]; omega
          have HN := hide (show (fun k => ru k || endsL rs (x.l.take (i + 1)) c k) = fun k => ru k || endsL rs (x.l.take i) c k from funext fun k => by
            rw [unhide HE k, unhide HY]
            unfold endI
            rw [unhide HRt, show (y.P == rt.size) = false from beq_eq_false_iff_ne.2 hP]; simp)
          clear HE hP
          go_wp2_with fail
          go_quiet (fail)
          go_wp2
          go_roundw
          case rel => exact ⟨i + 1, by omega, by go_num, hide (by rw [unhide HN]; exact (unhide HF3).fr0 (fr_drewN _ _))⟩
          case measure => simp [intOf]; omega
      · have HN := hide (show (fun k => ru k || endsL rs (x.l.take i) c k) = fun k => ru k || endsL rs x.l c k from by rw [List.take_of_length_le (by omega)])
        go_wp2
        go_end0
        exact ⟨rfl, (unhide hca).fr, by have := (unhide hca).blk; rw [unhide HN] at this; exact this⟩
  · simp only [Bool.true_or] at hsv'
    subst hsv'
    go_wp2_with (go_at_call 83; refine (r_to Bs mb gT cT ms s c _ (by exact unhide HM) hs').mono ?_; rintro e w2 ⟨rfl, hw2⟩; rw [hw2, unhide HTV]; clear hw2)
    go_loopw [9] (fun iv wr => ∃ i : Nat, i ≤ x.l.length ∧ iv = .int .i64 i ∧ Hid (CaS w wr cb mb q cq fq gS cS rs N T ls.length s x true (fun k => ru k || endsL rs (x.l.take i) c k))) (fun iv _ => x.l.length - (intOf iv).toNat)
    case atStart => exact ⟨0, by omega, rfl, hide (by rw [show (fun k => ru k || endsL rs (x.l.take 0) c k) = ru from funext fun k => by simp [endsL]]; exact unhide HS1)⟩
    case round =>
      obtain ⟨i, hi, rfl, hca⟩ := hrel
      have b0 := (unhide hca).cS
      have b1 := (unhide hca).cX
      unfold slV at b1
      by_cases hlt : i < x.l.length
      · obtain ⟨y, hy⟩ : ∃ y, lget x.l i = y := ⟨_, rfl⟩
        obtain ⟨d0, d1, d2⟩ := (unhide hca).its i hlt
        rw [hy] at d0 d1 d2
        have HIO := hide (show IOk rs y from by rw [← hy, lget_eq x.l i hlt]; exact unhide HOk _ (List.getElem_mem hlt))
        have HY := hide hy
        obtain ⟨hyR, hyP, _⟩ := unhide HIO
        obtain ⟨rt, hrt⟩ : ∃ rt, (rget rs y.R).R = rt := ⟨_, rfl⟩
        have HRt := hide hrt
        have hrs4 : rt.size ≤ 4 := by rw [← hrt, rget_eq rs _ hyR]; exact unhide HSm _ hyR
        have HE := hide (fun k => endsL_succ rs x.l c k i hlt)
        have e0 : (0 : Int) ≤ (y.R : Int) := by omega
        have e1 : (y.R : Int) < (rs.length : Int) := by omega
        have e2 : (y.R : Int) < 9 := by omega
        clear hy hrt hyP
        go_wp2_with (first
          | (refine wpList_alloc_blk rfl 181 rfl (some 10) rfl 3 _ Tryz.zeroItem ?_; intro w2 hf2 hs2 hB2; have HF2 := hide ((unhide hca).fr0 hf2); have HB2 := hide hB2; have HN2 := hide hf2; clear hf2 hs2 hB2)
          | (refine wpList_store_blk rfl 181 (.tmp 10) (.tmp 47) rfl wr.heap.size 0 3 3 (itC it0) (itC y) rfl (by exact agg_it y) (by exact unhide HB2) Tryz.sizeItem (by omega) (by intro i hi; unfold itC; split; rfl; split <;> rfl) ?_; intro w3 hf3 hs3 hB3; have HF3 := hide (show CaS w w3 cb mb q cq fq gS cS rs N T ls.length s x true (fun k => ru k || endsL rs (x.l.take i) c k) from (unhide hca).far (((unhide HN2).weak (by simp)).trans hf3 (by simp)) (Nat.le_refl _)); have HB3 := hide (hB3.congr (g := itC y) fun i hi => lay_all _ _ _ i hi); clear hf3 hs3 hB3))
        have hxc : wr.heap.size ≠ cb := by have := (unhide hca).blk.lt; omega
        generalize wr.heap.size = xb at *
        have t0 := (unhide HF3).tb.cL
        have t1 : w3.cell? ⟨xb, 0, none⟩ = some (.int .i64 y.R) := (unhide HB3).cell 0 (by omega)
        have t2 : w3.cell? ⟨xb, 1, none⟩ = some (.int .i64 y.P) := (unhide HB3).cell 1 (by omega)
        have t3 : w3.cell? ⟨xb, 2, none⟩ = some (.int .u8 y.T) := (unhide HB3).cell 2 (by omega)
        have t4 : w3.cell? ⟨q, y.R * 3 + 1, none⟩ = some (.string rt) := by
          rw [((unhide HF3).tb.ru y.R hyR).2.1, ← rget_eq rs _ hyR, unhide HRt]
        clear b0 b1 d0 d1 d2 hca HF2 HB2 HN2
        by_cases hP : y.P = rt.size
        · have q1 : (((y.P : Nat) : Int) == (rt.size : Nat)) = true := by rw [beq_iff_eq]; omega
          by_cases hT : y.T = c
          · have q2 : (((y.T : Nat) : Int) == (c : Nat)) = true := by rw [beq_iff_eq]; omega
            have HN := hide (show (fun k => ru k || endsL rs (x.l.take (i + 1)) c k) = fun k => (fun k => ru k || endsL rs (x.l.take i) c k) k || k == y.R from funext fun k => by
              rw [unhide HE k, unhide HY]
              unfold endI
              rw [unhide HRt, hP, hT]
              simp only [beq_self_eq_true, Bool.true_and]
              rw [Bool.or_assoc]
              congr 2
              rw [Bool.eq_iff_iff, beq_iff_eq, beq_iff_eq]; exact eq_comm)
            clear HE hP hT
            go_wp2_with fail
            go_quiet (fail)
            go_wp2_with fail
            generalize hwd : World.drewN w3 _ = wq
            have HFq := hide (show CaS w wq cb mb q cq fq gS cS rs N T ls.length s x true (fun k => ru k || endsL rs (x.l.take i) c k) from by rw [← hwd]; exact (unhide HF3).fr0 (fr_drewN _ _))
            have u0 : wq.cell? ⟨xb, 0, none⟩ = some (.int .i64 y.R) := by rw [← hwd]; exact t1
            have u1 := (unhide HFq).blk.cell (1 + y.R) (by omega)
            have uz := (unhide HFq).blk.free (1 + y.R)
            have u2 : (wq.setCell ⟨cb, 1 + y.R, none⟩ (.bool true)).cell? ⟨xb, 0, none⟩ = some (.int .i64 y.R) := by
              rw [World.cell?_setCell_far _ _ _ _ (by simpa using fun e => hxc e.symm)]; exact u0
            have HFr := hide (show CaS w (wq.setCell ⟨cb, 1 + y.R, none⟩ (.bool true)) cb mb q cq fq gS cS rs N T ls.length s x true (fun k => ru k || endsL rs (x.l.take (i + 1)) c k) from by
              rw [unhide HN]
              exact (unhide HFq).put ((Fr.refl [cb] wq).setCell ⟨cb, 1 + y.R, none⟩ (by simp) _) (((unhide HFq).blk.setCell (1 + y.R) _).congr fun j hj => canF_set _ _ y.R (by omega) j hj))
            clear hwd t0 t1 t2 t3 t4 HF3
            go_region_held3 (fun w' => w'.cell? ⟨xb, 0, none⟩ = some (.int .i64 y.R)) (first | exact u0 | exact u2) (fail)
            go_wp2
            go_roundw
            case rel => exact ⟨i + 1, by omega, by go_num, hide (by first | exact unhide HFr | exact (unhide HFr).fr0 ((Fr.refl [] _).drew))⟩
            case measure => simp [intOf]; omega
          · have q2 : (((y.T : Nat) : Int) == (c : Nat)) = false := by rw [beq_eq_false_iff_ne]; omega
            have HN := hide (show (fun k => ru k || endsL rs (x.l.take (i + 1)) c k) = fun k => ru k || endsL rs (x.l.take i) c k from funext fun k => by
              rw [unhide HE k, unhide HY]
              unfold endI
              rw [show (y.T == c) = false from beq_eq_false_iff_ne.2 hT]; simp)
            clear HE hP hT
            go_wp2_with fail
            go_quiet (fail)
            go_wp2
            go_roundw
            case rel => exact ⟨i + 1, by omega, by go_num, hide (by rw [unhide HN]; exact (unhide HF3).fr0 (fr_drewN _ _))⟩
            case measure => simp [intOf]; omega
        · have q1 : (((y.P : Nat) : Int) == (rt.size : Nat)) = false := by rw [beq_eq_false_iff_ne]; omega
          have HN := hide (show (fun k => ru k || endsL rs (x.l.take (i + 1)) c k) = fun k => ru k || endsL rs (x.l.take i) c k from funext fun k => by
            rw [unhide HE k, unhide HY]
            unfold endI
            rw [unhide HRt, show (y.P == rt.size) = false from beq_eq_false_iff_ne.2 hP]; simp)
          clear HE hP
          go_wp2_with fail
          go_quiet (fail)
          go_wp2
          go_roundw
          case rel => exact ⟨i + 1, by omega, by go_num, hide (by rw [unhide HN]; exact (unhide HF3).fr0 (fr_drewN _ _))⟩
          case measure => simp [intOf]; omega
      · have HN := hide (show (fun k => ru k || endsL rs (x.l.take i) c k) = fun k => ru k || endsL rs x.l c k from by rw [List.take_of_length_le (by omega)])
        go_wp2
        go_end0
        exact ⟨rfl, (unhide hca).fr, by have := (unhide hca).blk; rw [unhide HN] at this; exact this⟩
end Go.Proofs.YtkglggkkbmmjkaaGreatDoor
