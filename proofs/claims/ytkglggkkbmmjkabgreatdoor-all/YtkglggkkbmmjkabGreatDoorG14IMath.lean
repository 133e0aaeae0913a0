import Derived.Test.YtkglggkkbmmjkabGreatDoorG13RPut2
namespace Go.Proofs.YtkglggkkbmmjkabGreatDoor
open Go.RowKit
def eqI (x y : It) : Bool := x.R == y.R && (x.P == y.P && x.T == y.T)
theorem eqI_iff {x y : It} : eqI x y = true ↔ x = y := by
 obtain ⟨a, b, c⟩ := x
 obtain ⟨a', b', c'⟩ := y
 simp [eqI]
def eqL : List It → List It → Bool
 | [], [] => true
 | x :: a, y :: b => eqI x y && eqL a b
 | _, _ => false
theorem eqL_iff : ∀ {a b : List It}, eqL a b = true ↔ a = b
 | [], [] => by simp [eqL]
 | [], _ :: _ => by simp [eqL]
 | _ :: _, [] => by simp [eqL]
 | x :: a, y :: b => by
  rw [eqL, Bool.and_eq_true, eqI_iff, eqL_iff, List.cons.injEq]
theorem eqL_false {a b : List It} (h : a ≠ b) : eqL a b = false := by
 cases e : eqL a b
 ·rfl
 ·exact absurd (eqL_iff.1 e) h
def ItAt (w : World) (q : Nat) (l : List It) : Prop := ∀ i, i < l.length → w.cell? ⟨q, i * 3, none⟩ = some (.int .i64 (lget l i).R) ∧ w.cell? ⟨q, i * 3 + 1, none⟩ = some (.int .i64 (lget l i).P) ∧ w.cell? ⟨q, i * 3 + 2, none⟩ = some (.int .u8 (lget l i).T)
theorem ItAt.fr {S : List Nat} {w w' : World} {q : Nat} {l : List It} (h : ItAt w q l) (k : Fr S w w') (hq : q ∉ S) : ItAt w' q l := fun i hi =>
 ⟨k.cell (h i hi).1 hq, k.cell (h i hi).2.1 hq, k.cell (h i hi).2.2 hq⟩
theorem ItAt.fr0 {w w' : World} {q : Nat} {l : List It} (h : ItAt w q l) (k : Fr [] w w') : ItAt w' q l := h.fr k (by simp)
theorem ItAt.below {B : Nat} {w w' : World} {q : Nat} {l : List It} (h : ItAt w q l) (k : Below B w w') (hq : q < B) : ItAt w' q l := fun i hi => by
 rw [k.cell (p := ⟨q, i * 3, none⟩) hq, k.cell (p := ⟨q, i * 3 + 1, none⟩) hq, k.cell (p := ⟨q, i * 3 + 2, none⟩) hq]; exact h i hi
theorem IRow.at {w : World} {base g n cap : Nat} {l : List It} (h : IRow w base (.slice (some ⟨g, 0, none⟩) n cap) l) : ItAt w g l ∧ base ≤ g ∧ g < w.heap.size ∧ n = l.length := by
 obtain ⟨f, hf, hl, hc, _, hg, hn⟩ := h.bt
 refine ⟨fun i hi => ?_, hg, hf.blk.lt, hn⟩
 obtain ⟨t0, t1, t2⟩ := itF_at (lget l) i
 rw [hf.blk.cell _ (by omega), hf.blk.cell _ (by omega), hf.blk.cell _ (by omega), hl _ (by omega), hl _ (by omega), hl _ (by omega), t0, t1, t2]
 exact ⟨rfl, rfl, rfl⟩
set_option maxRecDepth 100000 in
set_option maxHeartbeats 2000000 in
theorem r_same (qa ca qb cb : Nat) (a b : List It) (w : World) (ha : ItAt w qa a) (hb : ItAt w qb b) (na : a.length ≤ 10000) :
 Calls Tryz.prog 137 #[.slice (some ⟨qa, 0, none⟩) a.length ca, .slice (some ⟨qb, 0, none⟩) b.length cb] w fun e w' => e = .returned (.bool (eqL a b)) ∧ Fr [] w w' := by
 have HA := hide ha
 have HB := hide hb
 clear ha hb
 by_cases hlen : a.length = b.length
 ·have hne : (((a.length : Nat) : Int) != (b.length : Nat)) = false := by rw [hlen]; simp
  have HLen := hide hlen
  go_enter Tryz.func137, Tryz.ntmps137
  go_wp2
  go_loopw [5] (fun i wr => ∃ k : Nat, k ≤ a.length ∧ i = .int .i64 k ∧ Hid (∀ j, j < k → lget a j = lget b j) ∧ Hid (Fr [] w wr)) (fun i _ => a.length - (intOf i).toNat)
  case atStart => exact ⟨0, by omega, rfl, fun j hj => by omega, Fr.refl _ _⟩
  case round =>
   obtain ⟨k, hk, rfl, hd, hf⟩ := hrel
   by_cases hlt : k < a.length
   ·obtain ⟨c0, c1, c2⟩ := ((zaa HA).fr0 (zaa hf)) k hlt
    obtain ⟨d0, d1, d2⟩ := ((zaa HB).fr0 (zaa hf)) k (by omega)
    have v1 : (k : Int) < (b.length : Int) := by omega
    obtain ⟨x, hx⟩ : ∃ x, lget a k = x := ⟨_, rfl⟩
    obtain ⟨y, hy⟩ : ∃ y, lget b k = y := ⟨_, rfl⟩
    rw [hx] at c0 c1 c2
    rw [hy] at d0 d1 d2
    by_cases he : x = y
    ·have HN := hide (show ∀ j, j < k + 1 → lget a j = lget b j from fun j hj => by
      by_cases e : j = k
      ·rw [e, hx, hy, he]
      ·exact zaa hd j (by omega))
     subst he
     clear hd hx hy hlen hne
     go_wp2_with fail
     go_region_held3 (fun w' => w'.cell? ⟨qa, k * 3, none⟩ = some (.int .i64 x.R) ∧ w'.cell? ⟨qa, k * 3 + 1, none⟩ = some (.int .i64 x.P) ∧ w'.cell? ⟨qa, k * 3 + 2, none⟩ = some (.int .u8 x.T) ∧ w'.cell? ⟨qb, k * 3, none⟩ = some (.int .i64 x.R) ∧ w'.cell? ⟨qb, k * 3 + 1, none⟩ = some (.int .i64 x.P) ∧ w'.cell? ⟨qb, k * 3 + 2, none⟩ = some (.int .u8 x.T)) (exact ⟨c0, c1, c2, d0, d1, d2⟩) (fail)
     go_wp2
     go_roundw
     case rel => exact ⟨k + 1, by omega, by go_num, HN, hide ((zaa hf).drew)⟩
     case measure => simp [intOf]; omega
    ·have HN := hide (show eqL a b = false from eqL_false (fun e => he (by rw [← hx, ← hy, e])))
     have hq := neq_items x y (fun h => he (by
      obtain ⟨x1, x2, x3⟩ := x
      obtain ⟨y1, y2, y3⟩ := y
      simp only at h
      rw [h.1, h.2.1, h.2.2]))
     clear hd hx hy hlen he hne
     go_wp2_with fail
     go_region_held3 (fun w' => w'.cell? ⟨qa, k * 3, none⟩ = some (.int .i64 x.R) ∧ w'.cell? ⟨qa, k * 3 + 1, none⟩ = some (.int .i64 x.P) ∧ w'.cell? ⟨qa, k * 3 + 2, none⟩ = some (.int .u8 x.T) ∧ w'.cell? ⟨qb, k * 3, none⟩ = some (.int .i64 y.R) ∧ w'.cell? ⟨qb, k * 3 + 1, none⟩ = some (.int .i64 y.P) ∧ w'.cell? ⟨qb, k * 3 + 2, none⟩ = some (.int .u8 y.T)) (exact ⟨c0, c1, c2, d0, d1, d2⟩) (fail)
     go_wp2
     go_ret
     exact ⟨zap (zaa HN).symm, (zaa hf).drew⟩
   ·have HN := hide (show eqL a b = true from eqL_iff.2 (List.ext_getElem (zaa HLen) (fun j h1 h2 => by
     rw [← zb6 a j h1, ← zb6 b j h2]; exact zaa hd j (by omega))))
    clear hd
    go_wp2
    go_ret
    exact ⟨zap (zaa HN).symm, zaa hf⟩
 ·have hne : (((a.length : Nat) : Int) != (b.length : Nat)) = true := by rw [bne_iff_ne]; omega
  have HN := hide (show eqL a b = false from eqL_false (fun e => hlen (by rw [e])))
  clear hlen
  go_enter Tryz.func137, Tryz.ntmps137
  go_wp2
  go_ret
  exact ⟨zap (zaa HN).symm, Fr.refl _ _⟩
end Go.Proofs.YtkglggkkbmmjkabGreatDoor
namespace Go.Proofs.YtkglggkkbmmjkabGreatDoor
open Go.RowKit
section
variable {P : Program} {o : Oper} {a : Act} {w : World} {Q : Exit → Act → World → Prop} {K : Act → World → Prop}
theorem zbv (T : TypeId) (ho : o.op = .alloc T) (d : Option Tmp) (hd : o.dst = d) (n : Nat) (z : Nat → Value) (hz : (P.info? T).bind (·.zero) = some (Agg n z))
 (h : ∀ w1, Fr [] w w1 → w1.heap.size = w.heap.size + 1 → Blk w1 w.heap.size n z → K (a.put d (.pointer (some ⟨w.heap.size, 0, none⟩))) w1) : Oper.wp P o a w K Q := by
 subst hd
 have hrun : (Instr.alloc T true (.tuple #[])).run P w = .ok (.pointer (some ⟨w.heap.size, 0, none⟩)) (w.alloc (.cells (Array.ofFn (n := n) fun i => z i.val) T)) := by
  cases hq : P.info? T with
  | none => simp [hq] at hz
  | some i =>
   have hz' : i.zero = some (Agg n z) := by simpa [hq] using hz
   simp [Instr.alloc, zeroValue, typeInfo, hq, hz', newVar, newRow, newObj, Agg, Value.cells, Sem.run_bind]
   rfl
 unfold Oper.wp
 simp only [execOp, ho, Sem.run_bind, hrun, Result.andThen_ok, Sem.run_pure, Oper.upon]
 exact h _ ((Fr.refl _ _).alloc _) (by simp) (Blk.new w n z T)
theorem op_store_blk (T : TypeId) (x y : Operand) (ho : o.op = .store T x y) (b off m n : Nat) (f g : Nat → Value)
 (hx : a.eval x = .pointer (some ⟨b, off, none⟩)) (hy : a.eval y = Agg m g) (hb : Blk w b n f) (hi : (P.info? T).map (·.size) = some m) (hm : off + m ≤ n) (h1 : oneB g m)
 (h : ∀ w1, Fr [b] w w1 → w1.heap.size = w.heap.size → Blk w1 b n (lay f off m g) → K (a.put o.dst undef) w1) : Oper.wp P o a w K Q := by
 have hrun := run_storeVar_mid (P := P) w b off T (Array.ofFn (n := m) fun i => g i.val) (fun j hj => by
  rw [hb.cell _ (by simp at hj; omega), hb.free]; exact ⟨rfl, rfl⟩) (by simpa using hi)
  (Array.all_eq_true_iff_forall_mem.2 (fun v hv => by
    obtain ⟨i, rfl⟩ := Array.mem_ofFn.1 hv
    exact h1 i.1 i.2))
 have hl := setCells_fr b (Array.ofFn (n := m) fun i => g i.val).toList off w
 have hB := (Blk.setCells (Array.ofFn (n := m) fun i => g i.val).toList off w f hb).congr (g := lay f off m g) fun i _ => by
  simp only [lay, Array.length_toList, Array.size_ofFn]
  split
  ·rename_i hh
   simp only [List.getD_eq_getElem?_getD, Array.getElem?_toList, Array.getElem?_ofFn]
   rw [dif_pos (by omega)]; rfl
  ·rfl
 unfold Oper.wp
 simp only [execOp, ho, hx, hy, Agg, Instr.storeAt, Instr.sureAddr, Sem.run_bind, Sem.run_pure, Result.andThen_ok, hrun, Oper.upon]
 exact h _ hl.1 hl.2 hB
end
section
variable {P : Program} {md : Region.Mode} {ops : Array Oper} {Q : Exit → Act → World → Prop} {S : World → Prop}
theorem za6 {i fuel : Nat} {o : Oper} {listed : Array Bool} {a : Act} {w : World} (hr : Region.ready md ops listed = [i]) (ho : ops[i]? = some o) (hg : o.guard = none) (hdst : o.dst = none) (T : TypeId) (x y : Operand) (hop : o.op = .store T x y)
 (b off m n : Nat) (f g : Nat → Value) (hx : a.eval x = .pointer (some ⟨b, off, none⟩)) (hy : a.eval y = Agg m g) (hb : Blk w b n f) (hi : (P.info? T).map (·.size) = some m) (hm : off + m ≤ n) (h1 : oneB g m)
 (hd : Region.ready md ops (listed.setIfInBounds i true) = [])
 (h : ∀ w1, Fr [b] w w1 → w1.heap.size = w.heap.size → Blk w1 b n (lay f off m g) → S w1 ∧ Q .normal (a.put none undef) w1) : wpAnyH P md ops Q S (fuel + 1) listed a w := by
 refine wpAnyH_ready hr (by simp) (AllReadyH.cons ho (fun K hK => ?_) AllReadyH.nil)
 rw [if_pos (by simp [Region.wanted, hg])]
 refine op_store_blk T x y hop b off m n f g hx hy hb hi hm h1 (fun w1 k1 k2 k3 => ?_)
 rw [hdst]
 exact hK.out _ _ (h w1 k1 k2 k3).1 (fun _ => wpAnyH_done hd (h w1 k1 k2 k3).2 _)
end
structure TB (w : World) (mb q cq fq : Nat) (rs : List Ru) (N : Nat → Bool) (T : Nat → Nat → Bool) : Prop where
 cL : w.cell? ⟨mb, 0, none⟩ = some (.slice (some ⟨q, 0, none⟩) rs.length cq)
 cN : NAt w mb 1 N
 cF : w.cell? ⟨mb, 129, none⟩ = some (.slice (some ⟨fq, 0, none⟩) 26 26)
 ru : RuAt w q rs
 lt : q < w.heap.size
 fT : Blk w fq 3328 (tF T)
 small : ∀ i (h : i < rs.length), rs[i].R.size ≤ 4
 lets : ∀ i (h : i < rs.length), ∀ j, j < rs[i].R.size → letB (ch rs[i].R j) = true
 len : rs.length ≤ 9
theorem TB.fr {S : List Nat} {w w' : World} {mb q cq fq : Nat} {rs : List Ru} {N : Nat → Bool} {T : Nat → Nat → Bool} (h : TB w mb q cq fq rs N T) (k : Fr S w w') (h1 : mb ∉ S) (h2 : q ∉ S) (h3 : fq ∉ S) : TB w' mb q cq fq rs N T :=
 ⟨k.cell h.cL h1, h.cN.fr k h1, k.cell h.cF h1, h.ru.fr k h2 h.lt, Nat.lt_of_lt_of_le h.lt k.size, h.fT.fr k h3, h.small, h.lets, h.len⟩
theorem TB.fr0 {w w' : World} {mb q cq fq : Nat} {rs : List Ru} {N : Nat → Bool} {T : Nat → Nat → Bool} (h : TB w mb q cq fq rs N T) (k : Fr [] w w') : TB w' mb q cq fq rs N T := h.fr k (by simp) (by simp) (by simp)
def sgS (N : Nat → Bool) (T : Nat → Nat → Bool) (r : Ru) (p t : Nat) : Nat → Bool := fun x => beg N T ((bytes r.R).drop p) x || (((bytes r.R).drop p).all N && x == t)
theorem bytes_from (s : ByteArray) (p : Nat) : bytes (s.extract p s.size) = (bytes s).drop p := by
 rw [bytes_extract, List.take_of_length_le (by rw [List.length_drop, zah]; omega)]
set_option maxRecDepth 100000 in
set_option maxHeartbeats 2000000 in
theorem r_signs (mb q cq fq : Nat) (rs : List Ru) (N : Nat → Bool) (T : Nat → Nat → Bool) (r p t : Nat) (w : World) (h : TB w mb q cq fq rs N T) (hr : r < rs.length) (hp : p ≤ rs[r].R.size) (ht : t < 128) :
 Calls Tryz.prog 135 #[.pointer (some ⟨mb, 0, none⟩), .int .i64 r, .int .i64 p, .int .u8 t] w fun e w' => e = .returned (.string (rlst (sgS N T rs[r] p t))) ∧ Fr [] w w' := by
 have H := hide h
 have hlen := h.len
 have c0 := h.cL
 obtain ⟨_, a1, _⟩ := h.ru r hr
 have hsm := h.small r hr
 have HBR := hide (bytes_from rs[r].R p)
 have HLR := hide (show ∀ j, j < (rs[r].R.extract p rs[r].R.size).size → letB (ch (rs[r].R.extract p rs[r].R.size) j) = true from fun j hj => by
  rw [ByteArray.size_extract] at hj
  rw [zcf _ _ _ _ (by omega) (by omega)]; exact h.lets r hr _ (by omega))
 have HSz := hide (show (rs[r].R.extract p rs[r].R.size).size ≤ 1000 from by rw [ByteArray.size_extract]; omega)
 clear h
 go_enter Tryz.func135, Tryz.ntmps135
 go_wp2_with fail
 refine wp_region_held_drew (S := fun w' => TB w' mb q cq fq rs N T) (by kernel_rfl) ((zaa H).fr0 ((Fr.refl [] _).drew)) (fun hHeld => ?_)
 refine wpAnyH_take (i := 0) (v := (.pointer (some ⟨mb, 0, none⟩))) rfl (by kernel_rfl) (by kernel_rfl) (by kernel_rfl) (fun _ _ _ h => h) (Or.inl ⟨by rfl, fun _ _ => rfl⟩) hHeld ?_
 refine wpAnyH_take (i := 1) (v := (.pointer (some ⟨mb, 0, none⟩))) rfl (by kernel_rfl) (by kernel_rfl) (by kernel_rfl) (fun _ _ _ h => h) (Or.inl ⟨by rfl, fun _ _ => by go_simp⟩) hHeld ?_
 refine wpAnyH_take (i := 2) (v := (.pointer (some ⟨mb, 1, none⟩))) rfl (by kernel_rfl) (by kernel_rfl) (by kernel_rfl) (fun _ _ _ h => h) (Or.inl ⟨by rfl, fun _ _ => by go_simp⟩) hHeld ?_
 refine wpAnyH_take (i := 3) (v := (.pointer (some ⟨mb, 0, none⟩))) rfl (by kernel_rfl) (by kernel_rfl) (by kernel_rfl) (fun _ _ _ h => h) (Or.inl ⟨by rfl, fun _ _ => rfl⟩) hHeld ?_
 refine wpAnyH_take (i := 4) (v := (.pointer (some ⟨mb, 0, none⟩))) rfl (by kernel_rfl) (by kernel_rfl) (by kernel_rfl) (fun _ _ _ h => h) (Or.inl ⟨by rfl, fun _ _ => by go_simp⟩) hHeld ?_
 refine wpAnyH_take (i := 5) (v := (.pointer (some ⟨mb, 129, none⟩))) rfl (by kernel_rfl) (by kernel_rfl) (by kernel_rfl) (fun _ _ _ h => h) (Or.inl ⟨by rfl, fun _ _ => by go_simp⟩) hHeld ?_
 refine wpAnyH_take (i := 6) (v := (.slice (some ⟨fq, 0, none⟩) 26 26)) rfl (by kernel_rfl) (by kernel_rfl) (by kernel_rfl) (fun _ _ _ h => h) (Or.inl ⟨by rfl, fun w' hw => by (have hc := hw.cF); go_simp⟩) hHeld ?_
 refine wpAnyH_take (i := 7) (v := (.string (rs[r].R.extract p rs[r].R.size))) rfl (by kernel_rfl) (by kernel_rfl) (by kernel_rfl) (fun _ _ _ h => h) (Or.inl ⟨by rfl, fun _ _ => by go_simp⟩) hHeld ?_
 have HB0 := hide (show NAt w.drew mb 1 N ∧ Blk w.drew fq 3328 (tF T) ∧ q < w.heap.size from ⟨hHeld.cN, hHeld.fT, hHeld.lt⟩)
 refine wpAnyH_ready (rs := [8, 9]) (by kernel_rfl) (by simp) ?_
 refine AllReadyH.cons rfl (fun K hK => ?_) (AllReadyH.cons rfl (fun K hK => ?_) AllReadyH.nil)
 ·rw [if_pos (by rfl)]
  go_wp2_with fail
  refine (r_beginsO mb 1 fq 26 N T (rs[r].R.extract p rs[r].R.size) w.drew hHeld.cN hHeld.fT (zaa HSz) (zaa HLR)).mono ?_
  rintro e w3 ⟨rfl, hf3⟩
  rw [zaa HBR]
  refine hK.out _ _ (hHeld.fr0 hf3) (fun hHeld3 => ?_)
  refine wpAnyH_ready (rs := [9]) (by kernel_rfl) (by simp) ?_
  refine AllReadyH.cons rfl (fun K2 hK2 => ?_) AllReadyH.nil
  rw [if_pos (by rfl)]
  refine zbv 105 rfl (some 10) rfl 128 _ Tryz.zeroSet ?_
  intro w4 hf4 hs4 hB4
  refine hK2.out _ _ (hHeld3.fr0 hf4) (fun hHeld4 => ?_)
  refine za6 (i := 10) (by kernel_rfl) rfl rfl rfl 105 (.tmp 10) (.tmp 29) rfl w3.heap.size 0 128 128 (sF fun _ => false) (sF (beg N T ((bytes rs[r].R).drop p))) (by simp [Act.eval, Act.put]) (by simp [Act.eval, Act.put]) hB4 Tryz.sizeSet (by omega) (by intro i hi; rfl) (by kernel_rfl) ?_
  intro w5 hf5 hs5 hB5
  have HX5 := hide (show TB w5 mb q cq fq rs N T from hHeld4.fr hf5 (by have := hHeld3.cN.lt; simp; omega) (by have := hHeld3.lt; simp; omega) (by have := hHeld3.fT.lt; simp; omega))
  refine ⟨zaa HX5, ?_⟩
  have HF5 := hide (show Fr [] w w5 from ((((Fr.refl [] w).drew).trans0 hf3).trans0 hf4).trans1 hf5 (Or.inr hf3.size))
  have HB5 := hide (show Blk w5 w3.heap.size 128 (sF (beg N T ((bytes rs[r].R).drop p))) from hB5.congr fun i hi => zag _ _ _ i hi)
  have hbw : w.heap.size ≤ w3.heap.size := hf3.size
  clear hf5 hB5 hK2 hK hHeld4 hHeld3 hHeld hf4 hs4 hB4 hf3 hs5
  generalize w3.heap.size = bb at *
  cases hnv : ((bytes rs[r].R).drop p).all N
  ·have HNV := hide hnv
   have HSg := hide (show sgS N T rs[r] p t = beg N T ((bytes rs[r].R).drop p) from funext fun x => by unfold sgS; rw [hnv]; simp)
   clear hnv
   go_wp2_with (first
    | (go_at_call 63; refine (r_nullO (rs[r].R.extract p rs[r].R.size) mb 1 N _ (zaa HSz) (by exact (zaa HX5).cN) (zaa HLR)).mono ?_; rintro e w6 ⟨rfl, hf6⟩; rw [zaa HBR, zaa HNV]; have HF6 := hide ((zaa HF5).trans0 hf6); have HB6 := hide ((zaa HB5).fr0 hf6); clear hf6)
    | (go_at_call 47; refine (r_list bb 0 128 _ (beg N T ((bytes rs[r].R).drop p)) _ (by exact zaa HB6) (by omega) (fun i _ => by rw [Nat.zero_add]; rfl)).mono ?_; rintro e w7 ⟨rfl, hf7⟩; have HF7 := hide ((zaa HF6).trans0 hf7); clear hf7))
   go_ret
   exact ⟨by rw [zaa HSg]; rfl, zaa HF7⟩
  ·have HNV := hide hnv
   have HSg := hide (show sgS N T rs[r] p t = ins (beg N T ((bytes rs[r].R).drop p)) t from funext fun x => by unfold sgS ins; rw [hnv]; simp)
   clear hnv
   go_wp2_with (first
    | (go_at_call 63; refine (r_nullO (rs[r].R.extract p rs[r].R.size) mb 1 N _ (zaa HSz) (by exact (zaa HX5).cN) (zaa HLR)).mono ?_; rintro e w6 ⟨rfl, hf6⟩; rw [zaa HBR, zaa HNV]; have HF6 := hide ((zaa HF5).trans0 hf6); have HB6 := hide ((zaa HB5).fr0 hf6); have k0 := (zaa HB6).cell t ht; have z0 := (zaa HB6).free t; have HB7 := hide (((zaa HB6).setCell t (.bool true)).congr (g := sF (ins (beg N T ((bytes rs[r].R).drop p)) t)) (fun i _ => sF_add _ t i)); have HF7 := hide ((zaa HF6).setCell ⟨bb, t, none⟩ (Or.inr hbw) (.bool true)); clear hf6)
    | (go_at_call 47; refine (r_list bb 0 128 _ (ins (beg N T ((bytes rs[r].R).drop p)) t) _ (by exact zaa HB7) (by omega) (fun i _ => by rw [Nat.zero_add]; rfl)).mono ?_; rintro e w8 ⟨rfl, hf8⟩; have HF8 := hide ((zaa HF7).trans0 hf8); clear hf8))
   go_ret
   exact ⟨by rw [zaa HSg]; rfl, zaa HF8⟩
 ·rw [if_pos (by rfl)]
  refine zbv 105 rfl (some 10) rfl 128 _ Tryz.zeroSet ?_
  intro w3 hf3 hs3 hB3
  refine hK.out _ _ (hHeld.fr0 hf3) (fun hHeld3 => ?_)
  refine wpAnyH_ready (rs := [8]) (by kernel_rfl) (by simp) ?_
  refine AllReadyH.cons rfl (fun K2 hK2 => ?_) AllReadyH.nil
  rw [if_pos (by rfl)]
  go_wp2_with fail
  refine (r_beginsO mb 1 fq 26 N T (rs[r].R.extract p rs[r].R.size) w3 hHeld3.cN hHeld3.fT (zaa HSz) (zaa HLR)).mono ?_
  rintro e w4 ⟨rfl, hf4⟩
  rw [zaa HBR]
  refine hK2.out _ _ (hHeld3.fr0 hf4) (fun hHeld4 => ?_)
  refine za6 (i := 10) (by kernel_rfl) rfl rfl rfl 105 (.tmp 10) (.tmp 29) rfl w.heap.size 0 128 128 (sF fun _ => false) (sF (beg N T ((bytes rs[r].R).drop p))) (by rfl) (by rfl) (hB3.fr0 hf4) Tryz.sizeSet (by omega) (by intro i hi; rfl) (by kernel_rfl) ?_
  intro w5 hf5 hs5 hB5
  have HX5 := hide (show TB w5 mb q cq fq rs N T from hHeld4.fr hf5 (by have : mb < w.heap.size := hHeld.cN.lt; simp; omega) (by have : q < w.heap.size := hHeld.lt; simp; omega) (by have : fq < w.heap.size := hHeld.fT.lt; simp; omega))
  refine ⟨zaa HX5, ?_⟩
  have HF5 := hide (show Fr [] w w5 from ((((Fr.refl [] w).drew).trans0 hf3).trans0 hf4).trans1 hf5 (Or.inr (Nat.le_refl _)))
  have HB5 := hide (show Blk w5 w.heap.size 128 (sF (beg N T ((bytes rs[r].R).drop p))) from hB5.congr fun i hi => zag _ _ _ i hi)
  obtain ⟨bb, hbb⟩ : ∃ bb, w.heap.size = bb := ⟨_, rfl⟩
  rw [hbb] at HB5 ⊢
  have hbw : w.heap.size ≤ bb := Nat.le_of_eq hbb
  clear hf5 hB5 hK2 hK hHeld4 hHeld3 hHeld hf4 hs3 hB3 hf3 hs5 HB0 hbb
  cases hnv : ((bytes rs[r].R).drop p).all N
  ·have HNV := hide hnv
   have HSg := hide (show sgS N T rs[r] p t = beg N T ((bytes rs[r].R).drop p) from funext fun x => by unfold sgS; rw [hnv]; simp)
   clear hnv
   go_wp2_with (first
    | (go_at_call 63; refine (r_nullO (rs[r].R.extract p rs[r].R.size) mb 1 N _ (zaa HSz) (by exact (zaa HX5).cN) (zaa HLR)).mono ?_; rintro e w6 ⟨rfl, hf6⟩; rw [zaa HBR, zaa HNV]; have HF6 := hide ((zaa HF5).trans0 hf6); have HB6 := hide ((zaa HB5).fr0 hf6); clear hf6)
    | (go_at_call 47; refine (r_list bb 0 128 _ (beg N T ((bytes rs[r].R).drop p)) _ (by exact zaa HB6) (by omega) (fun i _ => by rw [Nat.zero_add]; rfl)).mono ?_; rintro e w7 ⟨rfl, hf7⟩; have HF7 := hide ((zaa HF6).trans0 hf7); clear hf7))
   go_ret
   exact ⟨by rw [zaa HSg]; rfl, zaa HF7⟩
  ·have HNV := hide hnv
   have HSg := hide (show sgS N T rs[r] p t = ins (beg N T ((bytes rs[r].R).drop p)) t from funext fun x => by unfold sgS ins; rw [hnv]; simp)
   clear hnv
   go_wp2_with (first
    | (go_at_call 63; refine (r_nullO (rs[r].R.extract p rs[r].R.size) mb 1 N _ (zaa HSz) (by exact (zaa HX5).cN) (zaa HLR)).mono ?_; rintro e w6 ⟨rfl, hf6⟩; rw [zaa HBR, zaa HNV]; have HF6 := hide ((zaa HF5).trans0 hf6); have HB6 := hide ((zaa HB5).fr0 hf6); have k0 := (zaa HB6).cell t ht; have z0 := (zaa HB6).free t; have HB7 := hide (((zaa HB6).setCell t (.bool true)).congr (g := sF (ins (beg N T ((bytes rs[r].R).drop p)) t)) (fun i _ => sF_add _ t i)); have HF7 := hide ((zaa HF6).setCell ⟨bb, t, none⟩ (Or.inr hbw) (.bool true)); clear hf6)
    | (go_at_call 47; refine (r_list bb 0 128 _ (ins (beg N T ((bytes rs[r].R).drop p)) t) _ (by exact zaa HB7) (by omega) (fun i _ => by rw [Nat.zero_add]; rfl)).mono ?_; rintro e w8 ⟨rfl, hf8⟩; have HF8 := hide ((zaa HF7).trans0 hf8); clear hf8))
   go_ret
   exact ⟨by rw [zaa HSg]; rfl, zaa HF8⟩
end Go.Proofs.YtkglggkkbmmjkabGreatDoor
namespace Go.Proofs.YtkglggkkbmmjkabGreatDoor
open Go.RowKit
/-! Full sets of items. -/
def ru0 : Ru := ⟨0, ⟨#[]⟩, 0⟩
def rget (rs : List Ru) (i : Nat) : Ru := rs.getD i ru0
theorem zbl (rs : List Ru) (i : Nat) (h : i < rs.length) : rget rs i = rs[i] := by simp [rget, h]
def IOk (rs : List Ru) (x : It) : Prop := x.R < rs.length ∧ x.P ≤ (rget rs x.R).R.size ∧ (x.T = 36 ∨ zai x.T = true)
def Asks (rs : List Ru) (N : Nat → Bool) (T : Nat → Nat → Bool) (x y : It) : Prop :=
 x.P < (rget rs x.R).R.size ∧ bigB (ch (rget rs x.R).R x.P) = true ∧ 1 ≤ y.R ∧ y.R < rs.length ∧ (rget rs y.R).L = ch (rget rs x.R).R x.P ∧ y.P = 0 ∧ y.T < 128 ∧ sgS N T (rget rs x.R) (x.P + 1) x.T y.T = true
def Cl (rs : List Ru) (N : Nat → Bool) (T : Nat → Nat → Bool) (X : It → Prop) (y : It) : Prop :=
 ∀ S : It → Prop, (∀ x, X x → S x) → (∀ x y, S x → Asks rs N T x y → S y) → S y
theorem Cl.base {rs : List Ru} {N : Nat → Bool} {T : Nat → Nat → Bool} {X : It → Prop} {x : It} (h : X x) : Cl rs N T X x := fun _ h1 _ => h1 x h
theorem Cl.step {rs : List Ru} {N : Nat → Bool} {T : Nat → Nat → Bool} {X : It → Prop} {x y : It} (h : Cl rs N T X x) (k : Asks rs N T x y) : Cl rs N T X y := fun S h1 h2 => h2 x y (h S h1 h2) k
def Closed (rs : List Ru) (N : Nat → Bool) (T : Nat → Nat → Bool) (L : List It) : Prop := ∀ x ∈ L, ∀ y, Asks rs N T x y → y ∈ L
structure LP (rs : List Ru) (N : Nat → Bool) (T : Nat → Nat → Bool) (l L : List It) : Prop where
 srt : Srt L
 ok : ∀ y ∈ L, IOk rs y
 sub : ∀ y ∈ l, y ∈ L
 cl : ∀ y ∈ L, Cl rs N T (· ∈ l) y
theorem IOk.ok {rs : List Ru} {x : It} (h : IOk rs x) (hl : rs.length ≤ 9) (hs : ∀ i (h : i < rs.length), rs[i].R.size ≤ 4) : x.ok := by
 obtain ⟨h1, h2, h3⟩ := h
 refine ⟨by omega, ?_, ?_⟩
 ·rw [zbl rs _ h1] at h2
  have := hs _ h1
  omega
 ·rcases h3 with h3 | h3
  ·omega
  ·have := za4.1 h3; omega
theorem srt_len : ∀ (l : List It) (m n : Nat), Srt l → (∀ x ∈ l, m ≤ x.key ∧ x.key < n) → l.length ≤ n - m
 | [], _, _, _, _ => by simp
 | a :: l, m, n, hs, h => by
  have h' := List.pairwise_cons.1 hs
  have h0 := h a (List.mem_cons_self ..)
  have ih := srt_len l (a.key + 1) n h'.2 (fun x hx => ⟨h'.1 x hx, (h x (List.mem_cons_of_mem _ hx)).2⟩)
  rw [List.length_cons]; omega
theorem It.ok.key_lt {x : It} (h : x.ok) : x.key < 8832 := by
 obtain ⟨h1, h2, h3⟩ := h
 unfold It.key; omega
theorem LP.len {rs : List Ru} {N : Nat → Bool} {T : Nat → Nat → Bool} {l L : List It} (h : LP rs N T l L) (hl : rs.length ≤ 9) (hs : ∀ i (h : i < rs.length), rs[i].R.size ≤ 4) : L.length ≤ 8832 := by
 have := srt_len L 0 8832 h.srt (fun x hx => ⟨Nat.zero_le _, ((h.ok x hx).ok hl hs).key_lt⟩)
 omega
theorem beg_small' {N : Nat → Bool} {F : Nat → Nat → Bool} {x : Nat} (hF : ∀ c, F c x = true → zai x = true) : ∀ l, beg N F l x = true → zai x = true
 | [], h => by cases h
 | c :: l, h => by
  rw [beg] at h
  split at h
  ·have : x = c := by simpa using h
   subst this; assumption
  ·rw [Bool.or_eq_true, Bool.and_eq_true] at h
   rcases h with h | h
   ·exact hF c h
   ·exact beg_small' hF l h.2
theorem Asks.ok {rs : List Ru} {N : Nat → Bool} {T : Nat → Nat → Bool} {x y : It} (h : Asks rs N T x y) (hx : IOk rs x) (hT : ∀ c x, x < 128 → T c x = true → zai x = true) : IOk rs y := by
 obtain ⟨_, _, _, h4, _, h6, h7, h8⟩ := h
 refine ⟨h4, by rw [h6]; exact Nat.zero_le _, ?_⟩
 unfold sgS at h8
 rw [Bool.or_eq_true, Bool.and_eq_true] at h8
 rcases h8 with h8 | h8
 ·exact Or.inr (beg_small' (fun c hc => hT c _ h7 hc) _ h8)
 ·have : y.T = x.T := by simpa using h8.2
  rw [this]; exact hx.2.2
theorem LP.put {rs : List Ru} {N : Nat → Bool} {T : Nat → Nat → Bool} {l L : List It} {x y : It} (h : LP rs N T l L) (hx : x ∈ L) (k : Asks rs N T x y) (hT : ∀ c x, x < 128 → T c x = true → zai x = true) : LP rs N T l (putL L y) :=
 ⟨putL_srt L y h.srt, fun z hz => by
   rcases putL_mem L y z hz with hz | rfl
   ·exact h.ok z hz
   ·exact k.ok (h.ok x hx) hT, fun z hz => putL_sub L y z (h.sub z hz), fun z hz => by
   rcases putL_mem L y z hz with hz | rfl
   ·exact h.cl z hz
   ·exact (h.cl x hx).step k⟩
theorem putL_in {rs : List Ru} {L : List It} {y : It} (hok : ∀ z ∈ L, IOk rs z) (hy : IOk rs y) (hl : rs.length ≤ 9) (hs : ∀ i (h : i < rs.length), rs[i].R.size ≤ 4) : y ∈ putL L y := by
 obtain ⟨z, hz, he⟩ := putL_has L y
 have hzo : IOk rs z := by
  rcases putL_mem L y z hz with hz | rfl
  ·exact hok z hz
  ·exact hy
 have e := It.eq_of_key (hzo.ok hl hs) (hy.ok hl hs) he
 subst e
 exact hz
/-! a list of signs, as bytes -/
theorem rlst_bytes (S : Nat → Bool) : bytes (rlst S) = (List.range 128).filter S := by
 unfold bytes rlst rlU
 simp only [List.map_map]
 rw [show ((List.range 128).filter S) = ((List.range 128).filter S).map id from (List.map_id _).symm]
 simp only [List.map_map]
 refine List.map_congr_left fun x hx => ?_
 have := List.mem_range.1 (List.mem_filter.1 hx).1
 show (UInt8.ofNat x).toNat = x
 rw [UInt8.toNat_ofNat']
 exact Nat.mod_eq_of_lt (by omega)
theorem rlst_get {S : Nat → Bool} {j : Nat} (h : j < (rlst S).size) : ch (rlst S) j < 128 ∧ S (ch (rlst S) j) = true := by
 have h' : j < (bytes (rlst S)).length := by rw [zah]; exact h
 have hm : (bytes (rlst S))[j] ∈ bytes (rlst S) := List.getElem_mem h'
 rw [za5] at hm
 rw [rlst_bytes] at hm
 obtain ⟨h1, h2⟩ := List.mem_filter.1 hm
 exact ⟨List.mem_range.1 h1, h2⟩
theorem rlst_mem {S : Nat → Bool} {x : Nat} (hx : x < 128) (h : S x = true) : ∃ j, j < (rlst S).size ∧ ch (rlst S) j = x := by
 have hm : x ∈ bytes (rlst S) := by
  rw [rlst_bytes]; exact List.mem_filter.2 ⟨List.mem_range.2 hx, h⟩
 obtain ⟨j, hj, e⟩ := List.getElem_of_mem hm
 refine ⟨j, by rw [← zah]; exact hj, ?_⟩
 rw [za5] at e; exact e
theorem rlst_len (S : Nat → Bool) : (rlst S).size ≤ 128 := by
 rw [← zah, rlst_bytes]
 have := List.length_filter_le S (List.range 128)
 rwa [List.length_range] at this
structure zb9 (rs : List Ru) (N : Nat → Bool) (T : Nat → Nat → Bool) (l L : List It) : Prop where
 lp : LP rs N T l L
 closed : Closed rs N T L
theorem zb9.mem {rs : List Ru} {N : Nat → Bool} {T : Nat → Nat → Bool} {l L : List It} (h : zb9 rs N T l L) (y : It) : y ∈ L ↔ Cl rs N T (· ∈ l) y :=
 ⟨h.lp.cl y, fun k => k (· ∈ L) (fun x hx => h.lp.sub x hx) (fun x y hx ha => h.closed x hx y ha)⟩
end Go.Proofs.YtkglggkkbmmjkabGreatDoor
