import Derived.Test.YtkglggkkbmmjkaaGreatDoorJ20RPut2
namespace Go.Proofs.YtkglggkkbmmjkaaGreatDoor
open Go.RowKit

def eqI (x y : It) : Bool := x.R == y.R && (x.P == y.P && x.T == y.T)
theorem eqI_iff {x y : It} : eqI x y = true ↔ x = y := by
  obtain ⟨a, b, c⟩ := x
  obtain ⟨a', b', c'⟩ := y
  simp [eqI]
def eqL : List It → List It → Bool
  | [], [] => true
  | x :: a, y :: b => eqI x y && eqL a b
  | _, _ => false
theorem eqL_iff : ∀ {a b : List It}, eqL a b = true ↔ a = b
  | [], [] => by simp [eqL]
  | [], _ :: _ => by simp [eqL]
  | _ :: _, [] => by simp [eqL]
  | x :: a, y :: b => by
    rw [eqL, Bool.and_eq_true, eqI_iff, eqL_iff, List.cons.injEq]
theorem eqL_false {a b : List It} (h : a ≠ b) : eqL a b = false := by
  cases e : eqL a b
  · rfl
  · exact absurd (eqL_iff.1 e) h

/-- items lie from the block's start on -/
def ItAt (w : World) (q : Nat) (l : List It) : Prop := ∀ i, i < l.length → w.cell? ⟨q, i * 3, none⟩ = some (.int .i64 (lget l i).R) ∧ w.cell? ⟨q, i * 3 + 1, none⟩ = some (.int .i64 (lget l i).P) ∧ w.cell? ⟨q, i * 3 + 2, none⟩ = some (.int .u8 (lget l i).T)
theorem ItAt.fr {S : List Nat} {w w' : World} {q : Nat} {l : List It} (h : ItAt w q l) (k : Fr S w w') (hq : q ∉ S) : ItAt w' q l := fun i hi =>
  ⟨k.cell (h i hi).1 hq, k.cell (h i hi).2.1 hq, k.cell (h i hi).2.2 hq⟩
theorem ItAt.fr0 {w w' : World} {q : Nat} {l : List It} (h : ItAt w q l) (k : Fr [] w w') : ItAt w' q l := h.fr k (by simp)
theorem ItAt.below {B : Nat} {w w' : World} {q : Nat} {l : List It} (h : ItAt w q l) (k : Below B w w') (hq : q < B) : ItAt w' q l := fun i hi => by
  rw [k.cell (p := ⟨q, i * 3, none⟩) hq, k.cell (p := ⟨q, i * 3 + 1, none⟩) hq, k.cell (p := ⟨q, i * 3 + 2, none⟩) hq]; exact h i hi
theorem IRow.at {w : World} {base g n cap : Nat} {l : List It} (h : IRow w base (.slice (some ⟨g, 0, none⟩) n cap) l) : ItAt w g l ∧ base ≤ g ∧ g < w.heap.size ∧ n = l.length := by
  obtain ⟨f, hf, hl, hc, _, hg, hn⟩ := h.bt
  refine ⟨fun i hi => ?_, hg, hf.blk.lt, hn⟩
  obtain ⟨t0, t1, t2⟩ := itF_at (lget l) i
  rw [hf.blk.cell _ (by omega), hf.blk.cell _ (by omega), hf.blk.cell _ (by omega), hl _ (by omega), hl _ (by omega), hl _ (by omega), t0, t1, t2]
  exact ⟨rfl, rfl, rfl⟩

set_option maxRecDepth 100000 in
set_option maxHeartbeats 2000000 in
theorem r_same (qa ca qb cb : Nat) (a b : List It) (w : World) (ha : ItAt w qa a) (hb : ItAt w qb b) (na : a.length ≤ 10000) :
    Calls Tryz.prog 144 #[.slice (some ⟨qa, 0, none⟩) a.length ca, .slice (some ⟨qb, 0, none⟩) b.length cb] w fun e w' => e = .returned (.bool (eqL a b)) ∧ Fr [] w w' := by
  have HA := hide ha
  have HB := hide hb
  clear ha hb
  by_cases hlen : a.length = b.length
  · have hne : (((a.length : Nat) : Int) != (b.length : Nat)) = false := by rw [hlen]; simp
    have HLen := hide hlen
    go_enter Tryz.func144, Tryz.ntmps144
    go_wp2
    go_loopw [5] (fun i wr => ∃ k : Nat, k ≤ a.length ∧ i = .int .i64 k ∧ Hid (∀ j, j < k → lget a j = lget b j) ∧ Hid (Fr [] w wr)) (fun i _ => a.length - (intOf i).toNat)
    case atStart => exact ⟨0, by omega, rfl, fun j hj => by omega, Fr.refl _ _⟩
    case round =>
      obtain ⟨k, hk, rfl, hd, hf⟩ := hrel
      by_cases hlt : k < a.length
      · obtain ⟨c0, c1, c2⟩ := ((unhide HA).fr0 (unhide hf)) k hlt
        obtain ⟨d0, d1, d2⟩ := ((unhide HB).fr0 (unhide hf)) k (by omega)
        have v1 : (k : Int) < (b.length : Int) := by omega
        obtain ⟨x, hx⟩ : ∃ x, lget a k = x := ⟨_, rfl⟩
        obtain ⟨y, hy⟩ : ∃ y, lget b k = y := ⟨_, rfl⟩
        rw [hx] at c0 c1 c2
        rw [hy] at d0 d1 d2
        by_cases he : x = y
        · have HN := hide (show ∀ j, j < k + 1 → lget a j = lget b j from fun j hj => by
            by_cases e : j = k
            · rw [e, hx, hy, he]
            · exact unhide hd j (by omega))
          subst he
          clear hd hx hy hlen hne
          go_wp2_with fail
          go_region_held3 (fun w' => w'.cell? ⟨qa, k * 3, none⟩ = some (.int .i64 x.R) ∧ w'.cell? ⟨qa, k * 3 + 1, none⟩ = some (.int .i64 x.P) ∧ w'.cell? ⟨qa, k * 3 + 2, none⟩ = some (.int .u8 x.T) ∧ w'.cell? ⟨qb, k * 3, none⟩ = some (.int .i64 x.R) ∧ w'.cell? ⟨qb, k * 3 + 1, none⟩ = some (.int .i64 x.P) ∧ w'.cell? ⟨qb, k * 3 + 2, none⟩ = some (.int .u8 x.T)) (exact ⟨c0, c1, c2, d0, d1, d2⟩) (fail)
          go_wp2
          go_roundw
          case rel => exact ⟨k + 1, by omega, by go_num, HN, hide ((unhide hf).drew)⟩
          case measure => simp [intOf]; omega
        · have HN := hide (show eqL a b = false from eqL_false (fun e => he (by rw [← hx, ← hy, e])))
          have hq := neq_items x y (fun h => he (by
            obtain ⟨x1, x2, x3⟩ := x
            obtain ⟨y1, y2, y3⟩ := y
            simp only at h
            rw [h.1, h.2.1, h.2.2]))
          clear hd hx hy hlen he hne
          go_wp2_with fail
          go_region_held3 (fun w' => w'.cell? ⟨qa, k * 3, none⟩ = some (.int .i64 x.R) ∧ w'.cell? ⟨qa, k * 3 + 1, none⟩ = some (.int .i64 x.P) ∧ w'.cell? ⟨qa, k * 3 + 2, none⟩ = some (.int .u8 x.T) ∧ w'.cell? ⟨qb, k * 3, none⟩ = some (.int .i64 y.R) ∧ w'.cell? ⟨qb, k * 3 + 1, none⟩ = some (.int .i64 y.P) ∧ w'.cell? ⟨qb, k * 3 + 2, none⟩ = some (.int .u8 y.T)) (exact ⟨c0, c1, c2, d0, d1, d2⟩) (fail)
          go_wp2
          go_ret
          exact ⟨ret_bool (unhide HN).symm, (unhide hf).drew⟩
      · have HN := hide (show eqL a b = true from eqL_iff.2 (List.ext_getElem (unhide HLen) (fun j h1 h2 => by
          rw [← lget_eq a j h1, ← lget_eq b j h2]; exact unhide hd j (by omega))))
        clear hd
        go_wp2
        go_ret
        exact ⟨ret_bool (unhide HN).symm, unhide hf⟩
  · have hne : (((a.length : Nat) : Int) != (b.length : Nat)) = true := by rw [bne_iff_ne]; omega
    have HN := hide (show eqL a b = false from eqL_false (fun e => hlen (by rw [e])))
    clear hlen
    go_enter Tryz.func144, Tryz.ntmps144
    go_wp2
    go_ret
    exact ⟨ret_bool (unhide HN).symm, Fr.refl _ _⟩
end Go.Proofs.YtkglggkkbmmjkaaGreatDoor

namespace Go.Proofs.YtkglggkkbmmjkaaGreatDoor
open Go.RowKit

section
variable {P : Program} {o : Oper} {a : Act} {w : World} {Q : Exit → Act → World → Prop} {K : Act → World → Prop}
theorem op_alloc_blk (T : TypeId) (ho : o.op = .alloc T) (d : Option Tmp) (hd : o.dst = d) (n : Nat) (z : Nat → Value) (hz : (P.info? T).bind (·.zero) = some (Agg n z))
    (h : ∀ w1, Fr [] w w1 → w1.heap.size = w.heap.size + 1 → Blk w1 w.heap.size n z → K (a.put d (.pointer (some ⟨w.heap.size, 0, none⟩))) w1) : Oper.wp P o a w K Q := by
  subst hd
  have hrun : (Instr.alloc T true (.tuple #[])).run P w = .ok (.pointer (some ⟨w.heap.size, 0, none⟩)) (w.alloc (.cells (Array.ofFn (n := n) fun i => z i.val) T)) := by
    cases hq : P.info? T with
    | none => simp [hq] at hz
    | some i =>
      have hz' : i.zero = some (Agg n z) := by simpa [hq] using hz
      simp [Instr.alloc, zeroValue, typeInfo, hq, hz', newVar, newRow, newObj, Agg, Value.cells, Sem.run_bind]
      rfl
  unfold Oper.wp
  simp only [execOp, ho, Sem.run_bind, hrun, Result.andThen_ok, Sem.run_pure, Oper.upon]
  exact h _ ((Fr.refl _ _).alloc _) (by simp) (Blk.new w n z T)
theorem op_store_blk (T : TypeId) (x y : Operand) (ho : o.op = .store T x y) (b off m n : Nat) (f g : Nat → Value)
    (hx : a.eval x = .pointer (some ⟨b, off, none⟩)) (hy : a.eval y = Agg m g) (hb : Blk w b n f) (hi : (P.info? T).map (·.size) = some m) (hm : off + m ≤ n) (h1 : oneB g m)
    (h : ∀ w1, Fr [b] w w1 → w1.heap.size = w.heap.size → Blk w1 b n (lay f off m g) → K (a.put o.dst undef) w1) : Oper.wp P o a w K Q := by
  have hrun := run_storeVar_mid (P := P) w b off T (Array.ofFn (n := m) fun i => g i.val) (fun j hj => by
    rw [hb.cell _ (by simp at hj; omega), hb.free]; exact ⟨rfl, rfl⟩) (by simpa using hi)
    (Array.all_eq_true_iff_forall_mem.2 (fun v hv => by
      obtain ⟨i, rfl⟩ := Array.mem_ofFn.1 hv
      exact h1 i.1 i.2))
  have hl := setCells_fr b (Array.ofFn (n := m) fun i => g i.val).toList off w
  have hB := (Blk.setCells (Array.ofFn (n := m) fun i => g i.val).toList off w f hb).congr (g := lay f off m g) fun i _ => by
    simp only [lay, Array.length_toList, Array.size_ofFn]
    split
    · rename_i hh
      simp only [List.getD_eq_getElem?_getD, Array.getElem?_toList, Array.getElem?_ofFn]
      rw [dif_pos (by omega)]; rfl
    · rfl
  unfold Oper.wp
  simp only [execOp, ho, hx, hy, Agg, Instr.storeAt, Instr.sureAddr, Sem.run_bind, Sem.run_pure, Result.andThen_ok, hrun, Oper.upon]
  exact h _ hl.1 hl.2 hB
end

section
variable {P : Program} {md : Region.Mode} {ops : Array Oper} {Q : Exit → Act → World → Prop} {S : World → Prop}
/-- a region's last operation: a whole array is stored -/
theorem wpAnyH_store_last {i fuel : Nat} {o : Oper} {listed : Array Bool} {a : Act} {w : World} (hr : Region.ready md ops listed = [i]) (ho : ops[i]? = some o) (hg : o.guard = none) (hdst : o.dst = none) (T : TypeId) (x y : Operand) (hop : o.op = .store T x y)
    (b off m n : Nat) (f g : Nat → Value) (hx : a.eval x = .pointer (some ⟨b, off, none⟩)) (hy : a.eval y = Agg m g) (hb : Blk w b n f) (hi : (P.info? T).map (·.size) = some m) (hm : off + m ≤ n) (h1 : oneB g m)
    (hd : Region.ready md ops (listed.setIfInBounds i true) = [])
    (h : ∀ w1, Fr [b] w w1 → w1.heap.size = w.heap.size → Blk w1 b n (lay f off m g) → S w1 ∧ Q .normal (a.put none undef) w1) : wpAnyH P md ops Q S (fuel + 1) listed a w := by
  refine wpAnyH_ready hr (by simp) (AllReadyH.cons ho (fun K hK => ?_) AllReadyH.nil)
  rw [if_pos (by simp [Region.wanted, hg])]
  refine op_store_blk T x y hop b off m n f g hx hy hb hi hm h1 (fun w1 k1 k2 k3 => ?_)
  rw [hdst]
  exact hK.out _ _ (h w1 k1 k2 k3).1 (fun _ => wpAnyH_done hd (h w1 k1 k2 k3).2 _)
end

/-- what of a table stays: its rules, from number 0 on; the letters that derive the empty word; first signs -/
structure TB (w : World) (mb q cq fq : Nat) (rs : List Ru) (N : Nat → Bool) (T : Nat → Nat → Bool) : Prop where
  cL : w.cell? ⟨mb, 0, none⟩ = some (.slice (some ⟨q, 0, none⟩) rs.length cq)
  cN : NAt w mb 1 N
  cF : w.cell? ⟨mb, 129, none⟩ = some (.slice (some ⟨fq, 0, none⟩) 26 26)
  ru : RuAt w q rs
  lt : q < w.heap.size
  fT : Blk w fq 3328 (tF T)
  small : ∀ i (h : i < rs.length), rs[i].R.size ≤ 4
  lets : ∀ i (h : i < rs.length), ∀ j, j < rs[i].R.size → letB (ch rs[i].R j) = true
  len : rs.length ≤ 9
theorem TB.fr {S : List Nat} {w w' : World} {mb q cq fq : Nat} {rs : List Ru} {N : Nat → Bool} {T : Nat → Nat → Bool} (h : TB w mb q cq fq rs N T) (k : Fr S w w') (h1 : mb ∉ S) (h2 : q ∉ S) (h3 : fq ∉ S) : TB w' mb q cq fq rs N T :=
  ⟨k.cell h.cL h1, h.cN.fr k h1, k.cell h.cF h1, h.ru.fr k h2 h.lt, Nat.lt_of_lt_of_le h.lt k.size, h.fT.fr k h3, h.small, h.lets, h.len⟩
theorem TB.fr0 {w w' : World} {mb q cq fq : Nat} {rs : List Ru} {N : Nat → Bool} {T : Nat → Nat → Bool} (h : TB w mb q cq fq rs N T) (k : Fr [] w w') : TB w' mb q cq fq rs N T := h.fr k (by simp) (by simp) (by simp)

/-- the signs that can begin what comes behind place p of a rule, of which t comes behind it -/
def sgS (N : Nat → Bool) (T : Nat → Nat → Bool) (r : Ru) (p t : Nat) : Nat → Bool := fun x => beg N T ((bytes r.R).drop p) x || (((bytes r.R).drop p).all N && x == t)

theorem bytes_from (s : ByteArray) (p : Nat) : bytes (s.extract p s.size) = (bytes s).drop p := by
  rw [bytes_extract, List.take_of_length_le (by rw [List.length_drop, bytes_len]; omega)]

set_option maxRecDepth 100000 in
set_option maxHeartbeats 2000000 in
theorem r_signs (mb q cq fq : Nat) (rs : List Ru) (N : Nat → Bool) (T : Nat → Nat → Bool) (r p t : Nat) (w : World) (h : TB w mb q cq fq rs N T) (hr : r < rs.length) (hp : p ≤ rs[r].R.size) (ht : t < 128) :
    Calls Tryz.prog 142 #[.pointer (some ⟨mb, 0, none⟩), .int .i64 r, .int .i64 p, .int .u8 t] w fun e w' => e = .returned (.string (rlst (sgS N T rs[r] p t))) ∧ Fr [] w w' := by
  have H := hide h
  have hlen := h.len
  have c0 := h.cL
  obtain ⟨_, a1, _⟩ := h.ru r hr
  have hsm := h.small r hr
  have HBR := hide (bytes_from rs[r].R p)
  have HLR := hide (show ∀ j, j < (rs[r].R.extract p rs[r].R.size).size → letB (ch (rs[r].R.extract p rs[r].R.size) j) = true from fun j hj => by
    rw [ByteArray.size_extract] at hj
    rw [ch_extract _ _ _ _ (by omega) (by omega)]; exact h.lets r hr _ (by omega))
  have HSz := hide (show (rs[r].R.extract p rs[r].R.size).size ≤ 1000 from by rw [ByteArray.size_extract]; omega)
  clear h
  go_enter Tryz.func142, Tryz.ntmps142
  go_wp2_with fail
  refine wp_region_held_drew (S := fun w' => TB w' mb q cq fq rs N T) (by kernel_rfl) ((unhide H).fr0 ((Fr.refl [] _).drew)) (fun hHeld => ?_)
  refine wpAnyH_take (i := 0) (v := (.pointer (some ⟨mb, 0, none⟩))) rfl (by kernel_rfl) (by kernel_rfl) (by kernel_rfl) (fun _ _ _ h => h) (Or.inl ⟨by rfl, fun _ _ => rfl⟩) hHeld ?_
  refine wpAnyH_take (i := 1) (v := (.pointer (some ⟨mb, 0, none⟩))) rfl (by kernel_rfl) (by kernel_rfl) (by kernel_rfl) (fun _ _ _ h => h) (Or.inl ⟨by rfl, fun _ _ => by go_simp⟩) hHeld ?_
  refine wpAnyH_take (i := 2) (v := (.pointer (some ⟨mb, 1, none⟩))) rfl (by kernel_rfl) (by kernel_rfl) (by kernel_rfl) (fun _ _ _ h => h) (Or.inl ⟨by rfl, fun _ _ => by go_simp⟩) hHeld ?_
  refine wpAnyH_take (i := 3) (v := (.pointer (some ⟨mb, 0, none⟩))) rfl (by kernel_rfl) (by kernel_rfl) (by kernel_rfl) (fun _ _ _ h => h) (Or.inl ⟨by rfl, fun _ _ => rfl⟩) hHeld ?_
  refine wpAnyH_take (i := 4) (v := (.pointer (some ⟨mb, 0, none⟩))) rfl (by kernel_rfl) (by kernel_rfl) (by kernel_rfl) (fun _ _ _ h => h) (Or.inl ⟨by rfl, fun _ _ => by go_simp⟩) hHeld ?_
  refine wpAnyH_take (i := 5) (v := (.pointer (some ⟨mb, 129, none⟩))) rfl (by kernel_rfl) (by kernel_rfl) (by kernel_rfl) (fun _ _ _ h => h) (Or.inl ⟨by rfl, fun _ _ => by go_simp⟩) hHeld ?_
  refine wpAnyH_take (i := 6) (v := (.slice (some ⟨fq, 0, none⟩) 26 26)) rfl (by kernel_rfl) (by kernel_rfl) (by kernel_rfl) (fun _ _ _ h => h) (Or.inl ⟨by rfl, fun w' hw => by (have hc := hw.cF); go_simp⟩) hHeld ?_
  refine wpAnyH_take (i := 7) (v := (.string (rs[r].R.extract p rs[r].R.size))) rfl (by kernel_rfl) (by kernel_rfl) (by kernel_rfl) (fun _ _ _ h => h) (Or.inl ⟨by rfl, fun _ _ => by go_simp⟩) hHeld ?_
  have HB0 := hide (show NAt w.drew mb 1 N ∧ Blk w.drew fq 3328 (tF T) ∧ q < w.heap.size from ⟨hHeld.cN, hHeld.fT, hHeld.lt⟩)
  refine wpAnyH_ready (rs := [8, 9]) (by kernel_rfl) (by simp) ?_
  refine AllReadyH.cons rfl (fun K hK => ?_) (AllReadyH.cons rfl (fun K hK => ?_) AllReadyH.nil)
  · rw [if_pos (by rfl)]
    go_wp2_with fail
    refine (r_beginsO mb 1 fq 26 N T (rs[r].R.extract p rs[r].R.size) w.drew hHeld.cN hHeld.fT (unhide HSz) (unhide HLR)).mono ?_
    rintro e w3 ⟨rfl, hf3⟩
    rw [unhide HBR]
    refine hK.out _ _ (hHeld.fr0 hf3) (fun hHeld3 => ?_)
    refine wpAnyH_ready (rs := [9]) (by kernel_rfl) (by simp) ?_
    refine AllReadyH.cons rfl (fun K2 hK2 => ?_) AllReadyH.nil
    rw [if_pos (by rfl)]
    refine op_alloc_blk 105 rfl (some 10) rfl 128 _ Tryz.zeroSet ?_
    intro w4 hf4 hs4 hB4
    refine hK2.out _ _ (hHeld3.fr0 hf4) (fun hHeld4 => ?_)
    refine wpAnyH_store_last (i := 10) (by kernel_rfl) rfl rfl rfl 105 (.tmp 10) (.tmp 29) rfl w3.heap.size 0 128 128 (sF fun _ => false) (sF (beg N T ((bytes rs[r].R).drop p))) (by simp [Act.eval, Act.put]) (by simp [Act.eval, Act.put]) hB4 Tryz.sizeSet (by omega) (by intro i hi; rfl) (by kernel_rfl) ?_
    intro w5 hf5 hs5 hB5
    have HX5 := hide (show TB w5 mb q cq fq rs N T from hHeld4.fr hf5 (by have := hHeld3.cN.lt; simp; omega) (by have := hHeld3.lt; simp; omega) (by have := hHeld3.fT.lt; simp; omega))
    refine ⟨unhide HX5, ?_⟩
    have HF5 := hide (show Fr [] w w5 from ((((Fr.refl [] w).drew).trans0 hf3).trans0 hf4).trans1 hf5 (Or.inr hf3.size))
    have HB5 := hide (show Blk w5 w3.heap.size 128 (sF (beg N T ((bytes rs[r].R).drop p))) from hB5.congr fun i hi => lay_all _ _ _ i hi)
    have hbw : w.heap.size ≤ w3.heap.size := hf3.size
    clear hf5 hB5 hK2 hK hHeld4 hHeld3 hHeld hf4 hs4 hB4 hf3 hs5
    generalize w3.heap.size = bb at *
    cases hnv : ((bytes rs[r].R).drop p).all N
    · have HNV := hide hnv
      have HSg := hide (show sgS N T rs[r] p t = beg N T ((bytes rs[r].R).drop p) from funext fun x => by unfold sgS; rw [hnv]; simp)
      clear hnv
      go_wp2_with (first
        | (go_at_call 70; refine (r_nullO (rs[r].R.extract p rs[r].R.size) mb 1 N _ (unhide HSz) (by exact (unhide HX5).cN) (unhide HLR)).mono ?_; rintro e w6 ⟨rfl, hf6⟩; rw [unhide HBR, unhide HNV]; have HF6 := hide ((unhide HF5).trans0 hf6); have HB6 := hide ((unhide HB5).fr0 hf6); clear hf6)
        | (go_at_call 54; refine (r_list bb 0 128 _ (beg N T ((bytes rs[r].R).drop p)) _ (by exact unhide HB6) (by omega) (fun i _ => by rw [Nat.zero_add]; rfl)).mono ?_; rintro e w7 ⟨rfl, hf7⟩; have HF7 := hide ((unhide HF6).trans0 hf7); clear hf7))
      go_ret
      exact ⟨by rw [unhide HSg]; rfl, unhide HF7⟩
    · have HNV := hide hnv
      have HSg := hide (show sgS N T rs[r] p t = ins (beg N T ((bytes rs[r].R).drop p)) t from funext fun x => by unfold sgS ins; rw [hnv]; simp)
      clear hnv
      go_wp2_with (first
        | (go_at_call 70; refine (r_nullO (rs[r].R.extract p rs[r].R.size) mb 1 N _ (unhide HSz) (by exact (unhide HX5).cN) (unhide HLR)).mono ?_; rintro e w6 ⟨rfl, hf6⟩; rw [unhide HBR, unhide HNV]; have HF6 := hide ((unhide HF5).trans0 hf6); have HB6 := hide ((unhide HB5).fr0 hf6); have k0 := (unhide HB6).cell t ht; have z0 := (unhide HB6).free t; have HB7 := hide (((unhide HB6).setCell t (.bool true)).congr (g := sF (ins (beg N T ((bytes rs[r].R).drop p)) t)) (fun i _ => sF_add _ t i)); have HF7 := hide ((unhide HF6).setCell ⟨bb, t, none⟩ (Or.inr hbw) (.bool true)); clear hf6)
        | (go_at_call 54; refine (r_list bb 0 128 _ (ins (beg N T ((bytes rs[r].R).drop p)) t) _ (by exact unhide HB7) (by omega) (fun i _ => by rw [Nat.zero_add]; rfl)).mono ?_; rintro e w8 ⟨rfl, hf8⟩; have HF8 := hide ((unhide HF7).trans0 hf8); clear hf8))
      go_ret
      exact ⟨by rw [unhide HSg]; rfl, unhide HF8⟩
  · rw [if_pos (by rfl)]
    refine op_alloc_blk 105 rfl (some 10) rfl 128 _ Tryz.zeroSet ?_
    intro w3 hf3 hs3 hB3
    refine hK.out _ _ (hHeld.fr0 hf3) (fun hHeld3 => ?_)
    refine wpAnyH_ready (rs := [8]) (by kernel_rfl) (by simp) ?_
    refine AllReadyH.cons rfl (fun K2 hK2 => ?_) AllReadyH.nil
    rw [if_pos (by rfl)]
    go_wp2_with fail
    refine (r_beginsO mb 1 fq 26 N T (rs[r].R.extract p rs[r].R.size) w3 hHeld3.cN hHeld3.fT (unhide HSz) (unhide HLR)).mono ?_
    rintro e w4 ⟨rfl, hf4⟩
    rw [unhide HBR]
    refine hK2.out _ _ (hHeld3.fr0 hf4) (fun hHeld4 => ?_)
    refine wpAnyH_store_last (i := 10) (by kernel_rfl) rfl rfl rfl 105 (.tmp 10) (.tmp 29) rfl w.heap.size 0 128 128 (sF fun _ => false) (sF (beg N T ((bytes rs[r].R).drop p))) (by rfl) (by rfl) (hB3.fr0 hf4) Tryz.sizeSet (by omega) (by intro i hi; rfl) (by kernel_rfl) ?_
    intro w5 hf5 hs5 hB5
    have HX5 := hide (show TB w5 mb q cq fq rs N T from hHeld4.fr hf5 (by have : mb < w.heap.size := hHeld.cN.lt; simp; omega) (by have : q < w.heap.size := hHeld.lt; simp; omega) (by have : fq < w.heap.size := hHeld.fT.lt; simp; omega))
    refine ⟨unhide HX5, ?_⟩
    have HF5 := hide (show Fr [] w w5 from ((((Fr.refl [] w).drew).trans0 hf3).trans0 hf4).trans1 hf5 (Or.inr (Nat.le_refl _)))
    have HB5 := hide (show Blk w5 w.heap.size 128 (sF (beg N T ((bytes rs[r].R).drop p))) from hB5.congr fun i hi => lay_all _ _ _ i hi)
    obtain ⟨bb, hbb⟩ : ∃ bb, w.heap.size = bb := ⟨_, rfl⟩
    rw [hbb] at HB5 ⊢
    have hbw : w.heap.size ≤ bb := Nat.le_of_eq hbb
    clear hf5 hB5 hK2 hK hHeld4 hHeld3 hHeld hf4 hs3 hB3 hf3 hs5 HB0 hbb
    cases hnv : ((bytes rs[r].R).drop p).all N
    · have HNV := hide hnv
      have HSg := hide (show sgS N T rs[r] p t = beg N T ((bytes rs[r].R).drop p) from funext fun x => by unfold sgS; rw [hnv]; simp)
      clear hnv
      go_wp2_with (first
        | (go_at_call 70; refine (r_nullO (rs[r].R.extract p rs[r].R.size) mb 1 N _ (unhide HSz) (by exact (unhide HX5).cN) (unhide HLR)).mono ?_; rintro e w6 ⟨rfl, hf6⟩; rw [unhide HBR, unhide HNV]; have HF6 := hide ((unhide HF5).trans0 hf6); have HB6 := hide ((unhide HB5).fr0 hf6); clear hf6)
        | (go_at_call 54; refine (r_list bb 0 128 _ (beg N T ((bytes rs[r].R).drop p)) _ (by exact unhide HB6) (by omega) (fun i _ => by rw [Nat.zero_add]; rfl)).mono ?_; rintro e w7 ⟨rfl, hf7⟩; have HF7 := hide ((unhide HF6).trans0 hf7); clear hf7))
      go_ret
      exact ⟨by rw [unhide HSg]; rfl, unhide HF7⟩
    · have HNV := hide hnv
      have HSg := hide (show sgS N T rs[r] p t = ins (beg N T ((bytes rs[r].R).drop p)) t from funext fun x => by unfold sgS ins; rw [hnv]; simp)
      clear hnv
      go_wp2_with (first
        | (go_at_call 70; refine (r_nullO (rs[r].R.extract p rs[r].R.size) mb 1 N _ (unhide HSz) (by exact (unhide HX5).cN) (unhide HLR)).mono ?_; rintro e w6 ⟨rfl, hf6⟩; rw [unhide HBR, unhide HNV]; have HF6 := hide ((unhide HF5).trans0 hf6); have HB6 := hide ((unhide HB5).fr0 hf6); have k0 := (unhide HB6).cell t ht; have z0 := (unhide HB6).free t; have HB7 := hide (((unhide HB6).setCell t (.bool true)).congr (g := sF (ins (beg N T ((bytes rs[r].R).drop p)) t)) (fun i _ => sF_add _ t i)); have HF7 := hide ((unhide HF6).setCell ⟨bb, t, none⟩ (Or.inr hbw) (.bool true)); clear hf6)
        | (go_at_call 54; refine (r_list bb 0 128 _ (ins (beg N T ((bytes rs[r].R).drop p)) t) _ (by exact unhide HB7) (by omega) (fun i _ => by rw [Nat.zero_add]; rfl)).mono ?_; rintro e w8 ⟨rfl, hf8⟩; have HF8 := hide ((unhide HF7).trans0 hf8); clear hf8))
      go_ret
      exact ⟨by rw [unhide HSg]; rfl, unhide HF8⟩
end Go.Proofs.YtkglggkkbmmjkaaGreatDoor
