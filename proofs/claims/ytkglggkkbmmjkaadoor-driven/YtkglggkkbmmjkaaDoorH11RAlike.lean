import Derived.Test.YtkglggkkbmmjkaaDoorH10RPut
namespace Go.Proofs.YtkglggkkbmmjkaaDoor
open Go.RowKit

def eqI (x y : It) : Bool := x.R == y.R && (x.P == y.P && x.T == y.T)
theorem eqI_iff {x y : It} : eqI x y = true ↔ x = y := by
  obtain ⟨a, b, c⟩ := x
  obtain ⟨a', b', c'⟩ := y
  simp [eqI]
def eqL : List It → List It → Bool
  | [], [] => true
  | x :: a, y :: b => eqI x y && eqL a b
  | _, _ => false
theorem eqL_iff : ∀ {a b : List It}, eqL a b = true ↔ a = b
  | [], [] => by simp [eqL]
  | [], _ :: _ => by simp [eqL]
  | _ :: _, [] => by simp [eqL]
  | x :: a, y :: b => by
    rw [eqL, Bool.and_eq_true, eqI_iff, eqL_iff, List.cons.injEq]
/-- items lie from the block's start on -/
def ItAt (w : World) (q : Nat) (l : List It) : Prop := ∀ i, i < l.length → w.cell? ⟨q, i * 3, none⟩ = some (.int .i64 (lget l i).R) ∧ w.cell? ⟨q, i * 3 + 1, none⟩ = some (.int .i64 (lget l i).P) ∧ w.cell? ⟨q, i * 3 + 2, none⟩ = some (.int .u8 (lget l i).T)
theorem ItAt.fr {S : List Nat} {w w' : World} {q : Nat} {l : List It} (h : ItAt w q l) (k : Fr S w w') (hq : q ∉ S) : ItAt w' q l := fun i hi =>
  ⟨k.cell (h i hi).1 hq, k.cell (h i hi).2.1 hq, k.cell (h i hi).2.2 hq⟩
theorem ItAt.fr0 {w w' : World} {q : Nat} {l : List It} (h : ItAt w q l) (k : Fr [] w w') : ItAt w' q l := h.fr k (by simp)
theorem ItAt.below {B : Nat} {w w' : World} {q : Nat} {l : List It} (h : ItAt w q l) (k : Below B w w') (hq : q < B) : ItAt w' q l := fun i hi => by
  rw [k.cell (p := ⟨q, i * 3, none⟩) hq, k.cell (p := ⟨q, i * 3 + 1, none⟩) hq, k.cell (p := ⟨q, i * 3 + 2, none⟩) hq]; exact h i hi
end Go.Proofs.YtkglggkkbmmjkaaDoor

namespace Go.Proofs.YtkglggkkbmmjkaaDoor
open Go.RowKit

section
variable {P : Program} {o : Oper} {a : Act} {w : World} {Q : Exit → Act → World → Prop} {K : Act → World → Prop}
theorem op_alloc_blk (T : TypeId) (ho : o.op = .alloc T) (d : Option Tmp) (hd : o.dst = d) (n : Nat) (z : Nat → Value) (hz : (P.info? T).bind (·.zero) = some (Agg n z))
    (h : ∀ w1, Fr [] w w1 → w1.heap.size = w.heap.size + 1 → Blk w1 w.heap.size n z → K (a.put d (.pointer (some ⟨w.heap.size, 0, none⟩))) w1) : Oper.wp P o a w K Q := by
  subst hd
  have hrun : (Instr.alloc T true (.tuple #[])).run P w = .ok (.pointer (some ⟨w.heap.size, 0, none⟩)) (w.alloc (.cells (Array.ofFn (n := n) fun i => z i.val) T)) := by
    cases hq : P.info? T with
    | none => simp [hq] at hz
    | some i =>
      have hz' : i.zero = some (Agg n z) := by simpa [hq] using hz
      simp [Instr.alloc, zeroValue, typeInfo, hq, hz', newVar, newRow, newObj, Agg, Value.cells, Sem.run_bind]
      rfl
  unfold Oper.wp
  simp only [execOp, ho, Sem.run_bind, hrun, Result.andThen_ok, Sem.run_pure, Oper.upon]
  exact h _ ((Fr.refl _ _).alloc _) (by simp) (Blk.new w n z T)
theorem op_store_blk (T : TypeId) (x y : Operand) (ho : o.op = .store T x y) (b off m n : Nat) (f g : Nat → Value)
    (hx : a.eval x = .pointer (some ⟨b, off, none⟩)) (hy : a.eval y = Agg m g) (hb : Blk w b n f) (hi : (P.info? T).map (·.size) = some m) (hm : off + m ≤ n) (h1 : oneB g m)
    (h : ∀ w1, Fr [b] w w1 → w1.heap.size = w.heap.size → Blk w1 b n (lay f off m g) → K (a.put o.dst undef) w1) : Oper.wp P o a w K Q := by
  have hrun := run_storeVar_mid (P := P) w b off T (Array.ofFn (n := m) fun i => g i.val) (fun j hj => by
    rw [hb.cell _ (by simp at hj; omega), hb.free]; exact ⟨rfl, rfl⟩) (by simpa using hi)
    (Array.all_eq_true_iff_forall_mem.2 (fun v hv => by
      obtain ⟨i, rfl⟩ := Array.mem_ofFn.1 hv
      exact h1 i.1 i.2))
  have hl := setCells_fr b (Array.ofFn (n := m) fun i => g i.val).toList off w
  have hB := (Blk.setCells (Array.ofFn (n := m) fun i => g i.val).toList off w f hb).congr (g := lay f off m g) fun i _ => by
    simp only [lay, Array.length_toList, Array.size_ofFn]
    split
    · rename_i hh
      simp only [List.getD_eq_getElem?_getD, Array.getElem?_toList, Array.getElem?_ofFn]
      rw [dif_pos (by omega)]; rfl
    · rfl
  unfold Oper.wp
  simp only [execOp, ho, hx, hy, Agg, Instr.storeAt, Instr.sureAddr, Sem.run_bind, Sem.run_pure, Result.andThen_ok, hrun, Oper.upon]
  exact h _ hl.1 hl.2 hB
end

section
variable {P : Program} {md : Region.Mode} {ops : Array Oper} {Q : Exit → Act → World → Prop} {S : World → Prop}
/-- a region's last operation: a whole array is stored -/
theorem wpAnyH_store_last {i fuel : Nat} {o : Oper} {listed : Array Bool} {a : Act} {w : World} (hr : Region.ready md ops listed = [i]) (ho : ops[i]? = some o) (hg : o.guard = none) (hdst : o.dst = none) (T : TypeId) (x y : Operand) (hop : o.op = .store T x y)
    (b off m n : Nat) (f g : Nat → Value) (hx : a.eval x = .pointer (some ⟨b, off, none⟩)) (hy : a.eval y = Agg m g) (hb : Blk w b n f) (hi : (P.info? T).map (·.size) = some m) (hm : off + m ≤ n) (h1 : oneB g m)
    (hd : Region.ready md ops (listed.setIfInBounds i true) = [])
    (h : ∀ w1, Fr [b] w w1 → w1.heap.size = w.heap.size → Blk w1 b n (lay f off m g) → S w1 ∧ Q .normal (a.put none undef) w1) : wpAnyH P md ops Q S (fuel + 1) listed a w := by
  refine wpAnyH_ready hr (by simp) (AllReadyH.cons ho (fun K hK => ?_) AllReadyH.nil)
  rw [if_pos (by simp [Region.wanted, hg])]
  refine op_store_blk T x y hop b off m n f g hx hy hb hi hm h1 (fun w1 k1 k2 k3 => ?_)
  rw [hdst]
  exact hK.out _ _ (h w1 k1 k2 k3).1 (fun _ => wpAnyH_done hd (h w1 k1 k2 k3).2 _)
end

/-- what of a table stays: its rules, from number 0 on; the letters that derive the empty word; first signs -/
structure TB (w : World) (mb q cq fq : Nat) (rs : List Ru) (N : Nat → Bool) (T : Nat → Nat → Bool) : Prop where
  cL : w.cell? ⟨mb, 0, none⟩ = some (.slice (some ⟨q, 0, none⟩) rs.length cq)
  cN : NAt w mb 1 N
  cF : w.cell? ⟨mb, 129, none⟩ = some (.slice (some ⟨fq, 0, none⟩) 26 26)
  ru : RuAt w q rs
  lt : q < w.heap.size
  fT : Blk w fq 3328 (tF T)
  small : ∀ i (h : i < rs.length), rs[i].R.size ≤ 4
  lets : ∀ i (h : i < rs.length), ∀ j, j < rs[i].R.size → letB (ch rs[i].R j) = true
  len : rs.length ≤ 9
theorem TB.fr {S : List Nat} {w w' : World} {mb q cq fq : Nat} {rs : List Ru} {N : Nat → Bool} {T : Nat → Nat → Bool} (h : TB w mb q cq fq rs N T) (k : Fr S w w') (h1 : mb ∉ S) (h2 : q ∉ S) (h3 : fq ∉ S) : TB w' mb q cq fq rs N T :=
  ⟨k.cell h.cL h1, h.cN.fr k h1, k.cell h.cF h1, h.ru.fr k h2 h.lt, Nat.lt_of_lt_of_le h.lt k.size, h.fT.fr k h3, h.small, h.lets, h.len⟩
theorem TB.fr0 {w w' : World} {mb q cq fq : Nat} {rs : List Ru} {N : Nat → Bool} {T : Nat → Nat → Bool} (h : TB w mb q cq fq rs N T) (k : Fr [] w w') : TB w' mb q cq fq rs N T := h.fr k (by simp) (by simp) (by simp)

/-- the signs that can begin what comes behind place p of a rule, of which t comes behind it -/
def sgS (N : Nat → Bool) (T : Nat → Nat → Bool) (r : Ru) (p t : Nat) : Nat → Bool := fun x => beg N T ((bytes r.R).drop p) x || (((bytes r.R).drop p).all N && x == t)

end Go.Proofs.YtkglggkkbmmjkaaDoor

namespace Go.Proofs.YtkglggkkbmmjkaaDoor
open Go.RowKit

def ru0 : Ru := ⟨0, ⟨#[]⟩, 0⟩
def rget (rs : List Ru) (i : Nat) : Ru := rs.getD i ru0
theorem rget_eq (rs : List Ru) (i : Nat) (h : i < rs.length) : rget rs i = rs[i] := by simp [rget, h]
/-- an item of these rules -/
def IOk (rs : List Ru) (x : It) : Prop := x.R < rs.length ∧ x.P ≤ (rget rs x.R).R.size ∧ (x.T = 36 ∨ smallB x.T = true)
/-- an item asks for another -/
def Asks (rs : List Ru) (N : Nat → Bool) (T : Nat → Nat → Bool) (x y : It) : Prop :=
  x.P < (rget rs x.R).R.size ∧ bigB (ch (rget rs x.R).R x.P) = true ∧ 1 ≤ y.R ∧ y.R < rs.length ∧ (rget rs y.R).L = ch (rget rs x.R).R x.P ∧ y.P = 0 ∧ y.T < 128 ∧ sgS N T (rget rs x.R) (x.P + 1) x.T y.T = true
/-- what items ask for, and so on -/
def Cl (rs : List Ru) (N : Nat → Bool) (T : Nat → Nat → Bool) (X : It → Prop) (y : It) : Prop :=
  ∀ S : It → Prop, (∀ x, X x → S x) → (∀ x y, S x → Asks rs N T x y → S y) → S y
theorem Cl.base {rs : List Ru} {N : Nat → Bool} {T : Nat → Nat → Bool} {X : It → Prop} {x : It} (h : X x) : Cl rs N T X x := fun _ h1 _ => h1 x h
theorem Cl.step {rs : List Ru} {N : Nat → Bool} {T : Nat → Nat → Bool} {X : It → Prop} {x y : It} (h : Cl rs N T X x) (k : Asks rs N T x y) : Cl rs N T X y := fun S h1 h2 => h2 x y (h S h1 h2) k
def Closed (rs : List Ru) (N : Nat → Bool) (T : Nat → Nat → Bool) (L : List It) : Prop := ∀ x ∈ L, ∀ y, Asks rs N T x y → y ∈ L
/-- a list in order on the way from l -/
structure LP (rs : List Ru) (N : Nat → Bool) (T : Nat → Nat → Bool) (l L : List It) : Prop where
  srt : Srt L
  ok : ∀ y ∈ L, IOk rs y
  sub : ∀ y ∈ l, y ∈ L
  cl : ∀ y ∈ L, Cl rs N T (· ∈ l) y

theorem IOk.ok {rs : List Ru} {x : It} (h : IOk rs x) (hl : rs.length ≤ 9) (hs : ∀ i (h : i < rs.length), rs[i].R.size ≤ 4) : x.ok := by
  obtain ⟨h1, h2, h3⟩ := h
  refine ⟨by omega, ?_, ?_⟩
  · rw [rget_eq rs _ h1] at h2
    have := hs _ h1
    omega
  · rcases h3 with h3 | h3
    · omega
    · have := smallB_iff.1 h3; omega
theorem srt_len : ∀ (l : List It) (m n : Nat), Srt l → (∀ x ∈ l, m ≤ x.key ∧ x.key < n) → l.length ≤ n - m
  | [], _, _, _, _ => by simp
  | a :: l, m, n, hs, h => by
    have h' := List.pairwise_cons.1 hs
    have h0 := h a (List.mem_cons_self ..)
    have ih := srt_len l (a.key + 1) n h'.2 (fun x hx => ⟨h'.1 x hx, (h x (List.mem_cons_of_mem _ hx)).2⟩)
    rw [List.length_cons]; omega
theorem It.ok.key_lt {x : It} (h : x.ok) : x.key < 8832 := by
  obtain ⟨h1, h2, h3⟩ := h
  unfold It.key; omega
theorem LP.len {rs : List Ru} {N : Nat → Bool} {T : Nat → Nat → Bool} {l L : List It} (h : LP rs N T l L) (hl : rs.length ≤ 9) (hs : ∀ i (h : i < rs.length), rs[i].R.size ≤ 4) : L.length ≤ 8832 := by
  have := srt_len L 0 8832 h.srt (fun x hx => ⟨Nat.zero_le _, ((h.ok x hx).ok hl hs).key_lt⟩)
  omega

theorem beg_small' {N : Nat → Bool} {F : Nat → Nat → Bool} {x : Nat} (hF : ∀ c, F c x = true → smallB x = true) : ∀ l, beg N F l x = true → smallB x = true
  | [], h => by cases h
  | c :: l, h => by
    rw [beg] at h
    split at h
    · have : x = c := by simpa using h
      subst this; assumption
    · rw [Bool.or_eq_true, Bool.and_eq_true] at h
      rcases h with h | h
      · exact hF c h
      · exact beg_small' hF l h.2
theorem Asks.ok {rs : List Ru} {N : Nat → Bool} {T : Nat → Nat → Bool} {x y : It} (h : Asks rs N T x y) (hx : IOk rs x) (hT : ∀ c x, x < 128 → T c x = true → smallB x = true) : IOk rs y := by
  obtain ⟨_, _, _, h4, _, h6, h7, h8⟩ := h
  refine ⟨h4, by rw [h6]; exact Nat.zero_le _, ?_⟩
  unfold sgS at h8
  rw [Bool.or_eq_true, Bool.and_eq_true] at h8
  rcases h8 with h8 | h8
  · exact Or.inr (beg_small' (fun c hc => hT c _ h7 hc) _ h8)
  · have : y.T = x.T := by simpa using h8.2
    rw [this]; exact hx.2.2
theorem LP.put {rs : List Ru} {N : Nat → Bool} {T : Nat → Nat → Bool} {l L : List It} {x y : It} (h : LP rs N T l L) (hx : x ∈ L) (k : Asks rs N T x y) (hT : ∀ c x, x < 128 → T c x = true → smallB x = true) : LP rs N T l (putL L y) :=
  ⟨putL_srt L y h.srt, fun z hz => by
    rcases putL_mem L y z hz with hz | rfl
    · exact h.ok z hz
    · exact k.ok (h.ok x hx) hT, fun z hz => putL_sub L y z (h.sub z hz), fun z hz => by
    rcases putL_mem L y z hz with hz | rfl
    · exact h.cl z hz
    · exact (h.cl x hx).step k⟩
theorem putL_in {rs : List Ru} {L : List It} {y : It} (hok : ∀ z ∈ L, IOk rs z) (hy : IOk rs y) (hl : rs.length ≤ 9) (hs : ∀ i (h : i < rs.length), rs[i].R.size ≤ 4) : y ∈ putL L y := by
  obtain ⟨z, hz, he⟩ := putL_has L y
  have hzo : IOk rs z := by
    rcases putL_mem L y z hz with hz | rfl
    · exact hok z hz
    · exact hy
  have e := It.eq_of_key (hzo.ok hl hs) (hy.ok hl hs) he
  subst e
  exact hz

theorem rlst_bytes (S : Nat → Bool) : bytes (rlst S) = (List.range 128).filter S := by
  unfold bytes rlst rlU
  simp only [List.map_map]
  rw [show ((List.range 128).filter S) = ((List.range 128).filter S).map id from (List.map_id _).symm]
  simp only [List.map_map]
  refine List.map_congr_left fun x hx => ?_
  have := List.mem_range.1 (List.mem_filter.1 hx).1
  show (UInt8.ofNat x).toNat = x
  rw [UInt8.toNat_ofNat']
  exact Nat.mod_eq_of_lt (by omega)
theorem rlst_mem {S : Nat → Bool} {x : Nat} (hx : x < 128) (h : S x = true) : ∃ j, j < (rlst S).size ∧ ch (rlst S) j = x := by
  have hm : x ∈ bytes (rlst S) := by
    rw [rlst_bytes]; exact List.mem_filter.2 ⟨List.mem_range.2 hx, h⟩
  obtain ⟨j, hj, e⟩ := List.getElem_of_mem hm
  refine ⟨j, by rw [← bytes_len]; exact hj, ?_⟩
  rw [bytes_get] at e; exact e
/-- the whole list: full, and no more -/
structure FullOf (rs : List Ru) (N : Nat → Bool) (T : Nat → Nat → Bool) (l L : List It) : Prop where
  lp : LP rs N T l L
  closed : Closed rs N T L
theorem FullOf.mem {rs : List Ru} {N : Nat → Bool} {T : Nat → Nat → Bool} {l L : List It} (h : FullOf rs N T l L) (y : It) : y ∈ L ↔ Cl rs N T (· ∈ l) y :=
  ⟨h.lp.cl y, fun k => k (· ∈ L) (fun x hx => h.lp.sub x hx) (fun x y hx ha => h.closed x hx y ha)⟩
end Go.Proofs.YtkglggkkbmmjkaaDoor

namespace Go.Proofs.YtkglggkkbmmjkaaDoor
open Go.RowKit

/-- x's own variable -/
def XV (wr : World) (v : Value) (xb : Nat) (x : It) : Prop := Blk wr xb 3 (itC x) ∧ v.ownBlock ≠ some xb
theorem XV.put {wr wr' : World} {v v' : Value} {xb : Nat} {x : It} (h : XV wr v xb x) (k : Fr v.ownBlock.toList wr wr') (ho : ∀ g', v'.ownBlock = some g' → v.ownBlock = some g' ∨ wr.heap.size ≤ g') : XV wr' v' xb x :=
  ⟨h.1.fr k (fun hm => h.2 (by simpa using hm)), fun e => by
    rcases ho xb e with e | e
    · exact h.2 e
    · have := h.1.lt; omega⟩
theorem XV.fr {wr wr' : World} {v : Value} {xb : Nat} {x : It} (h : XV wr v xb x) (k : Fr [] wr wr') : XV wr' v xb x := ⟨h.1.fr0 k, h.2⟩

/-- while one item's asks join: which rules are done -/
structure KS (rs : List Ru) (N : Nat → Bool) (T : Nat → Nat → Bool) (l L L' : List It) (mv : Bool) (c : Nat) (x : It) (k : Nat) : Prop where
  lp : LP rs N T l L'
  eq : mv = false → L' = L
  gt : mv = true → L.length < L'.length
  sup : ∀ y ∈ L, y ∈ L'
  done : ∀ k', 1 ≤ k' → k' < k → (rget rs k').L = c → ∀ t, t < 128 → sgS N T (rget rs x.R) (x.P + 1) x.T t = true → (⟨k', 0, t⟩ : It) ∈ L'
/-- and which signs of the rule at hand -/
structure JS (rs : List Ru) (N : Nat → Bool) (T : Nat → Nat → Bool) (l L L' : List It) (mv : Bool) (c : Nat) (x : It) (k : Nat) (ss : ByteArray) (j : Nat) : Prop where
  ks : KS rs N T l L L' mv c x k
  row : ∀ j', j' < j → (⟨k, 0, ch ss j'⟩ : It) ∈ L'
theorem JS.put {rs : List Ru} {N : Nat → Bool} {T : Nat → Nat → Bool} {l L L' : List It} {mv : Bool} {c : Nat} {x : It} {k : Nat} {ss : ByteArray} {j : Nat} (h : JS rs N T l L L' mv c x k ss j) (hx : x ∈ L) (ha : Asks rs N T x ⟨k, 0, ch ss j⟩)
    (hT : ∀ c x, x < 128 → T c x = true → smallB x = true) (hl : rs.length ≤ 9) (hs : ∀ i (h : i < rs.length), rs[i].R.size ≤ 4) : JS rs N T l L (putL L' ⟨k, 0, ch ss j⟩) (mv || !hasK L' ⟨k, 0, ch ss j⟩) c x k ss (j + 1) := by
  have hx' := h.ks.sup x hx
  have hlen := putL_len (x := ⟨k, 0, ch ss j⟩) h.ks.lp.srt
  refine ⟨⟨h.ks.lp.put hx' ha hT, fun e => ?_, fun e => ?_, fun y hy => putL_sub _ _ _ (h.ks.sup y hy), fun k' h1 h2 h3 t h4 h5 => putL_sub _ _ _ (h.ks.done k' h1 h2 h3 t h4 h5)⟩, fun j' hj' => ?_⟩
  · rw [Bool.or_eq_false_iff] at e
    have hk : hasK L' ⟨k, 0, ch ss j⟩ = true := by simpa using e.2
    rw [putL_old h.ks.lp.srt hk]; exact h.ks.eq e.1
  · rw [hlen]
    cases mv
    · have hk : hasK L' ⟨k, 0, ch ss j⟩ = false := by simpa using e
      rw [hk, h.ks.eq rfl]; simp
    · have := h.ks.gt rfl; omega
  · by_cases e : j' = j
    · subst e
      exact putL_in h.ks.lp.ok (ha.ok (h.ks.lp.ok x hx') hT) hl hs
    · exact putL_sub _ _ _ (h.row j' (by omega))
theorem JS.next {rs : List Ru} {N : Nat → Bool} {T : Nat → Nat → Bool} {l L L' : List It} {mv : Bool} {c : Nat} {x : It} {k : Nat} {ss : ByteArray} {j : Nat} (h : JS rs N T l L L' mv c x k ss j) (hss : rlst (sgS N T (rget rs x.R) (x.P + 1) x.T) = ss)
    (hj : (rget rs k).L = c → ss.size ≤ j) : KS rs N T l L L' mv c x (k + 1) :=
  ⟨h.ks.lp, h.ks.eq, h.ks.gt, h.ks.sup, fun k' h1 h2 h3 t h4 h5 => by
    by_cases e : k' = k
    · subst e
      obtain ⟨j', hj', e'⟩ := rlst_mem h4 h5
      rw [hss] at hj' e'
      rw [← e']; exact h.row j' (by have := hj h3; omega)
    · exact h.ks.done k' h1 (by omega) h3 t h4 h5⟩
theorem KS.all {rs : List Ru} {N : Nat → Bool} {T : Nat → Nat → Bool} {l L L' : List It} {mv : Bool} {c : Nat} {x : It} {k : Nat} (h : KS rs N T l L L' mv c x k) (hk : rs.length ≤ k) (hc : ch (rget rs x.R).R x.P = c) : ∀ y, Asks rs N T x y → y ∈ L' := fun y ⟨_, _, h3, h4, h5, h6, h7, h8⟩ => by
  obtain ⟨a, b, d⟩ := y
  have h6 : b = 0 := h6
  subst h6
  exact h.done a h3 (Nat.lt_of_lt_of_le h4 hk) (h5.trans hc) d h7 h8

end Go.Proofs.YtkglggkkbmmjkaaDoor

namespace Go.Proofs.YtkglggkkbmmjkaaDoor
open Go.RowKit

/-- an item moves over a letter -/
def MvB (rs : List Ru) (c : Nat) (x : It) : Prop := x.P < (rget rs x.R).R.size ∧ ch (rget rs x.R).R x.P = c
def mvI (x : It) : It := ⟨x.R, x.P + 1, x.T⟩
/-- the items behind a letter, in order -/
structure KernOf (rs : List Ru) (c : Nat) (l K : List It) : Prop where
  srt : Srt K
  ok : ∀ y ∈ K, IOk rs y
  mem : ∀ y, y ∈ K ↔ ∃ x ∈ l, MvB rs c x ∧ y = mvI x
theorem KernOf.nil (rs : List Ru) (c : Nat) : KernOf rs c [] [] := ⟨List.Pairwise.nil, (fun _ h => by cases h), (fun y => by simp)⟩
theorem KernOf.skip {rs : List Ru} {c i : Nat} {l K : List It} (h : KernOf rs c (l.take i) K) (hi : i < l.length) (hn : ¬ MvB rs c (lget l i)) : KernOf rs c (l.take (i + 1)) K := by
  refine ⟨h.srt, h.ok, fun y => ?_⟩
  rw [h.mem y, List.take_succ_eq_append_getElem hi]
  constructor
  · rintro ⟨x, hx, h1, h2⟩
    exact ⟨x, List.mem_append_left _ hx, h1, h2⟩
  · rintro ⟨x, hx, h1, h2⟩
    rcases List.mem_append.1 hx with hx | hx
    · exact ⟨x, hx, h1, h2⟩
    · have : x = l[i] := by simpa using hx
      rw [this, ← lget_eq l i hi] at h1
      exact absurd h1 hn
theorem KernOf.put {rs : List Ru} {c i : Nat} {l K : List It} (h : KernOf rs c (l.take i) K) (hi : i < l.length) (hm : MvB rs c (lget l i)) (hok : IOk rs (lget l i)) (hl : rs.length ≤ 9) (hs : ∀ i (h : i < rs.length), rs[i].R.size ≤ 4) : KernOf rs c (l.take (i + 1)) (putL K (mvI (lget l i))) := by
  have hy : IOk rs (mvI (lget l i)) := ⟨hok.1, hm.1, hok.2.2⟩
  refine ⟨putL_srt _ _ h.srt, fun y hy' => ?_, fun y => ?_⟩
  · rcases putL_mem _ _ _ hy' with h1 | rfl
    · exact h.ok y h1
    · exact hy
  · rw [List.take_succ_eq_append_getElem hi]
    constructor
    · intro h1
      rcases putL_mem _ _ _ h1 with h1 | rfl
      · obtain ⟨x, hx, h2, h3⟩ := (h.mem y).1 h1
        exact ⟨x, List.mem_append_left _ hx, h2, h3⟩
      · exact ⟨lget l i, List.mem_append_right _ (by rw [lget_eq l i hi]; exact List.mem_singleton.2 rfl), hm, rfl⟩
    · rintro ⟨x, hx, h2, rfl⟩
      rcases List.mem_append.1 hx with hx | hx
      · exact putL_sub _ _ _ ((h.mem _).2 ⟨x, hx, h2, rfl⟩)
      · have e : x = l[i] := by simpa using hx
        rw [e, ← lget_eq l i hi]
        exact putL_in h.ok hy hl hs
theorem KernOf.len {rs : List Ru} {c : Nat} {l K : List It} (h : KernOf rs c l K) (hl : rs.length ≤ 9) (hs : ∀ i (h : i < rs.length), rs[i].R.size ≤ 4) : K.length ≤ 8832 := by
  have := srt_len K 0 8832 h.srt (fun x hx => ⟨Nat.zero_le _, ((h.ok x hx).ok hl hs).key_lt⟩)
  omega

end Go.Proofs.YtkglggkkbmmjkaaDoor

namespace Go.Proofs.YtkglggkkbmmjkaaDoor
open Go.RowKit

/-- a state that lies in memory -/
structure Sl where
  g : Nat
  c : Nat
  l : List It
def slV (s : Sl) : Value := .slice (some ⟨s.g, 0, none⟩) s.l.length s.c
theorem Fr.frozen {S : List Nat} {w w' : World} (k : Fr S w w') {b o : Nat} (hb : b ∉ S) (hlt : b < w.heap.size) : w'.frozen? ⟨b, o, none⟩ = w.frozen? ⟨b, o, none⟩ := by
  unfold World.frozen?
  rw [k.block b hlt hb]
end Go.Proofs.YtkglggkkbmmjkaaDoor

namespace Go.Proofs.YtkglggkkbmmjkaaDoor
open Go.RowKit

def wdU (st : Bool) (ru : Nat → Bool) (k : Nat) : List UInt8 := (if st then [115] else []) ++ ((List.range k).filter ru).map fun i => UInt8.ofNat (48 + i)
def wordsT (st : Bool) (ru : Nat → Bool) : ByteArray := ⟨(wdU st ru 9).toArray⟩
/-- the cells of what can be done -/
def canF (st : Bool) (ru : Nat → Bool) : Nat → Value := fun i => if i = 0 then .bool st else .bool (ru (i - 1))

end Go.Proofs.YtkglggkkbmmjkaaDoor

namespace Go.Proofs.YtkglggkkbmmjkaaDoor
open Go.RowKit

def likeI (x y : It) : Bool := x.R == y.R && x.P == y.P
def alikeL (a b : List It) : Bool := a.all fun x => b.any (likeI x)

end Go.Proofs.YtkglggkkbmmjkaaDoor
