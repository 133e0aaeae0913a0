import Derived.Test.YtkglggkkbmmjkaaDoorE14PLett
import Derived.Test.YtkglggkkbmmjkaaDoorE9LSp2
import Derived.Test.YtkglggkkbmmjkaaDoorE12PTab0
namespace Go.Proofs.YtkglggkkbmmjkaaDoor
open Go.RowKit

/-- a plan of these rules (rule 0 first) -/
def planOf (L : List Ru) (N : Nat → Bool) (F : Nat → Nat → Bool) : Pl where
  left := fun n => (L.getD n ⟨0, ⟨#[]⟩, 0⟩).L
  lt := fun n t => ch (L.getD n ⟨0, ⟨#[]⟩, 0⟩).R t
  en := fun n t => decide (n < L.length) && t == (L.getD n ⟨0, ⟨#[]⟩, 0⟩).R.size
  bg := fun n t k => decide (t < (L.getD n ⟨0, ⟨#[]⟩, 0⟩).R.size) && beg N F ((bytes (L.getD n ⟨0, ⟨#[]⟩, 0⟩).R).drop (t + 1)) (sgn k)
  nl := fun n t => decide (t < (L.getD n ⟨0, ⟨#[]⟩, 0⟩).R.size) && ((bytes (L.getD n ⟨0, ⟨#[]⟩, 0⟩).R).drop (t + 1)).all (vanB N false)
/-- a spot, by what is behind it -/
def sptF (c : Nat) (s : ByteArray) (N : Nat → Bool) (F : Nat → Nat → Bool) : Nat → Value := fun j => if j = 0 then .int .u8 (c : Nat) else if j = 1 then .bool false else if j < 29 then .bool (beg N F (bytes s) (sgn (j - 2))) else .bool ((bytes s).all (vanB N false))
theorem oneB_sptF (c : Nat) (s : ByteArray) (N : Nat → Bool) (F : Nat → Nat → Bool) (m : Nat) : oneB (sptF c s N F) m := fun i _ => by
  unfold sptF; split
  · rfl
  · split
    · rfl
    · split <;> rfl
def zSpot : Nat → Value := spF ⟨fun _ => 0, fun _ _ => 0, fun _ _ => false, fun _ _ _ => false, fun _ _ => false⟩ 0 0

theorem spt_cells (c : Nat) (s : ByteArray) (N : Nat → Bool) (F : Nat → Nat → Bool) (i : Nat) (hi : i < 30) :
    upd (lay (upd zSpot 0 (.int .u8 c)) 2 27 (sgF (beg N F (bytes s)))) 29 (.bool ((bytes s).all (vanB N false))) (0 + i) = sptF c s N F i := by
  rw [Nat.zero_add]
  unfold upd lay sptF
  by_cases h29 : i = 29
  · subst h29; rfl
  · rw [if_neg h29]
    by_cases h2 : 2 ≤ i ∧ i < 2 + 27
    · rw [if_pos h2, if_neg (by omega), if_neg (by omega), if_pos (by omega)]; rfl
    · rw [if_neg h2]
      by_cases h0 : i = 0
      · subst h0; rfl
      · obtain rfl : i = 1 := by omega
        rfl

set_option maxRecDepth 100000 in
set_option maxHeartbeats 1600000 in
theorem p_spotOf (b q cap : Nat) (rs : List Ru) (N : Nat → Bool) (F : Nat → Nat → Bool) (e p : Int) (c : Nat) (s : ByteArray) (w : World) (h : GAt w b q cap rs N F e p) (hs : s.size ≤ 1000) (hl : ∀ i, i < s.size → letB (ch s i) = true) :
    Calls Tryd.prog 73 #[.pointer (some ⟨b, 0, none⟩), .int .u8 c, .string s] w fun e' w' => e' = .returned (Agg 30 (sptF c s N F)) ∧ Fr [] w w' := by
  have H := hide h
  have lb := h.blk.lt
  have lq := h.lt
  clear h
  go_enter Tryd.func73, Tryd.ntmps73
  go_wp2_with (first
    | (refine wpList_alloc_blk rfl 50 rfl (some 6) rfl 30 _ Tryd.zeroSpot ?_; intro w1 hf1 hs1 hB1; have HR := hide hB1; have HF1 := hide hf1; clear hf1 hB1)
    | (refine wpList_alloc_blk rfl 50 rfl (some 7) rfl 30 _ Tryd.zeroSpot ?_; intro w2 hf2 hs2 hB2; have HF2 := hide ((unhide HF1).trans0 hf2); have HR2 := hide ((unhide HR).fr0 hf2); have HB2 := hide (show Blk w2 (w.heap.size + 1) 30 zSpot from hs1 ▸ hB2); have c0 := (unhide HB2).cell 0 (by omega); have z0 := (unhide HB2).free 0; clear hf2 hB2 HR HF1)
    | (go_at_call 71; refine (p_firstOf b q cap rs N F e p s _ (((unhide H).fr0 ((unhide HF2).setCell ⟨w.heap.size + 1, 0, none⟩ (Or.inr (by simp)) (.int .u8 c)))) hs hl).mono ?_; rintro e' w3 ⟨rfl, hf3⟩; have HF3 := hide (((unhide HF2).setCell ⟨w.heap.size + 1, 0, none⟩ (Or.inr (by simp)) (.int .u8 c)).trans0 hf3); have HR3 := hide (((unhide HR2).setCell_ne ⟨w.heap.size + 1, 0, none⟩ (by simp) (.int .u8 c)).fr0 hf3); have HB3 := hide (((unhide HB2).setCell 0 (.int .u8 c)).fr0 hf3); clear hf3)
    | (refine wpList_store_blk rfl 48 (.tmp 13) (.tmp 12) rfl (w.heap.size + 1) 2 27 30 (upd zSpot 0 (.int .u8 c)) (sgF (beg N F (bytes s))) rfl rfl (by exact unhide HB3) Tryd.sizeSign (by omega) (fun _ _ => rfl) ?_; intro w4 hf4 hs4 hB4; have HF4 := hide ((unhide HF3).trans1 hf4 (Or.inr (by omega))); have HR4 := hide ((unhide HR3).fr1 hf4 (by omega)); have HB4 := hide hB4; have c29 := (unhide HB4).cell 29 (by omega); have z29 := (unhide HB4).free 29; clear hf4 hB4)
    | (go_at_call 83; refine (p_isNull b q cap rs N F e p s _ ((unhide H).fr0 (unhide HF4)) hs).mono ?_; rintro e' w5 ⟨rfl, rfl⟩)
    | (refine wpList_load_blk rfl 50 (.tmp 7) rfl (some 18) rfl (w.heap.size + 1) 0 30 30 (upd (lay (upd zSpot 0 (.int .u8 c)) 2 27 (sgF (beg N F (bytes s)))) 29 (.bool ((bytes s).all (vanB N false)))) _ rfl (by exact (unhide HB4).setCell 29 (.bool ((bytes s).all (vanB N false)))) Tryd.underlying50 rfl Tryd.sizeSpot (by omega) ?_; rw [Agg.congr (spt_cells c s N F)])
    | (refine wpList_store_blk rfl 50 (.tmp 6) (.tmp 18) rfl w.heap.size 0 30 30 zSpot (sptF c s N F) rfl rfl (by exact (unhide HR4).setCell_ne ⟨w.heap.size + 1, 29, none⟩ (by simp) (.bool ((bytes s).all (vanB N false)))) Tryd.sizeSpot (by omega) (oneB_sptF c s N F 30) ?_; intro w7 hf7 hs7 hB7))
  exact bodyPost_ret (results_cell Tryd.results73 _ w.heap.size rfl 30 30 _ _ (hB7.congr fun i hi => lay_all _ _ _ i hi) Tryd.underlying50 rfl Tryd.sizeSpot (by omega)) rfl ⟨rfl, ((unhide HF4).setCell ⟨w.heap.size + 1, 29, none⟩ (Or.inr (by simp)) _).trans1 hf7 (Or.inr (Nat.le_refl _))⟩
end Go.Proofs.YtkglggkkbmmjkaaDoor


namespace Go.Proofs.YtkglggkkbmmjkaaDoor
open Go.RowKit

def putL : List It → It → List It
  | [], x => [x]
  | y :: l, x => if y.key < x.key then y :: putL l x else if y.key = x.key then y :: l else x :: y :: l
def hasK (l : List It) (x : It) : Bool := l.any fun y => y.key == x.key
def Srt (l : List It) : Prop := l.Pairwise fun a b => a.key < b.key

theorem putL_mem : ∀ (l : List It) (x y : It), y ∈ putL l x → y ∈ l ∨ y = x
  | [], x, y, h => by simp [putL] at h; exact Or.inr h
  | z :: l, x, y, h => by
    rw [putL] at h
    split at h
    · rcases List.mem_cons.1 h with h | h
      · exact Or.inl (h ▸ List.mem_cons_self ..)
      · rcases putL_mem l x y h with h | h
        · exact Or.inl (List.mem_cons_of_mem _ h)
        · exact Or.inr h
    · split at h
      · exact Or.inl h
      · rcases List.mem_cons.1 h with h | h
        · exact Or.inr h
        · exact Or.inl h
theorem putL_sub : ∀ (l : List It) (x y : It), y ∈ l → y ∈ putL l x
  | z :: l, x, y, h => by
    rw [putL]
    split
    · rcases List.mem_cons.1 h with h | h
      · exact h ▸ List.mem_cons_self ..
      · exact List.mem_cons_of_mem _ (putL_sub l x y h)
    · split
      · exact h
      · exact List.mem_cons_of_mem _ h
theorem putL_srt : ∀ (l : List It) (x : It), Srt l → Srt (putL l x)
  | [], x, _ => by unfold Srt; simp [putL]
  | z :: l, x, h => by
    have h' := List.pairwise_cons.1 h
    rw [putL]
    split
    · rename_i hz
      refine List.pairwise_cons.2 ⟨fun y hy => ?_, putL_srt l x h'.2⟩
      rcases putL_mem l x y hy with hy | rfl
      · exact h'.1 y hy
      · exact hz
    · split
      · exact h
      · refine List.pairwise_cons.2 ⟨fun y hy => ?_, h⟩
        rcases List.mem_cons.1 hy with rfl | hy
        · omega
        · have := h'.1 y hy; omega
theorem putL_has : ∀ (l : List It) (x : It), ∃ y ∈ putL l x, y.key = x.key
  | [], x => ⟨x, by simp [putL], rfl⟩
  | z :: l, x => by
    rw [putL]
    split
    · obtain ⟨y, hy, e⟩ := putL_has l x
      exact ⟨y, List.mem_cons_of_mem _ hy, e⟩
    · split
      · exact ⟨z, List.mem_cons_self .., by assumption⟩
      · exact ⟨x, List.mem_cons_self .., rfl⟩
theorem putL_old {l : List It} {x : It} (hs : Srt l) (h : hasK l x = true) : putL l x = l := by
  induction l with
  | nil => simp [hasK] at h
  | cons z l ih =>
    have h' := List.pairwise_cons.1 hs
    rw [putL]
    split
    · rename_i hz
      rw [ih h'.2]
      unfold hasK at h ⊢
      rw [List.any_cons, Bool.or_eq_true] at h
      rcases h with h | h
      · have : z.key = x.key := by simpa using h
        omega
      · exact h
    · split
      · rfl
      · rename_i hz hz2
        unfold hasK at h
        obtain ⟨y, hy, e⟩ := List.any_eq_true.1 h
        have e : y.key = x.key := by simpa using e
        rcases List.mem_cons.1 hy with rfl | hy
        · omega
        · have := h'.1 y hy; omega
theorem putL_len {l : List It} {x : It} (hs : Srt l) : (putL l x).length = l.length + if hasK l x then 0 else 1 := by
  cases h : hasK l x
  · induction l with
    | nil => rfl
    | cons z l ih =>
      have h' := List.pairwise_cons.1 hs
      unfold hasK at h ih
      rw [List.any_cons, Bool.or_eq_false_iff] at h
      have hz : z.key ≠ x.key := by simpa using h.1
      rw [putL]
      split
      · rw [List.length_cons, ih h'.2 h.2]; simp
      · simp
  · rw [putL_old hs h]; simp

end Go.Proofs.YtkglggkkbmmjkaaDoor

namespace Go.Proofs.YtkglggkkbmmjkaaDoor
open Go.RowKit

def eqI (x y : It) : Bool := x.R == y.R && (x.P == y.P && x.T == y.T)
theorem eqI_iff {x y : It} : eqI x y = true ↔ x = y := by
  obtain ⟨a, b, c⟩ := x
  obtain ⟨a', b', c'⟩ := y
  simp [eqI]
def eqL : List It → List It → Bool
  | [], [] => true
  | x :: a, y :: b => eqI x y && eqL a b
  | _, _ => false
theorem eqL_iff : ∀ {a b : List It}, eqL a b = true ↔ a = b
  | [], [] => by simp [eqL]
  | [], _ :: _ => by simp [eqL]
  | _ :: _, [] => by simp [eqL]
  | x :: a, y :: b => by
    rw [eqL, Bool.and_eq_true, eqI_iff, eqL_iff, List.cons.injEq]
/-- items lie from the block's start on -/
def ItAt (w : World) (q : Nat) (l : List It) : Prop := ∀ i, i < l.length → w.cell? ⟨q, i * 3, none⟩ = some (.int .i64 (lget l i).R) ∧ w.cell? ⟨q, i * 3 + 1, none⟩ = some (.int .i64 (lget l i).P) ∧ w.cell? ⟨q, i * 3 + 2, none⟩ = some (.int .u8 (lget l i).T)
theorem ItAt.fr {S : List Nat} {w w' : World} {q : Nat} {l : List It} (h : ItAt w q l) (k : Fr S w w') (hq : q ∉ S) : ItAt w' q l := fun i hi =>
  ⟨k.cell (h i hi).1 hq, k.cell (h i hi).2.1 hq, k.cell (h i hi).2.2 hq⟩
theorem ItAt.fr0 {w w' : World} {q : Nat} {l : List It} (h : ItAt w q l) (k : Fr [] w w') : ItAt w' q l := h.fr k (by simp)
theorem ItAt.below {B : Nat} {w w' : World} {q : Nat} {l : List It} (h : ItAt w q l) (k : Below B w w') (hq : q < B) : ItAt w' q l := fun i hi => by
  rw [k.cell (p := ⟨q, i * 3, none⟩) hq, k.cell (p := ⟨q, i * 3 + 1, none⟩) hq, k.cell (p := ⟨q, i * 3 + 2, none⟩) hq]; exact h i hi
end Go.Proofs.YtkglggkkbmmjkaaDoor

namespace Go.Proofs.YtkglggkkbmmjkaaDoor
open Go.RowKit

section
variable {P : Program} {o : Oper} {a : Act} {w : World} {Q : Exit → Act → World → Prop} {K : Act → World → Prop}
theorem op_alloc_blk (T : TypeId) (ho : o.op = .alloc T) (d : Option Tmp) (hd : o.dst = d) (n : Nat) (z : Nat → Value) (hz : (P.info? T).bind (·.zero) = some (Agg n z))
    (h : ∀ w1, Fr [] w w1 → w1.heap.size = w.heap.size + 1 → Blk w1 w.heap.size n z → K (a.put d (.pointer (some ⟨w.heap.size, 0, none⟩))) w1) : Oper.wp P o a w K Q := by
  subst hd
  have hrun : (Instr.alloc T true (.tuple #[])).run P w = .ok (.pointer (some ⟨w.heap.size, 0, none⟩)) (w.alloc (.cells (Array.ofFn (n := n) fun i => z i.val) T)) := by
    cases hq : P.info? T with
    | none => simp [hq] at hz
    | some i =>
      have hz' : i.zero = some (Agg n z) := by simpa [hq] using hz
      simp [Instr.alloc, zeroValue, typeInfo, hq, hz', newVar, newRow, newObj, Agg, Value.cells, Sem.run_bind]
      rfl
  unfold Oper.wp
  simp only [execOp, ho, Sem.run_bind, hrun, Result.andThen_ok, Sem.run_pure, Oper.upon]
  exact h _ ((Fr.refl _ _).alloc _) (by simp) (Blk.new w n z T)
theorem op_store_blk (T : TypeId) (x y : Operand) (ho : o.op = .store T x y) (b off m n : Nat) (f g : Nat → Value)
    (hx : a.eval x = .pointer (some ⟨b, off, none⟩)) (hy : a.eval y = Agg m g) (hb : Blk w b n f) (hi : (P.info? T).map (·.size) = some m) (hm : off + m ≤ n) (h1 : oneB g m)
    (h : ∀ w1, Fr [b] w w1 → w1.heap.size = w.heap.size → Blk w1 b n (lay f off m g) → K (a.put o.dst undef) w1) : Oper.wp P o a w K Q := by
  have hrun := run_storeVar_mid (P := P) w b off T (Array.ofFn (n := m) fun i => g i.val) (fun j hj => by
    rw [hb.cell _ (by simp at hj; omega), hb.free]; exact ⟨rfl, rfl⟩) (by simpa using hi)
    (Array.all_eq_true_iff_forall_mem.2 (fun v hv => by
      obtain ⟨i, rfl⟩ := Array.mem_ofFn.1 hv
      exact h1 i.1 i.2))
  have hl := setCells_fr b (Array.ofFn (n := m) fun i => g i.val).toList off w
  have hB := (Blk.setCells (Array.ofFn (n := m) fun i => g i.val).toList off w f hb).congr (g := lay f off m g) fun i _ => by
    simp only [lay, Array.length_toList, Array.size_ofFn]
    split
    · rename_i hh
      simp only [List.getD_eq_getElem?_getD, Array.getElem?_toList, Array.getElem?_ofFn]
      rw [dif_pos (by omega)]; rfl
    · rfl
  unfold Oper.wp
  simp only [execOp, ho, hx, hy, Agg, Instr.storeAt, Instr.sureAddr, Sem.run_bind, Sem.run_pure, Result.andThen_ok, hrun, Oper.upon]
  exact h _ hl.1 hl.2 hB
end

section
variable {P : Program} {md : Region.Mode} {ops : Array Oper} {Q : Exit → Act → World → Prop} {S : World → Prop}
/-- a region's last operation: a whole array is stored -/
theorem wpAnyH_store_last {i fuel : Nat} {o : Oper} {listed : Array Bool} {a : Act} {w : World} (hr : Region.ready md ops listed = [i]) (ho : ops[i]? = some o) (hg : o.guard = none) (hdst : o.dst = none) (T : TypeId) (x y : Operand) (hop : o.op = .store T x y)
    (b off m n : Nat) (f g : Nat → Value) (hx : a.eval x = .pointer (some ⟨b, off, none⟩)) (hy : a.eval y = Agg m g) (hb : Blk w b n f) (hi : (P.info? T).map (·.size) = some m) (hm : off + m ≤ n) (h1 : oneB g m)
    (hd : Region.ready md ops (listed.setIfInBounds i true) = [])
    (h : ∀ w1, Fr [b] w w1 → w1.heap.size = w.heap.size → Blk w1 b n (lay f off m g) → S w1 ∧ Q .normal (a.put none undef) w1) : wpAnyH P md ops Q S (fuel + 1) listed a w := by
  refine wpAnyH_ready hr (by simp) (AllReadyH.cons ho (fun K hK => ?_) AllReadyH.nil)
  rw [if_pos (by simp [Region.wanted, hg])]
  refine op_store_blk T x y hop b off m n f g hx hy hb hi hm h1 (fun w1 k1 k2 k3 => ?_)
  rw [hdst]
  exact hK.out _ _ (h w1 k1 k2 k3).1 (fun _ => wpAnyH_done hd (h w1 k1 k2 k3).2 _)
end

/-- what of a table stays: its rules, from number 0 on; the letters that derive the empty word; first signs -/
structure TB (w : World) (mb q cq fq : Nat) (rs : List Ru) (N : Nat → Bool) (T : Nat → Nat → Bool) : Prop where
  cL : w.cell? ⟨mb, 0, none⟩ = some (.slice (some ⟨q, 0, none⟩) rs.length cq)
  cN : NAt w mb 1 N
  cF : w.cell? ⟨mb, 129, none⟩ = some (.slice (some ⟨fq, 0, none⟩) 26 26)
  ru : RuAt w q rs
  lt : q < w.heap.size
  fT : Blk w fq 3328 (tF T)
  small : ∀ i (h : i < rs.length), rs[i].R.size ≤ 4
  lets : ∀ i (h : i < rs.length), ∀ j, j < rs[i].R.size → letB (ch rs[i].R j) = true
  len : rs.length ≤ 9
theorem TB.fr {S : List Nat} {w w' : World} {mb q cq fq : Nat} {rs : List Ru} {N : Nat → Bool} {T : Nat → Nat → Bool} (h : TB w mb q cq fq rs N T) (k : Fr S w w') (h1 : mb ∉ S) (h2 : q ∉ S) (h3 : fq ∉ S) : TB w' mb q cq fq rs N T :=
  ⟨k.cell h.cL h1, h.cN.fr k h1, k.cell h.cF h1, h.ru.fr k h2 h.lt, Nat.lt_of_lt_of_le h.lt k.size, h.fT.fr k h3, h.small, h.lets, h.len⟩
theorem TB.fr0 {w w' : World} {mb q cq fq : Nat} {rs : List Ru} {N : Nat → Bool} {T : Nat → Nat → Bool} (h : TB w mb q cq fq rs N T) (k : Fr [] w w') : TB w' mb q cq fq rs N T := h.fr k (by simp) (by simp) (by simp)

/-- the signs that can begin what comes behind place p of a rule, of which t comes behind it -/
def sgS (N : Nat → Bool) (T : Nat → Nat → Bool) (r : Ru) (p t : Nat) : Nat → Bool := fun x => beg N T ((bytes r.R).drop p) x || (((bytes r.R).drop p).all N && x == t)

end Go.Proofs.YtkglggkkbmmjkaaDoor
