import Derived.Test.YtkglggkkbmmjkaaDoorH17PItem
import Derived.Test.YtkglggkkbmmjkaaDoorH10RPut
namespace Go.Proofs.YtkglggkkbmmjkaaDoor
open Go.RowKit

def rwC (n d : Nat) (F : Nat → Value) : List Value := (List.range (n * d)).map F
theorem rwC_len (n d : Nat) (F : Nat → Value) : (rwC n d F).length = n * d := by simp [rwC]
theorem rwC_get (n d : Nat) (F : Nat → Value) (j : Nat) (h : j < n * d) : (rwC n d F)[j]? = some (F j) := by simp [rwC, h]
/-- a slice v of n elements, d cells each, in a block of its own from base on -/
def GRow (w : World) (base : Nat) (T : TypeId) (d : Nat) (v : Value) (n : Nat) (F : Nat → Value) : Prop := w.ownsRow base T d v n (rwC n d F)
theorem GRow.bt {w : World} {base g n m cap d : Nat} {T : TypeId} {F : Nat → Value} (h : GRow w base T d (.slice (some ⟨g, 0, none⟩) m cap) n F) : ∃ f, BT w g T (cap * d) f ∧ (∀ j, j < n * d → f j = F j) ∧ n ≤ cap ∧ cap ≤ maxLen ∧ base ≤ g ∧ m = n := by
  obtain ⟨h1, h2⟩ := h
  rcases h2 with ⟨h2, _⟩ | ⟨g', cap', cur, hv, hg, hh, hle, hmx, hsz, htk⟩
  · cases h2
  · cases hv
    refine ⟨fun i => cur.getD i undef, ?_, fun j hj => ?_, hle, hmx, hg, rfl⟩
    · unfold BT
      rw [hh]
      congr 2
      apply Array.ext
      · simp [hsz]
      · intro i h1 h2
        simp [h1]
    · have := rwC_get n d F j hj
      rw [← htk, List.getElem?_take, if_pos hj, Array.getElem?_toList] at this
      simp [this]
theorem GRow.of_bt {w : World} {base g cap n d : Nat} {T : TypeId} {f F : Nat → Value} (h : BT w g T (cap * d) f) (hf : ∀ j, j < n * d → f j = F j) (hc : n ≤ cap) (hx : cap ≤ maxLen) (hg : base ≤ g) :
    GRow w base T d (.slice (some ⟨g, 0, none⟩) n cap) n F := by
  refine ⟨rwC_len n d F, Or.inr ⟨g, cap, _, rfl, hg, h, hc, hx, by simp, ?_⟩⟩
  apply List.ext_getElem?
  intro j
  have hle : n * d ≤ cap * d := Nat.mul_le_mul_right _ hc
  rw [List.getElem?_take]
  by_cases hj : j < n * d
  · rw [if_pos hj, rwC_get n d F j hj, Array.getElem?_toList, Array.getElem?_ofFn, dif_pos (by omega), hf j hj]
  · rw [if_neg hj, List.getElem?_eq_none (by rw [rwC_len]; omega)]
theorem GRow.congr {w : World} {base n d : Nat} {T : TypeId} {v : Value} {F G : Nat → Value} (h : GRow w base T d v n F) (e : ∀ j, j < n * d → F j = G j) : GRow w base T d v n G := by
  have : rwC n d F = rwC n d G := List.map_congr_left fun j hj => e j (List.mem_range.1 hj)
  unfold GRow at *
  rw [← this]; exact h
/-- the cells of one element -/
theorem GRow.cs {w : World} {base g n m cap d : Nat} {T : TypeId} {F : Nat → Value} (h : GRow w base T d (.slice (some ⟨g, 0, none⟩) m cap) n F) (i : Nat) (hi : i < n) : CsAt w g (i * d) d (fun j => F (i * d + j)) := fun j hj => by
  obtain ⟨f, hB, hf, hc, _, _, _⟩ := h.bt
  have h1 : i * d + d ≤ n * d := by rw [← Nat.succ_mul]; exact Nat.mul_le_mul_right _ hi
  have h2 : n * d ≤ cap * d := Nat.mul_le_mul_right _ hc
  rw [hB.blk.cell _ (by omega), hf _ (by omega)]
theorem GRow.free {w : World} {base g n m cap d : Nat} {T : TypeId} {F : Nat → Value} (h : GRow w base T d (.slice (some ⟨g, 0, none⟩) m cap) n F) (k : Nat) : w.frozen? ⟨g, k, none⟩ = false := by
  obtain ⟨f, hB, _⟩ := h.bt
  exact hB.blk.free k
theorem BT.setCell {w : World} {b n : Nat} {T : TypeId} {f : Nat → Value} (h : BT w b T n f) (k : Nat) (v : Value) : BT (w.setCell ⟨b, k, none⟩ v) b T n (upd f k v) := by
  obtain ⟨T2, h2⟩ := h.blk.setCell k v
  have hT : ∃ cs, (w.setCell ⟨b, k, none⟩ v).heap[b]? = some (.cells cs T (0, 0)) := by
    unfold BT at h
    simp only [World.setCell, Array.getElem?_modify, if_true, h, Option.map_some]
    exact ⟨_, rfl⟩
  obtain ⟨cs, h3⟩ := hT
  rw [h2] at h3
  cases h3
  exact h2
/-- one cell is set -/
theorem GRow.setCell {w : World} {base g n m cap d : Nat} {T : TypeId} {F : Nat → Value} (h : GRow w base T d (.slice (some ⟨g, 0, none⟩) m cap) n F) (k : Nat) (v : Value) : GRow (w.setCell ⟨g, k, none⟩ v) base T d (.slice (some ⟨g, 0, none⟩) m cap) n (upd F k v) := by
  obtain ⟨f, hB, hf, hc, hx, hg, rfl⟩ := h.bt
  exact GRow.of_bt (hB.setCell k v) (fun j hj => by unfold upd; split <;> simp_all) hc hx hg
theorem GRow.fr {S : List Nat} {w w' : World} {base n d : Nat} {T : TypeId} {v : Value} {F : Nat → Value} (h : GRow w base T d v n F) (k : Fr S w w') (hS : ∀ g, v.ownBlock = some g → g ∉ S) : GRow w' base T d v n F := ownsRow_fr' h k hS
theorem GRow.nil (w : World) (base d : Nat) (T : TypeId) (F : Nat → Value) : GRow w base T d (.slice none 0 0) 0 F := by
  unfold GRow
  have : rwC 0 d F = [] := by simp [rwC]
  rw [this]; exact World.ownsRow_nil _ _ _ _
theorem GRow.lt {w : World} {base n d : Nat} {T : TypeId} {v : Value} {F : Nat → Value} (h : GRow w base T d v n F) {g : Nat} (hg : v.ownBlock = some g) : base ≤ g ∧ g < w.heap.size := World.ownsRow.lt h g hg
theorem GRow.form {w : World} {base n d : Nat} {T : TypeId} {v : Value} {F : Nat → Value} (h : GRow w base T d v n F) (hn : 0 < n) : ∃ g cap, v = .slice (some ⟨g, 0, none⟩) n cap := by
  obtain ⟨h1, h2⟩ := h
  rcases h2 with ⟨_, h2⟩ | ⟨g', cap', cur, hv, _⟩
  · omega
  · exact ⟨g', cap', hv⟩

section
variable {P : Program} {o : Oper} {a : Act} {w : World} {Q : Exit → Act → World → Prop} {K : Act → World → Prop}
theorem foldl_set (l : List Value) : ∀ (k : Nat) (A : Array Value), ((l.zipIdx k).foldl (fun cs (x : Value × Nat) => cs.setIfInBounds x.2 x.1) A).size = A.size ∧ ∀ i, ((l.zipIdx k).foldl (fun cs (x : Value × Nat) => cs.setIfInBounds x.2 x.1) A)[i]? = if k ≤ i ∧ i < k + l.length ∧ i < A.size then l[i - k]? else A[i]? := by
  induction l with
  | nil => intro k A; exact ⟨rfl, fun i => by simp; intro h1 h2; omega⟩
  | cons x l ih =>
    intro k A
    rw [List.zipIdx_cons, List.foldl_cons]
    obtain ⟨h1, h2⟩ := ih (k + 1) (A.setIfInBounds k x)
    refine ⟨by rw [h1]; simp, fun i => ?_⟩
    rw [h2, Array.size_setIfInBounds]
    by_cases hk : i = k
    · subst hk
      rw [if_neg (by omega)]
      by_cases hs : i < A.size
      · rw [if_pos ⟨Nat.le_refl _, by simp, hs⟩, Array.getElem?_setIfInBounds]; simp [hs]
      · rw [if_neg (by omega), Array.getElem?_setIfInBounds]; simp [hs]
    · by_cases hr : k ≤ i ∧ i < k + (x :: l).length ∧ i < A.size
      · have h3 : k + 1 ≤ i ∧ i < k + 1 + l.length ∧ i < A.size := by
          have := hr.2.1; rw [List.length_cons] at this; omega
        rw [if_pos hr, if_pos h3, show i - k = (i - (k + 1)) + 1 from by omega, List.getElem?_cons_succ]
      · have h3 : ¬ (k + 1 ≤ i ∧ i < k + 1 + l.length ∧ i < A.size) := by
          intro h; apply hr; rw [List.length_cons]; omega
        rw [if_neg hr, if_neg h3, Array.getElem?_setIfInBounds, if_neg (by omega)]
theorem fill_one (m : Nat) (g : Nat → Value) (A : Array Value) (hA : A.size = m) : Instr.fill (fun i => some (i * m, m)) A [(0, Agg m g)] = some (Array.ofFn (n := m) fun i => g i.val) := by
  have hc : (Agg m g).cells = Array.ofFn (n := m) fun i => g i.val := rfl
  simp only [Instr.fill, hc, Array.size_ofFn, Nat.zero_mul, Nat.zero_add, hA]
  simp only [ne_eq, not_true_eq_false, decide_false, gt_iff_lt, Nat.lt_irrefl, Bool.or_false, Bool.false_eq_true, if_false, Option.some.injEq]
  obtain ⟨B, hB⟩ : ∃ B : Array Value, (Array.ofFn (n := m) fun i => g i.val) = B := ⟨_, rfl⟩
  have hs : B.size = m := by rw [← hB]; simp
  rw [hB, ← Array.foldl_toList, Array.toList_zipIdx]
  obtain ⟨h1, h2⟩ := foldl_set B.toList 0 A
  apply Array.ext_getElem?
  intro i
  rw [h2, Nat.zero_add, Array.length_toList, Nat.sub_zero, Array.getElem?_toList]
  by_cases hi : i < m
  · rw [if_pos (by omega)]
  · rw [if_neg (by omega), Array.getElem?_eq_none (by omega), Array.getElem?_eq_none (by omega)]
theorem run_buildSlice_one (t e : TypeId) (m : Nat) (g : Nat → Value) (z : Value) (w : World) (ht : P.underlying t = some (.slice e)) (hm : (P.info? e).map (·.size) = some m) (hz : (P.info? e).bind (·.zero) = some z) (hm0 : 0 < m) (hm1 : m ≤ 16777216) (hzs : z.cells.size = m) :
    (Instr.buildSlice t 1 #[(0, Agg m g)]).run P w = .ok (.slice (some ⟨w.heap.size, 0, none⟩) 1 1) (w.alloc (.cells (Array.ofFn (n := m) fun i => g i.val) e)) := by
  cases hq : P.info? e with
  | none => simp [hq] at hm
  | some i =>
    have hm' : i.size = m := by simpa [hq] using hm
    have hz' : i.zero = some z := by simpa [hq] using hz
    have hsz : (sizeOf e).run P w = .ok m w := by rw [run_sizeOf w hq]; simp [Program.cellsOf, hq, hm']
    have hzv : (zeroValue e).run P w = .ok z w := by simp [zeroValue, typeInfo, hq, hz', Sem.run_bind]
    have hf := fill_one m g ((Array.range (1 * m)).map (z.cells[· % z.cells.size]!)) (by simp)
    simp only [Instr.buildSlice, Sem.run_bind, run_underlying ht, Result.andThen_ok, hsz]
    rw [if_neg (by omega)]
    rw [if_neg (by omega)]
    simp only [Sem.run_bind, hzv, Result.andThen_ok, Sem.run_pure]
    rw [hf]
    simp [newRow, newObj]
    rfl
/-- a slice of one wide element -/
theorem op_buildSlice_one (t e : TypeId) (x : Operand) (ho : o.op = .buildSlice t 1 #[(0, x)]) (d : Option Tmp) (hd : o.dst = d) (m : Nat) (g : Nat → Value) (z : Value) (hx : a.eval x = Agg m g)
    (ht : P.underlying t = some (.slice e)) (hm : (P.info? e).map (·.size) = some m) (hz : (P.info? e).bind (·.zero) = some z) (hm0 : 0 < m) (hm1 : m ≤ 16777216) (hzs : z.cells.size = m)
    (h : ∀ w1, Fr [] w w1 → w1.heap.size = w.heap.size + 1 → Blk w1 w.heap.size m g → K (a.put d (.slice (some ⟨w.heap.size, 0, none⟩) 1 1)) w1) : Oper.wp P o a w K Q := by
  subst hd
  have hrun := run_buildSlice_one (P := P) t e m g z w ht hm hz hm0 hm1 hzs
  unfold Oper.wp
  have hmap : (#[(0, x)] : Array (Nat × Operand)).map (fun (i, x) => (i, a.eval x)) = #[(0, Agg m g)] := by simp [hx]
  simp only [execOp, ho, hmap, Sem.run_bind, hrun, Result.andThen_ok, Sem.run_pure, Oper.upon]
  exact h _ ((Fr.refl _ _).alloc _) (by simp) (Blk.new w m g e)
end
end Go.Proofs.YtkglggkkbmmjkaaDoor

namespace Go.Proofs.YtkglggkkbmmjkaaDoor
open Go.RowKit

structure Sd where
  A : Nat → Bool
  nx : Nat → Int
  core : Nat
def sd0 : Sd := ⟨fun _ => false, fun _ => 0, 0⟩
/-- a state's cells -/
def stF (s : Sd) : Nat → Value := fun i => if i < 1215 then .bool (s.A i) else if i < 1267 then .int .i64 (s.nx (i - 1215)) else .int .i64 (s.core : Nat)
def sget (S : List Sd) (i : Nat) : Sd := S.getD i sd0
def rwF (S : List Sd) : Nat → Value := fun j => stF (sget S (j / 1268)) (j % 1268)
theorem rwF_at (S : List Sd) (i j : Nat) (hj : j < 1268) : rwF S (i * 1268 + j) = stF (sget S i) j := by
  unfold rwF
  rw [show (i * 1268 + j) / 1268 = i from by omega, show (i * 1268 + j) % 1268 = j from by omega]
theorem stF_A (s : Sd) (i : Nat) (h : i < 1215) : stF s i = .bool (s.A i) := by unfold stF; rw [if_pos h]
theorem oneB_stF (s : Sd) (m : Nat) : oneB (stF s) m := fun i _ => by
  unfold stF; split
  · rfl
  · split <;> rfl
theorem Tryd.zeroState : (Tryd.prog.info? 102).bind (·.zero) = some (Agg 1268 (stF sd0)) := by kernel_rfl
theorem Tryd.sizeState : (Tryd.prog.info? 102).map (·.size) = some 1268 := by kernel_rfl
end Go.Proofs.YtkglggkkbmmjkaaDoor
