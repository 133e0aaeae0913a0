import Derived.Test.YtkglggkkbmmjkaaDoorRows
import Derived.WalkKit
import Derived.WalkSpells
import Derived.WalkLawsBesides
import Derived.Deep.MidRow
namespace Go.Proofs.YtkglggkkbmmjkaaDoor
open Go.RowKit

theorem hide {p : Prop} (h : p) : Hid p := h
theorem unhide {p : Prop} (h : Hid p) : p := h

/-- An array or struct of n cells, as a value. -/
def Agg (n : Nat) (f : Nat → Value) : Value := .agg (Array.ofFn (n := n) fun i => f i.val)

/-- Block b has n cells: f 0, f 1, ..; none is frozen. -/
def Blk (w : World) (b n : Nat) (f : Nat → Value) : Prop := ∃ T, w.heap[b]? = some (.cells (Array.ofFn (n := n) fun i => f i.val) T (0, 0))

/-- w' is w but for the blocks of S and for new ones. -/
structure Fr (S : List Nat) (w w' : World) : Prop where
  os : w'.os = w.os
  tape : w'.tape = w.tape
  output : w'.output = w.output
  size : w.heap.size ≤ w'.heap.size
  block : ∀ k, k < w.heap.size → k ∉ S → w'.heap[k]? = w.heap[k]?

theorem Fr.refl (S : List Nat) (w : World) : Fr S w w := ⟨rfl, rfl, rfl, Nat.le_refl _, fun _ _ _ => rfl⟩

theorem Fr.trans {S S' : List Nat} {a b c : World} (h : Fr S a b) (k : Fr S' b c) (hs : ∀ x ∈ S', x ∈ S ∨ a.heap.size ≤ x) : Fr S a c :=
  ⟨k.os.trans h.os, k.tape.trans h.tape, k.output.trans h.output, Nat.le_trans h.size k.size, fun i hi hn => by
    rw [k.block i (Nat.lt_of_lt_of_le hi h.size) (fun hm => by rcases hs i hm with h1 | h1; exact hn h1; omega), h.block i hi hn]⟩

theorem Fr.trans0 {S : List Nat} {a b c : World} (h : Fr S a b) (k : Fr [] b c) : Fr S a c := h.trans k (by simp)
theorem Fr.trans1 {S : List Nat} {a b c : World} {x : Nat} (h : Fr S a b) (k : Fr [x] b c) (hx : x ∈ S ∨ a.heap.size ≤ x) : Fr S a c :=
  h.trans k (by simpa using hx)
theorem Fr.weak {S S' : List Nat} {a b : World} (h : Fr S a b) (hs : ∀ x ∈ S, x ∈ S') : Fr S' a b :=
  ⟨h.os, h.tape, h.output, h.size, fun i hi hn => h.block i hi (fun hm => hn (hs i hm))⟩

theorem Fr.alloc {S : List Nat} {a w : World} (h : Fr S a w) (o : Obj) : Fr S a (w.alloc o) :=
  h.trans0 ⟨rfl, rfl, rfl, by simp, fun k hk _ => Below.heap_alloc _ _ _ hk⟩
theorem Fr.drew {S : List Nat} {a w : World} (h : Fr S a w) : Fr S a w.drew := ⟨h.os, h.tape, h.output, h.size, h.block⟩
theorem Fr.setCell {S : List Nat} {a w : World} (h : Fr S a w) (p : Addr) (hp : p.block ∈ S ∨ a.heap.size ≤ p.block) (u : Value) : Fr S a (w.setCell p u) :=
  h.trans1 (x := p.block) ⟨rfl, rfl, rfl, by simp [World.setCell], fun k _ hn => Below.heap_setCell _ _ _ _ (by simpa using hn)⟩ hp
theorem Fr.below {w w' : World} (h : Fr [] w w') : Below w.heap.size w w' := ⟨h.os, h.tape, h.output, h.size, fun k hk => h.block k hk (by simp)⟩
theorem Fr.of_grown {S : List Nat} {a w w' : World} {row : Option Nat} (h : Fr S a w) (hg : w.grownBy w' row) (hr : ∀ k, row = some k → k ∈ S ∨ a.heap.size ≤ k) : Fr S a w' := by
  refine h.trans (S' := row.toList) ⟨hg.os, hg.tape, hg.output, hg.size, fun k hk hn => hg.block k hk (fun e => hn (by simp [← e]))⟩ ?_
  intro x hx
  exact hr x (by simpa using hx)

theorem Blk.lt {w : World} {b n : Nat} {f : Nat → Value} (h : Blk w b n f) : b < w.heap.size := by
  obtain ⟨T, h⟩ := h
  rcases Nat.lt_or_ge b w.heap.size with h1 | h1
  · exact h1
  · rw [Array.getElem?_eq_none h1] at h; cases h
theorem Blk.cell {w : World} {b n : Nat} {f : Nat → Value} (h : Blk w b n f) (k : Nat) (hk : k < n) : w.cell? ⟨b, k, none⟩ = some (f k) := by
  obtain ⟨T, h⟩ := h
  simp [World.cell?, h, hk]
theorem Blk.free {w : World} {b n : Nat} {f : Nat → Value} (h : Blk w b n f) (k : Nat) : w.frozen? ⟨b, k, none⟩ = false := by
  obtain ⟨T, h⟩ := h
  simp [World.frozen?, h]
theorem Blk.fr {S : List Nat} {w w' : World} {b n : Nat} {f : Nat → Value} (h : Blk w b n f) (k : Fr S w w') (hb : b ∉ S) : Blk w' b n f := by
  obtain ⟨T, e⟩ := h
  exact ⟨T, by rw [k.block b (Blk.lt ⟨T, e⟩) hb, e]⟩
theorem Blk.fr0 {w w' : World} {b n : Nat} {f : Nat → Value} (h : Blk w b n f) (k : Fr [] w w') : Blk w' b n f := h.fr k (by simp)
theorem Blk.fr1 {w w' : World} {b x n : Nat} {f : Nat → Value} (h : Blk w b n f) (k : Fr [x] w w') (hb : b ≠ x) : Blk w' b n f := h.fr k (by simpa using hb)
theorem Blk.congr {w : World} {b n : Nat} {f g : Nat → Value} (h : Blk w b n f) (e : ∀ i, i < n → f i = g i) : Blk w b n g := by
  obtain ⟨T, h⟩ := h
  refine ⟨T, ?_⟩
  rw [h, show (Array.ofFn (n := n) fun i => f i.val) = Array.ofFn (n := n) fun i => g i.val from by congr 1; funext i; exact e i.1 i.2]
theorem Agg.congr {n : Nat} {f g : Nat → Value} (e : ∀ i, i < n → f i = g i) : Agg n f = Agg n g := by
  unfold Agg
  rw [show (fun i : Fin n => f i.val) = fun i : Fin n => g i.val from by funext i; exact e i.1 i.2]
theorem Blk.drew {w : World} {b n : Nat} {f : Nat → Value} (h : Blk w b n f) : Blk w.drew b n f := h
theorem Blk.alloc {w : World} {b n : Nat} {f : Nat → Value} (h : Blk w b n f) (o : Obj) : Blk (w.alloc o) b n f := h.fr0 ((Fr.refl _ _).alloc o)
theorem Blk.new (w : World) (n : Nat) (f : Nat → Value) (T : TypeId) : Blk (w.alloc (.cells (Array.ofFn (n := n) fun i => f i.val) T)) w.heap.size n f :=
  ⟨T, by show (w.heap.push _)[w.heap.size]? = _; simp⟩
theorem Blk.newArr (w : World) (A : Array Value) (T : TypeId) (n : Nat) (f : Nat → Value) (hn : A.size = n) (hf : ∀ i (h : i < A.size), A[i] = f i) : Blk (w.alloc (.cells A T)) w.heap.size n f := by
  refine ⟨T, ?_⟩
  show (w.heap.push _)[w.heap.size]? = _
  subst hn
  simp only [Array.getElem?_push_size, Option.some.injEq, Obj.cells.injEq, and_true]
  apply Array.ext
  · simp
  · intro i h1 h2; simp [hf i h1]

theorem Blk.grown {w w' : World} {row : Option Nat} {b n : Nat} {f : Nat → Value} (h : Blk w b n f) (hg : w.grownBy w' row) (hne : some b ≠ row) : Blk w' b n f := by
  obtain ⟨T, e⟩ := h
  exact ⟨T, by rw [hg.block b (Blk.lt ⟨T, e⟩) hne, e]⟩

theorem ownsRow_fr {S : List Nat} {w w' : World} {base : Nat} {e : TypeId} {size : Nat} {v : Value} {n : Nat} {xs : List Value} (h : w.ownsRow base e size v n xs) (k : Fr S w w') (hS : ∀ x ∈ S, x < base) : w'.ownsRow base e size v n xs := by
  obtain ⟨h1, h2⟩ := h
  refine ⟨h1, ?_⟩
  rcases h2 with h2 | ⟨g, cap, cur, hv, hg, hh, r⟩
  · exact Or.inl h2
  · have hlt : g < w.heap.size := by
      rcases Nat.lt_or_ge g w.heap.size with h | h
      · exact h
      · rw [Array.getElem?_eq_none h] at hh; cases hh
    exact Or.inr ⟨g, cap, cur, hv, hg, by rw [k.block g hlt (fun hm => by have := hS g hm; omega)]; exact hh, r⟩
theorem Fr.belowOf {S : List Nat} {w w' : World} {B : Nat} (h : Fr S w w') (hS : ∀ x ∈ S, B ≤ x) (hB : B ≤ w.heap.size) : Below B w w' :=
  ⟨h.os, h.tape, h.output, h.size, fun k hk => h.block k (by omega) (fun hm => by have := hS k hm; omega)⟩

def upd (f : Nat → Value) (k : Nat) (v : Value) : Nat → Value := fun i => if i = k then v else f i

theorem Blk.setCell {w : World} {b n : Nat} {f : Nat → Value} (h : Blk w b n f) (k : Nat) (v : Value) : Blk (w.setCell ⟨b, k, none⟩ v) b n (upd f k v) := by
  obtain ⟨T, h⟩ := h
  refine ⟨T, ?_⟩
  simp only [World.setCell, Array.getElem?_modify, if_true, h, Option.map_some, Option.some.injEq]
  congr 1
  simp only [Option.isSome_none, Bool.false_eq_true, if_false]
  apply Array.ext
  · simp
  · intro i h1 h2
    simp [upd]
    split <;> simp_all [eq_comm]
theorem Blk.setCell_ne {w : World} {b n : Nat} {f : Nat → Value} (h : Blk w b n f) (p : Addr) (hp : p.block ≠ b) (v : Value) : Blk (w.setCell p v) b n f :=
  h.fr ((Fr.refl [p.block] _).setCell p (by simp) v) (by simpa using fun e => hp e.symm)

/-- f with m cells of g laid from o on. -/
def lay (f : Nat → Value) (o m : Nat) (g : Nat → Value) : Nat → Value := fun i => if o ≤ i ∧ i < o + m then g (i - o) else f i

theorem Blk.setCells {b n : Nat} : ∀ (vs : List Value) (o : Nat) (w : World) (f : Nat → Value), Blk w b n f → Blk (w.setCells b o vs) b n (lay f o vs.length fun i => vs.getD i default)
  | [], o, w, f, h => h.congr fun i _ => by simp [lay]; intro h1 h2; omega
  | v :: r, o, w, f, h => by
    rw [World.setCells]
    refine (Blk.setCells r (o + 1) _ _ (h.setCell o v)).congr fun i _ => ?_
    simp only [lay, upd, List.length_cons]
    rcases Nat.lt_trichotomy i o with h1 | h1 | h1
    · rw [if_neg (by omega), if_neg (by omega), if_neg (by omega)]
    · subst h1; rw [if_neg (by omega), if_pos rfl, if_pos (by omega)]; simp
    · by_cases h2 : i < o + 1 + r.length
      · rw [if_pos (by omega), if_pos (by omega)]
        rw [show i - o = (i - (o + 1)) + 1 from by omega]; simp
      · rw [if_neg (by omega), if_neg (by omega), if_neg (by omega)]

theorem setCells_fr (b : Nat) : ∀ (vs : List Value) (o : Nat) (w : World), Fr [b] w (w.setCells b o vs) ∧ (w.setCells b o vs).heap.size = w.heap.size
  | [], _, w => ⟨Fr.refl _ _, rfl⟩
  | v :: r, o, w => by
    rw [World.setCells]
    obtain ⟨h1, h2⟩ := setCells_fr b r (o + 1) (w.setCell ⟨b, o, none⟩ v)
    exact ⟨((Fr.refl [b] w).setCell ⟨b, o, none⟩ (by simp) v).trans h1 (by simp), by rw [h2]; simp [World.setCell]⟩

section
variable {P : Program} {ops : Array Oper} {rest : List Oper} {o : Oper} {a : Act} {w : World} {Q : Exit → Act → World → Prop}

/-- 'var x T', T an array or struct: a new block with the zero value's cells. -/
theorem wpList_alloc_blk (hgd : o.guard = none) (T : TypeId) (ho : o.op = .alloc T) (d : Option Tmp) (hd : o.dst = d) (n : Nat) (z : Nat → Value)
    (hz : (P.info? T).bind (·.zero) = some (Agg n z))
    (h : ∀ w1, Fr [] w w1 → w1.heap.size = w.heap.size + 1 → Blk w1 w.heap.size n z → wpList P ops Q rest (a.put d (.pointer (some ⟨w.heap.size, 0, none⟩))) w1) :
    wpList P ops Q (o :: rest) a w := by
  subst hd
  refine wpList_plain hgd fun K hK => ?_
  have hrun : (Instr.alloc T true (.tuple #[])).run P w = .ok (.pointer (some ⟨w.heap.size, 0, none⟩)) (w.alloc (.cells (Array.ofFn (n := n) fun i => z i.val) T)) := by
    cases hq : P.info? T with
    | none => simp [hq] at hz
    | some i =>
      have hz' : i.zero = some (Agg n z) := by simpa [hq] using hz
      simp [Instr.alloc, zeroValue, typeInfo, hq, hz', newVar, newRow, newObj, Agg, Value.cells, Sem.run_bind]
      rfl
  unfold Oper.wp
  simp only [execOp, ho, Sem.run_bind, hrun, Result.andThen_ok, Sem.run_pure, Oper.upon]
  exact hK _ _ (h _ ((Fr.refl _ _).alloc _) (by simp) (Blk.new w n z T))

/-- A struct parameter, boxed: a new block with its cells. -/
theorem wpList_box_blk (hgd : o.guard = none) (T : TypeId) (x : Operand) (ho : o.op = .box T x) (d : Option Tmp) (hd : o.dst = d) (n : Nat) (z : Nat → Value) (hx : a.eval x = Agg n z)
    (h : ∀ w1, Fr [] w w1 → w1.heap.size = w.heap.size + 1 → Blk w1 w.heap.size n z → wpList P ops Q rest (a.put d (.pointer (some ⟨w.heap.size, 0, none⟩))) w1) :
    wpList P ops Q (o :: rest) a w := by
  subst hd
  refine wpList_plain hgd fun K hK => ?_
  have hrun : (Instr.box T (Agg n z)).run P w = .ok (.pointer (some ⟨w.heap.size, 0, none⟩)) (w.alloc (.cells (Array.ofFn (n := n) fun i => z i.val) T)) := by
    simp [Instr.box, newVar, newRow, newObj, Agg, Value.cells]
    rfl
  unfold Oper.wp
  simp only [execOp, ho, hx, Sem.run_bind, hrun, Result.andThen_ok, Sem.run_pure, Oper.upon]
  exact hK _ _ (h _ ((Fr.refl _ _).alloc _) (by simp) (Blk.new w n z T))

theorem run_loadVar_blk (T : TypeId) (b off m n : Nat) (f : Nat → Value) (d : TypeDesc) (hb : Blk w b n f)
    (hu : P.underlying T = some d) (hd : d.isRow = true) (hi : (P.info? T).map (·.size) = some m) (hm : off + m ≤ n) :
    (loadVar T ⟨b, off, none⟩).run P w = .ok (Agg m fun i => f (off + i)) w := by
  have := run_loadVar_mid (P := P) w b off T (Array.ofFn (n := m) fun i => f (off + i.val)).toList d (fun j v hv => by
    simp only [Array.getElem?_toList, Array.getElem?_ofFn] at hv
    split at hv
    · cases hv; exact hb.cell _ (by omega)
    · cases hv) hu hd (by simpa using hi)
  rw [this]; rfl

/-- A whole array or struct is read. -/
theorem wpList_load_blk (hgd : o.guard = none) (T : TypeId) (x : Operand) (ho : o.op = .load T x) (dd : Option Tmp) (hdd : o.dst = dd) (b off m n : Nat) (f : Nat → Value) (d : TypeDesc)
    (hx : a.eval x = .pointer (some ⟨b, off, none⟩)) (hb : Blk w b n f)
    (hu : P.underlying T = some d) (hd : d.isRow = true) (hi : (P.info? T).map (·.size) = some m) (hm : off + m ≤ n)
    (h : wpList P ops Q rest (a.put dd (Agg m fun i => f (off + i))) w) :
    wpList P ops Q (o :: rest) a w := by
  subst hdd
  refine wpList_plain hgd fun K hK => ?_
  unfold Oper.wp
  simp only [execOp, ho, hx, Instr.loadAt, Instr.sureAddr, Sem.run_bind, Sem.run_pure, Result.andThen_ok, run_loadVar_blk T b off m n f d hb hu hd hi hm, Oper.upon]
  exact hK _ _ h

def oneB (f : Nat → Value) (m : Nat) : Prop := ∀ i, i < m → (f i).oneCell' = true

/-- A whole array or struct is stored into a block. -/
theorem wpList_store_blk (hgd : o.guard = none) (T : TypeId) (x y : Operand) (ho : o.op = .store T x y) (b off m n : Nat) (f g : Nat → Value)
    (hx : a.eval x = .pointer (some ⟨b, off, none⟩)) (hy : a.eval y = Agg m g) (hb : Blk w b n f) (hi : (P.info? T).map (·.size) = some m) (hm : off + m ≤ n) (h1 : oneB g m)
    (h : ∀ w1, Fr [b] w w1 → w1.heap.size = w.heap.size → Blk w1 b n (lay f off m g) → wpList P ops Q rest (a.put o.dst undef) w1) :
    wpList P ops Q (o :: rest) a w := by
  refine wpList_plain hgd fun K hK => ?_
  have hrun := run_storeVar_mid (P := P) w b off T (Array.ofFn (n := m) fun i => g i.val) (fun j hj => by
    rw [hb.cell _ (by simp at hj; omega), hb.free]; exact ⟨rfl, rfl⟩) (by simpa using hi)
    (Array.all_eq_true_iff_forall_mem.2 (fun v hv => by
      obtain ⟨i, rfl⟩ := Array.mem_ofFn.1 hv
      exact h1 i.1 i.2))
  have hl := setCells_fr b (Array.ofFn (n := m) fun i => g i.val).toList off w
  have hB := (Blk.setCells (Array.ofFn (n := m) fun i => g i.val).toList off w f hb).congr (g := lay f off m g) fun i _ => by
    simp only [lay, Array.length_toList, Array.size_ofFn]
    split
    · rename_i hh
      simp only [List.getD_eq_getElem?_getD, Array.getElem?_toList, Array.getElem?_ofFn]
      rw [dif_pos (by omega)]; rfl
    · rfl
  unfold Oper.wp
  simp only [execOp, ho, hx, hy, Agg, Instr.storeAt, Instr.sureAddr, Sem.run_bind, Sem.run_pure, Result.andThen_ok, hrun, Oper.upon]
  exact hK _ _ (h _ hl.1 hl.2 hB)

/-- A result that lies in a variable. -/
theorem results_cell {fn : Func} {p : Tmp} {ty : TypeId} (h : fn.results = #[.cell p ty]) (tmps : Array Value) (b : Nat) (hp : tmps.getD p undef = .pointer (some ⟨b, 0, none⟩)) (m n : Nat) (f : Nat → Value) (d : TypeDesc) (hb : Blk w b n f)
    (hu : P.underlying ty = some d) (hd : d.isRow = true) (hi : (P.info? ty).map (·.size) = some m) (hm : m ≤ n) :
    (results fn tmps).run P w = .ok (Agg m f) w := by
  have := run_loadVar_blk (P := P) ty b 0 m n f d hb hu hd hi (by omega)
  simp only [Nat.zero_add] at this
  have hp' : tmps[p]?.getD undef = .pointer (some ⟨b, 0, none⟩) := by simpa using hp
  simp only [results, h]
  simp [hp', this, asAddr]
end

end Go.Proofs.YtkglggkkbmmjkaaDoor

namespace Go.Proofs.YtkglggkkbmmjkaaDoor
open Go.RowKit

def bigB (c : Nat) : Bool := decide (65 ≤ c) && decide (c ≤ 90)
def smallB (c : Nat) : Bool := decide (97 ≤ c) && decide (c ≤ 122)
def letB (c : Nat) : Bool := bigB c || smallB c
theorem bigB_iff {c : Nat} : bigB c = true ↔ 65 ≤ c ∧ c ≤ 90 := by simp [bigB]
theorem smallB_iff {c : Nat} : smallB c = true ↔ 97 ≤ c ∧ c ≤ 122 := by simp [smallB]
theorem not_big_of_small {c : Nat} (h : smallB c = true) : bigB c = false := by
  have := smallB_iff.1 h
  simp [bigB]; omega
theorem bigB_int (c : Nat) : bigB c = (decide ((65 : Int) ≤ c) && decide ((c : Int) ≤ 90)) := by
  rw [Bool.eq_iff_iff]; simp [bigB]; omega
theorem smallB_int (c : Nat) : smallB c = (decide ((97 : Int) ≤ c) && decide ((c : Int) ≤ 122)) := by
  rw [Bool.eq_iff_iff]; simp [smallB]; omega
def hasB (S : Nat → Bool) (c : Nat) : Bool := bigB c && S c
def ins (S : Nat → Bool) (c : Nat) : Nat → Bool := fun x => S x || x == c
def insB (S : Nat → Bool) (c : Nat) : Nat → Bool := fun x => S x || (bigB c && x == c)
/-- a byte of a word that vanishes -/
def vanB (S : Nat → Bool) (sm : Bool) (c : Nat) : Bool := (sm && smallB c) || hasB S c

def bytes (s : ByteArray) : List Nat := s.data.toList.map UInt8.toNat
def ch (t : ByteArray) (i : Nat) : Nat := if h : i < t.size then t[i].toNat else 0
theorem ch_eq (t : ByteArray) (i : Nat) (h : i < t.size) : ch t i = t[i].toNat := by simp [ch, h]
theorem bytes_len (s : ByteArray) : (bytes s).length = s.size := by simp [bytes]
theorem bytes_get (s : ByteArray) (k : Nat) (h : k < (bytes s).length) : (bytes s)[k] = ch s k := by
  rw [ch_eq s k (by rw [← bytes_len]; exact h)]
  simp [bytes]; rfl
theorem bytes_snoc (s : ByteArray) (k : Nat) (h : k < s.size) : (bytes s).take (k + 1) = (bytes s).take k ++ [ch s k] := by
  rw [List.take_succ_eq_append_getElem (by rw [bytes_len]; exact h), bytes_get]
theorem bytes_take_all (s : ByteArray) (k : Nat) (h : s.size ≤ k) : (bytes s).take k = bytes s := List.take_of_length_le (by rw [bytes_len]; exact h)

/-- a rule: its letter, its right side, its place -/
structure Ru where
  L : Nat
  R : ByteArray
  A : Nat

def runEnd (t : ByteArray) : Nat → Nat → Nat
  | 0, i => i
  | f + 1, i => if i < t.size ∧ letB (ch t i) = true then runEnd t f (i + 1) else i

/-- the rules so far; the place where it ends; is it a grammar? -/
def parse (t : ByteArray) : Nat → Nat → List Ru → List Ru × Nat × Bool
  | 0, i, acc => (acc, i, false)
  | f + 1, i, acc =>
    if i < t.size ∧ bigB (ch t i) = true then
      if i + 1 < t.size ∧ ch t (i + 1) = 61 then
        if runEnd t 4 (i + 2) < t.size then
          if f = 0 ∨ ch t (runEnd t 4 (i + 2)) ≠ 59 then (acc ++ [⟨ch t i, t.extract (i + 2) (runEnd t 4 (i + 2)), i⟩], runEnd t 4 (i + 2), false)
          else parse t f (runEnd t 4 (i + 2) + 1) (acc ++ [⟨ch t i, t.extract (i + 2) (runEnd t 4 (i + 2)), i⟩])
        else (acc ++ [⟨ch t i, t.extract (i + 2) (runEnd t 4 (i + 2)), i⟩], runEnd t 4 (i + 2), true)
      else (acc, i + 1, false)
    else (acc, i, false)

theorem runEnd_bd (t : ByteArray) : ∀ f i, i ≤ runEnd t f i ∧ runEnd t f i ≤ i + f ∧ (i ≤ t.size → runEnd t f i ≤ t.size)
  | 0, i => by simp [runEnd]
  | f + 1, i => by
    unfold runEnd
    split
    · have := runEnd_bd t f (i + 1); omega
    · omega

theorem runEnd_let (t : ByteArray) : ∀ f i j, i ≤ j → j < runEnd t f i → letB (ch t j) = true
  | 0, i, j, h1, h2 => by simp [runEnd] at h2; omega
  | f + 1, i, j, h1, h2 => by
    unfold runEnd at h2
    split at h2
    · rename_i h
      by_cases e : i = j
      · subst e; exact h.2
      · exact runEnd_let t f (i + 1) j (by omega) h2
    · omega

theorem ch_extract (t : ByteArray) (a b j : Nat) (h : j < b - a) (hb : b ≤ t.size) : ch (t.extract a b) j = ch t (a + j) := by
  have hs : (t.extract a b).size = b - a := by simp; omega
  rw [ch_eq _ _ (by omega), ch_eq _ _ (by omega)]
  simp [ByteArray.getElem_extract]

theorem ret_bool {a b : Bool} (h : a = b) : Ending.returned (.bool a) = .returned (.bool b) := by rw [h]
theorem ret_int {k : IntKind} {a b : Int} (h : a = b) : Ending.returned (.int k a) = .returned (.int k b) := by rw [h]

end Go.Proofs.YtkglggkkbmmjkaaDoor
