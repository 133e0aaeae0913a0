import Derived.Test.YtkglggkkbmmjkaaDoorH0Model
import Derived.Laws.StructEq
import Derived.ChangeKeysEq
import Derived.Test.YtkglggkkbmmjkaaDoorH5Table
namespace Go.Proofs.YtkglggkkbmmjkaaDoor
open Go.RowKit

section
variable {P : Program}

def boolF (A : Nat → Bool) : Nat → Value := fun i => .bool (A i)
/-- the first m cells are the same -/
def allB (m : Nat) (A B : Nat → Bool) : Bool := (List.range m).all fun i => A i == B i
theorem allB_iff {m : Nat} {A B : Nat → Bool} : allB m A B = true ↔ ∀ i, i < m → A i = B i := by simp [allB]
theorem allB_add (m k : Nat) (A B : Nat → Bool) : allB (m + k) A B = (allB m A B && allB k (fun i => A (m + i)) (fun i => B (m + i))) := by
  apply Bool.eq_iff_iff.2
  rw [Bool.and_eq_true, allB_iff, allB_iff, allB_iff]
  constructor
  · intro h
    exact ⟨fun i hi => h i (by omega), fun i hi => h (m + i) (by omega)⟩
  · intro ⟨h1, h2⟩ i hi
    by_cases e : i < m
    · exact h1 i e
    · have := h2 (i - m) (by omega)
      rw [show m + (i - m) = i from by omega] at this
      exact this

/-- values of a type of m cells, taken out of arrays of bools, are compared cell by cell -/
def EqT (P : Program) (d : Nat) (T : TypeId) (m : Nat) : Prop := P.cellsOf T = m ∧ (∃ i, P.info? T = some i) ∧ ∀ (A B : Nat → Bool) (n off : Nat) (w : World), off + m ≤ n →
  ∃ x y, (part T (Array.ofFn (n := n) fun i => boolF A i.val) off).run P w = .ok x w ∧ (part T (Array.ofFn (n := n) fun i => boolF B i.val) off).run P w = .ok y w ∧
    (Op.equalIn d T x y).run P w = .ok (allB m (fun i => A (off + i)) (fun i => B (off + i))) w

theorem eqT_bool (d : Nat) (T : TypeId) (h : P.underlying T = some .bool) (hc : P.cellsOf T = 1) : EqT P (d + 1) T 1 := by
  obtain ⟨i, hi⟩ := info_of_underlying h
  refine ⟨hc, ⟨i, hi⟩, fun A B n off w hn => ⟨.bool (A off), .bool (B off), ?_, ?_, ?_⟩⟩
  · simp only [part, isAgg, Sem.run_bind, run_underlying h, Result.andThen_ok, Sem.run_pure]
    simp [show off < n from by omega, boolF]
  · simp only [part, isAgg, Sem.run_bind, run_underlying h, Result.andThen_ok, Sem.run_pure]
    simp [show off < n from by omega, boolF]
  · rw [run_equalIn_bool' w d T _ _ h]
    simp [allB]

theorem extract_ofFn (f : Nat → Value) (n off m : Nat) (h : off + m ≤ n) : (Array.ofFn (n := n) fun i => f i.val).extract off (off + m) = Array.ofFn (n := m) fun i => f (off + i.val) := by
  apply Array.ext
  · simp; omega
  · intro i h1 h2
    simp

/-- an aggregate's part -/
theorem run_part_agg {T : TypeId} {d : TypeDesc} {i : TypeInfo} {m : Nat} (hu : P.underlying T = some d) (hd : d.isRow = true) (hi : P.info? T = some i) (hc : P.cellsOf T = m) (f : Nat → Value) (n off : Nat) (w : World) (h : off + m ≤ n) :
    (part T (Array.ofFn (n := n) fun i => f i.val) off).run P w = .ok (Agg m fun i => f (off + i)) w := by
  have : (isAgg T).run P w = .ok true w := by
    cases d <;> simp [TypeDesc.isRow] at hd <;> simp [isAgg, run_underlying hu]
  simp only [part, Sem.run_bind, this, Result.andThen_ok, if_true, run_sizeOf w hi, Sem.run_pure, hc, extract_ofFn f n off m h, Agg]

theorem eqT_struct {d : Nat} {T E : TypeId} {m : Nat} {f : Field} (h : EqT P d E m) (hu : P.underlying T = some (.struct #[f])) (hf : f.type = E) (hn : (f.name == "_") = false) (ho : f.offset = 0) (hp : P.stoodInHeld T = false) (hc : P.cellsOf T = m) : EqT P (d + 1) T m := by
  subst hf
  obtain ⟨i, hi⟩ := info_of_underlying hu
  refine ⟨hc, ⟨i, hi⟩, fun A B n off w hw => ⟨_, _, run_part_agg hu rfl hi hc _ n off w hw, run_part_agg hu rfl hi hc _ n off w hw, ?_⟩⟩
  obtain ⟨x, y, hx, hy, he⟩ := h.2.2 (fun i => A (off + i)) (fun i => B (off + i)) m 0 w (by omega)
  have hfo : P.fieldsOf T = #[f] := by simp [Program.fieldsOf, hu]
  unfold Agg
  rw [run_equalIn_struct w d T _ _ (by rw [hfo]; exact hu) hp, hfo]
  have hx' : (part f.type (Array.ofFn (n := m) fun i => boolF A (off + i.val)) f.offset).run P w = .ok x w := by rw [ho]; exact hx
  have hy' : (part f.type (Array.ofFn (n := m) fun i => boolF B (off + i.val)) f.offset).run P w = .ok y w := by rw [ho]; exact hy
  simp only [Nat.zero_add] at he
  have hne : f.name ≠ "_" := by simpa using hn
  simp only [Op.eqFields, if_pos hne, Sem.run_bind, hx', hy', Result.andThen_ok, he]
  cases allB m (fun i => A (off + i)) fun i => B (off + i) <;> simp

/-- the loop over an array's elements -/
def eqLoop (d : Nat) (E : TypeId) (n : Nat) (xs ys : Array Value) : List Nat → Sem Bool
  | [] => pure true
  | i :: l => do
    let a ← part E xs (i * n)
    let b ← part E ys (i * n)
    let r ← Op.equalIn d E a b
    if (!r) = true then pure false else eqLoop d E n xs ys l

theorem run_equalIn_array (w : World) (d : Nat) (T E : TypeId) (len m : Nat) (xs ys : Array Value) (hu : P.underlying T = some (.array len E)) (i : TypeInfo) (hi : P.info? E = some i) (hc : P.cellsOf E = m) :
    (Op.equalIn (d + 1) T (.agg xs) (.agg ys)).run P w = (eqLoop d E m xs ys (List.range' 0 len)).run P w := by
  simp only [Op.equalIn, Sem.run_bind, run_underlying hu, Result.andThen_ok, run_sizeOf w hi, hc]
  rw [Std.Legacy.Range.forIn_eq_forIn_range']
  simp only [Std.Legacy.Range.size, Nat.sub_zero, Nat.add_sub_cancel, Nat.div_one]
  generalize List.range' 0 len = l
  induction l generalizing w with
  | nil => simp [eqLoop]
  | cons f fs ih =>
    simp only [List.forIn_cons, eqLoop, Sem.run_bind]
    generalize (part E xs (f * m)).run P w = r1
    cases r1 with
    | ok a w1 =>
      simp only [Result.andThen_ok]
      generalize (part E ys (f * m)).run P w1 = r2
      cases r2 with
      | ok b w2 =>
        simp only [Result.andThen_ok]
        generalize (Op.equalIn d E a b).run P w2 = r3
        cases r3 with
        | ok r w3 =>
          cases r
          · simp
          · simp only [Result.andThen_ok, Bool.not_true, Bool.false_eq_true, if_false, Sem.run_pure]
            exact ih w3
        | halt x w3 => simp [Result.andThen]
      | halt x w2 => simp [Result.andThen]
    | halt x w1 => simp [Result.andThen]

theorem eqT_array {d : Nat} {T E : TypeId} {m len : Nat} (h : EqT P d E m) (hu : P.underlying T = some (.array len E)) (hc : P.cellsOf T = len * m) : EqT P (d + 1) T (len * m) := by
  obtain ⟨i, hi⟩ := info_of_underlying hu
  obtain ⟨hm, ⟨ie, hie⟩, he⟩ := h
  refine ⟨hc, ⟨i, hi⟩, fun A B n off w hw => ⟨_, _, run_part_agg hu rfl hi hc _ n off w hw, run_part_agg hu rfl hi hc _ n off w hw, ?_⟩⟩
  unfold Agg
  rw [run_equalIn_array w d T E len m _ _ hu ie hie hm]
  have key : ∀ k s, s + k = len → (eqLoop d E m (Array.ofFn (n := len * m) fun i => boolF A (off + i.val)) (Array.ofFn (n := len * m) fun i => boolF B (off + i.val)) (List.range' s k)).run P w = .ok (allB (k * m) (fun i => A (off + (s * m + i))) (fun i => B (off + (s * m + i)))) w := by
    intro k
    induction k with
    | zero => intro s _; simp [eqLoop, allB]
    | succ k ih =>
      intro s hs
      obtain ⟨x, y, hx, hy, hxy⟩ := he (fun i => A (off + i)) (fun i => B (off + i)) (len * m) (s * m) w (by
        have : (s + 1) * m ≤ len * m := Nat.mul_le_mul_right _ (by omega)
        rw [Nat.add_mul] at this; omega)
      have hx' : (part E (Array.ofFn (n := len * m) fun i => boolF A (off + i.val)) (s * m)).run P w = .ok x w := hx
      have hy' : (part E (Array.ofFn (n := len * m) fun i => boolF B (off + i.val)) (s * m)).run P w = .ok y w := hy
      rw [List.range'_succ]
      simp only [eqLoop, Sem.run_bind, hx', hy', hxy, Result.andThen_ok]
      rw [Nat.add_mul, Nat.one_mul, Nat.add_comm (k * m) m, allB_add]
      cases allB m (fun i => A (off + (s * m + i))) (fun i => B (off + (s * m + i)))
      · simp
      · simp only [Bool.not_true, Bool.false_eq_true, if_false, Bool.true_and]
        rw [ih (s + 1) (by omega)]
        simp only [Nat.add_mul, Nat.one_mul, Nat.add_assoc]
  rw [key len 0 (by omega)]
  simp only [Nat.zero_mul, Nat.zero_add]

/-- whole sets are compared -/
theorem EqT.run {T : TypeId} {m d : Nat} {i : TypeDesc} (h : EqT P d T m) (hu : P.underlying T = some i) (hr : i.isRow = true) (A B : Nat → Bool) (w : World) :
    (Op.equalIn d T (Agg m (boolF A)) (Agg m (boolF B))).run P w = .ok (allB m A B) w := by
  obtain ⟨hm, ⟨ie, hie⟩, he⟩ := h
  obtain ⟨x, y, hx, hy, hxy⟩ := he A B m 0 w (by omega)
  rw [run_part_agg hu hr hie hm _ m 0 w (by omega)] at hx hy
  simp only [Nat.zero_add] at hx hy hxy
  cases hx; cases hy
  exact hxy

/-- the operation == over sets -/
theorem run_eql_set {T : TypeId} {m : Nat} {i : TypeDesc} (h : EqT P 10000 T m) (hu : P.underlying T = some i) (hr : i.isRow = true) (A B : Nat → Bool) (w : World) :
    (binOp .eql T (Agg m (boolF A)) (Agg m (boolF B))).run P w = .ok (.bool (allB m A B)) w := by
  unfold Agg
  rw [run_eql_struct]
  have := h.run hu hr A B w
  unfold Agg at this
  rw [this]
  rfl

end
end Go.Proofs.YtkglggkkbmmjkaaDoor

namespace Go.Proofs.YtkglggkkbmmjkaaDoor
open Go.RowKit

/-- cells in a row -/
def CsAt (w : World) (b off m : Nat) (f : Nat → Value) : Prop := ∀ i, i < m → w.cell? ⟨b, off + i, none⟩ = some (f i)
theorem Blk.cs {w : World} {b n : Nat} {f : Nat → Value} (h : Blk w b n f) (off m : Nat) (hm : off + m ≤ n) : CsAt w b off m (fun i => f (off + i)) := fun i hi => h.cell _ (by omega)
theorem CsAt.congr {w : World} {b off m : Nat} {f g : Nat → Value} (h : CsAt w b off m f) (e : ∀ i, i < m → f i = g i) : CsAt w b off m g := fun i hi => by rw [h i hi, e i hi]
theorem CsAt.sub {w : World} {b off m : Nat} {f : Nat → Value} (h : CsAt w b off m f) (o k : Nat) (hk : o + k ≤ m) : CsAt w b (off + o) k (fun i => f (o + i)) := fun i hi => by
  rw [Nat.add_assoc]; exact h (o + i) (by omega)
theorem CsAt.of_block {w w' : World} {b off m : Nat} {f : Nat → Value} (h : CsAt w b off m f) (e : w'.heap[b]? = w.heap[b]?) : CsAt w' b off m f := fun i hi => by
  rw [World.cell?_of_block (w := w) (a := ⟨b, off + i, none⟩) e]; exact h i hi
theorem CsAt.fr {S : List Nat} {w w' : World} {b off m : Nat} {f : Nat → Value} (h : CsAt w b off m f) (k : Fr S w w') (hb : b ∉ S) (hl : b < w.heap.size) : CsAt w' b off m f := h.of_block (k.block b hl hb)

section
variable {P : Program} {ops : Array Oper} {rest : List Oper} {o : Oper} {a : Act} {w : World} {Q : Exit → Act → World → Prop}
theorem run_loadVar_cs (T : TypeId) (b off m : Nat) (f : Nat → Value) (d : TypeDesc) (hb : CsAt w b off m f) (hu : P.underlying T = some d) (hd : d.isRow = true) (hi : (P.info? T).map (·.size) = some m) :
    (loadVar T ⟨b, off, none⟩).run P w = .ok (Agg m f) w := by
  have := run_loadVar_mid (P := P) w b off T (Array.ofFn (n := m) fun i => f i.val).toList d (fun j v hv => by
    simp only [Array.getElem?_toList, Array.getElem?_ofFn] at hv
    split at hv
    · cases hv; exact hb _ (by omega)
    · cases hv) hu hd (by simpa using hi)
  rw [this]; rfl
theorem wpList_load_cs (hgd : o.guard = none) (T : TypeId) (x : Operand) (ho : o.op = .load T x) (dd : Option Tmp) (hdd : o.dst = dd) (b off m : Nat) (f : Nat → Value) (d : TypeDesc)
    (hx : a.eval x = .pointer (some ⟨b, off, none⟩)) (hb : CsAt w b off m f)
    (hu : P.underlying T = some d) (hd : d.isRow = true) (hi : (P.info? T).map (·.size) = some m)
    (h : wpList P ops Q rest (a.put dd (Agg m f)) w) : wpList P ops Q (o :: rest) a w := by
  subst hdd
  refine wpList_plain hgd fun K hK => ?_
  unfold Oper.wp
  simp only [execOp, ho, hx, Instr.loadAt, Instr.sureAddr, Sem.run_bind, Sem.run_pure, Result.andThen_ok, run_loadVar_cs T b off m f d hb hu hd hi, Oper.upon]
  exact hK _ _ h
theorem yieldsIf_load_cs {S : World → Prop} (hw : Region.wanted o (yielded ops a.tmps) = true) (T : TypeId) (x : Operand) (ho : o.op = .load T x) (b off m : Nat) (f : Nat → Value) (d : TypeDesc)
    (hx : a.eval x = .pointer (some ⟨b, off, none⟩)) (hS : ∀ w, S w → CsAt w b off m f)
    (hu : P.underlying T = some d) (hd : d.isRow = true) (hi : (P.info? T).map (·.size) = some m) : YieldsIf P ops S o (Agg m f) a :=
  .inl ⟨hw, fun w hw' => by
    unfold execOp
    simp only [ho, hx, Instr.loadAt, Instr.sureAddr, Sem.run_bind, Sem.run_pure, Result.andThen_ok, run_loadVar_cs T b off m f d (hS w hw') hu hd hi]⟩
theorem yieldsIf_eql {S : World → Prop} (hw : Region.wanted o (yielded ops a.tmps) = true) (T T' : TypeId) (x y : Operand) (ho : o.op = .binOp .eql T x y T') (m : Nat) (A B : Nat → Bool) (d : TypeDesc)
    (hx : a.eval x = Agg m (boolF A)) (hy : a.eval y = Agg m (boolF B)) (h : EqT P 10000 T m) (hu : P.underlying T = some d) (hr : d.isRow = true) (hg : P.eqGuardType P.depth T = false) : YieldsIf P ops S o (.bool (allB m A B)) a :=
  .inl ⟨hw, fun w _ => by
    unfold execOp
    have hgd : (eqGuard .eql T x y (Agg m (boolF A)) (Agg m (boolF B))).run P w = .ok () w := run_eqGuard_agg w .eql T x y _ _ hg
    simp only [ho, hx, hy, Sem.run_bind, hgd, Result.andThen_ok, run_eql_set h hu hr A B w, Sem.run_pure]⟩
end

section
variable {P : Program} {md : Region.Mode} {ops : Array Oper} {Q : Exit → Act → World → Prop} {S : World → Prop}
/-- wpAnyH_take, where the place of the answer is told by its number -/
theorem wpAnyH_takeD {i : Nat} {oi : Oper} {v : Value} {d : Tmp} {fuel : Nat} {listed : Array Bool} {a : Act} {w : World} (hi : ops[i]? = some oi) (hd : oi.dst = some d)
    (hs : Region.noSelect ops = true) (hf : Region.free md ops listed i = true) (hr : (Region.ready md ops listed).contains i = true)
    (hQ : ∀ c a w, Q (.panic c) (a.put (some d) v) w → Q (.panic c) a w) (hy : YieldsIf P ops S oi v a) (hS : S w)
    (h : wpAnyH P md ops Q S fuel (listed.setIfInBounds i true) (a.put (some d) v) w) : wpAnyH P md ops Q S (fuel + 1) listed a w :=
  wpAnyH_take hi hs hf hr (fun c a w k => hQ c a w (hd ▸ k)) hy hS (hd ▸ h)
end

theorem Tryd.eqSign : EqT Tryd.prog 10000 48 27 :=
  eqT_struct (E := 46) (eqT_array (len := 27) (eqT_bool 9997 4 Tryd.underlying4 (by kernel_rfl)) Tryd.underlying46 (by kernel_rfl)) Tryd.underlying48 rfl rfl rfl (by kernel_rfl) (by kernel_rfl)

/-- no sign is in it -/
def empB (A : Nat → Bool) : Bool := allB 27 A fun _ => false

set_option maxHeartbeats 400000 in
theorem p_isEmpty (b off : Nat) (A : Nat → Bool) (w : World) (h : CsAt w b off 27 (boolF A)) (hl : b < w.heap.size) :
    Calls Tryd.prog 86 #[.pointer (some ⟨b, off, none⟩)] w fun e w' => e = .returned (.bool (empB A)) ∧ Fr [] w w' := by
  have H := hide h
  clear h
  go_enter Tryd.func86, Tryd.ntmps86
  go_wp2_with (refine wpList_alloc_blk rfl 48 rfl (some 3) rfl 27 _ Tryd.zeroSign ?_; intro w1 hf1 hs1 hB1; have HF1 := hide hf1; have HB1 := hide hB1; have HG1 := hide ((unhide H).fr hf1 (by simp) hl); clear hf1 hB1)
  refine wp_region_held_drew (S := fun w' => CsAt w' b off 27 (boolF A) ∧ CsAt w' w.heap.size 0 27 (boolF fun _ => false)) (by kernel_rfl) ⟨unhide HG1, fun i hi => (unhide HB1).drew.cell _ (by omega)⟩ (fun hHeld => ?_)
  refine wpAnyH_take (i := 0) (v := .pointer (some ⟨b, off, none⟩)) rfl (by kernel_rfl) (by kernel_rfl) (by kernel_rfl) (fun _ _ _ h => h) (Or.inl ⟨by rfl, fun _ _ => rfl⟩) hHeld ?_
  refine wpAnyH_take (i := 1) (v := .pointer (some ⟨b, off, none⟩)) rfl (by kernel_rfl) (by kernel_rfl) (by kernel_rfl) (fun _ _ _ h => h) (Or.inl ⟨by rfl, fun _ _ => rfl⟩) hHeld ?_
  refine wpAnyH_take (i := 2) rfl (by kernel_rfl) (by kernel_rfl) (by kernel_rfl) (fun _ _ _ h => h) (yieldsIf_load_cs (by rfl) 48 (.tmp 5) rfl b off 27 (boolF A) _ rfl (fun _ h => h.1) Tryd.underlying48 rfl Tryd.sizeSign) hHeld ?_
  refine wpAnyH_take (i := 3) rfl (by kernel_rfl) (by kernel_rfl) (by kernel_rfl) (fun _ _ _ h => h) (yieldsIf_load_cs (by rfl) 48 (.tmp 3) rfl w.heap.size 0 27 (boolF fun _ => false) _ rfl (fun _ h => h.2) Tryd.underlying48 rfl Tryd.sizeSign) hHeld ?_
  refine wpAnyH_take (i := 4) rfl (by kernel_rfl) (by kernel_rfl) (by kernel_rfl) (fun _ _ _ h => h) (yieldsIf_eql (by rfl) 48 48 (.tmp 6) (.tmp 7) rfl 27 A (fun _ => false) _ rfl rfl Tryd.eqSign Tryd.underlying48 rfl (by kernel_rfl)) hHeld ?_
  refine wpAnyH_take (i := 5) (v := .bool (empB A)) rfl (by kernel_rfl) (by kernel_rfl) (by kernel_rfl) (fun _ _ _ h => h) (Or.inl ⟨by rfl, fun _ _ => rfl⟩) hHeld ?_
  refine wpAnyH_done (by kernel_rfl) ?_ _
  go_wp2
  go_ret
  exact ⟨rfl, (unhide HF1).drew⟩
end Go.Proofs.YtkglggkkbmmjkaaDoor
