import Derived.Test.YtkglggkkbmmjkabGreatDoorG0Leaf
import Derived.Laws.StructEq
import Derived.ChangeKeysEq
import Derived.Test.YtkglggkkbmmjkabGreatDoorG4First
import Derived.Test.YtkglggkkbmmjkabGreatDoorG13RPut2
namespace Go.Proofs.YtkglggkkbmmjkabGreatDoor
open Go.RowKit
/-! Sets are compared: arrays and structs of bools, cell by cell. -/
section
variable {P : Program}
def zak (A : Nat → Bool) : Nat → Value := fun i => .bool (A i)
def allB (m : Nat) (A B : Nat → Bool) : Bool := (List.range m).all fun i => A i == B i
theorem allB_iff {m : Nat} {A B : Nat → Bool} : allB m A B = true ↔ ∀ i, i < m → A i = B i := by simp [allB]
theorem allB_add (m k : Nat) (A B : Nat → Bool) : allB (m + k) A B = (allB m A B && allB k (fun i => A (m + i)) (fun i => B (m + i))) := by
 apply Bool.eq_iff_iff.2
 rw [Bool.and_eq_true, allB_iff, allB_iff, allB_iff]
 constructor
 ·intro h
  exact ⟨fun i hi => h i (by omega), fun i hi => h (m + i) (by omega)⟩
 ·intro ⟨h1, h2⟩ i hi
  by_cases e : i < m
  ·exact h1 i e
  ·have := h2 (i - m) (by omega)
   rw [show m + (i - m) = i from by omega] at this
   exact this
def EqT (P : Program) (d : Nat) (T : TypeId) (m : Nat) : Prop := P.cellsOf T = m ∧ (∃ i, P.info? T = some i) ∧ ∀ (A B : Nat → Bool) (n off : Nat) (w : World), off + m ≤ n →
 ∃ x y, (part T (Array.ofFn (n := n) fun i => zak A i.val) off).run P w = .ok x w ∧ (part T (Array.ofFn (n := n) fun i => zak B i.val) off).run P w = .ok y w ∧
  (Op.equalIn d T x y).run P w = .ok (allB m (fun i => A (off + i)) (fun i => B (off + i))) w
theorem eqT_bool (d : Nat) (T : TypeId) (h : P.underlying T = some .bool) (hc : P.cellsOf T = 1) : EqT P (d + 1) T 1 := by
 obtain ⟨i, hi⟩ := info_of_underlying h
 refine ⟨hc, ⟨i, hi⟩, fun A B n off w hn => ⟨.bool (A off), .bool (B off), ?_, ?_, ?_⟩⟩
 ·simp only [part, isAgg, Sem.run_bind, run_underlying h, Result.andThen_ok, Sem.run_pure]
  simp [show off < n from by omega, zak]
 ·simp only [part, isAgg, Sem.run_bind, run_underlying h, Result.andThen_ok, Sem.run_pure]
  simp [show off < n from by omega, zak]
 ·rw [run_equalIn_bool' w d T _ _ h]
  simp [allB]
theorem extract_ofFn (f : Nat → Value) (n off m : Nat) (h : off + m ≤ n) : (Array.ofFn (n := n) fun i => f i.val).extract off (off + m) = Array.ofFn (n := m) fun i => f (off + i.val) := by
 apply Array.ext
 ·simp; omega
 ·intro i h1 h2
  simp
theorem zca {T : TypeId} {d : TypeDesc} {i : TypeInfo} {m : Nat} (hu : P.underlying T = some d) (hd : d.isRow = true) (hi : P.info? T = some i) (hc : P.cellsOf T = m) (f : Nat → Value) (n off : Nat) (w : World) (h : off + m ≤ n) :
 (part T (Array.ofFn (n := n) fun i => f i.val) off).run P w = .ok (Agg m fun i => f (off + i)) w := by
 have : (isAgg T).run P w = .ok true w := by
  cases d <;> simp [TypeDesc.isRow] at hd <;> simp [isAgg, run_underlying hu]
 simp only [part, Sem.run_bind, this, Result.andThen_ok, if_true, run_sizeOf w hi, Sem.run_pure, hc, extract_ofFn f n off m h, Agg]
theorem eqT_struct {d : Nat} {T E : TypeId} {m : Nat} {f : Field} (h : EqT P d E m) (hu : P.underlying T = some (.struct #[f])) (hf : f.type = E) (hn : (f.name == "_") = false) (ho : f.offset = 0) (hp : P.stoodInHeld T = false) (hc : P.cellsOf T = m) : EqT P (d + 1) T m := by
 subst hf
 obtain ⟨i, hi⟩ := info_of_underlying hu
 refine ⟨hc, ⟨i, hi⟩, fun A B n off w hw => ⟨_, _, zca hu rfl hi hc _ n off w hw, zca hu rfl hi hc _ n off w hw, ?_⟩⟩
 obtain ⟨x, y, hx, hy, he⟩ := h.2.2 (fun i => A (off + i)) (fun i => B (off + i)) m 0 w (by omega)
 have hfo : P.fieldsOf T = #[f] := by simp [Program.fieldsOf, hu]
 unfold Agg
 rw [run_equalIn_struct w d T _ _ (by rw [hfo]; exact hu) hp, hfo]
 have hx' : (part f.type (Array.ofFn (n := m) fun i => zak A (off + i.val)) f.offset).run P w = .ok x w := by rw [ho]; exact hx
 have hy' : (part f.type (Array.ofFn (n := m) fun i => zak B (off + i.val)) f.offset).run P w = .ok y w := by rw [ho]; exact hy
 simp only [Nat.zero_add] at he
 have hne : f.name ≠ "_" := by simpa using hn
 simp only [Op.eqFields, if_pos hne, Sem.run_bind, hx', hy', Result.andThen_ok, he]
 cases allB m (fun i => A (off + i)) fun i => B (off + i) <;> simp
def eqLoop (d : Nat) (E : TypeId) (n : Nat) (xs ys : Array Value) : List Nat → Sem Bool
 | [] => pure true
 | i :: l => do
  let a ← part E xs (i * n)
  let b ← part E ys (i * n)
  let r ← Op.equalIn d E a b
  if (!r) = true then pure false else eqLoop d E n xs ys l
theorem run_equalIn_array (w : World) (d : Nat) (T E : TypeId) (len m : Nat) (xs ys : Array Value) (hu : P.underlying T = some (.array len E)) (i : TypeInfo) (hi : P.info? E = some i) (hc : P.cellsOf E = m) :
 (Op.equalIn (d + 1) T (.agg xs) (.agg ys)).run P w = (eqLoop d E m xs ys (List.range' 0 len)).run P w := by
 simp only [Op.equalIn, Sem.run_bind, run_underlying hu, Result.andThen_ok, run_sizeOf w hi, hc]
 rw [Std.Legacy.Range.forIn_eq_forIn_range']
 simp only [Std.Legacy.Range.size, Nat.sub_zero, Nat.add_sub_cancel, Nat.div_one]
 generalize List.range' 0 len = l
 induction l generalizing w with
 | nil => simp [eqLoop]
 | cons f fs ih =>
  simp only [List.forIn_cons, eqLoop, Sem.run_bind]
  generalize (part E xs (f * m)).run P w = r1
  cases r1 with
  | ok a w1 =>
   simp only [Result.andThen_ok]
   generalize (part E ys (f * m)).run P w1 = r2
   cases r2 with
   | ok b w2 =>
    simp only [Result.andThen_ok]
    generalize (Op.equalIn d E a b).run P w2 = r3
    cases r3 with
    | ok r w3 =>
     cases r
     ·simp
     ·simp only [Result.andThen_ok, Bool.not_true, Bool.false_eq_true, if_false, Sem.run_pure]
      exact ih w3
    | halt x w3 => simp [Result.andThen]
   | halt x w2 => simp [Result.andThen]
  | halt x w1 => simp [Result.andThen]
theorem eqT_array {d : Nat} {T E : TypeId} {m len : Nat} (h : EqT P d E m) (hu : P.underlying T = some (.array len E)) (hc : P.cellsOf T = len * m) : EqT P (d + 1) T (len * m) := by
 obtain ⟨i, hi⟩ := info_of_underlying hu
 obtain ⟨hm, ⟨ie, hie⟩, he⟩ := h
 refine ⟨hc, ⟨i, hi⟩, fun A B n off w hw => ⟨_, _, zca hu rfl hi hc _ n off w hw, zca hu rfl hi hc _ n off w hw, ?_⟩⟩
 unfold Agg
 rw [run_equalIn_array w d T E len m _ _ hu ie hie hm]
 have key : ∀ k s, s + k = len → (eqLoop d E m (Array.ofFn (n := len * m) fun i => zak A (off + i.val)) (Array.ofFn (n := len * m) fun i => zak B (off + i.val)) (List.range' s k)).run P w = .ok (allB (k * m) (fun i => A (off + (s * m + i))) (fun i => B (off + (s * m + i)))) w := by
  intro k
  induction k with
  | zero => intro s _; simp [eqLoop, allB]
  | succ k ih =>
   intro s hs
   obtain ⟨x, y, hx, hy, hxy⟩ := he (fun i => A (off + i)) (fun i => B (off + i)) (len * m) (s * m) w (by
    have : (s + 1) * m ≤ len * m := Nat.mul_le_mul_right _ (by omega)
    rw [Nat.add_mul] at this; omega)
   have hx' : (part E (Array.ofFn (n := len * m) fun i => zak A (off + i.val)) (s * m)).run P w = .ok x w := hx
   have hy' : (part E (Array.ofFn (n := len * m) fun i => zak B (off + i.val)) (s * m)).run P w = .ok y w := hy
   rw [List.range'_succ]
   simp only [eqLoop, Sem.run_bind, hx', hy', hxy, Result.andThen_ok]
   rw [Nat.add_mul, Nat.one_mul, Nat.add_comm (k * m) m, allB_add]
   cases allB m (fun i => A (off + (s * m + i))) (fun i => B (off + (s * m + i)))
   ·simp
   ·simp only [Bool.not_true, Bool.false_eq_true, if_false, Bool.true_and]
    rw [ih (s + 1) (by omega)]
    simp only [Nat.add_mul, Nat.one_mul, Nat.add_assoc]
 rw [key len 0 (by omega)]
 simp only [Nat.zero_mul, Nat.zero_add]
theorem EqT.run {T : TypeId} {m d : Nat} {i : TypeDesc} (h : EqT P d T m) (hu : P.underlying T = some i) (hr : i.isRow = true) (A B : Nat → Bool) (w : World) :
 (Op.equalIn d T (Agg m (zak A)) (Agg m (zak B))).run P w = .ok (allB m A B) w := by
 obtain ⟨hm, ⟨ie, hie⟩, he⟩ := h
 obtain ⟨x, y, hx, hy, hxy⟩ := he A B m 0 w (by omega)
 rw [zca hu hr hie hm _ m 0 w (by omega)] at hx hy
 simp only [Nat.zero_add] at hx hy hxy
 cases hx; cases hy
 exact hxy
theorem run_eql_set {T : TypeId} {m : Nat} {i : TypeDesc} (h : EqT P 10000 T m) (hu : P.underlying T = some i) (hr : i.isRow = true) (A B : Nat → Bool) (w : World) :
 (binOp .eql T (Agg m (zak A)) (Agg m (zak B))).run P w = .ok (.bool (allB m A B)) w := by
 unfold Agg
 rw [run_eql_struct]
 have := h.run hu hr A B w
 unfold Agg at this
 rw [this]
 rfl
end
end Go.Proofs.YtkglggkkbmmjkabGreatDoor
namespace Go.Proofs.YtkglggkkbmmjkabGreatDoor
open Go.RowKit
/-! The program's sets of items. -/
def CsAt (w : World) (b off m : Nat) (f : Nat → Value) : Prop := ∀ i, i < m → w.cell? ⟨b, off + i, none⟩ = some (f i)
theorem Blk.cs {w : World} {b n : Nat} {f : Nat → Value} (h : Blk w b n f) (off m : Nat) (hm : off + m ≤ n) : CsAt w b off m (fun i => f (off + i)) := fun i hi => h.cell _ (by omega)
theorem CsAt.congr {w : World} {b off m : Nat} {f g : Nat → Value} (h : CsAt w b off m f) (e : ∀ i, i < m → f i = g i) : CsAt w b off m g := fun i hi => by rw [h i hi, e i hi]
theorem CsAt.sub {w : World} {b off m : Nat} {f : Nat → Value} (h : CsAt w b off m f) (o k : Nat) (hk : o + k ≤ m) : CsAt w b (off + o) k (fun i => f (o + i)) := fun i hi => by
 rw [Nat.add_assoc]; exact h (o + i) (by omega)
theorem CsAt.of_block {w w' : World} {b off m : Nat} {f : Nat → Value} (h : CsAt w b off m f) (e : w'.heap[b]? = w.heap[b]?) : CsAt w' b off m f := fun i hi => by
 rw [World.cell?_of_block (w := w) (a := ⟨b, off + i, none⟩) e]; exact h i hi
theorem CsAt.fr {S : List Nat} {w w' : World} {b off m : Nat} {f : Nat → Value} (h : CsAt w b off m f) (k : Fr S w w') (hb : b ∉ S) (hl : b < w.heap.size) : CsAt w' b off m f := h.of_block (k.block b hl hb)
section
variable {P : Program} {ops : Array Oper} {rest : List Oper} {o : Oper} {a : Act} {w : World} {Q : Exit → Act → World → Prop}
theorem run_loadVar_cs (T : TypeId) (b off m : Nat) (f : Nat → Value) (d : TypeDesc) (hb : CsAt w b off m f) (hu : P.underlying T = some d) (hd : d.isRow = true) (hi : (P.info? T).map (·.size) = some m) :
 (loadVar T ⟨b, off, none⟩).run P w = .ok (Agg m f) w := by
 have := run_loadVar_mid (P := P) w b off T (Array.ofFn (n := m) fun i => f i.val).toList d (fun j v hv => by
  simp only [Array.getElem?_toList, Array.getElem?_ofFn] at hv
  split at hv
  ·cases hv; exact hb _ (by omega)
  ·cases hv) hu hd (by simpa using hi)
 rw [this]; rfl
theorem zbn (hgd : o.guard = none) (T : TypeId) (x : Operand) (ho : o.op = .load T x) (dd : Option Tmp) (hdd : o.dst = dd) (b off m : Nat) (f : Nat → Value) (d : TypeDesc)
 (hx : a.eval x = .pointer (some ⟨b, off, none⟩)) (hb : CsAt w b off m f)
 (hu : P.underlying T = some d) (hd : d.isRow = true) (hi : (P.info? T).map (·.size) = some m)
 (h : wpList P ops Q rest (a.put dd (Agg m f)) w) : wpList P ops Q (o :: rest) a w := by
 subst hdd
 refine wpList_plain hgd fun K hK => ?_
 unfold Oper.wp
 simp only [execOp, ho, hx, Instr.loadAt, Instr.sureAddr, Sem.run_bind, Sem.run_pure, Result.andThen_ok, run_loadVar_cs T b off m f d hb hu hd hi, Oper.upon]
 exact hK _ _ h
theorem za1 {S : World → Prop} (hw : Region.wanted o (yielded ops a.tmps) = true) (T : TypeId) (x : Operand) (ho : o.op = .load T x) (b off m : Nat) (f : Nat → Value) (d : TypeDesc)
 (hx : a.eval x = .pointer (some ⟨b, off, none⟩)) (hS : ∀ w, S w → CsAt w b off m f)
 (hu : P.underlying T = some d) (hd : d.isRow = true) (hi : (P.info? T).map (·.size) = some m) : YieldsIf P ops S o (Agg m f) a :=
 .inl ⟨hw, fun w hw' => by
  unfold execOp
  simp only [ho, hx, Instr.loadAt, Instr.sureAddr, Sem.run_bind, Sem.run_pure, Result.andThen_ok, run_loadVar_cs T b off m f d (hS w hw') hu hd hi]⟩
theorem yieldsIf_eql {S : World → Prop} (hw : Region.wanted o (yielded ops a.tmps) = true) (T T' : TypeId) (x y : Operand) (ho : o.op = .binOp .eql T x y T') (m : Nat) (A B : Nat → Bool) (d : TypeDesc)
 (hx : a.eval x = Agg m (zak A)) (hy : a.eval y = Agg m (zak B)) (h : EqT P 10000 T m) (hu : P.underlying T = some d) (hr : d.isRow = true) (hg : P.eqGuardType P.depth T = false) : YieldsIf P ops S o (.bool (allB m A B)) a :=
 .inl ⟨hw, fun w _ => by
  unfold execOp
  have hgd : (eqGuard .eql T x y (Agg m (zak A)) (Agg m (zak B))).run P w = .ok () w := run_eqGuard_agg w .eql T x y _ _ hg
  simp only [ho, hx, hy, Sem.run_bind, hgd, Result.andThen_ok, run_eql_set h hu hr A B w, Sem.run_pure]⟩
end
section
variable {P : Program} {md : Region.Mode} {ops : Array Oper} {Q : Exit → Act → World → Prop} {S : World → Prop}
theorem zae {i : Nat} {oi : Oper} {v : Value} {d : Tmp} {fuel : Nat} {listed : Array Bool} {a : Act} {w : World} (hi : ops[i]? = some oi) (hd : oi.dst = some d)
 (hs : Region.noSelect ops = true) (hf : Region.free md ops listed i = true) (hr : (Region.ready md ops listed).contains i = true)
 (hQ : ∀ c a w, Q (.panic c) (a.put (some d) v) w → Q (.panic c) a w) (hy : YieldsIf P ops S oi v a) (hS : S w)
 (h : wpAnyH P md ops Q S fuel (listed.setIfInBounds i true) (a.put (some d) v) w) : wpAnyH P md ops Q S (fuel + 1) listed a w :=
 wpAnyH_take hi hs hf hr (fun c a w k => hQ c a w (hd ▸ k)) hy hS (hd ▸ h)
end
theorem Tryz.eqSign : EqT Tryz.prog 10000 48 27 :=
 eqT_struct (E := 46) (eqT_array (len := 27) (eqT_bool 9997 4 Tryz.underlying4 (by kernel_rfl)) Tryz.underlying46 (by kernel_rfl)) Tryz.underlying48 rfl rfl rfl (by kernel_rfl) (by kernel_rfl)
def empB (A : Nat → Bool) : Bool := allB 27 A fun _ => false
set_option maxHeartbeats 400000 in
theorem p_isEmpty (b off : Nat) (A : Nat → Bool) (w : World) (h : CsAt w b off 27 (zak A)) (hl : b < w.heap.size) :
 Calls Tryz.prog 149 #[.pointer (some ⟨b, off, none⟩)] w fun e w' => e = .returned (.bool (empB A)) ∧ Fr [] w w' := by
 have H := hide h
 clear h
 go_enter Tryz.func149, Tryz.ntmps149
 go_wp2_with (refine zab rfl 48 rfl (some 3) rfl 27 _ Tryz.zeroSign ?_; intro w1 hf1 hs1 hB1; have HF1 := hide hf1; have HB1 := hide hB1; have HG1 := hide ((zaa H).fr hf1 (by simp) hl); clear hf1 hB1)
 refine wp_region_held_drew (S := fun w' => CsAt w' b off 27 (zak A) ∧ CsAt w' w.heap.size 0 27 (zak fun _ => false)) (by kernel_rfl) ⟨zaa HG1, fun i hi => (zaa HB1).drew.cell _ (by omega)⟩ (fun hHeld => ?_)
 refine wpAnyH_take (i := 0) (v := .pointer (some ⟨b, off, none⟩)) rfl (by kernel_rfl) (by kernel_rfl) (by kernel_rfl) (fun _ _ _ h => h) (Or.inl ⟨by rfl, fun _ _ => rfl⟩) hHeld ?_
 refine wpAnyH_take (i := 1) (v := .pointer (some ⟨b, off, none⟩)) rfl (by kernel_rfl) (by kernel_rfl) (by kernel_rfl) (fun _ _ _ h => h) (Or.inl ⟨by rfl, fun _ _ => rfl⟩) hHeld ?_
 refine wpAnyH_take (i := 2) rfl (by kernel_rfl) (by kernel_rfl) (by kernel_rfl) (fun _ _ _ h => h) (za1 (by rfl) 48 (.tmp 5) rfl b off 27 (zak A) _ rfl (fun _ h => h.1) Tryz.underlying48 rfl Tryz.sizeSign) hHeld ?_
 refine wpAnyH_take (i := 3) rfl (by kernel_rfl) (by kernel_rfl) (by kernel_rfl) (fun _ _ _ h => h) (za1 (by rfl) 48 (.tmp 3) rfl w.heap.size 0 27 (zak fun _ => false) _ rfl (fun _ h => h.2) Tryz.underlying48 rfl Tryz.sizeSign) hHeld ?_
 refine wpAnyH_take (i := 4) rfl (by kernel_rfl) (by kernel_rfl) (by kernel_rfl) (fun _ _ _ h => h) (yieldsIf_eql (by rfl) 48 48 (.tmp 6) (.tmp 7) rfl 27 A (fun _ => false) _ rfl rfl Tryz.eqSign Tryz.underlying48 rfl (by kernel_rfl)) hHeld ?_
 refine wpAnyH_take (i := 5) (v := .bool (empB A)) rfl (by kernel_rfl) (by kernel_rfl) (by kernel_rfl) (fun _ _ _ h => h) (Or.inl ⟨by rfl, fun _ _ => rfl⟩) hHeld ?_
 refine wpAnyH_done (by kernel_rfl) ?_ _
 go_wp2
 go_ret
 exact ⟨rfl, (zaa HF1).drew⟩
end Go.Proofs.YtkglggkkbmmjkabGreatDoor
namespace Go.Proofs.YtkglggkkbmmjkabGreatDoor
open Go.RowKit
/-! Rows of wide elements. -/
def rwC (n d : Nat) (F : Nat → Value) : List Value := (List.range (n * d)).map F
theorem rwC_len (n d : Nat) (F : Nat → Value) : (rwC n d F).length = n * d := by simp [rwC]
theorem rwC_get (n d : Nat) (F : Nat → Value) (j : Nat) (h : j < n * d) : (rwC n d F)[j]? = some (F j) := by simp [rwC, h]
def GRow (w : World) (base : Nat) (T : TypeId) (d : Nat) (v : Value) (n : Nat) (F : Nat → Value) : Prop := w.ownsRow base T d v n (rwC n d F)
theorem GRow.bt {w : World} {base g n m cap d : Nat} {T : TypeId} {F : Nat → Value} (h : GRow w base T d (.slice (some ⟨g, 0, none⟩) m cap) n F) : ∃ f, BT w g T (cap * d) f ∧ (∀ j, j < n * d → f j = F j) ∧ n ≤ cap ∧ cap ≤ maxLen ∧ base ≤ g ∧ m = n := by
 obtain ⟨h1, h2⟩ := h
 rcases h2 with ⟨h2, _⟩ | ⟨g', cap', cur, hv, hg, hh, hle, hmx, hsz, htk⟩
 ·cases h2
 ·cases hv
  refine ⟨fun i => cur.getD i undef, ?_, fun j hj => ?_, hle, hmx, hg, rfl⟩
  ·unfold BT
   rw [hh]
   congr 2
   apply Array.ext
   ·simp [hsz]
   ·intro i h1 h2
    simp [h1]
  ·have := rwC_get n d F j hj
   rw [← htk, List.getElem?_take, if_pos hj, Array.getElem?_toList] at this
   simp [this]
theorem GRow.of_bt {w : World} {base g cap n d : Nat} {T : TypeId} {f F : Nat → Value} (h : BT w g T (cap * d) f) (hf : ∀ j, j < n * d → f j = F j) (hc : n ≤ cap) (hx : cap ≤ maxLen) (hg : base ≤ g) :
 GRow w base T d (.slice (some ⟨g, 0, none⟩) n cap) n F := by
 refine ⟨rwC_len n d F, Or.inr ⟨g, cap, _, rfl, hg, h, hc, hx, by simp, ?_⟩⟩
 apply List.ext_getElem?
 intro j
 have hle : n * d ≤ cap * d := Nat.mul_le_mul_right _ hc
 rw [List.getElem?_take]
 by_cases hj : j < n * d
 ·rw [if_pos hj, rwC_get n d F j hj, Array.getElem?_toList, Array.getElem?_ofFn, dif_pos (by omega), hf j hj]
 ·rw [if_neg hj, List.getElem?_eq_none (by rw [rwC_len]; omega)]
theorem GRow.congr {w : World} {base n d : Nat} {T : TypeId} {v : Value} {F G : Nat → Value} (h : GRow w base T d v n F) (e : ∀ j, j < n * d → F j = G j) : GRow w base T d v n G := by
 have : rwC n d F = rwC n d G := List.map_congr_left fun j hj => e j (List.mem_range.1 hj)
 unfold GRow at *
 rw [← this]; exact h
theorem GRow.cs {w : World} {base g n m cap d : Nat} {T : TypeId} {F : Nat → Value} (h : GRow w base T d (.slice (some ⟨g, 0, none⟩) m cap) n F) (i : Nat) (hi : i < n) : CsAt w g (i * d) d (fun j => F (i * d + j)) := fun j hj => by
 obtain ⟨f, hB, hf, hc, _, _, _⟩ := h.bt
 have h1 : i * d + d ≤ n * d := by rw [← Nat.succ_mul]; exact Nat.mul_le_mul_right _ hi
 have h2 : n * d ≤ cap * d := Nat.mul_le_mul_right _ hc
 rw [hB.blk.cell _ (by omega), hf _ (by omega)]
theorem GRow.free {w : World} {base g n m cap d : Nat} {T : TypeId} {F : Nat → Value} (h : GRow w base T d (.slice (some ⟨g, 0, none⟩) m cap) n F) (k : Nat) : w.frozen? ⟨g, k, none⟩ = false := by
 obtain ⟨f, hB, _⟩ := h.bt
 exact hB.blk.free k
theorem BT.setCell {w : World} {b n : Nat} {T : TypeId} {f : Nat → Value} (h : BT w b T n f) (k : Nat) (v : Value) : BT (w.setCell ⟨b, k, none⟩ v) b T n (upd f k v) := by
 obtain ⟨T2, h2⟩ := h.blk.setCell k v
 have hT : ∃ cs, (w.setCell ⟨b, k, none⟩ v).heap[b]? = some (.cells cs T (0, 0)) := by
  unfold BT at h
  simp only [World.setCell, Array.getElem?_modify, if_true, h, Option.map_some]
  exact ⟨_, rfl⟩
 obtain ⟨cs, h3⟩ := hT
 rw [h2] at h3
 cases h3
 exact h2
theorem GRow.setCell {w : World} {base g n m cap d : Nat} {T : TypeId} {F : Nat → Value} (h : GRow w base T d (.slice (some ⟨g, 0, none⟩) m cap) n F) (k : Nat) (v : Value) : GRow (w.setCell ⟨g, k, none⟩ v) base T d (.slice (some ⟨g, 0, none⟩) m cap) n (upd F k v) := by
 obtain ⟨f, hB, hf, hc, hx, hg, rfl⟩ := h.bt
 exact GRow.of_bt (hB.setCell k v) (fun j hj => by unfold upd; split <;> simp_all) hc hx hg
theorem GRow.fr {S : List Nat} {w w' : World} {base n d : Nat} {T : TypeId} {v : Value} {F : Nat → Value} (h : GRow w base T d v n F) (k : Fr S w w') (hS : ∀ g, v.ownBlock = some g → g ∉ S) : GRow w' base T d v n F := zas h k hS
theorem GRow.nil (w : World) (base d : Nat) (T : TypeId) (F : Nat → Value) : GRow w base T d (.slice none 0 0) 0 F := by
 unfold GRow
 have : rwC 0 d F = [] := by simp [rwC]
 rw [this]; exact World.ownsRow_nil _ _ _ _
theorem GRow.lt {w : World} {base n d : Nat} {T : TypeId} {v : Value} {F : Nat → Value} (h : GRow w base T d v n F) {g : Nat} (hg : v.ownBlock = some g) : base ≤ g ∧ g < w.heap.size := World.ownsRow.lt h g hg
theorem GRow.form {w : World} {base n d : Nat} {T : TypeId} {v : Value} {F : Nat → Value} (h : GRow w base T d v n F) (hn : 0 < n) : ∃ g cap, v = .slice (some ⟨g, 0, none⟩) n cap := by
 obtain ⟨h1, h2⟩ := h
 rcases h2 with ⟨_, h2⟩ | ⟨g', cap', cur, hv, _⟩
 ·omega
 ·exact ⟨g', cap', hv⟩
section
variable {P : Program} {o : Oper} {a : Act} {w : World} {Q : Exit → Act → World → Prop} {K : Act → World → Prop}
theorem foldl_set (l : List Value) : ∀ (k : Nat) (A : Array Value), ((l.zipIdx k).foldl (fun cs (x : Value × Nat) => cs.setIfInBounds x.2 x.1) A).size = A.size ∧ ∀ i, ((l.zipIdx k).foldl (fun cs (x : Value × Nat) => cs.setIfInBounds x.2 x.1) A)[i]? = if k ≤ i ∧ i < k + l.length ∧ i < A.size then l[i - k]? else A[i]? := by
 induction l with
 | nil => intro k A; exact ⟨rfl, fun i => by simp; intro h1 h2; omega⟩
 | cons x l ih =>
  intro k A
  rw [List.zipIdx_cons, List.foldl_cons]
  obtain ⟨h1, h2⟩ := ih (k + 1) (A.setIfInBounds k x)
  refine ⟨by rw [h1]; simp, fun i => ?_⟩
  rw [h2, Array.size_setIfInBounds]
  by_cases hk : i = k
  ·subst hk
   rw [if_neg (by omega)]
   by_cases hs : i < A.size
   ·rw [if_pos ⟨Nat.le_refl _, by simp, hs⟩, Array.getElem?_setIfInBounds]; simp [hs]
   ·rw [if_neg (by omega), Array.getElem?_setIfInBounds]; simp [hs]
  ·by_cases hr : k ≤ i ∧ i < k + (x :: l).length ∧ i < A.size
   ·have h3 : k + 1 ≤ i ∧ i < k + 1 + l.length ∧ i < A.size := by
     have := hr.2.1; rw [List.length_cons] at this; omega
    rw [if_pos hr, if_pos h3, show i - k = (i - (k + 1)) + 1 from by omega, List.getElem?_cons_succ]
   ·have h3 : ¬ (k + 1 ≤ i ∧ i < k + 1 + l.length ∧ i < A.size) := by
     intro h; apply hr; rw [List.length_cons]; omega
    rw [if_neg hr, if_neg h3, Array.getElem?_setIfInBounds, if_neg (by omega)]
theorem fill_one (m : Nat) (g : Nat → Value) (A : Array Value) (hA : A.size = m) : Instr.fill (fun i => some (i * m, m)) A [(0, Agg m g)] = some (Array.ofFn (n := m) fun i => g i.val) := by
 have hc : (Agg m g).cells = Array.ofFn (n := m) fun i => g i.val := rfl
 simp only [Instr.fill, hc, Array.size_ofFn, Nat.zero_mul, Nat.zero_add, hA]
 simp only [ne_eq, not_true_eq_false, decide_false, gt_iff_lt, Nat.lt_irrefl, Bool.or_false, Bool.false_eq_true, if_false, Option.some.injEq]
 obtain ⟨B, hB⟩ : ∃ B : Array Value, (Array.ofFn (n := m) fun i => g i.val) = B := ⟨_, rfl⟩
 have hs : B.size = m := by rw [← hB]; simp
 rw [hB, ← Array.foldl_toList, Array.toList_zipIdx]
 obtain ⟨h1, h2⟩ := foldl_set B.toList 0 A
 apply Array.ext_getElem?
 intro i
 rw [h2, Nat.zero_add, Array.length_toList, Nat.sub_zero, Array.getElem?_toList]
 by_cases hi : i < m
 ·rw [if_pos (by omega)]
 ·rw [if_neg (by omega), Array.getElem?_eq_none (by omega), Array.getElem?_eq_none (by omega)]
theorem run_buildSlice_one (t e : TypeId) (m : Nat) (g : Nat → Value) (z : Value) (w : World) (ht : P.underlying t = some (.slice e)) (hm : (P.info? e).map (·.size) = some m) (hz : (P.info? e).bind (·.zero) = some z) (hm0 : 0 < m) (hm1 : m ≤ 16777216) (hzs : z.cells.size = m) :
 (Instr.buildSlice t 1 #[(0, Agg m g)]).run P w = .ok (.slice (some ⟨w.heap.size, 0, none⟩) 1 1) (w.alloc (.cells (Array.ofFn (n := m) fun i => g i.val) e)) := by
 cases hq : P.info? e with
 | none => simp [hq] at hm
 | some i =>
  have hm' : i.size = m := by simpa [hq] using hm
  have hz' : i.zero = some z := by simpa [hq] using hz
  have hsz : (sizeOf e).run P w = .ok m w := by rw [run_sizeOf w hq]; simp [Program.cellsOf, hq, hm']
  have hzv : (zeroValue e).run P w = .ok z w := by simp [zeroValue, typeInfo, hq, hz', Sem.run_bind]
  have hf := fill_one m g ((Array.range (1 * m)).map (z.cells[· % z.cells.size]!)) (by simp)
  simp only [Instr.buildSlice, Sem.run_bind, run_underlying ht, Result.andThen_ok, hsz]
  rw [if_neg (by omega)]
  rw [if_neg (by omega)]
  simp only [Sem.run_bind, hzv, Result.andThen_ok, Sem.run_pure]
  rw [hf]
  simp [newRow, newObj]
  rfl
theorem zce (t e : TypeId) (x : Operand) (ho : o.op = .buildSlice t 1 #[(0, x)]) (d : Option Tmp) (hd : o.dst = d) (m : Nat) (g : Nat → Value) (z : Value) (hx : a.eval x = Agg m g)
 (ht : P.underlying t = some (.slice e)) (hm : (P.info? e).map (·.size) = some m) (hz : (P.info? e).bind (·.zero) = some z) (hm0 : 0 < m) (hm1 : m ≤ 16777216) (hzs : z.cells.size = m)
 (h : ∀ w1, Fr [] w w1 → w1.heap.size = w.heap.size + 1 → Blk w1 w.heap.size m g → K (a.put d (.slice (some ⟨w.heap.size, 0, none⟩) 1 1)) w1) : Oper.wp P o a w K Q := by
 subst hd
 have hrun := run_buildSlice_one (P := P) t e m g z w ht hm hz hm0 hm1 hzs
 unfold Oper.wp
 have hmap : (#[(0, x)] : Array (Nat × Operand)).map (fun (i, x) => (i, a.eval x)) = #[(0, Agg m g)] := by simp [hx]
 simp only [execOp, ho, hmap, Sem.run_bind, hrun, Result.andThen_ok, Sem.run_pure, Oper.upon]
 exact h _ ((Fr.refl _ _).alloc _) (by simp) (Blk.new w m g e)
end
end Go.Proofs.YtkglggkkbmmjkabGreatDoor
