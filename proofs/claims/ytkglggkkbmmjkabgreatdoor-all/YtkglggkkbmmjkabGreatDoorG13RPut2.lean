import Derived.Test.YtkglggkkbmmjkabGreatDoorG12RFirst
import Derived.Deep.RegionHeld3
namespace Go.Proofs.YtkglggkkbmmjkabGreatDoor
open Go.RowKit
structure It where
 R : Nat
 P : Nat
 T : Nat
def It.ok (x : It) : Prop := x.R ≤ 8 ∧ x.P ≤ 4 ∧ x.T < 128
def It.key (x : It) : Nat := (x.R * 8 + x.P) * 128 + x.T
theorem It.eq_of_key {x y : It} (hx : x.ok) (hy : y.ok) (h : x.key = y.key) : x = y := by
 obtain ⟨a, b, c⟩ := x
 obtain ⟨a', b', c'⟩ := y
 simp only [It.key, It.ok] at *
 have e1 : c = c' := by omega
 have e2 : b = b' := by omega
 have e3 : a = a' := by omega
 rw [e1, e2, e3]
set_option maxHeartbeats 1000000 in
theorem r_ahead (a b : It) (w : World) (ha : a.ok) (hb : b.ok) :
 Calls Tryz.prog 145 #[.agg #[.int .i64 a.R, .int .i64 a.P, .int .u8 a.T], .agg #[.int .i64 b.R, .int .i64 b.P, .int .u8 b.T]] w fun e w' => e = .returned (.bool (decide (a.key < b.key))) ∧ Fr [] w w' := by
 obtain ⟨a1, a2, a3⟩ := ha
 obtain ⟨b1, b2, b3⟩ := hb
 by_cases h1 : a.R = b.R
 ·have e1 : (((a.R : Nat) : Int) != (b.R : Nat)) = false := by rw [h1]; simp
  by_cases h2 : a.P = b.P
  ·have e2 : (((a.P : Nat) : Int) != (b.P : Nat)) = false := by rw [h2]; simp
   have HE := hide (show decide (a.T < b.T) = decide (a.key < b.key) from by
    rw [decide_eq_decide]; unfold It.key; omega)
   clear h1 h2
   go_enter Tryz.func145, Tryz.ntmps145
   go_wp2
   go_ret
   exact ⟨zap (zaa HE), ((Fr.refl _ _).alloc _).alloc _⟩
  ·have e2 : (((a.P : Nat) : Int) != (b.P : Nat)) = true := by rw [bne_iff_ne]; omega
   have HE := hide (show decide (a.P < b.P) = decide (a.key < b.key) from by
    rw [decide_eq_decide]; unfold It.key; omega)
   clear h1 h2
   go_enter Tryz.func145, Tryz.ntmps145
   go_wp2
   go_ret
   exact ⟨zap (zaa HE), ((Fr.refl _ _).alloc _).alloc _⟩
 ·have e1 : (((a.R : Nat) : Int) != (b.R : Nat)) = true := by rw [bne_iff_ne]; omega
  have HE := hide (show decide (a.R < b.R) = decide (a.key < b.key) from by
   rw [decide_eq_decide]; unfold It.key; omega)
  clear h1
  go_enter Tryz.func145, Tryz.ntmps145
  go_wp2
  go_ret
  exact ⟨zap (zaa HE), ((Fr.refl _ _).alloc _).alloc _⟩
theorem Fr.cell {S : List Nat} {w w' : World} (k : Fr S w w') {b o : Nat} {v : Value} (h : w.cell? ⟨b, o, none⟩ = some v) (hb : b ∉ S) : w'.cell? ⟨b, o, none⟩ = some v := by
 have hlt := World.block_lt_of_cell? w ⟨b, o, none⟩ h
 unfold World.cell? at h ⊢
 rw [k.block b hlt hb]; exact h
theorem Fr.cell0 {w w' : World} (k : Fr [] w w') {b o : Nat} {v : Value} (h : w.cell? ⟨b, o, none⟩ = some v) : w'.cell? ⟨b, o, none⟩ = some v := k.cell h (by simp)
/-! Rows of items in memory. -/
def it0 : It := ⟨0, 0, 0⟩
def lget (l : List It) (i : Nat) : It := l.getD i it0
theorem zb6 (l : List It) (i : Nat) (h : i < l.length) : lget l i = l[i] := by simp [lget, h]
def itC (x : It) (r : Nat) : Value := if r = 0 then .int .i64 x.R else if r = 1 then .int .i64 x.P else .int .u8 x.T
def itF (B : Nat → It) (j : Nat) : Value := itC (B (j / 3)) (j % 3)
def itCells (l : List It) : List Value := l.flatMap fun x => [.int .i64 x.R, .int .i64 x.P, .int .u8 x.T]
theorem itCells_len (l : List It) : (itCells l).length = l.length * 3 := by
 unfold itCells
 induction l with
 | nil => rfl
 | cons x l ih => rw [List.flatMap_cons, List.length_append, ih, List.length_cons]; simp; omega
theorem itCells_get : ∀ (l : List It) (j : Nat), j < l.length * 3 → (itCells l)[j]? = some (itF (lget l) j)
 | [], j, h => by simp at h
 | x :: l, j, h => by
  have e : itCells (x :: l) = .int .i64 x.R :: .int .i64 x.P :: .int .u8 x.T :: itCells l := rfl
  rw [e]
  match j, h with
  | 0, _ => rfl
  | 1, _ => rfl
  | 2, _ => rfl
  | j + 3, h =>
   have ih := itCells_get l j (by simp at h; omega)
   show (itCells l)[j]? = _
   rw [ih]
   unfold itF
   rw [show (j + 3) / 3 = j / 3 + 1 from by omega, show (j + 3) % 3 = j % 3 from by omega]
   rfl
theorem itCells_app (l : List It) (x : It) : itCells (l ++ [x]) = itCells l ++ [.int .i64 x.R, .int .i64 x.P, .int .u8 x.T] := by simp [itCells]
theorem itF_at (B : Nat → It) (i : Nat) : itF B (i * 3) = .int .i64 (B i).R ∧ itF B (i * 3 + 1) = .int .i64 (B i).P ∧ itF B (i * 3 + 2) = .int .u8 (B i).T := by
 unfold itF
 rw [show i * 3 / 3 = i from by omega, show i * 3 % 3 = 0 from by omega, show (i * 3 + 1) / 3 = i from by omega, show (i * 3 + 1) % 3 = 1 from by omega, show (i * 3 + 2) / 3 = i from by omega, show (i * 3 + 2) % 3 = 2 from by omega]
 exact ⟨rfl, rfl, rfl⟩
def BT (w : World) (b : Nat) (T : TypeId) (n : Nat) (f : Nat → Value) : Prop := w.heap[b]? = some (.cells (Array.ofFn (n := n) fun i => f i.val) T (0, 0))
theorem BT.blk {w : World} {b n : Nat} {T : TypeId} {f : Nat → Value} (h : BT w b T n f) : Blk w b n f := ⟨T, h⟩
theorem BT.congr {w : World} {b n : Nat} {T : TypeId} {f g : Nat → Value} (h : BT w b T n f) (e : ∀ i, i < n → f i = g i) : BT w b T n g := by
 unfold BT at *
 rw [h, show (Array.ofFn (n := n) fun i => f i.val) = Array.ofFn (n := n) fun i => g i.val from by congr 1; funext i; exact e i.1 i.2]
theorem BT.fr {S : List Nat} {w w' : World} {b n : Nat} {T : TypeId} {f : Nat → Value} (h : BT w b T n f) (k : Fr S w w') (hb : b ∉ S) : BT w' b T n f := by
 unfold BT at *
 rw [k.block b (Blk.lt ⟨T, h⟩) hb, h]
theorem BT.fr0 {w w' : World} {b n : Nat} {T : TypeId} {f : Nat → Value} (h : BT w b T n f) (k : Fr [] w w') : BT w' b T n f := h.fr k (by simp)
theorem setCells_ty {b : Nat} {T : TypeId} : ∀ (vs : List Value) (o : Nat) (w : World), (∃ cs, w.heap[b]? = some (.cells cs T (0, 0))) → ∃ cs, (w.setCells b o vs).heap[b]? = some (.cells cs T (0, 0))
 | [], _, _, h => h
 | v :: r, o, w, ⟨cs, h⟩ => by
  rw [World.setCells]
  refine setCells_ty r (o + 1) _ ⟨?_, ?_⟩
  rotate_left
  ·simp only [World.setCell, Array.getElem?_modify, if_true, h, Option.map_some, Option.isSome_none, Bool.false_eq_true, if_false]
   rfl
section
variable {P : Program} {ops : Array Oper} {rest : List Oper} {o : Oper} {a : Act} {w : World} {Q : Exit → Act → World → Prop}
theorem zcp (hgd : o.guard = none) (T : TypeId) (x y : Operand) (ho : o.op = .store T x y) (b off m n : Nat) (T' : TypeId) (f g : Nat → Value)
 (hx : a.eval x = .pointer (some ⟨b, off, none⟩)) (hy : a.eval y = Agg m g) (hb : BT w b T' n f) (hi : (P.info? T).map (·.size) = some m) (hm : off + m ≤ n) (h1 : oneB g m)
 (h : ∀ w1, Fr [b] w w1 → w1.heap.size = w.heap.size → BT w1 b T' n (lay f off m g) → wpList P ops Q rest (a.put o.dst undef) w1) :
 wpList P ops Q (o :: rest) a w := by
 refine wpList_plain hgd fun K hK => ?_
 have hrun := run_storeVar_mid (P := P) w b off T (Array.ofFn (n := m) fun i => g i.val) (fun j hj => by
  rw [hb.blk.cell _ (by simp at hj; omega), hb.blk.free]; exact ⟨rfl, rfl⟩) (by simpa using hi)
  (Array.all_eq_true_iff_forall_mem.2 (fun v hv => by
    obtain ⟨i, rfl⟩ := Array.mem_ofFn.1 hv
    exact h1 i.1 i.2))
 have hl := setCells_fr b (Array.ofFn (n := m) fun i => g i.val).toList off w
 have hB := (Blk.setCells (Array.ofFn (n := m) fun i => g i.val).toList off w f hb.blk).congr (g := lay f off m g) fun i _ => by
  simp only [lay, Array.length_toList, Array.size_ofFn]
  split
  ·rename_i hh
   simp only [List.getD_eq_getElem?_getD, Array.getElem?_toList, Array.getElem?_ofFn]
   rw [dif_pos (by omega)]; rfl
  ·rfl
 have hT := setCells_ty (b := b) (T := T') (Array.ofFn (n := m) fun i => g i.val).toList off w ⟨_, hb⟩
 have hBT : BT (w.setCells b off (Array.ofFn (n := m) fun i => g i.val).toList) b T' n (lay f off m g) := by
  obtain ⟨T2, h2⟩ := hB
  obtain ⟨cs, h3⟩ := hT
  rw [h2] at h3
  cases h3
  exact h2
 unfold Oper.wp
 simp only [execOp, ho, hx, hy, Agg, Instr.storeAt, Instr.sureAddr, Sem.run_bind, Sem.run_pure, Result.andThen_ok, hrun, Oper.upon]
 exact hK _ _ (h _ hl.1 hl.2 hBT)
end
def IRow (w : World) (base : Nat) (v : Value) (l : List It) : Prop := w.ownsRow base 181 3 v l.length (itCells l)
theorem IRow.bt {w : World} {base g n cap : Nat} {l : List It} (h : IRow w base (.slice (some ⟨g, 0, none⟩) n cap) l) : ∃ f, BT w g 181 (cap * 3) f ∧ (∀ j, j < l.length * 3 → f j = itF (lget l) j) ∧ l.length ≤ cap ∧ cap ≤ maxLen ∧ base ≤ g ∧ n = l.length := by
 obtain ⟨h1, h2⟩ := h
 rcases h2 with ⟨h2, _⟩ | ⟨g', cap', cur, hv, hg, hh, hle, hmx, hsz, htk⟩
 ·cases h2
 ·cases hv
  refine ⟨fun i => cur.getD i undef, ?_, fun j hj => ?_, hle, hmx, hg, rfl⟩
  ·unfold BT
   rw [hh]
   congr 2
   apply Array.ext
   ·simp [hsz]
   ·intro i h1 h2
    simp [h1]
  ·have := itCells_get l j hj
   rw [← htk, List.getElem?_take, if_pos hj, Array.getElem?_toList] at this
   simp [this]
theorem IRow.of_bt {w : World} {base g cap : Nat} {l : List It} {f : Nat → Value} (h : BT w g 181 (cap * 3) f) (hf : ∀ j, j < l.length * 3 → f j = itF (lget l) j) (hc : l.length ≤ cap) (hx : cap ≤ maxLen) (hg : base ≤ g) :
 IRow w base (.slice (some ⟨g, 0, none⟩) l.length cap) l := by
 refine ⟨itCells_len l, Or.inr ⟨g, cap, _, rfl, hg, h, hc, hx, by simp, ?_⟩⟩
 apply List.ext_getElem?
 intro j
 rw [List.getElem?_take]
 by_cases hj : j < l.length * 3
 ·rw [if_pos hj, itCells_get l j hj, Array.getElem?_toList, Array.getElem?_ofFn, dif_pos (by omega), hf j hj]
 ·rw [if_neg hj, List.getElem?_eq_none (by rw [itCells_len]; omega)]
end Go.Proofs.YtkglggkkbmmjkabGreatDoor
namespace Go.Proofs.YtkglggkkbmmjkabGreatDoor
open Go.RowKit
/-! An item joins a list in order. -/
def putL : List It → It → List It
 | [], x => [x]
 | y :: l, x => if y.key < x.key then y :: putL l x else if y.key = x.key then y :: l else x :: y :: l
def hasK (l : List It) (x : It) : Bool := l.any fun y => y.key == x.key
def Srt (l : List It) : Prop := l.Pairwise fun a b => a.key < b.key
theorem putL_at : ∀ (l : List It) (x : It) (k : Nat), k ≤ l.length → (∀ j, j < k → (lget l j).key < x.key) → (k < l.length → x.key ≤ (lget l k).key) →
 (k < l.length ∧ (lget l k).key = x.key → putL l x = l) ∧ (¬ (k < l.length ∧ (lget l k).key = x.key) → putL l x = l.take k ++ x :: l.drop k)
 | [], x, k, h1, _, _ => by
  have : k = 0 := by simpa using h1
  subst this
  exact ⟨fun h => by simp at h, fun _ => rfl⟩
 | y :: l, x, 0, _, _, h3 => by
  have h3 : x.key ≤ y.key := h3 (by simp)
  refine ⟨fun h => ?_, fun h => ?_⟩
  ·have h4 : y.key = x.key := h.2
   rw [putL, if_neg (by omega), if_pos h4]
  ·have h4 : y.key ≠ x.key := fun e => h ⟨by simp, e⟩
   rw [putL, if_neg (by omega), if_neg h4]; rfl
 | y :: l, x, k + 1, h1, h2, h3 => by
  have h0 : y.key < x.key := h2 0 (by omega)
  obtain ⟨ih1, ih2⟩ := putL_at l x k (by simp at h1; omega) (fun j hj => h2 (j + 1) (by omega)) (fun h => h3 (by simp; omega))
  refine ⟨fun h => ?_, fun h => ?_⟩
  ·rw [putL, if_pos h0, ih1 ⟨by have := h.1; simp at this; omega, h.2⟩]
  ·rw [putL, if_pos h0, ih2 (fun h' => h ⟨by simp; omega, h'.2⟩)]; rfl
theorem hasK_at {l : List It} {x : It} {k : Nat} (hs : Srt l) (h2 : ∀ j, j < k → (lget l j).key < x.key) (h3 : k < l.length → x.key ≤ (lget l k).key) : hasK l x = decide (k < l.length ∧ (lget l k).key = x.key) := by
 rw [Bool.eq_iff_iff, decide_eq_true_iff]
 unfold hasK
 rw [List.any_eq_true]
 constructor
 ·rintro ⟨y, hy, he⟩
  have he : y.key = x.key := by simpa using he
  obtain ⟨j, hj, rfl⟩ := List.getElem_of_mem hy
  rw [← zb6 l j hj] at he
  rcases Nat.lt_trichotomy j k with h | h | h
  ·have := h2 j h; omega
  ·subst h; exact ⟨hj, he⟩
  ·have hk : k < l.length := by omega
   have h4 : l[k].key < l[j].key := List.pairwise_iff_getElem.1 hs k j hk hj h
   have h5 := h3 hk
   rw [zb6 l k hk] at h5
   rw [zb6 l j hj] at he
   omega
 ·rintro ⟨hk, he⟩
  refine ⟨l[k], List.getElem_mem hk, ?_⟩
  rw [zb6 l k hk] at he
  simpa using he
theorem putL_mem : ∀ (l : List It) (x y : It), y ∈ putL l x → y ∈ l ∨ y = x
 | [], x, y, h => by simp [putL] at h; exact Or.inr h
 | z :: l, x, y, h => by
  rw [putL] at h
  split at h
  ·rcases List.mem_cons.1 h with h | h
   ·exact Or.inl (h ▸ List.mem_cons_self ..)
   ·rcases putL_mem l x y h with h | h
    ·exact Or.inl (List.mem_cons_of_mem _ h)
    ·exact Or.inr h
  ·split at h
   ·exact Or.inl h
   ·rcases List.mem_cons.1 h with h | h
    ·exact Or.inr h
    ·exact Or.inl h
theorem putL_sub : ∀ (l : List It) (x y : It), y ∈ l → y ∈ putL l x
 | z :: l, x, y, h => by
  rw [putL]
  split
  ·rcases List.mem_cons.1 h with h | h
   ·exact h ▸ List.mem_cons_self ..
   ·exact List.mem_cons_of_mem _ (putL_sub l x y h)
  ·split
   ·exact h
   ·exact List.mem_cons_of_mem _ h
theorem putL_srt : ∀ (l : List It) (x : It), Srt l → Srt (putL l x)
 | [], x, _ => by unfold Srt; simp [putL]
 | z :: l, x, h => by
  have h' := List.pairwise_cons.1 h
  rw [putL]
  split
  ·rename_i hz
   refine List.pairwise_cons.2 ⟨fun y hy => ?_, putL_srt l x h'.2⟩
   rcases putL_mem l x y hy with hy | rfl
   ·exact h'.1 y hy
   ·exact hz
  ·split
   ·exact h
   ·refine List.pairwise_cons.2 ⟨fun y hy => ?_, h⟩
    rcases List.mem_cons.1 hy with rfl | hy
    ·omega
    ·have := h'.1 y hy; omega
theorem putL_has : ∀ (l : List It) (x : It), ∃ y ∈ putL l x, y.key = x.key
 | [], x => ⟨x, by simp [putL], rfl⟩
 | z :: l, x => by
  rw [putL]
  split
  ·obtain ⟨y, hy, e⟩ := putL_has l x
   exact ⟨y, List.mem_cons_of_mem _ hy, e⟩
  ·split
   ·exact ⟨z, List.mem_cons_self .., by assumption⟩
   ·exact ⟨x, List.mem_cons_self .., rfl⟩
theorem putL_old {l : List It} {x : It} (hs : Srt l) (h : hasK l x = true) : putL l x = l := by
 induction l with
 | nil => simp [hasK] at h
 | cons z l ih =>
  have h' := List.pairwise_cons.1 hs
  rw [putL]
  split
  ·rename_i hz
   rw [ih h'.2]
   unfold hasK at h ⊢
   rw [List.any_cons, Bool.or_eq_true] at h
   rcases h with h | h
   ·have : z.key = x.key := by simpa using h
    omega
   ·exact h
  ·split
   ·rfl
   ·rename_i hz hz2
    unfold hasK at h
    obtain ⟨y, hy, e⟩ := List.any_eq_true.1 h
    have e : y.key = x.key := by simpa using e
    rcases List.mem_cons.1 hy with rfl | hy
    ·omega
    ·have := h'.1 y hy; omega
theorem putL_len {l : List It} {x : It} (hs : Srt l) : (putL l x).length = l.length + if hasK l x then 0 else 1 := by
 cases h : hasK l x
 ·induction l with
  | nil => rfl
  | cons z l ih =>
   have h' := List.pairwise_cons.1 hs
   unfold hasK at h ih
   rw [List.any_cons, Bool.or_eq_false_iff] at h
   have hz : z.key ≠ x.key := by simpa using h.1
   rw [putL]
   split
   ·rw [List.length_cons, ih h'.2 h.2]; simp
   ·simp
 ·rw [putL_old hs h]; simp
def shB (A : Nat → It) (i : Nat) : Nat → It := fun j => if j ≤ i then A j else A (j - 1)
end Go.Proofs.YtkglggkkbmmjkabGreatDoor
namespace Go.Proofs.YtkglggkkbmmjkabGreatDoor
open Go.RowKit
theorem Tryz.infoItem : (Tryz.prog.info? 181).map (fun i => (i.zero, i.size, i.bytes)) = some (some (.agg #[.int .i64 0, .int .i64 0, .int .u8 0]), 3, 24) := by kernel_rfl
theorem Tryz.sizeItem : (Tryz.prog.info? 181).map (·.size) = some 3 := by kernel_rfl
section
variable {P : Program} {ops : Array Oper} {S : World → Prop}
end
set_option maxRecDepth 100000 in
set_option maxHeartbeats 2000000 in
theorem neq_items (y x : It) (h : ¬ (y.R = x.R ∧ y.P = x.P ∧ y.T = x.T)) (w : World) : (Op.equalIn 10000 181 (.agg #[.int .i64 y.R, .int .i64 y.P, .int .u8 y.T]) (.agg #[.int .i64 x.R, .int .i64 x.P, .int .u8 x.T])).run Tryz.prog w = .ok false w := by
 by_cases h1 : y.R = x.R
 ·by_cases h2 : y.P = x.P
  ·have h3 : ¬ y.T = x.T := fun e => h ⟨h1, h2, e⟩
   have q1 : (((y.R : Nat) : Int) == (x.R : Nat)) = true := by rw [beq_iff_eq]; omega
   have q2 : (((y.P : Nat) : Int) == (x.P : Nat)) = true := by rw [beq_iff_eq]; omega
   have q3 : (((y.T : Nat) : Int) == (x.T : Nat)) = false := by rw [beq_eq_false_iff_ne]; omega
   clear h h1 h2 h3
   go_simp
  ·have q1 : (((y.R : Nat) : Int) == (x.R : Nat)) = true := by rw [beq_iff_eq]; omega
   have q2 : (((y.P : Nat) : Int) == (x.P : Nat)) = false := by rw [beq_eq_false_iff_ne]; omega
   clear h h1 h2
   go_simp
 ·have q1 : (((y.R : Nat) : Int) == (x.R : Nat)) = false := by rw [beq_eq_false_iff_ne]; omega
  clear h h1
  go_simp
def PS (w wr : World) (g cap : Nat) (f : Nat → Value) (x : It) : Prop := Fr [] w wr ∧ BT wr g 181 (cap * 3) f ∧ Blk wr w.heap.size 3 (itC x) ∧ g < w.heap.size
theorem PS.fr {w wr wr' : World} {g cap : Nat} {f : Nat → Value} {x : It} (h : PS w wr g cap f x) (k : Fr [] wr wr') : PS w wr' g cap f x :=
 ⟨h.1.trans0 k, h.2.1.fr0 k, h.2.2.1.fr0 k, h.2.2.2⟩
/-! moving up -/
theorem agg_it (z : It) : (.agg #[.int .i64 z.R, .int .i64 z.P, .int .u8 z.T] : Value) = Agg 3 (itC z) := by
 unfold Agg
 congr 1
def updA (A : Nat → It) (i : Nat) (z : It) : Nat → It := fun j => if j = i then z else A j
theorem lay_it {f : Nat → Value} {A : Nat → It} {i : Nat} {z : It} {j : Nat} (h : f j = itF A j) : lay f (i * 3) 3 (itC z) j = itF (updA A i z) j := by
 unfold lay
 by_cases hj : i * 3 ≤ j ∧ j < i * 3 + 3
 ·rw [if_pos hj]
  unfold itF updA
  rw [if_pos (by omega), show j % 3 = j - i * 3 from by omega]
 ·rw [if_neg hj, h]
  unfold itF updA
  rw [if_neg (by omega)]
theorem itF_congr {A A' : Nat → It} {j : Nat} (h : A (j / 3) = A' (j / 3)) : itF A j = itF A' j := by unfold itF; rw [h]
theorem shB_step (A : Nat → It) (m j : Nat) : updA (shB A (m + 1)) (m + 1) (A m) j = shB A m j := by
 unfold updA shB
 by_cases e : j = m + 1
 ·rw [if_pos e, if_neg (by omega), e]; rfl
 ·rw [if_neg e]
  by_cases h : j ≤ m
  ·rw [if_pos (by omega), if_pos h]
  ·rw [if_neg (by omega), if_neg h]
theorem shB_end (l : List It) (x : It) (k j : Nat) (hk : k ≤ l.length) (hj : j ≤ l.length) : updA (shB (lget (l ++ [x])) k) k x j = lget (l.take k ++ x :: l.drop k) j := by
 unfold updA shB lget
 rcases Nat.lt_trichotomy j k with h | h | h
 ·rw [if_neg (by omega), if_pos (by omega), List.getD_eq_getElem?_getD, List.getD_eq_getElem?_getD, List.getElem?_append_left (by omega), List.getElem?_append_left (by rw [List.length_take]; omega), List.getElem?_take, if_pos h]
 ·subst h
  rw [if_pos rfl, List.getD_eq_getElem?_getD, List.getElem?_append_right (by rw [List.length_take]; omega), List.length_take, Nat.min_eq_left hk, Nat.sub_self]; rfl
 ·rw [if_neg (by omega), if_neg (by omega), List.getD_eq_getElem?_getD, List.getD_eq_getElem?_getD, List.getElem?_append_left (by omega), List.getElem?_append_right (by rw [List.length_take]; omega), List.length_take, Nat.min_eq_left hk]
  obtain ⟨d, rfl⟩ : ∃ d, j = k + (d + 1) := ⟨j - k - 1, by omega⟩
  rw [show k + (d + 1) - k = d + 1 from by omega, show k + (d + 1) - 1 = k + d from by omega, List.getElem?_cons_succ, List.getElem?_drop]
def SS (w3 wr : World) (g cap xb : Nat) (x : It) (A : Nat → It) (n : Nat) : Prop :=
 Fr [g] w3 wr ∧ (∃ f, BT wr g 181 (cap * 3) f ∧ ∀ j, j < n * 3 → f j = itF A j) ∧ Blk wr xb 3 (itC x)
set_option maxRecDepth 100000 in
set_option maxHeartbeats 4000000 in
theorem r_put_some (B g cap : Nat) (l : List It) (x : It) (w : World) (h : IRow w B (.slice (some ⟨g, 0, none⟩) l.length cap) l) (hok : ∀ y ∈ l, y.ok) (hx : x.ok) (hn : l.length ≤ 10000) (hB : B ≤ w.heap.size) (hs : Srt l) :
 Calls Tryz.prog 136 #[.slice (some ⟨g, 0, none⟩) l.length cap, .agg #[.int .i64 x.R, .int .i64 x.P, .int .u8 x.T]] w fun e w' => ∃ v, e = .returned (.tuple #[v, .bool (!hasK l x)]) ∧ IRow w' B v (putL l x) ∧ Fr [g] w w' ∧ (∀ g', v.ownBlock = some g' → g' = g ∨ w.heap.size ≤ g') := by
 obtain ⟨i0, hi0, hz0, hz1, hz2⟩ := info_parts Tryz.infoItem
 obtain ⟨f, hf, hfl, hcap, hmx, hBg, _⟩ := h.bt
 have HI := hide h
 have HFl := hide hfl
 have HOk := hide hok
 have HX := hide hx
 have HSrt := hide hs
 have HP0 := hide (show PS w (w.alloc (.cells #[.int .i64 x.R, .int .i64 x.P, .int .u8 x.T] 181)) g cap f x from
  ⟨(Fr.refl _ _).alloc _, hf.fr0 ((Fr.refl _ _).alloc _), Blk.newArr w _ _ 3 (itC x) rfl (fun i hi => by
    match i, hi with
    | 0, _ => rfl
    | 1, _ => rfl
    | 2, _ => rfl), hf.blk.lt⟩)
 clear h hfl hok hx hs hf
 go_enter Tryz.func136, Tryz.ntmps136
 go_wp2
 go_loopw [6] (fun a wr => ∃ k : Nat, k ≤ l.length ∧ a = .int .i64 k ∧ Hid (∀ j, j < k → (lget l j).key < x.key) ∧ Hid (PS w wr g cap f x)) (fun a _ => l.length - (intOf a).toNat)
 case atStart => exact ⟨0, by omega, rfl, fun j hj => by omega, HP0⟩
 case round =>
  obtain ⟨k, hk, rfl, hd, hs⟩ := hrel
  by_cases hlt : k < l.length
  ·have HY := hide (show w.heap.size = w.heap.size ∧ wr.cell? ⟨g, k * 3, none⟩ = some (.int .i64 (lget l k).R) ∧ wr.cell? ⟨g, k * 3 + 1, none⟩ = some (.int .i64 (lget l k).P) ∧ wr.cell? ⟨g, k * 3 + 2, none⟩ = some (.int .u8 (lget l k).T) ∧ wr.cell? ⟨w.heap.size, 0, none⟩ = some (.int .i64 x.R) ∧ wr.cell? ⟨w.heap.size, 1, none⟩ = some (.int .i64 x.P) ∧ wr.cell? ⟨w.heap.size, 2, none⟩ = some (.int .u8 x.T) from by
    obtain ⟨_, h2, h3, _⟩ := zaa hs
    obtain ⟨t0, t1, t2⟩ := itF_at (lget l) k
    refine ⟨rfl, ?_, ?_, ?_, h3.cell 0 (by omega), h3.cell 1 (by omega), h3.cell 2 (by omega)⟩
    ·rw [h2.blk.cell _ (by omega), zaa HFl _ (by omega), t0]
    ·rw [h2.blk.cell _ (by omega), zaa HFl _ (by omega), t1]
    ·rw [h2.blk.cell _ (by omega), zaa HFl _ (by omega), t2])
   have HOk1 := hide (zaa HOk l[k] (List.getElem_mem hlt))
   rw [← zb6 l k hlt] at HOk1
   obtain ⟨y, hy⟩ : ∃ y, lget l k = y := ⟨_, rfl⟩
   have HYY := hide hy
   rw [hy] at HY HOk1
   clear hy
   obtain ⟨_, c0, c1, c2, c3, c4, c5⟩ := zaa HY
   by_cases hkey : y.key < x.key
   ·have HN := hide (show ∀ j, j < k + 1 → (lget l j).key < x.key from fun j hj => by
     by_cases e : j = k
     ·rw [e, zaa HYY]; exact hkey
     ·exact zaa hd j (by omega))
    clear hd
    go_wp2_with fail
    go_region_held3 (fun w' => w'.cell? ⟨g, k * 3, none⟩ = some (.int .i64 y.R) ∧ w'.cell? ⟨g, k * 3 + 1, none⟩ = some (.int .i64 y.P) ∧ w'.cell? ⟨g, k * 3 + 2, none⟩ = some (.int .u8 y.T) ∧ w'.cell? ⟨w.heap.size, 0, none⟩ = some (.int .i64 x.R) ∧ w'.cell? ⟨w.heap.size, 1, none⟩ = some (.int .i64 x.P) ∧ w'.cell? ⟨w.heap.size, 2, none⟩ = some (.int .u8 x.T)) (first | (exact ⟨c0, c1, c2, c3, c4, c5⟩) | (exact ⟨hf2.cell0 c0, hf2.cell0 c1, hf2.cell0 c2, hf2.cell0 c3, hf2.cell0 c4, hf2.cell0 c5⟩)) ((go_at_call 145; refine (r_ahead y x _ (zaa HOk1) (zaa HX)).mono ?_; rintro e w2 ⟨rfl, hf2⟩; rw [decide_eq_true hkey]))
    go_wp2
    go_roundw
    case rel => exact ⟨k + 1, by omega, by go_num, HN, hide ((zaa hs).fr (((Fr.refl _ _).drew).trans0 hf2))⟩
    case measure => simp [intOf]; omega
   ·by_cases heq : y.key = x.key
    ·have e : x = y := (It.eq_of_key (zaa HOk1) (zaa HX) heq).symm
     subst e
     have HB := hide (show hasK l x = true from by
      rw [hasK_at (zaa HSrt) (zaa hd) (fun _ => by rw [zaa HYY]; omega)]; simp [hlt, zaa HYY])
     have HPut := hide (putL_old (zaa HSrt) (zaa HB))
     clear heq
     go_wp2_with fail
     go_region_held3 (fun w' => w'.cell? ⟨g, k * 3, none⟩ = some (.int .i64 x.R) ∧ w'.cell? ⟨g, k * 3 + 1, none⟩ = some (.int .i64 x.P) ∧ w'.cell? ⟨g, k * 3 + 2, none⟩ = some (.int .u8 x.T) ∧ w'.cell? ⟨w.heap.size, 0, none⟩ = some (.int .i64 x.R) ∧ w'.cell? ⟨w.heap.size, 1, none⟩ = some (.int .i64 x.P) ∧ w'.cell? ⟨w.heap.size, 2, none⟩ = some (.int .u8 x.T)) (first | (exact ⟨c0, c1, c2, c3, c4, c5⟩) | (exact ⟨hf2.cell0 c0, hf2.cell0 c1, hf2.cell0 c2, hf2.cell0 c3, hf2.cell0 c4, hf2.cell0 c5⟩)) ((go_at_call 145; refine (r_ahead x x _ (zaa HOk1) (zaa HX)).mono ?_; rintro e w2 ⟨rfl, hf2⟩; rw [decide_eq_false hkey]))
     have HS2 := hide ((zaa hs).fr (((Fr.refl _ _).drew).trans0 hf2))
     have d0 := hf2.cell0 c0
     have d1 := hf2.cell0 c1
     have d2 := hf2.cell0 c2
     have d3 := hf2.cell0 c3
     have d4 := hf2.cell0 c4
     have d5 := hf2.cell0 c5
     clear c0 c1 c2 c3 c4 c5 hf2 hs
     go_wp2_with fail
     go_region_held3 (fun w' => w'.cell? ⟨g, k * 3, none⟩ = some (.int .i64 x.R) ∧ w'.cell? ⟨g, k * 3 + 1, none⟩ = some (.int .i64 x.P) ∧ w'.cell? ⟨g, k * 3 + 2, none⟩ = some (.int .u8 x.T) ∧ w'.cell? ⟨w.heap.size, 0, none⟩ = some (.int .i64 x.R) ∧ w'.cell? ⟨w.heap.size, 1, none⟩ = some (.int .i64 x.P) ∧ w'.cell? ⟨w.heap.size, 2, none⟩ = some (.int .u8 x.T)) (exact ⟨d0, d1, d2, d3, d4, d5⟩) (fail)
     go_wp2
     go_ret2
     exact ⟨_, by rw [zaa HB]; rfl, by rw [zaa HPut]; exact zbd (zaa HI) ((zaa HS2).1.trans0 (Fr.refl [] _).drew) (by simp), ((zaa HS2).1.trans0 (Fr.refl [] _).drew).weak (by simp), fun g' hg' => Or.inl (by simp [Value.ownBlock] at hg'; omega)⟩
    ·have HB := hide (show hasK l x = false from by
      rw [hasK_at (zaa HSrt) (zaa hd) (fun _ => by rw [zaa HYY]; omega)]; simp [zaa HYY, heq])
     have HPut := hide ((putL_at l x k (by omega) (zaa hd) (fun _ => by rw [zaa HYY]; omega)).2 (fun h => heq (by rw [← zaa HYY]; exact h.2)))
     have hq := neq_items y x (fun h => heq (by unfold It.key; rw [h.1, h.2.1, h.2.2]))
     clear heq
     go_wp2_with fail
     go_region_held3 (fun w' => w'.cell? ⟨g, k * 3, none⟩ = some (.int .i64 y.R) ∧ w'.cell? ⟨g, k * 3 + 1, none⟩ = some (.int .i64 y.P) ∧ w'.cell? ⟨g, k * 3 + 2, none⟩ = some (.int .u8 y.T) ∧ w'.cell? ⟨w.heap.size, 0, none⟩ = some (.int .i64 x.R) ∧ w'.cell? ⟨w.heap.size, 1, none⟩ = some (.int .i64 x.P) ∧ w'.cell? ⟨w.heap.size, 2, none⟩ = some (.int .u8 x.T)) (first | (exact ⟨c0, c1, c2, c3, c4, c5⟩) | (exact ⟨hf2.cell0 c0, hf2.cell0 c1, hf2.cell0 c2, hf2.cell0 c3, hf2.cell0 c4, hf2.cell0 c5⟩)) ((go_at_call 145; refine (r_ahead y x _ (zaa HOk1) (zaa HX)).mono ?_; rintro e w2 ⟨rfl, hf2⟩; rw [decide_eq_false hkey]))
     have HS2 := hide ((zaa hs).fr (((Fr.refl _ _).drew).trans0 hf2))
     have d0 := hf2.cell0 c0
     have d1 := hf2.cell0 c1
     have d2 := hf2.cell0 c2
     have d3 := hf2.cell0 c3
     have d4 := hf2.cell0 c4
     have d5 := hf2.cell0 c5
     clear c0 c1 c2 c3 c4 c5 hf2 hs
     go_wp2_with fail
     go_region_held3 (fun w' => w'.cell? ⟨g, k * 3, none⟩ = some (.int .i64 y.R) ∧ w'.cell? ⟨g, k * 3 + 1, none⟩ = some (.int .i64 y.P) ∧ w'.cell? ⟨g, k * 3 + 2, none⟩ = some (.int .u8 y.T) ∧ w'.cell? ⟨w.heap.size, 0, none⟩ = some (.int .i64 x.R) ∧ w'.cell? ⟨w.heap.size, 1, none⟩ = some (.int .i64 x.P) ∧ w'.cell? ⟨w.heap.size, 2, none⟩ = some (.int .u8 x.T)) (exact ⟨d0, d1, d2, d3, d4, d5⟩) (fail)
     go_wp2_with (at_builtin; refine wpList_append_lies _ rfl (.tmp 35) (.tmp 37) 178 rfl B 181 i0 _ 3 24 Tryz.underlying178 hi0 hz0 hz1 hz2 rfl (by omega) (.slice (some ⟨g, 0, none⟩) l.length cap) l.length (itCells l) rfl (by first | exact zbd (zaa HI) (((zaa HS2).1.drew).alloc _) (by simp) | exact zbd (zaa HI) (((zaa HS2).1.alloc _).drew) (by simp)) _ 1 1 [.int .i64 x.R, .int .i64 x.P, .int .u8 x.T] rfl rfl (World.news_of_block (cs := #[.int .i64 x.R, .int .i64 x.P, .int .u8 x.T]) (t := 181) (fr := (0, 0)) (heap_alloc_new _ _)) (by simp [Value.oneCell']) (by omega) (by unfold maxLen; omega) (by omega) (by have := (zaa HS2).1.size; simp; omega) _ rfl ?_; intro g2 cap2 w3 hown3 hgrow3 hat3 hlt3; have HA3 := hide (And.intro hown3 (And.intro hgrow3 hat3)); clear hown3 hgrow3 hat3 hlt3)
     have HI3 := hide (show IRow w3 B (.slice (some ⟨g2, 0, none⟩) (l.length + 1) cap2) (l ++ [x]) from by
      unfold IRow; rw [itCells_app, List.length_append]; exact (zaa HA3).1)
     have HX3 := hide (show Blk w3 w.heap.size 3 (itC x) from Blk.grown (by exact (zaa HS2).2.2.1.alloc _) (zaa HA3).2.1 (by have := (zaa HS2).2.2.2; simp [Value.ownBlock]; omega))
     have hxg : w.heap.size ≠ g2 := by
      have h1 := (zaa HS2).2.2.2
      have h2 := (zaa HS2).2.2.1.lt
      rcases (zaa HA3).2.2 with h | h
      ·simp [Value.ownBlock] at h; omega
      ·simp at h; omega
     have HW3 := hide (show Fr [g] w w3 ∧ (g2 = g ∨ w.heap.size ≤ g2) from ⟨Fr.of_grown (((((zaa HS2).1.alloc _).drew).weak (by simp))) (zaa HA3).2.1 (fun k hk => by simp [Value.ownBlock] at hk; simp; omega), by have h2 := (zaa HS2).1.size; rcases (zaa HA3).2.2 with h | h; (simp [Value.ownBlock] at h; omega); (simp at h; omega)⟩)
     obtain ⟨f2, hb2, hl2, hc2, hm2, hg2, hnn⟩ := (zaa HI3).bt
     have hc2' : l.length + 1 ≤ cap2 := by simpa using hc2
     have HSS := hide (show SS w3 w3 g2 cap2 w.heap.size x (shB (lget (l ++ [x])) l.length) (l.length + 1) from
      ⟨Fr.refl _ _, ⟨f2, hb2, fun j hj => by rw [hl2 j (by simp; omega)]; exact itF_congr (by unfold shB; rw [if_pos (by omega)])⟩, zaa HX3⟩)
     have HM2 := hide (And.intro hm2 hg2)
     clear hb2 hl2 hc2 hm2 hg2 hnn HX3 HA3 HI3
     go_loopw [7] (fun a wr => ∃ i : Nat, k ≤ i ∧ i ≤ l.length ∧ a = .int .i64 i ∧ Hid (SS w3 wr g2 cap2 w.heap.size x (shB (lget (l ++ [x])) i) (l.length + 1))) (fun a _ => (intOf a).toNat - k)
     case atStart => exact ⟨l.length, by omega, by omega, by go_num, HSS⟩
     case round =>
      obtain ⟨i, hi1, hi2, rfl, hss⟩ := hrel
      obtain ⟨f3, hb3, hl3⟩ := (zaa hss).2.1
      have HB3 := hide hb3
      have HL3 := hide hl3
      by_cases hik : k < i
      ·obtain ⟨m, rfl⟩ : ∃ m, i = m + 1 := ⟨i - 1, by omega⟩
       obtain ⟨z, hz⟩ : ∃ z, lget (l ++ [x]) m = z := ⟨_, rfl⟩
       obtain ⟨t0, t1, t2⟩ := itF_at (shB (lget (l ++ [x])) (m + 1)) m
       have ez : shB (lget (l ++ [x])) (m + 1) m = z := by rw [← hz]; unfold shB; rw [if_pos (by omega)]
       rw [ez] at t0 t1 t2
       have m0 : wr.cell? ⟨g2, m * 3, none⟩ = some (.int .i64 z.R) := by rw [hb3.blk.cell _ (by omega), hl3 _ (by omega), t0]
       have m1 : wr.cell? ⟨g2, m * 3 + 1, none⟩ = some (.int .i64 z.P) := by rw [hb3.blk.cell _ (by omega), hl3 _ (by omega), t1]
       have m2 : wr.cell? ⟨g2, m * 3 + 2, none⟩ = some (.int .u8 z.T) := by rw [hb3.blk.cell _ (by omega), hl3 _ (by omega), t2]
       have HZ := hide hz
       have v0 : (0 : Int) ≤ (m : Int) := by omega
       have v1 : (m : Int) < (l.length : Int) + 1 := by omega
       have v2 : (0 : Int) ≤ (m : Int) + 1 := by omega
       have v3 : (m : Int) + 1 < (l.length : Int) + 1 := by omega
       clear t0 t1 t2 ez hz hb3 hl3
       go_wp2_with (refine zcp rfl 181 (.tmp 54) (.tmp 53) rfl g2 ((m + 1) * 3) 3 (cap2 * 3) 181 f3 (itC z) rfl (by exact agg_it z) (by exact zaa HB3) Tryz.sizeItem (by omega) (by intro i hi; unfold itC; split; rfl; split <;> rfl) ?_; intro w5 hf5 hs5 hB5; have HS5 := hide (show SS w3 w5 g2 cap2 w.heap.size x (shB (lget (l ++ [x])) m) (l.length + 1) from ⟨(zaa hss).1.trans hf5 (by simp), ⟨_, hB5, fun j hj => (lay_it (zaa HL3 j hj)).trans (itF_congr (by rw [← zaa HZ]; exact shB_step _ _ _))⟩, (zaa hss).2.2.fr1 hf5 hxg⟩); clear hf5 hs5 hB5)
       go_roundw
       case rel => exact ⟨m, by omega, by omega, by go_num, HS5⟩
       case measure => simp [intOf]; omega
      ·obtain rfl : i = k := by omega
       have n0 : wr.cell? ⟨w.heap.size, 0, none⟩ = some (.int .i64 x.R) := (zaa hss).2.2.cell 0 (by omega)
       have n1 : wr.cell? ⟨w.heap.size, 1, none⟩ = some (.int .i64 x.P) := (zaa hss).2.2.cell 1 (by omega)
       have n2 : wr.cell? ⟨w.heap.size, 2, none⟩ = some (.int .u8 x.T) := (zaa hss).2.2.cell 2 (by omega)
       have v0 : (0 : Int) ≤ (i : Int) := by omega
       have v1 : (i : Int) < (l.length : Int) + 1 := by omega
       clear hb3 hl3
       go_wp2_with (refine zcp rfl 181 (.tmp 58) (.tmp 57) rfl g2 (i * 3) 3 (cap2 * 3) 181 f3 (itC x) rfl (by exact agg_it x) (by exact zaa HB3) Tryz.sizeItem (by omega) (by intro i hi; unfold itC; split; rfl; split <;> rfl) ?_; intro w5 hf5 hs5 hB5; have HF5 := hide (And.intro hf5 hB5); clear hf5 hs5 hB5)
       go_ret2
       refine ⟨_, by rw [zaa HB]; rfl, ?_, (zaa HW3).1.trans1 ((zaa hss).1.trans (zaa HF5).1 (by simp)) (by have := (zaa HW3).2; simp; exact this), fun g' hg' => by have := (zaa HW3).2; simp [Value.ownBlock] at hg'; omega⟩
       have hlen : (l.take i ++ x :: l.drop i).length = l.length + 1 := by simp; omega
       rw [zaa HPut]
       have := IRow.of_bt (base := B) (l := l.take i ++ x :: l.drop i) (zaa HF5).2 (fun j hj => (lay_it (zaa HL3 j (by rw [hlen] at hj; exact hj))).trans (itF_congr (shB_end l x i (j / 3) (by omega) (by rw [hlen] at hj; omega)))) (by rw [hlen]; exact hc2') (zaa HM2).1 (zaa HM2).2
       rw [hlen] at this
       exact this
  ·have HB := hide (show hasK l x = false from by
    rw [hasK_at (zaa HSrt) (zaa hd) (fun h => absurd h hlt)]; simp [hlt])
   have HPut := hide ((putL_at l x k (by omega) (zaa hd) (fun h => absurd h hlt)).2 (fun h => hlt h.1))
   go_wp2_with fail
   go_quiet (fail)
   go_wp2_with fail
   go_quiet (fail)
   generalize hwd : World.drewN (World.drewN wr _) _ = w2
   have HS2 := hide (show PS w w2 g cap f x from by rw [← hwd]; exact (zaa hs).fr ((zal _ _).trans0 (zal _ _)))
   have d3 : w2.cell? ⟨w.heap.size, 0, none⟩ = some (.int .i64 x.R) := (zaa HS2).2.2.1.cell 0 (by omega)
   have d4 : w2.cell? ⟨w.heap.size, 1, none⟩ = some (.int .i64 x.P) := (zaa HS2).2.2.1.cell 1 (by omega)
   have d5 : w2.cell? ⟨w.heap.size, 2, none⟩ = some (.int .u8 x.T) := (zaa HS2).2.2.1.cell 2 (by omega)
   clear hs hwd
   go_wp2_with (at_builtin; refine wpList_append_lies _ rfl (.tmp 35) (.tmp 37) 178 rfl B 181 i0 _ 3 24 Tryz.underlying178 hi0 hz0 hz1 hz2 rfl (by omega) (.slice (some ⟨g, 0, none⟩) l.length cap) l.length (itCells l) rfl (by exact zbd (zaa HI) ((zaa HS2).1.alloc _) (by simp)) _ 1 1 [.int .i64 x.R, .int .i64 x.P, .int .u8 x.T] rfl rfl (World.news_of_block (cs := #[.int .i64 x.R, .int .i64 x.P, .int .u8 x.T]) (t := 181) (fr := (0, 0)) (heap_alloc_new _ _)) (by simp [Value.oneCell']) (by omega) (by unfold maxLen; omega) (by omega) (by have := (zaa HS2).1.size; simp; omega) _ rfl ?_; intro g2 cap2 w3 hown3 hgrow3 hat3 hlt3; have HA3 := hide (And.intro hown3 (And.intro hgrow3 hat3)); clear hown3 hgrow3 hat3 hlt3)
   have HI3 := hide (show IRow w3 B (.slice (some ⟨g2, 0, none⟩) (l.length + 1) cap2) (l ++ [x]) from by
    unfold IRow; rw [itCells_app, List.length_append]; exact (zaa HA3).1)
   have HX3 := hide (show Blk w3 w.heap.size 3 (itC x) from Blk.grown (by exact (zaa HS2).2.2.1.alloc _) (zaa HA3).2.1 (by have := (zaa HS2).2.2.2; simp [Value.ownBlock]; omega))
   have hxg : w.heap.size ≠ g2 := by
    have h1 := (zaa HS2).2.2.2
    have h2 := (zaa HS2).2.2.1.lt
    rcases (zaa HA3).2.2 with h | h
    ·simp [Value.ownBlock] at h; omega
    ·simp at h; omega
   have HW3 := hide (show Fr [g] w w3 ∧ (g2 = g ∨ w.heap.size ≤ g2) from ⟨Fr.of_grown ((((zaa HS2).1.alloc _).weak (by simp))) (zaa HA3).2.1 (fun k hk => by simp [Value.ownBlock] at hk; simp; omega), by have h2 := (zaa HS2).1.size; rcases (zaa HA3).2.2 with h | h; (simp [Value.ownBlock] at h; omega); (simp at h; omega)⟩)
   obtain ⟨f2, hb2, hl2, hc2, hm2, hg2, hnn⟩ := (zaa HI3).bt
   have hc2' : l.length + 1 ≤ cap2 := by simpa using hc2
   have HSS := hide (show SS w3 w3 g2 cap2 w.heap.size x (shB (lget (l ++ [x])) l.length) (l.length + 1) from
    ⟨Fr.refl _ _, ⟨f2, hb2, fun j hj => by rw [hl2 j (by simp; omega)]; exact itF_congr (by unfold shB; rw [if_pos (by omega)])⟩, zaa HX3⟩)
   have HM2 := hide (And.intro hm2 hg2)
   clear hb2 hl2 hc2 hm2 hg2 hnn HX3 HA3 HI3
   go_loopw [7] (fun a wr => ∃ i : Nat, k ≤ i ∧ i ≤ l.length ∧ a = .int .i64 i ∧ Hid (SS w3 wr g2 cap2 w.heap.size x (shB (lget (l ++ [x])) i) (l.length + 1))) (fun a _ => (intOf a).toNat - k)
   case atStart => exact ⟨l.length, by omega, by omega, by go_num, HSS⟩
   case round =>
    obtain ⟨i, hi1, hi2, rfl, hss⟩ := hrel
    obtain ⟨f3, hb3, hl3⟩ := (zaa hss).2.1
    have HB3 := hide hb3
    have HL3 := hide hl3
    by_cases hik : k < i
    ·exact absurd hik (by omega)
    ·obtain rfl : i = k := by omega
     have n0 : wr.cell? ⟨w.heap.size, 0, none⟩ = some (.int .i64 x.R) := (zaa hss).2.2.cell 0 (by omega)
     have n1 : wr.cell? ⟨w.heap.size, 1, none⟩ = some (.int .i64 x.P) := (zaa hss).2.2.cell 1 (by omega)
     have n2 : wr.cell? ⟨w.heap.size, 2, none⟩ = some (.int .u8 x.T) := (zaa hss).2.2.cell 2 (by omega)
     have v0 : (0 : Int) ≤ (i : Int) := by omega
     have v1 : (i : Int) < (l.length : Int) + 1 := by omega
     clear hb3 hl3
     go_wp2_with (refine zcp rfl 181 (.tmp 58) (.tmp 57) rfl g2 (i * 3) 3 (cap2 * 3) 181 f3 (itC x) rfl (by exact agg_it x) (by exact zaa HB3) Tryz.sizeItem (by omega) (by intro i hi; unfold itC; split; rfl; split <;> rfl) ?_; intro w5 hf5 hs5 hB5; have HF5 := hide (And.intro hf5 hB5); clear hf5 hs5 hB5)
     go_ret2
     refine ⟨_, by rw [zaa HB]; rfl, ?_, (zaa HW3).1.trans1 ((zaa hss).1.trans (zaa HF5).1 (by simp)) (by have := (zaa HW3).2; simp; exact this), fun g' hg' => by have := (zaa HW3).2; simp [Value.ownBlock] at hg'; omega⟩
     have hlen : (l.take i ++ x :: l.drop i).length = l.length + 1 := by simp; omega
     rw [zaa HPut]
     have := IRow.of_bt (base := B) (l := l.take i ++ x :: l.drop i) (zaa HF5).2 (fun j hj => (lay_it (zaa HL3 j (by rw [hlen] at hj; exact hj))).trans (itF_congr (shB_end l x i (j / 3) (by omega) (by rw [hlen] at hj; omega)))) (by rw [hlen]; exact hc2') (zaa HM2).1 (zaa HM2).2
     rw [hlen] at this
     exact this
set_option maxRecDepth 100000 in
set_option maxHeartbeats 4000000 in
theorem r_put_nil (B : Nat) (x : It) (w : World) (hB : B ≤ w.heap.size) :
 Calls Tryz.prog 136 #[.slice none 0 0, .agg #[.int .i64 x.R, .int .i64 x.P, .int .u8 x.T]] w fun e w' => ∃ v, e = .returned (.tuple #[v, .bool true]) ∧ IRow w' B v [x] ∧ Fr [] w w' ∧ (∀ g', v.ownBlock = some g' → w.heap.size ≤ g') := by
 obtain ⟨i0, hi0, hz0, hz1, hz2⟩ := info_parts Tryz.infoItem
 have HX0 := hide (show Blk (w.alloc (.cells #[.int .i64 x.R, .int .i64 x.P, .int .u8 x.T] 181)) w.heap.size 3 (itC x) from
  Blk.newArr w _ _ 3 (itC x) rfl (fun i hi => by
   match i, hi with
   | 0, _ => rfl
   | 1, _ => rfl
   | 2, _ => rfl))
 have HF0 := hide (show Fr [] w (w.alloc (.cells #[.int .i64 x.R, .int .i64 x.P, .int .u8 x.T] 181)) from (Fr.refl _ _).alloc _)
 go_enter Tryz.func136, Tryz.ntmps136
 go_wp2_with fail
 go_loopw [6] (fun a wr => a = .int .i64 0 ∧ Hid (Fr [] w wr ∧ Blk wr w.heap.size 3 (itC x))) (fun _ _ => 0)
 case atStart => exact ⟨rfl, hide ⟨zaa HF0, zaa HX0⟩⟩
 case round =>
  obtain ⟨rfl, hs⟩ := hrel
  go_wp2_with fail
  go_quiet (fail)
  go_wp2_with fail
  go_quiet (fail)
  generalize hwd : World.drewN (World.drewN wr _) _ = w2
  have HS2 := hide (show Fr [] w w2 ∧ Blk w2 w.heap.size 3 (itC x) from by rw [← hwd]; exact ⟨(zaa hs).1.trans0 ((zal _ _).trans0 (zal _ _)), (zaa hs).2.fr0 ((zal _ _).trans0 (zal _ _))⟩)
  have d3 : w2.cell? ⟨w.heap.size, 0, none⟩ = some (.int .i64 x.R) := (zaa HS2).2.cell 0 (by omega)
  have d4 : w2.cell? ⟨w.heap.size, 1, none⟩ = some (.int .i64 x.P) := (zaa HS2).2.cell 1 (by omega)
  have d5 : w2.cell? ⟨w.heap.size, 2, none⟩ = some (.int .u8 x.T) := (zaa HS2).2.cell 2 (by omega)
  clear hs hwd
  go_wp2_with (at_builtin; refine wpList_append_lies _ rfl (.tmp 35) (.tmp 37) 178 rfl B 181 i0 _ 3 24 Tryz.underlying178 hi0 hz0 hz1 hz2 rfl (by omega) (.slice none 0 0) 0 [] rfl (World.ownsRow_nil _ _ _ _) _ 1 1 [.int .i64 x.R, .int .i64 x.P, .int .u8 x.T] rfl rfl (World.news_of_block (cs := #[.int .i64 x.R, .int .i64 x.P, .int .u8 x.T]) (t := 181) (fr := (0, 0)) (heap_alloc_new _ _)) (by simp [Value.oneCell']) (by omega) (by unfold maxLen; omega) (by omega) (by have := (zaa HS2).1.size; simp; omega) _ rfl ?_; intro g2 cap2 w3 hown3 hgrow3 hat3 hlt3; have HA3 := hide (And.intro hown3 (And.intro hgrow3 hat3)); clear hown3 hgrow3 hat3 hlt3)
  have HX3 := hide (show Blk w3 w.heap.size 3 (itC x) from Blk.grown (by exact (zaa HS2).2.alloc _) (zaa HA3).2.1 (by simp [Value.ownBlock]))
  have hxg : w.heap.size ≠ g2 := by
   have h2 := (zaa HS2).2.lt
   rcases (zaa HA3).2.2 with h | h
   ·simp [Value.ownBlock] at h
   ·simp at h; omega
  have HW3 := hide (show Fr [] w w3 ∧ w.heap.size ≤ g2 from ⟨Fr.of_grown ((zaa HS2).1.alloc _) (zaa HA3).2.1 (fun k hk => by simp [Value.ownBlock] at hk), by have h2 := (zaa HS2).1.size; rcases (zaa HA3).2.2 with h | h; (simp [Value.ownBlock] at h); (simp at h; omega)⟩)
  have HI3 := hide (show IRow w3 B (.slice (some ⟨g2, 0, none⟩) 1 cap2) [x] from (zaa HA3).1)
  obtain ⟨f2, hb2, hl2, hc2, hm2, hg2, hnn⟩ := (zaa HI3).bt
  have hc2' : 1 ≤ cap2 := by simpa using hc2
  have HM2 := hide (And.intro hm2 hg2)
  have HSS := hide (show Fr [g2] w3 w3 ∧ BT w3 g2 181 (cap2 * 3) f2 ∧ Blk w3 w.heap.size 3 (itC x) from ⟨Fr.refl _ _, hb2, zaa HX3⟩)
  have HL2 := hide hl2
  clear hb2 hl2 hc2 hm2 hg2 hnn HX3 HA3 HI3 d3 d4 d5
  go_loopw [7] (fun a wr => a = .int .i64 0 ∧ Hid (Fr [g2] w3 wr ∧ BT wr g2 181 (cap2 * 3) f2 ∧ Blk wr w.heap.size 3 (itC x))) (fun _ _ => 0)
  case atStart => exact ⟨rfl, HSS⟩
  case round =>
   obtain ⟨rfl, hss⟩ := hrel
   have n0 : wr.cell? ⟨w.heap.size, 0, none⟩ = some (.int .i64 x.R) := (zaa hss).2.2.cell 0 (by omega)
   have n1 : wr.cell? ⟨w.heap.size, 1, none⟩ = some (.int .i64 x.P) := (zaa hss).2.2.cell 1 (by omega)
   have n2 : wr.cell? ⟨w.heap.size, 2, none⟩ = some (.int .u8 x.T) := (zaa hss).2.2.cell 2 (by omega)
   go_wp2_with (refine zcp rfl 181 (.tmp 58) (.tmp 57) rfl g2 0 3 (cap2 * 3) 181 f2 (itC x) rfl (by exact agg_it x) (by exact (zaa hss).2.1) Tryz.sizeItem (by omega) (by intro i hi; unfold itC; split; rfl; split <;> rfl) ?_; intro w5 hf5 hs5 hB5; have HF5 := hide (And.intro hf5 hB5); clear hf5 hs5 hB5)
   go_ret2
   refine ⟨_, rfl, ?_, (zaa HW3).1.trans1 ((zaa hss).1.trans (zaa HF5).1 (by simp)) (Or.inr (zaa HW3).2), fun g' hg' => by have := (zaa HW3).2; simp [Value.ownBlock] at hg'; omega⟩
   exact IRow.of_bt (base := B) (l := [x]) (zaa HF5).2 (fun j hj => (lay_it (i := 0) (zaa HL2 j hj)).trans (itF_congr (by
    have : j / 3 = 0 := by simp at hj; omega
    rw [this]; rfl))) hc2' (zaa HM2).1 (zaa HM2).2
theorem r_put (B : Nat) (v : Value) (l : List It) (x : It) (w : World) (h : IRow w B v l) (hok : ∀ y ∈ l, y.ok) (hx : x.ok) (hn : l.length ≤ 10000) (hB : B ≤ w.heap.size) (hs : Srt l) :
 Calls Tryz.prog 136 #[v, .agg #[.int .i64 x.R, .int .i64 x.P, .int .u8 x.T]] w fun e w' => ∃ v', e = .returned (.tuple #[v', .bool (!hasK l x)]) ∧ IRow w' B v' (putL l x) ∧ Fr v.ownBlock.toList w w' ∧ (∀ g', v'.ownBlock = some g' → v.ownBlock = some g' ∨ w.heap.size ≤ g') := by
 have h' := h
 rcases h.2 with ⟨rfl, h0⟩ | ⟨g, cap, cur, rfl, _⟩
 ·have e : l = [] := List.length_eq_zero_iff.1 h0
  subst e
  refine (r_put_nil B x w hB).mono fun e w' ⟨v, h1, h2, h3, h4⟩ => ⟨v, h1, h2, h3, fun g' hg' => Or.inr (h4 g' hg')⟩
 ·refine (r_put_some B g cap l x w h' hok hx hn hB hs).mono fun e w' ⟨v, h1, h2, h3, h4⟩ => ⟨v, h1, h2, h3, fun g' hg' => ?_⟩
  rcases h4 g' hg' with e | e
  ·exact Or.inl (by rw [e]; rfl)
  ·exact Or.inr e
end Go.Proofs.YtkglggkkbmmjkabGreatDoor
