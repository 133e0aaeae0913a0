import Derived.Test.YtkglggkkbmmjkaaGreatDoorJ18RAsked
import Derived.Deep.RegionHeld3
namespace Go.Proofs.YtkglggkkbmmjkaaGreatDoor
open Go.RowKit

theorem parse_big (t : ByteArray) : ∀ r ∈ (parse t 8 0 []).1, bigB r.L = true := fun r hr => ((parse_good t 8 0 [] (by simp)).1 r hr).1
theorem rset_big {rs : List Ru} (hl : ∀ r ∈ rs, bigB r.L = true) {c : Nat} (h : rset rs c = true) : bigB c = true := by
  unfold rset at h
  obtain ⟨r, hr, hx⟩ := List.any_eq_true.1 h
  have hx : r.L = c := by simpa using hx
  rw [← hx]; exact hl r hr
theorem word_eq {rs : List Ru} (hl : ∀ r ∈ rs, bigB r.L = true) (c : Nat) : wordB rs c = rWordB rs c := by
  unfold wordB rWordB hasB
  cases h : rset rs c
  · simp
  · rw [rset_big hl h]; rfl
theorem wErr_eq (t s : ByteArray) : rwErr t s = wErr t s := by
  unfold rwErr wErr
  rw [gErr_eq, show wordB (parse t 8 0 []).1 = rWordB (parse t 8 0 []).1 from funext (word_eq (parse_big t))]
theorem rword_let {rs : List Ru} (hl : ∀ r ∈ rs, bigB r.L = true) {s : ByteArray} (h : (bytes s).all (rWordB rs) = true) : ∀ i, i < s.size → letB (ch s i) = true := by
  refine word_let (rs := rs) ?_
  rw [show wordB rs = rWordB rs from funext (word_eq hl)]; exact h
theorem null_eq {t s : ByteArray} (h : wErr t s = 0) : (bytes s).all (nullS (parse t 8 0 []).1) = nullOf t s := by
  unfold nullOf
  rw [if_pos h, show vanB (nullS (parse t 8 0 []).1) false = nullS (parse t 8 0 []).1 from funext (van_eq0 (nulls_bigs _ (parse_big t)))]
theorem first_eq {t s : ByteArray} (h : wErr t s = 0) {T : Nat → Nat → Bool} (hT : ∀ c x, x < 128 → T c x = firstT (parse t 8 0 []).1 c x) : rlst (beg (nullS (parse t 8 0 []).1) T (bytes s)) = firstOfW t s := by
  unfold firstOfW
  rw [if_pos h]
  exact rlst_eq (fun x hx => beg_alike (fun _ _ => rfl) (fun c => hT c x hx) _) (fun x hx => Or.inr (beg_small (iterF_small _ _ _) _ x hx))

set_option maxHeartbeats 1600000 in
theorem r_Null (t s : ByteArray) (w : World) (ht : t.size ≤ 9223372036854775807) (hm : s.size ≤ 9223372036854775807) :
    Calls Tryz.prog 26 #[.string t, .string s] w fun e w' => e = .returned (.tuple #[.bool (nullOf t s), .int .i64 (wErr t s)]) ∧ Fr [] w w' := by
  have HW := hide (wErr_eq t s)
  by_cases h0 : wErr t s = 0
  · have HE := hide (null_eq h0)
    have HB := hide (parse_big t)
    have H0 := hide h0
    clear h0
    go_enter Tryz.func26, Tryz.ntmps26
    go_wp2_with (first
      | (go_at_call 68; refine (r_asked t s _ ht hm).mono ?_; rintro e w1 ⟨hf1, _, h2⟩; obtain ⟨hs12, _, _, _, hwd, q, cap, rfl, hla⟩ := h2 ((unhide HW).trans (unhide H0)); have HF1 := hide hf1; have HL1 := hide hla; have HWD := hide (rword_let (unhide HB) hwd); clear hf1 h2 hla hwd)
      | (go_at_call 69; refine (r_nulls q cap _ _ (by exact unhide HL1)).mono ?_; rintro e w2 ⟨rfl, hf2⟩; rw [nulls_eq _ (unhide HB)]; have HF2 := hide ((unhide HF1).trans0 hf2); clear hf2)
      | (refine wpList_alloc_blk rfl 105 rfl (some 8) rfl 128 _ Tryz.zeroSet ?_; intro w3 hf3 hs3 hB3; have HF3 := hide ((unhide HF2).trans0 hf3); have HB3 := hide hB3; clear hf3 hs3 hB3)
      | (refine wpList_store_blk rfl 105 (.tmp 8) (.tmp 20) rfl w2.heap.size 0 128 128 (sF fun _ => false) (sF (nullS (parse t 8 0 []).1)) rfl rfl (by exact unhide HB3) Tryz.sizeSet (by omega) (by intro i hi; rfl) ?_; intro w4 hf4 hs4 hB4; have HF4 := hide ((unhide HF3).trans1 hf4 (Or.inr (unhide HF2).size)); have HB4 := hide (hB4.congr (g := sF (nullS (parse t 8 0 []).1)) fun i hi => lay_all _ _ _ i hi); clear hf4 hs4 hB4)
      | (go_at_call 70; refine (r_null s w2.heap.size _ _ (by omega) (by exact unhide HB4) (unhide HWD)).mono ?_; rintro e w5 ⟨rfl, hf5⟩; rw [unhide HE]; have HF5 := hide ((unhide HF4).trans0 hf5); clear hf5))
    go_ret2
    exact ⟨by rw [unhide H0]; rfl, unhide HF5⟩
  · have HN := hide (show nullOf t s = false from by unfold nullOf; rw [if_neg h0])
    have hb : ((((wErr t s : Nat) : Int)) != 0) = true := by rw [bne_iff_ne]; omega
    have H0 := hide (show rwErr t s ≠ 0 from fun h => h0 (by rw [← wErr_eq]; exact h))
    clear h0
    go_enter Tryz.func26, Tryz.ntmps26
    go_wp2_with (go_at_call 68; refine (r_asked t s _ ht hm).mono ?_; rintro e w1 ⟨hf1, h1, _⟩; obtain rfl := h1 (unhide H0); rw [unhide HW]; have HF1 := hide hf1; clear hf1 h1)
    go_ret2
    exact ⟨by rw [unhide HN]; rfl, unhide HF1⟩

set_option maxHeartbeats 1600000 in
theorem r_First (t s : ByteArray) (w : World) (ht : t.size ≤ 9223372036854775807) (hm : s.size ≤ 9223372036854775807) :
    Calls Tryz.prog 28 #[.string t, .string s] w fun e w' => e = .returned (.tuple #[.string (firstOfW t s), .int .i64 (wErr t s)]) ∧ Fr [] w w' := by
  have HW := hide (wErr_eq t s)
  by_cases h0 : wErr t s = 0
  · have HB := hide (parse_big t)
    have H0 := hide h0
    clear h0
    go_enter Tryz.func28, Tryz.ntmps28
    go_wp2_with (first
      | (go_at_call 68; refine (r_asked t s _ ht hm).mono ?_; rintro e w1 ⟨hf1, _, h2⟩; obtain ⟨hs12, _, _, _, hwd, q, cap, rfl, hla⟩ := h2 ((unhide HW).trans (unhide H0)); have HF1 := hide hf1; have HL1 := hide hla; have HWD := hide (rword_let (unhide HB) hwd); clear hf1 h2 hla hwd)
      | (go_at_call 69; refine (r_nulls q cap _ _ (by exact unhide HL1)).mono ?_; rintro e w2 ⟨rfl, hf2⟩; rw [nulls_eq _ (unhide HB)]; have HF2 := hide ((unhide HF1).trans0 hf2); have HL2 := hide ((unhide HL1).fr0 hf2); clear hf2)
      | (refine wpList_alloc_blk rfl 105 rfl (some 8) rfl 128 _ Tryz.zeroSet ?_; intro w3 hf3 hs3 hB3; have HF3 := hide ((unhide HF2).trans0 hf3); have HL3 := hide ((unhide HL2).fr0 hf3); have HB3 := hide hB3; clear hf3 hs3 hB3)
      | (refine wpList_store_blk rfl 105 (.tmp 8) (.tmp 21) rfl w2.heap.size 0 128 128 (sF fun _ => false) (sF (nullS (parse t 8 0 []).1)) rfl rfl (by exact unhide HB3) Tryz.sizeSet (by omega) (by intro i hi; rfl) ?_; intro w4 hf4 hs4 hB4; have HF4 := hide ((unhide HF3).trans1 hf4 (Or.inr (unhide HF2).size)); have HL4 := hide ((unhide HL3).fr hf4 (by have := (unhide HL2).lt; simp; omega)); have HB4 := hide (hB4.congr (g := sF (nullS (parse t 8 0 []).1)) fun i hi => lay_all _ _ _ i hi); clear hf4 hs4 hB4)
      | (go_at_call 72; refine (r_firsts q cap w2.heap.size _ _ _ (by exact unhide HL4) (by exact unhide HB4)).mono ?_; rintro e w5 ⟨fb, T, rfl, hf5, _, hB5, hT⟩; have HF5 := hide ((unhide HF4).trans0 hf5); have HN5 := hide ((unhide HB4).fr0 hf5); have HT5 := hide hB5; have HE := hide (first_eq (unhide H0) hT); clear hf5 hB5 hT)
      | (go_at_call 73; refine (r_begins w2.heap.size fb 26 _ T s _ (by exact unhide HN5) (by exact unhide HT5) (by omega) (unhide HWD)).mono ?_; rintro e w6 ⟨rfl, hf6⟩; have HF6 := hide ((unhide HF5).trans0 hf6); clear hf6)
      | (refine wpList_alloc_blk rfl 105 rfl (some 10) rfl 128 _ Tryz.zeroSet ?_; intro w7 hf7 hs7 hB7; have HF7 := hide ((unhide HF6).trans0 hf7); have HB7 := hide hB7; clear hf7 hs7 hB7)
      | (refine wpList_store_blk rfl 105 (.tmp 10) (.tmp 26) rfl w6.heap.size 0 128 128 (sF fun _ => false) (sF (beg (nullS (parse t 8 0 []).1) T (bytes s))) rfl rfl (by exact unhide HB7) Tryz.sizeSet (by omega) (by intro i hi; rfl) ?_; intro w8 hf8 hs8 hB8; have HF8 := hide ((unhide HF7).trans1 hf8 (Or.inr (unhide HF6).size)); have HB8 := hide (hB8.congr (g := sF (beg (nullS (parse t 8 0 []).1) T (bytes s))) fun i hi => lay_all _ _ _ i hi); clear hf8 hs8 hB8)
      | (go_at_call 54; refine (r_list w6.heap.size 0 128 _ (beg (nullS (parse t 8 0 []).1) T (bytes s)) _ (by exact unhide HB8) (by omega) (fun i _ => by rw [Nat.zero_add]; rfl)).mono ?_; rintro e w9 ⟨rfl, hf9⟩; rw [unhide HE]; have HF9 := hide ((unhide HF8).trans0 hf9); clear hf9))
    go_ret2
    exact ⟨by rw [unhide H0]; rfl, unhide HF9⟩
  · have HN := hide (show firstOfW t s = ⟨#[]⟩ from by unfold firstOfW; rw [if_neg h0])
    have hb : ((((wErr t s : Nat) : Int)) != 0) = true := by rw [bne_iff_ne]; omega
    have H0 := hide (show rwErr t s ≠ 0 from fun h => h0 (by rw [← wErr_eq]; exact h))
    clear h0
    go_enter Tryz.func28, Tryz.ntmps28
    go_wp2_with (go_at_call 68; refine (r_asked t s _ ht hm).mono ?_; rintro e w1 ⟨hf1, h1, _⟩; obtain rfl := h1 (unhide H0); rw [unhide HW]; have HF1 := hide hf1; clear hf1 h1)
    go_ret2
    exact ⟨by rw [unhide HN]; rfl, unhide HF1⟩

end Go.Proofs.YtkglggkkbmmjkaaGreatDoor

namespace Go.Proofs.YtkglggkkbmmjkaaGreatDoor
open Go.RowKit

/-- an item: a rule's number, a place, a sign -/
structure It where
  R : Nat
  P : Nat
  T : Nat
def It.ok (x : It) : Prop := x.R ≤ 8 ∧ x.P ≤ 4 ∧ x.T < 128
def It.key (x : It) : Nat := (x.R * 8 + x.P) * 128 + x.T
theorem It.eq_of_key {x y : It} (hx : x.ok) (hy : y.ok) (h : x.key = y.key) : x = y := by
  obtain ⟨a, b, c⟩ := x
  obtain ⟨a', b', c'⟩ := y
  simp only [It.key, It.ok] at *
  have e1 : c = c' := by omega
  have e2 : b = b' := by omega
  have e3 : a = a' := by omega
  rw [e1, e2, e3]
def itV (x : It) : Value := .agg #[.int .i64 x.R, .int .i64 x.P, .int .u8 x.T]

set_option maxHeartbeats 1000000 in
theorem r_ahead (a b : It) (w : World) (ha : a.ok) (hb : b.ok) :
    Calls Tryz.prog 152 #[.agg #[.int .i64 a.R, .int .i64 a.P, .int .u8 a.T], .agg #[.int .i64 b.R, .int .i64 b.P, .int .u8 b.T]] w fun e w' => e = .returned (.bool (decide (a.key < b.key))) ∧ Fr [] w w' := by
  obtain ⟨a1, a2, a3⟩ := ha
  obtain ⟨b1, b2, b3⟩ := hb
  by_cases h1 : a.R = b.R
  · have e1 : (((a.R : Nat) : Int) != (b.R : Nat)) = false := by rw [h1]; simp
    by_cases h2 : a.P = b.P
    · have e2 : (((a.P : Nat) : Int) != (b.P : Nat)) = false := by rw [h2]; simp
      have HE := hide (show decide (a.T < b.T) = decide (a.key < b.key) from by
        rw [decide_eq_decide]; unfold It.key; omega)
      clear h1 h2
      go_enter Tryz.func152, Tryz.ntmps152
      go_wp2
      go_ret
      exact ⟨ret_bool (unhide HE), ((Fr.refl _ _).alloc _).alloc _⟩
    · have e2 : (((a.P : Nat) : Int) != (b.P : Nat)) = true := by rw [bne_iff_ne]; omega
      have HE := hide (show decide (a.P < b.P) = decide (a.key < b.key) from by
        rw [decide_eq_decide]; unfold It.key; omega)
      clear h1 h2
      go_enter Tryz.func152, Tryz.ntmps152
      go_wp2
      go_ret
      exact ⟨ret_bool (unhide HE), ((Fr.refl _ _).alloc _).alloc _⟩
  · have e1 : (((a.R : Nat) : Int) != (b.R : Nat)) = true := by rw [bne_iff_ne]; omega
    have HE := hide (show decide (a.R < b.R) = decide (a.key < b.key) from by
      rw [decide_eq_decide]; unfold It.key; omega)
    clear h1
    go_enter Tryz.func152, Tryz.ntmps152
    go_wp2
    go_ret
    exact ⟨ret_bool (unhide HE), ((Fr.refl _ _).alloc _).alloc _⟩

theorem Fr.cell {S : List Nat} {w w' : World} (k : Fr S w w') {b o : Nat} {v : Value} (h : w.cell? ⟨b, o, none⟩ = some v) (hb : b ∉ S) : w'.cell? ⟨b, o, none⟩ = some v := by
  have hlt := World.block_lt_of_cell? w ⟨b, o, none⟩ h
  unfold World.cell? at h ⊢
  rw [k.block b hlt hb]; exact h
theorem Fr.cell0 {w w' : World} (k : Fr [] w w') {b o : Nat} {v : Value} (h : w.cell? ⟨b, o, none⟩ = some v) : w'.cell? ⟨b, o, none⟩ = some v := k.cell h (by simp)

/-! Rows of items in memory. -/
def it0 : It := ⟨0, 0, 0⟩
def lget (l : List It) (i : Nat) : It := l.getD i it0
theorem lget_eq (l : List It) (i : Nat) (h : i < l.length) : lget l i = l[i] := by simp [lget, h]
def itC (x : It) (r : Nat) : Value := if r = 0 then .int .i64 x.R else if r = 1 then .int .i64 x.P else .int .u8 x.T
def itF (B : Nat → It) (j : Nat) : Value := itC (B (j / 3)) (j % 3)
def itCells (l : List It) : List Value := l.flatMap fun x => [.int .i64 x.R, .int .i64 x.P, .int .u8 x.T]
theorem itCells_len (l : List It) : (itCells l).length = l.length * 3 := by
  unfold itCells
  induction l with
  | nil => rfl
  | cons x l ih => rw [List.flatMap_cons, List.length_append, ih, List.length_cons]; simp; omega
theorem itCells_get : ∀ (l : List It) (j : Nat), j < l.length * 3 → (itCells l)[j]? = some (itF (lget l) j)
  | [], j, h => by simp at h
  | x :: l, j, h => by
    have e : itCells (x :: l) = .int .i64 x.R :: .int .i64 x.P :: .int .u8 x.T :: itCells l := rfl
    rw [e]
    match j, h with
    | 0, _ => rfl
    | 1, _ => rfl
    | 2, _ => rfl
    | j + 3, h =>
      have ih := itCells_get l j (by simp at h; omega)
      show (itCells l)[j]? = _
      rw [ih]
      unfold itF
      rw [show (j + 3) / 3 = j / 3 + 1 from by omega, show (j + 3) % 3 = j % 3 from by omega]
      rfl
theorem itCells_app (l : List It) (x : It) : itCells (l ++ [x]) = itCells l ++ [.int .i64 x.R, .int .i64 x.P, .int .u8 x.T] := by simp [itCells]
theorem itF_at (B : Nat → It) (i : Nat) : itF B (i * 3) = .int .i64 (B i).R ∧ itF B (i * 3 + 1) = .int .i64 (B i).P ∧ itF B (i * 3 + 2) = .int .u8 (B i).T := by
  unfold itF
  rw [show i * 3 / 3 = i from by omega, show i * 3 % 3 = 0 from by omega, show (i * 3 + 1) / 3 = i from by omega, show (i * 3 + 1) % 3 = 1 from by omega, show (i * 3 + 2) / 3 = i from by omega, show (i * 3 + 2) % 3 = 2 from by omega]
  exact ⟨rfl, rfl, rfl⟩

/-- block b, of type T, has n cells: f 0, f 1, .. -/
def BT (w : World) (b : Nat) (T : TypeId) (n : Nat) (f : Nat → Value) : Prop := w.heap[b]? = some (.cells (Array.ofFn (n := n) fun i => f i.val) T (0, 0))
theorem BT.blk {w : World} {b n : Nat} {T : TypeId} {f : Nat → Value} (h : BT w b T n f) : Blk w b n f := ⟨T, h⟩
theorem BT.congr {w : World} {b n : Nat} {T : TypeId} {f g : Nat → Value} (h : BT w b T n f) (e : ∀ i, i < n → f i = g i) : BT w b T n g := by
  unfold BT at *
  rw [h, show (Array.ofFn (n := n) fun i => f i.val) = Array.ofFn (n := n) fun i => g i.val from by congr 1; funext i; exact e i.1 i.2]
theorem BT.fr {S : List Nat} {w w' : World} {b n : Nat} {T : TypeId} {f : Nat → Value} (h : BT w b T n f) (k : Fr S w w') (hb : b ∉ S) : BT w' b T n f := by
  unfold BT at *
  rw [k.block b (Blk.lt ⟨T, h⟩) hb, h]
theorem BT.fr0 {w w' : World} {b n : Nat} {T : TypeId} {f : Nat → Value} (h : BT w b T n f) (k : Fr [] w w') : BT w' b T n f := h.fr k (by simp)
/-- the type stays behind a store -/
theorem setCells_ty {b : Nat} {T : TypeId} : ∀ (vs : List Value) (o : Nat) (w : World), (∃ cs, w.heap[b]? = some (.cells cs T (0, 0))) → ∃ cs, (w.setCells b o vs).heap[b]? = some (.cells cs T (0, 0))
  | [], _, _, h => h
  | v :: r, o, w, ⟨cs, h⟩ => by
    rw [World.setCells]
    refine setCells_ty r (o + 1) _ ⟨?_, ?_⟩
    rotate_left
    · simp only [World.setCell, Array.getElem?_modify, if_true, h, Option.map_some, Option.isSome_none, Bool.false_eq_true, if_false]
      rfl

section
variable {P : Program} {ops : Array Oper} {rest : List Oper} {o : Oper} {a : Act} {w : World} {Q : Exit → Act → World → Prop}
/-- a whole struct is stored into a block: its type stays -/
theorem wpList_store_bt (hgd : o.guard = none) (T : TypeId) (x y : Operand) (ho : o.op = .store T x y) (b off m n : Nat) (T' : TypeId) (f g : Nat → Value)
    (hx : a.eval x = .pointer (some ⟨b, off, none⟩)) (hy : a.eval y = Agg m g) (hb : BT w b T' n f) (hi : (P.info? T).map (·.size) = some m) (hm : off + m ≤ n) (h1 : oneB g m)
    (h : ∀ w1, Fr [b] w w1 → w1.heap.size = w.heap.size → BT w1 b T' n (lay f off m g) → wpList P ops Q rest (a.put o.dst undef) w1) :
    wpList P ops Q (o :: rest) a w := by
  refine wpList_plain hgd fun K hK => ?_
  have hrun := run_storeVar_mid (P := P) w b off T (Array.ofFn (n := m) fun i => g i.val) (fun j hj => by
    rw [hb.blk.cell _ (by simp at hj; omega), hb.blk.free]; exact ⟨rfl, rfl⟩) (by simpa using hi)
    (Array.all_eq_true_iff_forall_mem.2 (fun v hv => by
      obtain ⟨i, rfl⟩ := Array.mem_ofFn.1 hv
      exact h1 i.1 i.2))
  have hl := setCells_fr b (Array.ofFn (n := m) fun i => g i.val).toList off w
  have hB := (Blk.setCells (Array.ofFn (n := m) fun i => g i.val).toList off w f hb.blk).congr (g := lay f off m g) fun i _ => by
    simp only [lay, Array.length_toList, Array.size_ofFn]
    split
    · rename_i hh
      simp only [List.getD_eq_getElem?_getD, Array.getElem?_toList, Array.getElem?_ofFn]
      rw [dif_pos (by omega)]; rfl
    · rfl
  have hT := setCells_ty (b := b) (T := T') (Array.ofFn (n := m) fun i => g i.val).toList off w ⟨_, hb⟩
  have hBT : BT (w.setCells b off (Array.ofFn (n := m) fun i => g i.val).toList) b T' n (lay f off m g) := by
    obtain ⟨T2, h2⟩ := hB
    obtain ⟨cs, h3⟩ := hT
    rw [h2] at h3
    cases h3
    exact h2
  unfold Oper.wp
  simp only [execOp, ho, hx, hy, Agg, Instr.storeAt, Instr.sureAddr, Sem.run_bind, Sem.run_pure, Result.andThen_ok, hrun, Oper.upon]
  exact hK _ _ (h _ hl.1 hl.2 hBT)
end

/-- a slice of items: v, with the list l, in a block from base on -/
def IRow (w : World) (base : Nat) (v : Value) (l : List It) : Prop := w.ownsRow base 181 3 v l.length (itCells l)
theorem IRow.bt {w : World} {base g n cap : Nat} {l : List It} (h : IRow w base (.slice (some ⟨g, 0, none⟩) n cap) l) : ∃ f, BT w g 181 (cap * 3) f ∧ (∀ j, j < l.length * 3 → f j = itF (lget l) j) ∧ l.length ≤ cap ∧ cap ≤ maxLen ∧ base ≤ g ∧ n = l.length := by
  obtain ⟨h1, h2⟩ := h
  rcases h2 with ⟨h2, _⟩ | ⟨g', cap', cur, hv, hg, hh, hle, hmx, hsz, htk⟩
  · cases h2
  · cases hv
    refine ⟨fun i => cur.getD i undef, ?_, fun j hj => ?_, hle, hmx, hg, rfl⟩
    · unfold BT
      rw [hh]
      congr 2
      apply Array.ext
      · simp [hsz]
      · intro i h1 h2
        simp [h1]
    · have := itCells_get l j hj
      rw [← htk, List.getElem?_take, if_pos hj, Array.getElem?_toList] at this
      simp [this]
theorem IRow.of_bt {w : World} {base g cap : Nat} {l : List It} {f : Nat → Value} (h : BT w g 181 (cap * 3) f) (hf : ∀ j, j < l.length * 3 → f j = itF (lget l) j) (hc : l.length ≤ cap) (hx : cap ≤ maxLen) (hg : base ≤ g) :
    IRow w base (.slice (some ⟨g, 0, none⟩) l.length cap) l := by
  refine ⟨itCells_len l, Or.inr ⟨g, cap, _, rfl, hg, h, hc, hx, by simp, ?_⟩⟩
  apply List.ext_getElem?
  intro j
  rw [List.getElem?_take]
  by_cases hj : j < l.length * 3
  · rw [if_pos hj, itCells_get l j hj, Array.getElem?_toList, Array.getElem?_ofFn, dif_pos (by omega), hf j hj]
  · rw [if_neg hj, List.getElem?_eq_none (by rw [itCells_len]; omega)]

end Go.Proofs.YtkglggkkbmmjkaaGreatDoor
