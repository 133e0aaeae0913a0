import Derived.Test.YtkglggkkbmmjkaaDoorH0Model
import Derived.Test.YtkglggkkbmmjkaaDoorH37TxDef
import Derived.Test.YtkglggkkbmmjkaaDoorH35CorV2
import Derived.Deep.RegionHeld3
import Derived.Deep.AppendLies
import Derived.Deep.RegionLaw
import Derived.BigQuiet
namespace Go.Proofs.YtkglggkkbmmjkaaDoor
open Go.RowKit

/-- a cell of a row -/
theorem row_cell {w : World} {base e size g n cap : Nat} {xs : List Value} (h : w.ownsRow base e size (.slice (some ⟨g, 0, none⟩) n cap) n xs) {j : Nat} {u : Value} (hj : xs[j]? = some u) : w.cell? ⟨g, j, none⟩ = some u := by
  obtain ⟨h1, h2⟩ := h
  rcases h2 with ⟨h3, _⟩ | ⟨g', cap', cur, e, h3, h4, h5, h6, h7, h8⟩
  · cases h3
  · cases e
    rw [← h8] at hj
    have hlt : j < n * size := by
      rcases Nat.lt_or_ge j (n * size) with h | h
      · exact h
      · rw [List.getElem?_eq_none (by rw [List.length_take]; omega)] at hj; cases hj
    rw [List.getElem?_take_of_lt hlt, Array.getElem?_toList] at hj
    simp [World.cell?, h4, hj]
end Go.Proofs.YtkglggkkbmmjkaaDoor

namespace Go.Proofs.YtkglggkkbmmjkaaDoor
open Go.RowKit

def stC (st : Stk) : List Value := st.reverse.flatMap fun q => [.int .i64 (q.1 : Nat), .string (bstr q.2)]
theorem stC_cons (q : Nat × List Nat) (st : Stk) : stC (q :: st) = stC st ++ [.int .i64 (q.1 : Nat), .string (bstr q.2)] := by unfold stC; simp
theorem stC_len : ∀ st : Stk, (stC st).length = st.length * 2
  | [] => rfl
  | q :: st => by rw [stC_cons, List.length_append, stC_len st, List.length_cons]; simp; omega
theorem stC_app (pt st : Stk) : stC (pt ++ st) = stC st ++ stC pt := by unfold stC; simp
def rdF (tb : Nat) (v : Value) : Nat → Value := fun i => if i = 0 then .pointer (some ⟨tb, 0, none⟩) else v
/-- a reading under way: its two cells, its row of stages, its table -/
structure RdS (w : World) (rb tb base : Nat) (p : Pl) (v : Value) (S : List Sd) (cores : Nat) (sv : Value) (st : Stk) : Prop where
  blk : Blk w rb 2 (rdF tb sv)
  row : w.ownsRow (rb + 1) 67 2 sv st.length (stC st)
  tab : TbR w tb base p v S cores 0
  tlt : tb < rb
  vlt : ∀ g, v.ownBlock = some g → g < rb
theorem RdS.fr0 {w w' : World} {rb tb base : Nat} {p : Pl} {v : Value} {S : List Sd} {cores : Nat} {sv : Value} {st : Stk} (h : RdS w rb tb base p v S cores sv st) (k : Fr [] w w') : RdS w' rb tb base p v S cores sv st :=
  ⟨h.blk.fr0 k, ownsRow_fr h.row k (by simp), h.tab.fr0 k, h.tlt, h.vlt⟩
theorem RdS.form {w : World} {rb tb base : Nat} {p : Pl} {v : Value} {S : List Sd} {cores : Nat} {sv : Value} {q : Nat × List Nat} {st : Stk} (h : RdS w rb tb base p v S cores sv (q :: st)) : ∃ g cap, sv = .slice (some ⟨g, 0, none⟩) (st.length + 1) cap ∧ rb + 1 ≤ g ∧ g < w.heap.size := by
  obtain ⟨_, h2⟩ := h.row
  rcases h2 with ⟨_, h3⟩ | ⟨g, cap, cur, e, h3, h4, _⟩
  · simp at h3
  · exact ⟨g, cap, e, (h.row.lt g (by rw [e]; rfl))⟩
theorem RdS.top {w : World} {rb tb base : Nat} {p : Pl} {v : Value} {S : List Sd} {cores g cap : Nat} {q : Nat × List Nat} {st : Stk} (h : RdS w rb tb base p v S cores (.slice (some ⟨g, 0, none⟩) (st.length + 1) cap) (q :: st)) : w.cell? ⟨g, st.length * 2, none⟩ = some (.int .i64 (q.1 : Nat)) ∧ w.cell? ⟨g, st.length * 2 + 1, none⟩ = some (.string (bstr q.2)) := by
  have hr := h.row
  rw [List.length_cons, stC_cons] at hr
  refine ⟨row_cell hr ?_, row_cell hr ?_⟩
  · rw [List.getElem?_append_right (by rw [stC_len]; exact Nat.le_refl _), stC_len, Nat.sub_self]; rfl
  · rw [List.getElem?_append_right (by rw [stC_len]; omega), stC_len, Nat.add_sub_cancel_left]; rfl

set_option maxRecDepth 100000 in
set_option maxHeartbeats 1000000 in
/-- reading.last -/
theorem p_last (rb tb base : Nat) (p : Pl) (v : Value) (S : List Sd) (cores : Nat) (sv : Value) (q : Nat × List Nat) (st : Stk) (w : World) (h : RdS w rb tb base p v S cores sv (q :: st)) (hn : st.length ≤ 100000000) :
    Calls Tryd.prog 21 #[.pointer (some ⟨rb, 0, none⟩)] w fun e w' => e = .returned (.agg #[.int .i64 (q.1 : Nat), .string (bstr q.2)]) ∧ Fr [] w w' := by
  obtain ⟨g, cap, rfl, hg1, hg2⟩ := h.form
  have c0 : w.cell? ⟨rb, 1, none⟩ = some (.slice (some ⟨g, 0, none⟩) (st.length + 1) cap) := h.blk.cell 1 (by omega)
  obtain ⟨c1, c2⟩ := h.top
  obtain ⟨a, ha⟩ : ∃ a : Nat, q.1 = a := ⟨_, rfl⟩
  obtain ⟨b, hb⟩ : ∃ b : ByteArray, bstr q.2 = b := ⟨_, rfl⟩
  obtain ⟨m, hm⟩ : ∃ m : Nat, st.length = m := ⟨_, rfl⟩
  rw [ha] at c1 ⊢
  rw [hb] at c2 ⊢
  rw [hm] at c0 c1 c2 hn
  clear h ha hb hm
  have h0 : (0 : Int) ≤ (m : Int) := by omega
  have h1 : (m : Int) < (m : Int) + 1 := by omega
  have A2 : ∀ o o', Fr [] w ((w.alloc o).alloc o') := fun o o' => ((Fr.refl [] w).alloc o).alloc o'
  have k0 := fun o o' => (A2 o o').cell0 c0
  have k1 := fun o o' => (A2 o o').cell0 c1
  have k2 := fun o o' => (A2 o o').cell0 c2
  have hrb : rb < w.heap.size := by omega
  have hw1 : IntKind.i64.wrap ((m : Int) + 1 - 1) = (m : Int) := by rw [IntKind.wrap_i64]; omega
  have hw2 : IntKind.i64.wrap (m : Int) = (m : Int) := by rw [IntKind.wrap_i64]; omega
  clear A2 c0 c1 c2
  go_enter Tryd.func21, Tryd.ntmps21
  go_wp2
  go_region_held3 (fun w' => w'.cell? ⟨rb, 1, none⟩ = some (.slice (some ⟨g, 0, none⟩) (m + 1) cap) ∧ w'.cell? ⟨g, m * 2, none⟩ = some (.int .i64 (a : Nat)) ∧ w'.cell? ⟨g, m * 2 + 1, none⟩ = some (.string b)) (go_keep) (fail)
  go_wp2
  exact bodyPost_ret (v := .agg #[.int .i64 (a : Nat), .string b]) (by simp [results, Tryd.results21, go_sem]) rfl ⟨rfl, (((Fr.refl [] w).alloc _).alloc _).drew⟩
end Go.Proofs.YtkglggkkbmmjkaaDoor

namespace Go.Proofs.YtkglggkkbmmjkaaDoor
open Go.RowKit

theorem Tryd.infoStage : (Tryd.prog.info? 67).map (fun i => (i.zero, i.size, i.bytes)) = some (some (.agg #[.int .i64 0, .string ⟨#[]⟩]), 2, 24) := by kernel_rfl

set_option maxRecDepth 100000 in
set_option maxHeartbeats 1600000 in
/-- reading.push -/
theorem p_push (rb n : Nat) (f : Nat → Value) (sv : Value) (xs : List Value) (a : Int) (b : ByteArray) (w : World) (hB : Blk w rb 2 f) (h1 : f 1 = sv) (hown : w.ownsRow (rb + 1) 67 2 sv n xs) (hn : n ≤ 100000000) :
    Calls Tryd.prog 34 #[.pointer (some ⟨rb, 0, none⟩), .int .i64 a, .string b] w fun e w' => e = .returned (.tuple #[]) ∧ Below rb w w' ∧
      ∃ g c, w'.ownsRow (rb + 1) 67 2 (.slice (some ⟨g, 0, none⟩) (n + 1) c) (n + 1) (xs ++ [.int .i64 a, .string b]) ∧ Blk w' rb 2 (upd f 1 (.slice (some ⟨g, 0, none⟩) (n + 1) c)) := by
  obtain ⟨i0, hi0, hz0, hz1, hz2⟩ := info_parts Tryd.infoStage
  have c0 := (hB.cell 1 (by omega)).trans (by rw [h1])
  have z0 := hB.free 1
  have lb := hB.lt
  have zA : ∀ o, (w.alloc o).frozen? ⟨rb, 1, none⟩ = false := fun o => (hB.alloc o).free 1
  have zAA : ∀ o o', ((w.alloc o).alloc o').frozen? ⟨rb, 1, none⟩ = false := fun o o' => ((hB.alloc o).alloc o').free 1
  have cA : ∀ o, (w.alloc o).cell? ⟨rb, 1, none⟩ = some sv := fun o => ((Fr.refl [] w).alloc o).cell0 c0
  have cAA : ∀ o o', ((w.alloc o).alloc o').cell? ⟨rb, 1, none⟩ = some sv := fun o o' => (((Fr.refl [] w).alloc o).alloc o').cell0 c0
  have HB : Hid (Blk w rb 2 f) := hB
  have HO : Hid (w.ownsRow (rb + 1) 67 2 sv n xs) := hown
  have nb : some rb ≠ sv.ownBlock := fun e => by have := (hown.lt rb e.symm).1; omega
  have nw : some w.heap.size ≠ sv.ownBlock := fun e => by have := (hown.lt _ e.symm).2; omega
  have HL := hide (show ∀ k, sv.ownBlock = some k → rb ≤ k from fun k hk => by have := (hown.lt k hk).1; omega)
  clear hown hB h1
  go_enter Tryd.func34, Tryd.ntmps34
  go_wp2_with fail
  go_region_law
    ((refine step_append_lies _ (by rfl) _ _ _ (by rfl) (rb + 1) 67 i0 _ 2 24 Tryd.underlying60 hi0 hz0 hz1 hz2 rfl (by omega) sv n xs (by rfl) (((HO.out.alloc _).alloc _).drew)
        ⟨w.heap.size + 1, 0, none⟩ 1 1 [.int .i64 a, .string b] (by rfl) (by rfl) (World.news_of_block (cs := #[.int .i64 a, .string b]) (t := 67) (fr := (0, 0)) (heap_new2 w _ _)) (by simp [Value.oneCell'])
        (by omega) (by unfold maxLen; omega) (by omega) (by simp; omega) (w.heap.size + 2) (by simp) ?_; intro gg c1 w1 hown1 hgrow hat hlt
      have B1 : Blk w1 rb 2 f := (((HB.out.alloc _).alloc _).drew).grown hgrow nb
      have d0 := B1.cell 1 (by omega)
      have e0 := B1.free 1
      have HB1 : Hid (Blk w1 rb 2 f) := B1
      clear B1))
  all_goals
    go_wp2_with fail
    have HB2 : Hid (Blk (w1.setCell ⟨rb, 1, none⟩ (.slice (some ⟨gg, 0, none⟩) (n + 1) c1)) rb 2 (upd f 1 (.slice (some ⟨gg, 0, none⟩) (n + 1) c1))) := HB1.out.setCell 1 _
    have HO2 : Hid ((w1.setCell ⟨rb, 1, none⟩ (.slice (some ⟨gg, 0, none⟩) (n + 1) c1)).ownsRow (rb + 1) 67 2 (.slice (some ⟨gg, 0, none⟩) (n + 1) c1) (n + 1) (xs ++ [.int .i64 a, .string b])) := ownsRow_setCell_below hown1 (by simp) _
    have HW2 : Hid (Below rb w (w1.setCell ⟨rb, 1, none⟩ (.slice (some ⟨gg, 0, none⟩) (n + 1) c1))) :=
      (((((Below.refl rb w).alloc (by omega) _).alloc (by simp; omega) _).drew).grown hgrow (by simp; omega) (fun k hk => unhide HL k hk)).setCell (by simp) _
    clear hgrow hown1 hat d0 e0 HB HO HB1 c0 z0
    go_end0
    exact ⟨rfl, HW2.out, gg, c1, HO2.out, HB2.out⟩
theorem ownsRow_below {w w' : World} {base e size n B : Nat} {v : Value} {xs : List Value} (h : w.ownsRow base e size v n xs) (k : Below B w w') (hg : ∀ g, v.ownBlock = some g → g < B) : w'.ownsRow base e size v n xs := by
  obtain ⟨h1, h2⟩ := h
  refine ⟨h1, ?_⟩
  rcases h2 with h2 | ⟨g, cap, cur, hv, h3, hh, r⟩
  · exact Or.inl h2
  · exact Or.inr ⟨g, cap, cur, hv, h3, by rw [k.block g (hg g (by rw [hv]; rfl))]; exact hh, r⟩
theorem TbR.below {w w' : World} {tb base B : Nat} {p : Pl} {v : Value} {S : List Sd} {cores fault : Nat} (h : TbR w tb base p v S cores fault) (k : Below B w w') (ht : tb < B) (hg : ∀ g, v.ownBlock = some g → g < B) : TbR w' tb base p v S cores fault :=
  ⟨h.blk.below k ht, ownsRow_below h.row k hg⟩
theorem rdF_upd (tb : Nat) (sv sv' : Value) (i : Nat) (hi : i < 2) : upd (rdF tb sv) 1 sv' i = rdF tb sv' i := by
  unfold upd rdF
  by_cases h : i = 1
  · rw [if_pos h, if_neg (by omega)]
  · rw [if_neg h, if_pos (by omega), if_pos (by omega)]
/-- reading.push, of a reading under way -/
theorem p_pushS (rb tb base : Nat) (p : Pl) (v : Value) (S : List Sd) (cores : Nat) (sv : Value) (st : Stk) (a : Nat) (x : List Nat) (w : World) (h : RdS w rb tb base p v S cores sv st) (hn : st.length ≤ 100000000) :
    Calls Tryd.prog 34 #[.pointer (some ⟨rb, 0, none⟩), .int .i64 (a : Nat), .string (bstr x)] w fun e w' => e = .returned (.tuple #[]) ∧ Below rb w w' ∧ ∃ sv', RdS w' rb tb base p v S cores sv' ((a, x) :: st) := by
  refine (p_push rb st.length (rdF tb sv) sv (stC st) a (bstr x) w h.blk rfl h.row hn).mono ?_
  rintro e w' ⟨rfl, hb, g, c, hown, hB⟩
  exact ⟨rfl, hb, _, hB.congr fun i hi => rdF_upd tb sv _ i hi, by rw [List.length_cons, stC_cons]; exact hown, h.tab.below hb h.tlt h.vlt, h.tlt, h.vlt⟩
end Go.Proofs.YtkglggkkbmmjkaaDoor

namespace Go.Proofs.YtkglggkkbmmjkaaDoor
open Go.RowKit

theorem eqT_struct2 {P : Program} {d : Nat} {T E E2 : TypeId} {m m2 : Nat} {f g : Field} (h : EqT P d E m) (h2 : EqT P d E2 m2) (hu : P.underlying T = some (.struct #[f, g])) (hf : f.type = E) (hg : g.type = E2) (hn : (f.name == "_") = false) (hn2 : (g.name == "_") = false) (ho : f.offset = 0) (ho2 : g.offset = m) (hp : P.stoodInHeld T = false) (hc : P.cellsOf T = m + m2) : EqT P (d + 1) T (m + m2) := by
  subst hf
  subst hg
  obtain ⟨i, hi⟩ := info_of_underlying hu
  refine ⟨hc, ⟨i, hi⟩, fun A B n off w hw => ⟨_, _, run_part_agg hu rfl hi hc _ n off w hw, run_part_agg hu rfl hi hc _ n off w hw, ?_⟩⟩
  obtain ⟨x, y, hx, hy, he⟩ := h.2.2 (fun i => A (off + i)) (fun i => B (off + i)) (m + m2) 0 w (by omega)
  obtain ⟨x2, y2, hx2, hy2, he2⟩ := h2.2.2 (fun i => A (off + i)) (fun i => B (off + i)) (m + m2) m w (by omega)
  have hfo : P.fieldsOf T = #[f, g] := by simp [Program.fieldsOf, hu]
  unfold Agg
  rw [run_equalIn_struct w d T _ _ (by rw [hfo]; exact hu) hp, hfo]
  have hx' : (part f.type (Array.ofFn (n := m + m2) fun i => boolF A (off + i.val)) f.offset).run P w = .ok x w := by rw [ho]; exact hx
  have hy' : (part f.type (Array.ofFn (n := m + m2) fun i => boolF B (off + i.val)) f.offset).run P w = .ok y w := by rw [ho]; exact hy
  have hx2' : (part g.type (Array.ofFn (n := m + m2) fun i => boolF A (off + i.val)) g.offset).run P w = .ok x2 w := by rw [ho2]; exact hx2
  have hy2' : (part g.type (Array.ofFn (n := m + m2) fun i => boolF B (off + i.val)) g.offset).run P w = .ok y2 w := by rw [ho2]; exact hy2
  simp only [Nat.zero_add] at he
  have hne : f.name ≠ "_" := by simpa using hn
  have hne2 : g.name ≠ "_" := by simpa using hn2
  rw [allB_add]
  simp only [Op.eqFields, if_pos hne, if_pos hne2, Sem.run_bind, hx', hy', Result.andThen_ok, he]
  cases allB m (fun i => A (off + i)) fun i => B (off + i)
  · simp
  · simp only [Bool.not_true, Bool.false_eq_true, if_false, Sem.run_bind, hx2', hy2', Result.andThen_ok, he2, Bool.true_and]
    cases allB m2 (fun i => A (off + (m + i))) fun i => B (off + (m + i)) <;> simp

theorem Tryd.eqActs : EqT Tryd.prog 10000 74 10 :=
  eqT_struct2 (m := 1) (m2 := 9) (E := 4) (E2 := 72) (eqT_bool 9998 4 Tryd.underlying4 (by kernel_rfl)) (eqT_array (len := 9) (eqT_bool 9997 4 Tryd.underlying4 (by kernel_rfl)) Tryd.underlying72 (by kernel_rfl)) Tryd.underlying74 rfl rfl rfl rfl rfl rfl (by kernel_rfl) (by kernel_rfl)
def acB (st : Bool) (ru : Nat → Bool) : Nat → Bool := fun i => if i = 0 then st else ru (i - 1)
theorem acF_bool (st : Bool) (ru : Nat → Bool) (i : Nat) : acF st ru i = boolF (acB st ru) i := by
  unfold acF boolF acB; split <;> rfl
/-- there is nothing to do -/
def acE (st : Bool) (ru : Nat → Bool) : Bool := allB 10 (acB st ru) fun _ => false
theorem acE_iff {st : Bool} {ru : Nat → Bool} : acE st ru = true ↔ st = false ∧ ∀ k, k < 9 → ru k = false := by
  unfold acE
  rw [allB_iff]
  constructor
  · intro h
    refine ⟨by have := h 0 (by omega); exact this, fun k hk => ?_⟩
    have := h (k + 1) (by omega)
    unfold acB at this
    rw [if_neg (by omega), Nat.add_sub_cancel] at this
    exact this
  · rintro ⟨h1, h2⟩ i hi
    unfold acB
    split
    · exact h1
    · exact h2 _ (by omega)

set_option maxHeartbeats 400000 in
/-- actSet.isEmpty -/
theorem p_aEmpty (b : Nat) (st : Bool) (ru : Nat → Bool) (w : World) (h : Blk w b 10 (acF st ru)) :
    Calls Tryd.prog 36 #[.pointer (some ⟨b, 0, none⟩)] w fun e w' => e = .returned (.bool (acE st ru)) ∧ Fr [] w w' := by
  have H := hide (show CsAt w b 0 10 (boolF (acB st ru)) from fun i hi => by rw [Nat.zero_add, h.cell i hi, acF_bool])
  have hl := h.lt
  clear h
  go_enter Tryd.func36, Tryd.ntmps36
  go_wp2_with (refine wpList_alloc_blk rfl 74 rfl (some 3) rfl 10 _ Tryd.zeroActs ?_; intro w1 hf1 hs1 hB1; have HF1 := hide hf1; have HB1 := hide (hB1.congr fun i _ => acF_bool _ _ i); have HG1 := hide ((unhide H).fr hf1 (by simp) hl); clear hf1 hB1)
  refine wp_region_held_drew (S := fun w' => CsAt w' b 0 10 (boolF (acB st ru)) ∧ CsAt w' w.heap.size 0 10 (boolF (acB false fun _ => false))) (by kernel_rfl) ⟨unhide HG1, fun i hi => by rw [Nat.zero_add]; exact (unhide HB1).drew.cell _ (by omega)⟩ (fun hHeld => ?_)
  refine wpAnyH_takeD (i := 0) (v := .pointer (some ⟨b, 0, none⟩)) rfl rfl (by kernel_rfl) (by kernel_rfl) (by kernel_rfl) (fun _ _ _ h => h) (Or.inl ⟨by rfl, fun _ _ => rfl⟩) hHeld ?_
  simp only [Act.put, List.setIfInBounds_toArray, List.set_cons_zero, List.set_cons_succ]
  refine wpAnyH_takeD (i := 1) (v := .pointer (some ⟨b, 0, none⟩)) rfl rfl (by kernel_rfl) (by kernel_rfl) (by kernel_rfl) (fun _ _ _ h => h) (Or.inl ⟨by rfl, fun _ _ => rfl⟩) hHeld ?_
  simp only [Act.put, List.setIfInBounds_toArray, List.set_cons_zero, List.set_cons_succ]
  refine wpAnyH_takeD (i := 2) rfl rfl (by kernel_rfl) (by kernel_rfl) (by kernel_rfl) (fun _ _ _ h => h) (yieldsIf_load_cs (by rfl) 74 (.tmp 5) rfl b 0 10 (boolF (acB st ru)) _ rfl (fun _ h => h.1) Tryd.underlying74 rfl Tryd.sizeActs) hHeld ?_
  simp only [Act.put, List.setIfInBounds_toArray, List.set_cons_zero, List.set_cons_succ]
  refine wpAnyH_takeD (i := 3) rfl rfl (by kernel_rfl) (by kernel_rfl) (by kernel_rfl) (fun _ _ _ h => h) (yieldsIf_load_cs (by rfl) 74 (.tmp 3) rfl w.heap.size 0 10 (boolF (acB false fun _ => false)) _ rfl (fun _ h => h.2) Tryd.underlying74 rfl Tryd.sizeActs) hHeld ?_
  simp only [Act.put, List.setIfInBounds_toArray, List.set_cons_zero, List.set_cons_succ]
  refine wpAnyH_takeD (i := 4) rfl rfl (by kernel_rfl) (by kernel_rfl) (by kernel_rfl) (fun _ _ _ h => h) (yieldsIf_eql (by rfl) 74 74 (.tmp 6) (.tmp 7) rfl 10 (acB st ru) (acB false fun _ => false) _ rfl rfl Tryd.eqActs Tryd.underlying74 rfl (by kernel_rfl)) hHeld ?_
  simp only [Act.put, List.setIfInBounds_toArray, List.set_cons_zero, List.set_cons_succ]
  refine wpAnyH_takeD (i := 5) (v := .bool (allB 10 (acB st ru) (acB false fun _ => false))) rfl rfl (by kernel_rfl) (by kernel_rfl) (by kernel_rfl) (fun _ _ _ h => h) (Or.inl ⟨by rfl, fun _ _ => rfl⟩) hHeld ?_
  simp only [Act.put, List.setIfInBounds_toArray, List.set_cons_zero, List.set_cons_succ]
  refine wpAnyH_done (by kernel_rfl) ?_ _
  go_wp2
  go_ret
  exact ⟨ret_bool (by unfold acE; congr 1; funext i; unfold acB; split <;> rfl), (unhide HF1).drew⟩

set_option maxHeartbeats 400000 in
/-- actSet.firstRule -/
theorem p_firstRule (b k : Nat) (st : Bool) (ru : Nat → Bool) (w : World) (h : Blk w b 10 (acF st ru)) (hk : k < 9) (h1 : ru k = true) (h0 : ∀ j, j < k → ru j = false) :
    Calls Tryd.prog 37 #[.pointer (some ⟨b, 0, none⟩)] w fun e w' => e = .returned (.int .i64 (k : Nat)) ∧ w' = w := by
  have H := hide h
  have H1 := hide h1
  have H0 := hide h0
  clear h h1 h0
  go_enter Tryd.func37, Tryd.ntmps37
  go_wp2
  go_loop [3] (fun nv => ∃ n : Nat, n ≤ k ∧ nv = .int .i64 n) (fun nv => k + 1 - (intOf nv).toNat)
  case atStart => exact ⟨0, by omega, rfl⟩
  case round =>
    obtain ⟨n, hn, rfl⟩ := hrel
    have hn9 : (n : Int) < 9 := by omega
    have c0 : w.cell? ⟨b, 1 + n, none⟩ = some (.bool (ru n)) := by
      rw [(unhide H).cell (1 + n) (by omega)]
      unfold acF
      rw [if_neg (by omega), Nat.add_sub_cancel_left]
    by_cases hlt : n = k
    · subst hlt
      rw [unhide H1] at c0
      go_wp2
      go_ret
      exact ⟨rfl, rfl⟩
    · rw [unhide H0 n (by omega)] at c0
      go_wp2
      go_round
      case rel => exact ⟨n + 1, by omega, by go_num⟩
      case measure => simp [intOf]; omega

set_option maxHeartbeats 400000 in
/-- plan.leftOf -/
theorem p_leftOf (b k : Nat) (p : Pl) (w : World) (h : PlAt w b p) (hk : k < 9) :
    Calls Tryd.prog 50 #[.pointer (some ⟨b, 0, none⟩), .int .i64 (k : Nat)] w fun e w' => e = .returned (.int .u8 (p.left k : Nat)) ∧ w' = w := by
  have c0 := h.left k hk
  have hk9 : (k : Int) < 9 := by omega
  have hk0 : ¬ (k : Int) < 0 := by omega
  have hk8 : ¬ (9 : Int) ≤ (k : Int) := by omega
  clear h
  go_enter Tryd.func50, Tryd.ntmps50
  go_wp2
  go_ret
  exact ⟨rfl, rfl⟩

set_option maxHeartbeats 400000 in
/-- plan.rightLength -/
theorem p_rightLength (b k m : Nat) (p : Pl) (w : World) (h : PlAt w b p) (hk : k < 9) (hm : m < 5) (h1 : p.en k m = true) (h0 : ∀ j, j < m → p.en k j = false) :
    Calls Tryd.prog 49 #[.pointer (some ⟨b, 0, none⟩), .int .i64 (k : Nat)] w fun e w' => e = .returned (.int .i64 (m : Nat)) ∧ w' = w := by
  have H := hide h
  have H1 := hide h1
  have H0 := hide h0
  have hk9 : (k : Int) < 9 := by omega
  have hk0 : ¬ (k : Int) < 0 := by omega
  have hk8 : ¬ (9 : Int) ≤ (k : Int) := by omega
  clear h h1 h0
  go_enter Tryd.func49, Tryd.ntmps49
  go_wp2
  go_loop [5] (fun nv => ∃ n : Nat, n ≤ m ∧ nv = .int .i64 n) (fun nv => m + 1 - (intOf nv).toNat)
  case atStart => exact ⟨0, by omega, rfl⟩
  case round =>
    obtain ⟨n, hn, rfl⟩ := hrel
    have hn5 : (n : Int) < 5 := by omega
    have c0 : w.cell? ⟨b, 9 + k * 150 + n * 30 + 1, none⟩ = some (.bool (p.en k n)) := (unhide H).spot k n hk (by omega) 1 (by omega)
    by_cases hlt : n = m
    · subst hlt
      rw [unhide H1] at c0
      go_wp2
      go_ret
      exact ⟨rfl, rfl⟩
    · rw [unhide H0 n (by omega)] at c0
      go_wp2
      go_round
      case rel => exact ⟨n + 1, by omega, by go_num⟩
      case measure => simp [intOf]; omega

set_option maxHeartbeats 1000000 in
theorem p_small (k : Nat) (w : World) (hk : k < 10) :
    Calls Tryd.prog 88 #[.int .i64 (k : Nat)] w fun e w' => e = .returned (.string (bstr [48 + k])) ∧ w' = w := by
  have : k = 0 ∨ k = 1 ∨ k = 2 ∨ k = 3 ∨ k = 4 ∨ k = 5 ∨ k = 6 ∨ k = 7 ∨ k = 8 ∨ k = 9 := by omega
  rcases this with rfl | rfl | rfl | rfl | rfl | rfl | rfl | rfl | rfl | rfl
  all_goals
    go_enter Tryd.func88, Tryd.ntmps88
    go_wp2
    go_ret
    exact ⟨rfl, rfl⟩
set_option maxHeartbeats 400000 in
theorem p_fmtInt (k : Nat) (w : World) (hk : k < 10) :
    Calls Tryd.prog 79 #[.int .i64 (k : Nat), .int .i64 10] w fun e w' => e = .returned (.string (bstr [48 + k])) ∧ w' = w := by
  have h1 : (0 : Int) ≤ k := by omega
  have h2 : (k : Int) < 100 := by omega
  go_enter Tryd.func79, Tryd.ntmps79
  go_wp2_with (go_at_call 88; refine (p_small k w hk).mono ?_; rintro e w' ⟨rfl, hw'⟩; rw [hw'])
  go_ret
  exact ⟨rfl, rfl⟩
set_option maxHeartbeats 400000 in
theorem p_itoa0 (k : Nat) (w : World) (hk : k < 10) :
    Calls Tryd.prog 63 #[.int .i64 (k : Nat)] w fun e w' => e = .returned (.string (bstr [48 + k])) ∧ w' = w := by
  go_enter Tryd.func63, Tryd.ntmps63
  go_wp2_with (go_at_call 79; refine (p_fmtInt k w hk).mono ?_; rintro e w' ⟨rfl, hw'⟩; rw [hw'])
  go_ret
  exact ⟨rfl, rfl⟩
set_option maxHeartbeats 400000 in
theorem p_itoa (k : Nat) (w : World) (hk : k < 10) :
    Calls Tryd.prog 51 #[.int .i64 (k : Nat)] w fun e w' => e = .returned (.string (bstr [48 + k])) ∧ w' = w := by
  go_enter Tryd.func51, Tryd.ntmps51
  go_wp2_with (go_at_call 63; refine (p_itoa0 k w hk).mono ?_; rintro e w' ⟨rfl, hw'⟩; rw [hw'])
  go_ret
  exact ⟨rfl, rfl⟩
end Go.Proofs.YtkglggkkbmmjkaaDoor
