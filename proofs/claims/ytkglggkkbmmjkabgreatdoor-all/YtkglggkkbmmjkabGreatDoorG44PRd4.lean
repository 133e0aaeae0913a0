import Derived.Test.YtkglggkkbmmjkabGreatDoorG43PRd1
import Derived.Deep.RegionLaw
import Derived.BigQuiet
namespace Go.Proofs.YtkglggkkbmmjkabGreatDoor
open Go.RowKit
theorem Tryz.infoStage : (Tryz.prog.info? 89).map (fun i => (i.zero, i.size, i.bytes)) = some (some (.agg #[.int .i64 0, .string ⟨#[]⟩]), 2, 24) := by kernel_rfl
set_option maxRecDepth 100000 in
set_option maxHeartbeats 1600000 in
theorem p_push (rb n : Nat) (f : Nat → Value) (sv : Value) (xs : List Value) (a : Int) (b : ByteArray) (w : World) (hB : Blk w rb 2 f) (h1 : f 1 = sv) (hown : w.ownsRow (rb + 1) 89 2 sv n xs) (hn : n ≤ 100000000) :
 Calls Tryz.prog 91 #[.pointer (some ⟨rb, 0, none⟩), .int .i64 a, .string b] w fun e w' => e = .returned (.tuple #[]) ∧ Below rb w w' ∧
  ∃ g c, w'.ownsRow (rb + 1) 89 2 (.slice (some ⟨g, 0, none⟩) (n + 1) c) (n + 1) (xs ++ [.int .i64 a, .string b]) ∧ Blk w' rb 2 (upd f 1 (.slice (some ⟨g, 0, none⟩) (n + 1) c)) := by
 obtain ⟨i0, hi0, hz0, hz1, hz2⟩ := info_parts Tryz.infoStage
 have c0 := (hB.cell 1 (by omega)).trans (by rw [h1])
 have z0 := hB.free 1
 have lb := hB.lt
 have zA : ∀ o, (w.alloc o).frozen? ⟨rb, 1, none⟩ = false := fun o => (hB.alloc o).free 1
 have zAA : ∀ o o', ((w.alloc o).alloc o').frozen? ⟨rb, 1, none⟩ = false := fun o o' => ((hB.alloc o).alloc o').free 1
 have cA : ∀ o, (w.alloc o).cell? ⟨rb, 1, none⟩ = some sv := fun o => ((Fr.refl [] w).alloc o).cell0 c0
 have cAA : ∀ o o', ((w.alloc o).alloc o').cell? ⟨rb, 1, none⟩ = some sv := fun o o' => (((Fr.refl [] w).alloc o).alloc o').cell0 c0
 have HB : Hid (Blk w rb 2 f) := hB
 have HO : Hid (w.ownsRow (rb + 1) 89 2 sv n xs) := hown
 have nb : some rb ≠ sv.ownBlock := fun e => by have := (hown.lt rb e.symm).1; omega
 have nw : some w.heap.size ≠ sv.ownBlock := fun e => by have := (hown.lt _ e.symm).2; omega
 have HL := hide (show ∀ k, sv.ownBlock = some k → rb ≤ k from fun k hk => by have := (hown.lt k hk).1; omega)
 clear hown hB h1
 go_enter Tryz.func91, Tryz.ntmps91
 go_wp2_with fail
 go_region_law
  ((refine step_append_lies _ (by rfl) _ _ _ (by rfl) (rb + 1) 89 i0 _ 2 24 Tryz.underlying82 hi0 hz0 hz1 hz2 rfl (by omega) sv n xs (by rfl) (((HO.out.alloc _).alloc _).drew)
     ⟨w.heap.size + 1, 0, none⟩ 1 1 [.int .i64 a, .string b] (by rfl) (by rfl) (World.news_of_block (cs := #[.int .i64 a, .string b]) (t := 89) (fr := (0, 0)) (heap_new2 w _ _)) (by simp [Value.oneCell'])
     (by omega) (by unfold maxLen; omega) (by omega) (by simp; omega) (w.heap.size + 2) (by simp) ?_; intro gg c1 w1 hown1 hgrow hat hlt
    have B1 : Blk w1 rb 2 f := (((HB.out.alloc _).alloc _).drew).grown hgrow nb
    have d0 := B1.cell 1 (by omega)
    have e0 := B1.free 1
    have HB1 : Hid (Blk w1 rb 2 f) := B1
    clear B1))
 all_goals
  go_wp2_with fail
  have HB2 : Hid (Blk (w1.setCell ⟨rb, 1, none⟩ (.slice (some ⟨gg, 0, none⟩) (n + 1) c1)) rb 2 (upd f 1 (.slice (some ⟨gg, 0, none⟩) (n + 1) c1))) := HB1.out.setCell 1 _
  have HO2 : Hid ((w1.setCell ⟨rb, 1, none⟩ (.slice (some ⟨gg, 0, none⟩) (n + 1) c1)).ownsRow (rb + 1) 89 2 (.slice (some ⟨gg, 0, none⟩) (n + 1) c1) (n + 1) (xs ++ [.int .i64 a, .string b])) := ownsRow_setCell_below hown1 (by simp) _
  have HW2 : Hid (Below rb w (w1.setCell ⟨rb, 1, none⟩ (.slice (some ⟨gg, 0, none⟩) (n + 1) c1))) :=
   (((((Below.refl rb w).alloc (by omega) _).alloc (by simp; omega) _).drew).grown hgrow (by simp; omega) (fun k hk => zaa HL k hk)).setCell (by simp) _
  clear hgrow hown1 hat d0 e0 HB HO HB1 c0 z0
  go_end0
  exact ⟨rfl, HW2.out, gg, c1, HO2.out, HB2.out⟩
theorem ownsRow_below {w w' : World} {base e size n B : Nat} {v : Value} {xs : List Value} (h : w.ownsRow base e size v n xs) (k : Below B w w') (hg : ∀ g, v.ownBlock = some g → g < B) : w'.ownsRow base e size v n xs := by
 obtain ⟨h1, h2⟩ := h
 refine ⟨h1, ?_⟩
 rcases h2 with h2 | ⟨g, cap, cur, hv, h3, hh, r⟩
 ·exact Or.inl h2
 ·exact Or.inr ⟨g, cap, cur, hv, h3, by rw [k.block g (hg g (by rw [hv]; rfl))]; exact hh, r⟩
theorem TbR.below {w w' : World} {tb base B : Nat} {p : Pl} {v : Value} {S : List Sd} {cores fault : Nat} (h : TbR w tb base p v S cores fault) (k : Below B w w') (ht : tb < B) (hg : ∀ g, v.ownBlock = some g → g < B) : TbR w' tb base p v S cores fault :=
 ⟨h.blk.below k ht, ownsRow_below h.row k hg⟩
theorem rdF_upd (tb : Nat) (sv sv' : Value) (i : Nat) (hi : i < 2) : upd (rdF tb sv) 1 sv' i = rdF tb sv' i := by
 unfold upd rdF
 by_cases h : i = 1
 ·rw [if_pos h, if_neg (by omega)]
 ·rw [if_neg h, if_pos (by omega), if_pos (by omega)]
theorem p_pushS (rb tb base : Nat) (p : Pl) (v : Value) (S : List Sd) (cores : Nat) (sv : Value) (st : Stk) (a : Nat) (x : List Nat) (w : World) (h : RdS w rb tb base p v S cores sv st) (hn : st.length ≤ 100000000) :
 Calls Tryz.prog 91 #[.pointer (some ⟨rb, 0, none⟩), .int .i64 (a : Nat), .string (bstr x)] w fun e w' => e = .returned (.tuple #[]) ∧ Below rb w w' ∧ ∃ sv', RdS w' rb tb base p v S cores sv' ((a, x) :: st) := by
 refine (p_push rb st.length (rdF tb sv) sv (stC st) a (bstr x) w h.blk rfl h.row hn).mono ?_
 rintro e w' ⟨rfl, hb, g, c, hown, hB⟩
 exact ⟨rfl, hb, _, hB.congr fun i hi => rdF_upd tb sv _ i hi, by rw [List.length_cons, stC_cons]; exact hown, h.tab.below hb h.tlt h.vlt, h.tlt, h.vlt⟩
end Go.Proofs.YtkglggkkbmmjkabGreatDoor
namespace Go.Proofs.YtkglggkkbmmjkabGreatDoor
open Go.RowKit
theorem eqT_struct2 {P : Program} {d : Nat} {T E E2 : TypeId} {m m2 : Nat} {f g : Field} (h : EqT P d E m) (h2 : EqT P d E2 m2) (hu : P.underlying T = some (.struct #[f, g])) (hf : f.type = E) (hg : g.type = E2) (hn : (f.name == "_") = false) (hn2 : (g.name == "_") = false) (ho : f.offset = 0) (ho2 : g.offset = m) (hp : P.stoodInHeld T = false) (hc : P.cellsOf T = m + m2) : EqT P (d + 1) T (m + m2) := by
 subst hf
 subst hg
 obtain ⟨i, hi⟩ := info_of_underlying hu
 refine ⟨hc, ⟨i, hi⟩, fun A B n off w hw => ⟨_, _, zca hu rfl hi hc _ n off w hw, zca hu rfl hi hc _ n off w hw, ?_⟩⟩
 obtain ⟨x, y, hx, hy, he⟩ := h.2.2 (fun i => A (off + i)) (fun i => B (off + i)) (m + m2) 0 w (by omega)
 obtain ⟨x2, y2, hx2, hy2, he2⟩ := h2.2.2 (fun i => A (off + i)) (fun i => B (off + i)) (m + m2) m w (by omega)
 have hfo : P.fieldsOf T = #[f, g] := by simp [Program.fieldsOf, hu]
 unfold Agg
 rw [run_equalIn_struct w d T _ _ (by rw [hfo]; exact hu) hp, hfo]
 have hx' : (part f.type (Array.ofFn (n := m + m2) fun i => zak A (off + i.val)) f.offset).run P w = .ok x w := by rw [ho]; exact hx
 have hy' : (part f.type (Array.ofFn (n := m + m2) fun i => zak B (off + i.val)) f.offset).run P w = .ok y w := by rw [ho]; exact hy
 have hx2' : (part g.type (Array.ofFn (n := m + m2) fun i => zak A (off + i.val)) g.offset).run P w = .ok x2 w := by rw [ho2]; exact hx2
 have hy2' : (part g.type (Array.ofFn (n := m + m2) fun i => zak B (off + i.val)) g.offset).run P w = .ok y2 w := by rw [ho2]; exact hy2
 simp only [Nat.zero_add] at he
 have hne : f.name ≠ "_" := by simpa using hn
 have hne2 : g.name ≠ "_" := by simpa using hn2
 rw [allB_add]
 simp only [Op.eqFields, if_pos hne, if_pos hne2, Sem.run_bind, hx', hy', Result.andThen_ok, he]
 cases allB m (fun i => A (off + i)) fun i => B (off + i)
 ·simp
 ·simp only [Bool.not_true, Bool.false_eq_true, if_false, Sem.run_bind, hx2', hy2', Result.andThen_ok, he2, Bool.true_and]
  cases allB m2 (fun i => A (off + (m + i))) fun i => B (off + (m + i)) <;> simp
theorem Tryz.eqActs : EqT Tryz.prog 10000 135 10 :=
 eqT_struct2 (m := 1) (m2 := 9) (E := 4) (E2 := 133) (eqT_bool 9998 4 Tryz.underlying4 (by kernel_rfl)) (eqT_array (len := 9) (eqT_bool 9997 4 Tryz.underlying4 (by kernel_rfl)) Tryz.underlying133 (by kernel_rfl)) Tryz.underlying135 rfl rfl rfl rfl rfl rfl (by kernel_rfl) (by kernel_rfl)
def acB (st : Bool) (ru : Nat → Bool) : Nat → Bool := fun i => if i = 0 then st else ru (i - 1)
theorem acF_bool (st : Bool) (ru : Nat → Bool) (i : Nat) : acF st ru i = zak (acB st ru) i := by
 unfold acF zak acB; split <;> rfl
def acE (st : Bool) (ru : Nat → Bool) : Bool := allB 10 (acB st ru) fun _ => false
theorem acE_iff {st : Bool} {ru : Nat → Bool} : acE st ru = true ↔ st = false ∧ ∀ k, k < 9 → ru k = false := by
 unfold acE
 rw [allB_iff]
 constructor
 ·intro h
  refine ⟨by have := h 0 (by omega); exact this, fun k hk => ?_⟩
  have := h (k + 1) (by omega)
  unfold acB at this
  rw [if_neg (by omega), Nat.add_sub_cancel] at this
  exact this
 ·rintro ⟨h1, h2⟩ i hi
  unfold acB
  split
  ·exact h1
  ·exact h2 _ (by omega)
set_option maxHeartbeats 400000 in
theorem p_aEmpty (b : Nat) (st : Bool) (ru : Nat → Bool) (w : World) (h : Blk w b 10 (acF st ru)) :
 Calls Tryz.prog 93 #[.pointer (some ⟨b, 0, none⟩)] w fun e w' => e = .returned (.bool (acE st ru)) ∧ Fr [] w w' := by
 have H := hide (show CsAt w b 0 10 (zak (acB st ru)) from fun i hi => by rw [Nat.zero_add, h.cell i hi, acF_bool])
 have hl := h.lt
 clear h
 go_enter Tryz.func93, Tryz.ntmps93
 go_wp2_with (refine zab rfl 135 rfl (some 3) rfl 10 _ Tryz.zeroActs ?_; intro w1 hf1 hs1 hB1; have HF1 := hide hf1; have HB1 := hide (hB1.congr fun i _ => acF_bool _ _ i); have HG1 := hide ((zaa H).fr hf1 (by simp) hl); clear hf1 hB1)
 refine wp_region_held_drew (S := fun w' => CsAt w' b 0 10 (zak (acB st ru)) ∧ CsAt w' w.heap.size 0 10 (zak (acB false fun _ => false))) (by kernel_rfl) ⟨zaa HG1, fun i hi => by rw [Nat.zero_add]; exact (zaa HB1).drew.cell _ (by omega)⟩ (fun hHeld => ?_)
 refine zae (i := 0) (v := .pointer (some ⟨b, 0, none⟩)) rfl rfl (by kernel_rfl) (by kernel_rfl) (by kernel_rfl) (fun _ _ _ h => h) (Or.inl ⟨by rfl, fun _ _ => rfl⟩) hHeld ?_
 simp only [Act.put, List.setIfInBounds_toArray, List.set_cons_zero, List.set_cons_succ]
 refine zae (i := 1) (v := .pointer (some ⟨b, 0, none⟩)) rfl rfl (by kernel_rfl) (by kernel_rfl) (by kernel_rfl) (fun _ _ _ h => h) (Or.inl ⟨by rfl, fun _ _ => rfl⟩) hHeld ?_
 simp only [Act.put, List.setIfInBounds_toArray, List.set_cons_zero, List.set_cons_succ]
 refine zae (i := 2) rfl rfl (by kernel_rfl) (by kernel_rfl) (by kernel_rfl) (fun _ _ _ h => h) (za1 (by rfl) 135 (.tmp 5) rfl b 0 10 (zak (acB st ru)) _ rfl (fun _ h => h.1) Tryz.underlying135 rfl Tryz.sizeActs) hHeld ?_
 simp only [Act.put, List.setIfInBounds_toArray, List.set_cons_zero, List.set_cons_succ]
 refine zae (i := 3) rfl rfl (by kernel_rfl) (by kernel_rfl) (by kernel_rfl) (fun _ _ _ h => h) (za1 (by rfl) 135 (.tmp 3) rfl w.heap.size 0 10 (zak (acB false fun _ => false)) _ rfl (fun _ h => h.2) Tryz.underlying135 rfl Tryz.sizeActs) hHeld ?_
 simp only [Act.put, List.setIfInBounds_toArray, List.set_cons_zero, List.set_cons_succ]
 refine zae (i := 4) rfl rfl (by kernel_rfl) (by kernel_rfl) (by kernel_rfl) (fun _ _ _ h => h) (yieldsIf_eql (by rfl) 135 135 (.tmp 6) (.tmp 7) rfl 10 (acB st ru) (acB false fun _ => false) _ rfl rfl Tryz.eqActs Tryz.underlying135 rfl (by kernel_rfl)) hHeld ?_
 simp only [Act.put, List.setIfInBounds_toArray, List.set_cons_zero, List.set_cons_succ]
 refine zae (i := 5) (v := .bool (allB 10 (acB st ru) (acB false fun _ => false))) rfl rfl (by kernel_rfl) (by kernel_rfl) (by kernel_rfl) (fun _ _ _ h => h) (Or.inl ⟨by rfl, fun _ _ => rfl⟩) hHeld ?_
 simp only [Act.put, List.setIfInBounds_toArray, List.set_cons_zero, List.set_cons_succ]
 refine wpAnyH_done (by kernel_rfl) ?_ _
 go_wp2
 go_ret
 exact ⟨zap (by unfold acE; congr 1; funext i; unfold acB; split <;> rfl), (zaa HF1).drew⟩
set_option maxHeartbeats 400000 in
theorem p_firstRule (b k : Nat) (st : Bool) (ru : Nat → Bool) (w : World) (h : Blk w b 10 (acF st ru)) (hk : k < 9) (h1 : ru k = true) (h0 : ∀ j, j < k → ru j = false) :
 Calls Tryz.prog 94 #[.pointer (some ⟨b, 0, none⟩)] w fun e w' => e = .returned (.int .i64 (k : Nat)) ∧ w' = w := by
 have H := hide h
 have H1 := hide h1
 have H0 := hide h0
 clear h h1 h0
 go_enter Tryz.func94, Tryz.ntmps94
 go_wp2
 go_loop [3] (fun nv => ∃ n : Nat, n ≤ k ∧ nv = .int .i64 n) (fun nv => k + 1 - (intOf nv).toNat)
 case atStart => exact ⟨0, by omega, rfl⟩
 case round =>
  obtain ⟨n, hn, rfl⟩ := hrel
  have hn9 : (n : Int) < 9 := by omega
  have c0 : w.cell? ⟨b, 1 + n, none⟩ = some (.bool (ru n)) := by
   rw [(zaa H).cell (1 + n) (by omega)]
   unfold acF
   rw [if_neg (by omega), Nat.add_sub_cancel_left]
  by_cases hlt : n = k
  ·subst hlt
   rw [zaa H1] at c0
   go_wp2
   go_ret
   exact ⟨rfl, rfl⟩
  ·rw [zaa H0 n (by omega)] at c0
   go_wp2
   go_round
   case rel => exact ⟨n + 1, by omega, by go_num⟩
   case measure => simp [intOf]; omega
set_option maxHeartbeats 400000 in
theorem p_leftOf (b k : Nat) (p : Pl) (w : World) (h : PlAt w b p) (hk : k < 9) :
 Calls Tryz.prog 125 #[.pointer (some ⟨b, 0, none⟩), .int .i64 (k : Nat)] w fun e w' => e = .returned (.int .u8 (p.left k : Nat)) ∧ w' = w := by
 have c0 := h.left k hk
 have hk9 : (k : Int) < 9 := by omega
 have hk0 : ¬ (k : Int) < 0 := by omega
 have hk8 : ¬ (9 : Int) ≤ (k : Int) := by omega
 clear h
 go_enter Tryz.func125, Tryz.ntmps125
 go_wp2
 go_ret
 exact ⟨rfl, rfl⟩
set_option maxHeartbeats 400000 in
theorem p_rightLength (b k m : Nat) (p : Pl) (w : World) (h : PlAt w b p) (hk : k < 9) (hm : m < 5) (h1 : p.en k m = true) (h0 : ∀ j, j < m → p.en k j = false) :
 Calls Tryz.prog 124 #[.pointer (some ⟨b, 0, none⟩), .int .i64 (k : Nat)] w fun e w' => e = .returned (.int .i64 (m : Nat)) ∧ w' = w := by
 have H := hide h
 have H1 := hide h1
 have H0 := hide h0
 have hk9 : (k : Int) < 9 := by omega
 have hk0 : ¬ (k : Int) < 0 := by omega
 have hk8 : ¬ (9 : Int) ≤ (k : Int) := by omega
 clear h h1 h0
 go_enter Tryz.func124, Tryz.ntmps124
 go_wp2
 go_loop [5] (fun nv => ∃ n : Nat, n ≤ m ∧ nv = .int .i64 n) (fun nv => m + 1 - (intOf nv).toNat)
 case atStart => exact ⟨0, by omega, rfl⟩
 case round =>
  obtain ⟨n, hn, rfl⟩ := hrel
  have hn5 : (n : Int) < 5 := by omega
  have c0 : w.cell? ⟨b, 9 + k * 150 + n * 30 + 1, none⟩ = some (.bool (p.en k n)) := (zaa H).spot k n hk (by omega) 1 (by omega)
  by_cases hlt : n = m
  ·subst hlt
   rw [zaa H1] at c0
   go_wp2
   go_ret
   exact ⟨rfl, rfl⟩
  ·rw [zaa H0 n (by omega)] at c0
   go_wp2
   go_round
   case rel => exact ⟨n + 1, by omega, by go_num⟩
   case measure => simp [intOf]; omega
set_option maxHeartbeats 1000000 in
theorem p_small (k : Nat) (w : World) (hk : k < 10) :
 Calls Tryz.prog 151 #[.int .i64 (k : Nat)] w fun e w' => e = .returned (.string (bstr [48 + k])) ∧ w' = w := by
 have : k = 0 ∨ k = 1 ∨ k = 2 ∨ k = 3 ∨ k = 4 ∨ k = 5 ∨ k = 6 ∨ k = 7 ∨ k = 8 ∨ k = 9 := by omega
 rcases this with rfl | rfl | rfl | rfl | rfl | rfl | rfl | rfl | rfl | rfl
 all_goals
  go_enter Tryz.func151, Tryz.ntmps151
  go_wp2
  go_ret
  exact ⟨rfl, rfl⟩
set_option maxHeartbeats 400000 in
theorem p_fmtInt (k : Nat) (w : World) (hk : k < 10) :
 Calls Tryz.prog 146 #[.int .i64 (k : Nat), .int .i64 10] w fun e w' => e = .returned (.string (bstr [48 + k])) ∧ w' = w := by
 have h1 : (0 : Int) ≤ k := by omega
 have h2 : (k : Int) < 100 := by omega
 go_enter Tryz.func146, Tryz.ntmps146
 go_wp2_with (go_at_call 151; refine (p_small k w hk).mono ?_; rintro e w' ⟨rfl, hw'⟩; rw [hw'])
 go_ret
 exact ⟨rfl, rfl⟩
set_option maxHeartbeats 400000 in
theorem p_itoa0 (k : Nat) (w : World) (hk : k < 10) :
 Calls Tryz.prog 138 #[.int .i64 (k : Nat)] w fun e w' => e = .returned (.string (bstr [48 + k])) ∧ w' = w := by
 go_enter Tryz.func138, Tryz.ntmps138
 go_wp2_with (go_at_call 146; refine (p_fmtInt k w hk).mono ?_; rintro e w' ⟨rfl, hw'⟩; rw [hw'])
 go_ret
 exact ⟨rfl, rfl⟩
set_option maxHeartbeats 400000 in
theorem p_itoa (k : Nat) (w : World) (hk : k < 10) :
 Calls Tryz.prog 126 #[.int .i64 (k : Nat)] w fun e w' => e = .returned (.string (bstr [48 + k])) ∧ w' = w := by
 go_enter Tryz.func126, Tryz.ntmps126
 go_wp2_with (go_at_call 138; refine (p_itoa0 k w hk).mono ?_; rintro e w' ⟨rfl, hw'⟩; rw [hw'])
 go_ret
 exact ⟨rfl, rfl⟩
end Go.Proofs.YtkglggkkbmmjkabGreatDoor
namespace Go.Proofs.YtkglggkkbmmjkabGreatDoor
open Go.RowKit
def szT (st : Stk) : Nat := (st.map fun q => q.2.length).sum
theorem szT_cons (q : Nat × List Nat) (st : Stk) : szT (q :: st) = q.2.length + szT st := by unfold szT; simp
theorem szT_app (a b : Stk) : szT (a ++ b) = szT a + szT b := by unfold szT; simp
theorem txt_len : ∀ pt : Stk, (txt pt).length = szT pt
 | [] => rfl
 | q :: pt => by rw [txt_cons, List.length_append, txt_len pt, szT_cons]; omega
def txR (pt : Stk) (t : Nat) : List Nat := (pt.reverse.take t).flatMap (·.2)
theorem txR_all (pt : Stk) {t : Nat} (h : pt.length ≤ t) : txR pt t = txt pt := by
 unfold txR txt
 rw [List.take_of_length_le (by simpa using h)]
theorem txR_succ (pt : Stk) {t : Nat} (h : t < pt.length) : txR pt (t + 1) = txR pt t ++ (pt.reverse[t]'(by simpa using h)).2 := by
 unfold txR
 rw [List.take_succ_eq_append_getElem (by simpa using h)]; simp
theorem txR_le (pt : Stk) (t : Nat) : (txR pt t).length ≤ szT pt := by
 rw [← txt_len]
 unfold txR txt
 have : ∀ (l : Stk) (t : Nat), ((l.take t).flatMap (·.2)).length ≤ (l.flatMap (·.2)).length := by
  intro l
  induction l with
  | nil => intro t; simp
  | cons q l ih =>
   intro t
   cases t with
   | zero => simp
   | succ t => rw [List.take_succ_cons, List.flatMap_cons, List.flatMap_cons, List.length_append, List.length_append]; have := ih t; omega
 exact this _ _
theorem elt_le (pt : Stk) {t : Nat} (h : t < pt.length) : (pt.reverse[t]'(by simpa using h)).2.length ≤ szT pt := by
 have := txR_le pt (t + 1)
 rw [txR_succ pt h, List.length_append] at this
 omega
theorem stC_text (pt st : Stk) (q : Nat × List Nat) {t : Nat} (h : t < pt.length) : (stC (pt ++ q :: st))[(st.length + 1 + t) * 2 + 1]? = some (.string (bstr (pt.reverse[t]'(by simpa using h)).2)) := by
 rw [stC_app, List.getElem?_append_right (by rw [stC_len, List.length_cons]; omega), stC_len, List.length_cons, show (st.length + 1 + t) * 2 + 1 - (st.length + 1) * 2 = t * 2 + 1 from by omega]
 unfold stC
 have key : ∀ (l : Stk) (t : Nat) (h : t < l.length), (l.flatMap fun q => [Value.int .i64 (q.1 : Nat), .string (bstr q.2)])[t * 2 + 1]? = some (.string (bstr l[t].2)) := by
  intro l
  induction l with
  | nil => intro t h; simp at h
  | cons a l ih =>
   intro t h
   rw [List.flatMap_cons]
   cases t with
   | zero => rfl
   | succ t =>
    rw [show (t + 1) * 2 + 1 = (t * 2 + 1) + 2 from by omega]
    have := ih t (by simpa using h)
    simpa using this
 exact key _ t (by simpa using h)
theorem RdS.form2 {w : World} {rb tb base : Nat} {p : Pl} {v : Value} {S : List Sd} {cores : Nat} {sv : Value} {st : Stk} (h : RdS w rb tb base p v S cores sv st) (hne : 0 < st.length) : ∃ g cap, sv = .slice (some ⟨g, 0, none⟩) st.length cap ∧ rb + 1 ≤ g ∧ g < w.heap.size ∧ st.length ≤ cap ∧ cap ≤ maxLen := by
 obtain ⟨_, h2⟩ := h.row
 rcases h2 with ⟨_, h3⟩ | ⟨g, cap, cur, e, h3, h4, h5, h6, _⟩
 ·omega
 ·have := h.row.lt g (by rw [e]; rfl)
  exact ⟨g, cap, e, this.1, this.2, h5, h6⟩
theorem ownsRow_take {w : World} {base e g n m cap : Nat} {xs ys : List Value} (h : w.ownsRow base e 2 (.slice (some ⟨g, 0, none⟩) n cap) n (xs ++ ys)) (hx : xs.length = m * 2) (hm : m ≤ n) : w.ownsRow base e 2 (.slice (some ⟨g, 0, none⟩) m cap) m xs := by
 obtain ⟨h1, h2⟩ := h
 refine ⟨hx, Or.inr ?_⟩
 rcases h2 with ⟨h3, _⟩ | ⟨g', cap', cur, e', h3, h4, h5, h6, h7, h8⟩
 ·cases h3
 ·cases e'
  refine ⟨g, cap, cur, rfl, h3, h4, by omega, h6, h7, ?_⟩
  have := congrArg (List.take (m * 2)) h8
  rw [List.take_take, Nat.min_eq_left (Nat.mul_le_mul_right 2 hm), ← hx, List.take_left] at this
  rw [hx] at this
  exact this
theorem RdS.cut {w : World} {rb tb base g cap : Nat} {p : Pl} {v : Value} {S : List Sd} {cores : Nat} {pt st : Stk} (h : RdS w rb tb base p v S cores (.slice (some ⟨g, 0, none⟩) (pt ++ st).length cap) (pt ++ st)) : RdS (w.setCell ⟨rb, 1, none⟩ (.slice (some ⟨g, 0, none⟩) st.length cap)) rb tb base p v S cores (.slice (some ⟨g, 0, none⟩) st.length cap) st ∧ Below rb w (w.setCell ⟨rb, 1, none⟩ (.slice (some ⟨g, 0, none⟩) st.length cap)) := by
 have hb : Below rb w (w.setCell ⟨rb, 1, none⟩ (.slice (some ⟨g, 0, none⟩) st.length cap)) := (Below.refl rb w).setCell (by simp) _
 refine ⟨⟨(h.blk.setCell 1 _).congr fun i hi => rdF_upd tb _ _ i hi, ?_, h.tab.below hb h.tlt h.vlt, h.tlt, h.vlt⟩, hb⟩
 have hr := h.row
 rw [stC_app] at hr
 exact ownsRow_setCell_below (ownsRow_take hr (stC_len st) (by rw [List.length_append]; omega)) (by simp) _
theorem node_str (k : Nat) (x : List Nat) : ((bstr [48 + k] ++ (⟨#[40]⟩ : ByteArray)) ++ bstr x) ++ (⟨#[41]⟩ : ByteArray) = bstr (nodeT k x) := by
 rw [show (⟨#[40]⟩ : ByteArray) = bstr [40] from rfl, show (⟨#[41]⟩ : ByteArray) = bstr [41] from rfl, ← bstr_app, ← bstr_app, ← bstr_app]
 unfold nodeT
 simp
set_option maxRecDepth 100000 in
set_option maxHeartbeats 4000000 in
theorem p_replace (rb tb base : Nat) (p : Pl) (v : Value) (S : List Sd) (cores : Nat) (sv : Value) (k m c j s : Nat) (x : List Nat) (pt st : Stk) (w : World)
 (h : RdS w rb tb base p v S cores sv (pt ++ (s, x) :: st)) (hpt : pt.length = m) (hk : k < 9) (hm : m < 5) (h1 : p.en k m = true) (h0 : ∀ i, i < m → p.en k i = false) (hc : p.left k = c) (hs : s < S.length) (hj : zbo S s c = (j : Nat)) (hn : st.length ≤ 90000000) (hz : szT pt ≤ 1000000000) :
 Calls Tryz.prog 95 #[.pointer (some ⟨rb, 0, none⟩), .int .i64 (k : Nat)] w fun e w' => e = .returned (.tuple #[]) ∧ Below rb w w' ∧ ∃ sv', RdS w' rb tb base p v S cores sv' ((j, nodeT k (txt pt)) :: (s, x) :: st) := by
 obtain ⟨g, cap, rfl, hg1, hg2, hcap, hcm⟩ := h.form2 (by rw [List.length_append, List.length_cons]; omega)
 have c1 : w.cell? ⟨rb, 1, none⟩ = some (.slice (some ⟨g, 0, none⟩) (pt ++ (s, x) :: st).length cap) := h.blk.cell 1 (by omega)
 have c2 : w.cell? ⟨rb, 0, none⟩ = some (.pointer (some ⟨tb, 0, none⟩)) := h.blk.cell 0 (by omega)
 have z1 := h.blk.free 1
 have hrb := h.blk.lt
 obtain ⟨N, hN⟩ : ∃ N, (pt ++ (s, x) :: st).length = N := ⟨_, rfl⟩
 obtain ⟨n, hnn⟩ : ∃ n, st.length = n := ⟨_, rfl⟩
 have hNm : N = m + (n + 1) := by rw [← hN, List.length_append, List.length_cons, hpt, hnn]
 rw [hN] at c1 hcap
 rw [hnn] at hn
 have hw0 : IntKind.i64.wrap ((N : Int) - (m : Int)) = (n : Int) + 1 := by rw [IntKind.wrap_i64]; omega
 have f1 : ¬ (n : Int) + 1 < 1 := by omega
 have f2 : ¬ (N : Int) < (n : Int) + 1 := by omega
 have f3 : (n : Int) + 1 ≤ (cap : Int) := by omega
 have f4 : (0 : Int) ≤ (n : Int) + 1 := by omega
 have HH := hide h
 have HN := hide hN
 have HNm := hide hNm
 have Hnn := hide hnn
 have H1 := hide h1
 have H0 := hide h0
 have HC := hide hc
 have HJ := hide hj
 have HPT := hide hpt
 have hNb : N ≤ 100000000 := by omega
 clear h hN hNm hnn h1 h0 hc hj hpt hcm
 go_enter Tryz.func95, Tryz.ntmps95
 go_wp2
 go_region_held3 (fun w' => w'.cell? ⟨rb, 1, none⟩ = some (.slice (some ⟨g, 0, none⟩) N cap) ∧ w'.cell? ⟨rb, 0, none⟩ = some (.pointer (some ⟨tb, 0, none⟩))) (go_keep) ((go_at_call 124; refine (p_rightLength tb k m p _ (by exact (zaa HH).tab.plan) hk hm (zaa H1) (zaa H0)).mono ?_; rintro e w' ⟨rfl, hw'⟩; rw [hw']))
 obtain ⟨w1, hw1⟩ : ∃ w1, w.drew = w1 := ⟨_, rfl⟩
 rw [hw1]
 have HH1 := hide (show RdS w1 rb tb base p v S cores (.slice (some ⟨g, 0, none⟩) (pt ++ (s, x) :: st).length cap) (pt ++ (s, x) :: st) from hw1 ▸ (zaa HH).fr0 (Fr.refl [] w).drew)
 have HB1 := hide (show Below rb w w1 from hw1 ▸ (Below.refl rb w).drew)
 clear c1 c2 z1 HH hg2 hrb hw1
 have c1 : w1.cell? ⟨rb, 1, none⟩ = some (.slice (some ⟨g, 0, none⟩) N cap) := by rw [← zaa HN]; exact (zaa HH1).blk.cell 1 (by omega)
 have z1 := (zaa HH1).blk.free 1
 go_wp2
 go_loop [5, 6] (fun av iv => ∃ t i : Nat, t ≤ m ∧ i ≤ N ∧ Hid (i = n + 1 + t) ∧ iv = .int .i64 i ∧ av = .string (bstr (txR pt t))) (fun _ iv => N - (intOf iv).toNat)
 case atStart => exact ⟨0, n + 1, by omega, by have := zaa HNm; omega, rfl, by go_num, rfl⟩
 case round =>
  obtain ⟨t, i, ht, hi, hit, rfl, rfl⟩ := hrel
  by_cases hlt : i < N
  ·have htm : t < pt.length := by have := zaa hit; have := zaa HNm; have := zaa HPT; omega
   have d1 : w1.cell? ⟨g, i * 2 + 1, none⟩ = some (.string (bstr (pt.reverse[t]'(by simpa using htm)).2)) := by
    have := row_cell (zaa HH1).row (stC_text pt st (s, x) htm)
    rw [zaa Hnn, ← zaa hit] at this
    exact this
   have s1 := bstr_size (txR pt t)
   have s2 := txR_le pt t
   have s3 := bstr_size (pt.reverse[t]'(by simpa using htm)).2
   have s4 := elt_le pt htm
   have HT := hide (show bstr (txR pt t) ++ bstr (pt.reverse[t]'(by simpa using htm)).2 = bstr (txR pt (t + 1)) from by rw [txR_succ pt htm, bstr_app])
   have HT1 := hide (show t + 1 ≤ m from by have := zaa HPT; omega)
   obtain ⟨bb, hbb⟩ : ∃ bb, bstr (pt.reverse[t]'(by simpa using htm)).2 = bb := ⟨_, rfl⟩
   rw [hbb] at d1 HT s3
   obtain ⟨aa, haa⟩ : ∃ aa, bstr (txR pt t) = aa := ⟨_, rfl⟩
   rw [haa] at HT s1 ⊢
   have hsz : aa.size + bb.size ≤ 9223372036854775807 := by omega
   have hil : (i : Int) < N := by omega
   clear haa s1 s2 s3 s4 hbb htm
   go_wp2
   go_round
   case rel => exact ⟨t + 1, i + 1, zaa HT1, by omega, by have := zaa hit; exact (by omega : i + 1 = n + 1 + (t + 1)), by go_num, by rw [zaa HT]⟩
   case measure => simp [intOf]; omega
  ·have hiN : i = N := by omega
   subst hiN
   have htm : t = m := by have := zaa hit; have := zaa HNm; omega
   subst htm
   have HI := hide (show bstr (txR pt t) = bstr (txt pt) from by rw [txR_all pt (by rw [zaa HPT]; exact Nat.le_refl _)])
   rw [zaa HI]
   obtain ⟨ins, hins⟩ : ∃ ins, bstr (txt pt) = ins := ⟨_, rfl⟩
   rw [hins]
   have hisz : ins.size ≤ 1000000000 := by rw [← hins, bstr_size, txt_len]; exact hz
   have HIns := hide hins
   clear hins HI
   go_wp2_with fail
   have hcut := (zaa HH1).cut
   rw [List.length_cons, zaa Hnn] at hcut
   obtain ⟨w2, hw2⟩ : ∃ w2, w1.setCell ⟨rb, 1, none⟩ (.slice (some ⟨g, 0, none⟩) (n + 1) cap) = w2 := ⟨_, rfl⟩
   rw [hw2] at hcut ⊢
   have HH2 := hide hcut.1
   have HB2 := hide ((zaa HB1).trans hcut.2)
   clear hcut hw2 c1 z1 HH1 HB1
   refine (p_last rb tb base p v S cores _ (s, x) st w2 (by exact zaa HH2) (by have := zaa Hnn; omega)).mono ?_
   rintro e w3 ⟨rfl, hf3⟩
   have HH3 := hide ((zaa HH2).fr0 hf3)
   have HB3 := hide ((zaa HB2).trans (hf3.below.mono (Nat.le_of_lt (zaa HH2).blk.lt)))
   have HH4 := hide (show ∀ o, RdS (w3.alloc o) rb tb base p v S cores (.slice (some ⟨g, 0, none⟩) (n + 1) cap) ((s, x) :: st) from fun o => (zaa HH3).fr0 ((Fr.refl [] w3).alloc o))
   have HH5 := hide (show ∀ o, RdS (w3.alloc o).drew rb tb base p v S cores (.slice (some ⟨g, 0, none⟩) (n + 1) cap) ((s, x) :: st) from fun o => (zaa HH4 o).fr0 (Fr.refl [] _).drew)
   have k2 : ∀ o, (w3.alloc o).cell? ⟨rb, 0, none⟩ = some (.pointer (some ⟨tb, 0, none⟩)) := fun o => (zaa HH4 o).blk.cell 0 (by omega)
   clear hf3 HH2 HB2
   go_wp2_with (go_at_call 125; refine (p_leftOf tb k p _ (by exact (zaa HH4 _).tab.plan) hk).mono ?_; rintro e w' ⟨rfl, hw'⟩; rw [hw', zaa HC])
   go_region_held3 (fun w' => w'.cell? ⟨rb, 0, none⟩ = some (.pointer (some ⟨tb, 0, none⟩)) ∧ w'.cell? ⟨w3.heap.size, 0, none⟩ = some (.int .i64 (s : Nat))) (go_keep) ((go_at_call 75; refine (p_tstep tb base s c p v S cores 0 _ (by exact (zaa HH5 _).tab) hs).mono ?_; rintro e w' ⟨rfl, hw'⟩; rw [hw', zaa HJ]))
   have HB5 := hide (show Below rb w (w3.alloc (.cells #[.int .i64 (s : Nat), .string (bstr x)] 89)).drew from ((zaa HB3).alloc (Nat.le_of_lt (zaa HH3).blk.lt) _).drew)
   have HH6 := hide (zaa HH5 (.cells #[.int .i64 (s : Nat), .string (bstr x)] 89))
   obtain ⟨w5, hw5⟩ : ∃ w5, (w3.alloc (.cells #[.int .i64 (s : Nat), .string (bstr x)] 89)).drew = w5 := ⟨_, rfl⟩
   rw [hw5] at HB5 HH6 ⊢
   clear hw5 HH5 HH4 HH3 HB3 k2
   have HNS := hide (node_str k (txt pt))
   rw [zaa HIns] at HNS
   have ha1 := bstr_size [48 + k]
   rw [show [48 + k].length = 1 from rfl] at ha1
   obtain ⟨a1, hea1⟩ : ∃ a1, bstr [48 + k] = a1 := ⟨_, rfl⟩
   rw [hea1] at ha1 HNS
   have HA1 := hide hea1
   have hs2 : (a1 ++ (⟨#[40]⟩ : ByteArray)).size = 2 := by rw [ByteArray.size_append, ha1]; rfl
   have hs3 : ((a1 ++ (⟨#[40]⟩ : ByteArray)) ++ ins).size ≤ 1000000002 := by rw [ByteArray.size_append, hs2]; omega
   clear hea1
   go_wp2_with fail
   refine (p_itoa k w5 (by omega)).mono ?_
   rintro e w' ⟨rfl, hw'⟩
   rw [hw', zaa HA1]
   go_wp2_with fail
   rw [zaa HNS]
   refine (p_pushS rb tb base p v S cores _ ((s, x) :: st) j (nodeT k (txt pt)) w5 (by exact zaa HH6) (by rw [List.length_cons]; have := zaa Hnn; omega)).mono ?_
   rintro e w6 ⟨rfl, hb6, sv6, h6⟩
   have HE := hide (show Below rb w w6 ∧ ∃ sv', RdS w6 rb tb base p v S cores sv' ((j, nodeT k (txt pt)) :: (s, x) :: st) from ⟨(zaa HB5).trans hb6, sv6, h6⟩)
   clear hb6 h6
   go_wp2
   go_end0
   exact ⟨rfl, zaa HE⟩
end Go.Proofs.YtkglggkkbmmjkabGreatDoor
