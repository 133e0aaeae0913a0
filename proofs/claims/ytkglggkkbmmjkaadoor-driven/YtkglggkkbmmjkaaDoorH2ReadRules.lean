import Derived.Test.YtkglggkkbmmjkaaDoorH1ReadRule
import Derived.Deep.RegionLaw
import Derived.BigQuiet
import Derived.Deep.AppendLies
namespace Go.Proofs.YtkglggkkbmmjkaaDoor
open Go.RowKit

theorem Tryd.infoRule : (Tryd.prog.info? 114).map (fun i => (i.zero, i.size, i.bytes)) = some (some (.agg #[.int .u8 0, .string ⟨#[]⟩, .int .i64 0]), 3, 32) := by kernel_rfl

theorem cell_new2 (W : World) (N : Nat) (A : Array Value) (T : TypeId) (Y : Obj) (k : Nat) (v : Value) (hs : W.heap.size = N) (hk : A[k]? = some v) : ((W.alloc (.cells A T)).alloc Y).drew.cell? ⟨N, k, none⟩ = some v := by
  subst hs
  have h : ((W.alloc (.cells A T)).alloc Y).drew.heap[W.heap.size]? = some (.cells A T) := by
    show ((W.heap.push _).push Y)[W.heap.size]? = _
    rw [Array.getElem?_push, if_neg (by simp), Array.getElem?_push]; simp
  simp only [World.cell?, h]
  simpa using hk
theorem heap_new2 (w : World) (X Y : Obj) : ((w.alloc X).alloc Y).drew.heap[w.heap.size + 1]? = some Y := by
  show ((w.heap.push X).push Y)[w.heap.size + 1]? = some Y
  rw [Array.getElem?_push]; simp

set_option maxRecDepth 100000 in
set_option maxHeartbeats 1600000 in
theorem p_addRule_more (b n L A q cap : Nat) (R : ByteArray) (f : Nat → Value) (xs : List Value) (w : World) (hB : Blk w b 758 f) (h0 : f 0 = .slice (some ⟨q, 0, none⟩) n cap)
    (hown : w.ownsRow (b + 1) 114 3 (.slice (some ⟨q, 0, none⟩) n cap) n xs) (hn : n ≤ 8) (hn0 : 0 < n) :
    Calls Tryd.prog 65 #[.pointer (some ⟨b, 0, none⟩), .agg #[.int .u8 L, .string R, .int .i64 A]] w fun e w' => e = .returned (.tuple #[]) ∧ Below b w w' ∧
      ∃ g c, w'.ownsRow (b + 1) 114 3 (.slice (some ⟨g, 0, none⟩) (n + 1) c) (n + 1) (xs ++ [.int .u8 L, .string R, .int .i64 A]) ∧ Blk w' b 758 (addF (upd f 0 (.slice (some ⟨g, 0, none⟩) (n + 1) c)) 2 L) := by
  obtain ⟨i0, hi0, hz0, hz1, hz2⟩ := info_parts Tryd.infoRule
  have c0 := (hB.cell 0 (by omega)).trans (by rw [h0])
  have z0 := hB.free 0
  have lb := hB.lt
  have zA : ∀ o, (w.alloc o).frozen? ⟨b, 0, none⟩ = false := fun o => (hB.alloc o).free 0
  have zAA : ∀ o o', ((w.alloc o).alloc o').frozen? ⟨b, 0, none⟩ = false := fun o o' => ((hB.alloc o).alloc o').free 0
  have HB : Hid (Blk w b 758 f) := hB
  have HO : Hid (w.ownsRow (b + 1) 114 3 (.slice (some ⟨q, 0, none⟩) n cap) n xs) := hown
  have hne : ((n : Int) == 0) = false := by simp; omega
  obtain ⟨hbq, lq⟩ : b + 1 ≤ q ∧ q < w.heap.size := hown.lt q rfl
  have nb : some b ≠ (Value.slice (some ⟨q, 0, none⟩) n cap).ownBlock := by simp [Value.ownBlock]; omega
  have nw : some w.heap.size ≠ (Value.slice (some ⟨q, 0, none⟩) n cap).ownBlock := by simp [Value.ownBlock]; omega
  clear hown hB h0
  go_enter Tryd.func65, Tryd.ntmps65
  go_wp2_with fail
  go_region_law
    ((refine step_append_lies _ (by rfl) _ _ _ (by rfl) (b + 1) 114 i0 _ 3 32 Tryd.underlying85 hi0 hz0 hz1 hz2 rfl (by omega) (.slice (some ⟨q, 0, none⟩) n cap) n xs (by rfl) (((HO.out.alloc _).alloc _).drew)
        ⟨w.heap.size + 1, 0, none⟩ 1 1 [.int .u8 L, .string R, .int .i64 A] (by rfl) (by rfl) (World.news_of_block (cs := #[.int .u8 L, .string R, .int .i64 A]) (t := 114) (fr := (0, 0)) (heap_new2 w _ _)) (by simp [Value.oneCell'])
        (by omega) (by unfold maxLen; omega) (by omega) (by simp; omega) (w.heap.size + 2) (by simp) ?_; intro gg c1 w1 hown1 hgrow hat hlt
      have B1 : Blk w1 b 758 f := (((HB.out.alloc _).alloc _).drew).grown hgrow nb
      have d0 := B1.cell 0 (by omega)
      have e0 := B1.free 0
      have d1 : w1.cell? ⟨w.heap.size, 0, none⟩ = some (.int .u8 L) := (hgrow.cell_far ⟨w.heap.size, 0, none⟩ (by simp; omega) nw).trans (by simp)
      have HB1 : Hid (Blk w1 b 758 f) := B1
      clear B1))
  all_goals
    go_wp2_with fail
    have d2 : (w1.setCell ⟨b, 0, none⟩ (.slice (some ⟨gg, 0, none⟩) (n + 1) c1)).cell? ⟨w.heap.size, 0, none⟩ = some (.int .u8 L) := by
      rw [World.cell?_setCell_other _ _ _ _ (by intro h; have := congrArg Addr.block h; simp at this; omega)]; exact d1
    have HB2 : Hid (Blk (w1.setCell ⟨b, 0, none⟩ (.slice (some ⟨gg, 0, none⟩) (n + 1) c1)) b 758 (upd f 0 (.slice (some ⟨gg, 0, none⟩) (n + 1) c1))) := HB1.out.setCell 0 _
    have HO2 : Hid ((w1.setCell ⟨b, 0, none⟩ (.slice (some ⟨gg, 0, none⟩) (n + 1) c1)).ownsRow (b + 1) 114 3 (.slice (some ⟨gg, 0, none⟩) (n + 1) c1) (n + 1) (xs ++ [.int .u8 L, .string R, .int .i64 A])) := ownsRow_setCell_below hown1 (by simp) _
    have HW2 : Hid (Below b w (w1.setCell ⟨b, 0, none⟩ (.slice (some ⟨gg, 0, none⟩) (n + 1) c1))) :=
      (((((Below.refl b w).alloc (by omega) _).alloc (by simp; omega) _).drew).grown hgrow (by simp; omega) (fun k hk => by simp [Value.ownBlock] at hk; omega)).setCell (by simp) _
    have lb2 : b < w1.heap.size := HB1.out.lt
    clear hgrow hown1 hat d0 e0 d1 HB HO HB1 c0 z0
    go_region_with (go_at_call 70; refine (p_add b 2 L 758 _ _ (by exact HB2.out.drew) (by omega)).mono ?_; rintro e w2 ⟨rfl, hf2⟩)
    go_end0
    exact ⟨rfl, HW2.out.trans (Below.trans (Below.drew (Below.refl _ _)) (hf2.1.belowOf (by simp) (by simp; omega))), gg, c1, ownsRow_fr HO2.out.drew hf2.1 (by simp), hf2.2.2⟩

set_option maxRecDepth 100000 in
set_option maxHeartbeats 1600000 in
theorem p_addRule_first (b L A : Nat) (R : ByteArray) (f : Nat → Value) (w : World) (hB : Blk w b 758 f) (h0 : f 0 = .slice none 0 0) :
    Calls Tryd.prog 65 #[.pointer (some ⟨b, 0, none⟩), .agg #[.int .u8 L, .string R, .int .i64 A]] w fun e w' => e = .returned (.tuple #[]) ∧ Below b w w' ∧
      ∃ g c, w'.ownsRow (b + 1) 114 3 (.slice (some ⟨g, 0, none⟩) 1 c) 1 [.int .u8 L, .string R, .int .i64 A] ∧ Blk w' b 758 (addF (upd (upd f 1 (.int .u8 L)) 0 (.slice (some ⟨g, 0, none⟩) 1 c)) 2 L) := by
  obtain ⟨i0, hi0, hz0, hz1, hz2⟩ := info_parts Tryd.infoRule
  have c0 := (hB.cell 0 (by omega)).trans (by rw [h0])
  have c1 := hB.cell 1 (by omega)
  have z1 := hB.free 1
  have z0 := hB.free 0
  have lb := hB.lt
  have HB : Hid (Blk (w.setCell ⟨b, 1, none⟩ (.int .u8 L)) b 758 (upd f 1 (.int .u8 L))) := hB.setCell 1 _
  have zA : ∀ o, (w.alloc o).frozen? ⟨b, 1, none⟩ = false := fun o => (hB.alloc o).free 1
  clear hB h0
  go_enter Tryd.func65, Tryd.ntmps65
  go_wp2_with fail
  go_region_law
    ((refine step_append_lies _ (by rfl) _ _ _ (by rfl) (b + 1) 114 i0 _ 3 32 Tryd.underlying85 hi0 hz0 hz1 hz2 rfl (by omega) (.slice none 0 0) 0 [] (by rfl) (World.ownsRow_nil _ _ _ _)
        ⟨w.heap.size + 1, 0, none⟩ 1 1 [.int .u8 L, .string R, .int .i64 A] (by rfl) (by rfl) (World.news_of_block (cs := #[.int .u8 L, .string R, .int .i64 A]) (t := 114) (fr := (0, 0)) (by simpa using heap_new2 (w.setCell ⟨b, 1, none⟩ (.int .u8 L)) (.cells #[.int .u8 L, .string R, .int .i64 A] 114) (.cells #[.int .u8 L, .string R, .int .i64 A] 114))) (by simp [Value.oneCell'])
        (by omega) (by unfold maxLen; omega) (by omega) (by simp; omega) (w.heap.size + 2) (by simp) ?_; intro gg c1 w1 hown1 hgrow hat hlt
      have B1 : Blk w1 b 758 (upd f 1 (.int .u8 L)) := (((HB.out.alloc _).alloc _).drew).grown hgrow (by simp [Value.ownBlock])
      have d0 := B1.cell 0 (by omega)
      have e0 := B1.free 0
      have d1 : w1.cell? ⟨w.heap.size, 0, none⟩ = some (.int .u8 L) := (hgrow.cell_far ⟨w.heap.size, 0, none⟩ (by simp; omega) (by simp [Value.ownBlock])).trans (cell_new2 _ _ _ _ _ _ _ (by simp) rfl)
      have HB1 : Hid (Blk w1 b 758 (upd f 1 (.int .u8 L))) := B1
      clear B1))
  all_goals
    go_wp2_with fail
    have d2 : (w1.setCell ⟨b, 0, none⟩ (.slice (some ⟨gg, 0, none⟩) 1 c1)).cell? ⟨w.heap.size, 0, none⟩ = some (.int .u8 L) := by
      rw [World.cell?_setCell_other _ _ _ _ (by intro h; have := congrArg Addr.block h; simp at this; omega)]; exact d1
    have HB2 : Hid (Blk (w1.setCell ⟨b, 0, none⟩ (.slice (some ⟨gg, 0, none⟩) 1 c1)) b 758 (upd (upd f 1 (.int .u8 L)) 0 (.slice (some ⟨gg, 0, none⟩) 1 c1))) := HB1.out.setCell 0 _
    have HO2 : Hid ((w1.setCell ⟨b, 0, none⟩ (.slice (some ⟨gg, 0, none⟩) 1 c1)).ownsRow (b + 1) 114 3 (.slice (some ⟨gg, 0, none⟩) 1 c1) 1 [.int .u8 L, .string R, .int .i64 A]) := ownsRow_setCell_below hown1 (by simp) _
    have HW2 : Hid (Below b w (w1.setCell ⟨b, 0, none⟩ (.slice (some ⟨gg, 0, none⟩) 1 c1))) :=
      ((((((Below.refl b w).setCell (p := ⟨b, 1, none⟩) (by simp) (.int .u8 L)).alloc (by simp; omega) _).alloc (by simp; omega) _).drew).grown hgrow (by simp; omega) (fun k hk => by simp [Value.ownBlock] at hk)).setCell (by simp) _
    have lb2 : b < w1.heap.size := HB1.out.lt
    clear hgrow hown1 hat d0 e0 d1 HB HB1 c0 z0
    go_region_with (go_at_call 70; refine (p_add b 2 L 758 _ _ (by exact HB2.out.drew) (by omega)).mono ?_; rintro e w2 ⟨rfl, hf2⟩)
    go_end0
    exact ⟨rfl, HW2.out.trans (Below.trans (Below.drew (Below.refl _ _)) (hf2.1.belowOf (by simp) (by simp; omega))), gg, c1, ownsRow_fr HO2.out.drew hf2.1 (by simp), hf2.2.2⟩

end Go.Proofs.YtkglggkkbmmjkaaDoor

namespace Go.Proofs.YtkglggkkbmmjkaaDoor
open Go.RowKit

/-- a sign's code: the end first, then the small letters -/
def sgn (k : Nat) : Nat := if k = 0 then 36 else 96 + k
/-- a grammar's cells -/
def gF (v : Value) (st : Nat) (R N : Nat → Bool) (F : Nat → Nat → Bool) (e p : Int) : Nat → Value := fun i =>
  if i = 0 then v else if i = 1 then .int .u8 st else if i < 28 then .bool (R (65 + (i - 2))) else if i < 54 then .bool (N (65 + (i - 28)))
  else if i < 756 then .bool (F (65 + (i - 54) / 27) (sgn ((i - 54) % 27))) else if i = 756 then .int .i64 e else .int .i64 p

theorem gF_upd0 (v v' : Value) (st : Nat) (R N : Nat → Bool) (F : Nat → Nat → Bool) (e p : Int) (i : Nat) : upd (gF v st R N F e p) 0 v' i = gF v' st R N F e p i := by
  unfold upd gF
  by_cases h : i = 0
  · simp [h]
  · simp only [if_neg h]
theorem gF_upd1 (v : Value) (st L : Nat) (R N : Nat → Bool) (F : Nat → Nat → Bool) (e p : Int) (i : Nat) : upd (gF v st R N F e p) 1 (.int .u8 L) i = gF v L R N F e p i := by
  unfold upd gF
  by_cases h : i = 1
  · simp [h]
  · simp only [if_neg h]
theorem gF_add (v : Value) (st c : Nat) (R N : Nat → Bool) (F : Nat → Nat → Bool) (e p : Int) (i : Nat) : addF (gF v st R N F e p) 2 c i = gF v st (insB R c) N F e p i := by
  unfold addF
  by_cases hb : bigB c = true
  · have h := bigB_iff.1 hb
    rw [if_pos hb]
    unfold upd
    by_cases hi : i = 2 + (c - 65)
    · rw [if_pos hi]; subst hi
      unfold gF
      rw [if_neg (by omega), if_neg (by omega), if_pos (by omega)]
      simp [insB, hb]; right; omega
    · rw [if_neg hi]
      unfold gF
      by_cases h2 : i < 28
      · by_cases h0 : i = 0
        · simp [h0]
        · by_cases h1 : i = 1
          · simp [h1]
          · have hne : (65 + (i - 2) == c) = false := by simp; omega
            simp only [if_neg h0, if_neg h1, if_pos h2, insB, hne, Bool.and_false, Bool.or_false]
      · simp only [if_neg h2]
  · rw [if_neg hb]
    unfold gF insB
    simp [hb]
theorem gF_ref (v : Value) (st : Nat) (R N : Nat → Bool) (F : Nat → Nat → Bool) (e p e' p' : Int) (i : Nat) (hi : i < 758) : refF (gF v st R N F e p) e' p' i = gF v st R N F e' p' i := by
  unfold refF upd gF
  by_cases h7 : i = 757
  · subst h7; simp
  · by_cases h6 : i = 756
    · subst h6; simp
    · have h5 : i < 756 := by omega
      simp only [if_neg h7, if_neg h6, if_pos h5]

theorem gF_congr {v : Value} {st : Nat} {R R' N N' : Nat → Bool} {F F' : Nat → Nat → Bool} {e p : Int} (hR : ∀ c, bigB c = true → R c = R' c) (hN : ∀ c, bigB c = true → N c = N' c)
    (hF : ∀ c k, bigB c = true → k < 27 → F c (sgn k) = F' c (sgn k)) (i : Nat) : gF v st R N F e p i = gF v st R' N' F' e p i := by
  unfold gF
  by_cases h0 : i = 0
  · simp [h0]
  by_cases h1 : i = 1
  · simp [h1]
  by_cases h2 : i < 28
  · simp only [if_neg h0, if_neg h1, if_pos h2]; rw [hR _ (bigB_iff.2 (by omega))]
  by_cases h3 : i < 54
  · simp only [if_neg h0, if_neg h1, if_neg h2, if_pos h3]; rw [hN _ (bigB_iff.2 (by omega))]
  by_cases h4 : i < 756
  · simp only [if_neg h0, if_neg h1, if_neg h2, if_neg h3, if_pos h4]; rw [hF _ _ (bigB_iff.2 (by omega)) (by omega)]
  · simp only [if_neg h0, if_neg h1, if_neg h2, if_neg h3, if_neg h4]

def ruCells (rs : List Ru) : List Value := rs.flatMap fun r => [.int .u8 r.L, .string r.R, .int .i64 r.A]
def stOf (rs : List Ru) : Nat := (rs.head?.map Ru.L).getD 0
def rset (rs : List Ru) : Nat → Bool := fun c => rs.any fun r => r.L == c

theorem rset_snoc (rs : List Ru) (r : Ru) (c : Nat) (hL : bigB r.L = true) : insB (rset rs) r.L c = rset (rs ++ [r]) c := by
  simp only [insB, rset, List.any_append, List.any_cons, List.any_nil, Bool.or_false, hL, Bool.true_and]
  rw [show (c == r.L) = (r.L == c) from by rw [Bool.eq_iff_iff, beq_iff_eq, beq_iff_eq]; exact eq_comm]

theorem gF_upd0' (v v' : Value) (st : Nat) (R N : Nat → Bool) (F : Nat → Nat → Bool) (e p : Int) : upd (gF v st R N F e p) 0 v' = gF v' st R N F e p := funext fun i => gF_upd0 v v' st R N F e p i
theorem gF_upd1' (v : Value) (st L : Nat) (R N : Nat → Bool) (F : Nat → Nat → Bool) (e p : Int) : upd (gF v st R N F e p) 1 (.int .u8 L) = gF v L R N F e p := funext fun i => gF_upd1 v st L R N F e p i
theorem gF_add' (v : Value) (st c : Nat) (R N : Nat → Bool) (F : Nat → Nat → Bool) (e p : Int) : addF (gF v st R N F e p) 2 c = gF v st (insB R c) N F e p := funext fun i => gF_add v st c R N F e p i
theorem gF_zero (v : Value) (st : Nat) (R N : Nat → Bool) (F : Nat → Nat → Bool) (e p : Int) : gF v st R N F e p 0 = v := if_pos rfl
theorem stOf_snoc (acc : List Ru) (r : Ru) (h : acc.length ≠ 0) : stOf (acc ++ [r]) = stOf acc := by
  cases acc with
  | nil => simp at h
  | cons a l => rfl
theorem ruCells_snoc (acc : List Ru) (r : Ru) : ruCells (acc ++ [r]) = ruCells acc ++ [.int .u8 r.L, .string r.R, .int .i64 r.A] := by simp [ruCells]

/-- what readRules leaves -/
def RRPost (b : Nat) (t : ByteArray) (N : Nat → Bool) (F : Nat → Nat → Bool) (w w' : World) : Prop :=
  Below b w w' ∧ ∃ v, w'.ownsRow (b + 1) 114 3 v (parse t 8 0 []).1.length (ruCells (parse t 8 0 []).1) ∧
    Blk w' b 758 (gF v (stOf (parse t 8 0 []).1) (rset (parse t 8 0 []).1) N F (if (parse t 8 0 []).2.2 then 0 else 2) (if (parse t 8 0 []).2.2 then 0 else (parse t 8 0 []).2.1))

/-- the state of a reading -/
def RS (b : Nat) (N : Nat → Bool) (F : Nat → Nat → Bool) (w wr : World) (v : Value) (acc : List Ru) (e p : Int) : Prop :=
  Below b w wr ∧ Blk wr b 758 (gF v (stOf acc) (rset acc) N F e p) ∧ wr.ownsRow (b + 1) 114 3 v acc.length (ruCells acc) ∧ (acc.length = 0 → v = .slice none 0 0)

theorem RS.fr {b : Nat} {N : Nat → Bool} {F : Nat → Nat → Bool} {w w1 w2 : World} {v : Value} {acc : List Ru} {e p : Int} (h : RS b N F w w1 v acc e p) (k : Fr [] w1 w2) : RS b N F w w2 v acc e p :=
  ⟨h.1.trans (k.belowOf (by simp) (Nat.le_of_lt h.2.1.lt)), h.2.1.fr0 k, ownsRow_fr h.2.2.1 k (by simp), h.2.2.2⟩

/-- a refusal ends it -/
theorem RS.refused {b : Nat} {t : ByteArray} {N : Nat → Bool} {F : Nat → Nat → Bool} {w w1 w2 : World} {v : Value} {acc : List Ru} {k : Nat} {k' : Int} (h : RS b N F w w1 v acc 0 0)
    (hf : Fr [b] w1 w2) (hB : Blk w2 b 758 (refF (gF v (stOf acc) (rset acc) N F 0 0) 2 k')) (hk : k' = k) (hp : parse t 8 0 [] = (acc, k, false)) : RRPost b t N F w w2 := by
  subst hk
  refine ⟨h.1.trans (hf.belowOf (by simp) (Nat.le_of_lt h.2.1.lt)), v, ?_, ?_⟩
  · rw [hp]; exact ownsRow_fr h.2.2.1 hf (by simp)
  · rw [hp]; exact hB.congr fun i hi => gF_ref _ _ _ _ _ _ _ _ _ i hi
theorem RS.ended {b : Nat} {t : ByteArray} {N : Nat → Bool} {F : Nat → Nat → Bool} {w w1 : World} {v : Value} {acc : List Ru} {k : Nat} (h : RS b N F w w1 v acc 0 0)
    (hp : parse t 8 0 [] = (acc, k, true)) : RRPost b t N F w w1 := by
  refine ⟨h.1, v, ?_, ?_⟩
  · rw [hp]; exact h.2.2.1
  · rw [hp]; exact h.2.1

set_option maxHeartbeats 400000 in
/-- addRule, on the state. -/
theorem p_addRule (b : Nat) (N : Nat → Bool) (F : Nat → Nat → Bool) (w0 w : World) (v : Value) (acc : List Ru) (r : Ru) (hL : bigB r.L = true) (h : RS b N F w0 w v acc 0 0) (hn : acc.length ≤ 7) :
    Calls Tryd.prog 65 #[.pointer (some ⟨b, 0, none⟩), .agg #[.int .u8 r.L, .string r.R, .int .i64 r.A]] w fun e w' => e = .returned (.tuple #[]) ∧ ∃ v', RS b N F w0 w' v' (acc ++ [r]) 0 0 := by
  obtain ⟨h1, h2, h3, h4⟩ := h
  by_cases h0 : acc.length = 0
  · have hv := h4 h0
    have hacc : acc = [] := List.length_eq_zero_iff.1 h0
    subst hacc hv
    refine (p_addRule_first b r.L r.A r.R _ w h2 (gF_zero _ _ _ _ _ _ _)).mono ?_
    rintro e w' ⟨rfl, hb, g, c, ho, hB⟩
    rw [gF_upd1', gF_upd0', gF_add'] at hB
    refine ⟨rfl, .slice (some ⟨g, 0, none⟩) 1 c, h1.trans hb, hB.congr fun i _ => gF_congr (fun c _ => rset_snoc [] r c hL) (fun _ _ => rfl) (fun _ _ _ _ => rfl) i, ?_, fun h => by simp at h⟩
    rw [ruCells_snoc]; exact ho
  · obtain ⟨q, cap, rfl⟩ : ∃ q cap, v = .slice (some ⟨q, 0, none⟩) acc.length cap := by
      rcases h3.2 with ⟨_, hl⟩ | ⟨q, cap, _, hv, _⟩
      · exact absurd hl h0
      · exact ⟨q, cap, hv⟩
    refine (p_addRule_more b acc.length r.L r.A q cap r.R _ (ruCells acc) w h2 (gF_zero _ _ _ _ _ _ _) h3 (by omega) (by omega)).mono ?_
    rintro e w' ⟨rfl, hb, g, c, ho, hB⟩
    rw [gF_upd0', gF_add', ← stOf_snoc acc r h0] at hB
    refine ⟨rfl, .slice (some ⟨g, 0, none⟩) (acc.length + 1) c, h1.trans hb, hB.congr fun i _ => gF_congr (fun c _ => rset_snoc acc r c hL) (fun _ _ => rfl) (fun _ _ _ _ => rfl) i, ?_, fun h => by simp at h⟩
    rw [ruCells_snoc, List.length_append]; exact ho

end Go.Proofs.YtkglggkkbmmjkaaDoor
