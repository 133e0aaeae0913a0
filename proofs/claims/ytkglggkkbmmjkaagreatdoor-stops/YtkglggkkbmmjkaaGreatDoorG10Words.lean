import Derived.Test.YtkglggkkbmmjkaaGreatDoorG9Same
import Derived.Test.YtkglggkkbmmjkaaGreatDoorG8RRules
import Derived.OwnWalk
import Derived.Test.YtkglggkkbmmjkaaGreatDoorG6Script
namespace Go.Proofs.YtkglggkkbmmjkaaGreatDoor
open Go.RowKit

/-! Rounds over tables, column by column. -/

structure Stp where
  L : Nat
  B : Nat → (Nat → Bool) → Bool
def stepF (F : Nat → Nat → Bool) (s : Stp) : Nat → Nat → Bool := joinF F s.L (fun x => s.B x (fun c => F c x))
def jRound (l : List Stp) (F : Nat → Nat → Bool) : Nat → Nat → Bool := l.foldl stepF F
def colStep (x : Nat) (C : Nat → Bool) (s : Stp) : Nat → Bool := fun a => C a || (a == s.L && s.B x C)
def zb5 (l : List Stp) (x : Nat) (C : Nat → Bool) : Nat → Bool := l.foldl (colStep x) C
theorem jRound_col : ∀ (l : List Stp) (F : Nat → Nat → Bool) (c x : Nat), jRound l F c x = zb5 l x (fun c => F c x) c
  | [], _, _, _ => rfl
  | s :: l, F, c, x => by
    show jRound l (stepF F s) c x = zb5 l x (colStep x (fun c => F c x) s) c
    rw [jRound_col l]; rfl
theorem iterF_col (l : List Stp) (F0 : Nat → Nat → Bool) : ∀ (n c x : Nat), zbv (jRound l) n F0 c x = iter (zb5 l x) n (fun c => F0 c x) c
  | 0, _, _ => rfl
  | n + 1, c, x => by
    show jRound l (zbv (jRound l) n F0) c x = zb5 l x (iter (zb5 l x) n (fun c => F0 c x)) c
    rw [jRound_col, show (fun c => zbv (jRound l) n F0 c x) = iter (zb5 l x) n (fun c => F0 c x) from funext fun c => iterF_col l F0 n c x]
theorem col_inf (x : Nat) : ∀ (l : List Stp) (C : Nat → Bool) (a : Nat), C a = true → zb5 l x C a = true
  | [], _, _, h => h
  | s :: l, C, a, h => by
    refine col_inf x l (colStep x C s) a ?_
    unfold colStep; rw [h]; rfl
theorem col_new (rs : List Ru) (x : Nat) : ∀ (l : List Stp), (∀ s ∈ l, rset rs s.L = true) → ∀ (C : Nat → Bool) (a : Nat), C a = false → zb5 l x C a = true → rset rs a = true
  | [], _, C, a, h1, h2 => by
    have : C a = true := h2
    rw [h1] at this; cases this
  | s :: l, hl, C, a, h1, h2 => by
    have h2' : zb5 l x (colStep x C s) a = true := h2
    cases h3 : colStep x C s a
    · exact col_new rs x l (fun s hs => hl s (List.mem_cons_of_mem _ hs)) _ a h3 h2'
    · unfold colStep at h3
      rw [h1, Bool.false_or, Bool.and_eq_true, beq_iff_eq] at h3
      rw [h3.1]; exact hl s (List.mem_cons_self ..)
theorem j_fix (rs : List Ru) (l : List Stp) (hl : ∀ s ∈ l, rset rs s.L = true) (F0 : Nat → Nat → Bool) (c x : Nat) : zbv (jRound l) (rs.length + 1) F0 c x = zbv (jRound l) rs.length F0 c x := by
  rw [iterF_col, iterF_col]
  exact congrFun (fix_rounds rs (zb5 l x) (col_inf x l) (col_new rs x l hl) (fun c => F0 c x)) c
theorem iter_stay {f : (Nat → Bool) → (Nat → Bool)} {k : Nat} {S : Nat → Bool} (h : iter f (k + 1) S = iter f k S) : ∀ j, iter f (k + j) S = iter f k S
  | 0 => rfl
  | j + 1 => by
    show f (iter f (k + j) S) = iter f k S
    rw [iter_stay h j]; exact h
theorem j_stable (l : List Stp) (F0 : Nat → Nat → Bool) (k n : Nat) (hk : k ≤ n) (h : ∀ c x, x < 128 → zbv (jRound l) (k + 1) F0 c x = zbv (jRound l) k F0 c x) (c x : Nat) (hx : x < 128) :
    zbv (jRound l) (k + 1) F0 c x = zbv (jRound l) n F0 c x := by
  have hc : iter (zb5 l x) (k + 1) (fun c => F0 c x) = iter (zb5 l x) k (fun c => F0 c x) := funext fun c => by rw [← iterF_col, ← iterF_col]; exact h c x hx
  rw [iterF_col, iterF_col, hc, show n = k + (n - k) from by omega, iter_stay hc]

def Grew (F G : Nat → Nat → Bool) (v : Bool) : Prop := (∀ c x, F c x = true → G c x = true) ∧ (v = false → ∀ c x, x < 128 → G c x = F c x) ∧ (v = true → ∃ c x, x < 128 ∧ G c x = true ∧ F c x = false)
theorem Grew.start (F : Nat → Nat → Bool) : Grew F F false := ⟨fun _ _ h => h, fun _ _ _ _ => rfl, fun h => by cases h⟩
theorem Grew.join {F G : Nat → Nat → Bool} {v : Bool} (h : Grew F G v) (L : Nat) (B : Nat → Bool) : Grew F (joinF G L B) (v || anyNew (G L) B 128) := by
  refine ⟨fun c x hx => by unfold joinF; rw [h.1 c x hx]; rfl, fun hv c x hx => ?_, fun hv => ?_⟩
  · rw [Bool.or_eq_false_iff] at hv
    have h1 := h.2.1 hv.1 c x hx
    have h2 := List.any_eq_false.1 hv.2 x (List.mem_range.2 hx)
    unfold joinF
    by_cases e : c = L
    · subst e
      rw [← h1]
      cases hg : G c x
      · have : B x = false := by simpa [hg] using h2
        rw [this]; simp
      · simp
    · rw [h1]; simp [e]
  · rw [Bool.or_eq_true] at hv
    rcases hv with hv | hv
    · obtain ⟨c, x, hx, hg, hf⟩ := h.2.2 hv
      exact ⟨c, x, hx, by unfold joinF; rw [hg]; rfl, hf⟩
    · obtain ⟨x, hx, hb⟩ := List.any_eq_true.1 hv
      simp only [Bool.and_eq_true, Bool.not_eq_true'] at hb
      refine ⟨L, x, List.mem_range.1 hx, by unfold joinF; rw [hb.1]; simp, ?_⟩
      cases hf : F L x
      · rfl
      · rw [h.1 L x hf] at hb; cases hb.2

def Stand (l : List Stp) (F0 : Nat → Nat → Bool) (n k : Nat) (v : Bool) : Prop := (v = true → k ≤ n) ∧ (v = false → ∀ c x, x < 128 → zbv (jRound l) k F0 c x = zbv (jRound l) n F0 c x)
theorem Stand.start (l : List Stp) (F0 : Nat → Nat → Bool) (n : Nat) : Stand l F0 n 0 true := ⟨fun _ => Nat.zero_le _, fun h => by cases h⟩
theorem Stand.next {rs : List Ru} {l : List Stp} {F0 : Nat → Nat → Bool} {k : Nat} {v : Bool} (hl : ∀ s ∈ l, rset rs s.L = true) (h : Stand l F0 rs.length k true)
    (hg : Grew (zbv (jRound l) k F0) (zbv (jRound l) (k + 1) F0) v) : Stand l F0 rs.length (k + 1) v := by
  have hk := h.1 rfl
  refine ⟨fun hv => ?_, fun hv => j_stable l F0 k rs.length hk (hg.2.1 hv)⟩
  obtain ⟨c, x, hx, h1, h2⟩ := hg.2.2 hv
  rcases Nat.lt_or_ge k rs.length with hlt | hge
  · exact hlt
  · have e : k = rs.length := by omega
    subst e
    rw [j_fix rs l hl F0 c x, h2] at h1; cases h1

/-! First sets -/
def begc (N : Nat → Bool) (x : Nat) (C : Nat → Bool) : List Nat → Bool
  | [] => false
  | c :: l => if zah c then x == c else C c || (hasB N c && begc N x C l)
theorem beg_col (N : Nat → Bool) (F : Nat → Nat → Bool) (x : Nat) : ∀ l, beg N F l x = begc N x (fun c => F c x) l
  | [] => rfl
  | c :: l => by rw [beg, begc, beg_col N F x l]
def ffSteps (N : Nat → Bool) (rs : List Ru) : List Stp := rs.map fun r => ⟨r.L, fun x C => begc N x C (bytes r.R)⟩
theorem ffRound_eq (N : Nat → Bool) (rs : List Ru) : zav N rs = jRound (ffSteps N rs) := by
  funext F
  unfold zav jRound ffSteps
  rw [List.foldl_map]
  congr 1
  funext F r
  unfold stepF
  congr 1
  funext x
  exact beg_col N F x _
theorem ffSteps_in (N : Nat → Bool) (rs : List Ru) : ∀ s ∈ ffSteps N rs, rset rs s.L = true := fun s hs => by
  obtain ⟨r, hr, rfl⟩ := List.mem_map.1 hs
  exact rset_mem hr

theorem beg_small {N : Nat → Bool} {F : Nat → Nat → Bool} (hF : ∀ c x, F c x = true → zah x = true) : ∀ l x, beg N F l x = true → zah x = true
  | [], _, h => by cases h
  | c :: l, x, h => by
    rw [beg] at h
    split at h
    · have : x = c := by simpa using h
      subst this; assumption
    · rw [Bool.or_eq_true, Bool.and_eq_true] at h
      rcases h with h | h
      · exact hF c x h
      · exact beg_small hF l x h.2
theorem joinF_small {F : Nat → Nat → Bool} {L : Nat} {B : Nat → Bool} (hF : ∀ c x, F c x = true → zah x = true) (hB : ∀ x, B x = true → zah x = true) : ∀ c x, joinF F L B c x = true → zah x = true := fun c x h => by
  unfold joinF at h
  rw [Bool.or_eq_true, Bool.and_eq_true] at h
  rcases h with h | h
  · exact hF c x h
  · exact hB x h.2
theorem ffRound_small (N : Nat → Bool) : ∀ (rs : List Ru) (F : Nat → Nat → Bool), (∀ c x, F c x = true → zah x = true) → ∀ c x, zav N rs F c x = true → zah x = true
  | [], _, h => h
  | r :: rs, F, h => ffRound_small N rs (joinF F r.L (beg N F (bytes r.R))) (joinF_small h (beg_small h _))
theorem iterF_small (N : Nat → Bool) (rs : List Ru) : ∀ n c x, zbv (zav N rs) n (fun _ _ => false) c x = true → zah x = true
  | 0, _, _, h => by cases h
  | n + 1, c, x, h => ffRound_small N rs _ (iterF_small N rs n) c x h

/-! nulls -/
theorem van_eq0 {S : Nat → Bool} (h : Bigs S) (c : Nat) : vanB S false c = S c := by
  unfold vanB hasB
  cases h1 : S c
  · simp
  · simp [h c h1]
theorem mk_rn_fold (l : List Ru) (hl : ∀ r ∈ l, bigB r.L = true) : ∀ S, Bigs S → za7 false l S = zas l S ∧ Bigs (zas l S) := by
  induction l with
  | nil => exact fun S h => ⟨rfl, h⟩
  | cons r l ih =>
    intro S h
    have hr := hl r (List.mem_cons_self ..)
    have e : (bytes r.R).all (vanB S false) = (bytes r.R).all S := by
      rw [show vanB S false = S from funext (van_eq0 h)]
    show za7 false l (if (bytes r.R).all (vanB S false) then insB S r.L else S) = zas l (if (bytes r.R).all S then Go.Proofs.YtkglggkkbmmjkaaGreatDoor.ins S r.L else S) ∧ Bigs (zas l (if (bytes r.R).all S then Go.Proofs.YtkglggkkbmmjkaaGreatDoor.ins S r.L else S))
    rw [e, ins_insB hr]
    have hb : Bigs (if (bytes r.R).all S then Go.Proofs.YtkglggkkbmmjkaaGreatDoor.ins S r.L else S) := by
      split
      · exact h.ins hr
      · exact h
    exact ih (fun r hr => hl r (List.mem_cons_of_mem _ hr)) _ hb
theorem mk_rn_iter (rs : List Ru) (hl : ∀ r ∈ rs, bigB r.L = true) (S : Nat → Bool) (hS : Bigs S) : ∀ n, iter (za7 false rs) n S = iter (zas rs) n S ∧ Bigs (iter (zas rs) n S)
  | 0 => ⟨rfl, hS⟩
  | n + 1 => by
    obtain ⟨h1, h2⟩ := mk_rn_iter rs hl S hS n
    show za7 false rs (iter (za7 false rs) n S) = zas rs (iter (zas rs) n S) ∧ Bigs (zas rs (iter (zas rs) n S))
    rw [h1]; exact mk_rn_fold rs hl _ h2
theorem rn_inf (l : List Ru) : ∀ (S : Nat → Bool) (x : Nat), S x = true → zas l S x = true := by
  induction l with
  | nil => exact fun _ _ h => h
  | cons r l ih =>
    intro S x h
    show zas l (if (bytes r.R).all S then ins S r.L else S) x = true
    apply ih
    split
    · simp [ins, h]
    · exact h
theorem rn_new (l : List Ru) : ∀ (S : Nat → Bool) (x : Nat), S x = false → zas l S x = true → rset l x = true := by
  induction l with
  | nil => intro S x h1 h2; exact absurd h2 (by show ¬ S x = true; rw [h1]; simp)
  | cons r l ih =>
    intro S x h1 h2
    have h2' : zas l (if (bytes r.R).all S then ins S r.L else S) x = true := h2
    by_cases e : r.L = x
    · simp [rset, e]
    · have : rset l x = true := by
        refine ih _ x ?_ h2'
        split
        · simp only [ins, h1, Bool.false_or, beq_eq_false_iff_ne]; exact fun h => e h.symm
        · exact h1
      unfold rset at this ⊢
      rw [List.any_cons, this, Bool.or_true]
theorem nulls_eq (rs : List Ru) (hl : ∀ r ∈ rs, bigB r.L = true) : iter (zas rs) (rs.length + 1) (fun _ => false) = zay rs := by
  unfold zay
  rw [(mk_rn_iter rs hl _ (fun _ h => by cases h) rs.length).1]
  exact fix_rounds rs (zas rs) (rn_inf rs) (rn_new rs) _
theorem nulls_bigs (rs : List Ru) (hl : ∀ r ∈ rs, bigB r.L = true) : Bigs (zay rs) := by
  unfold zay
  rw [(mk_rn_iter rs hl _ (fun _ h => by cases h) rs.length).1]
  exact (mk_rn_iter rs hl _ (fun _ h => by cases h) rs.length).2

end Go.Proofs.YtkglggkkbmmjkaaGreatDoor

namespace Go.Proofs.YtkglggkkbmmjkaaGreatDoor
open Go.RowKit

theorem wpList_make_blk {P : Program} {ops : Array Oper} {rest : List Oper} {o : Oper} {a : Act} {w : World} {Q : Exit → Act → World → Prop} (hg : o.guard = none) (l c : Operand) (t : TypeId) (hop : o.op = Op.makeSlice t l c) (d : Option Tmp) (hd : o.dst = d)
    (e : TypeId) (i : TypeInfo) (z : Value) (h1 : P.underlying t = some (.slice e)) (h2 : P.info? e = some i) (h3 : i.zero = some z) (kl kc : IntKind) (n m : Nat) (hl : a.eval l = .int kl n) (hc : a.eval c = .int kc n) (hm : n * i.size = m)
    (b2 : i.bytes * n ≤ 281474976710656) (b3 : n ≤ 9223372036854775807) (g : Nat → Value) (hz : ∀ j, j < m → z.cells[j % z.cells.size]! = g j)
    (hK : ∀ w', Fr [] w w' → w'.heap.size = w.heap.size + 1 → Blk w' w.heap.size m g → wpList P ops Q rest (a.put d (.slice (some ⟨w.heap.size, 0, none⟩) n n)) w') : wpList P ops Q (o :: rest) a w := by
  subst hd
  refine wpList_plain hg fun K hK' => ?_
  have hb' : (i.bytes : Int) * (n : Int) ≤ 281474976710656 := by
    have h : ((i.bytes * n : Nat) : Int) ≤ 281474976710656 := by omega
    rwa [Int.natCast_mul] at h
  have hrun := run_make (P := P) w t e i z h1 h2 h3 kl kc n n (by omega) (Int.le_refl _) hb' (by omega)
  simp only [Int.toNat_natCast] at hrun
  rw [hm] at hrun
  unfold Oper.wp
  simp only [execOp, hop, hl, hc, Sem.run_bind, hrun, Result.andThen_ok, Sem.run_pure, Oper.upon]
  refine hK' _ _ (hK _ ((Fr.refl _ _).alloc _) (by simp) (Blk.newArr w _ e m g (size_madeCells _ _) fun j hj => ?_))
  rw [size_madeCells] at hj
  simp only [madeCells, Array.getElem_map, Array.getElem_range]
  exact hz j hj

theorem Tryz.infoSet : (Tryz.prog.info? 105).map (fun i => (i.zero, i.size, i.bytes)) = some (some (Agg 128 (sF fun _ => false)), 128, 128) := by kernel_rfl

theorem made_set (j : Nat) : (Agg 128 (sF fun _ => false)).cells[j % (Agg 128 (sF fun _ => false)).cells.size]! = tF (fun _ _ => false) j := by
  have hs : (Agg 128 (sF fun _ => false)).cells.size = 128 := by simp [Agg, Value.cells]
  rw [hs, getElem!_pos _ _ (by rw [hs]; exact Nat.mod_lt _ (by omega))]
  simp [Agg, Value.cells, sF, tF]

def FSt (w wr : World) (nb no fb q : Nat) (rs : List Ru) (N : Nat → Bool) (F : Nat → Nat → Bool) : Prop :=
  Fr [] w wr ∧ LAt wr q rs ∧ NAt wr nb no N ∧ Blk wr fb 3328 (tF F) ∧ w.heap.size ≤ fb ∧ nb < w.heap.size ∧ q < w.heap.size
theorem FSt.fr {w wr wr' : World} {nb no fb q : Nat} {rs : List Ru} {N : Nat → Bool} {F : Nat → Nat → Bool} (h : FSt w wr nb no fb q rs N F) (k : Fr [] wr wr') : FSt w wr' nb no fb q rs N F := by
  obtain ⟨h1, h2, h3, h4, h5⟩ := h
  exact ⟨h1.trans0 k, h2.fr0 k, h3.fr0 k, h4.fr0 k, h5⟩
theorem FSt.far {w wr wr' : World} {nb no fb q x : Nat} {rs : List Ru} {N : Nat → Bool} {F : Nat → Nat → Bool} (h : FSt w wr nb no fb q rs N F) (k : Fr [x] wr wr') (hx : w.heap.size ≤ x) (hx2 : fb ≠ x) : FSt w wr' nb no fb q rs N F := by
  obtain ⟨h1, h2, h3, h4, h5, h6, h7⟩ := h
  exact ⟨h1.trans1 k (Or.inr hx), h2.fr k (by simp; omega), h3.fr1 k (by omega), h4.fr1 k hx2, h5, h6, h7⟩
theorem FSt.put {w wr wr' : World} {nb no fb q : Nat} {rs : List Ru} {N : Nat → Bool} {F F' : Nat → Nat → Bool} (h : FSt w wr nb no fb q rs N F) (k : Fr [fb] wr wr') (hB : Blk wr' fb 3328 (tF F')) : FSt w wr' nb no fb q rs N F' := by
  obtain ⟨h1, h2, h3, h4, h5, h6, h7⟩ := h
  exact ⟨h1.trans1 k (Or.inr h5), h2.fr k (by simp; omega), h3.fr1 k (by omega), hB, h5, h6, h7⟩

def FiOut (rs : List Ru) (N : Nat → Bool) (w : World) (e : Ending) (w' : World) : Prop :=
  ∃ (fb : Nat) (T : Nat → Nat → Bool), e = .returned (.slice (some ⟨fb, 0, none⟩) 26 26) ∧ Fr [] w w' ∧ w.heap.size ≤ fb ∧ Blk w' fb 3328 (tF T) ∧ ∀ c x, x < 128 → T c x = zbv (zav N rs) rs.length (fun _ _ => false) c x

set_option maxRecDepth 100000 in
set_option maxHeartbeats 3200000 in
theorem r_firstsO (q cap nb no : Nat) (rs : List Ru) (N : Nat → Bool) (w : World) (h : LAt w q rs) (hN : NAt w nb no N) :
    Calls Tryz.prog 72 #[.slice (some ⟨q, 0, none⟩) rs.length cap, .pointer (some ⟨nb, no, none⟩)] w fun e' w' => FiOut rs N w e' w' := by
  obtain ⟨i0, hi0, hz0, hz1, hz2⟩ := info_parts Tryz.infoSet
  have H := hide h
  have HN := hide hN
  have hlen := h.len
  clear h hN
  go_enter Tryz.func72, Tryz.ntmps72
  go_wp2_with (refine wpList_make_blk rfl _ _ 117 rfl (some 10) rfl 105 i0 _ Tryz.underlying117 hi0 hz0 .i64 .i64 26 3328 rfl rfl (by rw [hz1]) (by rw [hz2]; omega) (by omega) (tF fun _ _ => false) (fun j _ => made_set j) ?_; intro w1 hf1 hs1 hB1; have HA := hide (And.intro hf1 hB1); clear hf1 hs1 hB1)
  have HS := hide (show FSt w w1 nb no w.heap.size q rs N (fun _ _ => false) from
    ⟨(zaa HA).1, (zaa H).fr0 (zaa HA).1, (zaa HN).fr0 (zaa HA).1, (zaa HA).2, Nat.le_refl _, (zaa HN).lt, (zaa H).lt⟩)
  clear HA H HN
  go_loopg [6] (rs.length + 2) (fun g v wr => ∃ (k : Nat) (mv : Bool), g + k = rs.length + 2 ∧ v = .bool mv ∧ Hid (Stand (ffSteps N rs) (fun _ _ => false) rs.length k mv) ∧ Hid (FSt w wr nb no w.heap.size q rs N (zbv (zav N rs) k fun _ _ => false)))
  case atStart => exact ⟨0, true, rfl, rfl, Stand.start _ _ _, HS⟩
  case round =>
    obtain ⟨k, mv, hg, rfl, hst, hs⟩ := hrel
    cases mv
    · go_wp2
      go_ret
      exact ⟨w.heap.size, _, rfl, (zaa hs).1, Nat.le_refl _, (zaa hs).2.2.2.1, fun c x hx => by rw [ffRound_eq]; exact (zaa hst).2 rfl c x hx⟩
    · have hk := (zaa hst).1 rfl
      go_wp2
      go_loopw [6, 7] (fun v i wr2 => ∃ (j : Nat) (mv : Bool), j ≤ rs.length ∧ v = .bool mv ∧ i = .int .i64 j ∧ Hid (Grew (zbv (zav N rs) k fun _ _ => false) (ffUpTo N rs j (zbv (zav N rs) k fun _ _ => false)) mv) ∧ Hid (FSt w wr2 nb no w.heap.size q rs N (ffUpTo N rs j (zbv (zav N rs) k fun _ _ => false)))) (fun _ i _ => rs.length - (intOf i).toNat)
      case atStart => exact ⟨0, false, by omega, rfl, rfl, Grew.start _, hs⟩
      case round =>
        obtain ⟨j, mv, hj, rfl, rfl, hgr, hs2⟩ := hrel
        by_cases hjt : j < rs.length
        · obtain ⟨a0, a1, a2⟩ := (zaa hs2).2.1.ru j hjt
          have hsm := ((zaa hs2).2.1.small j hjt).1
          have HOk := hide ((zaa hs2).2.1.ok j hjt)
          have hb := zam.1 (zaa HOk).1
          have e0 : (0 : Int) ≤ (rs[j].L : Int) - 65 := by omega
          have e1 : (rs[j].L : Int) - 65 < 26 := by omega
          have hoff : (rs[j].L - 65) * 128 + 128 ≤ 3328 := by omega
          have HU := hide (ffUpTo_succ N rs j (zbv (zav N rs) k fun _ _ => false) hjt)
          generalize hG : ffUpTo N rs j (zbv (zav N rs) k fun _ _ => false) = G at *
          have HJ := hide ((zaa hgr).join rs[j].L (beg N G (bytes rs[j].R)))
          obtain ⟨av, hav⟩ : ∃ av, anyNew (G rs[j].L) (beg N G (bytes rs[j].R)) 128 = av := ⟨_, rfl⟩
          have HAV := hide hav
          clear hav hG hgr
          cases mv
          · go_wp2_with (first
              | (go_at_call 73; refine (r_beginsO nb no w.heap.size 26 N G rs[j].R _ (by exact (zaa hs2).2.2.1) (by exact (zaa hs2).2.2.2.1) hsm (zaa HOk).2).mono ?_; rintro e w3 ⟨rfl, hf3⟩; have HS3 := hide ((zaa hs2).fr hf3); clear hf3)
              | (refine zab rfl 105 rfl (some 8) rfl 128 _ Tryz.zeroSet ?_; intro w4 hf4 hs4 hB4; have HS4 := hide ((zaa HS3).fr hf4); have HB4 := hide hB4; have HH4 := hide (And.intro (zaa HS3).1.size (And.intro (zaa HS3).2.2.2.1.lt hs4)); clear hf4 hs4 hB4)
              | (refine zac rfl 105 (.tmp 8) (.tmp 25) rfl w3.heap.size 0 128 128 (sF fun _ => false) (sF (beg N G (bytes rs[j].R))) rfl rfl (by exact zaa HB4) Tryz.sizeSet (by omega) (by intro i hi; rfl) ?_; intro w5 hf5 hs5 hB5; have HS5 := hide ((zaa HS4).far hf5 (zaa HH4).1 (by have := (zaa HH4).2.1; omega)); have HB5 := hide (hB5.congr (g := sF (beg N G (bytes rs[j].R))) fun i hi => zak _ _ _ i hi); obtain ⟨b0, b1, b2⟩ := (zaa HS5).2.1.ru j hjt; clear hf5 hs5 hB5)
              | (go_at_call 77; refine (r_join w.heap.size ((rs[j].L - 65) * 128) 3328 w3.heap.size 0 128 (tF G) (sF (beg N G (bytes rs[j].R))) (G rs[j].L) (beg N G (bytes rs[j].R)) _ (by exact (zaa HS5).2.2.2.1) hoff (fun i hi => tF_at G _ i (zaa HOk).1 hi) (by exact zaa HB5) (by omega) (fun i _ => by rw [Nat.zero_add]; rfl) (by have := (zaa HH4).2.1; omega)).mono ?_; rintro e w6 ⟨rfl, hf6, hs6, hB6⟩; rw [zaa HAV]; have HS6 := hide ((zaa HS5).put hf6 (hB6.congr fun i _ => tF_join G _ _ (zaa HOk).1 i)); clear hf6 hs6 hB6))
            go_roundw
            case rel => exact ⟨j + 1, av, by omega, rfl, by go_num, hide (by rw [zaa HU, ← zaa HAV]; exact zaa HJ), hide (by rw [zaa HU]; exact zaa HS6)⟩
            case measure => simp [intOf]; omega
          · go_wp2_with (first
              | (go_at_call 73; refine (r_beginsO nb no w.heap.size 26 N G rs[j].R _ (by exact (zaa hs2).2.2.1) (by exact (zaa hs2).2.2.2.1) hsm (zaa HOk).2).mono ?_; rintro e w3 ⟨rfl, hf3⟩; have HS3 := hide ((zaa hs2).fr hf3); clear hf3)
              | (refine zab rfl 105 rfl (some 8) rfl 128 _ Tryz.zeroSet ?_; intro w4 hf4 hs4 hB4; have HS4 := hide ((zaa HS3).fr hf4); have HB4 := hide hB4; have HH4 := hide (And.intro (zaa HS3).1.size (And.intro (zaa HS3).2.2.2.1.lt hs4)); clear hf4 hs4 hB4)
              | (refine zac rfl 105 (.tmp 8) (.tmp 25) rfl w3.heap.size 0 128 128 (sF fun _ => false) (sF (beg N G (bytes rs[j].R))) rfl rfl (by exact zaa HB4) Tryz.sizeSet (by omega) (by intro i hi; rfl) ?_; intro w5 hf5 hs5 hB5; have HS5 := hide ((zaa HS4).far hf5 (zaa HH4).1 (by have := (zaa HH4).2.1; omega)); have HB5 := hide (hB5.congr (g := sF (beg N G (bytes rs[j].R))) fun i hi => zak _ _ _ i hi); obtain ⟨b0, b1, b2⟩ := (zaa HS5).2.1.ru j hjt; clear hf5 hs5 hB5)
              | (go_at_call 77; refine (r_join w.heap.size ((rs[j].L - 65) * 128) 3328 w3.heap.size 0 128 (tF G) (sF (beg N G (bytes rs[j].R))) (G rs[j].L) (beg N G (bytes rs[j].R)) _ (by exact (zaa HS5).2.2.2.1) hoff (fun i hi => tF_at G _ i (zaa HOk).1 hi) (by exact zaa HB5) (by omega) (fun i _ => by rw [Nat.zero_add]; rfl) (by have := (zaa HH4).2.1; omega)).mono ?_; rintro e w6 ⟨rfl, hf6, hs6, hB6⟩; rw [zaa HAV]; have HS6 := hide ((zaa HS5).put hf6 (hB6.congr fun i _ => tF_join G _ _ (zaa HOk).1 i)); clear hf6 hs6 hB6))
            go_roundw
            case rel => exact ⟨j + 1, true, by omega, rfl, by go_num, hide (by rw [zaa HU]; exact zaa HJ), hide (by rw [zaa HU]; exact zaa HS6)⟩
            case measure => simp [intOf]; omega
        · have HE := hide (show ffUpTo N rs j (zbv (zav N rs) k fun _ _ => false) = zbv (zav N rs) (k + 1) fun _ _ => false from ffUpTo_all _ _ _ _ (by omega))
          have HN2 := hide (show Stand (ffSteps N rs) (fun _ _ => false) rs.length (k + 1) mv from by
            have h1 := zaa hgr
            rw [zaa HE, ffRound_eq] at h1
            exact Stand.next (ffSteps_in N rs) (zaa hst) h1)
          go_wp2
          go_roundg (rs.length + 2 - (k + 1))
          case measure => omega
          case rel => exact ⟨k + 1, mv, by omega, rfl, HN2, hide (by rw [← zaa HE]; exact zaa hs2)⟩

end Go.Proofs.YtkglggkkbmmjkaaGreatDoor

namespace Go.Proofs.YtkglggkkbmmjkaaGreatDoor
open Go.RowKit

theorem p_isSmall_is (c : Nat) (v : Bool) (w : World) (h : zah c = v) : Calls Tryz.prog 117 #[.int .u8 c] w fun e w' => e = .returned (.bool v) ∧ w' = w := by
  subst h; exact zbu c w

set_option maxHeartbeats 400000 in
theorem p_isNull (b q cap : Nat) (rs : List Ru) (N : Nat → Bool) (F : Nat → Nat → Bool) (e p : Int) (s : ByteArray) (w : World) (h : GAt w b q cap rs N F e p) (hs : s.size ≤ 1000) :
    Calls Tryz.prog 67 #[.pointer (some ⟨b, 0, none⟩), .string s] w fun e' w' => e' = .returned (.bool ((bytes s).all (vanB N false))) ∧ w' = w := by
  have H := hide h
  clear h
  go_enter Tryz.func67, Tryz.ntmps67
  go_wp2_with (go_at_call 113; refine (p_vanishes s b 28 N false _ hs (by exact (zaa H).null)).mono ?_; rintro e' w' ⟨rfl, rfl⟩)
  go_ret
  exact ⟨rfl, rfl⟩

end Go.Proofs.YtkglggkkbmmjkaaGreatDoor
