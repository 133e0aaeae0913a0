import Derived.Test.YtkglggkkbmmjkabGreatDoorG9Same
import Derived.Test.YtkglggkkbmmjkabGreatDoorG8RRules
import Derived.OwnWalk
import Derived.Test.YtkglggkkbmmjkabGreatDoorG6Script
namespace Go.Proofs.YtkglggkkbmmjkabGreatDoor
open Go.RowKit
/-! Rounds over tables, column by column. -/
structure Stp where
 L : Nat
 B : Nat → (Nat → Bool) → Bool
def stepF (F : Nat → Nat → Bool) (s : Stp) : Nat → Nat → Bool := zch F s.L (fun x => s.B x (fun c => F c x))
def zar (l : List Stp) (F : Nat → Nat → Bool) : Nat → Nat → Bool := l.foldl stepF F
def colStep (x : Nat) (C : Nat → Bool) (s : Stp) : Nat → Bool := fun a => C a || (a == s.L && s.B x C)
def zbb (l : List Stp) (x : Nat) (C : Nat → Bool) : Nat → Bool := l.foldl (colStep x) C
theorem jRound_col : ∀ (l : List Stp) (F : Nat → Nat → Bool) (c x : Nat), zar l F c x = zbb l x (fun c => F c x) c
 | [], _, _, _ => rfl
 | s :: l, F, c, x => by
  show zar l (stepF F s) c x = zbb l x (colStep x (fun c => F c x) s) c
  rw [jRound_col l]; rfl
theorem zcs (l : List Stp) (F0 : Nat → Nat → Bool) : ∀ (n c x : Nat), zbj (zar l) n F0 c x = iter (zbb l x) n (fun c => F0 c x) c
 | 0, _, _ => rfl
 | n + 1, c, x => by
  show zar l (zbj (zar l) n F0) c x = zbb l x (iter (zbb l x) n (fun c => F0 c x)) c
  rw [jRound_col, show (fun c => zbj (zar l) n F0 c x) = iter (zbb l x) n (fun c => F0 c x) from funext fun c => zcs l F0 n c x]
theorem col_inf (x : Nat) : ∀ (l : List Stp) (C : Nat → Bool) (a : Nat), C a = true → zbb l x C a = true
 | [], _, _, h => h
 | s :: l, C, a, h => by
  refine col_inf x l (colStep x C s) a ?_
  unfold colStep; rw [h]; rfl
theorem col_new (rs : List Ru) (x : Nat) : ∀ (l : List Stp), (∀ s ∈ l, rset rs s.L = true) → ∀ (C : Nat → Bool) (a : Nat), C a = false → zbb l x C a = true → rset rs a = true
 | [], _, C, a, h1, h2 => by
  have : C a = true := h2
  rw [h1] at this; cases this
 | s :: l, hl, C, a, h1, h2 => by
  have h2' : zbb l x (colStep x C s) a = true := h2
  cases h3 : colStep x C s a
  ·exact col_new rs x l (fun s hs => hl s (List.mem_cons_of_mem _ hs)) _ a h3 h2'
  ·unfold colStep at h3
   rw [h1, Bool.false_or, Bool.and_eq_true, beq_iff_eq] at h3
   rw [h3.1]; exact hl s (List.mem_cons_self ..)
theorem j_fix (rs : List Ru) (l : List Stp) (hl : ∀ s ∈ l, rset rs s.L = true) (F0 : Nat → Nat → Bool) (c x : Nat) : zbj (zar l) (rs.length + 1) F0 c x = zbj (zar l) rs.length F0 c x := by
 rw [zcs, zcs]
 exact congrFun (fix_rounds rs (zbb l x) (col_inf x l) (col_new rs x l hl) (fun c => F0 c x)) c
theorem iter_stay {f : (Nat → Bool) → (Nat → Bool)} {k : Nat} {S : Nat → Bool} (h : iter f (k + 1) S = iter f k S) : ∀ j, iter f (k + j) S = iter f k S
 | 0 => rfl
 | j + 1 => by
  show f (iter f (k + j) S) = iter f k S
  rw [iter_stay h j]; exact h
theorem j_stable (l : List Stp) (F0 : Nat → Nat → Bool) (k n : Nat) (hk : k ≤ n) (h : ∀ c x, x < 128 → zbj (zar l) (k + 1) F0 c x = zbj (zar l) k F0 c x) (c x : Nat) (hx : x < 128) :
 zbj (zar l) (k + 1) F0 c x = zbj (zar l) n F0 c x := by
 have hc : iter (zbb l x) (k + 1) (fun c => F0 c x) = iter (zbb l x) k (fun c => F0 c x) := funext fun c => by rw [← zcs, ← zcs]; exact h c x hx
 rw [zcs, zcs, hc, show n = k + (n - k) from by omega, iter_stay hc]
def Grew (F G : Nat → Nat → Bool) (v : Bool) : Prop := (∀ c x, F c x = true → G c x = true) ∧ (v = false → ∀ c x, x < 128 → G c x = F c x) ∧ (v = true → ∃ c x, x < 128 ∧ G c x = true ∧ F c x = false)
theorem Grew.start (F : Nat → Nat → Bool) : Grew F F false := ⟨fun _ _ h => h, fun _ _ _ _ => rfl, fun h => by cases h⟩
theorem Grew.join {F G : Nat → Nat → Bool} {v : Bool} (h : Grew F G v) (L : Nat) (B : Nat → Bool) : Grew F (zch G L B) (v || anyNew (G L) B 128) := by
 refine ⟨fun c x hx => by unfold zch; rw [h.1 c x hx]; rfl, fun hv c x hx => ?_, fun hv => ?_⟩
 ·rw [Bool.or_eq_false_iff] at hv
  have h1 := h.2.1 hv.1 c x hx
  have h2 := List.any_eq_false.1 hv.2 x (List.mem_range.2 hx)
  unfold zch
  by_cases e : c = L
  ·subst e
   rw [← h1]
   cases hg : G c x
   ·have : B x = false := by simpa [hg] using h2
    rw [this]; simp
   ·simp
  ·rw [h1]; simp [e]
 ·rw [Bool.or_eq_true] at hv
  rcases hv with hv | hv
  ·obtain ⟨c, x, hx, hg, hf⟩ := h.2.2 hv
   exact ⟨c, x, hx, by unfold zch; rw [hg]; rfl, hf⟩
  ·obtain ⟨x, hx, hb⟩ := List.any_eq_true.1 hv
   simp only [Bool.and_eq_true, Bool.not_eq_true'] at hb
   refine ⟨L, x, List.mem_range.1 hx, by unfold zch; rw [hb.1]; simp, ?_⟩
   cases hf : F L x
   ·rfl
   ·rw [h.1 L x hf] at hb; cases hb.2
def Stand (l : List Stp) (F0 : Nat → Nat → Bool) (n k : Nat) (v : Bool) : Prop := (v = true → k ≤ n) ∧ (v = false → ∀ c x, x < 128 → zbj (zar l) k F0 c x = zbj (zar l) n F0 c x)
theorem Stand.start (l : List Stp) (F0 : Nat → Nat → Bool) (n : Nat) : Stand l F0 n 0 true := ⟨fun _ => Nat.zero_le _, fun h => by cases h⟩
theorem Stand.next {rs : List Ru} {l : List Stp} {F0 : Nat → Nat → Bool} {k : Nat} {v : Bool} (hl : ∀ s ∈ l, rset rs s.L = true) (h : Stand l F0 rs.length k true)
 (hg : Grew (zbj (zar l) k F0) (zbj (zar l) (k + 1) F0) v) : Stand l F0 rs.length (k + 1) v := by
 have hk := h.1 rfl
 refine ⟨fun hv => ?_, fun hv => j_stable l F0 k rs.length hk (hg.2.1 hv)⟩
 obtain ⟨c, x, hx, h1, h2⟩ := hg.2.2 hv
 rcases Nat.lt_or_ge k rs.length with hlt | hge
 ·exact hlt
 ·have e : k = rs.length := by omega
  subst e
  rw [j_fix rs l hl F0 c x, h2] at h1; cases h1
/-! First sets -/
def begc (N : Nat → Bool) (x : Nat) (C : Nat → Bool) : List Nat → Bool
 | [] => false
 | c :: l => if zai c then x == c else C c || (hasB N c && begc N x C l)
theorem beg_col (N : Nat → Bool) (F : Nat → Nat → Bool) (x : Nat) : ∀ l, beg N F l x = begc N x (fun c => F c x) l
 | [] => rfl
 | c :: l => by rw [beg, begc, beg_col N F x l]
def ffSteps (N : Nat → Bool) (rs : List Ru) : List Stp := rs.map fun r => ⟨r.L, fun x C => begc N x C (bytes r.R)⟩
theorem ffRound_eq (N : Nat → Bool) (rs : List Ru) : za3 N rs = zar (ffSteps N rs) := by
 funext F
 unfold za3 zar ffSteps
 rw [List.foldl_map]
 congr 1
 funext F r
 unfold stepF
 congr 1
 funext x
 exact beg_col N F x _
theorem ffSteps_in (N : Nat → Bool) (rs : List Ru) : ∀ s ∈ ffSteps N rs, rset rs s.L = true := fun s hs => by
 obtain ⟨r, hr, rfl⟩ := List.mem_map.1 hs
 exact rset_mem hr
theorem beg_alike {N N' : Nat → Bool} {F F' : Nat → Nat → Bool} (hN : ∀ c, bigB c = true → N c = N' c) {x : Nat} (hF : ∀ c, F c x = F' c x) : ∀ l, beg N F l x = beg N' F' l x
 | [] => rfl
 | c :: l => by
  rw [beg, beg, beg_alike hN hF l, hF c]
  have : hasB N c = hasB N' c := by
   unfold hasB
   cases hb : bigB c
   ·rfl
   ·rw [hN c hb]
  rw [this]
theorem beg_small {N : Nat → Bool} {F : Nat → Nat → Bool} (hF : ∀ c x, F c x = true → zai x = true) : ∀ l x, beg N F l x = true → zai x = true
 | [], _, h => by cases h
 | c :: l, x, h => by
  rw [beg] at h
  split at h
  ·have : x = c := by simpa using h
   subst this; assumption
  ·rw [Bool.or_eq_true, Bool.and_eq_true] at h
   rcases h with h | h
   ·exact hF c x h
   ·exact beg_small hF l x h.2
theorem joinF_small {F : Nat → Nat → Bool} {L : Nat} {B : Nat → Bool} (hF : ∀ c x, F c x = true → zai x = true) (hB : ∀ x, B x = true → zai x = true) : ∀ c x, zch F L B c x = true → zai x = true := fun c x h => by
 unfold zch at h
 rw [Bool.or_eq_true, Bool.and_eq_true] at h
 rcases h with h | h
 ·exact hF c x h
 ·exact hB x h.2
theorem ffRound_small (N : Nat → Bool) : ∀ (rs : List Ru) (F : Nat → Nat → Bool), (∀ c x, F c x = true → zai x = true) → ∀ c x, za3 N rs F c x = true → zai x = true
 | [], _, h => h
 | r :: rs, F, h => ffRound_small N rs (zch F r.L (beg N F (bytes r.R))) (joinF_small h (beg_small h _))
theorem iterF_small (N : Nat → Bool) (rs : List Ru) : ∀ n c x, zbj (za3 N rs) n (fun _ _ => false) c x = true → zai x = true
 | 0, _, _, h => by cases h
 | n + 1, c, x, h => ffRound_small N rs _ (iterF_small N rs n) c x h
/-! nulls -/
theorem van_eq0 {S : Nat → Bool} (h : Bigs S) (c : Nat) : vanB S false c = S c := by
 unfold vanB hasB
 cases h1 : S c
 ·simp
 ·simp [h c h1]
theorem mk_rn_fold (l : List Ru) (hl : ∀ r ∈ l, bigB r.L = true) : ∀ S, Bigs S → zbe false l S = zay l S ∧ Bigs (zay l S) := by
 induction l with
 | nil => exact fun S h => ⟨rfl, h⟩
 | cons r l ih =>
  intro S h
  have hr := hl r (List.mem_cons_self ..)
  have e : (bytes r.R).all (vanB S false) = (bytes r.R).all S := by
   rw [show vanB S false = S from funext (van_eq0 h)]
  show zbe false l (if (bytes r.R).all (vanB S false) then insB S r.L else S) = zay l (if (bytes r.R).all S then Go.Proofs.YtkglggkkbmmjkabGreatDoor.ins S r.L else S) ∧ Bigs (zay l (if (bytes r.R).all S then Go.Proofs.YtkglggkkbmmjkabGreatDoor.ins S r.L else S))
  rw [e, ins_insB hr]
  have hb : Bigs (if (bytes r.R).all S then Go.Proofs.YtkglggkkbmmjkabGreatDoor.ins S r.L else S) := by
   split
   ·exact h.ins hr
   ·exact h
  exact ih (fun r hr => hl r (List.mem_cons_of_mem _ hr)) _ hb
theorem mk_rn_iter (rs : List Ru) (hl : ∀ r ∈ rs, bigB r.L = true) (S : Nat → Bool) (hS : Bigs S) : ∀ n, iter (zbe false rs) n S = iter (zay rs) n S ∧ Bigs (iter (zay rs) n S)
 | 0 => ⟨rfl, hS⟩
 | n + 1 => by
  obtain ⟨h1, h2⟩ := mk_rn_iter rs hl S hS n
  show zbe false rs (iter (zbe false rs) n S) = zay rs (iter (zay rs) n S) ∧ Bigs (zay rs (iter (zay rs) n S))
  rw [h1]; exact mk_rn_fold rs hl _ h2
theorem rn_inf (l : List Ru) : ∀ (S : Nat → Bool) (x : Nat), S x = true → zay l S x = true := by
 induction l with
 | nil => exact fun _ _ h => h
 | cons r l ih =>
  intro S x h
  show zay l (if (bytes r.R).all S then ins S r.L else S) x = true
  apply ih
  split
  ·simp [ins, h]
  ·exact h
theorem rn_new (l : List Ru) : ∀ (S : Nat → Bool) (x : Nat), S x = false → zay l S x = true → rset l x = true := by
 induction l with
 | nil => intro S x h1 h2; exact absurd h2 (by show ¬ S x = true; rw [h1]; simp)
 | cons r l ih =>
  intro S x h1 h2
  have h2' : zay l (if (bytes r.R).all S then ins S r.L else S) x = true := h2
  by_cases e : r.L = x
  ·simp [rset, e]
  ·have : rset l x = true := by
    refine ih _ x ?_ h2'
    split
    ·simp only [ins, h1, Bool.false_or, beq_eq_false_iff_ne]; exact fun h => e h.symm
    ·exact h1
   unfold rset at this ⊢
   rw [List.any_cons, this, Bool.or_true]
theorem nulls_eq (rs : List Ru) (hl : ∀ r ∈ rs, bigB r.L = true) : iter (zay rs) (rs.length + 1) (fun _ => false) = zan rs := by
 unfold zan
 rw [(mk_rn_iter rs hl _ (fun _ h => by cases h) rs.length).1]
 exact fix_rounds rs (zay rs) (rn_inf rs) (rn_new rs) _
theorem nulls_bigs (rs : List Ru) (hl : ∀ r ∈ rs, bigB r.L = true) : Bigs (zan rs) := by
 unfold zan
 rw [(mk_rn_iter rs hl _ (fun _ h => by cases h) rs.length).1]
 exact (mk_rn_iter rs hl _ (fun _ h => by cases h) rs.length).2
end Go.Proofs.YtkglggkkbmmjkabGreatDoor
namespace Go.Proofs.YtkglggkkbmmjkabGreatDoor
open Go.RowKit
theorem wpList_make_blk {P : Program} {ops : Array Oper} {rest : List Oper} {o : Oper} {a : Act} {w : World} {Q : Exit → Act → World → Prop} (hg : o.guard = none) (l c : Operand) (t : TypeId) (hop : o.op = Op.makeSlice t l c) (d : Option Tmp) (hd : o.dst = d)
 (e : TypeId) (i : TypeInfo) (z : Value) (h1 : P.underlying t = some (.slice e)) (h2 : P.info? e = some i) (h3 : i.zero = some z) (kl kc : IntKind) (n m : Nat) (hl : a.eval l = .int kl n) (hc : a.eval c = .int kc n) (hm : n * i.size = m)
 (b2 : i.bytes * n ≤ 281474976710656) (b3 : n ≤ 9223372036854775807) (g : Nat → Value) (hz : ∀ j, j < m → z.cells[j % z.cells.size]! = g j)
 (hK : ∀ w', Fr [] w w' → w'.heap.size = w.heap.size + 1 → Blk w' w.heap.size m g → wpList P ops Q rest (a.put d (.slice (some ⟨w.heap.size, 0, none⟩) n n)) w') : wpList P ops Q (o :: rest) a w := by
 subst hd
 refine wpList_plain hg fun K hK' => ?_
 have hb' : (i.bytes : Int) * (n : Int) ≤ 281474976710656 := by
  have h : ((i.bytes * n : Nat) : Int) ≤ 281474976710656 := by omega
  rwa [Int.natCast_mul] at h
 have hrun := run_make (P := P) w t e i z h1 h2 h3 kl kc n n (by omega) (Int.le_refl _) hb' (by omega)
 simp only [Int.toNat_natCast] at hrun
 rw [hm] at hrun
 unfold Oper.wp
 simp only [execOp, hop, hl, hc, Sem.run_bind, hrun, Result.andThen_ok, Sem.run_pure, Oper.upon]
 refine hK' _ _ (hK _ ((Fr.refl _ _).alloc _) (by simp) (Blk.newArr w _ e m g (size_madeCells _ _) fun j hj => ?_))
 rw [size_madeCells] at hj
 simp only [madeCells, Array.getElem_map, Array.getElem_range]
 exact hz j hj
theorem Tryz.infoSet : (Tryz.prog.info? 105).map (fun i => (i.zero, i.size, i.bytes)) = some (some (Agg 128 (sF fun _ => false)), 128, 128) := by kernel_rfl
theorem made_set (j : Nat) : (Agg 128 (sF fun _ => false)).cells[j % (Agg 128 (sF fun _ => false)).cells.size]! = tF (fun _ _ => false) j := by
 have hs : (Agg 128 (sF fun _ => false)).cells.size = 128 := by simp [Agg, Value.cells]
 rw [hs, getElem!_pos _ _ (by rw [hs]; exact Nat.mod_lt _ (by omega))]
 simp [Agg, Value.cells, sF, tF]
def FSt (w wr : World) (nb no fb q : Nat) (rs : List Ru) (N : Nat → Bool) (F : Nat → Nat → Bool) : Prop :=
 Fr [] w wr ∧ LAt wr q rs ∧ NAt wr nb no N ∧ Blk wr fb 3328 (tF F) ∧ w.heap.size ≤ fb ∧ nb < w.heap.size ∧ q < w.heap.size
theorem FSt.fr {w wr wr' : World} {nb no fb q : Nat} {rs : List Ru} {N : Nat → Bool} {F : Nat → Nat → Bool} (h : FSt w wr nb no fb q rs N F) (k : Fr [] wr wr') : FSt w wr' nb no fb q rs N F := by
 obtain ⟨h1, h2, h3, h4, h5⟩ := h
 exact ⟨h1.trans0 k, h2.fr0 k, h3.fr0 k, h4.fr0 k, h5⟩
theorem FSt.far {w wr wr' : World} {nb no fb q x : Nat} {rs : List Ru} {N : Nat → Bool} {F : Nat → Nat → Bool} (h : FSt w wr nb no fb q rs N F) (k : Fr [x] wr wr') (hx : w.heap.size ≤ x) (hx2 : fb ≠ x) : FSt w wr' nb no fb q rs N F := by
 obtain ⟨h1, h2, h3, h4, h5, h6, h7⟩ := h
 exact ⟨h1.trans1 k (Or.inr hx), h2.fr k (by simp; omega), h3.fr1 k (by omega), h4.fr1 k hx2, h5, h6, h7⟩
theorem FSt.put {w wr wr' : World} {nb no fb q : Nat} {rs : List Ru} {N : Nat → Bool} {F F' : Nat → Nat → Bool} (h : FSt w wr nb no fb q rs N F) (k : Fr [fb] wr wr') (hB : Blk wr' fb 3328 (tF F')) : FSt w wr' nb no fb q rs N F' := by
 obtain ⟨h1, h2, h3, h4, h5, h6, h7⟩ := h
 exact ⟨h1.trans1 k (Or.inr h5), h2.fr k (by simp; omega), h3.fr1 k (by omega), hB, h5, h6, h7⟩
def FiOut (rs : List Ru) (N : Nat → Bool) (w : World) (e : Ending) (w' : World) : Prop :=
 ∃ (fb : Nat) (T : Nat → Nat → Bool), e = .returned (.slice (some ⟨fb, 0, none⟩) 26 26) ∧ Fr [] w w' ∧ w.heap.size ≤ fb ∧ Blk w' fb 3328 (tF T) ∧ ∀ c x, x < 128 → T c x = zbj (za3 N rs) rs.length (fun _ _ => false) c x
set_option maxRecDepth 100000 in
set_option maxHeartbeats 3200000 in
theorem r_firstsO (q cap nb no : Nat) (rs : List Ru) (N : Nat → Bool) (w : World) (h : LAt w q rs) (hN : NAt w nb no N) :
 Calls Tryz.prog 65 #[.slice (some ⟨q, 0, none⟩) rs.length cap, .pointer (some ⟨nb, no, none⟩)] w fun e' w' => FiOut rs N w e' w' := by
 obtain ⟨i0, hi0, hz0, hz1, hz2⟩ := info_parts Tryz.infoSet
 have H := hide h
 have HN := hide hN
 have hlen := h.len
 clear h hN
 go_enter Tryz.func65, Tryz.ntmps65
 go_wp2_with (refine wpList_make_blk rfl _ _ 117 rfl (some 10) rfl 105 i0 _ Tryz.underlying117 hi0 hz0 .i64 .i64 26 3328 rfl rfl (by rw [hz1]) (by rw [hz2]; omega) (by omega) (tF fun _ _ => false) (fun j _ => made_set j) ?_; intro w1 hf1 hs1 hB1; have HA := hide (And.intro hf1 hB1); clear hf1 hs1 hB1)
 have HS := hide (show FSt w w1 nb no w.heap.size q rs N (fun _ _ => false) from
  ⟨(zaa HA).1, (zaa H).fr0 (zaa HA).1, (zaa HN).fr0 (zaa HA).1, (zaa HA).2, Nat.le_refl _, (zaa HN).lt, (zaa H).lt⟩)
 clear HA H HN
 go_loopg [6] (rs.length + 2) (fun g v wr => ∃ (k : Nat) (mv : Bool), g + k = rs.length + 2 ∧ v = .bool mv ∧ Hid (Stand (ffSteps N rs) (fun _ _ => false) rs.length k mv) ∧ Hid (FSt w wr nb no w.heap.size q rs N (zbj (za3 N rs) k fun _ _ => false)))
 case atStart => exact ⟨0, true, rfl, rfl, Stand.start _ _ _, HS⟩
 case round =>
  obtain ⟨k, mv, hg, rfl, hst, hs⟩ := hrel
  cases mv
  ·go_wp2
   go_ret
   exact ⟨w.heap.size, _, rfl, (zaa hs).1, Nat.le_refl _, (zaa hs).2.2.2.1, fun c x hx => by rw [ffRound_eq]; exact (zaa hst).2 rfl c x hx⟩
  ·have hk := (zaa hst).1 rfl
   go_wp2
   go_loopw [6, 7] (fun v i wr2 => ∃ (j : Nat) (mv : Bool), j ≤ rs.length ∧ v = .bool mv ∧ i = .int .i64 j ∧ Hid (Grew (zbj (za3 N rs) k fun _ _ => false) (ffUpTo N rs j (zbj (za3 N rs) k fun _ _ => false)) mv) ∧ Hid (FSt w wr2 nb no w.heap.size q rs N (ffUpTo N rs j (zbj (za3 N rs) k fun _ _ => false)))) (fun _ i _ => rs.length - (intOf i).toNat)
   case atStart => exact ⟨0, false, by omega, rfl, rfl, Grew.start _, hs⟩
   case round =>
    obtain ⟨j, mv, hj, rfl, rfl, hgr, hs2⟩ := hrel
    by_cases hjt : j < rs.length
    ·obtain ⟨a0, a1, a2⟩ := (zaa hs2).2.1.ru j hjt
     have hsm := ((zaa hs2).2.1.small j hjt).1
     have HOk := hide ((zaa hs2).2.1.ok j hjt)
     have hb := zao.1 (zaa HOk).1
     have e0 : (0 : Int) ≤ (rs[j].L : Int) - 65 := by omega
     have e1 : (rs[j].L : Int) - 65 < 26 := by omega
     have hoff : (rs[j].L - 65) * 128 + 128 ≤ 3328 := by omega
     have HU := hide (ffUpTo_succ N rs j (zbj (za3 N rs) k fun _ _ => false) hjt)
     generalize hG : ffUpTo N rs j (zbj (za3 N rs) k fun _ _ => false) = G at *
     have HJ := hide ((zaa hgr).join rs[j].L (beg N G (bytes rs[j].R)))
     obtain ⟨av, hav⟩ : ∃ av, anyNew (G rs[j].L) (beg N G (bytes rs[j].R)) 128 = av := ⟨_, rfl⟩
     have HAV := hide hav
     clear hav hG hgr
     cases mv
     ·go_wp2_with (first
       | (go_at_call 66; refine (r_beginsO nb no w.heap.size 26 N G rs[j].R _ (by exact (zaa hs2).2.2.1) (by exact (zaa hs2).2.2.2.1) hsm (zaa HOk).2).mono ?_; rintro e w3 ⟨rfl, hf3⟩; have HS3 := hide ((zaa hs2).fr hf3); clear hf3)
       | (refine zab rfl 105 rfl (some 8) rfl 128 _ Tryz.zeroSet ?_; intro w4 hf4 hs4 hB4; have HS4 := hide ((zaa HS3).fr hf4); have HB4 := hide hB4; have HH4 := hide (And.intro (zaa HS3).1.size (And.intro (zaa HS3).2.2.2.1.lt hs4)); clear hf4 hs4 hB4)
       | (refine zac rfl 105 (.tmp 8) (.tmp 25) rfl w3.heap.size 0 128 128 (sF fun _ => false) (sF (beg N G (bytes rs[j].R))) rfl rfl (by exact zaa HB4) Tryz.sizeSet (by omega) (by intro i hi; rfl) ?_; intro w5 hf5 hs5 hB5; have HS5 := hide ((zaa HS4).far hf5 (zaa HH4).1 (by have := (zaa HH4).2.1; omega)); have HB5 := hide (hB5.congr (g := sF (beg N G (bytes rs[j].R))) fun i hi => zag _ _ _ i hi); obtain ⟨b0, b1, b2⟩ := (zaa HS5).2.1.ru j hjt; clear hf5 hs5 hB5)
       | (go_at_call 70; refine (r_join w.heap.size ((rs[j].L - 65) * 128) 3328 w3.heap.size 0 128 (tF G) (sF (beg N G (bytes rs[j].R))) (G rs[j].L) (beg N G (bytes rs[j].R)) _ (by exact (zaa HS5).2.2.2.1) hoff (fun i hi => tF_at G _ i (zaa HOk).1 hi) (by exact zaa HB5) (by omega) (fun i _ => by rw [Nat.zero_add]; rfl) (by have := (zaa HH4).2.1; omega)).mono ?_; rintro e w6 ⟨rfl, hf6, hs6, hB6⟩; rw [zaa HAV]; have HS6 := hide ((zaa HS5).put hf6 (hB6.congr fun i _ => tF_join G _ _ (zaa HOk).1 i)); clear hf6 hs6 hB6))
      go_roundw
      case rel => exact ⟨j + 1, av, by omega, rfl, by go_num, hide (by rw [zaa HU, ← zaa HAV]; exact zaa HJ), hide (by rw [zaa HU]; exact zaa HS6)⟩
      case measure => simp [intOf]; omega
     ·go_wp2_with (first
       | (go_at_call 66; refine (r_beginsO nb no w.heap.size 26 N G rs[j].R _ (by exact (zaa hs2).2.2.1) (by exact (zaa hs2).2.2.2.1) hsm (zaa HOk).2).mono ?_; rintro e w3 ⟨rfl, hf3⟩; have HS3 := hide ((zaa hs2).fr hf3); clear hf3)
       | (refine zab rfl 105 rfl (some 8) rfl 128 _ Tryz.zeroSet ?_; intro w4 hf4 hs4 hB4; have HS4 := hide ((zaa HS3).fr hf4); have HB4 := hide hB4; have HH4 := hide (And.intro (zaa HS3).1.size (And.intro (zaa HS3).2.2.2.1.lt hs4)); clear hf4 hs4 hB4)
       | (refine zac rfl 105 (.tmp 8) (.tmp 25) rfl w3.heap.size 0 128 128 (sF fun _ => false) (sF (beg N G (bytes rs[j].R))) rfl rfl (by exact zaa HB4) Tryz.sizeSet (by omega) (by intro i hi; rfl) ?_; intro w5 hf5 hs5 hB5; have HS5 := hide ((zaa HS4).far hf5 (zaa HH4).1 (by have := (zaa HH4).2.1; omega)); have HB5 := hide (hB5.congr (g := sF (beg N G (bytes rs[j].R))) fun i hi => zag _ _ _ i hi); obtain ⟨b0, b1, b2⟩ := (zaa HS5).2.1.ru j hjt; clear hf5 hs5 hB5)
       | (go_at_call 70; refine (r_join w.heap.size ((rs[j].L - 65) * 128) 3328 w3.heap.size 0 128 (tF G) (sF (beg N G (bytes rs[j].R))) (G rs[j].L) (beg N G (bytes rs[j].R)) _ (by exact (zaa HS5).2.2.2.1) hoff (fun i hi => tF_at G _ i (zaa HOk).1 hi) (by exact zaa HB5) (by omega) (fun i _ => by rw [Nat.zero_add]; rfl) (by have := (zaa HH4).2.1; omega)).mono ?_; rintro e w6 ⟨rfl, hf6, hs6, hB6⟩; rw [zaa HAV]; have HS6 := hide ((zaa HS5).put hf6 (hB6.congr fun i _ => tF_join G _ _ (zaa HOk).1 i)); clear hf6 hs6 hB6))
      go_roundw
      case rel => exact ⟨j + 1, true, by omega, rfl, by go_num, hide (by rw [zaa HU]; exact zaa HJ), hide (by rw [zaa HU]; exact zaa HS6)⟩
      case measure => simp [intOf]; omega
    ·have HE := hide (show ffUpTo N rs j (zbj (za3 N rs) k fun _ _ => false) = zbj (za3 N rs) (k + 1) fun _ _ => false from ffUpTo_all _ _ _ _ (by omega))
     have HN2 := hide (show Stand (ffSteps N rs) (fun _ _ => false) rs.length (k + 1) mv from by
      have h1 := zaa hgr
      rw [zaa HE, ffRound_eq] at h1
      exact Stand.next (ffSteps_in N rs) (zaa hst) h1)
     go_wp2
     go_roundg (rs.length + 2 - (k + 1))
     case measure => omega
     case rel => exact ⟨k + 1, mv, by omega, rfl, HN2, hide (by rw [← zaa HE]; exact zaa hs2)⟩
theorem r_firsts (q cap nb : Nat) (rs : List Ru) (N : Nat → Bool) (w : World) (h : LAt w q rs) (hN : Blk w nb 128 (sF N)) :
 Calls Tryz.prog 65 #[.slice (some ⟨q, 0, none⟩) rs.length cap, .pointer (some ⟨nb, 0, none⟩)] w fun e' w' => FiOut rs N w e' w' := r_firstsO q cap nb 0 rs N w h (NAt.of_set hN)
end Go.Proofs.YtkglggkkbmmjkabGreatDoor
namespace Go.Proofs.YtkglggkkbmmjkabGreatDoor
open Go.RowKit
def wordB (rs : List Ru) (c : Nat) : Bool := zai c || hasB (rset rs) c
theorem p_isSmall_is (c : Nat) (v : Bool) (w : World) (h : zai c = v) : Calls Tryz.prog 110 #[.int .u8 c] w fun e w' => e = .returned (.bool v) ∧ w' = w := by
 subst h; exact zb4 c w
set_option maxHeartbeats 1000000 in
theorem p_isWord (b q cap : Nat) (rs : List Ru) (N : Nat → Bool) (F : Nat → Nat → Bool) (e p : Int) (s : ByteArray) (w : World) (h : GAt w b q cap rs N F e p) (hs : s.size ≤ 1000) :
 Calls Tryz.prog 109 #[.pointer (some ⟨b, 0, none⟩), .string s] w fun e' w' => e' = .returned (.bool ((bytes s).all (wordB rs))) ∧ Fr [] w w' := by
 have H := hide h
 clear h
 go_enter Tryz.func109, Tryz.ntmps109
 go_wp2
 go_loopw [5] (fun i wr => ∃ k : Nat, k ≤ s.size ∧ i = .int .i64 k ∧ Hid (((bytes s).take k).all (wordB rs) = true) ∧ Hid (Fr [] w wr)) (fun i _ => s.size - (intOf i).toNat)
 case atStart => exact ⟨0, by omega, rfl, rfl, Fr.refl _ _⟩
 case round =>
  obtain ⟨k, hk, rfl, hd, hf⟩ := hrel
  by_cases hlt : k < s.size
  ·have hch := hide (za8 s k hlt)
   have HM := hide (show ((bytes s).take (k + 1)).all (wordB rs) = wordB rs s[k].toNat from by
    rw [zb1 s k hlt, List.all_append, zaa hd, zaa hch]; simp)
   have HSet := hide ((zaa H).fr0 (zaa hf)).ruled
   clear hd
   cases h1 : zai s[k].toNat
   ·cases h2 : hasB (rset rs) s[k].toNat
    ·have HE := hide (show (bytes s).all (wordB rs) = false from by
      rw [← List.take_append_drop (k + 1) (bytes s), List.all_append, zaa HM]; simp [wordB, h1, h2])
     clear HM
     go_wp2
     go_quiet ((first | (go_at_call 110; exact Calls.quiet_of_same (p_isSmall_is _ false _ h1)) | (go_at_call 103; exact Calls.quiet_of_same (p_has_is _ _ _ _ false _ (by exact zaa HSet) h2))))
     go_wp2
     go_ret
     exact ⟨zap (a := false) (zaa HE).symm, (zaa hf).trans0 (zal _ _)⟩
    ·have HN := hide (show ((bytes s).take (k + 1)).all (wordB rs) = true from (zaa HM).trans (by simp [wordB, h2]))
     clear HM
     go_wp2
     go_quiet ((first | (go_at_call 110; exact Calls.quiet_of_same (p_isSmall_is _ false _ h1)) | (go_at_call 103; exact Calls.quiet_of_same (p_has_is _ _ _ _ true _ (by exact zaa HSet) h2))))
     go_wp2
     go_roundw
     case rel => exact ⟨k + 1, by omega, by go_num, HN, (zaa hf).trans0 (zal _ _)⟩
     case measure => simp [intOf]; omega
   ·have HN := hide (show ((bytes s).take (k + 1)).all (wordB rs) = true from (zaa HM).trans (by simp [wordB, h1]))
    clear HM
    go_wp2
    go_quiet ((go_at_call 110; exact Calls.quiet_of_same (p_isSmall_is _ true _ h1)))
    go_wp2
    go_roundw
    case rel => exact ⟨k + 1, by omega, by go_num, HN, (zaa hf).trans0 (zal _ _)⟩
    case measure => simp [intOf]; omega
  ·have HE := hide (show (bytes s).all (wordB rs) = true from by rw [← za2 s k (by omega)]; exact zaa hd)
   go_wp2
   go_ret
   exact ⟨zap (a := true) (zaa HE).symm, zaa hf⟩
set_option maxHeartbeats 400000 in
theorem p_isNull (b q cap : Nat) (rs : List Ru) (N : Nat → Bool) (F : Nat → Nat → Bool) (e p : Int) (s : ByteArray) (w : World) (h : GAt w b q cap rs N F e p) (hs : s.size ≤ 1000) :
 Calls Tryz.prog 60 #[.pointer (some ⟨b, 0, none⟩), .string s] w fun e' w' => e' = .returned (.bool ((bytes s).all (vanB N false))) ∧ w' = w := by
 have H := hide h
 clear h
 go_enter Tryz.func60, Tryz.ntmps60
 go_wp2_with (go_at_call 106; refine (p_vanishes s b 28 N false _ hs (by exact (zaa H).null)).mono ?_; rintro e' w' ⟨rfl, rfl⟩)
 go_ret
 exact ⟨rfl, rfl⟩
def wErr (t s : ByteArray) : Nat := if 12 < s.size then 1 else if (gErr t).1 ≠ 0 then (gErr t).1 else if (bytes s).all (wordB (zad t 8 0 []).1) then 0 else 5
def WordOut (t s : ByteArray) (w w' : World) (f : Nat → Value) : Prop :=
 Fr [] w w' ∧ oneB f 758 ∧ f 756 = .int .i64 (wErr t s) ∧
 (wErr t s = 0 → s.size ≤ 12 ∧ t.size ≤ 32 ∧ (gErr t).1 = 0 ∧ (zad t 8 0 []).2.2 = true ∧ (bytes s).all (wordB (zad t 8 0 []).1) = true ∧ ∃ q cap, f = gF (.slice (some ⟨q, 0, none⟩) (zad t 8 0 []).1.length cap) (stOf (zad t 8 0 []).1) (rset (zad t 8 0 []).1) (zan (zad t 8 0 []).1) (zau (zad t 8 0 []).1) 0 0 ∧
   RuAt w' q (zad t 8 0 []).1 ∧ w.heap.size ≤ q ∧ q < w'.heap.size)
set_option maxHeartbeats 1600000 in
theorem p_readWithWord_long (t s : ByteArray) (w : World) (hs : 12 < s.size) (hm : s.size ≤ 9223372036854775807) :
 Calls Tryz.prog 59 #[.string t, .string s] w fun e w' => ∃ f, e = .returned (Agg 758 f) ∧ WordOut t s w w' f := by
 have HG := hide (show wErr t s = 1 from by unfold wErr; rw [if_pos hs])
 go_enter Tryz.func59, Tryz.ntmps59
 go_wp2_with (first
  | (refine zab rfl 53 rfl (some 4) rfl 758 _ Tryz.zeroGram ?_; intro w1 hf1 hs1 hB1; have HF1 := hide hf1; have HB1 := hide hB1; clear hf1 hs1 hB1)
  | (refine zab rfl 53 rfl (some 5) rfl 758 _ Tryz.zeroGram ?_; intro w2 hf2 hs2 hB2; have HF2 := hide hf2; have HB2 := hide hB2; have HR2 := hide ((zaa HB1).fr0 hf2); clear hf2 hs2 hB2)
  | (go_at_call 48; refine (zcn w1.heap.size 1 0 _ _ (by exact zaa HB2)).mono ?_; rintro e w3 ⟨rfl, hf3⟩; have HF3 := hide hf3.1; have HB3 := hide (hf3.2.2.congr fun i hi => gF_ref _ _ _ _ _ _ _ _ _ i hi); have HR3 := hide ((zaa HR2).fr1 hf3.1 (by have := (zaa HB1).lt; omega)); clear hf3)
  | (refine zaf rfl 53 (.tmp 5) rfl (some 11) rfl w1.heap.size 0 758 758 (gF (.slice none 0 0) 0 (fun _ => false) (fun _ => false) (fun _ _ => false) 1 0) _ rfl (by exact zaa HB3) Tryz.underlying53 rfl Tryz.sizeGram (by omega) ?_)
  | (refine zac rfl 53 (.tmp 4) (.tmp 11) rfl w.heap.size 0 758 758 (gF (.slice none 0 0) 0 (fun _ => false) (fun _ => false) (fun _ _ => false) 0 0) (fun i => gF (.slice none 0 0) 0 (fun _ => false) (fun _ => false) (fun _ _ => false) 1 0 (0 + i)) rfl rfl (by exact zaa HR3) Tryz.sizeGram (by omega) (by intro i hi; exact zb3 _ rfl _ _ _ _ _ _ _ (by omega)) ?_; intro w9 hf9 hs9 hB9))
 have hfin : Blk w9 w.heap.size 758 (gF (.slice none 0 0) 0 (fun _ => false) (fun _ => false) (fun _ _ => false) 1 0) := hB9.congr fun i hi => by rw [zag _ _ _ _ hi, Nat.zero_add]
 refine bodyPost_ret (zaj Tryz.results59 _ w.heap.size rfl 758 758 _ _ hfin Tryz.underlying53 rfl Tryz.sizeGram (by omega)) rfl ⟨_, rfl, ?_⟩
 refine ⟨(((zaa HF1).trans0 (zaa HF2)).trans1 (zaa HF3) (Or.inr (zaa HF1).size)).trans1 hf9 (Or.inr (Nat.le_refl _)), zb3 _ rfl _ _ _ _ _ _, ?_, ?_⟩
 ·rw [zct, zaa HG]; rfl
 ·rw [zaa HG]; intro h; cases h
set_option maxHeartbeats 1600000 in
theorem p_readWithWord_short (t s : ByteArray) (w : World) (hs : s.size ≤ 12) (hm : t.size ≤ 9223372036854775807) :
 Calls Tryz.prog 59 #[.string t, .string s] w fun e w' => ∃ f, e = .returned (Agg 758 f) ∧ WordOut t s w w' f := by
 by_cases h0 : (gErr t).1 = 0
 ·cases hw : (bytes s).all (wordB (zad t 8 0 []).1)
  ·have HW := hide (show wErr t s = 5 from by unfold wErr; rw [if_neg (by omega), if_neg (by rw [h0]; simp), hw]; rfl)
   have H0 := hide h0
   have HWd := hide hw
   clear h0 hw
   go_enter Tryz.func59, Tryz.ntmps59
   go_wp2_with (first
    | (refine zab rfl 53 rfl (some 4) rfl 758 _ Tryz.zeroGram ?_; intro w1 hf1 hs1 hB1; have HF1 := hide hf1; have HB1 := hide hB1; clear hf1 hs1 hB1)
    | (go_at_call 16; refine (zcd t _ hm).mono ?_; rintro e w2 ⟨f, rfl, hg⟩; obtain ⟨q, cap, hfq, hru, hq1, hq2⟩ := (hg.2.2.2.2 (zaa H0)).2.2; have HG := hide hg; have HR2 := hide ((zaa HB1).fr0 hg.1); have HFQ := hide hfq; have HRU := hide hru; have HQ2 := hide hq2; have HQ1 := hide hq1; have HT := hide (hg.2.2.2.2 (zaa H0)).1; clear hg hfq hru hq1 hq2)
    | (refine zab rfl 53 rfl (some 6) rfl 758 _ Tryz.zeroGram ?_; intro w3 hf3 hs3 hB3; have HF3 := hide hf3; have HB3 := hide hB3; have HR3 := hide ((zaa HR2).fr0 hf3); clear hf3 hs3 hB3)
    | (refine zac rfl 53 (.tmp 6) (.tmp 13) rfl w2.heap.size 0 758 758 (gF (.slice none 0 0) 0 (fun _ => false) (fun _ => false) (fun _ _ => false) 0 0) f rfl rfl (by exact zaa HB3) Tryz.sizeGram (by omega) (by exact (zaa HG).2.1) ?_; intro w4 hf4 hs4 hB4; have HF4 := hide hf4; have HR4 := hide ((zaa HR3).fr1 hf4 (by have := (zaa HR2).lt; omega)); have HG4 := hide (show GAt w4 w2.heap.size q cap (zad t 8 0 []).1 (zan (zad t 8 0 []).1) (zau (zad t 8 0 []).1) 0 0 from ⟨by rw [← zaa HFQ]; exact hB4.congr fun i hi => zag _ _ _ i hi, ((zaa HRU).fr (zaa HF3) (by simp) (zaa HQ2)).fr hf4 (by have := zaa HQ2; simp; omega) (by have := zaa HQ2; have := (zaa HF3).size; omega), by have := zaa HQ2; omega, by have := zaa HQ2; have := (zaa HF3).size; have := hf4.size; omega, (za9 t (zaa HT)).1, (za9 t (zaa HT)).2⟩); have c6 := ((zaa HG4).blk.cell 756 (by omega)).trans (congrArg some zct); clear hf4 hs4 hB4)
    | (go_at_call 109; refine (p_isWord w2.heap.size q cap (zad t 8 0 []).1 _ _ 0 0 s _ (by exact zaa HG4) (by omega)).mono ?_; rintro e w5 ⟨rfl, hf5⟩; rw [zaa HWd]; have HG5 := hide ((zaa HG4).fr0 hf5); have HR5 := hide ((zaa HR4).fr0 hf5); have HF5 := hide hf5; clear hf5)
    | (go_at_call 48; refine (zcn w2.heap.size 5 0 _ _ (by exact (zaa HG5).blk)).mono ?_; rintro e w6 ⟨rfl, hf6⟩; have HF6 := hide hf6.1; have HB6 := hide (hf6.2.2.congr fun i hi => gF_ref _ _ _ _ _ _ _ _ _ i hi); have HR6 := hide ((zaa HR5).fr1 hf6.1 (by have := (zaa HR2).lt; omega)); clear hf6)
    | (refine zaf rfl 53 (.tmp 6) rfl (some 23) rfl w2.heap.size 0 758 758 (gF (.slice (some ⟨q, 0, none⟩) (zad t 8 0 []).1.length cap) (stOf (zad t 8 0 []).1) (rset (zad t 8 0 []).1) (zan (zad t 8 0 []).1) (zau (zad t 8 0 []).1) 5 0) _ rfl (by exact zaa HB6) Tryz.underlying53 rfl Tryz.sizeGram (by omega) ?_)
    | (refine zac rfl 53 (.tmp 4) (.tmp 23) rfl w.heap.size 0 758 758 (gF (.slice none 0 0) 0 (fun _ => false) (fun _ => false) (fun _ _ => false) 0 0) (fun i => gF (.slice (some ⟨q, 0, none⟩) (zad t 8 0 []).1.length cap) (stOf (zad t 8 0 []).1) (rset (zad t 8 0 []).1) (zan (zad t 8 0 []).1) (zau (zad t 8 0 []).1) 5 0 (0 + i)) rfl rfl (by exact zaa HR6) Tryz.sizeGram (by omega) (by intro i hi; exact zb3 _ rfl _ _ _ _ _ _ _ (by omega)) ?_; intro w9 hf9 hs9 hB9))
   have hfin : Blk w9 w.heap.size 758 (gF (.slice (some ⟨q, 0, none⟩) (zad t 8 0 []).1.length cap) (stOf (zad t 8 0 []).1) (rset (zad t 8 0 []).1) (zan (zad t 8 0 []).1) (zau (zad t 8 0 []).1) 5 0) := hB9.congr fun i hi => by rw [zag _ _ _ _ hi, Nat.zero_add]
   refine bodyPost_ret (zaj Tryz.results59 _ w.heap.size rfl 758 758 _ _ hfin Tryz.underlying53 rfl Tryz.sizeGram (by omega)) rfl ⟨_, rfl, ?_⟩
   have f2 := (zaa HF1).trans0 (zaa HG).1
   refine ⟨((((f2.trans0 (zaa HF3)).trans1 (zaa HF4) (Or.inr f2.size)).trans0 (zaa HF5)).trans1 (zaa HF6) (Or.inr f2.size)).trans1 hf9 (Or.inr (Nat.le_refl _)), zb3 _ rfl _ _ _ _ _ _, ?_, ?_⟩
   ·rw [zct, zaa HW]; rfl
   ·rw [zaa HW]; intro h; cases h
  ·have HW := hide (show wErr t s = 0 from by unfold wErr; rw [if_neg (by omega), if_neg (by rw [h0]; simp), hw]; rfl)
   have H0 := hide h0
   have HWd := hide hw
   clear h0 hw
   go_enter Tryz.func59, Tryz.ntmps59
   go_wp2_with (first
    | (refine zab rfl 53 rfl (some 4) rfl 758 _ Tryz.zeroGram ?_; intro w1 hf1 hs1 hB1; have HF1 := hide hf1; have HB1 := hide hB1; clear hf1 hs1 hB1)
    | (go_at_call 16; refine (zcd t _ hm).mono ?_; rintro e w2 ⟨f, rfl, hg⟩; obtain ⟨q, cap, hfq, hru, hq1, hq2⟩ := (hg.2.2.2.2 (zaa H0)).2.2; have HG := hide hg; have HR2 := hide ((zaa HB1).fr0 hg.1); have HFQ := hide hfq; have HRU := hide hru; have HQ2 := hide hq2; have HQ1 := hide hq1; have HT := hide (hg.2.2.2.2 (zaa H0)); clear hg hfq hru hq1 hq2)
    | (refine zab rfl 53 rfl (some 6) rfl 758 _ Tryz.zeroGram ?_; intro w3 hf3 hs3 hB3; have HF3 := hide hf3; have HB3 := hide hB3; have HR3 := hide ((zaa HR2).fr0 hf3); clear hf3 hs3 hB3)
    | (refine zac rfl 53 (.tmp 6) (.tmp 13) rfl w2.heap.size 0 758 758 (gF (.slice none 0 0) 0 (fun _ => false) (fun _ => false) (fun _ _ => false) 0 0) f rfl rfl (by exact zaa HB3) Tryz.sizeGram (by omega) (by exact (zaa HG).2.1) ?_; intro w4 hf4 hs4 hB4; have HF4 := hide hf4; have HR4 := hide ((zaa HR3).fr1 hf4 (by have := (zaa HR2).lt; omega)); have HG4 := hide (show GAt w4 w2.heap.size q cap (zad t 8 0 []).1 (zan (zad t 8 0 []).1) (zau (zad t 8 0 []).1) 0 0 from ⟨by rw [← zaa HFQ]; exact hB4.congr fun i hi => zag _ _ _ i hi, ((zaa HRU).fr (zaa HF3) (by simp) (zaa HQ2)).fr hf4 (by have := zaa HQ2; simp; omega) (by have := zaa HQ2; have := (zaa HF3).size; omega), by have := zaa HQ2; omega, by have := zaa HQ2; have := (zaa HF3).size; have := hf4.size; omega, (za9 t (zaa HT).1).1, (za9 t (zaa HT).1).2⟩); have c6 := ((zaa HG4).blk.cell 756 (by omega)).trans (congrArg some zct); clear hf4 hs4 hB4)
    | (go_at_call 109; refine (p_isWord w2.heap.size q cap (zad t 8 0 []).1 _ _ 0 0 s _ (by exact zaa HG4) (by omega)).mono ?_; rintro e w5 ⟨rfl, hf5⟩; rw [zaa HWd]; have HG5 := hide ((zaa HG4).fr0 hf5); have HR5 := hide ((zaa HR4).fr0 hf5); have HF5 := hide hf5; clear hf5)
    | (refine zaf rfl 53 (.tmp 6) rfl (some 23) rfl w2.heap.size 0 758 758 (gF (.slice (some ⟨q, 0, none⟩) (zad t 8 0 []).1.length cap) (stOf (zad t 8 0 []).1) (rset (zad t 8 0 []).1) (zan (zad t 8 0 []).1) (zau (zad t 8 0 []).1) 0 0) _ rfl (by exact (zaa HG5).blk) Tryz.underlying53 rfl Tryz.sizeGram (by omega) ?_)
    | (refine zac rfl 53 (.tmp 4) (.tmp 23) rfl w.heap.size 0 758 758 (gF (.slice none 0 0) 0 (fun _ => false) (fun _ => false) (fun _ _ => false) 0 0) (fun i => gF (.slice (some ⟨q, 0, none⟩) (zad t 8 0 []).1.length cap) (stOf (zad t 8 0 []).1) (rset (zad t 8 0 []).1) (zan (zad t 8 0 []).1) (zau (zad t 8 0 []).1) 0 0 (0 + i)) rfl rfl (by exact zaa HR5) Tryz.sizeGram (by omega) (by intro i hi; exact zb3 _ rfl _ _ _ _ _ _ _ (by omega)) ?_; intro w9 hf9 hs9 hB9))
   have hfin : Blk w9 w.heap.size 758 (gF (.slice (some ⟨q, 0, none⟩) (zad t 8 0 []).1.length cap) (stOf (zad t 8 0 []).1) (rset (zad t 8 0 []).1) (zan (zad t 8 0 []).1) (zau (zad t 8 0 []).1) 0 0) := hB9.congr fun i hi => by rw [zag _ _ _ _ hi, Nat.zero_add]
   refine bodyPost_ret (zaj Tryz.results59 _ w.heap.size rfl 758 758 _ _ hfin Tryz.underlying53 rfl Tryz.sizeGram (by omega)) rfl ⟨_, rfl, ?_⟩
   have f2 := (zaa HF1).trans0 (zaa HG).1
   have hq1 : w.heap.size + 1 ≤ q := by have := zaa HQ1; have := (zaa HB1).lt; omega
   refine ⟨(((f2.trans0 (zaa HF3)).trans1 (zaa HF4) (Or.inr f2.size)).trans0 (zaa HF5)).trans1 hf9 (Or.inr (Nat.le_refl _)), zb3 _ rfl _ _ _ _ _ _, ?_, ?_⟩
   ·rw [zct, zaa HW]; rfl
   ·intro _
    exact ⟨hs, (zaa HT).1, zaa H0, (zaa HT).2.1, zaa HWd, q, cap, rfl, (zaa HG5).ru.fr hf9 (by simp; omega) (zaa HG5).lt, by omega, Nat.lt_of_lt_of_le (zaa HG5).lt hf9.size⟩
 ·have HW := hide (show wErr t s = (gErr t).1 from by unfold wErr; rw [if_neg (by omega), if_pos h0])
  have hne : ((((gErr t).1 : Nat) : Int) == 0) = false := by rw [beq_eq_false_iff_ne]; omega
  have H0 := hide h0
  clear h0
  go_enter Tryz.func59, Tryz.ntmps59
  go_wp2_with (first
   | (refine zab rfl 53 rfl (some 4) rfl 758 _ Tryz.zeroGram ?_; intro w1 hf1 hs1 hB1; have HF1 := hide hf1; have HB1 := hide hB1; clear hf1 hs1 hB1)
   | (go_at_call 16; refine (zcd t _ hm).mono ?_; rintro e w2 ⟨f, rfl, hg⟩; have HG := hide hg; have HR2 := hide ((zaa HB1).fr0 hg.1); clear hg)
   | (refine zab rfl 53 rfl (some 6) rfl 758 _ Tryz.zeroGram ?_; intro w3 hf3 hs3 hB3; have HF3 := hide hf3; have HB3 := hide hB3; have HR3 := hide ((zaa HR2).fr0 hf3); clear hf3 hs3 hB3)
   | (refine zac rfl 53 (.tmp 6) (.tmp 13) rfl w2.heap.size 0 758 758 (gF (.slice none 0 0) 0 (fun _ => false) (fun _ => false) (fun _ _ => false) 0 0) f rfl rfl (by exact zaa HB3) Tryz.sizeGram (by omega) (by exact (zaa HG).2.1) ?_; intro w4 hf4 hs4 hB4; have HF4 := hide hf4; have HR4 := hide ((zaa HR3).fr1 hf4 (by have := (zaa HR2).lt; omega)); have HB4 := hide (hB4.congr fun i hi => zag _ _ _ i hi); have c6 := ((zaa HB4).cell 756 (by omega)).trans (congrArg some (zaa HG).2.2.1); clear hf4 hs4 hB4)
   | (refine zaf rfl 53 (.tmp 6) rfl (some 23) rfl w2.heap.size 0 758 758 f _ rfl (by exact zaa HB4) Tryz.underlying53 rfl Tryz.sizeGram (by omega) ?_)
   | (refine zac rfl 53 (.tmp 4) (.tmp 23) rfl w.heap.size 0 758 758 (gF (.slice none 0 0) 0 (fun _ => false) (fun _ => false) (fun _ _ => false) 0 0) (fun i => f (0 + i)) rfl rfl (by exact zaa HR4) Tryz.sizeGram (by omega) (by intro i hi; exact (zaa HG).2.1 _ (by omega)) ?_; intro w9 hf9 hs9 hB9))
  have hfin : Blk w9 w.heap.size 758 f := hB9.congr fun i hi => by rw [zag _ _ _ _ hi, Nat.zero_add]
  refine bodyPost_ret (zaj Tryz.results59 _ w.heap.size rfl 758 758 _ _ hfin Tryz.underlying53 rfl Tryz.sizeGram (by omega)) rfl ⟨_, rfl, ?_⟩
  have f2 := (zaa HF1).trans0 (zaa HG).1
  refine ⟨((f2.trans0 (zaa HF3)).trans1 (zaa HF4) (Or.inr f2.size)).trans1 hf9 (Or.inr (Nat.le_refl _)), (zaa HG).2.1, ?_, ?_⟩
  ·rw [(zaa HG).2.2.1, zaa HW]
  ·rw [zaa HW]; intro h; exact absurd h (zaa H0)
theorem zbp (t s : ByteArray) (w : World) (ht : t.size ≤ 9223372036854775807) (hm : s.size ≤ 9223372036854775807) :
 Calls Tryz.prog 59 #[.string t, .string s] w fun e w' => ∃ f, e = .returned (Agg 758 f) ∧ WordOut t s w w' f := by
 by_cases h : 12 < s.size
 ·exact p_readWithWord_long t s w h hm
 ·exact p_readWithWord_short t s w (by omega) ht
end Go.Proofs.YtkglggkkbmmjkabGreatDoor
