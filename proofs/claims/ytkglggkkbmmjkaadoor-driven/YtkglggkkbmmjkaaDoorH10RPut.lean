import Derived.Test.YtkglggkkbmmjkaaDoorH9Same
import Derived.OwnWalk
import Derived.Test.YtkglggkkbmmjkaaDoorH8Scr
import Derived.Laws.IdiomStrings
import Derived.Deep.RegionHeld3
namespace Go.Proofs.YtkglggkkbmmjkaaDoor
open Go.RowKit

/-- one step of a round: a letter, and what joins its set -/
structure Stp where
  L : Nat
  B : Nat → (Nat → Bool) → Bool
def stepF (F : Nat → Nat → Bool) (s : Stp) : Nat → Nat → Bool := joinF F s.L (fun x => s.B x (fun c => F c x))
def jRound (l : List Stp) (F : Nat → Nat → Bool) : Nat → Nat → Bool := l.foldl stepF F
def colStep (x : Nat) (C : Nat → Bool) (s : Stp) : Nat → Bool := fun a => C a || (a == s.L && s.B x C)
def colRound (l : List Stp) (x : Nat) (C : Nat → Bool) : Nat → Bool := l.foldl (colStep x) C
theorem jRound_col : ∀ (l : List Stp) (F : Nat → Nat → Bool) (c x : Nat), jRound l F c x = colRound l x (fun c => F c x) c
  | [], _, _, _ => rfl
  | s :: l, F, c, x => by
    show jRound l (stepF F s) c x = colRound l x (colStep x (fun c => F c x) s) c
    rw [jRound_col l]; rfl
theorem iterF_col (l : List Stp) (F0 : Nat → Nat → Bool) : ∀ (n c x : Nat), iterF (jRound l) n F0 c x = iter (colRound l x) n (fun c => F0 c x) c
  | 0, _, _ => rfl
  | n + 1, c, x => by
    show jRound l (iterF (jRound l) n F0) c x = colRound l x (iter (colRound l x) n (fun c => F0 c x)) c
    rw [jRound_col, show (fun c => iterF (jRound l) n F0 c x) = iter (colRound l x) n (fun c => F0 c x) from funext fun c => iterF_col l F0 n c x]
theorem col_inf (x : Nat) : ∀ (l : List Stp) (C : Nat → Bool) (a : Nat), C a = true → colRound l x C a = true
  | [], _, _, h => h
  | s :: l, C, a, h => by
    refine col_inf x l (colStep x C s) a ?_
    unfold colStep; rw [h]; rfl
theorem col_new (rs : List Ru) (x : Nat) : ∀ (l : List Stp), (∀ s ∈ l, rset rs s.L = true) → ∀ (C : Nat → Bool) (a : Nat), C a = false → colRound l x C a = true → rset rs a = true
  | [], _, C, a, h1, h2 => by
    have : C a = true := h2
    rw [h1] at this; cases this
  | s :: l, hl, C, a, h1, h2 => by
    have h2' : colRound l x (colStep x C s) a = true := h2
    cases h3 : colStep x C s a
    · exact col_new rs x l (fun s hs => hl s (List.mem_cons_of_mem _ hs)) _ a h3 h2'
    · unfold colStep at h3
      rw [h1, Bool.false_or, Bool.and_eq_true, beq_iff_eq] at h3
      rw [h3.1]; exact hl s (List.mem_cons_self ..)
theorem j_fix (rs : List Ru) (l : List Stp) (hl : ∀ s ∈ l, rset rs s.L = true) (F0 : Nat → Nat → Bool) (c x : Nat) : iterF (jRound l) (rs.length + 1) F0 c x = iterF (jRound l) rs.length F0 c x := by
  rw [iterF_col, iterF_col]
  exact congrFun (fix_rounds rs (colRound l x) (col_inf x l) (col_new rs x l hl) (fun c => F0 c x)) c
theorem iter_stay {f : (Nat → Bool) → (Nat → Bool)} {k : Nat} {S : Nat → Bool} (h : iter f (k + 1) S = iter f k S) : ∀ j, iter f (k + j) S = iter f k S
  | 0 => rfl
  | j + 1 => by
    show f (iter f (k + j) S) = iter f k S
    rw [iter_stay h j]; exact h
theorem j_stable (l : List Stp) (F0 : Nat → Nat → Bool) (k n : Nat) (hk : k ≤ n) (h : ∀ c x, x < 128 → iterF (jRound l) (k + 1) F0 c x = iterF (jRound l) k F0 c x) (c x : Nat) (hx : x < 128) :
    iterF (jRound l) (k + 1) F0 c x = iterF (jRound l) n F0 c x := by
  have hc : iter (colRound l x) (k + 1) (fun c => F0 c x) = iter (colRound l x) k (fun c => F0 c x) := funext fun c => by rw [← iterF_col, ← iterF_col]; exact h c x hx
  rw [iterF_col, iterF_col, hc, show n = k + (n - k) from by omega, iter_stay hc]

/-- has a table grown since? -/
def Grew (F G : Nat → Nat → Bool) (v : Bool) : Prop := (∀ c x, F c x = true → G c x = true) ∧ (v = false → ∀ c x, x < 128 → G c x = F c x) ∧ (v = true → ∃ c x, x < 128 ∧ G c x = true ∧ F c x = false)
theorem Grew.start (F : Nat → Nat → Bool) : Grew F F false := ⟨fun _ _ h => h, fun _ _ _ _ => rfl, fun h => by cases h⟩
/-- where the loop stands: so many rounds, and shall there be one more? -/
def Stand (l : List Stp) (F0 : Nat → Nat → Bool) (n k : Nat) (v : Bool) : Prop := (v = true → k ≤ n) ∧ (v = false → ∀ c x, x < 128 → iterF (jRound l) k F0 c x = iterF (jRound l) n F0 c x)
theorem Stand.start (l : List Stp) (F0 : Nat → Nat → Bool) (n : Nat) : Stand l F0 n 0 true := ⟨fun _ => Nat.zero_le _, fun h => by cases h⟩
theorem Stand.next {rs : List Ru} {l : List Stp} {F0 : Nat → Nat → Bool} {k : Nat} {v : Bool} (hl : ∀ s ∈ l, rset rs s.L = true) (h : Stand l F0 rs.length k true)
    (hg : Grew (iterF (jRound l) k F0) (iterF (jRound l) (k + 1) F0) v) : Stand l F0 rs.length (k + 1) v := by
  have hk := h.1 rfl
  refine ⟨fun hv => ?_, fun hv => j_stable l F0 k rs.length hk (hg.2.1 hv)⟩
  obtain ⟨c, x, hx, h1, h2⟩ := hg.2.2 hv
  rcases Nat.lt_or_ge k rs.length with hlt | hge
  · exact hlt
  · have e : k = rs.length := by omega
    subst e
    rw [j_fix rs l hl F0 c x, h2] at h1; cases h1

def begc (N : Nat → Bool) (x : Nat) (C : Nat → Bool) : List Nat → Bool
  | [] => false
  | c :: l => if smallB c then x == c else C c || (hasB N c && begc N x C l)
theorem beg_col (N : Nat → Bool) (F : Nat → Nat → Bool) (x : Nat) : ∀ l, beg N F l x = begc N x (fun c => F c x) l
  | [] => rfl
  | c :: l => by rw [beg, begc, beg_col N F x l]
def ffSteps (N : Nat → Bool) (rs : List Ru) : List Stp := rs.map fun r => ⟨r.L, fun x C => begc N x C (bytes r.R)⟩
theorem ffRound_eq (N : Nat → Bool) (rs : List Ru) : ffRound N rs = jRound (ffSteps N rs) := by
  funext F
  unfold ffRound jRound ffSteps
  rw [List.foldl_map]
  congr 1
  funext F r
  unfold stepF
  congr 1
  funext x
  exact beg_col N F x _
theorem ffSteps_in (N : Nat → Bool) (rs : List Ru) : ∀ s ∈ ffSteps N rs, rset rs s.L = true := fun s hs => by
  obtain ⟨r, hr, rfl⟩ := List.mem_map.1 hs
  exact rset_mem hr

theorem beg_small {N : Nat → Bool} {F : Nat → Nat → Bool} (hF : ∀ c x, F c x = true → smallB x = true) : ∀ l x, beg N F l x = true → smallB x = true
  | [], _, h => by cases h
  | c :: l, x, h => by
    rw [beg] at h
    split at h
    · have : x = c := by simpa using h
      subst this; assumption
    · rw [Bool.or_eq_true, Bool.and_eq_true] at h
      rcases h with h | h
      · exact hF c x h
      · exact beg_small hF l x h.2
theorem joinF_small {F : Nat → Nat → Bool} {L : Nat} {B : Nat → Bool} (hF : ∀ c x, F c x = true → smallB x = true) (hB : ∀ x, B x = true → smallB x = true) : ∀ c x, joinF F L B c x = true → smallB x = true := fun c x h => by
  unfold joinF at h
  rw [Bool.or_eq_true, Bool.and_eq_true] at h
  rcases h with h | h
  · exact hF c x h
  · exact hB x h.2
theorem ffRound_small (N : Nat → Bool) : ∀ (rs : List Ru) (F : Nat → Nat → Bool), (∀ c x, F c x = true → smallB x = true) → ∀ c x, ffRound N rs F c x = true → smallB x = true
  | [], _, h => h
  | r :: rs, F, h => ffRound_small N rs (joinF F r.L (beg N F (bytes r.R))) (joinF_small h (beg_small h _))
theorem iterF_small (N : Nat → Bool) (rs : List Ru) : ∀ n c x, iterF (ffRound N rs) n (fun _ _ => false) c x = true → smallB x = true
  | 0, _, _, h => by cases h
  | n + 1, c, x, h => ffRound_small N rs _ (iterF_small N rs n) c x h

theorem van_eq0 {S : Nat → Bool} (h : Bigs S) (c : Nat) : vanB S false c = S c := by
  unfold vanB hasB
  cases h1 : S c
  · simp
  · simp [h c h1]
theorem mk_rn_fold (l : List Ru) (hl : ∀ r ∈ l, bigB r.L = true) : ∀ S, Bigs S → mkRound false l S = rnRound l S ∧ Bigs (rnRound l S) := by
  induction l with
  | nil => exact fun S h => ⟨rfl, h⟩
  | cons r l ih =>
    intro S h
    have hr := hl r (List.mem_cons_self ..)
    have e : (bytes r.R).all (vanB S false) = (bytes r.R).all S := by
      rw [show vanB S false = S from funext (van_eq0 h)]
    show mkRound false l (if (bytes r.R).all (vanB S false) then insB S r.L else S) = rnRound l (if (bytes r.R).all S then Go.Proofs.YtkglggkkbmmjkaaDoor.ins S r.L else S) ∧ Bigs (rnRound l (if (bytes r.R).all S then Go.Proofs.YtkglggkkbmmjkaaDoor.ins S r.L else S))
    rw [e, ins_insB hr]
    have hb : Bigs (if (bytes r.R).all S then Go.Proofs.YtkglggkkbmmjkaaDoor.ins S r.L else S) := by
      split
      · exact h.ins hr
      · exact h
    exact ih (fun r hr => hl r (List.mem_cons_of_mem _ hr)) _ hb
theorem mk_rn_iter (rs : List Ru) (hl : ∀ r ∈ rs, bigB r.L = true) (S : Nat → Bool) (hS : Bigs S) : ∀ n, iter (mkRound false rs) n S = iter (rnRound rs) n S ∧ Bigs (iter (rnRound rs) n S)
  | 0 => ⟨rfl, hS⟩
  | n + 1 => by
    obtain ⟨h1, h2⟩ := mk_rn_iter rs hl S hS n
    show mkRound false rs (iter (mkRound false rs) n S) = rnRound rs (iter (rnRound rs) n S) ∧ Bigs (rnRound rs (iter (rnRound rs) n S))
    rw [h1]; exact mk_rn_fold rs hl _ h2
theorem rn_inf (l : List Ru) : ∀ (S : Nat → Bool) (x : Nat), S x = true → rnRound l S x = true := by
  induction l with
  | nil => exact fun _ _ h => h
  | cons r l ih =>
    intro S x h
    show rnRound l (if (bytes r.R).all S then ins S r.L else S) x = true
    apply ih
    split
    · simp [ins, h]
    · exact h
theorem rn_new (l : List Ru) : ∀ (S : Nat → Bool) (x : Nat), S x = false → rnRound l S x = true → rset l x = true := by
  induction l with
  | nil => intro S x h1 h2; exact absurd h2 (by show ¬ S x = true; rw [h1]; simp)
  | cons r l ih =>
    intro S x h1 h2
    have h2' : rnRound l (if (bytes r.R).all S then ins S r.L else S) x = true := h2
    by_cases e : r.L = x
    · simp [rset, e]
    · have : rset l x = true := by
        refine ih _ x ?_ h2'
        split
        · simp only [ins, h1, Bool.false_or, beq_eq_false_iff_ne]; exact fun h => e h.symm
        · exact h1
      unfold rset at this ⊢
      rw [List.any_cons, this, Bool.or_true]
theorem nulls_eq (rs : List Ru) (hl : ∀ r ∈ rs, bigB r.L = true) : iter (rnRound rs) (rs.length + 1) (fun _ => false) = nullS rs := by
  unfold nullS
  rw [(mk_rn_iter rs hl _ (fun _ h => by cases h) rs.length).1]
  exact fix_rounds rs (rnRound rs) (rn_inf rs) (rn_new rs) _
theorem nulls_bigs (rs : List Ru) (hl : ∀ r ∈ rs, bigB r.L = true) : Bigs (nullS rs) := by
  unfold nullS
  rw [(mk_rn_iter rs hl _ (fun _ h => by cases h) rs.length).1]
  exact (mk_rn_iter rs hl _ (fun _ h => by cases h) rs.length).2

end Go.Proofs.YtkglggkkbmmjkaaDoor

namespace Go.Proofs.YtkglggkkbmmjkaaDoor
open Go.RowKit

/-- the state of firsts -/
def FSt (w wr : World) (nb no fb q : Nat) (rs : List Ru) (N : Nat → Bool) (F : Nat → Nat → Bool) : Prop :=
  Fr [] w wr ∧ LAt wr q rs ∧ NAt wr nb no N ∧ Blk wr fb 3328 (tF F) ∧ w.heap.size ≤ fb ∧ nb < w.heap.size ∧ q < w.heap.size
theorem FSt.fr {w wr wr' : World} {nb no fb q : Nat} {rs : List Ru} {N : Nat → Bool} {F : Nat → Nat → Bool} (h : FSt w wr nb no fb q rs N F) (k : Fr [] wr wr') : FSt w wr' nb no fb q rs N F := by
  obtain ⟨h1, h2, h3, h4, h5⟩ := h
  exact ⟨h1.trans0 k, h2.fr0 k, h3.fr0 k, h4.fr0 k, h5⟩
theorem FSt.far {w wr wr' : World} {nb no fb q x : Nat} {rs : List Ru} {N : Nat → Bool} {F : Nat → Nat → Bool} (h : FSt w wr nb no fb q rs N F) (k : Fr [x] wr wr') (hx : w.heap.size ≤ x) (hx2 : fb ≠ x) : FSt w wr' nb no fb q rs N F := by
  obtain ⟨h1, h2, h3, h4, h5, h6, h7⟩ := h
  exact ⟨h1.trans1 k (Or.inr hx), h2.fr k (by simp; omega), h3.fr1 k (by omega), h4.fr1 k hx2, h5, h6, h7⟩
theorem FSt.put {w wr wr' : World} {nb no fb q : Nat} {rs : List Ru} {N : Nat → Bool} {F F' : Nat → Nat → Bool} (h : FSt w wr nb no fb q rs N F) (k : Fr [fb] wr wr') (hB : Blk wr' fb 3328 (tF F')) : FSt w wr' nb no fb q rs N F' := by
  obtain ⟨h1, h2, h3, h4, h5, h6, h7⟩ := h
  exact ⟨h1.trans1 k (Or.inr h5), h2.fr k (by simp; omega), h3.fr1 k (by omega), hB, h5, h6, h7⟩

end Go.Proofs.YtkglggkkbmmjkaaDoor

namespace Go.Proofs.YtkglggkkbmmjkaaDoor
open Go.RowKit

theorem p_isSmall_is (c : Nat) (v : Bool) (w : World) (h : smallB c = v) : Calls Tryd.prog 42 #[.int .u8 c] w fun e w' => e = .returned (.bool v) ∧ w' = w := by
  subst h; exact p_isSmall c w

set_option maxHeartbeats 400000 in
theorem p_isNull (b q cap : Nat) (rs : List Ru) (N : Nat → Bool) (F : Nat → Nat → Bool) (e p : Int) (s : ByteArray) (w : World) (h : GAt w b q cap rs N F e p) (hs : s.size ≤ 1000) :
    Calls Tryd.prog 83 #[.pointer (some ⟨b, 0, none⟩), .string s] w fun e' w' => e' = .returned (.bool ((bytes s).all (vanB N false))) ∧ w' = w := by
  have H := hide h
  clear h
  go_enter Tryd.func83, Tryd.ntmps83
  go_wp2_with (go_at_call 69; refine (p_vanishes s b 28 N false _ hs (by exact (unhide H).null)).mono ?_; rintro e' w' ⟨rfl, rfl⟩)
  go_ret
  exact ⟨rfl, rfl⟩

end Go.Proofs.YtkglggkkbmmjkaaDoor

namespace Go.Proofs.YtkglggkkbmmjkaaDoor
open Go.RowKit

def bv (l : List UInt8) : List Value := l.map fun b => .int .u8 (b.toNat : Int)
/-- the signs of a set, up to code 96 + k -/
def lstU (S : Nat → Bool) (k : Nat) : List UInt8 := (if S 36 then [36] else []) ++ ((List.range k).filter fun j => S (97 + j)).map fun j => UInt8.ofNat (97 + j)
def lst (S : Nat → Bool) : ByteArray := ⟨(lstU S 26).toArray⟩
theorem run_str_own {P : Program} (w : World) (base : Nat) (src dst e : TypeId) (v : Value) (l : List UInt8) (hs : P.underlying src = some (.slice e)) (he : P.underlying e = some (.int .u8)) (hd : P.underlying dst = some .string)
    (h : w.ownsRow base e 1 v l.length (bv l)) : (convert src dst v).run P w = .ok (.string ⟨l.toArray⟩) w := by
  rcases h.2 with ⟨rfl, hl⟩ | ⟨g, cap, _, rfl, _⟩
  · rw [run_convert_bytes_string w src dst e none 0 0 hs he hd]
    have : l = [] := List.length_eq_zero_iff.1 hl
    subst this
    rfl
  · have hc := h.cells (g := g) rfl
    exact run_convert_bytes_back w src dst e ⟨g, 0, none⟩ cap l hs he hd (fun j hj => hc j _ (by simp [bv, hj]))

theorem wpList_str_own {P : Program} {ops : Array Oper} {rest : List Oper} {o : Oper} {a : Act} {w : World} {Q : Exit → Act → World → Prop} (hgd : o.guard = none) (base : Nat) (src dst e : TypeId) (x : Operand) (ho : o.op = .convert src dst x) (v : Value) (l : List UInt8)
    (hs : P.underlying src = some (.slice e)) (he : P.underlying e = some (.int .u8)) (hd : P.underlying dst = some .string) (hx : a.eval x = v) (h : w.ownsRow base e 1 v l.length (bv l))
    (hK : wpList P ops Q rest (a.put o.dst (.string ⟨l.toArray⟩)) w) : wpList P ops Q (o :: rest) a w := by
  refine wpList_plain hgd fun K hK' => ?_
  unfold Oper.wp
  simp only [execOp, ho, hx, Sem.run_bind, run_str_own w base src dst e v l hs he hd h, Result.andThen_ok, Sem.run_pure, Oper.upon]
  exact hK' _ _ hK

theorem Tryd.infoByte : (Tryd.prog.info? 5).map (fun i => (i.zero, i.size, i.bytes)) = some (some (.int .u8 0), 1, 1) := by kernel_rfl

/-- the state of a list that grows -/
def LsS (w wr : World) (v : Value) (l : List UInt8) : Prop := Fr [] w wr ∧ wr.ownsRow w.heap.size 5 1 v l.length (bv l)
theorem LsS.append {w wr w1 : World} {v : Value} {l : List UInt8} {g cap : Nat} {o : Obj} (b : UInt8) (h : LsS w wr v l) (hown : w1.ownsRow w.heap.size 5 1 (.slice (some ⟨g, 0, none⟩) (l.length + 1) cap) (l.length + 1) (bv l ++ [.int .u8 (b.toNat : Int)]))
    (hgrow : (wr.alloc o).grownBy w1 v.ownBlock) : LsS w w1 (.slice (some ⟨g, 0, none⟩) (l.length + 1) cap) (l ++ [b]) := by
  refine ⟨(h.1.alloc o).of_grown hgrow (fun k hk => Or.inr (h.2.lt k hk).1), ?_⟩
  rw [List.length_append, show bv (l ++ [b]) = bv l ++ [.int .u8 (b.toNat : Int)] from by simp [bv]]; exact hown

end Go.Proofs.YtkglggkkbmmjkaaDoor

namespace Go.Proofs.YtkglggkkbmmjkaaDoor
open Go.RowKit
theorem bytes_extract (s : ByteArray) (a b : Nat) : bytes (s.extract a b) = ((bytes s).drop a).take (b - a) := by
  unfold bytes
  rw [ByteArray.data_extract, Array.toList_extract, List.extract_eq_take_drop, List.map_take, List.map_drop]
/-- a string of one byte -/
theorem wpList_str_one {P : Program} {ops : Array Oper} {rest : List Oper} {o : Oper} {a : Act} {w : World} {Q : Exit → Act → World → Prop} (hgd : o.guard = none) (src dst e : TypeId) (x : Operand) (ho : o.op = .convert src dst x) (g cap c : Nat) (hc : c < 256)
    (hs : P.underlying src = some (.slice e)) (he : P.underlying e = some (.int .u8)) (hd : P.underlying dst = some .string) (hx : a.eval x = .slice (some ⟨g, 0, none⟩) 1 cap) (h : w.cell? ⟨g, 0, none⟩ = some (.int .u8 c))
    (hK : wpList P ops Q rest (a.put o.dst (.string ⟨#[UInt8.ofNat c]⟩)) w) : wpList P ops Q (o :: rest) a w := by
  refine wpList_plain hgd fun K hK' => ?_
  unfold Oper.wp
  have := run_convert_bytes_back w src dst e ⟨g, 0, none⟩ cap [UInt8.ofNat c] hs he hd (fun j hj => by
    obtain rfl : j = 0 := by simpa using hj
    rw [show (Addr.add ⟨g, 0, none⟩ 0) = ⟨g, 0, none⟩ from rfl, h]
    simp only [List.getElem_cons_zero, UInt8.toNat_ofNat']
    rw [Nat.mod_eq_of_lt hc])
  simp only [List.length_cons, List.length_nil, Nat.zero_add] at this
  simp only [execOp, ho, hx, Sem.run_bind, this, Result.andThen_ok, Sem.run_pure, Oper.upon]
  exact hK' _ _ hK


end Go.Proofs.YtkglggkkbmmjkaaDoor

namespace Go.Proofs.YtkglggkkbmmjkaaDoor
open Go.RowKit

def rlU (S : Nat → Bool) (k : Nat) : List UInt8 := ((List.range k).filter S).map UInt8.ofNat
def rlst (S : Nat → Bool) : ByteArray := ⟨(rlU S 128).toArray⟩
end Go.Proofs.YtkglggkkbmmjkaaDoor

namespace Go.Proofs.YtkglggkkbmmjkaaDoor
open Go.RowKit

theorem parse_big (t : ByteArray) : ∀ r ∈ (parse t 8 0 []).1, bigB r.L = true := fun r hr => ((parse_good t 8 0 [] (by simp)).1 r hr).1
end Go.Proofs.YtkglggkkbmmjkaaDoor

namespace Go.Proofs.YtkglggkkbmmjkaaDoor
open Go.RowKit

/-- an item: a rule's number, a place, a sign -/
structure It where
  R : Nat
  P : Nat
  T : Nat
def It.ok (x : It) : Prop := x.R ≤ 8 ∧ x.P ≤ 4 ∧ x.T < 128
def It.key (x : It) : Nat := (x.R * 8 + x.P) * 128 + x.T
theorem It.eq_of_key {x y : It} (hx : x.ok) (hy : y.ok) (h : x.key = y.key) : x = y := by
  obtain ⟨a, b, c⟩ := x
  obtain ⟨a', b', c'⟩ := y
  simp only [It.key, It.ok] at *
  have e1 : c = c' := by omega
  have e2 : b = b' := by omega
  have e3 : a = a' := by omega
  rw [e1, e2, e3]
theorem Fr.cell {S : List Nat} {w w' : World} (k : Fr S w w') {b o : Nat} {v : Value} (h : w.cell? ⟨b, o, none⟩ = some v) (hb : b ∉ S) : w'.cell? ⟨b, o, none⟩ = some v := by
  have hlt := World.block_lt_of_cell? w ⟨b, o, none⟩ h
  unfold World.cell? at h ⊢
  rw [k.block b hlt hb]; exact h
theorem Fr.cell0 {w w' : World} (k : Fr [] w w') {b o : Nat} {v : Value} (h : w.cell? ⟨b, o, none⟩ = some v) : w'.cell? ⟨b, o, none⟩ = some v := k.cell h (by simp)

def it0 : It := ⟨0, 0, 0⟩
def lget (l : List It) (i : Nat) : It := l.getD i it0
theorem lget_eq (l : List It) (i : Nat) (h : i < l.length) : lget l i = l[i] := by simp [lget, h]
def itC (x : It) (r : Nat) : Value := if r = 0 then .int .i64 x.R else if r = 1 then .int .i64 x.P else .int .u8 x.T
/-- block b, of type T, has n cells: f 0, f 1, .. -/
def BT (w : World) (b : Nat) (T : TypeId) (n : Nat) (f : Nat → Value) : Prop := w.heap[b]? = some (.cells (Array.ofFn (n := n) fun i => f i.val) T (0, 0))
theorem BT.blk {w : World} {b n : Nat} {T : TypeId} {f : Nat → Value} (h : BT w b T n f) : Blk w b n f := ⟨T, h⟩
theorem BT.congr {w : World} {b n : Nat} {T : TypeId} {f g : Nat → Value} (h : BT w b T n f) (e : ∀ i, i < n → f i = g i) : BT w b T n g := by
  unfold BT at *
  rw [h, show (Array.ofFn (n := n) fun i => f i.val) = Array.ofFn (n := n) fun i => g i.val from by congr 1; funext i; exact e i.1 i.2]
theorem BT.fr {S : List Nat} {w w' : World} {b n : Nat} {T : TypeId} {f : Nat → Value} (h : BT w b T n f) (k : Fr S w w') (hb : b ∉ S) : BT w' b T n f := by
  unfold BT at *
  rw [k.block b (Blk.lt ⟨T, h⟩) hb, h]
theorem BT.fr0 {w w' : World} {b n : Nat} {T : TypeId} {f : Nat → Value} (h : BT w b T n f) (k : Fr [] w w') : BT w' b T n f := h.fr k (by simp)
section
variable {P : Program} {ops : Array Oper} {rest : List Oper} {o : Oper} {a : Act} {w : World} {Q : Exit → Act → World → Prop}
end

end Go.Proofs.YtkglggkkbmmjkaaDoor

namespace Go.Proofs.YtkglggkkbmmjkaaDoor
open Go.RowKit

def putL : List It → It → List It
  | [], x => [x]
  | y :: l, x => if y.key < x.key then y :: putL l x else if y.key = x.key then y :: l else x :: y :: l
def hasK (l : List It) (x : It) : Bool := l.any fun y => y.key == x.key
def Srt (l : List It) : Prop := l.Pairwise fun a b => a.key < b.key

theorem putL_mem : ∀ (l : List It) (x y : It), y ∈ putL l x → y ∈ l ∨ y = x
  | [], x, y, h => by simp [putL] at h; exact Or.inr h
  | z :: l, x, y, h => by
    rw [putL] at h
    split at h
    · rcases List.mem_cons.1 h with h | h
      · exact Or.inl (h ▸ List.mem_cons_self ..)
      · rcases putL_mem l x y h with h | h
        · exact Or.inl (List.mem_cons_of_mem _ h)
        · exact Or.inr h
    · split at h
      · exact Or.inl h
      · rcases List.mem_cons.1 h with h | h
        · exact Or.inr h
        · exact Or.inl h
theorem putL_sub : ∀ (l : List It) (x y : It), y ∈ l → y ∈ putL l x
  | z :: l, x, y, h => by
    rw [putL]
    split
    · rcases List.mem_cons.1 h with h | h
      · exact h ▸ List.mem_cons_self ..
      · exact List.mem_cons_of_mem _ (putL_sub l x y h)
    · split
      · exact h
      · exact List.mem_cons_of_mem _ h
theorem putL_srt : ∀ (l : List It) (x : It), Srt l → Srt (putL l x)
  | [], x, _ => by unfold Srt; simp [putL]
  | z :: l, x, h => by
    have h' := List.pairwise_cons.1 h
    rw [putL]
    split
    · rename_i hz
      refine List.pairwise_cons.2 ⟨fun y hy => ?_, putL_srt l x h'.2⟩
      rcases putL_mem l x y hy with hy | rfl
      · exact h'.1 y hy
      · exact hz
    · split
      · exact h
      · refine List.pairwise_cons.2 ⟨fun y hy => ?_, h⟩
        rcases List.mem_cons.1 hy with rfl | hy
        · omega
        · have := h'.1 y hy; omega
theorem putL_has : ∀ (l : List It) (x : It), ∃ y ∈ putL l x, y.key = x.key
  | [], x => ⟨x, by simp [putL], rfl⟩
  | z :: l, x => by
    rw [putL]
    split
    · obtain ⟨y, hy, e⟩ := putL_has l x
      exact ⟨y, List.mem_cons_of_mem _ hy, e⟩
    · split
      · exact ⟨z, List.mem_cons_self .., by assumption⟩
      · exact ⟨x, List.mem_cons_self .., rfl⟩
theorem putL_old {l : List It} {x : It} (hs : Srt l) (h : hasK l x = true) : putL l x = l := by
  induction l with
  | nil => simp [hasK] at h
  | cons z l ih =>
    have h' := List.pairwise_cons.1 hs
    rw [putL]
    split
    · rename_i hz
      rw [ih h'.2]
      unfold hasK at h ⊢
      rw [List.any_cons, Bool.or_eq_true] at h
      rcases h with h | h
      · have : z.key = x.key := by simpa using h
        omega
      · exact h
    · split
      · rfl
      · rename_i hz hz2
        unfold hasK at h
        obtain ⟨y, hy, e⟩ := List.any_eq_true.1 h
        have e : y.key = x.key := by simpa using e
        rcases List.mem_cons.1 hy with rfl | hy
        · omega
        · have := h'.1 y hy; omega
theorem putL_len {l : List It} {x : It} (hs : Srt l) : (putL l x).length = l.length + if hasK l x then 0 else 1 := by
  cases h : hasK l x
  · induction l with
    | nil => rfl
    | cons z l ih =>
      have h' := List.pairwise_cons.1 hs
      unfold hasK at h ih
      rw [List.any_cons, Bool.or_eq_false_iff] at h
      have hz : z.key ≠ x.key := by simpa using h.1
      rw [putL]
      split
      · rw [List.length_cons, ih h'.2 h.2]; simp
      · simp
  · rw [putL_old hs h]; simp

end Go.Proofs.YtkglggkkbmmjkaaDoor
