import Derived.Test.YtkglggkkbmmjkaaDoorE10RUsed
import Derived.Deep.LoopGhost
import Derived.OwnWalk
import Derived.Test.YtkglggkkbmmjkaaDoorE9LSp2
namespace Go.Proofs.YtkglggkkbmmjkaaDoor
open Go.RowKit

def rnRound (rs : List Ru) (S : Nat → Bool) : Nat → Bool := rs.foldl (fun S r => if (bytes r.R).all S then ins S r.L else S) S
/-- a set that lies in a block from a place on -/
def NAt (w : World) (b off : Nat) (N : Nat → Bool) : Prop := b < w.heap.size ∧ ∀ i, i < 128 → w.cell? ⟨b, off + i, none⟩ = some (.bool (N i))
theorem NAt.lt {w : World} {b off : Nat} {N : Nat → Bool} (h : NAt w b off N) : b < w.heap.size := h.1
theorem NAt.cell {w : World} {b off : Nat} {N : Nat → Bool} (h : NAt w b off N) (i : Nat) (hi : i < 128) : w.cell? ⟨b, off + i, none⟩ = some (.bool (N i)) := h.2 i hi
theorem NAt.fr {S : List Nat} {w w' : World} {b off : Nat} {N : Nat → Bool} (h : NAt w b off N) (k : Fr S w w') (hb : b ∉ S) : NAt w' b off N :=
  ⟨Nat.lt_of_lt_of_le h.1 k.size, fun i hi => by
    have := h.2 i hi
    unfold World.cell? at this ⊢
    rw [k.block b h.1 hb]; exact this⟩
theorem NAt.fr0 {w w' : World} {b off : Nat} {N : Nat → Bool} (h : NAt w b off N) (k : Fr [] w w') : NAt w' b off N := h.fr k (by simp)
theorem NAt.fr1 {w w' : World} {b off x : Nat} {N : Nat → Bool} (h : NAt w b off N) (k : Fr [x] w w') (hb : b ≠ x) : NAt w' b off N := h.fr k (by simpa using hb)
end Go.Proofs.YtkglggkkbmmjkaaDoor

namespace Go.Proofs.YtkglggkkbmmjkaaDoor
open Go.RowKit

/-- the reference's table: 26 sets -/
def tF (F : Nat → Nat → Bool) : Nat → Value := fun i => .bool (F (65 + i / 128) (i % 128))
/-- the state of begins -/
def BS (w wr : World) (nb no fb : Nat) (N : Nat → Bool) (F : Nat → Nat → Bool) (r0 r1 : Nat) (S : Nat → Bool) : Prop :=
  Fr [] w wr ∧ NAt wr nb no N ∧ Blk wr fb 3328 (tF F) ∧ Blk wr r0 128 (sF fun _ => false) ∧ Blk wr r1 128 (sF S) ∧ w.heap.size ≤ r0 ∧ r0 < r1 ∧ nb < w.heap.size ∧ fb < w.heap.size
theorem BS.put {w wr wr' : World} {nb no fb : Nat} {N : Nat → Bool} {F : Nat → Nat → Bool} {r0 r1 : Nat} {S S' : Nat → Bool} (h : BS w wr nb no fb N F r0 r1 S) (k : Fr [r1] wr wr') (hB : Blk wr' r1 128 (sF S')) : BS w wr' nb no fb N F r0 r1 S' := by
  obtain ⟨h1, h2, h3, h4, h5, h6, h7, h8, h9⟩ := h
  exact ⟨h1.trans1 k (Or.inr (by omega)), h2.fr1 k (by omega), h3.fr1 k (by omega), h4.fr1 k (by omega), hB, h6, h7, h8, h9⟩

end Go.Proofs.YtkglggkkbmmjkaaDoor

namespace Go.Proofs.YtkglggkkbmmjkaaDoor
open Go.RowKit

theorem ownsRow_fr' {S : List Nat} {w w' : World} {base : Nat} {e : TypeId} {size : Nat} {v : Value} {n : Nat} {xs : List Value} (h : w.ownsRow base e size v n xs) (k : Fr S w w') (hS : ∀ g, v.ownBlock = some g → g ∉ S) : w'.ownsRow base e size v n xs := by
  obtain ⟨h1, h2⟩ := h
  refine ⟨h1, ?_⟩
  rcases h2 with h2 | ⟨g, cap, cur, hv, hg, hh, r⟩
  · exact Or.inl h2
  · have hlt : g < w.heap.size := by
      rcases Nat.lt_or_ge g w.heap.size with h | h
      · exact h
      · rw [Array.getElem?_eq_none h] at hh; cases hh
    exact Or.inr ⟨g, cap, cur, hv, hg, by rw [k.block g hlt (hS g (by rw [hv]; rfl))]; exact hh, r⟩

end Go.Proofs.YtkglggkkbmmjkaaDoor

namespace Go.Proofs.YtkglggkkbmmjkaaDoor
open Go.RowKit

def rBad (t : ByteArray) (rs : List Ru) (i : Nat) : Bool := bigB (ch t i) && !rset rs (ch t i)
def rNames (t : ByteArray) (rs : List Ru) : Option Nat := (List.range t.size).find? (rBad t rs)
def rDead (E U : Nat → Bool) : List Ru → Option Nat
  | [] => none
  | r :: l => if !E r.L || !U r.L then some r.A else rDead E U l
def rEnds (rs : List Ru) : Nat → Bool := iter (reRound rs) (rs.length + 1) fun _ => false
def rUsed (rs : List Ru) : Nat → Bool := iter (ruRound rs) (rs.length + 1) (ins (fun _ => false) (stOf rs))
def rErr (t : ByteArray) : Nat × Nat :=
  if 32 < t.size then (1, 0) else
  if (parse t 8 0 []).2.2 = false then (2, (parse t 8 0 []).2.1) else
  match rNames t (parse t 8 0 []).1 with
  | some k => (3, k)
  | none => match rDead (rEnds (parse t 8 0 []).1) (rUsed (parse t 8 0 []).1) (parse t 8 0 []).1 with
    | some k => (4, k)
    | none => (0, 0)

/-- what read hands back -/
def ReadOut (t : ByteArray) (w : World) (e : Ending) (w' : World) : Prop := Fr [] w w' ∧
  ((rErr t).1 ≠ 0 → e = .returned (.tuple #[.slice none 0 0, .int .i64 (rErr t).1, .int .i64 (rErr t).2])) ∧
  ((rErr t).1 = 0 → t.size ≤ 32 ∧ (parse t 8 0 []).2.2 = true ∧ ∃ q cap, e = .returned (.tuple #[.slice (some ⟨q, 0, none⟩) (parse t 8 0 []).1.length cap, .int .i64 0, .int .i64 0]) ∧ LAt w' q (parse t 8 0 []).1 ∧ w.heap.size ≤ q)

theorem ReadOut.bad {t : ByteArray} {w w' : World} {e : Ending} {a b : Nat} (h : rErr t = (a, b)) (ha : a ≠ 0) (hf : Fr [] w w') (he : e = .returned (.tuple #[.slice none 0 0, .int .i64 a, .int .i64 b])) : ReadOut t w e w' :=
  ⟨hf, fun _ => by rw [h]; exact he, fun h0 => absurd (by rw [h] at h0; exact h0) ha⟩

end Go.Proofs.YtkglggkkbmmjkaaDoor

namespace Go.Proofs.YtkglggkkbmmjkaaDoor
open Go.RowKit

theorem rErr_zero (t : ByteArray) (h : (rErr t).1 = 0) : (rErr t).2 = 0 := by
  unfold rErr at h ⊢
  by_cases h5 : 32 < t.size
  · rw [if_pos h5]
  · rw [if_neg h5] at h ⊢
    by_cases h6 : (parse t 8 0 []).2.2 = false
    · rw [if_pos h6] at h; simp at h
    · rw [if_neg h6] at h ⊢
      cases h7 : rNames t (parse t 8 0 []).1 with
      | some k => rw [h7] at h; simp at h
      | none =>
        rw [h7] at h
        simp only at h ⊢
        cases h8 : rDead (rEnds (parse t 8 0 []).1) (rUsed (parse t 8 0 []).1) (parse t 8 0 []).1 with
        | some k => rw [h8] at h; simp at h
        | none => rfl

theorem ReadOut.form {t : ByteArray} {w w' : World} {e : Ending} (h : ReadOut t w e w') : ∃ v, e = .returned (.tuple #[v, .int .i64 (rErr t).1, .int .i64 (rErr t).2]) ∧ Fr [] w w' := by
  obtain ⟨h1, h2, h3⟩ := h
  by_cases h0 : (rErr t).1 = 0
  · obtain ⟨_, _, q, cap, he, _⟩ := h3 h0
    refine ⟨.slice (some ⟨q, 0, none⟩) (parse t 8 0 []).1.length cap, ?_, h1⟩
    rw [he, h0]
    have h4 := rErr_zero t h0
    rw [h4]; rfl
  · exact ⟨_, h2 h0, h1⟩

end Go.Proofs.YtkglggkkbmmjkaaDoor

namespace Go.Proofs.YtkglggkkbmmjkaaDoor
open Go.RowKit

theorem countP_lt {p q : Ru → Bool} : ∀ (l : List Ru), (∀ r ∈ l, p r = true → q r = true) → (∃ r ∈ l, p r = false ∧ q r = true) → l.countP p < l.countP q
  | [], _, h => by obtain ⟨r, hr, _⟩ := h; cases hr
  | a :: l, h, h2 => by
    have hle : l.countP p ≤ l.countP q := List.countP_mono_left fun r hr hp => h r (List.mem_cons_of_mem _ hr) hp
    simp only [List.countP_cons]
    obtain ⟨r, hr, hp, hq⟩ := h2
    rcases List.mem_cons.1 hr with rfl | hr
    · rw [hp, hq]; simp; omega
    · have := countP_lt l (fun r hr hp => h r (List.mem_cons_of_mem _ hr) hp) ⟨r, hr, hp, hq⟩
      have ha := h a (List.mem_cons_self ..)
      cases h1 : p a
      · cases h2 : q a <;> simp <;> omega
      · rw [ha h1]; simp; omega

theorem fix_rounds (rs : List Ru) (F : (Nat → Bool) → (Nat → Bool)) (hinf : ∀ S x, S x = true → F S x = true) (hnew : ∀ S x, S x = false → F S x = true → rset rs x = true) (S0 : Nat → Bool) :
    F (iter F rs.length S0) = iter F rs.length S0 := by
  have step : ∀ S, F S = S ∨ rs.countP (fun r => S r.L) + 1 ≤ rs.countP (fun r => F S r.L) := fun S => by
    by_cases h : F S = S
    · exact Or.inl h
    · right
      have : ∃ x, S x = false ∧ F S x = true := by
        apply Classical.byContradiction
        intro hn
        apply h
        funext x
        cases h1 : S x
        · cases h2 : F S x
          · rfl
          · exact absurd ⟨x, h1, h2⟩ hn
        · rw [hinf S x h1]
      obtain ⟨x, h1, h2⟩ := this
      have hr := hnew S x h1 h2
      unfold rset at hr
      obtain ⟨r, hr, hx⟩ := List.any_eq_true.1 hr
      have hx : r.L = x := by simpa using hx
      exact countP_lt rs (fun r _ hp => hinf S _ hp) ⟨r, hr, by rw [hx]; exact h1, by rw [hx]; exact h2⟩
  have key : ∀ k, F (iter F k S0) = iter F k S0 ∨ k ≤ rs.countP (fun r => iter F k S0 r.L) := by
    intro k
    induction k with
    | zero => exact Or.inr (Nat.zero_le _)
    | succ k ih =>
      show F (F (iter F k S0)) = F (iter F k S0) ∨ k + 1 ≤ rs.countP (fun r => F (iter F k S0) r.L)
      rcases step (iter F k S0) with h | h
      · left; rw [h, h]
      · rcases ih with h2 | h2
        · left; rw [h2, h2]
        · right; omega
  rcases key rs.length with h | h
  · exact h
  · rcases step (iter F rs.length S0) with h2 | h2
    · exact h2
    · have := List.countP_le_length (l := rs) (p := fun r => F (iter F rs.length S0) r.L)
      omega

def Bigs (S : Nat → Bool) : Prop := ∀ c, S c = true → bigB c = true
theorem ins_insB {S : Nat → Bool} {c : Nat} (h : bigB c = true) : insB S c = ins S c := by
  funext x; simp [insB, ins, h]
theorem Bigs.ins {S : Nat → Bool} (h : Bigs S) {c : Nat} (hc : bigB c = true) : Bigs (ins S c) := fun x hx => by
  simp only [Go.Proofs.YtkglggkkbmmjkaaDoor.ins, Bool.or_eq_true, beq_iff_eq] at hx
  rcases hx with hx | rfl
  · exact h x hx
  · exact hc
def Chain (t : ByteArray) : Nat → List Ru → Prop
  | _, [] => False
  | i, r :: l => r.A = i ∧ r.L = ch t i ∧ ch t (i + 1) = 61 ∧ (∀ j, j < r.R.size → ch r.R j = ch t (i + 2 + j)) ∧
    ((l = [] ∧ i + 2 + r.R.size = t.size) ∨ (i + 2 + r.R.size < t.size ∧ ch t (i + 2 + r.R.size) = 59 ∧ Chain t (i + 2 + r.R.size + 1) l))

theorem parse_chain (t : ByteArray) : ∀ f i acc, (parse t f i acc).2.2 = true → ∃ l, (parse t f i acc).1 = acc ++ l ∧ Chain t i l
  | 0, i, acc, h => by simp [parse] at h
  | f + 1, i, acc, h => by
    by_cases h0 : i < t.size ∧ bigB (ch t i) = true
    · by_cases h1 : i + 1 < t.size ∧ ch t (i + 1) = 61
      · have hb := runEnd_bd t 4 (i + 2)
        have hs : (t.extract (i + 2) (runEnd t 4 (i + 2))).size = runEnd t 4 (i + 2) - (i + 2) := by
          rw [ByteArray.size_extract]; omega
        have hr : ∀ j, j < (t.extract (i + 2) (runEnd t 4 (i + 2))).size → ch (t.extract (i + 2) (runEnd t 4 (i + 2))) j = ch t (i + 2 + j) := fun j hj =>
          ch_extract t _ _ j (by rw [← hs]; exact hj) (by omega)
        have he : i + 2 + (t.extract (i + 2) (runEnd t 4 (i + 2))).size = runEnd t 4 (i + 2) := by omega
        by_cases h2 : runEnd t 4 (i + 2) < t.size
        · by_cases h3 : f = 0 ∨ ch t (runEnd t 4 (i + 2)) ≠ 59
          · rw [parse_bad2 t f i acc h0 h1 h2 h3] at h; cases h
          · rw [parse_more t f i acc h0 h1 h2 h3] at h ⊢
            obtain ⟨l, hl, hc⟩ := parse_chain t f _ _ h
            refine ⟨⟨ch t i, t.extract (i + 2) (runEnd t 4 (i + 2)), i⟩ :: l, by rw [hl, List.append_assoc]; rfl, rfl, rfl, h1.2, hr, Or.inr ?_⟩
            show i + 2 + (t.extract (i + 2) (runEnd t 4 (i + 2))).size < t.size ∧ ch t (i + 2 + (t.extract (i + 2) (runEnd t 4 (i + 2))).size) = 59 ∧ Chain t (i + 2 + (t.extract (i + 2) (runEnd t 4 (i + 2))).size + 1) l
            rw [he]
            exact ⟨h2, by omega, hc⟩
        · rw [parse_end t f i acc h0 h1 h2]
          refine ⟨[⟨ch t i, t.extract (i + 2) (runEnd t 4 (i + 2)), i⟩], rfl, rfl, rfl, h1.2, hr, Or.inl ⟨rfl, ?_⟩⟩
          show i + 2 + (t.extract (i + 2) (runEnd t 4 (i + 2))).size = t.size
          omega
      · rw [parse_bad1 t f i acc h0 h1] at h; cases h
    · rw [parse_bad0 t f i acc h0] at h; cases h

theorem rset_mem {rs : List Ru} {r : Ru} (h : r ∈ rs) : rset rs r.L = true := by
  unfold rset; rw [List.any_eq_true]; exact ⟨r, h, by simp⟩
theorem names_none {S : Nat → Bool} : ∀ {l : List Ru}, names S l = none → ∀ r ∈ l, ∀ j, j < r.R.size → nm S r j = false
  | [], _, r, hr, _, _ => by cases hr
  | a :: l, h, r, hr, j, hj => by
    rw [names] at h
    cases hf : firstIn S a with
    | some k => rw [hf] at h; cases h
    | none =>
      rw [hf] at h
      rcases List.mem_cons.1 hr with rfl | hr
      · unfold firstIn at hf
        rw [List.find?_eq_none] at hf
        have := hf j (by simpa using hj)
        simpa using this
      · exact names_none h r hr j hj

end Go.Proofs.YtkglggkkbmmjkaaDoor

namespace Go.Proofs.YtkglggkkbmmjkaaDoor
open Go.RowKit

/-- one step of a round: a letter, and what joins its set -/
structure Stp where
  L : Nat
  B : Nat → (Nat → Bool) → Bool
def stepF (F : Nat → Nat → Bool) (s : Stp) : Nat → Nat → Bool := joinF F s.L (fun x => s.B x (fun c => F c x))
def jRound (l : List Stp) (F : Nat → Nat → Bool) : Nat → Nat → Bool := l.foldl stepF F
def colStep (x : Nat) (C : Nat → Bool) (s : Stp) : Nat → Bool := fun a => C a || (a == s.L && s.B x C)
def colRound (l : List Stp) (x : Nat) (C : Nat → Bool) : Nat → Bool := l.foldl (colStep x) C
theorem jRound_col : ∀ (l : List Stp) (F : Nat → Nat → Bool) (c x : Nat), jRound l F c x = colRound l x (fun c => F c x) c
  | [], _, _, _ => rfl
  | s :: l, F, c, x => by
    show jRound l (stepF F s) c x = colRound l x (colStep x (fun c => F c x) s) c
    rw [jRound_col l]; rfl
theorem iterF_col (l : List Stp) (F0 : Nat → Nat → Bool) : ∀ (n c x : Nat), iterF (jRound l) n F0 c x = iter (colRound l x) n (fun c => F0 c x) c
  | 0, _, _ => rfl
  | n + 1, c, x => by
    show jRound l (iterF (jRound l) n F0) c x = colRound l x (iter (colRound l x) n (fun c => F0 c x)) c
    rw [jRound_col, show (fun c => iterF (jRound l) n F0 c x) = iter (colRound l x) n (fun c => F0 c x) from funext fun c => iterF_col l F0 n c x]
theorem col_inf (x : Nat) : ∀ (l : List Stp) (C : Nat → Bool) (a : Nat), C a = true → colRound l x C a = true
  | [], _, _, h => h
  | s :: l, C, a, h => by
    refine col_inf x l (colStep x C s) a ?_
    unfold colStep; rw [h]; rfl
theorem col_new (rs : List Ru) (x : Nat) : ∀ (l : List Stp), (∀ s ∈ l, rset rs s.L = true) → ∀ (C : Nat → Bool) (a : Nat), C a = false → colRound l x C a = true → rset rs a = true
  | [], _, C, a, h1, h2 => by
    have : C a = true := h2
    rw [h1] at this; cases this
  | s :: l, hl, C, a, h1, h2 => by
    have h2' : colRound l x (colStep x C s) a = true := h2
    cases h3 : colStep x C s a
    · exact col_new rs x l (fun s hs => hl s (List.mem_cons_of_mem _ hs)) _ a h3 h2'
    · unfold colStep at h3
      rw [h1, Bool.false_or, Bool.and_eq_true, beq_iff_eq] at h3
      rw [h3.1]; exact hl s (List.mem_cons_self ..)
theorem j_fix (rs : List Ru) (l : List Stp) (hl : ∀ s ∈ l, rset rs s.L = true) (F0 : Nat → Nat → Bool) (c x : Nat) : iterF (jRound l) (rs.length + 1) F0 c x = iterF (jRound l) rs.length F0 c x := by
  rw [iterF_col, iterF_col]
  exact congrFun (fix_rounds rs (colRound l x) (col_inf x l) (col_new rs x l hl) (fun c => F0 c x)) c
theorem iter_stay {f : (Nat → Bool) → (Nat → Bool)} {k : Nat} {S : Nat → Bool} (h : iter f (k + 1) S = iter f k S) : ∀ j, iter f (k + j) S = iter f k S
  | 0 => rfl
  | j + 1 => by
    show f (iter f (k + j) S) = iter f k S
    rw [iter_stay h j]; exact h
theorem j_stable (l : List Stp) (F0 : Nat → Nat → Bool) (k n : Nat) (hk : k ≤ n) (h : ∀ c x, x < 128 → iterF (jRound l) (k + 1) F0 c x = iterF (jRound l) k F0 c x) (c x : Nat) (hx : x < 128) :
    iterF (jRound l) (k + 1) F0 c x = iterF (jRound l) n F0 c x := by
  have hc : iter (colRound l x) (k + 1) (fun c => F0 c x) = iter (colRound l x) k (fun c => F0 c x) := funext fun c => by rw [← iterF_col, ← iterF_col]; exact h c x hx
  rw [iterF_col, iterF_col, hc, show n = k + (n - k) from by omega, iter_stay hc]

/-- has a table grown since? -/
def Grew (F G : Nat → Nat → Bool) (v : Bool) : Prop := (∀ c x, F c x = true → G c x = true) ∧ (v = false → ∀ c x, x < 128 → G c x = F c x) ∧ (v = true → ∃ c x, x < 128 ∧ G c x = true ∧ F c x = false)
theorem Grew.start (F : Nat → Nat → Bool) : Grew F F false := ⟨fun _ _ h => h, fun _ _ _ _ => rfl, fun h => by cases h⟩
/-- where the loop stands: so many rounds, and shall there be one more? -/
def Stand (l : List Stp) (F0 : Nat → Nat → Bool) (n k : Nat) (v : Bool) : Prop := (v = true → k ≤ n) ∧ (v = false → ∀ c x, x < 128 → iterF (jRound l) k F0 c x = iterF (jRound l) n F0 c x)
theorem Stand.start (l : List Stp) (F0 : Nat → Nat → Bool) (n : Nat) : Stand l F0 n 0 true := ⟨fun _ => Nat.zero_le _, fun h => by cases h⟩
theorem Stand.next {rs : List Ru} {l : List Stp} {F0 : Nat → Nat → Bool} {k : Nat} {v : Bool} (hl : ∀ s ∈ l, rset rs s.L = true) (h : Stand l F0 rs.length k true)
    (hg : Grew (iterF (jRound l) k F0) (iterF (jRound l) (k + 1) F0) v) : Stand l F0 rs.length (k + 1) v := by
  have hk := h.1 rfl
  refine ⟨fun hv => ?_, fun hv => j_stable l F0 k rs.length hk (hg.2.1 hv)⟩
  obtain ⟨c, x, hx, h1, h2⟩ := hg.2.2 hv
  rcases Nat.lt_or_ge k rs.length with hlt | hge
  · exact hlt
  · have e : k = rs.length := by omega
    subst e
    rw [j_fix rs l hl F0 c x, h2] at h1; cases h1

def begc (N : Nat → Bool) (x : Nat) (C : Nat → Bool) : List Nat → Bool
  | [] => false
  | c :: l => if smallB c then x == c else C c || (hasB N c && begc N x C l)
theorem beg_col (N : Nat → Bool) (F : Nat → Nat → Bool) (x : Nat) : ∀ l, beg N F l x = begc N x (fun c => F c x) l
  | [] => rfl
  | c :: l => by rw [beg, begc, beg_col N F x l]
def ffSteps (N : Nat → Bool) (rs : List Ru) : List Stp := rs.map fun r => ⟨r.L, fun x C => begc N x C (bytes r.R)⟩
theorem ffRound_eq (N : Nat → Bool) (rs : List Ru) : ffRound N rs = jRound (ffSteps N rs) := by
  funext F
  unfold ffRound jRound ffSteps
  rw [List.foldl_map]
  congr 1
  funext F r
  unfold stepF
  congr 1
  funext x
  exact beg_col N F x _
theorem ffSteps_in (N : Nat → Bool) (rs : List Ru) : ∀ s ∈ ffSteps N rs, rset rs s.L = true := fun s hs => by
  obtain ⟨r, hr, rfl⟩ := List.mem_map.1 hs
  exact rset_mem hr

theorem beg_small {N : Nat → Bool} {F : Nat → Nat → Bool} (hF : ∀ c x, F c x = true → smallB x = true) : ∀ l x, beg N F l x = true → smallB x = true
  | [], _, h => by cases h
  | c :: l, x, h => by
    rw [beg] at h
    split at h
    · have : x = c := by simpa using h
      subst this; assumption
    · rw [Bool.or_eq_true, Bool.and_eq_true] at h
      rcases h with h | h
      · exact hF c x h
      · exact beg_small hF l x h.2
theorem joinF_small {F : Nat → Nat → Bool} {L : Nat} {B : Nat → Bool} (hF : ∀ c x, F c x = true → smallB x = true) (hB : ∀ x, B x = true → smallB x = true) : ∀ c x, joinF F L B c x = true → smallB x = true := fun c x h => by
  unfold joinF at h
  rw [Bool.or_eq_true, Bool.and_eq_true] at h
  rcases h with h | h
  · exact hF c x h
  · exact hB x h.2
theorem ffRound_small (N : Nat → Bool) : ∀ (rs : List Ru) (F : Nat → Nat → Bool), (∀ c x, F c x = true → smallB x = true) → ∀ c x, ffRound N rs F c x = true → smallB x = true
  | [], _, h => h
  | r :: rs, F, h => ffRound_small N rs (joinF F r.L (beg N F (bytes r.R))) (joinF_small h (beg_small h _))
theorem iterF_small (N : Nat → Bool) (rs : List Ru) : ∀ n c x, iterF (ffRound N rs) n (fun _ _ => false) c x = true → smallB x = true
  | 0, _, _, h => by cases h
  | n + 1, c, x, h => ffRound_small N rs _ (iterF_small N rs n) c x h

theorem van_eq0 {S : Nat → Bool} (h : Bigs S) (c : Nat) : vanB S false c = S c := by
  unfold vanB hasB
  cases h1 : S c
  · simp
  · simp [h c h1]
theorem mk_rn_fold (l : List Ru) (hl : ∀ r ∈ l, bigB r.L = true) : ∀ S, Bigs S → mkRound false l S = rnRound l S ∧ Bigs (rnRound l S) := by
  induction l with
  | nil => exact fun S h => ⟨rfl, h⟩
  | cons r l ih =>
    intro S h
    have hr := hl r (List.mem_cons_self ..)
    have e : (bytes r.R).all (vanB S false) = (bytes r.R).all S := by
      rw [show vanB S false = S from funext (van_eq0 h)]
    show mkRound false l (if (bytes r.R).all (vanB S false) then insB S r.L else S) = rnRound l (if (bytes r.R).all S then Go.Proofs.YtkglggkkbmmjkaaDoor.ins S r.L else S) ∧ Bigs (rnRound l (if (bytes r.R).all S then Go.Proofs.YtkglggkkbmmjkaaDoor.ins S r.L else S))
    rw [e, ins_insB hr]
    have hb : Bigs (if (bytes r.R).all S then Go.Proofs.YtkglggkkbmmjkaaDoor.ins S r.L else S) := by
      split
      · exact h.ins hr
      · exact h
    exact ih (fun r hr => hl r (List.mem_cons_of_mem _ hr)) _ hb
theorem mk_rn_iter (rs : List Ru) (hl : ∀ r ∈ rs, bigB r.L = true) (S : Nat → Bool) (hS : Bigs S) : ∀ n, iter (mkRound false rs) n S = iter (rnRound rs) n S ∧ Bigs (iter (rnRound rs) n S)
  | 0 => ⟨rfl, hS⟩
  | n + 1 => by
    obtain ⟨h1, h2⟩ := mk_rn_iter rs hl S hS n
    show mkRound false rs (iter (mkRound false rs) n S) = rnRound rs (iter (rnRound rs) n S) ∧ Bigs (rnRound rs (iter (rnRound rs) n S))
    rw [h1]; exact mk_rn_fold rs hl _ h2
theorem rn_inf (l : List Ru) : ∀ (S : Nat → Bool) (x : Nat), S x = true → rnRound l S x = true := by
  induction l with
  | nil => exact fun _ _ h => h
  | cons r l ih =>
    intro S x h
    show rnRound l (if (bytes r.R).all S then ins S r.L else S) x = true
    apply ih
    split
    · simp [ins, h]
    · exact h
theorem rn_new (l : List Ru) : ∀ (S : Nat → Bool) (x : Nat), S x = false → rnRound l S x = true → rset l x = true := by
  induction l with
  | nil => intro S x h1 h2; exact absurd h2 (by show ¬ S x = true; rw [h1]; simp)
  | cons r l ih =>
    intro S x h1 h2
    have h2' : rnRound l (if (bytes r.R).all S then ins S r.L else S) x = true := h2
    by_cases e : r.L = x
    · simp [rset, e]
    · have : rset l x = true := by
        refine ih _ x ?_ h2'
        split
        · simp only [ins, h1, Bool.false_or, beq_eq_false_iff_ne]; exact fun h => e h.symm
        · exact h1
      unfold rset at this ⊢
      rw [List.any_cons, this, Bool.or_true]
theorem nulls_eq (rs : List Ru) (hl : ∀ r ∈ rs, bigB r.L = true) : iter (rnRound rs) (rs.length + 1) (fun _ => false) = nullS rs := by
  unfold nullS
  rw [(mk_rn_iter rs hl _ (fun _ h => by cases h) rs.length).1]
  exact fix_rounds rs (rnRound rs) (rn_inf rs) (rn_new rs) _
theorem nulls_bigs (rs : List Ru) (hl : ∀ r ∈ rs, bigB r.L = true) : Bigs (nullS rs) := by
  unfold nullS
  rw [(mk_rn_iter rs hl _ (fun _ h => by cases h) rs.length).1]
  exact (mk_rn_iter rs hl _ (fun _ h => by cases h) rs.length).2

end Go.Proofs.YtkglggkkbmmjkaaDoor

namespace Go.Proofs.YtkglggkkbmmjkaaDoor
open Go.RowKit

/-- the state of firsts -/
def FSt (w wr : World) (nb no fb q : Nat) (rs : List Ru) (N : Nat → Bool) (F : Nat → Nat → Bool) : Prop :=
  Fr [] w wr ∧ LAt wr q rs ∧ NAt wr nb no N ∧ Blk wr fb 3328 (tF F) ∧ w.heap.size ≤ fb ∧ nb < w.heap.size ∧ q < w.heap.size
theorem FSt.fr {w wr wr' : World} {nb no fb q : Nat} {rs : List Ru} {N : Nat → Bool} {F : Nat → Nat → Bool} (h : FSt w wr nb no fb q rs N F) (k : Fr [] wr wr') : FSt w wr' nb no fb q rs N F := by
  obtain ⟨h1, h2, h3, h4, h5⟩ := h
  exact ⟨h1.trans0 k, h2.fr0 k, h3.fr0 k, h4.fr0 k, h5⟩
theorem FSt.far {w wr wr' : World} {nb no fb q x : Nat} {rs : List Ru} {N : Nat → Bool} {F : Nat → Nat → Bool} (h : FSt w wr nb no fb q rs N F) (k : Fr [x] wr wr') (hx : w.heap.size ≤ x) (hx2 : fb ≠ x) : FSt w wr' nb no fb q rs N F := by
  obtain ⟨h1, h2, h3, h4, h5, h6, h7⟩ := h
  exact ⟨h1.trans1 k (Or.inr hx), h2.fr k (by simp; omega), h3.fr1 k (by omega), h4.fr1 k hx2, h5, h6, h7⟩
theorem FSt.put {w wr wr' : World} {nb no fb q : Nat} {rs : List Ru} {N : Nat → Bool} {F F' : Nat → Nat → Bool} (h : FSt w wr nb no fb q rs N F) (k : Fr [fb] wr wr') (hB : Blk wr' fb 3328 (tF F')) : FSt w wr' nb no fb q rs N F' := by
  obtain ⟨h1, h2, h3, h4, h5, h6, h7⟩ := h
  exact ⟨h1.trans1 k (Or.inr h5), h2.fr k (by simp; omega), h3.fr1 k (by omega), hB, h5, h6, h7⟩

end Go.Proofs.YtkglggkkbmmjkaaDoor

namespace Go.Proofs.YtkglggkkbmmjkaaDoor
open Go.RowKit

def rlU (S : Nat → Bool) (k : Nat) : List UInt8 := ((List.range k).filter S).map UInt8.ofNat
def rlst (S : Nat → Bool) : ByteArray := ⟨(rlU S 128).toArray⟩
end Go.Proofs.YtkglggkkbmmjkaaDoor
