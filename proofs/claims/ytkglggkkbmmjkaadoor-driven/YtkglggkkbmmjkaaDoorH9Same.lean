import Derived.Test.YtkglggkkbmmjkaaDoorH8Scr
import Derived.ProofKit
import Derived.SizedLaws
import Derived.Deep.Slices
import Derived.Lib.SmallJoins
import Derived.Deep.LoopGhost
namespace Go.Proofs.YtkglggkkbmmjkaaDoor
open Go.ChangeShapes Go.WideShapes Go.ChangeAt Go.RowKit Go.Deep

theorem Tryd.own : ownKnob Tryd.prog.godebug = none := by kernel_rfl
theorem Tryd.laidOut : laidOutB Tryd.prog = true := by kernel_rfl
theorem Tryd.cellsOp : Tryd.prog.cellsOf 25 = 4 := by kernel_rfl
theorem Tryd.bytesOp : Tryd.prog.bytesOf 25 = 48 := by kernel_rfl
theorem Tryd.cellsInt : Tryd.prog.cellsOf 3 = 1 := by kernel_rfl
theorem Tryd.cellsStr : Tryd.prog.cellsOf 9 = 1 := by kernel_rfl

/-- one step's cells -/
theorem open_op {H : Type} {enc : TypeId × Value → H} {W : World} {base : Nat} {spare : Nat → Bool} {held : Bool} {n : Nat} {a : Addr} {cs : List Value} {x : DataW H × List MemPlace}
    (hc : W.cells? base a 4 = some cs) (h : DataW.trod enc Tryd.prog W base spare held n 25 cs = some x) :
    a.spot = none ∧ a.block < W.heap.size ∧ ∃ (k n : Int) (g s : ByteArray), g.size ≤ 9223372036854775807 ∧ s.size ≤ 9223372036854775807 ∧
      W.cell? ⟨a.block, a.off, none⟩ = some (.int .i64 k) ∧ W.cell? ⟨a.block, a.off + 1, none⟩ = some (.int .i64 n) ∧ W.cell? ⟨a.block, a.off + 2, none⟩ = some (.string g) ∧ W.cell? ⟨a.block, a.off + 3, none⟩ = some (.string s) := by
  obtain ⟨_, hl, hcell⟩ := World.cells?_some hc
  obtain ⟨y0, y1, y2, y3, m, _, _, h0, h1, h2, h3⟩ := Joins.trod_struct4 Tryd.underlying25 h
  simp only [Tryd.cellsInt, Tryd.cellsStr] at h0 h1 h2 h3
  obtain ⟨k, e0, _, _⟩ := DataW.trod_int Tryd.underlying3 h0
  obtain ⟨n, e1, _, _⟩ := DataW.trod_int Tryd.underlying3 h1
  obtain ⟨g, e2, _, hg⟩ := DataW.trod_string Tryd.underlying9 h2
  obtain ⟨s, e3, _, hs⟩ := DataW.trod_string Tryd.underlying9 h3
  match cs, hl with
  | [c0, c1, c2, c3], _ =>
    simp at e0 e1 e2 e3
    subst e0 e1 e2 e3
    have a0 := hcell 0 (by omega)
    have a1 := hcell 1 (by omega)
    have a2 := hcell 2 (by omega)
    have a3 := hcell 3 (by omega)
    simp at a0 a1 a2 a3
    have hsp : a.spot = none := by
      have := World.cell?_spot a0
      simpa [Addr.add] using this
    obtain ⟨ab, ao, asp⟩ := a
    simp only at hsp
    subst hsp
    simp only [Addr.add_mid, Nat.add_zero] at a0 a1 a2 a3
    exact ⟨rfl, World.cells?_block hc (by omega), k, n, g, s, by simpa [maxLen] using hg, by simpa [maxLen] using hs, a0, a1, a2, a3⟩

set_option maxRecDepth 100000 in
/-- a script that came in -/
theorem open_script {H : Type} {enc : TypeId × Value → H} {W : World} {fuel : Nat} {a0 : Option Addr} {len cap : Nat} {d : DataW H} {p : List MemPlace}
    (hf : DataW.trod enc Tryd.prog W 0 (fun _ => true) true fuel 22 [.slice a0 len cap] = some (d, p))
    (hsz : (DataW.weightsEach Tryd.prog [22] [d]).all (· ≤ reachBytes) = true) : ScriptOk W a0 len := by
  rcases open_slice Tryd.underlying22 hf with ⟨hcs, hx⟩ | ⟨a, len', cap', m, n, D, Pl, hcs, _, hl, hm, hmm, hx, hel⟩
  · simp at hcs
    obtain ⟨rfl, rfl, rfl⟩ := hcs
    exact ⟨by omega, fun i hi => by omega⟩
  · simp only [List.cons.injEq, Value.slice.injEq, and_true] at hcs
    obtain ⟨rfl, rfl, rfl⟩ := hcs
    simp only [if_true] at hmm
    subst hmm
    simp only [Prod.mk.injEq] at hx
    obtain ⟨rfl, rfl⟩ := hx
    have hsize := sized_slice hsz (j := 0) (t := 22) (e := 25) rfl rfl Tryd.underlying22
    rw [Tryd.bytesOp] at hsize
    simp only [List.length_map, List.length_range, reachBytes] at hsize
    refine ⟨by omega, fun i hi => ?_⟩
    obtain ⟨cs0, hc0, ht0⟩ := hel 0 (by omega)
    rw [Tryd.cellsOp] at hc0
    have hsp' := (open_op hc0 ht0).1
    obtain ⟨cs', hc, ht⟩ := hel i (by omega)
    rw [Tryd.cellsOp] at hc
    obtain ⟨_, hb, k, n, g, s, hg, hs, c0, c1, c2, c3⟩ := open_op hc ht
    obtain ⟨ab, ao, asp⟩ := a
    have hsp' : asp = none := by simpa [Addr.add] using hsp'
    subst hsp'
    rw [Addr.add_mid] at hb c0 c1 c2 c3
    exact ⟨ab, ao, rfl, hb, k, n, g, s, hg, hs, c0, c1, c2, c3⟩

end Go.Proofs.YtkglggkkbmmjkaaDoor

namespace Go.Proofs.YtkglggkkbmmjkaaDoor
open Go.RowKit

/-- the reference's sets: 128 cells -/
def sF (S : Nat → Bool) : Nat → Value := fun k => .bool (S k)
theorem sF_add (S : Nat → Bool) (c i : Nat) : upd (sF S) c (.bool true) i = sF (ins S c) i := by
  unfold upd sF ins
  by_cases e : i = c
  · rw [if_pos e, e]; simp
  · rw [if_neg e]; simp [e]
/-- rules that lie in a slice of the reference's -/
structure LAt (w : World) (q : Nat) (rs : List Ru) : Prop where
  ru : RuAt w q rs
  lt : q < w.heap.size
  small : ∀ i (h : i < rs.length), rs[i].R.size ≤ 1000 ∧ rs[i].A ≤ 1000
  ok : RuOk rs
  len : rs.length ≤ 8
theorem LAt.fr {S : List Nat} {w w' : World} {q : Nat} {rs : List Ru} (h : LAt w q rs) (k : Fr S w w') (hq : q ∉ S) : LAt w' q rs :=
  ⟨h.ru.fr k hq h.lt, Nat.lt_of_lt_of_le h.lt k.size, h.small, h.ok, h.len⟩
theorem LAt.fr0 {w w' : World} {q : Nat} {rs : List Ru} (h : LAt w q rs) (k : Fr [] w w') : LAt w' q rs := h.fr k (by simp)

/-- the state of ends, used, nulls: the result's variable r0, the set's r1 -/
def US (w wr : World) (q : Nat) (rs : List Ru) (r0 r1 : Nat) (S : Nat → Bool) : Prop :=
  Fr [] w wr ∧ LAt wr q rs ∧ Blk wr r0 128 (sF fun _ => false) ∧ Blk wr r1 128 (sF S) ∧ w.heap.size ≤ r0 ∧ r0 < r1 ∧ q < w.heap.size
theorem US.put {w wr wr' : World} {q : Nat} {rs : List Ru} {r0 r1 : Nat} {S S' : Nat → Bool} (h : US w wr q rs r0 r1 S) (k : Fr [r1] wr wr') (hB : Blk wr' r1 128 (sF S')) : US w wr' q rs r0 r1 S' := by
  obtain ⟨h1, h2, h3, h4, h5, h6, h7⟩ := h
  exact ⟨h1.trans1 k (Or.inr (by omega)), h2.fr k (by simp; omega), h3.fr1 k (by omega), hB, h5, h6, h7⟩
theorem US.set {w wr : World} {q : Nat} {rs : List Ru} {r0 r1 : Nat} {S : Nat → Bool} (h : US w wr q rs r0 r1 S) (c : Nat) : US w (wr.setCell ⟨r1, c, none⟩ (.bool true)) q rs r0 r1 (ins S c) :=
  h.put ((Fr.refl _ _).setCell _ (by simp) _) ((h.2.2.2.1.setCell c _).congr fun i _ => sF_add S c i)

def reOk (S : Nat → Bool) (c : Nat) : Bool := smallB c || S c
def reRound (rs : List Ru) (S : Nat → Bool) : Nat → Bool := rs.foldl (fun S r => if (bytes r.R).all (reOk S) then ins S r.L else S) S
end Go.Proofs.YtkglggkkbmmjkaaDoor

namespace Go.Proofs.YtkglggkkbmmjkaaDoor
open Go.RowKit

def ruRound (rs : List Ru) (S : Nat → Bool) : Nat → Bool := rs.foldl (fun S r => if S r.L then (bytes r.R).foldl ins S else S) S
end Go.Proofs.YtkglggkkbmmjkaaDoor

namespace Go.Proofs.YtkglggkkbmmjkaaDoor
open Go.RowKit

def rnRound (rs : List Ru) (S : Nat → Bool) : Nat → Bool := rs.foldl (fun S r => if (bytes r.R).all S then ins S r.L else S) S
/-- a set that lies in a block from a place on -/
def NAt (w : World) (b off : Nat) (N : Nat → Bool) : Prop := b < w.heap.size ∧ ∀ i, i < 128 → w.cell? ⟨b, off + i, none⟩ = some (.bool (N i))
theorem NAt.lt {w : World} {b off : Nat} {N : Nat → Bool} (h : NAt w b off N) : b < w.heap.size := h.1
theorem NAt.cell {w : World} {b off : Nat} {N : Nat → Bool} (h : NAt w b off N) (i : Nat) (hi : i < 128) : w.cell? ⟨b, off + i, none⟩ = some (.bool (N i)) := h.2 i hi
theorem NAt.fr {S : List Nat} {w w' : World} {b off : Nat} {N : Nat → Bool} (h : NAt w b off N) (k : Fr S w w') (hb : b ∉ S) : NAt w' b off N :=
  ⟨Nat.lt_of_lt_of_le h.1 k.size, fun i hi => by
    have := h.2 i hi
    unfold World.cell? at this ⊢
    rw [k.block b h.1 hb]; exact this⟩
theorem NAt.fr0 {w w' : World} {b off : Nat} {N : Nat → Bool} (h : NAt w b off N) (k : Fr [] w w') : NAt w' b off N := h.fr k (by simp)
theorem NAt.fr1 {w w' : World} {b off x : Nat} {N : Nat → Bool} (h : NAt w b off N) (k : Fr [x] w w') (hb : b ≠ x) : NAt w' b off N := h.fr k (by simpa using hb)
end Go.Proofs.YtkglggkkbmmjkaaDoor

namespace Go.Proofs.YtkglggkkbmmjkaaDoor
open Go.RowKit

/-- the reference's table: 26 sets -/
def tF (F : Nat → Nat → Bool) : Nat → Value := fun i => .bool (F (65 + i / 128) (i % 128))
/-- the state of begins -/
def BS (w wr : World) (nb no fb : Nat) (N : Nat → Bool) (F : Nat → Nat → Bool) (r0 r1 : Nat) (S : Nat → Bool) : Prop :=
  Fr [] w wr ∧ NAt wr nb no N ∧ Blk wr fb 3328 (tF F) ∧ Blk wr r0 128 (sF fun _ => false) ∧ Blk wr r1 128 (sF S) ∧ w.heap.size ≤ r0 ∧ r0 < r1 ∧ nb < w.heap.size ∧ fb < w.heap.size
theorem BS.put {w wr wr' : World} {nb no fb : Nat} {N : Nat → Bool} {F : Nat → Nat → Bool} {r0 r1 : Nat} {S S' : Nat → Bool} (h : BS w wr nb no fb N F r0 r1 S) (k : Fr [r1] wr wr') (hB : Blk wr' r1 128 (sF S')) : BS w wr' nb no fb N F r0 r1 S' := by
  obtain ⟨h1, h2, h3, h4, h5, h6, h7, h8, h9⟩ := h
  exact ⟨h1.trans1 k (Or.inr (by omega)), h2.fr1 k (by omega), h3.fr1 k (by omega), h4.fr1 k (by omega), hB, h6, h7, h8, h9⟩

end Go.Proofs.YtkglggkkbmmjkaaDoor

namespace Go.Proofs.YtkglggkkbmmjkaaDoor
open Go.RowKit

theorem ownsRow_fr' {S : List Nat} {w w' : World} {base : Nat} {e : TypeId} {size : Nat} {v : Value} {n : Nat} {xs : List Value} (h : w.ownsRow base e size v n xs) (k : Fr S w w') (hS : ∀ g, v.ownBlock = some g → g ∉ S) : w'.ownsRow base e size v n xs := by
  obtain ⟨h1, h2⟩ := h
  refine ⟨h1, ?_⟩
  rcases h2 with h2 | ⟨g, cap, cur, hv, hg, hh, r⟩
  · exact Or.inl h2
  · have hlt : g < w.heap.size := by
      rcases Nat.lt_or_ge g w.heap.size with h | h
      · exact h
      · rw [Array.getElem?_eq_none h] at hh; cases hh
    exact Or.inr ⟨g, cap, cur, hv, hg, by rw [k.block g hlt (hS g (by rw [hv]; rfl))]; exact hh, r⟩

end Go.Proofs.YtkglggkkbmmjkaaDoor

namespace Go.Proofs.YtkglggkkbmmjkaaDoor
open Go.RowKit

def rBad (t : ByteArray) (rs : List Ru) (i : Nat) : Bool := bigB (ch t i) && !rset rs (ch t i)
def rNames (t : ByteArray) (rs : List Ru) : Option Nat := (List.range t.size).find? (rBad t rs)
def rDead (E U : Nat → Bool) : List Ru → Option Nat
  | [] => none
  | r :: l => if !E r.L || !U r.L then some r.A else rDead E U l
def rEnds (rs : List Ru) : Nat → Bool := iter (reRound rs) (rs.length + 1) fun _ => false
def rUsed (rs : List Ru) : Nat → Bool := iter (ruRound rs) (rs.length + 1) (ins (fun _ => false) (stOf rs))
def rErr (t : ByteArray) : Nat × Nat :=
  if 32 < t.size then (1, 0) else
  if (parse t 8 0 []).2.2 = false then (2, (parse t 8 0 []).2.1) else
  match rNames t (parse t 8 0 []).1 with
  | some k => (3, k)
  | none => match rDead (rEnds (parse t 8 0 []).1) (rUsed (parse t 8 0 []).1) (parse t 8 0 []).1 with
    | some k => (4, k)
    | none => (0, 0)

/-- what read hands back -/
def ReadOut (t : ByteArray) (w : World) (e : Ending) (w' : World) : Prop := Fr [] w w' ∧
  ((rErr t).1 ≠ 0 → e = .returned (.tuple #[.slice none 0 0, .int .i64 (rErr t).1, .int .i64 (rErr t).2])) ∧
  ((rErr t).1 = 0 → t.size ≤ 32 ∧ (parse t 8 0 []).2.2 = true ∧ ∃ q cap, e = .returned (.tuple #[.slice (some ⟨q, 0, none⟩) (parse t 8 0 []).1.length cap, .int .i64 0, .int .i64 0]) ∧ LAt w' q (parse t 8 0 []).1 ∧ w.heap.size ≤ q)

end Go.Proofs.YtkglggkkbmmjkaaDoor

namespace Go.Proofs.YtkglggkkbmmjkaaDoor
open Go.RowKit

theorem rErr_zero (t : ByteArray) (h : (rErr t).1 = 0) : (rErr t).2 = 0 := by
  unfold rErr at h ⊢
  by_cases h5 : 32 < t.size
  · rw [if_pos h5]
  · rw [if_neg h5] at h ⊢
    by_cases h6 : (parse t 8 0 []).2.2 = false
    · rw [if_pos h6] at h; simp at h
    · rw [if_neg h6] at h ⊢
      cases h7 : rNames t (parse t 8 0 []).1 with
      | some k => rw [h7] at h; simp at h
      | none =>
        rw [h7] at h
        simp only at h ⊢
        cases h8 : rDead (rEnds (parse t 8 0 []).1) (rUsed (parse t 8 0 []).1) (parse t 8 0 []).1 with
        | some k => rw [h8] at h; simp at h
        | none => rfl

theorem ReadOut.form {t : ByteArray} {w w' : World} {e : Ending} (h : ReadOut t w e w') : ∃ v, e = .returned (.tuple #[v, .int .i64 (rErr t).1, .int .i64 (rErr t).2]) ∧ Fr [] w w' := by
  obtain ⟨h1, h2, h3⟩ := h
  by_cases h0 : (rErr t).1 = 0
  · obtain ⟨_, _, q, cap, he, _⟩ := h3 h0
    refine ⟨.slice (some ⟨q, 0, none⟩) (parse t 8 0 []).1.length cap, ?_, h1⟩
    rw [he, h0]
    have h4 := rErr_zero t h0
    rw [h4]; rfl
  · exact ⟨_, h2 h0, h1⟩

end Go.Proofs.YtkglggkkbmmjkaaDoor

namespace Go.Proofs.YtkglggkkbmmjkaaDoor
open Go.RowKit

theorem countP_lt {p q : Ru → Bool} : ∀ (l : List Ru), (∀ r ∈ l, p r = true → q r = true) → (∃ r ∈ l, p r = false ∧ q r = true) → l.countP p < l.countP q
  | [], _, h => by obtain ⟨r, hr, _⟩ := h; cases hr
  | a :: l, h, h2 => by
    have hle : l.countP p ≤ l.countP q := List.countP_mono_left fun r hr hp => h r (List.mem_cons_of_mem _ hr) hp
    simp only [List.countP_cons]
    obtain ⟨r, hr, hp, hq⟩ := h2
    rcases List.mem_cons.1 hr with rfl | hr
    · rw [hp, hq]; simp; omega
    · have := countP_lt l (fun r hr hp => h r (List.mem_cons_of_mem _ hr) hp) ⟨r, hr, hp, hq⟩
      have ha := h a (List.mem_cons_self ..)
      cases h1 : p a
      · cases h2 : q a <;> simp <;> omega
      · rw [ha h1]; simp; omega

theorem fix_rounds (rs : List Ru) (F : (Nat → Bool) → (Nat → Bool)) (hinf : ∀ S x, S x = true → F S x = true) (hnew : ∀ S x, S x = false → F S x = true → rset rs x = true) (S0 : Nat → Bool) :
    F (iter F rs.length S0) = iter F rs.length S0 := by
  have step : ∀ S, F S = S ∨ rs.countP (fun r => S r.L) + 1 ≤ rs.countP (fun r => F S r.L) := fun S => by
    by_cases h : F S = S
    · exact Or.inl h
    · right
      have : ∃ x, S x = false ∧ F S x = true := by
        apply Classical.byContradiction
        intro hn
        apply h
        funext x
        cases h1 : S x
        · cases h2 : F S x
          · rfl
          · exact absurd ⟨x, h1, h2⟩ hn
        · rw [hinf S x h1]
      obtain ⟨x, h1, h2⟩ := this
      have hr := hnew S x h1 h2
      unfold rset at hr
      obtain ⟨r, hr, hx⟩ := List.any_eq_true.1 hr
      have hx : r.L = x := by simpa using hx
      exact countP_lt rs (fun r _ hp => hinf S _ hp) ⟨r, hr, by rw [hx]; exact h1, by rw [hx]; exact h2⟩
  have key : ∀ k, F (iter F k S0) = iter F k S0 ∨ k ≤ rs.countP (fun r => iter F k S0 r.L) := by
    intro k
    induction k with
    | zero => exact Or.inr (Nat.zero_le _)
    | succ k ih =>
      show F (F (iter F k S0)) = F (iter F k S0) ∨ k + 1 ≤ rs.countP (fun r => F (iter F k S0) r.L)
      rcases step (iter F k S0) with h | h
      · left; rw [h, h]
      · rcases ih with h2 | h2
        · left; rw [h2, h2]
        · right; omega
  rcases key rs.length with h | h
  · exact h
  · rcases step (iter F rs.length S0) with h2 | h2
    · exact h2
    · have := List.countP_le_length (l := rs) (p := fun r => F (iter F rs.length S0) r.L)
      omega

def Bigs (S : Nat → Bool) : Prop := ∀ c, S c = true → bigB c = true
theorem ins_insB {S : Nat → Bool} {c : Nat} (h : bigB c = true) : insB S c = ins S c := by
  funext x; simp [insB, ins, h]
theorem Bigs.ins {S : Nat → Bool} (h : Bigs S) {c : Nat} (hc : bigB c = true) : Bigs (ins S c) := fun x hx => by
  simp only [Go.Proofs.YtkglggkkbmmjkaaDoor.ins, Bool.or_eq_true, beq_iff_eq] at hx
  rcases hx with hx | rfl
  · exact h x hx
  · exact hc
theorem rset_mem {rs : List Ru} {r : Ru} (h : r ∈ rs) : rset rs r.L = true := by
  unfold rset; rw [List.any_eq_true]; exact ⟨r, h, by simp⟩
theorem names_none {S : Nat → Bool} : ∀ {l : List Ru}, names S l = none → ∀ r ∈ l, ∀ j, j < r.R.size → nm S r j = false
  | [], _, r, hr, _, _ => by cases hr
  | a :: l, h, r, hr, j, hj => by
    rw [names] at h
    cases hf : firstIn S a with
    | some k => rw [hf] at h; cases h
    | none =>
      rw [hf] at h
      rcases List.mem_cons.1 hr with rfl | hr
      · unfold firstIn at hf
        rw [List.find?_eq_none] at hf
        have := hf j (by simpa using hj)
        simpa using this
      · exact names_none h r hr j hj

end Go.Proofs.YtkglggkkbmmjkaaDoor
