import Derived.Test.YtkglggkkbmmjkaaDoorE8Scr
import Derived.ProofKit
import Derived.SizedLaws
import Derived.Deep.Slices
import Derived.Lib.SmallJoins
import Derived.Test.YtkglggkkbmmjkaaDoorE1ReadRule
import Derived.Deep.QuietTactic
import Derived.BigQuiet
import Derived.OwnWalk
import Derived.Laws.IdiomStrings
import Derived.Deep.RegionHeld3
import Derived.Deep.RegionLaw
namespace Go.Proofs.YtkglggkkbmmjkaaDoor
open Go.ChangeShapes Go.WideShapes Go.ChangeAt Go.RowKit Go.Deep

theorem Tryd.own : ownKnob Tryd.prog.godebug = none := by kernel_rfl
theorem Tryd.laidOut : laidOutB Tryd.prog = true := by kernel_rfl
theorem Tryd.cellsOp : Tryd.prog.cellsOf 25 = 4 := by kernel_rfl
theorem Tryd.bytesOp : Tryd.prog.bytesOf 25 = 48 := by kernel_rfl
theorem Tryd.cellsInt : Tryd.prog.cellsOf 3 = 1 := by kernel_rfl
theorem Tryd.cellsStr : Tryd.prog.cellsOf 9 = 1 := by kernel_rfl

/-- one step's cells -/
theorem open_op {H : Type} {enc : TypeId × Value → H} {W : World} {base : Nat} {spare : Nat → Bool} {held : Bool} {n : Nat} {a : Addr} {cs : List Value} {x : DataW H × List MemPlace}
    (hc : W.cells? base a 4 = some cs) (h : DataW.trod enc Tryd.prog W base spare held n 25 cs = some x) :
    a.spot = none ∧ a.block < W.heap.size ∧ ∃ (k n : Int) (g s : ByteArray), g.size ≤ 9223372036854775807 ∧ s.size ≤ 9223372036854775807 ∧
      W.cell? ⟨a.block, a.off, none⟩ = some (.int .i64 k) ∧ W.cell? ⟨a.block, a.off + 1, none⟩ = some (.int .i64 n) ∧ W.cell? ⟨a.block, a.off + 2, none⟩ = some (.string g) ∧ W.cell? ⟨a.block, a.off + 3, none⟩ = some (.string s) := by
  obtain ⟨_, hl, hcell⟩ := World.cells?_some hc
  obtain ⟨y0, y1, y2, y3, m, _, _, h0, h1, h2, h3⟩ := Joins.trod_struct4 Tryd.underlying25 h
  simp only [Tryd.cellsInt, Tryd.cellsStr] at h0 h1 h2 h3
  obtain ⟨k, e0, _, _⟩ := DataW.trod_int Tryd.underlying3 h0
  obtain ⟨n, e1, _, _⟩ := DataW.trod_int Tryd.underlying3 h1
  obtain ⟨g, e2, _, hg⟩ := DataW.trod_string Tryd.underlying9 h2
  obtain ⟨s, e3, _, hs⟩ := DataW.trod_string Tryd.underlying9 h3
  match cs, hl with
  | [c0, c1, c2, c3], _ =>
    simp at e0 e1 e2 e3
    subst e0 e1 e2 e3
    have a0 := hcell 0 (by omega)
    have a1 := hcell 1 (by omega)
    have a2 := hcell 2 (by omega)
    have a3 := hcell 3 (by omega)
    simp at a0 a1 a2 a3
    have hsp : a.spot = none := by
      have := World.cell?_spot a0
      simpa [Addr.add] using this
    obtain ⟨ab, ao, asp⟩ := a
    simp only at hsp
    subst hsp
    simp only [Addr.add_mid, Nat.add_zero] at a0 a1 a2 a3
    exact ⟨rfl, World.cells?_block hc (by omega), k, n, g, s, by simpa [maxLen] using hg, by simpa [maxLen] using hs, a0, a1, a2, a3⟩

set_option maxRecDepth 100000 in
/-- a script that came in -/
theorem open_script {H : Type} {enc : TypeId × Value → H} {W : World} {fuel : Nat} {a0 : Option Addr} {len cap : Nat} {d : DataW H} {p : List MemPlace}
    (hf : DataW.trod enc Tryd.prog W 0 (fun _ => true) true fuel 22 [.slice a0 len cap] = some (d, p))
    (hsz : (DataW.weightsEach Tryd.prog [22] [d]).all (· ≤ reachBytes) = true) : ScriptOk W a0 len := by
  rcases open_slice Tryd.underlying22 hf with ⟨hcs, hx⟩ | ⟨a, len', cap', m, n, D, Pl, hcs, _, hl, hm, hmm, hx, hel⟩
  · simp at hcs
    obtain ⟨rfl, rfl, rfl⟩ := hcs
    exact ⟨by omega, fun i hi => by omega⟩
  · simp only [List.cons.injEq, Value.slice.injEq, and_true] at hcs
    obtain ⟨rfl, rfl, rfl⟩ := hcs
    simp only [if_true] at hmm
    subst hmm
    simp only [Prod.mk.injEq] at hx
    obtain ⟨rfl, rfl⟩ := hx
    have hsize := sized_slice hsz (j := 0) (t := 22) (e := 25) rfl rfl Tryd.underlying22
    rw [Tryd.bytesOp] at hsize
    simp only [List.length_map, List.length_range, reachBytes] at hsize
    refine ⟨by omega, fun i hi => ?_⟩
    obtain ⟨cs0, hc0, ht0⟩ := hel 0 (by omega)
    rw [Tryd.cellsOp] at hc0
    have hsp' := (open_op hc0 ht0).1
    obtain ⟨cs', hc, ht⟩ := hel i (by omega)
    rw [Tryd.cellsOp] at hc
    obtain ⟨_, hb, k, n, g, s, hg, hs, c0, c1, c2, c3⟩ := open_op hc ht
    obtain ⟨ab, ao, asp⟩ := a
    have hsp' : asp = none := by simpa [Addr.add] using hsp'
    subst hsp'
    rw [Addr.add_mid] at hb c0 c1 c2 c3
    exact ⟨ab, ao, rfl, hb, k, n, g, s, hg, hs, c0, c1, c2, c3⟩

end Go.Proofs.YtkglggkkbmmjkaaDoor

namespace Go.Proofs.YtkglggkkbmmjkaaDoor
open Go.RowKit

def rdrF (G S : ByteArray) (a : Nat) (T : ByteArray) (bad : Bool) : Nat → Value
  | 0 => .string G
  | 1 => .string S
  | 2 => .int .i64 a
  | 3 => .string T
  | _ => .bool bad
theorem rdr_at {w : World} {b : Nat} {G S T : ByteArray} {a : Nat} {bad : Bool} (h : Blk w b 5 (rdrF G S a T bad)) (a' : Int) (e : a' = ((a + 1 : Nat) : Int)) : Blk (w.setCell ⟨b, 2, none⟩ (.int .i64 a')) b 5 (rdrF G S (a + 1) T bad) := by
  subst e
  refine (h.setCell 2 _).congr fun i hi => ?_
  rcases (show i = 0 ∨ i = 1 ∨ i = 2 ∨ i = 3 ∨ i = 4 by omega) with rfl | rfl | rfl | rfl | rfl <;> rfl
theorem rdr_T {w : World} {b : Nat} {G S T T' : ByteArray} {a : Nat} {bad : Bool} (h : Blk w b 5 (rdrF G S a T bad)) : Blk (w.setCell ⟨b, 3, none⟩ (.string T')) b 5 (rdrF G S a T' bad) := by
  refine (h.setCell 3 _).congr fun i hi => ?_
  rcases (show i = 0 ∨ i = 1 ∨ i = 2 ∨ i = 3 ∨ i = 4 by omega) with rfl | rfl | rfl | rfl | rfl <;> rfl
theorem rdr_bad {w : World} {b : Nat} {G S T : ByteArray} {a : Nat} {bad bad' : Bool} (h : Blk w b 5 (rdrF G S a T bad)) : Blk (w.setCell ⟨b, 4, none⟩ (.bool bad')) b 5 (rdrF G S a T bad') := by
  refine (h.setCell 4 _).congr fun i hi => ?_
  rcases (show i = 0 ∨ i = 1 ∨ i = 2 ∨ i = 3 ∨ i = 4 by omega) with rfl | rfl | rfl | rfl | rfl <;> rfl

theorem frN (w : World) (n : Nat) : Fr [] w (w.drewN n) := ⟨rfl, rfl, rfl, Nat.le_refl _, fun _ _ _ => rfl⟩
set_option maxRecDepth 100000 in
set_option maxHeartbeats 1600000 in
theorem l_sign (b a c : Nat) (G S T : ByteArray) (w : World) (h : Blk w b 5 (rdrF G S a T false)) (ha : a < S.size) (hS : S.size ≤ 1000000) (hc : ch S a = c) :
    Calls Tryd.prog 22 #[.pointer (some ⟨b, 0, none⟩), .int .u8 c] w fun e w' => e = .returned (.tuple #[]) ∧ Blk w' b 5 (rdrF G S (a + 1) T false) ∧ Fr [b] w w' := by
  have c1 : w.cell? ⟨b, 1, none⟩ = some (.string S) := h.cell 1 (by omega)
  have c2 : w.cell? ⟨b, 2, none⟩ = some (.int .i64 a) := h.cell 2 (by omega)
  have c4 : w.cell? ⟨b, 4, none⟩ = some (.bool false) := h.cell 4 (by omega)
  have z2 := h.free 2
  have H := hide h
  have hge : ¬ (S.size : Int) ≤ a := by omega
  have hne : ((S[a].toNat : Int) != (c : Int)) = false := by
    rw [bne_eq_false_iff_eq, ← hc, ch_eq S a ha]
  clear h hc
  go_enter Tryd.func22, Tryd.ntmps22
  go_wp2
  go_quiet (fail)
  go_wp2
  go_end0
  exact ⟨rfl, rdr_at ((unhide H).fr0 (frN w _)) _ (by omega), ((Fr.refl [b] w).trans0 (frN w _)).setCell ⟨b, 2, none⟩ (Or.inl (List.mem_singleton.2 rfl)) _⟩
end Go.Proofs.YtkglggkkbmmjkaaDoor

namespace Go.Proofs.YtkglggkkbmmjkaaDoor
open Go.RowKit

theorem p_isSmall_is (c : Nat) (v : Bool) (w : World) (h : smallB c = v) : Calls Tryd.prog 42 #[.int .u8 c] w fun e w' => e = .returned (.bool v) ∧ w' = w := by
  subst h; exact p_isSmall c w

set_option maxHeartbeats 400000 in
theorem p_isNull (b q cap : Nat) (rs : List Ru) (N : Nat → Bool) (F : Nat → Nat → Bool) (e p : Int) (s : ByteArray) (w : World) (h : GAt w b q cap rs N F e p) (hs : s.size ≤ 1000) :
    Calls Tryd.prog 83 #[.pointer (some ⟨b, 0, none⟩), .string s] w fun e' w' => e' = .returned (.bool ((bytes s).all (vanB N false))) ∧ w' = w := by
  have H := hide h
  clear h
  go_enter Tryd.func83, Tryd.ntmps83
  go_wp2_with (go_at_call 69; refine (p_vanishes s b 28 N false _ hs (by exact (unhide H).null)).mono ?_; rintro e' w' ⟨rfl, rfl⟩)
  go_ret
  exact ⟨rfl, rfl⟩

end Go.Proofs.YtkglggkkbmmjkaaDoor

namespace Go.Proofs.YtkglggkkbmmjkaaDoor
open Go.RowKit

def bv (l : List UInt8) : List Value := l.map fun b => .int .u8 (b.toNat : Int)
/-- the signs of a set, up to code 96 + k -/
def lstU (S : Nat → Bool) (k : Nat) : List UInt8 := (if S 36 then [36] else []) ++ ((List.range k).filter fun j => S (97 + j)).map fun j => UInt8.ofNat (97 + j)
def lst (S : Nat → Bool) : ByteArray := ⟨(lstU S 26).toArray⟩
theorem lstU_succ (S : Nat → Bool) (k : Nat) : lstU S (k + 1) = lstU S k ++ if S (97 + k) then [UInt8.ofNat (97 + k)] else [] := by
  unfold lstU
  rw [List.range_succ, List.filter_append, List.map_append, List.append_assoc]
  congr 2
  cases h : S (97 + k) <;> simp [h]
theorem lstU_len (S : Nat → Bool) (k : Nat) : (lstU S k).length ≤ k + 1 := by
  unfold lstU
  rw [List.length_append, List.length_map]
  have := List.length_filter_le (fun j => S (97 + j)) (List.range k)
  rw [List.length_range] at this
  split <;> simp <;> omega

theorem run_str_own {P : Program} (w : World) (base : Nat) (src dst e : TypeId) (v : Value) (l : List UInt8) (hs : P.underlying src = some (.slice e)) (he : P.underlying e = some (.int .u8)) (hd : P.underlying dst = some .string)
    (h : w.ownsRow base e 1 v l.length (bv l)) : (convert src dst v).run P w = .ok (.string ⟨l.toArray⟩) w := by
  rcases h.2 with ⟨rfl, hl⟩ | ⟨g, cap, _, rfl, _⟩
  · rw [run_convert_bytes_string w src dst e none 0 0 hs he hd]
    have : l = [] := List.length_eq_zero_iff.1 hl
    subst this
    rfl
  · have hc := h.cells (g := g) rfl
    exact run_convert_bytes_back w src dst e ⟨g, 0, none⟩ cap l hs he hd (fun j hj => hc j _ (by simp [bv, hj]))

theorem wpList_str_own {P : Program} {ops : Array Oper} {rest : List Oper} {o : Oper} {a : Act} {w : World} {Q : Exit → Act → World → Prop} (hgd : o.guard = none) (base : Nat) (src dst e : TypeId) (x : Operand) (ho : o.op = .convert src dst x) (v : Value) (l : List UInt8)
    (hs : P.underlying src = some (.slice e)) (he : P.underlying e = some (.int .u8)) (hd : P.underlying dst = some .string) (hx : a.eval x = v) (h : w.ownsRow base e 1 v l.length (bv l))
    (hK : wpList P ops Q rest (a.put o.dst (.string ⟨l.toArray⟩)) w) : wpList P ops Q (o :: rest) a w := by
  refine wpList_plain hgd fun K hK' => ?_
  unfold Oper.wp
  simp only [execOp, ho, hx, Sem.run_bind, run_str_own w base src dst e v l hs he hd h, Result.andThen_ok, Sem.run_pure, Oper.upon]
  exact hK' _ _ hK

theorem Tryd.infoByte : (Tryd.prog.info? 5).map (fun i => (i.zero, i.size, i.bytes)) = some (some (.int .u8 0), 1, 1) := by kernel_rfl

/-- the state of a list that grows -/
def LsS (w wr : World) (v : Value) (l : List UInt8) : Prop := Fr [] w wr ∧ wr.ownsRow w.heap.size 5 1 v l.length (bv l)
theorem LsS.append {w wr w1 : World} {v : Value} {l : List UInt8} {g cap : Nat} {o : Obj} (b : UInt8) (h : LsS w wr v l) (hown : w1.ownsRow w.heap.size 5 1 (.slice (some ⟨g, 0, none⟩) (l.length + 1) cap) (l.length + 1) (bv l ++ [.int .u8 (b.toNat : Int)]))
    (hgrow : (wr.alloc o).grownBy w1 v.ownBlock) : LsS w w1 (.slice (some ⟨g, 0, none⟩) (l.length + 1) cap) (l ++ [b]) := by
  refine ⟨(h.1.alloc o).of_grown hgrow (fun k hk => Or.inr (h.2.lt k hk).1), ?_⟩
  rw [List.length_append, show bv (l ++ [b]) = bv l ++ [.int .u8 (b.toNat : Int)] from by simp [bv]]; exact hown

/-- the signs of a set whose places are below k -/
def lsI (S : Nat → Bool) (k : Nat) : List UInt8 := ((List.range k).filter fun j => S (sgn j)).map fun j => UInt8.ofNat (sgn j)
theorem lsI_succ (S : Nat → Bool) (k : Nat) : lsI S (k + 1) = lsI S k ++ if S (sgn k) then [UInt8.ofNat (sgn k)] else [] := by
  unfold lsI
  rw [List.range_succ, List.filter_append, List.map_append]
  congr 1
  cases h : S (sgn k) <;> simp [h]
theorem lsI_eq (S : Nat → Bool) : ∀ k, lsI S (k + 1) = lstU S k
  | 0 => by
    rw [lsI_succ]
    show [] ++ (if S 36 then [UInt8.ofNat 36] else []) = _
    unfold lstU
    cases S 36 <;> rfl
  | k + 1 => by
    rw [lsI_succ, lsI_eq S k, lstU_succ, show sgn (k + 1) = 97 + k from by unfold sgn; rw [if_neg (by omega)]; omega]
theorem lsI_len (S : Nat → Bool) (k : Nat) : (lsI S k).length ≤ k := by
  unfold lsI
  rw [List.length_map]
  have := List.length_filter_le (fun j => S (sgn j)) (List.range k)
  rw [List.length_range] at this
  exact this

set_option maxRecDepth 100000 in
set_option maxHeartbeats 1600000 in
theorem p_list (b : Nat) (S : Nat → Bool) (w : World) (h : Blk w b 27 (sgF S)) :
    Calls Tryd.prog 31 #[.pointer (some ⟨b, 0, none⟩)] w fun e w' => e = .returned (.string (lst S)) ∧ Fr [] w w' := by
  obtain ⟨i0, hi0, hz0, hz1, hz2⟩ := info_parts Tryd.infoByte
  have H := hide h
  clear h
  go_enter Tryd.func31, Tryd.ntmps31
  go_wp2
  go_loopw [3, 4] (fun v a wr => ∃ k : Nat, k ≤ 27 ∧ a = .int .i64 k ∧ Hid (LsS w wr v (lsI S k))) (fun _ a _ => 27 - (intOf a).toNat)
  case atStart => exact ⟨0, by omega, rfl, hide ⟨Fr.refl _ _, World.ownsRow_nil _ _ _ _⟩⟩
  case round =>
    obtain ⟨k, hk, rfl, hs⟩ := hrel
    by_cases hlt : k < 27
    · have d0 : wr.cell? ⟨b, k, none⟩ = some (.bool (S (sgn k))) := ((unhide H).fr0 (unhide hs).1).cell k hlt
      have HS1 := hide (lsI_succ S k)
      have hll := lsI_len S k
      have hcb := hide (show ((UInt8.ofNat (sgn k)).toNat : Int) = (sgn k : Nat) from by
        have := sigB_iff.1 (sigB_sgn hlt)
        rw [UInt8.toNat_ofNat']; omega)
      cases hv : S (sgn k)
      · rw [hv] at d0
        have HN := hide (show lsI S (k + 1) = lsI S k from (unhide HS1).trans (by rw [hv]; simp))
        go_wp2
        go_roundw
        case rel => exact ⟨k + 1, by omega, by go_num, hide (by rw [unhide HN]; exact unhide hs)⟩
        case measure => simp [intOf]; omega
      · rw [hv] at d0
        have HN := hide (show lsI S (k + 1) = lsI S k ++ [UInt8.ofNat (sgn k)] from (unhide HS1).trans (by rw [hv]; rfl))
        obtain ⟨c, hc⟩ : ∃ c, sgn k = c := ⟨_, rfl⟩
        rw [hc] at HN hcb
        have HCC := hide hc
        clear hc HS1 hv
        go_wp2_with (first
          | (go_at_call 46; refine (p_signAt k _ hlt).mono ?_; rintro e w' ⟨rfl, rfl⟩; rw [unhide HCC])
          | (at_builtin; refine wpList_append_lies _ rfl (.tmp 15) (.tmp 18) 44 rfl w.heap.size 5 i0 _ 1 1 Tryd.underlying44 hi0 hz0 hz1 hz2 rfl (by omega) u3 (lsI S k).length (bv (lsI S k)) rfl (by exact (unhide hs).2.alloc _) _ 1 1 [.int .u8 c] rfl rfl (World.news_of_block (cs := #[.int .u8 c]) (t := 5) (fr := (0, 0)) (heap_alloc_new _ _)) (by simp [Value.oneCell']) (by omega) (by unfold maxLen; omega) (by omega) (by have := (unhide hs).1.size; simp; omega) _ rfl ?_; intro g2 cap2 w2 hown2 hgrow2 hat2 hlt2; have HQ2 := hide (LsS.append (UInt8.ofNat c) (unhide hs) (by rw [unhide hcb]; exact hown2) hgrow2); clear hown2 hgrow2 hat2 hlt2))
        go_roundw
        case rel => exact ⟨k + 1, by omega, by go_num, hide (by rw [unhide HN]; exact unhide HQ2)⟩
        case measure => simp [intOf]; omega
    · have HN := hide (show LsS w wr u3 (lstU S 26) from by
        have := unhide hs
        rw [show k = 26 + 1 from by omega, lsI_eq] at this; exact this)
      clear hs
      go_wp2_with (refine wpList_str_own rfl w.heap.size 44 9 5 (.tmp 20) rfl u3 (lstU S 26) Tryd.underlying44 Tryd.underlying5 Tryd.underlying9 rfl (by exact (unhide HN).2) ?_)
      go_ret
      exact ⟨rfl, (unhide HN).1⟩

end Go.Proofs.YtkglggkkbmmjkaaDoor

namespace Go.Proofs.YtkglggkkbmmjkaaDoor
open Go.RowKit
def inB (s : ByteArray) (c : Nat) : Bool := (bytes s).any (· == c)
theorem bytes_extract (s : ByteArray) (a b : Nat) : bytes (s.extract a b) = ((bytes s).drop a).take (b - a) := by
  unfold bytes
  rw [ByteArray.data_extract, Array.toList_extract, List.extract_eq_take_drop, List.map_take, List.map_drop]
theorem inB_lst (S : Nat → Bool) (c : Nat) (h1 : 97 ≤ c) (h2 : c ≤ 122) : inB (lst S) c = S c := by
  unfold inB
  rw [show bytes (lst S) = (lstU S 26).map UInt8.toNat from rfl]
  unfold lstU
  rw [List.map_append, List.any_append, show ((if S 36 then [(36 : UInt8)] else []).map UInt8.toNat).any (· == c) = false from by
    cases S 36
    · rfl
    · simp; omega, Bool.false_or, List.map_map, List.any_map, Bool.eq_iff_iff, List.any_eq_true]
  simp only [List.mem_filter, List.mem_range, Function.comp_apply, UInt8.toNat_ofNat', beq_iff_eq]
  constructor
  · rintro ⟨j, ⟨hj, hS⟩, he⟩
    rw [Nat.mod_eq_of_lt (by omega)] at he
    rw [← he]; exact hS
  · intro hS
    exact ⟨c - 97, ⟨by omega, by rw [show 97 + (c - 97) = c from by omega]; exact hS⟩, by omega⟩
theorem lst_size (S : Nat → Bool) : (lst S).size ≤ 1000 := by
  have := lstU_len S 26
  show (lstU S 26).toArray.size ≤ 1000
  simp; omega

/-- a string of one byte -/
theorem wpList_str_one {P : Program} {ops : Array Oper} {rest : List Oper} {o : Oper} {a : Act} {w : World} {Q : Exit → Act → World → Prop} (hgd : o.guard = none) (src dst e : TypeId) (x : Operand) (ho : o.op = .convert src dst x) (g cap c : Nat) (hc : c < 256)
    (hs : P.underlying src = some (.slice e)) (he : P.underlying e = some (.int .u8)) (hd : P.underlying dst = some .string) (hx : a.eval x = .slice (some ⟨g, 0, none⟩) 1 cap) (h : w.cell? ⟨g, 0, none⟩ = some (.int .u8 c))
    (hK : wpList P ops Q rest (a.put o.dst (.string ⟨#[UInt8.ofNat c]⟩)) w) : wpList P ops Q (o :: rest) a w := by
  refine wpList_plain hgd fun K hK' => ?_
  unfold Oper.wp
  have := run_convert_bytes_back w src dst e ⟨g, 0, none⟩ cap [UInt8.ofNat c] hs he hd (fun j hj => by
    obtain rfl : j = 0 := by simpa using hj
    rw [show (Addr.add ⟨g, 0, none⟩ 0) = ⟨g, 0, none⟩ from rfl, h]
    simp only [List.getElem_cons_zero, UInt8.toNat_ofNat']
    rw [Nat.mod_eq_of_lt hc])
  simp only [List.length_cons, List.length_nil, Nat.zero_add] at this
  simp only [execOp, ho, hx, Sem.run_bind, this, Result.andThen_ok, Sem.run_pure, Oper.upon]
  exact hK' _ _ hK


end Go.Proofs.YtkglggkkbmmjkaaDoor

namespace Go.Proofs.YtkglggkkbmmjkaaDoor
open Go.RowKit

theorem run_str_one (w : World) (g cap c : Nat) (hc : c < 256) (h : w.cell? ⟨g, 0, none⟩ = some (.int .u8 c)) : Sem.run Tryd.prog (convert 44 9 (.slice (some ⟨g, 0, none⟩) 1 cap)) w = .ok (.string ⟨#[UInt8.ofNat c]⟩) w := by
  have := run_convert_bytes_back w 44 9 5 ⟨g, 0, none⟩ cap [UInt8.ofNat c] Tryd.underlying44 Tryd.underlying5 Tryd.underlying9 (fun j hj => by
    obtain rfl : j = 0 := by simpa using hj
    rw [show (Addr.add ⟨g, 0, none⟩ 0) = ⟨g, 0, none⟩ from rfl, h]
    simp only [List.getElem_cons_zero, UInt8.toNat_ofNat']
    rw [Nat.mod_eq_of_lt hc])
  simpa only [List.length_cons, List.length_nil, Nat.zero_add] using this
set_option maxRecDepth 100000 in
set_option maxHeartbeats 1600000 in
/-- a small letter -/
theorem l_letter_small (b a c d : Nat) (G S T : ByteArray) (w : World) (h : Blk w b 5 (rdrF G S a T false)) (ha : a < S.size) (hS : S.size ≤ 1000000) (hT : T.size ≤ 1000000) (hc : ch S a = c) (hsm : smallB c = true) (hd : 1 ≤ d) (hd2 : d ≤ 1000) :
    Calls Tryd.prog 11 #[.pointer (some ⟨b, 0, none⟩), .int .u8 c, .int .i64 d] w fun e w' => e = .returned (.tuple #[]) ∧ Blk w' b 5 (rdrF G S (a + 1) (T ++ ⟨#[UInt8.ofNat c]⟩) false) ∧ Fr [b] w w' := by
  have hb := smallB_iff.1 hsm
  have c1 : w.cell? ⟨b, 1, none⟩ = some (.string S) := h.cell 1 (by omega)
  have c2 : w.cell? ⟨b, 2, none⟩ = some (.int .i64 a) := h.cell 2 (by omega)
  have c3 : w.cell? ⟨b, 3, none⟩ = some (.string T) := h.cell 3 (by omega)
  have c4 : w.cell? ⟨b, 4, none⟩ = some (.bool false) := h.cell 4 (by omega)
  have z2 := h.free 2
  have z3 := h.free 3
  have z4 := h.free 4
  have H := hide h
  have hge : ¬ (S.size : Int) ≤ a := by omega
  have hd0 : ((d : Int) == 0) = false := by rw [beq_eq_false_iff_ne]; omega
  have hx : (S[a].toNat : Int) = (c : Int) := by rw [← hc, ch_eq S a ha]
  have h97 : (97 : Int) ≤ c := by omega
  clear h hc hsm
  go_enter Tryd.func11, Tryd.ntmps11
  go_wp2
  go_quiet (fail)
  go_wp2
  go_quiet (fail)
  go_wp2
  have HX : ∀ n, Blk (((w.drewN n).setCell ⟨b, 2, none⟩ (.int .i64 ((a : Int) + 1))).setCell ⟨b, 4, none⟩ (.bool false)) b 5 (rdrF G S (a + 1) T false) ∧ Fr [b] w (((w.drewN n).setCell ⟨b, 2, none⟩ (.int .i64 ((a : Int) + 1))).setCell ⟨b, 4, none⟩ (.bool false)) := fun n => ⟨rdr_bad (rdr_at ((unhide H).fr0 (frN w n)) _ (by omega)), (((Fr.refl [b] w).trans0 (frN w n)).setCell ⟨b, 2, none⟩ (Or.inl (List.mem_singleton.2 rfl)) _).setCell ⟨b, 4, none⟩ (Or.inl (List.mem_singleton.2 rfl)) _⟩
  rename_i nq0
  generalize hW : (((w.drewN _).setCell ⟨b, 2, none⟩ (.int .i64 ((a : Int) + 1))).setCell ⟨b, 4, none⟩ (.bool false)) = W
  have HW := hide (hW ▸ HX _)
  have k3 : W.cell? ⟨b, 3, none⟩ = some (.string T) := (unhide HW).1.cell 3 (by omega)
  have y3 : W.frozen? ⟨b, 3, none⟩ = false := (unhide HW).1.free 3
  have hbW : b < W.heap.size := (unhide HW).1.lt
  clear hW HX c1 c2 c3 c4 z2 z3 z4 H
  have hcv := run_str_one (W.alloc (.cells #[.int .u8 (c : Nat)] 5)).drew W.heap.size 1 c (by omega) (by simp)
  have hTs : ¬ 9223372036854775807 < T.size + 1 := by omega
  have zA : ∀ o, (W.alloc o).frozen? ⟨b, 3, none⟩ = false := fun o => ((unhide HW).1.alloc o).free 3
  have cA : ∀ o, (W.alloc o).cell? ⟨b, 3, none⟩ = some (.string T) := fun o => ((unhide HW).1.alloc o).cell 3 (by omega)
  go_region_law (fail)
  all_goals
    go_wp2
    refine bodyPost_ret (results_none (by kernel_rfl) _ _ _) rfl ?_
    exact ⟨rfl, ((rdr_T (unhide HW).1).alloc _).drew, (((unhide HW).2.setCell ⟨b, 3, none⟩ (Or.inl (List.mem_singleton.2 rfl)) _).alloc _).drew⟩
end Go.Proofs.YtkglggkkbmmjkaaDoor
