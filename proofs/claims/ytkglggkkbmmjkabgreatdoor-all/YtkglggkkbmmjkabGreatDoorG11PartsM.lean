import Derived.Test.YtkglggkkbmmjkabGreatDoorG10Words
import Derived.Laws.IdiomStrings
namespace Go.Proofs.YtkglggkkbmmjkabGreatDoor
open Go.RowKit
/-! Lists of signs, as strings. -/
def bv (l : List UInt8) : List Value := l.map fun b => .int .u8 (b.toNat : Int)
def lstU (S : Nat → Bool) (k : Nat) : List UInt8 := (if S 36 then [36] else []) ++ ((List.range k).filter fun j => S (97 + j)).map fun j => UInt8.ofNat (97 + j)
def lst (S : Nat → Bool) : ByteArray := ⟨(lstU S 26).toArray⟩
theorem lstU_succ (S : Nat → Bool) (k : Nat) : lstU S (k + 1) = lstU S k ++ if S (97 + k) then [UInt8.ofNat (97 + k)] else [] := by
 unfold lstU
 rw [List.range_succ, List.filter_append, List.map_append, List.append_assoc]
 congr 2
 cases h : S (97 + k) <;> simp [h]
theorem run_str_own {P : Program} (w : World) (base : Nat) (src dst e : TypeId) (v : Value) (l : List UInt8) (hs : P.underlying src = some (.slice e)) (he : P.underlying e = some (.int .u8)) (hd : P.underlying dst = some .string)
 (h : w.ownsRow base e 1 v l.length (bv l)) : (convert src dst v).run P w = .ok (.string ⟨l.toArray⟩) w := by
 rcases h.2 with ⟨rfl, hl⟩ | ⟨g, cap, _, rfl, _⟩
 ·rw [run_convert_bytes_string w src dst e none 0 0 hs he hd]
  have : l = [] := List.length_eq_zero_iff.1 hl
  subst this
  rfl
 ·have hc := h.cells (g := g) rfl
  exact run_convert_bytes_back w src dst e ⟨g, 0, none⟩ cap l hs he hd (fun j hj => hc j _ (by simp [bv, hj]))
theorem wpList_str_own {P : Program} {ops : Array Oper} {rest : List Oper} {o : Oper} {a : Act} {w : World} {Q : Exit → Act → World → Prop} (hgd : o.guard = none) (base : Nat) (src dst e : TypeId) (x : Operand) (ho : o.op = .convert src dst x) (v : Value) (l : List UInt8)
 (hs : P.underlying src = some (.slice e)) (he : P.underlying e = some (.int .u8)) (hd : P.underlying dst = some .string) (hx : a.eval x = v) (h : w.ownsRow base e 1 v l.length (bv l))
 (hK : wpList P ops Q rest (a.put o.dst (.string ⟨l.toArray⟩)) w) : wpList P ops Q (o :: rest) a w := by
 refine wpList_plain hgd fun K hK' => ?_
 unfold Oper.wp
 simp only [execOp, ho, hx, Sem.run_bind, run_str_own w base src dst e v l hs he hd h, Result.andThen_ok, Sem.run_pure, Oper.upon]
 exact hK' _ _ hK
theorem Tryz.infoByte : (Tryz.prog.info? 5).map (fun i => (i.zero, i.size, i.bytes)) = some (some (.int .u8 0), 1, 1) := by kernel_rfl
def LsS (w wr : World) (v : Value) (l : List UInt8) : Prop := Fr [] w wr ∧ wr.ownsRow w.heap.size 5 1 v l.length (bv l)
theorem LsS.append {w wr w1 : World} {v : Value} {l : List UInt8} {g cap : Nat} {o : Obj} (b : UInt8) (h : LsS w wr v l) (hown : w1.ownsRow w.heap.size 5 1 (.slice (some ⟨g, 0, none⟩) (l.length + 1) cap) (l.length + 1) (bv l ++ [.int .u8 (b.toNat : Int)]))
 (hgrow : (wr.alloc o).grownBy w1 v.ownBlock) : LsS w w1 (.slice (some ⟨g, 0, none⟩) (l.length + 1) cap) (l ++ [b]) := by
 refine ⟨(h.1.alloc o).of_grown hgrow (fun k hk => Or.inr (h.2.lt k hk).1), ?_⟩
 rw [List.length_append, show bv (l ++ [b]) = bv l ++ [.int .u8 (b.toNat : Int)] from by simp [bv]]; exact hown
def lsI (S : Nat → Bool) (k : Nat) : List UInt8 := ((List.range k).filter fun j => S (sgn j)).map fun j => UInt8.ofNat (sgn j)
theorem lsI_succ (S : Nat → Bool) (k : Nat) : lsI S (k + 1) = lsI S k ++ if S (sgn k) then [UInt8.ofNat (sgn k)] else [] := by
 unfold lsI
 rw [List.range_succ, List.filter_append, List.map_append]
 congr 1
 cases h : S (sgn k) <;> simp [h]
theorem lsI_eq (S : Nat → Bool) : ∀ k, lsI S (k + 1) = lstU S k
 | 0 => by
  rw [lsI_succ]
  show [] ++ (if S 36 then [UInt8.ofNat 36] else []) = _
  unfold lstU
  cases S 36 <;> rfl
 | k + 1 => by
  rw [lsI_succ, lsI_eq S k, lstU_succ, show sgn (k + 1) = 97 + k from by unfold sgn; rw [if_neg (by omega)]; omega]
theorem lsI_len (S : Nat → Bool) (k : Nat) : (lsI S k).length ≤ k := by
 unfold lsI
 rw [List.length_map]
 have := List.length_filter_le (fun j => S (sgn j)) (List.range k)
 rw [List.length_range] at this
 exact this
set_option maxRecDepth 100000 in
set_option maxHeartbeats 1600000 in
theorem p_list (b : Nat) (S : Nat → Bool) (w : World) (h : Blk w b 27 (sgF S)) :
 Calls Tryz.prog 45 #[.pointer (some ⟨b, 0, none⟩)] w fun e w' => e = .returned (.string (lst S)) ∧ Fr [] w w' := by
 obtain ⟨i0, hi0, hz0, hz1, hz2⟩ := info_parts Tryz.infoByte
 have H := hide h
 clear h
 go_enter Tryz.func45, Tryz.ntmps45
 go_wp2
 go_loopw [3, 4] (fun v a wr => ∃ k : Nat, k ≤ 27 ∧ a = .int .i64 k ∧ Hid (LsS w wr v (lsI S k))) (fun _ a _ => 27 - (intOf a).toNat)
 case atStart => exact ⟨0, by omega, rfl, hide ⟨Fr.refl _ _, World.ownsRow_nil _ _ _ _⟩⟩
 case round =>
  obtain ⟨k, hk, rfl, hs⟩ := hrel
  by_cases hlt : k < 27
  ·have d0 : wr.cell? ⟨b, k, none⟩ = some (.bool (S (sgn k))) := ((zaa H).fr0 (zaa hs).1).cell k hlt
   have HS1 := hide (lsI_succ S k)
   have hll := lsI_len S k
   have hcb := hide (show ((UInt8.ofNat (sgn k)).toNat : Int) = (sgn k : Nat) from by
    have := sigB_iff.1 (sigB_sgn hlt)
    rw [UInt8.toNat_ofNat']; omega)
   cases hv : S (sgn k)
   ·rw [hv] at d0
    have HN := hide (show lsI S (k + 1) = lsI S k from (zaa HS1).trans (by rw [hv]; simp))
    go_wp2
    go_roundw
    case rel => exact ⟨k + 1, by omega, by go_num, hide (by rw [zaa HN]; exact zaa hs)⟩
    case measure => simp [intOf]; omega
   ·rw [hv] at d0
    have HN := hide (show lsI S (k + 1) = lsI S k ++ [UInt8.ofNat (sgn k)] from (zaa HS1).trans (by rw [hv]; rfl))
    obtain ⟨c, hc⟩ : ∃ c, sgn k = c := ⟨_, rfl⟩
    rw [hc] at HN hcb
    have HCC := hide hc
    clear hc HS1 hv
    go_wp2_with (first
     | (go_at_call 99; refine (p_signAt k _ hlt).mono ?_; rintro e w' ⟨rfl, rfl⟩; rw [zaa HCC])
     | (at_builtin; refine wpList_append_lies _ rfl (.tmp 15) (.tmp 18) 158 rfl w.heap.size 5 i0 _ 1 1 Tryz.underlying158 hi0 hz0 hz1 hz2 rfl (by omega) u3 (lsI S k).length (bv (lsI S k)) rfl (by exact (zaa hs).2.alloc _) _ 1 1 [.int .u8 c] rfl rfl (World.news_of_block (cs := #[.int .u8 c]) (t := 5) (fr := (0, 0)) (heap_alloc_new _ _)) (by simp [Value.oneCell']) (by omega) (by unfold maxLen; omega) (by omega) (by have := (zaa hs).1.size; simp; omega) _ rfl ?_; intro g2 cap2 w2 hown2 hgrow2 hat2 hlt2; have HQ2 := hide (LsS.append (UInt8.ofNat c) (zaa hs) (by rw [zaa hcb]; exact hown2) hgrow2); clear hown2 hgrow2 hat2 hlt2))
    go_roundw
    case rel => exact ⟨k + 1, by omega, by go_num, hide (by rw [zaa HN]; exact zaa HQ2)⟩
    case measure => simp [intOf]; omega
  ·have HN := hide (show LsS w wr u3 (lstU S 26) from by
    have := zaa hs
    rw [show k = 26 + 1 from by omega, lsI_eq] at this; exact this)
   clear hs
   go_wp2_with (refine wpList_str_own rfl w.heap.size 158 9 5 (.tmp 20) rfl u3 (lstU S 26) Tryz.underlying158 Tryz.underlying5 Tryz.underlying9 rfl (by exact (zaa HN).2) ?_)
   go_ret
   exact ⟨rfl, (zaa HN).1⟩
end Go.Proofs.YtkglggkkbmmjkabGreatDoor
namespace Go.Proofs.YtkglggkkbmmjkabGreatDoor
open Go.RowKit
def nullOf (t s : ByteArray) : Bool := if wErr t s = 0 then (bytes s).all (vanB (zan (zad t 8 0 []).1) false) else false
def firstOfW (t s : ByteArray) : ByteArray := if wErr t s = 0 then lst (beg (zan (zad t 8 0 []).1) (zau (zad t 8 0 []).1) (bytes s)) else ⟨#[]⟩
theorem word_let {rs : List Ru} {s : ByteArray} (h : (bytes s).all (wordB rs) = true) : ∀ i, i < s.size → letB (ch s i) = true := fun i hi => by
 have hi' : i < (bytes s).length := by rw [zah]; exact hi
 have := List.all_eq_true.1 h _ (List.getElem_mem hi')
 rw [za5] at this
 simp only [wordB, hasB, Bool.or_eq_true, Bool.and_eq_true] at this
 simp only [letB, Bool.or_eq_true]
 rcases this with h | h
 ·exact Or.inr h
 ·exact Or.inl h.1
theorem gat_of_word {t s : ByteArray} {w w1 w2 w3 : World} {f : Nat → Value} {z : Nat → Value} (h : WordOut t s w w1 f) (h0 : wErr t s = 0) (hf2 : Fr [] w1 w2) (hf3 : Fr [w1.heap.size] w2 w3) (hB : Blk w3 w1.heap.size 758 (lay z 0 758 f)) :
 ∃ q cap, GAt w3 w1.heap.size q cap (zad t 8 0 []).1 (zan (zad t 8 0 []).1) (zau (zad t 8 0 []).1) 0 0 := by
 obtain ⟨_, ht, _, _, _, q, cap, hf, hru, hq1, hq2⟩ := h.2.2.2 h0
 refine ⟨q, cap, by rw [← hf]; exact hB.congr fun i hi => zag _ _ _ i hi, (hru.fr hf2 (by simp) hq2).fr hf3 (by simp; omega) (Nat.lt_of_lt_of_le hq2 hf2.size), by omega, Nat.lt_of_lt_of_le hq2 (Nat.le_trans hf2.size hf3.size), (za9 t ht).1, (za9 t ht).2⟩
set_option maxHeartbeats 1000000 in
theorem p_Null (t s : ByteArray) (w : World) (ht : t.size ≤ 9223372036854775807) (hm : s.size ≤ 9223372036854775807) :
 Calls Tryz.prog 18 #[.string t, .string s] w fun e w' => e = .returned (.tuple #[.bool (nullOf t s), .int .i64 (wErr t s)]) ∧ Fr [] w w' := by
 by_cases h0 : wErr t s = 0
 ·have hb : ((((wErr t s : Nat) : Int)) != 0) = false := by simp; omega
  have H0 := hide h0
  have HN := hide (show nullOf t s = (bytes s).all (vanB (zan (zad t 8 0 []).1) false) from by unfold nullOf; rw [if_pos h0])
  clear h0
  go_enter Tryz.func18, Tryz.ntmps18
  go_wp2_with (first
   | (go_at_call 59; refine (zbp t s _ ht hm).mono ?_; rintro e w1 ⟨f, rfl, hg⟩; have HG := hide hg; clear hg)
   | (refine zab rfl 53 rfl (some 6) rfl 758 _ Tryz.zeroGram ?_; intro w2 hf2 hs2 hB2; have HF2 := hide hf2; have HB2 := hide hB2; clear hf2 hs2 hB2)
   | (refine zac rfl 53 (.tmp 6) (.tmp 9) rfl w1.heap.size 0 758 758 (gF (.slice none 0 0) 0 (fun _ => false) (fun _ => false) (fun _ _ => false) 0 0) f rfl rfl (by exact zaa HB2) Tryz.sizeGram (by omega) (by exact (zaa HG).2.1) ?_; intro w3 hf3 hs3 hB3; obtain ⟨q, cap, hg3⟩ := gat_of_word (zaa HG) (zaa H0) (zaa HF2) hf3 hB3; have HG3 := hide hg3; have HF3 := hide hf3; have c6 := (hB3.cell 756 (by omega)).trans (congrArg some ((zag _ _ _ _ (by omega)).trans (zaa HG).2.2.1)); clear hf3 hs3 hB3 hg3)
   | (go_at_call 60; refine (p_isNull w1.heap.size q cap (zad t 8 0 []).1 _ _ 0 0 s _ (by exact zaa HG3) (by have := ((zaa HG).2.2.2 (zaa H0)).1; omega)).mono ?_; rintro e w4 ⟨rfl, rfl⟩))
  go_ret2
  exact ⟨by rw [zaa HN, zaa H0]; rfl, ((zaa HG).1.trans0 (zaa HF2)).trans1 (zaa HF3) (Or.inr (zaa HG).1.size)⟩
 ·have hb : ((((wErr t s : Nat) : Int)) != 0) = true := by rw [bne_iff_ne]; omega
  have HN := hide (show nullOf t s = false from by unfold nullOf; rw [if_neg h0])
  clear h0
  go_enter Tryz.func18, Tryz.ntmps18
  go_wp2_with (first
   | (go_at_call 59; refine (zbp t s _ ht hm).mono ?_; rintro e w1 ⟨f, rfl, hg⟩; have HG := hide hg; clear hg)
   | (refine zab rfl 53 rfl (some 6) rfl 758 _ Tryz.zeroGram ?_; intro w2 hf2 hs2 hB2; have HF2 := hide hf2; have HB2 := hide hB2; clear hf2 hs2 hB2)
   | (refine zac rfl 53 (.tmp 6) (.tmp 9) rfl w1.heap.size 0 758 758 (gF (.slice none 0 0) 0 (fun _ => false) (fun _ => false) (fun _ _ => false) 0 0) f rfl rfl (by exact zaa HB2) Tryz.sizeGram (by omega) (by exact (zaa HG).2.1) ?_; intro w3 hf3 hs3 hB3; have HF3 := hide hf3; have c6 := (hB3.cell 756 (by omega)).trans (congrArg some ((zag _ _ _ _ (by omega)).trans (zaa HG).2.2.1)); clear hf3 hs3 hB3))
  go_quiet (fail)
  go_wp2
  go_ret2
  exact ⟨by rw [zaa HN]; rfl, (((zaa HG).1.trans0 (zaa HF2)).trans1 (zaa HF3) (Or.inr (zaa HG).1.size)).trans0 (zal _ _)⟩
set_option maxHeartbeats 1000000 in
theorem p_First (t s : ByteArray) (w : World) (ht : t.size ≤ 9223372036854775807) (hm : s.size ≤ 9223372036854775807) :
 Calls Tryz.prog 20 #[.string t, .string s] w fun e w' => e = .returned (.tuple #[.string (firstOfW t s), .int .i64 (wErr t s)]) ∧ Fr [] w w' := by
 by_cases h0 : wErr t s = 0
 ·have hb : ((((wErr t s : Nat) : Int)) != 0) = false := by simp; omega
  have H0 := hide h0
  have HN := hide (show firstOfW t s = lst (beg (zan (zad t 8 0 []).1) (zau (zad t 8 0 []).1) (bytes s)) from by unfold firstOfW; rw [if_pos h0])
  clear h0
  go_enter Tryz.func20, Tryz.ntmps20
  go_wp2_with (first
   | (go_at_call 59; refine (zbp t s _ ht hm).mono ?_; rintro e w1 ⟨f, rfl, hg⟩; have HG := hide hg; clear hg)
   | (refine zab rfl 53 rfl (some 6) rfl 758 _ Tryz.zeroGram ?_; intro w2 hf2 hs2 hB2; have HF2 := hide hf2; have HB2 := hide hB2; clear hf2 hs2 hB2)
   | (refine zac rfl 53 (.tmp 6) (.tmp 10) rfl w1.heap.size 0 758 758 (gF (.slice none 0 0) 0 (fun _ => false) (fun _ => false) (fun _ _ => false) 0 0) f rfl rfl (by exact zaa HB2) Tryz.sizeGram (by omega) (by exact (zaa HG).2.1) ?_; intro w3 hf3 hs3 hB3; obtain ⟨q, cap, hg3⟩ := gat_of_word (zaa HG) (zaa H0) (zaa HF2) hf3 hB3; have HG3 := hide hg3; have HF3 := hide (((zaa HG).1.trans0 (zaa HF2)).trans1 hf3 (Or.inr (zaa HG).1.size)); have c6 := (hB3.cell 756 (by omega)).trans (congrArg some ((zag _ _ _ _ (by omega)).trans (zaa HG).2.2.1)); clear hf3 hs3 hB3 hg3)
   | (go_at_call 64; refine (p_firstOf w1.heap.size q cap (zad t 8 0 []).1 _ _ 0 0 s _ (by exact zaa HG3) (by have := ((zaa HG).2.2.2 (zaa H0)).1; omega) (word_let ((zaa HG).2.2.2 (zaa H0)).2.2.2.2.1)).mono ?_; rintro e w4 ⟨rfl, hf4⟩; have HF4 := hide ((zaa HF3).trans0 hf4); clear hf4)
   | (refine zab rfl 48 rfl (some 7) rfl 27 _ Tryz.zeroSign ?_; intro w5 hf5 hs5 hB5; have HF5 := hide ((zaa HF4).trans0 hf5); have HB5 := hide hB5; clear hf5 hs5 hB5)
   | (refine zac rfl 48 (.tmp 7) (.tmp 17) rfl w4.heap.size 0 27 27 (sgF fun _ => false) (sgF (beg (zan (zad t 8 0 []).1) (zau (zad t 8 0 []).1) (bytes s))) rfl rfl (by exact zaa HB5) Tryz.sizeSign (by omega) (by intro i hi; rfl) ?_; intro w6 hf6 hs6 hB6; have HF6 := hide ((zaa HF5).trans1 hf6 (Or.inr (zaa HF4).size)); have HB6 := hide (hB6.congr fun i hi => zag _ _ _ i hi); clear hf6 hs6 hB6)
   | (go_at_call 45; refine (p_list w4.heap.size _ _ (by exact zaa HB6)).mono ?_; rintro e w7 ⟨rfl, hf7⟩; have HF7 := hide ((zaa HF6).trans0 hf7); clear hf7))
  go_ret2
  exact ⟨by rw [zaa HN, zaa H0]; rfl, zaa HF7⟩
 ·have hb : ((((wErr t s : Nat) : Int)) != 0) = true := by rw [bne_iff_ne]; omega
  have HN := hide (show firstOfW t s = ⟨#[]⟩ from by unfold firstOfW; rw [if_neg h0])
  clear h0
  go_enter Tryz.func20, Tryz.ntmps20
  go_wp2_with (first
   | (go_at_call 59; refine (zbp t s _ ht hm).mono ?_; rintro e w1 ⟨f, rfl, hg⟩; have HG := hide hg; clear hg)
   | (refine zab rfl 53 rfl (some 6) rfl 758 _ Tryz.zeroGram ?_; intro w2 hf2 hs2 hB2; have HF2 := hide hf2; have HB2 := hide hB2; clear hf2 hs2 hB2)
   | (refine zac rfl 53 (.tmp 6) (.tmp 10) rfl w1.heap.size 0 758 758 (gF (.slice none 0 0) 0 (fun _ => false) (fun _ => false) (fun _ _ => false) 0 0) f rfl rfl (by exact zaa HB2) Tryz.sizeGram (by omega) (by exact (zaa HG).2.1) ?_; intro w3 hf3 hs3 hB3; have HF3 := hide hf3; have c6 := (hB3.cell 756 (by omega)).trans (congrArg some ((zag _ _ _ _ (by omega)).trans (zaa HG).2.2.1)); clear hf3 hs3 hB3))
  go_quiet (fail)
  go_wp2
  go_ret2
  exact ⟨by rw [zaa HN]; rfl, (((zaa HG).1.trans0 (zaa HF2)).trans1 (zaa HF3) (Or.inr (zaa HG).1.size)).trans0 (zal _ _)⟩
end Go.Proofs.YtkglggkkbmmjkabGreatDoor
namespace Go.Proofs.YtkglggkkbmmjkabGreatDoor
open Go.RowKit
theorem bytes_extract (s : ByteArray) (a b : Nat) : bytes (s.extract a b) = ((bytes s).drop a).take (b - a) := by
 unfold bytes
 rw [ByteArray.data_extract, Array.toList_extract, List.extract_eq_take_drop, List.map_take, List.map_drop]
theorem zbw {P : Program} {ops : Array Oper} {rest : List Oper} {o : Oper} {a : Act} {w : World} {Q : Exit → Act → World → Prop} (hgd : o.guard = none) (src dst e : TypeId) (x : Operand) (ho : o.op = .convert src dst x) (g cap c : Nat) (hc : c < 256)
 (hs : P.underlying src = some (.slice e)) (he : P.underlying e = some (.int .u8)) (hd : P.underlying dst = some .string) (hx : a.eval x = .slice (some ⟨g, 0, none⟩) 1 cap) (h : w.cell? ⟨g, 0, none⟩ = some (.int .u8 c))
 (hK : wpList P ops Q rest (a.put o.dst (.string ⟨#[UInt8.ofNat c]⟩)) w) : wpList P ops Q (o :: rest) a w := by
 refine wpList_plain hgd fun K hK' => ?_
 unfold Oper.wp
 have := run_convert_bytes_back w src dst e ⟨g, 0, none⟩ cap [UInt8.ofNat c] hs he hd (fun j hj => by
  obtain rfl : j = 0 := by simpa using hj
  rw [show (Addr.add ⟨g, 0, none⟩ 0) = ⟨g, 0, none⟩ from rfl, h]
  simp only [List.getElem_cons_zero, UInt8.toNat_ofNat']
  rw [Nat.mod_eq_of_lt hc])
 simp only [List.length_cons, List.length_nil, Nat.zero_add] at this
 simp only [execOp, ho, hx, Sem.run_bind, this, Result.andThen_ok, Sem.run_pure, Oper.upon]
 exact hK' _ _ hK
end Go.Proofs.YtkglggkkbmmjkabGreatDoor
