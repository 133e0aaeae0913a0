import Derived.Test.YtdnmajcaljpajaaWords
import Derived.Laws.IdiomStrings
namespace Go.Proofs.Ytdnmajcaljpajaa
open Go.RowKit

/-! Lists of signs, as strings. -/
def bv (l : List UInt8) : List Value := l.map fun b => .int .u8 (b.toNat : Int)
/-- the signs of a set, up to code 96 + k -/
def lstU (S : Nat → Bool) (k : Nat) : List UInt8 := (if S 36 then [36] else []) ++ ((List.range k).filter fun j => S (97 + j)).map fun j => UInt8.ofNat (97 + j)
def lst (S : Nat → Bool) : ByteArray := ⟨(lstU S 26).toArray⟩
theorem lstU_succ (S : Nat → Bool) (k : Nat) : lstU S (k + 1) = lstU S k ++ if S (97 + k) then [UInt8.ofNat (97 + k)] else [] := by
  unfold lstU
  rw [List.range_succ, List.filter_append, List.map_append, List.append_assoc]
  congr 2
  cases h : S (97 + k) <;> simp [h]
theorem lstU_len (S : Nat → Bool) (k : Nat) : (lstU S k).length ≤ k + 1 := by
  unfold lstU
  rw [List.length_append, List.length_map]
  have := List.length_filter_le (fun j => S (97 + j)) (List.range k)
  rw [List.length_range] at this
  split <;> simp <;> omega

theorem run_str_own {P : Program} (w : World) (base : Nat) (src dst e : TypeId) (v : Value) (l : List UInt8) (hs : P.underlying src = some (.slice e)) (he : P.underlying e = some (.int .u8)) (hd : P.underlying dst = some .string)
    (h : w.ownsRow base e 1 v l.length (bv l)) : (convert src dst v).run P w = .ok (.string ⟨l.toArray⟩) w := by
  rcases h.2 with ⟨rfl, hl⟩ | ⟨g, cap, _, rfl, _⟩
  · rw [run_convert_bytes_string w src dst e none 0 0 hs he hd]
    have : l = [] := List.length_eq_zero_iff.1 hl
    subst this
    rfl
  · have hc := h.cells (g := g) rfl
    exact run_convert_bytes_back w src dst e ⟨g, 0, none⟩ cap l hs he hd (fun j hj => hc j _ (by simp [bv, hj]))

theorem wpList_str_own {P : Program} {ops : Array Oper} {rest : List Oper} {o : Oper} {a : Act} {w : World} {Q : Exit → Act → World → Prop} (hgd : o.guard = none) (base : Nat) (src dst e : TypeId) (x : Operand) (ho : o.op = .convert src dst x) (v : Value) (l : List UInt8)
    (hs : P.underlying src = some (.slice e)) (he : P.underlying e = some (.int .u8)) (hd : P.underlying dst = some .string) (hx : a.eval x = v) (h : w.ownsRow base e 1 v l.length (bv l))
    (hK : wpList P ops Q rest (a.put o.dst (.string ⟨l.toArray⟩)) w) : wpList P ops Q (o :: rest) a w := by
  refine wpList_plain hgd fun K hK' => ?_
  unfold Oper.wp
  simp only [execOp, ho, hx, Sem.run_bind, run_str_own w base src dst e v l hs he hd h, Result.andThen_ok, Sem.run_pure, Oper.upon]
  exact hK' _ _ hK

theorem Try.infoByte : (Try.prog.info? 5).map (fun i => (i.zero, i.size, i.bytes)) = some (some (.int .u8 0), 1, 1) := by kernel_rfl

/-- the state of a list that grows -/
def LsS (w wr : World) (v : Value) (l : List UInt8) : Prop := Fr [] w wr ∧ wr.ownsRow w.heap.size 5 1 v l.length (bv l)
theorem LsS.append {w wr w1 : World} {v : Value} {l : List UInt8} {g cap : Nat} {o : Obj} (b : UInt8) (h : LsS w wr v l) (hown : w1.ownsRow w.heap.size 5 1 (.slice (some ⟨g, 0, none⟩) (l.length + 1) cap) (l.length + 1) (bv l ++ [.int .u8 (b.toNat : Int)]))
    (hgrow : (wr.alloc o).grownBy w1 v.ownBlock) : LsS w w1 (.slice (some ⟨g, 0, none⟩) (l.length + 1) cap) (l ++ [b]) := by
  refine ⟨(h.1.alloc o).of_grown hgrow (fun k hk => Or.inr (h.2.lt k hk).1), ?_⟩
  rw [List.length_append, show bv (l ++ [b]) = bv l ++ [.int .u8 (b.toNat : Int)] from by simp [bv]]; exact hown

theorem sgn_code (c : Nat) (h : 97 ≤ c) : sgn (1 + c - 97) = c := by unfold sgn; rw [if_neg (by omega)]; omega

set_option maxRecDepth 100000 in
set_option maxHeartbeats 1600000 in
theorem p_list (b : Nat) (S : Nat → Bool) (w : World) (h : Blk w b 27 (sgF S)) :
    Calls Try.prog 26 #[.pointer (some ⟨b, 0, none⟩)] w fun e w' => e = .returned (.string (lst S)) ∧ Fr [] w w' := by
  obtain ⟨i0, hi0, hz0, hz1, hz2⟩ := info_parts Try.infoByte
  have H := hide h
  have c0 : w.cell? ⟨b, 0, none⟩ = some (.bool (S 36)) := h.cell 0 (by omega)
  clear h
  cases h36 : S 36
  all_goals
    rw [h36] at c0
    go_enter Try.func26, Try.ntmps26
    go_wp2_with (at_builtin; refine wpList_append_lies _ rfl (.tmp 10) (.tmp 11) 62 rfl w.heap.size 5 i0 _ 1 1 Try.underlying62 hi0 hz0 hz1 hz2 rfl (by omega) (.slice none 0 0) 0 [] rfl (World.ownsRow_nil _ _ _ _) _ 1 1 [.int .u8 36] rfl rfl (World.news_of_block (cs := #[.int .u8 36]) (t := 5) (fr := (0, 0)) (heap_alloc_new _ _)) (by simp [Value.oneCell']) (by omega) (by unfold maxLen; omega) (by omega) (by simp) _ rfl ?_; intro g cap w1 hown1 hgrow1 hat1 hlt1; have HQ0 := hide (show LsS w w1 (.slice (some ⟨g, 0, none⟩) 1 cap) [36] from ⟨((Fr.refl [] w).alloc _).of_grown hgrow1 (fun k hk => by cases hk), hown1⟩); clear hown1 hgrow1 hat1 hlt1)
    go_loopw [3, 4] (fun v a wr => ∃ c : Nat, 97 ≤ c ∧ c ≤ 123 ∧ a = .int .u8 c ∧ Hid (LsS w wr v (lstU S (c - 97)))) (fun _ a _ => 123 - (intOf a).toNat)
    case atStart => first | exact ⟨97, by omega, by omega, rfl, hide (by rw [show lstU S (97 - 97) = [36] from by simp [lstU, h36]]; exact unhide HQ0)⟩ | exact ⟨97, by omega, by omega, rfl, hide (by rw [show lstU S (97 - 97) = [] from by simp [lstU, h36]]; exact ⟨Fr.refl _ _, World.ownsRow_nil _ _ _ _⟩)⟩
    case round =>
      obtain ⟨c, hc1, hc2, rfl, hs⟩ := hrel
      by_cases hlt : c ≤ 122
      · have d0 : wr.cell? ⟨b, 1 + c - 97, none⟩ = some (.bool (S c)) := by
          rw [((unhide H).fr0 (unhide hs).1).cell _ (by omega)]
          show some (Value.bool (S (sgn (1 + c - 97)))) = _
          rw [sgn_code c hc1]
        have HS1 := hide (show lstU S (c + 1 - 97) = lstU S (c - 97) ++ if S c then [UInt8.ofNat c] else [] from by
          rw [show c + 1 - 97 = (c - 97) + 1 from by omega, lstU_succ, show 97 + (c - 97) = c from by omega])
        have hll := lstU_len S (c - 97)
        have hcb := hide (show ((UInt8.ofNat c).toNat : Int) = c from by rw [UInt8.toNat_ofNat']; omega)
        cases hv : S c
        · rw [hv] at d0
          have HN := hide (show lstU S (c + 1 - 97) = lstU S (c - 97) from (unhide HS1).trans (by rw [hv]; simp))
          go_wp2
          go_roundw
          case rel => exact ⟨c + 1, by omega, by omega, by go_num, hide (by rw [unhide HN]; exact unhide hs)⟩
          case measure => simp [intOf]; omega
        · rw [hv] at d0
          have HN := hide (show lstU S (c + 1 - 97) = lstU S (c - 97) ++ [UInt8.ofNat c] from (unhide HS1).trans (by rw [hv]; rfl))
          go_wp2_with (at_builtin; refine wpList_append_lies _ rfl (.tmp 25) (.tmp 27) 62 rfl w.heap.size 5 i0 _ 1 1 Try.underlying62 hi0 hz0 hz1 hz2 rfl (by omega) u3 (lstU S (c - 97)).length (bv (lstU S (c - 97))) rfl (by exact (unhide hs).2.alloc _) _ 1 1 [.int .u8 c] rfl rfl (World.news_of_block (cs := #[.int .u8 c]) (t := 5) (fr := (0, 0)) (heap_alloc_new _ _)) (by simp [Value.oneCell']) (by omega) (by unfold maxLen; omega) (by omega) (by have := (unhide hs).1.size; simp; omega) _ rfl ?_; intro g2 cap2 w2 hown2 hgrow2 hat2 hlt2; have HQ2 := hide (LsS.append (UInt8.ofNat c) (unhide hs) (by rw [unhide hcb]; exact hown2) hgrow2); clear hown2 hgrow2 hat2 hlt2)
          go_roundw
          case rel => exact ⟨c + 1, by omega, by omega, by go_num, hide (by rw [unhide HN]; exact unhide HQ2)⟩
          case measure => simp [intOf]; omega
      · have HN := hide (show LsS w wr u3 (lstU S 26) from by
          have := unhide hs
          rw [show c - 97 = 26 from by omega] at this; exact this)
        clear hs
        go_wp2_with (refine wpList_str_own rfl w.heap.size 62 9 5 (.tmp 29) rfl u3 (lstU S 26) Try.underlying62 Try.underlying5 Try.underlying9 rfl (by exact (unhide HN).2) ?_)
        go_ret
        exact ⟨rfl, (unhide HN).1⟩

end Go.Proofs.Ytdnmajcaljpajaa
