import Derived.Test.YtkglggkkbmmjkaaGreatDoorJ42PActs2
import Derived.Test.YtkglggkkbmmjkaaGreatDoorJ16Lists
namespace Go.Proofs.YtkglggkkbmmjkaaGreatDoor
open Go.RowKit

/-- what can be done, written down: the rules below k -/
def acL (st : Bool) (ru : Nat → Bool) (k : Nat) : List UInt8 := (if st then [115] else []) ++ ((List.range k).filter ru).map fun j => UInt8.ofNat (48 + j)
theorem acL_succ (st : Bool) (ru : Nat → Bool) (k : Nat) : acL st ru (k + 1) = acL st ru k ++ if ru k then [UInt8.ofNat (48 + k)] else [] := by
  unfold acL
  rw [List.range_succ, List.filter_append, List.map_append, List.append_assoc]
  congr 2
  cases h : ru k <;> simp [h]
theorem acL_len (st : Bool) (ru : Nat → Bool) (k : Nat) : (acL st ru k).length ≤ k + 1 := by
  unfold acL
  rw [List.length_append, List.length_map]
  have := List.length_filter_le ru (List.range k)
  rw [List.length_range] at this
  split <;> simp <;> omega

set_option maxRecDepth 100000 in
set_option maxHeartbeats 1600000 in
/-- actSet.list -/
theorem p_alist (b : Nat) (st : Bool) (ru : Nat → Bool) (w : World) (h : Blk w b 10 (acF st ru)) :
    Calls Tryz.prog 86 #[.pointer (some ⟨b, 0, none⟩)] w fun e w' => e = .returned (.string ⟨(acL st ru 9).toArray⟩) ∧ Fr [] w w' := by
  obtain ⟨i0, hi0, hz0, hz1, hz2⟩ := info_parts Tryz.infoByte
  have H := hide h
  have c0 : w.cell? ⟨b, 0, none⟩ = some (.bool st) := h.cell 0 (by omega)
  clear h
  cases st
  · go_enter Tryz.func86, Tryz.ntmps86
    go_wp2_with (at_builtin; refine wpList_append_lies _ rfl (.tmp 9) (.tmp 10) 158 rfl w.heap.size 5 i0 _ 1 1 Tryz.underlying158 hi0 hz0 hz1 hz2 rfl (by omega) (.slice none 0 0) 0 [] rfl (World.ownsRow_nil _ _ _ _) _ 1 1 [.int .u8 115] rfl rfl (World.news_of_block (cs := #[.int .u8 115]) (t := 5) (fr := (0, 0)) (heap_alloc_new _ _)) (by simp [Value.oneCell']) (by omega) (by unfold maxLen; omega) (by omega) (by simp) _ rfl ?_; intro g cap w1 hown1 hgrow1 hat1 hlt1; have HQ0 := hide (show LsS w w1 (.slice (some ⟨g, 0, none⟩) 1 cap) [115] from ⟨((Fr.refl [] w).alloc _).of_grown hgrow1 (fun k hk => by cases hk), hown1⟩); clear hown1 hgrow1 hat1 hlt1)
    go_loopw [3, 4] (fun v a wr => ∃ k : Nat, k ≤ 9 ∧ a = .int .i64 k ∧ Hid (LsS w wr v (acL false ru k))) (fun _ a _ => 9 - (intOf a).toNat)
    case atStart => first | exact ⟨0, by omega, rfl, hide (by exact unhide HQ0)⟩ | exact ⟨0, by omega, rfl, hide (by exact ⟨Fr.refl _ _, World.ownsRow_nil _ _ _ _⟩)⟩
    case round =>
      obtain ⟨k, hk, rfl, hs⟩ := hrel
      by_cases hlt : k < 9
      · have d0 : wr.cell? ⟨b, 1 + k, none⟩ = some (.bool (ru k)) := by
          rw [((unhide H).fr0 (unhide hs).1).cell _ (by omega)]
          unfold acF
          rw [if_neg (by omega), Nat.add_sub_cancel_left]
        have HS1 := hide (acL_succ false ru k)
        have hll := acL_len false ru k
        have hcb := hide (show ((UInt8.ofNat (48 + k)).toNat : Int) = 48 + k from by rw [UInt8.toNat_ofNat']; omega)
        cases hv : ru k
        · rw [hv] at d0
          have HN := hide (show acL false ru (k + 1) = acL false ru k from (unhide HS1).trans (by rw [hv]; simp))
          go_wp2
          go_roundw
          case rel => exact ⟨k + 1, by omega, by go_num, hide (by rw [unhide HN]; exact unhide hs)⟩
          case measure => simp [intOf]; omega
        · rw [hv] at d0
          have HN := hide (show acL false ru (k + 1) = acL false ru k ++ [UInt8.ofNat (48 + k)] from (unhide HS1).trans (by rw [hv]; rfl))
          go_wp2_with (at_builtin; refine wpList_append_lies _ rfl (.tmp 22) (.tmp 26) 158 rfl w.heap.size 5 i0 _ 1 1 Tryz.underlying158 hi0 hz0 hz1 hz2 rfl (by omega) u3 (acL false ru k).length (bv (acL false ru k)) rfl (by exact (unhide hs).2.alloc _) _ 1 1 [.int .u8 (48 + k)] rfl rfl (World.news_of_block (cs := #[.int .u8 (48 + k)]) (t := 5) (fr := (0, 0)) (heap_alloc_new _ _)) (by simp [Value.oneCell']) (by omega) (by unfold maxLen; omega) (by omega) (by have := (unhide hs).1.size; simp; omega) _ rfl ?_; intro g2 cap2 w2 hown2 hgrow2 hat2 hlt2; have HQ2 := hide (LsS.append (UInt8.ofNat (48 + k)) (unhide hs) (by rw [unhide hcb]; exact hown2) hgrow2); clear hown2 hgrow2 hat2 hlt2)
          go_roundw
          case rel => exact ⟨k + 1, by omega, by go_num, hide (by rw [unhide HN]; exact unhide HQ2)⟩
          case measure => simp [intOf]; omega
      · have HN := hide (show LsS w wr u3 (acL false ru 9) from by
          have := unhide hs
          rw [show k = 9 from by omega] at this; exact this)
        clear hs
        go_wp2_with (refine wpList_str_own rfl w.heap.size 158 9 5 (.tmp 28) rfl u3 (acL false ru 9) Tryz.underlying158 Tryz.underlying5 Tryz.underlying9 rfl (by exact (unhide HN).2) ?_)
        go_ret
        exact ⟨rfl, (unhide HN).1⟩
  · go_enter Tryz.func86, Tryz.ntmps86
    go_wp2_with (at_builtin; refine wpList_append_lies _ rfl (.tmp 9) (.tmp 10) 158 rfl w.heap.size 5 i0 _ 1 1 Tryz.underlying158 hi0 hz0 hz1 hz2 rfl (by omega) (.slice none 0 0) 0 [] rfl (World.ownsRow_nil _ _ _ _) _ 1 1 [.int .u8 115] rfl rfl (World.news_of_block (cs := #[.int .u8 115]) (t := 5) (fr := (0, 0)) (heap_alloc_new _ _)) (by simp [Value.oneCell']) (by omega) (by unfold maxLen; omega) (by omega) (by simp) _ rfl ?_; intro g cap w1 hown1 hgrow1 hat1 hlt1; have HQ0 := hide (show LsS w w1 (.slice (some ⟨g, 0, none⟩) 1 cap) [115] from ⟨((Fr.refl [] w).alloc _).of_grown hgrow1 (fun k hk => by cases hk), hown1⟩); clear hown1 hgrow1 hat1 hlt1)
    go_loopw [3, 4] (fun v a wr => ∃ k : Nat, k ≤ 9 ∧ a = .int .i64 k ∧ Hid (LsS w wr v (acL true ru k))) (fun _ a _ => 9 - (intOf a).toNat)
    case atStart => first | exact ⟨0, by omega, rfl, hide (by exact unhide HQ0)⟩ | exact ⟨0, by omega, rfl, hide (by exact ⟨Fr.refl _ _, World.ownsRow_nil _ _ _ _⟩)⟩
    case round =>
      obtain ⟨k, hk, rfl, hs⟩ := hrel
      by_cases hlt : k < 9
      · have d0 : wr.cell? ⟨b, 1 + k, none⟩ = some (.bool (ru k)) := by
          rw [((unhide H).fr0 (unhide hs).1).cell _ (by omega)]
          unfold acF
          rw [if_neg (by omega), Nat.add_sub_cancel_left]
        have HS1 := hide (acL_succ true ru k)
        have hll := acL_len true ru k
        have hcb := hide (show ((UInt8.ofNat (48 + k)).toNat : Int) = 48 + k from by rw [UInt8.toNat_ofNat']; omega)
        cases hv : ru k
        · rw [hv] at d0
          have HN := hide (show acL true ru (k + 1) = acL true ru k from (unhide HS1).trans (by rw [hv]; simp))
          go_wp2
          go_roundw
          case rel => exact ⟨k + 1, by omega, by go_num, hide (by rw [unhide HN]; exact unhide hs)⟩
          case measure => simp [intOf]; omega
        · rw [hv] at d0
          have HN := hide (show acL true ru (k + 1) = acL true ru k ++ [UInt8.ofNat (48 + k)] from (unhide HS1).trans (by rw [hv]; rfl))
          go_wp2_with (at_builtin; refine wpList_append_lies _ rfl (.tmp 22) (.tmp 26) 158 rfl w.heap.size 5 i0 _ 1 1 Tryz.underlying158 hi0 hz0 hz1 hz2 rfl (by omega) u3 (acL true ru k).length (bv (acL true ru k)) rfl (by exact (unhide hs).2.alloc _) _ 1 1 [.int .u8 (48 + k)] rfl rfl (World.news_of_block (cs := #[.int .u8 (48 + k)]) (t := 5) (fr := (0, 0)) (heap_alloc_new _ _)) (by simp [Value.oneCell']) (by omega) (by unfold maxLen; omega) (by omega) (by have := (unhide hs).1.size; simp; omega) _ rfl ?_; intro g2 cap2 w2 hown2 hgrow2 hat2 hlt2; have HQ2 := hide (LsS.append (UInt8.ofNat (48 + k)) (unhide hs) (by rw [unhide hcb]; exact hown2) hgrow2); clear hown2 hgrow2 hat2 hlt2)
          go_roundw
          case rel => exact ⟨k + 1, by omega, by go_num, hide (by rw [unhide HN]; exact unhide HQ2)⟩
          case measure => simp [intOf]; omega
      · have HN := hide (show LsS w wr u3 (acL true ru 9) from by
          have := unhide hs
          rw [show k = 9 from by omega] at this; exact this)
        clear hs
        go_wp2_with (refine wpList_str_own rfl w.heap.size 158 9 5 (.tmp 28) rfl u3 (acL true ru 9) Tryz.underlying158 Tryz.underlying5 Tryz.underlying9 rfl (by exact (unhide HN).2) ?_)
        go_ret
        exact ⟨rfl, (unhide HN).1⟩

set_option maxHeartbeats 400000 in
/-- actSet.isClash -/
theorem p_isClash (b : Nat) (st : Bool) (ru : Nat → Bool) (w : World) (h : Blk w b 10 (acF st ru)) :
    Calls Tryz.prog 130 #[.pointer (some ⟨b, 0, none⟩)] w fun e w' => e = .returned (.bool (decide (1 < (acL st ru 9).length))) ∧ Fr [] w w' := by
  have H := hide h
  have hsz : (⟨(acL st ru 9).toArray⟩ : ByteArray).size = (acL st ru 9).length := rfl
  have hll := acL_len st ru 9
  obtain ⟨s, hs0⟩ : ∃ s : ByteArray, (⟨(acL st ru 9).toArray⟩ : ByteArray) = s := ⟨_, rfl⟩
  rw [hs0] at hsz
  have HS := hide hs0
  obtain ⟨n, hn⟩ : ∃ n, (acL st ru 9).length = n := ⟨_, rfl⟩
  rw [hn] at hsz hll ⊢
  clear h hs0 hn
  by_cases h1 : 1 < n
  all_goals
    go_enter Tryz.func130, Tryz.ntmps130
    go_wp2_with (go_at_call 86; refine (p_alist b st ru w (unhide H)).mono ?_; rintro e w1 ⟨rfl, hf1⟩; rw [unhide HS]; have HF1 := hide hf1; clear hf1)
    go_ret
    exact ⟨ret_bool (by rw [decide_eq_decide]; omega), unhide HF1⟩
end Go.Proofs.YtkglggkkbmmjkaaGreatDoor

namespace Go.Proofs.YtkglggkkbmmjkaaGreatDoor
open Go.RowKit

/-- the table cannot be made, and why -/
def TErr (t : ByteArray) (x : Nat) : Prop := ((gErr t).1 ≠ 0 ∧ x = (gErr t).1) ∨ ((gErr t).1 = 0 ∧ ∃ n S c, StatesR (plT t) n S c x)
/-- the table -/
def TGood (t : ByteArray) (S : List Sd) (c : Nat) : Prop := (gErr t).1 = 0 ∧ StatesR (plT t) S.length S c 0 ∧ S.length ≤ 40 ∧ c ≤ S.length
theorem TabOut.parts {t : ByteArray} {w w' : World} {f : Nat → Value} (h : TabOut t w w' f) : ∃ (x : Nat) (ao : Option Addr) (l cap : Nat), f 1361 = .int .i64 (x : Nat) ∧ f 1359 = .slice ao l cap ∧ (x ≠ 0 → TErr t x) ∧ (x = 0 → ∃ S c base, TGood t S c ∧ l = S.length ∧ (∀ i, i < 1362 → f i = tbF (plT t) (.slice ao l cap) c 0 i) ∧ GRow w' base 147 1268 (.slice ao l cap) S.length (rwF S)) := by
  by_cases h0 : (gErr t).1 = 0
  · obtain ⟨n, v, S, c, fl, base, h1, h2, h3, h4, h5, h6, h7⟩ := h.2.2.2 h0
    obtain ⟨ao, cap, hv⟩ : ∃ ao cap, v = .slice ao S.length cap := by
      obtain ⟨_, k2⟩ := h6
      rcases k2 with ⟨rfl, k2⟩ | ⟨g', cap', cur, rfl, _⟩
      · exact ⟨none, 0, by rw [k2]⟩
      · exact ⟨_, cap', rfl⟩
    subst hv
    refine ⟨fl, ao, S.length, cap, by rw [h1 1361 (by omega)]; rfl, by rw [h1 1359 (by omega)]; rfl, fun hx => Or.inr ⟨h0, n, S, c, h2⟩, fun hx => ?_⟩
    subst hx
    exact ⟨S, c, base, ⟨h0, h3 rfl ▸ h2, h4, h5⟩, rfl, h1, h6⟩
  · exact ⟨(gErr t).1, none, 0, 0, (h.2.2.1 h0).1, (h.2.2.1 h0).2, fun _ => Or.inl ⟨h0, rfl⟩, fun hx => absurd hx h0⟩
/-- the table, laid into a variable of the caller's -/
theorem TabOut.lay {t : ByteArray} {w1 w2 w3 : World} {f z : Nat → Value} {v : Value} {S : List Sd} {c base : Nat} (hf : ∀ i, i < 1362 → f i = tbF (plT t) v c 0 i) (hr : GRow w1 base 147 1268 v S.length (rwF S)) (hf2 : Fr [] w1 w2) (hf3 : Fr [w1.heap.size] w2 w3) (hB : Blk w3 w1.heap.size 1362 (lay z 0 1362 f)) : TbR w3 w1.heap.size base (plT t) v S c 0 :=
  ⟨hB.congr fun i hi => (lay_all _ _ _ i hi).trans (hf i hi), (hr.fr hf2 (by simp)).fr hf3 (fun g hg => by have := (hr.lt hg).2; simp; omega)⟩

set_option maxRecDepth 100000 in
set_option maxHeartbeats 2000000 in
/-- States -/
theorem p_States (t : ByteArray) (w : World) (ht : t.size ≤ 9223372036854775807) :
    Calls Tryz.prog 31 #[.string t] w fun e w' => Fr [] w w' ∧ ∃ n x : Nat, e = .returned (.tuple #[.int .i64 n, .int .i64 x]) ∧ (x ≠ 0 → n = 0 ∧ TErr t x) ∧ (x = 0 → ∃ S c, TGood t S c ∧ n = S.length) := by
  go_enter Tryz.func31, Tryz.ntmps31
  go_wp2_with (first
    | (go_at_call 78; refine (p_readTable t w ht).mono ?_; rintro e w1 ⟨f, rfl, hT⟩; obtain ⟨x, ao, l, cap, hx1, hx0, hx2, hx3⟩ := hT.parts; have HX1 := hide hx1; have HX0 := hide hx0; have HX2 := hide hx2; have HX3 := hide hx3; have HO := hide hT.2.1; have HF1 := hide hT.1; clear hT hx1 hx2 hx3 hx0)
    | (refine wpList_alloc_blk rfl 79 rfl (some 4) rfl 1362 _ Tryz.zeroTbl ?_; intro w2 hf2 hs2 hB2; have HF2 := hide hf2; have HB2 := hide hB2; clear hf2 hB2 hs2)
    | (refine wpList_store_blk rfl 79 (.tmp 4) (.tmp 6) rfl w1.heap.size 0 1362 1362 zTb f rfl rfl (by exact unhide HB2) Tryz.sizeTbl (by omega) (by exact unhide HO) ?_; intro w3 hf3 hs3 hB3; have HF3 := hide hf3; have HB3 := hide hB3; have HFw := hide (show Fr [] w w3 from ((unhide HF1).trans0 (unhide HF2)).trans1 hf3 (Or.inr (unhide HF1).size)); have c6 := (hB3.cell 1361 (by omega)).trans (congrArg some ((lay_all _ _ _ _ (by omega)).trans (unhide HX1))); have c7 := (hB3.cell 1359 (by omega)).trans (congrArg some ((lay_all _ _ _ _ (by omega)).trans (unhide HX0))); clear hf3 hB3 hs3))
  · have hff : ((x : Int) != 0) = true := by assumption
    have hx0 : x ≠ 0 := fun e => by rw [e] at hff; cases hff
    go_quiet (fail)
    go_wp2
    go_ret2
    exact ⟨(unhide HFw).trans0 (fr_drewN _ _), 0, x, rfl, fun _ => ⟨rfl, unhide HX2 hx0⟩, fun e => absurd e hx0⟩
  · have hff : ((x : Int) != 0) = false := by assumption
    have hx0 : x = 0 := by
      have : (x : Int) = 0 := by simpa using hff
      omega
    go_ret2
    obtain ⟨S, c, base, h1, h2, h3, h4⟩ := unhide HX3 hx0
    exact ⟨unhide HFw, l, 0, rfl, fun e => absurd rfl e, fun _ => ⟨S, c, h1, h2⟩⟩
end Go.Proofs.YtkglggkkbmmjkaaGreatDoor
