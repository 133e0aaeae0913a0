import Derived.Test.YtkglggkkbmmjkaaGreatDoorJ44PCalls3
import Derived.Test.YtkglggkkbmmjkaaGreatDoorJ47RCallV
namespace Go.Proofs.YtkglggkkbmmjkaaGreatDoor
open Go.RowKit

def orK (ru ru2 : Nat → Bool) (k : Nat) : Nat → Bool := fun i => if i < k then ru i || ru2 i else ru i
theorem acF_or (st : Bool) (ru ru2 : Nat → Bool) (k i : Nat) : upd (acF st (orK ru ru2 k)) (1 + k) (.bool (ru k || ru2 k)) i = acF st (orK ru ru2 (k + 1)) i := by
  unfold upd acF
  by_cases e : i = 1 + k
  · rw [if_pos e, if_neg (by omega), e]
    unfold orK
    rw [Nat.add_sub_cancel_left, if_pos (by omega)]
  · rw [if_neg e]
    by_cases e0 : i = 0
    · rw [if_pos e0, if_pos e0]
    · rw [if_neg e0, if_neg e0]
      unfold orK
      by_cases h : i - 1 < k
      · rw [if_pos h, if_pos (by omega)]
      · rw [if_neg h, if_neg (by omega)]
/-- addAll's state -/
def AaS (w wr : World) (b : Nat) (f : Nat → Value) (g : Nat → Value) : Prop := Fr [b] w wr ∧ Blk wr b 10 f ∧ Blk wr w.heap.size 10 g

set_option maxRecDepth 100000 in
set_option maxHeartbeats 2000000 in
/-- actSet.addAll -/
theorem p_aaddAll (b : Nat) (st st2 : Bool) (ru ru2 : Nat → Bool) (w : World) (h : Blk w b 10 (acF st ru)) :
    Calls Tryz.prog 128 #[.pointer (some ⟨b, 0, none⟩), Agg 10 (acF st2 ru2)] w fun e w' => e = .returned (.tuple #[]) ∧ Fr [b] w w' ∧ Blk w' b 10 (acF (st || st2) (orK ru ru2 9)) := by
  have H := hide h
  have lb := h.lt
  clear h
  cases st
  · cases st2
    · go_enter Tryz.func128, Tryz.ntmps128
      go_wp2_with (refine wpList_box_blk rfl 135 (.tmp 1) rfl (some 3) rfl 10 (acF false ru2) rfl ?_; intro w1 hf1 hs1 hB1; have H1 := hide (show AaS w w1 b (acF false ru) (acF false ru2) from ⟨hf1.weak (by simp), (unhide H).fr0 hf1, hB1⟩); have c0 : w1.cell? ⟨b, 0, none⟩ = some (.bool false) := ((unhide H1).2.1.cell 0 (by omega)); have z0 := (unhide H1).2.1.free 0; have c1 : w1.cell? ⟨w.heap.size, 0, none⟩ = some (.bool false) := ((unhide H1).2.2.cell 0 (by omega)); clear hf1 hB1 hs1)
      obtain ⟨w2, hw2⟩ : ∃ w2, w1.setCell ⟨b, 0, none⟩ (.bool false) = w2 := ⟨_, rfl⟩
      rw [hw2]
      have H2 := hide (show AaS w w2 b (acF false (orK ru ru2 0)) (acF false ru2) from by
        have k2 : Fr [b] w1 w2 := hw2 ▸ (Fr.refl [b] w1).setCell ⟨b, 0, none⟩ (by simp) _
        refine ⟨(unhide H1).1.trans k2 (by simp), hw2 ▸ ((unhide H1).2.1.setCell 0 (.bool false)).congr fun i _ => ?_, (unhide H1).2.2.fr1 k2 (by omega)⟩
        unfold upd acF orK
        by_cases e : i = 0
        · rw [if_pos e, if_pos e]
        · rw [if_neg e, if_neg e, if_neg e, if_neg (by omega)])
      clear hw2 H1 c0 c1 z0
      go_loopw [4] (fun i wr => ∃ k : Nat, k ≤ 9 ∧ i = .int .i64 k ∧ Hid (AaS w wr b (acF false (orK ru ru2 k)) (acF false ru2))) (fun i _ => 9 - (intOf i).toNat)
      case atStart => exact ⟨0, by omega, rfl, H2⟩
      case round =>
        obtain ⟨k, hk, rfl, hs⟩ := hrel
        clear H2
        by_cases hlt : k < 9
        · obtain ⟨av, hav⟩ : ∃ av, ru k = av := ⟨_, rfl⟩
          have d0 : wr.cell? ⟨b, 1 + k, none⟩ = some (.bool av) := by
            rw [(unhide hs).2.1.cell (1 + k) (by omega)]
            unfold acF orK
            rw [if_neg (by omega), Nat.add_sub_cancel_left, if_neg (by omega), hav]
          have y0 := (unhide hs).2.1.free (1 + k)
          have d1 : wr.cell? ⟨w.heap.size, 1 + k, none⟩ = some (.bool (ru2 k)) := by
            rw [(unhide hs).2.2.cell (1 + k) (by omega)]
            unfold acF
            rw [if_neg (by omega), Nat.add_sub_cancel_left]
          have HN := hide (show AaS w (wr.setCell ⟨b, 1 + k, none⟩ (.bool (av || ru2 k))).drew b (acF false (orK ru ru2 (k + 1))) (acF false ru2) from
            ⟨((unhide hs).1.setCell _ (by simp) _).drew, (((unhide hs).2.1.setCell (1 + k) _).congr fun i _ => by rw [← hav]; exact acF_or false ru ru2 k i).drew, ((unhide hs).2.2.setCell_ne _ (by simp; omega) _).drew⟩)
          clear hs hav
          cases av
          · go_wp2
            go_region
            all_goals
              go_wp2
              go_roundw
              case rel => exact ⟨k + 1, by omega, by go_num, HN⟩
              case measure => simp [intOf]; omega
          · go_wp2
            go_region
            all_goals
              go_wp2
              go_roundw
              case rel => exact ⟨k + 1, by omega, by go_num, HN⟩
              case measure => simp [intOf]; omega
        · have HN := hide (show Fr [b] w wr ∧ Blk wr b 10 (acF false (orK ru ru2 9)) from by
            have e : k = 9 := by omega
            subst e; exact ⟨(unhide hs).1, (unhide hs).2.1⟩)
          clear hs
          go_wp2
          go_end0
          exact ⟨rfl, unhide HN⟩
    · go_enter Tryz.func128, Tryz.ntmps128
      go_wp2_with (refine wpList_box_blk rfl 135 (.tmp 1) rfl (some 3) rfl 10 (acF true ru2) rfl ?_; intro w1 hf1 hs1 hB1; have H1 := hide (show AaS w w1 b (acF false ru) (acF true ru2) from ⟨hf1.weak (by simp), (unhide H).fr0 hf1, hB1⟩); have c0 : w1.cell? ⟨b, 0, none⟩ = some (.bool false) := ((unhide H1).2.1.cell 0 (by omega)); have z0 := (unhide H1).2.1.free 0; have c1 : w1.cell? ⟨w.heap.size, 0, none⟩ = some (.bool true) := ((unhide H1).2.2.cell 0 (by omega)); clear hf1 hB1 hs1)
      obtain ⟨w2, hw2⟩ : ∃ w2, w1.setCell ⟨b, 0, none⟩ (.bool true) = w2 := ⟨_, rfl⟩
      rw [hw2]
      have H2 := hide (show AaS w w2 b (acF true (orK ru ru2 0)) (acF true ru2) from by
        have k2 : Fr [b] w1 w2 := hw2 ▸ (Fr.refl [b] w1).setCell ⟨b, 0, none⟩ (by simp) _
        refine ⟨(unhide H1).1.trans k2 (by simp), hw2 ▸ ((unhide H1).2.1.setCell 0 (.bool true)).congr fun i _ => ?_, (unhide H1).2.2.fr1 k2 (by omega)⟩
        unfold upd acF orK
        by_cases e : i = 0
        · rw [if_pos e, if_pos e]
        · rw [if_neg e, if_neg e, if_neg e, if_neg (by omega)])
      clear hw2 H1 c0 c1 z0
      go_loopw [4] (fun i wr => ∃ k : Nat, k ≤ 9 ∧ i = .int .i64 k ∧ Hid (AaS w wr b (acF true (orK ru ru2 k)) (acF true ru2))) (fun i _ => 9 - (intOf i).toNat)
      case atStart => exact ⟨0, by omega, rfl, H2⟩
      case round =>
        obtain ⟨k, hk, rfl, hs⟩ := hrel
        clear H2
        by_cases hlt : k < 9
        · obtain ⟨av, hav⟩ : ∃ av, ru k = av := ⟨_, rfl⟩
          have d0 : wr.cell? ⟨b, 1 + k, none⟩ = some (.bool av) := by
            rw [(unhide hs).2.1.cell (1 + k) (by omega)]
            unfold acF orK
            rw [if_neg (by omega), Nat.add_sub_cancel_left, if_neg (by omega), hav]
          have y0 := (unhide hs).2.1.free (1 + k)
          have d1 : wr.cell? ⟨w.heap.size, 1 + k, none⟩ = some (.bool (ru2 k)) := by
            rw [(unhide hs).2.2.cell (1 + k) (by omega)]
            unfold acF
            rw [if_neg (by omega), Nat.add_sub_cancel_left]
          have HN := hide (show AaS w (wr.setCell ⟨b, 1 + k, none⟩ (.bool (av || ru2 k))).drew b (acF true (orK ru ru2 (k + 1))) (acF true ru2) from
            ⟨((unhide hs).1.setCell _ (by simp) _).drew, (((unhide hs).2.1.setCell (1 + k) _).congr fun i _ => by rw [← hav]; exact acF_or true ru ru2 k i).drew, ((unhide hs).2.2.setCell_ne _ (by simp; omega) _).drew⟩)
          clear hs hav
          cases av
          · go_wp2
            go_region
            all_goals
              go_wp2
              go_roundw
              case rel => exact ⟨k + 1, by omega, by go_num, HN⟩
              case measure => simp [intOf]; omega
          · go_wp2
            go_region
            all_goals
              go_wp2
              go_roundw
              case rel => exact ⟨k + 1, by omega, by go_num, HN⟩
              case measure => simp [intOf]; omega
        · have HN := hide (show Fr [b] w wr ∧ Blk wr b 10 (acF true (orK ru ru2 9)) from by
            have e : k = 9 := by omega
            subst e; exact ⟨(unhide hs).1, (unhide hs).2.1⟩)
          clear hs
          go_wp2
          go_end0
          exact ⟨rfl, unhide HN⟩
  · cases st2
    · go_enter Tryz.func128, Tryz.ntmps128
      go_wp2_with (refine wpList_box_blk rfl 135 (.tmp 1) rfl (some 3) rfl 10 (acF false ru2) rfl ?_; intro w1 hf1 hs1 hB1; have H1 := hide (show AaS w w1 b (acF true ru) (acF false ru2) from ⟨hf1.weak (by simp), (unhide H).fr0 hf1, hB1⟩); have c0 : w1.cell? ⟨b, 0, none⟩ = some (.bool true) := ((unhide H1).2.1.cell 0 (by omega)); have z0 := (unhide H1).2.1.free 0; have c1 : w1.cell? ⟨w.heap.size, 0, none⟩ = some (.bool false) := ((unhide H1).2.2.cell 0 (by omega)); clear hf1 hB1 hs1)
      obtain ⟨w2, hw2⟩ : ∃ w2, w1.setCell ⟨b, 0, none⟩ (.bool true) = w2 := ⟨_, rfl⟩
      rw [hw2]
      have H2 := hide (show AaS w w2 b (acF true (orK ru ru2 0)) (acF false ru2) from by
        have k2 : Fr [b] w1 w2 := hw2 ▸ (Fr.refl [b] w1).setCell ⟨b, 0, none⟩ (by simp) _
        refine ⟨(unhide H1).1.trans k2 (by simp), hw2 ▸ ((unhide H1).2.1.setCell 0 (.bool true)).congr fun i _ => ?_, (unhide H1).2.2.fr1 k2 (by omega)⟩
        unfold upd acF orK
        by_cases e : i = 0
        · rw [if_pos e, if_pos e]
        · rw [if_neg e, if_neg e, if_neg e, if_neg (by omega)])
      clear hw2 H1 c0 c1 z0
      go_loopw [4] (fun i wr => ∃ k : Nat, k ≤ 9 ∧ i = .int .i64 k ∧ Hid (AaS w wr b (acF true (orK ru ru2 k)) (acF false ru2))) (fun i _ => 9 - (intOf i).toNat)
      case atStart => exact ⟨0, by omega, rfl, H2⟩
      case round =>
        obtain ⟨k, hk, rfl, hs⟩ := hrel
        clear H2
        by_cases hlt : k < 9
        · obtain ⟨av, hav⟩ : ∃ av, ru k = av := ⟨_, rfl⟩
          have d0 : wr.cell? ⟨b, 1 + k, none⟩ = some (.bool av) := by
            rw [(unhide hs).2.1.cell (1 + k) (by omega)]
            unfold acF orK
            rw [if_neg (by omega), Nat.add_sub_cancel_left, if_neg (by omega), hav]
          have y0 := (unhide hs).2.1.free (1 + k)
          have d1 : wr.cell? ⟨w.heap.size, 1 + k, none⟩ = some (.bool (ru2 k)) := by
            rw [(unhide hs).2.2.cell (1 + k) (by omega)]
            unfold acF
            rw [if_neg (by omega), Nat.add_sub_cancel_left]
          have HN := hide (show AaS w (wr.setCell ⟨b, 1 + k, none⟩ (.bool (av || ru2 k))).drew b (acF true (orK ru ru2 (k + 1))) (acF false ru2) from
            ⟨((unhide hs).1.setCell _ (by simp) _).drew, (((unhide hs).2.1.setCell (1 + k) _).congr fun i _ => by rw [← hav]; exact acF_or true ru ru2 k i).drew, ((unhide hs).2.2.setCell_ne _ (by simp; omega) _).drew⟩)
          clear hs hav
          cases av
          · go_wp2
            go_region
            all_goals
              go_wp2
              go_roundw
              case rel => exact ⟨k + 1, by omega, by go_num, HN⟩
              case measure => simp [intOf]; omega
          · go_wp2
            go_region
            all_goals
              go_wp2
              go_roundw
              case rel => exact ⟨k + 1, by omega, by go_num, HN⟩
              case measure => simp [intOf]; omega
        · have HN := hide (show Fr [b] w wr ∧ Blk wr b 10 (acF true (orK ru ru2 9)) from by
            have e : k = 9 := by omega
            subst e; exact ⟨(unhide hs).1, (unhide hs).2.1⟩)
          clear hs
          go_wp2
          go_end0
          exact ⟨rfl, unhide HN⟩
    · go_enter Tryz.func128, Tryz.ntmps128
      go_wp2_with (refine wpList_box_blk rfl 135 (.tmp 1) rfl (some 3) rfl 10 (acF true ru2) rfl ?_; intro w1 hf1 hs1 hB1; have H1 := hide (show AaS w w1 b (acF true ru) (acF true ru2) from ⟨hf1.weak (by simp), (unhide H).fr0 hf1, hB1⟩); have c0 : w1.cell? ⟨b, 0, none⟩ = some (.bool true) := ((unhide H1).2.1.cell 0 (by omega)); have z0 := (unhide H1).2.1.free 0; have c1 : w1.cell? ⟨w.heap.size, 0, none⟩ = some (.bool true) := ((unhide H1).2.2.cell 0 (by omega)); clear hf1 hB1 hs1)
      obtain ⟨w2, hw2⟩ : ∃ w2, w1.setCell ⟨b, 0, none⟩ (.bool true) = w2 := ⟨_, rfl⟩
      rw [hw2]
      have H2 := hide (show AaS w w2 b (acF true (orK ru ru2 0)) (acF true ru2) from by
        have k2 : Fr [b] w1 w2 := hw2 ▸ (Fr.refl [b] w1).setCell ⟨b, 0, none⟩ (by simp) _
        refine ⟨(unhide H1).1.trans k2 (by simp), hw2 ▸ ((unhide H1).2.1.setCell 0 (.bool true)).congr fun i _ => ?_, (unhide H1).2.2.fr1 k2 (by omega)⟩
        unfold upd acF orK
        by_cases e : i = 0
        · rw [if_pos e, if_pos e]
        · rw [if_neg e, if_neg e, if_neg e, if_neg (by omega)])
      clear hw2 H1 c0 c1 z0
      go_loopw [4] (fun i wr => ∃ k : Nat, k ≤ 9 ∧ i = .int .i64 k ∧ Hid (AaS w wr b (acF true (orK ru ru2 k)) (acF true ru2))) (fun i _ => 9 - (intOf i).toNat)
      case atStart => exact ⟨0, by omega, rfl, H2⟩
      case round =>
        obtain ⟨k, hk, rfl, hs⟩ := hrel
        clear H2
        by_cases hlt : k < 9
        · obtain ⟨av, hav⟩ : ∃ av, ru k = av := ⟨_, rfl⟩
          have d0 : wr.cell? ⟨b, 1 + k, none⟩ = some (.bool av) := by
            rw [(unhide hs).2.1.cell (1 + k) (by omega)]
            unfold acF orK
            rw [if_neg (by omega), Nat.add_sub_cancel_left, if_neg (by omega), hav]
          have y0 := (unhide hs).2.1.free (1 + k)
          have d1 : wr.cell? ⟨w.heap.size, 1 + k, none⟩ = some (.bool (ru2 k)) := by
            rw [(unhide hs).2.2.cell (1 + k) (by omega)]
            unfold acF
            rw [if_neg (by omega), Nat.add_sub_cancel_left]
          have HN := hide (show AaS w (wr.setCell ⟨b, 1 + k, none⟩ (.bool (av || ru2 k))).drew b (acF true (orK ru ru2 (k + 1))) (acF true ru2) from
            ⟨((unhide hs).1.setCell _ (by simp) _).drew, (((unhide hs).2.1.setCell (1 + k) _).congr fun i _ => by rw [← hav]; exact acF_or true ru ru2 k i).drew, ((unhide hs).2.2.setCell_ne _ (by simp; omega) _).drew⟩)
          clear hs hav
          cases av
          · go_wp2
            go_region
            all_goals
              go_wp2
              go_roundw
              case rel => exact ⟨k + 1, by omega, by go_num, HN⟩
              case measure => simp [intOf]; omega
          · go_wp2
            go_region
            all_goals
              go_wp2
              go_roundw
              case rel => exact ⟨k + 1, by omega, by go_num, HN⟩
              case measure => simp [intOf]; omega
        · have HN := hide (show Fr [b] w wr ∧ Blk wr b 10 (acF true (orK ru ru2 9)) from by
            have e : k = 9 := by omega
            subst e; exact ⟨(unhide hs).1, (unhide hs).2.1⟩)
          clear hs
          go_wp2
          go_end0
          exact ⟨rfl, unhide HN⟩
end Go.Proofs.YtkglggkkbmmjkaaGreatDoor

namespace Go.Proofs.YtkglggkkbmmjkaaGreatDoor
open Go.RowKit

/-- what can be done in the first k states, those of core n -/
def mxS (S : List Sd) (n : Int) (c k : Nat) : Bool := (List.range k).any fun j => (((sget S j).core : Nat) : Int) == n && (stepTo S j c != -1)
def mxR (p : Pl) (S : List Sd) (n : Int) (c k : Nat) : Nat → Bool := fun i => (List.range k).any fun j => (((sget S j).core : Nat) : Int) == n && ruS p (sget S j).A c i
theorem mxS_succ (S : List Sd) (n : Int) (c k : Nat) : mxS S n c (k + 1) = (mxS S n c k || ((((sget S k).core : Nat) : Int) == n && (stepTo S k c != -1))) := by
  unfold mxS; rw [List.range_succ, List.any_append]; simp
theorem mxR_succ (p : Pl) (S : List Sd) (n : Int) (c k i : Nat) : mxR p S n c (k + 1) i = (mxR p S n c k i || ((((sget S k).core : Nat) : Int) == n && ruS p (sget S k).A c i)) := by
  unfold mxR; rw [List.range_succ, List.any_append]; simp
theorem AcS.fr0 {w wr w' : World} {tb base : Nat} {p : Pl} {v : Value} {S : List Sd} {cores fault : Nat} {f : Nat → Value} (h : AcS w wr tb base p v S cores fault f) (k : Fr [] wr w') : AcS w w' tb base p v S cores fault f :=
  ⟨h.1.trans0 k, h.2.1.fr0 k, h.2.2.1.fr0 k, h.2.2.2.fr0 k⟩
theorem AcS.far {w wr w' : World} {tb base x : Nat} {p : Pl} {v : Value} {S : List Sd} {cores fault : Nat} {f : Nat → Value} (h : AcS w wr tb base p v S cores fault f) (k : Fr [x] wr w') (hx : w.heap.size + 1 < x) (hb : tb < w.heap.size) (hv : ∀ y, v.ownBlock = some y → y < w.heap.size) : AcS w w' tb base p v S cores fault f :=
  ⟨h.1.trans1 k (Or.inr (by omega)), h.2.1.far k (by omega) (fun e => by have := hv _ e; omega), h.2.2.1.fr1 k (by omega), h.2.2.2.fr1 k (by omega)⟩
theorem AcS.acc {w wr w' : World} {tb base : Nat} {p : Pl} {v : Value} {S : List Sd} {cores fault : Nat} {f g : Nat → Value} (h : AcS w wr tb base p v S cores fault f) (k : Fr [w.heap.size + 1] wr w') (hB : Blk w' (w.heap.size + 1) 10 g) (hb : tb < w.heap.size) (hv : ∀ y, v.ownBlock = some y → y < w.heap.size) : AcS w w' tb base p v S cores fault g :=
  ⟨h.1.trans1 k (Or.inr (by omega)), h.2.1.far k (by omega) (fun e => by have := hv _ e; omega), h.2.2.1.fr1 k (by omega), hB⟩

theorem mx_acc (p : Pl) (S : List Sd) (n : Int) (c k : Nat) (he : ((((sget S k).core : Nat) : Int) == n) = true) (i : Nat) (hi : i < 10) : acF (mxS S n c k || (stepTo S k c != -1)) (orK (mxR p S n c k) (ruS p (sget S k).A c) 9) i = acF (mxS S n c (k + 1)) (mxR p S n c (k + 1)) i := by
  unfold acF
  rw [mxS_succ, mxR_succ, he, Bool.true_and, Bool.true_and]
  by_cases e : i = 0
  · rw [if_pos e, if_pos e]
  · rw [if_neg e, if_neg e]
    unfold orK
    rw [if_pos (by omega)]

set_option maxRecDepth 100000 in
set_option maxHeartbeats 2000000 in
/-- table.mix -/
theorem p_mix (tb base c : Nat) (n : Int) (p : Pl) (v : Value) (S : List Sd) (cores fault : Nat) (w : World) (h : TbR w tb base p v S cores fault) (hS : S.length ≤ 50) (hc : sigB c = true) :
    Calls Tryz.prog 92 #[.pointer (some ⟨tb, 0, none⟩), .int .i64 n, .int .u8 c] w fun e w' => e = .returned (Agg 10 (acF (mxS S n c S.length) (mxR p S n c S.length))) ∧ Fr [] w w' := by
  obtain ⟨ao, cap, hv, hao⟩ := h.form
  subst hv
  have lb := h.blk.lt
  have HV : ∀ x, (Value.slice ao S.length cap).ownBlock = some x → x < w.heap.size := fun x hx => (h.row.lt hx).2
  have H := hide h
  have HC := hide hc
  clear h hc
  go_enter Tryz.func92, Tryz.ntmps92
  go_wp2_with (first
    | (refine wpList_alloc_blk rfl 135 rfl (some 6) rfl 10 _ Tryz.zeroActs ?_; intro w1 hf1 hs1 hB1; have HF1 := hide hf1; have HA1 := hide hB1; clear hf1 hB1)
    | (refine wpList_alloc_blk rfl 135 rfl (some 7) rfl 10 _ Tryz.zeroActs ?_; intro w2 hf2 hs2 hB2; have H2 := hide (show AcS w w2 tb base p (.slice ao S.length cap) S cores fault (acF false fun _ => false) from ⟨(unhide HF1).trans0 hf2, ((unhide H).fr0 (unhide HF1)).fr0 hf2, (unhide HA1).fr0 hf2, hs1 ▸ hB2⟩); clear hf2 hB2 HF1 HA1))
  have hw2 : w.heap.size + 1 < w2.heap.size := by omega
  go_loopw [8] (fun i wr => ∃ k : Nat, k ≤ S.length ∧ i = .int .i64 k ∧ Hid (AcS w wr tb base p (.slice ao S.length cap) S cores fault (acF (mxS S n c k) (mxR p S n c k)))) (fun i _ => S.length - (intOf i).toNat)
  case atStart => exact ⟨0, by omega, rfl, H2⟩
  case round =>
    obtain ⟨k, hk, rfl, hs⟩ := hrel
    clear H2
    have q0 := (unhide hs).2.1.v
    by_cases hlt : k < S.length
    · obtain ⟨g, rfl, _⟩ := hao (by omega)
      have q1 := (unhide hs).2.1.core k hlt
      have hki : (k : Int) < S.length := by omega
      have hwr : w.heap.size + 1 < wr.heap.size := (unhide hs).2.2.2.lt
      cases he : ((((sget S k).core : Nat) : Int) == n)
      · have HN := hide (show AcS w wr tb base p (.slice (some ⟨g, 0, none⟩) S.length cap) S cores fault (acF (mxS S n c (k + 1)) (mxR p S n c (k + 1))) from ⟨(unhide hs).1, (unhide hs).2.1, (unhide hs).2.2.1, (unhide hs).2.2.2.congr fun i _ => by
          unfold acF; rw [mxS_succ, mxR_succ, he]; simp⟩)
        clear hs
        go_wp2
        go_roundw
        case rel => exact ⟨k + 1, by omega, by go_num, HN⟩
        case measure => simp [intOf]; omega
      · have HE := hide he
        go_wp2_with (first
          | (go_at_call 85; refine (p_acts tb base k c p _ S cores fault wr (by exact (unhide hs).2.1) hlt (unhide HC)).mono ?_; rintro e w3 ⟨rfl, hf3⟩; have H3 := hide ((unhide hs).fr0 hf3); have l3 : w.heap.size + 1 < w3.heap.size := (Nat.lt_of_lt_of_le hwr hf3.size); clear hf3)
          | (refine wpList_alloc_blk rfl 135 rfl (some 9) rfl 10 _ Tryz.zeroActs ?_; intro w4 hf4 hs4 hB4; have H4 := hide ((unhide H3).fr0 hf4); have HB4 := hide hB4; clear hf4 hB4)
          | (refine wpList_store_blk rfl 135 (.tmp 9) (.tmp 32) rfl w3.heap.size 0 10 10 (acF false fun _ => false) (acF (stepTo S k c != -1) (ruS p (sget S k).A c)) rfl rfl (by exact unhide HB4) Tryz.sizeActs (by omega) (oneB_acF _ _ 10) ?_; intro w5 hf5 hs5 hB5; have H5 := hide ((unhide H4).far hf5 l3 lb HV); have HB5 := hide (show Blk w5 w3.heap.size 10 (acF (stepTo S k c != -1) (ruS p (sget S k).A c)) from hB5.congr fun i hi => lay_all _ _ _ i hi); clear hf5 hB5)
          | (refine wpList_load_blk rfl 135 (.tmp 9) rfl (some 33) rfl w3.heap.size 0 10 10 (acF (stepTo S k c != -1) (ruS p (sget S k).A c)) _ rfl (by exact unhide HB5) Tryz.underlying135 rfl Tryz.sizeActs (by omega) ?_; rw [show (Agg 10 fun i => acF (stepTo S k c != -1) (ruS p (sget S k).A c) (0 + i)) = Agg 10 (acF (stepTo S k c != -1) (ruS p (sget S k).A c)) from by (congr 1; funext i; rw [Nat.zero_add])])
          | (go_at_call 128; refine (p_aaddAll (w.heap.size + 1) (mxS S n c k) (stepTo S k c != -1) (mxR p S n c k) (ruS p (sget S k).A c) w5 (by exact (unhide H5).2.2.2)).mono ?_; rintro e w6 ⟨rfl, hf6, hB6⟩; have H6 := hide (show AcS w w6 tb base p (.slice (some ⟨g, 0, none⟩) S.length cap) S cores fault (acF (mxS S n c (k + 1)) (mxR p S n c (k + 1))) from (unhide H5).acc hf6 (hB6.congr fun i hi => mx_acc p S n c k (unhide HE) i hi) lb HV); clear hf6 hB6))
        go_roundw
        case rel => exact ⟨k + 1, by omega, by go_num, H6⟩
        case measure => simp [intOf]; omega
    · have HN := hide (show AcS w wr tb base p (.slice ao S.length cap) S cores fault (acF (mxS S n c S.length) (mxR p S n c S.length)) from by
        have e : k = S.length := by omega
        subst e; exact unhide hs)
      clear hs
      go_wp2_with (first
        | (refine wpList_load_blk rfl 135 (.tmp 7) rfl (some 35) rfl (w.heap.size + 1) 0 10 10 (acF (mxS S n c S.length) (mxR p S n c S.length)) _ rfl (by exact (unhide HN).2.2.2) Tryz.underlying135 rfl Tryz.sizeActs (by omega) ?_)
        | (refine wpList_store_blk rfl 135 (.tmp 6) (.tmp 35) rfl w.heap.size 0 10 10 (acF false fun _ => false) (fun i => acF (mxS S n c S.length) (mxR p S n c S.length) (0 + i)) rfl rfl (by exact (unhide HN).2.2.1) Tryz.sizeActs (by omega) (fun i hi => oneB_acF _ _ (0 + i + 1) (0 + i) (Nat.lt_succ_self _)) ?_; intro w7 hf7 hs7 hB7))
      exact bodyPost_ret (results_cell Tryz.results92 _ w.heap.size rfl 10 10 _ _ (hB7.congr fun i hi => lay_all _ _ _ i hi) Tryz.underlying135 rfl Tryz.sizeActs (by omega)) rfl ⟨by congr 2; funext i; rw [Nat.zero_add], (unhide HN).1.trans1 hf7 (Or.inr (Nat.le_refl _))⟩

set_option maxHeartbeats 400000 in
/-- table.hasCore -/
theorem p_hasCore (tb base : Nat) (p : Pl) (v : Value) (S : List Sd) (cores fault : Nat) (n : Int) (w : World) (h : TbR w tb base p v S cores fault) :
    Calls Tryz.prog 91 #[.pointer (some ⟨tb, 0, none⟩), .int .i64 n] w fun e w' => e = .returned (.bool (decide (0 ≤ n) && decide (n < cores))) ∧ w' = w := by
  have c0 := h.cores
  clear h
  by_cases h0 : 0 ≤ n
  · by_cases h1 : n < cores
    · go_enter Tryz.func91, Tryz.ntmps91
      go_wp2
      go_ret
      exact ⟨by simp [h0, h1], rfl⟩
    · go_enter Tryz.func91, Tryz.ntmps91
      go_wp2
      go_ret
      exact ⟨by simp [h1], rfl⟩
  · go_enter Tryz.func91, Tryz.ntmps91
    go_wp2
    go_ret
    exact ⟨by simp; omega, rfl⟩
end Go.Proofs.YtkglggkkbmmjkaaGreatDoor

namespace Go.Proofs.YtkglggkkbmmjkaaGreatDoor
open Go.RowKit

/-- more than one thing can be done in state k where sign i comes -/
def clK (p : Pl) (S : List Sd) (k i : Nat) : Bool := decide (1 < (acL (stepTo S k (sgn i) != -1) (ruS p (sget S k).A (sgn i)) 9).length)
/-- and in core k -/
def clC (p : Pl) (S : List Sd) (k i : Nat) : Bool := decide (1 < (acL (mxS S (k : Int) (sgn i) S.length) (mxR p S (k : Int) (sgn i) S.length) 9).length)
/-- for some of the first m, and some sign -/
def anyC (f : Nat → Nat → Bool) (m : Nat) : Bool := (List.range m).any fun k => (List.range 27).any fun i => f k i
theorem anyC_true {f : Nat → Nat → Bool} {m k i : Nat} (hk : k < m) (hi : i < 27) (h : f k i = true) : anyC f m = true := by
  unfold anyC
  rw [List.any_eq_true]
  exact ⟨k, List.mem_range.2 hk, List.any_eq_true.2 ⟨i, List.mem_range.2 hi, h⟩⟩
theorem anyC_false {f : Nat → Nat → Bool} {m : Nat} (h : ∀ k, k < m → ∀ i, i < 27 → f k i = false) : anyC f m = false := by
  cases e : anyC f m
  · rfl
  · unfold anyC at e
    rw [List.any_eq_true] at e
    obtain ⟨k, hk, e⟩ := e
    rw [List.any_eq_true] at e
    obtain ⟨i, hi, e⟩ := e
    rw [h k (List.mem_range.1 hk) i (List.mem_range.1 hi)] at e; cases e

set_option maxRecDepth 100000 in
set_option maxHeartbeats 2000000 in
/-- table.statesClash -/
theorem p_statesClash (tb base : Nat) (p : Pl) (v : Value) (S : List Sd) (cores fault : Nat) (w : World) (h : TbR w tb base p v S cores fault) (hS : S.length ≤ 50) :
    Calls Tryz.prog 96 #[.pointer (some ⟨tb, 0, none⟩)] w fun e w' => e = .returned (.bool (anyC (clK p S) S.length)) ∧ Fr [] w w' := by
  obtain ⟨ao, cap, hv, _⟩ := h.form
  subst hv
  have H := hide h
  clear h
  go_enter Tryz.func96, Tryz.ntmps96
  go_wp2
  go_loopw [3] (fun iv wr => ∃ k : Nat, k ≤ S.length ∧ iv = .int .i64 k ∧ Hid (∀ j, j < k → ∀ i, i < 27 → clK p S j i = false) ∧ Hid (Fr [] w wr)) (fun iv _ => S.length - (intOf iv).toNat)
  case atStart => exact ⟨0, by omega, rfl, fun j hj => by omega, Fr.refl _ _⟩
  case round =>
    obtain ⟨k, hk, rfl, hm, hs⟩ := hrel
    have q0 := ((unhide H).fr0 (unhide hs)).v
    by_cases hlt : k < S.length
    · have hki : (k : Int) < S.length := by omega
      go_wp2
      clear q0
      go_loopw [4] (fun iv wr => ∃ i : Nat, i ≤ 27 ∧ iv = .int .i64 i ∧ Hid (∀ j, j < i → clK p S k j = false) ∧ Hid (Fr [] w wr)) (fun iv _ => 27 - (intOf iv).toNat)
      case atStart => exact ⟨0, by omega, rfl, (fun j hj => by omega), hs⟩
      case round =>
        clear hs
        obtain ⟨i, hi, rfl, hmi, hs⟩ := hrel
        by_cases hit : i < 27
        · have HT := hide ((unhide H).fr0 (unhide hs))
          have hsig := sigB_sgn hit
          obtain ⟨c, hc⟩ : ∃ c, sgn i = c := ⟨_, rfl⟩
          have HCC := hide hc
          rw [hc] at hsig
          have HSG := hide hsig
          clear hc hsig
          cases hcl : clK p S k i
          · have HN := hide (show ∀ j, j < i + 1 → clK p S k j = false from fun j hj => by
              by_cases e : j = i
              · subst e; exact hcl
              · exact unhide hmi j (by omega))
            have HCL := hide hcl
            clear hcl
            go_wp2_with (first
              | (go_at_call 106; refine (p_signAt i wr hit).mono ?_; rintro e w' ⟨rfl, hw'⟩; rw [hw', unhide HCC])
              | (go_at_call 85; refine (p_acts tb base k c p _ S cores fault wr (by exact unhide HT) hlt (unhide HSG)).mono ?_; rintro e w3 ⟨rfl, hf3⟩; have HF3 := hide ((unhide hs).trans0 hf3); clear hf3)
              | (refine wpList_alloc_blk rfl 135 rfl (some 5) rfl 10 _ Tryz.zeroActs ?_; intro w4 hf4 hs4 hB4; have HF4 := hide ((unhide HF3).trans0 hf4); have HB4 := hide hB4; clear hf4 hB4)
              | (refine wpList_store_blk rfl 135 (.tmp 5) (.tmp 23) rfl w3.heap.size 0 10 10 (acF false fun _ => false) (acF _ _) rfl rfl (by exact unhide HB4) Tryz.sizeActs (by omega) (oneB_acF _ _ 10) ?_; intro w5 hf5 hs5 hB5; have HF5 := hide ((unhide HF4).trans1 hf5 (Or.inr (unhide HF3).size)); have HB5 := hide (hB5.congr fun i hi => lay_all _ _ _ i hi); clear hf5 hB5)
              | (go_at_call 130; refine (p_isClash w3.heap.size _ _ w5 (by exact unhide HB5)).mono ?_; rintro e w6 ⟨rfl, hf6⟩; have hx := unhide HCL; unfold clK at hx; rw [unhide HCC] at hx; rw [hx]; have HF6 := hide ((unhide HF5).trans0 hf6); clear hf6 hx))
            go_roundw
            case rel => exact ⟨i + 1, by omega, by go_num, HN, HF6⟩
            case measure => simp [intOf]; omega
          · have HN := hide (anyC_true (f := clK p S) hlt hit hcl)
            have HCL := hide hcl
            clear hcl
            go_wp2_with (first
              | (go_at_call 106; refine (p_signAt i wr hit).mono ?_; rintro e w' ⟨rfl, hw'⟩; rw [hw', unhide HCC])
              | (go_at_call 85; refine (p_acts tb base k c p _ S cores fault wr (by exact unhide HT) hlt (unhide HSG)).mono ?_; rintro e w3 ⟨rfl, hf3⟩; have HF3 := hide ((unhide hs).trans0 hf3); clear hf3)
              | (refine wpList_alloc_blk rfl 135 rfl (some 5) rfl 10 _ Tryz.zeroActs ?_; intro w4 hf4 hs4 hB4; have HF4 := hide ((unhide HF3).trans0 hf4); have HB4 := hide hB4; clear hf4 hB4)
              | (refine wpList_store_blk rfl 135 (.tmp 5) (.tmp 23) rfl w3.heap.size 0 10 10 (acF false fun _ => false) (acF _ _) rfl rfl (by exact unhide HB4) Tryz.sizeActs (by omega) (oneB_acF _ _ 10) ?_; intro w5 hf5 hs5 hB5; have HF5 := hide ((unhide HF4).trans1 hf5 (Or.inr (unhide HF3).size)); have HB5 := hide (hB5.congr fun i hi => lay_all _ _ _ i hi); clear hf5 hB5)
              | (go_at_call 130; refine (p_isClash w3.heap.size _ _ w5 (by exact unhide HB5)).mono ?_; rintro e w6 ⟨rfl, hf6⟩; have hx := unhide HCL; unfold clK at hx; rw [unhide HCC] at hx; rw [hx]; have HF6 := hide ((unhide HF5).trans0 hf6); clear hf6 hx))
            go_ret
            exact ⟨ret_bool (unhide HN).symm, unhide HF6⟩
        · have HN := hide (show ∀ j, j < k + 1 → ∀ i, i < 27 → clK p S j i = false from fun j hj i2 hi2 => by
            by_cases e : j = k
            · subst e; exact unhide hmi i2 (by omega)
            · exact unhide hm j (by omega) i2 hi2)
          go_wp2
          go_roundw
          case rel => exact ⟨k + 1, by omega, by go_num, HN, hs⟩
          case measure => simp [intOf]; omega
    · have HN := hide (anyC_false (f := clK p S) (m := S.length) (fun j hj => unhide hm j (by omega)))
      go_wp2
      go_ret
      exact ⟨ret_bool (unhide HN).symm, unhide hs⟩

set_option maxRecDepth 100000 in
set_option maxHeartbeats 2000000 in
/-- table.coresClash -/
theorem p_coresClash (tb base : Nat) (p : Pl) (v : Value) (S : List Sd) (cores fault : Nat) (w : World) (h : TbR w tb base p v S cores fault) (hS : S.length ≤ 50) (hco : cores ≤ 50) :
    Calls Tryz.prog 129 #[.pointer (some ⟨tb, 0, none⟩)] w fun e w' => e = .returned (.bool (anyC (clC p S) cores)) ∧ Fr [] w w' := by
  obtain ⟨ao, cap, hv, _⟩ := h.form
  subst hv
  have H := hide h
  clear h
  go_enter Tryz.func129, Tryz.ntmps129
  go_wp2
  go_loopw [3] (fun iv wr => ∃ k : Nat, k ≤ cores ∧ iv = .int .i64 k ∧ Hid (∀ j, j < k → ∀ i, i < 27 → clC p S j i = false) ∧ Hid (Fr [] w wr)) (fun iv _ => cores - (intOf iv).toNat)
  case atStart => exact ⟨0, by omega, rfl, fun j hj => by omega, Fr.refl _ _⟩
  case round =>
    obtain ⟨k, hk, rfl, hm, hs⟩ := hrel
    have q0 := ((unhide H).fr0 (unhide hs)).cores
    by_cases hlt : k < cores
    · have hki : (k : Int) < cores := by omega
      go_wp2
      clear q0
      go_loopw [4] (fun iv wr => ∃ i : Nat, i ≤ 27 ∧ iv = .int .i64 i ∧ Hid (∀ j, j < i → clC p S k j = false) ∧ Hid (Fr [] w wr)) (fun iv _ => 27 - (intOf iv).toNat)
      case atStart => exact ⟨0, by omega, rfl, (fun j hj => by omega), hs⟩
      case round =>
        clear hs
        obtain ⟨i, hi, rfl, hmi, hs⟩ := hrel
        by_cases hit : i < 27
        · have HT := hide ((unhide H).fr0 (unhide hs))
          have hsig := sigB_sgn hit
          obtain ⟨c, hc⟩ : ∃ c, sgn i = c := ⟨_, rfl⟩
          have HCC := hide hc
          rw [hc] at hsig
          have HSG := hide hsig
          clear hc hsig
          cases hcl : clC p S k i
          · have HN := hide (show ∀ j, j < i + 1 → clC p S k j = false from fun j hj => by
              by_cases e : j = i
              · subst e; exact hcl
              · exact unhide hmi j (by omega))
            have HCL := hide hcl
            clear hcl
            go_wp2_with (first
              | (go_at_call 106; refine (p_signAt i wr hit).mono ?_; rintro e w' ⟨rfl, hw'⟩; rw [hw', unhide HCC])
              | (go_at_call 92; refine (p_mix tb base c k p _ S cores fault wr (by exact unhide HT) hS (unhide HSG)).mono ?_; rintro e w3 ⟨rfl, hf3⟩; have HF3 := hide ((unhide hs).trans0 hf3); clear hf3)
              | (refine wpList_alloc_blk rfl 135 rfl (some 5) rfl 10 _ Tryz.zeroActs ?_; intro w4 hf4 hs4 hB4; have HF4 := hide ((unhide HF3).trans0 hf4); have HB4 := hide hB4; clear hf4 hB4)
              | (refine wpList_store_blk rfl 135 (.tmp 5) (.tmp 22) rfl w3.heap.size 0 10 10 (acF false fun _ => false) (acF _ _) rfl rfl (by exact unhide HB4) Tryz.sizeActs (by omega) (oneB_acF _ _ 10) ?_; intro w5 hf5 hs5 hB5; have HF5 := hide ((unhide HF4).trans1 hf5 (Or.inr (unhide HF3).size)); have HB5 := hide (hB5.congr fun i hi => lay_all _ _ _ i hi); clear hf5 hB5)
              | (go_at_call 130; refine (p_isClash w3.heap.size _ _ w5 (by exact unhide HB5)).mono ?_; rintro e w6 ⟨rfl, hf6⟩; have hx := unhide HCL; unfold clC at hx; rw [unhide HCC] at hx; rw [hx]; have HF6 := hide ((unhide HF5).trans0 hf6); clear hf6 hx))
            go_roundw
            case rel => exact ⟨i + 1, by omega, by go_num, HN, HF6⟩
            case measure => simp [intOf]; omega
          · have HN := hide (anyC_true (f := clC p S) hlt hit hcl)
            have HCL := hide hcl
            clear hcl
            go_wp2_with (first
              | (go_at_call 106; refine (p_signAt i wr hit).mono ?_; rintro e w' ⟨rfl, hw'⟩; rw [hw', unhide HCC])
              | (go_at_call 92; refine (p_mix tb base c k p _ S cores fault wr (by exact unhide HT) hS (unhide HSG)).mono ?_; rintro e w3 ⟨rfl, hf3⟩; have HF3 := hide ((unhide hs).trans0 hf3); clear hf3)
              | (refine wpList_alloc_blk rfl 135 rfl (some 5) rfl 10 _ Tryz.zeroActs ?_; intro w4 hf4 hs4 hB4; have HF4 := hide ((unhide HF3).trans0 hf4); have HB4 := hide hB4; clear hf4 hB4)
              | (refine wpList_store_blk rfl 135 (.tmp 5) (.tmp 22) rfl w3.heap.size 0 10 10 (acF false fun _ => false) (acF _ _) rfl rfl (by exact unhide HB4) Tryz.sizeActs (by omega) (oneB_acF _ _ 10) ?_; intro w5 hf5 hs5 hB5; have HF5 := hide ((unhide HF4).trans1 hf5 (Or.inr (unhide HF3).size)); have HB5 := hide (hB5.congr fun i hi => lay_all _ _ _ i hi); clear hf5 hB5)
              | (go_at_call 130; refine (p_isClash w3.heap.size _ _ w5 (by exact unhide HB5)).mono ?_; rintro e w6 ⟨rfl, hf6⟩; have hx := unhide HCL; unfold clC at hx; rw [unhide HCC] at hx; rw [hx]; have HF6 := hide ((unhide HF5).trans0 hf6); clear hf6 hx))
            go_ret
            exact ⟨ret_bool (unhide HN).symm, unhide HF6⟩
        · have HN := hide (show ∀ j, j < k + 1 → ∀ i, i < 27 → clC p S j i = false from fun j hj i2 hi2 => by
            by_cases e : j = k
            · subst e; exact unhide hmi i2 (by omega)
            · exact unhide hm j (by omega) i2 hi2)
          go_wp2
          go_roundw
          case rel => exact ⟨k + 1, by omega, by go_num, HN, hs⟩
          case measure => simp [intOf]; omega
    · have HN := hide (anyC_false (f := clC p S) (m := cores) (fun j hj => unhide hm j (by omega)))
      go_wp2
      go_ret
      exact ⟨ret_bool (unhide HN).symm, unhide hs⟩

/-- Class, by the table -/
def clsV (p : Pl) (S : List Sd) (cores : Nat) : Nat := if anyC (clK p S) S.length then 0 else if anyC (clC p S) cores then 1 else 2
set_option maxHeartbeats 1000000 in
/-- table.class -/
theorem p_class (tb base : Nat) (p : Pl) (v : Value) (S : List Sd) (cores fault : Nat) (w : World) (h : TbR w tb base p v S cores fault) (hS : S.length ≤ 50) (hco : cores ≤ 50) :
    Calls Tryz.prog 94 #[.pointer (some ⟨tb, 0, none⟩)] w fun e w' => e = .returned (.int .i64 (clsV p S cores : Nat)) ∧ Fr [] w w' := by
  have H := hide h
  clear h
  cases h1 : anyC (clK p S) S.length
  · cases h2 : anyC (clC p S) cores
    · have HV := hide (show clsV p S cores = 2 from by unfold clsV; rw [h1, h2]; rfl)
      go_enter Tryz.func94, Tryz.ntmps94
      go_wp2_with (first
        | (go_at_call 96; refine (p_statesClash tb base p v S cores fault w (unhide H) hS).mono ?_; rintro e w1 ⟨rfl, hf1⟩; rw [h1]; have HF1 := hide hf1; clear hf1)
        | (go_at_call 129; refine (p_coresClash tb base p v S cores fault w1 ((unhide H).fr0 (unhide HF1)) hS hco).mono ?_; rintro e w2 ⟨rfl, hf2⟩; rw [h2]; have HF2 := hide ((unhide HF1).trans0 hf2); clear hf2))
      go_ret
      exact ⟨ret_int (by rw [unhide HV]; rfl), unhide HF2⟩
    · have HV := hide (show clsV p S cores = 1 from by unfold clsV; rw [h1, h2]; rfl)
      go_enter Tryz.func94, Tryz.ntmps94
      go_wp2_with (first
        | (go_at_call 96; refine (p_statesClash tb base p v S cores fault w (unhide H) hS).mono ?_; rintro e w1 ⟨rfl, hf1⟩; rw [h1]; have HF1 := hide hf1; clear hf1)
        | (go_at_call 129; refine (p_coresClash tb base p v S cores fault w1 ((unhide H).fr0 (unhide HF1)) hS hco).mono ?_; rintro e w2 ⟨rfl, hf2⟩; rw [h2]; have HF2 := hide ((unhide HF1).trans0 hf2); clear hf2))
      go_ret
      exact ⟨ret_int (by rw [unhide HV]; rfl), unhide HF2⟩
  · have HV := hide (show clsV p S cores = 0 from by unfold clsV; rw [h1]; rfl)
    go_enter Tryz.func94, Tryz.ntmps94
    go_wp2_with (go_at_call 96; refine (p_statesClash tb base p v S cores fault w (unhide H) hS).mono ?_; rintro e w1 ⟨rfl, hf1⟩; rw [h1]; have HF1 := hide hf1; clear hf1)
    go_ret
    exact ⟨ret_int (by rw [unhide HV]; rfl), unhide HF1⟩
end Go.Proofs.YtkglggkkbmmjkaaGreatDoor

namespace Go.Proofs.YtkglggkkbmmjkaaGreatDoor
open Go.RowKit

/-- what Mix hands back -/
def MixO (t : ByteArray) (n : Int) (s y : ByteArray) (x : Nat) : Prop :=
  (TErr t x ∧ x ≠ 0 ∧ y = ⟨#[]⟩) ∨ ∃ S c, TGood t S c ∧ ((¬ (0 ≤ n ∧ n < c) ∧ x = 7 ∧ y = ⟨#[]⟩) ∨ ((0 ≤ n ∧ n < c) ∧ sgnX s = false ∧ x = 5 ∧ y = ⟨#[]⟩) ∨ ((0 ≤ n ∧ n < c) ∧ sgnX s = true ∧ x = 0 ∧ y = ⟨(acL (mxS S n (ch s 0) S.length) (mxR (plT t) S n (ch s 0) S.length) 9).toArray⟩))

set_option maxRecDepth 100000 in
set_option maxHeartbeats 2000000 in
/-- Mix -/
theorem p_Mix (t : ByteArray) (n : Int) (s : ByteArray) (w : World) (ht : t.size ≤ 9223372036854775807) :
    Calls Tryz.prog 39 #[.string t, .int .i64 n, .string s] w fun e w' => Fr [] w w' ∧ ∃ (y : ByteArray) (x : Nat), e = .returned (.tuple #[.string y, .int .i64 x]) ∧ MixO t n s y x := by
  by_cases h1 : s.size = 1
  · have hc0 : ((s[0]'(by omega)).toNat : Int) = ((ch s 0 : Nat) : Int) := by rw [ch_eq s 0 (by omega)]
    have h1i : ((s.size : Int) != 1) = false := by rw [bne_eq_false_iff_eq]; omega
    obtain ⟨c, hc⟩ : ∃ c, ch s 0 = c := ⟨_, rfl⟩
    have HW := hide (show sgnX s = sigB c from by unfold sgnX; rw [hc]; simp [h1])
    rw [hc] at hc0
    have HCC := hide hc
    clear hc
    cases hl : sigB c
    · rw [hl] at HW
      go_enter Tryz.func39, Tryz.ntmps39
      go_wp2_with (first
        | (go_at_call 78; refine (p_readTable t w ht).mono ?_; rintro e w1 ⟨f, rfl, hT⟩; obtain ⟨x, ao, l, cap, hx1, hx0, hx2, hx3⟩ := hT.parts; have HX1 := hide hx1; have HX2 := hide hx2; have HX3 := hide hx3; have HO := hide hT.2.1; have HF1 := hide hT.1; clear hT hx1 hx2 hx3 hx0)
        | (refine wpList_alloc_blk rfl 79 rfl (some 8) rfl 1362 _ Tryz.zeroTbl ?_; intro w2 hf2 hs2 hB2; have HF2 := hide hf2; have HB2 := hide hB2; clear hf2 hB2 hs2)
        | (refine wpList_store_blk rfl 79 (.tmp 8) (.tmp 11) rfl w1.heap.size 0 1362 1362 zTb f rfl rfl (by exact unhide HB2) Tryz.sizeTbl (by omega) (by exact unhide HO) ?_; intro w3 hf3 hs3 hB3; have HF3 := hide hf3; have HB3 := hide hB3; have HFw := hide (show Fr [] w w3 from ((unhide HF1).trans0 (unhide HF2)).trans1 hf3 (Or.inr (unhide HF1).size)); have c6 := (hB3.cell 1361 (by omega)).trans (congrArg some ((lay_all _ _ _ _ (by omega)).trans (unhide HX1))); clear hf3 hB3 hs3)
        | (go_at_call 91; obtain ⟨S, c2, base, hG, hlS, hfi, hrow⟩ := unhide HX3 (by (have h : ((x : Int) != 0) = false := (by assumption); have : (x : Int) = 0 := (by simpa using h); omega)); have HTB := hide (TabOut.lay hfi hrow (unhide HF2) (unhide HF3) (unhide HB3)); have HGd := hide hG; refine (p_hasCore w1.heap.size base (plT t) _ S c2 0 n _ (by exact unhide HTB)).mono ?_; rintro e w' ⟨rfl, hw'⟩; rw [hw']; clear hG hlS hfi hrow)
        | (go_at_call 84; refine (p_isSign c _).mono ?_; rintro e w' ⟨rfl, hw'⟩; rw [hw', hl]))
      · have hff : ((x : Int) != 0) = true := by assumption
        have hx0 : x ≠ 0 := fun e => by rw [e] at hff; cases hff
        go_quiet (fail)
        go_wp2
        go_ret2
        exact ⟨(unhide HFw).trans0 (fr_drewN _ _), ⟨#[]⟩, x, rfl, Or.inl ⟨unhide HX2 hx0, hx0, rfl⟩⟩
      · have hh : (!decide (0 ≤ n)) = true ∨ (!decide (n < c2)) = true := by assumption
        have hh2 : ¬ (0 ≤ n ∧ n < c2) := by simp at hh; omega
        go_ret2
        exact ⟨unhide HFw, ⟨#[]⟩, 7, rfl, Or.inr ⟨S, c2, unhide HGd, Or.inl ⟨hh2, rfl, rfl⟩⟩⟩
      · have hh : (!decide (0 ≤ n)) = false ∧ (!decide (n < c2)) = false := by assumption
        have hh2 : 0 ≤ n ∧ n < c2 := by simpa using hh
        go_ret2
        exact ⟨unhide HFw, ⟨#[]⟩, 5, rfl, Or.inr ⟨S, c2, unhide HGd, Or.inr (Or.inl ⟨hh2, unhide HW, rfl, rfl⟩)⟩⟩
    · rw [hl] at HW
      go_enter Tryz.func39, Tryz.ntmps39
      go_wp2_with (first
        | (go_at_call 78; refine (p_readTable t w ht).mono ?_; rintro e w1 ⟨f, rfl, hT⟩; obtain ⟨x, ao, l, cap, hx1, hx0, hx2, hx3⟩ := hT.parts; have HX1 := hide hx1; have HX2 := hide hx2; have HX3 := hide hx3; have HO := hide hT.2.1; have HF1 := hide hT.1; clear hT hx1 hx2 hx3 hx0)
        | (refine wpList_alloc_blk rfl 79 rfl (some 8) rfl 1362 _ Tryz.zeroTbl ?_; intro w2 hf2 hs2 hB2; have HF2 := hide hf2; have HB2 := hide hB2; clear hf2 hB2 hs2)
        | (refine wpList_store_blk rfl 79 (.tmp 8) (.tmp 11) rfl w1.heap.size 0 1362 1362 zTb f rfl rfl (by exact unhide HB2) Tryz.sizeTbl (by omega) (by exact unhide HO) ?_; intro w3 hf3 hs3 hB3; have HF3 := hide hf3; have HB3 := hide hB3; have HFw := hide (show Fr [] w w3 from ((unhide HF1).trans0 (unhide HF2)).trans1 hf3 (Or.inr (unhide HF1).size)); have c6 := (hB3.cell 1361 (by omega)).trans (congrArg some ((lay_all _ _ _ _ (by omega)).trans (unhide HX1))); clear hf3 hB3 hs3)
        | (go_at_call 91; obtain ⟨S, c2, base, hG, hlS, hfi, hrow⟩ := unhide HX3 (by (have h : ((x : Int) != 0) = false := (by assumption); have : (x : Int) = 0 := (by simpa using h); omega)); have HTB := hide (TabOut.lay hfi hrow (unhide HF2) (unhide HF3) (unhide HB3)); have HGd := hide hG; refine (p_hasCore w1.heap.size base (plT t) _ S c2 0 n _ (by exact unhide HTB)).mono ?_; rintro e w' ⟨rfl, hw'⟩; rw [hw']; clear hG hlS hfi hrow)
        | (go_at_call 84; refine (p_isSign c _).mono ?_; rintro e w' ⟨rfl, hw'⟩; rw [hw', hl])
        | (go_at_call 92; refine (p_mix w1.heap.size base c n (plT t) _ S c2 0 w3 (by exact unhide HTB) (by have := (unhide HGd).2.2.1; omega) hl).mono ?_; rintro e w4 ⟨rfl, hf4⟩; have HF4 := hide ((unhide HFw).trans0 hf4); clear hf4)
        | (refine wpList_alloc_blk rfl 135 rfl (some 9) rfl 10 _ Tryz.zeroActs ?_; intro w5 hf5 hs5 hB5; have HF5 := hide ((unhide HF4).trans0 hf5); have HB5 := hide hB5; clear hf5 hB5)
        | (refine wpList_store_blk rfl 135 (.tmp 9) (.tmp 32) rfl w4.heap.size 0 10 10 (acF false fun _ => false) (acF (mxS S n c S.length) (mxR (plT t) S n c S.length)) rfl rfl (by exact unhide HB5) Tryz.sizeActs (by omega) (oneB_acF _ _ 10) ?_; intro w6 hf6 hs6 hB6; have HF6 := hide ((unhide HF5).trans1 hf6 (Or.inr (unhide HF4).size)); have HB6 := hide (show Blk w6 w4.heap.size 10 (acF (mxS S n c S.length) (mxR (plT t) S n c S.length)) from hB6.congr fun i hi => lay_all _ _ _ i hi); clear hf6 hB6)
        | (go_at_call 86; refine (p_alist w4.heap.size _ _ w6 (by exact unhide HB6)).mono ?_; rintro e w7 ⟨rfl, hf7⟩; have HF7 := hide ((unhide HF6).trans0 hf7); clear hf7))
      · have hff : ((x : Int) != 0) = true := by assumption
        have hx0 : x ≠ 0 := fun e => by rw [e] at hff; cases hff
        go_quiet (fail)
        go_wp2
        go_ret2
        exact ⟨(unhide HFw).trans0 (fr_drewN _ _), ⟨#[]⟩, x, rfl, Or.inl ⟨unhide HX2 hx0, hx0, rfl⟩⟩
      · have hh : (!decide (0 ≤ n)) = true ∨ (!decide (n < c2)) = true := by assumption
        have hh2 : ¬ (0 ≤ n ∧ n < c2) := by simp at hh; omega
        go_ret2
        exact ⟨unhide HFw, ⟨#[]⟩, 7, rfl, Or.inr ⟨S, c2, unhide HGd, Or.inl ⟨hh2, rfl, rfl⟩⟩⟩
      · have hh : (!decide (0 ≤ n)) = false ∧ (!decide (n < c2)) = false := by assumption
        have hh2 : 0 ≤ n ∧ n < c2 := by simpa using hh
        go_ret2
        exact ⟨unhide HF7, _, 0, rfl, Or.inr ⟨S, c2, unhide HGd, Or.inr (Or.inr ⟨hh2, unhide HW, rfl, by rw [unhide HCC]⟩)⟩⟩
  · have h1i : ((s.size : Int) != 1) = true := by rw [bne_iff_ne]; omega
    have HW := hide (show sgnX s = false from by unfold sgnX; rw [show decide (s.size = 1) = false from by simpa using h1]; rfl)
    clear h1
    go_enter Tryz.func39, Tryz.ntmps39
    go_wp2_with (first
      | (go_at_call 78; refine (p_readTable t w ht).mono ?_; rintro e w1 ⟨f, rfl, hT⟩; obtain ⟨x, ao, l, cap, hx1, hx0, hx2, hx3⟩ := hT.parts; have HX1 := hide hx1; have HX2 := hide hx2; have HX3 := hide hx3; have HO := hide hT.2.1; have HF1 := hide hT.1; clear hT hx1 hx2 hx3 hx0)
      | (refine wpList_alloc_blk rfl 79 rfl (some 8) rfl 1362 _ Tryz.zeroTbl ?_; intro w2 hf2 hs2 hB2; have HF2 := hide hf2; have HB2 := hide hB2; clear hf2 hB2 hs2)
      | (refine wpList_store_blk rfl 79 (.tmp 8) (.tmp 11) rfl w1.heap.size 0 1362 1362 zTb f rfl rfl (by exact unhide HB2) Tryz.sizeTbl (by omega) (by exact unhide HO) ?_; intro w3 hf3 hs3 hB3; have HF3 := hide hf3; have HB3 := hide hB3; have HFw := hide (show Fr [] w w3 from ((unhide HF1).trans0 (unhide HF2)).trans1 hf3 (Or.inr (unhide HF1).size)); have c6 := (hB3.cell 1361 (by omega)).trans (congrArg some ((lay_all _ _ _ _ (by omega)).trans (unhide HX1))); clear hf3 hB3 hs3)
      | (go_at_call 91; obtain ⟨S, c2, base, hG, hlS, hfi, hrow⟩ := unhide HX3 (by (have h : ((x : Int) != 0) = false := (by assumption); have : (x : Int) = 0 := (by simpa using h); omega)); have HTB := hide (TabOut.lay hfi hrow (unhide HF2) (unhide HF3) (unhide HB3)); have HGd := hide hG; refine (p_hasCore w1.heap.size base (plT t) _ S c2 0 n _ (by exact unhide HTB)).mono ?_; rintro e w' ⟨rfl, hw'⟩; rw [hw']; clear hG hlS hfi hrow))
    · have hff : ((x : Int) != 0) = true := by assumption
      have hx0 : x ≠ 0 := fun e => by rw [e] at hff; cases hff
      go_quiet (fail)
      go_wp2
      go_ret2
      exact ⟨(unhide HFw).trans0 (fr_drewN _ _), ⟨#[]⟩, x, rfl, Or.inl ⟨unhide HX2 hx0, hx0, rfl⟩⟩
    · have hh : (!decide (0 ≤ n)) = true ∨ (!decide (n < c2)) = true := by assumption
      have hh2 : ¬ (0 ≤ n ∧ n < c2) := by simp at hh; omega
      go_ret2
      exact ⟨unhide HFw, ⟨#[]⟩, 7, rfl, Or.inr ⟨S, c2, unhide HGd, Or.inl ⟨hh2, rfl, rfl⟩⟩⟩
    · have hh : (!decide (0 ≤ n)) = false ∧ (!decide (n < c2)) = false := by assumption
      have hh2 : 0 ≤ n ∧ n < c2 := by simpa using hh
      go_ret2
      exact ⟨unhide HFw, ⟨#[]⟩, 5, rfl, Or.inr ⟨S, c2, unhide HGd, Or.inr (Or.inl ⟨hh2, unhide HW, rfl, rfl⟩)⟩⟩
set_option maxRecDepth 100000 in
set_option maxHeartbeats 2000000 in
/-- Class -/
theorem p_Class (t : ByteArray) (w : World) (ht : t.size ≤ 9223372036854775807) :
    Calls Tryz.prog 41 #[.string t] w fun e w' => Fr [] w w' ∧ ∃ n x : Nat, e = .returned (.tuple #[.int .i64 n, .int .i64 x]) ∧ (x ≠ 0 → n = 0 ∧ TErr t x) ∧ (x = 0 → ∃ S c, TGood t S c ∧ n = clsV (plT t) S c) := by
  go_enter Tryz.func41, Tryz.ntmps41
  go_wp2_with (first
    | (go_at_call 78; refine (p_readTable t w ht).mono ?_; rintro e w1 ⟨f, rfl, hT⟩; obtain ⟨x, ao, l, cap, hx1, hx0, hx2, hx3⟩ := hT.parts; have HX1 := hide hx1; have HX0 := hide hx0; have HX2 := hide hx2; have HX3 := hide hx3; have HO := hide hT.2.1; have HF1 := hide hT.1; clear hT hx1 hx2 hx3 hx0)
    | (refine wpList_alloc_blk rfl 79 rfl (some 4) rfl 1362 _ Tryz.zeroTbl ?_; intro w2 hf2 hs2 hB2; have HF2 := hide hf2; have HB2 := hide hB2; clear hf2 hB2 hs2)
    | (refine wpList_store_blk rfl 79 (.tmp 4) (.tmp 6) rfl w1.heap.size 0 1362 1362 zTb f rfl rfl (by exact unhide HB2) Tryz.sizeTbl (by omega) (by exact unhide HO) ?_; intro w3 hf3 hs3 hB3; have HF3 := hide hf3; have HB3 := hide hB3; have HFw := hide (show Fr [] w w3 from ((unhide HF1).trans0 (unhide HF2)).trans1 hf3 (Or.inr (unhide HF1).size)); have c6 := (hB3.cell 1361 (by omega)).trans (congrArg some ((lay_all _ _ _ _ (by omega)).trans (unhide HX1))); clear hf3 hB3 hs3)
    | (go_at_call 94; obtain ⟨S, c2, base, hG, hlS, hfi, hrow⟩ := unhide HX3 (by (have h : ((x : Int) != 0) = false := (by assumption); have : (x : Int) = 0 := (by simpa using h); omega)); have HTB := hide (TabOut.lay hfi hrow (unhide HF2) (unhide HF3) (unhide HB3)); have HGd := hide hG; refine (p_class w1.heap.size base (plT t) _ S c2 0 w3 (by exact unhide HTB) (by have := hG.2.2.1; omega) (by have := hG.2.2.1; have := hG.2.2.2; omega)).mono ?_; rintro e w4 ⟨rfl, hf4⟩; have HF4 := hide ((unhide HFw).trans0 hf4); clear hG hlS hfi hrow hf4))
  · have hff : ((x : Int) != 0) = true := by assumption
    have hx0 : x ≠ 0 := fun e => by rw [e] at hff; cases hff
    go_quiet (fail)
    go_wp2
    go_ret2
    exact ⟨(unhide HFw).trans0 (fr_drewN _ _), 0, x, rfl, fun _ => ⟨rfl, unhide HX2 hx0⟩, fun e => absurd e hx0⟩
  · have hff : ((x : Int) != 0) = false := by assumption
    have hx0 : x = 0 := by
      have : (x : Int) = 0 := by simpa using hff
      omega
    go_ret2
    exact ⟨unhide HF4, clsV (plT t) S c2, 0, rfl, fun e => absurd rfl e, fun _ => ⟨S, c2, unhide HGd, rfl⟩⟩
end Go.Proofs.YtkglggkkbmmjkaaGreatDoor

namespace Go.Proofs.YtkglggkkbmmjkaaGreatDoor
open Go.RowKit

theorem steps_len {p : Pl} {n : Nat} {A : Nat → Bool} {S : List Sd} {c f i : Nat} {S1 : List Sd} {c1 f1 : Nat} (h : StepsR p n A S c f i S1 c1 f1) : S.length ≤ S1.length := by
  induction h with
  | zero => exact Nat.le_refl _
  | skip _ _ ih => rw [setTo_len]; exact ih
  | old _ _ _ _ ih => rw [setTo_len]; exact ih
  | many _ _ _ _ _ ih => rw [setTo_len]; exact ih
  | new _ _ _ _ _ ih => rw [setTo_len, List.length_append]; omega
theorem states_pos {p : Pl} {n : Nat} {S : List Sd} {c f : Nat} (h : StatesR p n S c f) : 0 < S.length := by
  induction h with
  | start _ => exact Nat.one_pos
  | step _ hn hR ih => exact Nat.lt_of_lt_of_le ih (steps_len hR)
/-- what Core hands back -/
def CoreO (t : ByteArray) (n : Int) (y x : Nat) : Prop :=
  (TErr t x ∧ x ≠ 0 ∧ y = 0) ∨ ∃ S c, TGood t S c ∧ ((¬ (0 ≤ n ∧ n < S.length) ∧ x = 7 ∧ y = 0) ∨ ((0 ≤ n ∧ n < S.length) ∧ x = 0 ∧ y = (sget S n.toNat).core))

set_option maxRecDepth 100000 in
set_option maxHeartbeats 2000000 in
/-- Core -/
theorem p_Core (t : ByteArray) (n : Int) (w : World) (ht : t.size ≤ 9223372036854775807) :
    Calls Tryz.prog 37 #[.string t, .int .i64 n] w fun e w' => Fr [] w w' ∧ ∃ (y x : Nat), e = .returned (.tuple #[.int .i64 y, .int .i64 x]) ∧ CoreO t n y x := by
  go_enter Tryz.func37, Tryz.ntmps37
  go_wp2_with (first
    | (go_at_call 78; refine (p_readTable t w ht).mono ?_; rintro e w1 ⟨f, rfl, hT⟩; obtain ⟨x, ao, l, cap, hx1, hx0, hx2, hx3⟩ := hT.parts; have HX1 := hide hx1; have HX2 := hide hx2; have HX3 := hide hx3; have HO := hide hT.2.1; have HF1 := hide hT.1; clear hT hx1 hx2 hx3 hx0)
    | (refine wpList_alloc_blk rfl 79 rfl (some 6) rfl 1362 _ Tryz.zeroTbl ?_; intro w2 hf2 hs2 hB2; have HF2 := hide hf2; have HB2 := hide hB2; clear hf2 hB2 hs2)
    | (refine wpList_store_blk rfl 79 (.tmp 6) (.tmp 8) rfl w1.heap.size 0 1362 1362 zTb f rfl rfl (by exact unhide HB2) Tryz.sizeTbl (by omega) (by exact unhide HO) ?_; intro w3 hf3 hs3 hB3; have HF3 := hide hf3; have HB3 := hide hB3; have HFw := hide (show Fr [] w w3 from ((unhide HF1).trans0 (unhide HF2)).trans1 hf3 (Or.inr (unhide HF1).size)); have c6 := (hB3.cell 1361 (by omega)).trans (congrArg some ((lay_all _ _ _ _ (by omega)).trans (unhide HX1))); clear hf3 hB3 hs3)
    | (go_at_call 80; obtain ⟨S, c2, base, hG, hlS, hfi, hrow⟩ := unhide HX3 (by (have h : ((x : Int) != 0) = false := (by assumption); have : (x : Int) = 0 := (by simpa using h); omega)); have HTB := hide (TabOut.lay hfi hrow (unhide HF2) (unhide HF3) (unhide HB3)); have HGd := hide hG; refine (p_hasStateR w1.heap.size base (plT t) _ S c2 0 n _ (by exact unhide HTB)).mono ?_; rintro e w' ⟨rfl, hw'⟩; rw [hw']; obtain ⟨ao2, cap2, hv2, hao2⟩ := (unhide HTB).form; obtain ⟨g, hg2, _⟩ := hao2 (states_pos hG.2.1); have hv3 := hv2; rw [hg2] at hv3; rw [hv3] at HTB; have q0 := (unhide HTB).v; clear hG hlS hfi hrow hao2 hv2 hg2 hv3; by_cases hin : 0 ≤ n ∧ n < S.length; all_goals first | (have hh : (decide (0 ≤ n) && decide (n < S.length)) = true := (by simp [hin]); rw [hh]; have q1 := (unhide HTB).core n.toNat (by omega); have hin1 := hin.1; have hin2 := hin.2) | (have hh : (decide (0 ≤ n) && decide (n < S.length)) = false := (by rw [Bool.and_eq_false_iff, decide_eq_false_iff_not, decide_eq_false_iff_not]; omega); rw [hh])))
  · have hff : ((x : Int) != 0) = true := by assumption
    have hx0 : x ≠ 0 := fun e => by rw [e] at hff; cases hff
    go_quiet (fail)
    go_wp2
    go_ret2
    exact ⟨(unhide HFw).trans0 (fr_drewN _ _), 0, x, rfl, Or.inl ⟨unhide HX2 hx0, hx0, rfl⟩⟩
  · go_ret2
    exact ⟨unhide HFw, _, 0, rfl, Or.inr ⟨S, c2, unhide HGd, Or.inr ⟨⟨hin1, hin2⟩, rfl, rfl⟩⟩⟩
  · go_ret2
    exact ⟨unhide HFw, 0, 7, rfl, Or.inr ⟨S, c2, unhide HGd, Or.inl ⟨hin, rfl, rfl⟩⟩⟩
end Go.Proofs.YtkglggkkbmmjkaaGreatDoor

namespace Go.Proofs.YtkglggkkbmmjkaaGreatDoor
open Go.RowKit

/-! Cores, as a plain function. -/
def corF {α : Type} (eq : α → α → Bool) : List α → List α → List Nat → Nat → List Nat × Nat
  | [], _, l, n => (l, n)
  | s :: rest, prev, l, n => match prev.findIdx? (fun p => eq s p) with
    | some k => corF eq rest (prev ++ [s]) (l ++ [l.getD k 0]) n
    | none => corF eq rest (prev ++ [s]) (l ++ [n]) (n + 1)
theorem corF_snoc {α : Type} (eq : α → α → Bool) (x : α) : ∀ (S prev : List α) (l : List Nat) (n : Nat),
    corF eq (S ++ [x]) prev l n = match (prev ++ S).findIdx? (fun p => eq x p) with
      | some k => ((corF eq S prev l n).1 ++ [(corF eq S prev l n).1.getD k 0], (corF eq S prev l n).2)
      | none => ((corF eq S prev l n).1 ++ [(corF eq S prev l n).2], (corF eq S prev l n).2 + 1)
  | [], prev, l, n => by
    rw [List.nil_append, List.append_nil]
    show corF eq [x] prev l n = _
    rw [corF, corF]
    split <;> rfl
  | s :: S, prev, l, n => by
    rw [List.cons_append, corF, corF]
    split
    · rw [corF_snoc eq x S]; simp
    · rw [corF_snoc eq x S]; simp
/-- the same core, both ways -/
def alk2 (a b : List It) : Bool := alikeL a b && alikeL b a
/-- of each state the number of its core; how many there are -/
def corV (Ms : List (List It)) : List Nat × Nat := corF alk2 Ms [] [] 0

theorem alike_iff {A B : Nat → Bool} : alikeL (repL A) (repL B) = true ↔ ∀ q, q < 45 → (∃ k, k < 27 ∧ A (q * 27 + k) = true) → ∃ k, k < 27 ∧ B (q * 27 + k) = true := by
  unfold alikeL
  rw [List.all_eq_true]
  constructor
  · rintro h q hq ⟨k, hk, ha⟩
    have := h (itOf (q * 27 + k)) (itOf_mem.2 ⟨by omega, ha⟩)
    rw [List.any_eq_true] at this
    obtain ⟨y, hy, e⟩ := this
    obtain ⟨j, hj, hb, rfl⟩ := mem_repL.1 hy
    unfold likeI itOf at e
    simp only [Bool.and_eq_true, beq_iff_eq] at e
    exact ⟨j % 27, by omega, by rw [show q * 27 + j % 27 = j from by omega]; exact hb⟩
  · intro h x hx
    obtain ⟨j, hj, ha, rfl⟩ := mem_repL.1 hx
    obtain ⟨k, hk, hb⟩ := h (j / 27) (by omega) ⟨j % 27, by omega, by rw [show j / 27 * 27 + j % 27 = j from by omega]; exact ha⟩
    rw [List.any_eq_true]
    refine ⟨itOf (j / 27 * 27 + k), itOf_mem.2 ⟨by omega, hb⟩, ?_⟩
    unfold likeI itOf
    simp only [Bool.and_eq_true, beq_iff_eq]
    omega
theorem smC_eq (A B : Nat → Bool) : smC A B 45 = alk2 (repL B) (repL A) := by
  apply Bool.eq_iff_iff.2
  unfold alk2 smC
  rw [Bool.and_eq_true, alike_iff, alike_iff, List.all_eq_true]
  have key : ∀ (C : Nat → Bool) (q : Nat), (empB fun k => C (q * 27 + k)) = false ↔ ∃ k, k < 27 ∧ C (q * 27 + k) = true := fun C q => by
    constructor
    · exact fun h => empB_false h
    · rintro ⟨k, hk, h⟩
      cases e : empB fun k => C (q * 27 + k)
      · rfl
      · have := empB_true e k hk; rw [h] at this; cases this
  constructor
  · intro h
    refine ⟨fun q hq hk => ?_, fun q hq hk => ?_⟩
    · have := h q (List.mem_range.2 hq)
      rw [beq_iff_eq] at this
      rw [← key] at hk ⊢; rw [this]; exact hk
    · have := h q (List.mem_range.2 hq)
      rw [beq_iff_eq] at this
      rw [← key] at hk ⊢; rw [← this]; exact hk
  · rintro ⟨h1, h2⟩ q hq
    have hq := List.mem_range.1 hq
    rw [beq_iff_eq]
    cases ea : empB fun k => A (q * 27 + k)
    · exact ((key B q).2 (h2 q hq ((key A q).1 ea))).symm
    · cases eb : empB fun k => B (q * 27 + k)
      · have := (key A q).2 (h1 q hq ((key B q).1 eb)); rw [ea] at this; cases this
      · rfl

/-- the program's cores are these -/
def CorOk (S : List Sd) (c : Nat) : Prop := corV (mOf S) = (S.map (·.core), c) ∧ ∀ s ∈ S, s.core < c
theorem CorOk.setTo {S : List Sd} {c : Nat} (h : CorOk S c) {n : Nat} (hn : n < S.length) (i : Nat) (x : Int) : CorOk (setTo S n i x) c := by
  have e : (Go.Proofs.YtkglggkkbmmjkaaGreatDoor.setTo S n i x).map (·.core) = S.map (·.core) := by
    unfold Go.Proofs.YtkglggkkbmmjkaaGreatDoor.setTo
    rw [List.map_set]
    apply List.ext_getElem (by simp)
    intro j h1 h2
    rw [List.getElem_set]
    split
    · rename_i e; subst e
      rw [List.getElem_map, sget_eq S n hn]
    · rfl
  refine ⟨by rw [mOf_setTo S n i x hn, e]; exact h.1, fun s hs => ?_⟩
  have : s.core ∈ S.map (·.core) := by rw [← e]; exact List.mem_map_of_mem hs
  obtain ⟨s', hs', e'⟩ := List.mem_map.1 this
  rw [← e']; exact h.2 s' hs'
theorem find_findIdx {α : Type} {p : α → Bool} : ∀ {l : List α} {k : Nat}, l.findIdx? p = some k → l.find? p = l[k]?
  | [], k, h => by simp at h
  | x :: l, k, h => by
    rw [List.findIdx?_cons] at h
    rw [List.find?_cons]
    cases hx : p x with
    | true =>
      rw [hx] at h
      obtain rfl : 0 = k := by simpa using h
      rfl
    | false =>
      rw [hx] at h
      simp only [Bool.false_eq_true, if_false, Option.map_eq_some_iff] at h
      obtain ⟨j, hj, rfl⟩ := h
      rw [find_findIdx hj]; rfl
set_option maxRecDepth 100000 in
theorem CorOk.new {S : List Sd} {c : Nat} (h : CorOk S c) (B : Nat → Bool) : CorOk (S ++ [sdN S B c]) (corN S B c) := by
  have hidx : (mOf S).findIdx? (fun p => alk2 (repL B) p) = S.findIdx? (fun s => smC s.A B 45) := by
    unfold mOf
    rw [List.findIdx?_map]
    congr 1
    funext s
    show alk2 (repL B) (repL s.A) = _
    rw [smC_eq]
  have hs := corF_snoc alk2 (repL B) (mOf S) [] [] 0
  rw [List.nil_append, hidx] at hs
  have h1 : corF alk2 (mOf S) [] [] 0 = (S.map (·.core), c) := h.1
  rw [h1] at hs
  unfold CorOk
  rw [mOf_new]
  unfold corV
  cases hf : S.findIdx? (fun s => smC s.A B 45) with
  | none =>
    rw [hf] at hs
    have hn : S.find? (fun s => smC s.A B 45) = none := by
      rw [List.find?_eq_none]; rw [List.findIdx?_eq_none_iff] at hf
      intro x hx; rw [hf x hx]; simp
    have hc : corM S B c = c := by unfold corM; rw [hn]
    have hN : corN S B c = c + 1 := by unfold corN; rw [if_pos hc]
    rw [hN]
    refine ⟨by rw [hs, List.map_append]; show (_, _) = (_, _); rw [show [sdN S B c].map (·.core) = [c] from by simp [sdN, hc]], fun s hs' => ?_⟩
    rcases List.mem_append.1 hs' with h' | h'
    · have := h.2 s h'; omega
    · rw [List.mem_singleton.1 h']; show corM S B c < c + 1; omega
  | some k =>
    rw [hf] at hs
    have hkl : k < S.length := by
      rw [List.findIdx?_eq_some_iff_getElem] at hf; exact hf.1
    have hn : S.find? (fun s => smC s.A B 45) = some S[k] := by rw [find_findIdx hf, List.getElem?_eq_getElem hkl]
    have hc : corM S B c = S[k].core := by unfold corM; rw [hn]
    have hlt : S[k].core < c := h.2 _ (List.getElem_mem hkl)
    have hN : corN S B c = c := by unfold corN; rw [if_neg (by omega)]
    rw [hN]
    refine ⟨by rw [hs, List.map_append]; show (_, _) = (_, _); rw [show [sdN S B c].map (·.core) = [(S.map (·.core)).getD k 0] from by simp [sdN, hc, hkl]], fun s hs' => ?_⟩
    rcases List.mem_append.1 hs' with h' | h'
    · exact h.2 s h'
    · rw [List.mem_singleton.1 h']; show corM S B c < c; omega
theorem steps_cor {p : Pl} {n : Nat} {A : Nat → Bool} {S : List Sd} {c f i : Nat} {S1 : List Sd} {c1 f1 : Nat} (h : StepsR p n A S c f i S1 c1 f1) (hn : n < S.length) (h0 : CorOk S c) : CorOk S1 c1 := by
  induction h with
  | zero => exact h0
  | skip h _ ih => exact ih.setTo (Nat.lt_of_lt_of_le hn (steps_len h)) _ _
  | old h _ _ _ ih => exact ih.setTo (Nat.lt_of_lt_of_le hn (steps_len h)) _ _
  | many h _ _ _ _ ih => exact ih.setTo (Nat.lt_of_lt_of_le hn (steps_len h)) _ _
  | new h _ _ _ _ ih => exact (ih.new _).setTo (by have := steps_len h; rw [List.length_append]; omega) _ _
theorem states_cor {p : Pl} {n : Nat} {S : List Sd} {c f : Nat} (h : StatesR p n S c f) : CorOk S c := by
  induction h with
  | start _ =>
    have := (show CorOk [] 0 from ⟨rfl, fun _ h => by cases h⟩).new
    exact this _
  | step _ hn hR ih => exact steps_cor hR hn ih
end Go.Proofs.YtkglggkkbmmjkaaGreatDoor

namespace Go.Proofs.YtkglggkkbmmjkaaGreatDoor
open Go.RowKit

def mixS (r : Tb) (cs : List Nat) (c : Int) (x m : Nat) : Bool := (List.range m).any fun j => ((cs.getD j 0 : Nat) : Int) == c && canS r j x
def mixR (L : List Ru) (r : Tb) (cs : List Nat) (c : Int) (x m k : Nat) : Bool := (List.range m).any fun j => ((cs.getD j 0 : Nat) : Int) == c && canR L r j x k
def mixT (L : List Ru) (r : Tb) (c : Int) (x : Nat) : ByteArray := wordsT (mixS r (corV r.1).1 c x r.1.length) (mixR L r (corV r.1).1 c x r.1.length)
def coreV (n : Int) : Nat ⊕ Tb → Nat × Nat
  | .inl x => (0, x)
  | .inr r => if 0 ≤ n ∧ n < r.1.length then ((corV r.1).1.getD n.toNat 0, 0) else (0, 7)
def mixV (L : List Ru) (n : Int) (s : ByteArray) : Nat ⊕ Tb → ByteArray × Nat
  | .inl x => (⟨#[]⟩, x)
  | .inr r => if 0 ≤ n ∧ n < (corV r.1).2 then if sgnX s = false then (⟨#[]⟩, 5) else (mixT L r n (ch s 0), 0) else (⟨#[]⟩, 7)
def clsT (L : List Ru) (r : Tb) : Nat :=
  if anyC (fun k i => decide (1 < (actT L r k (sgn i)).size)) r.1.length then 0 else if anyC (fun k i => decide (1 < (mixT L r (k : Nat) (sgn i)).size)) (corV r.1).2 then 1 else 2
def classV (L : List Ru) : Nat ⊕ Tb → Nat × Nat
  | .inl x => (0, x)
  | .inr r => (clsT L r, 0)

theorem TIs.cor {t : ByteArray} {S : List Sd} {M : List (List (Nat × Nat))} {c : Nat} (_ : TIs t S M) (hG : TGood t S c) : corV (mOf S) = (S.map (·.core), c) := (states_cor hG.2.1).1
theorem core_getD (S : List Sd) (n : Nat) (h : n < S.length) : (S.map (·.core)).getD n 0 = (sget S n).core := by
  rw [List.getD_eq_getElem?_getD, List.getElem?_map, List.getElem?_eq_getElem h, sget_eq S n h]; rfl
theorem p_CoreV (t : ByteArray) (n : Int) (w : World) (ht : t.size ≤ 9223372036854775807) :
    Calls Tryz.prog 37 #[.string t, .int .i64 n] w fun e w' => e = .returned (.tuple #[.int .i64 ((coreV n (tabR t)).1 : Nat), .int .i64 ((coreV n (tabR t)).2 : Nat)]) ∧ Fr [] w w' := by
  refine (p_Core t n w ht).mono ?_
  rintro e w' ⟨hf, y, x, rfl, h⟩
  refine ⟨?_, hf⟩
  suffices hs : coreV n (tabR t) = (y, x) by rw [hs]
  rcases h with ⟨hE, hx, rfl⟩ | ⟨S, c, hG, h⟩
  · rw [tabR_err hE hx]; rfl
  · obtain ⟨M, hM⟩ := tabR_good hG
    rw [hM.tab]
    unfold coreV
    dsimp only
    rw [mOf_len, hM.cor hG]
    rcases h with ⟨h1, rfl, rfl⟩ | ⟨h1, rfl, rfl⟩
    · rw [if_neg h1]
    · rw [if_pos h1, core_getD S _ (by omega)]
theorem any_congr' {m : Nat} {f g : Nat → Bool} (h : ∀ j, j < m → f j = g j) : (List.range m).any f = (List.range m).any g := by
  apply Bool.eq_iff_iff.2
  rw [List.any_eq_true, List.any_eq_true]
  constructor
  · rintro ⟨j, hj, e⟩; exact ⟨j, hj, by rw [← h j (List.mem_range.1 hj)]; exact e⟩
  · rintro ⟨j, hj, e⟩; exact ⟨j, hj, by rw [h j (List.mem_range.1 hj)]; exact e⟩
theorem canR_eq {t : ByteArray} {S : List Sd} {M : List (List (Nat × Nat))} (h : TIs t S M) {x : Nat} (hx : sigB x = true) {j : Nat} (hj : j < S.length) {k : Nat} (hk : k < 9) : ruS (plT t) (sget S j).A x k = canR (rul (parse t 8 0 []).1) (mOf S, M) j x k := by
  unfold canR
  dsimp only
  rw [repL_getD S j hj]
  exact putback_eq (h.ok.get hj) hx hk
theorem canS_eq {t : ByteArray} {S : List Sd} {M : List (List (Nat × Nat))} (h : TIs t S M) {x : Nat} {j : Nat} (hj : j < S.length) : (stepTo S j x != -1) = canS (mOf S, M) j x := stepB_eq h.tos hj x
/-- a mix, for both -/
theorem mix_eq {t : ByteArray} {S : List Sd} {M : List (List (Nat × Nat))} {c : Nat} (h : TIs t S M) (hG : TGood t S c) (n : Int) {x : Nat} (hx : sigB x = true) :
    (⟨(acL (mxS S n x S.length) (mxR (plT t) S n x S.length) 9).toArray⟩ : ByteArray) = mixT (rul (parse t 8 0 []).1) (mOf S, M) n x := by
  unfold mixT wordsT
  dsimp only
  rw [h.cor hG, mOf_len]
  congr 2
  rw [show mxS S n x S.length = mixS (mOf S, M) (S.map (·.core)) n x S.length from any_congr' fun j hj => by rw [core_getD S j hj, canS_eq h hj]]
  exact acL_congr fun i hi => any_congr' fun j hj => by rw [core_getD S j hj, canR_eq h hx hj hi]
theorem act_eq {t : ByteArray} {S : List Sd} {M : List (List (Nat × Nat))} (h : TIs t S M) {j : Nat} (hj : j < S.length) {x : Nat} (hx : sigB x = true) :
    (⟨(acL (stepTo S j x != -1) (ruS (plT t) (sget S j).A x) 9).toArray⟩ : ByteArray) = actT (rul (parse t 8 0 []).1) (mOf S, M) j x := by
  unfold actT wordsT
  rw [canS_eq h hj]
  congr 2
  exact acL_congr fun i hi => canR_eq h hx hj hi
theorem p_MixV (t : ByteArray) (n : Int) (s : ByteArray) (w : World) (ht : t.size ≤ 9223372036854775807) :
    Calls Tryz.prog 39 #[.string t, .int .i64 n, .string s] w fun e w' => e = .returned (.tuple #[.string (mixV (rul (parse t 8 0 []).1) n s (tabR t)).1, .int .i64 ((mixV (rul (parse t 8 0 []).1) n s (tabR t)).2 : Nat)]) ∧ Fr [] w w' := by
  refine (p_Mix t n s w ht).mono ?_
  rintro e w' ⟨hf, y, x, rfl, h⟩
  refine ⟨?_, hf⟩
  suffices hs : mixV (rul (parse t 8 0 []).1) n s (tabR t) = (y, x) by rw [hs]
  rcases h with ⟨hE, hx, rfl⟩ | ⟨S, c, hG, h⟩
  · rw [tabR_err hE hx]; rfl
  · obtain ⟨M, hM⟩ := tabR_good hG
    rw [hM.tab]
    unfold mixV
    dsimp only
    rw [hM.cor hG]
    dsimp only
    rcases h with ⟨h1, rfl, rfl⟩ | ⟨h1, h2, rfl, rfl⟩ | ⟨h1, h2, rfl, rfl⟩
    · rw [if_neg h1]
    · rw [if_pos h1, if_pos h2]
    · have hs : sigB (ch s 0) = true := by unfold sgnX at h2; rw [Bool.and_eq_true] at h2; exact h2.2
      rw [if_pos h1, if_neg (by rw [h2]; simp), mix_eq hM hG n hs]
theorem anyC_congr {m : Nat} {f g : Nat → Nat → Bool} (h : ∀ k, k < m → ∀ i, i < 27 → f k i = g k i) : anyC f m = anyC g m := any_congr' fun k hk => any_congr' fun i hi => h k hk i hi
theorem sigB_sgn' {i : Nat} (hi : i < 27) : sigB (sgn i) = true := by
  rw [sigB_iff]
  unfold sgn
  split <;> omega
theorem p_ClassV (t : ByteArray) (w : World) (ht : t.size ≤ 9223372036854775807) :
    Calls Tryz.prog 41 #[.string t] w fun e w' => e = .returned (.tuple #[.int .i64 ((classV (rul (parse t 8 0 []).1) (tabR t)).1 : Nat), .int .i64 ((classV (rul (parse t 8 0 []).1) (tabR t)).2 : Nat)]) ∧ Fr [] w w' := by
  refine (p_Class t w ht).mono ?_
  rintro e w' ⟨hf, n, x, rfl, h1, h2⟩
  refine ⟨?_, hf⟩
  suffices hs : classV (rul (parse t 8 0 []).1) (tabR t) = (n, x) by rw [hs]
  by_cases hx : x = 0
  · obtain ⟨S, c, hG, rfl⟩ := h2 hx
    obtain ⟨M, hM⟩ := tabR_good hG
    rw [hM.tab, hx]
    unfold classV clsT clsV
    dsimp only
    rw [mOf_len, hM.cor hG]
    dsimp only
    rw [anyC_congr (f := clK (plT t) S) (g := fun k i => decide (1 < (actT (rul (parse t 8 0 []).1) (mOf S, M) k (sgn i)).size)) (fun k hk i hi => by unfold clK; rw [← act_eq hM hk (sigB_sgn' hi)]; rfl),
      anyC_congr (f := clC (plT t) S) (g := fun k i => decide (1 < (mixT (rul (parse t 8 0 []).1) (mOf S, M) (k : Nat) (sgn i)).size)) (fun k hk i hi => by unfold clC; rw [← mix_eq hM hG _ (sigB_sgn' hi)]; rfl)]
  · obtain ⟨rfl, hE⟩ := h1 hx
    rw [tabR_err hE hx]; rfl
end Go.Proofs.YtkglggkkbmmjkaaGreatDoor
