import Derived.Test.YtkglggkkbmmjkaaDoorH30PActs
import Derived.Test.YtkglggkkbmmjkaaDoorH10RPut
namespace Go.Proofs.YtkglggkkbmmjkaaDoor
open Go.RowKit

/-- what can be done: a step, rules -/
def acF (st : Bool) (ru : Nat → Bool) : Nat → Value := fun i => if i = 0 then .bool st else .bool (ru (i - 1))
theorem oneB_acF (st : Bool) (ru : Nat → Bool) (m : Nat) : oneB (acF st ru) m := fun i _ => by unfold acF; split <;> rfl
theorem Tryd.zeroActs : (Tryd.prog.info? 74).bind (·.zero) = some (Agg 10 (acF false fun _ => false)) := by kernel_rfl
theorem Tryd.sizeActs : (Tryd.prog.info? 74).map (·.size) = some 10 := by kernel_rfl
/-- rule r can be put back in a state with these items, by the places below lim -/
def ruA (p : Pl) (A : Nat → Bool) (c r lim : Nat) : Bool := (List.range lim).any fun t => p.en r t && A (r * 135 + t * 27 + sgO c)
theorem ruA_succ (p : Pl) (A : Nat → Bool) (c r t : Nat) : ruA p A c r (t + 1) = (ruA p A c r t || (p.en r t && A (r * 135 + t * 27 + sgO c))) := by
  unfold ruA
  rw [List.range_succ, List.any_append]; simp
def ruL (p : Pl) (A : Nat → Bool) (c r t : Nat) : Nat → Bool := fun i => if i < r then ruA p A c i 5 else if i = r then ruA p A c r t else false
theorem ruL_zero (p : Pl) (A : Nat → Bool) (c i : Nat) : ruL p A c 0 0 i = false := by
  unfold ruL
  rw [if_neg (by omega)]
  split <;> rfl
theorem ruL_row (p : Pl) (A : Nat → Bool) (c r i : Nat) : ruL p A c r 5 i = ruL p A c (r + 1) 0 i := by
  unfold ruL
  by_cases h : i < r
  · rw [if_pos h, if_pos (by omega)]
  · rw [if_neg h]
    by_cases h2 : i = r
    · rw [if_pos h2, if_pos (by omega), h2]
    · rw [if_neg h2, if_neg (by omega)]
      split <;> rfl
theorem ruL_skip (p : Pl) (A : Nat → Bool) (c r t i : Nat) (h : (p.en r t && A (r * 135 + t * 27 + sgO c)) = false) : ruL p A c r (t + 1) i = ruL p A c r t i := by
  unfold ruL
  rw [ruA_succ p A c r t, h, Bool.or_false]
theorem acF_set (p : Pl) (A : Nat → Bool) (c r t : Nat) (st : Bool) (h : (p.en r t && A (r * 135 + t * 27 + sgO c)) = true) (i : Nat) : upd (acF st (ruL p A c r t)) (1 + r) (.bool true) i = acF st (ruL p A c r (t + 1)) i := by
  unfold upd acF
  by_cases e : i = 1 + r
  · rw [if_pos e, if_neg (by omega), e]
    unfold ruL
    rw [if_neg (by omega), if_pos (by omega), ruA_succ, h, Bool.or_true]
  · rw [if_neg e]
    by_cases e0 : i = 0
    · rw [if_pos e0, if_pos e0]
    · rw [if_neg e0, if_neg e0]
      unfold ruL
      have h1 : ¬ i - 1 = r := by omega
      rw [if_neg h1, if_neg h1]
/-- the rules that can be put back -/
def ruS (p : Pl) (A : Nat → Bool) (c : Nat) : Nat → Bool := fun r => decide (r < 9) && ruA p A c r 5
theorem ruL_all (p : Pl) (A : Nat → Bool) (c i : Nat) : ruL p A c 9 0 i = ruS p A c i := by
  unfold ruL ruS
  by_cases h : i < 9
  · rw [if_pos h]; simp [h]
  · rw [if_neg h]
    simp only [h, decide_false, Bool.false_and]
    split <;> rfl

def AcS (w wr : World) (tb base : Nat) (p : Pl) (v : Value) (S : List Sd) (cores fault : Nat) (f : Nat → Value) : Prop := Fr [] w wr ∧ TbR wr tb base p v S cores fault ∧ Blk wr w.heap.size 10 (acF false fun _ => false) ∧ Blk wr (w.heap.size + 1) 10 f
theorem AcS.put {w wr : World} {tb base : Nat} {p : Pl} {v : Value} {S : List Sd} {cores fault : Nat} {f g : Nat → Value} (h : AcS w wr tb base p v S cores fault f) (hb : tb < w.heap.size) (hv : ∀ x, v.ownBlock = some x → x < w.heap.size) (k : Nat) (u : Value) (e : ∀ i, i < 10 → upd f k u i = g i) : AcS w (wr.setCell ⟨w.heap.size + 1, k, none⟩ u) tb base p v S cores fault g := by
  have k1 := (Fr.refl [w.heap.size + 1] wr).setCell ⟨w.heap.size + 1, k, none⟩ (by simp) u
  exact ⟨h.1.trans1 k1 (Or.inr (by omega)), h.2.1.far k1 (by omega) (fun e => by have := hv _ e; omega), h.2.2.1.fr1 k1 (by omega), (h.2.2.2.setCell k u).congr e⟩

set_option maxRecDepth 100000 in
set_option maxHeartbeats 2000000 in
/-- table.acts -/
theorem p_acts (tb base k c : Nat) (p : Pl) (v : Value) (S : List Sd) (cores fault : Nat) (w : World) (h : TbR w tb base p v S cores fault) (hk : k < S.length) (hc : sigB c = true) :
    Calls Tryd.prog 26 #[.pointer (some ⟨tb, 0, none⟩), .int .i64 k, .int .u8 c] w fun e w' => e = .returned (Agg 10 (acF (stepTo S k c != -1) (ruS p (sget S k).A c))) ∧ Fr [] w w' := by
  have hhs : (decide (0 ≤ (k : Int)) && decide ((k : Int) < S.length)) = true := by simp; omega
  have hki : (k : Int) < S.length := by omega
  obtain ⟨A, hA⟩ : ∃ A, (sget S k).A = A := ⟨_, rfl⟩
  rw [hA]
  obtain ⟨ao, cap, hv, hao⟩ := h.form
  obtain ⟨g, rfl, hgo⟩ := hao (by omega)
  subst hv
  have lb := h.blk.lt
  have lg : g < w.heap.size := (h.row.lt hgo).2
  have HV : ∀ x, (Value.slice (some ⟨g, 0, none⟩) S.length cap).ownBlock = some x → x < w.heap.size := fun x hx => by
    have e : g = x := by simpa [Value.ownBlock] using hx
    omega
  have H := hide h
  have HA := hide hA
  have HC := hide hc
  obtain ⟨sx, hsx⟩ : ∃ sx, stepTo S k c = sx := ⟨_, rfl⟩
  have HSX := hide hsx
  rw [hsx]
  clear h hc hao hgo hA hsx
  go_enter Tryd.func26, Tryd.ntmps26
  go_wp2_with (first
    | (refine wpList_alloc_blk rfl 74 rfl (some 6) rfl 10 _ Tryd.zeroActs ?_; intro w1 hf1 hs1 hB1; have HF1 := hide hf1; have HA1 := hide hB1; clear hf1 hB1)
    | (refine wpList_alloc_blk rfl 74 rfl (some 7) rfl 10 _ Tryd.zeroActs ?_; intro w2 hf2 hs2 hB2; have H2 := hide (show AcS w w2 tb base p (.slice (some ⟨g, 0, none⟩) S.length cap) S cores fault (acF false fun _ => false) from ⟨(unhide HF1).trans0 hf2, ((unhide H).fr0 (unhide HF1)).fr0 hf2, (unhide HA1).fr0 hf2, hs1 ▸ hB2⟩); have z0 := (unhide H2).2.2.2.cell 0 (by omega); have y0 := (unhide H2).2.2.2.free 0; clear hf2 hB2 HF1 HA1)
    | (go_at_call 24; refine (p_hasStateR tb base p _ S cores fault k _ (by exact (unhide H2).2.1)).mono ?_; rintro e w' ⟨rfl, hw'⟩; rw [hw', hhs])
    | (go_at_call 29; refine (p_tstep tb base k c p _ S cores fault _ (by exact (unhide H2).2.1) hk).mono ?_; rintro e w' ⟨rfl, hw'⟩; rw [hw', unhide HSX]))
  obtain ⟨w3, hw3⟩ : ∃ w3, w2.setCell ⟨w.heap.size + 1, 0, none⟩ (.bool (sx != -1)) = w3 := ⟨_, rfl⟩
  rw [hw3]
  have H3 := hide (show AcS w w3 tb base p (.slice (some ⟨g, 0, none⟩) S.length cap) S cores fault (acF (sx != -1) (ruL p A c 0 0)) from hw3 ▸ (unhide H2).put lb HV 0 _ (fun i _ => by
    unfold upd acF
    by_cases e : i = 0
    · rw [if_pos e, if_pos e]
    · rw [if_neg e, if_neg e, if_neg e, ruL_zero]))
  clear hw3 H2 z0 y0
  go_loopw [8] (fun i wr => ∃ r : Nat, r ≤ 9 ∧ i = .int .i64 r ∧ Hid (AcS w wr tb base p (.slice (some ⟨g, 0, none⟩) S.length cap) S cores fault (acF (sx != -1) (ruL p A c r 0)))) (fun i _ => 9 - (intOf i).toNat)
  case atStart => exact ⟨0, by omega, rfl, H3⟩
  case round =>
    obtain ⟨r, hr, rfl, hs⟩ := hrel
    clear H3
    by_cases hlt : r < 9
    · have hr9 : (r : Int) < 9 := by omega
      go_wp2
      go_loopw [9] (fun i wr => ∃ t : Nat, t ≤ 5 ∧ i = .int .i64 t ∧ Hid (AcS w wr tb base p (.slice (some ⟨g, 0, none⟩) S.length cap) S cores fault (acF (sx != -1) (ruL p A c r t)))) (fun i _ => 5 - (intOf i).toNat)
      case atStart => exact ⟨0, by omega, rfl, hs⟩
      case round =>
        clear hs
        obtain ⟨t, ht, rfl, hs⟩ := hrel
        by_cases htt : t < 5
        · have d0 : wr.cell? ⟨tb, 9 + r * 150 + t * 30 + 1, none⟩ = some (.bool (p.en r t)) := (unhide hs).2.1.plan.spot r t hlt htt 1 (by omega)
          have q0 := (unhide hs).2.1.v
          have HI := hide (show CsAt wr g (k * 1268 + r * 135 + t * 27) 27 (boolF fun j => A (r * 135 + t * 27 + j)) from by
            have := ((unhide hs).2.1.items k hk).sub (r * 135 + t * 27) 27 (by omega)
            rw [unhide HA, ← Nat.add_assoc] at this; exact this)
          cases hen : p.en r t
          · rw [hen] at d0
            have HN := hide (show AcS w wr tb base p (.slice (some ⟨g, 0, none⟩) S.length cap) S cores fault (acF (sx != -1) (ruL p A c r (t + 1))) from ⟨(unhide hs).1, (unhide hs).2.1, (unhide hs).2.2.1, (unhide hs).2.2.2.congr fun i _ => by unfold acF; rw [ruL_skip p A c r t _ (by rw [hen]; rfl)]⟩)
            go_wp2
            go_roundw
            case rel => exact ⟨t + 1, by omega, by go_num, HN⟩
            case measure => simp [intOf]; omega
          · rw [hen] at d0
            cases hax : A (r * 135 + t * 27 + sgO c)
            · have HN := hide (show AcS w wr tb base p (.slice (some ⟨g, 0, none⟩) S.length cap) S cores fault (acF (sx != -1) (ruL p A c r (t + 1))) from ⟨(unhide hs).1, (unhide hs).2.1, (unhide hs).2.2.1, (unhide hs).2.2.2.congr fun i _ => by unfold acF; rw [ruL_skip p A c r t _ (by rw [hen, hax]; rfl)]⟩)
              go_wp2_with (go_at_call 43; refine (p_shas g (k * 1268 + r * 135 + t * 27) c (fun j => A (r * 135 + t * 27 + j)) wr (by exact unhide HI) (unhide HC)).mono ?_; rintro e w' ⟨rfl, hw'⟩; rw [hw', hax])
              go_roundw
              case rel => exact ⟨t + 1, by omega, by go_num, HN⟩
              case measure => simp [intOf]; omega
            · have HN := hide ((unhide hs).put lb HV (1 + r) (.bool true) (fun i _ => acF_set p A c r t (sx != -1) (by rw [hen, hax]; rfl) i))
              have z1 := (unhide hs).2.2.2.cell (1 + r) (by omega)
              have y1 := (unhide hs).2.2.2.free (1 + r)
              go_wp2_with (go_at_call 43; refine (p_shas g (k * 1268 + r * 135 + t * 27) c (fun j => A (r * 135 + t * 27 + j)) wr (by exact unhide HI) (unhide HC)).mono ?_; rintro e w' ⟨rfl, hw'⟩; rw [hw', hax])
              go_roundw
              case rel => exact ⟨t + 1, by omega, by go_num, HN⟩
              case measure => simp [intOf]; omega
        · have HN := hide (show AcS w wr tb base p (.slice (some ⟨g, 0, none⟩) S.length cap) S cores fault (acF (sx != -1) (ruL p A c (r + 1) 0)) from by
            have e : t = 5 := by omega
            subst e
            exact ⟨(unhide hs).1, (unhide hs).2.1, (unhide hs).2.2.1, (unhide hs).2.2.2.congr fun i _ => by unfold acF; rw [ruL_row]⟩)
          clear hs
          go_wp2
          go_roundw
          case rel => exact ⟨r + 1, by omega, by go_num, HN⟩
          case measure => simp [intOf]; omega
    · have HN := hide (show AcS w wr tb base p (.slice (some ⟨g, 0, none⟩) S.length cap) S cores fault (acF (sx != -1) (ruS p A c)) from by
        have e : r = 9 := by omega
        subst e
        exact ⟨(unhide hs).1, (unhide hs).2.1, (unhide hs).2.2.1, (unhide hs).2.2.2.congr fun i _ => by unfold acF; rw [ruL_all]⟩)
      clear hs
      go_wp2_with (first
        | (refine wpList_load_blk rfl 74 (.tmp 7) rfl (some 58) rfl (w.heap.size + 1) 0 10 10 (acF (sx != -1) (ruS p A c)) _ rfl (by exact (unhide HN).2.2.2) Tryd.underlying74 rfl Tryd.sizeActs (by omega) ?_)
        | (refine wpList_store_blk rfl 74 (.tmp 6) (.tmp 58) rfl w.heap.size 0 10 10 (acF false fun _ => false) (fun i => acF (sx != -1) (ruS p A c) (0 + i)) rfl rfl (by exact (unhide HN).2.2.1) Tryd.sizeActs (by omega) (fun i hi => oneB_acF _ _ (0 + i + 1) (0 + i) (Nat.lt_succ_self _)) ?_; intro w7 hf7 hs7 hB7))
      exact bodyPost_ret (results_cell Tryd.results26 _ w.heap.size rfl 10 10 _ _ (hB7.congr fun i hi => lay_all _ _ _ i hi) Tryd.underlying74 rfl Tryd.sizeActs (by omega)) rfl ⟨by congr 2; funext i; rw [Nat.zero_add], (unhide HN).1.trans1 hf7 (Or.inr (Nat.le_refl _))⟩
end Go.Proofs.YtkglggkkbmmjkaaDoor

namespace Go.Proofs.YtkglggkkbmmjkaaDoor
open Go.RowKit

/-- what can be done, written down: the rules below k -/
def acL (st : Bool) (ru : Nat → Bool) (k : Nat) : List UInt8 := (if st then [115] else []) ++ ((List.range k).filter ru).map fun j => UInt8.ofNat (48 + j)
theorem acL_succ (st : Bool) (ru : Nat → Bool) (k : Nat) : acL st ru (k + 1) = acL st ru k ++ if ru k then [UInt8.ofNat (48 + k)] else [] := by
  unfold acL
  rw [List.range_succ, List.filter_append, List.map_append, List.append_assoc]
  congr 2
  cases h : ru k <;> simp [h]
theorem acL_len (st : Bool) (ru : Nat → Bool) (k : Nat) : (acL st ru k).length ≤ k + 1 := by
  unfold acL
  rw [List.length_append, List.length_map]
  have := List.length_filter_le ru (List.range k)
  rw [List.length_range] at this
  split <;> simp <;> omega

set_option maxRecDepth 100000 in
set_option maxHeartbeats 1600000 in
/-- actSet.list -/
theorem p_alist (b : Nat) (st : Bool) (ru : Nat → Bool) (w : World) (h : Blk w b 10 (acF st ru)) :
    Calls Tryd.prog 27 #[.pointer (some ⟨b, 0, none⟩)] w fun e w' => e = .returned (.string ⟨(acL st ru 9).toArray⟩) ∧ Fr [] w w' := by
  obtain ⟨i0, hi0, hz0, hz1, hz2⟩ := info_parts Tryd.infoByte
  have H := hide h
  have c0 : w.cell? ⟨b, 0, none⟩ = some (.bool st) := h.cell 0 (by omega)
  clear h
  cases st
  · go_enter Tryd.func27, Tryd.ntmps27
    go_wp2_with (at_builtin; refine wpList_append_lies _ rfl (.tmp 9) (.tmp 10) 44 rfl w.heap.size 5 i0 _ 1 1 Tryd.underlying44 hi0 hz0 hz1 hz2 rfl (by omega) (.slice none 0 0) 0 [] rfl (World.ownsRow_nil _ _ _ _) _ 1 1 [.int .u8 115] rfl rfl (World.news_of_block (cs := #[.int .u8 115]) (t := 5) (fr := (0, 0)) (heap_alloc_new _ _)) (by simp [Value.oneCell']) (by omega) (by unfold maxLen; omega) (by omega) (by simp) _ rfl ?_; intro g cap w1 hown1 hgrow1 hat1 hlt1; have HQ0 := hide (show LsS w w1 (.slice (some ⟨g, 0, none⟩) 1 cap) [115] from ⟨((Fr.refl [] w).alloc _).of_grown hgrow1 (fun k hk => by cases hk), hown1⟩); clear hown1 hgrow1 hat1 hlt1)
    go_loopw [3, 4] (fun v a wr => ∃ k : Nat, k ≤ 9 ∧ a = .int .i64 k ∧ Hid (LsS w wr v (acL false ru k))) (fun _ a _ => 9 - (intOf a).toNat)
    case atStart => first | exact ⟨0, by omega, rfl, hide (by exact unhide HQ0)⟩ | exact ⟨0, by omega, rfl, hide (by exact ⟨Fr.refl _ _, World.ownsRow_nil _ _ _ _⟩)⟩
    case round =>
      obtain ⟨k, hk, rfl, hs⟩ := hrel
      by_cases hlt : k < 9
      · have d0 : wr.cell? ⟨b, 1 + k, none⟩ = some (.bool (ru k)) := by
          rw [((unhide H).fr0 (unhide hs).1).cell _ (by omega)]
          unfold acF
          rw [if_neg (by omega), Nat.add_sub_cancel_left]
        have HS1 := hide (acL_succ false ru k)
        have hll := acL_len false ru k
        have hcb := hide (show ((UInt8.ofNat (48 + k)).toNat : Int) = 48 + k from by rw [UInt8.toNat_ofNat']; omega)
        cases hv : ru k
        · rw [hv] at d0
          have HN := hide (show acL false ru (k + 1) = acL false ru k from (unhide HS1).trans (by rw [hv]; simp))
          go_wp2
          go_roundw
          case rel => exact ⟨k + 1, by omega, by go_num, hide (by rw [unhide HN]; exact unhide hs)⟩
          case measure => simp [intOf]; omega
        · rw [hv] at d0
          have HN := hide (show acL false ru (k + 1) = acL false ru k ++ [UInt8.ofNat (48 + k)] from (unhide HS1).trans (by rw [hv]; rfl))
          go_wp2_with (at_builtin; refine wpList_append_lies _ rfl (.tmp 22) (.tmp 26) 44 rfl w.heap.size 5 i0 _ 1 1 Tryd.underlying44 hi0 hz0 hz1 hz2 rfl (by omega) u3 (acL false ru k).length (bv (acL false ru k)) rfl (by exact (unhide hs).2.alloc _) _ 1 1 [.int .u8 (48 + k)] rfl rfl (World.news_of_block (cs := #[.int .u8 (48 + k)]) (t := 5) (fr := (0, 0)) (heap_alloc_new _ _)) (by simp [Value.oneCell']) (by omega) (by unfold maxLen; omega) (by omega) (by have := (unhide hs).1.size; simp; omega) _ rfl ?_; intro g2 cap2 w2 hown2 hgrow2 hat2 hlt2; have HQ2 := hide (LsS.append (UInt8.ofNat (48 + k)) (unhide hs) (by rw [unhide hcb]; exact hown2) hgrow2); clear hown2 hgrow2 hat2 hlt2)
          go_roundw
          case rel => exact ⟨k + 1, by omega, by go_num, hide (by rw [unhide HN]; exact unhide HQ2)⟩
          case measure => simp [intOf]; omega
      · have HN := hide (show LsS w wr u3 (acL false ru 9) from by
          have := unhide hs
          rw [show k = 9 from by omega] at this; exact this)
        clear hs
        go_wp2_with (refine wpList_str_own rfl w.heap.size 44 9 5 (.tmp 28) rfl u3 (acL false ru 9) Tryd.underlying44 Tryd.underlying5 Tryd.underlying9 rfl (by exact (unhide HN).2) ?_)
        go_ret
        exact ⟨rfl, (unhide HN).1⟩
  · go_enter Tryd.func27, Tryd.ntmps27
    go_wp2_with (at_builtin; refine wpList_append_lies _ rfl (.tmp 9) (.tmp 10) 44 rfl w.heap.size 5 i0 _ 1 1 Tryd.underlying44 hi0 hz0 hz1 hz2 rfl (by omega) (.slice none 0 0) 0 [] rfl (World.ownsRow_nil _ _ _ _) _ 1 1 [.int .u8 115] rfl rfl (World.news_of_block (cs := #[.int .u8 115]) (t := 5) (fr := (0, 0)) (heap_alloc_new _ _)) (by simp [Value.oneCell']) (by omega) (by unfold maxLen; omega) (by omega) (by simp) _ rfl ?_; intro g cap w1 hown1 hgrow1 hat1 hlt1; have HQ0 := hide (show LsS w w1 (.slice (some ⟨g, 0, none⟩) 1 cap) [115] from ⟨((Fr.refl [] w).alloc _).of_grown hgrow1 (fun k hk => by cases hk), hown1⟩); clear hown1 hgrow1 hat1 hlt1)
    go_loopw [3, 4] (fun v a wr => ∃ k : Nat, k ≤ 9 ∧ a = .int .i64 k ∧ Hid (LsS w wr v (acL true ru k))) (fun _ a _ => 9 - (intOf a).toNat)
    case atStart => first | exact ⟨0, by omega, rfl, hide (by exact unhide HQ0)⟩ | exact ⟨0, by omega, rfl, hide (by exact ⟨Fr.refl _ _, World.ownsRow_nil _ _ _ _⟩)⟩
    case round =>
      obtain ⟨k, hk, rfl, hs⟩ := hrel
      by_cases hlt : k < 9
      · have d0 : wr.cell? ⟨b, 1 + k, none⟩ = some (.bool (ru k)) := by
          rw [((unhide H).fr0 (unhide hs).1).cell _ (by omega)]
          unfold acF
          rw [if_neg (by omega), Nat.add_sub_cancel_left]
        have HS1 := hide (acL_succ true ru k)
        have hll := acL_len true ru k
        have hcb := hide (show ((UInt8.ofNat (48 + k)).toNat : Int) = 48 + k from by rw [UInt8.toNat_ofNat']; omega)
        cases hv : ru k
        · rw [hv] at d0
          have HN := hide (show acL true ru (k + 1) = acL true ru k from (unhide HS1).trans (by rw [hv]; simp))
          go_wp2
          go_roundw
          case rel => exact ⟨k + 1, by omega, by go_num, hide (by rw [unhide HN]; exact unhide hs)⟩
          case measure => simp [intOf]; omega
        · rw [hv] at d0
          have HN := hide (show acL true ru (k + 1) = acL true ru k ++ [UInt8.ofNat (48 + k)] from (unhide HS1).trans (by rw [hv]; rfl))
          go_wp2_with (at_builtin; refine wpList_append_lies _ rfl (.tmp 22) (.tmp 26) 44 rfl w.heap.size 5 i0 _ 1 1 Tryd.underlying44 hi0 hz0 hz1 hz2 rfl (by omega) u3 (acL true ru k).length (bv (acL true ru k)) rfl (by exact (unhide hs).2.alloc _) _ 1 1 [.int .u8 (48 + k)] rfl rfl (World.news_of_block (cs := #[.int .u8 (48 + k)]) (t := 5) (fr := (0, 0)) (heap_alloc_new _ _)) (by simp [Value.oneCell']) (by omega) (by unfold maxLen; omega) (by omega) (by have := (unhide hs).1.size; simp; omega) _ rfl ?_; intro g2 cap2 w2 hown2 hgrow2 hat2 hlt2; have HQ2 := hide (LsS.append (UInt8.ofNat (48 + k)) (unhide hs) (by rw [unhide hcb]; exact hown2) hgrow2); clear hown2 hgrow2 hat2 hlt2)
          go_roundw
          case rel => exact ⟨k + 1, by omega, by go_num, hide (by rw [unhide HN]; exact unhide HQ2)⟩
          case measure => simp [intOf]; omega
      · have HN := hide (show LsS w wr u3 (acL true ru 9) from by
          have := unhide hs
          rw [show k = 9 from by omega] at this; exact this)
        clear hs
        go_wp2_with (refine wpList_str_own rfl w.heap.size 44 9 5 (.tmp 28) rfl u3 (acL true ru 9) Tryd.underlying44 Tryd.underlying5 Tryd.underlying9 rfl (by exact (unhide HN).2) ?_)
        go_ret
        exact ⟨rfl, (unhide HN).1⟩

set_option maxHeartbeats 400000 in
/-- actSet.isClash -/
theorem p_isClash (b : Nat) (st : Bool) (ru : Nat → Bool) (w : World) (h : Blk w b 10 (acF st ru)) :
    Calls Tryd.prog 48 #[.pointer (some ⟨b, 0, none⟩)] w fun e w' => e = .returned (.bool (decide (1 < (acL st ru 9).length))) ∧ Fr [] w w' := by
  have H := hide h
  have hsz : (⟨(acL st ru 9).toArray⟩ : ByteArray).size = (acL st ru 9).length := rfl
  have hll := acL_len st ru 9
  obtain ⟨s, hs0⟩ : ∃ s : ByteArray, (⟨(acL st ru 9).toArray⟩ : ByteArray) = s := ⟨_, rfl⟩
  rw [hs0] at hsz
  have HS := hide hs0
  obtain ⟨n, hn⟩ : ∃ n, (acL st ru 9).length = n := ⟨_, rfl⟩
  rw [hn] at hsz hll ⊢
  clear h hs0 hn
  by_cases h1 : 1 < n
  all_goals
    go_enter Tryd.func48, Tryd.ntmps48
    go_wp2_with (go_at_call 27; refine (p_alist b st ru w (unhide H)).mono ?_; rintro e w1 ⟨rfl, hf1⟩; rw [unhide HS]; have HF1 := hide hf1; clear hf1)
    go_ret
    exact ⟨ret_bool (by rw [decide_eq_decide]; omega), unhide HF1⟩
end Go.Proofs.YtkglggkkbmmjkaaDoor

namespace Go.Proofs.YtkglggkkbmmjkaaDoor
open Go.RowKit

/-- the table cannot be made, and why -/
def TErr (t : ByteArray) (x : Nat) : Prop := ((gErr t).1 ≠ 0 ∧ x = (gErr t).1) ∨ ((gErr t).1 = 0 ∧ ∃ n S c, StatesR (plT t) n S c x)
/-- the table -/
def TGood (t : ByteArray) (S : List Sd) (c : Nat) : Prop := (gErr t).1 = 0 ∧ StatesR (plT t) S.length S c 0 ∧ S.length ≤ 40 ∧ c ≤ S.length
theorem TabOut.parts {t : ByteArray} {w w' : World} {f : Nat → Value} (h : TabOut t w w' f) : ∃ (x : Nat) (ao : Option Addr) (l cap : Nat), f 1361 = .int .i64 (x : Nat) ∧ f 1359 = .slice ao l cap ∧ (x ≠ 0 → TErr t x) ∧ (x = 0 → ∃ S c base, TGood t S c ∧ l = S.length ∧ (∀ i, i < 1362 → f i = tbF (plT t) (.slice ao l cap) c 0 i) ∧ GRow w' base 102 1268 (.slice ao l cap) S.length (rwF S)) := by
  by_cases h0 : (gErr t).1 = 0
  · obtain ⟨n, v, S, c, fl, base, h1, h2, h3, h4, h5, h6, h7⟩ := h.2.2.2 h0
    obtain ⟨ao, cap, hv⟩ : ∃ ao cap, v = .slice ao S.length cap := by
      obtain ⟨_, k2⟩ := h6
      rcases k2 with ⟨rfl, k2⟩ | ⟨g', cap', cur, rfl, _⟩
      · exact ⟨none, 0, by rw [k2]⟩
      · exact ⟨_, cap', rfl⟩
    subst hv
    refine ⟨fl, ao, S.length, cap, by rw [h1 1361 (by omega)]; rfl, by rw [h1 1359 (by omega)]; rfl, fun hx => Or.inr ⟨h0, n, S, c, h2⟩, fun hx => ?_⟩
    subst hx
    exact ⟨S, c, base, ⟨h0, h3 rfl ▸ h2, h4, h5⟩, rfl, h1, h6⟩
  · exact ⟨(gErr t).1, none, 0, 0, (h.2.2.1 h0).1, (h.2.2.1 h0).2, fun _ => Or.inl ⟨h0, rfl⟩, fun hx => absurd hx h0⟩
/-- the table, laid into a variable of the caller's -/
theorem TabOut.lay {t : ByteArray} {w1 w2 w3 : World} {f z : Nat → Value} {v : Value} {S : List Sd} {c base : Nat} (hf : ∀ i, i < 1362 → f i = tbF (plT t) v c 0 i) (hr : GRow w1 base 102 1268 v S.length (rwF S)) (hf2 : Fr [] w1 w2) (hf3 : Fr [w1.heap.size] w2 w3) (hB : Blk w3 w1.heap.size 1362 (lay z 0 1362 f)) : TbR w3 w1.heap.size base (plT t) v S c 0 :=
  ⟨hB.congr fun i hi => (lay_all _ _ _ i hi).trans (hf i hi), (hr.fr hf2 (by simp)).fr hf3 (fun g hg => by have := (hr.lt hg).2; simp; omega)⟩

end Go.Proofs.YtkglggkkbmmjkaaDoor
