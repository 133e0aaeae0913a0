import Derived.Test.YtkglggkkbmmjkaaGreatDoorG36PMix
namespace Go.Proofs.YtkglggkkbmmjkaaGreatDoor
open Go.RowKit

theorem AcS.fr0 {w wr w' : World} {tb base : Nat} {p : Pl} {v : Value} {S : List Sd} {cores fault : Nat} {f : Nat → Value} (h : AcS w wr tb base p v S cores fault f) (k : Fr [] wr w') : AcS w w' tb base p v S cores fault f :=
  ⟨h.1.trans0 k, h.2.1.fr0 k, h.2.2.1.fr0 k, h.2.2.2.fr0 k⟩
theorem AcS.far {w wr w' : World} {tb base x : Nat} {p : Pl} {v : Value} {S : List Sd} {cores fault : Nat} {f : Nat → Value} (h : AcS w wr tb base p v S cores fault f) (k : Fr [x] wr w') (hx : w.heap.size + 1 < x) (hb : tb < w.heap.size) (hv : ∀ y, v.ownBlock = some y → y < w.heap.size) : AcS w w' tb base p v S cores fault f :=
  ⟨h.1.trans1 k (Or.inr (by omega)), h.2.1.far k (by omega) (fun e => by have := hv _ e; omega), h.2.2.1.fr1 k (by omega), h.2.2.2.fr1 k (by omega)⟩
theorem AcS.acc {w wr w' : World} {tb base : Nat} {p : Pl} {v : Value} {S : List Sd} {cores fault : Nat} {f g : Nat → Value} (h : AcS w wr tb base p v S cores fault f) (k : Fr [w.heap.size + 1] wr w') (hB : Blk w' (w.heap.size + 1) 10 g) (hb : tb < w.heap.size) (hv : ∀ y, v.ownBlock = some y → y < w.heap.size) : AcS w w' tb base p v S cores fault g :=
  ⟨h.1.trans1 k (Or.inr (by omega)), h.2.1.far k (by omega) (fun e => by have := hv _ e; omega), h.2.2.1.fr1 k (by omega), hB⟩

end Go.Proofs.YtkglggkkbmmjkaaGreatDoor

namespace Go.Proofs.YtkglggkkbmmjkaaGreatDoor
open Go.RowKit

def clK (p : Pl) (S : List Sd) (k i : Nat) : Bool := decide (1 < (acL (stepTo S k (sgn i) != -1) (ruS p (sget S k).A (sgn i)) 9).length)
def anyC (f : Nat → Nat → Bool) (m : Nat) : Bool := (List.range m).any fun k => (List.range 27).any fun i => f k i
theorem anyC_true {f : Nat → Nat → Bool} {m k i : Nat} (hk : k < m) (hi : i < 27) (h : f k i = true) : anyC f m = true := by
  unfold anyC
  rw [List.any_eq_true]
  exact ⟨k, List.mem_range.2 hk, List.any_eq_true.2 ⟨i, List.mem_range.2 hi, h⟩⟩
theorem anyC_false {f : Nat → Nat → Bool} {m : Nat} (h : ∀ k, k < m → ∀ i, i < 27 → f k i = false) : anyC f m = false := by
  cases e : anyC f m
  · rfl
  · unfold anyC at e
    rw [List.any_eq_true] at e
    obtain ⟨k, hk, e⟩ := e
    rw [List.any_eq_true] at e
    obtain ⟨i, hi, e⟩ := e
    rw [h k (List.mem_range.1 hk) i (List.mem_range.1 hi)] at e; cases e

set_option maxRecDepth 100000 in
set_option maxHeartbeats 2000000 in
theorem p_statesClash (tb base : Nat) (p : Pl) (v : Value) (S : List Sd) (cores fault : Nat) (w : World) (h : TbR w tb base p v S cores fault) (hS : S.length ≤ 50) :
    Calls Tryz.prog 96 #[.pointer (some ⟨tb, 0, none⟩)] w fun e w' => e = .returned (.bool (anyC (clK p S) S.length)) ∧ Fr [] w w' := by
  obtain ⟨ao, cap, hv, _⟩ := h.form
  subst hv
  have H := hide h
  clear h
  go_enter Tryz.func96, Tryz.ntmps96
  go_wp2
  go_loopw [3] (fun iv wr => ∃ k : Nat, k ≤ S.length ∧ iv = .int .i64 k ∧ Hid (∀ j, j < k → ∀ i, i < 27 → clK p S j i = false) ∧ Hid (Fr [] w wr)) (fun iv _ => S.length - (intOf iv).toNat)
  case atStart => exact ⟨0, by omega, rfl, fun j hj => by omega, Fr.refl _ _⟩
  case round =>
    obtain ⟨k, hk, rfl, hm, hs⟩ := hrel
    have q0 := ((zaa H).fr0 (zaa hs)).v
    by_cases hlt : k < S.length
    · have hki : (k : Int) < S.length := by omega
      go_wp2
      clear q0
      go_loopw [4] (fun iv wr => ∃ i : Nat, i ≤ 27 ∧ iv = .int .i64 i ∧ Hid (∀ j, j < i → clK p S k j = false) ∧ Hid (Fr [] w wr)) (fun iv _ => 27 - (intOf iv).toNat)
      case atStart => exact ⟨0, by omega, rfl, (fun j hj => by omega), hs⟩
      case round =>
        clear hs
        obtain ⟨i, hi, rfl, hmi, hs⟩ := hrel
        by_cases hit : i < 27
        · have HT := hide ((zaa H).fr0 (zaa hs))
          have hsig := sigB_sgn hit
          obtain ⟨c, hc⟩ : ∃ c, sgn i = c := ⟨_, rfl⟩
          have HCC := hide hc
          rw [hc] at hsig
          have HSG := hide hsig
          clear hc hsig
          cases hcl : clK p S k i
          · have HN := hide (show ∀ j, j < i + 1 → clK p S k j = false from fun j hj => by
              by_cases e : j = i
              · subst e; exact hcl
              · exact zaa hmi j (by omega))
            have HCL := hide hcl
            clear hcl
            go_wp2_with (first
              | (go_at_call 106; refine (p_signAt i wr hit).mono ?_; rintro e w' ⟨rfl, hw'⟩; rw [hw', zaa HCC])
              | (go_at_call 85; refine (p_acts tb base k c p _ S cores fault wr (by exact zaa HT) hlt (zaa HSG)).mono ?_; rintro e w3 ⟨rfl, hf3⟩; have HF3 := hide ((zaa hs).trans0 hf3); clear hf3)
              | (refine zab rfl 135 rfl (some 5) rfl 10 _ Tryz.zeroActs ?_; intro w4 hf4 hs4 hB4; have HF4 := hide ((zaa HF3).trans0 hf4); have HB4 := hide hB4; clear hf4 hB4)
              | (refine zac rfl 135 (.tmp 5) (.tmp 23) rfl w3.heap.size 0 10 10 (acF false fun _ => false) (acF _ _) rfl rfl (by exact zaa HB4) Tryz.sizeActs (by omega) (oneB_acF _ _ 10) ?_; intro w5 hf5 hs5 hB5; have HF5 := hide ((zaa HF4).trans1 hf5 (Or.inr (zaa HF3).size)); have HB5 := hide (hB5.congr fun i hi => zak _ _ _ i hi); clear hf5 hB5)
              | (go_at_call 130; refine (p_isClash w3.heap.size _ _ w5 (by exact zaa HB5)).mono ?_; rintro e w6 ⟨rfl, hf6⟩; have hx := zaa HCL; unfold clK at hx; rw [zaa HCC] at hx; rw [hx]; have HF6 := hide ((zaa HF5).trans0 hf6); clear hf6 hx))
            go_roundw
            case rel => exact ⟨i + 1, by omega, by go_num, HN, HF6⟩
            case measure => simp [intOf]; omega
          · have HN := hide (anyC_true (f := clK p S) hlt hit hcl)
            have HCL := hide hcl
            clear hcl
            go_wp2_with (first
              | (go_at_call 106; refine (p_signAt i wr hit).mono ?_; rintro e w' ⟨rfl, hw'⟩; rw [hw', zaa HCC])
              | (go_at_call 85; refine (p_acts tb base k c p _ S cores fault wr (by exact zaa HT) hlt (zaa HSG)).mono ?_; rintro e w3 ⟨rfl, hf3⟩; have HF3 := hide ((zaa hs).trans0 hf3); clear hf3)
              | (refine zab rfl 135 rfl (some 5) rfl 10 _ Tryz.zeroActs ?_; intro w4 hf4 hs4 hB4; have HF4 := hide ((zaa HF3).trans0 hf4); have HB4 := hide hB4; clear hf4 hB4)
              | (refine zac rfl 135 (.tmp 5) (.tmp 23) rfl w3.heap.size 0 10 10 (acF false fun _ => false) (acF _ _) rfl rfl (by exact zaa HB4) Tryz.sizeActs (by omega) (oneB_acF _ _ 10) ?_; intro w5 hf5 hs5 hB5; have HF5 := hide ((zaa HF4).trans1 hf5 (Or.inr (zaa HF3).size)); have HB5 := hide (hB5.congr fun i hi => zak _ _ _ i hi); clear hf5 hB5)
              | (go_at_call 130; refine (p_isClash w3.heap.size _ _ w5 (by exact zaa HB5)).mono ?_; rintro e w6 ⟨rfl, hf6⟩; have hx := zaa HCL; unfold clK at hx; rw [zaa HCC] at hx; rw [hx]; have HF6 := hide ((zaa HF5).trans0 hf6); clear hf6 hx))
            go_ret
            exact ⟨zao (zaa HN).symm, zaa HF6⟩
        · have HN := hide (show ∀ j, j < k + 1 → ∀ i, i < 27 → clK p S j i = false from fun j hj i2 hi2 => by
            by_cases e : j = k
            · subst e; exact zaa hmi i2 (by omega)
            · exact zaa hm j (by omega) i2 hi2)
          go_wp2
          go_roundw
          case rel => exact ⟨k + 1, by omega, by go_num, HN, hs⟩
          case measure => simp [intOf]; omega
    · have HN := hide (anyC_false (f := clK p S) (m := S.length) (fun j hj => zaa hm j (by omega)))
      go_wp2
      go_ret
      exact ⟨zao (zaa HN).symm, zaa hs⟩

end Go.Proofs.YtkglggkkbmmjkaaGreatDoor

namespace Go.Proofs.YtkglggkkbmmjkaaGreatDoor
open Go.RowKit

end Go.Proofs.YtkglggkkbmmjkaaGreatDoor
