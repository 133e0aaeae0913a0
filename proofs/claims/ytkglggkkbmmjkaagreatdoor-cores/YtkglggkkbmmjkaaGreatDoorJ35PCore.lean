import Derived.Test.YtkglggkkbmmjkaaGreatDoorJ30POpen
import Derived.Test.YtkglggkkbmmjkaaGreatDoorJ34PPlan
namespace Go.Proofs.YtkglggkkbmmjkaaGreatDoor
open Go.RowKit

/-- a table's cells -/
def tbF (p : Pl) (v : Value) (cores fault : Nat) : Nat → Value := fun i => if i < 1359 then plF p i else if i = 1359 then v else if i = 1360 then .int .i64 (cores : Nat) else .int .i64 (fault : Nat)
/-- a table lies in memory; its states in a block from base on -/
structure TbAt (w : World) (tb base : Nat) (p : Pl) (v : Value) (S : List Sd) (cores fault : Nat) : Prop where
  blk : Blk w tb 1362 (tbF p v cores fault)
  row : GRow w base 147 1268 v S.length (rwF S)
  lt : tb < base
theorem TbAt.v {w : World} {tb base : Nat} {p : Pl} {v : Value} {S : List Sd} {cores fault : Nat} (h : TbAt w tb base p v S cores fault) : w.cell? ⟨tb, 1359, none⟩ = some v := h.blk.cell 1359 (by omega)
theorem TbAt.cores {w : World} {tb base : Nat} {p : Pl} {v : Value} {S : List Sd} {cores fault : Nat} (h : TbAt w tb base p v S cores fault) : w.cell? ⟨tb, 1360, none⟩ = some (.int .i64 (cores : Nat)) := h.blk.cell 1360 (by omega)
theorem TbAt.fault {w : World} {tb base : Nat} {p : Pl} {v : Value} {S : List Sd} {cores fault : Nat} (h : TbAt w tb base p v S cores fault) : w.cell? ⟨tb, 1361, none⟩ = some (.int .i64 (fault : Nat)) := h.blk.cell 1361 (by omega)
theorem TbAt.plan {w : World} {tb base : Nat} {p : Pl} {v : Value} {S : List Sd} {cores fault : Nat} (h : TbAt w tb base p v S cores fault) : PlAt w tb p := fun i hi => by
  rw [Nat.zero_add, h.blk.cell i (by omega)]
  unfold tbF; rw [if_pos hi]
theorem TbAt.fr {X : List Nat} {w w' : World} {tb base : Nat} {p : Pl} {v : Value} {S : List Sd} {cores fault : Nat} (h : TbAt w tb base p v S cores fault) (k : Fr X w w') (hb : tb ∉ X) (hv : ∀ g, v.ownBlock = some g → g ∉ X) : TbAt w' tb base p v S cores fault :=
  ⟨h.blk.fr k hb, h.row.fr k hv, h.lt⟩
theorem TbAt.fr0 {w w' : World} {tb base : Nat} {p : Pl} {v : Value} {S : List Sd} {cores fault : Nat} (h : TbAt w tb base p v S cores fault) (k : Fr [] w w') : TbAt w' tb base p v S cores fault := h.fr k (by simp) (by simp)
/-- the items of a state -/
theorem TbAt.items {w : World} {tb base g n cap : Nat} {p : Pl} {S : List Sd} {cores fault : Nat} (h : TbAt w tb base p (.slice (some ⟨g, 0, none⟩) n cap) S cores fault) (i : Nat) (hi : i < S.length) : CsAt w g (i * 1268) 1215 (boolF (sget S i).A) := fun j hj => by
  have := h.row.cs i hi j (by omega)
  dsimp only at this
  rw [this, rwF_at _ _ _ (by omega), stF_A _ _ hj]; rfl
theorem TbAt.core {w : World} {tb base g n cap : Nat} {p : Pl} {S : List Sd} {cores fault : Nat} (h : TbAt w tb base p (.slice (some ⟨g, 0, none⟩) n cap) S cores fault) (i : Nat) (hi : i < S.length) : w.cell? ⟨g, i * 1268 + 1267, none⟩ = some (.int .i64 ((sget S i).core : Nat)) := by
  have := h.row.cs i hi 1267 (by omega)
  dsimp only at this
  rw [this, rwF_at _ _ _ (by omega)]; rfl

/-- the same rules and places -/
def smC (A B : Nat → Bool) (lim : Nat) : Bool := (List.range lim).all fun q => (empB fun k => A (q * 27 + k)) == (empB fun k => B (q * 27 + k))
theorem smC_succ (A B : Nat → Bool) (q : Nat) : smC A B (q + 1) = (smC A B q && ((empB fun k => A (q * 27 + k)) == (empB fun k => B (q * 27 + k)))) := by
  unfold smC
  rw [List.range_succ, List.all_append]; simp
theorem smC_mono {A B : Nat → Bool} {q r : Nat} (h : q ≤ r) (hs : smC A B q = false) : smC A B r = false := by
  cases e : smC A B r
  · rfl
  · have : smC A B q = true := by
      unfold smC at *
      rw [List.all_eq_true] at e ⊢
      intro x hx
      exact e x (List.mem_range.2 (by have := List.mem_range.1 hx; omega))
    rw [this] at hs; cases hs

set_option maxRecDepth 100000 in
set_option maxHeartbeats 1600000 in
/-- itemSet.sameCore -/
theorem p_sameCore (b o c : Nat) (A B : Nat → Bool) (w : World) (hA : CsAt w b o 1215 (boolF A)) (hB : CsAt w c 0 1215 (boolF B)) (lb : b < w.heap.size) (lc : c < w.heap.size) :
    Calls Tryz.prog 155 #[.pointer (some ⟨b, o, none⟩), .pointer (some ⟨c, 0, none⟩)] w fun e w' => e = .returned (.bool (smC A B 45)) ∧ Fr [] w w' := by
  have HA := hide hA
  have HB := hide hB
  clear hA hB
  go_enter Tryz.func155, Tryz.ntmps155
  go_wp2
  go_loopw [5] (fun i wr => ∃ n : Nat, n ≤ 9 ∧ i = .int .i64 n ∧ Hid (smC A B (n * 5) = true) ∧ Hid (Fr [] w wr)) (fun i _ => 9 - (intOf i).toNat)
  case atStart => exact ⟨0, by omega, rfl, rfl, Fr.refl _ _⟩
  case round =>
    obtain ⟨n, hn, rfl, hm0, hs⟩ := hrel
    by_cases hlt : n < 9
    · have hn9 : (n : Int) < 9 := by omega
      go_wp2
      go_loopw [6] (fun i wr => ∃ t : Nat, t ≤ 5 ∧ i = .int .i64 t ∧ Hid (smC A B (n * 5 + t) = true) ∧ Hid (Fr [] w wr)) (fun i _ => 5 - (intOf i).toNat)
      case atStart => exact ⟨0, by omega, rfl, hm0, hs⟩
      case round =>
        clear hs hm0
        obtain ⟨t, ht, rfl, hm, hs⟩ := hrel
        by_cases htt : t < 5
        · have HX := hide (smC_succ A B (n * 5 + t))
          rw [show (n * 5 + t) * 27 = n * 135 + t * 27 from by omega] at HX
          have HAc := hide (show CsAt wr b (o + n * 135 + t * 27) 27 (boolF fun k => A (n * 135 + t * 27 + k)) from by
            have := ((unhide HA).fr (unhide hs) (by simp) lb).sub (n * 135 + t * 27) 27 (by omega)
            rw [← Nat.add_assoc] at this; exact this)
          have lbr := Nat.lt_of_lt_of_le lb (unhide hs).size
          have HBc : ∀ w5, Fr [] w w5 → CsAt w5 c (n * 135 + t * 27) 27 (boolF fun k => B (n * 135 + t * 27 + k)) := fun w5 hf => by
            have := ((unhide HB).fr hf (by simp) lc).sub (n * 135 + t * 27) 27 (by omega)
            rw [Nat.zero_add] at this; exact this
          cases hea : (empB fun k => A (n * 135 + t * 27 + k)) <;> cases heb : (empB fun k => B (n * 135 + t * 27 + k))
          all_goals
            rw [hea, heb] at HX
            go_wp2_with (first
              | (have h5 := unhide H5; go_at_call 156; refine (p_isEmpty c _ (fun k => B (n * 135 + t * 27 + k)) w5 (by exact HBc _ h5) (Nat.lt_of_lt_of_le lc h5.size)).mono ?_; rintro e w6 ⟨rfl, hf6⟩; rw [heb]; have H6 := hide (h5.trans0 hf6); clear hf6 h5)
              | (go_at_call 156; refine (p_isEmpty b _ (fun k => A (n * 135 + t * 27 + k)) wr (by exact unhide HAc) lbr).mono ?_; rintro e w5 ⟨rfl, hf5⟩; rw [hea]; have H5 := hide ((unhide hs).trans0 hf5); clear hf5))
          · have HN := hide (show smC A B (n * 5 + (t + 1)) = true from (unhide HX).trans (by rw [unhide hm]; rfl))
            go_roundw
            case rel => exact ⟨t + 1, by omega, by go_num, HN, H6⟩
            case measure => simp [intOf]; omega
          · have HN := hide (show smC A B 45 = false from smC_mono (by omega) ((unhide HX).trans (by simp)))
            go_ret
            exact ⟨ret_bool (unhide HN).symm, unhide H6⟩
          · have HN := hide (show smC A B 45 = false from smC_mono (by omega) ((unhide HX).trans (by simp)))
            go_ret
            exact ⟨ret_bool (unhide HN).symm, unhide H6⟩
          · have HN := hide (show smC A B (n * 5 + (t + 1)) = true from (unhide HX).trans (by rw [unhide hm]; rfl))
            go_roundw
            case rel => exact ⟨t + 1, by omega, by go_num, HN, H6⟩
            case measure => simp [intOf]; omega
        · have HN := hide (show smC A B ((n + 1) * 5) = true from by
            have e : t = 5 := by omega
            subst e; rw [Nat.add_mul]; exact unhide hm)
          go_wp2
          go_roundw
          case rel => exact ⟨n + 1, by omega, by go_num, HN, hs⟩
          case measure => simp [intOf]; omega
    · have HN := hide (show smC A B 45 = true from by
        have e : n = 9 := by omega
        subst e; exact unhide hm0)
      go_wp2
      go_ret
      exact ⟨ret_bool (unhide HN).symm, unhide hs⟩
end Go.Proofs.YtkglggkkbmmjkaaGreatDoor

namespace Go.Proofs.YtkglggkkbmmjkaaGreatDoor
open Go.RowKit

theorem TbAt.form {w : World} {tb base : Nat} {p : Pl} {v : Value} {S : List Sd} {cores fault : Nat} (h : TbAt w tb base p v S cores fault) : ∃ ao cap, v = .slice ao S.length cap ∧ (0 < S.length → ∃ g, ao = some ⟨g, 0, none⟩ ∧ v.ownBlock = some g) := by
  obtain ⟨h1, h2⟩ := h.row
  rcases h2 with ⟨rfl, h2⟩ | ⟨g', cap', cur, rfl, _⟩
  · exact ⟨none, 0, by rw [h2], fun hn => by omega⟩
  · exact ⟨_, cap', rfl, fun _ => ⟨g', rfl, rfl⟩⟩

/-- the core of these items: that of the first state with the same one, or the next -/
def corM (S : List Sd) (B : Nat → Bool) (cores : Nat) : Nat := match S.find? fun s => smC s.A B 45 with
  | some s => s.core
  | none => cores
theorem sget_eq (S : List Sd) (i : Nat) (h : i < S.length) : sget S i = S[i] := by simp [sget, h]
theorem corM_some {S : List Sd} {B : Nat → Bool} {cores i : Nat} (hi : i < S.length) (h : smC (sget S i).A B 45 = true) (hb : ∀ j, j < i → smC (sget S j).A B 45 = false) : corM S B cores = (sget S i).core := by
  unfold corM
  have : S.find? (fun s => smC s.A B 45) = some (sget S i) := by
    rw [sget_eq S i hi] at *
    rw [List.find?_eq_some_iff_getElem]
    exact ⟨h, i, hi, rfl, fun j hj => by have := hb j hj; rw [sget_eq S j (by omega)] at this; simp [this]⟩
  rw [this]
theorem corM_none {S : List Sd} {B : Nat → Bool} {cores : Nat} (hb : ∀ j, j < S.length → smC (sget S j).A B 45 = false) : corM S B cores = cores := by
  unfold corM
  have : S.find? (fun s => smC s.A B 45) = none := by
    rw [List.find?_eq_none]
    intro s hs
    obtain ⟨j, hj, rfl⟩ := List.getElem_of_mem hs
    have := hb j hj
    rw [sget_eq S j hj] at this
    simp [this]
  rw [this]

set_option maxRecDepth 100000 in
set_option maxHeartbeats 1600000 in
/-- table.coreOf -/
theorem p_coreOf (tb base ib : Nat) (p : Pl) (v : Value) (S : List Sd) (cores fault : Nat) (B : Nat → Bool) (w : World) (h : TbAt w tb base p v S cores fault) (hB : Blk w ib 1215 (boolF B)) (hS : S.length ≤ 50) :
    Calls Tryz.prog 148 #[.pointer (some ⟨tb, 0, none⟩), .pointer (some ⟨ib, 0, none⟩)] w fun e w' => e = .returned (.int .i64 (corM S B cores : Nat)) ∧ Fr [] w w' := by
  obtain ⟨ao, cap, rfl, hao⟩ := h.form
  have H := hide h
  have HB := hide hB
  have lb := h.blk.lt
  have li := hB.lt
  clear h hB
  go_enter Tryz.func148, Tryz.ntmps148
  go_wp2
  go_loopw [5] (fun i wr => ∃ n : Nat, n ≤ S.length ∧ i = .int .i64 n ∧ Hid (∀ j, j < n → smC (sget S j).A B 45 = false) ∧ Hid (Fr [] w wr)) (fun i _ => S.length - (intOf i).toNat)
  case atStart => exact ⟨0, by omega, rfl, fun j hj => by omega, Fr.refl _ _⟩
  case round =>
    obtain ⟨n, hn, rfl, hm, hs⟩ := hrel
    have HT := hide ((unhide H).fr0 (unhide hs))
    have c0 := (unhide HT).v
    have c1 := (unhide HT).cores
    by_cases hlt : n < S.length
    · obtain ⟨g, rfl, _⟩ := hao (by omega)
      have HI := hide ((unhide HT).items n hlt)
      have HBr := hide (show CsAt wr ib 0 1215 (boolF B) from fun i hi => by rw [Nat.zero_add]; exact ((unhide HB).fr0 (unhide hs)).cell i hi)
      have lg : g < wr.heap.size := ((unhide HT).row.lt rfl).2
      have lir := Nat.lt_of_lt_of_le li (unhide hs).size
      cases he : smC (sget S n).A B 45
      · have HN := hide (show ∀ j, j < n + 1 → smC (sget S j).A B 45 = false from fun j hj => by
          by_cases e : j = n
          · subst e; exact he
          · exact unhide hm j (by omega))
        go_wp2_with (go_at_call 155; refine (p_sameCore g (n * 1268) ib (sget S n).A B wr (by exact unhide HI) (by exact unhide HBr) lg lir).mono ?_; rintro e w5 ⟨rfl, hf5⟩; rw [he]; have H5 := hide ((unhide hs).trans0 hf5); clear hf5)
        go_roundw
        case rel => exact ⟨n + 1, by omega, by go_num, HN, H5⟩
        case measure => simp [intOf]; omega
      · have HN := hide (corM_some (cores := cores) hlt he (unhide hm))
        go_wp2_with (go_at_call 155; refine (p_sameCore g (n * 1268) ib (sget S n).A B wr (by exact unhide HI) (by exact unhide HBr) lg lir).mono ?_; rintro e w5 ⟨rfl, hf5⟩; rw [he]; have H5 := hide ((unhide hs).trans0 hf5); have d0 := ((unhide HT).fr0 hf5).v; have d1 := ((unhide HT).fr0 hf5).core n hlt; clear hf5)
        go_ret
        exact ⟨ret_int (by rw [unhide HN]), unhide H5⟩
    · have HN := hide (corM_none (cores := cores) (S := S) (B := B) (fun j hj => unhide hm j (by omega)))
      go_wp2
      go_ret
      exact ⟨ret_int (by rw [unhide HN]), unhide hs⟩
end Go.Proofs.YtkglggkkbmmjkaaGreatDoor
