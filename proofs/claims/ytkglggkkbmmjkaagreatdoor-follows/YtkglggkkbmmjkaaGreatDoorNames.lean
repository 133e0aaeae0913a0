import Derived.Test.YtkglggkkbmmjkaaGreatDoorDead
import Derived.Deep.RegionHeld3
import Derived.Deep.QuietTactic
namespace Go.Proofs.YtkglggkkbmmjkaaGreatDoor
open Go.RowKit

def nm (S : Nat → Bool) (r : Ru) (j : Nat) : Bool := bigB (ch r.R j) && !hasB S (ch r.R j)
def firstIn (S : Nat → Bool) (r : Ru) : Option Nat := (List.range r.R.size).find? (nm S r)
def names (S : Nat → Bool) : List Ru → Option Nat
  | [] => none
  | r :: l => match firstIn S r with
    | some j => some (r.A + 2 + j)
    | none => names S l

theorem find_range (p : Nat → Bool) : ∀ n, (∀ i, i < n → p i = false) → (List.range n).find? p = none := fun n h => by
  rw [List.find?_eq_none]; intro x hx; simpa using h x (by simpa using hx)
theorem find_range_some (p : Nat → Bool) (n j : Nat) (hj : j < n) (h : ∀ i, i < j → p i = false) (hp : p j = true) : (List.range n).find? p = some j := by
  rw [List.find?_range_eq_some]
  exact ⟨hp, by simpa using hj, fun i hi => by simp [h i hi]⟩
theorem names_hit (S : Nat → Bool) (r : Ru) (l : List Ru) (j : Nat) (hj : j < r.R.size) (h : ∀ i, i < j → nm S r i = false) (hp : nm S r j = true) : names S (r :: l) = some (r.A + 2 + j) := by
  rw [names, firstIn, find_range_some _ _ _ hj h hp]
theorem names_miss (S : Nat → Bool) (r : Ru) (l : List Ru) (h : ∀ i, i < r.R.size → nm S r i = false) : names S (r :: l) = names S l := by
  rw [names, firstIn, find_range _ _ h]

def ruF (r : Ru) : Nat → Value := fun i => if i = 0 then .int .u8 r.L else if i = 1 then .string r.R else .int .i64 r.A
theorem Blk.newRu (w : World) (r : Ru) (T : TypeId) : Blk (w.alloc (.cells #[.int .u8 r.L, .string r.R, .int .i64 r.A] T)) w.heap.size 3 (ruF r) :=
  Blk.newArr w _ T 3 (ruF r) rfl (fun i h => by
    match i, h with
    | 0, _ => rfl
    | 1, _ => rfl
    | 2, _ => rfl)

theorem gF_ruled {v : Value} {st : Nat} {R N : Nat → Bool} {F : Nat → Nat → Bool} {e p : Int} (k : Nat) (hk : k < 26) : gF v st R N F e p (2 + k) = .bool (R (65 + k)) := by
  unfold gF
  rw [if_neg (by omega), if_neg (by omega), if_pos (by omega), show 2 + k - 2 = k from by omega]
theorem GAt.ruled {w : World} {b q cap : Nat} {rs : List Ru} {N : Nat → Bool} {F : Nat → Nat → Bool} {e p : Int} (h : GAt w b q cap rs N F e p) : SetAt w b 2 (rset rs) := fun k hk => by
  rw [h.blk.cell (2 + k) (by omega), gF_ruled k hk]

theorem SetAt.drew {w : World} {b off : Nat} {S : Nat → Bool} (h : SetAt w b off S) : SetAt w.drew b off S := h

theorem p_isBig_is (c : Nat) (v : Bool) (w : World) (h : bigB c = v) : Calls Tryz.prog 74 #[.int .u8 c] w fun e w' => e = .returned (.bool v) ∧ w' = w := by
  subst h; exact p_isBig c w

theorem fr_drewN (w : World) (n : Nat) : Fr [] w (w.drewN n) := ⟨rfl, rfl, rfl, Nat.le_refl _, fun _ _ _ => rfl⟩
theorem p_has_is (b off c : Nat) (S : Nat → Bool) (v : Bool) (w : World) (hc : SetAt w b off S) (h : hasB S c = v) :
    Calls Tryz.prog 110 #[.pointer (some ⟨b, off, none⟩), .int .u8 c] w fun e w' => e = .returned (.bool v) ∧ w' = w := by
  subst h; exact p_has b off c S w hc
theorem nm_lt (S : Nat → Bool) (r : Ru) (k : Nat) (v : Bool) (h : ∀ i, i < k → nm S r i = v) (hk : nm S r k = v) : ∀ i, i < k + 1 → nm S r i = v := fun i hi => by
  by_cases e : i = k
  · subst e; exact hk
  · exact h i (by omega)

/-- the state of checkNames, in a rule -/
def NS (w wr : World) (b q cap : Nat) (rs : List Ru) (N : Nat → Bool) (F : Nat → Nat → Bool) : Prop :=
  Fr [] w wr ∧ GAt wr b q cap rs N F 0 0
theorem NS.fr {w wr wr' : World} {b q cap : Nat} {rs : List Ru} {N : Nat → Bool} {F : Nat → Nat → Bool} (h : NS w wr b q cap rs N F) (k : Fr [] wr wr') : NS w wr' b q cap rs N F := ⟨h.1.trans0 k, h.2.fr0 k⟩

set_option maxHeartbeats 1000000 in
theorem p_checkNames (b q cap : Nat) (rs : List Ru) (N : Nat → Bool) (F : Nat → Nat → Bool) (w : World) (h : GAt w b q cap rs N F 0 0) :
    Calls Tryz.prog 57 #[.pointer (some ⟨b, 0, none⟩)] w fun e' w' => e' = .returned (.tuple #[]) ∧ Fr [b] w w' ∧ GAt w' b q cap rs N F (errOf (names (rset rs) rs) 3) (plOf (names (rset rs) rs)) := by
  have H := hide (show NS w w b q cap rs N F from ⟨Fr.refl _ _, h⟩)
  have hlen := h.len
  clear h
  go_enter Tryz.func57, Tryz.ntmps57
  go_wp2
  go_loopw [2] (fun i wr => ∃ j : Nat, j ≤ rs.length ∧ i = .int .i64 j ∧ Hid (names (rset rs) rs = names (rset rs) (rs.drop j)) ∧ Hid (NS w wr b q cap rs N F)) (fun i _ => rs.length - (intOf i).toNat)
  case atStart => exact ⟨0, by omega, rfl, rfl, H⟩
  case round =>
    obtain ⟨j, hj, rfl, hd, hs⟩ := hrel
    have c0 := (unhide hs).2.c0
    by_cases hlt : j < rs.length
    · obtain ⟨a0, a1, a2⟩ := (unhide hs).2.ru j hlt
      have hsm := (unhide hs).2.small j hlt
      have HX := hide ((unhide hs).fr ((Fr.refl _ _).alloc (.cells #[.int .u8 rs[j].L, .string rs[j].R, .int .i64 rs[j].A] 166)))
      have HR := hide (Blk.newRu wr rs[j] 166)
      have HU := hide ((unhide hd).trans (by rw [drop_cons' rs j hlt]))
      clear hd
      go_wp2
      clear c0 a0 a1 a2 hs
      obtain ⟨rb, hrb⟩ : ∃ rb, wr.heap.size = rb := ⟨_, rfl⟩
      rw [hrb] at HR ⊢
      clear hrb
      go_loopw [4] (fun i w2 => ∃ k : Nat, k ≤ rs[j].R.size ∧ i = .int .i64 k ∧ Hid (∀ i, i < k → nm (rset rs) rs[j] i = false) ∧ Hid (NS w w2 b q cap rs N F) ∧ Hid (Blk w2 rb 3 (ruF rs[j]))) (fun i _ => rs[j].R.size - (intOf i).toNat)
      case atStart => exact ⟨0, by omega, rfl, fun i hi => by omega, HX, HR⟩
      case round =>
        obtain ⟨k, hk, rfl, hd, hs, hr⟩ := hrel
        have b1 : wr.cell? ⟨rb, 1, none⟩ = some (.string rs[j].R) := (unhide hr).cell 1 (by omega)
        by_cases hkt : k < rs[j].R.size
        · have hch := hide (ch_eq rs[j].R k hkt)
          have HSet := hide (unhide hs).2.ruled
          clear HX HR
          cases h1 : bigB rs[j].R[k].toNat
          · have HM := hide (nm_lt (rset rs) rs[j] k false (unhide hd) (by unfold nm; rw [unhide hch, h1]; rfl))
            go_wp2
            go_quiet ((go_at_call 74; exact Calls.quiet_of_same (p_isBig_is _ false _ h1)))
            go_wp2
            go_roundw
            case rel => exact ⟨k + 1, by omega, by go_num, HM, (unhide hs).fr (fr_drewN _ _), (unhide hr).fr0 (fr_drewN _ _)⟩
            case measure => simp [intOf]; omega
          · cases h2 : hasB (rset rs) rs[j].R[k].toNat
            · have HN := hide ((unhide HU).trans (names_hit (rset rs) rs[j] _ k hkt (unhide hd) (by unfold nm; rw [unhide hch, h1, h2]; rfl)))
              have HR2 := hide (show wr.cell? ⟨rb, 2, none⟩ = some (.int .i64 rs[j].A) from (unhide hr).cell 2 (by omega))
              go_wp2
              go_quiet ((first | (go_at_call 74; exact Calls.quiet_of_same (p_isBig_is _ true _ h1)) | (go_at_call 110; exact Calls.quiet_of_same (p_has_is _ _ _ _ false _ (by exact unhide HSet) h2))))
              go_wp2_with (first | (go_at_call 111; refine (p_rightPlace rb rs[j].A _ (by omega) (by exact unhide HR2)).mono ?_; rintro e w' ⟨rfl, rfl⟩) | (go_at_call 55; refine (p_refuse b _ _ _ _ (by exact (unhide hs).2.blk.fr0 (fr_drewN _ _))).mono ?_; rintro e w7 ⟨rfl, hf7⟩))
              refine bodyPost_ret (v := .tuple #[]) (results_none Tryz.results57 _ _ _) rfl ⟨rfl, (Fr.weak ((unhide hs).1.trans0 (fr_drewN _ nq)) (by simp)).trans hf7.1 (by simp), ?_⟩
              rw [unhide HN]
              have := ((unhide hs).2.fr0 (fr_drewN _ nq)).refused hf7.1 hf7.2.2
              simpa [errOf, plOf] using this
            · have HM := hide (nm_lt (rset rs) rs[j] k false (unhide hd) (by unfold nm; rw [unhide hch, h1, h2]; rfl))
              go_wp2
              go_quiet ((first | (go_at_call 74; exact Calls.quiet_of_same (p_isBig_is _ true _ h1)) | (go_at_call 110; exact Calls.quiet_of_same (p_has_is _ _ _ _ true _ (by exact unhide HSet) h2))))
              go_wp2
              go_roundw
              case rel => exact ⟨k + 1, by omega, by go_num, HM, (unhide hs).fr (fr_drewN _ _), (unhide hr).fr0 (fr_drewN _ _)⟩
              case measure => simp [intOf]; omega
        · have HN := hide ((unhide HU).trans (names_miss (rset rs) rs[j] _ (fun i hi => unhide hd i (by omega))))
          clear HU hd
          go_wp2
          go_roundw
          case rel => exact ⟨j + 1, by omega, by go_num, HN, hs⟩
          case measure => simp [intOf]; omega
    · have HN := hide ((unhide hd).trans (by rw [List.drop_of_length_le (by omega), names]))
      clear hd
      go_wp2
      go_end0
      refine ⟨rfl, Fr.weak (unhide hs).1 (by simp), ?_⟩
      rw [unhide HN]; exact (unhide hs).2

end Go.Proofs.YtkglggkkbmmjkaaGreatDoor
