import Derived.Test.YtkglggkkbmmjkabGreatDoorG8RRules
namespace Go.Proofs.YtkglggkkbmmjkabGreatDoor
open Go.RowKit
def rBad (t : ByteArray) (rs : List Ru) (i : Nat) : Bool := bigB (ch t i) && !rset rs (ch t i)
def rNames (t : ByteArray) (rs : List Ru) : Option Nat := (List.range t.size).find? (rBad t rs)
def rDead (E U : Nat → Bool) : List Ru → Option Nat
 | [] => none
 | r :: l => if !E r.L || !U r.L then some r.A else rDead E U l
def rEnds (rs : List Ru) : Nat → Bool := iter (zbc rs) (rs.length + 1) fun _ => false
def rUsed (rs : List Ru) : Nat → Bool := iter (zb5 rs) (rs.length + 1) (ins (fun _ => false) (stOf rs))
def rErr (t : ByteArray) : Nat × Nat :=
 if 32 < t.size then (1, 0) else
 if (zad t 8 0 []).2.2 = false then (2, (zad t 8 0 []).2.1) else
 match rNames t (zad t 8 0 []).1 with
 | some k => (3, k)
 | none => match rDead (rEnds (zad t 8 0 []).1) (rUsed (zad t 8 0 []).1) (zad t 8 0 []).1 with
  | some k => (4, k)
  | none => (0, 0)
def ReadOut (t : ByteArray) (w : World) (e : Ending) (w' : World) : Prop := Fr [] w w' ∧
 ((rErr t).1 ≠ 0 → e = .returned (.tuple #[.slice none 0 0, .int .i64 (rErr t).1, .int .i64 (rErr t).2])) ∧
 ((rErr t).1 = 0 → t.size ≤ 32 ∧ (zad t 8 0 []).2.2 = true ∧ ∃ q cap, e = .returned (.tuple #[.slice (some ⟨q, 0, none⟩) (zad t 8 0 []).1.length cap, .int .i64 0, .int .i64 0]) ∧ LAt w' q (zad t 8 0 []).1 ∧ w.heap.size ≤ q)
theorem ReadOut.bad {t : ByteArray} {w w' : World} {e : Ending} {a b : Nat} (h : rErr t = (a, b)) (ha : a ≠ 0) (hf : Fr [] w w') (he : e = .returned (.tuple #[.slice none 0 0, .int .i64 a, .int .i64 b])) : ReadOut t w e w' :=
 ⟨hf, fun _ => by rw [h]; exact he, fun h0 => absurd (by rw [h] at h0; exact h0) ha⟩
set_option maxHeartbeats 1000000 in
theorem r_read_long (t : ByteArray) (w : World) (ht : 32 < t.size) (hm : t.size ≤ 9223372036854775807) :
 Calls Tryz.prog 17 #[.string t] w fun e w' => ReadOut t w e w' := by
 have HG := hide (show rErr t = (1, 0) from by unfold rErr; rw [if_pos ht])
 go_enter Tryz.func17, Tryz.ntmps17
 go_wp2
 go_ret3
 exact ReadOut.bad (zaa HG) (by decide) (Fr.refl _ _) rfl
set_option maxHeartbeats 1000000 in
theorem r_read_rule (t : ByteArray) (w : World) (ht : t.size ≤ 32) (hok : (zad t 8 0 []).2.2 = false) :
 Calls Tryz.prog 17 #[.string t] w fun e w' => ReadOut t w e w' := by
 have HG := hide (show rErr t = (2, (zad t 8 0 []).2.1) from by unfold rErr; rw [if_neg (by omega), if_pos hok])
 have HOk := hide hok
 clear hok
 go_enter Tryz.func17, Tryz.ntmps17
 go_wp2_with (go_at_call 54; refine (r_rules t _ ht).mono ?_; rintro e w1 ⟨hf1, h1, h2⟩; obtain rfl := h1 (zaa HOk); have HF1 := hide hf1; clear hf1 h1 h2)
 go_ret3
 exact ReadOut.bad (zaa HG) (by decide) (zaa HF1) rfl
theorem rDead_drop (E U : Nat → Bool) (rs : List Ru) (j : Nat) (h : j < rs.length) : rDead E U (rs.drop j) = if !E rs[j].L || !U rs[j].L then some rs[j].A else rDead E U (rs.drop (j + 1)) := by
 rw [drop_cons' rs j h, rDead]
set_option maxRecDepth 100000 in
set_option maxHeartbeats 4000000 in
theorem r_read_ok (t : ByteArray) (w : World) (ht : t.size ≤ 32) (hok : (zad t 8 0 []).2.2 = true) :
 Calls Tryz.prog 17 #[.string t] w fun e w' => ReadOut t w e w' := by
 have HG := hide (show rErr t = (match rNames t (zad t 8 0 []).1 with
  | some k => (3, k)
  | none => match rDead (rEnds (zad t 8 0 []).1) (rUsed (zad t 8 0 []).1) (zad t 8 0 []).1 with
   | some k => (4, k)
   | none => (0, 0)) from by unfold rErr; rw [if_neg (by omega), if_neg (by rw [hok]; simp)])
 have HOk := hide hok
 have hlen := (za9 t ht).2
 have hpos := (zaw t 8 0 [] (by simp)).2.2 hok
 clear hok
 go_enter Tryz.func17, Tryz.ntmps17
 go_wp2_with (go_at_call 54; refine (r_rules t _ ht).mono ?_; rintro e w1 ⟨hf1, h1, h2⟩; obtain ⟨q, cap, rfl, hru, hq1, hq2⟩ := h2 (zaa HOk); have HF1 := hide hf1; have HL1 := hide (show LAt w1 q (zad t 8 0 []).1 from ⟨hru, hq2, (za9 t ht).1, parse_ok t, (za9 t ht).2⟩); have HQ := hide hq1; clear hf1 h1 h2 hru hq1 hq2)
 generalize hP : (zad t 8 0 []).1 = rs at *
 have HPP := hide hP
 clear hP
 go_loop [7] (fun a => ∃ i : Nat, i ≤ t.size ∧ a = .int .i64 i ∧ Hid (∀ k, k < i → rBad t rs k = false)) (fun a => t.size - (intOf a).toNat)
 case atStart => exact ⟨0, by omega, rfl, fun k hk => by omega⟩
 case round =>
  obtain ⟨i, hi, rfl, hd⟩ := hrel
  by_cases hlt : i < t.size
  ·have hch := hide (za8 t i hlt)
   cases h1 : bigB t[i].toNat
   ·have HN := hide (show ∀ k, k < i + 1 → rBad t rs k = false from fun k hk => by
     by_cases e : k = i
     ·subst e; unfold rBad; rw [zaa hch, h1]; rfl
     ·exact zaa hd k (by omega))
    clear hd
    go_wp2_with (first | (go_at_call 55; refine (r_has q cap _ rs _ (by exact zaa HL1)).mono ?_; rintro e w' ⟨rfl, rfl⟩) | (go_at_call 56; refine (zav _ false _ h1).mono ?_; rintro e w' ⟨rfl, rfl⟩))
    go_round
    case rel => exact ⟨i + 1, by omega, by go_num, HN⟩
    case measure => simp [intOf]; omega
   ·cases h2 : rset rs t[i].toNat
    ·have HN := hide (show rNames t rs = some i from find_range_some _ _ _ hlt (zaa hd) (by unfold rBad; rw [zaa hch, h1, h2]; rfl))
     clear hd
     go_wp2_with (first | (go_at_call 55; refine (r_has q cap _ rs _ (by exact zaa HL1)).mono ?_; rintro e w' ⟨rfl, rfl⟩) | (go_at_call 56; refine (zav _ true _ h1).mono ?_; rintro e w' ⟨rfl, rfl⟩))
     go_ret3
     exact ReadOut.bad ((zaa HG).trans (by rw [zaa HN])) (by decide) (zaa HF1) rfl
    ·have HN := hide (show ∀ k, k < i + 1 → rBad t rs k = false from fun k hk => by
      by_cases e : k = i
      ·subst e; unfold rBad; rw [zaa hch, h1, h2]; rfl
      ·exact zaa hd k (by omega))
     clear hd
     go_wp2_with (first | (go_at_call 55; refine (r_has q cap _ rs _ (by exact zaa HL1)).mono ?_; rintro e w' ⟨rfl, rfl⟩) | (go_at_call 56; refine (zav _ true _ h1).mono ?_; rintro e w' ⟨rfl, rfl⟩))
     go_round
     case rel => exact ⟨i + 1, by omega, by go_num, HN⟩
     case measure => simp [intOf]; omega
  ·have HN := hide (show rNames t rs = none from find_range _ _ (fun k hk => zaa hd k (by omega)))
   have HG2 := hide ((zaa HG).trans (by rw [zaa HN]))
   clear hd HG HN
   go_wp2_with (first
    | (go_at_call 57; refine (r_ends q cap rs _ (by exact zaa HL1)).mono ?_; rintro e w2 ⟨rfl, hf2⟩; have HF2 := hide ((zaa HF1).trans0 hf2); have HL2 := hide ((zaa HL1).fr0 hf2); clear hf2)
    | (refine zab rfl 105 rfl (some 9) rfl 128 _ Tryz.zeroSet ?_; intro w3 hf3 hs3 hB3; have HF3 := hide ((zaa HF2).trans0 hf3); have HL3 := hide ((zaa HL2).fr0 hf3); have HB3 := hide hB3; have Hs3 := hide hs3; clear hf3 hs3 hB3)
    | (refine zac rfl 105 (.tmp 9) (.tmp 44) rfl w2.heap.size 0 128 128 (sF fun _ => false) (sF (rEnds rs)) rfl rfl (by exact zaa HB3) Tryz.sizeSet (by omega) (by intro i hi; rfl) ?_; intro w4 hf4 hs4 hB4; have HF4 := hide ((zaa HF3).trans1 hf4 (Or.inr (zaa HF2).size)); have HL4 := hide ((zaa HL3).fr hf4 (by have := (zaa HL2).lt; simp; omega)); have HB4 := hide (hB4.congr fun i hi => zag _ _ _ i hi); clear hf4 hs4 hB4)
    | (go_at_call 58; refine (r_used q cap rs _ (by exact zaa HL4) hpos).mono ?_; rintro e w5 ⟨rfl, hf5⟩; have HF5 := hide ((zaa HF4).trans0 hf5); have HL5 := hide ((zaa HL4).fr0 hf5); have HB5 := hide ((zaa HB4).fr0 hf5); clear hf5)
    | (refine zab rfl 105 rfl (some 10) rfl 128 _ Tryz.zeroSet ?_; intro w6 hf6 hs6 hB6; have HF6 := hide ((zaa HF5).trans0 hf6); have HL6 := hide ((zaa HL5).fr0 hf6); have HB6 := hide ((zaa HB5).fr0 hf6); have HC6 := hide hB6; clear hf6 hs6 hB6)
    | (refine zac rfl 105 (.tmp 10) (.tmp 46) rfl w5.heap.size 0 128 128 (sF fun _ => false) (sF (rUsed rs)) rfl rfl (by exact zaa HC6) Tryz.sizeSet (by omega) (by intro i hi; rfl) ?_; intro w7 hf7 hs7 hB7; have HF7 := hide ((zaa HF6).trans1 hf7 (Or.inr (zaa HF5).size)); have HL7 := hide ((zaa HL6).fr hf7 (by have := (zaa HL5).lt; simp; omega)); have HB7 := hide ((zaa HB6).fr1 hf7 (by have := (zaa HB5).lt; omega)); have HC7 := hide (hB7.congr fun i hi => zag _ _ _ i hi); clear hf7 hs7 hB7))
   go_loop [11] (fun a => ∃ i : Nat, i ≤ rs.length ∧ a = .int .i64 i ∧ Hid (rDead (rEnds rs) (rUsed rs) rs = rDead (rEnds rs) (rUsed rs) (rs.drop i))) (fun a => rs.length - (intOf a).toNat)
   case atStart => exact ⟨0, by omega, rfl, rfl⟩
   case round =>
    obtain ⟨j, hj, rfl, hd⟩ := hrel
    by_cases hjt : j < rs.length
    ·obtain ⟨a0, a1, a2⟩ := (zaa HL7).ru j hjt
     have hL : rs[j].L < 128 := big_lt ((zaa HL7).ok j hjt).1
     have b0 : w7.cell? ⟨w2.heap.size, rs[j].L, none⟩ = some (.bool (rEnds rs rs[j].L)) := (zaa HB7).cell _ hL
     have b1 : w7.cell? ⟨w5.heap.size, rs[j].L, none⟩ = some (.bool (rUsed rs rs[j].L)) := (zaa HC7).cell _ hL
     have HU := hide ((zaa hd).trans (rDead_drop _ _ rs j hjt))
     clear hd
     cases h1 : rEnds rs rs[j].L
     ·have HN := hide ((zaa HG2).trans (by rw [zaa HU, h1]; first | done | rfl))
      rw [h1] at b0
      go_wp2
      go_quiet (fail)
      go_wp2
      go_ret3
      exact ReadOut.bad (zaa HN) (by decide) ((zaa HF7).trans0 (zal _ _)) rfl
     ·rw [h1] at b0
      cases h2 : rUsed rs rs[j].L
      ·have HN := hide ((zaa HG2).trans (by rw [zaa HU, h1, h2]; first | done | rfl))
       rw [h2] at b1
       go_wp2
       go_quiet (fail)
       go_wp2
       go_ret3
       exact ReadOut.bad (zaa HN) (by decide) ((zaa HF7).trans0 (zal _ _)) rfl
      ·have HN := hide ((zaa HU).trans (by rw [h1, h2]; first | done | rfl))
       rw [h2] at b1
       go_wp2
       go_round
       case rel => exact ⟨j + 1, by omega, by go_num, HN⟩
       case measure => simp [intOf]; omega
    ·have HN := hide (show rErr t = (0, 0) from (zaa HG2).trans (by rw [zaa hd, List.drop_of_length_le (by omega)]; first | done | rfl))
     clear hd
     go_wp2
     go_ret3
     exact ⟨zaa HF7, fun h => absurd (by rw [zaa HN]) h, fun _ => ⟨ht, zaa HOk, q, cap, by rw [zaa HPP]; rfl, by rw [zaa HPP]; exact zaa HL7, zaa HQ⟩⟩
end Go.Proofs.YtkglggkkbmmjkabGreatDoor
namespace Go.Proofs.YtkglggkkbmmjkabGreatDoor
open Go.RowKit
theorem r_read (t : ByteArray) (w : World) (hm : t.size ≤ 9223372036854775807) :
 Calls Tryz.prog 17 #[.string t] w fun e w' => ReadOut t w e w' := by
 by_cases h0 : 32 < t.size
 ·exact r_read_long t w h0 hm
 ·cases h1 : (zad t 8 0 []).2.2
  ·exact r_read_rule t w (by omega) h1
  ·exact r_read_ok t w (by omega) h1
theorem rErr_zero (t : ByteArray) (h : (rErr t).1 = 0) : (rErr t).2 = 0 := by
 unfold rErr at h ⊢
 by_cases h5 : 32 < t.size
 ·rw [if_pos h5]
 ·rw [if_neg h5] at h ⊢
  by_cases h6 : (zad t 8 0 []).2.2 = false
  ·rw [if_pos h6] at h; simp at h
  ·rw [if_neg h6] at h ⊢
   cases h7 : rNames t (zad t 8 0 []).1 with
   | some k => rw [h7] at h; simp at h
   | none =>
    rw [h7] at h
    simp only at h ⊢
    cases h8 : rDead (rEnds (zad t 8 0 []).1) (rUsed (zad t 8 0 []).1) (zad t 8 0 []).1 with
    | some k => rw [h8] at h; simp at h
    | none => rfl
theorem ReadOut.form {t : ByteArray} {w w' : World} {e : Ending} (h : ReadOut t w e w') : ∃ v, e = .returned (.tuple #[v, .int .i64 (rErr t).1, .int .i64 (rErr t).2]) ∧ Fr [] w w' := by
 obtain ⟨h1, h2, h3⟩ := h
 by_cases h0 : (rErr t).1 = 0
 ·obtain ⟨_, _, q, cap, he, _⟩ := h3 h0
  refine ⟨.slice (some ⟨q, 0, none⟩) (zad t 8 0 []).1.length cap, ?_, h1⟩
  rw [he, h0]
  have h4 := rErr_zero t h0
  rw [h4]; rfl
 ·exact ⟨_, h2 h0, h1⟩
set_option maxHeartbeats 400000 in
theorem r_Check (t : ByteArray) (w : World) (hm : t.size ≤ 9223372036854775807) :
 Calls Tryz.prog 7 #[.string t] w fun e w' => e = .returned (.tuple #[.int .i64 (rErr t).1, .int .i64 (rErr t).2]) ∧ Fr [] w w' := by
 go_enter Tryz.func7, Tryz.ntmps7
 go_wp2_with (go_at_call 17; refine (r_read t _ hm).mono ?_; rintro e w1 hr; obtain ⟨v, rfl, hf⟩ := hr.form; have HF := hide hf; clear hr hf)
 go_ret2
 exact ⟨rfl, zaa HF⟩
end Go.Proofs.YtkglggkkbmmjkabGreatDoor
namespace Go.Proofs.YtkglggkkbmmjkabGreatDoor
open Go.RowKit
/-! The plain mathematics: the program's answer and the reference's are one. -/
/-! ### Rounds that only add letters of rules come to an end -/
theorem countP_lt {p q : Ru → Bool} : ∀ (l : List Ru), (∀ r ∈ l, p r = true → q r = true) → (∃ r ∈ l, p r = false ∧ q r = true) → l.countP p < l.countP q
 | [], _, h => by obtain ⟨r, hr, _⟩ := h; cases hr
 | a :: l, h, h2 => by
  have hle : l.countP p ≤ l.countP q := List.countP_mono_left fun r hr hp => h r (List.mem_cons_of_mem _ hr) hp
  simp only [List.countP_cons]
  obtain ⟨r, hr, hp, hq⟩ := h2
  rcases List.mem_cons.1 hr with rfl | hr
  ·rw [hp, hq]; simp; omega
  ·have := countP_lt l (fun r hr hp => h r (List.mem_cons_of_mem _ hr) hp) ⟨r, hr, hp, hq⟩
   have ha := h a (List.mem_cons_self ..)
   cases h1 : p a
   ·cases h2 : q a <;> simp <;> omega
   ·rw [ha h1]; simp; omega
theorem fix_rounds (rs : List Ru) (F : (Nat → Bool) → (Nat → Bool)) (hinf : ∀ S x, S x = true → F S x = true) (hnew : ∀ S x, S x = false → F S x = true → rset rs x = true) (S0 : Nat → Bool) :
 F (iter F rs.length S0) = iter F rs.length S0 := by
 have step : ∀ S, F S = S ∨ rs.countP (fun r => S r.L) + 1 ≤ rs.countP (fun r => F S r.L) := fun S => by
  by_cases h : F S = S
  ·exact Or.inl h
  ·right
   have : ∃ x, S x = false ∧ F S x = true := by
    apply Classical.byContradiction
    intro hn
    apply h
    funext x
    cases h1 : S x
    ·cases h2 : F S x
     ·rfl
     ·exact absurd ⟨x, h1, h2⟩ hn
    ·rw [hinf S x h1]
   obtain ⟨x, h1, h2⟩ := this
   have hr := hnew S x h1 h2
   unfold rset at hr
   obtain ⟨r, hr, hx⟩ := List.any_eq_true.1 hr
   have hx : r.L = x := by simpa using hx
   exact countP_lt rs (fun r _ hp => hinf S _ hp) ⟨r, hr, by rw [hx]; exact h1, by rw [hx]; exact h2⟩
 have key : ∀ k, F (iter F k S0) = iter F k S0 ∨ k ≤ rs.countP (fun r => iter F k S0 r.L) := by
  intro k
  induction k with
  | zero => exact Or.inr (Nat.zero_le _)
  | succ k ih =>
   show F (F (iter F k S0)) = F (iter F k S0) ∨ k + 1 ≤ rs.countP (fun r => F (iter F k S0) r.L)
   rcases step (iter F k S0) with h | h
   ·left; rw [h, h]
   ·rcases ih with h2 | h2
    ·left; rw [h2, h2]
    ·right; omega
 rcases key rs.length with h | h
 ·exact h
 ·rcases step (iter F rs.length S0) with h2 | h2
  ·exact h2
  ·have := List.countP_le_length (l := rs) (p := fun r => F (iter F rs.length S0) r.L)
   omega
/-! ### ends -/
def Bigs (S : Nat → Bool) : Prop := ∀ c, S c = true → bigB c = true
theorem ins_insB {S : Nat → Bool} {c : Nat} (h : bigB c = true) : insB S c = ins S c := by
 funext x; simp [insB, ins, h]
theorem Bigs.ins {S : Nat → Bool} (h : Bigs S) {c : Nat} (hc : bigB c = true) : Bigs (ins S c) := fun x hx => by
 simp only [Go.Proofs.YtkglggkkbmmjkabGreatDoor.ins, Bool.or_eq_true, beq_iff_eq] at hx
 rcases hx with hx | rfl
 ·exact h x hx
 ·exact hc
theorem van_eq {S : Nat → Bool} (h : Bigs S) (c : Nat) : vanB S true c = reOk S c := by
 unfold vanB reOk hasB
 cases h1 : S c
 ·simp
 ·simp [h c h1]
theorem mk_re_fold (l : List Ru) (hl : ∀ r ∈ l, bigB r.L = true) : ∀ S, Bigs S → zbe true l S = zbc l S ∧ Bigs (zbc l S) := by
 induction l with
 | nil => exact fun S h => ⟨rfl, h⟩
 | cons r l ih =>
  intro S h
  have hr := hl r (List.mem_cons_self ..)
  have e : (bytes r.R).all (vanB S true) = (bytes r.R).all (reOk S) := by
   rw [show vanB S true = reOk S from funext (van_eq h)]
  show zbe true l (if (bytes r.R).all (vanB S true) then insB S r.L else S) = zbc l (if (bytes r.R).all (reOk S) then Go.Proofs.YtkglggkkbmmjkabGreatDoor.ins S r.L else S) ∧ Bigs (zbc l (if (bytes r.R).all (reOk S) then Go.Proofs.YtkglggkkbmmjkabGreatDoor.ins S r.L else S))
  rw [e, ins_insB hr]
  have hb : Bigs (if (bytes r.R).all (reOk S) then Go.Proofs.YtkglggkkbmmjkabGreatDoor.ins S r.L else S) := by
   split
   ·exact h.ins hr
   ·exact h
  exact ih (fun r hr => hl r (List.mem_cons_of_mem _ hr)) _ hb
theorem mk_re_iter (rs : List Ru) (hl : ∀ r ∈ rs, bigB r.L = true) (S : Nat → Bool) (hS : Bigs S) : ∀ n, iter (zbe true rs) n S = iter (zbc rs) n S ∧ Bigs (iter (zbc rs) n S)
 | 0 => ⟨rfl, hS⟩
 | n + 1 => by
  obtain ⟨h1, h2⟩ := mk_re_iter rs hl S hS n
  show zbe true rs (iter (zbe true rs) n S) = zbc rs (iter (zbc rs) n S) ∧ Bigs (zbc rs (iter (zbc rs) n S))
  rw [h1]; exact mk_re_fold rs hl _ h2
theorem re_inf (l : List Ru) : ∀ (S : Nat → Bool) (x : Nat), S x = true → zbc l S x = true := by
 induction l with
 | nil => exact fun _ _ h => h
 | cons r l ih =>
  intro S x h
  show zbc l (if (bytes r.R).all (reOk S) then ins S r.L else S) x = true
  apply ih
  split
  ·simp [ins, h]
  ·exact h
theorem re_new (l : List Ru) : ∀ (S : Nat → Bool) (x : Nat), S x = false → zbc l S x = true → rset l x = true := by
 induction l with
 | nil => intro S x h1 h2; exact absurd h2 (by show ¬ S x = true; rw [h1]; simp)
 | cons r l ih =>
  intro S x h1 h2
  have h2' : zbc l (if (bytes r.R).all (reOk S) then ins S r.L else S) x = true := h2
  by_cases e : r.L = x
  ·simp [rset, e]
  ·have : rset l x = true := by
    refine ih _ x ?_ h2'
    split
    ·simp only [ins, h1, Bool.false_or, beq_eq_false_iff_ne]; exact fun h => e h.symm
    ·exact h1
   unfold rset at this ⊢
   rw [List.any_cons, this, Bool.or_true]
theorem ends_eq (rs : List Ru) (hl : ∀ r ∈ rs, bigB r.L = true) : ends rs = rEnds rs := by
 unfold ends rEnds
 rw [(mk_re_iter rs hl _ (fun _ h => by cases h) rs.length).1]
 exact (fix_rounds rs (zbc rs) (re_inf rs) (re_new rs) _).symm
/-! ### reach -/
theorem foldl_insB : ∀ (l : List Nat) (S : Nat → Bool) (x : Nat), l.foldl insB S x = (S x || l.any fun c => bigB c && x == c)
 | [], S, x => by simp
 | c :: l, S, x => by rw [List.foldl_cons, foldl_insB l, List.any_cons]; simp [insB, Bool.or_assoc]
theorem foldl_ins : ∀ (l : List Nat) (S : Nat → Bool) (x : Nat), l.foldl ins S x = (S x || l.any fun c => x == c)
 | [], S, x => by simp
 | c :: l, S, x => by rw [List.foldl_cons, foldl_ins l, List.any_cons]; simp [ins, Bool.or_assoc]
def Alike2 (S S' : Nat → Bool) : Prop := ∀ c, bigB c = true → S c = S' c
theorem any_big (l : List Nat) (x : Nat) (hx : bigB x = true) : (l.any fun c => bigB c && x == c) = l.any fun c => x == c := by
 induction l with
 | nil => rfl
 | cons c l ih =>
  rw [List.any_cons, List.any_cons, ih]
  congr 1
  cases h : x == c
  ·simp
  ·have : x = c := by simpa using h
   subst this; simp [hx]
theorem rd_ru_fold (l : List Ru) (hl : ∀ r ∈ l, bigB r.L = true) : ∀ S S', Alike2 S S' → Alike2 (zbm l S) (zb5 l S') := by
 induction l with
 | nil => exact fun _ _ h => h
 | cons r l ih =>
  intro S S' h
  have hr := hl r (List.mem_cons_self ..)
  show Alike2 (zbm l (if hasB S r.L then (bytes r.R).foldl insB S else S)) (zb5 l (if S' r.L then (bytes r.R).foldl ins S' else S'))
  refine ih (fun r hr => hl r (List.mem_cons_of_mem _ hr)) _ _ ?_
  have e : hasB S r.L = S' r.L := by simp [hasB, hr, h r.L hr]
  rw [e]
  split
  ·intro c hc; rw [foldl_insB, foldl_ins, h c hc, any_big _ _ hc]
  ·exact h
theorem rd_ru_iter (rs : List Ru) (hl : ∀ r ∈ rs, bigB r.L = true) (S S' : Nat → Bool) (hS : Alike2 S S') : ∀ n, Alike2 (iter (zbm rs) n S) (iter (zb5 rs) n S')
 | 0 => hS
 | n + 1 => rd_ru_fold rs hl _ _ (rd_ru_iter rs hl S S' hS n)
theorem rd_inf (l : List Ru) : ∀ (S : Nat → Bool) (x : Nat), S x = true → zbm l S x = true := by
 induction l with
 | nil => exact fun _ _ h => h
 | cons r l ih =>
  intro S x h
  show zbm l (if hasB S r.L then (bytes r.R).foldl insB S else S) x = true
  apply ih
  split
  ·rw [foldl_insB, h]; rfl
  ·exact h
theorem rd_new (rs : List Ru) (hn : ∀ r ∈ rs, ∀ c ∈ bytes r.R, bigB c = true → rset rs c = true) (l : List Ru) : (∀ r ∈ l, r ∈ rs) → ∀ (S : Nat → Bool) (x : Nat), S x = false → zbm l S x = true → rset rs x = true := by
 induction l with
 | nil => intro _ S x h1 h2; exact absurd h2 (by show ¬ S x = true; rw [h1]; simp)
 | cons r l ih =>
  intro hs S x h1 h2
  have h2' : zbm l (if hasB S r.L then (bytes r.R).foldl insB S else S) x = true := h2
  cases h3 : (if hasB S r.L then (bytes r.R).foldl insB S else S) x
  ·exact ih (fun r hr => hs r (List.mem_cons_of_mem _ hr)) _ x h3 h2'
  ·split at h3
   ·rw [foldl_insB, h1, Bool.false_or, List.any_eq_true] at h3
    obtain ⟨c, hc, h4⟩ := h3
    simp only [Bool.and_eq_true, beq_iff_eq] at h4
    rw [h4.2]; exact hn r (hs r (List.mem_cons_self ..)) c hc h4.1
   ·rw [h1] at h3; cases h3
theorem reach_eq (rs : List Ru) (hl : ∀ r ∈ rs, bigB r.L = true) (hst : bigB (stOf rs) = true) (hn : ∀ r ∈ rs, ∀ c ∈ bytes r.R, bigB c = true → rset rs c = true) : Alike2 (reach rs) (rUsed rs) := by
 have h0 : Alike2 (insB (fun _ => false) (stOf rs)) (ins (fun _ => false) (stOf rs)) := fun c _ => by rw [ins_insB hst]
 have h := rd_ru_iter rs hl _ _ h0 (rs.length + 1)
 have hf := fix_rounds rs (zbm rs) (rd_inf rs) (rd_new rs hn rs (fun _ h => h)) (insB (fun _ => false) (stOf rs))
 intro c hc
 rw [show rUsed rs c = _ from (h c hc).symm]
 unfold reach
 show _ = zbm rs (iter (zbm rs) rs.length _) c
 rw [hf]
theorem dead_eq (E U E' U' : Nat → Bool) : ∀ (l : List Ru), (∀ r ∈ l, bigB r.L = true) → Alike2 E E' → Alike2 U U' → deadAt E U l = rDead E' U' l
 | [], _, _, _ => rfl
 | r :: l, hl, h1, h2 => by
  have hr := hl r (List.mem_cons_self ..)
  rw [deadAt, rDead, dead_eq E U E' U' l (fun r hr => hl r (List.mem_cons_of_mem _ hr)) h1 h2]
  simp only [dead1, hasB, hr, Bool.true_and, h1 r.L hr, h2 r.L hr]
/-! ### zcl -/
def Chain (t : ByteArray) : Nat → List Ru → Prop
 | _, [] => False
 | i, r :: l => r.A = i ∧ r.L = ch t i ∧ ch t (i + 1) = 61 ∧ (∀ j, j < r.R.size → ch r.R j = ch t (i + 2 + j)) ∧
  ((l = [] ∧ i + 2 + r.R.size = t.size) ∨ (i + 2 + r.R.size < t.size ∧ ch t (i + 2 + r.R.size) = 59 ∧ Chain t (i + 2 + r.R.size + 1) l))
theorem parse_chain (t : ByteArray) : ∀ f i acc, (zad t f i acc).2.2 = true → ∃ l, (zad t f i acc).1 = acc ++ l ∧ Chain t i l
 | 0, i, acc, h => by simp [zad] at h
 | f + 1, i, acc, h => by
  by_cases h0 : i < t.size ∧ bigB (ch t i) = true
  ·by_cases h1 : i + 1 < t.size ∧ ch t (i + 1) = 61
   ·have hb := zcj t 4 (i + 2)
    have hs : (t.extract (i + 2) (zam t 4 (i + 2))).size = zam t 4 (i + 2) - (i + 2) := by
     rw [ByteArray.size_extract]; omega
    have hr : ∀ j, j < (t.extract (i + 2) (zam t 4 (i + 2))).size → ch (t.extract (i + 2) (zam t 4 (i + 2))) j = ch t (i + 2 + j) := fun j hj =>
     zcf t _ _ j (by rw [← hs]; exact hj) (by omega)
    have he : i + 2 + (t.extract (i + 2) (zam t 4 (i + 2))).size = zam t 4 (i + 2) := by omega
    by_cases h2 : zam t 4 (i + 2) < t.size
    ·by_cases h3 : f = 0 ∨ ch t (zam t 4 (i + 2)) ≠ 59
     ·rw [zcc t f i acc h0 h1 h2 h3] at h; cases h
     ·rw [parse_more t f i acc h0 h1 h2 h3] at h ⊢
      obtain ⟨l, hl, hc⟩ := parse_chain t f _ _ h
      refine ⟨⟨ch t i, t.extract (i + 2) (zam t 4 (i + 2)), i⟩ :: l, by rw [hl, List.append_assoc]; rfl, rfl, rfl, h1.2, hr, Or.inr ?_⟩
      show i + 2 + (t.extract (i + 2) (zam t 4 (i + 2))).size < t.size ∧ ch t (i + 2 + (t.extract (i + 2) (zam t 4 (i + 2))).size) = 59 ∧ Chain t (i + 2 + (t.extract (i + 2) (zam t 4 (i + 2))).size + 1) l
      rw [he]
      exact ⟨h2, by omega, hc⟩
    ·rw [parse_end t f i acc h0 h1 h2]
     refine ⟨[⟨ch t i, t.extract (i + 2) (zam t 4 (i + 2)), i⟩], rfl, rfl, rfl, h1.2, hr, Or.inl ⟨rfl, ?_⟩⟩
     show i + 2 + (t.extract (i + 2) (zam t 4 (i + 2))).size = t.size
     omega
   ·rw [parse_bad1 t f i acc h0 h1] at h; cases h
  ·rw [parse_bad0 t f i acc h0] at h; cases h
theorem nm_bad (t : ByteArray) (rs : List Ru) (r : Ru) (i j : Nat) (h : ch r.R j = ch t (i + 2 + j)) : nm (rset rs) r j = rBad t rs (i + 2 + j) := by
 unfold nm rBad hasB; rw [h]
 cases bigB (ch t (i + 2 + j)) <;> simp
theorem names_chain (t : ByteArray) (rs : List Ru) : ∀ (l : List Ru) (i : Nat), Chain t i l → (∀ r ∈ l, rset rs r.L = true) →
 (zcl (rset rs) l = none → ∀ k, i ≤ k → k < t.size → rBad t rs k = false) ∧ (∀ k, zcl (rset rs) l = some k → i ≤ k ∧ k < t.size ∧ rBad t rs k = true ∧ ∀ j, i ≤ j → j < k → rBad t rs j = false)
 | [], _, h, _ => h.elim
 | r :: l, i, h, hl => by
  obtain ⟨hA, hL, h61, hR, hend⟩ := h
  have hb0 : rBad t rs i = false := by
   have := hl r (List.mem_cons_self ..)
   unfold rBad; rw [← hL, this]; simp
  have hb1 : rBad t rs (i + 1) = false := by unfold rBad; rw [h61]; rfl
  have hsz : i + 2 + r.R.size ≤ t.size := by
   rcases hend with h | h
   ·omega
   ·omega
  cases hf : firstIn (rset rs) r with
  | some j =>
   have hf2 := hf
   unfold firstIn at hf2
   rw [List.find?_range_eq_some] at hf2
   obtain ⟨hp, hj, hlt⟩ := hf2
   have hj : j < r.R.size := by simpa using hj
   have hn : zcl (rset rs) (r :: l) = some (r.A + 2 + j) := by rw [zcl, hf]
   rw [hn]
   refine ⟨(fun h => by cases h), fun k hk => ?_⟩
   have hk : r.A + 2 + j = k := by simpa using hk
   rw [hA] at hk
   subst hk
   refine ⟨by omega, by omega, by rw [← nm_bad t rs r i j (hR j hj)]; exact hp, fun m h1 h2 => ?_⟩
   by_cases e0 : m = i
   ·rw [e0]; exact hb0
   by_cases e1 : m = i + 1
   ·rw [e1]; exact hb1
   obtain ⟨x, rfl⟩ : ∃ x, m = i + 2 + x := ⟨m - (i + 2), by omega⟩
   rw [← nm_bad t rs r i x (hR x (by omega))]
   have := hlt x (by omega)
   simpa using this
  | none =>
   have hf2 := hf
   unfold firstIn at hf2
   rw [List.find?_eq_none] at hf2
   have hnone : ∀ j, j < r.R.size → rBad t rs (i + 2 + j) = false := fun j hj => by
    rw [← nm_bad t rs r i j (hR j hj)]
    have := hf2 j (by simpa using hj)
    simpa using this
   have hn : zcl (rset rs) (r :: l) = zcl (rset rs) l := by rw [zcl, hf]
   have hupto : ∀ m, i ≤ m → m < i + 2 + r.R.size → rBad t rs m = false := fun m h1 h2 => by
    by_cases e0 : m = i
    ·rw [e0]; exact hb0
    by_cases e1 : m = i + 1
    ·rw [e1]; exact hb1
    obtain ⟨x, rfl⟩ : ∃ x, m = i + 2 + x := ⟨m - (i + 2), by omega⟩
    exact hnone x (by omega)
   rw [hn]
   rcases hend with ⟨rfl, he⟩ | ⟨he, h59, hc⟩
   ·refine ⟨fun _ k h1 h2 => hupto k h1 (by omega), fun k hk => ?_⟩
    simp [zcl] at hk
   ·have hb2 : rBad t rs (i + 2 + r.R.size) = false := by unfold rBad; rw [h59]; rfl
    obtain ⟨g1, g2⟩ := names_chain t rs l _ hc (fun r hr => hl r (List.mem_cons_of_mem _ hr))
    have hmid : ∀ m, i ≤ m → m < i + 2 + r.R.size + 1 → rBad t rs m = false := fun m h1 h2 => by
     by_cases e : m = i + 2 + r.R.size
     ·rw [e]; exact hb2
     ·exact hupto m h1 (by omega)
    refine ⟨fun h k h1 h2 => ?_, fun k hk => ?_⟩
    ·by_cases e : k < i + 2 + r.R.size + 1
     ·exact hmid k h1 e
     ·exact g1 h k (by omega) h2
    ·obtain ⟨a, b, c, d⟩ := g2 k hk
     refine ⟨by omega, b, c, fun j h1 h2 => ?_⟩
     by_cases e : j < i + 2 + r.R.size + 1
     ·exact hmid j h1 e
     ·exact d j (by omega) h2
theorem rset_mem {rs : List Ru} {r : Ru} (h : r ∈ rs) : rset rs r.L = true := by
 unfold rset; rw [List.any_eq_true]; exact ⟨r, h, by simp⟩
theorem names_eq (t : ByteArray) (h : (zad t 8 0 []).2.2 = true) : zcl (rset (zad t 8 0 []).1) (zad t 8 0 []).1 = rNames t (zad t 8 0 []).1 := by
 obtain ⟨l, hl, hc⟩ := parse_chain t 8 0 [] h
 have hl' : (zad t 8 0 []).1 = l := by rw [hl]; rfl
 rw [hl']
 obtain ⟨g1, g2⟩ := names_chain t l l 0 hc (fun r hr => rset_mem hr)
 cases hn : zcl (rset l) l with
 | none => exact (find_range _ _ (fun k hk => g1 hn k (Nat.zero_le _) hk)).symm
 | some k =>
  obtain ⟨_, b, c, d⟩ := g2 k hn
  exact (find_range_some _ _ _ b (fun j hj => d j (Nat.zero_le _) hj) c).symm
theorem names_none {S : Nat → Bool} : ∀ {l : List Ru}, zcl S l = none → ∀ r ∈ l, ∀ j, j < r.R.size → nm S r j = false
 | [], _, r, hr, _, _ => by cases hr
 | a :: l, h, r, hr, j, hj => by
  rw [zcl] at h
  cases hf : firstIn S a with
  | some k => rw [hf] at h; cases h
  | none =>
   rw [hf] at h
   rcases List.mem_cons.1 hr with rfl | hr
   ·unfold firstIn at hf
    rw [List.find?_eq_none] at hf
    have := hf j (by simpa using hj)
    simpa using this
   ·exact names_none h r hr j hj
theorem gErr_eq (t : ByteArray) : gErr t = rErr t := by
 unfold gErr rErr
 split
 ·rfl
 split
 ·rfl
 ·rename_i h0 h1
  have hok : (zad t 8 0 []).2.2 = true := by simpa using h1
  have hpos := (zaw t 8 0 [] (by simp)).2.2 hok
  rw [names_eq t hok]
  cases hn : rNames t (zad t 8 0 []).1 with
  | some k => rfl
  | none =>
   have hn2 : zcl (rset (zad t 8 0 []).1) (zad t 8 0 []).1 = none := by rw [names_eq t hok]; exact hn
   have hgood := (zaw t 8 0 [] (by simp)).1
   generalize (zad t 8 0 []).1 = rs at *
   have hl : ∀ r ∈ rs, bigB r.L = true := fun r hr => (hgood r hr).1
   have hst : bigB (stOf rs) = true := by
    cases rs with
    | nil => simp at hpos
    | cons r l => exact hl r (List.mem_cons_self ..)
   have hnn : ∀ r ∈ rs, ∀ c ∈ bytes r.R, bigB c = true → rset rs c = true := fun r hr c hc hb => by
    obtain ⟨j, hj, rfl⟩ := List.getElem_of_mem hc
    have hj' : j < r.R.size := by rw [← zah]; exact hj
    have := names_none hn2 r hr j hj'
    rw [za5] at hb ⊢
    unfold nm hasB at this
    rw [hb] at this
    simpa using this
   rw [dead_eq (ends rs) (reach rs) (rEnds rs) (rUsed rs) rs hl (fun c _ => by rw [ends_eq rs hl]) (reach_eq rs hl hst hnn)]
   rfl
end Go.Proofs.YtkglggkkbmmjkabGreatDoor
