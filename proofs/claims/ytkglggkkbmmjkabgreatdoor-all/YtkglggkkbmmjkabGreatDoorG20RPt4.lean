import Derived.Test.YtkglggkkbmmjkabGreatDoorG19RPt1
namespace Go.Proofs.YtkglggkkbmmjkabGreatDoor
open Go.RowKit
def aheadNo (T : List Nat) (Is : Nat → Nat → Nat → Bool) (Go : Nat → Nat → Bool) (c : Nat) (l : List Nat) (i k : Nat) : Prop := ∀ m, i ≤ m → m < k → (oneP T Is c i m && zbt T Is Go l m) = false
theorem aheadNo_succ {T : List Nat} {Is : Nat → Nat → Nat → Bool} {Go : Nat → Nat → Bool} {c : Nat} {l : List Nat} {i k : Nat} (h : aheadNo T Is Go c l i k) (hk : (oneP T Is c i k && zbt T Is Go l k) = false) : aheadNo T Is Go c l i (k + 1) := fun m h1 h2 => by
 by_cases e : m = k
 ·subst e; exact hk
 ·exact h m h1 (by omega)
theorem aheadNo_false {T : List Nat} {Is : Nat → Nat → Nat → Bool} {Go : Nat → Nat → Bool} {c : Nat} {l : List Nat} {i k : Nat} (h : aheadNo T Is Go c l i k) (hk : T.length < k) (hi : i ≠ T.length) (hg : (bigB c && Go c i) = false) : zbt T Is Go (c :: l) i = false := by
 cases e : zbt T Is Go (c :: l) i
 ·rfl
 ·rcases zbs.1 e with e | ⟨h1, h2⟩ | ⟨m, h1, h2, h3, h4⟩
  ·exact absurd e hi
  ·rw [h1, h2] at hg; cases hg
  ·have := h m h1 (by omega)
   rw [h3, h4] at this; cases this
set_option maxRecDepth 100000 in
set_option maxHeartbeats 2000000 in
theorem r_aheadP (pb q off cap : Nat) (rs : List Ru) (T : ByteArray) (gi ci gj cj : Nat) (bI bG : Nat → Nat) (Is : Nat → Nat → Nat → Bool) (Go : Nat → Nat → Bool) (w : World) (h : PtM w pb q off cap rs T gi ci gj cj bI bG Is Go) (hT : T.size ≤ 13) : ∀ (m : Nat) (s : ByteArray) (i : Nat), s.size = m → m ≤ 10 → (∀ k, k < s.size → letB (ch s k) = true) → i ≤ T.size →
 Calls Tryz.prog 127 #[.pointer (some ⟨pb, 0, none⟩), .string s, .int .i64 (i : Nat)] w fun e w' => e = .returned (.bool (zbt (bytes T) Is Go (bytes s) i)) ∧ w' = w := by
 intro m
 induction m with
 | zero =>
  intro s i hs _ _ hij
  have c1 := h.c1
  have hz : ((s.size : Int) == 0) = true := by rw [beq_iff_eq]; omega
  have HR := hide (show zbt (bytes T) Is Go (bytes s) i = decide (i = T.size) from by
   rw [show bytes s = [] from List.length_eq_zero_iff.1 (by rw [zah]; exact hs), zbt, zah])
  clear h hs
  by_cases he : i = T.size
  ·have he2 : ((i : Int) == (T.size : Int)) = true := by rw [beq_iff_eq]; omega
   have HE := hide he
   clear he
   go_enter Tryz.func127, Tryz.ntmps127
   go_wp2
   go_ret
   exact ⟨zap (by rw [zaa HR, zaa HE]; simp), rfl⟩
  ·have he2 : ((i : Int) == (T.size : Int)) = false := by rw [beq_eq_false_iff_ne]; omega
   have HE := hide he
   clear he
   go_enter Tryz.func127, Tryz.ntmps127
   go_wp2
   go_ret
   exact ⟨zap (by rw [zaa HR]; simpa using zaa HE), rfl⟩
 | succ m ih =>
  intro s i hs hm hl hij
  have c1 := h.c1
  have hpos : 0 < s.size := by omega
  have hz : ((s.size : Int) == 0) = false := by rw [beq_eq_false_iff_ne]; omega
  obtain ⟨r, hr⟩ : ∃ r : ByteArray, s.extract 1 s.size = r := ⟨_, rfl⟩
  have hrs : r.size = m := by rw [← hr, ext1_size]; omega
  have hrl : ∀ k, k < r.size → letB (ch r k) = true := by rw [← hr]; exact ext1_let hl
  have HB := hide (show bytes s = ch s 0 :: bytes r from by rw [← hr]; exact bytes_cons1 hpos)
  have hl0 := hl 0 hpos
  have hcc : ((s[0]'hpos).toNat : Int) = ((ch s 0 : Nat) : Int) := by rw [za8 s 0 hpos]
  obtain ⟨c, hc⟩ : ∃ c, ch s 0 = c := ⟨_, rfl⟩
  rw [hc] at hl0 HB hcc
  have HI := hide (fun i' (hi' : i' ≤ T.size) => ih r i' hrs (by omega) hrl hi')
  have H := hide h
  have HX := hide hr
  have HL0 := hide hl0
  have hs1 : (1 : Int) ≤ s.size := by omega
  have HTl := hide (zah T)
  clear ih hr hl hrl hc hs
  by_cases he : i = T.size
  ·have he2 : ((i : Int) == (T.size : Int)) = true := by rw [beq_iff_eq]; omega
   have HE := hide (show zbt (bytes T) Is Go (bytes s) i = true from by rw [zaa HB]; exact zbs.2 (Or.inl (by rw [zah]; exact he)))
   clear he h hl0
   go_enter Tryz.func127, Tryz.ntmps127
   go_wp2
   go_ret
   exact ⟨zap (zaa HE).symm, rfl⟩
  ·have he2 : ((i : Int) == (T.size : Int)) = false := by rw [beq_eq_false_iff_ne]; omega
   have HNe := hide (show i ≠ (bytes T).length from by rw [zah]; exact he)
   clear he
   cases hb : bigB c
   ·have HG := hide (show (bigB c && Go c i) = false from by rw [hb]; rfl)
    have c3 := h.c3
    have HBB := hide hb
    clear h hl0 hb
    go_enter Tryz.func127, Tryz.ntmps127
    go_wp2_with (go_at_call 56; refine (zav _ false _ (zaa HBB)).mono ?_; rintro e w' ⟨rfl, hw'⟩; rw [hw'])
    go_loop [9, 10, 11] (fun kv _ _ => ∃ k : Nat, i ≤ k ∧ k ≤ T.size + 1 ∧ kv = .int .i64 k ∧ Hid (aheadNo (bytes T) Is Go c (bytes r) i k)) (fun kv _ _ => T.size + 1 - (intOf kv).toNat)
    case atStart => exact ⟨i, by omega, by omega, rfl, fun m h1 h2 => by omega⟩
    case round =>
     obtain ⟨k, h1, h2, rfl, hN⟩ := hrel
     by_cases hlt : k ≤ T.size
     ·cases ho : oneP (bytes T) Is c i k
      ·have HN := hide (aheadNo_succ (zaa hN) (by rw [ho]; rfl))
       have HO := hide ho
       clear ho
       go_wp2_with (go_at_call 128; refine (r_one pb q off cap rs T gi ci gj cj bI bG Is Go c i k w (zaa H) (zaa HL0) h1 hlt hT).mono ?_; rintro e w' ⟨rfl, hw'⟩; rw [hw', zaa HO])
       go_round
       case rel => exact ⟨k + 1, by omega, by omega, by go_num, HN⟩
       case measure => simp [intOf]; omega
      ·have HO := hide ho
       cases hw : zbt (bytes T) Is Go (bytes r) k
       ·have HN := hide (aheadNo_succ (zaa hN) (by rw [ho, hw]; rfl))
        have HW := hide hw
        clear ho hw
        go_wp2_with (first
         | (go_at_call 128; refine (r_one pb q off cap rs T gi ci gj cj bI bG Is Go c i k w (zaa H) (zaa HL0) h1 hlt hT).mono ?_; rintro e w' ⟨rfl, hw'⟩; rw [hw', zaa HO])
         | (go_at_call 127; rw [zaa HX]; refine (zaa HI k hlt).mono ?_; rintro e w' ⟨rfl, hw'⟩; rw [hw', zaa HW]))
        go_round
        case rel => exact ⟨k + 1, by omega, by omega, by go_num, HN⟩
        case measure => simp [intOf]; omega
       ·have HN := hide (show zbt (bytes T) Is Go (bytes s) i = true from by rw [zaa HB]; exact zbs.2 (Or.inr (Or.inr ⟨k, h1, by rw [zah]; exact hlt, ho, hw⟩)))
        have HW := hide hw
        clear ho hw
        go_wp2_with (first
         | (go_at_call 128; refine (r_one pb q off cap rs T gi ci gj cj bI bG Is Go c i k w (zaa H) (zaa HL0) h1 hlt hT).mono ?_; rintro e w' ⟨rfl, hw'⟩; rw [hw', zaa HO])
         | (go_at_call 127; rw [zaa HX]; refine (zaa HI k hlt).mono ?_; rintro e w' ⟨rfl, hw'⟩; rw [hw', zaa HW]))
        go_ret
        exact ⟨zap (zaa HN).symm, rfl⟩
     ·have HN := hide (show zbt (bytes T) Is Go (bytes s) i = false from by rw [zaa HB]; exact aheadNo_false (zaa hN) (by rw [zah]; omega) (zaa HNe) (zaa HG))
      go_wp2
      go_ret
      exact ⟨zap (zaa HN).symm, rfl⟩
   ·have hbb := zao.1 hb
    have e0 : (0 : Int) ≤ (c : Int) - 65 := by omega
    have e1 : (c : Int) - 65 < 26 := by omega
    have hi14 : (i : Int) < 14 := by omega
    obtain ⟨d1, d2⟩ := h.goc (i := i) hb (by omega)
    have c3 := h.c3
    have HBB := hide hb
    cases hg : Go c i
    ·rw [hg] at d2
     have HG := hide (show (bigB c && Go c i) = false from by rw [hg]; simp)
     clear h hl0 hb hg
     go_enter Tryz.func127, Tryz.ntmps127
     go_wp2_with (go_at_call 56; refine (zav _ true _ (zaa HBB)).mono ?_; rintro e w' ⟨rfl, hw'⟩; rw [hw'])
     go_loop [9, 10, 11] (fun kv _ _ => ∃ k : Nat, i ≤ k ∧ k ≤ T.size + 1 ∧ kv = .int .i64 k ∧ Hid (aheadNo (bytes T) Is Go c (bytes r) i k)) (fun kv _ _ => T.size + 1 - (intOf kv).toNat)
     case atStart => exact ⟨i, by omega, by omega, rfl, fun m h1 h2 => by omega⟩
     case round =>
      obtain ⟨k, h1, h2, rfl, hN⟩ := hrel
      by_cases hlt : k ≤ T.size
      ·cases ho : oneP (bytes T) Is c i k
       ·have HN := hide (aheadNo_succ (zaa hN) (by rw [ho]; rfl))
        have HO := hide ho
        clear ho
        go_wp2_with (go_at_call 128; refine (r_one pb q off cap rs T gi ci gj cj bI bG Is Go c i k w (zaa H) (zaa HL0) h1 hlt hT).mono ?_; rintro e w' ⟨rfl, hw'⟩; rw [hw', zaa HO])
        go_round
        case rel => exact ⟨k + 1, by omega, by omega, by go_num, HN⟩
        case measure => simp [intOf]; omega
       ·have HO := hide ho
        cases hw : zbt (bytes T) Is Go (bytes r) k
        ·have HN := hide (aheadNo_succ (zaa hN) (by rw [ho, hw]; rfl))
         have HW := hide hw
         clear ho hw
         go_wp2_with (first
          | (go_at_call 128; refine (r_one pb q off cap rs T gi ci gj cj bI bG Is Go c i k w (zaa H) (zaa HL0) h1 hlt hT).mono ?_; rintro e w' ⟨rfl, hw'⟩; rw [hw', zaa HO])
          | (go_at_call 127; rw [zaa HX]; refine (zaa HI k hlt).mono ?_; rintro e w' ⟨rfl, hw'⟩; rw [hw', zaa HW]))
         go_round
         case rel => exact ⟨k + 1, by omega, by omega, by go_num, HN⟩
         case measure => simp [intOf]; omega
        ·have HN := hide (show zbt (bytes T) Is Go (bytes s) i = true from by rw [zaa HB]; exact zbs.2 (Or.inr (Or.inr ⟨k, h1, by rw [zah]; exact hlt, ho, hw⟩)))
         have HW := hide hw
         clear ho hw
         go_wp2_with (first
          | (go_at_call 128; refine (r_one pb q off cap rs T gi ci gj cj bI bG Is Go c i k w (zaa H) (zaa HL0) h1 hlt hT).mono ?_; rintro e w' ⟨rfl, hw'⟩; rw [hw', zaa HO])
          | (go_at_call 127; rw [zaa HX]; refine (zaa HI k hlt).mono ?_; rintro e w' ⟨rfl, hw'⟩; rw [hw', zaa HW]))
         go_ret
         exact ⟨zap (zaa HN).symm, rfl⟩
      ·have HN := hide (show zbt (bytes T) Is Go (bytes s) i = false from by rw [zaa HB]; exact aheadNo_false (zaa hN) (by rw [zah]; omega) (zaa HNe) (zaa HG))
       go_wp2
       go_ret
       exact ⟨zap (zaa HN).symm, rfl⟩
    ·rw [hg] at d2
     have HN := hide (show zbt (bytes T) Is Go (bytes s) i = true from by rw [zaa HB]; exact zbs.2 (Or.inr (Or.inl ⟨hb, hg⟩)))
     clear h hl0 hb hg
     go_enter Tryz.func127, Tryz.ntmps127
     go_wp2_with (go_at_call 56; refine (zav _ true _ (zaa HBB)).mono ?_; rintro e w' ⟨rfl, hw'⟩; rw [hw'])
     go_ret
     exact ⟨zap (zaa HN).symm, rfl⟩
end Go.Proofs.YtkglggkkbmmjkabGreatDoor
namespace Go.Proofs.YtkglggkkbmmjkabGreatDoor
open Go.RowKit
/-! How many entries are still open. -/
def nF (f : Nat → Bool) (n : Nat) : Nat := ((List.range n).filter fun i => !f i).length
theorem nF_le {f g : Nat → Bool} {n : Nat} (h : ∀ i, i < n → f i = true → g i = true) : nF g n ≤ nF f n := by
 unfold nF
 induction n with
 | zero => simp
 | succ n ih =>
  have ih := ih (fun i hi => h i (by omega))
  rw [List.range_succ, List.filter_append, List.filter_append, List.length_append, List.length_append]
  have : ([n].filter fun i => !g i).length ≤ ([n].filter fun i => !f i).length := by
   cases hf : f n
   ·cases hg : g n <;> simp [hf, hg]
   ·simp [hf, h n (by omega) hf]
  omega
theorem nF_lt {f g : Nat → Bool} {n m : Nat} (h : ∀ i, i < n → f i = true → g i = true) (hm : m < n) (h0 : f m = false) (h1 : g m = true) : nF g n < nF f n := by
 induction n with
 | zero => omega
 | succ n ih =>
  unfold nF at *
  rw [List.range_succ, List.filter_append, List.filter_append, List.length_append, List.length_append]
  by_cases e : m = n
  ·subst e
   have := nF_le (f := f) (g := g) (n := m) (fun i hi => h i (by omega))
   unfold nF at this
   simp [h0, h1]; omega
  ·have ih := ih (fun i hi => h i (by omega)) (by omega)
   have : ([n].filter fun i => !g i).length ≤ ([n].filter fun i => !f i).length := by
    cases hf : f n
    ·cases hg : g n <;> simp [hf, hg]
    ·simp [hf, h n (by omega) hf]
   omega
def fI (Is : Nat → Nat → Nat → Bool) (m : Nat) : Bool := Is (65 + m / 196) (m % 196 / 14) (m % 196 % 14)
def fG (Go : Nat → Nat → Bool) (m : Nat) : Bool := Go (65 + m / 14) (m % 14)
def cntT (Is : Nat → Nat → Nat → Bool) (Go : Nat → Nat → Bool) : Nat := nF (fI Is) 5096 + nF (fG Go) 364
def updI (Is : Nat → Nat → Nat → Bool) (c i j : Nat) : Nat → Nat → Nat → Bool := fun c' i' j' => Is c' i' j' || (c' == c && i' == i && j' == j)
def updG (Go : Nat → Nat → Bool) (c i : Nat) : Nat → Nat → Bool := fun c' i' => Go c' i' || (c' == c && i' == i)
theorem cnt_updI {Is : Nat → Nat → Nat → Bool} {Go : Nat → Nat → Bool} {c i j : Nat} (hc : bigB c = true) (hi : i < 14) (hj : j < 14) (h : Is c i j = false) : cntT (updI Is c i j) Go < cntT Is Go := by
 have hb := zao.1 hc
 have := nF_lt (f := fI Is) (g := fI (updI Is c i j)) (n := 5096) (m := (c - 65) * 196 + (i * 14 + j)) (fun m _ e => by unfold fI updI at *; rw [e]; rfl) (by omega) (by
  unfold fI
  rw [show ((c - 65) * 196 + (i * 14 + j)) / 196 = c - 65 from by omega, show ((c - 65) * 196 + (i * 14 + j)) % 196 = i * 14 + j from by omega, show (i * 14 + j) / 14 = i from by omega, show (i * 14 + j) % 14 = j from by omega, show 65 + (c - 65) = c from by omega]
  exact h) (by
  unfold fI updI
  rw [show ((c - 65) * 196 + (i * 14 + j)) / 196 = c - 65 from by omega, show ((c - 65) * 196 + (i * 14 + j)) % 196 = i * 14 + j from by omega, show (i * 14 + j) / 14 = i from by omega, show (i * 14 + j) % 14 = j from by omega, show 65 + (c - 65) = c from by omega]
  simp)
 unfold cntT; omega
theorem cnt_updG {Is : Nat → Nat → Nat → Bool} {Go : Nat → Nat → Bool} {c i : Nat} (hc : bigB c = true) (hi : i < 14) (h : Go c i = false) : cntT Is (updG Go c i) < cntT Is Go := by
 have hb := zao.1 hc
 have := nF_lt (f := fG Go) (g := fG (updG Go c i)) (n := 364) (m := (c - 65) * 14 + i) (fun m _ e => by unfold fG updG at *; rw [e]; rfl) (by omega) (by
  unfold fG
  rw [show ((c - 65) * 14 + i) / 14 = c - 65 from by omega, show ((c - 65) * 14 + i) % 14 = i from by omega, show 65 + (c - 65) = c from by omega]
  exact h) (by
  unfold fG updG
  rw [show ((c - 65) * 14 + i) / 14 = c - 65 from by omega, show ((c - 65) * 14 + i) % 14 = i from by omega, show 65 + (c - 65) = c from by omega]
  simp)
 unfold cntT; omega
theorem isF_upd (Is : Nat → Nat → Nat → Bool) {c i j : Nat} (hc : bigB c = true) (hj : j < 14) (m : Nat) : upd (isF Is (c - 65)) (i * 14 + j) (.bool true) m = isF (updI Is c i j) (c - 65) m := by
 have hb := zao.1 hc
 unfold upd isF updI
 rw [show 65 + (c - 65) = c from by omega]
 by_cases h : m = i * 14 + j
 ·subst h
  rw [if_pos rfl, show (i * 14 + j) / 14 = i from by omega, show (i * 14 + j) % 14 = j from by omega]; simp
 ·rw [if_neg h]
  have : (m / 14 == i && m % 14 == j) = false := by
   cases e : (m / 14 == i && m % 14 == j)
   ·rfl
   ·rw [Bool.and_eq_true, beq_iff_eq, beq_iff_eq] at e; omega
  rw [Bool.and_assoc, this, Bool.and_false, Bool.or_false]
theorem isF_other (Is : Nat → Nat → Nat → Bool) {c i j k : Nat} (hc : bigB c = true) (hk : k ≠ c - 65) (m : Nat) : isF Is k m = isF (updI Is c i j) k m := by
 have hb := zao.1 hc
 unfold isF updI
 rw [show (65 + k == c) = false from by rw [beq_eq_false_iff_ne]; omega, Bool.false_and, Bool.false_and, Bool.or_false]
theorem goF_upd (Go : Nat → Nat → Bool) {c i : Nat} (hc : bigB c = true) (m : Nat) : upd (goF Go (c - 65)) i (.bool true) m = goF (updG Go c i) (c - 65) m := by
 have hb := zao.1 hc
 unfold upd goF updG
 rw [show 65 + (c - 65) = c from by omega]
 by_cases h : m = i
 ·subst h; rw [if_pos rfl]; simp
 ·rw [if_neg h, show (m == i) = false from by rw [beq_eq_false_iff_ne]; exact h, Bool.and_false, Bool.or_false]
theorem goF_other (Go : Nat → Nat → Bool) {c i k : Nat} (hc : bigB c = true) (hk : k ≠ c - 65) (m : Nat) : goF Go k m = goF (updG Go c i) k m := by
 have hb := zao.1 hc
 unfold goF updG
 rw [show (65 + k == c) = false from by rw [beq_eq_false_iff_ne]; omega, Bool.false_and, Bool.or_false]
structure PtD (B pb q gi gj : Nat) (bI bG : Nat → Nat) : Prop where
 lI : ∀ k, k < 26 → B ≤ bI k
 lG : ∀ k, k < 26 → B ≤ bG k
 iI : ∀ k l, k < 26 → l < 26 → bI k = bI l → k = l
 iG : ∀ k l, k < 26 → l < 26 → bG k = bG l → k = l
 iX : ∀ k l, k < 26 → l < 26 → bI k ≠ bG l
 nI : ∀ k, k < 26 → bI k ≠ pb ∧ bI k ≠ gi ∧ bI k ≠ gj ∧ bI k ≠ q
 nG : ∀ k, k < 26 → bG k ≠ pb ∧ bG k ≠ gi ∧ bG k ≠ gj ∧ bG k ≠ q
theorem cell_far {w : World} {b o b' o' : Nat} {v u : Value} (h : w.cell? ⟨b, o, none⟩ = some v) (hne : b' ≠ b) : (w.setCell ⟨b', o', none⟩ u).cell? ⟨b, o, none⟩ = some v := by
 rw [World.cell?_setCell_other _ _ _ _ (by intro e; have := congrArg Addr.block e; simp at this; omega)]; exact h
section
variable {w : World} {B pb q off cap : Nat} {rs : List Ru} {T : ByteArray} {gi ci gj cj : Nat} {bI bG : Nat → Nat} {Is : Nat → Nat → Nat → Bool} {Go : Nat → Nat → Bool}
theorem PtM.setI (h : PtM w pb q off cap rs T gi ci gj cj bI bG Is Go) (hD : PtD B pb q gi gj bI bG) {c i j : Nat} (hc : bigB c = true) (hj : j < 14) : PtM (w.setCell ⟨bI (c - 65), i * 14 + j, none⟩ (.bool true)) pb q off cap rs T gi ci gj cj bI bG (updI Is c i j) Go := by
 have hb := zao.1 hc
 obtain ⟨n1, n2, n3, n4⟩ := hD.nI (c - 65) (by omega)
 exact {
  c0 := cell_far h.c0 n1
  c1 := cell_far h.c1 n1
  c2 := cell_far h.c2 n1
  c3 := cell_far h.c3 n1
  ri := fun k hk => cell_far (h.ri k hk) n2
  rj := fun k hk => cell_far (h.rj k hk) n3
  bi := fun k hk => by
   by_cases e : k = c - 65
   ·subst e
    exact ((h.bi _ hk).setCell _ _).congr fun m _ => isF_upd Is hc hj m
   ·exact ((h.bi k hk).setCell_ne _ (fun e2 => e (hD.iI _ _ (by omega) hk e2).symm) _).congr fun m _ => isF_other Is hc e m
  bg := fun k hk => (h.bg k hk).setCell_ne _ (hD.iX _ _ (by omega) hk) _
  ru := fun k hk => ⟨cell_far (h.ru k hk).1 n4, cell_far (h.ru k hk).2.1 n4, cell_far (h.ru k hk).2.2 n4⟩ }
theorem PtM.setG (h : PtM w pb q off cap rs T gi ci gj cj bI bG Is Go) (hD : PtD B pb q gi gj bI bG) {c i : Nat} (hc : bigB c = true) : PtM (w.setCell ⟨bG (c - 65), i, none⟩ (.bool true)) pb q off cap rs T gi ci gj cj bI bG Is (updG Go c i) := by
 have hb := zao.1 hc
 obtain ⟨n1, n2, n3, n4⟩ := hD.nG (c - 65) (by omega)
 exact {
  c0 := cell_far h.c0 n1
  c1 := cell_far h.c1 n1
  c2 := cell_far h.c2 n1
  c3 := cell_far h.c3 n1
  ri := fun k hk => cell_far (h.ri k hk) n2
  rj := fun k hk => cell_far (h.rj k hk) n3
  bi := fun k hk => (h.bi k hk).setCell_ne _ (fun e => hD.iX k (c - 65) hk (by omega) e.symm) _
  bg := fun k hk => by
   by_cases e : k = c - 65
   ·subst e
    exact ((h.bg _ hk).setCell _ _).congr fun m _ => goF_upd Go hc m
   ·exact ((h.bg k hk).setCell_ne _ (fun e2 => e (hD.iG _ _ (by omega) hk e2).symm) _).congr fun m _ => goF_other Go hc e m
  ru := fun k hk => ⟨cell_far (h.ru k hk).1 n4, cell_far (h.ru k hk).2.1 n4, cell_far (h.ru k hk).2.2 n4⟩ }
theorem PtM.fr0 {w' : World} (h : PtM w pb q off cap rs T gi ci gj cj bI bG Is Go) (k : Fr [] w w') : PtM w' pb q off cap rs T gi ci gj cj bI bG Is Go :=
 ⟨k.cell0 h.c0, k.cell0 h.c1, k.cell0 h.c2, k.cell0 h.c3, fun i hi => k.cell0 (h.ri i hi), fun i hi => k.cell0 (h.rj i hi), fun i hi => (h.bi i hi).fr0 k, fun i hi => (h.bg i hi).fr0 k, fun i hi => ⟨k.cell0 (h.ru i hi).1, k.cell0 (h.ru i hi).2.1, k.cell0 (h.ru i hi).2.2⟩⟩
end
theorem PtSo.addI {L : List Ru} {T : List Nat} {Is : Nat → Nat → Nat → Bool} {Go : Nat → Nat → Bool} (h : PtSo L T Is Go) {k i j : Nat} (k1 : 1 ≤ k) (k2 : k < L.length) (hij : i ≤ j) (hj : j ≤ T.length) (hr : rowP T Is (bytes (rget L k).R) i j = true) : PtSo L T (updI Is (rget L k).L i j) Go := by
 refine ⟨fun c' i' j' h1 h2 hx => ?_, h.go⟩
 unfold updI at hx
 rw [Bool.or_eq_true] at hx
 rcases hx with hx | hx
 ·exact h.is c' i' j' h1 h2 hx
 ·rw [Bool.and_eq_true, Bool.and_eq_true, beq_iff_eq, beq_iff_eq, beq_iff_eq] at hx
  obtain ⟨⟨rfl, rfl⟩, rfl⟩ := hx
  obtain ⟨x, m, hd⟩ := h.row _ hij hj hr
  exact ⟨_, _, Ds.one k1 k2 hd⟩
theorem PtSo.addG {L : List Ru} {T : List Nat} {Is : Nat → Nat → Nat → Bool} {Go : Nat → Nat → Bool} (h : PtSo L T Is Go) {k i : Nat} (k1 : 1 ≤ k) (k2 : k < L.length) (hs : ∀ c ∈ bytes (rget L k).R, ∃ v x m, Ds L [c] v x m) (hi : i ≤ T.length) (hr : zbt T Is Go (bytes (rget L k).R) i = true) : PtSo L T Is (updG Go (rget L k).L i) := by
 refine ⟨h.is, fun c' i' h1 hx => ?_⟩
 unfold updG at hx
 rw [Bool.or_eq_true] at hx
 rcases hx with hx | hx
 ·exact h.go c' i' h1 hx
 ·rw [Bool.and_eq_true, beq_iff_eq, beq_iff_eq] at hx
  obtain ⟨rfl, rfl⟩ := hx
  obtain ⟨v, x, m, hd⟩ := h.ahead _ hs hi hr
  exact ⟨v, _, _, Ds.one k1 k2 hd⟩
def clR (T : List Nat) (Is : Nat → Nat → Nat → Bool) (Go : Nat → Nat → Bool) (x : Ru) (i j : Nat) : Prop :=
 (∀ i' j', i' < i → i' ≤ j' → j' ≤ T.length → rowP T Is (bytes x.R) i' j' = true → Is x.L i' j' = true) ∧
 (∀ i', i' < i → zbt T Is Go (bytes x.R) i' = true → Go x.L i' = true) ∧
 (∀ j', i ≤ j' → j' < j → rowP T Is (bytes x.R) i j' = true → Is x.L i j' = true)
theorem clR_j {T : List Nat} {Is : Nat → Nat → Nat → Bool} {Go : Nat → Nat → Bool} {x : Ru} {i j : Nat} (h : clR T Is Go x i j) (hx : rowP T Is (bytes x.R) i j = true → Is x.L i j = true) : clR T Is Go x i (j + 1) :=
 ⟨h.1, h.2.1, fun j' h1 h2 hr => by
   by_cases e : j' = j
   ·subst e; exact hx hr
   ·exact h.2.2 j' h1 (by omega) hr⟩
theorem clR_i {T : List Nat} {Is : Nat → Nat → Nat → Bool} {Go : Nat → Nat → Bool} {x : Ru} {i j : Nat} (h : clR T Is Go x i j) (hj : T.length < j) (hx : zbt T Is Go (bytes x.R) i = true → Go x.L i = true) : clR T Is Go x (i + 1) (i + 1) :=
 ⟨fun i' j' h1 h2 h3 hr => by
  by_cases e : i' = i
  ·subst e; exact h.2.2 j' h2 (by omega) hr
  ·exact h.1 i' j' (by omega) h2 h3 hr, fun i' h1 hr => by
  by_cases e : i' = i
  ·subst e; exact hx hr
  ·exact h.2.1 i' (by omega) hr, fun j' h1 h2 => by omega⟩
theorem clR_0 {T : List Nat} {Is : Nat → Nat → Nat → Bool} {Go : Nat → Nat → Bool} {x : Ru} : clR T Is Go x 0 0 := ⟨(fun i' _ h => by omega), (fun i' h => by omega), fun j' _ h => by omega⟩
structure GwS (w wr : World) (B xb pb q off cap : Nat) (rs : List Ru) (T : ByteArray) (gi ci gj cj : Nat) (bI bG : Nat → Nat) (L : List Ru) (x : Ru) (Is : Nat → Nat → Nat → Bool) (Go : Nat → Nat → Bool) (Is1 : Nat → Nat → Nat → Bool) (Go1 : Nat → Nat → Bool) (b : Bool) (i j : Nat) : Prop where
 bel : Below B w wr
 pt : PtM wr pb q off cap rs T gi ci gj cj bI bG Is1 Go1
 so : PtSo L (bytes T) Is1 Go1
 xr : wr.cell? ⟨xb, 1, none⟩ = some (.string x.R)
 no : b = false → Is1 = Is ∧ Go1 = Go ∧ clR (bytes T) Is Go x i j
 yes : b = true → cntT Is1 Go1 < cntT Is Go
section
variable {w wr : World} {B xb pb q off cap : Nat} {rs : List Ru} {T : ByteArray} {gi ci gj cj : Nat} {bI bG : Nat → Nat} {L : List Ru} {x : Ru} {Is : Nat → Nat → Nat → Bool} {Go : Nat → Nat → Bool} {Is1 : Nat → Nat → Nat → Bool} {Go1 : Nat → Nat → Bool} {b : Bool} {i j : Nat}
theorem GwS.skipI (h : GwS w wr B xb pb q off cap rs T gi ci gj cj bI bG L x Is Go Is1 Go1 b i j) (hx : rowP (bytes T) Is1 (bytes x.R) i j = true → Is1 x.L i j = true) : GwS w wr B xb pb q off cap rs T gi ci gj cj bI bG L x Is Go Is1 Go1 b i (j + 1) :=
 { h with no := fun hb => by obtain ⟨rfl, rfl, h3⟩ := h.no hb; exact ⟨rfl, rfl, clR_j h3 hx⟩ }
theorem GwS.skipG (h : GwS w wr B xb pb q off cap rs T gi ci gj cj bI bG L x Is Go Is1 Go1 b i j) (hj : T.size < j) (hx : zbt (bytes T) Is1 Go1 (bytes x.R) i = true → Go1 x.L i = true) : GwS w wr B xb pb q off cap rs T gi ci gj cj bI bG L x Is Go Is1 Go1 b (i + 1) (i + 1) :=
 { h with no := fun hb => by obtain ⟨rfl, rfl, h3⟩ := h.no hb; exact ⟨rfl, rfl, clR_i h3 (by rw [zah]; exact hj) hx⟩ }
theorem GwS.cle (h : GwS w wr B xb pb q off cap rs T gi ci gj cj bI bG L x Is Go Is1 Go1 b i j) : cntT Is1 Go1 ≤ cntT Is Go := by
 cases b with
 | false => obtain ⟨rfl, rfl, _⟩ := h.no rfl; exact Nat.le_refl _
 | true => exact Nat.le_of_lt (h.yes rfl)
theorem GwS.addI (h : GwS w wr B xb pb q off cap rs T gi ci gj cj bI bG L x Is Go Is1 Go1 b i j) (hD : PtD B pb q gi gj bI bG) (hX : ∀ k, k < 26 → bI k ≠ xb) (hc : bigB x.L = true) {k : Nat} (k1 : 1 ≤ k) (k2 : k < L.length) (hk : rget L k = x) (hij : i ≤ j) (hj : j ≤ T.size) (hT : T.size ≤ 13) (h0 : Is1 x.L i j = false) (hr : rowP (bytes T) Is1 (bytes x.R) i j = true) (j' : Nat) :
 GwS w (wr.setCell ⟨bI (x.L - 65), i * 14 + j, none⟩ (.bool true)) B xb pb q off cap rs T gi ci gj cj bI bG L x Is Go (updI Is1 x.L i j) Go1 true i j' :=
 { bel := h.bel.setCell (hD.lI _ (by have := zao.1 hc; omega)) _
   pt := h.pt.setI hD hc (by omega)
   so := by have := h.so.addI k1 k2 hij (by rw [zah]; exact hj) (by rw [hk]; exact hr); rw [hk] at this; exact this
   xr := cell_far h.xr (hX _ (by have := zao.1 hc; omega))
   no := fun e => by cases e
   yes := fun _ => Nat.lt_of_lt_of_le (cnt_updI hc (by omega) (by omega) h0) h.cle }
theorem GwS.addG (h : GwS w wr B xb pb q off cap rs T gi ci gj cj bI bG L x Is Go Is1 Go1 b i j) (hD : PtD B pb q gi gj bI bG) (hX : ∀ k, k < 26 → bG k ≠ xb) (hc : bigB x.L = true) {k : Nat} (k1 : 1 ≤ k) (k2 : k < L.length) (hk : rget L k = x) (hs : ∀ c ∈ bytes x.R, ∃ v y m, Ds L [c] v y m) (hi : i ≤ T.size) (hT : T.size ≤ 13) (h0 : Go1 x.L i = false) (hr : zbt (bytes T) Is1 Go1 (bytes x.R) i = true) (i' j' : Nat) :
 GwS w (wr.setCell ⟨bG (x.L - 65), i, none⟩ (.bool true)) B xb pb q off cap rs T gi ci gj cj bI bG L x Is Go Is1 (updG Go1 x.L i) true i' j' :=
 { bel := h.bel.setCell (hD.lG _ (by have := zao.1 hc; omega)) _
   pt := h.pt.setG hD hc
   so := by have := h.so.addG k1 k2 (by rw [hk]; exact hs) (by rw [zah]; exact hi) (by rw [hk]; exact hr); rw [hk] at this; exact this
   xr := cell_far h.xr (hX _ (by have := zao.1 hc; omega))
   no := fun e => by cases e
   yes := fun _ => Nat.lt_of_lt_of_le (cnt_updG hc (by omega) h0) h.cle }
end
end Go.Proofs.YtkglggkkbmmjkabGreatDoor
namespace Go.Proofs.YtkglggkkbmmjkabGreatDoor
open Go.RowKit
def GrowsO (w : World) (B pb q off cap : Nat) (rs : List Ru) (T : ByteArray) (gi ci gj cj : Nat) (bI bG : Nat → Nat) (L : List Ru) (x : Ru) (Is : Nat → Nat → Nat → Bool) (Go : Nat → Nat → Bool) (e : Ending) (w' : World) : Prop :=
 ∃ (b : Bool) (Is1 : Nat → Nat → Nat → Bool) (Go1 : Nat → Nat → Bool), e = .returned (.bool b) ∧ Below B w w' ∧ PtM w' pb q off cap rs T gi ci gj cj bI bG Is1 Go1 ∧ PtSo L (bytes T) Is1 Go1 ∧
  (b = false → Is1 = Is ∧ Go1 = Go ∧ clR (bytes T) Is Go x (T.size + 1) (T.size + 1)) ∧ (b = true → cntT Is1 Go1 < cntT Is Go)
set_option maxRecDepth 100000 in
set_option maxHeartbeats 4000000 in
theorem r_grows (B pb q off cap : Nat) (rs : List Ru) (T : ByteArray) (gi ci gj cj : Nat) (bI bG : Nat → Nat) (L : List Ru) (x : Ru) (k0 : Nat) (Is : Nat → Nat → Nat → Bool) (Go : Nat → Nat → Bool) (w : World) (h : PtM w pb q off cap rs T gi ci gj cj bI bG Is Go) (hD : PtD B pb q gi gj bI bG) (hB : B ≤ w.heap.size) (hso : PtSo L (bytes T) Is Go) (hT : T.size ≤ 13)
 (k1 : 1 ≤ k0) (k2 : k0 < L.length) (hk : rget L k0 = x) (hc : bigB x.L = true) (hs : ∀ c ∈ bytes x.R, ∃ v y m, Ds L [c] v y m) (hl : ∀ k, k < x.R.size → letB (ch x.R k) = true) (hsz : x.R.size ≤ 4) :
 Calls Tryz.prog 96 #[.pointer (some ⟨pb, 0, none⟩), .agg #[.int .u8 (x.L : Nat), .string x.R, .int .i64 (x.A : Nat)]] w fun e w' => GrowsO w B pb q off cap rs T gi ci gj cj bI bG L x Is Go e w' := by
 have hcb := zao.1 hc
 have hXI : ∀ k, k < 26 → bI k ≠ w.heap.size := fun k hk => by have := (h.bi k hk).lt; omega
 have hXG : ∀ k, k < 26 → bG k ≠ w.heap.size := fun k hk => by have := (h.bg k hk).lt; omega
 have HS0 := hide (show GwS w (w.alloc (.cells #[.int .u8 (x.L : Nat), .string x.R, .int .i64 (x.A : Nat)] 100)) B w.heap.size pb q off cap rs T gi ci gj cj bI bG L x Is Go Is Go false 0 0 from
  { bel := (Below.refl B w).alloc hB _
    pt := h.fr0 ((Fr.refl [] w).alloc _)
    so := hso
    xr := by simp
    no := fun _ => ⟨rfl, rfl, clR_0⟩
    yes := fun e => by cases e })
 have c1 : ∀ o, (w.alloc o).cell? ⟨pb, 1, none⟩ = some (.string T) := fun o => ((Fr.refl [] w).alloc o).cell0 h.c1
 have e0 : (0 : Int) ≤ (x.L : Int) - 65 := by omega
 have e1 : (x.L : Int) - 65 < 26 := by omega
 have hc26 : x.L - 65 < 26 := by omega
 have HD := hide hD
 have HXI := hide hXI
 have HXG := hide hXG
 have HK := hide hk
 have HCB := hide hc
 have HSm := hide hs
 have HL := hide hl
 clear h hD hso hXI hXG hk hc hs hl
 go_enter Tryz.func96, Tryz.ntmps96
 go_wp2
 go_loopw [5, 8, 9, 10, 11] (fun bv iv _ _ _ wr => ∃ (b : Bool) (i : Nat) (Is1 : Nat → Nat → Nat → Bool) (Go1 : Nat → Nat → Bool), i ≤ T.size + 1 ∧ bv = .bool b ∧ iv = .int .i64 i ∧ Hid (GwS w wr B w.heap.size pb q off cap rs T gi ci gj cj bI bG L x Is Go Is1 Go1 b i i)) (fun _ iv _ _ _ _ => T.size + 1 - (intOf iv).toNat)
 case atStart => exact ⟨false, 0, Is, Go, by omega, rfl, rfl, HS0⟩
 case round =>
  obtain ⟨b, i, Is1, Go1, hi, rfl, rfl, hG⟩ := hrel
  clear HS0 c1
  by_cases hlt : i ≤ T.size
  ·go_wp2
   go_loopw [5, 9, 10] (fun bv jv _ wr => ∃ (b : Bool) (j : Nat) (Is1 : Nat → Nat → Nat → Bool) (Go1 : Nat → Nat → Bool), i ≤ j ∧ j ≤ T.size + 1 ∧ bv = .bool b ∧ jv = .int .i64 j ∧ Hid (GwS w wr B w.heap.size pb q off cap rs T gi ci gj cj bI bG L x Is Go Is1 Go1 b i j)) (fun _ jv _ _ => T.size + 1 - (intOf jv).toNat)
   case atStart => exact ⟨b, i, Is1, Go1, by omega, by omega, rfl, rfl, hG⟩
   case round =>
    clear hG
    obtain ⟨b, j, Is1, Go1, hj1, hj2, rfl, rfl, hG⟩ := hrel
    by_cases hjl : j ≤ T.size
    ·obtain ⟨d1, d2⟩ := (zaa hG).pt.isc (i := i) (j := j) (zaa HCB) (by omega) (by omega)
     have d0 := (zaa hG).pt.c2
     have hi13 : (i : Int) ≤ 13 := by omega
     have hj13 : (j : Int) ≤ 13 := by omega
     have hij2 : (i : Int) * 14 + (j : Int) < 196 := by omega
     cases hv : Is1 x.L i j
     ·rw [hv] at d2
      have d3 := (zaa hG).xr
      have y2 := ((zaa hG).pt.bi (x.L - 65) hc26).free (i * 14 + j)
      cases hr : rowP (bytes T) Is1 (bytes x.R) i j
      ·have HN := hide ((zaa hG).skipI (by rw [hr]; intro e; cases e))
       have HR := hide hr
       clear hr hv
       go_wp2_with (go_at_call 97; refine (r_row pb q off cap rs T gi ci gj cj bI bG Is1 Go1 _ (by exact (zaa hG).pt) hT j hjl x.R.size x.R i rfl (by omega) (zaa HL) hj1).mono ?_; rintro e w' ⟨rfl, hw'⟩; rw [hw', zaa HR])
       go_roundw
       case rel => exact ⟨b, j + 1, Is1, Go1, by omega, by omega, rfl, by go_num, HN⟩
       case measure => simp [intOf]; omega
      ·have HN := hide ((zaa hG).addI (zaa HD) (zaa HXI) (zaa HCB) k1 k2 (zaa HK) hj1 hjl hT hv hr (j + 1))
       have HR := hide hr
       clear hr hv
       go_wp2_with (go_at_call 97; refine (r_row pb q off cap rs T gi ci gj cj bI bG Is1 Go1 _ (by exact (zaa hG).pt) hT j hjl x.R.size x.R i rfl (by omega) (zaa HL) hj1).mono ?_; rintro e w' ⟨rfl, hw'⟩; rw [hw', zaa HR])
       go_roundw
       case rel => exact ⟨true, j + 1, _, Go1, by omega, by omega, rfl, by go_num, HN⟩
       case measure => simp [intOf]; omega
     ·rw [hv] at d2
      have HN := hide ((zaa hG).skipI (fun _ => hv))
      clear hv
      go_wp2
      go_roundw
      case rel => exact ⟨b, j + 1, Is1, Go1, by omega, by omega, rfl, by go_num, HN⟩
      case measure => simp [intOf]; omega
    ·obtain ⟨d1, d2⟩ := (zaa hG).pt.goc (i := i) (zaa HCB) (by omega)
     have d0 := (zaa hG).pt.c3
     have hi13 : (i : Int) < 14 := by omega
     cases hv : Go1 x.L i
     ·rw [hv] at d2
      have d3 := (zaa hG).xr
      have y2 := ((zaa hG).pt.bg (x.L - 65) hc26).free i
      cases hr : zbt (bytes T) Is1 Go1 (bytes x.R) i
      ·have HN := hide ((zaa hG).skipG (by omega) (by rw [hr]; intro e; cases e))
       have HR := hide hr
       clear hr hv
       go_wp2_with (go_at_call 127; refine (r_aheadP pb q off cap rs T gi ci gj cj bI bG Is1 Go1 _ (by exact (zaa hG).pt) hT x.R.size x.R i rfl (by omega) (zaa HL) hlt).mono ?_; rintro e w' ⟨rfl, hw'⟩; rw [hw', zaa HR])
       go_roundw
       case rel => exact ⟨b, i + 1, Is1, Go1, by omega, rfl, by go_num, HN⟩
       case measure => simp [intOf]; omega
      ·have HN := hide ((zaa hG).addG (zaa HD) (zaa HXG) (zaa HCB) k1 k2 (zaa HK) (zaa HSm) hlt hT hv hr (i + 1) (i + 1))
       have HR := hide hr
       clear hr hv
       go_wp2_with (go_at_call 127; refine (r_aheadP pb q off cap rs T gi ci gj cj bI bG Is1 Go1 _ (by exact (zaa hG).pt) hT x.R.size x.R i rfl (by omega) (zaa HL) hlt).mono ?_; rintro e w' ⟨rfl, hw'⟩; rw [hw', zaa HR])
       go_roundw
       case rel => exact ⟨true, i + 1, Is1, _, by omega, rfl, by go_num, HN⟩
       case measure => simp [intOf]; omega
     ·rw [hv] at d2
      have HN := hide ((zaa hG).skipG (by omega) (fun _ => hv))
      clear hv
      go_wp2
      go_roundw
      case rel => exact ⟨b, i + 1, Is1, Go1, by omega, rfl, by go_num, HN⟩
      case measure => simp [intOf]; omega
  ·have hi2 : i = T.size + 1 := by omega
   subst hi2
   go_wp2
   go_ret
   exact ⟨b, Is1, Go1, rfl, (zaa hG).bel, (zaa hG).pt, (zaa hG).so, (zaa hG).no, (zaa hG).yes⟩
end Go.Proofs.YtkglggkkbmmjkabGreatDoor
