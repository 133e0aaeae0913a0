import Derived.Test.YtkglggkkbmmjkabGreatDoorG10Words
import Derived.Test.YtkglggkkbmmjkabGreatDoorG11PartsM
import Derived.Test.YtkglggkkbmmjkabGreatDoorG9Same
namespace Go.Proofs.YtkglggkkbmmjkabGreatDoor
open Go.RowKit
def rlU (S : Nat → Bool) (k : Nat) : List UInt8 := ((List.range k).filter S).map UInt8.ofNat
def rlst (S : Nat → Bool) : ByteArray := ⟨(rlU S 128).toArray⟩
theorem rlU_succ (S : Nat → Bool) (k : Nat) : rlU S (k + 1) = rlU S k ++ if S k then [UInt8.ofNat k] else [] := by
 unfold rlU
 rw [List.range_succ, List.filter_append, List.map_append]
 congr 1
 cases h : S k <;> simp [h]
theorem rlU_len (S : Nat → Bool) (k : Nat) : (rlU S k).length ≤ k := by
 unfold rlU
 rw [List.length_map]
 have := List.length_filter_le S (List.range k)
 rwa [List.length_range] at this
theorem rlst_eq {S T : Nat → Bool} (h : ∀ x, x < 128 → S x = T x) (hT : ∀ x, T x = true → x = 36 ∨ zai x = true) : rlst S = lst T := by
 have e1 : rlU S 128 = rlU T 128 := by
  unfold rlU
  rw [List.filter_congr (fun x hx => h x (List.mem_range.1 hx))]
 have hr : List.range 128 = List.range 36 ++ ([36] ++ (List.range' 37 60 ++ ((List.range 26).map (fun j => 97 + j) ++ List.range' 123 5))) := by decide
 have z1 : (List.range 36).filter T = [] := List.filter_eq_nil_iff.2 fun x hx ht => by
  have := List.mem_range.1 hx
  rcases hT x ht with e | e
  ·omega
  ·have := za4.1 e; omega
 have z2 : (List.range' 37 60).filter T = [] := List.filter_eq_nil_iff.2 fun x hx ht => by
  have := List.mem_range'_1.1 hx
  rcases hT x ht with e | e
  ·omega
  ·have := za4.1 e; omega
 have z3 : (List.range' 123 5).filter T = [] := List.filter_eq_nil_iff.2 fun x hx ht => by
  have := List.mem_range'_1.1 hx
  rcases hT x ht with e | e
  ·omega
  ·have := za4.1 e; omega
 have e2 : rlU T 128 = lstU T 26 := by
  unfold rlU lstU
  rw [hr, List.filter_append, List.filter_append, List.filter_append, List.filter_append, z1, z2, z3, List.filter_map, List.nil_append, List.nil_append, List.append_nil, List.map_append, List.map_map]
  congr 1
  cases h36 : T 36 <;> simp [h36]
 unfold rlst lst
 rw [e1, e2]
set_option maxRecDepth 100000 in
set_option maxHeartbeats 1600000 in
theorem r_list (b off n : Nat) (f : Nat → Value) (S : Nat → Bool) (w : World) (hB : Blk w b n f) (hn : off + 128 ≤ n) (hS : ∀ i, i < 128 → f (off + i) = .bool (S i)) :
 Calls Tryz.prog 47 #[.pointer (some ⟨b, off, none⟩)] w fun e w' => e = .returned (.string (rlst S)) ∧ Fr [] w w' := by
 have HB := hide hB
 have HS := hide hS
 clear hB hS
 go_enter Tryz.func47, Tryz.ntmps47
 go_wp2
 go_loopw [3, 4] (fun v i wr => ∃ c : Nat, c ≤ 128 ∧ v = .string ⟨(rlU S c).toArray⟩ ∧ i = .int .i64 c ∧ Hid (Fr [] w wr)) (fun _ i _ => 128 - (intOf i).toNat)
 case atStart => exact ⟨0, by omega, rfl, rfl, Fr.refl _ _⟩
 case round =>
  obtain ⟨c, hc, rfl, rfl, hf⟩ := hrel
  by_cases hlt : c < 128
  ·have HS1 := hide (rlU_succ S c)
   have d0 : wr.cell? ⟨b, off + c, none⟩ = some (.bool (S c)) := by rw [((zaa HB).fr0 (zaa hf)).cell _ (by omega), zaa HS c hlt]
   have hmod : (c : Int) % 256 = c := by omega
   have hll := rlU_len S c
   cases hv : S c
   ·rw [hv] at d0
    have HN := hide (show rlU S (c + 1) = rlU S c from (zaa HS1).trans (by rw [hv]; simp))
    clear HS1
    go_wp2
    go_roundw
    case rel => exact ⟨c + 1, by omega, by rw [zaa HN], by go_num, hf⟩
    case measure => simp [intOf]; omega
   ·rw [hv] at d0
    have HN := hide (show rlU S (c + 1) = rlU S c ++ [UInt8.ofNat c] from (zaa HS1).trans (by rw [hv]; rfl))
    clear HS1
    go_wp2_with (refine zbw rfl 158 9 5 (.tmp 17) rfl wr.heap.size 1 c (by omega) Tryz.underlying158 Tryz.underlying5 Tryz.underlying9 rfl (by simp) ?_; have HF2 := hide ((zaa hf).alloc (.cells #[.int .u8 c] 5)))
    go_roundw
    case rel => exact ⟨c + 1, by omega, by rw [zaa HN]; simp [ByteArray.ext_iff], by go_num, HF2⟩
    case measure => simp [intOf]; omega
  ·have HN := hide (show (⟨(rlU S c).toArray⟩ : ByteArray) = rlst S from by
    rw [show c = 128 from by omega]; rfl)
   go_wp2
   go_ret
   exact ⟨by rw [zaa HN]; rfl, zaa hf⟩
end Go.Proofs.YtkglggkkbmmjkabGreatDoor
namespace Go.Proofs.YtkglggkkbmmjkabGreatDoor
open Go.RowKit
def rWordB (rs : List Ru) (c : Nat) : Bool := zai c || rset rs c
def rwErr (t s : ByteArray) : Nat := if 12 < s.size then 1 else if (rErr t).1 ≠ 0 then (rErr t).1 else if (bytes s).all (rWordB (zad t 8 0 []).1) then 0 else 5
def AskOut (t s : ByteArray) (w : World) (e : Ending) (w' : World) : Prop := Fr [] w w' ∧
 (rwErr t s ≠ 0 → e = .returned (.tuple #[.slice none 0 0, .int .i64 (rwErr t s)])) ∧
 (rwErr t s = 0 → s.size ≤ 12 ∧ t.size ≤ 32 ∧ (rErr t).1 = 0 ∧ (zad t 8 0 []).2.2 = true ∧ (bytes s).all (rWordB (zad t 8 0 []).1) = true ∧ ∃ q cap, e = .returned (.tuple #[.slice (some ⟨q, 0, none⟩) (zad t 8 0 []).1.length cap, .int .i64 0]) ∧ LAt w' q (zad t 8 0 []).1)
theorem AskOut.bad {t s : ByteArray} {w w' : World} {e : Ending} {a : Nat} (h : rwErr t s = a) (ha : a ≠ 0) (hf : Fr [] w w') (he : e = .returned (.tuple #[.slice none 0 0, .int .i64 a])) : AskOut t s w e w' :=
 ⟨hf, fun _ => by rw [h]; exact he, fun h0 => absurd (by rw [h] at h0; exact h0) ha⟩
set_option maxHeartbeats 1000000 in
theorem r_asked (t s : ByteArray) (w : World) (ht : t.size ≤ 9223372036854775807) (hm : s.size ≤ 9223372036854775807) :
 Calls Tryz.prog 61 #[.string t, .string s] w fun e w' => AskOut t s w e w' := by
 by_cases h12 : 12 < s.size
 ·have HG := hide (show rwErr t s = 1 from by unfold rwErr; rw [if_pos h12])
  go_enter Tryz.func61, Tryz.ntmps61
  go_wp2
  go_ret2
  exact AskOut.bad (zaa HG) (by decide) (Fr.refl _ _) rfl
 ·by_cases h0 : (rErr t).1 = 0
  ·have HG := hide (show rwErr t s = if (bytes s).all (rWordB (zad t 8 0 []).1) then 0 else 5 from by unfold rwErr; rw [if_neg h12, if_neg (by rw [h0]; simp)])
   have H0 := hide h0
   clear h0
   go_enter Tryz.func61, Tryz.ntmps61
   go_wp2_with (go_at_call 17; refine (r_read t _ ht).mono ?_; rintro e w1 ⟨hf1, h1, h2⟩; obtain ⟨ht32, hok, q, cap, rfl, hla, hq⟩ := h2 (zaa H0); have HF1 := hide hf1; have HL1 := hide hla; have HOk := hide hok; clear hf1 h1 h2 hla hq hok)
   generalize hP : (zad t 8 0 []).1 = rs at *
   have HPP := hide hP
   clear hP
   go_loop [9] (fun a => ∃ i : Nat, i ≤ s.size ∧ a = .int .i64 i ∧ Hid (((bytes s).take i).all (rWordB rs) = true)) (fun a => s.size - (intOf a).toNat)
   case atStart => exact ⟨0, by omega, rfl, rfl⟩
   case round =>
    obtain ⟨i, hi, rfl, hd⟩ := hrel
    by_cases hlt : i < s.size
    ·have hch := hide (za8 s i hlt)
     have HM := hide (show ((bytes s).take (i + 1)).all (rWordB rs) = rWordB rs s[i].toNat from by
      rw [zb1 s i hlt, List.all_append, zaa hd, zaa hch]; simp)
     clear hd
     cases h1 : zai s[i].toNat
     ·cases h2 : rset rs s[i].toNat
      ·have HE := hide (show rwErr t s = 5 from (zaa HG).trans (by
        rw [show (bytes s).all (rWordB rs) = false from by rw [← List.take_append_drop (i + 1) (bytes s), List.all_append, zaa HM]; simp [rWordB, h1, h2]]; rfl))
       clear HM
       go_wp2_with (first | (go_at_call 55; refine (r_has q cap _ rs _ (by exact zaa HL1)).mono ?_; rintro e w' ⟨rfl, rfl⟩) | (go_at_call 46; refine (zaq _ false _ h1).mono ?_; rintro e w' ⟨rfl, rfl⟩))
       go_ret2
       exact AskOut.bad (zaa HE) (by decide) (zaa HF1) rfl
      ·have HN := hide (show ((bytes s).take (i + 1)).all (rWordB rs) = true from (zaa HM).trans (by simp [rWordB, h2]))
       clear HM
       go_wp2_with (first | (go_at_call 55; refine (r_has q cap _ rs _ (by exact zaa HL1)).mono ?_; rintro e w' ⟨rfl, rfl⟩) | (go_at_call 46; refine (zaq _ false _ h1).mono ?_; rintro e w' ⟨rfl, rfl⟩))
       go_round
       case rel => exact ⟨i + 1, by omega, by go_num, HN⟩
       case measure => simp [intOf]; omega
     ·have HN := hide (show ((bytes s).take (i + 1)).all (rWordB rs) = true from (zaa HM).trans (by simp [rWordB, h1]))
      clear HM
      go_wp2_with (first | (go_at_call 55; refine (r_has q cap _ rs _ (by exact zaa HL1)).mono ?_; rintro e w' ⟨rfl, rfl⟩) | (go_at_call 46; refine (zaq _ true _ h1).mono ?_; rintro e w' ⟨rfl, rfl⟩))
      go_round
      case rel => exact ⟨i + 1, by omega, by go_num, HN⟩
      case measure => simp [intOf]; omega
    ·have HA := hide (show (bytes s).all (rWordB rs) = true from by rw [← za2 s i (by omega)]; exact zaa hd)
     have HE := hide (show rwErr t s = 0 from (zaa HG).trans (by rw [zaa HA]; rfl))
     clear hd
     go_wp2
     go_ret2
     exact ⟨zaa HF1, fun h => absurd (zaa HE) h, fun _ => ⟨by omega, ht32, zaa H0, zaa HOk, by rw [zaa HPP]; exact zaa HA, q, cap, by rw [zaa HPP]; rfl, by rw [zaa HPP]; exact zaa HL1⟩⟩
  ·have HG := hide (show rwErr t s = (rErr t).1 from by unfold rwErr; rw [if_neg h12, if_pos h0])
   have hne : ((((rErr t).1 : Nat) : Int) != 0) = true := by rw [bne_iff_ne]; omega
   have H0 := hide h0
   clear h0
   go_enter Tryz.func61, Tryz.ntmps61
   go_wp2_with (go_at_call 17; refine (r_read t _ ht).mono ?_; rintro e w1 ⟨hf1, h1, h2⟩; obtain rfl := h1 (zaa H0); have HF1 := hide hf1; clear hf1 h1 h2)
   go_ret2
   exact AskOut.bad (zaa HG) (zaa H0) (zaa HF1) rfl
end Go.Proofs.YtkglggkkbmmjkabGreatDoor
namespace Go.Proofs.YtkglggkkbmmjkabGreatDoor
open Go.RowKit
theorem zb0 (t : ByteArray) : ∀ r ∈ (zad t 8 0 []).1, bigB r.L = true := fun r hr => ((zaw t 8 0 [] (by simp)).1 r hr).1
theorem rset_big {rs : List Ru} (hl : ∀ r ∈ rs, bigB r.L = true) {c : Nat} (h : rset rs c = true) : bigB c = true := by
 unfold rset at h
 obtain ⟨r, hr, hx⟩ := List.any_eq_true.1 h
 have hx : r.L = c := by simpa using hx
 rw [← hx]; exact hl r hr
theorem word_eq {rs : List Ru} (hl : ∀ r ∈ rs, bigB r.L = true) (c : Nat) : wordB rs c = rWordB rs c := by
 unfold wordB rWordB hasB
 cases h : rset rs c
 ·simp
 ·rw [rset_big hl h]; rfl
theorem wErr_eq (t s : ByteArray) : rwErr t s = wErr t s := by
 unfold rwErr wErr
 rw [gErr_eq, show wordB (zad t 8 0 []).1 = rWordB (zad t 8 0 []).1 from funext (word_eq (zb0 t))]
theorem rword_let {rs : List Ru} (hl : ∀ r ∈ rs, bigB r.L = true) {s : ByteArray} (h : (bytes s).all (rWordB rs) = true) : ∀ i, i < s.size → letB (ch s i) = true := by
 refine word_let (rs := rs) ?_
 rw [show wordB rs = rWordB rs from funext (word_eq hl)]; exact h
theorem null_eq {t s : ByteArray} (h : wErr t s = 0) : (bytes s).all (zan (zad t 8 0 []).1) = nullOf t s := by
 unfold nullOf
 rw [if_pos h, show vanB (zan (zad t 8 0 []).1) false = zan (zad t 8 0 []).1 from funext (van_eq0 (nulls_bigs _ (zb0 t)))]
theorem first_eq {t s : ByteArray} (h : wErr t s = 0) {T : Nat → Nat → Bool} (hT : ∀ c x, x < 128 → T c x = zau (zad t 8 0 []).1 c x) : rlst (beg (zan (zad t 8 0 []).1) T (bytes s)) = firstOfW t s := by
 unfold firstOfW
 rw [if_pos h]
 exact rlst_eq (fun x hx => beg_alike (fun _ _ => rfl) (fun c => hT c x hx) _) (fun x hx => Or.inr (beg_small (iterF_small _ _ _) _ x hx))
set_option maxHeartbeats 1600000 in
theorem r_Null (t s : ByteArray) (w : World) (ht : t.size ≤ 9223372036854775807) (hm : s.size ≤ 9223372036854775807) :
 Calls Tryz.prog 19 #[.string t, .string s] w fun e w' => e = .returned (.tuple #[.bool (nullOf t s), .int .i64 (wErr t s)]) ∧ Fr [] w w' := by
 have HW := hide (wErr_eq t s)
 by_cases h0 : wErr t s = 0
 ·have HE := hide (null_eq h0)
  have HB := hide (zb0 t)
  have H0 := hide h0
  clear h0
  go_enter Tryz.func19, Tryz.ntmps19
  go_wp2_with (first
   | (go_at_call 61; refine (r_asked t s _ ht hm).mono ?_; rintro e w1 ⟨hf1, _, h2⟩; obtain ⟨hs12, _, _, _, hwd, q, cap, rfl, hla⟩ := h2 ((zaa HW).trans (zaa H0)); have HF1 := hide hf1; have HL1 := hide hla; have HWD := hide (rword_let (zaa HB) hwd); clear hf1 h2 hla hwd)
   | (go_at_call 62; refine (r_nulls q cap _ _ (by exact zaa HL1)).mono ?_; rintro e w2 ⟨rfl, hf2⟩; rw [nulls_eq _ (zaa HB)]; have HF2 := hide ((zaa HF1).trans0 hf2); clear hf2)
   | (refine zab rfl 105 rfl (some 8) rfl 128 _ Tryz.zeroSet ?_; intro w3 hf3 hs3 hB3; have HF3 := hide ((zaa HF2).trans0 hf3); have HB3 := hide hB3; clear hf3 hs3 hB3)
   | (refine zac rfl 105 (.tmp 8) (.tmp 20) rfl w2.heap.size 0 128 128 (sF fun _ => false) (sF (zan (zad t 8 0 []).1)) rfl rfl (by exact zaa HB3) Tryz.sizeSet (by omega) (by intro i hi; rfl) ?_; intro w4 hf4 hs4 hB4; have HF4 := hide ((zaa HF3).trans1 hf4 (Or.inr (zaa HF2).size)); have HB4 := hide (hB4.congr (g := sF (zan (zad t 8 0 []).1)) fun i hi => zag _ _ _ i hi); clear hf4 hs4 hB4)
   | (go_at_call 63; refine (r_null s w2.heap.size _ _ (by omega) (by exact zaa HB4) (zaa HWD)).mono ?_; rintro e w5 ⟨rfl, hf5⟩; rw [zaa HE]; have HF5 := hide ((zaa HF4).trans0 hf5); clear hf5))
  go_ret2
  exact ⟨by rw [zaa H0]; rfl, zaa HF5⟩
 ·have HN := hide (show nullOf t s = false from by unfold nullOf; rw [if_neg h0])
  have hb : ((((wErr t s : Nat) : Int)) != 0) = true := by rw [bne_iff_ne]; omega
  have H0 := hide (show rwErr t s ≠ 0 from fun h => h0 (by rw [← wErr_eq]; exact h))
  clear h0
  go_enter Tryz.func19, Tryz.ntmps19
  go_wp2_with (go_at_call 61; refine (r_asked t s _ ht hm).mono ?_; rintro e w1 ⟨hf1, h1, _⟩; obtain rfl := h1 (zaa H0); rw [zaa HW]; have HF1 := hide hf1; clear hf1 h1)
  go_ret2
  exact ⟨by rw [zaa HN]; rfl, zaa HF1⟩
set_option maxHeartbeats 1600000 in
theorem r_First (t s : ByteArray) (w : World) (ht : t.size ≤ 9223372036854775807) (hm : s.size ≤ 9223372036854775807) :
 Calls Tryz.prog 21 #[.string t, .string s] w fun e w' => e = .returned (.tuple #[.string (firstOfW t s), .int .i64 (wErr t s)]) ∧ Fr [] w w' := by
 have HW := hide (wErr_eq t s)
 by_cases h0 : wErr t s = 0
 ·have HB := hide (zb0 t)
  have H0 := hide h0
  clear h0
  go_enter Tryz.func21, Tryz.ntmps21
  go_wp2_with (first
   | (go_at_call 61; refine (r_asked t s _ ht hm).mono ?_; rintro e w1 ⟨hf1, _, h2⟩; obtain ⟨hs12, _, _, _, hwd, q, cap, rfl, hla⟩ := h2 ((zaa HW).trans (zaa H0)); have HF1 := hide hf1; have HL1 := hide hla; have HWD := hide (rword_let (zaa HB) hwd); clear hf1 h2 hla hwd)
   | (go_at_call 62; refine (r_nulls q cap _ _ (by exact zaa HL1)).mono ?_; rintro e w2 ⟨rfl, hf2⟩; rw [nulls_eq _ (zaa HB)]; have HF2 := hide ((zaa HF1).trans0 hf2); have HL2 := hide ((zaa HL1).fr0 hf2); clear hf2)
   | (refine zab rfl 105 rfl (some 8) rfl 128 _ Tryz.zeroSet ?_; intro w3 hf3 hs3 hB3; have HF3 := hide ((zaa HF2).trans0 hf3); have HL3 := hide ((zaa HL2).fr0 hf3); have HB3 := hide hB3; clear hf3 hs3 hB3)
   | (refine zac rfl 105 (.tmp 8) (.tmp 21) rfl w2.heap.size 0 128 128 (sF fun _ => false) (sF (zan (zad t 8 0 []).1)) rfl rfl (by exact zaa HB3) Tryz.sizeSet (by omega) (by intro i hi; rfl) ?_; intro w4 hf4 hs4 hB4; have HF4 := hide ((zaa HF3).trans1 hf4 (Or.inr (zaa HF2).size)); have HL4 := hide ((zaa HL3).fr hf4 (by have := (zaa HL2).lt; simp; omega)); have HB4 := hide (hB4.congr (g := sF (zan (zad t 8 0 []).1)) fun i hi => zag _ _ _ i hi); clear hf4 hs4 hB4)
   | (go_at_call 65; refine (r_firsts q cap w2.heap.size _ _ _ (by exact zaa HL4) (by exact zaa HB4)).mono ?_; rintro e w5 ⟨fb, T, rfl, hf5, _, hB5, hT⟩; have HF5 := hide ((zaa HF4).trans0 hf5); have HN5 := hide ((zaa HB4).fr0 hf5); have HT5 := hide hB5; have HE := hide (first_eq (zaa H0) hT); clear hf5 hB5 hT)
   | (go_at_call 66; refine (r_begins w2.heap.size fb 26 _ T s _ (by exact zaa HN5) (by exact zaa HT5) (by omega) (zaa HWD)).mono ?_; rintro e w6 ⟨rfl, hf6⟩; have HF6 := hide ((zaa HF5).trans0 hf6); clear hf6)
   | (refine zab rfl 105 rfl (some 10) rfl 128 _ Tryz.zeroSet ?_; intro w7 hf7 hs7 hB7; have HF7 := hide ((zaa HF6).trans0 hf7); have HB7 := hide hB7; clear hf7 hs7 hB7)
   | (refine zac rfl 105 (.tmp 10) (.tmp 26) rfl w6.heap.size 0 128 128 (sF fun _ => false) (sF (beg (zan (zad t 8 0 []).1) T (bytes s))) rfl rfl (by exact zaa HB7) Tryz.sizeSet (by omega) (by intro i hi; rfl) ?_; intro w8 hf8 hs8 hB8; have HF8 := hide ((zaa HF7).trans1 hf8 (Or.inr (zaa HF6).size)); have HB8 := hide (hB8.congr (g := sF (beg (zan (zad t 8 0 []).1) T (bytes s))) fun i hi => zag _ _ _ i hi); clear hf8 hs8 hB8)
   | (go_at_call 47; refine (r_list w6.heap.size 0 128 _ (beg (zan (zad t 8 0 []).1) T (bytes s)) _ (by exact zaa HB8) (by omega) (fun i _ => by rw [Nat.zero_add]; rfl)).mono ?_; rintro e w9 ⟨rfl, hf9⟩; rw [zaa HE]; have HF9 := hide ((zaa HF8).trans0 hf9); clear hf9))
  go_ret2
  exact ⟨by rw [zaa H0]; rfl, zaa HF9⟩
 ·have HN := hide (show firstOfW t s = ⟨#[]⟩ from by unfold firstOfW; rw [if_neg h0])
  have hb : ((((wErr t s : Nat) : Int)) != 0) = true := by rw [bne_iff_ne]; omega
  have H0 := hide (show rwErr t s ≠ 0 from fun h => h0 (by rw [← wErr_eq]; exact h))
  clear h0
  go_enter Tryz.func21, Tryz.ntmps21
  go_wp2_with (go_at_call 61; refine (r_asked t s _ ht hm).mono ?_; rintro e w1 ⟨hf1, h1, _⟩; obtain rfl := h1 (zaa H0); rw [zaa HW]; have HF1 := hide hf1; clear hf1 h1)
  go_ret2
  exact ⟨by rw [zaa HN]; rfl, zaa HF1⟩
end Go.Proofs.YtkglggkkbmmjkabGreatDoor
