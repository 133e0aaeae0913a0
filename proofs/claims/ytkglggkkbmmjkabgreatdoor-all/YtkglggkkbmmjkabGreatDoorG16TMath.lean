import Derived.Test.YtkglggkkbmmjkabGreatDoorG15RNumber
namespace Go.Proofs.YtkglggkkbmmjkabGreatDoor
open Go.RowKit
def sgnW (s : ByteArray) : Bool := decide (s.size = 1) && (ch s 0 == 36 || zai (ch s 0))
set_option maxHeartbeats 1000000 in
theorem r_isSign (s : ByteArray) (w : World) :
 Calls Tryz.prog 80 #[.string s] w fun e w' => e = .returned (.bool (sgnW s)) ∧ w' = w := by
 by_cases h1 : s.size = 1
 ·have e1 : (((s.size : Nat) : Int) == 1) = true := by rw [h1]; rfl
  have l0 : 0 < s.size := by omega
  have hch := za8 s 0 l0
  by_cases h2 : s[0].toNat = 36
  ·have e2 : (((s[0].toNat : Nat) : Int) == 36) = true := by rw [h2]; rfl
   have HE := hide (show sgnW s = true from by unfold sgnW; rw [hch, h2, h1]; rfl)
   clear h1 h2 hch
   go_enter Tryz.func80, Tryz.ntmps80
   go_wp2
   go_ret
   exact ⟨zap (zaa HE).symm, rfl⟩
  ·have e2 : (((s[0].toNat : Nat) : Int) == 36) = false := by rw [beq_eq_false_iff_ne]; omega
   have HE := hide (show sgnW s = zai s[0].toNat from by unfold sgnW; rw [hch, h1]; simp [h2])
   clear h1 h2 hch
   go_enter Tryz.func80, Tryz.ntmps80
   go_wp2_with (go_at_call 46; refine (r_isSmall _ _).mono ?_; rintro e w' ⟨rfl, rfl⟩)
   go_ret
   exact ⟨zap (zaa HE).symm, rfl⟩
 ·have e1 : (((s.size : Nat) : Int) == 1) = false := by rw [beq_eq_false_iff_ne]; omega
  have HE := hide (show sgnW s = false from by unfold sgnW; simp [h1])
  clear h1
  go_enter Tryz.func80, Tryz.ntmps80
  go_wp2
  go_ret
  exact ⟨zap (zaa HE).symm, rfl⟩
/-! what can be done, as a text -/
def wdU (st : Bool) (ru : Nat → Bool) (k : Nat) : List UInt8 := (if st then [115] else []) ++ ((List.range k).filter ru).map fun i => UInt8.ofNat (48 + i)
def wordsT (st : Bool) (ru : Nat → Bool) : ByteArray := ⟨(wdU st ru 9).toArray⟩
theorem wdU_succ (st : Bool) (ru : Nat → Bool) (k : Nat) : wdU st ru (k + 1) = wdU st ru k ++ if ru k then [UInt8.ofNat (48 + k)] else [] := by
 unfold wdU
 rw [List.range_succ, List.filter_append, List.map_append, List.append_assoc]
 congr 2
 cases h : ru k <;> simp [h]
theorem wdU_len (st : Bool) (ru : Nat → Bool) (k : Nat) : (wdU st ru k).length ≤ k + 1 := by
 unfold wdU
 have h := List.length_filter_le ru (List.range k)
 rw [List.length_range] at h
 rw [List.length_append, List.length_map]
 cases st <;> simp <;> omega
def canF (st : Bool) (ru : Nat → Bool) : Nat → Value := fun i => if i = 0 then .bool st else .bool (ru (i - 1))
set_option maxRecDepth 100000 in
set_option maxHeartbeats 1600000 in
theorem r_words (b : Nat) (st : Bool) (ru : Nat → Bool) (w : World) (hB : Blk w b 10 (canF st ru)) :
 Calls Tryz.prog 82 #[.pointer (some ⟨b, 0, none⟩)] w fun e w' => e = .returned (.string (wordsT st ru)) ∧ Fr [] w w' := by
 have HB := hide hB
 have c0 : w.cell? ⟨b, 0, none⟩ = some (.bool st) := hB.cell 0 (by omega)
 clear hB
 cases st
 ·go_enter Tryz.func82, Tryz.ntmps82
  go_wp2
  go_loopw [3, 4] (fun v i wr => ∃ c : Nat, c ≤ 9 ∧ v = .string ⟨(wdU false ru c).toArray⟩ ∧ i = .int .i64 c ∧ Hid (Fr [] w wr)) (fun _ i _ => 9 - (intOf i).toNat)
  case atStart => exact ⟨0, by omega, rfl, rfl, Fr.refl _ _⟩
  case round =>
   obtain ⟨c, hc, rfl, rfl, hf⟩ := hrel
   by_cases hlt : c < 9
   ·have HS1 := hide (wdU_succ false ru c)
    have d0 : wr.cell? ⟨b, 1 + c, none⟩ = some (.bool (ru c)) := by
     rw [((zaa HB).fr0 (zaa hf)).cell (1 + c) (by omega)]
     unfold canF
     rw [if_neg (by omega), show 1 + c - 1 = c from by omega]
    have hmod : (48 + (c : Int)) % 256 = 48 + c := by omega
    have hll := wdU_len false ru c
    cases hv : ru c
    ·rw [hv] at d0
     have HN := hide (show wdU false ru (c + 1) = wdU false ru c from (zaa HS1).trans (by rw [hv]; simp))
     clear HS1
     go_wp2
     go_roundw
     case rel => exact ⟨c + 1, by omega, by rw [zaa HN], by go_num, hf⟩
     case measure => simp [intOf]; omega
    ·rw [hv] at d0
     have HN := hide (show wdU false ru (c + 1) = wdU false ru c ++ [UInt8.ofNat (48 + c)] from (zaa HS1).trans (by rw [hv]; rfl))
     clear HS1
     go_wp2_with (refine zbw rfl 158 9 5 (.tmp 23) rfl wr.heap.size 1 (48 + c) (by omega) Tryz.underlying158 Tryz.underlying5 Tryz.underlying9 rfl (by simp) ?_; have HF2 := hide ((zaa hf).alloc (.cells #[.int .u8 (48 + c : Int)] 5)))
     go_roundw
     case rel => exact ⟨c + 1, by omega, by rw [zaa HN]; simp [ByteArray.ext_iff], by go_num, HF2⟩
     case measure => simp [intOf]; omega
   ·have HN := hide (show (⟨(wdU false ru c).toArray⟩ : ByteArray) = wordsT false ru from by
     rw [show c = 9 from by omega]; rfl)
    go_wp2
    go_ret
    exact ⟨by rw [zaa HN]; rfl, zaa hf⟩
 ·go_enter Tryz.func82, Tryz.ntmps82
  go_wp2
  go_loopw [3, 4] (fun v i wr => ∃ c : Nat, c ≤ 9 ∧ v = .string ⟨(wdU true ru c).toArray⟩ ∧ i = .int .i64 c ∧ Hid (Fr [] w wr)) (fun _ i _ => 9 - (intOf i).toNat)
  case atStart => exact ⟨0, by omega, rfl, rfl, Fr.refl _ _⟩
  case round =>
   obtain ⟨c, hc, rfl, rfl, hf⟩ := hrel
   by_cases hlt : c < 9
   ·have HS1 := hide (wdU_succ true ru c)
    have d0 : wr.cell? ⟨b, 1 + c, none⟩ = some (.bool (ru c)) := by
     rw [((zaa HB).fr0 (zaa hf)).cell (1 + c) (by omega)]
     unfold canF
     rw [if_neg (by omega), show 1 + c - 1 = c from by omega]
    have hmod : (48 + (c : Int)) % 256 = 48 + c := by omega
    have hll := wdU_len true ru c
    cases hv : ru c
    ·rw [hv] at d0
     have HN := hide (show wdU true ru (c + 1) = wdU true ru c from (zaa HS1).trans (by rw [hv]; simp))
     clear HS1
     go_wp2
     go_roundw
     case rel => exact ⟨c + 1, by omega, by rw [zaa HN], by go_num, hf⟩
     case measure => simp [intOf]; omega
    ·rw [hv] at d0
     have HN := hide (show wdU true ru (c + 1) = wdU true ru c ++ [UInt8.ofNat (48 + c)] from (zaa HS1).trans (by rw [hv]; rfl))
     clear HS1
     go_wp2_with (refine zbw rfl 158 9 5 (.tmp 23) rfl wr.heap.size 1 (48 + c) (by omega) Tryz.underlying158 Tryz.underlying5 Tryz.underlying9 rfl (by simp) ?_; have HF2 := hide ((zaa hf).alloc (.cells #[.int .u8 (48 + c : Int)] 5)))
     go_roundw
     case rel => exact ⟨c + 1, by omega, by rw [zaa HN]; simp [ByteArray.ext_iff], by go_num, HF2⟩
     case measure => simp [intOf]; omega
   ·have HN := hide (show (⟨(wdU true ru c).toArray⟩ : ByteArray) = wordsT true ru from by
     rw [show c = 9 from by omega]; rfl)
    go_wp2
    go_ret
    exact ⟨by rw [zaa HN]; rfl, zaa hf⟩
end Go.Proofs.YtkglggkkbmmjkabGreatDoor
namespace Go.Proofs.YtkglggkkbmmjkabGreatDoor
open Go.RowKit
def likeI (x y : It) : Bool := x.R == y.R && x.P == y.P
def alikeL (a b : List It) : Bool := a.all fun x => b.any (likeI x)
set_option maxRecDepth 100000 in
set_option maxHeartbeats 2000000 in
theorem r_alike (qa ca qb cb : Nat) (a b : List It) (w : World) (ha : ItAt w qa a) (hb : ItAt w qb b) (na : a.length ≤ 10000) (nb : b.length ≤ 10000) :
 Calls Tryz.prog 120 #[.slice (some ⟨qa, 0, none⟩) a.length ca, .slice (some ⟨qb, 0, none⟩) b.length cb] w fun e w' => e = .returned (.bool (alikeL a b)) ∧ Fr [] w w' := by
 have HA := hide ha
 have HB := hide hb
 clear ha hb
 go_enter Tryz.func120, Tryz.ntmps120
 go_wp2
 go_loopw [5] (fun i wr => ∃ k : Nat, k ≤ a.length ∧ i = .int .i64 k ∧ Hid ((a.take k).all (fun x => b.any (likeI x)) = true) ∧ Hid (Fr [] w wr)) (fun i _ => a.length - (intOf i).toNat)
 case atStart => exact ⟨0, by omega, rfl, rfl, Fr.refl _ _⟩
 case round =>
  obtain ⟨i, hi, rfl, hd, hf⟩ := hrel
  by_cases hlt : i < a.length
  ·obtain ⟨x, hx⟩ : ∃ x, lget a i = x := ⟨_, rfl⟩
   have HX := hide hx
   clear hx
   go_wp2
   go_loopw [6, 7] (fun v j wr2 => ∃ k : Nat, k ≤ b.length ∧ v = .bool ((b.take k).any (likeI x)) ∧ j = .int .i64 k ∧ Hid (Fr [] w wr2)) (fun _ j _ => b.length - (intOf j).toNat)
   case atStart => exact ⟨0, by omega, rfl, rfl, hf⟩
   case round =>
    obtain ⟨k, hk, rfl, rfl, hf2⟩ := hrel
    obtain ⟨iv, hiv⟩ : ∃ iv, (b.take k).any (likeI x) = iv := ⟨_, rfl⟩
    by_cases hkt : k < b.length
    ·obtain ⟨c0, c1, c2⟩ := ((zaa HA).fr0 (zaa hf2)) i hlt
     obtain ⟨d0, d1, d2⟩ := ((zaa HB).fr0 (zaa hf2)) k hkt
     rw [zaa HX] at c0 c1 c2
     obtain ⟨y, hy⟩ : ∃ y, lget b k = y := ⟨_, rfl⟩
     rw [hy] at d0 d1 d2
     have HS := hide (show (b.take (k + 1)).any (likeI x) = (iv || likeI x y) from by
      rw [List.take_succ_eq_append_getElem hkt, List.any_append, hiv, ← zb6 b k hkt, hy]; simp)
     rw [hiv]
     clear hiv hy
     cases iv
     ·by_cases h1 : x.R = y.R
      ·have q1 : (((x.R : Nat) : Int) == (y.R : Nat)) = true := by rw [beq_iff_eq]; omega
       by_cases h2 : x.P = y.P
       ·have q2 : (((x.P : Nat) : Int) == (y.P : Nat)) = true := by rw [beq_iff_eq]; omega
        have HN := hide (show (b.take (k + 1)).any (likeI x) = true from (zaa HS).trans (by unfold likeI; rw [h1, h2]; simp))
        clear HS h1 h2
        go_wp2_with fail
        go_quiet (fail)
        go_wp2
        go_roundw
        case rel => exact ⟨k + 1, by omega, by rw [zaa HN], by go_num, (zaa hf2).trans0 (zal _ _)⟩
        case measure => simp [intOf]; omega
       ·have q2 : (((x.P : Nat) : Int) == (y.P : Nat)) = false := by rw [beq_eq_false_iff_ne]; omega
        have HN := hide (show (b.take (k + 1)).any (likeI x) = false from (zaa HS).trans (by unfold likeI; simp [h2]))
        clear HS h1 h2
        go_wp2_with fail
        go_quiet (fail)
        go_wp2
        go_roundw
        case rel => exact ⟨k + 1, by omega, by rw [zaa HN], by go_num, (zaa hf2).trans0 (zal _ _)⟩
        case measure => simp [intOf]; omega
      ·have q1 : (((x.R : Nat) : Int) == (y.R : Nat)) = false := by rw [beq_eq_false_iff_ne]; omega
       have HN := hide (show (b.take (k + 1)).any (likeI x) = false from (zaa HS).trans (by unfold likeI; simp [h1]))
       clear HS h1
       go_wp2_with fail
       go_quiet (fail)
       go_wp2
       go_roundw
       case rel => exact ⟨k + 1, by omega, by rw [zaa HN], by go_num, (zaa hf2).trans0 (zal _ _)⟩
       case measure => simp [intOf]; omega
     ·have HN := hide (show (b.take (k + 1)).any (likeI x) = true from (zaa HS).trans (by simp))
      clear HS
      go_wp2_with fail
      go_quiet (fail)
      go_wp2
      go_roundw
      case rel => exact ⟨k + 1, by omega, by rw [zaa HN], by go_num, (zaa hf2).trans0 (zal _ _)⟩
      case measure => simp [intOf]; omega
    ·have hall : (b.take k).any (likeI x) = b.any (likeI x) := by rw [List.take_of_length_le (by omega)]
     have HAny := hide (show b.any (likeI x) = iv from by rw [← hall]; exact hiv)
     have HT := hide (show (a.take (i + 1)).all (fun x => b.any (likeI x)) = iv from by
      rw [List.take_succ_eq_append_getElem hlt, List.all_append, zaa hd, ← zb6 a i hlt, zaa HX]
      simp [zaa HAny])
     rw [hiv]
     clear hiv hall
     cases iv
     ·have HN := hide (show alikeL a b = false from by
       unfold alikeL
       rw [← List.take_append_drop (i + 1) a, List.all_append, zaa HT]; simp)
      clear HT
      go_wp2
      go_ret
      exact ⟨zap (zaa HN).symm, zaa hf2⟩
     ·go_wp2
      go_roundw
      case rel => exact ⟨i + 1, by omega, by go_num, HT, hf2⟩
      case measure => simp [intOf]; omega
  ·have HN := hide (show alikeL a b = true from by
    have := zaa hd
    rw [List.take_of_length_le (by omega)] at this; exact this)
   clear hd
   go_wp2
   go_ret
   exact ⟨zap (zaa HN).symm, zaa hf⟩
end Go.Proofs.YtkglggkkbmmjkabGreatDoor
namespace Go.Proofs.YtkglggkkbmmjkabGreatDoor
open Go.RowKit
/-! The table of states, as plain functions. -/
theorem srt_ext : ∀ {a b : List It}, Srt a → Srt b → (∀ y, y ∈ a ↔ y ∈ b) → a = b
 | [], [], _, _, _ => rfl
 | [], y :: b, _, _, h => by have := (h y).2 (List.mem_cons_self ..); cases this
 | x :: a, [], _, _, h => by have := (h x).1 (List.mem_cons_self ..); cases this
 | x :: a, y :: b, ha, hb, h => by
  have ha' := List.pairwise_cons.1 ha
  have hb' := List.pairwise_cons.1 hb
  have e : x = y := by
   rcases List.mem_cons.1 ((h x).1 (List.mem_cons_self ..)) with h1 | h1
   ·exact h1
   ·rcases List.mem_cons.1 ((h y).2 (List.mem_cons_self ..)) with h2 | h2
    ·exact h2.symm
    ·have := hb'.1 x h1
     have := ha'.1 y h2
     omega
  subst e
  congr 1
  refine srt_ext ha'.2 hb'.2 fun z => ⟨fun hz => ?_, fun hz => ?_⟩
  ·rcases List.mem_cons.1 ((h z).1 (List.mem_cons_of_mem _ hz)) with h1 | h1
   ·have := ha'.1 z hz; rw [h1] at this; omega
   ·exact h1
  ·rcases List.mem_cons.1 ((h z).2 (List.mem_cons_of_mem _ hz)) with h1 | h1
   ·have := hb'.1 z hz; rw [h1] at this; omega
   ·exact h1
theorem zb2.uniq {rs : List Ru} {c : Nat} {l K K' : List It} (h : zb2 rs c l K) (h' : zb2 rs c l K') : K = K' :=
 srt_ext h.srt h'.srt fun y => (h.mem y).trans (h'.mem y).symm
theorem zb9.uniq {rs : List Ru} {N : Nat → Bool} {T : Nat → Nat → Bool} {l L L' : List It} (h : zb9 rs N T l L) (h' : zb9 rs N T l L') : L = L' :=
 srt_ext h.lp.srt h'.lp.srt fun y => (h.mem y).trans (h'.mem y).symm
theorem zb9.nil {rs : List Ru} {N : Nat → Bool} {T : Nat → Nat → Bool} {L : List It} (h : zb9 rs N T [] L) : L = [] := by
 cases L with
 | nil => rfl
 | cons x L => exact absurd ((h.mem x).1 (List.mem_cons_self ..) (fun _ => False) (fun _ hx => by cases hx) (fun _ _ hx _ => hx)) (fun hf => hf)
open Classical in
noncomputable def zci (rs : List Ru) (N : Nat → Bool) (T : Nat → Nat → Bool) (l : List It) (c : Nat) : List It :=
 if h : ∃ L, ∃ K, zb2 rs c l K ∧ zb9 rs N T K L then h.choose else []
theorem stepM_eq {rs : List Ru} {N : Nat → Bool} {T : Nat → Nat → Bool} {l K L : List It} {c : Nat} (h : zb2 rs c l K) (k : zb9 rs N T K L) : zci rs N T l c = L := by
 unfold zci
 have hex : ∃ L, ∃ K, zb2 rs c l K ∧ zb9 rs N T K L := ⟨L, K, h, k⟩
 rw [dif_pos hex]
 obtain ⟨K', h', k'⟩ := hex.choose_spec
 have e := h.uniq h'
 subst e
 exact k'.uniq k
open Classical in
noncomputable def zby (rs : List Ru) (N : Nat → Bool) (T : Nat → Nat → Bool) : List It :=
 if h : ∃ L, zb9 rs N T [⟨0, 0, 36⟩] L then h.choose else []
theorem startM_eq {rs : List Ru} {N : Nat → Bool} {T : Nat → Nat → Bool} {L : List It} (k : zb9 rs N T [⟨0, 0, 36⟩] L) : zby rs N T = L := by
 unfold zby
 have hex : ∃ L, zb9 rs N T [⟨0, 0, 36⟩] L := ⟨L, k⟩
 rw [dif_pos hex]
 exact hex.choose_spec.uniq k
def numM (S : List (List It)) (L : List It) : List (List It) × Nat := match S.findIdx? fun s => eqL s L with
 | some i => (S, i)
 | none => (S ++ [L], S.length)
noncomputable def rowM (st : Nat → List It) : List Nat → List (List It) → List (Nat × Nat) → Option (List (List It) × List (Nat × Nat))
 | [], S, m => some (S, m)
 | c :: cs, S, m => if (st c).length = 0 then rowM st cs S m else
  if 40 < (numM S (st c)).1.length then none else rowM st cs (numM S (st c)).1 (m ++ [(c, (numM S (st c)).2)])
noncomputable def tabM (rs : List Ru) (N : Nat → Bool) (T : Nat → Nat → Bool) : Nat → Nat → List (List It) → List (List (Nat × Nat)) → Option (List (List It) × List (List (Nat × Nat)))
 | 0, _, S, M => some (S, M)
 | f + 1, i, S, M => if h : i < S.length then
  match rowM (zci rs N T S[i]) (List.range' 65 58) S [] with
  | none => none
  | some (S', m) => tabM rs N T f (i + 1) S' (M ++ [m])
  else some (S, M)
end Go.Proofs.YtkglggkkbmmjkabGreatDoor
