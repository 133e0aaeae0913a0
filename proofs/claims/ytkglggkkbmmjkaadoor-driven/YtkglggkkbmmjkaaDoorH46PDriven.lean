import Derived.Test.YtkglggkkbmmjkaaDoorH45DrW
import Derived.Test.YtkglggkkbmmjkaaDoorH8Scr
import Derived.Test.YtkglggkkbmmjkaaDoorH39PRd3
import Derived.Deep.RegionHeld3
import Derived.Deep.AppendLies
import Derived.Test.YtkglggkkbmmjkaaDoorCards
import Derived.Test.YtkglggkkbmmjkaaDoorTie
import Derived.Test.YtkglggkkbmmjkaaDoorH0Model
import Derived.ProofKit
import Derived.LaidMore
import Derived.OpenShut
import Derived.Stop.Joined
import Derived.Test.YtkglggkkbmmjkaaDoorH9Same
namespace Go.Proofs.YtkglggkkbmmjkaaDoor
open Go.RowKit

theorem Tryd.infoInt : (Tryd.prog.info? 3).map (fun i => (i.zero, i.size, i.bytes)) = some (some (.int .i64 0), 1, 8) := by kernel_rfl
theorem stI_new (w : World) : (w.alloc (.cells #[.int .i64 0] 3)).ownsRow w.heap.size 3 1 (.slice (some ⟨w.heap.size, 0, none⟩) 1 1) ([(0, [])] : Stk).length (stI [(0, [])]) :=
  ⟨rfl, Or.inr ⟨w.heap.size, 1, #[.int .i64 0], rfl, Nat.le_refl _, by show (w.heap.push _)[w.heap.size]? = _; simp, Nat.le_refl _, by unfold maxLen; omega, rfl, rfl⟩⟩
theorem OpAt.grown {w w' : World} {b : Nat} {g s : ByteArray} {row : Option Nat} (h : OpAt w b g s) (hg : w.grownBy w' row) (hne : some b ≠ row) : OpAt w' b g s :=
  ⟨Nat.lt_of_lt_of_le h.1 hg.size, by rw [World.cell?_of_block (hg.block b h.1 hne)]; exact h.2.1, by rw [World.cell?_of_block (hg.block b h.1 hne)]; exact h.2.2⟩

theorem str_some3 {y : ByteArray} (h : 0 < y.size) : y.toList.isEmpty = false := by
  rw [List.isEmpty_eq_false_iff, ne_eq, ← List.length_eq_zero_iff, Go.ByteArray.toList_eq, Array.length_toList]
  exact Nat.ne_of_gt h
set_option maxRecDepth 100000 in
set_option maxHeartbeats 1600000 in
theorem l_driven_bad (k n : Int) (g s : ByteArray) (w : World) (hg : g.size ≤ 9223372036854775807) (hs : s.size ≤ 9223372036854775807) (h0 : errT g s ≠ 0) :
    Calls Tryd.prog 7 #[.agg #[.int .i64 k, .int .i64 n, .string g, .string s]] w fun e w' => e = .returned (.bool true) ∧ Fr [] w w' := by
  have hle := errT_le g s
  go_enter Tryd.func7, Tryd.ntmps7
  go_wp2_with fail
  refine (p_Tree g s _ hg hs).mono ?_
  rintro e w1 ⟨hf1, y, x, rfl, hO⟩
  have hx : x = errT g s := by
    rcases hO with ⟨_, h1, _⟩ | ⟨h1, _⟩
    · exact h1
    · exact absurd h1 h0
  have hx0 : ((x : Int) != 0) = true := by rw [bne_iff_ne]; omega
  have hx9 : ((x : Int) != 9) = true := by rw [bne_iff_ne]; omega
  have HF1 := hide (((Fr.refl [] w).alloc _).trans0 hf1)
  clear hf1 hO hx h0 hle
  go_wp2_with (go_at_call 10; refine (l_num _ _).mono ?_; rintro e wq ⟨rfl, hwq⟩; rw [hwq]; clear hwq)
  go_ret
  exact ⟨rfl, unhide HF1⟩

set_option maxRecDepth 100000 in
set_option maxHeartbeats 20000000 in
theorem l_driven_good (k n : Int) (g s : ByteArray) (w : World) (hg : g.size ≤ 9223372036854775807) (hs : s.size ≤ 9223372036854775807) (h0 : errT g s = 0) :
    Calls Tryd.prog 7 #[.agg #[.int .i64 k, .int .i64 n, .string g, .string s]] w fun e w' => e = .returned (.bool true) ∧ Fr [] w w' := by
  obtain ⟨r, hD⟩ := drv_of h0
  have h12 := hD.len
  have HD := hide hD
  obtain ⟨i0, hi0, hz0, hz1, hz2⟩ := info_parts Tryd.infoInt
  clear h0 hD
  go_enter Tryd.func7, Tryd.ntmps7
  go_wp2_with fail
  refine (p_Tree g s _ hg hs).mono ?_
  rintro e w1 ⟨hf1, y, x, rfl, hO⟩
  have hx : (x = 0 ∧ ∃ x' m, Ds (rul (parse g 8 0 []).1) [stOf (parse g 8 0 []).1] (bytes s) x' m) ∨ (x = 9 ∧ ¬ ∃ x' m, Ds (rul (parse g 8 0 []).1) [stOf (parse g 8 0 []).1] (bytes s) x' m) := by
    rcases hO with ⟨h1, _⟩ | ⟨_, ⟨h1, _, h2⟩ | ⟨h1, x', m, h2, _⟩⟩
    · exact absurd (unhide HD).e0 h1
    · exact Or.inr ⟨h1, h2⟩
    · exact Or.inl ⟨h1, x', m, h2⟩
  have HO1 := hide (show OpAt w1 w.heap.size g s from OpAt.fr (by exact ⟨by simp, by simp, by simp⟩) hf1)
  have k3 := (unhide HO1).2.2
  have HF1 := hide (((Fr.refl [] w).alloc _).trans0 hf1)
  obtain ⟨tx, htx⟩ : ∃ tx, s ++ (⟨#[36]⟩ : ByteArray) = tx := ⟨_, rfl⟩
  have hTx : TxE s tx := by rw [← htx]; exact txE s
  have HTZ := hide hTx.sz
  have htb : tx.size ≤ 13 := by rw [unhide HTZ]; omega
  have HTx := hide hTx
  have hcs : ¬ 9223372036854775807 < s.size + 1 := by omega
  clear hf1 hO hTx
  rcases hx with ⟨rfl, hy⟩ | ⟨rfl, hy⟩
  all_goals
    have HY := hide hy
    clear hy
    go_wp2_with (go_at_call 10; refine (l_num _ _).mono ?_; rintro e wq ⟨rfl, hwq⟩; rw [hwq]; clear hwq)
    go_loopw [6, 7, 8] (fun sv a tn wr => ∃ (st : Stk) (i m : Nat), Hid (Dst g s r st i m) ∧ i ≤ s.size ∧ m ≤ 8001 ∧ st.length ≤ 1 + m + i ∧ a = .int .i64 (i : Nat) ∧ tn = .int .i64 ((m + i : Nat) : Int) ∧ Hid (OpAt wr w.heap.size g s) ∧ Hid (Fr [] w wr) ∧ Hid (wr.ownsRow w1.heap.size 3 1 sv st.length (stI st))) (fun _ _ tn _ => 8192 - (intOf tn).toNat)
    case atStart => exact ⟨[(0, [])], 0, 0, dst0 g s r, by omega, by omega, by simp, rfl, rfl, (unhide HO1).fr ((Fr.refl [] w1).alloc _), (unhide HF1).alloc _, stI_new w1⟩
    case round =>
      obtain ⟨st, i, m, hDst, hi, hm, hl, rfl, rfl, hO, hF, hown⟩ := hrel
      obtain ⟨s0, x0, st0, rfl⟩ := (unhide hDst).si.ne
      obtain ⟨gq, cap, rfl, q1, q2, q3, q4, q5⟩ := stI_form (unhide hown)
      have hs0 : s0 < r.1.length := (unhide hDst).si.lt (unhide HD).rd.tab.pos
      rw [List.length_cons] at hl
      obtain ⟨L0, hL0⟩ : ∃ L0, st0.length = L0 := ⟨_, rfl⟩
      rw [hL0] at hl q3 q5 ⊢
      have m2 := (unhide hO).2.1
      have ht1 : ((m + i : Nat) : Int) < 8192 := by omega
      have htz := unhide HTZ
      have ht2 : (i : Int) < tx.size := by omega
      have b0 : (0 : Int) ≤ (i : Int) := by omega
      have b1 : (i : Int) + 1 ≤ (tx.size : Int) := by omega
      have b2 : (i : Int) ≤ (i : Int) + 1 := by omega
      have b3 : IntKind.i64.wrap ((i : Int) + 1) = (i : Int) + 1 := by rw [IntKind.wrap_i64]; omega
      have b4 : ¬ (i : Int) + 1 < (i : Int) := by omega
      clear htz
      have hw0 : IntKind.i64.wrap ((L0 : Int) + 1 - 1) = L0 := by rw [IntKind.wrap_i64]; omega
      have HA := hide (show actV (rul (parse g 8 0 []).1) (s0 : Int) (tx.extract i (i + 1)) (tabR g) = (actT (rul (parse g 8 0 []).1) r s0 (nxS s i), 0) from by
        rw [(unhide HTx).one hi, (unhide HD).hr]
        exact actV_of hs0 (nx_sigB (unhide HD) i) (by
          rcases nx_sig (unhide HD) (i := i) with ⟨_, h⟩ | ⟨_, h⟩
          · have := smallB_iff.1 h; omega
          · omega))
      go_wp2_with fail
      go_region_held3 (fun w' => w'.cell? ⟨w.heap.size, 2, none⟩ = some (.string g)) (first | exact hk3 | go_keep) ((go_at_call 12; refine (p_ActsV g (s0 : Int) (tx.extract i (i + 1)) _ hg).mono ?_; rintro e w3 ⟨rfl, hf3⟩; rw [unhide HA]; have HF3 := hide (show Fr [] wr w3 from ((Fr.refl [] wr).drew).trans0 hf3); have hk3 := ((unhide hO).fr (unhide HF3)).2.1; clear hf3))
      have HO3 := hide ((unhide hO).fr (unhide HF3))
      have HW3 := hide (ownsRow_fr (unhide hown) (unhide HF3) (by simp))
      have q6 : w3.cell? ⟨gq, L0, none⟩ = some (.int .i64 (s0 : Nat)) := by
        rw [World.cell?_of_block ((unhide HF3).block gq q2 (by simp))]; exact q5
      have HF4 := hide ((unhide hF).trans0 (unhide HF3))
      clear m2 hk3 q5
      rcases dst_turn (unhide HD) (unhide hDst) with ⟨hA, hno⟩ | ⟨hA, hi2, hyes⟩ | ⟨hA, hi2, h8, j, hj, hj2, hN⟩ | ⟨kk, k1, k9, kL, hA, h8, pt, s1, xs, st1, j, he, hpl, hj, hj2, hs1, hN⟩
      · have hA' : actT (rul (parse g 8 0 []).1) r s0 (nxS s i) = ⟨#[]⟩ := hA
        rw [hA']
        clear hA hA'
        first
          | exact absurd (unhide HY) hno
          | (go_wp2_with (go_at_call 10; refine (l_num _ _).mono ?_; rintro e wq ⟨rfl, hwq⟩; rw [hwq]; clear hwq)
             go_ret
             exact ⟨rfl, unhide HF4⟩)
      · have hA' : actT (rul (parse g 8 0 []).1) r s0 (nxS s i) = ⟨#[48]⟩ := hA
        rw [hA']
        clear hA hA'
        first
          | exact absurd hyes (unhide HY)
          | (have hend : ((i : Int) == (tx.size : Int) - 1) = true := by (have := unhide HTZ; rw [beq_iff_eq]; omega)
             clear hi2
             go_wp2_with (go_at_call 10; refine (l_num _ _).mono ?_; rintro e wq ⟨rfl, hwq⟩; rw [hwq]; clear hwq)
             go_ret
             exact ⟨rfl, unhide HF4⟩)
      · have hA' : actT (rul (parse g 8 0 []).1) r s0 (nxS s i) = ⟨#[115]⟩ := hA
        rw [hA']
        clear hA hA'
        have hNx : nxS s i = ch s i := by unfold nxS; rw [if_pos hi2]
        have hsm : smallB (nxS s i) = true := by
          rcases nx_sig (unhide HD) (i := i) with ⟨_, h⟩ | ⟨h, _⟩
          · exact h
          · omega
        have HS := hide (show stepV (s0 : Int) (tx.extract i (i + 1)) (tabR g) = (((j : Nat) : Int), 0) from by
          rw [(unhide HTx).one hi, (unhide HD).hr, stepV_of hs0 (by unfold letB; rw [hsm]; simp) (by have := smallB_iff.1 hsm; omega)]
          rw [show gto r s0 (nxS s i) = (j : Nat) from hj])
        have HN := hide hN
        clear hNx hsm hj hN
        go_wp2_with (first
          | (go_at_call 10; refine (l_num _ _).mono ?_; rintro e wq ⟨rfl, hwq⟩; rw [hwq]; clear hwq)
          | (go_at_call 14; fail))
        refine (p_StepV g (s0 : Int) (tx.extract i (i + 1)) _ hg).mono ?_
        rintro e w5 ⟨rfl, hf5⟩
        rw [unhide HS]
        have HF5 := hide ((unhide HF4).trans0 hf5)
        have HO5 := hide ((unhide HO3).fr hf5)
        have HW5 := hide (show w5.ownsRow w1.heap.size 3 1 (.slice (some ⟨gq, 0, none⟩) (L0 + 1) cap) (L0 + 1) (stI ((s0, x0) :: st0)) from by
          have := ownsRow_fr (unhide HW3) hf5 (by simp)
          rw [List.length_cons, hL0] at this
          exact this)
        have hb5 : w1.heap.size ≤ w5.heap.size := Nat.le_trans (Nat.le_trans q1 (Nat.le_of_lt q2)) (Nat.le_trans (unhide HF3).size hf5.size)
        have hww := (unhide HO1).1
        have hrow : ∀ (L c k : Nat), (Value.slice (some ⟨gq, 0, none⟩) L c).ownBlock = some k → k = gq := fun _ _ _ hk => (Option.some.inj hk).symm
        have hnn : ¬ ((j : Nat) : Int) < 0 := by omega
        clear hf5
        go_wp2_with (first
          | (go_at_call 10; refine (l_num _ _).mono ?_; rintro e wq ⟨rfl, hwq⟩; rw [hwq]; clear hwq)
          | (at_builtin; refine wpList_append_lies _ rfl (.tmp 147) (.tmp 149) 35 rfl w1.heap.size 3 i0 _ 1 8 Tryd.underlying35 hi0 hz0 hz1 hz2 rfl (by omega) (.slice (some ⟨gq, 0, none⟩) (L0 + 1) cap) (L0 + 1) (stI ((s0, x0) :: st0)) rfl (by exact (unhide HW5).alloc _) _ 1 1 [.int .i64 (j : Nat)] rfl rfl (World.news_of_block (cs := #[.int .i64 (j : Nat)]) (t := 3) (fr := (0, 0)) (heap_alloc_new _ _)) (by simp [Value.oneCell']) (by omega) (by unfold maxLen; omega) (by omega) (by simp; omega) _ rfl ?_; intro g2 cap2 w6 hown6 hgrow6 hat6 hlt6; have HF6 := hide (((unhide HF5).alloc _).of_grown hgrow6 (fun k hk => Or.inr (by rw [hrow _ _ k hk]; omega))); have HO6 := hide (OpAt.grown (OpAt.fr (unhide HO5) ((Fr.refl [] w5).alloc _)) hgrow6 (fun e => by have := hrow _ _ _ e.symm; omega)); have HW6 := hide hown6; clear hown6 hgrow6 hat6 hlt6))
        refine ⟨⟨(j, [nxS s i]) :: (s0, x0) :: st0, i + 1, m, HN, by omega, by omega, by simp only [List.length_cons]; omega, by go_num, by go_num, HO6, HF6, hide (by rw [stI_cons, List.length_cons, List.length_cons, hL0]; exact unhide HW6)⟩, by simp [intOf]; omega⟩
      · have hlL : pt.length + st1.length = L0 := by
          have := congrArg List.length he
          rw [List.length_cons, hL0, List.length_append, List.length_cons] at this
          omega
        obtain ⟨A, hAA⟩ : ∃ A, actT (rul (parse g 8 0 []).1) r s0 (nxS s i) = A := ⟨_, rfl⟩
        have hA' : A = ⟨#[UInt8.ofNat (48 + kk)]⟩ := hAA.symm.trans hA
        have h1z : A.size = 1 := by rw [hA']; rfl
        have h1e : A.toList.isEmpty = false := str_some3 (by omega)
        have hAl : A.toList = [UInt8.ofNat (48 + kk)] := by rw [hA']; exact Go.ByteArray.toList_mk [UInt8.ofNat (48 + kk)]
        have h48 : (A.toList == [48]) = false := by
          rw [hAl]
          rcases (show kk = 1 ∨ kk = 2 ∨ kk = 3 ∨ kk = 4 ∨ kk = 5 ∨ kk = 6 ∨ kk = 7 ∨ kk = 8 by omega) with rfl | rfl | rfl | rfl | rfl | rfl | rfl | rfl <;> rfl
        have h115 : (A.toList == [115]) = false := by
          rw [hAl]
          rcases (show kk = 1 ∨ kk = 2 ∨ kk = 3 ∨ kk = 4 ∨ kk = 5 ∨ kk = 6 ∨ kk = 7 ∨ kk = 8 by omega) with rfl | rfl | rfl | rfl | rfl | rfl | rfl | rfl <;> rfl
        have hA0 : ((A[0]'(by omega)).toNat : Int) = ((48 + kk : Nat) : Int) := by
          rw [← ch_eq A 0 (by omega), hA', ch_one (by omega)]
        rw [hAA]
        clear hA hA' hAA hAl
        have m4 := (unhide HO3).2.1
        obtain ⟨ht32, hpp⟩ := gErr_zero (unhide HD).gerr
        obtain ⟨c, hc⟩ : ∃ c, (rget (rul (parse g 8 0 []).1) kk).L = c := ⟨_, rfl⟩
        obtain ⟨R, hR⟩ : ∃ R, (rget (rul (parse g 8 0 []).1) kk).R = R := ⟨_, rfl⟩
        have hcb := bigB_iff.1 (hc ▸ (unhide HD).rd.tab.cl.big kk k1 kL)
        rw [hR] at hpl
        rw [hc] at hj
        have HRt := hide (show ∀ w, Calls Tryd.prog 13 #[.string g, .int .i64 (kk : Nat)] w fun e w' => e = .returned (.tuple #[.string ⟨#[UInt8.ofNat c]⟩, .string R]) ∧ (∃ n, w' = w.drewN n) from fun w => by
          have := l_rightQ g kk w hpp ht32 k1 kL (by omega)
          rw [hc, hR] at this
          exact this)
        have HS := hide (show stepV (s1 : Int) ⟨#[UInt8.ofNat c]⟩ (tabR g) = (((j : Nat) : Int), 0) from by
          rw [(unhide HD).hr, stepV_of hs1 (by unfold letB; rw [bigB_iff.2 hcb]; rfl) (by omega), hj])
        obtain ⟨L1, hL1⟩ : ∃ L1, st1.length = L1 := ⟨_, rfl⟩
        rw [hL1] at hlL
        have HWc := hide (show w3.ownsRow w1.heap.size 3 1 (.slice (some ⟨gq, 0, none⟩) (L1 + 1) cap) (L1 + 1) (stI ((s1, xs) :: st1)) from by
          have := unhide HW3
          rw [he, stI_app] at this
          rw [← he, List.length_cons, hL0] at this
          exact ownsRow_take1 this (by rw [stI_len, List.length_cons, hL1]) (by omega))
        have HN := hide hN
        have hRz : R.size ≤ L0 := by omega
        have f1 : ¬ (L0 : Int) + 1 ≤ R.size := by omega
        have f2 : IntKind.i64.wrap ((L0 : Int) + 1 - R.size) = (L1 : Int) + 1 := by rw [IntKind.wrap_i64]; omega
        have f3 : (0 : Int) ≤ (L1 : Int) + 1 := by omega
        have f4 : (L1 : Int) + 1 ≤ (cap : Int) := by omega
        have f5 : IntKind.i64.wrap ((L1 : Int) + 1 - 1) = L1 := by rw [IntKind.wrap_i64]; omega
        have f6 : IntKind.i64.wrap (L1 : Int) = L1 := by rw [IntKind.wrap_i64]; omega
        have hHpl := hide hpl
        have hHlL := hide hlL
        have q7 : w3.cell? ⟨gq, L1, none⟩ = some (.int .i64 (s1 : Nat)) := row_cell (unhide HWc) (by
          rw [stI_cons, List.getElem?_append_right (by rw [stI_len, hL1]; exact Nat.le_refl _), stI_len, hL1, Nat.sub_self]; rfl)
        clear hj hN hc hR hpp ht32 he hpl hlL hRz hL0
        go_wp2_with (first
          | (go_at_call 10; refine (l_num _ _).mono ?_; rintro e wq ⟨rfl, hwq⟩; rw [hwq]; clear hwq)
          | (go_at_call 13; fail))
        go_quiet ((go_at_call 13; (first | rw [show (48 + (kk : Int) - 48) = ((kk : Nat) : Int) from by omega] | skip); exact Calls.quiet_of (unhide HRt _)))
        have HF5n := hide (fun n => fr_drewN w3 n)
        go_wp2_with (first
          | (go_at_call 10; refine (l_num _ _).mono ?_; rintro e wq ⟨rfl, hwq⟩; rw [hwq]; clear hwq)
          | (go_at_call 14; fail))
        refine (p_StepV g (s1 : Int) ⟨#[UInt8.ofNat c]⟩ _ hg).mono ?_
        rintro e w5 ⟨rfl, hf5'⟩
        rw [unhide HS]
        have hf5 := (unhide HF5n _).trans0 hf5'
        have HF5 := hide ((unhide HF4).trans0 hf5)
        have HO5 := hide ((unhide HO3).fr hf5)
        have HW5 := hide (ownsRow_fr (unhide HWc) hf5 (by simp))
        have hb5 : w1.heap.size ≤ w5.heap.size := Nat.le_trans (Nat.le_trans q1 (Nat.le_of_lt q2)) (Nat.le_trans (unhide HF3).size hf5.size)
        have hww := (unhide HO1).1
        have hrow : ∀ (L c k : Nat), (Value.slice (some ⟨gq, 0, none⟩) L c).ownBlock = some k → k = gq := fun _ _ _ hk => (Option.some.inj hk).symm
        have hnn : ¬ ((j : Nat) : Int) < 0 := by omega
        have hlb : L1 ≤ 9000 := by have := unhide hHlL; omega
        clear hf5 hf5' m4 q6 q7
        go_wp2_with (first
          | (go_at_call 10; refine (l_num _ _).mono ?_; rintro e wq ⟨rfl, hwq⟩; rw [hwq]; clear hwq)
          | (at_builtin; refine wpList_append_lies _ rfl (.tmp 147) (.tmp 149) 35 rfl w1.heap.size 3 i0 _ 1 8 Tryd.underlying35 hi0 hz0 hz1 hz2 rfl (by omega) (.slice (some ⟨gq, 0, none⟩) (L1 + 1) cap) (L1 + 1) (stI ((s1, xs) :: st1)) rfl (by exact (unhide HW5).alloc _) _ 1 1 [.int .i64 (j : Nat)] rfl rfl (World.news_of_block (cs := #[.int .i64 (j : Nat)]) (t := 3) (fr := (0, 0)) (heap_alloc_new _ _)) (by simp [Value.oneCell']) (by omega) (by unfold maxLen; omega) (by omega) (by simp; omega) _ rfl ?_; intro g2 cap2 w6 hown6 hgrow6 hat6 hlt6; have HF6 := hide (((unhide HF5).alloc _).of_grown hgrow6 (fun k hk => Or.inr (by rw [hrow _ _ k hk]; omega))); have HO6 := hide (OpAt.grown (OpAt.fr (unhide HO5) ((Fr.refl [] w5).alloc _)) hgrow6 (fun e => by have := hrow _ _ _ e.symm; omega)); have HW6 := hide hown6; clear hown6 hgrow6 hat6 hlt6))
        refine ⟨⟨(j, nodeT kk (txt pt)) :: (s1, xs) :: st1, i, m + 1, HN, by omega, by omega, by (have := unhide hHlL; simp only [List.length_cons, hL1]; omega), rfl, by go_num, HO6, HF6, hide (by rw [stI_cons, List.length_cons, List.length_cons, hL1]; exact unhide HW6)⟩, by simp [intOf]; omega⟩
theorem l_driven (k n : Int) (g s : ByteArray) (w : World) (hg : g.size ≤ 9223372036854775807) (hs : s.size ≤ 9223372036854775807) :
    Calls Tryd.prog 7 #[.agg #[.int .i64 k, .int .i64 n, .string g, .string s]] w fun e w' => e = .returned (.bool true) ∧ Fr [] w w' := by
  by_cases h0 : errT g s = 0
  · exact l_driven_good k n g s w hg hs h0
  · exact l_driven_bad k n g s w hg hs h0

set_option maxRecDepth 100000 in
set_option maxHeartbeats 1600000 in
theorem l_Driven (ao : Option Addr) (len cap : Nat) (w : World) (h : ScriptOk w ao len) :
    Calls Tryd.prog 4 #[.slice ao len cap] w fun e w' => e = .returned (.bool true) ∧ Fr [] w w' := by
  have H := hide h
  have hlen := h.1
  clear h
  go_enter Tryd.func4, Tryd.ntmps4
  go_wp2
  go_loopw [3] (fun a wr => ∃ i : Nat, i ≤ len ∧ a = .int .i64 i ∧ Hid (Fr [] w wr)) (fun a _ => len - (intOf a).toNat)
  case atStart => exact ⟨0, by omega, rfl, Fr.refl _ _⟩
  case round =>
    obtain ⟨i, hi, rfl, hf⟩ := hrel
    by_cases hlt : i < len
    · obtain ⟨b, off, rfl, hb, k, n, g, s, hg, hs, c0, c1, c2, c3⟩ := ((unhide H).fr (unhide hf)).2 i hlt
      have hbig : (i : Int) < 1152921504606846976 := by omega
      go_wp2_with (go_at_call 7; refine (l_driven k n g s _ hg hs).mono ?_; rintro e w2 ⟨rfl, hf2⟩; have HF2 := hide ((unhide hf).trans0 hf2); clear hf2)
      go_roundw
      case rel => exact ⟨i + 1, by omega, by go_num, HF2⟩
      case measure => simp [intOf]; omega
    · go_wp2
      go_ret
      exact ⟨rfl, unhide hf⟩
end Go.Proofs.YtkglggkkbmmjkaaDoor

namespace Go.Proofs.YtkglggkkbmmjkaaDoor
open Go.ChangeShapes Go.WideShapes Go.ChangeAt Go.WideMaps Go.WideElems Go.RowKit

/-- the door's own heap is laid as the rows say -/
theorem door_met (os : Os) (args : Array Value) : laidMetH Tryd.prog Rows.speltRow.laid ((World.doorLaid Tryd.prog 400 os).forCall (fun _ _ => 0) ⟨#[], args, []⟩).memory :=
  laidMetH_of_parts3 (fuel := 8) (laidMet_of_run' 8 (by kernel_rfl) (by kernel_rfl)) (by kernel_rfl) (by kernel_rfl)
end Go.Proofs.YtkglggkkbmmjkaaDoor

namespace Go.Proofs.YtkglggkkbmmjkaaDoor
open Go.ChangeShapes Go.WideShapes Go.ChangeAt Go.RowKit Go.Deep

set_option maxRecDepth 100000 in
theorem driven_lifted (os : Os) (started : os.Started) (H : Type) (enc : TypeId × Value → H) :
    ReturnsInHanded {} Tryd.checked os 4 .any (fun w args => (Rows.drivenSpec.pre enc Tryd.prog Tryd.f4 [] false w args ∧ laidMetH Tryd.prog Rows.drivenRow.laid w) ∧ sizedMet enc Tryd.prog Tryd.f4 (OpenSpec.ofChange Rows.drivenSpec) false w args) (Rows.drivenSpec.post enc Tryd.prog Tryd.f4 false true false false) := by
  refine returnsInHanded_of_change_and (C := Tryd.checked) (X := fun w _ => laidMetH Tryd.prog Rows.drivenRow.laid w) (fun _ _ _ hh h => h.of_heap hh) Tryd.own started (by kernel_rfl) Tryd.func4
    (ChangeSpec.witness_shaped (enc := enc) (C := Tryd.checked) (os := os) (X := fun w _ => laidMetH Tryd.prog Rows.drivenRow.laid w) false (World.doorLaid Tryd.prog 400 os) #[.slice none 0 0] 8 rfl (World.shaped_of_RefB (by kernel_rfl) (by kernel_rfl)) (by kernel_rfl) (by kernel_rfl) (by kernel_rfl) (door_met os _)) ?_
  intro W base args ds gs before hval0 hW _ hsz0 _ _
  have hval : ∀ (j : Nat) t v, Tryd.f4.params[j]? = some t → args[j]? = some v → Value.okWide Tryd.prog W .any base t v := hval0
  have hsz : (DataW.weightsEach Tryd.prog (Tryd.f4.params.toList ++ Rows.drivenSpec.plain.varTypes Tryd.prog) (ds ++ gs)).all (· ≤ reachBytes) = true := hsz0
  have hW' := hW
  obtain ⟨p, q, hA0, hV, rfl, _, _⟩ := hW
  have hA : DataW.TrodAll enc Tryd.prog W 0 (fun _ => true) true Tryd.f4.params.toList args.toList ds p := hA0
  rw [Tryd.params4] at hA hval hsz
  obtain ⟨v0, d0, rfl, rfl, h0⟩ := trodAll_one hA
  obtain ⟨rfl, rfl⟩ := trodVars_none hV
  obtain ⟨a0, len, cap, rfl⟩ := okWide_slice Tryd.underlying22 (hval 0 22 v0 rfl rfl)
  have h0k := h0
  obtain ⟨fuel, hf⟩ := h0
  clear hA0 hval0
  simp only [List.append_nil] at hW'
  have hlt : ∀ x ∈ p, x.block < W.heap.size := fun x hx => by simpa using hW'.lt x hx
  have hok : ScriptOk W a0 len := open_script (by simpa [Value.cells] using hf) hsz
  refine (l_Driven a0 len cap W hok).mono fun e W' ⟨he, hfr⟩ => ?_
  subst he
  refine ⟨_, rfl, _, _, _, [], p, [], hW', ?_, ?_, rfl, hfr.below.frame _, fun h => by cases h⟩
  · exact trodAll_mk1 (shut_bool Tryd.underlying4 true)
  · exact trodAll_mk1 (Below.trod Tryd.laidOut (by kernel_rfl) (of_decide_eq_true (by kernel_rfl)) h0k hfr.below hlt)

theorem driven_row : Rows.DrivenSaid :=
  OpenClaim.holds_of_wide 4 Tryd.f4 rfl rfl rfl rfl rfl rfl rfl ⟨rfl, rfl, rfl, rfl, rfl⟩ rfl rfl rfl rfl rfl (by kernel_rfl) Tryd.func4 (by kernel_rfl)
    (of_decide_eq_true (by kernel_rfl)) (by unfold Func.isWrapper; first | (rw [if_pos (by decide +kernel)]; kernel_rfl) | (rw [if_neg (by decide +kernel)]; exact ⟨rfl, rfl⟩))
    (fun os started H enc _ => driven_lifted os started H enc)

theorem driven_holds : Rows.DrivenCardSaid :=
  Claim7.holds_tied_plain_at .later [] [.data, .data, .data] true (true, "c61e0e890a1174e657b10fbbbe035a99ca8321bc10a4a9edf1f60933d05106c6") false
    driven_row (fun _ h => by cases h) (by kernel_rfl) (fun _ h => by cases h) driven_row_tie rfl ⟨rfl, rfl⟩ (by kernel_rfl) rfl
    (fun f fn hf hfn => by
      obtain rfl : f = 4 := Option.some.inj ((show Tryd.prog.funcNamed "lrgen/lrgenlaw.Driven" = some 4 by kernel_rfl).symm.trans hf) |>.symm
      obtain rfl : fn = Tryd.f4 := (Option.some.inj (Tryd.func4.symm.trans hfn)).symm
      exact ⟨by kernel_rfl, fun j t ht => by
        rw [Tryd.params4] at ht
        have hm : t ∈ [22] := by simpa using Array.mem_of_getElem? ht
        have hall : ([22].all fun u => !Tryd.prog.wantsStandIn u) = true := by kernel_rfl
        exact (show Tryd.prog.wantsStandIn t = false by simpa using List.all_eq_true.1 hall t hm)⟩)
    (by kernel_rfl)

#print axioms driven_holds
end Go.Proofs.YtkglggkkbmmjkaaDoor
