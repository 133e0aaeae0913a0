import Derived.Test.YtkglggkkbmmjkaaDoorE9LSp2
import Derived.Test.YtkglggkkbmmjkaaDoorE45Laid
import Derived.Test.YtkglggkkbmmjkaaDoorE37LSp4
import Derived.Test.YtkglggkkbmmjkaaDoorE8Scr
namespace Go.Proofs.YtkglggkkbmmjkaaDoor
open Go.ChangeShapes Go.WideShapes Go.ChangeAt Go.RowKit Go.Deep

set_option maxRecDepth 100000 in
theorem spelt_lifted (os : Os) (started : os.Started) (H : Type) (enc : TypeId × Value → H) :
    ReturnsInHanded {} Tryd.checked os 3 .any (fun w args => (Rows.speltSpec.pre enc Tryd.prog Tryd.f3 [] false w args ∧ laidMetH Tryd.prog Rows.speltRow.laid w) ∧ sizedMet enc Tryd.prog Tryd.f3 (OpenSpec.ofChange Rows.speltSpec) false w args) (Rows.speltSpec.post enc Tryd.prog Tryd.f3 false true false false) := by
  refine returnsInHanded_of_change_and (C := Tryd.checked) (X := fun w _ => laidMetH Tryd.prog Rows.speltRow.laid w) (fun _ _ _ hh h => h.of_heap hh) Tryd.own started (by kernel_rfl) Tryd.func3
    (ChangeSpec.witness_shaped (enc := enc) (C := Tryd.checked) (os := os) (X := fun w _ => laidMetH Tryd.prog Rows.speltRow.laid w) false (World.doorLaid Tryd.prog 400 os) #[.slice none 0 0] 8 rfl (World.shaped_of_RefB (by kernel_rfl) (by kernel_rfl)) (by kernel_rfl) (by kernel_rfl) (by kernel_rfl) (door_met os _)) ?_
  intro W base args ds gs before hval0 hW _ hsz0 _ _
  have hval : ∀ (j : Nat) t v, Tryd.f3.params[j]? = some t → args[j]? = some v → Value.okWide Tryd.prog W .any base t v := hval0
  have hsz : (DataW.weightsEach Tryd.prog (Tryd.f3.params.toList ++ Rows.speltSpec.plain.varTypes Tryd.prog) (ds ++ gs)).all (· ≤ reachBytes) = true := hsz0
  have hW' := hW
  obtain ⟨p, q, hA0, hV, rfl, _, _⟩ := hW
  have hA : DataW.TrodAll enc Tryd.prog W 0 (fun _ => true) true Tryd.f3.params.toList args.toList ds p := hA0
  rw [Tryd.params3] at hA hval hsz
  obtain ⟨v0, d0, rfl, rfl, h0⟩ := trodAll_one hA
  obtain ⟨rfl, rfl⟩ := trodVars_none hV
  obtain ⟨a0, len, cap, rfl⟩ := okWide_slice Tryd.underlying22 (hval 0 22 v0 rfl rfl)
  have h0k := h0
  obtain ⟨fuel, hf⟩ := h0
  clear hA0 hval0
  simp only [List.append_nil] at hW'
  have hlt : ∀ x ∈ p, x.block < W.heap.size := fun x hx => by simpa using hW'.lt x hx
  have hok : ScriptOk W a0 len := open_script (by simpa [Value.cells] using hf) hsz
  refine (l_Spelt a0 len cap W hok).mono fun e W' ⟨he, hfr⟩ => ?_
  subst he
  refine ⟨_, rfl, _, _, _, [], p, [], hW', ?_, ?_, rfl, hfr.below.frame _, fun h => by cases h⟩
  · exact trodAll_mk1 (shut_bool Tryd.underlying4 true)
  · exact trodAll_mk1 (Below.trod Tryd.laidOut (by kernel_rfl) (of_decide_eq_true (by kernel_rfl)) h0k hfr.below hlt)

theorem spelt_row : Rows.SpeltSaid :=
  OpenClaim.holds_of_wide 3 Tryd.f3 rfl rfl rfl rfl rfl rfl rfl ⟨rfl, rfl, rfl, rfl, rfl⟩ rfl rfl rfl rfl rfl (by kernel_rfl) Tryd.func3 (by kernel_rfl)
    (of_decide_eq_true (by kernel_rfl)) (by unfold Func.isWrapper; first | (rw [if_pos (by decide +kernel)]; kernel_rfl) | (rw [if_neg (by decide +kernel)]; exact ⟨rfl, rfl⟩))
    (fun os started H enc _ => spelt_lifted os started H enc)

theorem spelt_holds : Rows.SpeltCardSaid :=
  Claim7.holds_tied_plain_at .later [] [.data, .data, .data] true (true, "c61e0e890a1174e657b10fbbbe035a99ca8321bc10a4a9edf1f60933d05106c6") false
    spelt_row (fun _ h => by cases h) (by kernel_rfl) (fun _ h => by cases h) spelt_row_tie rfl ⟨rfl, rfl⟩ (by kernel_rfl) rfl
    (fun f fn hf hfn => by
      obtain rfl : f = 3 := Option.some.inj ((show Tryd.prog.funcNamed "lrgen/lrgenlaw.Spelt" = some 3 by kernel_rfl).symm.trans hf) |>.symm
      obtain rfl : fn = Tryd.f3 := (Option.some.inj (Tryd.func3.symm.trans hfn)).symm
      exact ⟨by kernel_rfl, fun j t ht => by
        rw [Tryd.params3] at ht
        have hm : t ∈ [22] := by simpa using Array.mem_of_getElem? ht
        have hall : ([22].all fun u => !Tryd.prog.wantsStandIn u) = true := by kernel_rfl
        exact (show Tryd.prog.wantsStandIn t = false by simpa using List.all_eq_true.1 hall t hm)⟩)
    (by kernel_rfl)

#print axioms spelt_holds
end Go.Proofs.YtkglggkkbmmjkaaDoor

namespace Go.Proofs.YtkglggkkbmmjkaaDoor
open Go.RowKit


set_option maxHeartbeats 1000000 in
theorem l_within (s : ByteArray) (c : Nat) (w : World) (hs : s.size ≤ 1000) :
    Calls Tryd.prog 16 #[.string s, .int .u8 c] w fun e w' => e = .returned (.bool (inB s c)) ∧ w' = w := by
  go_enter Tryd.func16, Tryd.ntmps16
  go_wp2
  go_loop [5] (fun i => ∃ k : Nat, k ≤ s.size ∧ i = .int .i64 k ∧ Hid (((bytes s).take k).any (· == c) = false)) (fun i => s.size - (intOf i).toNat)
  case atStart => exact ⟨0, by omega, rfl, rfl⟩
  case round =>
    obtain ⟨k, hk, rfl, hd⟩ := hrel
    by_cases hlt : k < s.size
    · have hch := hide (ch_eq s k hlt)
      have HM := hide (show ((bytes s).take (k + 1)).any (· == c) = (s[k].toNat == c) from by
        rw [bytes_snoc s k hlt, List.any_append, unhide hd, unhide hch]; simp)
      clear hd
      by_cases hc : s[k].toNat = c
      · have HE := hide (show inB s c = true from by
          unfold inB
          rw [← List.take_append_drop (k + 1) (bytes s), List.any_append, unhide HM]; simp [hc])
        clear HM
        have h1 : (((s[k].toNat : Int)) == (c : Int)) = true := by rw [hc]; simp
        go_wp2
        go_ret
        exact ⟨ret_bool (a := true) (unhide HE).symm, rfl⟩
      · have HN := hide (show ((bytes s).take (k + 1)).any (· == c) = false from (unhide HM).trans (by simp [hc]))
        clear HM
        have h1 : (((s[k].toNat : Int)) == (c : Int)) = false := by rw [beq_eq_false_iff_ne]; omega
        go_wp2
        go_round
        case rel => exact ⟨k + 1, by omega, by go_num, HN⟩
        case measure => simp [intOf]; omega
    · have HE := hide (show inB s c = false from by unfold inB; rw [← bytes_take_all s k (by omega)]; exact unhide hd)
      go_wp2
      go_ret
      exact ⟨ret_bool (a := false) (unhide HE).symm, rfl⟩

end Go.Proofs.YtkglggkkbmmjkaaDoor

namespace Go.Proofs.YtkglggkkbmmjkaaDoor
open Go.RowKit

theorem TreeO.bad {t s y : ByteArray} {x : Nat} (h : TreeO t s y x) (h0 : errT t s ≠ 0) : x = errT t s ∧ y = ⟨#[]⟩ := by
  rcases h with ⟨_, h1, h2⟩ | ⟨h1, _⟩
  · exact ⟨h1, h2⟩
  · exact absurd h1 h0
theorem StopO.bad {t s y : ByteArray} {p x : Nat} (h : StopO t s p y x) (h0 : errT t s ≠ 0) : x = errT t s ∧ p = 0 ∧ y = ⟨#[]⟩ := by
  rcases h with ⟨_, h1, h2, h3⟩ | ⟨h1, _⟩
  · exact ⟨h1, h2, h3⟩
  · exact absurd h1 h0

set_option maxHeartbeats 1600000 in
theorem l_grown_bad (k n : Int) (g s : ByteArray) (w : World) (hg : g.size ≤ 9223372036854775807) (hs : s.size ≤ 9223372036854775807) (h0 : errT g s ≠ 0) :
    Calls Tryd.prog 8 #[.agg #[.int .i64 k, .int .i64 n, .string g, .string s]] w fun e w' => e = .returned (.bool true) ∧ Fr [] w w' := by
  obtain ⟨z, hz⟩ : ∃ z, errT g s = z := ⟨_, rfl⟩
  have HZ := hide hz
  have hz0 : ((z : Int) != 0) = true := by rw [bne_iff_ne]; omega
  have H0 := hide h0
  clear h0 hz
  go_enter Tryd.func8, Tryd.ntmps8
  go_wp2_with (first
    | (go_at_call 15; refine (p_Stop g s _ hg hs).mono ?_; rintro e w1 ⟨hf1, p, y, x, rfl, hO⟩; obtain ⟨rfl, rfl, rfl⟩ := hO.bad (unhide H0); rw [unhide HZ]; have HO1 := hide (show OpAt w1 w.heap.size g s from OpAt.fr (by exact ⟨by simp, by simp, by simp⟩) hf1); have k2 := (unhide HO1).2.1; have k3 := (unhide HO1).2.2; have HF1 := hide (((Fr.refl [] w).alloc _).trans0 hf1); clear hf1 hO)
    | (go_at_call 9; refine (p_Tree g s _ hg hs).mono ?_; rintro e w2 ⟨hf2, y2, x2, rfl, hO2⟩; obtain ⟨rfl, rfl⟩ := hO2.bad (unhide H0); rw [unhide HZ]; have HF2 := hide ((unhide HF1).trans0 hf2); clear hf2 hO2)
    | (go_at_call 10; refine (l_num _ _).mono ?_; rintro e w3 ⟨rfl, rfl⟩))
  go_ret
  exact ⟨by simp, unhide HF2⟩

theorem str_some2 {y : ByteArray} (h : 0 < y.size) : y.toList.isEmpty = false := by
  rw [List.isEmpty_eq_false_iff, ne_eq, ← List.length_eq_zero_iff, Go.ByteArray.toList_eq, Array.length_toList]
  exact Nat.ne_of_gt h
set_option maxRecDepth 100000 in
set_option maxHeartbeats 12000000 in
theorem l_grown_good (k n : Int) (g s : ByteArray) (w : World) (hg : g.size ≤ 9223372036854775807) (hs : s.size ≤ 9223372036854775807) (h0 : errT g s = 0) :
    Calls Tryd.prog 8 #[.agg #[.int .i64 k, .int .i64 n, .string g, .string s]] w fun e w' => e = .returned (.bool true) ∧ Fr [] w w' := by
  have H0 := hide h0
  clear h0
  go_enter Tryd.func8, Tryd.ntmps8
  go_wp2_with fail
  refine (p_Stop g s _ hg hs).mono ?_
  rintro e w1 ⟨hf1, p, y, x, rfl, hO⟩
  obtain ⟨rfl, hG⟩ := grO (unhide H0) hO
  have HG := hide hG
  have hp := hG.le
  have h12 := hG.le12
  have hys := str_some2 hG.some_
  have hyz := hG.sz
  have HO1 := hide (show OpAt w1 w.heap.size g s from OpAt.fr (by exact ⟨by simp, by simp, by simp⟩) hf1)
  have k2 := (unhide HO1).2.1
  have k3 := (unhide HO1).2.2
  have HF1 := hide (((Fr.refl [] w).alloc _).trans0 hf1)
  clear hf1 hO hG
  go_wp2_with fail
  refine (p_Tree g s _ hg hs).mono ?_
  rintro e w2 ⟨hf2, y2, x2, rfl, _⟩
  have HF2 := hide ((unhide HF1).trans0 hf2)
  have HO2 := hide ((unhide HO1).fr hf2)
  clear hf2 k2 k3 HO1 HF1
  have k2 := (unhide HO2).2.1
  have k3 := (unhide HO2).2.2
  have hp0 : ¬ (p : Int) < 0 := by omega
  have hpl : ¬ (s.size : Int) < p := by omega
  obtain ⟨gd, hgd⟩ : ∃ gd, s.extract 0 p = gd := ⟨_, rfl⟩
  have hgz : gd.size = p := by rw [← hgd, ByteArray.size_extract]; omega
  have key : ∀ (w3 : World), Fr [] w2 w3 → OpAt w3 w.heap.size g s := fun w3 hf => (unhide HO2).fr hf
  by_cases hlt : p < s.size
  case' pos =>
    have hin : inB y s[p].toNat = false := by rw [← ch_eq s p hlt]; exact (unhide HG).not_ hlt
    have hli : (p : Int) < s.size := by omega
    go_wp2_with (first
      | (go_at_call 10; refine (l_num _ _).mono ?_; rintro e w3 ⟨rfl, hw3⟩; rw [hw3]; clear hw3)
      | (go_at_call 16; refine (l_within y s[p].toNat _ hyz).mono ?_; rintro e w3 ⟨rfl, hw3⟩; rw [hw3, hin]; clear hw3)
      | (go_at_call 9; fail))
  case' neg =>
    have hli : ¬ (p : Int) < s.size := by omega
    go_wp2_with (first
      | (go_at_call 10; refine (l_num _ _).mono ?_; rintro e w3 ⟨rfl, hw3⟩; rw [hw3]; clear hw3)
      | (go_at_call 9; fail))
  all_goals
    refine (p_Tree g gd _ hg (by omega)).mono ?_
    rintro e w3 ⟨hf3, y3, x3, rfl, hO3⟩
    rw [← hgd] at hO3
    have hT := (unhide HG).tree y3 x3 hO3
    have HF3 := hide ((unhide HF2).trans0 hf3)
    have HO3 := hide ((unhide HO2).fr hf3)
    clear hf3 hO3 k2 k3
    have HD := hide hgd
    clear hgd key
    obtain ⟨b6, h6⟩ : ∃ b6, inB y 36 = b6 := ⟨_, rfl⟩
    have hx3 : (((x3 : Nat) : Int) == 0) = b6 := by
      rcases hT with ⟨rfl, e⟩ | ⟨rfl, e⟩
      · rw [← h6, e]; rfl
      · rw [← h6, e]; rfl
    clear hT
    by_cases hpe : p = 12
    · have hz12 : ((p : Int) == 12) = true := by rw [beq_iff_eq]; omega
      go_wp2_with (first
        | (go_at_call 10; refine (l_num _ _).mono ?_; rintro e wq ⟨rfl, hwq⟩; rw [hwq]; clear hwq)
        | (go_at_call 16; refine (l_within y 36 _ hyz).mono ?_; rintro e wq ⟨rfl, hwq⟩; rw [hwq, h6]; clear hwq))
      go_ret
      exact ⟨rfl, unhide HF3⟩
    · have hz12 : ((p : Int) == 12) = false := by rw [beq_eq_false_iff_ne]; omega
      go_wp2_with (first
        | (go_at_call 10; refine (l_num _ _).mono ?_; rintro e wq ⟨rfl, hwq⟩; rw [hwq]; clear hwq)
        | (go_at_call 16; refine (l_within y 36 _ hyz).mono ?_; rintro e wq ⟨rfl, hwq⟩; rw [hwq, h6]; clear hwq))
      go_loopw [13] (fun v wr => ∃ c : Nat, 97 ≤ c ∧ c ≤ 123 ∧ v = .int .i64 c ∧ Hid (OpAt wr w.heap.size g s) ∧ Hid (Fr [] w wr)) (fun v _ => 123 - (intOf v).toNat)
      case atStart => exact ⟨97, by omega, by omega, rfl, HO3, HF3⟩
      case round =>
        obtain ⟨c, c1, c2, rfl, hO, hF⟩ := hrel
        by_cases hcl : c ≤ 122
        · have m2 := (unhide hO).2.1
          have mA : ∀ o, (wr.alloc o).cell? ⟨w.heap.size, 2, none⟩ = some (.string g) := fun o => (OpAt.fr (unhide hO) ((Fr.refl [] wr).alloc o)).2.1
          have hmod : (c : Int) % 256 = c := by omega
          go_wp2_with (first
            | (refine wpList_str_one rfl 44 9 5 (.tmp 109) rfl wr.heap.size 1 c (by omega) Tryd.underlying44 Tryd.underlying5 Tryd.underlying9 rfl (by simp) ?_)
            | (go_at_call 15; fail))
          obtain ⟨gx, hgx⟩ : ∃ gx, gd ++ (⟨#[UInt8.ofNat c]⟩ : ByteArray) = gx := ⟨_, rfl⟩
          rw [hgx]
          have hcc : gx.size = p + 1 := by rw [← hgx, ByteArray.size_append, hgz]; rfl
          refine (p_Stop g gx _ hg (by omega)).mono ?_
          rintro e w5 ⟨hf5, q, y5, x5, rfl, hO5⟩
          rw [← hgx, ← unhide HD] at hO5
          clear hgx
          obtain ⟨rfl, hq⟩ := (unhide HG).more (by omega) c (smallB_iff.2 ⟨c1, hcl⟩) q y5 x5 hO5
          have HF5 := hide (((unhide hF).alloc _).trans0 hf5)
          have HO5 := hide (show OpAt w5 w.heap.size g s from (OpAt.fr (unhide hO) ((Fr.refl [] wr).alloc _)).fr hf5)
          clear hf5 hO5 hcc m2 mA
          rcases hq with ⟨hi, hqe⟩ | ⟨hi, hqe⟩
          all_goals
            rw [hqe]
            clear hqe
            have e1 : ((p : Int) == (p : Int) + 1) = false := by rw [beq_eq_false_iff_ne]; omega
            have e2 : ((p : Int) + 1 == (p : Int)) = false := by rw [beq_eq_false_iff_ne]; omega
            go_wp2_with (first
              | (go_at_call 10; refine (l_num _ _).mono ?_; rintro e wq ⟨rfl, hwq⟩; rw [hwq]; clear hwq)
              | (go_at_call 16; refine (l_within y c _ hyz).mono ?_; rintro e wq ⟨rfl, hwq⟩; rw [hwq, hi]; clear hwq))
            go_roundw
            case rel => exact ⟨c + 1, by omega, by omega, by go_num, HO5, HF5⟩
            case measure => simp [intOf]; omega
        · go_wp2
          go_ret
          exact ⟨rfl, unhide hF⟩
theorem l_grown (k n : Int) (g s : ByteArray) (w : World) (hg : g.size ≤ 9223372036854775807) (hs : s.size ≤ 9223372036854775807) :
    Calls Tryd.prog 8 #[.agg #[.int .i64 k, .int .i64 n, .string g, .string s]] w fun e w' => e = .returned (.bool true) ∧ Fr [] w w' := by
  by_cases h0 : errT g s = 0
  · exact l_grown_good k n g s w hg hs h0
  · exact l_grown_bad k n g s w hg hs h0

set_option maxRecDepth 100000 in
set_option maxHeartbeats 1600000 in
theorem l_Grown (ao : Option Addr) (len cap : Nat) (w : World) (h : ScriptOk w ao len) :
    Calls Tryd.prog 5 #[.slice ao len cap] w fun e w' => e = .returned (.bool true) ∧ Fr [] w w' := by
  have H := hide h
  have hlen := h.1
  clear h
  go_enter Tryd.func5, Tryd.ntmps5
  go_wp2
  go_loopw [3] (fun a wr => ∃ i : Nat, i ≤ len ∧ a = .int .i64 i ∧ Hid (Fr [] w wr)) (fun a _ => len - (intOf a).toNat)
  case atStart => exact ⟨0, by omega, rfl, Fr.refl _ _⟩
  case round =>
    obtain ⟨i, hi, rfl, hf⟩ := hrel
    by_cases hlt : i < len
    · obtain ⟨b, off, rfl, hb, k, n, g, s, hg, hs, c0, c1, c2, c3⟩ := ((unhide H).fr (unhide hf)).2 i hlt
      have hbig : (i : Int) < 1152921504606846976 := by omega
      go_wp2_with (go_at_call 8; refine (l_grown k n g s _ hg hs).mono ?_; rintro e w2 ⟨rfl, hf2⟩; have HF2 := hide ((unhide hf).trans0 hf2); clear hf2)
      go_roundw
      case rel => exact ⟨i + 1, by omega, by go_num, HF2⟩
      case measure => simp [intOf]; omega
    · go_wp2
      go_ret
      exact ⟨rfl, unhide hf⟩
end Go.Proofs.YtkglggkkbmmjkaaDoor

namespace Go.Proofs.YtkglggkkbmmjkaaDoor
open Go.ChangeShapes Go.WideShapes Go.ChangeAt Go.RowKit Go.Deep

set_option maxRecDepth 100000 in
theorem grown_lifted (os : Os) (started : os.Started) (H : Type) (enc : TypeId × Value → H) :
    ReturnsInHanded {} Tryd.checked os 5 .any (fun w args => (Rows.grownSpec.pre enc Tryd.prog Tryd.f5 [] false w args ∧ laidMetH Tryd.prog Rows.grownRow.laid w) ∧ sizedMet enc Tryd.prog Tryd.f5 (OpenSpec.ofChange Rows.grownSpec) false w args) (Rows.grownSpec.post enc Tryd.prog Tryd.f5 false true false false) := by
  refine returnsInHanded_of_change_and (C := Tryd.checked) (X := fun w _ => laidMetH Tryd.prog Rows.grownRow.laid w) (fun _ _ _ hh h => h.of_heap hh) Tryd.own started (by kernel_rfl) Tryd.func5
    (ChangeSpec.witness_shaped (enc := enc) (C := Tryd.checked) (os := os) (X := fun w _ => laidMetH Tryd.prog Rows.grownRow.laid w) false (World.doorLaid Tryd.prog 400 os) #[.slice none 0 0] 8 rfl (World.shaped_of_RefB (by kernel_rfl) (by kernel_rfl)) (by kernel_rfl) (by kernel_rfl) (by kernel_rfl) (door_met os _)) ?_
  intro W base args ds gs before hval0 hW _ hsz0 _ _
  have hval : ∀ (j : Nat) t v, Tryd.f5.params[j]? = some t → args[j]? = some v → Value.okWide Tryd.prog W .any base t v := hval0
  have hsz : (DataW.weightsEach Tryd.prog (Tryd.f5.params.toList ++ Rows.grownSpec.plain.varTypes Tryd.prog) (ds ++ gs)).all (· ≤ reachBytes) = true := hsz0
  have hW' := hW
  obtain ⟨p, q, hA0, hV, rfl, _, _⟩ := hW
  have hA : DataW.TrodAll enc Tryd.prog W 0 (fun _ => true) true Tryd.f5.params.toList args.toList ds p := hA0
  rw [Tryd.params5] at hA hval hsz
  obtain ⟨v0, d0, rfl, rfl, h0⟩ := trodAll_one hA
  obtain ⟨rfl, rfl⟩ := trodVars_none hV
  obtain ⟨a0, len, cap, rfl⟩ := okWide_slice Tryd.underlying22 (hval 0 22 v0 rfl rfl)
  have h0k := h0
  obtain ⟨fuel, hf⟩ := h0
  clear hA0 hval0
  simp only [List.append_nil] at hW'
  have hlt : ∀ x ∈ p, x.block < W.heap.size := fun x hx => by simpa using hW'.lt x hx
  have hok : ScriptOk W a0 len := open_script (by simpa [Value.cells] using hf) hsz
  refine (l_Grown a0 len cap W hok).mono fun e W' ⟨he, hfr⟩ => ?_
  subst he
  refine ⟨_, rfl, _, _, _, [], p, [], hW', ?_, ?_, rfl, hfr.below.frame _, fun h => by cases h⟩
  · exact trodAll_mk1 (shut_bool Tryd.underlying4 true)
  · exact trodAll_mk1 (Below.trod Tryd.laidOut (by kernel_rfl) (of_decide_eq_true (by kernel_rfl)) h0k hfr.below hlt)

theorem grown_row : Rows.GrownSaid :=
  OpenClaim.holds_of_wide 5 Tryd.f5 rfl rfl rfl rfl rfl rfl rfl ⟨rfl, rfl, rfl, rfl, rfl⟩ rfl rfl rfl rfl rfl (by kernel_rfl) Tryd.func5 (by kernel_rfl)
    (of_decide_eq_true (by kernel_rfl)) (by unfold Func.isWrapper; first | (rw [if_pos (by decide +kernel)]; kernel_rfl) | (rw [if_neg (by decide +kernel)]; exact ⟨rfl, rfl⟩))
    (fun os started H enc _ => grown_lifted os started H enc)

theorem grown_holds : Rows.GrownCardSaid :=
  Claim7.holds_tied_plain_at .later [] [.data, .data, .data] true (true, "c61e0e890a1174e657b10fbbbe035a99ca8321bc10a4a9edf1f60933d05106c6") false
    grown_row (fun _ h => by cases h) (by kernel_rfl) (fun _ h => by cases h) grown_row_tie rfl ⟨rfl, rfl⟩ (by kernel_rfl) rfl
    (fun f fn hf hfn => by
      obtain rfl : f = 5 := Option.some.inj ((show Tryd.prog.funcNamed "lrgen/lrgenlaw.Grown" = some 5 by kernel_rfl).symm.trans hf) |>.symm
      obtain rfl : fn = Tryd.f5 := (Option.some.inj (Tryd.func5.symm.trans hfn)).symm
      exact ⟨by kernel_rfl, fun j t ht => by
        rw [Tryd.params5] at ht
        have hm : t ∈ [22] := by simpa using Array.mem_of_getElem? ht
        have hall : ([22].all fun u => !Tryd.prog.wantsStandIn u) = true := by kernel_rfl
        exact (show Tryd.prog.wantsStandIn t = false by simpa using List.all_eq_true.1 hall t hm)⟩)
    (by kernel_rfl)

#print axioms grown_holds
end Go.Proofs.YtkglggkkbmmjkaaDoor
