import Derived.Test.YtkglggkkbmmjkaaDoorE32LrB2
import Derived.Test.YtkglggkkbmmjkaaDoorE33FoMath
import Derived.Test.YtkglggkkbmmjkaaDoorE26PCalls
namespace Go.Proofs.YtkglggkkbmmjkaaDoor
open Go.RowKit

theorem parse_sum (t : ByteArray) : ∀ f i acc, i ≤ t.size → ((parse t f i acc).1.map fun r => r.R.size + 3).sum ≤ (acc.map fun r => r.R.size + 3).sum + (t.size + 1 - i)
  | 0, i, acc, _ => by rw [parse]; show (acc.map _).sum ≤ _; omega
  | f + 1, i, acc, hi => by
    have hb := runEnd_bd t 4 (i + 2)
    have hs : ∀ h : i + 2 ≤ t.size, (t.extract (i + 2) (runEnd t 4 (i + 2))).size = runEnd t 4 (i + 2) - (i + 2) := fun h => by
      rw [ByteArray.size_extract]; omega
    have hsum : ∀ h : i + 2 ≤ t.size, ((acc ++ [(⟨ch t i, t.extract (i + 2) (runEnd t 4 (i + 2)), i⟩ : Ru)]).map fun r => r.R.size + 3).sum = (acc.map fun r => r.R.size + 3).sum + (runEnd t 4 (i + 2) - (i + 2) + 3) := fun h => by
      rw [List.map_append, List.sum_append]; simp [hs h]
    rw [parse]
    split
    · split
      · split
        · split
          · show ((acc ++ [(⟨ch t i, t.extract (i + 2) (runEnd t 4 (i + 2)), i⟩ : Ru)]).map fun r => r.R.size + 3).sum ≤ _
            rw [hsum (by omega)]; omega
          · have := parse_sum t f (runEnd t 4 (i + 2) + 1) (acc ++ [⟨ch t i, t.extract (i + 2) (runEnd t 4 (i + 2)), i⟩]) (by omega)
            rw [hsum (by omega)] at this; omega
        · show ((acc ++ [(⟨ch t i, t.extract (i + 2) (runEnd t 4 (i + 2)), i⟩ : Ru)]).map fun r => r.R.size + 3).sum ≤ _
          rw [hsum (by omega)]; omega
      · show (acc.map _).sum ≤ _; omega
    · show (acc.map _).sum ≤ _; omega
theorem sumU_rul (rs : List Ru) (g : Ru → Nat) : ∀ n, n ≤ rs.length → sumU (fun k => g (rget (rul rs) k)) (fun _ => true) n = ((rs.take n).map g).sum
  | 0, _ => by simp [sumU]
  | n + 1, h => by
    rw [sumU, sumU_rul rs g n (by omega), List.take_succ_eq_append_getElem (by omega), List.map_append, List.sum_append, rget_rul, rget_eq rs n (by omega)]
    simp
theorem gr_sz (t : ByteArray) (ht : t.size ≤ 32) (hp : (parse t 8 0 []).2.2 = true) : GrSz (rul (parse t 8 0 []).1) := by
  have hC := ctx_of t ht hp
  have hlen := (parse_small t ht).2
  refine ⟨hC.good.sz, ?_, hC.good.len⟩
  have h1 : (rul (parse t 8 0 []).1).length - 1 = (parse t 8 0 []).1.length := by unfold rul; simp
  rw [h1, sumU_rul _ (fun r => r.R.size + 3) _ (Nat.le_refl _), List.take_length]
  have := parse_sum t 8 0 [] (Nat.zero_le _)
  simp at this
  omega

theorem rn_split (l1 l2 : List Ru) (r : Ru) (S : Nat → Bool) : rnRound (l1 ++ r :: l2) S = rnRound l2 (if (bytes r.R).all (rnRound l1 S) then ins (rnRound l1 S) r.L else rnRound l1 S) := by
  unfold rnRound
  rw [List.foldl_append, List.foldl_cons]
theorem null_closed {rs : List Ru} (hl : ∀ r ∈ rs, bigB r.L = true) : ∀ r ∈ rs, (bytes r.R).all (nullS rs) = true → nullS rs r.L = true := by
  intro r hr ha
  have hfix : rnRound rs (nullS rs) = nullS rs := by
    have h1 := nulls_eq rs hl
    have h2 : nullS rs = iter (rnRound rs) rs.length (fun _ => false) := by
      unfold nullS
      exact (mk_rn_iter rs hl _ (fun _ h => by cases h) rs.length).1
    rw [iter, ← h2] at h1
    exact h1
  obtain ⟨l1, l2, rfl⟩ := List.append_of_mem hr
  rw [← hfix, rn_split]
  refine rn_inf l2 _ _ ?_
  rw [if_pos (by
    rw [List.all_eq_true] at ha ⊢
    exact fun c hc => rn_inf l1 _ c (ha c hc))]
  unfold ins; simp
theorem beg_mono {N : Nat → Bool} {F G : Nat → Nat → Bool} {x : Nat} (h : ∀ c, F c x = true → G c x = true) : ∀ l, beg N F l x = true → beg N G l x = true
  | [], e => by cases e
  | c :: l, e => by
    rw [beg] at e ⊢
    split at e
    · rename_i hc; rw [if_pos hc]; exact e
    · rename_i hc
      rw [if_neg hc]
      rw [Bool.or_eq_true, Bool.and_eq_true] at e ⊢
      rcases e with e | ⟨e1, e2⟩
      · exact Or.inl (h c e)
      · exact Or.inr ⟨e1, beg_mono h l e2⟩
theorem ff_inf (N : Nat → Bool) : ∀ (l : List Ru) (F : Nat → Nat → Bool) (c x : Nat), F c x = true → ffRound N l F c x = true
  | [], _, _, _, h => h
  | r :: l, F, c, x, h => by
    show ffRound N l (joinF F r.L (beg N F (bytes r.R))) c x = true
    refine ff_inf N l _ c x ?_
    unfold joinF; rw [h]; rfl
theorem ff_split (N : Nat → Bool) (l1 l2 : List Ru) (r : Ru) (F : Nat → Nat → Bool) : ffRound N (l1 ++ r :: l2) F = ffRound N l2 (joinF (ffRound N l1 F) r.L (beg N (ffRound N l1 F) (bytes r.R))) := by
  unfold ffRound
  rw [List.foldl_append, List.foldl_cons]
theorem first_closed {rs : List Ru} : ∀ r ∈ rs, ∀ a, beg (nullS rs) (firstT rs) (bytes r.R) a = true → firstT rs r.L a = true := by
  intro r hr a ha
  have hfix : ∀ c x, ffRound (nullS rs) rs (firstT rs) c x = firstT rs c x := fun c x => by
    have := j_fix rs (ffSteps (nullS rs) rs) (ffSteps_in (nullS rs) rs) (fun _ _ => false) c x
    rw [← ffRound_eq] at this
    exact this
  obtain ⟨l1, l2, e⟩ := List.append_of_mem hr
  rw [← hfix, e, ff_split, ← e]
  refine ff_inf _ l2 _ _ _ ?_
  unfold joinF
  rw [beg_mono (F := firstT rs) (fun c hc => ff_inf _ l1 _ c a hc) _ ha]; simp
/-- a rule has a number -/
theorem rul_no {rs : List Ru} {r : Ru} (h : r ∈ rs) : ∃ k, 1 ≤ k ∧ k < (rul rs).length ∧ rget (rul rs) k = r := by
  obtain ⟨i, hi, e⟩ := List.getElem_of_mem h
  refine ⟨i + 1, by omega, by unfold rul; simp; omega, ?_⟩
  rw [rget_rul, rget_eq rs i hi, e]
theorem rul_is {rs : List Ru} {k : Nat} (h1 : 1 ≤ k) (h2 : k < (rul rs).length) : rget (rul rs) k ∈ rs := by
  obtain ⟨k, rfl⟩ : ∃ k', k = k' + 1 := ⟨k - 1, by omega⟩
  have h3 : k < rs.length := by unfold rul at h2; simp at h2; omega
  rw [rget_rul, rget_eq rs k h3]; exact List.getElem_mem h3
theorem gr_ok (t : ByteArray) (ht : t.size ≤ 32) (hp : (parse t 8 0 []).2.2 = true) : GrOk (rul (parse t 8 0 []).1) (firstT (parse t 8 0 []).1) := by
  have hC := ctx_of t ht hp
  exact ⟨hC.good.len, fun i hi => by rw [← rget_eq _ i hi]; exact hC.good.sz i, hC.small⟩
theorem gr_cl (t : ByteArray) (ht : t.size ≤ 32) (hp : (parse t 8 0 []).2.2 = true) : GrCl (rul (parse t 8 0 []).1) (nullS (parse t 8 0 []).1) (firstT (parse t 8 0 []).1) := by
  have hC := ctx_of t ht hp
  refine ⟨gr_ok t ht hp, hC.pos, fun k h1 h2 => parse_big t _ (rul_is h1 h2), fun k h1 h2 h => null_closed (parse_big t) _ (rul_is h1 h2) h, fun k a h1 h2 h => first_closed _ (rul_is h1 h2) a h, fun k hk c hc => ?_⟩
  obtain ⟨i, hi, e⟩ := List.getElem_of_mem hc
  rw [bytes_get] at e
  rw [← e]
  exact hC.let_ k i (by rw [← bytes_len]; exact hi)

theorem null_sound {rs : List Ru} (hl : ∀ r ∈ rs, bigB r.L = true) : ∀ c, nullS rs c = true → ∃ x n, Ds (rul rs) [c] [] x n := by
  have list_of : ∀ {S : Nat → Bool}, (∀ c, S c = true → ∃ x n, Ds (rul rs) [c] [] x n) → ∀ l, l.all S = true → ∃ x n, Ds (rul rs) l [] x n := by
    intro S hS l
    induction l with
    | nil => intro _; exact ⟨[], 0, Ds.nil⟩
    | cons c l ih =>
      intro h
      rw [List.all_cons, Bool.and_eq_true] at h
      obtain ⟨x1, n1, h1⟩ := hS c h.1
      obtain ⟨x2, n2, h2⟩ := ih h.2
      exact ⟨x1 ++ x2, n1 + n2, by simpa using h1.app h2⟩
  have round : ∀ (l : List Ru), (∀ r ∈ l, r ∈ rs) → ∀ S : Nat → Bool, (∀ c, S c = true → ∃ x n, Ds (rul rs) [c] [] x n) → ∀ c, rnRound l S c = true → ∃ x n, Ds (rul rs) [c] [] x n := by
    intro l
    induction l with
    | nil => intro _ S hS c h; exact hS c h
    | cons r l ih =>
      intro hin S hS c h
      have h' : rnRound l (if (bytes r.R).all S then ins S r.L else S) c = true := h
      refine ih (fun q hq => hin q (List.mem_cons_of_mem _ hq)) _ (fun c hc => ?_) c h'
      split at hc
      · rename_i ha
        unfold ins at hc
        rw [Bool.or_eq_true] at hc
        rcases hc with hc | hc
        · exact hS c hc
        · have e : c = r.L := by simpa using hc
          obtain ⟨k, k1, k2, k3⟩ := rul_no (hin r (List.mem_cons_self ..))
          obtain ⟨x, n, hd⟩ := list_of hS _ ha
          rw [← k3] at hd
          have := Ds.one k1 k2 hd
          rw [k3, ← e] at this
          exact ⟨_, _, this⟩
      · exact hS c hc
  have it : ∀ n c, iter (rnRound rs) n (fun _ => false) c = true → ∃ x m, Ds (rul rs) [c] [] x m := by
    intro n
    induction n with
    | zero => intro c h; cases h
    | succ n ih => intro c h; exact round rs (fun _ h => h) _ ih c h
  intro c h
  rw [← nulls_eq rs hl] at h
  exact it _ c h
theorem ends_sound {rs : List Ru} : ∀ c, ends rs c = true → ∃ w x n, Ds (rul rs) [c] w x n := by
  have list_of : ∀ {S : Nat → Bool}, (∀ c, S c = true → ∃ w x n, Ds (rul rs) [c] w x n) → ∀ l, l.all (vanB S true) = true → ∃ w x n, Ds (rul rs) l w x n := by
    intro S hS l
    induction l with
    | nil => intro _; exact ⟨[], [], 0, Ds.nil⟩
    | cons c l ih =>
      intro h
      rw [List.all_cons, Bool.and_eq_true] at h
      obtain ⟨w2, x2, n2, h2⟩ := ih h.2
      have hc := h.1
      unfold vanB hasB at hc
      rw [Bool.true_and, Bool.or_eq_true, Bool.and_eq_true] at hc
      rcases hc with hc | hc
      · exact ⟨_, _, _, Ds.small hc h2⟩
      · obtain ⟨w1, x1, n1, h1⟩ := hS c hc.2
        exact ⟨_, _, _, h1.app h2⟩
  have round : ∀ (l : List Ru), (∀ r ∈ l, r ∈ rs) → ∀ S : Nat → Bool, (∀ c, S c = true → ∃ w x n, Ds (rul rs) [c] w x n) → ∀ c, mkRound true l S c = true → ∃ w x n, Ds (rul rs) [c] w x n := by
    intro l
    induction l with
    | nil => intro _ S hS c h; exact hS c h
    | cons r l ih =>
      intro hin S hS c h
      have h' : mkRound true l (if (bytes r.R).all (vanB S true) then insB S r.L else S) c = true := h
      refine ih (fun q hq => hin q (List.mem_cons_of_mem _ hq)) _ (fun c hc => ?_) c h'
      split at hc
      · rename_i ha
        unfold insB at hc
        rw [Bool.or_eq_true, Bool.and_eq_true] at hc
        rcases hc with hc | hc
        · exact hS c hc
        · have e : c = r.L := by simpa using hc.2
          obtain ⟨k, k1, k2, k3⟩ := rul_no (hin r (List.mem_cons_self ..))
          obtain ⟨w, x, n, hd⟩ := list_of hS _ ha
          rw [← k3] at hd
          have := Ds.one k1 k2 hd
          rw [k3, ← e] at this
          exact ⟨_, _, _, this⟩
      · exact hS c hc
  have it : ∀ n c, iter (mkRound true rs) n (fun _ => false) c = true → ∃ w x m, Ds (rul rs) [c] w x m := by
    intro n
    induction n with
    | zero => intro c h; cases h
    | succ n ih => intro c h; exact round rs (fun _ h => h) _ ih c h
  exact it _
theorem dead_none {E U : Nat → Bool} : ∀ {l : List Ru}, deadAt E U l = none → ∀ r ∈ l, dead1 E U r = false
  | [], _, r, hr => by cases hr
  | q :: l, h, r, hr => by
    rw [deadAt] at h
    split at h
    · cases h
    · rename_i hq
      rcases List.mem_cons.1 hr with rfl | hr
      · simpa using hq
      · exact dead_none h r hr
theorem gErr_dead {t : ByteArray} (h : (gErr t).1 = 0) : deadAt (ends (parse t 8 0 []).1) (reach (parse t 8 0 []).1) (parse t 8 0 []).1 = none := by
  unfold gErr at h
  split at h
  · cases h
  · split at h
    · cases h
    · split at h
      · cases h
      · split at h
        · cases h
        · assumption
end Go.Proofs.YtkglggkkbmmjkaaDoor

namespace Go.Proofs.YtkglggkkbmmjkaaDoor
open Go.RowKit

theorem AcS.fr0 {w wr w' : World} {tb base : Nat} {p : Pl} {v : Value} {S : List Sd} {cores fault : Nat} {f : Nat → Value} (h : AcS w wr tb base p v S cores fault f) (k : Fr [] wr w') : AcS w w' tb base p v S cores fault f :=
  ⟨h.1.trans0 k, h.2.1.fr0 k, h.2.2.1.fr0 k, h.2.2.2.fr0 k⟩
theorem AcS.far {w wr w' : World} {tb base x : Nat} {p : Pl} {v : Value} {S : List Sd} {cores fault : Nat} {f : Nat → Value} (h : AcS w wr tb base p v S cores fault f) (k : Fr [x] wr w') (hx : w.heap.size + 1 < x) (hb : tb < w.heap.size) (hv : ∀ y, v.ownBlock = some y → y < w.heap.size) : AcS w w' tb base p v S cores fault f :=
  ⟨h.1.trans1 k (Or.inr (by omega)), h.2.1.far k (by omega) (fun e => by have := hv _ e; omega), h.2.2.1.fr1 k (by omega), h.2.2.2.fr1 k (by omega)⟩
theorem AcS.acc {w wr w' : World} {tb base : Nat} {p : Pl} {v : Value} {S : List Sd} {cores fault : Nat} {f g : Nat → Value} (h : AcS w wr tb base p v S cores fault f) (k : Fr [w.heap.size + 1] wr w') (hB : Blk w' (w.heap.size + 1) 10 g) (hb : tb < w.heap.size) (hv : ∀ y, v.ownBlock = some y → y < w.heap.size) : AcS w w' tb base p v S cores fault g :=
  ⟨h.1.trans1 k (Or.inr (by omega)), h.2.1.far k (by omega) (fun e => by have := hv _ e; omega), h.2.2.1.fr1 k (by omega), hB⟩

end Go.Proofs.YtkglggkkbmmjkaaDoor

namespace Go.Proofs.YtkglggkkbmmjkaaDoor
open Go.RowKit

/-- more than one thing can be done in state k where sign i comes -/
def clK (p : Pl) (S : List Sd) (k i : Nat) : Bool := decide (1 < (acL (stepTo S k (sgn i) != -1) (ruS p (sget S k).A (sgn i)) 9).length)
/-- for some of the first m, and some sign -/
def anyC (f : Nat → Nat → Bool) (m : Nat) : Bool := (List.range m).any fun k => (List.range 27).any fun i => f k i
theorem anyC_true {f : Nat → Nat → Bool} {m k i : Nat} (hk : k < m) (hi : i < 27) (h : f k i = true) : anyC f m = true := by
  unfold anyC
  rw [List.any_eq_true]
  exact ⟨k, List.mem_range.2 hk, List.any_eq_true.2 ⟨i, List.mem_range.2 hi, h⟩⟩
theorem anyC_false {f : Nat → Nat → Bool} {m : Nat} (h : ∀ k, k < m → ∀ i, i < 27 → f k i = false) : anyC f m = false := by
  cases e : anyC f m
  · rfl
  · unfold anyC at e
    rw [List.any_eq_true] at e
    obtain ⟨k, hk, e⟩ := e
    rw [List.any_eq_true] at e
    obtain ⟨i, hi, e⟩ := e
    rw [h k (List.mem_range.1 hk) i (List.mem_range.1 hi)] at e; cases e

set_option maxRecDepth 100000 in
set_option maxHeartbeats 2000000 in
/-- table.statesClash -/
theorem p_statesClash (tb base : Nat) (p : Pl) (v : Value) (S : List Sd) (cores fault : Nat) (w : World) (h : TbR w tb base p v S cores fault) (hS : S.length ≤ 50) :
    Calls Tryd.prog 32 #[.pointer (some ⟨tb, 0, none⟩)] w fun e w' => e = .returned (.bool (anyC (clK p S) S.length)) ∧ Fr [] w w' := by
  obtain ⟨ao, cap, hv, _⟩ := h.form
  subst hv
  have H := hide h
  clear h
  go_enter Tryd.func32, Tryd.ntmps32
  go_wp2
  go_loopw [3] (fun iv wr => ∃ k : Nat, k ≤ S.length ∧ iv = .int .i64 k ∧ Hid (∀ j, j < k → ∀ i, i < 27 → clK p S j i = false) ∧ Hid (Fr [] w wr)) (fun iv _ => S.length - (intOf iv).toNat)
  case atStart => exact ⟨0, by omega, rfl, fun j hj => by omega, Fr.refl _ _⟩
  case round =>
    obtain ⟨k, hk, rfl, hm, hs⟩ := hrel
    have q0 := ((unhide H).fr0 (unhide hs)).v
    by_cases hlt : k < S.length
    · have hki : (k : Int) < S.length := by omega
      go_wp2
      clear q0
      go_loopw [4] (fun iv wr => ∃ i : Nat, i ≤ 27 ∧ iv = .int .i64 i ∧ Hid (∀ j, j < i → clK p S k j = false) ∧ Hid (Fr [] w wr)) (fun iv _ => 27 - (intOf iv).toNat)
      case atStart => exact ⟨0, by omega, rfl, (fun j hj => by omega), hs⟩
      case round =>
        clear hs
        obtain ⟨i, hi, rfl, hmi, hs⟩ := hrel
        by_cases hit : i < 27
        · have HT := hide ((unhide H).fr0 (unhide hs))
          have hsig := sigB_sgn hit
          obtain ⟨c, hc⟩ : ∃ c, sgn i = c := ⟨_, rfl⟩
          have HCC := hide hc
          rw [hc] at hsig
          have HSG := hide hsig
          clear hc hsig
          cases hcl : clK p S k i
          · have HN := hide (show ∀ j, j < i + 1 → clK p S k j = false from fun j hj => by
              by_cases e : j = i
              · subst e; exact hcl
              · exact unhide hmi j (by omega))
            have HCL := hide hcl
            clear hcl
            go_wp2_with (first
              | (go_at_call 46; refine (p_signAt i wr hit).mono ?_; rintro e w' ⟨rfl, hw'⟩; rw [hw', unhide HCC])
              | (go_at_call 26; refine (p_acts tb base k c p _ S cores fault wr (by exact unhide HT) hlt (unhide HSG)).mono ?_; rintro e w3 ⟨rfl, hf3⟩; have HF3 := hide ((unhide hs).trans0 hf3); clear hf3)
              | (refine wpList_alloc_blk rfl 74 rfl (some 5) rfl 10 _ Tryd.zeroActs ?_; intro w4 hf4 hs4 hB4; have HF4 := hide ((unhide HF3).trans0 hf4); have HB4 := hide hB4; clear hf4 hB4)
              | (refine wpList_store_blk rfl 74 (.tmp 5) (.tmp 23) rfl w3.heap.size 0 10 10 (acF false fun _ => false) (acF _ _) rfl rfl (by exact unhide HB4) Tryd.sizeActs (by omega) (oneB_acF _ _ 10) ?_; intro w5 hf5 hs5 hB5; have HF5 := hide ((unhide HF4).trans1 hf5 (Or.inr (unhide HF3).size)); have HB5 := hide (hB5.congr fun i hi => lay_all _ _ _ i hi); clear hf5 hB5)
              | (go_at_call 48; refine (p_isClash w3.heap.size _ _ w5 (by exact unhide HB5)).mono ?_; rintro e w6 ⟨rfl, hf6⟩; have hx := unhide HCL; unfold clK at hx; rw [unhide HCC] at hx; rw [hx]; have HF6 := hide ((unhide HF5).trans0 hf6); clear hf6 hx))
            go_roundw
            case rel => exact ⟨i + 1, by omega, by go_num, HN, HF6⟩
            case measure => simp [intOf]; omega
          · have HN := hide (anyC_true (f := clK p S) hlt hit hcl)
            have HCL := hide hcl
            clear hcl
            go_wp2_with (first
              | (go_at_call 46; refine (p_signAt i wr hit).mono ?_; rintro e w' ⟨rfl, hw'⟩; rw [hw', unhide HCC])
              | (go_at_call 26; refine (p_acts tb base k c p _ S cores fault wr (by exact unhide HT) hlt (unhide HSG)).mono ?_; rintro e w3 ⟨rfl, hf3⟩; have HF3 := hide ((unhide hs).trans0 hf3); clear hf3)
              | (refine wpList_alloc_blk rfl 74 rfl (some 5) rfl 10 _ Tryd.zeroActs ?_; intro w4 hf4 hs4 hB4; have HF4 := hide ((unhide HF3).trans0 hf4); have HB4 := hide hB4; clear hf4 hB4)
              | (refine wpList_store_blk rfl 74 (.tmp 5) (.tmp 23) rfl w3.heap.size 0 10 10 (acF false fun _ => false) (acF _ _) rfl rfl (by exact unhide HB4) Tryd.sizeActs (by omega) (oneB_acF _ _ 10) ?_; intro w5 hf5 hs5 hB5; have HF5 := hide ((unhide HF4).trans1 hf5 (Or.inr (unhide HF3).size)); have HB5 := hide (hB5.congr fun i hi => lay_all _ _ _ i hi); clear hf5 hB5)
              | (go_at_call 48; refine (p_isClash w3.heap.size _ _ w5 (by exact unhide HB5)).mono ?_; rintro e w6 ⟨rfl, hf6⟩; have hx := unhide HCL; unfold clK at hx; rw [unhide HCC] at hx; rw [hx]; have HF6 := hide ((unhide HF5).trans0 hf6); clear hf6 hx))
            go_ret
            exact ⟨ret_bool (unhide HN).symm, unhide HF6⟩
        · have HN := hide (show ∀ j, j < k + 1 → ∀ i, i < 27 → clK p S j i = false from fun j hj i2 hi2 => by
            by_cases e : j = k
            · subst e; exact unhide hmi i2 (by omega)
            · exact unhide hm j (by omega) i2 hi2)
          go_wp2
          go_roundw
          case rel => exact ⟨k + 1, by omega, by go_num, HN, hs⟩
          case measure => simp [intOf]; omega
    · have HN := hide (anyC_false (f := clK p S) (m := S.length) (fun j hj => unhide hm j (by omega)))
      go_wp2
      go_ret
      exact ⟨ret_bool (unhide HN).symm, unhide hs⟩

end Go.Proofs.YtkglggkkbmmjkaaDoor
