import Derived.Test.YtkglggkkbmmjkaaDoorH13LrS
namespace Go.Proofs.YtkglggkkbmmjkaaDoor
open Go.RowKit

/-- in no state is there more than one thing to do -/
def NoCl (L : List Ru) (r : Tb) : Prop := ∀ s, s < r.1.length → ∀ a, sigB a = true → (actT L r s a).size ≤ 1
theorem wdU_len1 {st : Bool} {ru : Nat → Bool} (h : (wdU st ru 9).length ≤ 1) : (st = true → ∀ k, k < 9 → ru k = false) ∧ ∀ k k', k < 9 → k' < 9 → ru k = true → ru k' = true → k = k' := by
  have hl : (wdU st ru 9).length = (if st then 1 else 0) + ((List.range 9).filter ru).length := by
    unfold wdU
    rw [List.length_append, List.length_map]
    cases st <;> rfl
  rw [hl] at h
  refine ⟨fun e k hk => ?_, fun k k' hk hk' h1 h2 => ?_⟩
  · rw [e, if_pos rfl] at h
    have h0 : ((List.range 9).filter ru).length = 0 := by omega
    cases hr : ru k
    · rfl
    · have : k ∈ (List.range 9).filter ru := List.mem_filter.2 ⟨List.mem_range.2 hk, hr⟩
      rw [List.length_eq_zero_iff.1 h0] at this; cases this
  · have m1 : k ∈ (List.range 9).filter ru := List.mem_filter.2 ⟨List.mem_range.2 hk, h1⟩
    have m2 : k' ∈ (List.range 9).filter ru := List.mem_filter.2 ⟨List.mem_range.2 hk', h2⟩
    have hle : ((List.range 9).filter ru).length ≤ 1 := by omega
    match hf : (List.range 9).filter ru, hle with
    | [], _ => rw [hf] at m1; cases m1
    | [x], _ =>
      rw [hf] at m1 m2
      rw [List.mem_singleton.1 m1, List.mem_singleton.1 m2]
theorem actT_len {L : List Ru} {r : Tb} {s a : Nat} : (actT L r s a).size = (wdU (canS r s a) (canR L r s a) 9).length := rfl
theorem NoCl.sr {L : List Ru} {r : Tb} (h : NoCl L r) {s a k : Nat} (hs : s < r.1.length) (ha : sigB a = true) (hk : k < 9) (h1 : canS r s a = true) : canR L r s a k = false := (wdU_len1 (by rw [← actT_len]; exact h s hs a ha)).1 h1 k hk
theorem NoCl.rr {L : List Ru} {r : Tb} (h : NoCl L r) {s a k k' : Nat} (hs : s < r.1.length) (ha : sigB a = true) (hk : k < 9) (hk' : k' < 9) (h1 : canR L r s a k = true) (h2 : canR L r s a k' = true) : k = k' := (wdU_len1 (by rw [← actT_len]; exact h s hs a ha)).2 k k' hk hk' h1 h2
theorem sigB_of {a : Nat} (h : a = 36 ∨ smallB a = true) : sigB a = true := by
  unfold sigB
  rcases h with h | h
  · simp [h]
  · simp [h]
theorem canR_sig {L : List Ru} {N : Nat → Bool} {T : Nat → Nat → Bool} {r : Tb} (hT : TabOk L N T r) {s a k : Nat} (h : canR L r s a k = true) : sigB a = true := sigB_of (hT.ok s _ (canR_inv h)).2.2
theorem canS_of {r : Tb} {s a j : Nat} (h : gto r s a = (j : Nat)) : canS r s a = true := by
  unfold canS gto at *
  rw [h]; simp
theorem sigB_small {a : Nat} (h : smallB a = true) : sigB a = true := sigB_of (Or.inr h)
/-- two readings of the same: one goes on where the other stands -/
theorem Run.det {L : List Ru} {N : Nat → Bool} {T : Nat → Nat → Bool} {r : Tb} (hT : TabOk L N T r) (hN : NoCl L r) {n : Nat} {st st1 : Stk} {inp inp1 : List Nat} (h : Run L r n st inp st1 inp1) : ∀ {m : Nat} {st2 : Stk} {inp2 : List Nat}, Run L r m st inp st2 inp2 →
    (∃ k, Run L r k st1 inp1 st2 inp2 ∧ m = n + k) ∨ (∃ k, Run L r k st2 inp2 st1 inp1 ∧ n = m + k) := by
  have hlen := hT.cl.gr.len
  induction h with
  | refl => intro m st2 inp2 h2; exact Or.inl ⟨m, h2, by omega⟩
  | @shift n s a j x inp inp' st st' h0 h1 h2 h3 h4 ih =>
    intro m st2 inp2 k
    generalize hst : (s, x) :: st = stA at k
    generalize hin : a :: inp = inA at k
    cases k with
    | refl =>
      subst hst; subst hin
      exact Or.inr ⟨n, Run.shift h0 h1 h2 h3 h4, by omega⟩
    | @shift _ s' a' j' x' inp'' _ st'' _ k0 k1 k2 k3 k4 =>
      obtain ⟨rfl, rfl⟩ := List.cons.inj hin
      obtain ⟨e, rfl⟩ := List.cons.inj hst
      cases e
      have e : j = j' := by rw [h2] at k2; exact Int.ofNat.inj k2
      subst e
      exact ih k4
    | @reduce _ k s' a' j' x' inp'' _ pt st'' _ k0 k1 k2 k3 k4 k5 k6 k7 =>
      obtain ⟨rfl, rfl⟩ := List.cons.inj hin
      rw [← hst] at k3 k0
      have := hN.sr (k := k) h0 (sigB_small h1) (by omega) (canS_of h2)
      have k3' : canR L r s a k = true := k3
      rw [this] at k3'; cases k3'
  | @reduce n k s a j x inp inp' pt st st' h0 h1 h2 h3 h4 h5 h6 h7 ih =>
    intro m st2 inp2 q
    generalize hst : pt ++ (s, x) :: st = stA at q h3 h0
    generalize hin : a :: inp = inA at q
    cases q with
    | refl =>
      subst hst; subst hin
      exact Or.inr ⟨n + 1, Run.reduce h0 h1 h2 h3 h4 h5 h6 h7, by omega⟩
    | @shift _ s' a' j' x' inp'' _ st'' _ k0 k1 k2 k3 k4 =>
      obtain ⟨rfl, rfl⟩ := List.cons.inj hin
      have := hN.sr (k := k) k0 (sigB_small k1) (by omega) (canS_of k2)
      have h3' : canR L r s' a k = true := h3
      rw [this] at h3'; cases h3'
    | @reduce m' k' s' a' j' x' inp'' _ pt' st'' _ k0 k1 k2 k3 k4 k5 k6 k7 =>
      obtain ⟨rfl, rfl⟩ := List.cons.inj hin
      have e := hN.rr k0 (canR_sig hT h3) (by omega) (by omega) h3 k3
      subst e
      obtain ⟨e1, e2⟩ := List.append_inj hst (by rw [h4, k4])
      subst e1
      obtain ⟨e3, rfl⟩ := List.cons.inj e2
      cases e3
      have e : j = j' := by rw [h5] at k5; exact Int.ofNat.inj k5
      subst e
      rcases ih k7 with ⟨q, hq, e⟩ | ⟨q, hq, e⟩
      · exact Or.inl ⟨q, hq, by omega⟩
      · exact Or.inr ⟨q, hq, by omega⟩
/-- where the end is come to, nothing moves -/
theorem Run.stuck {L : List Ru} {N : Nat → Bool} {T : Nat → Nat → Bool} {r : Tb} (hT : TabOk L N T r) (hN : NoCl L r) {n : Nat} {st st1 : Stk} {a : Nat} {inp inp1 : List Nat} (h : Run L r n st (a :: inp) st1 inp1) (ha : smallB a = false) (hc : canR L r (topS st) a 0 = true) : n = 0 ∧ st1 = st ∧ inp1 = a :: inp := by
  have hlen := hT.cl.gr.len
  generalize hin : a :: inp = inA at h
  cases h with
  | refl => exact ⟨rfl, rfl, rfl⟩
  | shift h0 h1 h2 h3 h4 =>
    obtain ⟨rfl, rfl⟩ := List.cons.inj hin
    rw [ha] at h1; cases h1
  | reduce h0 h1 h2 h3 h4 h5 h6 h7 =>
    obtain ⟨rfl, rfl⟩ := List.cons.inj hin
    have := hN.rr h0 (canR_sig hT h3) (by omega) (by omega) h3 hc
    omega
/-- one way: how it is written, how many replacements -/
theorem ds_uniq {L : List Ru} {N : Nat → Bool} {T : Nat → Nat → Bool} {r : Tb} (hT : TabOk L N T r) (hN : NoCl L r) {S : Nat} (h0 : bytes (rget L 0).R = [S]) {w x x' : List Nat} {n n' : Nat} (h : Ds L [S] w x n) (h' : Ds L [S] w x' n') : x = x' ∧ n = n' := by
  have hz : (⟨0, 0, 36⟩ : It) ∈ itm r 0 := (hT.zero _).2 (Cl.base rfl)
  obtain ⟨pt, e1, e2, e3, e4, e5⟩ := sim hT h (xs := []) (st := []) hT.pos hz (by simpa using h0) []
  obtain ⟨pt', f1, f2, f3, f4, f5⟩ := sim hT h' (xs := []) (st := []) hT.pos hz (by simpa using h0) []
  have hsz : (rget L 0).R.size = 1 := by rw [← bytes_len, h0]; rfl
  have c1 : canR L r (topS (pt ++ [(0, [])])) 36 0 = true := canR_of (by rw [hsz]; exact e4)
  have c2 : canR L r (topS (pt' ++ [(0, [])])) 36 0 = true := canR_of (by rw [hsz]; exact f4)
  have key : pt = pt' ∧ n = n' := by
    rcases e5.det hT hN f5 with ⟨k, hk, e⟩ | ⟨k, hk, e⟩
    · obtain ⟨rfl, e6, _⟩ := hk.stuck hT hN (by rfl) c1
      exact ⟨(List.append_inj e6.symm (by rw [e1, f1])).1, by omega⟩
    · obtain ⟨rfl, e6, _⟩ := hk.stuck hT hN (by rfl) c2
      exact ⟨(List.append_inj e6 (by rw [e1, f1])).1, by omega⟩
  exact ⟨by rw [← e2, ← f2, key.1], key.2⟩
end Go.Proofs.YtkglggkkbmmjkaaDoor

namespace Go.Proofs.YtkglggkkbmmjkaaDoor
open Go.RowKit

/-- letters derive a word that begins with u and a; how many replacements are done ahead of a -/
inductive Pd (L : List Ru) : List Nat → List Nat → Nat → Nat → Prop
  | here {a : Nat} {l : List Nat} : smallB a = true → Pd L (a :: l) [] a 0
  | down {k a n : Nat} {l u : List Nat} : 1 ≤ k → k < L.length → Pd L (bytes (rget L k).R) u a n → Pd L ((rget L k).L :: l) u a n
  | skip {c m a n : Nat} {l w x u : List Nat} : Ds L [c] w x m → Pd L l u a n → Pd L (c :: l) (w ++ u) a (m + n)
theorem Ds.nil_inv {L : List Ru} {w x : List Nat} {n : Nat} (h : Ds L [] w x n) : w = [] ∧ x = [] ∧ n = 0 := by
  cases h; exact ⟨rfl, rfl, rfl⟩
/-- the first letter apart -/
theorem Ds.cons_inv {L : List Ru} {c : Nat} {l w x : List Nat} {n : Nat} (h : Ds L (c :: l) w x n) : ∃ w1 x1 n1 w2 x2 n2, Ds L [c] w1 x1 n1 ∧ Ds L l w2 x2 n2 ∧ w = w1 ++ w2 ∧ x = x1 ++ x2 ∧ n = n1 + n2 := by
  cases h with
  | @small _ _ w x n hc h => exact ⟨[c], [c], 0, w, x, n, Ds.small hc Ds.nil, h, rfl, rfl, by omega⟩
  | @big k _ w1 w2 x1 x2 n1 n2 h1 h2 ha hb => exact ⟨w1, _, n1 + 1, w2, x2, n2, Ds.one h1 h2 ha, hb, rfl, by simp, rfl⟩
theorem beg_one {N : Nat → Bool} {T : Nat → Nat → Bool} {c b : Nat} (h : beg N T [c] b = true) (l : List Nat) : beg N T (c :: l) b = true := by
  rw [beg] at h ⊢
  split at h
  · rename_i hc; rw [if_pos hc]; exact h
  · rename_i hc
    rw [if_neg hc]
    rw [show beg N T [] b = false from rfl, Bool.and_false, Bool.or_false] at h
    rw [h]; rfl
theorem pd_first {L : List Ru} {N : Nat → Bool} {T : Nat → Nat → Bool} (hG : GrCl L N T) {l u : List Nat} {a n : Nat} (h : Pd L l u a n) : ∀ b v, u ++ [a] = b :: v → b < 128 ∧ beg N T l b = true := by
  induction h with
  | @here a l ha =>
    intro b v e
    obtain ⟨rfl, _⟩ := List.cons.inj e
    exact ⟨sig_lt (Or.inr ha), by rw [beg, if_pos ha]; simp⟩
  | @down k a n l u h1 h2 _ ih =>
    intro b v e
    obtain ⟨k1, k2⟩ := ih b v e
    refine ⟨k1, beg_one ?_ l⟩
    rw [beg, if_neg (by rw [big_notsmall (hG.big k h1 h2)]; simp), hG.fst k b h1 h2 k2]; rfl
  | @skip c m a n l w x u hd _ ih =>
    intro b v e
    have hf := ds_first hG hd
    cases w with
    | nil =>
      obtain ⟨k1, k2⟩ := ih b v e
      refine ⟨k1, ?_⟩
      have hn : N c = true := by simpa using hf.1 rfl
      have hb : bigB c = true := by
        generalize hw : ([] : List Nat) = w at hd
        cases hd with
        | small => cases hw
        | big h1 h2 _ _ => exact hG.big _ h1 h2
      rw [beg, if_neg (by rw [big_notsmall hb]; simp), k2, show hasB N c = true from by unfold hasB; rw [hb, hn]; rfl]; simp
    | cons b' w =>
      obtain ⟨rfl, _⟩ := List.cons.inj e
      exact ⟨sig_lt (Or.inr (hd.smalls _ (List.mem_cons_self ..))), beg_one (hf.2 _ w rfl) l⟩
theorem pd_of {L : List Ru} {l w x : List Nat} {n : Nat} (h : Ds L l w x n) : ∀ u a v, w = u ++ a :: v → ∃ m, Pd L l u a m := by
  induction h with
  | nil => intro u a v e; exact absurd e.symm (by simp)
  | @small c l w x n hc _ ih =>
    intro u a v e
    cases u with
    | nil =>
      obtain ⟨rfl, _⟩ := List.cons.inj e
      exact ⟨0, Pd.here hc⟩
    | cons b u =>
      obtain ⟨rfl, e2⟩ := List.cons.inj e
      obtain ⟨m, hm⟩ := ih u a v e2
      exact ⟨0 + m, Pd.skip (w := [c]) (x := [c]) (Ds.small hc Ds.nil) hm⟩
  | @big k l w1 w2 x1 x2 n1 n2 h1 h2 hd1 hd2 ih1 ih2 =>
    intro u a v e
    rcases List.append_eq_append_iff.1 e with ⟨u', rfl, e2⟩ | ⟨v', e1, e2⟩
    · obtain ⟨m, hm⟩ := ih2 u' a v e2
      exact ⟨n1 + 1 + m, Pd.skip (Ds.one h1 h2 hd1) hm⟩
    · cases v' with
      | nil =>
        rw [List.append_nil] at e1
        rw [List.nil_append] at e2
        obtain ⟨m, hm⟩ := ih2 [] a v e2.symm
        refine ⟨n1 + 1 + m, ?_⟩
        have := Pd.skip (Ds.one h1 h2 hd1) hm
        rw [List.append_nil, e1] at this
        exact this
      | cons b v' =>
        rw [List.cons_append] at e2
        obtain ⟨rfl, e3⟩ := List.cons.inj e2
        obtain ⟨m, hm⟩ := ih1 u a v' e1
        exact ⟨m, Pd.down h1 h2 hm⟩
/-- one letter is read -/
theorem sim_one {L : List Ru} {N : Nat → Bool} {T : Nat → Nat → Bool} {r : Tb} (hT : TabOk L N T r) {c m : Nat} {w x : List Nat} (hd : Ds L [c] w x m) {s : Nat} {xs : List Nat} {st : Stk} {k p t b : Nat} (hs : s < r.1.length) (hi : (⟨k, p, t⟩ : It) ∈ itm r s) (hm : MvB L c ⟨k, p, t⟩) (hb128 : b < 128) (hsg : sgS N T (rget L k) (p + 1) t b = true) (inp : List Nat) :
    ∃ j, gto r s c = (j : Nat) ∧ j < r.1.length ∧ (∀ y, y ∈ itm r j ↔ Cl L N T (Mvd L c (itm r s)) y) ∧ Run L r m ((s, xs) :: st) (w ++ b :: inp) ((j, x) :: (s, xs) :: st) (b :: inp) := by
  cases hd with
  | small hc h =>
    obtain ⟨rfl, rfl, rfl⟩ := h.nil_inv
    have hlet : letB c = true := by unfold letB; rw [hc]; simp
    obtain ⟨j, g1, g2, g3⟩ := hT.goto hs hi hm hlet
    exact ⟨j, g1, g2, g3, Run.shift hs hc g1 g2 Run.refl⟩
  | @big k' _ w1 w2 x1 x2 n1 n2 k1 k2 hd1 hd2 =>
    obtain ⟨rfl, rfl, rfl⟩ := hd2.nil_inv
    have hb := hT.cl.big k' k1 k2
    have hlet : letB (rget L k').L = true := by unfold letB; rw [hb]; rfl
    obtain ⟨j, g1, g2, g3⟩ := hT.goto hs hi hm hlet
    have hmc : ch (rget L k).R p = (rget L k').L := hm.2
    have hask : Asks L N T ⟨k, p, t⟩ ⟨k', 0, b⟩ := ⟨hm.1, by show bigB (ch (rget L k).R p) = true; rw [hmc]; exact hb, k1, k2, hmc.symm, rfl, hb128, hsg⟩
    obtain ⟨pt1, e1, e2, e3, e4, e5⟩ := sim hT hd1 (xs := xs) (st := st) hs (hT.closed s hs _ hi _ hask) rfl inp
    rw [bytes_len] at e1 e4
    rw [Nat.zero_add] at e4
    refine ⟨j, g1, g2, g3, ?_⟩
    rw [List.append_nil]
    have := e5.trans (Run.reduce (inp := inp) e3 k1 k2 (canR_of e4) e1 g1 g2 Run.refl)
    rw [e2] at this
    exact this
/-- the reading comes to where the letter can be stepped by -/
theorem sim_p {L : List Ru} {N : Nat → Bool} {T : Nat → Nat → Bool} {r : Tb} (hT : TabOk L N T r) (hS : GrSo L N T) {l u : List Nat} {a n : Nat} (h : Pd L l u a n) : ∀ {s : Nat} {xs : List Nat} {st : Stk} {k p t : Nat}, s < r.1.length → (⟨k, p, t⟩ : It) ∈ itm r s → (bytes (rget L k).R).drop p = l → ∀ inp, ∃ st', topS st' < r.1.length ∧ canS r (topS st') a = true ∧ Run L r n ((s, xs) :: st) (u ++ a :: inp) st' (a :: inp) := by
  induction h with
  | @here a l ha =>
    intro s xs st k p t hs hi hl inp
    obtain ⟨h1, h2, h3⟩ := drop_cons hl
    have hlet : letB a = true := by unfold letB; rw [ha]; simp
    obtain ⟨j, g1, g2, g3⟩ := hT.goto hs hi ⟨h1, h2⟩ hlet
    exact ⟨(s, xs) :: st, hs, canS_of g1, Run.refl⟩
  | @down k' a n l u k1 k2 _ ih =>
    intro s xs st k p t hs hi hl inp
    obtain ⟨h1, h2, h3⟩ := drop_cons hl
    have hok := hT.ok s _ hi
    obtain ⟨b, hb128, hsg⟩ : ∃ b, b < 128 ∧ sgS N T (rget L k) (p + 1) t b = true := by
      obtain ⟨w, x, m, hw⟩ := hS.some_ k hok.1 (p + 1)
      have hf := ds_first hT.cl hw
      cases w with
      | nil => exact ⟨t, sig_lt hok.2.2, by unfold sgS; rw [hf.1 rfl]; simp⟩
      | cons b w => exact ⟨b, sig_lt (Or.inr (hw.smalls b (List.mem_cons_self ..))), by unfold sgS; rw [hf.2 b w rfl]; rfl⟩
    have hask : Asks L N T ⟨k, p, t⟩ ⟨k', 0, b⟩ := ⟨h1, by show bigB (ch (rget L k).R p) = true; rw [h2]; exact hT.cl.big k' k1 k2, k1, k2, h2.symm, rfl, hb128, hsg⟩
    exact ih hs (hT.closed s hs _ hi _ hask) rfl inp
  | @skip c m a n l w x u hd hp ih =>
    intro s xs st k p t hs hi hl inp
    obtain ⟨h1, h2, h3⟩ := drop_cons hl
    obtain ⟨b, v, hbv⟩ : ∃ b v, u ++ a :: inp = b :: v := by
      cases u with
      | nil => exact ⟨a, inp, rfl⟩
      | cons b u => exact ⟨b, u ++ a :: inp, rfl⟩
    have hb : b < 128 ∧ beg N T l b = true := by
      cases u with
      | nil => obtain ⟨rfl, _⟩ := List.cons.inj hbv; exact pd_first hT.cl hp a [] rfl
      | cons b' u => obtain ⟨rfl, _⟩ := List.cons.inj hbv; exact pd_first hT.cl hp b' (u ++ [a]) rfl
    obtain ⟨j, g1, g2, g3, g4⟩ := sim_one hT hd (xs := xs) (st := st) hs hi ⟨h1, h2⟩ hb.1 (by unfold sgS; rw [h3, hb.2]; rfl) v
    obtain ⟨st', f1, f2, f3⟩ := ih (xs := x) (st := (s, xs) :: st) g2 ((g3 ⟨k, p + 1, t⟩).2 (Cl.base ⟨_, hi, ⟨h1, h2⟩, rfl⟩)) h3 inp
    refine ⟨st', f1, f2, ?_⟩
    rw [List.append_assoc, hbv]
    refine g4.trans ?_
    rw [← hbv]; exact f3
theorem Run.len {L : List Ru} {r : Tb} {n : Nat} {st st' : Stk} {inp inp' : List Nat} (h : Run L r n st inp st' inp') : inp'.length ≤ inp.length := by
  induction h with
  | refl => exact Nat.le_refl _
  | shift _ _ _ _ _ ih => rw [List.length_cons]; omega
  | reduce _ _ _ _ _ _ _ _ ih => exact ih

def frstR (L : List Ru) (r : Tb) (s a : Nat) : Option Nat := (List.range 9).find? (canR L r s a)
/-- a right side is replaced -/
def replM (L : List Ru) (r : Tb) (k : Nat) (st : Stk) : Stk := match st.drop (rget L k).R.size with
  | [] => st
  | q :: st' => ((gto r q.1 (rget L k).L).toNat, nodeT k (txt (st.take (rget L k).R.size))) :: q :: st'
/-- till the sign can be stepped by, or ends the text -/
def settleM (L : List Ru) (r : Tb) (a : Nat) : Nat → Stk → Bool × Stk
  | 0, st => (false, st)
  | f + 1, st => if canS r (topS st) a || canR L r (topS st) a 0 then (true, st) else match frstR L r (topS st) a with
    | none => (false, st)
    | some k => settleM L r a f (replM L r k st)
theorem frstR_one {L : List Ru} {N : Nat → Bool} {T : Nat → Nat → Bool} {r : Tb} (hT : TabOk L N T r) (hN : NoCl L r) {s a k : Nat} (hs : s < r.1.length) (hk : k < 9) (h : canR L r s a k = true) : frstR L r s a = some k := by
  unfold frstR
  cases hf : (List.range 9).find? (canR L r s a) with
  | none =>
    rw [List.find?_eq_none] at hf
    exact absurd h (hf k (List.mem_range.2 hk))
  | some k' =>
    have h1 := List.find?_some hf
    have h2 := List.mem_range.1 (List.mem_of_find?_eq_some hf)
    rw [hN.rr hs (canR_sig hT h) h2 hk h1 h]
theorem replM_eq {L : List Ru} {r : Tb} {k s j : Nat} {x : List Nat} {pt st : Stk} (h : pt.length = (rget L k).R.size) (hj : gto r s (rget L k).L = (j : Nat)) : replM L r k (pt ++ (s, x) :: st) = (j, nodeT k (txt pt)) :: (s, x) :: st := by
  unfold replM
  rw [← h, List.drop_left, List.take_left]
  show ((gto r s (rget L k).L).toNat, _) :: _ = _
  rw [hj]; rfl
theorem settle_run {L : List Ru} {N : Nat → Bool} {T : Nat → Nat → Bool} {r : Tb} (hT : TabOk L N T r) (hN : NoCl L r) {a : Nat} {inp : List Nat} : ∀ (m : Nat) {st st' : Stk} {u : List Nat} {f : Nat}, SI L N T r st u → Run L r m st (a :: inp) st' (a :: inp) → (canS r (topS st') a = true ∨ canR L r (topS st') a 0 = true) → m < f → settleM L r a f st = (true, st') ∧ SI L N T r st' u := by
  have hlen := hT.cl.gr.len
  intro m
  induction m with
  | zero =>
    intro st st' u f hI h hc hf
    obtain ⟨f, rfl⟩ : ∃ f', f = f' + 1 := ⟨f - 1, by omega⟩
    generalize hin : a :: inp = inA at h
    generalize hz : (0 : Nat) = z at h
    cases h with
    | refl =>
      refine ⟨?_, hI⟩
      rw [settleM, if_pos (by rw [Bool.or_eq_true]; exact hc)]
    | shift _ _ _ _ h =>
      have := h.len
      rw [List.length_cons] at this; omega
    | reduce => omega
  | succ m ih =>
    intro st st' u f hI h hc hf
    obtain ⟨f, rfl⟩ : ∃ f', f = f' + 1 := ⟨f - 1, by omega⟩
    generalize hin : a :: inp = inA at h
    generalize hz : m + 1 = z at h
    cases h with
    | refl => omega
    | shift _ _ _ _ h =>
      have := h.len
      rw [List.length_cons] at this; omega
    | @reduce n k s a' j x inp' _ pt st1 _ h0 h1 h2 h3 h4 h5 h6 h7 =>
      obtain ⟨rfl, rfl⟩ := List.cons.inj hin
      obtain rfl : m = n := by omega
      have hsg := canR_sig hT h3
      have e1 : canS r (topS (pt ++ (s, x) :: st1)) a = false := by
        cases e : canS r (topS (pt ++ (s, x) :: st1)) a
        · rfl
        · have := hN.sr (k := k) h0 hsg (by omega) e
          rw [h3] at this; cases this
      have e2 : canR L r (topS (pt ++ (s, x) :: st1)) a 0 = false := by
        cases e : canR L r (topS (pt ++ (s, x) :: st1)) a 0
        · rfl
        · have := hN.rr h0 hsg (by omega) (by omega) h3 e
          omega
      have hI2 : SI L N T r ((j, nodeT k (txt pt)) :: (s, x) :: st1) u := by
        obtain ⟨pt', s', xs', st2, j', q1, q2, q3, q4, q5, q6, q7⟩ := hI.replace hT h1 h3
        obtain ⟨e3, e4⟩ := List.append_inj q1 (by rw [h4, q2])
        subst e3
        obtain ⟨e5, rfl⟩ := List.cons.inj e4
        cases e5
        have e : j = j' := by rw [h5] at q4; exact Int.ofNat.inj q4
        subst e
        exact q7
      obtain ⟨i1, i2⟩ := ih (f := f) hI2 h7 hc (by omega)
      refine ⟨?_, i2⟩
      rw [settleM, if_neg (by rw [e1, e2]; simp), frstR_one hT hN h0 (by omega) h3]
      show settleM L r a f (replM L r k _) = _
      rw [replM_eq h4 h5]; exact i1
theorem settle_no {L : List Ru} {r : Tb} {a f : Nat} {st : Stk} (h1 : canS r (topS st) a = false) (h2 : ∀ k, k < 9 → canR L r (topS st) a k = false) : settleM L r a f st = (false, st) := by
  cases f with
  | zero => rfl
  | succ f =>
    rw [settleM, if_neg (by rw [h1, h2 0 (by omega)]; simp), show frstR L r (topS st) a = none from by
      unfold frstR
      rw [List.find?_eq_none]
      intro k hk
      rw [h2 k (List.mem_range.1 hk)]; simp]
end Go.Proofs.YtkglggkkbmmjkaaDoor
