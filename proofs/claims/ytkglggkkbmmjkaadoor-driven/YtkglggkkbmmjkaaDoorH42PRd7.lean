import Derived.Test.YtkglggkkbmmjkaaDoorH41PRd5
import Derived.Test.YtkglggkkbmmjkaaDoorH10RPut
namespace Go.Proofs.YtkglggkkbmmjkaaDoor
open Go.RowKit

theorem settle_true {L : List Ru} {r : Tb} {a : Nat} : ∀ (f : Nat) {st st' : Stk}, settleM L r a f st = (true, st') → canS r (topS st') a = true ∨ canR L r (topS st') a 0 = true
  | 0, st, st', h => by rw [settleM] at h; cases h
  | f + 1, st, st', h => by
    rw [settleM] at h
    split at h
    · rename_i hc
      cases h
      rw [Bool.or_eq_true] at hc
      exact hc
    · split at h
      · cases h
      · exact settle_true f h
/-- what take hands back -/
def TakeO (w : World) (rb tb base : Nat) (p : Pl) (v : Value) (S : List Sd) (cores : Nat) (L : List Ru) (N : Nat → Bool) (T : Nat → Nat → Bool) (r : Tb) (a : Nat) (st : Stk) (u : List Nat) (B : Nat) (e : Ending) (w' : World) : Prop :=
  ∃ (b : Bool) (st1 : Stk), e = .returned (.bool b) ∧ settleM L r a 1048576 st = (b, st1) ∧ Below rb w w' ∧ ∃ sv',
    (b = false → RdS w' rb tb base p v S cores sv' st1 ∧ SI L N T r st1 u ∧ st1.length + szT st1 ≤ B + 4194306) ∧
    (b = true → RdS w' rb tb base p v S cores sv' (((gto r (topS st1) a).toNat, [a]) :: st1) ∧ SI L N T r (((gto r (topS st1) a).toNat, [a]) :: st1) (u ++ [a]) ∧ (((gto r (topS st1) a).toNat, [a]) :: st1).length + szT (((gto r (topS st1) a).toNat, [a]) :: st1) ≤ B + 4194306)

set_option maxRecDepth 100000 in
set_option maxHeartbeats 4000000 in
/-- reading.take -/
theorem p_take (t : ByteArray) (rb tb base : Nat) (p : Pl) (v : Value) (S : List Sd) (cores : Nat) (sv : Value) (L : List Ru) (N : Nat → Bool) (T : Nat → Nat → Bool) (r : Tb) (a c F : Nat) (st : Stk) (u : List Nat) (B : Nat) (w : World) (h : RdS w rb tb base p v S cores sv st) (hP : TabP t p L S r)
    (hR : Rd L N T r c F) (hI : SI L N T r st u) (ha : smallB a = true) (hB : st.length + szT st ≤ B) (hB2 : B ≤ 80000000) :
    Calls Tryd.prog 35 #[.pointer (some ⟨rb, 0, none⟩), .int .u8 (a : Nat)] w fun e w' => TakeO w rb tb base p v S cores L N T r a st u B e w' := by
  obtain ⟨⟨b0, st1⟩, hset⟩ : ∃ q, settleM L r a 1048576 st = q := ⟨_, rfl⟩
  have hsl := smallB_iff.1 ha
  have HH := hide h
  have HP := hide hP
  have HR := hide hR
  have HI := hide hI
  have HA := hide ha
  have HSet := hide hset
  have HSg := hide (sigB_small ha)
  clear h hP hR hI ha hset
  cases b0
  · go_enter Tryd.func35, Tryd.ntmps35
    go_wp2_with (go_at_call 20; refine (p_settle t rb tb base p v S cores sv L N T r a c F st u B w (unhide HH) (unhide HP) (unhide HR) (unhide HI) (unhide HSg) hB hB2).mono ?_; rintro e w1 ⟨b, st', sv', rfl, h1, h2, h3, h4, h5⟩; rw [unhide HSet] at h1; obtain ⟨hb, hst⟩ := Prod.mk.inj h1; subst hb; subst hst; have HX := hide (And.intro h2 (And.intro h3 (And.intro h4 h5))); clear h1 h2 h3 h4 h5)
    go_ret
    exact ⟨false, st1, rfl, unhide HSet, (unhide HX).1, sv', fun _ => ⟨(unhide HX).2.1, (unhide HX).2.2.1, by have := (unhide HX).2.2.2; omega⟩, fun e => by cases e⟩
  · go_enter Tryd.func35, Tryd.ntmps35
    go_wp2_with fail
    refine (p_settle t rb tb base p v S cores sv L N T r a c F st u B w (unhide HH) (unhide HP) (unhide HR) (unhide HI) (unhide HSg) hB hB2).mono ?_
    rintro e w1 ⟨b, st', sv', rfl, h1, h2, h3, h4, h5⟩
    rw [unhide HSet] at h1
    obtain ⟨hb, hst⟩ := Prod.mk.inj h1
    subst hb
    subst hst
    obtain ⟨s, x, st2, hst⟩ := h4.ne
    subst hst
    have hcan : canS r s a = true := by
      rcases settle_true _ (unhide HSet) with e | e
      · exact e
      · exfalso
        have := (SI.done (unhide HR).tab (unhide HR).st0 h4 e).1
        have := smallB_iff.1 (unhide HA)
        omega
    obtain ⟨j, g1, g2, g3⟩ := h4.shift (unhide HR).tab (unhide HA) hcan
    have hs : s < S.length := by rw [(unhide HP).len]; exact h4.lt (unhide HR).tab.pos
    have HJ := hide (show stepTo S s a = (j : Nat) from by rw [(unhide HP).st s hs a (by unfold letB; rw [unhide HA]; simp)]; exact g1)
    have HB1 := hide h2
    have HH1 := hide h3
    have HSz := hide h5
    have HG := hide (show ((gto r (topS ((s, x) :: st2)) a).toNat, [a]) = (j, [a]) from by rw [show gto r (topS ((s, x) :: st2)) a = (j : Nat) from g1]; rfl)
    have HI2 := hide g3
    have hlen : st2.length ≤ 99999990 := by rw [List.length_cons] at h5; omega
    clear h1 h2 h3 h4 h5 g1 g3 hcan
    go_wp2_with (go_at_call 21; refine (p_last rb tb base p v S cores sv' (s, x) st2 w1 (unhide HH1) (by omega)).mono ?_; rintro e w2 ⟨rfl, hf2⟩; have HF2 := hide hf2; clear hf2)
    obtain ⟨W, hW⟩ : ∃ W, w2.alloc (.cells #[.int .i64 (s : Nat), .string (bstr x)] 67) = W := ⟨_, rfl⟩
    rw [hW]
    have HFW := hide (show Fr [] w1 W from hW ▸ (unhide HF2).alloc _)
    have HWr := hide ((unhide HH1).fr0 (unhide HFW))
    have HWd := hide ((unhide HWr).fr0 (Fr.refl [] W).drew)
    have d0 : W.cell? ⟨rb, 0, none⟩ = some (.pointer (some ⟨tb, 0, none⟩)) := (unhide HWr).blk.cell 0 (by omega)
    have d1 : W.cell? ⟨w2.heap.size, 0, none⟩ = some (.int .i64 (s : Nat)) := by rw [← hW]; simp
    clear hW HF2
    go_region_held3 (fun w' => w'.cell? ⟨rb, 0, none⟩ = some (.pointer (some ⟨tb, 0, none⟩)) ∧ w'.cell? ⟨w2.heap.size, 0, none⟩ = some (.int .i64 (s : Nat))) (go_keep) ((go_at_call 29; refine (p_tstep tb base s a p v S cores 0 _ (by exact (unhide HWd).tab) hs).mono ?_; rintro e w' ⟨rfl, hw'⟩; rw [hw', unhide HJ]))
    obtain ⟨W2, hW2⟩ : ∃ W2, W.drew = W2 := ⟨_, rfl⟩
    rw [hW2] at HWd ⊢
    have HBW := hide (show Below rb w W2 from hW2 ▸ ((unhide HB1).trans ((unhide HFW).below.mono (Nat.le_of_lt (unhide HH1).blk.lt))).drew)
    clear hW2 d0 d1 HWr
    go_wp2_with (first
      | (refine wpList_str_one rfl 44 9 5 (.tmp 26) rfl W2.heap.size 1 a (by omega) Tryd.underlying44 Tryd.underlying5 Tryd.underlying9 rfl (by simp) ?_)
      | (go_at_call 34; refine (p_pushS rb tb base p v S cores sv' ((s, x) :: st2) j [a] _ (by exact (unhide HWd).fr0 ((Fr.refl [] W2).alloc _)) (by rw [List.length_cons]; omega)).mono ?_; rintro e w5 ⟨rfl, hb5, sv5, h5⟩; have HX := hide (And.intro (show Below rb w w5 from ((unhide HBW).alloc (Nat.le_of_lt (unhide HWd).blk.lt) _).trans hb5) h5); clear hb5 h5))
    go_ret
    refine ⟨true, _, rfl, unhide HSet, (unhide HX).1, sv5, (fun e => by cases e), fun _ => ?_⟩
    rw [unhide HG]
    refine ⟨(unhide HX).2, unhide HI2, ?_⟩
    have := unhide HSz
    rw [List.length_cons, szT_cons]
    show _ + 1 + ([a].length + _) ≤ _
    simp only [List.length_cons, List.length_nil]
    rw [List.length_cons] at this
    omega
end Go.Proofs.YtkglggkkbmmjkaaDoor

namespace Go.Proofs.YtkglggkkbmmjkaaDoor
open Go.RowKit

/-- readM, with the letters that are read already -/
theorem readM_cons (L : List Ru) (r : Tb) (F a : Nat) (l : List Nat) (st : Stk) : readM L r F (a :: l) st = match settleM L r a F st with
    | (false, st') => (0, st')
    | (true, st') => ((readM L r F l (((gto r (topS st') a).toNat, [a]) :: st')).1 + 1, (readM L r F l (((gto r (topS st') a).toNat, [a]) :: st')).2) := by
  rw [readM]
  rcases settleM L r a F st with ⟨_ | _, st'⟩ <;> rfl
/-- how much is read of n letters at most -/
def tkB (n : Nat) : Nat := 1 + 4194306 * n
theorem tkB_succ (n : Nat) : tkB n + 4194306 = tkB (n + 1) := by unfold tkB; omega
theorem tkB_le {n : Nat} (h : n ≤ 12) : tkB n ≤ 55000000 := by unfold tkB; omega
/-- the state of takeAll -/
structure TaS (w wr : World) (rb tb base : Nat) (p : Pl) (v : Value) (S : List Sd) (cores : Nat) (L : List Ru) (N : Nat → Bool) (T : Nat → Nat → Bool) (r : Tb) (s : ByteArray) (st0 : Stk) (n : Nat) (sv : Value) (st : Stk) : Prop where
  bel : Below rb w wr
  rd : RdS wr rb tb base p v S cores sv st
  si : SI L N T r st ((bytes s).take n)
  same : readM L r 1048576 (bytes s) st0 = (n + (readM L r 1048576 ((bytes s).drop n) st).1, (readM L r 1048576 ((bytes s).drop n) st).2)
  sz : st.length + szT st ≤ tkB n
def TakesO (w : World) (rb tb base : Nat) (p : Pl) (v : Value) (S : List Sd) (cores : Nat) (L : List Ru) (N : Nat → Bool) (T : Nat → Nat → Bool) (r : Tb) (s : ByteArray) (st0 : Stk) (e : Ending) (w' : World) : Prop :=
  ∃ (n : Nat) (st' : Stk) (sv' : Value), e = .returned (.int .i64 (n : Nat)) ∧ readM L r 1048576 (bytes s) st0 = (n, st') ∧ Below rb w w' ∧ RdS w' rb tb base p v S cores sv' st' ∧ SI L N T r st' ((bytes s).take n) ∧ st'.length + szT st' ≤ 60000000

set_option maxRecDepth 100000 in
set_option maxHeartbeats 4000000 in
/-- reading.takeAll -/
theorem p_takeAll (t : ByteArray) (rb tb base : Nat) (p : Pl) (v : Value) (S : List Sd) (cores : Nat) (sv : Value) (L : List Ru) (N : Nat → Bool) (T : Nat → Nat → Bool) (r : Tb) (c F : Nat) (s : ByteArray) (w : World) (h : RdS w rb tb base p v S cores sv [(0, [])]) (hP : TabP t p L S r)
    (hR : Rd L N T r c F) (hs : s.size ≤ 12) (ha : ∀ c ∈ bytes s, smallB c = true) :
    Calls Tryd.prog 19 #[.pointer (some ⟨rb, 0, none⟩), .string s] w fun e w' => TakesO w rb tb base p v S cores L N T r s [(0, [])] e w' := by
  have HP := hide hP
  have HR := hide hR
  have HA := hide ha
  have HS0 := hide (show TaS w w rb tb base p v S cores L N T r s [(0, [])] 0 sv [(0, [])] from ⟨Below.refl _ _, h, by simpa using SI.base, by simp, by show 1 + 0 ≤ tkB 0; unfold tkB; omega⟩)
  clear h hP hR ha
  go_enter Tryd.func19, Tryd.ntmps19
  go_wp2
  go_loopw [5, 6] (fun nv _ wr => ∃ (n : Nat) (st' : Stk) (sv' : Value), n ≤ s.size ∧ nv = .int .i64 n ∧ Hid (TaS w wr rb tb base p v S cores L N T r s [(0, [])] n sv' st')) (fun nv _ _ => s.size - (intOf nv).toNat)
  case atStart => exact ⟨0, _, sv, by omega, rfl, HS0⟩
  case round =>
    obtain ⟨n, st1, sv1, hn, rfl, hst⟩ := hrel
    clear HS0
    by_cases hlt : n < s.size
    · have hcc : ((s[n]'hlt).toNat : Int) = ((ch s n : Nat) : Int) := by rw [ch_eq s n hlt]
      obtain ⟨a, hch⟩ : ∃ a, ch s n = a := ⟨_, rfl⟩
      rw [hch] at hcc
      have hdr : (bytes s).drop n = a :: (bytes s).drop (n + 1) := by
        have hl : n < (bytes s).length := by rw [bytes_len]; exact hlt
        rw [List.drop_eq_getElem_cons hl, bytes_get, hch]
      have HAs := hide (show smallB a = true from unhide HA a (List.mem_of_mem_drop (i := n) (by rw [hdr]; exact List.mem_cons_self ..)))
      have HTk := hide (show (bytes s).take (n + 1) = (bytes s).take n ++ [a] from by rw [bytes_snoc s n hlt, hch])
      have HDr := hide hdr
      have HCh := hide hch
      have hli : (n : Int) < s.size := by omega
      clear hdr hch
      obtain ⟨⟨b0, st2⟩, hset⟩ : ∃ q, settleM L r a 1048576 st1 = q := ⟨_, rfl⟩
      have HSet := hide hset
      clear hset
      cases b0
      · have HE := hide (show readM L r 1048576 (bytes s) [(0, [])] = (n, st2) from by
          rw [(unhide hst).same, unhide HDr, readM_cons, unhide HSet]; rfl)
        go_wp2_with (go_at_call 35; refine (p_take t rb tb base p v S cores sv1 L N T r a c F st1 ((bytes s).take n) (tkB n) wr (unhide hst).rd (unhide HP) (unhide HR) (unhide hst).si (unhide HAs) (unhide hst).sz (Nat.le_trans (tkB_le (by omega)) (by omega))).mono ?_; rintro e w1 ⟨b, st', rfl, h1, h2, sv', h3, _⟩; rw [unhide HSet] at h1; obtain ⟨hb, hs2⟩ := Prod.mk.inj h1; subst hb; subst hs2; have HX := hide (And.intro ((unhide hst).bel.trans h2) (h3 rfl)); clear h1 h2 h3)
        go_ret
        exact ⟨n, _, sv', rfl, unhide HE, (unhide HX).1, (unhide HX).2.1, (unhide HX).2.2.1, by have := (unhide HX).2.2.2; have h9 := tkB_le (show n ≤ 12 by omega); omega⟩
      · have HE := hide (show readM L r 1048576 (bytes s) [(0, [])] = ((n + 1) + (readM L r 1048576 ((bytes s).drop (n + 1)) (((gto r (topS st2) a).toNat, [a]) :: st2)).1, (readM L r 1048576 ((bytes s).drop (n + 1)) (((gto r (topS st2) a).toNat, [a]) :: st2)).2) from by
          rw [(unhide hst).same, unhide HDr, readM_cons, unhide HSet]
          dsimp only
          congr 1; omega)
        go_wp2_with (go_at_call 35; refine (p_take t rb tb base p v S cores sv1 L N T r a c F st1 ((bytes s).take n) (tkB n) wr (unhide hst).rd (unhide HP) (unhide HR) (unhide hst).si (unhide HAs) (unhide hst).sz (Nat.le_trans (tkB_le (by omega)) (by omega))).mono ?_; rintro e w1 ⟨b, st', rfl, h1, h2, sv', _, h3⟩; rw [unhide HSet] at h1; obtain ⟨hb, hs2⟩ := Prod.mk.inj h1; subst hb; subst hs2; have HX := hide (show TaS w w1 rb tb base p v S cores L N T r s [(0, [])] (n + 1) sv' (((gto r (topS st2) a).toNat, [a]) :: st2) from ⟨(unhide hst).bel.trans h2, (h3 rfl).1, (by rw [unhide HTk]; exact (h3 rfl).2.1), unhide HE, (by rw [← tkB_succ]; exact (h3 rfl).2.2)⟩); clear h1 h2 h3)
        go_roundw
        case rel => exact ⟨n + 1, _, sv', by omega, by go_num, HX⟩
        case measure => simp [intOf]; omega
    · have hn2 : n = s.size := by omega
      have HE := hide (show readM L r 1048576 (bytes s) [(0, [])] = (s.size, st1) from by
        rw [(unhide hst).same, List.drop_eq_nil_of_le (by rw [bytes_len]; omega), readM, hn2]; rfl)
      have hli : ¬ (n : Int) < s.size := by omega
      have HN2 := hide hn2
      clear hn2
      go_wp2
      go_ret
      exact ⟨s.size, st1, sv1, rfl, unhide HE, (unhide hst).bel, (unhide hst).rd, by have := (unhide hst).si; rw [unhide HN2] at this; exact this, by have := (unhide hst).sz; have h9 := tkB_le (show n ≤ 12 by omega); omega⟩

end Go.Proofs.YtkglggkkbmmjkaaDoor
