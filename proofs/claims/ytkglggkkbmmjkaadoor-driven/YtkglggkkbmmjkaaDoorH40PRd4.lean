import Derived.Test.YtkglggkkbmmjkaaDoorH39PRd3
namespace Go.Proofs.YtkglggkkbmmjkaaDoor
open Go.RowKit

def szT (st : Stk) : Nat := (st.map fun q => q.2.length).sum
theorem szT_cons (q : Nat × List Nat) (st : Stk) : szT (q :: st) = q.2.length + szT st := by unfold szT; simp
theorem szT_app (a b : Stk) : szT (a ++ b) = szT a + szT b := by unfold szT; simp
theorem txt_len : ∀ pt : Stk, (txt pt).length = szT pt
  | [] => rfl
  | q :: pt => by rw [txt_cons, List.length_append, txt_len pt, szT_cons]; omega
/-- what is written of the first t of the letters -/
def txR (pt : Stk) (t : Nat) : List Nat := (pt.reverse.take t).flatMap (·.2)
theorem txR_all (pt : Stk) {t : Nat} (h : pt.length ≤ t) : txR pt t = txt pt := by
  unfold txR txt
  rw [List.take_of_length_le (by simpa using h)]
theorem txR_succ (pt : Stk) {t : Nat} (h : t < pt.length) : txR pt (t + 1) = txR pt t ++ (pt.reverse[t]'(by simpa using h)).2 := by
  unfold txR
  rw [List.take_succ_eq_append_getElem (by simpa using h)]; simp
theorem txR_le (pt : Stk) (t : Nat) : (txR pt t).length ≤ szT pt := by
  rw [← txt_len]
  unfold txR txt
  have : ∀ (l : Stk) (t : Nat), ((l.take t).flatMap (·.2)).length ≤ (l.flatMap (·.2)).length := by
    intro l
    induction l with
    | nil => intro t; simp
    | cons q l ih =>
      intro t
      cases t with
      | zero => simp
      | succ t => rw [List.take_succ_cons, List.flatMap_cons, List.flatMap_cons, List.length_append, List.length_append]; have := ih t; omega
  exact this _ _
theorem elt_le (pt : Stk) {t : Nat} (h : t < pt.length) : (pt.reverse[t]'(by simpa using h)).2.length ≤ szT pt := by
  have := txR_le pt (t + 1)
  rw [txR_succ pt h, List.length_append] at this
  omega
/-- where a letter's text lies -/
theorem stC_text (pt st : Stk) (q : Nat × List Nat) {t : Nat} (h : t < pt.length) : (stC (pt ++ q :: st))[(st.length + 1 + t) * 2 + 1]? = some (.string (bstr (pt.reverse[t]'(by simpa using h)).2)) := by
  rw [stC_app, List.getElem?_append_right (by rw [stC_len, List.length_cons]; omega), stC_len, List.length_cons, show (st.length + 1 + t) * 2 + 1 - (st.length + 1) * 2 = t * 2 + 1 from by omega]
  unfold stC
  have key : ∀ (l : Stk) (t : Nat) (h : t < l.length), (l.flatMap fun q => [Value.int .i64 (q.1 : Nat), .string (bstr q.2)])[t * 2 + 1]? = some (.string (bstr l[t].2)) := by
    intro l
    induction l with
    | nil => intro t h; simp at h
    | cons a l ih =>
      intro t h
      rw [List.flatMap_cons]
      cases t with
      | zero => rfl
      | succ t =>
        rw [show (t + 1) * 2 + 1 = (t * 2 + 1) + 2 from by omega]
        have := ih t (by simpa using h)
        simpa using this
  exact key _ t (by simpa using h)
theorem RdS.form2 {w : World} {rb tb base : Nat} {p : Pl} {v : Value} {S : List Sd} {cores : Nat} {sv : Value} {st : Stk} (h : RdS w rb tb base p v S cores sv st) (hne : 0 < st.length) : ∃ g cap, sv = .slice (some ⟨g, 0, none⟩) st.length cap ∧ rb + 1 ≤ g ∧ g < w.heap.size ∧ st.length ≤ cap ∧ cap ≤ maxLen := by
  obtain ⟨_, h2⟩ := h.row
  rcases h2 with ⟨_, h3⟩ | ⟨g, cap, cur, e, h3, h4, h5, h6, _⟩
  · omega
  · have := h.row.lt g (by rw [e]; rfl)
    exact ⟨g, cap, e, this.1, this.2, h5, h6⟩
/-- fewer stages -/
theorem ownsRow_take {w : World} {base e g n m cap : Nat} {xs ys : List Value} (h : w.ownsRow base e 2 (.slice (some ⟨g, 0, none⟩) n cap) n (xs ++ ys)) (hx : xs.length = m * 2) (hm : m ≤ n) : w.ownsRow base e 2 (.slice (some ⟨g, 0, none⟩) m cap) m xs := by
  obtain ⟨h1, h2⟩ := h
  refine ⟨hx, Or.inr ?_⟩
  rcases h2 with ⟨h3, _⟩ | ⟨g', cap', cur, e', h3, h4, h5, h6, h7, h8⟩
  · cases h3
  · cases e'
    refine ⟨g, cap, cur, rfl, h3, h4, by omega, h6, h7, ?_⟩
    have := congrArg (List.take (m * 2)) h8
    rw [List.take_take, Nat.min_eq_left (Nat.mul_le_mul_right 2 hm), ← hx, List.take_left] at this
    rw [hx] at this
    exact this
theorem RdS.cut {w : World} {rb tb base g cap : Nat} {p : Pl} {v : Value} {S : List Sd} {cores : Nat} {pt st : Stk} (h : RdS w rb tb base p v S cores (.slice (some ⟨g, 0, none⟩) (pt ++ st).length cap) (pt ++ st)) : RdS (w.setCell ⟨rb, 1, none⟩ (.slice (some ⟨g, 0, none⟩) st.length cap)) rb tb base p v S cores (.slice (some ⟨g, 0, none⟩) st.length cap) st ∧ Below rb w (w.setCell ⟨rb, 1, none⟩ (.slice (some ⟨g, 0, none⟩) st.length cap)) := by
  have hb : Below rb w (w.setCell ⟨rb, 1, none⟩ (.slice (some ⟨g, 0, none⟩) st.length cap)) := (Below.refl rb w).setCell (by simp) _
  refine ⟨⟨(h.blk.setCell 1 _).congr fun i hi => rdF_upd tb _ _ i hi, ?_, h.tab.below hb h.tlt h.vlt, h.tlt, h.vlt⟩, hb⟩
  have hr := h.row
  rw [stC_app] at hr
  exact ownsRow_setCell_below (ownsRow_take hr (stC_len st) (by rw [List.length_append]; omega)) (by simp) _
theorem node_str (k : Nat) (x : List Nat) : ((bstr [48 + k] ++ (⟨#[40]⟩ : ByteArray)) ++ bstr x) ++ (⟨#[41]⟩ : ByteArray) = bstr (nodeT k x) := by
  rw [show (⟨#[40]⟩ : ByteArray) = bstr [40] from rfl, show (⟨#[41]⟩ : ByteArray) = bstr [41] from rfl, ← bstr_app, ← bstr_app, ← bstr_app]
  unfold nodeT
  simp

set_option maxRecDepth 100000 in
set_option maxHeartbeats 4000000 in
/-- reading.replace -/
theorem p_replace (rb tb base : Nat) (p : Pl) (v : Value) (S : List Sd) (cores : Nat) (sv : Value) (k m c j s : Nat) (x : List Nat) (pt st : Stk) (w : World)
    (h : RdS w rb tb base p v S cores sv (pt ++ (s, x) :: st)) (hpt : pt.length = m) (hk : k < 9) (hm : m < 5) (h1 : p.en k m = true) (h0 : ∀ i, i < m → p.en k i = false) (hc : p.left k = c) (hs : s < S.length) (hj : stepTo S s c = (j : Nat)) (hn : st.length ≤ 90000000) (hz : szT pt ≤ 1000000000) :
    Calls Tryd.prog 38 #[.pointer (some ⟨rb, 0, none⟩), .int .i64 (k : Nat)] w fun e w' => e = .returned (.tuple #[]) ∧ Below rb w w' ∧ ∃ sv', RdS w' rb tb base p v S cores sv' ((j, nodeT k (txt pt)) :: (s, x) :: st) := by
  obtain ⟨g, cap, rfl, hg1, hg2, hcap, hcm⟩ := h.form2 (by rw [List.length_append, List.length_cons]; omega)
  have c1 : w.cell? ⟨rb, 1, none⟩ = some (.slice (some ⟨g, 0, none⟩) (pt ++ (s, x) :: st).length cap) := h.blk.cell 1 (by omega)
  have c2 : w.cell? ⟨rb, 0, none⟩ = some (.pointer (some ⟨tb, 0, none⟩)) := h.blk.cell 0 (by omega)
  have z1 := h.blk.free 1
  have hrb := h.blk.lt
  obtain ⟨N, hN⟩ : ∃ N, (pt ++ (s, x) :: st).length = N := ⟨_, rfl⟩
  obtain ⟨n, hnn⟩ : ∃ n, st.length = n := ⟨_, rfl⟩
  have hNm : N = m + (n + 1) := by rw [← hN, List.length_append, List.length_cons, hpt, hnn]
  rw [hN] at c1 hcap
  rw [hnn] at hn
  have hw0 : IntKind.i64.wrap ((N : Int) - (m : Int)) = (n : Int) + 1 := by rw [IntKind.wrap_i64]; omega
  have f1 : ¬ (n : Int) + 1 < 1 := by omega
  have f2 : ¬ (N : Int) < (n : Int) + 1 := by omega
  have f3 : (n : Int) + 1 ≤ (cap : Int) := by omega
  have f4 : (0 : Int) ≤ (n : Int) + 1 := by omega
  have HH := hide h
  have HN := hide hN
  have HNm := hide hNm
  have Hnn := hide hnn
  have H1 := hide h1
  have H0 := hide h0
  have HC := hide hc
  have HJ := hide hj
  have HPT := hide hpt
  have hNb : N ≤ 100000000 := by omega
  clear h hN hNm hnn h1 h0 hc hj hpt hcm
  go_enter Tryd.func38, Tryd.ntmps38
  go_wp2
  go_region_held3 (fun w' => w'.cell? ⟨rb, 1, none⟩ = some (.slice (some ⟨g, 0, none⟩) N cap) ∧ w'.cell? ⟨rb, 0, none⟩ = some (.pointer (some ⟨tb, 0, none⟩))) (go_keep) ((go_at_call 49; refine (p_rightLength tb k m p _ (by exact (unhide HH).tab.plan) hk hm (unhide H1) (unhide H0)).mono ?_; rintro e w' ⟨rfl, hw'⟩; rw [hw']))
  obtain ⟨w1, hw1⟩ : ∃ w1, w.drew = w1 := ⟨_, rfl⟩
  rw [hw1]
  have HH1 := hide (show RdS w1 rb tb base p v S cores (.slice (some ⟨g, 0, none⟩) (pt ++ (s, x) :: st).length cap) (pt ++ (s, x) :: st) from hw1 ▸ (unhide HH).fr0 (Fr.refl [] w).drew)
  have HB1 := hide (show Below rb w w1 from hw1 ▸ (Below.refl rb w).drew)
  clear c1 c2 z1 HH hg2 hrb hw1
  have c1 : w1.cell? ⟨rb, 1, none⟩ = some (.slice (some ⟨g, 0, none⟩) N cap) := by rw [← unhide HN]; exact (unhide HH1).blk.cell 1 (by omega)
  have z1 := (unhide HH1).blk.free 1
  go_wp2
  go_loop [5, 6] (fun av iv => ∃ t i : Nat, t ≤ m ∧ i ≤ N ∧ Hid (i = n + 1 + t) ∧ iv = .int .i64 i ∧ av = .string (bstr (txR pt t))) (fun _ iv => N - (intOf iv).toNat)
  case atStart => exact ⟨0, n + 1, by omega, by have := unhide HNm; omega, rfl, by go_num, rfl⟩
  case round =>
    obtain ⟨t, i, ht, hi, hit, rfl, rfl⟩ := hrel
    by_cases hlt : i < N
    · have htm : t < pt.length := by have := unhide hit; have := unhide HNm; have := unhide HPT; omega
      have d1 : w1.cell? ⟨g, i * 2 + 1, none⟩ = some (.string (bstr (pt.reverse[t]'(by simpa using htm)).2)) := by
        have := row_cell (unhide HH1).row (stC_text pt st (s, x) htm)
        rw [unhide Hnn, ← unhide hit] at this
        exact this
      have s1 := bstr_size (txR pt t)
      have s2 := txR_le pt t
      have s3 := bstr_size (pt.reverse[t]'(by simpa using htm)).2
      have s4 := elt_le pt htm
      have HT := hide (show bstr (txR pt t) ++ bstr (pt.reverse[t]'(by simpa using htm)).2 = bstr (txR pt (t + 1)) from by rw [txR_succ pt htm, bstr_app])
      have HT1 := hide (show t + 1 ≤ m from by have := unhide HPT; omega)
      obtain ⟨bb, hbb⟩ : ∃ bb, bstr (pt.reverse[t]'(by simpa using htm)).2 = bb := ⟨_, rfl⟩
      rw [hbb] at d1 HT s3
      obtain ⟨aa, haa⟩ : ∃ aa, bstr (txR pt t) = aa := ⟨_, rfl⟩
      rw [haa] at HT s1 ⊢
      have hsz : aa.size + bb.size ≤ 9223372036854775807 := by omega
      have hil : (i : Int) < N := by omega
      clear haa s1 s2 s3 s4 hbb htm
      go_wp2
      go_round
      case rel => exact ⟨t + 1, i + 1, unhide HT1, by omega, by have := unhide hit; exact (by omega : i + 1 = n + 1 + (t + 1)), by go_num, by rw [unhide HT]⟩
      case measure => simp [intOf]; omega
    · have hiN : i = N := by omega
      subst hiN
      have htm : t = m := by have := unhide hit; have := unhide HNm; omega
      subst htm
      have HI := hide (show bstr (txR pt t) = bstr (txt pt) from by rw [txR_all pt (by rw [unhide HPT]; exact Nat.le_refl _)])
      rw [unhide HI]
      obtain ⟨ins, hins⟩ : ∃ ins, bstr (txt pt) = ins := ⟨_, rfl⟩
      rw [hins]
      have hisz : ins.size ≤ 1000000000 := by rw [← hins, bstr_size, txt_len]; exact hz
      have HIns := hide hins
      clear hins HI
      go_wp2_with fail
      have hcut := (unhide HH1).cut
      rw [List.length_cons, unhide Hnn] at hcut
      obtain ⟨w2, hw2⟩ : ∃ w2, w1.setCell ⟨rb, 1, none⟩ (.slice (some ⟨g, 0, none⟩) (n + 1) cap) = w2 := ⟨_, rfl⟩
      rw [hw2] at hcut ⊢
      have HH2 := hide hcut.1
      have HB2 := hide ((unhide HB1).trans hcut.2)
      clear hcut hw2 c1 z1 HH1 HB1
      refine (p_last rb tb base p v S cores _ (s, x) st w2 (by exact unhide HH2) (by have := unhide Hnn; omega)).mono ?_
      rintro e w3 ⟨rfl, hf3⟩
      have HH3 := hide ((unhide HH2).fr0 hf3)
      have HB3 := hide ((unhide HB2).trans (hf3.below.mono (Nat.le_of_lt (unhide HH2).blk.lt)))
      have HH4 := hide (show ∀ o, RdS (w3.alloc o) rb tb base p v S cores (.slice (some ⟨g, 0, none⟩) (n + 1) cap) ((s, x) :: st) from fun o => (unhide HH3).fr0 ((Fr.refl [] w3).alloc o))
      have HH5 := hide (show ∀ o, RdS (w3.alloc o).drew rb tb base p v S cores (.slice (some ⟨g, 0, none⟩) (n + 1) cap) ((s, x) :: st) from fun o => (unhide HH4 o).fr0 (Fr.refl [] _).drew)
      have k2 : ∀ o, (w3.alloc o).cell? ⟨rb, 0, none⟩ = some (.pointer (some ⟨tb, 0, none⟩)) := fun o => (unhide HH4 o).blk.cell 0 (by omega)
      clear hf3 HH2 HB2
      go_wp2_with (go_at_call 50; refine (p_leftOf tb k p _ (by exact (unhide HH4 _).tab.plan) hk).mono ?_; rintro e w' ⟨rfl, hw'⟩; rw [hw', unhide HC])
      go_region_held3 (fun w' => w'.cell? ⟨rb, 0, none⟩ = some (.pointer (some ⟨tb, 0, none⟩)) ∧ w'.cell? ⟨w3.heap.size, 0, none⟩ = some (.int .i64 (s : Nat))) (go_keep) ((go_at_call 29; refine (p_tstep tb base s c p v S cores 0 _ (by exact (unhide HH5 _).tab) hs).mono ?_; rintro e w' ⟨rfl, hw'⟩; rw [hw', unhide HJ]))
      have HB5 := hide (show Below rb w (w3.alloc (.cells #[.int .i64 (s : Nat), .string (bstr x)] 67)).drew from ((unhide HB3).alloc (Nat.le_of_lt (unhide HH3).blk.lt) _).drew)
      have HH6 := hide (unhide HH5 (.cells #[.int .i64 (s : Nat), .string (bstr x)] 67))
      obtain ⟨w5, hw5⟩ : ∃ w5, (w3.alloc (.cells #[.int .i64 (s : Nat), .string (bstr x)] 67)).drew = w5 := ⟨_, rfl⟩
      rw [hw5] at HB5 HH6 ⊢
      clear hw5 HH5 HH4 HH3 HB3 k2
      have HNS := hide (node_str k (txt pt))
      rw [unhide HIns] at HNS
      have ha1 := bstr_size [48 + k]
      rw [show [48 + k].length = 1 from rfl] at ha1
      obtain ⟨a1, hea1⟩ : ∃ a1, bstr [48 + k] = a1 := ⟨_, rfl⟩
      rw [hea1] at ha1 HNS
      have HA1 := hide hea1
      have hs2 : (a1 ++ (⟨#[40]⟩ : ByteArray)).size = 2 := by rw [ByteArray.size_append, ha1]; rfl
      have hs3 : ((a1 ++ (⟨#[40]⟩ : ByteArray)) ++ ins).size ≤ 1000000002 := by rw [ByteArray.size_append, hs2]; omega
      clear hea1
      go_wp2_with fail
      refine (p_itoa k w5 (by omega)).mono ?_
      rintro e w' ⟨rfl, hw'⟩
      rw [hw', unhide HA1]
      go_wp2_with fail
      rw [unhide HNS]
      refine (p_pushS rb tb base p v S cores _ ((s, x) :: st) j (nodeT k (txt pt)) w5 (by exact unhide HH6) (by rw [List.length_cons]; have := unhide Hnn; omega)).mono ?_
      rintro e w6 ⟨rfl, hb6, sv6, h6⟩
      have HE := hide (show Below rb w w6 ∧ ∃ sv', RdS w6 rb tb base p v S cores sv' ((j, nodeT k (txt pt)) :: (s, x) :: st) from ⟨(unhide HB5).trans hb6, sv6, h6⟩)
      clear hb6 h6
      go_wp2
      go_end0
      exact ⟨rfl, unhide HE⟩
end Go.Proofs.YtkglggkkbmmjkaaDoor
