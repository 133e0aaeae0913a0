import Derived.Test.YtkglggkkbmmjkaaGreatDoorJ22RFull
namespace Go.Proofs.YtkglggkkbmmjkaaGreatDoor
open Go.RowKit

/-- an item moves over a letter -/
def MvB (rs : List Ru) (c : Nat) (x : It) : Prop := x.P < (rget rs x.R).R.size ∧ ch (rget rs x.R).R x.P = c
def mvI (x : It) : It := ⟨x.R, x.P + 1, x.T⟩
/-- the items behind a letter, in order -/
structure KernOf (rs : List Ru) (c : Nat) (l K : List It) : Prop where
  srt : Srt K
  ok : ∀ y ∈ K, IOk rs y
  mem : ∀ y, y ∈ K ↔ ∃ x ∈ l, MvB rs c x ∧ y = mvI x
theorem KernOf.nil (rs : List Ru) (c : Nat) : KernOf rs c [] [] := ⟨List.Pairwise.nil, (fun _ h => by cases h), (fun y => by simp)⟩
theorem KernOf.skip {rs : List Ru} {c i : Nat} {l K : List It} (h : KernOf rs c (l.take i) K) (hi : i < l.length) (hn : ¬ MvB rs c (lget l i)) : KernOf rs c (l.take (i + 1)) K := by
  refine ⟨h.srt, h.ok, fun y => ?_⟩
  rw [h.mem y, List.take_succ_eq_append_getElem hi]
  constructor
  · rintro ⟨x, hx, h1, h2⟩
    exact ⟨x, List.mem_append_left _ hx, h1, h2⟩
  · rintro ⟨x, hx, h1, h2⟩
    rcases List.mem_append.1 hx with hx | hx
    · exact ⟨x, hx, h1, h2⟩
    · have : x = l[i] := by simpa using hx
      rw [this, ← lget_eq l i hi] at h1
      exact absurd h1 hn
theorem KernOf.put {rs : List Ru} {c i : Nat} {l K : List It} (h : KernOf rs c (l.take i) K) (hi : i < l.length) (hm : MvB rs c (lget l i)) (hok : IOk rs (lget l i)) (hl : rs.length ≤ 9) (hs : ∀ i (h : i < rs.length), rs[i].R.size ≤ 4) : KernOf rs c (l.take (i + 1)) (putL K (mvI (lget l i))) := by
  have hy : IOk rs (mvI (lget l i)) := ⟨hok.1, hm.1, hok.2.2⟩
  refine ⟨putL_srt _ _ h.srt, fun y hy' => ?_, fun y => ?_⟩
  · rcases putL_mem _ _ _ hy' with h1 | rfl
    · exact h.ok y h1
    · exact hy
  · rw [List.take_succ_eq_append_getElem hi]
    constructor
    · intro h1
      rcases putL_mem _ _ _ h1 with h1 | rfl
      · obtain ⟨x, hx, h2, h3⟩ := (h.mem y).1 h1
        exact ⟨x, List.mem_append_left _ hx, h2, h3⟩
      · exact ⟨lget l i, List.mem_append_right _ (by rw [lget_eq l i hi]; exact List.mem_singleton.2 rfl), hm, rfl⟩
    · rintro ⟨x, hx, h2, rfl⟩
      rcases List.mem_append.1 hx with hx | hx
      · exact putL_sub _ _ _ ((h.mem _).2 ⟨x, hx, h2, rfl⟩)
      · have e : x = l[i] := by simpa using hx
        rw [e, ← lget_eq l i hi]
        exact putL_in h.ok hy hl hs
theorem KernOf.len {rs : List Ru} {c : Nat} {l K : List It} (h : KernOf rs c l K) (hl : rs.length ≤ 9) (hs : ∀ i (h : i < rs.length), rs[i].R.size ≤ 4) : K.length ≤ 8832 := by
  have := srt_len K 0 8832 h.srt (fun x hx => ⟨Nat.zero_le _, ((h.ok x hx).ok hl hs).key_lt⟩)
  omega

/-- put of an item that has moved -/
theorem r_put_mv (B : Nat) (v : Value) (l : List It) (x : It) (w : World) (h : IRow w B v l) (hok : ∀ y ∈ l, y.ok) (hx : (mvI x).ok) (hn : l.length ≤ 10000) (hB : B ≤ w.heap.size) (hs : Srt l) :
    Calls Tryz.prog 143 #[v, .agg #[.int .i64 x.R, .int .i64 ((x.P : Int) + 1), .int .u8 x.T]] w fun e w' => ∃ v', e = .returned (.tuple #[v', .bool (!hasK l (mvI x))]) ∧ IRow w' B v' (putL l (mvI x)) ∧ Fr v.ownBlock.toList w w' ∧ (∀ g', v'.ownBlock = some g' → v.ownBlock = some g' ∨ w.heap.size ≤ g') := by
  have := r_put B v l (mvI x) w h hok hx hn hB hs
  rw [show (((mvI x).P : Nat) : Int) = (x.P : Int) + 1 from by unfold mvI; simp] at this
  exact this

/-- what step hands back -/
def StepOut (w : World) (mb q cq fq : Nat) (rs : List Ru) (N : Nat → Bool) (T : Nat → Nat → Bool) (c : Nat) (l : List It) (e : Ending) (w' : World) : Prop :=
  ∃ v' K L, e = .returned v' ∧ KernOf rs c l K ∧ FullOf rs N T K L ∧ FuS w w' w.heap.size mb q cq fq rs N T v' L

set_option maxRecDepth 100000 in
set_option maxHeartbeats 8000000 in
theorem r_step (mb q cq fq gl cl c : Nat) (rs : List Ru) (N : Nat → Bool) (T : Nat → Nat → Bool) (l : List It) (w : World) (h : TB w mb q cq fq rs N T) (hl : ItAt w gl l) (hg : gl < w.heap.size)
    (hT : ∀ c x, x < 128 → T c x = true → smallB x = true) (hok : ∀ y ∈ l, IOk rs y) (hn : l.length ≤ 10000) :
    Calls Tryz.prog 124 #[.pointer (some ⟨mb, 0, none⟩), .slice (some ⟨gl, 0, none⟩) l.length cl, .int .u8 c] w fun e w' => StepOut w mb q cq fq rs N T c l e w' := by
  have hlen := h.len
  have HSm := hide h.small
  have HT := hide hT
  have HOk := hide hok
  have HIt := hide hl
  have HS0 := hide (show FuS w w w.heap.size mb q cq fq rs N T (.slice none 0 0) [] from ⟨Below.refl _ _, h, World.ownsRow_nil _ _ _ _, Nat.le_refl _, h.cN.lt, h.lt, h.fT.lt⟩)
  clear h hT hok hl
  go_enter Tryz.func124, Tryz.ntmps124
  go_wp2
  go_loopw [7, 8] (fun v' iv wr => ∃ (K : List It) (i : Nat), i ≤ l.length ∧ iv = .int .i64 i ∧ Hid (KernOf rs c (l.take i) K) ∧ Hid (FuS w wr w.heap.size mb q cq fq rs N T v' K)) (fun _ iv _ => l.length - (intOf iv).toNat)
  case atStart => exact ⟨[], 0, by omega, rfl, KernOf.nil rs c, HS0⟩
  case round =>
    obtain ⟨K, i, hi, rfl, hk, hfs⟩ := hrel
    by_cases hlt : i < l.length
    · obtain ⟨x, hx⟩ : ∃ x, lget l i = x := ⟨_, rfl⟩
      obtain ⟨c0, c1, c2⟩ := (unhide HIt).below (unhide hfs).below hg i hlt
      rw [hx] at c0 c1 c2
      have HX := hide hx
      have HIO := hide (show IOk rs x from by rw [← hx, lget_eq l i hlt]; exact unhide HOk _ (List.getElem_mem hlt))
      obtain ⟨hxR, hxP, _⟩ := unhide HIO
      obtain ⟨rt, hrt⟩ : ∃ rt, (rget rs x.R).R = rt := ⟨_, rfl⟩
      have HRt := hide hrt
      have hrs4 : rt.size ≤ 4 := by rw [← hrt, rget_eq rs _ hxR]; exact unhide HSm _ hxR
      rw [hrt] at hxP
      have t0 := (unhide hfs).tb.cL
      have t2 : wr.cell? ⟨q, x.R * 3 + 1, none⟩ = some (.string rt) := by
        rw [((unhide hfs).tb.ru x.R hxR).2.1, ← rget_eq rs _ hxR, hrt]
      have v0 : (0 : Int) ≤ (x.R : Int) := by omega
      have v1 : (x.R : Int) < (rs.length : Int) := by omega
      clear hx hrt
      by_cases hlP : x.P < rt.size
      · have hch := hide (ch_eq rt x.P hlP)
        by_cases hc : rt[x.P].toNat = c
        · have hcb : (((rt[x.P].toNat : Nat) : Int) == (c : Nat)) = true := by rw [beq_iff_eq]; omega
          go_wp2_with fail
          go_quiet (fail)
          go_wp2_with fail
          generalize hwd : World.drewN wr _ = wq
          have HFq := hide (show FuS w wq w.heap.size mb q cq fq rs N T u7 K from by rw [← hwd]; exact (unhide hfs).fr (fr_drewN _ _))
          obtain ⟨d0, d1, d2⟩ := (unhide HIt).below (unhide HFq).below hg i hlt
          rw [unhide HX] at d0 d1 d2
          have HMv := hide (show MvB rs c (lget l i) from by rw [unhide HX]; exact ⟨by rw [unhide HRt]; exact hlP, by rw [unhide HRt, unhide hch]; exact hc⟩)
          have HN := hide ((unhide hk).put hlt (unhide HMv) (by rw [unhide HX]; exact unhide HIO) hlen (unhide HSm))
          rw [unhide HX] at HN
          have HYok := hide (show (mvI x).ok from IOk.ok (rs := rs) ⟨hxR, by show x.P + 1 ≤ (rget rs x.R).R.size; rw [unhide HRt]; exact hlP, (unhide HIO).2.2⟩ hlen (unhide HSm))
          have HLen := hide ((unhide hk).len hlen (unhide HSm))
          have hgn : gl ∉ u7.ownBlock.toList := fun hm => by
            have := ((unhide HFq).row.own (by simpa using hm)).1
            omega
          have hwp : IntKind.i64.wrap ((x.P : Int) + 1) = (x.P : Int) + 1 := by rw [IntKind.wrap_i64]; omega
          clear c0 c1 c2 t0 t2 hwd hfs
          go_region_held3 (fun w' => w'.cell? ⟨gl, i * 3, none⟩ = some (.int .i64 x.R) ∧ w'.cell? ⟨gl, i * 3 + 1, none⟩ = some (.int .i64 x.P) ∧ w'.cell? ⟨gl, i * 3 + 2, none⟩ = some (.int .u8 x.T)) (first | (exact ⟨d0, d1, d2⟩) | (exact ⟨hf6.cell (by exact d0) hgn, hf6.cell (by exact d1) hgn, hf6.cell (by exact d2) hgn⟩)) ((go_at_call 143; refine (r_put_mv w.heap.size u7 K x _ (by exact ((unhide HFq).fr ((Fr.refl [] _).drew)).row) (fun y hy => ((unhide hk).ok y hy).ok hlen (unhide HSm)) (unhide HYok) (Nat.le_trans (unhide HLen) (by omega)) (by exact (unhide HFq).hB) (unhide hk).srt).mono ?_; rintro e w6 ⟨v6, rfl, hrow6, hf6, ho6⟩))
          have HF6 := hide (((unhide HFq).fr ((Fr.refl [] _).drew)).put hf6 hrow6)
          clear hf6 hrow6 ho6
          go_wp2
          go_roundw
          case rel => exact ⟨_, i + 1, by omega, by go_num, HN, HF6⟩
          case measure => simp [intOf]; omega
        · have hcb : (((rt[x.P].toNat : Nat) : Int) == (c : Nat)) = false := by rw [beq_eq_false_iff_ne]; omega
          have HN := hide ((unhide hk).skip hlt (by rw [unhide HX]; intro h; exact hc (by rw [← unhide hch, ← unhide HRt]; exact h.2)))
          go_wp2_with fail
          go_quiet (fail)
          go_wp2
          go_roundw
          case rel => exact ⟨K, i + 1, by omega, by go_num, HN, hide ((unhide hfs).fr (fr_drewN _ _))⟩
          case measure => simp [intOf]; omega
      · have HN := hide ((unhide hk).skip hlt (by rw [unhide HX]; intro h; exact hlP (by rw [← unhide HRt]; exact h.1)))
        go_wp2_with fail
        go_quiet (fail)
        go_wp2
        go_roundw
        case rel => exact ⟨K, i + 1, by omega, by go_num, HN, hide ((unhide hfs).fr (fr_drewN _ _))⟩
        case measure => simp [intOf]; omega
    · have HK := hide (show KernOf rs c l K from by have := unhide hk; rw [List.take_of_length_le (by omega)] at this; exact this)
      clear hk
      go_wp2_with (go_at_call 122; refine (r_full w.heap.size mb q cq fq rs N T u7 K _ (by exact (unhide hfs).tb) (by exact (unhide hfs).row) (by exact (unhide hfs).hB) (unhide hfs).hm (unhide hfs).hq (unhide hfs).hf (unhide HT) (unhide HK).srt (unhide HK).ok).mono ?_; rintro e w2 ⟨v2, L2, rfl, hfo, hfs2⟩; have HFO := hide hfo; have HF2 := hide (show FuS w w2 w.heap.size mb q cq fq rs N T v2 L2 from ⟨(unhide hfs).below.trans hfs2.below, hfs2.tb, hfs2.row, hfs2.hB, hfs2.hm, hfs2.hq, hfs2.hf⟩); clear hfo hfs2)
      go_ret
      exact ⟨_, K, L2, rfl, unhide HK, unhide HFO, unhide HF2⟩
end Go.Proofs.YtkglggkkbmmjkaaGreatDoor

namespace Go.Proofs.YtkglggkkbmmjkaaGreatDoor
open Go.RowKit

theorem Tryz.infoItems : (Tryz.prog.info? 178).map (fun i => (i.zero, i.size, i.bytes)) = some (some (.slice none 0 0), 1, 24) := by kernel_rfl

/-- a state that lies in memory -/
structure Sl where
  g : Nat
  c : Nat
  l : List It
def slV (s : Sl) : Value := .slice (some ⟨s.g, 0, none⟩) s.l.length s.c
/-- a table's states: own blocks from Bs on -/
structure SAt (w : World) (Bs mb : Nat) (vS : Value) (ls : List Sl) : Prop where
  cell : w.cell? ⟨mb, 130, none⟩ = some vS
  free : w.frozen? ⟨mb, 130, none⟩ = false
  own : w.ownsRow Bs 178 1 vS ls.length (ls.map slV)
  its : ∀ s ∈ ls, ItAt w s.g s.l ∧ s.g < w.heap.size ∧ s.l.length ≤ 10000 ∧ vS.ownBlock ≠ some s.g ∧ s.g ≠ mb
  base : mb < Bs
  small : ls.length ≤ 50
theorem Fr.frozen {S : List Nat} {w w' : World} (k : Fr S w w') {b o : Nat} (hb : b ∉ S) (hlt : b < w.heap.size) : w'.frozen? ⟨b, o, none⟩ = w.frozen? ⟨b, o, none⟩ := by
  unfold World.frozen?
  rw [k.block b hlt hb]
theorem SAt.fr {S : List Nat} {w w' : World} {Bs mb : Nat} {vS : Value} {ls : List Sl} (h : SAt w Bs mb vS ls) (k : Fr S w w') (hm : mb ∉ S) (ho : ∀ g, vS.ownBlock = some g → g ∉ S) (hi : ∀ s ∈ ls, s.g ∉ S) : SAt w' Bs mb vS ls :=
  ⟨k.cell h.cell hm, by rw [k.frozen hm (World.block_lt_of_cell? w ⟨mb, 130, none⟩ h.cell)]; exact h.free, ownsRow_fr' h.own k ho, fun s hs => ⟨(h.its s hs).1.fr k (hi s hs), Nat.lt_of_lt_of_le (h.its s hs).2.1 k.size, (h.its s hs).2.2⟩, h.base, h.small⟩
theorem SAt.fr0 {w w' : World} {Bs mb : Nat} {vS : Value} {ls : List Sl} (h : SAt w Bs mb vS ls) (k : Fr [] w w') : SAt w' Bs mb vS ls := h.fr k (by simp) (by simp) (by simp)
theorem slV_get {w : World} {Bs gS n cS : Nat} {ls : List Sl} (h : w.ownsRow Bs 178 1 (.slice (some ⟨gS, 0, none⟩) n cS) ls.length (ls.map slV)) (i : Nat) (hi : i < ls.length) : w.cell? ⟨gS, i, none⟩ = some (slV ls[i]) := by
  obtain ⟨h1, h2⟩ := h
  rcases h2 with ⟨h2, _⟩ | ⟨g', cap', cur, hv, hg, hh, hle, hmx, hsz, htk⟩
  · cases h2
  · cases hv
    have e : (ls.map slV)[i]? = some (slV ls[i]) := by simp [hi]
    rw [← htk, List.getElem?_take, if_pos (by omega), Array.getElem?_toList] at e
    have hlt : i < cur.size := by omega
    simp only [World.cell?, hh]
    simpa using e

/-- the number of the first state that is this list -/
def numI (ls : List Sl) (l : List It) : Option Nat := ls.findIdx? fun s => eqL s.l l
theorem numI_some {ls : List Sl} {l : List It} {i : Nat} (hi : i < ls.length) (h : eqL ls[i].l l = true) (hb : ∀ j (hj : j < ls.length), j < i → eqL ls[j].l l = false) : numI ls l = some i := by
  unfold numI
  rw [List.findIdx?_eq_some_iff_getElem]
  exact ⟨hi, h, fun j hj => by rw [hb j (by omega) hj]; simp⟩
theorem numI_none {ls : List Sl} {l : List It} (hb : ∀ j (hj : j < ls.length), eqL ls[j].l l = false) : numI ls l = none := by
  unfold numI
  rw [List.findIdx?_eq_none_iff]
  intro s hs
  obtain ⟨j, hj, rfl⟩ := List.getElem_of_mem hs
  exact hb j hj

/-- what number hands back -/
def NumOut (w : World) (Bs mb : Nat) (vS : Value) (ls : List Sl) (g cap : Nat) (l : List It) (e : Ending) (w' : World) : Prop :=
  (∀ i, numI ls l = some i → e = .returned (.int .i64 i) ∧ Fr [] w w') ∧
  (numI ls l = none → e = .returned (.int .i64 ls.length) ∧ ∃ vS' w1, SAt w' Bs mb vS' (ls ++ [⟨g, cap, l⟩]) ∧ Fr vS.ownBlock.toList w w1 ∧ w' = w1.setCell ⟨mb, 130, none⟩ vS' ∧ (∀ g', vS'.ownBlock = some g' → vS.ownBlock = some g' ∨ w.heap.size ≤ g'))

set_option maxRecDepth 100000 in
set_option maxHeartbeats 4000000 in
theorem r_number_some (Bs mb gS cS : Nat) (ls : List Sl) (g cap : Nat) (l : List It) (w : World) (h : SAt w Bs mb (.slice (some ⟨gS, 0, none⟩) ls.length cS) ls) (hl : ItAt w g l) (hg : g < w.heap.size) (hgS : g ≠ gS) (hgm : g ≠ mb) (hn : l.length ≤ 10000) (hB : Bs ≤ w.heap.size) (hsm : ls.length ≤ 48) :
    Calls Tryz.prog 123 #[.pointer (some ⟨mb, 0, none⟩), .slice (some ⟨g, 0, none⟩) l.length cap] w fun e w' => NumOut w Bs mb (.slice (some ⟨gS, 0, none⟩) ls.length cS) ls g cap l e w' := by
  obtain ⟨i0, hi0, hz0, hz1, hz2⟩ := info_parts Tryz.infoItems
  have H := hide h
  have HL := hide hl
  clear h hl
  go_enter Tryz.func123, Tryz.ntmps123
  go_wp2
  go_loopw [5] (fun iv wr => ∃ i : Nat, i ≤ ls.length ∧ iv = .int .i64 i ∧ Hid (∀ j (hj : j < ls.length), j < i → eqL ls[j].l l = false) ∧ Hid (Fr [] w wr)) (fun iv _ => ls.length - (intOf iv).toNat)
  case atStart => exact ⟨0, by omega, rfl, fun j _ hj => by omega, Fr.refl _ _⟩
  case round =>
    obtain ⟨i, hi, rfl, hd, hf⟩ := hrel
    have HSr := hide ((unhide H).fr0 (unhide hf))
    have c0 := (unhide HSr).cell
    by_cases hlt : i < ls.length
    · have c1 := slV_get (unhide HSr).own i hlt
      unfold slV at c1
      obtain ⟨m1, m2, m3, m4, m5⟩ := (unhide HSr).its ls[i] (List.getElem_mem hlt)
      have HI := hide m1
      have HLr := hide ((unhide HL).fr0 (unhide hf))
      cases he : eqL ls[i].l l
      · have HN := hide (show ∀ j (hj : j < ls.length), j < i + 1 → eqL ls[j].l l = false from fun j hj h1 => by
          by_cases e : j = i
          · subst e; exact he
          · exact unhide hd j hj (by omega))
        have HE := hide he
        clear hd m1 m2 m4 m5 he
        go_wp2_with (go_at_call 144; refine (r_same _ _ _ _ ls[i].l l _ (by exact unhide HI) (by exact unhide HLr) m3).mono ?_; rintro e w2 ⟨rfl, hf2⟩; rw [unhide HE]; have HF2 := hide ((unhide hf).trans0 hf2); clear hf2)
        go_roundw
        case rel => exact ⟨i + 1, by omega, by go_num, HN, HF2⟩
        case measure => simp [intOf]; omega
      · have HN := hide (numI_some hlt he (fun j hj h1 => unhide hd j hj h1))
        have HE := hide he
        clear hd m1 m2 m4 m5 he
        go_wp2_with (go_at_call 144; refine (r_same _ _ _ _ ls[i].l l _ (by exact unhide HI) (by exact unhide HLr) m3).mono ?_; rintro e w2 ⟨rfl, hf2⟩; rw [unhide HE]; have HF2 := hide ((unhide hf).trans0 hf2); clear hf2)
        go_ret
        exact ⟨fun j hj => by rw [unhide HN] at hj; cases hj; exact ⟨rfl, unhide HF2⟩, fun hj => by rw [unhide HN] at hj; cases hj⟩
    · have HN := hide (show numI ls l = none from numI_none (fun j hj => unhide hd j hj (by omega)))
      clear hd
      have hgB : Bs ≤ gS := ((unhide H).own.lt gS rfl).1
      have hmB := (unhide H).base
      have hmw : mb < w.heap.size := World.block_lt_of_cell? w ⟨mb, 130, none⟩ (unhide H).cell
      have HFa := hide (unhide hf)
      go_wp2_with (at_builtin; refine wpList_append_lies _ rfl (.tmp 29) (.tmp 31) 127 rfl Bs 178 i0 _ 1 24 Tryz.underlying127 hi0 hz0 hz1 hz2 rfl (by omega) (.slice (some ⟨gS, 0, none⟩) ls.length cS) ls.length (ls.map slV) rfl (by exact (unhide HSr).own.alloc _) _ 1 1 [.slice (some ⟨g, 0, none⟩) l.length cap] rfl rfl (World.news_of_block (cs := #[.slice (some ⟨g, 0, none⟩) l.length cap]) (t := 178) (fr := (0, 0)) (heap_alloc_new _ _)) (by simp [Value.oneCell']) (by omega) (by unfold maxLen; omega) (by omega) (by have := (unhide HFa).size; simp; omega) _ rfl ?_; intro g2 c2 w3 hown3 hgrow3 hat3 hlt3; have k3 : Fr [gS] w w3 := Fr.of_grown (((unhide HFa).alloc _).weak (by simp)) hgrow3 (fun k hk => by simp [Value.ownBlock] at hk; simp; omega); have d0 := k3.cell (unhide H).cell (by simp; omega); have z0 := (k3.frozen (o := 130) (by simp; omega) hmw).trans (unhide H).free; have HK3 := hide k3; have HO3 := hide (And.intro hown3 hat3); clear hown3 hgrow3 hat3 hlt3 k3)
      have hat : g2 = gS ∨ w.heap.size ≤ g2 := by
        have h2 := (unhide HFa).size
        rcases (unhide HO3).2 with h | h
        · simp [Value.ownBlock] at h; omega
        · have h' := h; first | (simp at h'; omega) | omega
      have hg2 : Bs ≤ g2 := ((unhide HO3).1.lt g2 rfl).1
      have KM := (Fr.refl [mb] w3).setCell ⟨mb, 130, none⟩ (by simp) (.slice (some ⟨g2, 0, none⟩) (ls.length + 1) c2)
      have HFin := hide (show SAt (w3.setCell ⟨mb, 130, none⟩ (.slice (some ⟨g2, 0, none⟩) (ls.length + 1) c2)) Bs mb (.slice (some ⟨g2, 0, none⟩) (ls.length + 1) c2) (ls ++ [⟨g, cap, l⟩]) from by
        refine ⟨World.cell?_setCell_same _ _ _ d0, by simpa using z0, ?_, fun s hs => ?_, hmB, by simp; omega⟩
        · rw [List.map_append, List.length_append]
          exact ownsRow_fr' (unhide HO3).1 KM (fun x hx => by simp [Value.ownBlock] at hx; simp; omega)
        · have hor : (.slice (some ⟨g2, 0, none⟩) (ls.length + 1) c2 : Value).ownBlock = some g2 := rfl
          rcases List.mem_append.1 hs with hs | hs
          · obtain ⟨m1, m2, m3, m4, m5⟩ := (unhide H).its s hs
            have m4' : s.g ≠ gS := fun e => m4 (by rw [e]; rfl)
            exact ⟨(m1.fr (unhide HK3) (by simpa using m4')).fr KM (by simpa using m5), Nat.lt_of_lt_of_le m2 (Nat.le_trans (unhide HK3).size KM.size), m3, by rw [hor]; intro e; cases e; omega, m5⟩
          · have e : s = ⟨g, cap, l⟩ := by simpa using hs
            subst e
            exact ⟨((unhide HL).fr (unhide HK3) (by simpa using hgS)).fr KM (by simpa using hgm), Nat.lt_of_lt_of_le hg (Nat.le_trans (unhide HK3).size KM.size), hn, by rw [hor]; intro e; exact absurd (Option.some.inj e) (by show ¬ g2 = g; omega), hgm⟩)
      clear KM
      go_ret
      exact ⟨(fun j hj => by rw [unhide HN] at hj; cases hj), fun _ => ⟨rfl, _, w3, unhide HFin, unhide HK3, rfl, fun g' hg' => by
        have e : g2 = g' := by simpa [Value.ownBlock] using hg'
        rcases hat with h | h
        · exact Or.inl (by rw [← e, h]; rfl)
        · exact Or.inr (by omega)⟩⟩

set_option maxRecDepth 100000 in
set_option maxHeartbeats 4000000 in
theorem r_number_nil (Bs mb : Nat) (g cap : Nat) (l : List It) (w : World) (h : SAt w Bs mb (.slice none 0 0) []) (hl : ItAt w g l) (hg : g < w.heap.size) (hgm : g ≠ mb) (hn : l.length ≤ 10000) (hB : Bs ≤ w.heap.size) :
    Calls Tryz.prog 123 #[.pointer (some ⟨mb, 0, none⟩), .slice (some ⟨g, 0, none⟩) l.length cap] w fun e w' => NumOut w Bs mb (.slice none 0 0) [] g cap l e w' := by
  obtain ⟨i0, hi0, hz0, hz1, hz2⟩ := info_parts Tryz.infoItems
  have H := hide h
  have HL := hide hl
  clear h hl
  go_enter Tryz.func123, Tryz.ntmps123
  go_wp2
  go_loopw [5] (fun iv wr => iv = .int .i64 0 ∧ Hid (Fr [] w wr)) (fun _ _ => 0)
  case atStart => exact ⟨rfl, Fr.refl _ _⟩
  case round =>
    obtain ⟨rfl, hf⟩ := hrel
    have HSr := hide ((unhide H).fr0 (unhide hf))
    have c0 := (unhide HSr).cell
    have hmB := (unhide H).base
    have hmw : mb < w.heap.size := World.block_lt_of_cell? w ⟨mb, 130, none⟩ (unhide H).cell
    have HFa := hide (unhide hf)
    go_wp2_with (at_builtin; refine wpList_append_lies _ rfl (.tmp 29) (.tmp 31) 127 rfl Bs 178 i0 _ 1 24 Tryz.underlying127 hi0 hz0 hz1 hz2 rfl (by omega) (.slice none 0 0) 0 [] rfl (World.ownsRow_nil _ _ _ _) _ 1 1 [.slice (some ⟨g, 0, none⟩) l.length cap] rfl rfl (World.news_of_block (cs := #[.slice (some ⟨g, 0, none⟩) l.length cap]) (t := 178) (fr := (0, 0)) (heap_alloc_new _ _)) (by simp [Value.oneCell']) (by omega) (by unfold maxLen; omega) (by omega) (by have := (unhide HFa).size; simp; omega) _ rfl ?_; intro g2 c2 w3 hown3 hgrow3 hat3 hlt3; have k3 : Fr [] w w3 := Fr.of_grown ((unhide HFa).alloc _) hgrow3 (fun k hk => by simp [Value.ownBlock] at hk); have d0 := k3.cell (unhide H).cell (by simp); have z0 := (k3.frozen (o := 130) (by simp) hmw).trans (unhide H).free; have HK3 := hide k3; have HO3 := hide (And.intro hown3 hat3); clear hown3 hgrow3 hat3 hlt3 k3)
    have hat : w.heap.size ≤ g2 := by
      have h2 := (unhide HFa).size
      rcases (unhide HO3).2 with h | h
      · simp [Value.ownBlock] at h
      · have h' := h; first | (simp at h'; omega) | omega
    have hg2 : Bs ≤ g2 := ((unhide HO3).1.lt g2 rfl).1
    have KM := (Fr.refl [mb] w3).setCell ⟨mb, 130, none⟩ (by simp) (.slice (some ⟨g2, 0, none⟩) 1 c2)
    have HFin := hide (show SAt (w3.setCell ⟨mb, 130, none⟩ (.slice (some ⟨g2, 0, none⟩) 1 c2)) Bs mb (.slice (some ⟨g2, 0, none⟩) 1 c2) [⟨g, cap, l⟩] from by
      refine ⟨World.cell?_setCell_same _ _ _ d0, by simpa using z0, ?_, fun s hs => ?_, hmB, by simp⟩
      · exact ownsRow_fr' (unhide HO3).1 KM (fun x hx => by simp [Value.ownBlock] at hx; simp; omega)
      · have hor : (.slice (some ⟨g2, 0, none⟩) 1 c2 : Value).ownBlock = some g2 := rfl
        have e : s = ⟨g, cap, l⟩ := by simpa using hs
        subst e
        exact ⟨((unhide HL).fr0 (unhide HK3)).fr KM (by simpa using hgm), Nat.lt_of_lt_of_le hg (Nat.le_trans (unhide HK3).size KM.size), hn, by rw [hor]; intro e; exact absurd (Option.some.inj e) (by show ¬ g2 = g; omega), hgm⟩)
    clear KM
    go_ret
    exact ⟨(fun j hj => by cases hj), fun _ => ⟨rfl, _, w3, unhide HFin, unhide HK3, rfl, fun g' hg' => by
      have e : g2 = g' := by simpa [Value.ownBlock] using hg'
      exact Or.inr (by omega)⟩⟩

theorem r_number (Bs mb : Nat) (vS : Value) (ls : List Sl) (g cap : Nat) (l : List It) (w : World) (h : SAt w Bs mb vS ls) (hl : ItAt w g l) (hg : g < w.heap.size) (hgS : vS.ownBlock ≠ some g) (hgm : g ≠ mb) (hn : l.length ≤ 10000) (hB : Bs ≤ w.heap.size) (hsm : ls.length ≤ 48) :
    Calls Tryz.prog 123 #[.pointer (some ⟨mb, 0, none⟩), .slice (some ⟨g, 0, none⟩) l.length cap] w fun e w' => NumOut w Bs mb vS ls g cap l e w' := by
  have h' := h
  rcases h.own.2 with ⟨rfl, h0⟩ | ⟨gS, cS, cur, rfl, _⟩
  · have e : ls = [] := List.length_eq_zero_iff.1 h0
    subst e
    exact r_number_nil Bs mb g cap l w h' hl hg hgm hn hB
  · exact r_number_some Bs mb gS cS ls g cap l w h' hl hg (fun e => hgS (by rw [e]; rfl)) hgm hn hB hsm
end Go.Proofs.YtkglggkkbmmjkaaGreatDoor
