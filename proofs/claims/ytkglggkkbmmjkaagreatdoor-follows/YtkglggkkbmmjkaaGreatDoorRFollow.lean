import Derived.Test.YtkglggkkbmmjkaaGreatDoorFollow4
namespace Go.Proofs.YtkglggkkbmmjkaaGreatDoor
open Go.RowKit

set_option maxHeartbeats 1600000 in
theorem r_Follow_bad (t s : ByteArray) (w : World) (ht : t.size ≤ 9223372036854775807) (hm : s.size ≤ 9223372036854775807) (h0 : wErr t s ≠ 0) :
    Calls Tryz.prog 30 #[.string t, .string s] w fun e w' => e = .returned (.tuple #[.string ⟨#[]⟩, .int .i64 (wErr t s)]) ∧ Fr [] w w' := by
  have HW := hide (wErr_eq t s)
  have hb : ((((wErr t s : Nat) : Int)) != 0) = true := by rw [bne_iff_ne]; omega
  have H0 := hide (show rwErr t s ≠ 0 from fun h => h0 (by rw [← wErr_eq]; exact h))
  clear h0
  go_enter Tryz.func30, Tryz.ntmps30
  go_wp2_with (go_at_call 68; refine (r_asked t s _ ht hm).mono ?_; rintro e w1 ⟨hf1, h1, _⟩; obtain rfl := h1 (unhide H0); rw [unhide HW]; have HF1 := hide hf1; clear hf1 h1)
  go_ret2
  exact ⟨rfl, unhide HF1⟩

set_option maxHeartbeats 1600000 in
theorem r_Follow_not (t s : ByteArray) (w : World) (ht : t.size ≤ 9223372036854775807) (hm : s.size ≤ 9223372036854775807) (h0 : wErr t s = 0) (h1 : ¬ (s.size = 1 ∧ bigB (ch s 0) = true)) :
    Calls Tryz.prog 30 #[.string t, .string s] w fun e w' => e = .returned (.tuple #[.string ⟨#[]⟩, .int .i64 5]) ∧ Fr [] w w' := by
  have H0 := hide ((wErr_eq t s).trans h0)
  by_cases hs1 : s.size = 1
  · have hbig : bigB s[0].toNat = false := by
      rw [← ch_eq s 0 (by omega)]
      cases h : bigB (ch s 0)
      · rfl
      · exact absurd ⟨hs1, h⟩ h1
    have e0 : ((s.size : Int) != 1) = false := by rw [hs1]; rfl
    have l0 : 0 < s.size := by omega
    clear h0 h1
    go_enter Tryz.func30, Tryz.ntmps30
    go_wp2_with (first
      | (go_at_call 68; refine (r_asked t s _ ht hm).mono ?_; rintro e w1 ⟨hf1, _, h2⟩; obtain ⟨hs12, _, _, _, hwd, q, cap, rfl, hla⟩ := h2 (unhide H0); have HF1 := hide hf1; clear hf1 h2 hla hwd)
      | (go_at_call 63; refine (r_isBig_is _ false _ hbig).mono ?_; rintro e w' ⟨rfl, rfl⟩))
    go_ret2
    exact ⟨rfl, unhide HF1⟩
  · have e0 : ((s.size : Int) != 1) = true := by rw [bne_iff_ne]; omega
    clear h0 h1
    go_enter Tryz.func30, Tryz.ntmps30
    go_wp2_with (first
      | (go_at_call 68; refine (r_asked t s _ ht hm).mono ?_; rintro e w1 ⟨hf1, _, h2⟩; obtain ⟨hs12, _, _, _, hwd, q, cap, rfl, hla⟩ := h2 (unhide H0); have HF1 := hide hf1; clear hf1 h2 hla hwd))
    go_ret2
    exact ⟨rfl, unhide HF1⟩

/-- the state of the reference's rounds -/
def RFo (w wr : World) (nb fb ob q : Nat) (rs : List Ru) (N : Nat → Bool) (T O : Nat → Nat → Bool) : Prop :=
  Fr [ob] w wr ∧ LAt wr q rs ∧ Blk wr nb 128 (sF N) ∧ Blk wr fb 3328 (tF T) ∧ Blk wr ob 3328 (tF O) ∧ nb < w.heap.size ∧ fb < w.heap.size ∧ q < w.heap.size ∧ ob < w.heap.size ∧ nb ≠ ob ∧ fb ≠ ob ∧ q ≠ ob
theorem RFo.fr {w wr wr' : World} {nb fb ob q : Nat} {rs : List Ru} {N : Nat → Bool} {T O : Nat → Nat → Bool} (h : RFo w wr nb fb ob q rs N T O) (k : Fr [] wr wr') : RFo w wr' nb fb ob q rs N T O := by
  obtain ⟨h1, h2, h3, h4, h5, h6⟩ := h
  exact ⟨h1.trans0 k, h2.fr0 k, h3.fr0 k, h4.fr0 k, h5.fr0 k, h6⟩
theorem RFo.far {w wr wr' : World} {nb fb ob q x : Nat} {rs : List Ru} {N : Nat → Bool} {T O : Nat → Nat → Bool} (h : RFo w wr nb fb ob q rs N T O) (k : Fr [x] wr wr') (hx : w.heap.size ≤ x) : RFo w wr' nb fb ob q rs N T O := by
  obtain ⟨h1, h2, h3, h4, h5, h6, h7, h8, h9, h10⟩ := h
  exact ⟨h1.trans1 k (Or.inr hx), h2.fr k (by simp; omega), h3.fr1 k (by omega), h4.fr1 k (by omega), h5.fr1 k (by omega), h6, h7, h8, h9, h10⟩
theorem RFo.put {w wr wr' : World} {nb fb ob q : Nat} {rs : List Ru} {N : Nat → Bool} {T O O' : Nat → Nat → Bool} (h : RFo w wr nb fb ob q rs N T O) (k : Fr [ob] wr wr') (hB : Blk wr' ob 3328 (tF O')) : RFo w wr' nb fb ob q rs N T O' := by
  obtain ⟨h1, h2, h3, h4, h5, h6, h7, h8, h9, h10, h11, h12⟩ := h
  exact ⟨h1.trans k (by simp), h2.fr k (by simp; omega), h3.fr1 k (by omega), h4.fr1 k (by omega), hB, h6, h7, h8, h9, h10, h11, h12⟩
theorem RFo.size {w wr : World} {nb fb ob q : Nat} {rs : List Ru} {N : Nat → Bool} {T O : Nat → Nat → Bool} (h : RFo w wr nb fb ob q rs N T O) : w.heap.size ≤ wr.heap.size := h.1.size

theorem tF_fo0 (st : Nat) (h : bigB st = true) (i : Nat) (hi : i < 3328) : upd (tF fun _ _ => false) ((st - 65) * 128 + 36) (.bool true) i = tF (fo0 st) i := by
  have hb := bigB_iff.1 h
  unfold upd
  by_cases e : i = (st - 65) * 128 + 36
  · rw [if_pos e, e, tF_at _ st 36 h (by omega)]
    simp [fo0]
  · rw [if_neg e]
    unfold tF fo0
    have : (65 + i / 128 == st && i % 128 == 36) = false := by
      rw [Bool.and_eq_false_iff, beq_eq_false_iff_ne, beq_eq_false_iff_ne]
      have hd := Nat.div_add_mod i 128
      by_cases e1 : 65 + i / 128 = st
      · right
        intro e2
        have h3 : i / 128 = st - 65 := by omega
        rw [h3, e2] at hd
        omega
      · exact Or.inl e1
    rw [this]
theorem st_get {rs : List Ru} (h : 0 < rs.length) : rs[0].L = stOf rs := by
  cases rs with
  | nil => simp at h
  | cons r l => rfl

set_option maxRecDepth 100000 in
set_option maxHeartbeats 6400000 in
theorem r_Follow_good (t s : ByteArray) (w : World) (ht : t.size ≤ 9223372036854775807) (hm : s.size ≤ 9223372036854775807) (h0 : wErr t s = 0) (hs1 : s.size = 1) (hbg : bigB (ch s 0) = true) :
    Calls Tryz.prog 30 #[.string t, .string s] w fun e w' => e = .returned (.tuple #[.string (lst (followT (parse t 8 0 []).1 (ch s 0))), .int .i64 0]) ∧ Fr [] w w' := by
  obtain ⟨i0, hi0, hz0, hz1, hz2⟩ := info_parts Tryz.infoSet
  have H0 := hide ((wErr_eq t s).trans h0)
  have HC := hide (ch_eq s 0 (by omega))
  have hbig : bigB s[0].toNat = true := by rw [← ch_eq s 0 (by omega)]; exact hbg
  have HBig := hide hbig
  have e0 : ((s.size : Int) != 1) = false := by rw [hs1]; rfl
  have l0 : 0 < s.size := by omega
  have hGE : (rErr t).1 = 0 → ∀ N F, ∀ s ∈ foSteps N F (parse t 8 0 []).1, rset (parse t 8 0 []).1 s.L = true := fun h N F => foSteps_in (by rw [gErr_eq]; exact h) N F
  have hNE := nulls_eq (parse t 8 0 []).1 (parse_big t)
  have hNB := nulls_bigs (parse t 8 0 []).1 (parse_big t)
  have hPos := (parse_good t 8 0 [] (by simp)).2.2
  obtain ⟨rs, hrs⟩ : ∃ rs, (parse t 8 0 []).1 = rs := ⟨_, rfl⟩
  rw [hrs] at hGE hNE hNB hPos ⊢
  have HRS := hide hrs
  have HGE := hide hGE
  have HNE := hide hNE
  have HVan := hide (show vanB (nullS rs) false = nullS rs from funext (van_eq0 hNB))
  have HPos := hide hPos
  clear h0 hbg hGE hNE hNB hPos hrs
  go_enter Tryz.func30, Tryz.ntmps30
  go_wp2_with (first
    | (go_at_call 68; refine (r_asked t s _ ht hm).mono ?_; rintro e w1 ⟨hf1, _, h2⟩; obtain ⟨_, _, her, hok, _, q, cap, rfl, hla⟩ := h2 (unhide H0); rw [unhide HRS] at hla ⊢; have HF1 := hide hf1; have HL1 := hide hla; have hlen := hla.len; have hpos : 0 < rs.length := unhide HPos hok; have HIn := hide (unhide HGE her); clear hf1 h2 hla HPos HGE her hok)
    | (go_at_call 63; refine (r_isBig_is _ true _ hbig).mono ?_; rintro e w' ⟨rfl, rfl⟩)
    | (go_at_call 69; refine (r_nulls q cap _ _ (by exact unhide HL1)).mono ?_; rintro e w2 ⟨rfl, hf2⟩; rw [unhide HNE]; have HF2 := hide ((unhide HF1).trans0 hf2); have HL2 := hide ((unhide HL1).fr0 hf2); clear hf2)
    | (refine wpList_alloc_blk rfl 105 rfl (some 8) rfl 128 _ Tryz.zeroSet ?_; intro w3 hf3 hs3 hB3; have HF3 := hide ((unhide HF2).trans0 hf3); have HL3 := hide ((unhide HL2).fr0 hf3); have HB3 := hide hB3; clear hf3 hs3 hB3)
    | (refine wpList_store_blk rfl 105 (.tmp 8) (.tmp 38) rfl w2.heap.size 0 128 128 (sF fun _ => false) (sF (nullS rs)) rfl rfl (by exact unhide HB3) Tryz.sizeSet (by omega) (by intro i hi; rfl) ?_; intro w4 hf4 hs4 hB4; have HF4 := hide ((unhide HF3).trans1 hf4 (Or.inr (unhide HF2).size)); have HL4 := hide ((unhide HL3).fr hf4 (by have := (unhide HL2).lt; simp; omega)); have HB4 := hide (hB4.congr (g := sF (nullS rs)) fun i hi => lay_all _ _ _ i hi); clear hf4 hs4 hB4)
    | (go_at_call 72; refine (r_firsts q cap w2.heap.size _ _ _ (by exact unhide HL4) (by exact unhide HB4)).mono ?_; rintro e w5 ⟨fb, T, rfl, hf5, hfb, hB5, hT⟩; have HF5 := hide ((unhide HF4).trans0 hf5); have HL5 := hide ((unhide HL4).fr0 hf5); have HN5 := hide ((unhide HB4).fr0 hf5); have HT5 := hide hB5; have HE := hide hT; clear hf5 hB5 hT hfb)
    | (refine wpList_make_blk rfl _ _ 117 rfl (some 41) rfl 105 i0 _ Tryz.underlying117 hi0 hz0 .i64 .i64 26 3328 rfl rfl (by rw [hz1]) (by rw [hz2]; omega) (by omega) (tF fun _ _ => false) (fun j _ => made_set j) ?_; intro w6 hf6 hs6 hB6; have HF6 := hide ((unhide HF5).trans0 hf6); have HL6 := hide ((unhide HL5).fr0 hf6); have HN6 := hide ((unhide HN5).fr0 hf6); have HT6 := hide ((unhide HT5).fr0 hf6); have HO6 := hide hB6; have a0 : w6.cell? ⟨q, 0, none⟩ = some (.int .u8 rs[0].L) := ((unhide HL6).ru 0 hpos).1; have HOk0 := hide ((unhide HL6).ok 0 hpos).1; have hb0 := bigB_iff.1 (unhide HOk0); have f0 : (0 : Int) ≤ (rs[0].L : Int) - 65 := (by omega); have f1 : (rs[0].L : Int) - 65 < 26 := (by omega); have c0 : w6.cell? ⟨w5.heap.size, (rs[0].L - 65) * 128 + 36, none⟩ = some (.bool false) := (unhide HO6).cell _ (by omega); have z0 := (unhide HO6).free ((rs[0].L - 65) * 128 + 36); clear hf6 hs6 hB6))
  have HW := hide (show RFo (w6.setCell ⟨w5.heap.size, (rs[0].L - 65) * 128 + 36, none⟩ (.bool true)) (w6.setCell ⟨w5.heap.size, (rs[0].L - 65) * 128 + 36, none⟩ (.bool true)) w2.heap.size fb w5.heap.size q rs (nullS rs) T (fo0 (stOf rs)) from by
    have k := ((Fr.refl [w5.heap.size] w6).setCell ⟨w5.heap.size, (rs[0].L - 65) * 128 + 36, none⟩ (by simp) (.bool true))
    have l1 := (unhide HN5).lt
    have l2 := (unhide HT5).lt
    have l3 := (unhide HL5).lt
    have l4 := (unhide HO6).lt
    have l5 : (w6.setCell ⟨w5.heap.size, (rs[0].L - 65) * 128 + 36, none⟩ (.bool true)).heap.size = w6.heap.size := by simp
    exact ⟨Fr.refl _ _, (unhide HL6).fr k (by simp; omega), (unhide HN6).fr1 k (by omega), (unhide HT6).fr1 k (by omega), ((unhide HO6).setCell _ _).congr (g := tF (fo0 (stOf rs))) fun i hi => by rw [st_get hpos]; exact tF_fo0 _ (by rw [← st_get hpos]; exact unhide HOk0) i hi, by omega, by omega, by omega, by omega, by omega, by omega, by omega⟩)
  have HF7 := hide ((unhide HF6).trans1 ((Fr.refl [w5.heap.size] w6).setCell ⟨w5.heap.size, (rs[0].L - 65) * 128 + 36, none⟩ (by simp) (.bool true)) (Or.inr (unhide HF5).size))
  have HSz := hide (unhide HF5).size
  generalize hW7 : w6.setCell ⟨w5.heap.size, (rs[0].L - 65) * 128 + 36, none⟩ (.bool true) = w7 at *
  clear hW7 c0 z0 a0 f0 f1 hb0 HOk0 HF1 HF2 HF3 HF4 HF5 HF6 HL1 HL2 HL3 HL4 HL5 HL6 HB3 HB4 HN5 HN6 HT5 HT6 HO6
  go_loopg [11] (rs.length + 2) (fun g v wr => ∃ (k : Nat) (mv : Bool), g + k = rs.length + 2 ∧ v = .bool mv ∧ Hid (Stand (foSteps (nullS rs) T rs) (fo0 (stOf rs)) rs.length k mv) ∧ Hid (RFo w7 wr w2.heap.size fb w5.heap.size q rs (nullS rs) T (iterF (jRound (foSteps (nullS rs) T rs)) k (fo0 (stOf rs)))))
  case atStart => exact ⟨0, true, rfl, rfl, Stand.start _ _ _, HW⟩
  case round =>
    obtain ⟨k, mv, hg, rfl, hst, hs⟩ := hrel
    cases mv
    · have HEnd := hide (show rlst (iterF (jRound (foSteps (nullS rs) T rs)) k (fo0 (stOf rs)) s[0].toNat) = lst (followT rs (ch s 0)) from by
        rw [unhide HC]
        exact rlst_eq (fun x hx => by rw [(unhide hst).2 rfl _ x hx]; exact fo_iter_alike (fun c => unhide HE c x hx) rs _ _ _) (followT_sgn rs _))
      generalize iterF (jRound (foSteps (nullS rs) T rs)) k (fo0 (stOf rs)) = O at *
      have hb0 := bigB_iff.1 hbig
      have f0 : (0 : Int) ≤ (s[0].toNat : Int) - 65 := by omega
      have f1 : (s[0].toNat : Int) - 65 < 26 := by omega
      go_wp2_with (go_at_call 54; refine (r_list w5.heap.size ((s[0].toNat - 65) * 128) 3328 (tF O) (O s[0].toNat) _ (by exact (unhide hs).2.2.2.2.1) (by omega) (fun x hx => tF_at O _ x (unhide HBig) hx)).mono ?_; rintro e w8 ⟨rfl, hf8⟩; rw [unhide HEnd]; have HF8 := hide (((unhide HF7).trans1 (unhide hs).1 (Or.inr (unhide HSz))).trans0 hf8); clear hf8)
      go_ret2
      exact ⟨rfl, unhide HF8⟩
    · have hk := (unhide hst).1 rfl
      obtain ⟨K, hK⟩ : ∃ K, iterF (jRound (foSteps (nullS rs) T rs)) k (fo0 (stOf rs)) = K := ⟨_, rfl⟩
      have HK := hide hK
      rw [hK] at hs
      clear hK
      go_wp2
      go_loopw [11, 12] (fun v j wr2 => ∃ (i : Nat) (mv : Bool), i ≤ rs.length ∧ v = .bool mv ∧ j = .int .i64 i ∧ Hid (Grew K (jRound (foSteps (nullS rs) T (rs.take i)) K) mv) ∧ Hid (RFo w7 wr2 w2.heap.size fb w5.heap.size q rs (nullS rs) T (jRound (foSteps (nullS rs) T (rs.take i)) K))) (fun _ j _ => rs.length - (intOf j).toNat)
      case atStart => exact ⟨0, false, by omega, rfl, rfl, Grew.start _, hs⟩
      case round =>
        obtain ⟨i, mv, hi, rfl, rfl, hgr, hs2⟩ := hrel
        by_cases hit : i < rs.length
        · have HU2 := hide (foSteps_succ (nullS rs) T rs i hit K)
          obtain ⟨G, hG⟩ : ∃ G, jRound (foSteps (nullS rs) T (rs.take i)) K = G := ⟨_, rfl⟩
          rw [hG] at hgr hs2
          have HU := hide ((unhide HU2).trans (by rw [hG]))
          clear hG HU2
          have hsm := ((unhide hs2).2.1.small i hit).1
          have HOk := hide ((unhide hs2).2.1.ok i hit)
          go_wp2
          go_loopw [11, 13] (fun v j wr3 => ∃ (p : Nat) (mv : Bool), p ≤ rs[i].R.size ∧ v = .bool mv ∧ j = .int .i64 p ∧ Hid (Grew K (jRound (foRU (nullS rs) T rs[i] p) G) mv) ∧ Hid (RFo w7 wr3 w2.heap.size fb w5.heap.size q rs (nullS rs) T (jRound (foRU (nullS rs) T rs[i] p) G))) (fun _ j _ => rs[i].R.size - (intOf j).toNat)
          case atStart => exact ⟨0, mv, by omega, rfl, rfl, hgr, hs2⟩
          case round =>
            obtain ⟨p, mv, hp, rfl, rfl, hgr3, hs3⟩ := hrel
            obtain ⟨a0, a1, a2⟩ := (unhide hs3).2.1.ru i hit
            by_cases hpt : p < rs[i].R.size
            · have HCh := hide (ch_eq rs[i].R p hpt)
              cases hbg : bigB rs[i].R[p].toNat
              · have HU := hide (show jRound (foRU (nullS rs) T rs[i] (p + 1)) G = jRound (foRU (nullS rs) T rs[i] p) G from foRU_not _ _ _ _ (by rw [unhide HCh]; exact hbg) _)
                go_wp2_with (go_at_call 63; refine (r_isBig_is _ false _ hbg).mono ?_; rintro e w' ⟨rfl, rfl⟩)
                go_roundw
                case rel => exact ⟨p + 1, mv, by omega, rfl, by go_num, hide (by rw [unhide HU]; exact unhide hgr3), hide (by rw [unhide HU]; exact unhide hs3)⟩
                case measure => simp [intOf]; omega
              · have HBg := hide hbg
                have HBR := hide (bytes_rest rs[i].R p)
                have HLR := hide (show ∀ j, j < (rs[i].R.extract (p + 1) rs[i].R.size).size → letB (ch (rs[i].R.extract (p + 1) rs[i].R.size) j) = true from fun j hj => by
                  rw [ByteArray.size_extract] at hj
                  rw [ch_extract _ _ _ _ (by omega) (by omega)]; exact (unhide HOk).2 _ (by omega))
                obtain ⟨O, hO⟩ : ∃ O, jRound (foRU (nullS rs) T rs[i] p) G = O := ⟨_, rfl⟩
                obtain ⟨FS, hFS⟩ : ∃ FS, foSet (nullS rs) T rs[i] p (O rs[i].L) = FS := ⟨_, rfl⟩
                have HU := hide (show jRound (foRU (nullS rs) T rs[i] (p + 1)) G = joinF O rs[i].R[p].toNat FS from by
                  rw [foRU_big _ _ _ _ (by rw [unhide HCh]; exact hbg), hO, hFS, unhide HCh])
                rw [hO] at hgr3 hs3
                have HJ := hide ((unhide hgr3).join rs[i].R[p].toNat FS)
                obtain ⟨av, hav⟩ : ∃ av, anyNew (O rs[i].R[p].toNat) FS 128 = av := ⟨_, rfl⟩
                have HAV := hide hav
                have hb := bigB_iff.1 hbg
                have e0' : (0 : Int) ≤ (rs[i].R[p].toNat : Int) - 65 := by omega
                have e1' : (rs[i].R[p].toNat : Int) - 65 < 26 := by omega
                have hbL := bigB_iff.1 (unhide HOk).1
                have f0' : (0 : Int) ≤ (rs[i].L : Int) - 65 := by omega
                have f1' : (rs[i].L : Int) - 65 < 26 := by omega
                have HOff := hide (show (rs[i].L - 65) * 128 + 128 ≤ 3328 from by omega)
                have HOff2 := hide (show (rs[i].R[p].toNat - 65) * 128 + 128 ≤ 3328 from by omega)
                have HFS0 := hide hFS
                clear hav hO hbg hgr3 hFS
                cases hnv : ((bytes rs[i].R).drop (p + 1)).all (nullS rs)
                · have HNV := hide hnv
                  have HFS := hide (show FS = beg (nullS rs) T ((bytes rs[i].R).drop (p + 1)) from by
                    rw [← unhide HFS0]; funext x; unfold foSet; rw [unhide HVan, hnv]; simp)
                  clear hnv
                  cases mv <;>
                  (go_wp2_with (first
                    | (go_at_call 63; refine (r_isBig_is _ true _ (unhide HBg)).mono ?_; rintro e w' ⟨rfl, rfl⟩)
                    | (go_at_call 73; refine (r_begins w2.heap.size fb 26 (nullS rs) T _ _ (by exact (unhide hs3).2.2.1) (by exact (unhide hs3).2.2.2.1) (by rw [ByteArray.size_extract]; omega) (by exact unhide HLR)).mono ?_; rintro e wa ⟨rfl, hfa⟩; rw [unhide HBR]; have HXa := hide ((unhide hs3).fr hfa); clear hfa)
                    | (refine wpList_alloc_blk rfl 105 rfl (some 16) rfl 128 _ Tryz.zeroSet ?_; intro wb hfb hsb hBb; have HXb := hide ((unhide HXa).fr hfb); have HBb := hide hBb; clear hfb hsb hBb)
                    | (refine wpList_store_blk rfl 105 (.tmp 16) (.tmp 88) rfl wa.heap.size 0 128 128 (sF fun _ => false) (sF (beg (nullS rs) T ((bytes rs[i].R).drop (p + 1)))) rfl rfl (by exact unhide HBb) Tryz.sizeSet (by omega) (by intro i hi; rfl) ?_; intro wc hfc hsc hBc; have HXc := hide ((unhide HXb).far hfc (unhide HXa).size); have HBc := hide (hBc.congr (g := sF (beg (nullS rs) T ((bytes rs[i].R).drop (p + 1)))) fun i hi => lay_all _ _ _ i hi); clear hfc hsc hBc)
                    | (go_at_call 70; refine (r_null _ w2.heap.size (nullS rs) _ (by rw [ByteArray.size_extract]; omega) (by exact (unhide HXc).2.2.1) (by exact unhide HLR)).mono ?_; rintro e wd ⟨rfl, hfd⟩; rw [unhide HBR, unhide HNV]; have HXd := hide ((unhide HXc).fr hfd); have HBd := hide (((unhide HBc).fr0 hfd).congr (g := sF FS) fun x _ => by rw [← unhide HFS]); obtain ⟨b0, b1, b2⟩ := (unhide HXd).2.1.ru i hit; clear hfd)
                    | (go_at_call 77; refine (r_join w5.heap.size ((rs[i].R[p].toNat - 65) * 128) 3328 wa.heap.size 0 128 (tF O) (sF FS) (O rs[i].R[p].toNat) FS _ (by exact (unhide HXd).2.2.2.2.1) (unhide HOff2) (fun x hx => tF_at O _ x (unhide HBg) hx) (by exact unhide HBd) (by omega) (fun i _ => by rw [Nat.zero_add]; rfl) (by have := (unhide HXa).2.2.2.2.1.lt; omega)).mono ?_; rintro e wf ⟨rfl, hff, hsf, hBf⟩; rw [unhide HAV]; have HXf := hide ((unhide HXd).put hff (hBf.congr fun x _ => tF_join O _ _ (unhide HBg) x)); clear hff hsf hBf))
                   go_roundw
                   case rel =>
                     refine ⟨p + 1, _, by omega, rfl, by go_num, hide ?_, hide ?_⟩
                     · rw [unhide HU]; have := unhide HJ; rw [unhide HAV] at this; exact this
                     · rw [unhide HU]; exact unhide HXf
                   case measure => simp [intOf]; omega)
                · have HNV := hide hnv
                  have HMark := hide True.intro
                  have HFS := hide (show FS = fun x => beg (nullS rs) T ((bytes rs[i].R).drop (p + 1)) x || O rs[i].L x from by
                    rw [← unhide HFS0]; funext x; unfold foSet; rw [unhide HVan, hnv]; simp)
                  clear hnv
                  cases mv <;>
                  (go_wp2_with (first
                    | (go_at_call 63; refine (r_isBig_is _ true _ (unhide HBg)).mono ?_; rintro e w' ⟨rfl, rfl⟩)
                    | (go_at_call 73; refine (r_begins w2.heap.size fb 26 (nullS rs) T _ _ (by exact (unhide hs3).2.2.1) (by exact (unhide hs3).2.2.2.1) (by rw [ByteArray.size_extract]; omega) (by exact unhide HLR)).mono ?_; rintro e wa ⟨rfl, hfa⟩; rw [unhide HBR]; have HXa := hide ((unhide hs3).fr hfa); clear hfa)
                    | (refine wpList_alloc_blk rfl 105 rfl (some 16) rfl 128 _ Tryz.zeroSet ?_; intro wb hfb hsb hBb; have HXb := hide ((unhide HXa).fr hfb); have HBb := hide hBb; clear hfb hsb hBb)
                    | (refine wpList_store_blk rfl 105 (.tmp 16) (.tmp 88) rfl wa.heap.size 0 128 128 (sF fun _ => false) (sF (beg (nullS rs) T ((bytes rs[i].R).drop (p + 1)))) rfl rfl (by exact unhide HBb) Tryz.sizeSet (by omega) (by intro i hi; rfl) ?_; intro wc hfc hsc hBc; have HXc := hide ((unhide HXb).far hfc (unhide HXa).size); have HBc := hide (hBc.congr (g := sF (beg (nullS rs) T ((bytes rs[i].R).drop (p + 1)))) fun i hi => lay_all _ _ _ i hi); clear hfc hsc hBc)
                    | (go_at_call 70; refine (r_null _ w2.heap.size (nullS rs) _ (by rw [ByteArray.size_extract]; omega) (by exact (unhide HXc).2.2.1) (by exact unhide HLR)).mono ?_; rintro e wd ⟨rfl, hfd⟩; rw [unhide HBR, unhide HNV]; have HXd := hide ((unhide HXc).fr hfd); have HBd := hide ((unhide HBc).fr0 hfd); obtain ⟨b0, b1, b2⟩ := (unhide HXd).2.1.ru i hit; clear hfd)
                    | (go_at_call 77; clear HMark; refine (r_join wa.heap.size 0 128 w5.heap.size ((rs[i].L - 65) * 128) 3328 (sF (beg (nullS rs) T ((bytes rs[i].R).drop (p + 1)))) (tF O) (beg (nullS rs) T ((bytes rs[i].R).drop (p + 1))) (O rs[i].L) _ (by exact unhide HBd) (by omega) (fun i _ => by rw [Nat.zero_add]; rfl) (by exact (unhide HXd).2.2.2.2.1) (unhide HOff) (fun x hx => tF_at O _ x (unhide HOk).1 hx) (by have := (unhide HXa).2.2.2.2.1.lt; omega)).mono ?_; rintro e we ⟨rfl, hfe, hse, hBe⟩; have HXe := hide ((unhide HXd).far hfe (unhide HXa).size); have HBe := hide (hBe.congr (g := sF FS) fun x hx => by rw [sF_or _ _ x hx, ← unhide HFS]); clear hfe hse hBe)
                    | (go_at_call 77; refine (r_join w5.heap.size ((rs[i].R[p].toNat - 65) * 128) 3328 wa.heap.size 0 128 (tF O) (sF FS) (O rs[i].R[p].toNat) FS _ (by exact (unhide HXe).2.2.2.2.1) (unhide HOff2) (fun x hx => tF_at O _ x (unhide HBg) hx) (by exact unhide HBe) (by omega) (fun i _ => by rw [Nat.zero_add]; rfl) (by have := (unhide HXa).2.2.2.2.1.lt; omega)).mono ?_; rintro e wf ⟨rfl, hff, hsf, hBf⟩; rw [unhide HAV]; have HXf := hide ((unhide HXe).put hff (hBf.congr fun x _ => tF_join O _ _ (unhide HBg) x)); clear hff hsf hBf))
                   go_roundw
                   case rel =>
                     refine ⟨p + 1, _, by omega, rfl, by go_num, hide ?_, hide ?_⟩
                     · rw [unhide HU]; have := unhide HJ; rw [unhide HAV] at this; exact this
                     · rw [unhide HU]; exact unhide HXf
                   case measure => simp [intOf]; omega)
            · have HU3 := hide (show jRound (foRU (nullS rs) T rs[i] p) G = jRound (foSteps (nullS rs) T (rs.take (i + 1))) K from by
                rw [unhide HU, show p = rs[i].R.size from by omega]; rfl)
              go_wp2
              go_roundw
              case rel => exact ⟨i + 1, mv, by omega, rfl, by go_num, hide (by rw [← unhide HU3]; exact unhide hgr3), hide (by rw [← unhide HU3]; exact unhide hs3)⟩
              case measure => simp [intOf]; omega
        · have HX := hide (show jRound (foSteps (nullS rs) T (rs.take i)) K = iterF (jRound (foSteps (nullS rs) T rs)) (k + 1) (fo0 (stOf rs)) from by
            rw [foSteps_all _ _ _ _ (by omega), ← unhide HK]; rfl)
          have HN2 := hide (show Stand (foSteps (nullS rs) T rs) (fo0 (stOf rs)) rs.length (k + 1) mv from by
            have h1 := unhide hgr
            rw [unhide HX, ← unhide HK] at h1
            exact Stand.next (unhide HIn _ _) (unhide hst) h1)
          go_wp2
          go_roundg (rs.length + 2 - (k + 1))
          case measure => omega
          case rel => exact ⟨k + 1, mv, by omega, rfl, HN2, hide (by rw [← unhide HX]; exact unhide hs2)⟩

theorem r_Follow (t s : ByteArray) (w : World) (ht : t.size ≤ 9223372036854775807) (hm : s.size ≤ 9223372036854775807) :
    Calls Tryz.prog 30 #[.string t, .string s] w fun e w' => e = .returned (.tuple #[.string (followOf t s), .int .i64 (fErr t s)]) ∧ Fr [] w w' := by
  by_cases h0 : wErr t s = 0
  · by_cases h1 : s.size = 1 ∧ bigB (ch s 0) = true
    · have e1 : fErr t s = 0 := by unfold fErr; rw [if_neg (by rw [h0]; simp), if_pos h1]
      have e2 : followOf t s = lst (followT (parse t 8 0 []).1 (ch s 0)) := by unfold followOf; rw [if_pos e1]
      rw [e1, e2]; exact r_Follow_good t s w ht hm h0 h1.1 h1.2
    · have e1 : fErr t s = 5 := by unfold fErr; rw [if_neg (by rw [h0]; simp), if_neg h1]
      have e2 : followOf t s = ⟨#[]⟩ := by unfold followOf; rw [e1]; rfl
      rw [e1, e2]; exact r_Follow_not t s w ht hm h0 h1
  · have e1 : fErr t s = wErr t s := by unfold fErr; rw [if_pos h0]
    have e2 : followOf t s = ⟨#[]⟩ := by unfold followOf; rw [e1, if_neg h0]
    rw [e1, e2]; exact r_Follow_bad t s w ht hm h0

end Go.Proofs.YtkglggkkbmmjkaaGreatDoor
