import Derived.Test.YtkglggkkbmmjkaaGreatDoorJ11RUsed
namespace Go.Proofs.YtkglggkkbmmjkaaGreatDoor
open Go.RowKit

theorem Tryz.infoRRule : (Tryz.prog.info? 100).map (fun i => (i.zero, i.size, i.bytes)) = some (some (.agg #[.int .u8 0, .string ⟨#[]⟩, .int .i64 0]), 3, 32) := by kernel_rfl

theorem ownsRow_fr' {S : List Nat} {w w' : World} {base : Nat} {e : TypeId} {size : Nat} {v : Value} {n : Nat} {xs : List Value} (h : w.ownsRow base e size v n xs) (k : Fr S w w') (hS : ∀ g, v.ownBlock = some g → g ∉ S) : w'.ownsRow base e size v n xs := by
  obtain ⟨h1, h2⟩ := h
  refine ⟨h1, ?_⟩
  rcases h2 with h2 | ⟨g, cap, cur, hv, hg, hh, r⟩
  · exact Or.inl h2
  · have hlt : g < w.heap.size := by
      rcases Nat.lt_or_ge g w.heap.size with h | h
      · exact h
      · rw [Array.getElem?_eq_none h] at hh; cases hh
    exact Or.inr ⟨g, cap, cur, hv, hg, by rw [k.block g hlt (hS g (by rw [hv]; rfl))]; exact hh, r⟩

/-- the state of a reading of the reference's -/
def QS (w wr : World) (v : Value) (acc : List Ru) : Prop :=
  Fr [] w wr ∧ wr.ownsRow w.heap.size 100 3 v acc.length (ruCells acc)
theorem QS.fr {w wr wr' : World} {v : Value} {acc : List Ru} (h : QS w wr v acc) (k : Fr [] wr wr') : QS w wr' v acc := ⟨h.1.trans0 k, ownsRow_fr h.2 k (by simp)⟩
/-- and of one rule, in block x -/
def XS (w wr : World) (v : Value) (acc : List Ru) (x : Nat) (r : Ru) : Prop :=
  QS w wr v acc ∧ Blk wr x 3 (ruF r) ∧ w.heap.size ≤ x ∧ (∀ g, v.ownBlock = some g → g < x)
theorem XS.fr {w wr wr' : World} {v : Value} {acc : List Ru} {x : Nat} {r : Ru} (h : XS w wr v acc x r) (k : Fr [] wr wr') : XS w wr' v acc x r := ⟨h.1.fr k, h.2.1.fr0 k, h.2.2⟩
theorem XS.set {w wr : World} {v : Value} {acc : List Ru} {x L A : Nat} {R : ByteArray} (h : XS w wr v acc x ⟨L, R, A⟩) (R' : ByteArray) : XS w (wr.setCell ⟨x, 1, none⟩ (.string R')) v acc x ⟨L, R', A⟩ := by
  obtain ⟨⟨h1, h2⟩, h3, h4, h5⟩ := h
  refine ⟨⟨h1.setCell _ (Or.inr h4) _, ownsRow_fr' h2 ((Fr.refl [x] _).setCell _ (by simp) _) (fun g hg => by have := h5 g hg; simp; omega)⟩, (h3.setCell 1 _).congr fun i hi => ?_, h4, h5⟩
  unfold upd ruF
  by_cases e : i = 1
  · subst e; simp
  · simp only [if_neg e]

theorem extract_snoc (t : ByteArray) (a b : Nat) (h : a ≤ b) : t.extract a b ++ t.extract b (b + 1) = t.extract a (b + 1) := by
  rw [ByteArray.extract_append_extract]
  congr 1 <;> omega

theorem QS.append {w wr w1 : World} {v : Value} {acc : List Ru} {r : Ru} {g cap : Nat} {o : Obj} (h : QS w wr v acc) (hown : w1.ownsRow w.heap.size 100 3 (.slice (some ⟨g, 0, none⟩) (acc.length + 1) cap) (acc.length + 1) (ruCells acc ++ [.int .u8 r.L, .string r.R, .int .i64 r.A]))
    (hgrow : (wr.alloc o).grownBy w1 v.ownBlock) : QS w w1 (.slice (some ⟨g, 0, none⟩) (acc.length + 1) cap) (acc ++ [r]) := by
  refine ⟨(h.1.alloc o).of_grown hgrow (fun k hk => Or.inr (h.2.lt k hk).1), ?_⟩
  rw [ruCells_snoc, List.length_append]; exact hown
theorem QS.ru {w wr : World} {acc : List Ru} {g n cap : Nat} (h : QS w wr (.slice (some ⟨g, 0, none⟩) n cap) acc) (hn : n = acc.length) : RuAt wr g acc ∧ w.heap.size ≤ g ∧ g < wr.heap.size := by
  subst hn
  exact ⟨RuAt.of_owns h.2, h.2.lt g rfl⟩

/-- what rules hands back -/
def RulesOut (t : ByteArray) (w : World) (e : Ending) (w' : World) : Prop := Fr [] w w' ∧
      ((parse t 8 0 []).2.2 = false → e = .returned (.tuple #[.slice none 0 0, .int .i64 (parse t 8 0 []).2.1])) ∧
      ((parse t 8 0 []).2.2 = true → ∃ q cap, e = .returned (.tuple #[.slice (some ⟨q, 0, none⟩) (parse t 8 0 []).1.length cap, .int .i64 (-1)]) ∧ RuAt w' q (parse t 8 0 []).1 ∧ w.heap.size ≤ q ∧ q < w'.heap.size)

set_option maxRecDepth 100000 in
set_option maxHeartbeats 8000000 in
theorem r_rules (t : ByteArray) (w : World) (ht : t.size ≤ 32) :
    Calls Tryz.prog 61 #[.string t] w fun e w' => RulesOut t w e w' := by
  obtain ⟨i0, hi0, hz0, hz1, hz2⟩ := info_parts Tryz.infoRRule
  go_enter Tryz.func61, Tryz.ntmps61
  go_wp2
  go_loopw [4, 5] (fun v a wr => ∃ (k i : Nat) (acc : List Ru), k ≤ 7 ∧ i ≤ 33 ∧ acc.length = k ∧ a = .int .i64 i ∧ Hid (parse t 8 0 [] = parse t (8 - k) i acc) ∧ Hid (QS w wr v acc))
    (fun _ a _ => 40 - (intOf a).toNat)
  case atStart => exact ⟨0, 0, [], by omega, by omega, rfl, rfl, rfl, Fr.refl _ _, World.ownsRow_nil _ _ _ _⟩
  case round =>
    obtain ⟨k, i, acc, hk, hi, hl, rfl, hp, hs⟩ := hrel
    have HL : Hid (acc.length = k) := hl
    clear hl
    have hf : Hid (parse t 8 0 [] = parse t ((7 - k) + 1) i acc) := by
      show _ = _
      rw [hp.out, show 8 - k = (7 - k) + 1 from by omega]
    clear hp
    by_cases hi0' : i < t.size
    · cases hb0 : bigB t[i].toNat
      · have HP := hide ((unhide hf).trans (parse_bad0 t _ i acc (by rw [ch_eq t i hi0', hb0]; simp)))
        clear hf
        go_wp2_with (go_at_call 63; refine (r_isBig_is _ false _ hb0).mono ?_; rintro e w' ⟨rfl, rfl⟩)
        go_ret2
        exact ⟨(unhide hs).1, fun _ => by rw [unhide HP]; rfl, fun h => by rw [unhide HP] at h; cases h⟩
      · by_cases hi1 : i + 1 < t.size
        · by_cases hc1 : ch t (i + 1) = 61
          · have hc1' : (((t[i + 1].toNat : Nat) : Int) != 61) = false := by
              rw [ch_eq t _ hi1] at hc1; simp; omega
            have HI := hide (ch_eq t i hi0')
            have HX0 := hide (show XS w (wr.alloc (.cells #[.int .u8 (t[i].toNat), .string ⟨#[]⟩, .int .i64 i] 100)) u4 acc wr.heap.size ⟨t[i].toNat, ⟨#[]⟩, i⟩ from
              ⟨(unhide hs).fr ((Fr.refl _ _).alloc _), Blk.newRu wr ⟨t[i].toNat, ⟨#[]⟩, i⟩ _, (unhide hs).1.size, fun g hg => ((unhide hs).2.lt g hg).2⟩)
            have HE0 := hide (show (⟨#[]⟩ : ByteArray) = t.extract (i + 2) (i + 2 + 0) from by apply ByteArray.ext; simp)
            go_wp2_with (go_at_call 63; refine (r_isBig_is _ true _ hb0).mono ?_; rintro e w' ⟨rfl, rfl⟩)
            obtain ⟨xb, hxb⟩ : ∃ xb, w'.heap.size = xb := ⟨_, rfl⟩
            rw [hxb] at HX0 ⊢
            clear hxb
            go_loopw [5] (fun a wr2 => ∃ (j : Nat) (R : ByteArray), j ≤ 4 ∧ i + 2 + j ≤ t.size ∧ a = .int .i64 (i + 2 + j : Nat) ∧ R.size = j ∧ Hid (R = t.extract (i + 2) (i + 2 + j)) ∧ Hid (runEnd t 4 (i + 2) = runEnd t (4 - j) (i + 2 + j)) ∧ Hid (XS w wr2 u4 acc xb ⟨t[i].toNat, R, i⟩)) (fun a _ => t.size - (intOf a).toNat)
            case atStart => exact ⟨0, ⟨#[]⟩, by omega, by omega, by go_num, rfl, HE0, rfl, HX0⟩
            case round =>
              obtain ⟨j, R, hj, hjs, rfl, hRs, hRe, hrun, hx⟩ := hrel
              have c1 : wr.cell? ⟨xb, 1, none⟩ = some (.string R) := (unhide hx).2.1.cell 1 (by omega)
              have z1 := (unhide hx).2.1.free 1
              by_cases h1 : i + 2 + j < t.size ∧ j < 4 ∧ letB (ch t (i + 2 + j)) = true
              · have h1a := h1.1
                have h1b := h1.2.1
                have hlet : letB t[i + 2 + j].toNat = true := by rw [← ch_eq t _ h1a]; exact h1.2.2
                cases hbg : bigB t[i + 2 + j].toNat
                · have hsmall : smallB t[i + 2 + j].toNat = true := by simpa [letB, hbg] using hlet
                  have HR1 := hide ((unhide hrun).trans (runEnd_step t (i + 2) j h1a h1b h1.2.2))
                  clear h1 hf hs HX0 HE0 HI HL hlet
                  go_wp2_with (first | (go_at_call 63; refine (r_isBig_is _ false _ hbg).mono ?_; rintro e w' ⟨rfl, rfl⟩) | (go_at_call 53; refine (r_isSmall_is _ true _ hsmall).mono ?_; rintro e w' ⟨rfl, rfl⟩))
                  go_region
                  all_goals
                    go_wp2
                    go_roundw
                    case rel => exact ⟨j + 1, R ++ t.extract (i + 2 + j) (i + 2 + j + 1), by omega, by omega, by go_num, by rw [ByteArray.size_append, ByteArray.size_extract, hRs]; omega, hide (by rw [unhide hRe, extract_snoc t _ _ (by omega)]; rfl), HR1, hide (((unhide hx).set _).fr ((Fr.refl _ _).drew))⟩
                    case measure => simp [intOf]; omega
                · have HR1 := hide ((unhide hrun).trans (runEnd_step t (i + 2) j h1a h1b h1.2.2))
                  clear h1 hf hs HX0 HE0 HI HL hlet
                  go_wp2_with (go_at_call 63; refine (r_isBig_is _ true _ hbg).mono ?_; rintro e w' ⟨rfl, rfl⟩)
                  go_region
                  all_goals
                    go_wp2
                    go_roundw
                    case rel => exact ⟨j + 1, R ++ t.extract (i + 2 + j) (i + 2 + j + 1), by omega, by omega, by go_num, by rw [ByteArray.size_append, ByteArray.size_extract, hRs]; omega, hide (by rw [unhide hRe, extract_snoc t _ _ (by omega)]; rfl), HR1, hide (((unhide hx).set _).fr ((Fr.refl _ _).drew))⟩
                    case measure => simp [intOf]; omega
              · have HE := hide ((unhide hrun).trans (runEnd_stop t (i + 2) j h1 hj))
                by_cases h2 : i + 2 + j < t.size
                · by_cases h3 : j < 4
                  · have hnl : letB t[i + 2 + j].toNat = false := by
                      rw [← ch_eq t _ h2]
                      cases h : letB (ch t (i + 2 + j)) with
                      | false => rfl
                      | true => exact absurd ⟨h2, h3, h⟩ h1
                    have hnb : bigB t[i + 2 + j].toNat = false := by
                      cases h : bigB t[i + 2 + j].toNat with
                      | false => rfl
                      | true => simp [letB, h] at hnl
                    have hns : smallB t[i + 2 + j].toNat = false := by
                      cases h : smallB t[i + 2 + j].toNat with
                      | false => rfl
                      | true => simp [letB, h] at hnl
                    clear hnl
                    have hbd := runEnd_bd t 4 (i + 2)
                    have c0 : wr.cell? ⟨xb, 0, none⟩ = some (.int .u8 (t[i].toNat)) := (unhide hx).2.1.cell 0 (by omega)
                    have c2 : wr.cell? ⟨xb, 2, none⟩ = some (.int .i64 i) := (unhide hx).2.1.cell 2 (by omega)
                    have HRu := hide (show (⟨t[i].toNat, R, i⟩ : Ru) = ⟨ch t i, t.extract (i + 2) (runEnd t 4 (i + 2)), i⟩ from by rw [unhide HE, unhide HI, unhide hRe])
                    have hacc : acc.length ≤ 7 := by have := unhide HL; omega
                    have hb0c : bigB (ch t i) = true := by rw [unhide HI]; exact hb0
                    have heq : (((i : Int) + 2 + j) == (t.size : Int)) = false := by rw [beq_eq_false_iff_ne]; omega
                    by_cases hsc : ch t (i + 2 + j) = 59
                    · have hscb : (((t[i + 2 + j].toNat : Nat) : Int) != 59) = false := by
                        rw [ch_eq t _ h2] at hsc; simp; omega
                      by_cases hk7 : k = 7
                      · have hk8 : (((acc.length : Int) + 1) == 8) = true := by have := unhide HL; simp; omega
                        have HP := hide ((unhide hf).trans (parse_bad2 t _ i acc ⟨hi0', hb0c⟩ ⟨hi1, hc1⟩ (by rw [unhide HE]; exact h2) (by omega)))
                        clear hf hc1 hsc hk7 hb0c h1
                        go_wp2_with (first
                        | (go_at_call 63; refine (r_isBig_is _ false _ hnb).mono ?_; rintro e w' ⟨rfl, rfl⟩)
                        | (go_at_call 53; refine (r_isSmall_is _ false _ hns).mono ?_; rintro e w' ⟨rfl, rfl⟩)
                        | (at_builtin; refine wpList_append_lies _ rfl (.tmp 72) (.tmp 74) 55 rfl w.heap.size 100 i0 _ 3 32 Tryz.underlying55 hi0 hz0 hz1 hz2 rfl (by omega) u4 acc.length (ruCells acc) rfl (by exact (unhide hx).1.2.alloc _) _ 1 1 [.int .u8 (t[i].toNat), .string R, .int .i64 i] rfl rfl (World.news_of_block (cs := #[.int .u8 (t[i].toNat), .string R, .int .i64 i]) (t := 100) (fr := (0, 0)) (heap_alloc_new _ _)) (by simp [Value.oneCell']) (by omega) (by unfold maxLen; omega) (by omega) (by have := (unhide hx).1.1.size; simp; omega) _ rfl ?_; intro g cap w1 hown1 hgrow1 hat1 hlt1; have HQ1 := hide (QS.append (r := ⟨t[i].toNat, R, i⟩) (unhide hx).1 hown1 hgrow1); clear hown1 hgrow1 hat1 hlt1))
                        go_ret2
                        exact ⟨(unhide HQ1).1, fun _ => by rw [unhide HP, unhide HE]; simp, fun h => by rw [unhide HP] at h; cases h⟩
                      · have hk8 : (((acc.length : Int) + 1) == 8) = false := by have := unhide HL; simp; omega
                        have HP := hide ((unhide hf).trans (parse_more t _ i acc ⟨hi0', hb0c⟩ ⟨hi1, hc1⟩ (by rw [unhide HE]; exact h2) (by rw [unhide HE]; omega)))
                        clear hf hc1 hsc hb0c h1
                        go_wp2_with (first
                        | (go_at_call 63; refine (r_isBig_is _ false _ hnb).mono ?_; rintro e w' ⟨rfl, rfl⟩)
                        | (go_at_call 53; refine (r_isSmall_is _ false _ hns).mono ?_; rintro e w' ⟨rfl, rfl⟩)
                        | (at_builtin; refine wpList_append_lies _ rfl (.tmp 72) (.tmp 74) 55 rfl w.heap.size 100 i0 _ 3 32 Tryz.underlying55 hi0 hz0 hz1 hz2 rfl (by omega) u4 acc.length (ruCells acc) rfl (by exact (unhide hx).1.2.alloc _) _ 1 1 [.int .u8 (t[i].toNat), .string R, .int .i64 i] rfl rfl (World.news_of_block (cs := #[.int .u8 (t[i].toNat), .string R, .int .i64 i]) (t := 100) (fr := (0, 0)) (heap_alloc_new _ _)) (by simp [Value.oneCell']) (by omega) (by unfold maxLen; omega) (by omega) (by have := (unhide hx).1.1.size; simp; omega) _ rfl ?_; intro g cap w1 hown1 hgrow1 hat1 hlt1; have HQ1 := hide (QS.append (r := ⟨t[i].toNat, R, i⟩) (unhide hx).1 hown1 hgrow1); clear hown1 hgrow1 hat1 hlt1))
                        go_roundw
                        case rel => exact ⟨k + 1, i + 2 + j + 1, acc ++ [⟨t[i].toNat, R, i⟩], by omega, by omega, by have := unhide HL; simp; omega, by go_num, hide (by rw [unhide HP, unhide HE, unhide HRu, unhide HE, show 8 - (k + 1) = 7 - k from by omega]), HQ1⟩
                        case measure => simp [intOf]; omega
                    · have hscb : (((t[i + 2 + j].toNat : Nat) : Int) != 59) = true := by
                        rw [ch_eq t _ h2] at hsc; rw [bne_iff_ne]; omega
                      have HP := hide ((unhide hf).trans (parse_bad2 t _ i acc ⟨hi0', hb0c⟩ ⟨hi1, hc1⟩ (by rw [unhide HE]; exact h2) (Or.inr (by rw [unhide HE]; exact hsc))))
                      clear hf hc1 hsc hb0c h1
                      go_wp2_with (first
                        | (go_at_call 63; refine (r_isBig_is _ false _ hnb).mono ?_; rintro e w' ⟨rfl, rfl⟩)
                        | (go_at_call 53; refine (r_isSmall_is _ false _ hns).mono ?_; rintro e w' ⟨rfl, rfl⟩)
                        | (at_builtin; refine wpList_append_lies _ rfl (.tmp 72) (.tmp 74) 55 rfl w.heap.size 100 i0 _ 3 32 Tryz.underlying55 hi0 hz0 hz1 hz2 rfl (by omega) u4 acc.length (ruCells acc) rfl (by exact (unhide hx).1.2.alloc _) _ 1 1 [.int .u8 (t[i].toNat), .string R, .int .i64 i] rfl rfl (World.news_of_block (cs := #[.int .u8 (t[i].toNat), .string R, .int .i64 i]) (t := 100) (fr := (0, 0)) (heap_alloc_new _ _)) (by simp [Value.oneCell']) (by omega) (by unfold maxLen; omega) (by omega) (by have := (unhide hx).1.1.size; simp; omega) _ rfl ?_; intro g cap w1 hown1 hgrow1 hat1 hlt1; have HQ1 := hide (QS.append (r := ⟨t[i].toNat, R, i⟩) (unhide hx).1 hown1 hgrow1); clear hown1 hgrow1 hat1 hlt1))
                      go_ret2
                      exact ⟨(unhide HQ1).1, fun _ => by rw [unhide HP, unhide HE]; simp, fun h => by rw [unhide HP] at h; cases h⟩
                  · have hj4 := hide h3
                    have hbd := runEnd_bd t 4 (i + 2)
                    have c0 : wr.cell? ⟨xb, 0, none⟩ = some (.int .u8 (t[i].toNat)) := (unhide hx).2.1.cell 0 (by omega)
                    have c2 : wr.cell? ⟨xb, 2, none⟩ = some (.int .i64 i) := (unhide hx).2.1.cell 2 (by omega)
                    have HRu := hide (show (⟨t[i].toNat, R, i⟩ : Ru) = ⟨ch t i, t.extract (i + 2) (runEnd t 4 (i + 2)), i⟩ from by rw [unhide HE, unhide HI, unhide hRe])
                    have hacc : acc.length ≤ 7 := by have := unhide HL; omega
                    have hb0c : bigB (ch t i) = true := by rw [unhide HI]; exact hb0
                    have heq : (((i : Int) + 2 + j) == (t.size : Int)) = false := by rw [beq_eq_false_iff_ne]; omega
                    by_cases hsc : ch t (i + 2 + j) = 59
                    · have hscb : (((t[i + 2 + j].toNat : Nat) : Int) != 59) = false := by
                        rw [ch_eq t _ h2] at hsc; simp; omega
                      by_cases hk7 : k = 7
                      · have hk8 : (((acc.length : Int) + 1) == 8) = true := by have := unhide HL; simp; omega
                        have HP := hide ((unhide hf).trans (parse_bad2 t _ i acc ⟨hi0', hb0c⟩ ⟨hi1, hc1⟩ (by rw [unhide HE]; exact h2) (by omega)))
                        clear hf hc1 hsc hk7 hb0c h1
                        go_wp2_with (first
                        | (at_builtin; refine wpList_append_lies _ rfl (.tmp 72) (.tmp 74) 55 rfl w.heap.size 100 i0 _ 3 32 Tryz.underlying55 hi0 hz0 hz1 hz2 rfl (by omega) u4 acc.length (ruCells acc) rfl (by exact (unhide hx).1.2.alloc _) _ 1 1 [.int .u8 (t[i].toNat), .string R, .int .i64 i] rfl rfl (World.news_of_block (cs := #[.int .u8 (t[i].toNat), .string R, .int .i64 i]) (t := 100) (fr := (0, 0)) (heap_alloc_new _ _)) (by simp [Value.oneCell']) (by omega) (by unfold maxLen; omega) (by omega) (by have := (unhide hx).1.1.size; simp; omega) _ rfl ?_; intro g cap w1 hown1 hgrow1 hat1 hlt1; have HQ1 := hide (QS.append (r := ⟨t[i].toNat, R, i⟩) (unhide hx).1 hown1 hgrow1); clear hown1 hgrow1 hat1 hlt1))
                        go_ret2
                        exact ⟨(unhide HQ1).1, fun _ => by rw [unhide HP, unhide HE]; simp, fun h => by rw [unhide HP] at h; cases h⟩
                      · have hk8 : (((acc.length : Int) + 1) == 8) = false := by have := unhide HL; simp; omega
                        have HP := hide ((unhide hf).trans (parse_more t _ i acc ⟨hi0', hb0c⟩ ⟨hi1, hc1⟩ (by rw [unhide HE]; exact h2) (by rw [unhide HE]; omega)))
                        clear hf hc1 hsc hb0c h1
                        go_wp2_with (first
                        | (at_builtin; refine wpList_append_lies _ rfl (.tmp 72) (.tmp 74) 55 rfl w.heap.size 100 i0 _ 3 32 Tryz.underlying55 hi0 hz0 hz1 hz2 rfl (by omega) u4 acc.length (ruCells acc) rfl (by exact (unhide hx).1.2.alloc _) _ 1 1 [.int .u8 (t[i].toNat), .string R, .int .i64 i] rfl rfl (World.news_of_block (cs := #[.int .u8 (t[i].toNat), .string R, .int .i64 i]) (t := 100) (fr := (0, 0)) (heap_alloc_new _ _)) (by simp [Value.oneCell']) (by omega) (by unfold maxLen; omega) (by omega) (by have := (unhide hx).1.1.size; simp; omega) _ rfl ?_; intro g cap w1 hown1 hgrow1 hat1 hlt1; have HQ1 := hide (QS.append (r := ⟨t[i].toNat, R, i⟩) (unhide hx).1 hown1 hgrow1); clear hown1 hgrow1 hat1 hlt1))
                        go_roundw
                        case rel => exact ⟨k + 1, i + 2 + j + 1, acc ++ [⟨t[i].toNat, R, i⟩], by omega, by omega, by have := unhide HL; simp; omega, by go_num, hide (by rw [unhide HP, unhide HE, unhide HRu, unhide HE, show 8 - (k + 1) = 7 - k from by omega]), HQ1⟩
                        case measure => simp [intOf]; omega
                    · have hscb : (((t[i + 2 + j].toNat : Nat) : Int) != 59) = true := by
                        rw [ch_eq t _ h2] at hsc; rw [bne_iff_ne]; omega
                      have HP := hide ((unhide hf).trans (parse_bad2 t _ i acc ⟨hi0', hb0c⟩ ⟨hi1, hc1⟩ (by rw [unhide HE]; exact h2) (Or.inr (by rw [unhide HE]; exact hsc))))
                      clear hf hc1 hsc hb0c h1
                      go_wp2_with (first
                        | (at_builtin; refine wpList_append_lies _ rfl (.tmp 72) (.tmp 74) 55 rfl w.heap.size 100 i0 _ 3 32 Tryz.underlying55 hi0 hz0 hz1 hz2 rfl (by omega) u4 acc.length (ruCells acc) rfl (by exact (unhide hx).1.2.alloc _) _ 1 1 [.int .u8 (t[i].toNat), .string R, .int .i64 i] rfl rfl (World.news_of_block (cs := #[.int .u8 (t[i].toNat), .string R, .int .i64 i]) (t := 100) (fr := (0, 0)) (heap_alloc_new _ _)) (by simp [Value.oneCell']) (by omega) (by unfold maxLen; omega) (by omega) (by have := (unhide hx).1.1.size; simp; omega) _ rfl ?_; intro g cap w1 hown1 hgrow1 hat1 hlt1; have HQ1 := hide (QS.append (r := ⟨t[i].toNat, R, i⟩) (unhide hx).1 hown1 hgrow1); clear hown1 hgrow1 hat1 hlt1))
                      go_ret2
                      exact ⟨(unhide HQ1).1, fun _ => by rw [unhide HP, unhide HE]; simp, fun h => by rw [unhide HP] at h; cases h⟩
                · have hj5 := hide h2
                  have hbd := runEnd_bd t 4 (i + 2)
                  have c0 : wr.cell? ⟨xb, 0, none⟩ = some (.int .u8 (t[i].toNat)) := (unhide hx).2.1.cell 0 (by omega)
                  have c2 : wr.cell? ⟨xb, 2, none⟩ = some (.int .i64 i) := (unhide hx).2.1.cell 2 (by omega)
                  have HRu := hide (show (⟨t[i].toNat, R, i⟩ : Ru) = ⟨ch t i, t.extract (i + 2) (runEnd t 4 (i + 2)), i⟩ from by rw [unhide HE, unhide HI, unhide hRe])
                  have hacc : acc.length ≤ 7 := by have := unhide HL; omega
                  have hb0c : bigB (ch t i) = true := by rw [unhide HI]; exact hb0
                  have heq : (((i : Int) + 2 + j) == (t.size : Int)) = true := by rw [beq_iff_eq]; omega
                  have HP := hide ((unhide hf).trans (parse_end t _ i acc ⟨hi0', hb0c⟩ ⟨hi1, hc1⟩ (by rw [unhide HE]; exact h2)))
                  clear hf hc1 hb0c h1
                  go_wp2_with (first
                      | (at_builtin; refine wpList_append_lies _ rfl (.tmp 72) (.tmp 74) 55 rfl w.heap.size 100 i0 _ 3 32 Tryz.underlying55 hi0 hz0 hz1 hz2 rfl (by omega) u4 acc.length (ruCells acc) rfl (by exact (unhide hx).1.2.alloc _) _ 1 1 [.int .u8 (t[i].toNat), .string R, .int .i64 i] rfl rfl (World.news_of_block (cs := #[.int .u8 (t[i].toNat), .string R, .int .i64 i]) (t := 100) (fr := (0, 0)) (heap_alloc_new _ _)) (by simp [Value.oneCell']) (by omega) (by unfold maxLen; omega) (by omega) (by have := (unhide hx).1.1.size; simp; omega) _ rfl ?_; intro g cap w1 hown1 hgrow1 hat1 hlt1; have HQ1 := hide (QS.append (r := ⟨t[i].toNat, R, i⟩) (unhide hx).1 hown1 hgrow1); clear hown1 hgrow1 hat1 hlt1))
                  go_ret2
                  exact ⟨(unhide HQ1).1, (fun h => by rw [unhide HP] at h; cases h), fun _ => ⟨g, cap, by rw [unhide HP]; simp, by rw [unhide HP, ← unhide HRu]; exact (unhide HQ1).ru (by simp)⟩⟩
          · have hc1' : (((t[i + 1].toNat : Nat) : Int) != 61) = true := by
              rw [ch_eq t _ hi1] at hc1; rw [bne_iff_ne]; omega
            have HP := hide ((unhide hf).trans (parse_bad1 t _ i acc ⟨hi0', by rw [ch_eq t i hi0']; exact hb0⟩ (fun h => hc1 h.2)))
            clear hf hc1
            go_wp2_with (go_at_call 63; refine (r_isBig_is _ true _ hb0).mono ?_; rintro e w' ⟨rfl, rfl⟩)
            go_ret2
            exact ⟨(unhide hs).1.alloc _, fun _ => by rw [unhide HP]; simp, fun h => by rw [unhide HP] at h; cases h⟩
        · have HP := hide ((unhide hf).trans (parse_bad1 t _ i acc ⟨hi0', by rw [ch_eq t i hi0']; exact hb0⟩ (fun h => hi1 h.1)))
          clear hf
          go_wp2_with (go_at_call 63; refine (r_isBig_is _ true _ hb0).mono ?_; rintro e w' ⟨rfl, rfl⟩)
          go_ret2
          exact ⟨(unhide hs).1.alloc _, fun _ => by rw [unhide HP]; simp, fun h => by rw [unhide HP] at h; cases h⟩
    · have HP := hide ((unhide hf).trans (parse_bad0 t _ i acc (fun h => hi0' h.1)))
      clear hf
      go_wp2
      go_ret2
      exact ⟨(unhide hs).1, fun _ => by rw [unhide HP]; rfl, fun h => by rw [unhide HP] at h; cases h⟩
end Go.Proofs.YtkglggkkbmmjkaaGreatDoor

namespace Go.Proofs.YtkglggkkbmmjkaaGreatDoor
open Go.RowKit

def rBad (t : ByteArray) (rs : List Ru) (i : Nat) : Bool := bigB (ch t i) && !rset rs (ch t i)
def rNames (t : ByteArray) (rs : List Ru) : Option Nat := (List.range t.size).find? (rBad t rs)
def rDead (E U : Nat → Bool) : List Ru → Option Nat
  | [] => none
  | r :: l => if !E r.L || !U r.L then some r.A else rDead E U l
def rEnds (rs : List Ru) : Nat → Bool := iter (reRound rs) (rs.length + 1) fun _ => false
def rUsed (rs : List Ru) : Nat → Bool := iter (ruRound rs) (rs.length + 1) (ins (fun _ => false) (stOf rs))
def rErr (t : ByteArray) : Nat × Nat :=
  if 32 < t.size then (1, 0) else
  if (parse t 8 0 []).2.2 = false then (2, (parse t 8 0 []).2.1) else
  match rNames t (parse t 8 0 []).1 with
  | some k => (3, k)
  | none => match rDead (rEnds (parse t 8 0 []).1) (rUsed (parse t 8 0 []).1) (parse t 8 0 []).1 with
    | some k => (4, k)
    | none => (0, 0)

/-- what read hands back -/
def ReadOut (t : ByteArray) (w : World) (e : Ending) (w' : World) : Prop := Fr [] w w' ∧
  ((rErr t).1 ≠ 0 → e = .returned (.tuple #[.slice none 0 0, .int .i64 (rErr t).1, .int .i64 (rErr t).2])) ∧
  ((rErr t).1 = 0 → t.size ≤ 32 ∧ (parse t 8 0 []).2.2 = true ∧ ∃ q cap, e = .returned (.tuple #[.slice (some ⟨q, 0, none⟩) (parse t 8 0 []).1.length cap, .int .i64 0, .int .i64 0]) ∧ LAt w' q (parse t 8 0 []).1 ∧ w.heap.size ≤ q)

theorem ReadOut.bad {t : ByteArray} {w w' : World} {e : Ending} {a b : Nat} (h : rErr t = (a, b)) (ha : a ≠ 0) (hf : Fr [] w w') (he : e = .returned (.tuple #[.slice none 0 0, .int .i64 a, .int .i64 b])) : ReadOut t w e w' :=
  ⟨hf, fun _ => by rw [h]; exact he, fun h0 => absurd (by rw [h] at h0; exact h0) ha⟩

set_option maxHeartbeats 1000000 in
theorem r_read_long (t : ByteArray) (w : World) (ht : 32 < t.size) (hm : t.size ≤ 9223372036854775807) :
    Calls Tryz.prog 24 #[.string t] w fun e w' => ReadOut t w e w' := by
  have HG := hide (show rErr t = (1, 0) from by unfold rErr; rw [if_pos ht])
  go_enter Tryz.func24, Tryz.ntmps24
  go_wp2
  go_ret3
  exact ReadOut.bad (unhide HG) (by decide) (Fr.refl _ _) rfl

set_option maxHeartbeats 1000000 in
theorem r_read_rule (t : ByteArray) (w : World) (ht : t.size ≤ 32) (hok : (parse t 8 0 []).2.2 = false) :
    Calls Tryz.prog 24 #[.string t] w fun e w' => ReadOut t w e w' := by
  have HG := hide (show rErr t = (2, (parse t 8 0 []).2.1) from by unfold rErr; rw [if_neg (by omega), if_pos hok])
  have HOk := hide hok
  clear hok
  go_enter Tryz.func24, Tryz.ntmps24
  go_wp2_with (go_at_call 61; refine (r_rules t _ ht).mono ?_; rintro e w1 ⟨hf1, h1, h2⟩; obtain rfl := h1 (unhide HOk); have HF1 := hide hf1; clear hf1 h1 h2)
  go_ret3
  exact ReadOut.bad (unhide HG) (by decide) (unhide HF1) rfl

theorem rDead_drop (E U : Nat → Bool) (rs : List Ru) (j : Nat) (h : j < rs.length) : rDead E U (rs.drop j) = if !E rs[j].L || !U rs[j].L then some rs[j].A else rDead E U (rs.drop (j + 1)) := by
  rw [drop_cons' rs j h, rDead]

set_option maxRecDepth 100000 in
set_option maxHeartbeats 4000000 in
theorem r_read_ok (t : ByteArray) (w : World) (ht : t.size ≤ 32) (hok : (parse t 8 0 []).2.2 = true) :
    Calls Tryz.prog 24 #[.string t] w fun e w' => ReadOut t w e w' := by
  have HG := hide (show rErr t = (match rNames t (parse t 8 0 []).1 with
    | some k => (3, k)
    | none => match rDead (rEnds (parse t 8 0 []).1) (rUsed (parse t 8 0 []).1) (parse t 8 0 []).1 with
      | some k => (4, k)
      | none => (0, 0)) from by unfold rErr; rw [if_neg (by omega), if_neg (by rw [hok]; simp)])
  have HOk := hide hok
  have hlen := (parse_small t ht).2
  have hpos := (parse_good t 8 0 [] (by simp)).2.2 hok
  clear hok
  go_enter Tryz.func24, Tryz.ntmps24
  go_wp2_with (go_at_call 61; refine (r_rules t _ ht).mono ?_; rintro e w1 ⟨hf1, h1, h2⟩; obtain ⟨q, cap, rfl, hru, hq1, hq2⟩ := h2 (unhide HOk); have HF1 := hide hf1; have HL1 := hide (show LAt w1 q (parse t 8 0 []).1 from ⟨hru, hq2, (parse_small t ht).1, parse_ok t, (parse_small t ht).2⟩); have HQ := hide hq1; clear hf1 h1 h2 hru hq1 hq2)
  generalize hP : (parse t 8 0 []).1 = rs at *
  have HPP := hide hP
  clear hP
  go_loop [7] (fun a => ∃ i : Nat, i ≤ t.size ∧ a = .int .i64 i ∧ Hid (∀ k, k < i → rBad t rs k = false)) (fun a => t.size - (intOf a).toNat)
  case atStart => exact ⟨0, by omega, rfl, fun k hk => by omega⟩
  case round =>
    obtain ⟨i, hi, rfl, hd⟩ := hrel
    by_cases hlt : i < t.size
    · have hch := hide (ch_eq t i hlt)
      cases h1 : bigB t[i].toNat
      · have HN := hide (show ∀ k, k < i + 1 → rBad t rs k = false from fun k hk => by
          by_cases e : k = i
          · subst e; unfold rBad; rw [unhide hch, h1]; rfl
          · exact unhide hd k (by omega))
        clear hd
        go_wp2_with (first | (go_at_call 62; refine (r_has q cap _ rs _ (by exact unhide HL1)).mono ?_; rintro e w' ⟨rfl, rfl⟩) | (go_at_call 63; refine (r_isBig_is _ false _ h1).mono ?_; rintro e w' ⟨rfl, rfl⟩))
        go_round
        case rel => exact ⟨i + 1, by omega, by go_num, HN⟩
        case measure => simp [intOf]; omega
      · cases h2 : rset rs t[i].toNat
        · have HN := hide (show rNames t rs = some i from find_range_some _ _ _ hlt (unhide hd) (by unfold rBad; rw [unhide hch, h1, h2]; rfl))
          clear hd
          go_wp2_with (first | (go_at_call 62; refine (r_has q cap _ rs _ (by exact unhide HL1)).mono ?_; rintro e w' ⟨rfl, rfl⟩) | (go_at_call 63; refine (r_isBig_is _ true _ h1).mono ?_; rintro e w' ⟨rfl, rfl⟩))
          go_ret3
          exact ReadOut.bad ((unhide HG).trans (by rw [unhide HN])) (by decide) (unhide HF1) rfl
        · have HN := hide (show ∀ k, k < i + 1 → rBad t rs k = false from fun k hk => by
            by_cases e : k = i
            · subst e; unfold rBad; rw [unhide hch, h1, h2]; rfl
            · exact unhide hd k (by omega))
          clear hd
          go_wp2_with (first | (go_at_call 62; refine (r_has q cap _ rs _ (by exact unhide HL1)).mono ?_; rintro e w' ⟨rfl, rfl⟩) | (go_at_call 63; refine (r_isBig_is _ true _ h1).mono ?_; rintro e w' ⟨rfl, rfl⟩))
          go_round
          case rel => exact ⟨i + 1, by omega, by go_num, HN⟩
          case measure => simp [intOf]; omega
    · have HN := hide (show rNames t rs = none from find_range _ _ (fun k hk => unhide hd k (by omega)))
      have HG2 := hide ((unhide HG).trans (by rw [unhide HN]))
      clear hd HG HN
      go_wp2_with (first
        | (go_at_call 64; refine (r_ends q cap rs _ (by exact unhide HL1)).mono ?_; rintro e w2 ⟨rfl, hf2⟩; have HF2 := hide ((unhide HF1).trans0 hf2); have HL2 := hide ((unhide HL1).fr0 hf2); clear hf2)
        | (refine wpList_alloc_blk rfl 105 rfl (some 9) rfl 128 _ Tryz.zeroSet ?_; intro w3 hf3 hs3 hB3; have HF3 := hide ((unhide HF2).trans0 hf3); have HL3 := hide ((unhide HL2).fr0 hf3); have HB3 := hide hB3; have Hs3 := hide hs3; clear hf3 hs3 hB3)
        | (refine wpList_store_blk rfl 105 (.tmp 9) (.tmp 44) rfl w2.heap.size 0 128 128 (sF fun _ => false) (sF (rEnds rs)) rfl rfl (by exact unhide HB3) Tryz.sizeSet (by omega) (by intro i hi; rfl) ?_; intro w4 hf4 hs4 hB4; have HF4 := hide ((unhide HF3).trans1 hf4 (Or.inr (unhide HF2).size)); have HL4 := hide ((unhide HL3).fr hf4 (by have := (unhide HL2).lt; simp; omega)); have HB4 := hide (hB4.congr fun i hi => lay_all _ _ _ i hi); clear hf4 hs4 hB4)
        | (go_at_call 65; refine (r_used q cap rs _ (by exact unhide HL4) hpos).mono ?_; rintro e w5 ⟨rfl, hf5⟩; have HF5 := hide ((unhide HF4).trans0 hf5); have HL5 := hide ((unhide HL4).fr0 hf5); have HB5 := hide ((unhide HB4).fr0 hf5); clear hf5)
        | (refine wpList_alloc_blk rfl 105 rfl (some 10) rfl 128 _ Tryz.zeroSet ?_; intro w6 hf6 hs6 hB6; have HF6 := hide ((unhide HF5).trans0 hf6); have HL6 := hide ((unhide HL5).fr0 hf6); have HB6 := hide ((unhide HB5).fr0 hf6); have HC6 := hide hB6; clear hf6 hs6 hB6)
        | (refine wpList_store_blk rfl 105 (.tmp 10) (.tmp 46) rfl w5.heap.size 0 128 128 (sF fun _ => false) (sF (rUsed rs)) rfl rfl (by exact unhide HC6) Tryz.sizeSet (by omega) (by intro i hi; rfl) ?_; intro w7 hf7 hs7 hB7; have HF7 := hide ((unhide HF6).trans1 hf7 (Or.inr (unhide HF5).size)); have HL7 := hide ((unhide HL6).fr hf7 (by have := (unhide HL5).lt; simp; omega)); have HB7 := hide ((unhide HB6).fr1 hf7 (by have := (unhide HB5).lt; omega)); have HC7 := hide (hB7.congr fun i hi => lay_all _ _ _ i hi); clear hf7 hs7 hB7))
      go_loop [11] (fun a => ∃ i : Nat, i ≤ rs.length ∧ a = .int .i64 i ∧ Hid (rDead (rEnds rs) (rUsed rs) rs = rDead (rEnds rs) (rUsed rs) (rs.drop i))) (fun a => rs.length - (intOf a).toNat)
      case atStart => exact ⟨0, by omega, rfl, rfl⟩
      case round =>
        obtain ⟨j, hj, rfl, hd⟩ := hrel
        by_cases hjt : j < rs.length
        · obtain ⟨a0, a1, a2⟩ := (unhide HL7).ru j hjt
          have hL : rs[j].L < 128 := big_lt ((unhide HL7).ok j hjt).1
          have b0 : w7.cell? ⟨w2.heap.size, rs[j].L, none⟩ = some (.bool (rEnds rs rs[j].L)) := (unhide HB7).cell _ hL
          have b1 : w7.cell? ⟨w5.heap.size, rs[j].L, none⟩ = some (.bool (rUsed rs rs[j].L)) := (unhide HC7).cell _ hL
          have HU := hide ((unhide hd).trans (rDead_drop _ _ rs j hjt))
          clear hd
          cases h1 : rEnds rs rs[j].L
          · have HN := hide ((unhide HG2).trans (by rw [unhide HU, h1]; first | done | rfl))
            rw [h1] at b0
            go_wp2
            go_quiet (fail)
            go_wp2
            go_ret3
            exact ReadOut.bad (unhide HN) (by decide) ((unhide HF7).trans0 (fr_drewN _ _)) rfl
          · rw [h1] at b0
            cases h2 : rUsed rs rs[j].L
            · have HN := hide ((unhide HG2).trans (by rw [unhide HU, h1, h2]; first | done | rfl))
              rw [h2] at b1
              go_wp2
              go_quiet (fail)
              go_wp2
              go_ret3
              exact ReadOut.bad (unhide HN) (by decide) ((unhide HF7).trans0 (fr_drewN _ _)) rfl
            · have HN := hide ((unhide HU).trans (by rw [h1, h2]; first | done | rfl))
              rw [h2] at b1
              go_wp2
              go_round
              case rel => exact ⟨j + 1, by omega, by go_num, HN⟩
              case measure => simp [intOf]; omega
        · have HN := hide (show rErr t = (0, 0) from (unhide HG2).trans (by rw [unhide hd, List.drop_of_length_le (by omega)]; first | done | rfl))
          clear hd
          go_wp2
          go_ret3
          exact ⟨unhide HF7, fun h => absurd (by rw [unhide HN]) h, fun _ => ⟨ht, unhide HOk, q, cap, by rw [unhide HPP]; rfl, by rw [unhide HPP]; exact unhide HL7, unhide HQ⟩⟩
end Go.Proofs.YtkglggkkbmmjkaaGreatDoor
