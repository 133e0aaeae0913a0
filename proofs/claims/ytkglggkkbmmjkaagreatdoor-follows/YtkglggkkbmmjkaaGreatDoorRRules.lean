import Derived.Test.YtkglggkkbmmjkaaGreatDoorRUsed
namespace Go.Proofs.YtkglggkkbmmjkaaGreatDoor
open Go.RowKit

theorem Tryz.infoRRule : (Tryz.prog.info? 100).map (fun i => (i.zero, i.size, i.bytes)) = some (some (.agg #[.int .u8 0, .string ⟨#[]⟩, .int .i64 0]), 3, 32) := by kernel_rfl

theorem ownsRow_fr' {S : List Nat} {w w' : World} {base : Nat} {e : TypeId} {size : Nat} {v : Value} {n : Nat} {xs : List Value} (h : w.ownsRow base e size v n xs) (k : Fr S w w') (hS : ∀ g, v.ownBlock = some g → g ∉ S) : w'.ownsRow base e size v n xs := by
  obtain ⟨h1, h2⟩ := h
  refine ⟨h1, ?_⟩
  rcases h2 with h2 | ⟨g, cap, cur, hv, hg, hh, r⟩
  · exact Or.inl h2
  · have hlt : g < w.heap.size := by
      rcases Nat.lt_or_ge g w.heap.size with h | h
      · exact h
      · rw [Array.getElem?_eq_none h] at hh; cases hh
    exact Or.inr ⟨g, cap, cur, hv, hg, by rw [k.block g hlt (hS g (by rw [hv]; rfl))]; exact hh, r⟩

/-- the state of a reading of the reference's -/
def QS (w wr : World) (v : Value) (acc : List Ru) : Prop :=
  Fr [] w wr ∧ wr.ownsRow w.heap.size 100 3 v acc.length (ruCells acc)
theorem QS.fr {w wr wr' : World} {v : Value} {acc : List Ru} (h : QS w wr v acc) (k : Fr [] wr wr') : QS w wr' v acc := ⟨h.1.trans0 k, ownsRow_fr h.2 k (by simp)⟩
/-- and of one rule, in block x -/
def XS (w wr : World) (v : Value) (acc : List Ru) (x : Nat) (r : Ru) : Prop :=
  QS w wr v acc ∧ Blk wr x 3 (ruF r) ∧ w.heap.size ≤ x ∧ (∀ g, v.ownBlock = some g → g < x)
theorem XS.fr {w wr wr' : World} {v : Value} {acc : List Ru} {x : Nat} {r : Ru} (h : XS w wr v acc x r) (k : Fr [] wr wr') : XS w wr' v acc x r := ⟨h.1.fr k, h.2.1.fr0 k, h.2.2⟩
theorem XS.set {w wr : World} {v : Value} {acc : List Ru} {x L A : Nat} {R : ByteArray} (h : XS w wr v acc x ⟨L, R, A⟩) (R' : ByteArray) : XS w (wr.setCell ⟨x, 1, none⟩ (.string R')) v acc x ⟨L, R', A⟩ := by
  obtain ⟨⟨h1, h2⟩, h3, h4, h5⟩ := h
  refine ⟨⟨h1.setCell _ (Or.inr h4) _, ownsRow_fr' h2 ((Fr.refl [x] _).setCell _ (by simp) _) (fun g hg => by have := h5 g hg; simp; omega)⟩, (h3.setCell 1 _).congr fun i hi => ?_, h4, h5⟩
  unfold upd ruF
  by_cases e : i = 1
  · subst e; simp
  · simp only [if_neg e]

theorem extract_snoc (t : ByteArray) (a b : Nat) (h : a ≤ b) : t.extract a b ++ t.extract b (b + 1) = t.extract a (b + 1) := by
  rw [ByteArray.extract_append_extract]
  congr 1 <;> omega

theorem QS.append {w wr w1 : World} {v : Value} {acc : List Ru} {r : Ru} {g cap : Nat} {o : Obj} (h : QS w wr v acc) (hown : w1.ownsRow w.heap.size 100 3 (.slice (some ⟨g, 0, none⟩) (acc.length + 1) cap) (acc.length + 1) (ruCells acc ++ [.int .u8 r.L, .string r.R, .int .i64 r.A]))
    (hgrow : (wr.alloc o).grownBy w1 v.ownBlock) : QS w w1 (.slice (some ⟨g, 0, none⟩) (acc.length + 1) cap) (acc ++ [r]) := by
  refine ⟨(h.1.alloc o).of_grown hgrow (fun k hk => Or.inr (h.2.lt k hk).1), ?_⟩
  rw [ruCells_snoc, List.length_append]; exact hown
theorem QS.ru {w wr : World} {acc : List Ru} {g n cap : Nat} (h : QS w wr (.slice (some ⟨g, 0, none⟩) n cap) acc) (hn : n = acc.length) : RuAt wr g acc ∧ w.heap.size ≤ g ∧ g < wr.heap.size := by
  subst hn
  exact ⟨RuAt.of_owns h.2, h.2.lt g rfl⟩

/-- what rules hands back -/
def RulesOut (t : ByteArray) (w : World) (e : Ending) (w' : World) : Prop := Fr [] w w' ∧
      ((parse t 8 0 []).2.2 = false → e = .returned (.tuple #[.slice none 0 0, .int .i64 (parse t 8 0 []).2.1])) ∧
      ((parse t 8 0 []).2.2 = true → ∃ q cap, e = .returned (.tuple #[.slice (some ⟨q, 0, none⟩) (parse t 8 0 []).1.length cap, .int .i64 (-1)]) ∧ RuAt w' q (parse t 8 0 []).1 ∧ w.heap.size ≤ q ∧ q < w'.heap.size)

set_option maxRecDepth 100000 in
set_option maxHeartbeats 8000000 in
theorem r_rules (t : ByteArray) (w : World) (ht : t.size ≤ 32) :
    Calls Tryz.prog 61 #[.string t] w fun e w' => RulesOut t w e w' := by
  obtain ⟨i0, hi0, hz0, hz1, hz2⟩ := info_parts Tryz.infoRRule
  go_enter Tryz.func61, Tryz.ntmps61
  go_wp2
  go_loopw [4, 5] (fun v a wr => ∃ (k i : Nat) (acc : List Ru), k ≤ 7 ∧ i ≤ 33 ∧ acc.length = k ∧ a = .int .i64 i ∧ Hid (parse t 8 0 [] = parse t (8 - k) i acc) ∧ Hid (QS w wr v acc))
    (fun _ a _ => 40 - (intOf a).toNat)
  case atStart => exact ⟨0, 0, [], by omega, by omega, rfl, rfl, rfl, Fr.refl _ _, World.ownsRow_nil _ _ _ _⟩
  case round =>
    obtain ⟨k, i, acc, hk, hi, hl, rfl, hp, hs⟩ := hrel
    have HL : Hid (acc.length = k) := hl
    clear hl
    have hf : Hid (parse t 8 0 [] = parse t ((7 - k) + 1) i acc) := by
      show _ = _
      rw [hp.out, show 8 - k = (7 - k) + 1 from by omega]
    clear hp
    by_cases hi0' : i < t.size
    · cases hb0 : bigB t[i].toNat
      · have HP := hide ((unhide hf).trans (parse_bad0 t _ i acc (by rw [ch_eq t i hi0', hb0]; simp)))
        clear hf
        go_wp2_with (go_at_call 63; refine (r_isBig_is _ false _ hb0).mono ?_; rintro e w' ⟨rfl, rfl⟩)
        go_ret2
        exact ⟨(unhide hs).1, fun _ => by rw [unhide HP]; rfl, fun h => by rw [unhide HP] at h; cases h⟩
      · by_cases hi1 : i + 1 < t.size
        · by_cases hc1 : ch t (i + 1) = 61
          · have hc1' : (((t[i + 1].toNat : Nat) : Int) != 61) = false := by
              rw [ch_eq t _ hi1] at hc1; simp; omega
            have HI := hide (ch_eq t i hi0')
            have HX0 := hide (show XS w (wr.alloc (.cells #[.int .u8 (t[i].toNat), .string ⟨#[]⟩, .int .i64 i] 100)) u4 acc wr.heap.size ⟨t[i].toNat, ⟨#[]⟩, i⟩ from
              ⟨(unhide hs).fr ((Fr.refl _ _).alloc _), Blk.newRu wr ⟨t[i].toNat, ⟨#[]⟩, i⟩ _, (unhide hs).1.size, fun g hg => ((unhide hs).2.lt g hg).2⟩)
            have HE0 := hide (show (⟨#[]⟩ : ByteArray) = t.extract (i + 2) (i + 2 + 0) from by apply ByteArray.ext; simp)
            go_wp2_with (go_at_call 63; refine (r_isBig_is _ true _ hb0).mono ?_; rintro e w' ⟨rfl, rfl⟩)
            obtain ⟨xb, hxb⟩ : ∃ xb, w'.heap.size = xb := ⟨_, rfl⟩
            rw [hxb] at HX0 ⊢
            clear hxb
            go_loopw [5] (fun a wr2 => ∃ (j : Nat) (R : ByteArray), j ≤ 4 ∧ i + 2 + j ≤ t.size ∧ a = .int .i64 (i + 2 + j : Nat) ∧ R.size = j ∧ Hid (R = t.extract (i + 2) (i + 2 + j)) ∧ Hid (runEnd t 4 (i + 2) = runEnd t (4 - j) (i + 2 + j)) ∧ Hid (XS w wr2 u4 acc xb ⟨t[i].toNat, R, i⟩)) (fun a _ => t.size - (intOf a).toNat)
            case atStart => exact ⟨0, ⟨#[]⟩, by omega, by omega, by go_num, rfl, HE0, rfl, HX0⟩
            case round =>
              obtain ⟨j, R, hj, hjs, rfl, hRs, hRe, hrun, hx⟩ := hrel
              have c1 : wr.cell? ⟨xb, 1, none⟩ = some (.string R) := (unhide hx).2.1.cell 1 (by omega)
              have z1 := (unhide hx).2.1.free 1
              by_cases h1 : i + 2 + j < t.size ∧ j < 4 ∧ letB (ch t (i + 2 + j)) = true
              · have h1a := h1.1
                have h1b := h1.2.1
                have hlet : letB t[i + 2 + j].toNat = true := by rw [← ch_eq t _ h1a]; exact h1.2.2
                cases hbg : bigB t[i + 2 + j].toNat
                · have hsmall : smallB t[i + 2 + j].toNat = true := by simpa [letB, hbg] using hlet
                  have HR1 := hide ((unhide hrun).trans (runEnd_step t (i + 2) j h1a h1b h1.2.2))
                  clear h1 hf hs HX0 HE0 HI HL hlet
                  go_wp2_with (first | (go_at_call 63; refine (r_isBig_is _ false _ hbg).mono ?_; rintro e w' ⟨rfl, rfl⟩) | (go_at_call 53; refine (r_isSmall_is _ true _ hsmall).mono ?_; rintro e w' ⟨rfl, rfl⟩))
                  go_region
                  all_goals
                    go_wp2
                    go_roundw
                    case rel => exact ⟨j + 1, R ++ t.extract (i + 2 + j) (i + 2 + j + 1), by omega, by omega, by go_num, by rw [ByteArray.size_append, ByteArray.size_extract, hRs]; omega, hide (by rw [unhide hRe, extract_snoc t _ _ (by omega)]; rfl), HR1, hide (((unhide hx).set _).fr ((Fr.refl _ _).drew))⟩
                    case measure => simp [intOf]; omega
                · have HR1 := hide ((unhide hrun).trans (runEnd_step t (i + 2) j h1a h1b h1.2.2))
                  clear h1 hf hs HX0 HE0 HI HL hlet
                  go_wp2_with (go_at_call 63; refine (r_isBig_is _ true _ hbg).mono ?_; rintro e w' ⟨rfl, rfl⟩)
                  go_region
                  all_goals
                    go_wp2
                    go_roundw
                    case rel => exact ⟨j + 1, R ++ t.extract (i + 2 + j) (i + 2 + j + 1), by omega, by omega, by go_num, by rw [ByteArray.size_append, ByteArray.size_extract, hRs]; omega, hide (by rw [unhide hRe, extract_snoc t _ _ (by omega)]; rfl), HR1, hide (((unhide hx).set _).fr ((Fr.refl _ _).drew))⟩
                    case measure => simp [intOf]; omega
              · have HE := hide ((unhide hrun).trans (runEnd_stop t (i + 2) j h1 hj))
                by_cases h2 : i + 2 + j < t.size
                · by_cases h3 : j < 4
                  · have hnl : letB t[i + 2 + j].toNat = false := by
                      rw [← ch_eq t _ h2]
                      cases h : letB (ch t (i + 2 + j)) with
                      | false => rfl
                      | true => exact absurd ⟨h2, h3, h⟩ h1
                    have hnb : bigB t[i + 2 + j].toNat = false := by
                      cases h : bigB t[i + 2 + j].toNat with
                      | false => rfl
                      | true => simp [letB, h] at hnl
                    have hns : smallB t[i + 2 + j].toNat = false := by
                      cases h : smallB t[i + 2 + j].toNat with
                      | false => rfl
                      | true => simp [letB, h] at hnl
                    clear hnl
                    have hbd := runEnd_bd t 4 (i + 2)
                    have c0 : wr.cell? ⟨xb, 0, none⟩ = some (.int .u8 (t[i].toNat)) := (unhide hx).2.1.cell 0 (by omega)
                    have c2 : wr.cell? ⟨xb, 2, none⟩ = some (.int .i64 i) := (unhide hx).2.1.cell 2 (by omega)
                    have HRu := hide (show (⟨t[i].toNat, R, i⟩ : Ru) = ⟨ch t i, t.extract (i + 2) (runEnd t 4 (i + 2)), i⟩ from by rw [unhide HE, unhide HI, unhide hRe])
                    have hacc : acc.length ≤ 7 := by have := unhide HL; omega
                    have hb0c : bigB (ch t i) = true := by rw [unhide HI]; exact hb0
                    have heq : (((i : Int) + 2 + j) == (t.size : Int)) = false := by rw [beq_eq_false_iff_ne]; omega
                    by_cases hsc : ch t (i + 2 + j) = 59
                    · have hscb : (((t[i + 2 + j].toNat : Nat) : Int) != 59) = false := by
                        rw [ch_eq t _ h2] at hsc; simp; omega
                      by_cases hk7 : k = 7
                      · have hk8 : (((acc.length : Int) + 1) == 8) = true := by have := unhide HL; simp; omega
                        have HP := hide ((unhide hf).trans (parse_bad2 t _ i acc ⟨hi0', hb0c⟩ ⟨hi1, hc1⟩ (by rw [unhide HE]; exact h2) (by omega)))
                        clear hf hc1 hsc hk7 hb0c h1
                        go_wp2_with (first
                        | (go_at_call 63; refine (r_isBig_is _ false _ hnb).mono ?_; rintro e w' ⟨rfl, rfl⟩)
                        | (go_at_call 53; refine (r_isSmall_is _ false _ hns).mono ?_; rintro e w' ⟨rfl, rfl⟩)
                        | (at_builtin; refine wpList_append_lies _ rfl (.tmp 72) (.tmp 74) 55 rfl w.heap.size 100 i0 _ 3 32 Tryz.underlying55 hi0 hz0 hz1 hz2 rfl (by omega) u4 acc.length (ruCells acc) rfl (by exact (unhide hx).1.2.alloc _) _ 1 1 [.int .u8 (t[i].toNat), .string R, .int .i64 i] rfl rfl (World.news_of_block (cs := #[.int .u8 (t[i].toNat), .string R, .int .i64 i]) (t := 100) (fr := (0, 0)) (heap_alloc_new _ _)) (by simp [Value.oneCell']) (by omega) (by unfold maxLen; omega) (by omega) (by have := (unhide hx).1.1.size; simp; omega) _ rfl ?_; intro g cap w1 hown1 hgrow1 hat1 hlt1; have HQ1 := hide (QS.append (r := ⟨t[i].toNat, R, i⟩) (unhide hx).1 hown1 hgrow1); clear hown1 hgrow1 hat1 hlt1))
                        go_ret2
                        exact ⟨(unhide HQ1).1, fun _ => by rw [unhide HP, unhide HE]; simp, fun h => by rw [unhide HP] at h; cases h⟩
                      · have hk8 : (((acc.length : Int) + 1) == 8) = false := by have := unhide HL; simp; omega
                        have HP := hide ((unhide hf).trans (parse_more t _ i acc ⟨hi0', hb0c⟩ ⟨hi1, hc1⟩ (by rw [unhide HE]; exact h2) (by rw [unhide HE]; omega)))
                        clear hf hc1 hsc hb0c h1
                        go_wp2_with (first
                        | (go_at_call 63; refine (r_isBig_is _ false _ hnb).mono ?_; rintro e w' ⟨rfl, rfl⟩)
                        | (go_at_call 53; refine (r_isSmall_is _ false _ hns).mono ?_; rintro e w' ⟨rfl, rfl⟩)
                        | (at_builtin; refine wpList_append_lies _ rfl (.tmp 72) (.tmp 74) 55 rfl w.heap.size 100 i0 _ 3 32 Tryz.underlying55 hi0 hz0 hz1 hz2 rfl (by omega) u4 acc.length (ruCells acc) rfl (by exact (unhide hx).1.2.alloc _) _ 1 1 [.int .u8 (t[i].toNat), .string R, .int .i64 i] rfl rfl (World.news_of_block (cs := #[.int .u8 (t[i].toNat), .string R, .int .i64 i]) (t := 100) (fr := (0, 0)) (heap_alloc_new _ _)) (by simp [Value.oneCell']) (by omega) (by unfold maxLen; omega) (by omega) (by have := (unhide hx).1.1.size; simp; omega) _ rfl ?_; intro g cap w1 hown1 hgrow1 hat1 hlt1; have HQ1 := hide (QS.append (r := ⟨t[i].toNat, R, i⟩) (unhide hx).1 hown1 hgrow1); clear hown1 hgrow1 hat1 hlt1))
                        go_roundw
                        case rel => exact ⟨k + 1, i + 2 + j + 1, acc ++ [⟨t[i].toNat, R, i⟩], by omega, by omega, by have := unhide HL; simp; omega, by go_num, hide (by rw [unhide HP, unhide HE, unhide HRu, unhide HE, show 8 - (k + 1) = 7 - k from by omega]), HQ1⟩
                        case measure => simp [intOf]; omega
                    · have hscb : (((t[i + 2 + j].toNat : Nat) : Int) != 59) = true := by
                        rw [ch_eq t _ h2] at hsc; rw [bne_iff_ne]; omega
                      have HP := hide ((unhide hf).trans (parse_bad2 t _ i acc ⟨hi0', hb0c⟩ ⟨hi1, hc1⟩ (by rw [unhide HE]; exact h2) (Or.inr (by rw [unhide HE]; exact hsc))))
                      clear hf hc1 hsc hb0c h1
                      go_wp2_with (first
                        | (go_at_call 63; refine (r_isBig_is _ false _ hnb).mono ?_; rintro e w' ⟨rfl, rfl⟩)
                        | (go_at_call 53; refine (r_isSmall_is _ false _ hns).mono ?_; rintro e w' ⟨rfl, rfl⟩)
                        | (at_builtin; refine wpList_append_lies _ rfl (.tmp 72) (.tmp 74) 55 rfl w.heap.size 100 i0 _ 3 32 Tryz.underlying55 hi0 hz0 hz1 hz2 rfl (by omega) u4 acc.length (ruCells acc) rfl (by exact (unhide hx).1.2.alloc _) _ 1 1 [.int .u8 (t[i].toNat), .string R, .int .i64 i] rfl rfl (World.news_of_block (cs := #[.int .u8 (t[i].toNat), .string R, .int .i64 i]) (t := 100) (fr := (0, 0)) (heap_alloc_new _ _)) (by simp [Value.oneCell']) (by omega) (by unfold maxLen; omega) (by omega) (by have := (unhide hx).1.1.size; simp; omega) _ rfl ?_; intro g cap w1 hown1 hgrow1 hat1 hlt1; have HQ1 := hide (QS.append (r := ⟨t[i].toNat, R, i⟩) (unhide hx).1 hown1 hgrow1); clear hown1 hgrow1 hat1 hlt1))
                      go_ret2
                      exact ⟨(unhide HQ1).1, fun _ => by rw [unhide HP, unhide HE]; simp, fun h => by rw [unhide HP] at h; cases h⟩
                  · have hj4 := hide h3
                    have hbd := runEnd_bd t 4 (i + 2)
                    have c0 : wr.cell? ⟨xb, 0, none⟩ = some (.int .u8 (t[i].toNat)) := (unhide hx).2.1.cell 0 (by omega)
                    have c2 : wr.cell? ⟨xb, 2, none⟩ = some (.int .i64 i) := (unhide hx).2.1.cell 2 (by omega)
                    have HRu := hide (show (⟨t[i].toNat, R, i⟩ : Ru) = ⟨ch t i, t.extract (i + 2) (runEnd t 4 (i + 2)), i⟩ from by rw [unhide HE, unhide HI, unhide hRe])
                    have hacc : acc.length ≤ 7 := by have := unhide HL; omega
                    have hb0c : bigB (ch t i) = true := by rw [unhide HI]; exact hb0
                    have heq : (((i : Int) + 2 + j) == (t.size : Int)) = false := by rw [beq_eq_false_iff_ne]; omega
                    by_cases hsc : ch t (i + 2 + j) = 59
                    · have hscb : (((t[i + 2 + j].toNat : Nat) : Int) != 59) = false := by
                        rw [ch_eq t _ h2] at hsc; simp; omega
                      by_cases hk7 : k = 7
                      · have hk8 : (((acc.length : Int) + 1) == 8) = true := by have := unhide HL; simp; omega
                        have HP := hide ((unhide hf).trans (parse_bad2 t _ i acc ⟨hi0', hb0c⟩ ⟨hi1, hc1⟩ (by rw [unhide HE]; exact h2) (by omega)))
                        clear hf hc1 hsc hk7 hb0c h1
                        go_wp2_with (first
                        | (at_builtin; refine wpList_append_lies _ rfl (.tmp 72) (.tmp 74) 55 rfl w.heap.size 100 i0 _ 3 32 Tryz.underlying55 hi0 hz0 hz1 hz2 rfl (by omega) u4 acc.length (ruCells acc) rfl (by exact (unhide hx).1.2.alloc _) _ 1 1 [.int .u8 (t[i].toNat), .string R, .int .i64 i] rfl rfl (World.news_of_block (cs := #[.int .u8 (t[i].toNat), .string R, .int .i64 i]) (t := 100) (fr := (0, 0)) (heap_alloc_new _ _)) (by simp [Value.oneCell']) (by omega) (by unfold maxLen; omega) (by omega) (by have := (unhide hx).1.1.size; simp; omega) _ rfl ?_; intro g cap w1 hown1 hgrow1 hat1 hlt1; have HQ1 := hide (QS.append (r := ⟨t[i].toNat, R, i⟩) (unhide hx).1 hown1 hgrow1); clear hown1 hgrow1 hat1 hlt1))
                        go_ret2
                        exact ⟨(unhide HQ1).1, fun _ => by rw [unhide HP, unhide HE]; simp, fun h => by rw [unhide HP] at h; cases h⟩
                      · have hk8 : (((acc.length : Int) + 1) == 8) = false := by have := unhide HL; simp; omega
                        have HP := hide ((unhide hf).trans (parse_more t _ i acc ⟨hi0', hb0c⟩ ⟨hi1, hc1⟩ (by rw [unhide HE]; exact h2) (by rw [unhide HE]; omega)))
                        clear hf hc1 hsc hb0c h1
                        go_wp2_with (first
                        | (at_builtin; refine wpList_append_lies _ rfl (.tmp 72) (.tmp 74) 55 rfl w.heap.size 100 i0 _ 3 32 Tryz.underlying55 hi0 hz0 hz1 hz2 rfl (by omega) u4 acc.length (ruCells acc) rfl (by exact (unhide hx).1.2.alloc _) _ 1 1 [.int .u8 (t[i].toNat), .string R, .int .i64 i] rfl rfl (World.news_of_block (cs := #[.int .u8 (t[i].toNat), .string R, .int .i64 i]) (t := 100) (fr := (0, 0)) (heap_alloc_new _ _)) (by simp [Value.oneCell']) (by omega) (by unfold maxLen; omega) (by omega) (by have := (unhide hx).1.1.size; simp; omega) _ rfl ?_; intro g cap w1 hown1 hgrow1 hat1 hlt1; have HQ1 := hide (QS.append (r := ⟨t[i].toNat, R, i⟩) (unhide hx).1 hown1 hgrow1); clear hown1 hgrow1 hat1 hlt1))
                        go_roundw
                        case rel => exact ⟨k + 1, i + 2 + j + 1, acc ++ [⟨t[i].toNat, R, i⟩], by omega, by omega, by have := unhide HL; simp; omega, by go_num, hide (by rw [unhide HP, unhide HE, unhide HRu, unhide HE, show 8 - (k + 1) = 7 - k from by omega]), HQ1⟩
                        case measure => simp [intOf]; omega
                    · have hscb : (((t[i + 2 + j].toNat : Nat) : Int) != 59) = true := by
                        rw [ch_eq t _ h2] at hsc; rw [bne_iff_ne]; omega
                      have HP := hide ((unhide hf).trans (parse_bad2 t _ i acc ⟨hi0', hb0c⟩ ⟨hi1, hc1⟩ (by rw [unhide HE]; exact h2) (Or.inr (by rw [unhide HE]; exact hsc))))
                      clear hf hc1 hsc hb0c h1
                      go_wp2_with (first
                        | (at_builtin; refine wpList_append_lies _ rfl (.tmp 72) (.tmp 74) 55 rfl w.heap.size 100 i0 _ 3 32 Tryz.underlying55 hi0 hz0 hz1 hz2 rfl (by omega) u4 acc.length (ruCells acc) rfl (by exact (unhide hx).1.2.alloc _) _ 1 1 [.int .u8 (t[i].toNat), .string R, .int .i64 i] rfl rfl (World.news_of_block (cs := #[.int .u8 (t[i].toNat), .string R, .int .i64 i]) (t := 100) (fr := (0, 0)) (heap_alloc_new _ _)) (by simp [Value.oneCell']) (by omega) (by unfold maxLen; omega) (by omega) (by have := (unhide hx).1.1.size; simp; omega) _ rfl ?_; intro g cap w1 hown1 hgrow1 hat1 hlt1; have HQ1 := hide (QS.append (r := ⟨t[i].toNat, R, i⟩) (unhide hx).1 hown1 hgrow1); clear hown1 hgrow1 hat1 hlt1))
                      go_ret2
                      exact ⟨(unhide HQ1).1, fun _ => by rw [unhide HP, unhide HE]; simp, fun h => by rw [unhide HP] at h; cases h⟩
                · have hj5 := hide h2
                  have hbd := runEnd_bd t 4 (i + 2)
                  have c0 : wr.cell? ⟨xb, 0, none⟩ = some (.int .u8 (t[i].toNat)) := (unhide hx).2.1.cell 0 (by omega)
                  have c2 : wr.cell? ⟨xb, 2, none⟩ = some (.int .i64 i) := (unhide hx).2.1.cell 2 (by omega)
                  have HRu := hide (show (⟨t[i].toNat, R, i⟩ : Ru) = ⟨ch t i, t.extract (i + 2) (runEnd t 4 (i + 2)), i⟩ from by rw [unhide HE, unhide HI, unhide hRe])
                  have hacc : acc.length ≤ 7 := by have := unhide HL; omega
                  have hb0c : bigB (ch t i) = true := by rw [unhide HI]; exact hb0
                  have heq : (((i : Int) + 2 + j) == (t.size : Int)) = true := by rw [beq_iff_eq]; omega
                  have HP := hide ((unhide hf).trans (parse_end t _ i acc ⟨hi0', hb0c⟩ ⟨hi1, hc1⟩ (by rw [unhide HE]; exact h2)))
                  clear hf hc1 hb0c h1
                  go_wp2_with (first
                      | (at_builtin; refine wpList_append_lies _ rfl (.tmp 72) (.tmp 74) 55 rfl w.heap.size 100 i0 _ 3 32 Tryz.underlying55 hi0 hz0 hz1 hz2 rfl (by omega) u4 acc.length (ruCells acc) rfl (by exact (unhide hx).1.2.alloc _) _ 1 1 [.int .u8 (t[i].toNat), .string R, .int .i64 i] rfl rfl (World.news_of_block (cs := #[.int .u8 (t[i].toNat), .string R, .int .i64 i]) (t := 100) (fr := (0, 0)) (heap_alloc_new _ _)) (by simp [Value.oneCell']) (by omega) (by unfold maxLen; omega) (by omega) (by have := (unhide hx).1.1.size; simp; omega) _ rfl ?_; intro g cap w1 hown1 hgrow1 hat1 hlt1; have HQ1 := hide (QS.append (r := ⟨t[i].toNat, R, i⟩) (unhide hx).1 hown1 hgrow1); clear hown1 hgrow1 hat1 hlt1))
                  go_ret2
                  exact ⟨(unhide HQ1).1, (fun h => by rw [unhide HP] at h; cases h), fun _ => ⟨g, cap, by rw [unhide HP]; simp, by rw [unhide HP, ← unhide HRu]; exact (unhide HQ1).ru (by simp)⟩⟩
          · have hc1' : (((t[i + 1].toNat : Nat) : Int) != 61) = true := by
              rw [ch_eq t _ hi1] at hc1; rw [bne_iff_ne]; omega
            have HP := hide ((unhide hf).trans (parse_bad1 t _ i acc ⟨hi0', by rw [ch_eq t i hi0']; exact hb0⟩ (fun h => hc1 h.2)))
            clear hf hc1
            go_wp2_with (go_at_call 63; refine (r_isBig_is _ true _ hb0).mono ?_; rintro e w' ⟨rfl, rfl⟩)
            go_ret2
            exact ⟨(unhide hs).1.alloc _, fun _ => by rw [unhide HP]; simp, fun h => by rw [unhide HP] at h; cases h⟩
        · have HP := hide ((unhide hf).trans (parse_bad1 t _ i acc ⟨hi0', by rw [ch_eq t i hi0']; exact hb0⟩ (fun h => hi1 h.1)))
          clear hf
          go_wp2_with (go_at_call 63; refine (r_isBig_is _ true _ hb0).mono ?_; rintro e w' ⟨rfl, rfl⟩)
          go_ret2
          exact ⟨(unhide hs).1.alloc _, fun _ => by rw [unhide HP]; simp, fun h => by rw [unhide HP] at h; cases h⟩
    · have HP := hide ((unhide hf).trans (parse_bad0 t _ i acc (fun h => hi0' h.1)))
      clear hf
      go_wp2
      go_ret2
      exact ⟨(unhide hs).1, fun _ => by rw [unhide HP]; rfl, fun h => by rw [unhide HP] at h; cases h⟩
end Go.Proofs.YtkglggkkbmmjkaaGreatDoor
