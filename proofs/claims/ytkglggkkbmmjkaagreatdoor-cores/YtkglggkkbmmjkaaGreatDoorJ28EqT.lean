import Derived.Test.YtkglggkkbmmjkaaGreatDoorJ27RTabM
import Derived.Test.YtkglggkkbmmjkaaGreatDoorJ0Model
import Derived.Laws.StructEq
import Derived.ChangeKeysEq
namespace Go.Proofs.YtkglggkkbmmjkaaGreatDoor
open Go.RowKit

/-- what table hands back -/
def RTabOut (t : ByteArray) (w : World) (e : Ending) (w' : World) : Prop :=
  Fr [] w w' ∧ ∃ (rs : List Ru) (r0 : Ru) (T : Nat → Nat → Bool), rs = (parse t 8 0 []).1 ∧ 0 < rs.length ∧ r0 = ⟨0, ⟨#[UInt8.ofNat (rget rs 0).L]⟩, 0⟩ ∧ (∀ c x, x < 128 → T c x = firstT rs c x) ∧
    (tabM (r0 :: rs) (nullS rs) T 41 0 [startM (r0 :: rs) (nullS rs) T] [] = none → e = .returned (.tuple #[.pointer none, .int .i64 6])) ∧
    ∀ Ms M, tabM (r0 :: rs) (nullS rs) T 41 0 [startM (r0 :: rs) (nullS rs) T] [] = some (Ms, M) → ∃ mb q cq fq Bs vS ls vT ms, e = .returned (.tuple #[.pointer (some ⟨mb, 0, none⟩), .int .i64 0]) ∧ RtS w w' mb q cq fq Bs (r0 :: rs) (nullS rs) T vS ls vT ms (.slice none 0 0) [] ∧ ls.map (·.l) = Ms ∧ ms.map (·.m) = M ∧ ms.length = ls.length ∧ 0 < ls.length ∧ ls.length ≤ 40

theorem Fr.trans_below {a b c : World} {B : Nat} (h : Fr [] a b) (k : Below B b c) (hB : a.heap.size ≤ B) : Fr [] a c :=
  ⟨k.os.trans h.os, k.tape.trans h.tape, k.output.trans h.output, Nat.le_trans h.size k.size, fun i hi hn => by rw [k.block i (by omega), h.block i hi hn]⟩

theorem rtab_none {t : ByteArray} {w w' : World} {rs : List Ru} {T : Nat → Nat → Bool} (hf : Fr [] w w') (hrs : (parse t 8 0 []).1 = rs) (hpos : 0 < rs.length) (hT : ∀ c x, x < 128 → T c x = firstT rs c x)
    (h : tabM (⟨0, ⟨#[UInt8.ofNat rs[0].L]⟩, 0⟩ :: rs) (nullS rs) T 41 0 [startM (⟨0, ⟨#[UInt8.ofNat rs[0].L]⟩, 0⟩ :: rs) (nullS rs) T] [] = none) : RTabOut t w (.returned (.tuple #[.pointer none, .int .i64 6])) w' := by
  refine ⟨hf, rs, _, T, hrs.symm, hpos, rfl, hT, fun _ => rfl, fun Ms M hm => ?_⟩
  rw [rget_eq rs 0 hpos, h] at hm; cases hm
theorem rtab_some {t : ByteArray} {w w' : World} {rs : List Ru} {T : Nat → Nat → Bool} {mb q cq fq Bs : Nat} {vS vT : Value} {ls : List Sl} {ms : List MSl} {i : Nat} (hrs : (parse t 8 0 []).1 = rs) (hpos : 0 < rs.length) (hT : ∀ c x, x < 128 → T c x = firstT rs c x)
    (h : AllS w w' mb q cq fq Bs (⟨0, ⟨#[UInt8.ofNat rs[0].L]⟩, 0⟩ :: rs) (nullS rs) T i vS ls vT ms) (hi : ¬ i < ls.length) : RTabOut t w (.returned (.tuple #[.pointer (some ⟨mb, 0, none⟩), .int .i64 0])) w' := by
  have he := h.end_ hi
  refine ⟨h.rt.fr, rs, _, T, hrs.symm, hpos, rfl, hT, fun hm => ?_, fun Ms M hm => ?_⟩
  · rw [rget_eq rs 0 hpos, he] at hm; cases hm
  · rw [rget_eq rs 0 hpos] at hm ⊢
    rw [he] at hm
    cases hm
    exact ⟨mb, q, cq, fq, Bs, vS, ls, vT, ms, rfl, h.rt, rfl, rfl, by have := h.len; have := h.le; omega, h.pos, h.l40⟩
theorem own_slice {w : World} {B : Nat} {e : TypeId} {size : Nat} {v : Value} {n : Nat} {xs : List Value} (h : w.ownsRow B e size v n xs) : ∃ ao c, v = .slice ao n c := by
  rcases h.2 with ⟨rfl, h0⟩ | ⟨g, cap, cur, rfl, _⟩
  · exact ⟨none, 0, by rw [h0]⟩
  · exact ⟨some ⟨g, 0, none⟩, cap, rfl⟩
theorem Tryz.infoMove : (Tryz.prog.info? 186).map (fun i => (i.zero, i.size, i.bytes)) = some (some (.agg #[.int .u8 0, .int .i64 0]), 2, 16) := by kernel_rfl
theorem Tryz.infoMoves : (Tryz.prog.info? 183).map (fun i => (i.zero, i.size, i.bytes)) = some (some (.slice none 0 0), 1, 24) := by kernel_rfl
set_option maxRecDepth 100000 in
set_option maxHeartbeats 16000000 in
theorem r_table_good (t : ByteArray) (w : World) (ht : t.size ≤ 9223372036854775807) (h0 : (rErr t).1 = 0) :
    Calls Tryz.prog 79 #[.string t] w fun e w' => RTabOut t w e w' := by
  obtain ⟨i0, hi0, hz0, hz1, hz2⟩ := info_parts Tryz.infoRRule
  obtain ⟨i1, hi1, hy0, hy1, hy2⟩ := info_parts Tryz.infoMove
  obtain ⟨i2, hi2, hx0, hx1, hx2⟩ := info_parts Tryz.infoMoves
  have H0 := hide h0
  clear h0
  go_enter Tryz.func79, Tryz.ntmps79
  go_wp2_with (first
    | (go_at_call 24; refine (r_read t _ ht).mono ?_; rintro e w1 ⟨hf1, _, h2⟩; obtain ⟨_, hok, q, cap, rfl, hla, hqw⟩ := h2 (unhide H0); have HF1 := hide hf1; have HL1 := hide hla; clear hf1 h2 hla)
    | (refine wpList_box_blk rfl 130 (.tmp 24) rfl (some 25) rfl 132 zTab (by rfl) ?_; intro w2 hf2 hs2 hB2))
  obtain ⟨rs, hrs⟩ : ∃ rs, (parse t 8 0 []).1 = rs := ⟨_, rfl⟩
  have hNE := nulls_eq (parse t 8 0 []).1 (parse_big t)
  rw [hrs] at hNE
  have HNE := hide hNE
  clear hNE
  have HGood := hide (show ∀ r ∈ rs, r.R.size ≤ 4 ∧ ∀ j, j < r.R.size → letB (ch r.R j) = true from fun r hr => by
    rw [← hrs] at hr
    have := (parse_good t 8 0 [] (by simp)).1 r hr
    exact ⟨this.2.1, this.2.2.2⟩)
  have hpos : 0 < rs.length := by rw [← hrs]; exact (parse_good t 8 0 [] (by simp)).2.2 hok
  rw [hrs] at HL1 ⊢
  have hq1 := (unhide HL1).lt
  obtain ⟨mb, hmb⟩ : ∃ mb, w1.heap.size = mb := ⟨_, rfl⟩
  rw [hmb] at hB2 hs2 hq1 ⊢
  have HB2 := hide hB2
  have HL2 := hide ((unhide HL1).fr0 hf2)
  have c0 : w2.cell? ⟨mb, 0, none⟩ = some (.slice none 0 0) := hB2.cell 0 (by omega)
  have z0 := hB2.free 0
  have c1 : w2.cell? ⟨q, 0, none⟩ = some (.int .u8 rs[0].L) := ((unhide HL2).ru 0 hpos).1
  have HRS := hide hrs
  clear hrs hB2
  have hL0 : rs[0].L < 256 := by have := big_lt ((unhide HL2).ok 0 hpos).1; omega
  have HL0 := hide (show ∀ j, j < (⟨#[UInt8.ofNat rs[0].L]⟩ : ByteArray).size → letB (ch ⟨#[UInt8.ofNat rs[0].L]⟩ j) = true from fun j hj => by
    obtain rfl : j = 0 := by have : j < 1 := hj; omega
    rw [ch_eq _ _ hj]
    show letB (UInt8.ofNat rs[0].L).toNat = true
    rw [UInt8.toNat_ofNat', Nat.mod_eq_of_lt hL0]
    unfold letB
    rw [((unhide HL2).ok 0 hpos).1]; rfl)
  have hcv : ∀ W : World, W.cell? ⟨mb + 1, 0, none⟩ = some (.int .u8 rs[0].L) → (Go.convert 158 9 (.slice (some ⟨mb + 1, 0, none⟩) 1 1)).run Tryz.prog W = .ok (.string ⟨#[UInt8.ofNat rs[0].L]⟩) W := fun W h => by
    have := run_convert_bytes_back (P := Tryz.prog) W 158 9 5 ⟨mb + 1, 0, none⟩ 1 [UInt8.ofNat rs[0].L] Tryz.underlying158 Tryz.underlying5 Tryz.underlying9 (fun j hj => by
      obtain rfl : j = 0 := by simpa using hj
      rw [show (Addr.add ⟨mb + 1, 0, none⟩ 0) = ⟨mb + 1, 0, none⟩ from rfl, h]
      simp only [List.getElem_cons_zero, UInt8.toNat_ofNat']
      rw [Nat.mod_eq_of_lt hL0])
    exact this
  go_cut [] (fun wx => ∃ gg c2 w3, Fr [] w2 w3 ∧ w3.ownsRow (mb + 1) 100 3 (.slice (some ⟨gg, 0, none⟩) 1 c2) 1 [.int .u8 0, .string ⟨#[UInt8.ofNat rs[0].L]⟩, .int .i64 0] ∧ wx = w3.setCell ⟨mb, 0, none⟩ (.slice (some ⟨gg, 0, none⟩) 1 c2))
  case first =>
    go_region_law
      ((refine step_append_lies _ (by rfl) _ _ _ (by rfl) (mb + 1) 100 i0 _ 3 32 Tryz.underlying55 hi0 hz0 hz1 hz2 rfl (by omega) (.slice none 0 0) 0 [] (by rfl) (World.ownsRow_nil _ _ _ _) ⟨mb + 2, 0, none⟩ 1 1 [.int .u8 0, .string ⟨#[UInt8.ofNat rs[0].L]⟩, .int .i64 0] (by rfl) (by rfl) (World.news_of_block (cs := #[.int .u8 0, .string ⟨#[UInt8.ofNat rs[0].L]⟩, .int .i64 0]) (t := 100) (fr := (0, 0)) (by have hn := heap_new2 w2 (.cells #[.int .u8 rs[0].L] 5) (.cells #[.int .u8 0, .string ⟨#[UInt8.ofNat rs[0].L]⟩, .int .i64 0] 100); rw [hs2] at hn; exact hn)) (by simp [Value.oneCell']) (by omega) (by unfold maxLen; omega) (by omega) (by simp; omega) (mb + 3) (by simp [hs2]) ?_; intro gg c2 w3 hown3 hgrow3 hat3 hlt3
        have F3 : Fr [] w2 w3 := Fr.of_grown ((((Fr.refl [] w2).alloc _).alloc _).drew) hgrow3 (fun k hk => by simp [Value.ownBlock] at hk)
        have d0 := F3.cell0 c0
        have e0 : w3.frozen? ⟨mb, 0, none⟩ = false := by rw [F3.frozen (by simp) (by omega)]; exact z0
        have HO3 := hide (And.intro hown3 hat3)
        have HF3 := hide F3
        clear F3 hown3 hgrow3 hat3))
    all_goals go_wp2_with fail
    all_goals go_meet
    all_goals exact ⟨gg, c2, w3, unhide HF3, (unhide HO3).1, rfl⟩
  case rest =>
    obtain ⟨gg, c2, w3, hf3, ho3, rfl⟩ := hcut
    have hgB : mb + 1 ≤ gg := (ho3.lt gg rfl).1
    have KM := (Fr.refl [mb] w3).setCell ⟨mb, 0, none⟩ (by simp) (.slice (some ⟨gg, 0, none⟩) 1 c2)
    have HBk := hide (show Blk (w3.setCell ⟨mb, 0, none⟩ (.slice (some ⟨gg, 0, none⟩) 1 c2)) mb 132 (tabF (.slice (some ⟨gg, 0, none⟩) 1 c2) (fun _ => false) (.slice none 0 0) (.slice none 0 0) (.slice none 0 0)) from
      (((unhide HB2).fr0 hf3).setCell 0 _).congr fun i _ => by
        rw [← tabF_L (.slice none 0 0)]
        unfold upd
        by_cases hi : i = 0
        · rw [if_pos hi, if_pos hi]
        · rw [if_neg hi, if_neg hi]
          unfold zTab tabF
          rw [if_neg hi, if_neg hi]
          split
          · rfl
          · split
            · rfl
            · split <;> rfl)
    have HLq := hide (show LAt (w3.setCell ⟨mb, 0, none⟩ (.slice (some ⟨gg, 0, none⟩) 1 c2)) q rs from ((unhide HL2).fr0 hf3).fr KM (by simp; omega))
    have HOw := hide (ownsRow_fr' ho3 KM (fun x hx => by simp [Value.ownBlock] at hx; simp; omega))
    have HF4 := hide (show Fr [] w (w3.setCell ⟨mb, 0, none⟩ (.slice (some ⟨gg, 0, none⟩) 1 c2)) from (((unhide HF1).trans0 hf2).trans0 hf3).setCell _ (Or.inr (by have := (unhide HF1).size; simp; omega)) _)
    generalize w3.setCell ⟨mb, 0, none⟩ (.slice (some ⟨gg, 0, none⟩) 1 c2) = w4 at *
    have k0 : w4.cell? ⟨mb, 0, none⟩ = some (.slice (some ⟨gg, 0, none⟩) 1 c2) := (unhide HBk).cell 0 (by omega)
    have hlen := (unhide HLq).len
    have hw4 := (unhide HBk).lt
    clear KM ho3 hf3 hcv c0 z0 c1
    go_wp2_with (first
      | (at_builtin; refine wpList_append_lies _ rfl (.tmp 46) (.tmp 47) 55 rfl (mb + 1) 100 i0 _ 3 32 Tryz.underlying55 hi0 hz0 hz1 hz2 rfl (by omega) (.slice (some ⟨gg, 0, none⟩) 1 c2) 1 [.int .u8 0, .string ⟨#[UInt8.ofNat rs[0].L]⟩, .int .i64 0] rfl (by exact unhide HOw) ⟨q, 0, none⟩ rs.length cap (ruCells rs) rfl (ruCells_len' rs) (by exact news_ru (unhide HLq).ru) (fun u hu => by unfold ruCells at hu; obtain ⟨r, _, hr⟩ := List.mem_flatMap.1 hu; simp at hr; rcases hr with rfl | rfl | rfl <;> rfl) hpos (by unfold maxLen; omega) (by omega) (by omega) _ rfl ?_; intro g2 c3 w5 hown5 hgrow5 hat5 hlt5; have F5 : Fr [gg] w4 w5 := Fr.of_grown (Fr.refl [gg] w4) hgrow5 (fun k hk => by simp [Value.ownBlock] at hk; simp; omega); have HB5 := hide ((unhide HBk).fr1 F5 (by omega)); have k5 : w5.cell? ⟨mb, 0, none⟩ = some (.slice (some ⟨gg, 0, none⟩) 1 c2) := (unhide HB5).cell 0 (by omega); have z5 := (unhide HB5).free 0; have HO5 := hide (And.intro hown5 hat5); have HL5 := hide ((unhide HLq).fr F5 (by simp; omega)); have HF5 := hide ((unhide HF4).trans1 F5 (Or.inr (by have := (unhide HF1).size; omega))); have hg2B : mb + 1 ≤ g2 := (hown5.lt g2 rfl).1; have KM5 := (Fr.refl [mb] w5).setCell ⟨mb, 0, none⟩ (by simp) (.slice (some ⟨g2, 0, none⟩) (1 + rs.length) c3); have HB6 := hide (show Blk (w5.setCell ⟨mb, 0, none⟩ (.slice (some ⟨g2, 0, none⟩) (1 + rs.length) c3)) mb 132 (tabF (.slice (some ⟨g2, 0, none⟩) (1 + rs.length) c3) (fun _ => false) (.slice none 0 0) (.slice none 0 0) (.slice none 0 0)) from ((unhide HB5).setCell 0 _).congr fun i _ => tabF_L _ _ _ _ _ _ i); have HL6 := hide ((unhide HL5).fr KM5 (by simp; omega)); have HO6 := hide (ownsRow_fr' hown5 KM5 (fun x hx => by simp [Value.ownBlock] at hx; simp; omega)); have HF6 := hide ((unhide HF5).trans1 KM5 (Or.inr (by have := (unhide HF1).size; omega))); clear hown5 hgrow5 hat5 hlt5 F5 KM5)
      | (go_at_call 69; refine (r_nulls q cap _ _ (by exact unhide HL6)).mono ?_; rintro e w7 ⟨rfl, hf7⟩; rw [unhide HNE]; have HB7 := hide ((unhide HB6).fr0 hf7); have HL7 := hide ((unhide HL6).fr0 hf7); have HO7 := hide (ownsRow_fr (unhide HO6) hf7 (by simp)); have HF7 := hide ((unhide HF6).trans0 hf7); clear hf7)
      | (refine wpList_store_blk rfl 105 (.tmp 55) (.tmp 53) rfl mb 1 128 132 (tabF (.slice (some ⟨g2, 0, none⟩) (1 + rs.length) c3) (fun _ => false) (.slice none 0 0) (.slice none 0 0) (.slice none 0 0)) (sF (nullS rs)) rfl rfl (by exact unhide HB7) Tryz.sizeSet (by omega) (by intro i hi; rfl) ?_; intro w8 hf8 hs8 hB8; have HB8 := hide (hB8.congr (g := tabF (.slice (some ⟨g2, 0, none⟩) (1 + rs.length) c3) (nullS rs) (.slice none 0 0) (.slice none 0 0) (.slice none 0 0)) fun i _ => tabF_N _ _ _ _ _ _ i); have HL8 := hide ((unhide HL7).fr hf8 (by simp; omega)); have HO8 := hide (ownsRow_fr' (unhide HO7) hf8 (fun x hx => by simp [Value.ownBlock] at hx; simp; omega)); have HF8 := hide ((unhide HF7).trans1 hf8 (Or.inr (by have := (unhide HF1).size; omega))); clear hf8 hs8 hB8)
      | (go_at_call 72; refine (r_firstsO q cap mb 1 rs (nullS rs) _ (by exact unhide HL8) (by exact NAt.of_blk (unhide HB8) (by omega) (fun i hi => by unfold tabF; rw [if_neg (by omega), if_pos (by omega), show 1 + i - 1 = i from by omega]))).mono ?_; rintro e w9 ⟨fb, T, rfl, hf9, hfb, hB9, hT⟩; have HB9 := hide ((unhide HB8).fr0 hf9); have HT9 := hide hB9; have HE := hide hT; have HL9 := hide ((unhide HL8).fr0 hf9); have HO9 := hide (ownsRow_fr (unhide HO8) hf9 (by simp)); have HF9 := hide ((unhide HF8).trans0 hf9); have k9 : w9.cell? ⟨mb, 129, none⟩ = some (.slice none 0 0) := (unhide HB9).cell 129 (by omega); have z9 := (unhide HB9).free 129; have HFb := hide (show mb < fb ∧ fb < w9.heap.size from ⟨by have h8 := (unhide HB8).lt; omega, hB9.lt⟩); have KM9 := (Fr.refl [mb] w9).setCell ⟨mb, 129, none⟩ (by simp) (.slice (some ⟨fb, 0, none⟩) 26 26); have HBa := hide (show Blk (w9.setCell ⟨mb, 129, none⟩ (.slice (some ⟨fb, 0, none⟩) 26 26)) mb 132 (tabF (.slice (some ⟨g2, 0, none⟩) (1 + rs.length) c3) (nullS rs) (.slice (some ⟨fb, 0, none⟩) 26 26) (.slice none 0 0) (.slice none 0 0)) from ((unhide HB9).setCell 129 _).congr fun i _ => tabF_F _ _ _ _ _ _ i); have HTa := hide (hB9.fr1 KM9 (by have h8 := (unhide HB8).lt; omega)); have HOa := hide (ownsRow_fr' (unhide HO9) KM9 (fun x hx => by simp [Value.ownBlock] at hx; simp; omega)); have HFa := hide ((unhide HF9).trans1 KM9 (Or.inr (by have := (unhide HF1).size; omega))); have nW : (w9.setCell ⟨mb, 129, none⟩ (.slice (some ⟨fb, 0, none⟩) 26 26)).heap.size = w9.heap.size := (by simp); clear hf9 hB9 hT hfb KM9))
    refine (r_full w9.heap.size mb g2 c3 fb (⟨0, ⟨#[UInt8.ofNat rs[0].L]⟩, 0⟩ :: rs) (nullS rs) T (.slice (some ⟨w9.heap.size, 0, none⟩) 1 1) [⟨0, 0, 36⟩] _ (by exact tb_of ((unhide HBa).alloc _) ((unhide HOa).alloc _) ((unhide HTa).alloc _) (by show 1 ≤ 4; omega) (unhide HL0) (unhide HGood) hlen) (by exact row_one _ ⟨0, 0, 36⟩ _ nW) (by simp) (by have := (unhide HBa).lt; omega) (by have := ((unhide HOa).lt g2 rfl).2; omega) (unhide HFb).2 (by exact fun c x hx h => iterF_small _ _ _ c x ((unhide HE c x hx).symm.trans h)) (by exact List.pairwise_singleton _ _) (by intro y hy; obtain rfl := List.mem_singleton.1 hy; exact ⟨by simp, Nat.zero_le _, Or.inl rfl⟩)).mono ?_
    rintro e wf ⟨vf, Lf, rfl, hfo, hfs⟩
    have HFO := hide hfo
    have HFS := hide hfs
    clear hfo hfs
    have hmem : (⟨0, 0, 36⟩ : It) ∈ Lf := (unhide HFO).lp.sub _ (List.mem_singleton.2 rfl)
    obtain ⟨gf, cf, rfl⟩ : ∃ gf cf, vf = .slice (some ⟨gf, 0, none⟩) Lf.length cf := by
      rcases (unhide HFS).row.2 with ⟨_, h0⟩ | ⟨g, c, cur, e, _⟩
      · rw [List.length_eq_zero_iff.1 h0] at hmem; cases hmem
      · exact ⟨g, c, e⟩
    have HLen := hide ((unhide HFO).lp.len (by simp; omega) (unhide HFS).tb.small)
    obtain ⟨hit, hgb, hgl, _⟩ := IRow.at (unhide HFS).row
    have HIt := hide hit
    have hmw : mb < w9.heap.size := (unhide HFS).hm
    have HS0 := hide (show SAt wf w9.heap.size mb (.slice none 0 0) [] from
      ⟨by rw [(unhide HFS).below.cell (p := ⟨mb, 130, none⟩) hmw]; exact ((unhide HBa).alloc _).cell 130 (by omega), by rw [(unhide HFS).below.frozen (p := ⟨mb, 130, none⟩) hmw]; exact ((unhide HBa).alloc _).free 130, World.ownsRow_nil _ _ _ _, (fun s hs => by cases hs), hmw, by simp⟩)
    clear hit hmem
    go_wp2_with (go_at_call 123; refine (r_number w9.heap.size mb (.slice none 0 0) [] gf cf Lf _ (by exact unhide HS0) (by exact unhide HIt) hgl (by simp [Value.ownBlock]) (by omega) (Nat.le_trans (unhide HLen) (by omega)) (by exact (unhide HFS).hB) (by simp)).mono ?_; rintro e wn ⟨_, hnone⟩; obtain ⟨rfl, vS, w1', hsa, hf1', rfl, hown⟩ := hnone rfl; have HSA := hide hsa; have HFn := hide hf1'; clear hnone hsa hf1')
    have hg2B : mb + 1 ≤ g2 := by assumption
    have HRf := hide (show RtS w wf mb g2 c3 fb w9.heap.size (⟨0, ⟨#[UInt8.ofNat rs[0].L]⟩, 0⟩ :: rs) (nullS rs) T (.slice none 0 0) [] (.slice none 0 0) [] (.slice none 0 0) [] from
      { fr := Fr.trans_below ((unhide HFa).alloc _) (unhide HFS).below (by have := (unhide HF1).size; omega)
        tb := (unhide HFS).tb
        sa := unhide HS0
        mt := ⟨by rw [(unhide HFS).below.cell (p := ⟨mb, 131, none⟩) hmw]; exact ((unhide HBa).alloc _).cell 131 (by omega), by rw [(unhide HFS).below.frozen (p := ⟨mb, 131, none⟩) hmw]; exact ((unhide HBa).alloc _).free 131, World.ownsRow_nil _ _ _ _, (fun x hx => by cases hx), hmw, by simp⟩
        row := World.ownsRow_nil _ _ _ _
        hq := (unhide HFS).hq
        hf := (unhide HFS).hf
        nq := by omega
        nf := by have := (unhide HFb).1; omega
        bs := (unhide HFS).hB
        lb := by have := (unhide HF1).size; omega
        dST := fun _ e => by cases e
        dSm := fun _ e => by cases e
        dSv := fun _ e => by cases e
        dTi := fun _ e => by cases e
        dvi := fun _ e => by cases e
        dvT := fun _ e => by cases e
        dvm := fun _ e => by cases e
        ok := fun _ e => by cases e })
    have HR0 := hide ((unhide HRf).new (by exact unhide HFn) (by exact unhide HSA) hown (by simp [Value.ownBlock]) (by simp [Value.ownBlock]) (unhide HFO).lp.ok)
    have HST := hide (startM_eq (unhide HFO))
    have HFx := hide (unhide HE)
    have HRS2 := hide (unhide HRS)
    generalize w1'.setCell ⟨mb, 130, none⟩ vS = wn at *
    clear HRf HSA HFn HFO HFS HIt HS0 HLen HBa HTa HOa HFa HB9 HT9 HL9 HO9 HF9 HB8 HL8 HO8 HF8 HB7 HL7 HO7 HF7 HB6 HL6 HO6 HF6 HB5 HO5 HL5 HF5 HBk HLq HOw HF4 HB2 HL2 HL1
    clear k9 z9 k5 z5 k0
    have HTs := hide (show ∀ c x, x < 128 → T c x = true → smallB x = true from fun c x hx h => iterF_small _ _ _ c x ((unhide HFx c x hx).symm.trans h))
    have HFT := hide (show ∀ c x, x < 128 → T c x = firstT rs c x from unhide HFx)
    clear HFx HE
    obtain ⟨Bs, hBs⟩ : ∃ Bs, w9.heap.size = Bs := ⟨_, rfl⟩
    rw [hBs] at HR0
    have HA0 := hide (show AllS w wn mb g2 c3 fb Bs (⟨0, ⟨#[UInt8.ofNat rs[0].L]⟩, 0⟩ :: rs) (nullS rs) T 0 vS [⟨gf, cf, Lf⟩] (.slice none 0 0) [] from ⟨unhide HR0, Nat.zero_le _, by simp, by simp, rfl, by rw [unhide HST]; rfl⟩)
    clear HR0 HST
    clear hBs hown hgl hgb hmw hw4 hgB hg2B HFb HF1 HNE HGood HL0 HRS hL0 H0 hok hz0 hz1 hz2 hi0
    go_loopw [9] (fun iv wr => ∃ (i : Nat) (vS : Value) (ls : List Sl) (vT : Value) (ms : List MSl), iv = .int .i64 i ∧ i ≤ ls.length ∧ ls.length ≤ 40 ∧ Hid (AllS w wr mb g2 c3 fb Bs (⟨0, ⟨#[UInt8.ofNat rs[0].L]⟩, 0⟩ :: rs) (nullS rs) T i vS ls vT ms)) (fun iv _ => 41 - (intOf iv).toNat)
    case atStart => exact ⟨0, vS, _, _, _, rfl, by simp, by simp, HA0⟩
    case round =>
      obtain ⟨i, vS, ls, vT, ms, rfl, hi, h40, hA⟩ := hrel
      obtain ⟨gS, cS, hvS⟩ := slice_some (unhide hA).rt.sa.own (unhide hA).pos
      subst hvS
      have c0 := (unhide hA).rt.sa.cell
      clear HA0
      by_cases hlt : i < ls.length
      · go_wp2
        go_loopw [10, 11] (fun mv kv wr => ∃ (k : Nat) (vS' : Value) (ls' : List Sl) (m : List (Nat × Nat)), k ≤ 58 ∧ kv = .int .i64 ((65 + k : Nat) : Int) ∧ ls'.length ≤ 40 ∧ Hid (RowS w wr mb g2 c3 fb Bs (⟨0, ⟨#[UInt8.ofNat rs[0].L]⟩, 0⟩ :: rs) (nullS rs) T ls[i].l ls vT ms k vS' ls' mv m)) (fun _ kv _ => 123 - (intOf kv).toNat)
        case atStart => exact ⟨0, _, ls, [], by omega, rfl, h40, hide ((unhide hA).row _)⟩
        case round =>
          obtain ⟨k, vS', ls', m, hk, rfl, h40', hR⟩ := hrel
          have hext : ls.length ≤ ls'.length := by obtain ⟨e, he⟩ := (unhide hR).ext; rw [he]; simp
          clear c0
          by_cases hkt : k < 58
          · obtain ⟨gS', cS', hvS'⟩ := slice_some (unhide hR).rt.sa.own (by omega)
            subst hvS'
            have hi' : i < ls'.length := by omega
            have d0 := (unhide hR).rt.sa.cell
            have d1 := slV_get (unhide hR).rt.sa.own i hi'
            have hget : ls'[i] = ls[i] := by
              obtain ⟨e, he⟩ := (unhide hR).ext
              subst he
              exact List.getElem_append_left hlt
            rw [hget] at d1
            unfold slV at d1
            obtain ⟨m1, m2, m3, m4, m5⟩ := (unhide hR).rt.sa.its ls[i] (by rw [← hget]; exact List.getElem_mem hi')
            have HI := hide m1
            have HOk := hide ((unhide hR).rt.ok ls[i] (by rw [← hget]; exact List.getElem_mem hi'))
            clear m1 hget m4 m5
            go_wp2_with fail
            have hml := (unhide hR).ml
            have hst := r_step mb g2 c3 fb ls[i].g ls[i].c (65 + k) _ (nullS rs) T ls[i].l wr (unhide hR).rt.tb (unhide HI) m2 (unhide HTs) (unhide HOk) m3
            rw [show ((65 + k : Nat) : Int) = 65 + (k : Int) from by omega] at hst
            refine hst.mono ?_
            clear hst
            rintro e w2 ⟨v2, K, F, rfl, hK, hF, hfs⟩
            have HFr := hide (show Fr [] wr w2 from Fr.trans_below (Fr.refl [] wr) hfs.below (Nat.le_refl _))
            have HK := hide hK
            have HF := hide hF
            have HRow := hide hfs.row
            have hF9 : F.length ≤ 10000 := Nat.le_trans (hF.lp.len (by simp; omega) hfs.tb.small) (by omega)
            clear hK hF hfs d0 d1
            by_cases hF0 : F.length = 0
            · have hFn : F = [] := List.length_eq_zero_iff.1 hF0
              subst hFn
              have HR2 := hide ((unhide hR).skip (unhide HFr) (unhide HK) (unhide HF))
              have d2 := (unhide HR2).rt.sa.cell
              clear hF0 hF9
              rcases (unhide HRow).2 with ⟨hv2, _⟩ | ⟨gx, cx, cur, hv2, _⟩
              all_goals
                subst hv2
                clear HRow HK HF
                go_wp2
                go_roundw
                case rel => exact ⟨k + 1, _, ls', m, by omega, by go_num, h40', HR2⟩
                case measure => simp [intOf]; omega
            · obtain ⟨gx, cx, hv2⟩ : ∃ gx cx, v2 = .slice (some ⟨gx, 0, none⟩) F.length cx := by
                rcases (unhide HRow).2 with ⟨_, h0⟩ | ⟨g, c, cur, e, _⟩
                · exact absurd h0 hF0
                · exact ⟨g, c, e⟩
              subst hv2
              obtain ⟨hit, hgb, hgl, _⟩ := IRow.at (unhide HRow)
              have HIt := hide hit
              have HR2 := hide ((unhide hR).rt.fr0 (unhide HFr))
              have hgS : (.slice (some ⟨gS', 0, none⟩) ls'.length cS' : Value).ownBlock ≠ some gx := fun e => by have := ((unhide hR).rt.sa.own.lt gx e).2; omega
              have hgT : vT.ownBlock ≠ some gx := fun e => by have := ((unhide hR).rt.mt.own.lt gx e).2; omega
              have hgv : u10.ownBlock ≠ some gx := fun e => by have := ((unhide hR).rt.row.lt gx e).2; omega
              have hgm : gx ≠ mb := by have := (unhide hR).rt.sa.base; have := (unhide hR).rt.bs; omega
              have HgS := hide hgS
              have HgT := hide hgT
              have Hgv := hide hgv
              have Hgm := hide hgm
              have hFp : 0 < F.length := by omega
              clear hit hgb hgS hgT hgv hgm
              go_wp2_with fail
              refine (r_number Bs mb _ ls' gx cx F _ (by exact (unhide HR2).sa) (by exact unhide HIt) hgl (unhide HgS) (unhide Hgm) hF9 (by exact (unhide HR2).bs) (by omega)).mono ?_
              rintro e w3 ⟨hso, hno⟩
              cases hn : numI ls' F with
              | some j =>
                obtain ⟨rfl, hf3⟩ := hso j hn
                have HR3 := hide ((unhide HR2).fr0 hf3)
                have HN := hide hn
                clear hso hno hf3 hn
                go_wp2_with (at_builtin; refine wpList_append_lies _ rfl (.tmp 102) (.tmp 106) 183 rfl Bs 186 i1 _ 2 16 Tryz.underlying183 hi1 hy0 hy1 hy2 rfl (by omega) u10 m.length (mvCells m) rfl (by exact (unhide HR3).row.alloc _) _ 1 1 [.int .u8 ((65 + k : Nat) : Int), .int .i64 (j : Nat)] rfl rfl (World.news_of_block (cs := #[.int .u8 ((65 + k : Nat) : Int), .int .i64 (j : Nat)]) (t := 186) (fr := (0, 0)) (heap_alloc_new _ _)) (by simp [Value.oneCell']) (by omega) (by unfold maxLen; omega) (by omega) (by have := (unhide HR3).bs; simp; omega) _ rfl ?_; intro g4 c4 w4 hown4 hgrow4 hat4 hlt4; have HR4 := hide ((unhide HR3).push hgrow4 hown4 (hat4.imp id (fun h => by have h' := h; first | (simp at h'; omega) | omega))); have d4 := (unhide HR4).sa.cell; clear hown4 hgrow4 hat4 hlt4)
                go_roundw
                case rel => exact ⟨k + 1, _, ls', _, by omega, by go_num, h40', hide ((unhide hR).old (unhide HK) (unhide HF) hF0 h40' (unhide HN) (unhide HR4))⟩
                case measure => simp [intOf]; omega
              | none =>
                obtain ⟨rfl, vS2, w1, hsa, hf1, rfl, hown⟩ := hno hn
                have HR3 := hide ((unhide HR2).new hf1 hsa hown (unhide HgT) (unhide Hgv) (unhide HF).lp.ok)
                have HN := hide hn
                clear hso hno hf1 hn hsa hown
                generalize w1.setCell ⟨mb, 130, none⟩ vS2 = w3 at *
                obtain ⟨g5, c5, hv5⟩ := slice_some (unhide HR3).sa.own (by simp)
                subst hv5
                obtain ⟨ls2, hls2⟩ : ∃ ls2, ls' ++ [⟨gx, cx, F⟩] = ls2 := ⟨_, rfl⟩
                rw [hls2] at HR3
                have HL2 := hide hls2
                have hL2 := congrArg List.length hls2
                simp at hL2
                clear hls2
                by_cases h41 : ls'.length = 40
                · have hgt : 40 < ls2.length := by omega
                  have HMany := hide ((unhide hA).many hlt ((unhide hR).many (unhide HK) (unhide HF) hF0 (by omega) (unhide HN) hkt))
                  clear hL2 h41
                  go_wp2_with (at_builtin; refine wpList_append_lies _ rfl (.tmp 102) (.tmp 106) 183 rfl Bs 186 i1 _ 2 16 Tryz.underlying183 hi1 hy0 hy1 hy2 rfl (by omega) u10 m.length (mvCells m) rfl (by exact (unhide HR3).row.alloc _) _ 1 1 [.int .u8 ((65 + k : Nat) : Int), .int .i64 (ls'.length : Nat)] rfl rfl (World.news_of_block (cs := #[.int .u8 ((65 + k : Nat) : Int), .int .i64 (ls'.length : Nat)]) (t := 186) (fr := (0, 0)) (heap_alloc_new _ _)) (by simp [Value.oneCell']) (by omega) (by unfold maxLen; omega) (by omega) (by have := (unhide HR3).bs; simp; omega) _ rfl ?_; intro g4 c4 w4 hown4 hgrow4 hat4 hlt4; have HR4 := hide ((unhide HR3).push hgrow4 hown4 (hat4.imp id (fun h => by have h' := h; first | (simp at h'; omega) | omega))); have d4 := (unhide HR4).sa.cell; clear hown4 hgrow4 hat4 hlt4)
                  go_ret2
                  exact rtab_none (unhide HR4).fr (unhide HRS2) hpos (unhide HFT) (unhide HMany)
                · have hle2 : ls2.length ≤ 40 := by omega
                  have hls1 : ls'.length + 1 ≤ 40 := by omega
                  clear hL2
                  go_wp2_with (at_builtin; refine wpList_append_lies _ rfl (.tmp 102) (.tmp 106) 183 rfl Bs 186 i1 _ 2 16 Tryz.underlying183 hi1 hy0 hy1 hy2 rfl (by omega) u10 m.length (mvCells m) rfl (by exact (unhide HR3).row.alloc _) _ 1 1 [.int .u8 ((65 + k : Nat) : Int), .int .i64 (ls'.length : Nat)] rfl rfl (World.news_of_block (cs := #[.int .u8 ((65 + k : Nat) : Int), .int .i64 (ls'.length : Nat)]) (t := 186) (fr := (0, 0)) (heap_alloc_new _ _)) (by simp [Value.oneCell']) (by omega) (by unfold maxLen; omega) (by omega) (by have := (unhide HR3).bs; simp; omega) _ rfl ?_; intro g4 c4 w4 hown4 hgrow4 hat4 hlt4; have HR4 := hide ((unhide HR3).push hgrow4 hown4 (hat4.imp id (fun h => by have h' := h; first | (simp at h'; omega) | omega))); have d4 := (unhide HR4).sa.cell; clear hown4 hgrow4 hat4 hlt4)
                  go_roundw
                  case rel =>
                    have h4 := unhide HR4
                    rw [← unhide HL2] at h4
                    have h5 := (unhide hR).new (unhide HK) (unhide HF) hF0 hls1 (unhide HN) h4
                    rw [unhide HL2] at h5
                    exact ⟨k + 1, _, ls2, _, by omega, by go_num, hle2, hide h5⟩
                  case measure => simp [intOf]; omega
          · have hk58 : k = 58 := by omega
            subst hk58
            have t0 := (unhide hR).rt.mt.cell
            have t1 := (unhide hR).rt.mt.free
            have hmB := (unhide hR).rt.mt.base
            have hml := (unhide hR).ml
            have hms : ms.length ≤ 40 := by have := (unhide hA).len; omega
            obtain ⟨ao, cm, hm10⟩ := own_slice (unhide hR).rt.row
            subst hm10
            clear hk hkt
            go_wp2_with (at_builtin; refine wpList_append_lies _ rfl (.tmp 118) (.tmp 120) 128 rfl Bs 183 i2 _ 1 24 Tryz.underlying128 hi2 hx0 hx1 hx2 rfl (by omega) vT ms.length (ms.map (·.v)) rfl (by exact (unhide hR).rt.mt.own.alloc _) _ 1 1 [.slice ao m.length cm] rfl rfl (World.news_of_block (cs := #[.slice ao m.length cm]) (t := 183) (fr := (0, 0)) (heap_alloc_new _ _)) (by simp [Value.oneCell']) (by omega) (by unfold maxLen; omega) (by omega) (by have := (unhide hR).rt.bs; simp; omega) _ rfl ?_; intro g4 c4 w4 hown4 hgrow4 hat4 hlt4; have k4 := grown_fr hgrow4; have hnm : mb ∉ vT.ownBlock.toList := (fun hm => by have := ((unhide hR).rt.mt.own.lt mb (by simpa using hm)).1; omega); have d4 := k4.cell t0 hnm; have z4 := (k4.frozen (o := 131) hnm (World.block_lt_of_cell? wr ⟨mb, 131, none⟩ t0)).trans t1; have HR4 := hide ((unhide hR).rt.lay hgrow4 hown4 (hat4.imp id (fun h => by have h' := h; first | (simp at h'; omega) | omega)) (by omega) (by omega)); clear hown4 hgrow4 hat4 hlt4 k4 hnm)
            go_roundw
            case rel =>
              have hA2 := (unhide hA).next hlt (unhide hR) h40' (unhide HR4)
              exact ⟨i + 1, _, ls', _, _, by go_num, hA2.le, h40', hide hA2⟩
            case measure => simp [intOf]; omega
      · go_wp2
        go_ret2
        exact rtab_some (unhide HRS2) hpos (unhide HFT) (unhide hA) hlt
end Go.Proofs.YtkglggkkbmmjkaaGreatDoor

namespace Go.Proofs.YtkglggkkbmmjkaaGreatDoor
open Go.RowKit

/-! Sets are compared: arrays and structs of bools, cell by cell. -/
section
variable {P : Program}

def boolF (A : Nat → Bool) : Nat → Value := fun i => .bool (A i)
/-- the first m cells are the same -/
def allB (m : Nat) (A B : Nat → Bool) : Bool := (List.range m).all fun i => A i == B i
theorem allB_iff {m : Nat} {A B : Nat → Bool} : allB m A B = true ↔ ∀ i, i < m → A i = B i := by simp [allB]
theorem allB_add (m k : Nat) (A B : Nat → Bool) : allB (m + k) A B = (allB m A B && allB k (fun i => A (m + i)) (fun i => B (m + i))) := by
  apply Bool.eq_iff_iff.2
  rw [Bool.and_eq_true, allB_iff, allB_iff, allB_iff]
  constructor
  · intro h
    exact ⟨fun i hi => h i (by omega), fun i hi => h (m + i) (by omega)⟩
  · intro ⟨h1, h2⟩ i hi
    by_cases e : i < m
    · exact h1 i e
    · have := h2 (i - m) (by omega)
      rw [show m + (i - m) = i from by omega] at this
      exact this

/-- values of a type of m cells, taken out of arrays of bools, are compared cell by cell -/
def EqT (P : Program) (d : Nat) (T : TypeId) (m : Nat) : Prop := P.cellsOf T = m ∧ (∃ i, P.info? T = some i) ∧ ∀ (A B : Nat → Bool) (n off : Nat) (w : World), off + m ≤ n →
  ∃ x y, (part T (Array.ofFn (n := n) fun i => boolF A i.val) off).run P w = .ok x w ∧ (part T (Array.ofFn (n := n) fun i => boolF B i.val) off).run P w = .ok y w ∧
    (Op.equalIn d T x y).run P w = .ok (allB m (fun i => A (off + i)) (fun i => B (off + i))) w

theorem eqT_bool (d : Nat) (T : TypeId) (h : P.underlying T = some .bool) (hc : P.cellsOf T = 1) : EqT P (d + 1) T 1 := by
  obtain ⟨i, hi⟩ := info_of_underlying h
  refine ⟨hc, ⟨i, hi⟩, fun A B n off w hn => ⟨.bool (A off), .bool (B off), ?_, ?_, ?_⟩⟩
  · simp only [part, isAgg, Sem.run_bind, run_underlying h, Result.andThen_ok, Sem.run_pure]
    simp [show off < n from by omega, boolF]
  · simp only [part, isAgg, Sem.run_bind, run_underlying h, Result.andThen_ok, Sem.run_pure]
    simp [show off < n from by omega, boolF]
  · rw [run_equalIn_bool' w d T _ _ h]
    simp [allB]

theorem extract_ofFn (f : Nat → Value) (n off m : Nat) (h : off + m ≤ n) : (Array.ofFn (n := n) fun i => f i.val).extract off (off + m) = Array.ofFn (n := m) fun i => f (off + i.val) := by
  apply Array.ext
  · simp; omega
  · intro i h1 h2
    simp

/-- an aggregate's part -/
theorem run_part_agg {T : TypeId} {d : TypeDesc} {i : TypeInfo} {m : Nat} (hu : P.underlying T = some d) (hd : d.isRow = true) (hi : P.info? T = some i) (hc : P.cellsOf T = m) (f : Nat → Value) (n off : Nat) (w : World) (h : off + m ≤ n) :
    (part T (Array.ofFn (n := n) fun i => f i.val) off).run P w = .ok (Agg m fun i => f (off + i)) w := by
  have : (isAgg T).run P w = .ok true w := by
    cases d <;> simp [TypeDesc.isRow] at hd <;> simp [isAgg, run_underlying hu]
  simp only [part, Sem.run_bind, this, Result.andThen_ok, if_true, run_sizeOf w hi, Sem.run_pure, hc, extract_ofFn f n off m h, Agg]

theorem eqT_struct {d : Nat} {T E : TypeId} {m : Nat} {f : Field} (h : EqT P d E m) (hu : P.underlying T = some (.struct #[f])) (hf : f.type = E) (hn : (f.name == "_") = false) (ho : f.offset = 0) (hp : P.stoodInHeld T = false) (hc : P.cellsOf T = m) : EqT P (d + 1) T m := by
  subst hf
  obtain ⟨i, hi⟩ := info_of_underlying hu
  refine ⟨hc, ⟨i, hi⟩, fun A B n off w hw => ⟨_, _, run_part_agg hu rfl hi hc _ n off w hw, run_part_agg hu rfl hi hc _ n off w hw, ?_⟩⟩
  obtain ⟨x, y, hx, hy, he⟩ := h.2.2 (fun i => A (off + i)) (fun i => B (off + i)) m 0 w (by omega)
  have hfo : P.fieldsOf T = #[f] := by simp [Program.fieldsOf, hu]
  unfold Agg
  rw [run_equalIn_struct w d T _ _ (by rw [hfo]; exact hu) hp, hfo]
  have hx' : (part f.type (Array.ofFn (n := m) fun i => boolF A (off + i.val)) f.offset).run P w = .ok x w := by rw [ho]; exact hx
  have hy' : (part f.type (Array.ofFn (n := m) fun i => boolF B (off + i.val)) f.offset).run P w = .ok y w := by rw [ho]; exact hy
  simp only [Nat.zero_add] at he
  have hne : f.name ≠ "_" := by simpa using hn
  simp only [Op.eqFields, if_pos hne, Sem.run_bind, hx', hy', Result.andThen_ok, he]
  cases allB m (fun i => A (off + i)) fun i => B (off + i) <;> simp

/-- the loop over an array's elements -/
def eqLoop (d : Nat) (E : TypeId) (n : Nat) (xs ys : Array Value) : List Nat → Sem Bool
  | [] => pure true
  | i :: l => do
    let a ← part E xs (i * n)
    let b ← part E ys (i * n)
    let r ← Op.equalIn d E a b
    if (!r) = true then pure false else eqLoop d E n xs ys l

theorem run_equalIn_array (w : World) (d : Nat) (T E : TypeId) (len m : Nat) (xs ys : Array Value) (hu : P.underlying T = some (.array len E)) (i : TypeInfo) (hi : P.info? E = some i) (hc : P.cellsOf E = m) :
    (Op.equalIn (d + 1) T (.agg xs) (.agg ys)).run P w = (eqLoop d E m xs ys (List.range' 0 len)).run P w := by
  simp only [Op.equalIn, Sem.run_bind, run_underlying hu, Result.andThen_ok, run_sizeOf w hi, hc]
  rw [Std.Legacy.Range.forIn_eq_forIn_range']
  simp only [Std.Legacy.Range.size, Nat.sub_zero, Nat.add_sub_cancel, Nat.div_one]
  generalize List.range' 0 len = l
  induction l generalizing w with
  | nil => simp [eqLoop]
  | cons f fs ih =>
    simp only [List.forIn_cons, eqLoop, Sem.run_bind]
    generalize (part E xs (f * m)).run P w = r1
    cases r1 with
    | ok a w1 =>
      simp only [Result.andThen_ok]
      generalize (part E ys (f * m)).run P w1 = r2
      cases r2 with
      | ok b w2 =>
        simp only [Result.andThen_ok]
        generalize (Op.equalIn d E a b).run P w2 = r3
        cases r3 with
        | ok r w3 =>
          cases r
          · simp
          · simp only [Result.andThen_ok, Bool.not_true, Bool.false_eq_true, if_false, Sem.run_pure]
            exact ih w3
        | halt x w3 => simp [Result.andThen]
      | halt x w2 => simp [Result.andThen]
    | halt x w1 => simp [Result.andThen]

theorem eqT_array {d : Nat} {T E : TypeId} {m len : Nat} (h : EqT P d E m) (hu : P.underlying T = some (.array len E)) (hc : P.cellsOf T = len * m) : EqT P (d + 1) T (len * m) := by
  obtain ⟨i, hi⟩ := info_of_underlying hu
  obtain ⟨hm, ⟨ie, hie⟩, he⟩ := h
  refine ⟨hc, ⟨i, hi⟩, fun A B n off w hw => ⟨_, _, run_part_agg hu rfl hi hc _ n off w hw, run_part_agg hu rfl hi hc _ n off w hw, ?_⟩⟩
  unfold Agg
  rw [run_equalIn_array w d T E len m _ _ hu ie hie hm]
  have key : ∀ k s, s + k = len → (eqLoop d E m (Array.ofFn (n := len * m) fun i => boolF A (off + i.val)) (Array.ofFn (n := len * m) fun i => boolF B (off + i.val)) (List.range' s k)).run P w = .ok (allB (k * m) (fun i => A (off + (s * m + i))) (fun i => B (off + (s * m + i)))) w := by
    intro k
    induction k with
    | zero => intro s _; simp [eqLoop, allB]
    | succ k ih =>
      intro s hs
      obtain ⟨x, y, hx, hy, hxy⟩ := he (fun i => A (off + i)) (fun i => B (off + i)) (len * m) (s * m) w (by
        have : (s + 1) * m ≤ len * m := Nat.mul_le_mul_right _ (by omega)
        rw [Nat.add_mul] at this; omega)
      have hx' : (part E (Array.ofFn (n := len * m) fun i => boolF A (off + i.val)) (s * m)).run P w = .ok x w := hx
      have hy' : (part E (Array.ofFn (n := len * m) fun i => boolF B (off + i.val)) (s * m)).run P w = .ok y w := hy
      rw [List.range'_succ]
      simp only [eqLoop, Sem.run_bind, hx', hy', hxy, Result.andThen_ok]
      rw [Nat.add_mul, Nat.one_mul, Nat.add_comm (k * m) m, allB_add]
      cases allB m (fun i => A (off + (s * m + i))) (fun i => B (off + (s * m + i)))
      · simp
      · simp only [Bool.not_true, Bool.false_eq_true, if_false, Bool.true_and]
        rw [ih (s + 1) (by omega)]
        simp only [Nat.add_mul, Nat.one_mul, Nat.add_assoc]
  rw [key len 0 (by omega)]
  simp only [Nat.zero_mul, Nat.zero_add]

/-- whole sets are compared -/
theorem EqT.run {T : TypeId} {m d : Nat} {i : TypeDesc} (h : EqT P d T m) (hu : P.underlying T = some i) (hr : i.isRow = true) (A B : Nat → Bool) (w : World) :
    (Op.equalIn d T (Agg m (boolF A)) (Agg m (boolF B))).run P w = .ok (allB m A B) w := by
  obtain ⟨hm, ⟨ie, hie⟩, he⟩ := h
  obtain ⟨x, y, hx, hy, hxy⟩ := he A B m 0 w (by omega)
  rw [run_part_agg hu hr hie hm _ m 0 w (by omega)] at hx hy
  simp only [Nat.zero_add] at hx hy hxy
  cases hx; cases hy
  exact hxy

/-- the operation == over sets -/
theorem run_eql_set {T : TypeId} {m : Nat} {i : TypeDesc} (h : EqT P 10000 T m) (hu : P.underlying T = some i) (hr : i.isRow = true) (A B : Nat → Bool) (w : World) :
    (binOp .eql T (Agg m (boolF A)) (Agg m (boolF B))).run P w = .ok (.bool (allB m A B)) w := by
  unfold Agg
  rw [run_eql_struct]
  have := h.run hu hr A B w
  unfold Agg at this
  rw [this]
  rfl

end
end Go.Proofs.YtkglggkkbmmjkaaGreatDoor
