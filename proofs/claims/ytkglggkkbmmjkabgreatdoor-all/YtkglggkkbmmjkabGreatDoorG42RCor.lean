import Derived.Test.YtkglggkkbmmjkabGreatDoorG41RTabM
import Derived.Test.YtkglggkkbmmjkabGreatDoorG35CallV
import Derived.Test.YtkglggkkbmmjkabGreatDoorG38CorV2
import Derived.Deep.RegionHeld3
namespace Go.Proofs.YtkglggkkbmmjkabGreatDoor
open Go.RowKit
def RTabOut (t : ByteArray) (w : World) (e : Ending) (w' : World) : Prop :=
 Fr [] w w' ∧ ∃ (rs : List Ru) (r0 : Ru) (T : Nat → Nat → Bool), rs = (zad t 8 0 []).1 ∧ 0 < rs.length ∧ r0 = ⟨0, ⟨#[UInt8.ofNat (rget rs 0).L]⟩, 0⟩ ∧ (∀ c x, x < 128 → T c x = zau rs c x) ∧
  (tabM (r0 :: rs) (zan rs) T 41 0 [zby (r0 :: rs) (zan rs) T] [] = none → e = .returned (.tuple #[.pointer none, .int .i64 6])) ∧
  ∀ Ms M, tabM (r0 :: rs) (zan rs) T 41 0 [zby (r0 :: rs) (zan rs) T] [] = some (Ms, M) → ∃ mb q cq fq Bs vS ls vT ms, e = .returned (.tuple #[.pointer (some ⟨mb, 0, none⟩), .int .i64 0]) ∧ RtS w w' mb q cq fq Bs (r0 :: rs) (zan rs) T vS ls vT ms (.slice none 0 0) [] ∧ ls.map (·.l) = Ms ∧ ms.map (·.m) = M ∧ ms.length = ls.length ∧ 0 < ls.length ∧ ls.length ≤ 40
theorem Fr.trans_below {a b c : World} {B : Nat} (h : Fr [] a b) (k : Below B b c) (hB : a.heap.size ≤ B) : Fr [] a c :=
 ⟨k.os.trans h.os, k.tape.trans h.tape, k.output.trans h.output, Nat.le_trans h.size k.size, fun i hi hn => by rw [k.block i (by omega), h.block i hi hn]⟩
theorem rtab_none {t : ByteArray} {w w' : World} {rs : List Ru} {T : Nat → Nat → Bool} (hf : Fr [] w w') (hrs : (zad t 8 0 []).1 = rs) (hpos : 0 < rs.length) (hT : ∀ c x, x < 128 → T c x = zau rs c x)
 (h : tabM (⟨0, ⟨#[UInt8.ofNat rs[0].L]⟩, 0⟩ :: rs) (zan rs) T 41 0 [zby (⟨0, ⟨#[UInt8.ofNat rs[0].L]⟩, 0⟩ :: rs) (zan rs) T] [] = none) : RTabOut t w (.returned (.tuple #[.pointer none, .int .i64 6])) w' := by
 refine ⟨hf, rs, _, T, hrs.symm, hpos, rfl, hT, fun _ => rfl, fun Ms M hm => ?_⟩
 rw [zbl rs 0 hpos, h] at hm; cases hm
theorem rtab_some {t : ByteArray} {w w' : World} {rs : List Ru} {T : Nat → Nat → Bool} {mb q cq fq Bs : Nat} {vS vT : Value} {ls : List Sl} {ms : List MSl} {i : Nat} (hrs : (zad t 8 0 []).1 = rs) (hpos : 0 < rs.length) (hT : ∀ c x, x < 128 → T c x = zau rs c x)
 (h : AllS w w' mb q cq fq Bs (⟨0, ⟨#[UInt8.ofNat rs[0].L]⟩, 0⟩ :: rs) (zan rs) T i vS ls vT ms) (hi : ¬ i < ls.length) : RTabOut t w (.returned (.tuple #[.pointer (some ⟨mb, 0, none⟩), .int .i64 0])) w' := by
 have he := h.end_ hi
 refine ⟨h.rt.fr, rs, _, T, hrs.symm, hpos, rfl, hT, fun hm => ?_, fun Ms M hm => ?_⟩
 ·rw [zbl rs 0 hpos, he] at hm; cases hm
 ·rw [zbl rs 0 hpos] at hm ⊢
  rw [he] at hm
  cases hm
  exact ⟨mb, q, cq, fq, Bs, vS, ls, vT, ms, rfl, h.rt, rfl, rfl, by have := h.len; have := h.le; omega, h.pos, h.l40⟩
theorem own_slice {w : World} {B : Nat} {e : TypeId} {size : Nat} {v : Value} {n : Nat} {xs : List Value} (h : w.ownsRow B e size v n xs) : ∃ ao c, v = .slice ao n c := by
 rcases h.2 with ⟨rfl, h0⟩ | ⟨g, cap, cur, rfl, _⟩
 ·exact ⟨none, 0, by rw [h0]⟩
 ·exact ⟨some ⟨g, 0, none⟩, cap, rfl⟩
theorem Tryz.infoMove : (Tryz.prog.info? 186).map (fun i => (i.zero, i.size, i.bytes)) = some (some (.agg #[.int .u8 0, .int .i64 0]), 2, 16) := by kernel_rfl
theorem Tryz.infoMoves : (Tryz.prog.info? 183).map (fun i => (i.zero, i.size, i.bytes)) = some (some (.slice none 0 0), 1, 24) := by kernel_rfl
set_option maxRecDepth 100000 in
set_option maxHeartbeats 16000000 in
theorem r_table_good (t : ByteArray) (w : World) (ht : t.size ≤ 9223372036854775807) (h0 : (rErr t).1 = 0) :
 Calls Tryz.prog 72 #[.string t] w fun e w' => RTabOut t w e w' := by
 obtain ⟨i0, hi0, hz0, hz1, hz2⟩ := info_parts Tryz.infoRRule
 obtain ⟨i1, hi1, hy0, hy1, hy2⟩ := info_parts Tryz.infoMove
 obtain ⟨i2, hi2, hx0, hx1, hx2⟩ := info_parts Tryz.infoMoves
 have H0 := hide h0
 clear h0
 go_enter Tryz.func72, Tryz.ntmps72
 go_wp2_with (first
  | (go_at_call 17; refine (r_read t _ ht).mono ?_; rintro e w1 ⟨hf1, _, h2⟩; obtain ⟨_, hok, q, cap, rfl, hla, hqw⟩ := h2 (zaa H0); have HF1 := hide hf1; have HL1 := hide hla; clear hf1 h2 hla)
  | (refine zat rfl 130 (.tmp 24) rfl (some 25) rfl 132 zTab (by rfl) ?_; intro w2 hf2 hs2 hB2))
 obtain ⟨rs, hrs⟩ : ∃ rs, (zad t 8 0 []).1 = rs := ⟨_, rfl⟩
 have hNE := nulls_eq (zad t 8 0 []).1 (zb0 t)
 rw [hrs] at hNE
 have HNE := hide hNE
 clear hNE
 have HGood := hide (show ∀ r ∈ rs, r.R.size ≤ 4 ∧ ∀ j, j < r.R.size → letB (ch r.R j) = true from fun r hr => by
  rw [← hrs] at hr
  have := (zaw t 8 0 [] (by simp)).1 r hr
  exact ⟨this.2.1, this.2.2.2⟩)
 have hpos : 0 < rs.length := by rw [← hrs]; exact (zaw t 8 0 [] (by simp)).2.2 hok
 rw [hrs] at HL1 ⊢
 have hq1 := (zaa HL1).lt
 obtain ⟨mb, hmb⟩ : ∃ mb, w1.heap.size = mb := ⟨_, rfl⟩
 rw [hmb] at hB2 hs2 hq1 ⊢
 have HB2 := hide hB2
 have HL2 := hide ((zaa HL1).fr0 hf2)
 have c0 : w2.cell? ⟨mb, 0, none⟩ = some (.slice none 0 0) := hB2.cell 0 (by omega)
 have z0 := hB2.free 0
 have c1 : w2.cell? ⟨q, 0, none⟩ = some (.int .u8 rs[0].L) := ((zaa HL2).ru 0 hpos).1
 have HRS := hide hrs
 clear hrs hB2
 have hL0 : rs[0].L < 256 := by have := big_lt ((zaa HL2).ok 0 hpos).1; omega
 have HL0 := hide (show ∀ j, j < (⟨#[UInt8.ofNat rs[0].L]⟩ : ByteArray).size → letB (ch ⟨#[UInt8.ofNat rs[0].L]⟩ j) = true from fun j hj => by
  obtain rfl : j = 0 := by have : j < 1 := hj; omega
  rw [za8 _ _ hj]
  show letB (UInt8.ofNat rs[0].L).toNat = true
  rw [UInt8.toNat_ofNat', Nat.mod_eq_of_lt hL0]
  unfold letB
  rw [((zaa HL2).ok 0 hpos).1]; rfl)
 have hcv : ∀ W : World, W.cell? ⟨mb + 1, 0, none⟩ = some (.int .u8 rs[0].L) → (Go.convert 158 9 (.slice (some ⟨mb + 1, 0, none⟩) 1 1)).run Tryz.prog W = .ok (.string ⟨#[UInt8.ofNat rs[0].L]⟩) W := fun W h => by
  have := run_convert_bytes_back (P := Tryz.prog) W 158 9 5 ⟨mb + 1, 0, none⟩ 1 [UInt8.ofNat rs[0].L] Tryz.underlying158 Tryz.underlying5 Tryz.underlying9 (fun j hj => by
   obtain rfl : j = 0 := by simpa using hj
   rw [show (Addr.add ⟨mb + 1, 0, none⟩ 0) = ⟨mb + 1, 0, none⟩ from rfl, h]
   simp only [List.getElem_cons_zero, UInt8.toNat_ofNat']
   rw [Nat.mod_eq_of_lt hL0])
  exact this
 go_cut [] (fun wx => ∃ gg c2 w3, Fr [] w2 w3 ∧ w3.ownsRow (mb + 1) 100 3 (.slice (some ⟨gg, 0, none⟩) 1 c2) 1 [.int .u8 0, .string ⟨#[UInt8.ofNat rs[0].L]⟩, .int .i64 0] ∧ wx = w3.setCell ⟨mb, 0, none⟩ (.slice (some ⟨gg, 0, none⟩) 1 c2))
 case first =>
  go_region_law
   ((refine step_append_lies _ (by rfl) _ _ _ (by rfl) (mb + 1) 100 i0 _ 3 32 Tryz.underlying55 hi0 hz0 hz1 hz2 rfl (by omega) (.slice none 0 0) 0 [] (by rfl) (World.ownsRow_nil _ _ _ _) ⟨mb + 2, 0, none⟩ 1 1 [.int .u8 0, .string ⟨#[UInt8.ofNat rs[0].L]⟩, .int .i64 0] (by rfl) (by rfl) (World.news_of_block (cs := #[.int .u8 0, .string ⟨#[UInt8.ofNat rs[0].L]⟩, .int .i64 0]) (t := 100) (fr := (0, 0)) (by have hn := heap_new2 w2 (.cells #[.int .u8 rs[0].L] 5) (.cells #[.int .u8 0, .string ⟨#[UInt8.ofNat rs[0].L]⟩, .int .i64 0] 100); rw [hs2] at hn; exact hn)) (by simp [Value.oneCell']) (by omega) (by unfold maxLen; omega) (by omega) (by simp; omega) (mb + 3) (by simp [hs2]) ?_; intro gg c2 w3 hown3 hgrow3 hat3 hlt3
     have F3 : Fr [] w2 w3 := Fr.of_grown ((((Fr.refl [] w2).alloc _).alloc _).drew) hgrow3 (fun k hk => by simp [Value.ownBlock] at hk)
     have d0 := F3.cell0 c0
     have e0 : w3.frozen? ⟨mb, 0, none⟩ = false := by rw [F3.frozen (by simp) (by omega)]; exact z0
     have HO3 := hide (And.intro hown3 hat3)
     have HF3 := hide F3
     clear F3 hown3 hgrow3 hat3))
  all_goals go_wp2_with fail
  all_goals go_meet
  all_goals exact ⟨gg, c2, w3, zaa HF3, (zaa HO3).1, rfl⟩
 case rest =>
  obtain ⟨gg, c2, w3, hf3, ho3, rfl⟩ := hcut
  have hgB : mb + 1 ≤ gg := (ho3.lt gg rfl).1
  have KM := (Fr.refl [mb] w3).setCell ⟨mb, 0, none⟩ (by simp) (.slice (some ⟨gg, 0, none⟩) 1 c2)
  have HBk := hide (show Blk (w3.setCell ⟨mb, 0, none⟩ (.slice (some ⟨gg, 0, none⟩) 1 c2)) mb 132 (tabF (.slice (some ⟨gg, 0, none⟩) 1 c2) (fun _ => false) (.slice none 0 0) (.slice none 0 0) (.slice none 0 0)) from
   (((zaa HB2).fr0 hf3).setCell 0 _).congr fun i _ => by
    rw [← tabF_L (.slice none 0 0)]
    unfold upd
    by_cases hi : i = 0
    ·rw [if_pos hi, if_pos hi]
    ·rw [if_neg hi, if_neg hi]
     unfold zTab tabF
     rw [if_neg hi, if_neg hi]
     split
     ·rfl
     ·split
      ·rfl
      ·split <;> rfl)
  have HLq := hide (show LAt (w3.setCell ⟨mb, 0, none⟩ (.slice (some ⟨gg, 0, none⟩) 1 c2)) q rs from ((zaa HL2).fr0 hf3).fr KM (by simp; omega))
  have HOw := hide (zas ho3 KM (fun x hx => by simp [Value.ownBlock] at hx; simp; omega))
  have HF4 := hide (show Fr [] w (w3.setCell ⟨mb, 0, none⟩ (.slice (some ⟨gg, 0, none⟩) 1 c2)) from (((zaa HF1).trans0 hf2).trans0 hf3).setCell _ (Or.inr (by have := (zaa HF1).size; simp; omega)) _)
  generalize w3.setCell ⟨mb, 0, none⟩ (.slice (some ⟨gg, 0, none⟩) 1 c2) = w4 at *
  have k0 : w4.cell? ⟨mb, 0, none⟩ = some (.slice (some ⟨gg, 0, none⟩) 1 c2) := (zaa HBk).cell 0 (by omega)
  have hlen := (zaa HLq).len
  have hw4 := (zaa HBk).lt
  clear KM ho3 hf3 hcv c0 z0 c1
  go_wp2_with (first
   | (at_builtin; refine wpList_append_lies _ rfl (.tmp 46) (.tmp 47) 55 rfl (mb + 1) 100 i0 _ 3 32 Tryz.underlying55 hi0 hz0 hz1 hz2 rfl (by omega) (.slice (some ⟨gg, 0, none⟩) 1 c2) 1 [.int .u8 0, .string ⟨#[UInt8.ofNat rs[0].L]⟩, .int .i64 0] rfl (by exact zaa HOw) ⟨q, 0, none⟩ rs.length cap (zbf rs) rfl (ruCells_len' rs) (by exact news_ru (zaa HLq).ru) (fun u hu => by unfold zbf at hu; obtain ⟨r, _, hr⟩ := List.mem_flatMap.1 hu; simp at hr; rcases hr with rfl | rfl | rfl <;> rfl) hpos (by unfold maxLen; omega) (by omega) (by omega) _ rfl ?_; intro g2 c3 w5 hown5 hgrow5 hat5 hlt5; have F5 : Fr [gg] w4 w5 := Fr.of_grown (Fr.refl [gg] w4) hgrow5 (fun k hk => by simp [Value.ownBlock] at hk; simp; omega); have HB5 := hide ((zaa HBk).fr1 F5 (by omega)); have k5 : w5.cell? ⟨mb, 0, none⟩ = some (.slice (some ⟨gg, 0, none⟩) 1 c2) := (zaa HB5).cell 0 (by omega); have z5 := (zaa HB5).free 0; have HO5 := hide (And.intro hown5 hat5); have HL5 := hide ((zaa HLq).fr F5 (by simp; omega)); have HF5 := hide ((zaa HF4).trans1 F5 (Or.inr (by have := (zaa HF1).size; omega))); have hg2B : mb + 1 ≤ g2 := (hown5.lt g2 rfl).1; have KM5 := (Fr.refl [mb] w5).setCell ⟨mb, 0, none⟩ (by simp) (.slice (some ⟨g2, 0, none⟩) (1 + rs.length) c3); have HB6 := hide (show Blk (w5.setCell ⟨mb, 0, none⟩ (.slice (some ⟨g2, 0, none⟩) (1 + rs.length) c3)) mb 132 (tabF (.slice (some ⟨g2, 0, none⟩) (1 + rs.length) c3) (fun _ => false) (.slice none 0 0) (.slice none 0 0) (.slice none 0 0)) from ((zaa HB5).setCell 0 _).congr fun i _ => tabF_L _ _ _ _ _ _ i); have HL6 := hide ((zaa HL5).fr KM5 (by simp; omega)); have HO6 := hide (zas hown5 KM5 (fun x hx => by simp [Value.ownBlock] at hx; simp; omega)); have HF6 := hide ((zaa HF5).trans1 KM5 (Or.inr (by have := (zaa HF1).size; omega))); clear hown5 hgrow5 hat5 hlt5 F5 KM5)
   | (go_at_call 62; refine (r_nulls q cap _ _ (by exact zaa HL6)).mono ?_; rintro e w7 ⟨rfl, hf7⟩; rw [zaa HNE]; have HB7 := hide ((zaa HB6).fr0 hf7); have HL7 := hide ((zaa HL6).fr0 hf7); have HO7 := hide (zbd (zaa HO6) hf7 (by simp)); have HF7 := hide ((zaa HF6).trans0 hf7); clear hf7)
   | (refine zac rfl 105 (.tmp 55) (.tmp 53) rfl mb 1 128 132 (tabF (.slice (some ⟨g2, 0, none⟩) (1 + rs.length) c3) (fun _ => false) (.slice none 0 0) (.slice none 0 0) (.slice none 0 0)) (sF (zan rs)) rfl rfl (by exact zaa HB7) Tryz.sizeSet (by omega) (by intro i hi; rfl) ?_; intro w8 hf8 hs8 hB8; have HB8 := hide (hB8.congr (g := tabF (.slice (some ⟨g2, 0, none⟩) (1 + rs.length) c3) (zan rs) (.slice none 0 0) (.slice none 0 0) (.slice none 0 0)) fun i _ => tabF_N _ _ _ _ _ _ i); have HL8 := hide ((zaa HL7).fr hf8 (by simp; omega)); have HO8 := hide (zas (zaa HO7) hf8 (fun x hx => by simp [Value.ownBlock] at hx; simp; omega)); have HF8 := hide ((zaa HF7).trans1 hf8 (Or.inr (by have := (zaa HF1).size; omega))); clear hf8 hs8 hB8)
   | (go_at_call 65; refine (r_firstsO q cap mb 1 rs (zan rs) _ (by exact zaa HL8) (by exact NAt.of_blk (zaa HB8) (by omega) (fun i hi => by unfold tabF; rw [if_neg (by omega), if_pos (by omega), show 1 + i - 1 = i from by omega]))).mono ?_; rintro e w9 ⟨fb, T, rfl, hf9, hfb, hB9, hT⟩; have HB9 := hide ((zaa HB8).fr0 hf9); have HT9 := hide hB9; have HE := hide hT; have HL9 := hide ((zaa HL8).fr0 hf9); have HO9 := hide (zbd (zaa HO8) hf9 (by simp)); have HF9 := hide ((zaa HF8).trans0 hf9); have k9 : w9.cell? ⟨mb, 129, none⟩ = some (.slice none 0 0) := (zaa HB9).cell 129 (by omega); have z9 := (zaa HB9).free 129; have HFb := hide (show mb < fb ∧ fb < w9.heap.size from ⟨by have h8 := (zaa HB8).lt; omega, hB9.lt⟩); have KM9 := (Fr.refl [mb] w9).setCell ⟨mb, 129, none⟩ (by simp) (.slice (some ⟨fb, 0, none⟩) 26 26); have HBa := hide (show Blk (w9.setCell ⟨mb, 129, none⟩ (.slice (some ⟨fb, 0, none⟩) 26 26)) mb 132 (tabF (.slice (some ⟨g2, 0, none⟩) (1 + rs.length) c3) (zan rs) (.slice (some ⟨fb, 0, none⟩) 26 26) (.slice none 0 0) (.slice none 0 0)) from ((zaa HB9).setCell 129 _).congr fun i _ => tabF_F _ _ _ _ _ _ i); have HTa := hide (hB9.fr1 KM9 (by have h8 := (zaa HB8).lt; omega)); have HOa := hide (zas (zaa HO9) KM9 (fun x hx => by simp [Value.ownBlock] at hx; simp; omega)); have HFa := hide ((zaa HF9).trans1 KM9 (Or.inr (by have := (zaa HF1).size; omega))); have nW : (w9.setCell ⟨mb, 129, none⟩ (.slice (some ⟨fb, 0, none⟩) 26 26)).heap.size = w9.heap.size := (by simp); clear hf9 hB9 hT hfb KM9))
  refine (r_full w9.heap.size mb g2 c3 fb (⟨0, ⟨#[UInt8.ofNat rs[0].L]⟩, 0⟩ :: rs) (zan rs) T (.slice (some ⟨w9.heap.size, 0, none⟩) 1 1) [⟨0, 0, 36⟩] _ (by exact tb_of ((zaa HBa).alloc _) ((zaa HOa).alloc _) ((zaa HTa).alloc _) (by show 1 ≤ 4; omega) (zaa HL0) (zaa HGood) hlen) (by exact row_one _ ⟨0, 0, 36⟩ _ nW) (by simp) (by have := (zaa HBa).lt; omega) (by have := ((zaa HOa).lt g2 rfl).2; omega) (zaa HFb).2 (by exact fun c x hx h => iterF_small _ _ _ c x ((zaa HE c x hx).symm.trans h)) (by exact List.pairwise_singleton _ _) (by intro y hy; obtain rfl := List.mem_singleton.1 hy; exact ⟨by simp, Nat.zero_le _, Or.inl rfl⟩)).mono ?_
  rintro e wf ⟨vf, Lf, rfl, hfo, hfs⟩
  have HFO := hide hfo
  have HFS := hide hfs
  clear hfo hfs
  have hmem : (⟨0, 0, 36⟩ : It) ∈ Lf := (zaa HFO).lp.sub _ (List.mem_singleton.2 rfl)
  obtain ⟨gf, cf, rfl⟩ : ∃ gf cf, vf = .slice (some ⟨gf, 0, none⟩) Lf.length cf := by
   rcases (zaa HFS).row.2 with ⟨_, h0⟩ | ⟨g, c, cur, e, _⟩
   ·rw [List.length_eq_zero_iff.1 h0] at hmem; cases hmem
   ·exact ⟨g, c, e⟩
  have HLen := hide ((zaa HFO).lp.len (by simp; omega) (zaa HFS).tb.small)
  obtain ⟨hit, hgb, hgl, _⟩ := IRow.at (zaa HFS).row
  have HIt := hide hit
  have hmw : mb < w9.heap.size := (zaa HFS).hm
  have HS0 := hide (show SAt wf w9.heap.size mb (.slice none 0 0) [] from
   ⟨by rw [(zaa HFS).below.cell (p := ⟨mb, 130, none⟩) hmw]; exact ((zaa HBa).alloc _).cell 130 (by omega), by rw [(zaa HFS).below.frozen (p := ⟨mb, 130, none⟩) hmw]; exact ((zaa HBa).alloc _).free 130, World.ownsRow_nil _ _ _ _, (fun s hs => by cases hs), hmw, by simp⟩)
  clear hit hmem
  go_wp2_with (go_at_call 116; refine (r_number w9.heap.size mb (.slice none 0 0) [] gf cf Lf _ (by exact zaa HS0) (by exact zaa HIt) hgl (by simp [Value.ownBlock]) (by omega) (Nat.le_trans (zaa HLen) (by omega)) (by exact (zaa HFS).hB) (by simp)).mono ?_; rintro e wn ⟨_, hnone⟩; obtain ⟨rfl, vS, w1', hsa, hf1', rfl, hown⟩ := hnone rfl; have HSA := hide hsa; have HFn := hide hf1'; clear hnone hsa hf1')
  have hg2B : mb + 1 ≤ g2 := by assumption
  have HRf := hide (show RtS w wf mb g2 c3 fb w9.heap.size (⟨0, ⟨#[UInt8.ofNat rs[0].L]⟩, 0⟩ :: rs) (zan rs) T (.slice none 0 0) [] (.slice none 0 0) [] (.slice none 0 0) [] from
   { fr := Fr.trans_below ((zaa HFa).alloc _) (zaa HFS).below (by have := (zaa HF1).size; omega)
     tb := (zaa HFS).tb
     sa := zaa HS0
     mt := ⟨by rw [(zaa HFS).below.cell (p := ⟨mb, 131, none⟩) hmw]; exact ((zaa HBa).alloc _).cell 131 (by omega), by rw [(zaa HFS).below.frozen (p := ⟨mb, 131, none⟩) hmw]; exact ((zaa HBa).alloc _).free 131, World.ownsRow_nil _ _ _ _, (fun x hx => by cases hx), hmw, by simp⟩
     row := World.ownsRow_nil _ _ _ _
     hq := (zaa HFS).hq
     hf := (zaa HFS).hf
     nq := by omega
     nf := by have := (zaa HFb).1; omega
     bs := (zaa HFS).hB
     lb := by have := (zaa HF1).size; omega
     dST := fun _ e => by cases e
     dSm := fun _ e => by cases e
     dSv := fun _ e => by cases e
     dTi := fun _ e => by cases e
     dvi := fun _ e => by cases e
     dvT := fun _ e => by cases e
     dvm := fun _ e => by cases e
     ok := (fun _ e => by cases e)
     cp := by have := own_cap (zaa HOa); rw [List.length_cons]; omega })
  have HR0 := hide ((zaa HRf).new (by exact zaa HFn) (by exact zaa HSA) hown (by simp [Value.ownBlock]) (by simp [Value.ownBlock]) (zaa HFO).lp.ok)
  have HST := hide (startM_eq (zaa HFO))
  have HFx := hide (zaa HE)
  have HRS2 := hide (zaa HRS)
  generalize w1'.setCell ⟨mb, 130, none⟩ vS = wn at *
  clear HRf HSA HFn HFO HFS HIt HS0 HLen HBa HTa HOa HFa HB9 HT9 HL9 HO9 HF9 HB8 HL8 HO8 HF8 HB7 HL7 HO7 HF7 HB6 HL6 HO6 HF6 HB5 HO5 HL5 HF5 HBk HLq HOw HF4 HB2 HL2 HL1
  clear k9 z9 k5 z5 k0
  have HTs := hide (show ∀ c x, x < 128 → T c x = true → zai x = true from fun c x hx h => iterF_small _ _ _ c x ((zaa HFx c x hx).symm.trans h))
  have HFT := hide (show ∀ c x, x < 128 → T c x = zau rs c x from zaa HFx)
  clear HFx HE
  obtain ⟨Bs, hBs⟩ : ∃ Bs, w9.heap.size = Bs := ⟨_, rfl⟩
  rw [hBs] at HR0
  have HA0 := hide (show AllS w wn mb g2 c3 fb Bs (⟨0, ⟨#[UInt8.ofNat rs[0].L]⟩, 0⟩ :: rs) (zan rs) T 0 vS [⟨gf, cf, Lf⟩] (.slice none 0 0) [] from ⟨zaa HR0, Nat.zero_le _, by simp, by simp, rfl, by rw [zaa HST]; rfl⟩)
  clear HR0 HST
  clear hBs hown hgl hgb hmw hw4 hgB hg2B HFb HF1 HNE HGood HL0 HRS hL0 H0 hok hz0 hz1 hz2 hi0
  go_loopw [9] (fun iv wr => ∃ (i : Nat) (vS : Value) (ls : List Sl) (vT : Value) (ms : List MSl), iv = .int .i64 i ∧ i ≤ ls.length ∧ ls.length ≤ 40 ∧ Hid (AllS w wr mb g2 c3 fb Bs (⟨0, ⟨#[UInt8.ofNat rs[0].L]⟩, 0⟩ :: rs) (zan rs) T i vS ls vT ms)) (fun iv _ => 41 - (intOf iv).toNat)
  case atStart => exact ⟨0, vS, _, _, _, rfl, by simp, by simp, HA0⟩
  case round =>
   obtain ⟨i, vS, ls, vT, ms, rfl, hi, h40, hA⟩ := hrel
   obtain ⟨gS, cS, hvS⟩ := zcb (zaa hA).rt.sa.own (zaa hA).pos
   subst hvS
   have c0 := (zaa hA).rt.sa.cell
   clear HA0
   by_cases hlt : i < ls.length
   ·go_wp2
    go_loopw [10, 11] (fun mv kv wr => ∃ (k : Nat) (vS' : Value) (ls' : List Sl) (m : List (Nat × Nat)), k ≤ 58 ∧ kv = .int .i64 ((65 + k : Nat) : Int) ∧ ls'.length ≤ 40 ∧ Hid (RowS w wr mb g2 c3 fb Bs (⟨0, ⟨#[UInt8.ofNat rs[0].L]⟩, 0⟩ :: rs) (zan rs) T ls[i].l ls vT ms k vS' ls' mv m)) (fun _ kv _ => 123 - (intOf kv).toNat)
    case atStart => exact ⟨0, _, ls, [], by omega, rfl, h40, hide ((zaa hA).row _)⟩
    case round =>
     obtain ⟨k, vS', ls', m, hk, rfl, h40', hR⟩ := hrel
     have hext : ls.length ≤ ls'.length := by obtain ⟨e, he⟩ := (zaa hR).ext; rw [he]; simp
     clear c0
     by_cases hkt : k < 58
     ·obtain ⟨gS', cS', hvS'⟩ := zcb (zaa hR).rt.sa.own (by omega)
      subst hvS'
      have hi' : i < ls'.length := by omega
      have d0 := (zaa hR).rt.sa.cell
      have d1 := slV_get (zaa hR).rt.sa.own i hi'
      have hget : ls'[i] = ls[i] := by
       obtain ⟨e, he⟩ := (zaa hR).ext
       subst he
       exact List.getElem_append_left hlt
      rw [hget] at d1
      unfold slV at d1
      obtain ⟨m1, m2, m3, m4, m5⟩ := (zaa hR).rt.sa.its ls[i] (by rw [← hget]; exact List.getElem_mem hi')
      have HI := hide m1
      have HOk := hide ((zaa hR).rt.ok ls[i] (by rw [← hget]; exact List.getElem_mem hi'))
      clear m1 hget m4 m5
      go_wp2_with fail
      have hml := (zaa hR).ml
      have hst := r_step mb g2 c3 fb ls[i].g ls[i].c (65 + k) _ (zan rs) T ls[i].l wr (zaa hR).rt.tb (zaa HI) m2 (zaa HTs) (zaa HOk) m3
      rw [show ((65 + k : Nat) : Int) = 65 + (k : Int) from by omega] at hst
      refine hst.mono ?_
      clear hst
      rintro e w2 ⟨v2, K, F, rfl, hK, hF, hfs⟩
      have HFr := hide (show Fr [] wr w2 from Fr.trans_below (Fr.refl [] wr) hfs.below (Nat.le_refl _))
      have HK := hide hK
      have HF := hide hF
      have HRow := hide hfs.row
      have hF9 : F.length ≤ 10000 := Nat.le_trans (hF.lp.len (by simp; omega) hfs.tb.small) (by omega)
      clear hK hF hfs d0 d1
      by_cases hF0 : F.length = 0
      ·have hFn : F = [] := List.length_eq_zero_iff.1 hF0
       subst hFn
       have HR2 := hide ((zaa hR).skip (zaa HFr) (zaa HK) (zaa HF))
       have d2 := (zaa HR2).rt.sa.cell
       clear hF0 hF9
       rcases (zaa HRow).2 with ⟨hv2, _⟩ | ⟨gx, cx, cur, hv2, _⟩
       all_goals
        subst hv2
        clear HRow HK HF
        go_wp2
        go_roundw
        case rel => exact ⟨k + 1, _, ls', m, by omega, by go_num, h40', HR2⟩
        case measure => simp [intOf]; omega
      ·obtain ⟨gx, cx, hv2⟩ : ∃ gx cx, v2 = .slice (some ⟨gx, 0, none⟩) F.length cx := by
        rcases (zaa HRow).2 with ⟨_, h0⟩ | ⟨g, c, cur, e, _⟩
        ·exact absurd h0 hF0
        ·exact ⟨g, c, e⟩
       subst hv2
       obtain ⟨hit, hgb, hgl, _⟩ := IRow.at (zaa HRow)
       have HIt := hide hit
       have HR2 := hide ((zaa hR).rt.fr0 (zaa HFr))
       have hgS : (.slice (some ⟨gS', 0, none⟩) ls'.length cS' : Value).ownBlock ≠ some gx := fun e => by have := ((zaa hR).rt.sa.own.lt gx e).2; omega
       have hgT : vT.ownBlock ≠ some gx := fun e => by have := ((zaa hR).rt.mt.own.lt gx e).2; omega
       have hgv : u10.ownBlock ≠ some gx := fun e => by have := ((zaa hR).rt.row.lt gx e).2; omega
       have hgm : gx ≠ mb := by have := (zaa hR).rt.sa.base; have := (zaa hR).rt.bs; omega
       have HgS := hide hgS
       have HgT := hide hgT
       have Hgv := hide hgv
       have Hgm := hide hgm
       have hFp : 0 < F.length := by omega
       clear hit hgb hgS hgT hgv hgm
       go_wp2_with fail
       refine (r_number Bs mb _ ls' gx cx F _ (by exact (zaa HR2).sa) (by exact zaa HIt) hgl (zaa HgS) (zaa Hgm) hF9 (by exact (zaa HR2).bs) (by omega)).mono ?_
       rintro e w3 ⟨hso, hno⟩
       cases hn : numI ls' F with
       | some j =>
        obtain ⟨rfl, hf3⟩ := hso j hn
        have HR3 := hide ((zaa HR2).fr0 hf3)
        have HN := hide hn
        clear hso hno hf3 hn
        go_wp2_with (at_builtin; refine wpList_append_lies _ rfl (.tmp 102) (.tmp 106) 183 rfl Bs 186 i1 _ 2 16 Tryz.underlying183 hi1 hy0 hy1 hy2 rfl (by omega) u10 m.length (zcq m) rfl (by exact (zaa HR3).row.alloc _) _ 1 1 [.int .u8 ((65 + k : Nat) : Int), .int .i64 (j : Nat)] rfl rfl (World.news_of_block (cs := #[.int .u8 ((65 + k : Nat) : Int), .int .i64 (j : Nat)]) (t := 186) (fr := (0, 0)) (heap_alloc_new _ _)) (by simp [Value.oneCell']) (by omega) (by unfold maxLen; omega) (by omega) (by have := (zaa HR3).bs; simp; omega) _ rfl ?_; intro g4 c4 w4 hown4 hgrow4 hat4 hlt4; have HR4 := hide ((zaa HR3).push hgrow4 hown4 (hat4.imp id (fun h => by have h' := h; first | (simp at h'; omega) | omega))); have d4 := (zaa HR4).sa.cell; clear hown4 hgrow4 hat4 hlt4)
        go_roundw
        case rel => exact ⟨k + 1, _, ls', _, by omega, by go_num, h40', hide ((zaa hR).old (zaa HK) (zaa HF) hF0 h40' (zaa HN) (zaa HR4))⟩
        case measure => simp [intOf]; omega
       | none =>
        obtain ⟨rfl, vS2, w1, hsa, hf1, rfl, hown⟩ := hno hn
        have HR3 := hide ((zaa HR2).new hf1 hsa hown (zaa HgT) (zaa Hgv) (zaa HF).lp.ok)
        have HN := hide hn
        clear hso hno hf1 hn hsa hown
        generalize w1.setCell ⟨mb, 130, none⟩ vS2 = w3 at *
        obtain ⟨g5, c5, hv5⟩ := zcb (zaa HR3).sa.own (by simp)
        subst hv5
        obtain ⟨ls2, hls2⟩ : ∃ ls2, ls' ++ [⟨gx, cx, F⟩] = ls2 := ⟨_, rfl⟩
        rw [hls2] at HR3
        have HL2 := hide hls2
        have hL2 := congrArg List.length hls2
        simp at hL2
        clear hls2
        by_cases h41 : ls'.length = 40
        ·have hgt : 40 < ls2.length := by omega
         have HMany := hide ((zaa hA).many hlt ((zaa hR).many (zaa HK) (zaa HF) hF0 (by omega) (zaa HN) hkt))
         clear hL2 h41
         go_wp2_with (at_builtin; refine wpList_append_lies _ rfl (.tmp 102) (.tmp 106) 183 rfl Bs 186 i1 _ 2 16 Tryz.underlying183 hi1 hy0 hy1 hy2 rfl (by omega) u10 m.length (zcq m) rfl (by exact (zaa HR3).row.alloc _) _ 1 1 [.int .u8 ((65 + k : Nat) : Int), .int .i64 (ls'.length : Nat)] rfl rfl (World.news_of_block (cs := #[.int .u8 ((65 + k : Nat) : Int), .int .i64 (ls'.length : Nat)]) (t := 186) (fr := (0, 0)) (heap_alloc_new _ _)) (by simp [Value.oneCell']) (by omega) (by unfold maxLen; omega) (by omega) (by have := (zaa HR3).bs; simp; omega) _ rfl ?_; intro g4 c4 w4 hown4 hgrow4 hat4 hlt4; have HR4 := hide ((zaa HR3).push hgrow4 hown4 (hat4.imp id (fun h => by have h' := h; first | (simp at h'; omega) | omega))); have d4 := (zaa HR4).sa.cell; clear hown4 hgrow4 hat4 hlt4)
         go_ret2
         exact rtab_none (zaa HR4).fr (zaa HRS2) hpos (zaa HFT) (zaa HMany)
        ·have hle2 : ls2.length ≤ 40 := by omega
         have hls1 : ls'.length + 1 ≤ 40 := by omega
         clear hL2
         go_wp2_with (at_builtin; refine wpList_append_lies _ rfl (.tmp 102) (.tmp 106) 183 rfl Bs 186 i1 _ 2 16 Tryz.underlying183 hi1 hy0 hy1 hy2 rfl (by omega) u10 m.length (zcq m) rfl (by exact (zaa HR3).row.alloc _) _ 1 1 [.int .u8 ((65 + k : Nat) : Int), .int .i64 (ls'.length : Nat)] rfl rfl (World.news_of_block (cs := #[.int .u8 ((65 + k : Nat) : Int), .int .i64 (ls'.length : Nat)]) (t := 186) (fr := (0, 0)) (heap_alloc_new _ _)) (by simp [Value.oneCell']) (by omega) (by unfold maxLen; omega) (by omega) (by have := (zaa HR3).bs; simp; omega) _ rfl ?_; intro g4 c4 w4 hown4 hgrow4 hat4 hlt4; have HR4 := hide ((zaa HR3).push hgrow4 hown4 (hat4.imp id (fun h => by have h' := h; first | (simp at h'; omega) | omega))); have d4 := (zaa HR4).sa.cell; clear hown4 hgrow4 hat4 hlt4)
         go_roundw
         case rel =>
          have h4 := zaa HR4
          rw [← zaa HL2] at h4
          have h5 := (zaa hR).new (zaa HK) (zaa HF) hF0 hls1 (zaa HN) h4
          rw [zaa HL2] at h5
          exact ⟨k + 1, _, ls2, _, by omega, by go_num, hle2, hide h5⟩
         case measure => simp [intOf]; omega
     ·have hk58 : k = 58 := by omega
      subst hk58
      have t0 := (zaa hR).rt.mt.cell
      have t1 := (zaa hR).rt.mt.free
      have hmB := (zaa hR).rt.mt.base
      have hml := (zaa hR).ml
      have hms : ms.length ≤ 40 := by have := (zaa hA).len; omega
      obtain ⟨ao, cm, hm10⟩ := own_slice (zaa hR).rt.row
      subst hm10
      clear hk hkt
      go_wp2_with (at_builtin; refine wpList_append_lies _ rfl (.tmp 118) (.tmp 120) 128 rfl Bs 183 i2 _ 1 24 Tryz.underlying128 hi2 hx0 hx1 hx2 rfl (by omega) vT ms.length (ms.map (·.v)) rfl (by exact (zaa hR).rt.mt.own.alloc _) _ 1 1 [.slice ao m.length cm] rfl rfl (World.news_of_block (cs := #[.slice ao m.length cm]) (t := 183) (fr := (0, 0)) (heap_alloc_new _ _)) (by simp [Value.oneCell']) (by omega) (by unfold maxLen; omega) (by omega) (by have := (zaa hR).rt.bs; simp; omega) _ rfl ?_; intro g4 c4 w4 hown4 hgrow4 hat4 hlt4; have k4 := grown_fr hgrow4; have hnm : mb ∉ vT.ownBlock.toList := (fun hm => by have := ((zaa hR).rt.mt.own.lt mb (by simpa using hm)).1; omega); have d4 := k4.cell t0 hnm; have z4 := (k4.frozen (o := 131) hnm (World.block_lt_of_cell? wr ⟨mb, 131, none⟩ t0)).trans t1; have HR4 := hide ((zaa hR).rt.lay hgrow4 hown4 (hat4.imp id (fun h => by have h' := h; first | (simp at h'; omega) | omega)) (by omega) (by omega)); clear hown4 hgrow4 hat4 hlt4 k4 hnm)
      go_roundw
      case rel =>
       have hA2 := (zaa hA).next hlt (zaa hR) h40' (zaa HR4)
       exact ⟨i + 1, _, ls', _, _, by go_num, hA2.le, h40', hide hA2⟩
      case measure => simp [intOf]; omega
   ·go_wp2
    go_ret2
    exact rtab_some (zaa HRS2) hpos (zaa HFT) (zaa hA) hlt
end Go.Proofs.YtkglggkkbmmjkabGreatDoor
namespace Go.Proofs.YtkglggkkbmmjkabGreatDoor
open Go.RowKit
structure RtV (w w' : World) (L : List Ru) (N : Nat → Bool) (r : Tb) (mb q cq fq Bs : Nat) (T : Nat → Nat → Bool) (gS cS : Nat) (ls : List Sl) (gT cT : Nat) (ms : List MSl) : Prop where
 rt : RtS w w' mb q cq fq Bs L N T (.slice (some ⟨gS, 0, none⟩) ls.length cS) ls (.slice (some ⟨gT, 0, none⟩) ms.length cT) ms (.slice none 0 0) []
 sts : ls.map (·.l) = r.1
 mvs : ms.map (·.m) = r.2
 len : ms.length = ls.length
 pos : 0 < ls.length
 l40 : ls.length ≤ 40
def RTabV (t : ByteArray) (w : World) (e : Ending) (w' : World) : Prop :=
 Fr [] w w' ∧ (∀ x, tabR t = .inl x → e = .returned (.tuple #[.pointer none, .int .i64 (x : Nat)]) ∧ x ≠ 0) ∧
 ∀ r, tabR t = .inr r → ∃ mb q cq fq Bs T gS cS ls gT cT ms, e = .returned (.tuple #[.pointer (some ⟨mb, 0, none⟩), .int .i64 0]) ∧ RtV w w' (rul (zad t 8 0 []).1) (zan (zad t 8 0 []).1) r mb q cq fq Bs T gS cS ls gT cT ms
theorem stOf_get {rs : List Ru} (h : 0 < rs.length) : stOf rs = (rget rs 0).L := by
 cases rs with
 | nil => exact absurd h (by simp)
 | cons r rs => rfl
theorem za7 (t : ByteArray) (w : World) (ht : t.size ≤ 9223372036854775807) :
 Calls Tryz.prog 72 #[.string t] w fun e w' => RTabV t w e w' := by
 by_cases h0 : (rErr t).1 = 0
 ·refine (r_table_good t w ht h0).mono ?_
  rintro e w' ⟨hf, rs, r0, T, rfl, hpos, rfl, hT, h1, h2⟩
  have hg : (gErr t).1 = 0 := by rw [gErr_eq]; exact h0
  have hr : (⟨0, ⟨#[UInt8.ofNat (rget (zad t 8 0 []).1 0).L]⟩, 0⟩ : Ru) :: (zad t 8 0 []).1 = rul (zad t 8 0 []).1 := by
   unfold rul rul0; rw [stOf_get hpos]
  rw [hr, tabM_congr hT, startM_congr hT] at h1 h2
  refine ⟨hf, fun x hx => ?_, fun r hx => ?_⟩
  ·cases hm : tabM (rul (zad t 8 0 []).1) (zan (zad t 8 0 []).1) (zau (zad t 8 0 []).1) 41 0 [zby (rul (zad t 8 0 []).1) (zan (zad t 8 0 []).1) (zau (zad t 8 0 []).1)] [] with
   | none =>
    rw [tabR_many hg hm] at hx
    cases hx
    exact ⟨h1 hm, by omega⟩
   | some r => rw [tabR_some hg hm] at hx; cases hx
  ·cases hm : tabM (rul (zad t 8 0 []).1) (zan (zad t 8 0 []).1) (zau (zad t 8 0 []).1) 41 0 [zby (rul (zad t 8 0 []).1) (zan (zad t 8 0 []).1) (zau (zad t 8 0 []).1)] [] with
   | none => rw [tabR_many hg hm] at hx; cases hx
   | some r' =>
    rw [tabR_some hg hm] at hx
    cases hx
    obtain ⟨mb, q, cq, fq, Bs, vS, ls, vT, ms, he, hrt, e1, e2, e3, e4, e5⟩ := h2 _ _ hm
    obtain ⟨gS, cS, rfl⟩ := zcb hrt.sa.own e4
    obtain ⟨gT, cT, rfl⟩ := zcb hrt.mt.own (by omega)
    exact ⟨mb, q, cq, fq, Bs, T, gS, cS, ls, gT, cT, ms, he, hrt, e1, e2, e3, e4, e5⟩
 ·refine (r_table_bad t w ht h0).mono ?_
  rintro e w' ⟨rfl, hf⟩
  have hg : (gErr t).1 ≠ 0 := by rw [gErr_eq]; exact h0
  refine ⟨hf, fun x hx => ?_, fun r hx => ?_⟩
  ·rw [tabR_bad hg] at hx
   cases hx
   rw [gErr_eq]; exact ⟨rfl, h0⟩
  ·rw [tabR_bad hg] at hx; cases hx
set_option maxRecDepth 100000 in
set_option maxHeartbeats 1000000 in
theorem r_StatesV (t : ByteArray) (w : World) (ht : t.size ≤ 9223372036854775807) :
 Calls Tryz.prog 25 #[.string t] w fun e w' => e = .returned (.tuple #[.int .i64 ((stV (tabR t)).1 : Nat), .int .i64 ((stV (tabR t)).2 : Nat)]) ∧ Fr [] w w' := by
 cases htab : tabR t with
 | inl x =>
  have HT := hide htab
  clear htab
  go_enter Tryz.func25, Tryz.ntmps25
  go_wp2_with (go_at_call 72; refine (za7 t w ht).mono ?_; rintro e w1 ⟨hf, h1, _⟩; obtain ⟨rfl, hx⟩ := h1 x (zaa HT); have hxb : ((x : Int) != 0) = true := (by rw [bne_iff_ne]; omega); have HF := hide hf; clear hf h1)
  go_ret2
  exact ⟨rfl, zaa HF⟩
 | inr r =>
  have HT := hide htab
  clear htab
  go_enter Tryz.func25, Tryz.ntmps25
  go_wp2_with (go_at_call 72; refine (za7 t w ht).mono ?_; rintro e w1 ⟨hf, _, h2⟩; obtain ⟨mb, q, cq, fq, Bs, T, gS, cS, ls, gT, cT, ms, rfl, hv⟩ := h2 r (zaa HT); have HV := hide hv; have c0 := hv.rt.sa.cell; have HF := hide hf; clear hf h2 hv)
  go_ret2
  exact ⟨by show _ = Ending.returned (.tuple #[.int .i64 (r.1.length : Nat), .int .i64 ((0 : Nat) : Int)]); rw [← (zaa HV).sts, List.length_map]; rfl, zaa HF⟩
theorem getD_m (ms : List MSl) (k : Nat) (h : k < ms.length) : (ms.map (·.m)).getD k [] = ms[k].m := by
 rw [List.getD_eq_getElem?_getD, List.getElem?_map, List.getElem?_eq_getElem h]; rfl
theorem getD_l (ls : List Sl) (k : Nat) (h : k < ls.length) : (ls.map (·.l)).getD k [] = ls[k].l := by
 rw [List.getD_eq_getElem?_getD, List.getElem?_map, List.getElem?_eq_getElem h]; rfl
theorem stepV_out {n : Int} {s : ByteArray} {r : Tb} (h : ¬ (0 ≤ n ∧ n < r.1.length)) : stepV n s (.inr r) = (0, 7) := by unfold stepV; dsimp only; rw [if_neg h]
theorem stepV_bad {n : Int} {s : ByteArray} {r : Tb} (h : 0 ≤ n ∧ n < r.1.length) (hs : ltrW s = false) : stepV n s (.inr r) = (0, 5) := by unfold stepV; dsimp only; rw [if_pos h, if_pos hs]
theorem stepV_ok {n : Int} {s : ByteArray} {r : Tb} (h : 0 ≤ n ∧ n < r.1.length) (hs : ltrW s = true) : stepV n s (.inr r) = (toM (r.2.getD n.toNat []) (ch s 0), 0) := by unfold stepV; dsimp only; rw [if_pos h, if_neg (by rw [hs]; simp)]
set_option maxRecDepth 100000 in
set_option maxHeartbeats 2000000 in
theorem r_StepV (t : ByteArray) (n : Int) (s : ByteArray) (w : World) (ht : t.size ≤ 9223372036854775807) :
 Calls Tryz.prog 27 #[.string t, .int .i64 n, .string s] w fun e w' => e = .returned (.tuple #[.int .i64 (stepV n s (tabR t)).1, .int .i64 ((stepV n s (tabR t)).2 : Nat)]) ∧ Fr [] w w' := by
 cases htab : tabR t with
 | inl x =>
  have HT := hide htab
  clear htab
  go_enter Tryz.func27, Tryz.ntmps27
  go_wp2_with (go_at_call 72; refine (za7 t w ht).mono ?_; rintro e w1 ⟨hf, h1, _⟩; obtain ⟨rfl, hx⟩ := h1 x (zaa HT); have hxb : ((x : Int) != 0) = true := (by rw [bne_iff_ne]; omega); have HF := hide hf; clear hf h1)
  go_ret2
  exact ⟨rfl, zaa HF⟩
 | inr r =>
  have HT := hide htab
  clear htab
  by_cases hin : 0 ≤ n ∧ n < r.1.length
  ·by_cases h1 : s.size = 1
   ·have hc0 : ((s[0]'(by omega)).toNat : Int) = ((ch s 0 : Nat) : Int) := by rw [za8 s 0 (by omega)]
    have h1i : ((s.size : Int) != 1) = false := by rw [bne_eq_false_iff_eq]; omega
    obtain ⟨c, hc⟩ : ∃ c, ch s 0 = c := ⟨_, rfl⟩
    have hw : ltrW s = letB c := by unfold ltrW; rw [hc]; simp [h1]
    rw [hc] at hc0
    have HCC := hide hc
    clear hc
    obtain ⟨k, rfl⟩ : ∃ k : Nat, n = k := ⟨n.toNat, by omega⟩
    have hk : k < r.1.length := by omega
    have HK := hide hk
    cases hl : letB c
    ·have HA := hide (stepV_bad hin (hw.trans hl))
     have hbb : bigB c = false := by unfold letB at hl; rw [Bool.or_eq_false_iff] at hl; exact hl.1
     have hss : zai c = false := by unfold letB at hl; rw [Bool.or_eq_false_iff] at hl; exact hl.2
     clear hin hk hw hl
     go_enter Tryz.func27, Tryz.ntmps27
     go_wp2_with (first
      | (go_at_call 72; refine (za7 t w ht).mono ?_; rintro e w1 ⟨hf, _, h2⟩; obtain ⟨mb, q, cq, fq, Bs, T, gS, cS, ls, gT, cT, ms, rfl, hv⟩ := h2 r (zaa HT); have HV := hide hv; have hlt : k < ls.length := (by have := zaa HK; rw [← hv.sts, List.length_map] at this; exact this); have c0 := hv.rt.sa.cell; have HF := hide hf; clear hf h2 hv)
      | (go_at_call 56; refine (zav _ false _ hbb).mono ?_; rintro e w' ⟨rfl, hw'⟩; rw [hw'])
      | (go_at_call 46; refine (zaq _ false _ hss).mono ?_; rintro e w' ⟨rfl, hw'⟩; rw [hw']))
     go_ret2
     exact ⟨by rw [zaa HA]; rfl, zaa HF⟩
    ·have HA := hide (stepV_ok hin (hw.trans hl))
     clear hin hk hw
     cases hbb : bigB c <;> cases hss : zai c
     ·unfold letB at hl; rw [hbb, hss] at hl; cases hl
     all_goals
      go_enter Tryz.func27, Tryz.ntmps27
      go_wp2_with (first
       | (go_at_call 72; refine (za7 t w ht).mono ?_; rintro e w1 ⟨hf, _, h2⟩; obtain ⟨mb, q, cq, fq, Bs, T, gS, cS, ls, gT, cT, ms, rfl, hv⟩ := h2 r (zaa HT); have HV := hide hv; have hlt : k < ls.length := (by have := zaa HK; rw [← hv.sts, List.length_map] at this; exact this); have c0 := hv.rt.sa.cell; have HF := hide hf; clear hf h2 hv)
       | (go_at_call 56; refine (zav _ _ _ hbb).mono ?_; rintro e w' ⟨rfl, hw'⟩; rw [hw'])
       | (go_at_call 46; refine (zaq _ _ _ hss).mono ?_; rintro e w' ⟨rfl, hw'⟩; rw [hw'])
       | (go_at_call 76; refine (r_to Bs mb gT cT ms k c _ (zaa HV).rt.mt (by rw [(zaa HV).len]; exact hlt)).mono ?_; rintro e w' ⟨rfl, hw'⟩; rw [hw']))
      go_ret2
      exact ⟨by rw [zaa HA, ← (zaa HV).mvs, zaa HCC, getD_m _ _ (by rw [(zaa HV).len]; exact hlt)]; rfl, zaa HF⟩
   ·have h1i : ((s.size : Int) != 1) = true := by rw [bne_iff_ne]; omega
    have HA := hide (stepV_bad (s := s) hin (by unfold ltrW; rw [show decide (s.size = 1) = false from by simpa using h1]; rfl))
    obtain ⟨k, rfl⟩ : ∃ k : Nat, n = k := ⟨n.toNat, by omega⟩
    have HK := hide (show k < r.1.length by omega)
    clear h1 hin
    go_enter Tryz.func27, Tryz.ntmps27
    go_wp2_with (first
     | (go_at_call 72; refine (za7 t w ht).mono ?_; rintro e w1 ⟨hf, _, h2⟩; obtain ⟨mb, q, cq, fq, Bs, T, gS, cS, ls, gT, cT, ms, rfl, hv⟩ := h2 r (zaa HT); have HV := hide hv; have hlt : k < ls.length := (by have := zaa HK; rw [← hv.sts, List.length_map] at this; exact this); have c0 := hv.rt.sa.cell; have HF := hide hf; clear hf h2 hv))
    go_ret2
    exact ⟨by rw [zaa HA]; rfl, zaa HF⟩
  ·have HA := hide (stepV_out (s := s) hin)
   have HIn := hide hin
   clear hin
   by_cases h0 : n < 0
   ·go_enter Tryz.func27, Tryz.ntmps27
    go_wp2_with (first
     | (go_at_call 72; refine (za7 t w ht).mono ?_; rintro e w1 ⟨hf, _, h2⟩; obtain ⟨mb, q, cq, fq, Bs, T, gS, cS, ls, gT, cT, ms, rfl, hv⟩ := h2 r (zaa HT); have HV := hide hv; have c0 := hv.rt.sa.cell; have HF := hide hf; clear hf h2 hv))
    go_ret2
    exact ⟨by rw [zaa HA]; rfl, zaa HF⟩
   ·go_enter Tryz.func27, Tryz.ntmps27
    go_wp2_with (first
     | (go_at_call 72; refine (za7 t w ht).mono ?_; rintro e w1 ⟨hf, _, h2⟩; obtain ⟨mb, q, cq, fq, Bs, T, gS, cS, ls, gT, cT, ms, rfl, hv⟩ := h2 r (zaa HT); have HV := hide hv; have hge : (ls.length : Int) ≤ n := (by have h := zaa HIn; rw [← hv.sts, List.length_map] at h; omega); have c0 := hv.rt.sa.cell; have HF := hide hf; clear hf h2 hv))
    go_ret2
    exact ⟨by rw [zaa HA]; rfl, zaa HF⟩
theorem actV_out {L : List Ru} {n : Int} {s : ByteArray} {r : Tb} (h : ¬ (0 ≤ n ∧ n < r.1.length)) : actV L n s (.inr r) = (⟨#[]⟩, 7) := by unfold actV; dsimp only; rw [if_neg h]
theorem actV_bad {L : List Ru} {n : Int} {s : ByteArray} {r : Tb} (h : 0 ≤ n ∧ n < r.1.length) (hs : sgnX s = false) : actV L n s (.inr r) = (⟨#[]⟩, 5) := by unfold actV; dsimp only; rw [if_pos h, if_pos hs]
theorem actV_ok {L : List Ru} {n : Int} {s : ByteArray} {r : Tb} (h : 0 ≤ n ∧ n < r.1.length) (hs : sgnX s = true) : actV L n s (.inr r) = (wordsT (decide (0 ≤ toM (r.2.getD n.toNat []) (ch s 0))) (zbu L (r.1.getD n.toNat []) (ch s 0)), 0) := by unfold actV; dsimp only; rw [if_pos h, if_neg (by rw [hs]; simp)]
theorem canF_first (st : Bool) (ru : Nat → Bool) : canF (false || st) (fun k => false || ru k) = canF st ru := by simp
theorem RtV.fresh {w w' : World} {L : List Ru} {N : Nat → Bool} {r : Tb} {mb q cq fq Bs : Nat} {T : Nat → Nat → Bool} {gS cS : Nat} {ls : List Sl} {gT cT : Nat} {ms : List MSl} (h : RtV w w' L N r mb q cq fq Bs T gS cS ls gT cT ms) {cb : Nat} (hc : w'.heap.size ≤ cb) {s : Nat} (hs : s < ls.length) : cb ≠ mb ∧ cb ≠ q ∧ cb ≠ fq ∧ cb ≠ gS ∧ cb ≠ ls[s].g := by
 have h1 := h.rt.bs
 have h2 := h.rt.sa.base
 have h3 := h.rt.hq
 have h4 := h.rt.hf
 have h5 := (h.rt.sa.own.lt gS rfl).2
 have h6 := (h.rt.sa.its ls[s] (List.getElem_mem hs)).2.1
 exact ⟨by omega, by omega, by omega, by omega, by omega⟩
theorem RtV.fr0 {w w' w2 : World} {L : List Ru} {N : Nat → Bool} {r : Tb} {mb q cq fq Bs : Nat} {T : Nat → Nat → Bool} {gS cS : Nat} {ls : List Sl} {gT cT : Nat} {ms : List MSl} (h : RtV w w' L N r mb q cq fq Bs T gS cS ls gT cT ms) (k : Fr [] w' w2) : RtV w w2 L N r mb q cq fq Bs T gS cS ls gT cT ms := { h with rt := h.rt.fr0 k }
set_option maxRecDepth 100000 in
set_option maxHeartbeats 2000000 in
theorem r_ActsV (t : ByteArray) (n : Int) (s : ByteArray) (w : World) (ht : t.size ≤ 9223372036854775807) :
 Calls Tryz.prog 29 #[.string t, .int .i64 n, .string s] w fun e w' => e = .returned (.tuple #[.string (actV (rul (zad t 8 0 []).1) n s (tabR t)).1, .int .i64 ((actV (rul (zad t 8 0 []).1) n s (tabR t)).2 : Nat)]) ∧ Fr [] w w' := by
 have hsx : sgnW s = sgnX s := rfl
 cases htab : tabR t with
 | inl x =>
  have HT := hide htab
  clear htab
  go_enter Tryz.func29, Tryz.ntmps29
  go_wp2_with (go_at_call 72; refine (za7 t w ht).mono ?_; rintro e w1 ⟨hf, h1, _⟩; obtain ⟨rfl, hx⟩ := h1 x (zaa HT); have hxb : ((x : Int) != 0) = true := (by rw [bne_iff_ne]; omega); have HF := hide hf; clear hf h1)
  go_ret2
  exact ⟨rfl, zaa HF⟩
 | inr r =>
  have HT := hide htab
  clear htab
  by_cases hin : 0 ≤ n ∧ n < r.1.length
  ·obtain ⟨k, rfl⟩ : ∃ k : Nat, n = k := ⟨n.toNat, by omega⟩
   have HK := hide (show k < r.1.length by omega)
   cases hl : sgnX s
   ·have HA := hide (actV_bad (L := rul (zad t 8 0 []).1) hin hl)
    rw [hl] at hsx
    have HSX := hide hsx
    clear hin hl hsx
    go_enter Tryz.func29, Tryz.ntmps29
    go_wp2_with (first
     | (go_at_call 72; refine (za7 t w ht).mono ?_; rintro e w1 ⟨hf, _, h2⟩; obtain ⟨mb, q, cq, fq, Bs, T, gS, cS, ls, gT, cT, ms, rfl, hv⟩ := h2 r (zaa HT); have HV := hide hv; have hlt : k < ls.length := (by have := zaa HK; rw [← hv.sts, List.length_map] at this; exact this); have c0 := hv.rt.sa.cell; have HF := hide hf; clear hf h2 hv)
     | (go_at_call 80; refine (r_isSign s _).mono ?_; rintro e w' ⟨rfl, hw'⟩; rw [hw', zaa HSX]))
    go_ret2
    exact ⟨by rw [zaa HA]; rfl, zaa HF⟩
   ·have HA := hide (actV_ok (L := rul (zad t 8 0 []).1) hin hl)
    have h1 : s.size = 1 := by unfold sgnX at hl; rw [Bool.and_eq_true] at hl; exact of_decide_eq_true hl.1
    have hc0 : ((s[0]'(by omega)).toNat : Int) = ((ch s 0 : Nat) : Int) := by rw [za8 s 0 (by omega)]
    have h1' : (0 : Int) < (s.size : Int) := by omega
    obtain ⟨c, hc⟩ : ∃ c, ch s 0 = c := ⟨_, rfl⟩
    rw [hc] at hc0
    have HCC := hide hc
    rw [hl] at hsx
    have HSX := hide hsx
    clear hin hl hsx hc
    go_enter Tryz.func29, Tryz.ntmps29
    go_wp2_with (first
     | (go_at_call 72; refine (za7 t w ht).mono ?_; rintro e w1 ⟨hf, _, h2⟩; obtain ⟨mb, q, cq, fq, Bs, T, gS, cS, ls, gT, cT, ms, rfl, hv⟩ := h2 r (zaa HT); have HV := hide hv; have hlt : k < ls.length := (by have := zaa HK; rw [← hv.sts, List.length_map] at this; exact this); have c0 := hv.rt.sa.cell; have HF := hide hf; clear hf h2 hv)
     | (go_at_call 80; refine (r_isSign s _).mono ?_; rintro e w' ⟨rfl, hw'⟩; rw [hw', zaa HSX])
     | (refine zat rfl 139 (.tmp 35) rfl (some 36) rfl 10 (canF false fun _ => false) (by rfl) ?_; intro w2 hf2 hs2 hB2; have HV2 := hide ((zaa HV).fr0 hf2); have HB2 := hide hB2; have HNe := hide ((zaa HV).fresh (Nat.le_refl _) hlt); have HF2 := hide ((zaa HF).trans0 hf2); have HFs := hide (zaa HF).size; clear hf2 hs2 hB2)
     | (go_at_call 81; refine (r_can Bs mb q cq fq gS cS gT cT w1.heap.size _ _ T ls ms k c false (fun _ => false) _ (by exact (zaa HV2).rt.tb) (by exact (zaa HV2).rt.sa) (by exact (zaa HV2).rt.mt) hlt (by rw [(zaa HV2).len]; exact hlt) (by exact (zaa HV2).rt.ok _ (List.getElem_mem hlt)) (by exact zaa HB2) (by exact zaa HNe)).mono ?_; rintro e w3 ⟨rfl, hf3, hB3⟩; rw [canF_first] at hB3; have HB3 := hide hB3; have HF3 := hide ((zaa HF2).trans1 hf3 (Or.inr (zaa HFs))); clear hf3 hB3)
     | (go_at_call 82; refine (r_words w1.heap.size _ _ _ (by exact zaa HB3)).mono ?_; rintro e w4 ⟨rfl, hf4⟩; have HF4 := hide ((zaa HF3).trans0 hf4); clear hf4))
    go_ret2
    exact ⟨by rw [zaa HA, ← (zaa HV).mvs, ← (zaa HV).sts, zaa HCC, show ((k : Nat) : Int).toNat = k from rfl, getD_m _ _ (by rw [(zaa HV).len]; exact hlt), getD_l _ _ hlt]; rfl, zaa HF4⟩
  ·have HA := hide (actV_out (L := rul (zad t 8 0 []).1) (s := s) hin)
   have HIn := hide hin
   clear hin
   by_cases h0 : n < 0
   ·go_enter Tryz.func29, Tryz.ntmps29
    go_wp2_with (first
     | (go_at_call 72; refine (za7 t w ht).mono ?_; rintro e w1 ⟨hf, _, h2⟩; obtain ⟨mb, q, cq, fq, Bs, T, gS, cS, ls, gT, cT, ms, rfl, hv⟩ := h2 r (zaa HT); have HV := hide hv; have c0 := hv.rt.sa.cell; have HF := hide hf; clear hf h2 hv))
    go_ret2
    exact ⟨by rw [zaa HA]; rfl, zaa HF⟩
   ·go_enter Tryz.func29, Tryz.ntmps29
    go_wp2_with (first
     | (go_at_call 72; refine (za7 t w ht).mono ?_; rintro e w1 ⟨hf, _, h2⟩; obtain ⟨mb, q, cq, fq, Bs, T, gS, cS, ls, gT, cT, ms, rfl, hv⟩ := h2 r (zaa HT); have HV := hide hv; have hge : (ls.length : Int) ≤ n := (by have h := zaa HIn; rw [← hv.sts, List.length_map] at h; omega); have c0 := hv.rt.sa.cell; have HF := hide hf; clear hf h2 hv))
    go_ret2
    exact ⟨by rw [zaa HA]; rfl, zaa HF⟩
end Go.Proofs.YtkglggkkbmmjkabGreatDoor
namespace Go.Proofs.YtkglggkkbmmjkabGreatDoor
open Go.RowKit
theorem Tryz.infoInt : (Tryz.prog.info? 3).map (fun i => (i.zero, i.size, i.bytes)) = some (some (.int .i64 0), 1, 8) := by kernel_rfl
def intC (cs : List Nat) : List Value := cs.map fun n => .int .i64 (n : Nat)
structure CrS (w wr : World) (v : Value) (cs : List Nat) : Prop where
 fr : Fr [] w wr
 row : wr.ownsRow w.heap.size 3 1 v cs.length (intC cs)
theorem CrS.push {w wr w' : World} {o : Obj} {v : Value} {cs : List Nat} {g cap c : Nat} (h : CrS w wr v cs) (hgrow : (wr.alloc o).grownBy w' v.ownBlock) (hown : w'.ownsRow w.heap.size 3 1 (.slice (some ⟨g, 0, none⟩) (cs.length + 1) cap) (cs.length + 1) (intC cs ++ [.int .i64 (c : Nat)])) : CrS w w' (.slice (some ⟨g, 0, none⟩) (cs ++ [c]).length cap) (cs ++ [c]) :=
 ⟨h.fr.trans (grown_fr hgrow) (fun x hx => Or.inr (h.row.lt x (by simpa using hx)).1), by rw [List.length_append]; simpa [intC] using hown⟩
def corI (Ms : List (List It)) (i : Nat) : List Nat × Nat := corF alk2 (Ms.take i) [] [] 0
theorem corF_len {α : Type} (eq : α → α → Bool) : ∀ (S prev : List α) (l : List Nat) (n : Nat), (corF eq S prev l n).1.length = l.length + S.length
 | [], _, _, _ => by simp [corF]
 | s :: S, prev, l, n => by
  rw [corF]
  split
  ·rw [corF_len eq S]; simp; omega
  ·rw [corF_len eq S]; simp; omega
theorem corI_len (Ms : List (List It)) {i : Nat} (h : i ≤ Ms.length) : (corI Ms i).1.length = i := by
 unfold corI; rw [corF_len]; simp; omega
theorem corI_succ {Ms : List (List It)} {i : Nat} (h : i < Ms.length) : corI Ms (i + 1) = match (Ms.take i).findIdx? (fun p => alk2 Ms[i] p) with
 | some k => ((corI Ms i).1 ++ [(corI Ms i).1.getD k 0], (corI Ms i).2)
 | none => ((corI Ms i).1 ++ [(corI Ms i).2], (corI Ms i).2 + 1) := by
 unfold corI
 rw [List.take_succ_eq_append_getElem h, corF_snoc]
 rfl
theorem corI_n (Ms : List (List It)) : ∀ i, i ≤ Ms.length → (corI Ms i).2 ≤ i
 | 0, _ => by unfold corI; simp [corF]
 | i + 1, h => by
  have ih := corI_n Ms i (by omega)
  rw [corI_succ (by omega)]
  split
  ·show (corI Ms i).2 ≤ i + 1; omega
  ·show (corI Ms i).2 + 1 ≤ i + 1; omega
theorem corI_all (Ms : List (List It)) {i : Nat} (h : Ms.length ≤ i) : corI Ms i = corV Ms := by
 unfold corI corV; rw [List.take_of_length_le h]
theorem corI_lt (Ms : List (List It)) : ∀ i, i ≤ Ms.length → ∀ c ∈ (corI Ms i).1, c < (corI Ms i).2
 | 0, _ => by intro c hc; unfold corI at hc; simp [corF] at hc
 | i + 1, h => by
  have ih := corI_lt Ms i (by omega)
  have hlen := corI_len Ms (show i ≤ Ms.length by omega)
  rw [corI_succ (by omega)]
  split
  ·rename_i k hk
   intro c hc
   have hkl : k < i := by
    rw [List.findIdx?_eq_some_iff_getElem] at hk
    have := hk.1
    simp at this; omega
   rcases List.mem_append.1 hc with hc | hc
   ·exact ih c hc
   ·rw [List.mem_singleton.1 hc, List.getD_eq_getElem?_getD, List.getElem?_eq_getElem (by omega)]
    exact ih _ (List.getElem_mem _)
  ·intro c hc
   show c < (corI Ms i).2 + 1
   rcases List.mem_append.1 hc with hc | hc
   ·have := ih c hc; omega
   ·rw [List.mem_singleton.1 hc]; omega
def LkS (Ms : List (List It)) (i k : Nat) (cv : Int) : Prop :=
 (cv = -1 ∧ ∀ j, j < k → alk2 (Ms.getD i []) (Ms.getD j []) = false) ∨ ∃ j, (Ms.take i).findIdx? (fun p => alk2 (Ms.getD i []) p) = some j ∧ cv = ((corI Ms i).1.getD j 0 : Nat)
theorem lk_none {Ms : List (List It)} {i : Nat} (hi : i < Ms.length) (h : ∀ j, j < i → alk2 (Ms.getD i []) (Ms.getD j []) = false) : (Ms.take i).findIdx? (fun p => alk2 Ms[i] p) = none := by
 rw [List.findIdx?_eq_none_iff]
 intro x hx
 obtain ⟨j, hj, rfl⟩ := List.getElem_of_mem hx
 have hj' : j < i := by rw [List.length_take] at hj; omega
 have := h j hj'
 rw [List.getD_eq_getElem?_getD, List.getElem?_eq_getElem hi, List.getD_eq_getElem?_getD, List.getElem?_eq_getElem (by omega)] at this
 rw [List.getElem_take]; exact this
theorem lk_some {Ms : List (List It)} {i k : Nat} (hi : i < Ms.length) (hk : k < i) (h : ∀ j, j < k → alk2 (Ms.getD i []) (Ms.getD j []) = false) (h2 : alk2 (Ms.getD i []) (Ms.getD k []) = true) : (Ms.take i).findIdx? (fun p => alk2 (Ms.getD i []) p) = some k := by
 rw [List.findIdx?_eq_some_iff_getElem]
 refine ⟨by rw [List.length_take]; omega, ?_, fun j hj => ?_⟩
 ·rw [List.getElem_take]
  rw [List.getD_eq_getElem?_getD (l := Ms) (i := k), List.getElem?_eq_getElem (by omega)] at h2
  exact h2
 ·have := h j hj
  rw [List.getD_eq_getElem?_getD (l := Ms) (i := j), List.getElem?_eq_getElem (by omega)] at this
  rw [List.getElem_take]
  have e : alk2 (Ms.getD i []) Ms[j] = false := this
  rw [e]; simp
theorem getD_i {Ms : List (List It)} {i : Nat} (hi : i < Ms.length) : Ms.getD i [] = Ms[i] := by
 rw [List.getD_eq_getElem?_getD, List.getElem?_eq_getElem hi]; rfl
theorem corI_new {Ms : List (List It)} {i : Nat} (hi : i < Ms.length) (h : LkS Ms i i (-1)) : corI Ms (i + 1) = ((corI Ms i).1 ++ [(corI Ms i).2], (corI Ms i).2 + 1) := by
 rcases h with ⟨_, h⟩ | ⟨j, _, e⟩
 ·rw [corI_succ hi, lk_none hi h]
 ·omega
theorem corI_old {Ms : List (List It)} {i k c : Nat} (hi : i < Ms.length) (h : LkS Ms i k (c : Nat)) : corI Ms (i + 1) = ((corI Ms i).1 ++ [c], (corI Ms i).2) := by
 rcases h with ⟨e, _⟩ | ⟨j, hj, e⟩
 ·omega
 ·rw [getD_i hi] at hj
  rw [corI_succ hi, hj]
  have : (corI Ms i).1.getD j 0 = c := by omega
  rw [← this]
set_option maxRecDepth 100000 in
set_option maxHeartbeats 8000000 in
theorem r_cores {w0 : World} {L : List Ru} {N : Nat → Bool} {r : Tb} {mb q cq fq Bs : Nat} {T : Nat → Nat → Bool} {gS cS : Nat} {ls : List Sl} {gT cT : Nat} {ms : List MSl} (w : World) (h : RtV w0 w L N r mb q cq fq Bs T gS cS ls gT cT ms) :
 Calls Tryz.prog 83 #[.pointer (some ⟨mb, 0, none⟩)] w fun e w' => ∃ v, e = .returned (.tuple #[v, .int .i64 ((corV r.1).2 : Nat)]) ∧ CrS w w' v (corV r.1).1 := by
 obtain ⟨i0, hi0, hz0, hz1, hz2⟩ := info_parts Tryz.infoInt
 have H := hide h
 have h40 := h.l40
 have hMs : r.1.length = ls.length := by rw [← h.sts, List.length_map]
 have HMs := hide hMs
 have HGet := hide (show ∀ i (hi : i < ls.length), r.1.getD i [] = ls[i].l from fun i hi => by rw [← h.sts, getD_l _ _ hi])
 have HW := hide (show CrS w w (.slice none 0 0) (corI r.1 0).1 from ⟨Fr.refl _ _, World.ownsRow_nil _ _ _ _⟩)
 clear h hMs
 go_enter Tryz.func83, Tryz.ntmps83
 go_wp2
 go_loopw [4, 5, 6] (fun v nv iv wr => ∃ (i : Nat), i ≤ ls.length ∧ iv = .int .i64 i ∧ nv = .int .i64 ((corI r.1 i).2 : Nat) ∧ Hid (CrS w wr v (corI r.1 i).1)) (fun _ _ iv _ => ls.length + 1 - (intOf iv).toNat)
 case atStart => exact ⟨0, by omega, rfl, rfl, HW⟩
 case round =>
  obtain ⟨i, hi, rfl, rfl, hC⟩ := hrel
  have HV := hide ((zaa H).fr0 (zaa hC).fr)
  have c0 := (zaa HV).rt.sa.cell
  clear HW
  by_cases hlt : i < ls.length
  ·have hcl := corI_len r.1 (i := i) (by rw [zaa HMs]; omega)
   have hcn := corI_n r.1 i (by rw [zaa HMs]; omega)
   obtain ⟨cs, hcs⟩ : ∃ cs, (corI r.1 i).1 = cs := ⟨_, rfl⟩
   obtain ⟨n, hn⟩ : ∃ n, (corI r.1 i).2 = n := ⟨_, rfl⟩
   rw [hcs] at hC hcl
   rw [hn] at hcn ⊢
   have HCS := hide hcs
   have HN := hide hn
   have hcl2 : cs.length ≤ 40 := by omega
   have HCl := hide hcl
   obtain ⟨ao, cm, hv4⟩ := own_slice (zaa hC).row
   subst hv4
   clear hcs hn hcl
   go_wp2
   go_loopw [7, 8] (fun cv kv wr => ∃ (k : Nat) (c : Int), k ≤ i ∧ kv = .int .i64 k ∧ cv = .int .i64 c ∧ -1 ≤ c ∧ c ≤ 40 ∧ Hid (LkS r.1 i k c) ∧ Hid (CrS w wr (.slice ao cs.length cm) cs)) (fun _ kv _ => i + 1 - (intOf kv).toNat)
   case atStart => exact ⟨0, -1, by omega, rfl, rfl, by omega, by omega, Or.inl ⟨rfl, fun j hj => by omega⟩, hC⟩
   case round =>
    obtain ⟨k, c, hk, rfl, rfl, hc1, hc2, hL, hC2⟩ := hrel
    have HV2 := hide ((zaa H).fr0 (zaa hC2).fr)
    clear c0
    by_cases hcneg : c = -1
    ·subst hcneg
     by_cases hkl : k < i
     ·obtain ⟨g5, c5, e5⟩ := zcb (zaa hC2).row (by have := zaa HCl; omega)
      injection e5 with e6 _ e7
      subst e6
      subst e7
      have d0 := (zaa HV2).rt.sa.cell
      have d1 := slV_get (zaa HV2).rt.sa.own i hlt
      have d2 := slV_get (zaa HV2).rt.sa.own k (by omega)
      unfold slV at d1 d2
      obtain ⟨m1, m2, m3, _⟩ := (zaa HV2).rt.sa.its ls[i] (List.getElem_mem hlt)
      obtain ⟨n1, n2, n3, _⟩ := (zaa HV2).rt.sa.its (ls[k]'(by omega)) (List.getElem_mem _)
      have HI := hide m1
      have HJ := hide n1
      obtain ⟨a, ha⟩ : ∃ a, alikeL ls[i].l (ls[k]'(by omega)).l = a := ⟨_, rfl⟩
      obtain ⟨b, hb⟩ : ∃ b, alikeL (ls[k]'(by omega)).l ls[i].l = b := ⟨_, rfl⟩
      have HA := hide ha
      have HB := hide hb
      have HAB := hide (show alk2 (r.1.getD i []) (r.1.getD k []) = (a && b) from by
       rw [zaa HGet i hlt, zaa HGet k (by omega)]; unfold alk2; rw [ha, hb])
      have hkc : k < cs.length := by have := zaa HCl; omega
      have e0 : ∀ W, Fr [] wr W → W.cell? ⟨g5, k, none⟩ = some (.int .i64 (cs[k] : Nat)) := fun W hW => by
       have := row1_get (xs := intC cs) (by rw [show (intC cs).length = cs.length from by simp [intC]]; exact (zaa hC2).row) k (by simpa [intC] using hkc)
       rw [hW.cell0 this]
       simp [intC]
      have HE0 := hide e0
      have hck : cs[k] ≤ 40 := by
       have := corI_lt r.1 i (by rw [zaa HMs]; omega) cs[k] (by rw [zaa HCS]; exact List.getElem_mem hkc)
       rw [zaa HN] at this; omega
      clear ha hb m1 n1 m2 n2 e0
      have hki : (k : Int) < (ls.length : Int) := by omega
      have hii : (i : Int) < (ls.length : Int) := by omega
      go_wp2_with fail
      go_region_held3 (fun w' => w'.cell? ⟨mb, 130, none⟩ = some (.slice (some ⟨gS, 0, none⟩) ls.length cS) ∧ w'.cell? ⟨gS, i, none⟩ = some (.slice (some ⟨ls[i].g, 0, none⟩) ls[i].l.length ls[i].c) ∧ w'.cell? ⟨gS, k, none⟩ = some (.slice (some ⟨ls[k].g, 0, none⟩) ls[k].l.length ls[k].c)) (first | (exact ⟨d0, d1, d2⟩) | (exact ⟨hf2.cell0 (by exact d0), hf2.cell0 (by exact d1), hf2.cell0 (by exact d2)⟩)) ((go_at_call 120; refine (r_alike ls[i].g ls[i].c ls[k].g ls[k].c ls[i].l ls[k].l _ (by exact (zaa HI).fr0 ((Fr.refl [] _).drew)) (by exact (zaa HJ).fr0 ((Fr.refl [] _).drew)) m3 n3).mono ?_; rintro e w2 ⟨rfl, hf2⟩; rw [zaa HA]))
      have HF2 := hide (show Fr [] wr w2 from (Fr.refl [] wr).drew.trans0 hf2)
      clear hf2
      have d0' := (zaa HF2).cell0 d0
      have d1' := (zaa HF2).cell0 d1
      have d2' := (zaa HF2).cell0 d2
      clear d0 d1 d2
      go_wp2_with fail
      go_region_held3 (fun w' => w'.cell? ⟨mb, 130, none⟩ = some (.slice (some ⟨gS, 0, none⟩) ls.length cS) ∧ w'.cell? ⟨gS, i, none⟩ = some (.slice (some ⟨ls[i].g, 0, none⟩) ls[i].l.length ls[i].c) ∧ w'.cell? ⟨gS, k, none⟩ = some (.slice (some ⟨ls[k].g, 0, none⟩) ls[k].l.length ls[k].c)) (first | (exact ⟨d0', d1', d2'⟩) | (exact ⟨hf3.cell0 (by exact d0'), hf3.cell0 (by exact d1'), hf3.cell0 (by exact d2')⟩)) ((go_at_call 120; refine (r_alike ls[k].g ls[k].c ls[i].g ls[i].c ls[k].l ls[i].l _ (by exact ((zaa HJ).fr0 (zaa HF2)).fr0 ((Fr.refl [] _).drew)) (by exact ((zaa HI).fr0 (zaa HF2)).fr0 ((Fr.refl [] _).drew)) n3 m3).mono ?_; rintro e w3 ⟨rfl, hf3⟩; rw [zaa HB]))
      have HF3 := hide (show Fr [] wr w3 from (zaa HF2).trans0 ((Fr.refl [] w2).drew.trans0 hf3))
      clear hf3 d0' d1' d2'
      have d3 := zaa HE0 w3 (zaa HF3)
      have HC3 := hide (show CrS w w3 (.slice (some ⟨g5, 0, none⟩) cs.length cm) cs from ⟨(zaa hC2).fr.trans0 (zaa HF3), zbd (zaa hC2).row (zaa HF3) (by simp)⟩)
      have hkc' : (k : Int) < cs.length := by omega
      have hno : (a && b) = false → LkS r.1 i (k + 1) (-1) := fun hab => by
       rcases zaa hL with ⟨_, h⟩ | ⟨j, _, e⟩
       ·exact Or.inl ⟨rfl, fun j hj => by
         by_cases e : j = k
         ·subst e; rw [zaa HAB]; exact hab
         ·exact h j (by omega)⟩
       ·omega
      have hyes : (a && b) = true → LkS r.1 i (k + 1) (cs[k] : Nat) := fun hab => by
       rcases zaa hL with ⟨_, h⟩ | ⟨j, _, e⟩
       ·exact Or.inr ⟨k, lk_some (by rw [zaa HMs]; exact hlt) hkl h (by rw [zaa HAB]; exact hab), by rw [zaa HCS, List.getD_eq_getElem?_getD, List.getElem?_eq_getElem hkc]; rfl⟩
       ·omega
      have HNo := hide hno
      have HYes := hide hyes
      clear hno hyes HAB HA HB HE0 HI HJ
      cases a
      ·go_wp2
       go_roundw
       case rel => exact ⟨k + 1, -1, by omega, by go_num, rfl, by omega, by omega, zaa HNo rfl, HC3⟩
       case measure => simp [intOf]; omega
      ·cases b
       ·go_wp2
        go_roundw
        case rel => exact ⟨k + 1, -1, by omega, by go_num, rfl, by omega, by omega, zaa HNo rfl, HC3⟩
        case measure => simp [intOf]; omega
       ·go_wp2
        go_roundw
        case rel => exact ⟨k + 1, (cs[k] : Nat), by omega, by go_num, rfl, by omega, by omega, zaa HYes rfl, HC3⟩
        case measure => simp [intOf]; omega
     ·have HNew := hide (corI_new (Ms := r.1) (i := i) (by rw [zaa HMs]; exact hlt) (by have := zaa hL; rw [show k = i from by omega] at this; exact this))
      rw [zaa HCS, zaa HN] at HNew
      have hki : ¬ (k : Int) < (i : Int) := by omega
      go_wp2_with (at_builtin; refine wpList_append_lies _ rfl (.tmp 72) (.tmp 74) 148 rfl w.heap.size 3 i0 _ 1 8 Tryz.underlying148 hi0 hz0 hz1 hz2 rfl (by omega) (.slice ao cs.length cm) cs.length (intC cs) rfl (by exact (zaa hC2).row.alloc _) _ 1 1 [.int .i64 (n : Nat)] rfl rfl (World.news_of_block (cs := #[.int .i64 (n : Nat)]) (t := 3) (fr := (0, 0)) (heap_alloc_new _ _)) (by simp [Value.oneCell']) (by omega) (by unfold maxLen; omega) (by omega) (by have := (zaa hC2).fr.size; simp; omega) _ rfl ?_; intro g4 c4 w4 hown4 hgrow4 hat4 hlt4; have HC4 := hide ((zaa hC2).push hgrow4 hown4); clear hown4 hgrow4 hat4 hlt4)
      go_roundw
      case rel =>
       refine ⟨i + 1, by omega, by go_num, by rw [zaa HNew]; go_num, ?_⟩
       rw [zaa HNew]
       have h4 := zaa HC4
       rw [List.length_append] at h4
       exact h4
      case measure => simp [intOf]; omega
    ·obtain ⟨cn, hcn'⟩ : ∃ cn : Nat, c = cn := ⟨c.toNat, by omega⟩
     subst hcn'
     have hc0 : ¬ (cn : Int) < 0 := by omega
     have HOld := hide (corI_old (Ms := r.1) (i := i) (by rw [zaa HMs]; exact hlt) (zaa hL))
     rw [zaa HCS, zaa HN] at HOld
     by_cases hkl : k < i
     all_goals
      go_wp2_with (at_builtin; refine wpList_append_lies _ rfl (.tmp 72) (.tmp 74) 148 rfl w.heap.size 3 i0 _ 1 8 Tryz.underlying148 hi0 hz0 hz1 hz2 rfl (by omega) (.slice ao cs.length cm) cs.length (intC cs) rfl (by exact (zaa hC2).row.alloc _) _ 1 1 [.int .i64 (cn : Nat)] rfl rfl (World.news_of_block (cs := #[.int .i64 (cn : Nat)]) (t := 3) (fr := (0, 0)) (heap_alloc_new _ _)) (by simp [Value.oneCell']) (by omega) (by unfold maxLen; omega) (by omega) (by have := (zaa hC2).fr.size; simp; omega) _ rfl ?_; intro g4 c4 w4 hown4 hgrow4 hat4 hlt4; have HC4 := hide ((zaa hC2).push hgrow4 hown4); clear hown4 hgrow4 hat4 hlt4)
      go_roundw
      case rel =>
       refine ⟨i + 1, by omega, by go_num, by rw [zaa HOld], ?_⟩
       rw [zaa HOld]
       have h4 := zaa HC4
       rw [List.length_append] at h4
       exact h4
      case measure => simp [intOf]; omega
  ·have HE := hide (corI_all r.1 (i := i) (by rw [zaa HMs]; omega))
   go_wp2
   go_ret2
   exact ⟨_, by rw [zaa HE]; rfl, by have := zaa hC; rw [zaa HE] at this; exact this⟩
end Go.Proofs.YtkglggkkbmmjkabGreatDoor
