import Derived.Test.YtkglggkkbmmjkabGreatDoorG14IMath
namespace Go.Proofs.YtkglggkkbmmjkabGreatDoor
open Go.RowKit
structure FuS (w wr : World) (B mb q cq fq : Nat) (rs : List Ru) (N : Nat → Bool) (T : Nat → Nat → Bool) (v : Value) (L : List It) : Prop where
 below : Below B w wr
 tb : TB wr mb q cq fq rs N T
 row : IRow wr B v L
 hB : B ≤ wr.heap.size
 hm : mb < B
 hq : q < B
 hf : fq < B
theorem IRow.own {w : World} {B g : Nat} {v : Value} {l : List It} (h : IRow w B v l) (hg : v.ownBlock = some g) : B ≤ g ∧ g < w.heap.size := h.lt g hg
theorem FuS.fr {w wr wr' : World} {B mb q cq fq : Nat} {rs : List Ru} {N : Nat → Bool} {T : Nat → Nat → Bool} {v : Value} {L : List It} (h : FuS w wr B mb q cq fq rs N T v L) (k : Fr [] wr wr') : FuS w wr' B mb q cq fq rs N T v L :=
 ⟨h.below.trans (k.belowOf (by simp) h.hB), h.tb.fr0 k, zbd h.row k (by simp), Nat.le_trans h.hB k.size, h.hm, h.hq, h.hf⟩
theorem FuS.far {w wr wr' : World} {B mb q cq fq x : Nat} {rs : List Ru} {N : Nat → Bool} {T : Nat → Nat → Bool} {v : Value} {L : List It} (h : FuS w wr B mb q cq fq rs N T v L) (k : Fr [x] wr wr') (hx : B ≤ x) (hv : v.ownBlock ≠ some x) : FuS w wr' B mb q cq fq rs N T v L := by
 have h1 := h.hm
 have h2 := h.hq
 have h3 := h.hf
 exact ⟨h.below.trans (k.belowOf (by simp; exact hx) h.hB), h.tb.fr k (by simp; omega) (by simp; omega) (by simp; omega), zas h.row k (fun g hg => by
  simp; intro e; exact hv (by rw [hg, e])), Nat.le_trans h.hB k.size, h1, h2, h3⟩
theorem FuS.put {w wr wr' : World} {B mb q cq fq : Nat} {rs : List Ru} {N : Nat → Bool} {T : Nat → Nat → Bool} {v v' : Value} {L L' : List It} (h : FuS w wr B mb q cq fq rs N T v L) (k : Fr v.ownBlock.toList wr wr') (hr : IRow wr' B v' L') : FuS w wr' B mb q cq fq rs N T v' L' := by
 have h1 := h.hm
 have h2 := h.hq
 have h3 := h.hf
 have hn : ∀ x, x < B → x ∉ v.ownBlock.toList := fun x hx hm => by
  have : v.ownBlock = some x := by simpa using hm
  have := (h.row.own this).1
  omega
 exact ⟨h.below.trans (k.belowOf (fun x hx => (h.row.own (by simpa using hx)).1) h.hB), h.tb.fr k (hn _ h1) (hn _ h2) (hn _ h3), hr, Nat.le_trans h.hB k.size, h1, h2, h3⟩
theorem Tryz.zeroItem : (Tryz.prog.info? 181).bind (·.zero) = some (Agg 3 (itC it0)) := by kernel_rfl
theorem asks_end {rs : List Ru} {N : Nat → Bool} {T : Nat → Nat → Bool} {x y : It} (h : ¬ (x.P < (rget rs x.R).R.size ∧ bigB (ch (rget rs x.R).R x.P) = true)) : ¬ Asks rs N T x y := fun k => h ⟨k.1, k.2.1⟩
def XV (wr : World) (v : Value) (xb : Nat) (x : It) : Prop := Blk wr xb 3 (itC x) ∧ v.ownBlock ≠ some xb
theorem XV.put {wr wr' : World} {v v' : Value} {xb : Nat} {x : It} (h : XV wr v xb x) (k : Fr v.ownBlock.toList wr wr') (ho : ∀ g', v'.ownBlock = some g' → v.ownBlock = some g' ∨ wr.heap.size ≤ g') : XV wr' v' xb x :=
 ⟨h.1.fr k (fun hm => h.2 (by simpa using hm)), fun e => by
   rcases ho xb e with e | e
   ·exact h.2 e
   ·have := h.1.lt; omega⟩
theorem XV.fr {wr wr' : World} {v : Value} {xb : Nat} {x : It} (h : XV wr v xb x) (k : Fr [] wr wr') : XV wr' v xb x := ⟨h.1.fr0 k, h.2⟩
structure KS (rs : List Ru) (N : Nat → Bool) (T : Nat → Nat → Bool) (l L L' : List It) (mv : Bool) (c : Nat) (x : It) (k : Nat) : Prop where
 lp : LP rs N T l L'
 eq : mv = false → L' = L
 gt : mv = true → L.length < L'.length
 sup : ∀ y ∈ L, y ∈ L'
 done : ∀ k', 1 ≤ k' → k' < k → (rget rs k').L = c → ∀ t, t < 128 → sgS N T (rget rs x.R) (x.P + 1) x.T t = true → (⟨k', 0, t⟩ : It) ∈ L'
structure JS (rs : List Ru) (N : Nat → Bool) (T : Nat → Nat → Bool) (l L L' : List It) (mv : Bool) (c : Nat) (x : It) (k : Nat) (ss : ByteArray) (j : Nat) : Prop where
 ks : KS rs N T l L L' mv c x k
 row : ∀ j', j' < j → (⟨k, 0, ch ss j'⟩ : It) ∈ L'
theorem JS.put {rs : List Ru} {N : Nat → Bool} {T : Nat → Nat → Bool} {l L L' : List It} {mv : Bool} {c : Nat} {x : It} {k : Nat} {ss : ByteArray} {j : Nat} (h : JS rs N T l L L' mv c x k ss j) (hx : x ∈ L) (ha : Asks rs N T x ⟨k, 0, ch ss j⟩)
 (hT : ∀ c x, x < 128 → T c x = true → zai x = true) (hl : rs.length ≤ 9) (hs : ∀ i (h : i < rs.length), rs[i].R.size ≤ 4) : JS rs N T l L (putL L' ⟨k, 0, ch ss j⟩) (mv || !hasK L' ⟨k, 0, ch ss j⟩) c x k ss (j + 1) := by
 have hx' := h.ks.sup x hx
 have hlen := putL_len (x := ⟨k, 0, ch ss j⟩) h.ks.lp.srt
 refine ⟨⟨h.ks.lp.put hx' ha hT, fun e => ?_, fun e => ?_, fun y hy => putL_sub _ _ _ (h.ks.sup y hy), fun k' h1 h2 h3 t h4 h5 => putL_sub _ _ _ (h.ks.done k' h1 h2 h3 t h4 h5)⟩, fun j' hj' => ?_⟩
 ·rw [Bool.or_eq_false_iff] at e
  have hk : hasK L' ⟨k, 0, ch ss j⟩ = true := by simpa using e.2
  rw [putL_old h.ks.lp.srt hk]; exact h.ks.eq e.1
 ·rw [hlen]
  cases mv
  ·have hk : hasK L' ⟨k, 0, ch ss j⟩ = false := by simpa using e
   rw [hk, h.ks.eq rfl]; simp
  ·have := h.ks.gt rfl; omega
 ·by_cases e : j' = j
  ·subst e
   exact putL_in h.ks.lp.ok (ha.ok (h.ks.lp.ok x hx') hT) hl hs
  ·exact putL_sub _ _ _ (h.row j' (by omega))
theorem JS.next {rs : List Ru} {N : Nat → Bool} {T : Nat → Nat → Bool} {l L L' : List It} {mv : Bool} {c : Nat} {x : It} {k : Nat} {ss : ByteArray} {j : Nat} (h : JS rs N T l L L' mv c x k ss j) (hss : rlst (sgS N T (rget rs x.R) (x.P + 1) x.T) = ss)
 (hj : (rget rs k).L = c → ss.size ≤ j) : KS rs N T l L L' mv c x (k + 1) :=
 ⟨h.ks.lp, h.ks.eq, h.ks.gt, h.ks.sup, fun k' h1 h2 h3 t h4 h5 => by
   by_cases e : k' = k
   ·subst e
    obtain ⟨j', hj', e'⟩ := rlst_mem h4 h5
    rw [hss] at hj' e'
    rw [← e']; exact h.row j' (by have := hj h3; omega)
   ·exact h.ks.done k' h1 (by omega) h3 t h4 h5⟩
theorem KS.all {rs : List Ru} {N : Nat → Bool} {T : Nat → Nat → Bool} {l L L' : List It} {mv : Bool} {c : Nat} {x : It} {k : Nat} (h : KS rs N T l L L' mv c x k) (hk : rs.length ≤ k) (hc : ch (rget rs x.R).R x.P = c) : ∀ y, Asks rs N T x y → y ∈ L' := fun y ⟨_, _, h3, h4, h5, h6, h7, h8⟩ => by
 obtain ⟨a, b, d⟩ := y
 have h6 : b = 0 := h6
 subst h6
 exact h.done a h3 (Nat.lt_of_lt_of_le h4 hk) (h5.trans hc) d h7 h8
def FullOut (w : World) (B mb q cq fq : Nat) (rs : List Ru) (N : Nat → Bool) (T : Nat → Nat → Bool) (l : List It) (e : Ending) (w' : World) : Prop :=
 ∃ v' L, e = .returned v' ∧ zb9 rs N T l L ∧ FuS w w' B mb q cq fq rs N T v' L
set_option maxRecDepth 100000 in
set_option maxHeartbeats 8000000 in
theorem r_full (B mb q cq fq : Nat) (rs : List Ru) (N : Nat → Bool) (T : Nat → Nat → Bool) (v : Value) (l : List It) (w : World) (h : TB w mb q cq fq rs N T) (hr : IRow w B v l) (hB : B ≤ w.heap.size) (hm : mb < B) (hq : q < B) (hf : fq < B)
 (hT : ∀ c x, x < 128 → T c x = true → zai x = true) (hs : Srt l) (hok : ∀ y ∈ l, IOk rs y) :
 Calls Tryz.prog 115 #[.pointer (some ⟨mb, 0, none⟩), v] w fun e w' => FullOut w B mb q cq fq rs N T l e w' := by
 have hlen := h.len
 have HSm := hide h.small
 have HLets := hide h.lets
 have HT := hide hT
 have HS0 := hide (show FuS w w B mb q cq fq rs N T v l from ⟨Below.refl _ _, h, hr, hB, hm, hq, hf⟩)
 have HLP0 := hide (show LP rs N T l l from ⟨hs, hok, fun _ h => h, fun _ h => Cl.base h⟩)
 clear h hr hB hm hq hf hT hs hok
 go_enter Tryz.func115, Tryz.ntmps115
 go_wp2
 go_loopg [1, 5] ((9000 - l.length) * 2 + 1) (fun g v' mo wr => ∃ (L : List It) (mv : Bool), g = (9000 - L.length) * 2 + (if mv then 1 else 0) ∧ mo = .bool mv ∧ Hid (LP rs N T l L) ∧ Hid (mv = false → Closed rs N T L) ∧ Hid (FuS w wr B mb q cq fq rs N T v' L))
 case atStart => exact ⟨l, true, rfl, rfl, HLP0, (fun h => by cases h), HS0⟩
 case round =>
  obtain ⟨L0, mv, hg, rfl, hlp, hcl, hfs⟩ := hrel
  cases mv
  ·have HCl := hide (zaa hcl rfl)
   clear hcl
   go_wp2
   go_ret
   exact ⟨_, L0, rfl, ⟨zaa hlp, zaa HCl⟩, zaa hfs⟩
  ·have hL0 := (zaa hlp).len hlen (zaa HSm)
   go_wp2
   go_loopw [1, 5, 6] (fun v' mo iv wr => ∃ (L : List It) (mv : Bool) (i : Nat), i ≤ L0.length ∧ mo = .bool mv ∧ iv = .int .i64 i ∧ Hid (LP rs N T l L) ∧ Hid (mv = false → L = L0 ∧ ∀ j, j < i → ∀ y, Asks rs N T (lget L0 j) y → y ∈ L0) ∧ Hid (mv = true → L0.length < L.length) ∧ Hid (FuS w wr B mb q cq fq rs N T v' L)) (fun _ _ iv _ => L0.length + 1 - (intOf iv).toNat)
   case atStart => exact ⟨L0, false, 0, by omega, rfl, rfl, hlp, (fun _ => ⟨rfl, fun j hj => by omega⟩), (fun h => by cases h), hfs⟩
   case round =>
    obtain ⟨L, mv, i, hi, rfl, rfl, hlp2, hfal, htru, hfs2⟩ := hrel
    cases mv
    ·obtain ⟨rfl, hdone⟩ := zaa hfal rfl
     have HDone := hide hdone
     clear hfal htru hdone hcl
     have hrow := (zaa hfs2).row
     obtain ⟨g, cap, rfl⟩ | ⟨rfl, h0⟩ : (∃ g cap, u1 = .slice (some ⟨g, 0, none⟩) L.length cap) ∨ (u1 = .slice none 0 0 ∧ L.length = 0) := by
      rcases hrow.2 with ⟨e, h0⟩ | ⟨g, cap, cur, e, _⟩
      ·exact Or.inr ⟨e, h0⟩
      ·exact Or.inl ⟨g, cap, e⟩
     ·by_cases hlt : i < L.length
      ·obtain ⟨x, hx⟩ : ∃ x, lget L i = x := ⟨_, rfl⟩
       obtain ⟨c0, c1, c2⟩ := (IRow.at (zaa hfs2).row).1 i hlt
       rw [hx] at c0 c1 c2
       have hxm : x ∈ L := by rw [← hx, zb6 L i hlt]; exact List.getElem_mem hlt
       have HXM := hide hxm
       have HX := hide hx
       have HIO := hide ((zaa hlp2).ok x hxm)
       obtain ⟨hxR, hxP, hxT⟩ := (zaa hlp2).ok x hxm
       obtain ⟨rt, hrt⟩ : ∃ rt, (rget rs x.R).R = rt := ⟨_, rfl⟩
       have HRt := hide hrt
       have hrs4 : rt.size ≤ 4 := by rw [← hrt, zbl rs _ hxR]; exact zaa HSm _ hxR
       rw [hrt] at hxP
       have hgl := (IRow.at (zaa hfs2).row).2.2.1
       have hgB := (zaa hfs2).hB
       have HXT := hide hxT
       clear hx hxm hrt hrow hxT
       go_wp2_with (first
        | (refine zab rfl 181 rfl (some 7) rfl 3 _ Tryz.zeroItem ?_; intro w2 hf2 hs2 hB2; have HF2 := hide ((zaa hfs2).fr hf2); have HB2 := hide hB2; clear hf2 hs2 hB2)
        | (refine zac rfl 181 (.tmp 7) (.tmp 28) rfl wr.heap.size 0 3 3 (itC it0) (itC x) rfl (by exact agg_it x) (by exact zaa HB2) Tryz.sizeItem (by omega) (by intro i hi; unfold itC; split; rfl; split <;> rfl) ?_; intro w3 hf3 hs3 hB3; have HF3 := hide ((zaa HF2).far hf3 hgB (by simp [Value.ownBlock]; omega)); have HV3 := hide (show XV w3 (.slice (some ⟨g, 0, none⟩) L.length cap) wr.heap.size x from ⟨hB3.congr fun i hi => zag _ _ _ i hi, by simp [Value.ownBlock]; omega⟩); clear hf3 hs3 hB3))
       have hxb : wr.heap.size < w3.heap.size := (zaa HV3).1.lt
       generalize wr.heap.size = xb at *
       clear c0 c1 c2 HF2 HB2 hfs2
       have t0 := (zaa HF3).tb.cL
       have t1 : w3.cell? ⟨xb, 0, none⟩ = some (.int .i64 x.R) := (zaa HV3).1.cell 0 (by omega)
       have t2 : w3.cell? ⟨q, x.R * 3 + 1, none⟩ = some (.string rt) := by
        rw [((zaa HF3).tb.ru x.R hxR).2.1, ← zbl rs _ hxR, zaa HRt]
       have v0 : (0 : Int) ≤ (x.R : Int) := by omega
       have v1 : (x.R : Int) < (rs.length : Int) := by omega
       go_region_held3 (fun w' => w'.cell? ⟨mb, 0, none⟩ = some (.slice (some ⟨q, 0, none⟩) rs.length cq) ∧ w'.cell? ⟨xb, 0, none⟩ = some (.int .i64 x.R) ∧ w'.cell? ⟨q, x.R * 3 + 1, none⟩ = some (.string rt)) (exact ⟨t0, t1, t2⟩) (fail)
       have HF4 := hide ((zaa HF3).fr ((Fr.refl [] _).drew))
       have HV4 := hide ((zaa HV3).fr ((Fr.refl [] _).drew))
       have t1' : w3.drew.cell? ⟨xb, 1, none⟩ = some (.int .i64 x.P) := (zaa HV4).1.cell 1 (by omega)
       generalize w3.drew = w4 at *
       by_cases hend : x.P = rt.size
       ·have hq : (((x.P : Nat) : Int) == (rt.size : Nat)) = true := by rw [beq_iff_eq]; omega
        have HDn := hide (show ∀ j, j < i + 1 → ∀ y, Asks rs N T (lget L j) y → y ∈ L from fun j hj y hy => by
         by_cases e : j = i
         ·rw [e, zaa HX] at hy
          exact absurd hy (asks_end (by rw [zaa HRt]; omega))
         ·exact zaa HDone j (by omega) y hy)
        go_wp2
        go_roundw
        case rel => exact ⟨L, false, i + 1, by omega, rfl, by go_num, hlp2, (fun _ => ⟨rfl, zaa HDn⟩), (fun h => by cases h), HF4⟩
        case measure => simp [intOf]; omega
       ·have hq : (((x.P : Nat) : Int) == (rt.size : Nat)) = false := by rw [beq_eq_false_iff_ne]; omega
        have hlP : x.P < rt.size := by omega
        have hch := hide (za8 rt x.P hlP)
        cases hbg : bigB rt[x.P].toNat
        ·have HDn := hide (show ∀ j, j < i + 1 → ∀ y, Asks rs N T (lget L j) y → y ∈ L from fun j hj y hy => by
          by_cases e : j = i
          ·rw [e, zaa HX] at hy
           exact absurd hy (asks_end (by rw [zaa HRt, zaa hch, hbg]; simp))
          ·exact zaa HDone j (by omega) y hy)
         go_wp2_with (go_at_call 56; refine (zav _ false _ hbg).mono ?_; rintro e w' ⟨rfl, rfl⟩)
         go_roundw
         case rel => exact ⟨L, false, i + 1, by omega, rfl, by go_num, hlp2, (fun _ => ⟨rfl, zaa HDn⟩), (fun h => by cases h), HF4⟩
         case measure => simp [intOf]; omega
        ·have t0' : w4.cell? ⟨xb, 0, none⟩ = some (.int .i64 x.R) := (zaa HV4).1.cell 0 (by omega)
         have t2' : w4.cell? ⟨xb, 2, none⟩ = some (.int .u8 x.T) := (zaa HV4).1.cell 2 (by omega)
         have HSg := hide (show rs[x.R] = rget rs x.R from (zbl rs _ hxR).symm)
         obtain ⟨ss, hss⟩ : ∃ ss, rlst (sgS N T (rget rs x.R) (x.P + 1) x.T) = ss := ⟨_, rfl⟩
         have HSs := hide hss
         have hs128 : ss.size ≤ 128 := by rw [← hss]; exact rlst_len _
         have HP1 := hide (show x.P + 1 ≤ rs[x.R].R.size from by rw [zaa HSg, zaa HRt]; omega)
         have HT1 := hide (show x.T < 128 from by
          rcases zaa HXT with h | h
          ·omega
          ·have := za4.1 h; omega)
         clear hss
         go_wp2_with (first
          | (go_at_call 56; refine (zav _ true _ hbg).mono ?_; rintro e w' ⟨rfl, rfl⟩)
          | (go_at_call 135; refine (r_signs mb q cq fq rs N T x.R (x.P + 1) x.T _ (by exact (zaa HF4).tb) hxR (zaa HP1) (zaa HT1)).mono ?_; rintro e w5 ⟨rfl, hf5⟩; rw [zaa HSg, zaa HSs]; have HF5 := hide ((zaa HF4).fr hf5); have HV5 := hide ((zaa HV4).fr hf5); clear hf5))
         have HKS := hide (show KS rs N T l L L false rt[x.P].toNat x 1 from ⟨zaa hlp2, (fun _ => rfl), (fun h => by cases h), (fun _ h => h), (fun k' h1 h2 => by omega)⟩)
         clear t0 t1 t2 t0' t1' t2' HF4 HV4 HF3 HV3
         go_loopw [1, 5, 10] (fun v' mo kv wr => ∃ (L' : List It) (mv : Bool) (k : Nat), 1 ≤ k ∧ k ≤ rs.length ∧ mo = .bool mv ∧ kv = .int .i64 k ∧ Hid (KS rs N T l L L' mv rt[x.P].toNat x k) ∧ Hid (FuS w wr B mb q cq fq rs N T v' L') ∧ Hid (XV wr v' xb x)) (fun _ _ kv _ => rs.length + 1 - (intOf kv).toNat)
         case atStart => exact ⟨L, false, 1, by omega, by omega, rfl, rfl, HKS, HF5, HV5⟩
         case round =>
          obtain ⟨L', mv, k, hk1, hk2, rfl, rfl, hks, hfs3, hxv⟩ := hrel
          have t0 := (zaa hfs3).tb.cL
          by_cases hkt : k < rs.length
          ·have HJS := hide (show JS rs N T l L L' mv rt[x.P].toNat x k ss 0 from ⟨zaa hks, fun j hj => by omega⟩)
           go_wp2
           go_loopw [1, 5, 11] (fun v' mo jv wr => ∃ (L' : List It) (mv : Bool) (j : Nat), j ≤ ss.size ∧ mo = .bool mv ∧ jv = .int .i64 j ∧ Hid (JS rs N T l L L' mv rt[x.P].toNat x k ss j) ∧ Hid (FuS w wr B mb q cq fq rs N T v' L') ∧ Hid (XV wr v' xb x)) (fun _ _ jv _ => ss.size + 1 - (intOf jv).toNat)
           case atStart => exact ⟨L', mv, 0, by omega, rfl, rfl, HJS, hfs3, hxv⟩
           case round =>
            obtain ⟨L', mv, j, hj, rfl, rfl, hjs, hfs4, hxv4⟩ := hrel
            clear hks hfs3 hxv HJS
            have s0 := (zaa hfs4).tb.cL
            obtain ⟨kl, hkl⟩ : ∃ kl, (rget rs k).L = kl := ⟨_, rfl⟩
            have s1 : wr.cell? ⟨q, k * 3, none⟩ = some (.int .u8 kl) := by
             rw [((zaa hfs4).tb.ru k hkt).1, ← zbl rs _ hkt, hkl]
            have s2 : wr.cell? ⟨xb, 1, none⟩ = some (.int .i64 x.P) := (zaa hxv4).1.cell 1 (by omega)
            have HKL := hide hkl
            have w0 : (0 : Int) ≤ (k : Int) := by omega
            have w1 : (k : Int) < (rs.length : Int) := by omega
            have w2 : (0 : Int) ≤ (x.P : Int) := by omega
            have w3 : (x.P : Int) < (rt.size : Int) := by omega
            clear hkl
            by_cases hL : kl = rt[x.P].toNat
            ·have hLb : (((kl : Nat) : Int) == (rt[x.P].toNat : Nat)) = true := by rw [beq_iff_eq]; omega
             by_cases hjt : j < ss.size
             ·go_wp2_with fail
              go_quiet (fail)
              generalize hwd : World.drewN wr _ = wq
              have HF6 := hide (show FuS w wq B mb q cq fq rs N T u1 L' from by rw [← hwd]; exact (zaa hfs4).fr (zal _ _))
              have HV6 := hide (show XV wq u1 xb x from by rw [← hwd]; exact (zaa hxv4).fr (zal _ _))
              have hcj := za8 ss j hjt
              have hsg := rlst_get (S := sgS N T (rget rs x.R) (x.P + 1) x.T) (j := j) (by rw [zaa HSs]; exact hjt)
              rw [zaa HSs, hcj] at hsg
              have HA := hide (show Asks rs N T x ⟨k, 0, ss[j].toNat⟩ from ⟨by rw [zaa HRt]; exact hlP, by rw [zaa HRt, zaa hch]; exact hbg, hk1, hkt, by rw [zaa HRt, zaa hch]; exact (zaa HKL).trans hL, rfl, hsg.1, hsg.2⟩)
              have HPut := hide ((zaa hjs).put (zaa HXM) (by rw [hcj]; exact zaa HA) (zaa HT) hlen (zaa HSm))
              rw [hcj] at HPut
              obtain ⟨gv, hgv⟩ : ∃ gv, (!hasK L' ⟨k, 0, ss[j].toNat⟩) = gv := ⟨_, rfl⟩
              rw [hgv] at HPut
              have HGv := hide hgv
              have HLen := hide ((zaa hjs).ks.lp.len hlen (zaa HSm))
              have HYok := hide (((zaa HA).ok (zaa HIO) (zaa HT)).ok hlen (zaa HSm))
              clear hgv hsg hwd hcj hfs4 hxv4 s0 s1 s2
              cases mv <;>
              (go_wp2_with (go_at_call 136; refine (r_put B u1 L' ⟨k, 0, ss[j].toNat⟩ _ (by exact (zaa HF6).row) (fun y hy => ((zaa hjs).ks.lp.ok y hy).ok hlen (zaa HSm)) (zaa HYok) (Nat.le_trans (zaa HLen) (by omega)) (by exact (zaa HF6).hB) (zaa hjs).ks.lp.srt).mono ?_; rintro e w6 ⟨v6, rfl, hrow6, hf6, ho6⟩; rw [zaa HGv]; have HF7 := hide ((zaa HF6).put hf6 hrow6); have HV7 := hide ((zaa HV6).put hf6 ho6); clear hrow6 hf6 ho6)
               go_roundw
               case rel => exact ⟨_, _, j + 1, by omega, rfl, by go_num, HPut, HF7, HV7⟩
               case measure => simp [intOf]; omega)
             ·have HN := hide ((zaa hjs).next (zaa HSs) (fun _ => by omega))
              go_wp2_with fail
              go_quiet (fail)
              go_wp2
              go_roundw
              case rel => exact ⟨L', mv, k + 1, by omega, by omega, rfl, by go_num, HN, hide ((zaa hfs4).fr (zal _ _)), hide ((zaa hxv4).fr (zal _ _))⟩
              case measure => simp [intOf]; omega
            ·have hLb : (((kl : Nat) : Int) == (rt[x.P].toNat : Nat)) = false := by rw [beq_eq_false_iff_ne]; omega
             have HN := hide ((zaa hjs).next (zaa HSs) (fun h => absurd ((zaa HKL).symm.trans h) hL))
             go_wp2_with fail
             go_quiet (fail)
             go_wp2
             go_roundw
             case rel => exact ⟨L', mv, k + 1, by omega, by omega, rfl, by go_num, HN, hide ((zaa hfs4).fr (zal _ _)), hide ((zaa hxv4).fr (zal _ _))⟩
             case measure => simp [intOf]; omega
          ·have HAll := hide ((zaa hks).all (by omega) (by rw [zaa HRt, zaa hch]))
           have HDn := hide (show mv = false → L' = L ∧ ∀ j, j < i + 1 → ∀ y, Asks rs N T (lget L j) y → y ∈ L from fun e => by
            have e' := (zaa hks).eq e
            refine ⟨e', fun j hj y hy => ?_⟩
            by_cases ej : j = i
            ·rw [ej, zaa HX] at hy
             have := zaa HAll y hy
             rw [e'] at this; exact this
            ·exact zaa HDone j (by omega) y hy)
           go_wp2
           go_roundw
           case rel => exact ⟨L', mv, i + 1, by omega, rfl, by go_num, hide (zaa hks).lp, HDn, hide (zaa hks).gt, hfs3⟩
           case measure => simp [intOf]; omega
      ·have HCl := hide (show Closed rs N T L from fun x hx y hy => by
        obtain ⟨j, hj, rfl⟩ := List.getElem_of_mem hx
        rw [← zb6 L j hj] at hy
        exact zaa HDone j (by omega) y hy)
       go_wp2
       go_roundg ((9000 - L.length) * 2)
       case measure => rw [hg]; simp
       case rel => exact ⟨L, false, by simp, rfl, hlp2, (fun _ => zaa HCl), hfs2⟩
     ·have HCl := hide (show Closed rs N T L from fun x hx => by
       have e : L = [] := List.length_eq_zero_iff.1 h0
       rw [e] at hx; cases hx)
      go_wp2
      go_roundg ((9000 - L.length) * 2)
      case measure => omega
      case rel => exact ⟨L, false, by simp, rfl, hlp2, (fun _ => zaa HCl), hfs2⟩
    ·have hgr := zaa htru rfl
     have hL1 := (zaa hlp2).len hlen (zaa HSm)
     clear hfal htru hcl
     have hrow := (zaa hfs2).row
     obtain ⟨g', cap, rfl⟩ | ⟨rfl, h0⟩ : (∃ g cap, u1 = .slice (some ⟨g, 0, none⟩) L.length cap) ∨ (u1 = .slice none 0 0 ∧ L.length = 0) := by
      rcases hrow.2 with ⟨e, h0⟩ | ⟨g, cap, cur, e, _⟩
      ·exact Or.inr ⟨e, h0⟩
      ·exact Or.inl ⟨g, cap, e⟩
     ·clear hrow
      have hlt : i < L.length := by omega
      go_wp2
      go_roundg ((9000 - L.length) * 2 + 1)
      case measure => rw [hg]; simp; omega
      case rel => exact ⟨L, true, by simp, rfl, hlp2, (fun h => by cases h), hfs2⟩
     ·omega
end Go.Proofs.YtkglggkkbmmjkabGreatDoor
namespace Go.Proofs.YtkglggkkbmmjkabGreatDoor
open Go.RowKit
def MvB (rs : List Ru) (c : Nat) (x : It) : Prop := x.P < (rget rs x.R).R.size ∧ ch (rget rs x.R).R x.P = c
def mvI (x : It) : It := ⟨x.R, x.P + 1, x.T⟩
structure zb2 (rs : List Ru) (c : Nat) (l K : List It) : Prop where
 srt : Srt K
 ok : ∀ y ∈ K, IOk rs y
 mem : ∀ y, y ∈ K ↔ ∃ x ∈ l, MvB rs c x ∧ y = mvI x
theorem zb2.nil (rs : List Ru) (c : Nat) : zb2 rs c [] [] := ⟨List.Pairwise.nil, (fun _ h => by cases h), (fun y => by simp)⟩
theorem zb2.skip {rs : List Ru} {c i : Nat} {l K : List It} (h : zb2 rs c (l.take i) K) (hi : i < l.length) (hn : ¬ MvB rs c (lget l i)) : zb2 rs c (l.take (i + 1)) K := by
 refine ⟨h.srt, h.ok, fun y => ?_⟩
 rw [h.mem y, List.take_succ_eq_append_getElem hi]
 constructor
 ·rintro ⟨x, hx, h1, h2⟩
  exact ⟨x, List.mem_append_left _ hx, h1, h2⟩
 ·rintro ⟨x, hx, h1, h2⟩
  rcases List.mem_append.1 hx with hx | hx
  ·exact ⟨x, hx, h1, h2⟩
  ·have : x = l[i] := by simpa using hx
   rw [this, ← zb6 l i hi] at h1
   exact absurd h1 hn
theorem zb2.put {rs : List Ru} {c i : Nat} {l K : List It} (h : zb2 rs c (l.take i) K) (hi : i < l.length) (hm : MvB rs c (lget l i)) (hok : IOk rs (lget l i)) (hl : rs.length ≤ 9) (hs : ∀ i (h : i < rs.length), rs[i].R.size ≤ 4) : zb2 rs c (l.take (i + 1)) (putL K (mvI (lget l i))) := by
 have hy : IOk rs (mvI (lget l i)) := ⟨hok.1, hm.1, hok.2.2⟩
 refine ⟨putL_srt _ _ h.srt, fun y hy' => ?_, fun y => ?_⟩
 ·rcases putL_mem _ _ _ hy' with h1 | rfl
  ·exact h.ok y h1
  ·exact hy
 ·rw [List.take_succ_eq_append_getElem hi]
  constructor
  ·intro h1
   rcases putL_mem _ _ _ h1 with h1 | rfl
   ·obtain ⟨x, hx, h2, h3⟩ := (h.mem y).1 h1
    exact ⟨x, List.mem_append_left _ hx, h2, h3⟩
   ·exact ⟨lget l i, List.mem_append_right _ (by rw [zb6 l i hi]; exact List.mem_singleton.2 rfl), hm, rfl⟩
  ·rintro ⟨x, hx, h2, rfl⟩
   rcases List.mem_append.1 hx with hx | hx
   ·exact putL_sub _ _ _ ((h.mem _).2 ⟨x, hx, h2, rfl⟩)
   ·have e : x = l[i] := by simpa using hx
    rw [e, ← zb6 l i hi]
    exact putL_in h.ok hy hl hs
theorem zb2.len {rs : List Ru} {c : Nat} {l K : List It} (h : zb2 rs c l K) (hl : rs.length ≤ 9) (hs : ∀ i (h : i < rs.length), rs[i].R.size ≤ 4) : K.length ≤ 8832 := by
 have := srt_len K 0 8832 h.srt (fun x hx => ⟨Nat.zero_le _, ((h.ok x hx).ok hl hs).key_lt⟩)
 omega
theorem r_put_mv (B : Nat) (v : Value) (l : List It) (x : It) (w : World) (h : IRow w B v l) (hok : ∀ y ∈ l, y.ok) (hx : (mvI x).ok) (hn : l.length ≤ 10000) (hB : B ≤ w.heap.size) (hs : Srt l) :
 Calls Tryz.prog 136 #[v, .agg #[.int .i64 x.R, .int .i64 ((x.P : Int) + 1), .int .u8 x.T]] w fun e w' => ∃ v', e = .returned (.tuple #[v', .bool (!hasK l (mvI x))]) ∧ IRow w' B v' (putL l (mvI x)) ∧ Fr v.ownBlock.toList w w' ∧ (∀ g', v'.ownBlock = some g' → v.ownBlock = some g' ∨ w.heap.size ≤ g') := by
 have := r_put B v l (mvI x) w h hok hx hn hB hs
 rw [show (((mvI x).P : Nat) : Int) = (x.P : Int) + 1 from by unfold mvI; simp] at this
 exact this
def StepOut (w : World) (mb q cq fq : Nat) (rs : List Ru) (N : Nat → Bool) (T : Nat → Nat → Bool) (c : Nat) (l : List It) (e : Ending) (w' : World) : Prop :=
 ∃ v' K L, e = .returned v' ∧ zb2 rs c l K ∧ zb9 rs N T K L ∧ FuS w w' w.heap.size mb q cq fq rs N T v' L
set_option maxRecDepth 100000 in
set_option maxHeartbeats 8000000 in
theorem r_step (mb q cq fq gl cl c : Nat) (rs : List Ru) (N : Nat → Bool) (T : Nat → Nat → Bool) (l : List It) (w : World) (h : TB w mb q cq fq rs N T) (hl : ItAt w gl l) (hg : gl < w.heap.size)
 (hT : ∀ c x, x < 128 → T c x = true → zai x = true) (hok : ∀ y ∈ l, IOk rs y) (hn : l.length ≤ 10000) :
 Calls Tryz.prog 117 #[.pointer (some ⟨mb, 0, none⟩), .slice (some ⟨gl, 0, none⟩) l.length cl, .int .u8 c] w fun e w' => StepOut w mb q cq fq rs N T c l e w' := by
 have hlen := h.len
 have HSm := hide h.small
 have HT := hide hT
 have HOk := hide hok
 have HIt := hide hl
 have HS0 := hide (show FuS w w w.heap.size mb q cq fq rs N T (.slice none 0 0) [] from ⟨Below.refl _ _, h, World.ownsRow_nil _ _ _ _, Nat.le_refl _, h.cN.lt, h.lt, h.fT.lt⟩)
 clear h hT hok hl
 go_enter Tryz.func117, Tryz.ntmps117
 go_wp2
 go_loopw [7, 8] (fun v' iv wr => ∃ (K : List It) (i : Nat), i ≤ l.length ∧ iv = .int .i64 i ∧ Hid (zb2 rs c (l.take i) K) ∧ Hid (FuS w wr w.heap.size mb q cq fq rs N T v' K)) (fun _ iv _ => l.length - (intOf iv).toNat)
 case atStart => exact ⟨[], 0, by omega, rfl, zb2.nil rs c, HS0⟩
 case round =>
  obtain ⟨K, i, hi, rfl, hk, hfs⟩ := hrel
  by_cases hlt : i < l.length
  ·obtain ⟨x, hx⟩ : ∃ x, lget l i = x := ⟨_, rfl⟩
   obtain ⟨c0, c1, c2⟩ := (zaa HIt).below (zaa hfs).below hg i hlt
   rw [hx] at c0 c1 c2
   have HX := hide hx
   have HIO := hide (show IOk rs x from by rw [← hx, zb6 l i hlt]; exact zaa HOk _ (List.getElem_mem hlt))
   obtain ⟨hxR, hxP, _⟩ := zaa HIO
   obtain ⟨rt, hrt⟩ : ∃ rt, (rget rs x.R).R = rt := ⟨_, rfl⟩
   have HRt := hide hrt
   have hrs4 : rt.size ≤ 4 := by rw [← hrt, zbl rs _ hxR]; exact zaa HSm _ hxR
   rw [hrt] at hxP
   have t0 := (zaa hfs).tb.cL
   have t2 : wr.cell? ⟨q, x.R * 3 + 1, none⟩ = some (.string rt) := by
    rw [((zaa hfs).tb.ru x.R hxR).2.1, ← zbl rs _ hxR, hrt]
   have v0 : (0 : Int) ≤ (x.R : Int) := by omega
   have v1 : (x.R : Int) < (rs.length : Int) := by omega
   clear hx hrt
   by_cases hlP : x.P < rt.size
   ·have hch := hide (za8 rt x.P hlP)
    by_cases hc : rt[x.P].toNat = c
    ·have hcb : (((rt[x.P].toNat : Nat) : Int) == (c : Nat)) = true := by rw [beq_iff_eq]; omega
     go_wp2_with fail
     go_quiet (fail)
     go_wp2_with fail
     generalize hwd : World.drewN wr _ = wq
     have HFq := hide (show FuS w wq w.heap.size mb q cq fq rs N T u7 K from by rw [← hwd]; exact (zaa hfs).fr (zal _ _))
     obtain ⟨d0, d1, d2⟩ := (zaa HIt).below (zaa HFq).below hg i hlt
     rw [zaa HX] at d0 d1 d2
     have HMv := hide (show MvB rs c (lget l i) from by rw [zaa HX]; exact ⟨by rw [zaa HRt]; exact hlP, by rw [zaa HRt, zaa hch]; exact hc⟩)
     have HN := hide ((zaa hk).put hlt (zaa HMv) (by rw [zaa HX]; exact zaa HIO) hlen (zaa HSm))
     rw [zaa HX] at HN
     have HYok := hide (show (mvI x).ok from IOk.ok (rs := rs) ⟨hxR, by show x.P + 1 ≤ (rget rs x.R).R.size; rw [zaa HRt]; exact hlP, (zaa HIO).2.2⟩ hlen (zaa HSm))
     have HLen := hide ((zaa hk).len hlen (zaa HSm))
     have hgn : gl ∉ u7.ownBlock.toList := fun hm => by
      have := ((zaa HFq).row.own (by simpa using hm)).1
      omega
     have hwp : IntKind.i64.wrap ((x.P : Int) + 1) = (x.P : Int) + 1 := by rw [IntKind.wrap_i64]; omega
     clear c0 c1 c2 t0 t2 hwd hfs
     go_region_held3 (fun w' => w'.cell? ⟨gl, i * 3, none⟩ = some (.int .i64 x.R) ∧ w'.cell? ⟨gl, i * 3 + 1, none⟩ = some (.int .i64 x.P) ∧ w'.cell? ⟨gl, i * 3 + 2, none⟩ = some (.int .u8 x.T)) (first | (exact ⟨d0, d1, d2⟩) | (exact ⟨hf6.cell (by exact d0) hgn, hf6.cell (by exact d1) hgn, hf6.cell (by exact d2) hgn⟩)) ((go_at_call 136; refine (r_put_mv w.heap.size u7 K x _ (by exact ((zaa HFq).fr ((Fr.refl [] _).drew)).row) (fun y hy => ((zaa hk).ok y hy).ok hlen (zaa HSm)) (zaa HYok) (Nat.le_trans (zaa HLen) (by omega)) (by exact (zaa HFq).hB) (zaa hk).srt).mono ?_; rintro e w6 ⟨v6, rfl, hrow6, hf6, ho6⟩))
     have HF6 := hide (((zaa HFq).fr ((Fr.refl [] _).drew)).put hf6 hrow6)
     clear hf6 hrow6 ho6
     go_wp2
     go_roundw
     case rel => exact ⟨_, i + 1, by omega, by go_num, HN, HF6⟩
     case measure => simp [intOf]; omega
    ·have hcb : (((rt[x.P].toNat : Nat) : Int) == (c : Nat)) = false := by rw [beq_eq_false_iff_ne]; omega
     have HN := hide ((zaa hk).skip hlt (by rw [zaa HX]; intro h; exact hc (by rw [← zaa hch, ← zaa HRt]; exact h.2)))
     go_wp2_with fail
     go_quiet (fail)
     go_wp2
     go_roundw
     case rel => exact ⟨K, i + 1, by omega, by go_num, HN, hide ((zaa hfs).fr (zal _ _))⟩
     case measure => simp [intOf]; omega
   ·have HN := hide ((zaa hk).skip hlt (by rw [zaa HX]; intro h; exact hlP (by rw [← zaa HRt]; exact h.1)))
    go_wp2_with fail
    go_quiet (fail)
    go_wp2
    go_roundw
    case rel => exact ⟨K, i + 1, by omega, by go_num, HN, hide ((zaa hfs).fr (zal _ _))⟩
    case measure => simp [intOf]; omega
  ·have HK := hide (show zb2 rs c l K from by have := zaa hk; rw [List.take_of_length_le (by omega)] at this; exact this)
   clear hk
   go_wp2_with (go_at_call 115; refine (r_full w.heap.size mb q cq fq rs N T u7 K _ (by exact (zaa hfs).tb) (by exact (zaa hfs).row) (by exact (zaa hfs).hB) (zaa hfs).hm (zaa hfs).hq (zaa hfs).hf (zaa HT) (zaa HK).srt (zaa HK).ok).mono ?_; rintro e w2 ⟨v2, L2, rfl, hfo, hfs2⟩; have HFO := hide hfo; have HF2 := hide (show FuS w w2 w.heap.size mb q cq fq rs N T v2 L2 from ⟨(zaa hfs).below.trans hfs2.below, hfs2.tb, hfs2.row, hfs2.hB, hfs2.hm, hfs2.hq, hfs2.hf⟩); clear hfo hfs2)
   go_ret
   exact ⟨_, K, L2, rfl, zaa HK, zaa HFO, zaa HF2⟩
end Go.Proofs.YtkglggkkbmmjkabGreatDoor
namespace Go.Proofs.YtkglggkkbmmjkabGreatDoor
open Go.RowKit
theorem Tryz.infoItems : (Tryz.prog.info? 178).map (fun i => (i.zero, i.size, i.bytes)) = some (some (.slice none 0 0), 1, 24) := by kernel_rfl
structure Sl where
 g : Nat
 c : Nat
 l : List It
def slV (s : Sl) : Value := .slice (some ⟨s.g, 0, none⟩) s.l.length s.c
structure SAt (w : World) (Bs mb : Nat) (vS : Value) (ls : List Sl) : Prop where
 cell : w.cell? ⟨mb, 130, none⟩ = some vS
 free : w.frozen? ⟨mb, 130, none⟩ = false
 own : w.ownsRow Bs 178 1 vS ls.length (ls.map slV)
 its : ∀ s ∈ ls, ItAt w s.g s.l ∧ s.g < w.heap.size ∧ s.l.length ≤ 10000 ∧ vS.ownBlock ≠ some s.g ∧ s.g ≠ mb
 base : mb < Bs
 small : ls.length ≤ 50
theorem Fr.frozen {S : List Nat} {w w' : World} (k : Fr S w w') {b o : Nat} (hb : b ∉ S) (hlt : b < w.heap.size) : w'.frozen? ⟨b, o, none⟩ = w.frozen? ⟨b, o, none⟩ := by
 unfold World.frozen?
 rw [k.block b hlt hb]
theorem SAt.fr {S : List Nat} {w w' : World} {Bs mb : Nat} {vS : Value} {ls : List Sl} (h : SAt w Bs mb vS ls) (k : Fr S w w') (hm : mb ∉ S) (ho : ∀ g, vS.ownBlock = some g → g ∉ S) (hi : ∀ s ∈ ls, s.g ∉ S) : SAt w' Bs mb vS ls :=
 ⟨k.cell h.cell hm, by rw [k.frozen hm (World.block_lt_of_cell? w ⟨mb, 130, none⟩ h.cell)]; exact h.free, zas h.own k ho, fun s hs => ⟨(h.its s hs).1.fr k (hi s hs), Nat.lt_of_lt_of_le (h.its s hs).2.1 k.size, (h.its s hs).2.2⟩, h.base, h.small⟩
theorem SAt.fr0 {w w' : World} {Bs mb : Nat} {vS : Value} {ls : List Sl} (h : SAt w Bs mb vS ls) (k : Fr [] w w') : SAt w' Bs mb vS ls := h.fr k (by simp) (by simp) (by simp)
theorem slV_get {w : World} {Bs gS n cS : Nat} {ls : List Sl} (h : w.ownsRow Bs 178 1 (.slice (some ⟨gS, 0, none⟩) n cS) ls.length (ls.map slV)) (i : Nat) (hi : i < ls.length) : w.cell? ⟨gS, i, none⟩ = some (slV ls[i]) := by
 obtain ⟨h1, h2⟩ := h
 rcases h2 with ⟨h2, _⟩ | ⟨g', cap', cur, hv, hg, hh, hle, hmx, hsz, htk⟩
 ·cases h2
 ·cases hv
  have e : (ls.map slV)[i]? = some (slV ls[i]) := by simp [hi]
  rw [← htk, List.getElem?_take, if_pos (by omega), Array.getElem?_toList] at e
  have hlt : i < cur.size := by omega
  simp only [World.cell?, hh]
  simpa using e
def numI (ls : List Sl) (l : List It) : Option Nat := ls.findIdx? fun s => eqL s.l l
theorem numI_some {ls : List Sl} {l : List It} {i : Nat} (hi : i < ls.length) (h : eqL ls[i].l l = true) (hb : ∀ j (hj : j < ls.length), j < i → eqL ls[j].l l = false) : numI ls l = some i := by
 unfold numI
 rw [List.findIdx?_eq_some_iff_getElem]
 exact ⟨hi, h, fun j hj => by rw [hb j (by omega) hj]; simp⟩
theorem numI_none {ls : List Sl} {l : List It} (hb : ∀ j (hj : j < ls.length), eqL ls[j].l l = false) : numI ls l = none := by
 unfold numI
 rw [List.findIdx?_eq_none_iff]
 intro s hs
 obtain ⟨j, hj, rfl⟩ := List.getElem_of_mem hs
 exact hb j hj
def NumOut (w : World) (Bs mb : Nat) (vS : Value) (ls : List Sl) (g cap : Nat) (l : List It) (e : Ending) (w' : World) : Prop :=
 (∀ i, numI ls l = some i → e = .returned (.int .i64 i) ∧ Fr [] w w') ∧
 (numI ls l = none → e = .returned (.int .i64 ls.length) ∧ ∃ vS' w1, SAt w' Bs mb vS' (ls ++ [⟨g, cap, l⟩]) ∧ Fr vS.ownBlock.toList w w1 ∧ w' = w1.setCell ⟨mb, 130, none⟩ vS' ∧ (∀ g', vS'.ownBlock = some g' → vS.ownBlock = some g' ∨ w.heap.size ≤ g'))
set_option maxRecDepth 100000 in
set_option maxHeartbeats 4000000 in
theorem r_number_some (Bs mb gS cS : Nat) (ls : List Sl) (g cap : Nat) (l : List It) (w : World) (h : SAt w Bs mb (.slice (some ⟨gS, 0, none⟩) ls.length cS) ls) (hl : ItAt w g l) (hg : g < w.heap.size) (hgS : g ≠ gS) (hgm : g ≠ mb) (hn : l.length ≤ 10000) (hB : Bs ≤ w.heap.size) (hsm : ls.length ≤ 48) :
 Calls Tryz.prog 116 #[.pointer (some ⟨mb, 0, none⟩), .slice (some ⟨g, 0, none⟩) l.length cap] w fun e w' => NumOut w Bs mb (.slice (some ⟨gS, 0, none⟩) ls.length cS) ls g cap l e w' := by
 obtain ⟨i0, hi0, hz0, hz1, hz2⟩ := info_parts Tryz.infoItems
 have H := hide h
 have HL := hide hl
 clear h hl
 go_enter Tryz.func116, Tryz.ntmps116
 go_wp2
 go_loopw [5] (fun iv wr => ∃ i : Nat, i ≤ ls.length ∧ iv = .int .i64 i ∧ Hid (∀ j (hj : j < ls.length), j < i → eqL ls[j].l l = false) ∧ Hid (Fr [] w wr)) (fun iv _ => ls.length - (intOf iv).toNat)
 case atStart => exact ⟨0, by omega, rfl, fun j _ hj => by omega, Fr.refl _ _⟩
 case round =>
  obtain ⟨i, hi, rfl, hd, hf⟩ := hrel
  have HSr := hide ((zaa H).fr0 (zaa hf))
  have c0 := (zaa HSr).cell
  by_cases hlt : i < ls.length
  ·have c1 := slV_get (zaa HSr).own i hlt
   unfold slV at c1
   obtain ⟨m1, m2, m3, m4, m5⟩ := (zaa HSr).its ls[i] (List.getElem_mem hlt)
   have HI := hide m1
   have HLr := hide ((zaa HL).fr0 (zaa hf))
   cases he : eqL ls[i].l l
   ·have HN := hide (show ∀ j (hj : j < ls.length), j < i + 1 → eqL ls[j].l l = false from fun j hj h1 => by
     by_cases e : j = i
     ·subst e; exact he
     ·exact zaa hd j hj (by omega))
    have HE := hide he
    clear hd m1 m2 m4 m5 he
    go_wp2_with (go_at_call 137; refine (r_same _ _ _ _ ls[i].l l _ (by exact zaa HI) (by exact zaa HLr) m3).mono ?_; rintro e w2 ⟨rfl, hf2⟩; rw [zaa HE]; have HF2 := hide ((zaa hf).trans0 hf2); clear hf2)
    go_roundw
    case rel => exact ⟨i + 1, by omega, by go_num, HN, HF2⟩
    case measure => simp [intOf]; omega
   ·have HN := hide (numI_some hlt he (fun j hj h1 => zaa hd j hj h1))
    have HE := hide he
    clear hd m1 m2 m4 m5 he
    go_wp2_with (go_at_call 137; refine (r_same _ _ _ _ ls[i].l l _ (by exact zaa HI) (by exact zaa HLr) m3).mono ?_; rintro e w2 ⟨rfl, hf2⟩; rw [zaa HE]; have HF2 := hide ((zaa hf).trans0 hf2); clear hf2)
    go_ret
    exact ⟨fun j hj => by rw [zaa HN] at hj; cases hj; exact ⟨rfl, zaa HF2⟩, fun hj => by rw [zaa HN] at hj; cases hj⟩
  ·have HN := hide (show numI ls l = none from numI_none (fun j hj => zaa hd j hj (by omega)))
   clear hd
   have hgB : Bs ≤ gS := ((zaa H).own.lt gS rfl).1
   have hmB := (zaa H).base
   have hmw : mb < w.heap.size := World.block_lt_of_cell? w ⟨mb, 130, none⟩ (zaa H).cell
   have HFa := hide (zaa hf)
   go_wp2_with (at_builtin; refine wpList_append_lies _ rfl (.tmp 29) (.tmp 31) 127 rfl Bs 178 i0 _ 1 24 Tryz.underlying127 hi0 hz0 hz1 hz2 rfl (by omega) (.slice (some ⟨gS, 0, none⟩) ls.length cS) ls.length (ls.map slV) rfl (by exact (zaa HSr).own.alloc _) _ 1 1 [.slice (some ⟨g, 0, none⟩) l.length cap] rfl rfl (World.news_of_block (cs := #[.slice (some ⟨g, 0, none⟩) l.length cap]) (t := 178) (fr := (0, 0)) (heap_alloc_new _ _)) (by simp [Value.oneCell']) (by omega) (by unfold maxLen; omega) (by omega) (by have := (zaa HFa).size; simp; omega) _ rfl ?_; intro g2 c2 w3 hown3 hgrow3 hat3 hlt3; have k3 : Fr [gS] w w3 := Fr.of_grown (((zaa HFa).alloc _).weak (by simp)) hgrow3 (fun k hk => by simp [Value.ownBlock] at hk; simp; omega); have d0 := k3.cell (zaa H).cell (by simp; omega); have z0 := (k3.frozen (o := 130) (by simp; omega) hmw).trans (zaa H).free; have HK3 := hide k3; have HO3 := hide (And.intro hown3 hat3); clear hown3 hgrow3 hat3 hlt3 k3)
   have hat : g2 = gS ∨ w.heap.size ≤ g2 := by
    have h2 := (zaa HFa).size
    rcases (zaa HO3).2 with h | h
    ·simp [Value.ownBlock] at h; omega
    ·have h' := h; first | (simp at h'; omega) | omega
   have hg2 : Bs ≤ g2 := ((zaa HO3).1.lt g2 rfl).1
   have KM := (Fr.refl [mb] w3).setCell ⟨mb, 130, none⟩ (by simp) (.slice (some ⟨g2, 0, none⟩) (ls.length + 1) c2)
   have HFin := hide (show SAt (w3.setCell ⟨mb, 130, none⟩ (.slice (some ⟨g2, 0, none⟩) (ls.length + 1) c2)) Bs mb (.slice (some ⟨g2, 0, none⟩) (ls.length + 1) c2) (ls ++ [⟨g, cap, l⟩]) from by
    refine ⟨World.cell?_setCell_same _ _ _ d0, by simpa using z0, ?_, fun s hs => ?_, hmB, by simp; omega⟩
    ·rw [List.map_append, List.length_append]
     exact zas (zaa HO3).1 KM (fun x hx => by simp [Value.ownBlock] at hx; simp; omega)
    ·have hor : (.slice (some ⟨g2, 0, none⟩) (ls.length + 1) c2 : Value).ownBlock = some g2 := rfl
     rcases List.mem_append.1 hs with hs | hs
     ·obtain ⟨m1, m2, m3, m4, m5⟩ := (zaa H).its s hs
      have m4' : s.g ≠ gS := fun e => m4 (by rw [e]; rfl)
      exact ⟨(m1.fr (zaa HK3) (by simpa using m4')).fr KM (by simpa using m5), Nat.lt_of_lt_of_le m2 (Nat.le_trans (zaa HK3).size KM.size), m3, by rw [hor]; intro e; cases e; omega, m5⟩
     ·have e : s = ⟨g, cap, l⟩ := by simpa using hs
      subst e
      exact ⟨((zaa HL).fr (zaa HK3) (by simpa using hgS)).fr KM (by simpa using hgm), Nat.lt_of_lt_of_le hg (Nat.le_trans (zaa HK3).size KM.size), hn, by rw [hor]; intro e; exact absurd (Option.some.inj e) (by show ¬ g2 = g; omega), hgm⟩)
   clear KM
   go_ret
   exact ⟨(fun j hj => by rw [zaa HN] at hj; cases hj), fun _ => ⟨rfl, _, w3, zaa HFin, zaa HK3, rfl, fun g' hg' => by
    have e : g2 = g' := by simpa [Value.ownBlock] using hg'
    rcases hat with h | h
    ·exact Or.inl (by rw [← e, h]; rfl)
    ·exact Or.inr (by omega)⟩⟩
set_option maxRecDepth 100000 in
set_option maxHeartbeats 4000000 in
theorem r_number_nil (Bs mb : Nat) (g cap : Nat) (l : List It) (w : World) (h : SAt w Bs mb (.slice none 0 0) []) (hl : ItAt w g l) (hg : g < w.heap.size) (hgm : g ≠ mb) (hn : l.length ≤ 10000) (hB : Bs ≤ w.heap.size) :
 Calls Tryz.prog 116 #[.pointer (some ⟨mb, 0, none⟩), .slice (some ⟨g, 0, none⟩) l.length cap] w fun e w' => NumOut w Bs mb (.slice none 0 0) [] g cap l e w' := by
 obtain ⟨i0, hi0, hz0, hz1, hz2⟩ := info_parts Tryz.infoItems
 have H := hide h
 have HL := hide hl
 clear h hl
 go_enter Tryz.func116, Tryz.ntmps116
 go_wp2
 go_loopw [5] (fun iv wr => iv = .int .i64 0 ∧ Hid (Fr [] w wr)) (fun _ _ => 0)
 case atStart => exact ⟨rfl, Fr.refl _ _⟩
 case round =>
  obtain ⟨rfl, hf⟩ := hrel
  have HSr := hide ((zaa H).fr0 (zaa hf))
  have c0 := (zaa HSr).cell
  have hmB := (zaa H).base
  have hmw : mb < w.heap.size := World.block_lt_of_cell? w ⟨mb, 130, none⟩ (zaa H).cell
  have HFa := hide (zaa hf)
  go_wp2_with (at_builtin; refine wpList_append_lies _ rfl (.tmp 29) (.tmp 31) 127 rfl Bs 178 i0 _ 1 24 Tryz.underlying127 hi0 hz0 hz1 hz2 rfl (by omega) (.slice none 0 0) 0 [] rfl (World.ownsRow_nil _ _ _ _) _ 1 1 [.slice (some ⟨g, 0, none⟩) l.length cap] rfl rfl (World.news_of_block (cs := #[.slice (some ⟨g, 0, none⟩) l.length cap]) (t := 178) (fr := (0, 0)) (heap_alloc_new _ _)) (by simp [Value.oneCell']) (by omega) (by unfold maxLen; omega) (by omega) (by have := (zaa HFa).size; simp; omega) _ rfl ?_; intro g2 c2 w3 hown3 hgrow3 hat3 hlt3; have k3 : Fr [] w w3 := Fr.of_grown ((zaa HFa).alloc _) hgrow3 (fun k hk => by simp [Value.ownBlock] at hk); have d0 := k3.cell (zaa H).cell (by simp); have z0 := (k3.frozen (o := 130) (by simp) hmw).trans (zaa H).free; have HK3 := hide k3; have HO3 := hide (And.intro hown3 hat3); clear hown3 hgrow3 hat3 hlt3 k3)
  have hat : w.heap.size ≤ g2 := by
   have h2 := (zaa HFa).size
   rcases (zaa HO3).2 with h | h
   ·simp [Value.ownBlock] at h
   ·have h' := h; first | (simp at h'; omega) | omega
  have hg2 : Bs ≤ g2 := ((zaa HO3).1.lt g2 rfl).1
  have KM := (Fr.refl [mb] w3).setCell ⟨mb, 130, none⟩ (by simp) (.slice (some ⟨g2, 0, none⟩) 1 c2)
  have HFin := hide (show SAt (w3.setCell ⟨mb, 130, none⟩ (.slice (some ⟨g2, 0, none⟩) 1 c2)) Bs mb (.slice (some ⟨g2, 0, none⟩) 1 c2) [⟨g, cap, l⟩] from by
   refine ⟨World.cell?_setCell_same _ _ _ d0, by simpa using z0, ?_, fun s hs => ?_, hmB, by simp⟩
   ·exact zas (zaa HO3).1 KM (fun x hx => by simp [Value.ownBlock] at hx; simp; omega)
   ·have hor : (.slice (some ⟨g2, 0, none⟩) 1 c2 : Value).ownBlock = some g2 := rfl
    have e : s = ⟨g, cap, l⟩ := by simpa using hs
    subst e
    exact ⟨((zaa HL).fr0 (zaa HK3)).fr KM (by simpa using hgm), Nat.lt_of_lt_of_le hg (Nat.le_trans (zaa HK3).size KM.size), hn, by rw [hor]; intro e; exact absurd (Option.some.inj e) (by show ¬ g2 = g; omega), hgm⟩)
  clear KM
  go_ret
  exact ⟨(fun j hj => by cases hj), fun _ => ⟨rfl, _, w3, zaa HFin, zaa HK3, rfl, fun g' hg' => by
   have e : g2 = g' := by simpa [Value.ownBlock] using hg'
   exact Or.inr (by omega)⟩⟩
theorem r_number (Bs mb : Nat) (vS : Value) (ls : List Sl) (g cap : Nat) (l : List It) (w : World) (h : SAt w Bs mb vS ls) (hl : ItAt w g l) (hg : g < w.heap.size) (hgS : vS.ownBlock ≠ some g) (hgm : g ≠ mb) (hn : l.length ≤ 10000) (hB : Bs ≤ w.heap.size) (hsm : ls.length ≤ 48) :
 Calls Tryz.prog 116 #[.pointer (some ⟨mb, 0, none⟩), .slice (some ⟨g, 0, none⟩) l.length cap] w fun e w' => NumOut w Bs mb vS ls g cap l e w' := by
 have h' := h
 rcases h.own.2 with ⟨rfl, h0⟩ | ⟨gS, cS, cur, rfl, _⟩
 ·have e : ls = [] := List.length_eq_zero_iff.1 h0
  subst e
  exact r_number_nil Bs mb g cap l w h' hl hg hgm hn hB
 ·exact r_number_some Bs mb gS cS ls g cap l w h' hl hg (fun e => hgS (by rw [e]; rfl)) hgm hn hB hsm
end Go.Proofs.YtkglggkkbmmjkabGreatDoor
