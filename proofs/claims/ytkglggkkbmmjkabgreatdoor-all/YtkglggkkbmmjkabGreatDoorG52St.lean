import Derived.Test.YtkglggkkbmmjkabGreatDoorG47PRdT
import Derived.Deep.RegionHeld3
namespace Go.Proofs.YtkglggkkbmmjkabGreatDoor
open Go.RowKit
/-! What can come, asked letter by letter. -/
theorem mem_extract {t : ByteArray} {a b c : Nat} (hb : b ≤ t.size) (h : c ∈ bytes (t.extract a b)) : c ∈ bytes t := by
 obtain ⟨j, hj, e⟩ := List.getElem_of_mem h
 have hs : (t.extract a b).size = b - a := by rw [ByteArray.size_extract]; omega
 rw [zah, hs] at hj
 rw [za5, zcf t a b j hj hb] at e
 have hl : a + j < (bytes t).length := by rw [zah]; omega
 have := List.getElem_mem hl
 rw [za5, e] at this
 exact this
def InRu (t : ByteArray) (r : Ru) : Prop := ∀ c ∈ bytes r.R, c ∈ bytes t
theorem parse_in (t : ByteArray) : ∀ f i acc, (∀ r ∈ acc, InRu t r) → ∀ r ∈ (zad t f i acc).1, InRu t r
 | 0, i, acc, h => by simp [zad]; exact h
 | f + 1, i, acc, h => by
  by_cases h0 : i < t.size ∧ bigB (ch t i) = true
  ·by_cases h1 : i + 1 < t.size ∧ ch t (i + 1) = 61
   ·have hb := zcj t 4 (i + 2)
    have hn : ∀ r ∈ acc ++ [⟨ch t i, t.extract (i + 2) (zam t 4 (i + 2)), i⟩], InRu t r := by
     intro r hr
     rcases List.mem_append.1 hr with hr | hr
     ·exact h r hr
     ·rw [List.mem_singleton.1 hr]
      intro c hc
      exact mem_extract (by omega) hc
    by_cases h2 : zam t 4 (i + 2) < t.size
    ·by_cases h3 : f = 0 ∨ ch t (zam t 4 (i + 2)) ≠ 59
     ·rw [zcc t f i acc h0 h1 h2 h3]; exact hn
     ·rw [parse_more t f i acc h0 h1 h2 h3]
      exact parse_in t f (zam t 4 (i + 2) + 1) _ hn
    ·rw [parse_end t f i acc h0 h1 h2]; exact hn
   ·rw [parse_bad1 t f i acc h0 h1]; exact h
  ·rw [parse_bad0 t f i acc h0]; exact h
theorem ds_in {L : List Ru} {l w x : List Nat} {n : Nat} (h : Ds L l w x n) : ∀ c ∈ w, c ∈ l ∨ ∃ k, 1 ≤ k ∧ k < L.length ∧ c ∈ bytes (rget L k).R := by
 induction h with
 | nil => intro c hc; cases hc
 | small _ _ ih =>
  intro c hc
  rcases List.mem_cons.1 hc with rfl | hc
  ·exact Or.inl (List.mem_cons_self ..)
  ·rcases ih c hc with h | h
   ·exact Or.inl (List.mem_cons_of_mem _ h)
   ·exact Or.inr h
 | @big k _ _ _ _ _ _ _ k1 k2 _ _ ih1 ih2 =>
  intro c hc
  rcases List.mem_append.1 hc with hc | hc
  ·rcases ih1 c hc with h | h
   ·exact Or.inr ⟨k, k1, k2, h⟩
   ·exact Or.inr h
  ·rcases ih2 c hc with h | h
   ·exact Or.inl (List.mem_cons_of_mem _ h)
   ·exact Or.inr h
theorem good_in {t : ByteArray} {S a : Nat} {v : List Nat} (hS : bigB S = true) (h : GoodW (rul (zad t 8 0 []).1) S (v ++ [a])) (ha : zai a = true) : a ∈ bytes t := by
 obtain ⟨z, x, n, hd⟩ := h
 rcases ds_in hd a (by simp) with h | ⟨k, k1, k2, h⟩
 ·rw [List.mem_singleton.1 h, zbi hS] at ha; cases ha
 ·exact parse_in t 8 0 [] (by simp) _ (rul_is k1 k2) a h
theorem bytes_app (a b : ByteArray) : bytes (a ++ b) = bytes a ++ bytes b := by
 unfold bytes
 simp [ByteArray.data_append]
theorem bytes_ext (s : ByteArray) (a b : Nat) : bytes (s.extract a b) = ((bytes s).take b).drop a := by
 unfold bytes
 simp [ByteArray.data_extract, List.extract_eq_drop_take', List.map_drop, List.map_take]
structure SgS (t : ByteArray) (S : Nat) (v : List Nat) (b0 : Bool) (B : Nat → Bool) (i : Nat) : Prop where
 e : B 36 = b0
 so : ∀ x, x ≠ 36 → B x = true → zai x = true ∧ GoodW (rul (zad t 8 0 []).1) S (v ++ [x])
 cl : ∀ x, zai x = true → x ∈ (bytes t).take i → GoodW (rul (zad t 8 0 []).1) S (v ++ [x]) → B x = true
theorem SgS.new {t : ByteArray} {S : Nat} {v : List Nat} {b0 : Bool} : SgS t S v b0 (fun x => decide (x = 36) && b0) 0 :=
 ⟨by simp, fun x hx h => by simp [hx] at h, fun x _ h => by simp at h⟩
theorem SgS.skip {t : ByteArray} {S : Nat} {v : List Nat} {b0 : Bool} {B : Nat → Bool} {i : Nat} (h : SgS t S v b0 B i) (hi : i < t.size) (hc : zai (ch t i) = true → B (ch t i) = true) : SgS t S v b0 B (i + 1) :=
 ⟨h.e, h.so, fun x hx hm hg => by
   rw [zb1 t i hi] at hm
   rcases List.mem_append.1 hm with hm | hm
   ·exact h.cl x hx hm hg
   ·have e := List.mem_singleton.1 hm
    subst e; exact hc hx⟩
theorem SgS.put {t : ByteArray} {S : Nat} {v : List Nat} {b0 u : Bool} {B : Nat → Bool} {i : Nat} (h : SgS t S v b0 B i) (hi : i < t.size) (hs : zai (ch t i) = true) (hu : u = true ↔ GoodW (rul (zad t 8 0 []).1) S (v ++ [ch t i])) : SgS t S v b0 (fun x => if x = ch t i then u else B x) (i + 1) := by
 have hne : 36 ≠ ch t i := fun e => by rw [← e] at hs; cases hs
 refine ⟨by rw [if_neg hne]; exact h.e, fun x hx hb => ?_, fun x hx hm hg => ?_⟩
 ·by_cases e : x = ch t i
  ·rw [if_pos e] at hb
   subst e
   exact ⟨hs, hu.1 hb⟩
  ·rw [if_neg e] at hb; exact h.so x hx hb
 ·by_cases e : x = ch t i
  ·rw [if_pos e]; subst e; exact hu.2 hg
  ·rw [if_neg e]
   rw [zb1 t i hi] at hm
   rcases List.mem_append.1 hm with hm | hm
   ·exact h.cl x hx hm hg
   ·exact absurd (List.mem_singleton.1 hm) e
theorem SgS.stop {t s : ByteArray} {n : Nat} {b0 : Bool} {B : Nat → Bool} {i : Nat} (h : SgS t (stOf (zad t 8 0 []).1) ((bytes s).take n) b0 B i) (hi : ¬ i < t.size) (he : errT t s = 0) (hS : bigB (stOf (zad t 8 0 []).1) = true) (hn : n ≤ s.size)
 (h0 : b0 = true ↔ ∃ x m, Ds (rul (zad t 8 0 []).1) [stOf (zad t 8 0 []).1] ((bytes s).take n) x m) (hg : GoodW (rul (zad t 8 0 []).1) (stOf (zad t 8 0 []).1) ((bytes s).take n)) (hno : n < s.size → ¬ GoodW (rul (zad t 8 0 []).1) (stOf (zad t 8 0 []).1) ((bytes s).take (n + 1))) :
 StopO t s n (rlst B) 0 := by
 refine Or.inr ⟨he, rfl, hn, hg, hno, B, ?_, fun a ha => ⟨fun hb => (h.so a (fun e => by subst e; cases ha) hb).2, fun hw => ?_⟩, ?_⟩
 ·rw [h.e]; exact h0
 ·exact h.cl a ha (by rw [za2 t _ (by omega)]; exact good_in hS hw ha) hw
 ·refine rlst_eq (fun _ _ => rfl) (fun x hx => ?_)
  by_cases e : x = 36
  ·exact Or.inl e
  ·exact Or.inr (h.so x e hx).1
end Go.Proofs.YtkglggkkbmmjkabGreatDoor
namespace Go.Proofs.YtkglggkkbmmjkabGreatDoor
open Go.RowKit
def SoO (w wr : World) (L : List Ru) (S : Nat) (s : ByteArray) (n : Nat) : Prop := Fr [] w wr ∧ ∀ p, n < p → p ≤ s.size → ¬ GoodW L S ((bytes s).take p)
def SoI (w wr : World) (t : ByteArray) (S sb : Nat) (v : List Nat) (b0 : Bool) (B : Nat → Bool) (i : Nat) : Prop := Fr [] w wr ∧ Blk wr sb 128 (sF B) ∧ SgS t S v b0 B i ∧ w.heap.size ≤ sb
theorem sF_36 (b0 : Bool) (i : Nat) : upd (sF fun _ => false) 36 (.bool b0) i = sF (fun x => decide (x = 36) && b0) i := by
 unfold upd sF
 by_cases h : i = 36
 ·subst h; simp
 ·rw [if_neg h]; simp [h]
theorem sF_put (B : Nat → Bool) (a : Nat) (u : Bool) (i : Nat) : upd (sF B) a (.bool u) i = sF (fun x => if x = a then u else B x) i := by
 show (if i = a then Value.bool u else .bool (B i)) = .bool (if i = a then u else B i)
 by_cases h : i = a
 ·rw [if_pos h, if_pos h]
 ·rw [if_neg h, if_neg h]
set_option maxRecDepth 100000 in
set_option maxHeartbeats 8000000 in
theorem r_Stop (t s : ByteArray) (w : World) (ht : t.size ≤ 9223372036854775807) (hsm : s.size ≤ 9223372036854775807) :
 Calls Tryz.prog 15 #[.string t, .string s] w fun e w' => Fr [] w w' ∧ ∃ (n : Nat) (y : ByteArray) (x : Nat), e = .returned (.tuple #[.int .i64 n, .string y, .int .i64 x]) ∧ StopO t s n y x := by
 obtain ⟨x, hx⟩ : ∃ x, errT t s = x := ⟨_, rfl⟩
 have HE := hide hx
 by_cases hx0 : x = 0
 ·subst hx0
  obtain ⟨r, hr, hRd, hlen, hsml⟩ := errT_rd hx
  have hg := (tabR_len hr).1
  have ht32 : t.size ≤ 32 := (gErr_zero hg).1
  have HPos := hide (parse_some hr)
  have HR := hide (ptR_of hg)
  have H8 := hide (parse_8 t)
  have HNil := hide (show GoodW (rul (zad t 8 0 []).1) (stOf (zad t 8 0 []).1) [] from by obtain ⟨v, x, n, hd⟩ := st_some hg; exact ⟨v, x, n, hd⟩)
  obtain ⟨rs, hrs⟩ : ∃ rs, (zad t 8 0 []).1 = rs := ⟨_, rfl⟩
  have HSt := hide (fun hp => st_big hg hrs hp)
  rw [hrs] at HPos HR H8
  have HRs := hide hrs
  have hp : 0 < rs.length := zaa HPos
  obtain ⟨c, hc⟩ : ∃ c, rs[0].L = c := ⟨_, rfl⟩
  obtain ⟨hcb, hcs⟩ := zaa HSt hp
  rw [hc] at hcb hcs
  rw [← hcs] at HNil
  have hb := zao.1 hcb
  have e0 : (0 : Int) ≤ (c : Int) - 65 := by omega
  have e1 : (c : Int) - 65 < 26 := by omega
  have hpi : (0 : Int) < rs.length := by omega
  have HCB := hide hcb
  have HCS := hide hcs
  have HC := hide hc
  clear hx hr hRd hsml hg hrs HSt hc hcb hcs HPos
  go_enter Tryz.func15, Tryz.ntmps15
  go_wp2_with (go_at_call 41; refine (r_text t s w ht hsm).mono ?_; rintro e w1 ⟨hf, _, h2⟩; obtain ⟨q, cap, rfl, hru, hq⟩ := h2 (zaa HE); rw [zaa HRs] at hru ⊢; have r0 : w1.cell? ⟨q, 3, none⟩ = some (.int .u8 (c : Nat)) := (by have := (hru 0 hp).1; rw [zaa HC] at this; exact this); have HF := hide hf; have HRu := hide hru; have HQ := hide hq; clear hf h2 hru hq)
  go_loopw [10, 11] (fun nv _ wr => ∃ n : Nat, n ≤ s.size ∧ nv = .int .i64 n ∧ Hid (SoO w1 wr (rul (zad t 8 0 []).1) c s n)) (fun nv _ _ => (intOf nv).toNat)
  case atStart => exact ⟨s.size, Nat.le_refl _, rfl, hide ⟨Fr.refl [] w1, fun p h1 h2 => by omega⟩⟩
  case round =>
   obtain ⟨n, hn, rfl, hI⟩ := hrel
   have hni : (n : Int) ≤ s.size := by omega
   have h0i : (0 : Int) ≤ (n : Int) := by omega
   obtain ⟨sn, hsn⟩ : ∃ sn, s.extract 0 n = sn := ⟨_, rfl⟩
   have HBn := hide (show bytes sn = (bytes s).take n from by rw [← hsn, bytes_ext, List.drop_zero])
   have hszn : sn.size = n := by rw [← hsn, ByteArray.size_extract]; omega
   have HSn := hide hsn
   clear hsn r0
   go_wp2_with fail
   rw [zaa HSn]
   refine (r_parts q 3 cap rs sn wr (fun i hi => ⟨(zaa hI).1.cell0 (zaa HRu i hi).1, (zaa hI).1.cell0 (zaa HRu i hi).2.1, (zaa hI).1.cell0 (zaa HRu i hi).2.2⟩) (Nat.lt_of_lt_of_le (zaa HQ) (zaa hI).1.size) (by omega) (zaa HR) (by have := zaa H8; omega)).mono ?_
   rintro e w2 ⟨pb, gi, ci, gj, cj, bI, bG, Is, Go, rfl, hf2, hM, hso, hcl⟩
   have HF2 := hide ((zaa hI).1.trans0 hf2)
   have HM := hide hM
   have HGo := hide (pt_go hso hcl (zaa HR) (zaa HCB))
   have HIs := hide (pt_is hso hcl (zaa HR) (zaa HCB))
   have c3 := hM.c3
   obtain ⟨d1, d2⟩ := hM.goc (i := 0) (zaa HCB) (by omega)
   clear hf2 hM hso hcl
   cases hgo : Go c 0
   ·rw [hgo] at d2
    have hng : ¬ GoodW (rul (zad t 8 0 []).1) c ((bytes s).take n) := fun h => by
     rw [← zaa HBn, zaa HRs] at h
     have := (zaa HGo).2 h; rw [hgo] at this; cases this
    have hn0 : n ≠ 0 := fun e => hng (by rw [e, List.take_zero]; exact zaa HNil)
    obtain ⟨m, hm⟩ : ∃ m, n = m + 1 := ⟨n - 1, by omega⟩
    have HN := hide (show SoO w1 w2 (rul (zad t 8 0 []).1) c s m from ⟨zaa HF2, fun p h1 h2 => by
     by_cases e : p = n
     ·rw [e]; exact hng
     ·exact (zaa hI).2 p (by omega) h2⟩)
    have hnp : (0 : Int) < (n : Int) := by omega
    have hnm : (n : Int) - 1 = (m : Int) := by omega
    have hml : m ≤ s.size := by omega
    clear hng hgo HGo HIs hm hn0
    go_wp2
    go_roundw
    case rel => exact ⟨m, hml, by go_num, HN⟩
    case measure => simp [intOf]; omega
   ·rw [hgo] at d2
    have HGd := hide (show GoodW (rul (zad t 8 0 []).1) c ((bytes s).take n) from by rw [← zaa HBn, zaa HRs]; exact (zaa HGo).1 hgo)
    obtain ⟨b0, hb0⟩ : ∃ b0, Is c 0 n = b0 := ⟨_, rfl⟩
    have HB0 := hide (show b0 = true ↔ ∃ x m, Ds (rul (zad t 8 0 []).1) [c] ((bytes s).take n) x m from by
     have := zaa HIs
     rw [hszn, hb0, zaa HBn] at this
     rw [zaa HRs]; exact this)
    have HNo := hide (show n < s.size → ¬ GoodW (rul (zad t 8 0 []).1) c ((bytes s).take (n + 1)) from fun h => (zaa hI).2 (n + 1) (by omega) (by omega))
    have hn196 : (n : Int) < 196 := by omega
    have hw12 : w1.heap.size ≤ w2.heap.size := (zaa HF2).size
    have HIc := hide ((zaa HM).isc (i := 0) (j := n) (zaa HCB) (by omega) (by omega))
    rw [Nat.zero_mul, Nat.zero_add, hb0] at HIc
    clear hgo HGo HIs hb0 hI
    go_wp2_with (refine zab rfl 105 rfl (some 12) rfl 128 _ Tryz.zeroSet ?_; intro w3 hf3 hs3 hB3; have k2 := hf3.cell0 (zaa HM).c2; have k3 := hf3.cell0 (zaa HIc).1; have k4 := hf3.cell0 (zaa HIc).2; have z36 := hB3.cell 36 (by omega); have y36 := hB3.free 36; have HI0 := hide (show SoI w1 (w3.setCell ⟨w2.heap.size, 36, none⟩ (.bool b0)) t c w2.heap.size ((bytes s).take n) b0 (fun x => decide (x = 36) && b0) 0 from ⟨((zaa HF2).trans0 hf3).setCell _ (Or.inr hw12) _, (hB3.setCell 36 (.bool b0)).congr fun i _ => sF_36 b0 i, SgS.new, hw12⟩); clear hf3 hs3 hB3)
    obtain ⟨w4, hw4⟩ : ∃ w4, w3.setCell ⟨w2.heap.size, 36, none⟩ (.bool b0) = w4 := ⟨_, rfl⟩
    obtain ⟨sb, hsb⟩ : ∃ sb, w2.heap.size = sb := ⟨_, rfl⟩
    rw [hw4, hsb] at HI0
    rw [hsb] at hw4 hw12 ⊢
    rw [hw4]
    clear hw4 hsb k2 k3 k4 z36 y36 c3 d1 d2 HIc
    go_loopw [13, 14] (fun iv _ wr => ∃ (i : Nat) (B : Nat → Bool), i ≤ t.size ∧ iv = .int .i64 i ∧ Hid (SoI w1 wr t c sb ((bytes s).take n) b0 B i)) (fun iv _ _ => t.size - (intOf iv).toNat)
    case atStart => exact ⟨0, _, Nat.zero_le _, rfl, HI0⟩
    case round =>
     obtain ⟨i, B, hi, rfl, hJ⟩ := hrel
     clear HI0
     by_cases hlt : i < t.size
     ·have hcc : ((t[i]'hlt).toNat : Int) = ((ch t i : Nat) : Int) := by rw [za8 t i hlt]
      obtain ⟨a, hch⟩ : ∃ a, ch t i = a := ⟨_, rfl⟩
      rw [hch] at hcc
      have HCh := hide hch
      have hli : (i : Int) < t.size := by omega
      clear hch
      cases hv : zai a
      ·have HN := hide (show SoI w1 wr t c sb ((bytes s).take n) b0 B (i + 1) from ⟨(zaa hJ).1, (zaa hJ).2.1, (zaa hJ).2.2.1.skip hlt (by rw [zaa HCh, hv]; intro e; cases e), (zaa hJ).2.2.2⟩)
       go_wp2_with (go_at_call 46; refine (zaq a false _ hv).mono ?_; rintro e w' ⟨rfl, hw'⟩; rw [hw'])
       go_roundw
       case rel => exact ⟨i + 1, B, by omega, by go_num, HN⟩
       case measure => simp [intOf]; omega
      ·have hab := za4.1 hv
       have ka := (zaa hJ).2.1.cell a (by omega)
       have ya := (zaa hJ).2.1.free a
       have hai : (a : Int) < 128 := by omega
       have ha0 : (0 : Int) ≤ (a : Int) := by omega
       rw [show sF B a = .bool (B a) from rfl] at ka
       cases hBa : B a
       ·rw [hBa] at ka
        go_wp2_with (go_at_call 46; refine (zaq a true _ hv).mono ?_; rintro e w' ⟨rfl, hw'⟩; rw [hw'])
        obtain ⟨sx, hsx⟩ : ∃ sx, s.extract 0 n ++ t.extract i (i + 1) = sx := ⟨_, rfl⟩
        have HBx := hide (show bytes sx = (bytes s).take n ++ [a] from by
         rw [← hsx, bytes_app, bytes_ext, bytes_ext, List.drop_zero, zb1 t i hlt, zaa HCh, List.drop_append_of_le_length (by rw [List.length_take, zah]; omega), List.drop_eq_nil_of_le (by rw [List.length_take, zah]; omega), List.nil_append])
        have hszx : sx.size ≤ 13 := by rw [← zah, zaa HBx, List.length_append, List.length_take, zah]; simp; omega
        have HSx := hide hsx
        clear hsx
        have hi1 : (i : Int) + 1 ≤ t.size := by omega
        have hwi : IntKind.i64.wrap ((i : Int) + 1) = (i : Int) + 1 := by rw [IntKind.wrap_i64]; omega
        have hi00 : (0 : Int) ≤ (i : Int) := by omega
        have hi01 : (0 : Int) ≤ (i : Int) + 1 := by omega
        have hi02 : (i : Int) ≤ (i : Int) + 1 := by omega
        have hi03 : ((i : Int) + 1).toNat = i + 1 := by omega
        have hmin : min n s.size = n := by omega
        have hmin2 : min (i + 1) t.size = i + 1 := by omega
        have hct1 : ¬ 9223372036854775807 < n + 1 := by omega
        have hct2 : ¬ 9223372036854775807 < n + (i + 1 - i) := by omega
        have hct3 : ¬ 9223372036854775806 < n := by omega
        have hct4 : ¬ 9223372036854775807 ≤ n := by omega
        have hct5 : ¬ 9223372036854775807 < min n s.size + (min (i + 1) t.size - i) := by omega
        have HRw := hide (show ∀ W, Fr [] wr W → RuO W q 3 rs ∧ q < W.heap.size from fun W k => ⟨fun i hi => ⟨((zaa hJ).1.trans0 k).cell0 (zaa HRu i hi).1, ((zaa hJ).1.trans0 k).cell0 (zaa HRu i hi).2.1, ((zaa hJ).1.trans0 k).cell0 (zaa HRu i hi).2.2⟩, Nat.lt_of_lt_of_le (zaa HQ) ((zaa hJ).1.trans0 k).size⟩)
        go_region_held3 (fun w' => Fr [] wr w') (first | assumption | exact (Fr.refl [] wr).drew) ((go_at_call 42; rw [zaa HSx]; refine (r_parts q 3 cap rs sx _ (by exact (zaa HRw _ (Fr.refl [] wr).drew).1) (by exact (zaa HRw _ (Fr.refl [] wr).drew).2) hszx (zaa HR) (by have := zaa H8; omega)).mono ?_; rintro e w5 ⟨pb2, gi2, ci2, gj2, cj2, bI2, bG2, Is2, Go2, rfl, hf5, hM2, hso2, hcl2⟩; have hS5 : Fr [] wr w5 := (Fr.refl [] wr).drew.trans0 hf5; have HM2 := hide hM2; have HGo2 := hide (pt_go hso2 hcl2 (zaa HR) (zaa HCB)); clear hf5 hM2 hso2 hcl2))
        have hu0 : ∃ u, Go2 c 0 = u := ⟨_, rfl⟩
        obtain ⟨u, hu⟩ := hu0
        obtain ⟨g1, g2⟩ := (zaa HM2).goc (i := 0) (zaa HCB) (by omega)
        rw [hu] at g2
        have c35 := (zaa HM2).c3
        have ka5 := hS5.cell0 ka
        have ya5 := ((zaa hJ).2.1.fr0 hS5).free a
        have HU := hide (show u = true ↔ GoodW (rul (zad t 8 0 []).1) c ((bytes s).take n ++ [ch t i]) from by
         rw [← hu, zaa HCh, ← zaa HBx, zaa HRs]; exact zaa HGo2)
        have HN := hide (show ∀ W, Fr [] w5 W → SoI w1 (W.setCell ⟨sb, a, none⟩ (.bool u)) t c sb ((bytes s).take n) b0 (fun x => if x = a then u else B x) (i + 1) from fun W k =>
         ⟨(((zaa hJ).1.trans0 hS5).trans0 k).setCell _ (Or.inr (zaa hJ).2.2.2) _, ((((zaa hJ).2.1.fr0 hS5).fr0 k).setCell a (.bool u)).congr fun j _ => sF_put B a u j, by
          have := (zaa hJ).2.2.1.put (u := u) hlt (by rw [zaa HCh]; exact hv) (zaa HU)
          rw [zaa HCh] at this; exact this, (zaa hJ).2.2.2⟩)
        clear hu ka ya hct1 hct2 hct3 hct4 hct5 hmin hmin2 hwi hi00 hi01 hi02 hi03
        have hwc : IntKind.i64.wrap ((c : Int) - 65) = (c : Int) - 65 := by rw [IntKind.wrap_i64]; omega
        have htn : ((c : Int) - 65).toNat = c - 65 := by omega
        have hc65 : (65 : Int) ≤ (c : Int) := by omega
        have hc91 : (c : Int) < 91 := by omega
        have hc91' : (c : Int) < 26 + 65 := by omega
        have hncl : ¬ ((c : Int) - 65 < 0) := by omega
        have hnge : ¬ (26 ≤ (c : Int) - 65) := by omega
        go_wp2_with fail
        go_region_law ((fail))
        all_goals
         go_wp2
         go_roundw
         case rel => exact ⟨i + 1, _, by omega, by go_num, hide (by first | exact zaa HN _ (Fr.refl [] w5).drew | exact zaa HN _ (Fr.refl [] w5))⟩
         case measure => simp [intOf]; omega
       ·rw [hBa] at ka
        have HN := hide (show SoI w1 wr t c sb ((bytes s).take n) b0 B (i + 1) from ⟨(zaa hJ).1, (zaa hJ).2.1, (zaa hJ).2.2.1.skip hlt (by rw [zaa HCh]; exact fun _ => hBa), (zaa hJ).2.2.2⟩)
        go_wp2_with (go_at_call 46; refine (zaq a true _ hv).mono ?_; rintro e w' ⟨rfl, hw'⟩; rw [hw'])
        go_roundw
        case rel => exact ⟨i + 1, B, by omega, by go_num, HN⟩
        case measure => simp [intOf]; omega
     ·have hli : ¬ (i : Int) < t.size := by omega
      have HFi := hide ((zaa hJ).2.2.1)
      rw [zaa HCS] at HFi HGd HNo HB0
      have HFin := hide ((zaa HFi).stop hlt (zaa HE) (by rw [← zaa HCS]; exact zaa HCB) hn (zaa HB0) (zaa HGd) (zaa HNo))
      clear HFi
      go_wp2_with (go_at_call 47; refine (r_list sb 0 128 (sF B) B wr (by exact (zaa hJ).2.1) (by omega) (fun i _ => by rw [Nat.zero_add]; rfl)).mono ?_; rintro e w9 ⟨rfl, hf9⟩; have HF9 := hide (((zaa HF).trans0 (zaa hJ).1).trans0 hf9); clear hf9)
      go_ret3
      exact ⟨zaa HF9, n, rlst B, 0, rfl, zaa HFin⟩
 ·have hxb : ((x : Int) != 0) = true := by rw [bne_iff_ne]; omega
  go_enter Tryz.func15, Tryz.ntmps15
  go_wp2_with (go_at_call 41; refine (r_text t s w ht hsm).mono ?_; rintro e w1 ⟨hf, h1, _⟩; obtain rfl := h1 (by rw [zaa HE]; exact hx0); rw [zaa HE]; have HF := hide hf; clear hf h1)
  go_ret3
  exact ⟨zaa HF, 0, ⟨#[]⟩, x, rfl, Or.inl ⟨by rw [zaa HE]; exact hx0, (zaa HE).symm, rfl, rfl⟩⟩
end Go.Proofs.YtkglggkkbmmjkabGreatDoor
