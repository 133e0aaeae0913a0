import Derived.Test.YtkglggkkbmmjkabGreatDoorG39LrHt
import Derived.Test.YtkglggkkbmmjkabGreatDoorG19RPt1
import Derived.Test.YtkglggkkbmmjkabGreatDoorG11PartsM
namespace Go.Proofs.YtkglggkkbmmjkabGreatDoor
open Go.RowKit
/-! What Tree and Stop are to answer. -/
def bstr (x : List Nat) : ByteArray := ⟨(x.map UInt8.ofNat).toArray⟩
theorem bstr_app (x y : List Nat) : bstr (x ++ y) = bstr x ++ bstr y := by
 unfold bstr
 apply ByteArray.ext
 simp [ByteArray.data_append]
theorem bstr_size (x : List Nat) : (bstr x).size = x.length := by
 unfold bstr
 show (x.map UInt8.ofNat).toArray.size = _
 simp
noncomputable def errT (t s : ByteArray) : Nat := if 12 < s.size then 1 else match tabR t with
 | .inl x => x
 | .inr r => if clsT (rul (zad t 8 0 []).1) r = 0 then 8 else if (bytes s).all zai then 0 else 5
def GoodW (L : List Ru) (S : Nat) (v : List Nat) : Prop := ∃ z x n, Ds L [S] (v ++ z) x n
theorem good_iff {L : List Ru} {S : Nat} {v : List Nat} (hv : ∀ c ∈ v, zai c = true) : Good L S v ↔ GoodW L S v := by
 constructor
 ·rintro ⟨z, w, x, n, hd, e⟩
  rcases List.append_eq_append_iff.1 e with ⟨ys, e1, e2⟩ | ⟨zs, e1, e2⟩
  ·exact ⟨ys, x, n, by rw [← e1]; exact hd⟩
  ·cases zs with
   | nil => rw [List.append_nil] at e1; exact ⟨[], x, n, by rw [e1, List.append_nil]; exact hd⟩
   | cons b zs =>
    rw [List.cons_append] at e2
    have : b = 36 := (List.cons.inj e2).1.symm
    have h2 := hv b (by rw [e1]; simp)
    rw [this] at h2; cases h2
 ·rintro ⟨z, x, n, hd⟩
  exact ⟨z ++ [36], v ++ z, x, n, hd, by simp⟩
theorem GoodW.take {L : List Ru} {S : Nat} {v : List Nat} {p q : Nat} (h : GoodW L S (v.take q)) (hpq : p ≤ q) : GoodW L S (v.take p) := by
 obtain ⟨z, x, n, hd⟩ := h
 have e : v.take q = v.take p ++ (v.take q).drop p := by
  have := List.take_append_drop p (v.take q)
  rw [List.take_take, Nat.min_eq_left hpq] at this
  exact this.symm
 exact ⟨(v.take q).drop p ++ z, x, n, by rw [← List.append_assoc, ← e]; exact hd⟩
def TreeO (t s y : ByteArray) (x : Nat) : Prop :=
 (errT t s ≠ 0 ∧ x = errT t s ∧ y = ⟨#[]⟩) ∨
 (errT t s = 0 ∧ ((x = 9 ∧ y = ⟨#[]⟩ ∧ ¬ ∃ x' n, Ds (rul (zad t 8 0 []).1) [stOf (zad t 8 0 []).1] (bytes s) x' n) ∨
   (x = 0 ∧ ∃ x' n, Ds (rul (zad t 8 0 []).1) [stOf (zad t 8 0 []).1] (bytes s) x' n ∧ y = bstr x')))
def StopO (t s : ByteArray) (p : Nat) (y : ByteArray) (x : Nat) : Prop :=
 (errT t s ≠ 0 ∧ x = errT t s ∧ p = 0 ∧ y = ⟨#[]⟩) ∨
 (errT t s = 0 ∧ x = 0 ∧ p ≤ s.size ∧ GoodW (rul (zad t 8 0 []).1) (stOf (zad t 8 0 []).1) ((bytes s).take p) ∧
   (p < s.size → ¬ GoodW (rul (zad t 8 0 []).1) (stOf (zad t 8 0 []).1) ((bytes s).take (p + 1))) ∧
   ∃ b : Nat → Bool, (b 36 = true ↔ ∃ x' n, Ds (rul (zad t 8 0 []).1) [stOf (zad t 8 0 []).1] ((bytes s).take p) x' n) ∧
    (∀ a, zai a = true → (b a = true ↔ GoodW (rul (zad t 8 0 []).1) (stOf (zad t 8 0 []).1) ((bytes s).take p ++ [a]))) ∧ y = lst b)
theorem errT_ok {t s : ByteArray} (h : errT t s = 0) : ∃ r, tabR t = .inr r ∧ clsT (rul (zad t 8 0 []).1) r ≠ 0 ∧ s.size ≤ 12 ∧ ∀ c ∈ bytes s, zai c = true := by
 unfold errT at h
 split at h
 ·cases h
 ·rename_i hs
  split at h
  ·rename_i x hx
   subst h
   exfalso
   unfold tabR at hx
   split at hx
   ·rename_i h0
    exact h0 (Sum.inl.inj hx)
   ·split at hx
    ·have := Sum.inl.inj hx; omega
    ·cases hx
  ·rename_i r hr
   split at h
   ·cases h
   ·rename_i hc
    split at h
    ·rename_i ha
     exact ⟨r, hr, hc, by omega, fun c hc => List.all_eq_true.1 ha c hc⟩
    ·cases h
theorem tabR_40 {t : ByteArray} {r : Tb} (h : tabR t = .inr r) : r.1.length ≤ 40 := by
 obtain ⟨_, hm⟩ := tabR_len h
 have row : ∀ (st : Nat → List It) (cs : List Nat) (S : List (List It)) (m : List (Nat × Nat)) (S' : List (List It)) (m' : List (Nat × Nat)), S.length ≤ 40 → rowM st cs S m = some (S', m') → S'.length ≤ 40 := by
  intro st cs
  induction cs with
  | nil => intro S m S' m' h1 h2; rw [rowM] at h2; cases h2; exact h1
  | cons c cs ih =>
   intro S m S' m' h1 h2
   rw [rowM] at h2
   split at h2
   ·exact ih _ _ _ _ h1 h2
   ·split at h2
    ·cases h2
    ·exact ih _ _ _ _ (by omega) h2
 have tab : ∀ (f i : Nat) (S : List (List It)) (M : List (List (Nat × Nat))) (S' : List (List It)) (M' : List (List (Nat × Nat))), S.length ≤ 40 → tabM (rul (zad t 8 0 []).1) (zan (zad t 8 0 []).1) (zau (zad t 8 0 []).1) f i S M = some (S', M') → S'.length ≤ 40 := by
  intro f
  induction f with
  | zero => intro i S M S' M' h1 h2; rw [tabM] at h2; cases h2; exact h1
  | succ f ih =>
   intro i S M S' M' h1 h2
   rw [tabM] at h2
   split at h2
   ·split at h2
    ·cases h2
    ·rename_i hr
     exact ih _ _ _ _ _ (row _ _ _ _ _ _ h1 hr) h2
   ·cases h2; exact h1
 exact tab 41 0 _ _ r.1 r.2 (by simp) hm
theorem errT_rd {t s : ByteArray} (h : errT t s = 0) : ∃ r, tabR t = .inr r ∧ Rd (rul (zad t 8 0 []).1) (zan (zad t 8 0 []).1) (zau (zad t 8 0 []).1) r (stOf (zad t 8 0 []).1) 1048576 ∧ s.size ≤ 12 ∧ ∀ c ∈ bytes s, zai c = true := by
 obtain ⟨r, h1, h2, h3, h4⟩ := errT_ok h
 exact ⟨r, h1, rd_of h1 (tabR_40 h1) h2, h3, h4⟩
theorem TreeO.uniq {t s y y' : ByteArray} {x x' : Nat} (h : TreeO t s y x) (h' : TreeO t s y' x') : y = y' ∧ x = x' := by
 rcases h with ⟨h1, rfl, rfl⟩ | ⟨h0, h⟩
 ·rcases h' with ⟨_, rfl, rfl⟩ | ⟨h0', _⟩
  ·exact ⟨rfl, rfl⟩
  ·exact absurd h0' h1
 ·rcases h' with ⟨h1', _⟩ | ⟨_, h'⟩
  ·exact absurd h0 h1'
  ·obtain ⟨r, _, hR, _, _⟩ := errT_rd h0
   rcases h with ⟨rfl, rfl, hn⟩ | ⟨rfl, z, n, hd, rfl⟩
   ·rcases h' with ⟨rfl, rfl, _⟩ | ⟨_, z', n', hd', _⟩
    ·exact ⟨rfl, rfl⟩
    ·exact absurd ⟨z', n', hd'⟩ hn
   ·rcases h' with ⟨_, _, hn⟩ | ⟨rfl, z', n', hd', rfl⟩
    ·exact absurd ⟨z, n, hd⟩ hn
    ·rw [(ds_uniq hR.tab hR.nocl hR.st0 hd hd').1]; exact ⟨rfl, rfl⟩
theorem lst_same {b b' : Nat → Bool} (h0 : b 36 = b' 36) (h : ∀ a, zai a = true → b a = b' a) : lst b = lst b' := by
 unfold lst lstU
 rw [h0, show (List.range 26).filter (fun j => b (97 + j)) = (List.range 26).filter (fun j => b' (97 + j)) from List.filter_congr fun j hj => h _ (za4.2 (by have := List.mem_range.1 hj; omega))]
theorem bool_eq {a b : Bool} (h : a = true ↔ b = true) : a = b := Bool.eq_iff_iff.2 h
theorem StopO.uniq {t s y y' : ByteArray} {p p' x x' : Nat} (h : StopO t s p y x) (h' : StopO t s p' y' x') : p = p' ∧ y = y' ∧ x = x' := by
 rcases h with ⟨h1, rfl, rfl, rfl⟩ | ⟨h0, rfl, hp, hg, hn, b, b0, ba, rfl⟩
 ·rcases h' with ⟨_, rfl, rfl, rfl⟩ | ⟨h0', _⟩
  ·exact ⟨rfl, rfl, rfl⟩
  ·exact absurd h0' h1
 ·rcases h' with ⟨h1', _⟩ | ⟨_, rfl, hp', hg', hn', b', b0', ba', rfl⟩
  ·exact absurd h0 h1'
  ·have e : p = p' := by
    rcases Nat.lt_trichotomy p p' with h | h | h
    ·exact absurd (hg'.take (by omega)) (hn (by omega))
    ·exact h
    ·exact absurd (hg.take (by omega)) (hn' (by omega))
   subst e
   refine ⟨rfl, lst_same (bool_eq (b0.trans b0'.symm)) (fun a ha => bool_eq ((ba a ha).trans (ba' a ha).symm)), rfl⟩
end Go.Proofs.YtkglggkkbmmjkabGreatDoor
namespace Go.Proofs.YtkglggkkbmmjkabGreatDoor
open Go.RowKit
/-! The tree's text, by parts. -/
def UqL (L : List Ru) (l u : List Nat) : Prop := ∀ x n x' n', Ds L l u x n → Ds L l u x' n' → x = x'
theorem wr_split {L : List Ru} (hb : ∀ k, 1 ≤ k → k < L.length → bigB (rget L k).L = true) {T l x : List Nat} {c i j k n h : Nat} (h1 : i ≤ k) (h2 : k ≤ j) (hd : Dh L (c :: l) (seg T i j) x n h) (hU : UqL L (c :: l) (seg T i j)) (ha : ∃ x m, Ds L [c] (seg T i k) x m) (hc : ∃ x m, Ds L l (seg T k j) x m) :
 ∃ x1 n1 x2 n2, x = x1 ++ x2 ∧ Dh L [c] (seg T i k) x1 n1 h ∧ Dh L l (seg T k j) x2 n2 h ∧ UqL L [c] (seg T i k) ∧ UqL L l (seg T k j) := by
 obtain ⟨xa, ma, da⟩ := ha
 obtain ⟨xb, mb, db⟩ := hc
 obtain ⟨w1, x1, n1, w2, x2, n2, d1, d2, e1, e2, _⟩ := hd.cons_inv
 have key : ∀ {y z : List Nat} {p q : Nat}, Ds L [c] (seg T i k) y p → Ds L l (seg T k j) z q → Ds L (c :: l) (seg T i j) (y ++ z) (p + q) := fun hy hz => by rw [← seg_split h1 h2]; exact hy.app hz
 have e3 : x = xa ++ xb := hU _ _ _ _ hd.ds (key da db)
 obtain ⟨f1, f2, f3⟩ := d1.ds.dec hb da (y := x2) (y' := xb) (by rw [← e2]; exact e3)
 subst f2
 have f4 : w2 = seg T k j := by rw [← seg_split h1 h2] at e1; exact (List.append_cancel_left e1).symm
 subst f4
 refine ⟨x1, n1, x2, n2, e2, d1, d2, fun y p y' p' hy hy' => ?_, fun y p y' p' hy hy' => ?_⟩
 ·exact List.append_cancel_right (hU _ _ _ _ (key hy d2.ds) (key hy' d2.ds))
 ·exact List.append_cancel_left (hU _ _ _ _ (key d1.ds hy) (key d1.ds hy'))
theorem ds_one {L : List Ru} {k : Nat} (k1 : 1 ≤ k) (k2 : k < L.length) {u x : List Nat} {n : Nat} (h : Ds L (bytes (rget L k).R) u x n) : Ds L [(rget L k).L] u ((48 + k) :: 40 :: (x ++ [41])) (n + 1) := by
 have := Ds.big k1 k2 h Ds.nil
 simpa using this
theorem wr_inv {L : List Ru} {c n h : Nat} {u x : List Nat} (hd : Dh L [c] u x n h) : (zai c = true ∧ u = [c] ∧ x = [c]) ∨ ∃ k x' n' h', 1 ≤ k ∧ k < L.length ∧ (rget L k).L = c ∧ h = h' + 1 ∧ x = (48 + k) :: 40 :: (x' ++ [41]) ∧ Dh L (bytes (rget L k).R) u x' n' h' := by
 generalize hl : [c] = l at hd
 cases hd with
 | nil => cases hl
 | small hc hd =>
  obtain ⟨rfl, rfl⟩ := List.cons.inj hl
  obtain ⟨e1, e2, _⟩ := hd.ds.nil_inv
  exact Or.inl ⟨hc, by rw [e1], by rw [e2]⟩
 | @big k h n1 n2 _ w1 w2 x1 x2 k1 k2 da db =>
  obtain ⟨e0, rfl⟩ := List.cons.inj hl
  obtain ⟨e1, e2, _⟩ := db.ds.nil_inv
  subst e1
  subst e2
  exact Or.inr ⟨k, x1, n1, h, k1, k2, e0.symm, rfl, rfl, by rw [List.append_nil]; exact da⟩
theorem wr_rule {L : List Ru} (hb : ∀ k, 1 ≤ k → k < L.length → bigB (rget L k).L = true) {c n h k : Nat} {u x : List Nat} (hd : Dh L [c] u x n h) (hU : UqL L [c] u) (k1 : 1 ≤ k) (k2 : k < L.length) (hk : (rget L k).L = c) (hr : ∃ x' m, Ds L (bytes (rget L k).R) u x' m) :
 ∃ x' n' h', x = (48 + k) :: 40 :: (x' ++ [41]) ∧ h = h' + 1 ∧ Dh L (bytes (rget L k).R) u x' n' h' ∧ UqL L (bytes (rget L k).R) u := by
 obtain ⟨xa, ma, da⟩ := hr
 subst hk
 rcases wr_inv hd with ⟨hc, _, _⟩ | ⟨k', x', n', h', a1, a2, a3, a4, a5, a6⟩
 ·rw [zbi (hb k k1 k2)] at hc; cases hc
 ·have e := hU _ _ _ _ hd.ds (ds_one k1 k2 da)
  rw [a5] at e
  obtain ⟨e1, e2⟩ := List.cons.inj e
  obtain rfl : k' = k := by omega
  exact ⟨x', n', h', a5, a4, a6, fun y p y' p' hy hy' => by
   have e := hU _ _ _ _ (ds_one k1 k2 hy) (ds_one k1 k2 hy')
   exact List.append_cancel_right (List.cons.inj (List.cons.inj e).2).2⟩
end Go.Proofs.YtkglggkkbmmjkabGreatDoor
namespace Go.Proofs.YtkglggkkbmmjkabGreatDoor
open Go.RowKit
structure PtK (q off cap : Nat) (rs : List Ru) (T : ByteArray) (Is : Nat → Nat → Nat → Bool) (Go : Nat → Nat → Bool) : Prop where
 so : PtSo (rul rs) (bytes T) Is Go
 cl : PtCl (rul rs) (bytes T) Is Go
 hT : T.size ≤ 13
 hR : PtR rs
 hn : rs.length ≤ 8
theorem PtK.big {q off cap : Nat} {rs : List Ru} {T : ByteArray} {Is : Nat → Nat → Nat → Bool} {Go : Nat → Nat → Bool} (h : PtK q off cap rs T Is Go) : ∀ k, 1 ≤ k → k < (rul rs).length → bigB (rget (rul rs) k).L = true := fun _ k1 k2 => (h.hR _ (rul_is k1 k2)).1
def WrOk (pb q off cap : Nat) (rs : List Ru) (T : ByteArray) (gi ci gj cj : Nat) (bI bG : Nat → Nat) (Is : Nat → Nat → Nat → Bool) (Go : Nat → Nat → Bool) (d : Nat) : Prop :=
 ∀ (l : ByteArray) (i j : Nat) (x : List Nat) (n h : Nat) (w : World), PtM w pb q off cap rs T gi ci gj cj bI bG Is Go → l.size ≤ 4 → (∀ k, k < l.size → letB (ch l k) = true) → i ≤ j → j ≤ T.size → Dh (rul rs) (bytes l) (seg (bytes T) i j) x n h → UqL (rul rs) (bytes l) (seg (bytes T) i j) → h ≤ d → x.length ≤ 100000000 →
  Calls Tryz.prog 98 #[.pointer (some ⟨pb, 0, none⟩), .string l, .int .i64 (i : Nat), .int .i64 (j : Nat), .int .i64 (d : Nat)] w fun e w' => e = .returned (.string (bstr x)) ∧ Fr [] w w'
def LtOk (pb q off cap : Nat) (rs : List Ru) (T : ByteArray) (gi ci gj cj : Nat) (bI bG : Nat → Nat) (Is : Nat → Nat → Nat → Bool) (Go : Nat → Nat → Bool) (d : Nat) : Prop :=
 ∀ (c i j : Nat) (x : List Nat) (n h : Nat) (w : World), PtM w pb q off cap rs T gi ci gj cj bI bG Is Go → letB c = true → i ≤ j → j ≤ T.size → Dh (rul rs) [c] (seg (bytes T) i j) x n h → UqL (rul rs) [c] (seg (bytes T) i j) → h ≤ d + 1 → x.length ≤ 100000000 →
  Calls Tryz.prog 43 #[.pointer (some ⟨pb, 0, none⟩), .int .u8 (c : Nat), .int .i64 (i : Nat), .int .i64 (j : Nat), .int .i64 (d : Nat)] w fun e w' => e = .returned (.string (bstr x)) ∧ Fr [] w w'
theorem bstr_node (r : Nat) (x : List Nat) : bstr ((48 + (r + 1)) :: 40 :: (x ++ [41])) = ⟨#[49 + UInt8.ofNat r]⟩ ++ ⟨#[40]⟩ ++ bstr x ++ ⟨#[41]⟩ := by
 rw [show (48 + (r + 1)) :: 40 :: (x ++ [41]) = [49 + r] ++ [40] ++ x ++ [41] from by simp; omega, bstr_app, bstr_app, bstr_app]
 rw [show bstr [49 + r] = ⟨#[49 + UInt8.ofNat r]⟩ from by unfold bstr; simp [UInt8.ofNat_add]]
 rfl
set_option maxRecDepth 100000 in
set_option maxHeartbeats 4000000 in
theorem r_letter {pb q off cap : Nat} {rs : List Ru} {T : ByteArray} {gi ci gj cj : Nat} {bI bG : Nat → Nat} {Is : Nat → Nat → Nat → Bool} {Go : Nat → Nat → Bool} (hK : PtK q off cap rs T Is Go) {d : Nat} (hW : WrOk pb q off cap rs T gi ci gj cj bI bG Is Go d) : LtOk pb q off cap rs T gi ci gj cj bI bG Is Go d := by
 intro c i j x n h w hM hc hij hj hd hU hh hxl
 cases hs : zai c
 ·have HD := hide hd
  have HU := hide hU
  have HK := hide hK
  have HW := hide hW
  have HM := hide hM
  have hT := hK.hT
  have c0 := hM.c0
  obtain ⟨k0, x0, n0, h0, a1, a2, a3, a4, _, a6⟩ : ∃ k x' n' h', 1 ≤ k ∧ k < (rul rs).length ∧ (rget (rul rs) k).L = c ∧ h = h' + 1 ∧ x = (48 + k) :: 40 :: (x' ++ [41]) ∧ Dh (rul rs) (bytes (rget (rul rs) k).R) (seg (bytes T) i j) x' n' h' := by
   rcases wr_inv hd with ⟨hc, _, _⟩ | hx
   ·rw [hs] at hc; cases hc
   ·exact hx
  have hlen : k0 ≤ rs.length := by unfold rul at a2; simp at a2; omega
  have HRow := hide (show ∀ r (hr : r < rs.length), r = k0 - 1 → rs[r].L = c ∧ rowP (bytes T) Is (bytes rs[r].R) i j = true from fun r hr e => by
   have e2 : rget (rul rs) k0 = rs[r] := by
    rw [show k0 = r + 1 from by omega, rget_rul, zbl rs r hr]
   rw [e2] at a3 a6
   exact ⟨a3, hK.cl.row hK.big a6.ds hij (by rw [zah]; exact hj) rfl⟩)
  clear hd hU hK hW hM a2 a3 a4 a6
  go_enter Tryz.func43, Tryz.ntmps43
  go_wp2_with (go_at_call 46; refine (zaq _ false _ hs).mono ?_; rintro e w' ⟨rfl, hw'⟩; rw [hw'])
  go_loop [11, 12] (fun rv _ => ∃ r : Nat, r + 1 ≤ k0 ∧ rv = .int .i64 r) (fun rv _ => k0 - (intOf rv).toNat)
  case atStart => exact ⟨0, by omega, rfl⟩
  case round =>
   obtain ⟨r, hr, rfl⟩ := hrel
   have hrl : r < rs.length := by omega
   have hri : (r : Int) < rs.length := by omega
   have hr8 : (r : Int) ≤ 8 := by have := (zaa HK).hn; omega
   obtain ⟨r1, r2, r3⟩ := (zaa HM).ru r hrl
   obtain ⟨y, hy⟩ : ∃ y, rs[r] = y := ⟨_, rfl⟩
   have HRy := hide (show r = k0 - 1 → y.L = c ∧ rowP (bytes T) Is (bytes y.R) i j = true from fun e => by rw [← hy]; exact zaa HRow r hrl e)
   rw [hy] at r1 r2 r3
   have HY := hide hy
   obtain ⟨g1, g2, g3, g4⟩ := (zaa HK).hR y (hy ▸ List.getElem_mem hrl)
   have HG3 := hide g3
   clear hy g1 g2 g3
   by_cases hyc : y.L = c
   ·subst hyc
    cases hrow : rowP (bytes T) Is (bytes y.R) i j
    ·have hne : r + 1 ≠ k0 := fun e => by have := (zaa HRy (by omega)).2; rw [hrow] at this; cases this
     have hr2 : r + 1 + 1 ≤ k0 := by omega
     have HRr := hide hrow
     clear hrow hne
     go_wp2_with (go_at_call 97; refine (r_row pb q off cap rs T gi ci gj cj bI bG Is Go w (by exact zaa HM) hT j hj y.R.size y.R i rfl (by omega) (zaa HG3) hij).mono ?_; rintro e w' ⟨rfl, hw'⟩; rw [hw', zaa HRr])
     go_round
     case rel => exact ⟨r + 1, by omega, by go_num⟩
     case measure => simp [intOf]; omega
    ·obtain ⟨x', n', h', b1, b2, b3, b4⟩ := wr_rule (zaa HK).big (zaa HD) (zaa HU) (k := r + 1) (by omega) (by unfold rul; simp; omega) (by rw [rget_rul, zbl rs r hrl, zaa HY]) (by rw [rget_rul, zbl rs r hrl, zaa HY]; exact (zaa HK).so.row _ hij (by rw [zah]; exact hj) hrow)
     rw [rget_rul, zbl rs r hrl, zaa HY] at b3 b4
     have HX := hide b1
     have HB3 := hide b3
     have HB4 := hide b4
     have HRr := hide hrow
     have hh2 : h' ≤ d := by omega
     have hxl2 : x'.length ≤ 100000000 := by rw [b1] at hxl; simp at hxl; omega
     obtain ⟨ins, hins⟩ : ∃ ins, bstr x' = ins := ⟨_, rfl⟩
     have hisz : ins.size ≤ 1000000000 := by rw [← hins, bstr_size]; omega
     have HIns := hide hins
     clear hins
     clear hrow b1 b2 b3 b4
     go_wp2_with (first
      | (go_at_call 97; refine (r_row pb q off cap rs T gi ci gj cj bI bG Is Go w (by exact zaa HM) hT j hj y.R.size y.R i rfl (by omega) (zaa HG3) hij).mono ?_; rintro e w' ⟨rfl, hw'⟩; rw [hw', zaa HRr])
      | (go_at_call 98; refine (zaa HW y.R i j x' n' h' w (zaa HM) g4 (zaa HG3) hij hj (zaa HB3) (zaa HB4) hh2 hxl2).mono ?_; rintro e w5 ⟨rfl, hf5⟩; rw [zaa HIns]; have HF5 := hide hf5; clear hf5)
      | (refine zbw rfl 158 9 5 (.tmp 67) rfl w5.heap.size 1 (49 + r) (by omega) Tryz.underlying158 Tryz.underlying5 Tryz.underlying9 rfl (by simp) ?_))
     go_ret
     exact ⟨by rw [zaa HX, bstr_node, zaa HIns]; rfl, (zaa HF5).alloc _⟩
   ·have hne : r + 1 ≠ k0 := fun e => hyc (zaa HRy (by omega)).1
    have hr2 : r + 1 + 1 ≤ k0 := by omega
    clear hne
    have hyi : ((y.L : Int) != (c : Int)) = true := by rw [bne_iff_ne]; omega
    go_wp2
    go_round
    case rel => exact ⟨r + 1, by omega, by go_num⟩
    case measure => simp [intOf]; omega
 ·have hb := za4.1 hs
  have HX := hide (show x = [c] from by
   rcases wr_inv hd with ⟨_, _, e⟩ | ⟨k, _, _, _, k1, k2, k3, _⟩
   ·exact e
   ·have := hK.big k k1 k2; rw [k3] at this; rw [zbi this] at hs; cases hs)
  clear hd hU hK hW hM
  go_enter Tryz.func43, Tryz.ntmps43
  go_wp2_with (first
   | (go_at_call 46; refine (zaq _ true _ hs).mono ?_; rintro e w' ⟨rfl, hw'⟩; rw [hw'])
   | (refine zbw rfl 158 9 5 (.tmp 17) rfl w.heap.size 1 c (by omega) Tryz.underlying158 Tryz.underlying5 Tryz.underlying9 rfl (by simp) ?_))
  go_ret
  exact ⟨by rw [zaa HX]; rfl, (Fr.refl [] w).alloc _⟩
end Go.Proofs.YtkglggkkbmmjkabGreatDoor
