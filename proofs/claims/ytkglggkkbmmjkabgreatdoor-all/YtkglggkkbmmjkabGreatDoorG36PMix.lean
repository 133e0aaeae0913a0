import Derived.Test.YtkglggkkbmmjkabGreatDoorG12RFirst
import Derived.Test.YtkglggkkbmmjkabGreatDoorG22LrR
import Derived.Test.YtkglggkkbmmjkabGreatDoorG23LrB3
import Derived.Test.YtkglggkkbmmjkabGreatDoorG35CallV
import Derived.Test.YtkglggkkbmmjkabGreatDoorG34PCalls3
namespace Go.Proofs.YtkglggkkbmmjkabGreatDoor
open Go.RowKit
/-! What follows a letter: the steps of a round. -/
theorem jRound_append (l l' : List Stp) (F : Nat → Nat → Bool) : zar (l ++ l') F = zar l' (zar l F) := by unfold zar; rw [List.foldl_append]
theorem zcu (l l' : List Stp) (x : Nat) (C : Nat → Bool) : zbb (l ++ l') x C = zbb l' x (zbb l x C) := by unfold zbb; rw [List.foldl_append]
def foSet (N : Nat → Bool) (F : Nat → Nat → Bool) (r : Ru) (p : Nat) (M : Nat → Bool) : Nat → Bool := fun x => beg N F ((bytes r.R).drop (p + 1)) x || (((bytes r.R).drop (p + 1)).all (vanB N false) && M x)
def foStp (N : Nat → Bool) (F : Nat → Nat → Bool) (r : Ru) (p : Nat) : Stp := ⟨ch r.R p, fun x C => foSet N F r p (fun _ => C r.L) x⟩
def foRU (N : Nat → Bool) (F : Nat → Nat → Bool) (r : Ru) (p : Nat) : List Stp := (List.range p).flatMap fun k => if bigB (ch r.R k) then [foStp N F r k] else []
def foR (N : Nat → Bool) (F : Nat → Nat → Bool) (r : Ru) : List Stp := foRU N F r r.R.size
def zaz (N : Nat → Bool) (F : Nat → Nat → Bool) (rs : List Ru) : List Stp := rs.flatMap (foR N F)
theorem foRU_succ (N : Nat → Bool) (F : Nat → Nat → Bool) (r : Ru) (p : Nat) : foRU N F r (p + 1) = foRU N F r p ++ if bigB (ch r.R p) then [foStp N F r p] else [] := by
 unfold foRU
 rw [List.range_succ, List.flatMap_append]
 simp
theorem foRU_big (N : Nat → Bool) (F : Nat → Nat → Bool) (r : Ru) (p : Nat) (h : bigB (ch r.R p) = true) (G : Nat → Nat → Bool) : zar (foRU N F r (p + 1)) G = zch (zar (foRU N F r p) G) (ch r.R p) (foSet N F r p (zar (foRU N F r p) G r.L)) := by
 rw [foRU_succ, if_pos h, jRound_append]; rfl
theorem foRU_not (N : Nat → Bool) (F : Nat → Nat → Bool) (r : Ru) (p : Nat) (h : bigB (ch r.R p) = false) (G : Nat → Nat → Bool) : zar (foRU N F r (p + 1)) G = zar (foRU N F r p) G := by
 rw [foRU_succ, h]; simp
theorem foSteps_succ (N : Nat → Bool) (F : Nat → Nat → Bool) (rs : List Ru) (j : Nat) (h : j < rs.length) (G : Nat → Nat → Bool) : zar (zaz N F (rs.take (j + 1))) G = zar (foR N F rs[j]) (zar (zaz N F (rs.take j)) G) := by
 unfold zaz
 rw [List.take_succ_eq_append_getElem h, List.flatMap_append, jRound_append]
 simp
theorem foSteps_all (N : Nat → Bool) (F : Nat → Nat → Bool) (rs : List Ru) (j : Nat) (h : rs.length ≤ j) (G : Nat → Nat → Bool) : zar (zaz N F (rs.take j)) G = zar (zaz N F rs) G := by rw [List.take_of_length_le h]
theorem foSteps_mem {N : Nat → Bool} {F : Nat → Nat → Bool} {rs : List Ru} {s : Stp} (h : s ∈ zaz N F rs) : ∃ r ∈ rs, ∃ p, p < r.R.size ∧ bigB (ch r.R p) = true ∧ s = foStp N F r p := by
 unfold zaz at h
 obtain ⟨r, hr, h⟩ := List.mem_flatMap.1 h
 unfold foR foRU at h
 obtain ⟨p, hp, h⟩ := List.mem_flatMap.1 h
 split at h
 ·exact ⟨r, hr, p, List.mem_range.1 hp, by assumption, by simpa using h⟩
 ·cases h
theorem foSet_alike {N : Nat → Bool} {F F' : Nat → Nat → Bool} {x : Nat} (hF : ∀ c, F c x = F' c x) (r : Ru) (p : Nat) (M : Nat → Bool) : foSet N F r p M x = foSet N F' r p M x := by
 unfold foSet
 rw [beg_alike (fun _ _ => rfl) hF]
theorem foRU_alike {N : Nat → Bool} {F F' : Nat → Nat → Bool} {x : Nat} (hF : ∀ c, F c x = F' c x) (r : Ru) : ∀ (p : Nat) (C : Nat → Bool), zbb (foRU N F r p) x C = zbb (foRU N F' r p) x C
 | 0, _ => rfl
 | p + 1, C => by
  rw [foRU_succ, foRU_succ, zcu, zcu, foRU_alike hF r p C]
  split
  ·show colStep x _ (foStp N F r p) = colStep x _ (foStp N F' r p)
   unfold colStep
   rw [show (foStp N F r p).B x = (foStp N F' r p).B x from funext fun D => foSet_alike hF r p (fun _ => D r.L)]; rfl
  ·rfl
theorem foSteps_alike {N : Nat → Bool} {F F' : Nat → Nat → Bool} {x : Nat} (hF : ∀ c, F c x = F' c x) : ∀ (rs : List Ru) (C : Nat → Bool), zbb (zaz N F rs) x C = zbb (zaz N F' rs) x C
 | [], _ => rfl
 | r :: rs, C => by
  show zbb (foR N F r ++ zaz N F rs) x C = zbb (foR N F' r ++ zaz N F' rs) x C
  rw [zcu, zcu, foSteps_alike hF rs]
  unfold foR
  rw [foRU_alike hF]
theorem fo_iter_alike {N : Nat → Bool} {F F' : Nat → Nat → Bool} {x : Nat} (hF : ∀ c, F c x = F' c x) (rs : List Ru) (G : Nat → Nat → Bool) (n c : Nat) : zbj (zar (zaz N F rs)) n G c x = zbj (zar (zaz N F' rs)) n G c x := by
 rw [zcs, zcs, show zbb (zaz N F rs) x = zbb (zaz N F' rs) x from funext (foSteps_alike hF rs)]
def fo0 (st : Nat) : Nat → Nat → Bool := fun a x => a == st && x == 36
def followT (rs : List Ru) : Nat → Nat → Bool := zbj (zar (zaz (zan rs) (zau rs) rs)) rs.length (fo0 (stOf rs))
def Sgn (x : Nat) : Prop := x = 36 ∨ zai x = true
theorem jRound_sgn : ∀ (l : List Stp), (∀ s ∈ l, ∀ x C, s.B x C = true → (∃ a, C a = true) ∨ Sgn x) → ∀ G : Nat → Nat → Bool, (∀ c x, G c x = true → Sgn x) → ∀ c x, zar l G c x = true → Sgn x
 | [], _, _, h => h
 | s :: l, hl, G, h => by
  refine jRound_sgn l (fun s hs => hl s (List.mem_cons_of_mem _ hs)) (stepF G s) (fun c x hx => ?_)
  unfold stepF zch at hx
  rw [Bool.or_eq_true, Bool.and_eq_true] at hx
  rcases hx with hx | hx
  ·exact h c x hx
  ·rcases hl s (List.mem_cons_self ..) x _ hx.2 with ⟨a, ha⟩ | hx
   ·exact h a x ha
   ·exact hx
theorem iter_sgn (l : List Stp) (hl : ∀ s ∈ l, ∀ x C, s.B x C = true → (∃ a, C a = true) ∨ Sgn x) (G : Nat → Nat → Bool) (h : ∀ c x, G c x = true → Sgn x) : ∀ n c x, zbj (zar l) n G c x = true → Sgn x
 | 0 => h
 | n + 1 => jRound_sgn l hl _ (iter_sgn l hl G h n)
theorem followT_sgn (rs : List Ru) (c x : Nat) (h : followT rs c x = true) : x = 36 ∨ zai x = true := by
 refine iter_sgn _ (fun s hs x C hx => ?_) (fo0 (stOf rs)) (fun c x hx => ?_) _ c x h
 ·obtain ⟨r, _, p, _, _, rfl⟩ := foSteps_mem hs
  have hx' : foSet (zan rs) (zau rs) r p (fun _ => C r.L) x = true := hx
  unfold foSet at hx'
  rw [Bool.or_eq_true, Bool.and_eq_true] at hx'
  rcases hx' with h1 | h1
  ·exact Or.inr (Or.inr (beg_small (iterF_small _ _ _) _ x h1))
  ·exact Or.inl ⟨r.L, h1.2⟩
 ·unfold fo0 at hx
  rw [Bool.and_eq_true] at hx
  exact Or.inl (by simpa using hx.2)
theorem names_ok {t : ByteArray} (h : (gErr t).1 = 0) : ∀ r ∈ (zad t 8 0 []).1, ∀ c ∈ bytes r.R, bigB c = true → rset (zad t 8 0 []).1 c = true := by
 have hn : zcl (rset (zad t 8 0 []).1) (zad t 8 0 []).1 = none := by
  unfold gErr at h
  split at h
  ·cases h
  split at h
  ·cases h
  ·cases hn : zcl (rset (zad t 8 0 []).1) (zad t 8 0 []).1 with
   | none => rfl
   | some k => rw [hn] at h; cases h
 intro r hr c hc hb
 obtain ⟨j, hj, rfl⟩ := List.getElem_of_mem hc
 have hj' : j < r.R.size := by rw [← zah]; exact hj
 have := names_none hn r hr j hj'
 rw [za5] at hb ⊢
 unfold nm hasB at this
 rw [hb] at this
 simpa using this
theorem foSteps_in {t : ByteArray} (h : (gErr t).1 = 0) (N : Nat → Bool) (F : Nat → Nat → Bool) : ∀ s ∈ zaz N F (zad t 8 0 []).1, rset (zad t 8 0 []).1 s.L = true := fun s hs => by
 obtain ⟨r, hr, p, hp, hb, rfl⟩ := foSteps_mem hs
 refine names_ok h r hr (ch r.R p) ?_ hb
 have hp' : p < (bytes r.R).length := by rw [zah]; exact hp
 rw [← za5 r.R p hp']; exact List.getElem_mem hp'
end Go.Proofs.YtkglggkkbmmjkabGreatDoor
namespace Go.Proofs.YtkglggkkbmmjkabGreatDoor
open Go.RowKit
/-! A good text's grammar and table are so. -/
theorem parse_sum (t : ByteArray) : ∀ f i acc, i ≤ t.size → ((zad t f i acc).1.map fun r => r.R.size + 3).sum ≤ (acc.map fun r => r.R.size + 3).sum + (t.size + 1 - i)
 | 0, i, acc, _ => by rw [zad]; show (acc.map _).sum ≤ _; omega
 | f + 1, i, acc, hi => by
  have hb := zcj t 4 (i + 2)
  have hs : ∀ h : i + 2 ≤ t.size, (t.extract (i + 2) (zam t 4 (i + 2))).size = zam t 4 (i + 2) - (i + 2) := fun h => by
   rw [ByteArray.size_extract]; omega
  have hsum : ∀ h : i + 2 ≤ t.size, ((acc ++ [(⟨ch t i, t.extract (i + 2) (zam t 4 (i + 2)), i⟩ : Ru)]).map fun r => r.R.size + 3).sum = (acc.map fun r => r.R.size + 3).sum + (zam t 4 (i + 2) - (i + 2) + 3) := fun h => by
   rw [List.map_append, List.sum_append]; simp [hs h]
  rw [zad]
  split
  ·split
   ·split
    ·split
     ·show ((acc ++ [(⟨ch t i, t.extract (i + 2) (zam t 4 (i + 2)), i⟩ : Ru)]).map fun r => r.R.size + 3).sum ≤ _
      rw [hsum (by omega)]; omega
     ·have := parse_sum t f (zam t 4 (i + 2) + 1) (acc ++ [⟨ch t i, t.extract (i + 2) (zam t 4 (i + 2)), i⟩]) (by omega)
      rw [hsum (by omega)] at this; omega
    ·show ((acc ++ [(⟨ch t i, t.extract (i + 2) (zam t 4 (i + 2)), i⟩ : Ru)]).map fun r => r.R.size + 3).sum ≤ _
     rw [hsum (by omega)]; omega
   ·show (acc.map _).sum ≤ _; omega
  ·show (acc.map _).sum ≤ _; omega
theorem sumU_rul (rs : List Ru) (g : Ru → Nat) : ∀ n, n ≤ rs.length → sumU (fun k => g (rget (rul rs) k)) (fun _ => true) n = ((rs.take n).map g).sum
 | 0, _ => by simp [sumU]
 | n + 1, h => by
  rw [sumU, sumU_rul rs g n (by omega), List.take_succ_eq_append_getElem (by omega), List.map_append, List.sum_append, rget_rul, zbl rs n (by omega)]
  simp
theorem gr_sz (t : ByteArray) (ht : t.size ≤ 32) (hp : (zad t 8 0 []).2.2 = true) : GrSz (rul (zad t 8 0 []).1) := by
 have hC := ctx_of t ht hp
 have hlen := (za9 t ht).2
 refine ⟨hC.good.sz, ?_, hC.good.len⟩
 have h1 : (rul (zad t 8 0 []).1).length - 1 = (zad t 8 0 []).1.length := by unfold rul; simp
 rw [h1, sumU_rul _ (fun r => r.R.size + 3) _ (Nat.le_refl _), List.take_length]
 have := parse_sum t 8 0 [] (Nat.zero_le _)
 simp at this
 omega
/-! what is known of the letters is closed -/
theorem rn_split (l1 l2 : List Ru) (r : Ru) (S : Nat → Bool) : zay (l1 ++ r :: l2) S = zay l2 (if (bytes r.R).all (zay l1 S) then ins (zay l1 S) r.L else zay l1 S) := by
 unfold zay
 rw [List.foldl_append, List.foldl_cons]
theorem null_closed {rs : List Ru} (hl : ∀ r ∈ rs, bigB r.L = true) : ∀ r ∈ rs, (bytes r.R).all (zan rs) = true → zan rs r.L = true := by
 intro r hr ha
 have hfix : zay rs (zan rs) = zan rs := by
  have h1 := nulls_eq rs hl
  have h2 : zan rs = iter (zay rs) rs.length (fun _ => false) := by
   unfold zan
   exact (mk_rn_iter rs hl _ (fun _ h => by cases h) rs.length).1
  rw [iter, ← h2] at h1
  exact h1
 obtain ⟨l1, l2, rfl⟩ := List.append_of_mem hr
 rw [← hfix, rn_split]
 refine rn_inf l2 _ _ ?_
 rw [if_pos (by
  rw [List.all_eq_true] at ha ⊢
  exact fun c hc => rn_inf l1 _ c (ha c hc))]
 unfold ins; simp
theorem beg_mono {N : Nat → Bool} {F G : Nat → Nat → Bool} {x : Nat} (h : ∀ c, F c x = true → G c x = true) : ∀ l, beg N F l x = true → beg N G l x = true
 | [], e => by cases e
 | c :: l, e => by
  rw [beg] at e ⊢
  split at e
  ·rename_i hc; rw [if_pos hc]; exact e
  ·rename_i hc
   rw [if_neg hc]
   rw [Bool.or_eq_true, Bool.and_eq_true] at e ⊢
   rcases e with e | ⟨e1, e2⟩
   ·exact Or.inl (h c e)
   ·exact Or.inr ⟨e1, beg_mono h l e2⟩
theorem ff_inf (N : Nat → Bool) : ∀ (l : List Ru) (F : Nat → Nat → Bool) (c x : Nat), F c x = true → za3 N l F c x = true
 | [], _, _, _, h => h
 | r :: l, F, c, x, h => by
  show za3 N l (zch F r.L (beg N F (bytes r.R))) c x = true
  refine ff_inf N l _ c x ?_
  unfold zch; rw [h]; rfl
theorem ff_split (N : Nat → Bool) (l1 l2 : List Ru) (r : Ru) (F : Nat → Nat → Bool) : za3 N (l1 ++ r :: l2) F = za3 N l2 (zch (za3 N l1 F) r.L (beg N (za3 N l1 F) (bytes r.R))) := by
 unfold za3
 rw [List.foldl_append, List.foldl_cons]
theorem first_closed {rs : List Ru} : ∀ r ∈ rs, ∀ a, beg (zan rs) (zau rs) (bytes r.R) a = true → zau rs r.L a = true := by
 intro r hr a ha
 have hfix : ∀ c x, za3 (zan rs) rs (zau rs) c x = zau rs c x := fun c x => by
  have := j_fix rs (ffSteps (zan rs) rs) (ffSteps_in (zan rs) rs) (fun _ _ => false) c x
  rw [← ffRound_eq] at this
  exact this
 obtain ⟨l1, l2, e⟩ := List.append_of_mem hr
 rw [← hfix, e, ff_split, ← e]
 refine ff_inf _ l2 _ _ _ ?_
 unfold zch
 rw [beg_mono (F := zau rs) (fun c hc => ff_inf _ l1 _ c a hc) _ ha]; simp
theorem rul_no {rs : List Ru} {r : Ru} (h : r ∈ rs) : ∃ k, 1 ≤ k ∧ k < (rul rs).length ∧ rget (rul rs) k = r := by
 obtain ⟨i, hi, e⟩ := List.getElem_of_mem h
 refine ⟨i + 1, by omega, by unfold rul; simp; omega, ?_⟩
 rw [rget_rul, zbl rs i hi, e]
theorem rul_is {rs : List Ru} {k : Nat} (h1 : 1 ≤ k) (h2 : k < (rul rs).length) : rget (rul rs) k ∈ rs := by
 obtain ⟨k, rfl⟩ : ∃ k', k = k' + 1 := ⟨k - 1, by omega⟩
 have h3 : k < rs.length := by unfold rul at h2; simp at h2; omega
 rw [rget_rul, zbl rs k h3]; exact List.getElem_mem h3
theorem gr_ok (t : ByteArray) (ht : t.size ≤ 32) (hp : (zad t 8 0 []).2.2 = true) : GrOk (rul (zad t 8 0 []).1) (zau (zad t 8 0 []).1) := by
 have hC := ctx_of t ht hp
 exact ⟨hC.good.len, fun i hi => by rw [← zbl _ i hi]; exact hC.good.sz i, hC.small⟩
theorem gr_cl (t : ByteArray) (ht : t.size ≤ 32) (hp : (zad t 8 0 []).2.2 = true) : GrCl (rul (zad t 8 0 []).1) (zan (zad t 8 0 []).1) (zau (zad t 8 0 []).1) := by
 have hC := ctx_of t ht hp
 refine ⟨gr_ok t ht hp, hC.pos, fun k h1 h2 => zb0 t _ (rul_is h1 h2), fun k h1 h2 h => null_closed (zb0 t) _ (rul_is h1 h2) h, fun k a h1 h2 h => first_closed _ (rul_is h1 h2) a h, fun k hk c hc => ?_⟩
 obtain ⟨i, hi, e⟩ := List.getElem_of_mem hc
 rw [za5] at e
 rw [← e]
 exact hC.let_ k i (by rw [← zah]; exact hi)
/-! and so -/
theorem null_sound {rs : List Ru} (hl : ∀ r ∈ rs, bigB r.L = true) : ∀ c, zan rs c = true → ∃ x n, Ds (rul rs) [c] [] x n := by
 have list_of : ∀ {S : Nat → Bool}, (∀ c, S c = true → ∃ x n, Ds (rul rs) [c] [] x n) → ∀ l, l.all S = true → ∃ x n, Ds (rul rs) l [] x n := by
  intro S hS l
  induction l with
  | nil => intro _; exact ⟨[], 0, Ds.nil⟩
  | cons c l ih =>
   intro h
   rw [List.all_cons, Bool.and_eq_true] at h
   obtain ⟨x1, n1, h1⟩ := hS c h.1
   obtain ⟨x2, n2, h2⟩ := ih h.2
   exact ⟨x1 ++ x2, n1 + n2, by simpa using h1.app h2⟩
 have round : ∀ (l : List Ru), (∀ r ∈ l, r ∈ rs) → ∀ S : Nat → Bool, (∀ c, S c = true → ∃ x n, Ds (rul rs) [c] [] x n) → ∀ c, zay l S c = true → ∃ x n, Ds (rul rs) [c] [] x n := by
  intro l
  induction l with
  | nil => intro _ S hS c h; exact hS c h
  | cons r l ih =>
   intro hin S hS c h
   have h' : zay l (if (bytes r.R).all S then ins S r.L else S) c = true := h
   refine ih (fun q hq => hin q (List.mem_cons_of_mem _ hq)) _ (fun c hc => ?_) c h'
   split at hc
   ·rename_i ha
    unfold ins at hc
    rw [Bool.or_eq_true] at hc
    rcases hc with hc | hc
    ·exact hS c hc
    ·have e : c = r.L := by simpa using hc
     obtain ⟨k, k1, k2, k3⟩ := rul_no (hin r (List.mem_cons_self ..))
     obtain ⟨x, n, hd⟩ := list_of hS _ ha
     rw [← k3] at hd
     have := Ds.one k1 k2 hd
     rw [k3, ← e] at this
     exact ⟨_, _, this⟩
   ·exact hS c hc
 have it : ∀ n c, iter (zay rs) n (fun _ => false) c = true → ∃ x m, Ds (rul rs) [c] [] x m := by
  intro n
  induction n with
  | zero => intro c h; cases h
  | succ n ih => intro c h; exact round rs (fun _ h => h) _ ih c h
 intro c h
 rw [← nulls_eq rs hl] at h
 exact it _ c h
theorem ends_sound {rs : List Ru} : ∀ c, ends rs c = true → ∃ w x n, Ds (rul rs) [c] w x n := by
 have list_of : ∀ {S : Nat → Bool}, (∀ c, S c = true → ∃ w x n, Ds (rul rs) [c] w x n) → ∀ l, l.all (vanB S true) = true → ∃ w x n, Ds (rul rs) l w x n := by
  intro S hS l
  induction l with
  | nil => intro _; exact ⟨[], [], 0, Ds.nil⟩
  | cons c l ih =>
   intro h
   rw [List.all_cons, Bool.and_eq_true] at h
   obtain ⟨w2, x2, n2, h2⟩ := ih h.2
   have hc := h.1
   unfold vanB hasB at hc
   rw [Bool.true_and, Bool.or_eq_true, Bool.and_eq_true] at hc
   rcases hc with hc | hc
   ·exact ⟨_, _, _, Ds.small hc h2⟩
   ·obtain ⟨w1, x1, n1, h1⟩ := hS c hc.2
    exact ⟨_, _, _, h1.app h2⟩
 have round : ∀ (l : List Ru), (∀ r ∈ l, r ∈ rs) → ∀ S : Nat → Bool, (∀ c, S c = true → ∃ w x n, Ds (rul rs) [c] w x n) → ∀ c, zbe true l S c = true → ∃ w x n, Ds (rul rs) [c] w x n := by
  intro l
  induction l with
  | nil => intro _ S hS c h; exact hS c h
  | cons r l ih =>
   intro hin S hS c h
   have h' : zbe true l (if (bytes r.R).all (vanB S true) then insB S r.L else S) c = true := h
   refine ih (fun q hq => hin q (List.mem_cons_of_mem _ hq)) _ (fun c hc => ?_) c h'
   split at hc
   ·rename_i ha
    unfold insB at hc
    rw [Bool.or_eq_true, Bool.and_eq_true] at hc
    rcases hc with hc | hc
    ·exact hS c hc
    ·have e : c = r.L := by simpa using hc.2
     obtain ⟨k, k1, k2, k3⟩ := rul_no (hin r (List.mem_cons_self ..))
     obtain ⟨w, x, n, hd⟩ := list_of hS _ ha
     rw [← k3] at hd
     have := Ds.one k1 k2 hd
     rw [k3, ← e] at this
     exact ⟨_, _, _, this⟩
   ·exact hS c hc
 have it : ∀ n c, iter (zbe true rs) n (fun _ => false) c = true → ∃ w x m, Ds (rul rs) [c] w x m := by
  intro n
  induction n with
  | zero => intro c h; cases h
  | succ n ih => intro c h; exact round rs (fun _ h => h) _ ih c h
 exact it _
theorem dead_none {E U : Nat → Bool} : ∀ {l : List Ru}, deadAt E U l = none → ∀ r ∈ l, dead1 E U r = false
 | [], _, r, hr => by cases hr
 | q :: l, h, r, hr => by
  rw [deadAt] at h
  split at h
  ·cases h
  ·rename_i hq
   rcases List.mem_cons.1 hr with rfl | hr
   ·simpa using hq
   ·exact dead_none h r hr
theorem gErr_dead {t : ByteArray} (h : (gErr t).1 = 0) : deadAt (ends (zad t 8 0 []).1) (reach (zad t 8 0 []).1) (zad t 8 0 []).1 = none := by
 unfold gErr at h
 split at h
 ·cases h
 ·split at h
  ·cases h
  ·split at h
   ·cases h
   ·split at h
    ·cases h
    ·assumption
end Go.Proofs.YtkglggkkbmmjkabGreatDoor
namespace Go.Proofs.YtkglggkkbmmjkabGreatDoor
open Go.RowKit
def orK (ru ru2 : Nat → Bool) (k : Nat) : Nat → Bool := fun i => if i < k then ru i || ru2 i else ru i
theorem acF_or (st : Bool) (ru ru2 : Nat → Bool) (k i : Nat) : upd (acF st (orK ru ru2 k)) (1 + k) (.bool (ru k || ru2 k)) i = acF st (orK ru ru2 (k + 1)) i := by
 unfold upd acF
 by_cases e : i = 1 + k
 ·rw [if_pos e, if_neg (by omega), e]
  unfold orK
  rw [Nat.add_sub_cancel_left, if_pos (by omega)]
 ·rw [if_neg e]
  by_cases e0 : i = 0
  ·rw [if_pos e0, if_pos e0]
  ·rw [if_neg e0, if_neg e0]
   unfold orK
   by_cases h : i - 1 < k
   ·rw [if_pos h, if_pos (by omega)]
   ·rw [if_neg h, if_neg (by omega)]
def AaS (w wr : World) (b : Nat) (f : Nat → Value) (g : Nat → Value) : Prop := Fr [b] w wr ∧ Blk wr b 10 f ∧ Blk wr w.heap.size 10 g
set_option maxRecDepth 100000 in
set_option maxHeartbeats 2000000 in
theorem p_aaddAll (b : Nat) (st st2 : Bool) (ru ru2 : Nat → Bool) (w : World) (h : Blk w b 10 (acF st ru)) :
 Calls Tryz.prog 121 #[.pointer (some ⟨b, 0, none⟩), Agg 10 (acF st2 ru2)] w fun e w' => e = .returned (.tuple #[]) ∧ Fr [b] w w' ∧ Blk w' b 10 (acF (st || st2) (orK ru ru2 9)) := by
 have H := hide h
 have lb := h.lt
 clear h
 cases st
 ·cases st2
  ·go_enter Tryz.func121, Tryz.ntmps121
   go_wp2_with (refine zat rfl 135 (.tmp 1) rfl (some 3) rfl 10 (acF false ru2) rfl ?_; intro w1 hf1 hs1 hB1; have H1 := hide (show AaS w w1 b (acF false ru) (acF false ru2) from ⟨hf1.weak (by simp), (zaa H).fr0 hf1, hB1⟩); have c0 : w1.cell? ⟨b, 0, none⟩ = some (.bool false) := ((zaa H1).2.1.cell 0 (by omega)); have z0 := (zaa H1).2.1.free 0; have c1 : w1.cell? ⟨w.heap.size, 0, none⟩ = some (.bool false) := ((zaa H1).2.2.cell 0 (by omega)); clear hf1 hB1 hs1)
   obtain ⟨w2, hw2⟩ : ∃ w2, w1.setCell ⟨b, 0, none⟩ (.bool false) = w2 := ⟨_, rfl⟩
   rw [hw2]
   have H2 := hide (show AaS w w2 b (acF false (orK ru ru2 0)) (acF false ru2) from by
    have k2 : Fr [b] w1 w2 := hw2 ▸ (Fr.refl [b] w1).setCell ⟨b, 0, none⟩ (by simp) _
    refine ⟨(zaa H1).1.trans k2 (by simp), hw2 ▸ ((zaa H1).2.1.setCell 0 (.bool false)).congr fun i _ => ?_, (zaa H1).2.2.fr1 k2 (by omega)⟩
    unfold upd acF orK
    by_cases e : i = 0
    ·rw [if_pos e, if_pos e]
    ·rw [if_neg e, if_neg e, if_neg e, if_neg (by omega)])
   clear hw2 H1 c0 c1 z0
   go_loopw [4] (fun i wr => ∃ k : Nat, k ≤ 9 ∧ i = .int .i64 k ∧ Hid (AaS w wr b (acF false (orK ru ru2 k)) (acF false ru2))) (fun i _ => 9 - (intOf i).toNat)
   case atStart => exact ⟨0, by omega, rfl, H2⟩
   case round =>
    obtain ⟨k, hk, rfl, hs⟩ := hrel
    clear H2
    by_cases hlt : k < 9
    ·obtain ⟨av, hav⟩ : ∃ av, ru k = av := ⟨_, rfl⟩
     have d0 : wr.cell? ⟨b, 1 + k, none⟩ = some (.bool av) := by
      rw [(zaa hs).2.1.cell (1 + k) (by omega)]
      unfold acF orK
      rw [if_neg (by omega), Nat.add_sub_cancel_left, if_neg (by omega), hav]
     have y0 := (zaa hs).2.1.free (1 + k)
     have d1 : wr.cell? ⟨w.heap.size, 1 + k, none⟩ = some (.bool (ru2 k)) := by
      rw [(zaa hs).2.2.cell (1 + k) (by omega)]
      unfold acF
      rw [if_neg (by omega), Nat.add_sub_cancel_left]
     have HN := hide (show AaS w (wr.setCell ⟨b, 1 + k, none⟩ (.bool (av || ru2 k))).drew b (acF false (orK ru ru2 (k + 1))) (acF false ru2) from
      ⟨((zaa hs).1.setCell _ (by simp) _).drew, (((zaa hs).2.1.setCell (1 + k) _).congr fun i _ => by rw [← hav]; exact acF_or false ru ru2 k i).drew, ((zaa hs).2.2.setCell_ne _ (by simp; omega) _).drew⟩)
     clear hs hav
     cases av
     ·go_wp2
      go_region
      all_goals
       go_wp2
       go_roundw
       case rel => exact ⟨k + 1, by omega, by go_num, HN⟩
       case measure => simp [intOf]; omega
     ·go_wp2
      go_region
      all_goals
       go_wp2
       go_roundw
       case rel => exact ⟨k + 1, by omega, by go_num, HN⟩
       case measure => simp [intOf]; omega
    ·have HN := hide (show Fr [b] w wr ∧ Blk wr b 10 (acF false (orK ru ru2 9)) from by
      have e : k = 9 := by omega
      subst e; exact ⟨(zaa hs).1, (zaa hs).2.1⟩)
     clear hs
     go_wp2
     go_end0
     exact ⟨rfl, zaa HN⟩
  ·go_enter Tryz.func121, Tryz.ntmps121
   go_wp2_with (refine zat rfl 135 (.tmp 1) rfl (some 3) rfl 10 (acF true ru2) rfl ?_; intro w1 hf1 hs1 hB1; have H1 := hide (show AaS w w1 b (acF false ru) (acF true ru2) from ⟨hf1.weak (by simp), (zaa H).fr0 hf1, hB1⟩); have c0 : w1.cell? ⟨b, 0, none⟩ = some (.bool false) := ((zaa H1).2.1.cell 0 (by omega)); have z0 := (zaa H1).2.1.free 0; have c1 : w1.cell? ⟨w.heap.size, 0, none⟩ = some (.bool true) := ((zaa H1).2.2.cell 0 (by omega)); clear hf1 hB1 hs1)
   obtain ⟨w2, hw2⟩ : ∃ w2, w1.setCell ⟨b, 0, none⟩ (.bool true) = w2 := ⟨_, rfl⟩
   rw [hw2]
   have H2 := hide (show AaS w w2 b (acF true (orK ru ru2 0)) (acF true ru2) from by
    have k2 : Fr [b] w1 w2 := hw2 ▸ (Fr.refl [b] w1).setCell ⟨b, 0, none⟩ (by simp) _
    refine ⟨(zaa H1).1.trans k2 (by simp), hw2 ▸ ((zaa H1).2.1.setCell 0 (.bool true)).congr fun i _ => ?_, (zaa H1).2.2.fr1 k2 (by omega)⟩
    unfold upd acF orK
    by_cases e : i = 0
    ·rw [if_pos e, if_pos e]
    ·rw [if_neg e, if_neg e, if_neg e, if_neg (by omega)])
   clear hw2 H1 c0 c1 z0
   go_loopw [4] (fun i wr => ∃ k : Nat, k ≤ 9 ∧ i = .int .i64 k ∧ Hid (AaS w wr b (acF true (orK ru ru2 k)) (acF true ru2))) (fun i _ => 9 - (intOf i).toNat)
   case atStart => exact ⟨0, by omega, rfl, H2⟩
   case round =>
    obtain ⟨k, hk, rfl, hs⟩ := hrel
    clear H2
    by_cases hlt : k < 9
    ·obtain ⟨av, hav⟩ : ∃ av, ru k = av := ⟨_, rfl⟩
     have d0 : wr.cell? ⟨b, 1 + k, none⟩ = some (.bool av) := by
      rw [(zaa hs).2.1.cell (1 + k) (by omega)]
      unfold acF orK
      rw [if_neg (by omega), Nat.add_sub_cancel_left, if_neg (by omega), hav]
     have y0 := (zaa hs).2.1.free (1 + k)
     have d1 : wr.cell? ⟨w.heap.size, 1 + k, none⟩ = some (.bool (ru2 k)) := by
      rw [(zaa hs).2.2.cell (1 + k) (by omega)]
      unfold acF
      rw [if_neg (by omega), Nat.add_sub_cancel_left]
     have HN := hide (show AaS w (wr.setCell ⟨b, 1 + k, none⟩ (.bool (av || ru2 k))).drew b (acF true (orK ru ru2 (k + 1))) (acF true ru2) from
      ⟨((zaa hs).1.setCell _ (by simp) _).drew, (((zaa hs).2.1.setCell (1 + k) _).congr fun i _ => by rw [← hav]; exact acF_or true ru ru2 k i).drew, ((zaa hs).2.2.setCell_ne _ (by simp; omega) _).drew⟩)
     clear hs hav
     cases av
     ·go_wp2
      go_region
      all_goals
       go_wp2
       go_roundw
       case rel => exact ⟨k + 1, by omega, by go_num, HN⟩
       case measure => simp [intOf]; omega
     ·go_wp2
      go_region
      all_goals
       go_wp2
       go_roundw
       case rel => exact ⟨k + 1, by omega, by go_num, HN⟩
       case measure => simp [intOf]; omega
    ·have HN := hide (show Fr [b] w wr ∧ Blk wr b 10 (acF true (orK ru ru2 9)) from by
      have e : k = 9 := by omega
      subst e; exact ⟨(zaa hs).1, (zaa hs).2.1⟩)
     clear hs
     go_wp2
     go_end0
     exact ⟨rfl, zaa HN⟩
 ·cases st2
  ·go_enter Tryz.func121, Tryz.ntmps121
   go_wp2_with (refine zat rfl 135 (.tmp 1) rfl (some 3) rfl 10 (acF false ru2) rfl ?_; intro w1 hf1 hs1 hB1; have H1 := hide (show AaS w w1 b (acF true ru) (acF false ru2) from ⟨hf1.weak (by simp), (zaa H).fr0 hf1, hB1⟩); have c0 : w1.cell? ⟨b, 0, none⟩ = some (.bool true) := ((zaa H1).2.1.cell 0 (by omega)); have z0 := (zaa H1).2.1.free 0; have c1 : w1.cell? ⟨w.heap.size, 0, none⟩ = some (.bool false) := ((zaa H1).2.2.cell 0 (by omega)); clear hf1 hB1 hs1)
   obtain ⟨w2, hw2⟩ : ∃ w2, w1.setCell ⟨b, 0, none⟩ (.bool true) = w2 := ⟨_, rfl⟩
   rw [hw2]
   have H2 := hide (show AaS w w2 b (acF true (orK ru ru2 0)) (acF false ru2) from by
    have k2 : Fr [b] w1 w2 := hw2 ▸ (Fr.refl [b] w1).setCell ⟨b, 0, none⟩ (by simp) _
    refine ⟨(zaa H1).1.trans k2 (by simp), hw2 ▸ ((zaa H1).2.1.setCell 0 (.bool true)).congr fun i _ => ?_, (zaa H1).2.2.fr1 k2 (by omega)⟩
    unfold upd acF orK
    by_cases e : i = 0
    ·rw [if_pos e, if_pos e]
    ·rw [if_neg e, if_neg e, if_neg e, if_neg (by omega)])
   clear hw2 H1 c0 c1 z0
   go_loopw [4] (fun i wr => ∃ k : Nat, k ≤ 9 ∧ i = .int .i64 k ∧ Hid (AaS w wr b (acF true (orK ru ru2 k)) (acF false ru2))) (fun i _ => 9 - (intOf i).toNat)
   case atStart => exact ⟨0, by omega, rfl, H2⟩
   case round =>
    obtain ⟨k, hk, rfl, hs⟩ := hrel
    clear H2
    by_cases hlt : k < 9
    ·obtain ⟨av, hav⟩ : ∃ av, ru k = av := ⟨_, rfl⟩
     have d0 : wr.cell? ⟨b, 1 + k, none⟩ = some (.bool av) := by
      rw [(zaa hs).2.1.cell (1 + k) (by omega)]
      unfold acF orK
      rw [if_neg (by omega), Nat.add_sub_cancel_left, if_neg (by omega), hav]
     have y0 := (zaa hs).2.1.free (1 + k)
     have d1 : wr.cell? ⟨w.heap.size, 1 + k, none⟩ = some (.bool (ru2 k)) := by
      rw [(zaa hs).2.2.cell (1 + k) (by omega)]
      unfold acF
      rw [if_neg (by omega), Nat.add_sub_cancel_left]
     have HN := hide (show AaS w (wr.setCell ⟨b, 1 + k, none⟩ (.bool (av || ru2 k))).drew b (acF true (orK ru ru2 (k + 1))) (acF false ru2) from
      ⟨((zaa hs).1.setCell _ (by simp) _).drew, (((zaa hs).2.1.setCell (1 + k) _).congr fun i _ => by rw [← hav]; exact acF_or true ru ru2 k i).drew, ((zaa hs).2.2.setCell_ne _ (by simp; omega) _).drew⟩)
     clear hs hav
     cases av
     ·go_wp2
      go_region
      all_goals
       go_wp2
       go_roundw
       case rel => exact ⟨k + 1, by omega, by go_num, HN⟩
       case measure => simp [intOf]; omega
     ·go_wp2
      go_region
      all_goals
       go_wp2
       go_roundw
       case rel => exact ⟨k + 1, by omega, by go_num, HN⟩
       case measure => simp [intOf]; omega
    ·have HN := hide (show Fr [b] w wr ∧ Blk wr b 10 (acF true (orK ru ru2 9)) from by
      have e : k = 9 := by omega
      subst e; exact ⟨(zaa hs).1, (zaa hs).2.1⟩)
     clear hs
     go_wp2
     go_end0
     exact ⟨rfl, zaa HN⟩
  ·go_enter Tryz.func121, Tryz.ntmps121
   go_wp2_with (refine zat rfl 135 (.tmp 1) rfl (some 3) rfl 10 (acF true ru2) rfl ?_; intro w1 hf1 hs1 hB1; have H1 := hide (show AaS w w1 b (acF true ru) (acF true ru2) from ⟨hf1.weak (by simp), (zaa H).fr0 hf1, hB1⟩); have c0 : w1.cell? ⟨b, 0, none⟩ = some (.bool true) := ((zaa H1).2.1.cell 0 (by omega)); have z0 := (zaa H1).2.1.free 0; have c1 : w1.cell? ⟨w.heap.size, 0, none⟩ = some (.bool true) := ((zaa H1).2.2.cell 0 (by omega)); clear hf1 hB1 hs1)
   obtain ⟨w2, hw2⟩ : ∃ w2, w1.setCell ⟨b, 0, none⟩ (.bool true) = w2 := ⟨_, rfl⟩
   rw [hw2]
   have H2 := hide (show AaS w w2 b (acF true (orK ru ru2 0)) (acF true ru2) from by
    have k2 : Fr [b] w1 w2 := hw2 ▸ (Fr.refl [b] w1).setCell ⟨b, 0, none⟩ (by simp) _
    refine ⟨(zaa H1).1.trans k2 (by simp), hw2 ▸ ((zaa H1).2.1.setCell 0 (.bool true)).congr fun i _ => ?_, (zaa H1).2.2.fr1 k2 (by omega)⟩
    unfold upd acF orK
    by_cases e : i = 0
    ·rw [if_pos e, if_pos e]
    ·rw [if_neg e, if_neg e, if_neg e, if_neg (by omega)])
   clear hw2 H1 c0 c1 z0
   go_loopw [4] (fun i wr => ∃ k : Nat, k ≤ 9 ∧ i = .int .i64 k ∧ Hid (AaS w wr b (acF true (orK ru ru2 k)) (acF true ru2))) (fun i _ => 9 - (intOf i).toNat)
   case atStart => exact ⟨0, by omega, rfl, H2⟩
   case round =>
    obtain ⟨k, hk, rfl, hs⟩ := hrel
    clear H2
    by_cases hlt : k < 9
    ·obtain ⟨av, hav⟩ : ∃ av, ru k = av := ⟨_, rfl⟩
     have d0 : wr.cell? ⟨b, 1 + k, none⟩ = some (.bool av) := by
      rw [(zaa hs).2.1.cell (1 + k) (by omega)]
      unfold acF orK
      rw [if_neg (by omega), Nat.add_sub_cancel_left, if_neg (by omega), hav]
     have y0 := (zaa hs).2.1.free (1 + k)
     have d1 : wr.cell? ⟨w.heap.size, 1 + k, none⟩ = some (.bool (ru2 k)) := by
      rw [(zaa hs).2.2.cell (1 + k) (by omega)]
      unfold acF
      rw [if_neg (by omega), Nat.add_sub_cancel_left]
     have HN := hide (show AaS w (wr.setCell ⟨b, 1 + k, none⟩ (.bool (av || ru2 k))).drew b (acF true (orK ru ru2 (k + 1))) (acF true ru2) from
      ⟨((zaa hs).1.setCell _ (by simp) _).drew, (((zaa hs).2.1.setCell (1 + k) _).congr fun i _ => by rw [← hav]; exact acF_or true ru ru2 k i).drew, ((zaa hs).2.2.setCell_ne _ (by simp; omega) _).drew⟩)
     clear hs hav
     cases av
     ·go_wp2
      go_region
      all_goals
       go_wp2
       go_roundw
       case rel => exact ⟨k + 1, by omega, by go_num, HN⟩
       case measure => simp [intOf]; omega
     ·go_wp2
      go_region
      all_goals
       go_wp2
       go_roundw
       case rel => exact ⟨k + 1, by omega, by go_num, HN⟩
       case measure => simp [intOf]; omega
    ·have HN := hide (show Fr [b] w wr ∧ Blk wr b 10 (acF true (orK ru ru2 9)) from by
      have e : k = 9 := by omega
      subst e; exact ⟨(zaa hs).1, (zaa hs).2.1⟩)
     clear hs
     go_wp2
     go_end0
     exact ⟨rfl, zaa HN⟩
end Go.Proofs.YtkglggkkbmmjkabGreatDoor
