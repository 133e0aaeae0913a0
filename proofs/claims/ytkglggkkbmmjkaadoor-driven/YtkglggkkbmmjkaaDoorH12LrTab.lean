import Derived.Test.YtkglggkkbmmjkaaDoorH11RAlike
import Derived.Deep.DeepCutAuto
namespace Go.Proofs.YtkglggkkbmmjkaaDoor
open Go.RowKit

theorem srt_ext : ∀ {a b : List It}, Srt a → Srt b → (∀ y, y ∈ a ↔ y ∈ b) → a = b
  | [], [], _, _, _ => rfl
  | [], y :: b, _, _, h => by have := (h y).2 (List.mem_cons_self ..); cases this
  | x :: a, [], _, _, h => by have := (h x).1 (List.mem_cons_self ..); cases this
  | x :: a, y :: b, ha, hb, h => by
    have ha' := List.pairwise_cons.1 ha
    have hb' := List.pairwise_cons.1 hb
    have e : x = y := by
      rcases List.mem_cons.1 ((h x).1 (List.mem_cons_self ..)) with h1 | h1
      · exact h1
      · rcases List.mem_cons.1 ((h y).2 (List.mem_cons_self ..)) with h2 | h2
        · exact h2.symm
        · have := hb'.1 x h1
          have := ha'.1 y h2
          omega
    subst e
    congr 1
    refine srt_ext ha'.2 hb'.2 fun z => ⟨fun hz => ?_, fun hz => ?_⟩
    · rcases List.mem_cons.1 ((h z).1 (List.mem_cons_of_mem _ hz)) with h1 | h1
      · have := ha'.1 z hz; rw [h1] at this; omega
      · exact h1
    · rcases List.mem_cons.1 ((h z).2 (List.mem_cons_of_mem _ hz)) with h1 | h1
      · have := hb'.1 z hz; rw [h1] at this; omega
      · exact h1
theorem KernOf.uniq {rs : List Ru} {c : Nat} {l K K' : List It} (h : KernOf rs c l K) (h' : KernOf rs c l K') : K = K' :=
  srt_ext h.srt h'.srt fun y => (h.mem y).trans (h'.mem y).symm
theorem FullOf.uniq {rs : List Ru} {N : Nat → Bool} {T : Nat → Nat → Bool} {l L L' : List It} (h : FullOf rs N T l L) (h' : FullOf rs N T l L') : L = L' :=
  srt_ext h.lp.srt h'.lp.srt fun y => (h.mem y).trans (h'.mem y).symm
theorem FullOf.nil {rs : List Ru} {N : Nat → Bool} {T : Nat → Nat → Bool} {L : List It} (h : FullOf rs N T [] L) : L = [] := by
  cases L with
  | nil => rfl
  | cons x L => exact absurd ((h.mem x).1 (List.mem_cons_self ..) (fun _ => False) (fun _ hx => by cases hx) (fun _ _ hx _ => hx)) (fun hf => hf)

open Classical in
/-- the state behind a letter (no item: there is none) -/
noncomputable def stepM (rs : List Ru) (N : Nat → Bool) (T : Nat → Nat → Bool) (l : List It) (c : Nat) : List It :=
  if h : ∃ L, ∃ K, KernOf rs c l K ∧ FullOf rs N T K L then h.choose else []
theorem stepM_eq {rs : List Ru} {N : Nat → Bool} {T : Nat → Nat → Bool} {l K L : List It} {c : Nat} (h : KernOf rs c l K) (k : FullOf rs N T K L) : stepM rs N T l c = L := by
  unfold stepM
  have hex : ∃ L, ∃ K, KernOf rs c l K ∧ FullOf rs N T K L := ⟨L, K, h, k⟩
  rw [dif_pos hex]
  obtain ⟨K', h', k'⟩ := hex.choose_spec
  have e := h.uniq h'
  subst e
  exact k'.uniq k
open Classical in
/-- state 0 -/
noncomputable def startM (rs : List Ru) (N : Nat → Bool) (T : Nat → Nat → Bool) : List It :=
  if h : ∃ L, FullOf rs N T [⟨0, 0, 36⟩] L then h.choose else []
theorem startM_eq {rs : List Ru} {N : Nat → Bool} {T : Nat → Nat → Bool} {L : List It} (k : FullOf rs N T [⟨0, 0, 36⟩] L) : startM rs N T = L := by
  unfold startM
  have hex : ∃ L, FullOf rs N T [⟨0, 0, 36⟩] L := ⟨L, k⟩
  rw [dif_pos hex]
  exact hex.choose_spec.uniq k

/-- a state gets its number -/
def numM (S : List (List It)) (L : List It) : List (List It) × Nat := match S.findIdx? fun s => eqL s L with
  | some i => (S, i)
  | none => (S ++ [L], S.length)
/-- the steps of one state, by these letters -/
noncomputable def rowM (st : Nat → List It) : List Nat → List (List It) → List (Nat × Nat) → Option (List (List It) × List (Nat × Nat))
  | [], S, m => some (S, m)
  | c :: cs, S, m => if (st c).length = 0 then rowM st cs S m else
    if 40 < (numM S (st c)).1.length then none else rowM st cs (numM S (st c)).1 (m ++ [(c, (numM S (st c)).2)])
/-- all states and steps; none: too many -/
noncomputable def tabM (rs : List Ru) (N : Nat → Bool) (T : Nat → Nat → Bool) : Nat → Nat → List (List It) → List (List (Nat × Nat)) → Option (List (List It) × List (List (Nat × Nat)))
  | 0, _, S, M => some (S, M)
  | f + 1, i, S, M => if h : i < S.length then
      match rowM (stepM rs N T S[i]) (List.range' 65 58) S [] with
      | none => none
      | some (S', m) => tabM rs N T f (i + 1) S' (M ++ [m])
    else some (S, M)
end Go.Proofs.YtkglggkkbmmjkaaDoor

namespace Go.Proofs.YtkglggkkbmmjkaaDoor
open Go.RowKit

/-- the table's own later cells may change -/
theorem TB.set {w : World} {mb q cq fq : Nat} {rs : List Ru} {N : Nat → Bool} {T : Nat → Nat → Bool} (h : TB w mb q cq fq rs N T) (p : Nat) (hp : 130 ≤ p) (v : Value) (hq : q ≠ mb) (hf : fq ≠ mb) : TB (w.setCell ⟨mb, p, none⟩ v) mb q cq fq rs N T := by
  have k : Fr [mb] w (w.setCell ⟨mb, p, none⟩ v) := (Fr.refl [mb] w).setCell ⟨mb, p, none⟩ (by simp) v
  have hc : ∀ j, j < 130 → (w.setCell ⟨mb, p, none⟩ v).cell? ⟨mb, j, none⟩ = w.cell? ⟨mb, j, none⟩ := fun j hj => World.cell?_setCell_other _ _ _ _ (by intro e; have := congrArg Addr.off e; simp at this; omega)
  refine ⟨by rw [hc 0 (by omega)]; exact h.cL, ⟨Nat.lt_of_lt_of_le h.cN.1 k.size, fun i hi => by rw [hc (1 + i) (by omega)]; exact h.cN.2 i hi⟩, by rw [hc 129 (by omega)]; exact h.cF, h.ru.fr k (by simpa using hq) h.lt, Nat.lt_of_lt_of_le h.lt k.size, h.fT.fr1 k hf, h.small, h.lets, h.len⟩

end Go.Proofs.YtkglggkkbmmjkaaDoor

namespace Go.Proofs.YtkglggkkbmmjkaaDoor
open Go.RowKit

/-- the state behind a letter; -1: there is none -/
def toM (m : List (Nat × Nat)) (c : Nat) : Int := match m.find? (fun p => p.1 == c) with
  | some p => p.2
  | none => -1
end Go.Proofs.YtkglggkkbmmjkaaDoor

namespace Go.Proofs.YtkglggkkbmmjkaaDoor
open Go.RowKit

/-- an item at its rule's end, with this sign -/
def endI (rs : List Ru) (x k : Nat) (y : It) : Bool := y.P == (rget rs y.R).R.size && (y.T == x && y.R == k)
def endsL (rs : List Ru) (l : List It) (x k : Nat) : Bool := l.any (endI rs x k)
/-- the state of can -/
structure CaS (w wr : World) (cb mb q cq fq gS cS : Nat) (rs : List Ru) (N : Nat → Bool) (T : Nat → Nat → Bool) (n s : Nat) (x : Sl) (st : Bool) (ru : Nat → Bool) : Prop where
  fr : Fr [cb] w wr
  blk : Blk wr cb 10 (canF st ru)
  tb : TB wr mb q cq fq rs N T
  cS : wr.cell? ⟨mb, 130, none⟩ = some (.slice (some ⟨gS, 0, none⟩) n cS)
  cX : wr.cell? ⟨gS, s, none⟩ = some (slV x)
  its : ItAt wr x.g x.l
  ne : cb ≠ mb ∧ cb ≠ q ∧ cb ≠ fq ∧ cb ≠ gS ∧ cb ≠ x.g
  lt : cb < w.heap.size
theorem CaS.far {w wr wr' : World} {cb mb q cq fq gS cS z : Nat} {rs : List Ru} {N : Nat → Bool} {T : Nat → Nat → Bool} {n s : Nat} {x : Sl} {st : Bool} {ru : Nat → Bool} (h : CaS w wr cb mb q cq fq gS cS rs N T n s x st ru) (k : Fr [z] wr wr') (hz : wr.heap.size ≤ z) : CaS w wr' cb mb q cq fq gS cS rs N T n s x st ru := by
  have a1 := h.tb.cN.lt
  have a2 := h.tb.lt
  have a3 := h.tb.fT.lt
  have a4 := World.block_lt_of_cell? wr ⟨gS, s, none⟩ h.cX
  have a5 := h.fr.size
  have a6 := h.lt
  have hm : mb ∉ [z] := by simp; omega
  refine ⟨h.fr.trans1 k (Or.inr (by omega)), h.blk.fr1 k (by omega), h.tb.fr k hm (by simp; omega) (by simp; omega), k.cell h.cS hm, k.cell h.cX (by simp; simp at a4; omega), fun i hi => ?_, h.ne, h.lt⟩
  have a7 := World.block_lt_of_cell? wr ⟨x.g, i * 3, none⟩ (h.its i hi).1
  have hx : x.g ∉ [z] := by simp; simp at a7; omega
  exact ⟨k.cell (h.its i hi).1 hx, k.cell (h.its i hi).2.1 hx, k.cell (h.its i hi).2.2 hx⟩
theorem CaS.fr0 {w wr wr' : World} {cb mb q cq fq gS cS : Nat} {rs : List Ru} {N : Nat → Bool} {T : Nat → Nat → Bool} {n s : Nat} {x : Sl} {st : Bool} {ru : Nat → Bool} (h : CaS w wr cb mb q cq fq gS cS rs N T n s x st ru) (k : Fr [] wr wr') : CaS w wr' cb mb q cq fq gS cS rs N T n s x st ru :=
  ⟨h.fr.trans0 k, h.blk.fr0 k, h.tb.fr0 k, k.cell0 h.cS, k.cell0 h.cX, h.its.fr0 k, h.ne, h.lt⟩
theorem CaS.put {w wr wr' : World} {cb mb q cq fq gS cS : Nat} {rs : List Ru} {N : Nat → Bool} {T : Nat → Nat → Bool} {n s : Nat} {x : Sl} {st st' : Bool} {ru ru' : Nat → Bool} (h : CaS w wr cb mb q cq fq gS cS rs N T n s x st ru) (k : Fr [cb] wr wr') (hB : Blk wr' cb 10 (canF st' ru')) : CaS w wr' cb mb q cq fq gS cS rs N T n s x st' ru' := by
  obtain ⟨n1, n2, n3, n4, n5⟩ := h.ne
  exact ⟨h.fr.trans k (by simp), hB, h.tb.fr k (by simp; omega) (by simp; omega) (by simp; omega), k.cell h.cS (by simp; omega), k.cell h.cX (by simp; omega), h.its.fr k (by simp; omega), h.ne, h.lt⟩

end Go.Proofs.YtkglggkkbmmjkaaDoor

namespace Go.Proofs.YtkglggkkbmmjkaaDoor
open Go.RowKit

/-- a table: its states, their steps -/
abbrev Tb := List (List It) × List (List (Nat × Nat))
/-- what can be done in a state where a sign comes -/
def canS (r : Tb) (j x : Nat) : Bool := decide (0 ≤ toM (r.2.getD j []) x)
def canR (L : List Ru) (r : Tb) (j x k : Nat) : Bool := endsL L (r.1.getD j []) x k
def actT (L : List Ru) (r : Tb) (j x : Nat) : ByteArray := wordsT (canS r j x) (canR L r j x)
end Go.Proofs.YtkglggkkbmmjkaaDoor

namespace Go.Proofs.YtkglggkkbmmjkaaDoor
open Go.RowKit

open Classical in
theorem srt_of (P : It → Prop) (hP : ∀ y, P y → y.ok) : ∃ L, Srt L ∧ ∀ y, y ∈ L ↔ P y := by
  let f : Nat → Option It := fun k => if h : ∃ y, P y ∧ y.key = k then some h.choose else none
  have hf : ∀ k y, f k = some y → P y ∧ y.key = k := fun k y h => by
    by_cases hx : ∃ y, P y ∧ y.key = k
    · have e : f k = some hx.choose := dif_pos hx
      rw [e] at h
      cases h
      exact hx.choose_spec
    · have e : f k = none := dif_neg hx
      rw [e] at h; cases h
  refine ⟨(List.range 8832).filterMap f, ?_, fun y => ?_⟩
  · unfold Srt
    rw [List.pairwise_filterMap]
    refine List.Pairwise.imp ?_ (List.pairwise_lt_range (n := 8832))
    intro a b hab x hx y hy
    rw [(hf a x hx).2, (hf b y hy).2]; exact hab
  · rw [List.mem_filterMap]
    constructor
    · rintro ⟨k, _, hk⟩; exact (hf k y hk).1
    · intro h
      have hx : ∃ z, P z ∧ z.key = y.key := ⟨y, h, rfl⟩
      refine ⟨y.key, List.mem_range.2 (hP y h).key_lt, ?_⟩
      have e : f y.key = some hx.choose := dif_pos hx
      rw [e, It.eq_of_key (hP _ hx.choose_spec.1) (hP y h) hx.choose_spec.2]

/-- what the rules must be -/
structure GrOk (rs : List Ru) (T : Nat → Nat → Bool) : Prop where
  len : rs.length ≤ 9
  small : ∀ i (h : i < rs.length), rs[i].R.size ≤ 4
  fst : ∀ c x, x < 128 → T c x = true → smallB x = true
theorem Cl.ok {rs : List Ru} {N : Nat → Bool} {T : Nat → Nat → Bool} {X : It → Prop} {y : It} (h : Cl rs N T X y) (hX : ∀ x, X x → IOk rs x) (hT : ∀ c x, x < 128 → T c x = true → smallB x = true) : IOk rs y :=
  h (IOk rs) hX (fun _ _ hx ha => ha.ok hx hT)
theorem full_ex {rs : List Ru} {N : Nat → Bool} {T : Nat → Nat → Bool} (hG : GrOk rs T) {K : List It} (hK : ∀ y ∈ K, IOk rs y) : ∃ L, FullOf rs N T K L := by
  obtain ⟨L, h1, h2⟩ := srt_of (Cl rs N T (· ∈ K)) (fun y hy => (hy.ok hK hG.fst).ok hG.len hG.small)
  exact ⟨L, ⟨h1, fun y hy => ((h2 y).1 hy).ok hK hG.fst, fun y hy => (h2 y).2 (Cl.base hy), fun y hy => (h2 y).1 hy⟩, fun x hx y ha => (h2 y).2 (((h2 x).1 hx).step ha)⟩
theorem mv_ok {rs : List Ru} {c : Nat} {x : It} (h : IOk rs x) (hm : MvB rs c x) : IOk rs (mvI x) := ⟨h.1, hm.1, h.2.2⟩
theorem kern_ex {rs : List Ru} {T : Nat → Nat → Bool} (hG : GrOk rs T) {l : List It} (hl : ∀ y ∈ l, IOk rs y) (c : Nat) : ∃ K, KernOf rs c l K := by
  have hok : ∀ y, (∃ x ∈ l, MvB rs c x ∧ y = mvI x) → IOk rs y := by
    rintro y ⟨x, hx, hm, rfl⟩; exact mv_ok (hl x hx) hm
  obtain ⟨K, h1, h2⟩ := srt_of (fun y => ∃ x ∈ l, MvB rs c x ∧ y = mvI x) (fun y hy => (hok y hy).ok hG.len hG.small)
  exact ⟨K, h1, fun y hy => hok y ((h2 y).1 hy), h2⟩
/-- an item behind a letter -/
def Mvd (rs : List Ru) (c : Nat) (l : List It) (y : It) : Prop := ∃ x ∈ l, MvB rs c x ∧ y = mvI x
theorem step_mem {rs : List Ru} {N : Nat → Bool} {T : Nat → Nat → Bool} (hG : GrOk rs T) {l : List It} (hl : ∀ y ∈ l, IOk rs y) (c : Nat) (y : It) : y ∈ stepM rs N T l c ↔ Cl rs N T (Mvd rs c l) y := by
  obtain ⟨K, hK⟩ := kern_ex hG hl c
  obtain ⟨F, hF⟩ := full_ex (N := N) hG hK.ok
  rw [stepM_eq hK hF, hF.mem y]
  unfold Cl Mvd
  constructor
  · intro h S h1 h2
    exact h S (fun x hx => h1 x ((hK.mem x).1 hx)) h2
  · intro h S h1 h2
    exact h S (fun x hx => h1 x ((hK.mem x).2 hx)) h2
theorem start_mem {rs : List Ru} {N : Nat → Bool} {T : Nat → Nat → Bool} (hG : GrOk rs T) (h0 : 0 < rs.length) (y : It) : y ∈ startM rs N T ↔ Cl rs N T (· = ⟨0, 0, 36⟩) y := by
  obtain ⟨F, hF⟩ := full_ex (N := N) hG (K := [⟨0, 0, 36⟩]) (fun y hy => by rw [List.mem_singleton.1 hy]; exact ⟨h0, Nat.zero_le _, Or.inl rfl⟩)
  rw [startM_eq hF, hF.mem y]
  unfold Cl
  constructor
  · intro h S h1 h2
    exact h S (fun x hx => h1 x (List.mem_singleton.1 hx)) h2
  · intro h S h1 h2
    exact h S (fun x hx => h1 x (List.mem_singleton.2 hx)) h2
theorem step_ok {rs : List Ru} {N : Nat → Bool} {T : Nat → Nat → Bool} (hG : GrOk rs T) {l : List It} (hl : ∀ y ∈ l, IOk rs y) (c : Nat) : ∀ y ∈ stepM rs N T l c, IOk rs y := fun y hy =>
  ((step_mem hG hl c y).1 hy).ok (fun x ⟨z, hz, hm, e⟩ => by rw [e]; exact mv_ok (hl z hz) hm) hG.fst

theorem toM_app_new {m : List (Nat × Nat)} {c j : Nat} (h : ∀ p ∈ m, p.1 ≠ c) (e : List (Nat × Nat)) : toM (m ++ (c, j) :: e) c = j := by
  unfold toM
  rw [List.find?_append, show m.find? (fun p => p.1 == c) = none from List.find?_eq_none.2 (fun p hp => by simpa using h p hp)]
  simp
theorem toM_no {m : List (Nat × Nat)} {c : Nat} (h : ∀ p ∈ m, p.1 ≠ c) : toM m c = -1 := by
  unfold toM
  rw [show m.find? (fun p => p.1 == c) = none from List.find?_eq_none.2 (fun p hp => by simpa using h p hp)]
theorem numM_spec (S : List (List It)) (L : List It) : ∃ e, (numM S L).1 = S ++ e ∧ (numM S L).2 < (numM S L).1.length ∧ (numM S L).1[(numM S L).2]? = some L := by
  unfold numM
  cases h : S.findIdx? (fun s => eqL s L) with
  | some i =>
    rw [List.findIdx?_eq_some_iff_getElem] at h
    obtain ⟨hi, he, _⟩ := h
    refine ⟨[], by simp, hi, ?_⟩
    show S[i]? = some L
    rw [List.getElem?_eq_getElem hi, eqL_iff.1 he]
  | none => exact ⟨[L], rfl, by simp, by simp⟩
/-- what a row says of a letter -/
def RowAt (st : Nat → List It) (S : List (List It)) (m : List (Nat × Nat)) (c : Nat) : Prop :=
  (st c = [] → toM m c = -1) ∧ (st c ≠ [] → ∃ j, toM m c = (j : Nat) ∧ S[j]? = some (st c))
theorem RowAt.ext {st : Nat → List It} {S : List (List It)} {m : List (Nat × Nat)} {c : Nat} (h : RowAt st S m c) (e : List (List It)) : RowAt st (S ++ e) m c := by
  refine ⟨h.1, fun hne => ?_⟩
  obtain ⟨j, h1, h2⟩ := h.2 hne
  refine ⟨j, h1, ?_⟩
  have hj : j < S.length := by
    rcases Nat.lt_or_ge j S.length with hj | hj
    · exact hj
    · rw [List.getElem?_eq_none hj] at h2; cases h2
  rw [List.getElem?_append_left hj]; exact h2
theorem rowM_spec (st : Nat → List It) : ∀ (cs : List Nat) (S : List (List It)) (m : List (Nat × Nat)) (S' : List (List It)) (m' : List (Nat × Nat)), cs.Nodup → (∀ p ∈ m, p.1 ∉ cs) → rowM st cs S m = some (S', m') →
    (∃ e, S' = S ++ e) ∧ (∃ e, m' = m ++ e ∧ ∀ p ∈ e, p.1 ∈ cs) ∧ ∀ c ∈ cs, RowAt st S' m' c
  | [], S, m, S', m', _, _, h => by
    rw [rowM] at h
    cases h
    exact ⟨⟨[], by simp⟩, ⟨[], by simp, by simp⟩, fun c hc => by cases hc⟩
  | c :: cs, S, m, S', m', hnd, hm, h => by
    have hnd' := List.nodup_cons.1 hnd
    rw [rowM] at h
    split at h
    · rename_i h0
      obtain ⟨h1, ⟨e, he, hec⟩, h3⟩ := rowM_spec st cs S m S' m' hnd'.2 (fun p hp hc => hm p hp (List.mem_cons_of_mem _ hc)) h
      refine ⟨h1, ⟨e, he, fun p hp => List.mem_cons_of_mem _ (hec p hp)⟩, fun d hd => ?_⟩
      rcases List.mem_cons.1 hd with rfl | hd
      · refine ⟨fun _ => toM_no fun p hp => ?_, fun hne => absurd (List.length_eq_zero_iff.1 h0) hne⟩
        rw [he] at hp
        rcases List.mem_append.1 hp with hp | hp
        · intro e2; exact hm p hp (by rw [e2]; exact List.mem_cons_self ..)
        · intro e2; exact hnd'.1 (by rw [← e2]; exact hec p hp)
      · exact h3 d hd
    · rename_i h0
      split at h
      · cases h
      · obtain ⟨e0, he0, hj, hget⟩ := numM_spec S (st c)
        obtain ⟨⟨e1, h1⟩, ⟨e, he, hec⟩, h3⟩ := rowM_spec st cs _ _ S' m' hnd'.2 (fun p hp hc => by
          rcases List.mem_append.1 hp with hp | hp
          · exact hm p hp (List.mem_cons_of_mem _ hc)
          · rw [List.mem_singleton.1 hp] at hc; exact hnd'.1 hc) h
        refine ⟨⟨e0 ++ e1, by rw [h1, he0, List.append_assoc]⟩, ⟨(c, (numM S (st c)).2) :: e, by rw [he]; simp, fun p hp => ?_⟩, fun d hd => ?_⟩
        · rcases List.mem_cons.1 hp with rfl | hp
          · exact List.mem_cons_self ..
          · exact List.mem_cons_of_mem _ (hec p hp)
        · rcases List.mem_cons.1 hd with rfl | hd
          · refine ⟨fun hn => absurd (by rw [hn]; rfl) h0, fun _ => ⟨(numM S (st d)).2, ?_, ?_⟩⟩
            · rw [he, List.append_assoc]
              exact toM_app_new (fun p hp e2 => hm p hp (by rw [e2]; exact List.mem_cons_self ..)) e
            · rw [h1, List.getElem?_append_left hj]; exact hget
          · exact h3 d hd
/-- a table, as far as it is made -/
structure TabI (rs : List Ru) (N : Nat → Bool) (T : Nat → Nat → Bool) (S : List (List It)) (M : List (List (Nat × Nat))) : Prop where
  le : M.length ≤ S.length
  row : ∀ n (h : n < M.length), ∀ c, 65 ≤ c → c ≤ 122 → RowAt (stepM rs N T (S.getD n [])) S M[n] c
  out : ∀ n (h : n < M.length), ∀ p ∈ M[n], 65 ≤ p.1 ∧ p.1 ≤ 122
theorem tabM_spec {rs : List Ru} {N : Nat → Bool} {T : Nat → Nat → Bool} : ∀ (f i : Nat) (S : List (List It)) (M : List (List (Nat × Nat))) (S' : List (List It)) (M' : List (List (Nat × Nat))), M.length = i → TabI rs N T S M → tabM rs N T f i S M = some (S', M') → TabI rs N T S' M' ∧ (∃ e, S' = S ++ e) ∧ (M'.length = i + f ∨ M'.length = S'.length)
  | 0, i, S, M, S', M', hi, hI, h => by
    rw [tabM] at h
    cases h
    exact ⟨hI, ⟨[], by simp⟩, Or.inl (by omega)⟩
  | f + 1, i, S, M, S', M', hi, hI, h => by
    rw [tabM] at h
    split at h
    · rename_i hlt
      split at h
      · cases h
      · rename_i S1 m1 hr
        obtain ⟨⟨e1, he1⟩, ⟨e2, he2, hin⟩, hrow⟩ := rowM_spec _ _ _ _ _ _ (List.nodup_range' ..) (fun p hp => by cases hp) hr
        have he2 : m1 = e2 := by simpa using he2
        have hI' : TabI rs N T S1 (M ++ [m1]) := by
          have hle := hI.le
          refine ⟨by rw [he1, List.length_append, List.length_append]; simp; omega, fun n hn c h1 h2 => ?_, fun n hn p hp => ?_⟩
          · rw [he1]
            by_cases hnM : n < M.length
            · rw [List.getElem_append_left hnM, show (S ++ e1).getD n [] = S.getD n [] from by
                rw [List.getD_eq_getElem?_getD, List.getD_eq_getElem?_getD, List.getElem?_append_left (by omega)]]
              exact (hI.row n hnM c h1 h2).ext e1
            · have hn' : n = M.length := by rw [List.length_append] at hn; simp at hn; omega
              subst hn'
              rw [List.getElem_append_right (by omega)]
              simp only [Nat.sub_self, List.getElem_singleton]
              rw [show (S ++ e1).getD M.length [] = S[i] from by
                rw [List.getD_eq_getElem?_getD, List.getElem?_append_left (by omega), List.getElem?_eq_getElem (by omega)]
                simp [hi]]
              rw [← he1]
              exact hrow c (by rw [List.mem_range'_1]; omega)
          · by_cases hnM : n < M.length
            · rw [List.getElem_append_left hnM] at hp; exact hI.out n hnM p hp
            · have hn' : n = M.length := by rw [List.length_append] at hn; simp at hn; omega
              subst hn'
              rw [List.getElem_append_right (by omega)] at hp
              simp only [Nat.sub_self, List.getElem_singleton] at hp
              rw [he2] at hp
              have := hin p hp
              rw [List.mem_range'_1] at this; omega
        obtain ⟨k1, ⟨e3, k2⟩, k3⟩ := tabM_spec f (i + 1) S1 (M ++ [m1]) S' M' (by rw [List.length_append, hi]; rfl) hI' h
        exact ⟨k1, ⟨e1 ++ e3, by rw [k2, he1, List.append_assoc]⟩, by rcases k3 with k3 | k3 <;> omega⟩
    · cases h
      rename_i hlt
      have := hI.le
      exact ⟨hI, ⟨[], by simp⟩, Or.inr (by omega)⟩
end Go.Proofs.YtkglggkkbmmjkaaDoor
