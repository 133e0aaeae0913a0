import Derived.Test.YtkglggkkbmmjkaaDoorE15RSigns
namespace Go.Proofs.YtkglggkkbmmjkaaDoor
open Go.RowKit

def ru0 : Ru := ⟨0, ⟨#[]⟩, 0⟩
def rget (rs : List Ru) (i : Nat) : Ru := rs.getD i ru0
theorem rget_eq (rs : List Ru) (i : Nat) (h : i < rs.length) : rget rs i = rs[i] := by simp [rget, h]
/-- an item of these rules -/
def IOk (rs : List Ru) (x : It) : Prop := x.R < rs.length ∧ x.P ≤ (rget rs x.R).R.size ∧ (x.T = 36 ∨ smallB x.T = true)
/-- an item asks for another -/
def Asks (rs : List Ru) (N : Nat → Bool) (T : Nat → Nat → Bool) (x y : It) : Prop :=
  x.P < (rget rs x.R).R.size ∧ bigB (ch (rget rs x.R).R x.P) = true ∧ 1 ≤ y.R ∧ y.R < rs.length ∧ (rget rs y.R).L = ch (rget rs x.R).R x.P ∧ y.P = 0 ∧ y.T < 128 ∧ sgS N T (rget rs x.R) (x.P + 1) x.T y.T = true
/-- what items ask for, and so on -/
def Cl (rs : List Ru) (N : Nat → Bool) (T : Nat → Nat → Bool) (X : It → Prop) (y : It) : Prop :=
  ∀ S : It → Prop, (∀ x, X x → S x) → (∀ x y, S x → Asks rs N T x y → S y) → S y
theorem Cl.base {rs : List Ru} {N : Nat → Bool} {T : Nat → Nat → Bool} {X : It → Prop} {x : It} (h : X x) : Cl rs N T X x := fun _ h1 _ => h1 x h
theorem Cl.step {rs : List Ru} {N : Nat → Bool} {T : Nat → Nat → Bool} {X : It → Prop} {x y : It} (h : Cl rs N T X x) (k : Asks rs N T x y) : Cl rs N T X y := fun S h1 h2 => h2 x y (h S h1 h2) k
def Closed (rs : List Ru) (N : Nat → Bool) (T : Nat → Nat → Bool) (L : List It) : Prop := ∀ x ∈ L, ∀ y, Asks rs N T x y → y ∈ L
/-- a list in order on the way from l -/
structure LP (rs : List Ru) (N : Nat → Bool) (T : Nat → Nat → Bool) (l L : List It) : Prop where
  srt : Srt L
  ok : ∀ y ∈ L, IOk rs y
  sub : ∀ y ∈ l, y ∈ L
  cl : ∀ y ∈ L, Cl rs N T (· ∈ l) y

theorem IOk.ok {rs : List Ru} {x : It} (h : IOk rs x) (hl : rs.length ≤ 9) (hs : ∀ i (h : i < rs.length), rs[i].R.size ≤ 4) : x.ok := by
  obtain ⟨h1, h2, h3⟩ := h
  refine ⟨by omega, ?_, ?_⟩
  · rw [rget_eq rs _ h1] at h2
    have := hs _ h1
    omega
  · rcases h3 with h3 | h3
    · omega
    · have := smallB_iff.1 h3; omega
theorem srt_len : ∀ (l : List It) (m n : Nat), Srt l → (∀ x ∈ l, m ≤ x.key ∧ x.key < n) → l.length ≤ n - m
  | [], _, _, _, _ => by simp
  | a :: l, m, n, hs, h => by
    have h' := List.pairwise_cons.1 hs
    have h0 := h a (List.mem_cons_self ..)
    have ih := srt_len l (a.key + 1) n h'.2 (fun x hx => ⟨h'.1 x hx, (h x (List.mem_cons_of_mem _ hx)).2⟩)
    rw [List.length_cons]; omega
theorem It.ok.key_lt {x : It} (h : x.ok) : x.key < 8832 := by
  obtain ⟨h1, h2, h3⟩ := h
  unfold It.key; omega
theorem LP.len {rs : List Ru} {N : Nat → Bool} {T : Nat → Nat → Bool} {l L : List It} (h : LP rs N T l L) (hl : rs.length ≤ 9) (hs : ∀ i (h : i < rs.length), rs[i].R.size ≤ 4) : L.length ≤ 8832 := by
  have := srt_len L 0 8832 h.srt (fun x hx => ⟨Nat.zero_le _, ((h.ok x hx).ok hl hs).key_lt⟩)
  omega

theorem beg_small' {N : Nat → Bool} {F : Nat → Nat → Bool} {x : Nat} (hF : ∀ c, F c x = true → smallB x = true) : ∀ l, beg N F l x = true → smallB x = true
  | [], h => by cases h
  | c :: l, h => by
    rw [beg] at h
    split at h
    · have : x = c := by simpa using h
      subst this; assumption
    · rw [Bool.or_eq_true, Bool.and_eq_true] at h
      rcases h with h | h
      · exact hF c h
      · exact beg_small' hF l h.2
theorem Asks.ok {rs : List Ru} {N : Nat → Bool} {T : Nat → Nat → Bool} {x y : It} (h : Asks rs N T x y) (hx : IOk rs x) (hT : ∀ c x, x < 128 → T c x = true → smallB x = true) : IOk rs y := by
  obtain ⟨_, _, _, h4, _, h6, h7, h8⟩ := h
  refine ⟨h4, by rw [h6]; exact Nat.zero_le _, ?_⟩
  unfold sgS at h8
  rw [Bool.or_eq_true, Bool.and_eq_true] at h8
  rcases h8 with h8 | h8
  · exact Or.inr (beg_small' (fun c hc => hT c _ h7 hc) _ h8)
  · have : y.T = x.T := by simpa using h8.2
    rw [this]; exact hx.2.2
theorem LP.put {rs : List Ru} {N : Nat → Bool} {T : Nat → Nat → Bool} {l L : List It} {x y : It} (h : LP rs N T l L) (hx : x ∈ L) (k : Asks rs N T x y) (hT : ∀ c x, x < 128 → T c x = true → smallB x = true) : LP rs N T l (putL L y) :=
  ⟨putL_srt L y h.srt, fun z hz => by
    rcases putL_mem L y z hz with hz | rfl
    · exact h.ok z hz
    · exact k.ok (h.ok x hx) hT, fun z hz => putL_sub L y z (h.sub z hz), fun z hz => by
    rcases putL_mem L y z hz with hz | rfl
    · exact h.cl z hz
    · exact (h.cl x hx).step k⟩
theorem putL_in {rs : List Ru} {L : List It} {y : It} (hok : ∀ z ∈ L, IOk rs z) (hy : IOk rs y) (hl : rs.length ≤ 9) (hs : ∀ i (h : i < rs.length), rs[i].R.size ≤ 4) : y ∈ putL L y := by
  obtain ⟨z, hz, he⟩ := putL_has L y
  have hzo : IOk rs z := by
    rcases putL_mem L y z hz with hz | rfl
    · exact hok z hz
    · exact hy
  have e := It.eq_of_key (hzo.ok hl hs) (hy.ok hl hs) he
  subst e
  exact hz

theorem rlst_bytes (S : Nat → Bool) : bytes (rlst S) = (List.range 128).filter S := by
  unfold bytes rlst rlU
  simp only [List.map_map]
  rw [show ((List.range 128).filter S) = ((List.range 128).filter S).map id from (List.map_id _).symm]
  simp only [List.map_map]
  refine List.map_congr_left fun x hx => ?_
  have := List.mem_range.1 (List.mem_filter.1 hx).1
  show (UInt8.ofNat x).toNat = x
  rw [UInt8.toNat_ofNat']
  exact Nat.mod_eq_of_lt (by omega)
theorem rlst_mem {S : Nat → Bool} {x : Nat} (hx : x < 128) (h : S x = true) : ∃ j, j < (rlst S).size ∧ ch (rlst S) j = x := by
  have hm : x ∈ bytes (rlst S) := by
    rw [rlst_bytes]; exact List.mem_filter.2 ⟨List.mem_range.2 hx, h⟩
  obtain ⟨j, hj, e⟩ := List.getElem_of_mem hm
  refine ⟨j, by rw [← bytes_len]; exact hj, ?_⟩
  rw [bytes_get] at e; exact e
/-- the whole list: full, and no more -/
structure FullOf (rs : List Ru) (N : Nat → Bool) (T : Nat → Nat → Bool) (l L : List It) : Prop where
  lp : LP rs N T l L
  closed : Closed rs N T L
theorem FullOf.mem {rs : List Ru} {N : Nat → Bool} {T : Nat → Nat → Bool} {l L : List It} (h : FullOf rs N T l L) (y : It) : y ∈ L ↔ Cl rs N T (· ∈ l) y :=
  ⟨h.lp.cl y, fun k => k (· ∈ L) (fun x hx => h.lp.sub x hx) (fun x y hx ha => h.closed x hx y ha)⟩
end Go.Proofs.YtkglggkkbmmjkaaDoor

namespace Go.Proofs.YtkglggkkbmmjkaaDoor
open Go.RowKit

/-- x's own variable -/
def XV (wr : World) (v : Value) (xb : Nat) (x : It) : Prop := Blk wr xb 3 (itC x) ∧ v.ownBlock ≠ some xb
theorem XV.put {wr wr' : World} {v v' : Value} {xb : Nat} {x : It} (h : XV wr v xb x) (k : Fr v.ownBlock.toList wr wr') (ho : ∀ g', v'.ownBlock = some g' → v.ownBlock = some g' ∨ wr.heap.size ≤ g') : XV wr' v' xb x :=
  ⟨h.1.fr k (fun hm => h.2 (by simpa using hm)), fun e => by
    rcases ho xb e with e | e
    · exact h.2 e
    · have := h.1.lt; omega⟩
theorem XV.fr {wr wr' : World} {v : Value} {xb : Nat} {x : It} (h : XV wr v xb x) (k : Fr [] wr wr') : XV wr' v xb x := ⟨h.1.fr0 k, h.2⟩

/-- while one item's asks join: which rules are done -/
structure KS (rs : List Ru) (N : Nat → Bool) (T : Nat → Nat → Bool) (l L L' : List It) (mv : Bool) (c : Nat) (x : It) (k : Nat) : Prop where
  lp : LP rs N T l L'
  eq : mv = false → L' = L
  gt : mv = true → L.length < L'.length
  sup : ∀ y ∈ L, y ∈ L'
  done : ∀ k', 1 ≤ k' → k' < k → (rget rs k').L = c → ∀ t, t < 128 → sgS N T (rget rs x.R) (x.P + 1) x.T t = true → (⟨k', 0, t⟩ : It) ∈ L'
/-- and which signs of the rule at hand -/
structure JS (rs : List Ru) (N : Nat → Bool) (T : Nat → Nat → Bool) (l L L' : List It) (mv : Bool) (c : Nat) (x : It) (k : Nat) (ss : ByteArray) (j : Nat) : Prop where
  ks : KS rs N T l L L' mv c x k
  row : ∀ j', j' < j → (⟨k, 0, ch ss j'⟩ : It) ∈ L'
theorem JS.put {rs : List Ru} {N : Nat → Bool} {T : Nat → Nat → Bool} {l L L' : List It} {mv : Bool} {c : Nat} {x : It} {k : Nat} {ss : ByteArray} {j : Nat} (h : JS rs N T l L L' mv c x k ss j) (hx : x ∈ L) (ha : Asks rs N T x ⟨k, 0, ch ss j⟩)
    (hT : ∀ c x, x < 128 → T c x = true → smallB x = true) (hl : rs.length ≤ 9) (hs : ∀ i (h : i < rs.length), rs[i].R.size ≤ 4) : JS rs N T l L (putL L' ⟨k, 0, ch ss j⟩) (mv || !hasK L' ⟨k, 0, ch ss j⟩) c x k ss (j + 1) := by
  have hx' := h.ks.sup x hx
  have hlen := putL_len (x := ⟨k, 0, ch ss j⟩) h.ks.lp.srt
  refine ⟨⟨h.ks.lp.put hx' ha hT, fun e => ?_, fun e => ?_, fun y hy => putL_sub _ _ _ (h.ks.sup y hy), fun k' h1 h2 h3 t h4 h5 => putL_sub _ _ _ (h.ks.done k' h1 h2 h3 t h4 h5)⟩, fun j' hj' => ?_⟩
  · rw [Bool.or_eq_false_iff] at e
    have hk : hasK L' ⟨k, 0, ch ss j⟩ = true := by simpa using e.2
    rw [putL_old h.ks.lp.srt hk]; exact h.ks.eq e.1
  · rw [hlen]
    cases mv
    · have hk : hasK L' ⟨k, 0, ch ss j⟩ = false := by simpa using e
      rw [hk, h.ks.eq rfl]; simp
    · have := h.ks.gt rfl; omega
  · by_cases e : j' = j
    · subst e
      exact putL_in h.ks.lp.ok (ha.ok (h.ks.lp.ok x hx') hT) hl hs
    · exact putL_sub _ _ _ (h.row j' (by omega))
theorem JS.next {rs : List Ru} {N : Nat → Bool} {T : Nat → Nat → Bool} {l L L' : List It} {mv : Bool} {c : Nat} {x : It} {k : Nat} {ss : ByteArray} {j : Nat} (h : JS rs N T l L L' mv c x k ss j) (hss : rlst (sgS N T (rget rs x.R) (x.P + 1) x.T) = ss)
    (hj : (rget rs k).L = c → ss.size ≤ j) : KS rs N T l L L' mv c x (k + 1) :=
  ⟨h.ks.lp, h.ks.eq, h.ks.gt, h.ks.sup, fun k' h1 h2 h3 t h4 h5 => by
    by_cases e : k' = k
    · subst e
      obtain ⟨j', hj', e'⟩ := rlst_mem h4 h5
      rw [hss] at hj' e'
      rw [← e']; exact h.row j' (by have := hj h3; omega)
    · exact h.ks.done k' h1 (by omega) h3 t h4 h5⟩
theorem KS.all {rs : List Ru} {N : Nat → Bool} {T : Nat → Nat → Bool} {l L L' : List It} {mv : Bool} {c : Nat} {x : It} {k : Nat} (h : KS rs N T l L L' mv c x k) (hk : rs.length ≤ k) (hc : ch (rget rs x.R).R x.P = c) : ∀ y, Asks rs N T x y → y ∈ L' := fun y ⟨_, _, h3, h4, h5, h6, h7, h8⟩ => by
  obtain ⟨a, b, d⟩ := y
  have h6 : b = 0 := h6
  subst h6
  exact h.done a h3 (Nat.lt_of_lt_of_le h4 hk) (h5.trans hc) d h7 h8

end Go.Proofs.YtkglggkkbmmjkaaDoor

namespace Go.Proofs.YtkglggkkbmmjkaaDoor
open Go.RowKit

/-- an item moves over a letter -/
def MvB (rs : List Ru) (c : Nat) (x : It) : Prop := x.P < (rget rs x.R).R.size ∧ ch (rget rs x.R).R x.P = c
def mvI (x : It) : It := ⟨x.R, x.P + 1, x.T⟩
/-- the items behind a letter, in order -/
structure KernOf (rs : List Ru) (c : Nat) (l K : List It) : Prop where
  srt : Srt K
  ok : ∀ y ∈ K, IOk rs y
  mem : ∀ y, y ∈ K ↔ ∃ x ∈ l, MvB rs c x ∧ y = mvI x
theorem KernOf.nil (rs : List Ru) (c : Nat) : KernOf rs c [] [] := ⟨List.Pairwise.nil, (fun _ h => by cases h), (fun y => by simp)⟩
theorem KernOf.skip {rs : List Ru} {c i : Nat} {l K : List It} (h : KernOf rs c (l.take i) K) (hi : i < l.length) (hn : ¬ MvB rs c (lget l i)) : KernOf rs c (l.take (i + 1)) K := by
  refine ⟨h.srt, h.ok, fun y => ?_⟩
  rw [h.mem y, List.take_succ_eq_append_getElem hi]
  constructor
  · rintro ⟨x, hx, h1, h2⟩
    exact ⟨x, List.mem_append_left _ hx, h1, h2⟩
  · rintro ⟨x, hx, h1, h2⟩
    rcases List.mem_append.1 hx with hx | hx
    · exact ⟨x, hx, h1, h2⟩
    · have : x = l[i] := by simpa using hx
      rw [this, ← lget_eq l i hi] at h1
      exact absurd h1 hn
theorem KernOf.put {rs : List Ru} {c i : Nat} {l K : List It} (h : KernOf rs c (l.take i) K) (hi : i < l.length) (hm : MvB rs c (lget l i)) (hok : IOk rs (lget l i)) (hl : rs.length ≤ 9) (hs : ∀ i (h : i < rs.length), rs[i].R.size ≤ 4) : KernOf rs c (l.take (i + 1)) (putL K (mvI (lget l i))) := by
  have hy : IOk rs (mvI (lget l i)) := ⟨hok.1, hm.1, hok.2.2⟩
  refine ⟨putL_srt _ _ h.srt, fun y hy' => ?_, fun y => ?_⟩
  · rcases putL_mem _ _ _ hy' with h1 | rfl
    · exact h.ok y h1
    · exact hy
  · rw [List.take_succ_eq_append_getElem hi]
    constructor
    · intro h1
      rcases putL_mem _ _ _ h1 with h1 | rfl
      · obtain ⟨x, hx, h2, h3⟩ := (h.mem y).1 h1
        exact ⟨x, List.mem_append_left _ hx, h2, h3⟩
      · exact ⟨lget l i, List.mem_append_right _ (by rw [lget_eq l i hi]; exact List.mem_singleton.2 rfl), hm, rfl⟩
    · rintro ⟨x, hx, h2, rfl⟩
      rcases List.mem_append.1 hx with hx | hx
      · exact putL_sub _ _ _ ((h.mem _).2 ⟨x, hx, h2, rfl⟩)
      · have e : x = l[i] := by simpa using hx
        rw [e, ← lget_eq l i hi]
        exact putL_in h.ok hy hl hs
theorem KernOf.len {rs : List Ru} {c : Nat} {l K : List It} (h : KernOf rs c l K) (hl : rs.length ≤ 9) (hs : ∀ i (h : i < rs.length), rs[i].R.size ≤ 4) : K.length ≤ 8832 := by
  have := srt_len K 0 8832 h.srt (fun x hx => ⟨Nat.zero_le _, ((h.ok x hx).ok hl hs).key_lt⟩)
  omega

end Go.Proofs.YtkglggkkbmmjkaaDoor

namespace Go.Proofs.YtkglggkkbmmjkaaDoor
open Go.RowKit

/-- a state that lies in memory -/
structure Sl where
  g : Nat
  c : Nat
  l : List It
def slV (s : Sl) : Value := .slice (some ⟨s.g, 0, none⟩) s.l.length s.c
theorem Fr.frozen {S : List Nat} {w w' : World} (k : Fr S w w') {b o : Nat} (hb : b ∉ S) (hlt : b < w.heap.size) : w'.frozen? ⟨b, o, none⟩ = w.frozen? ⟨b, o, none⟩ := by
  unfold World.frozen?
  rw [k.block b hlt hb]
end Go.Proofs.YtkglggkkbmmjkaaDoor

namespace Go.Proofs.YtkglggkkbmmjkaaDoor
open Go.RowKit

def wdU (st : Bool) (ru : Nat → Bool) (k : Nat) : List UInt8 := (if st then [115] else []) ++ ((List.range k).filter ru).map fun i => UInt8.ofNat (48 + i)
def wordsT (st : Bool) (ru : Nat → Bool) : ByteArray := ⟨(wdU st ru 9).toArray⟩
/-- the cells of what can be done -/
def canF (st : Bool) (ru : Nat → Bool) : Nat → Value := fun i => if i = 0 then .bool st else .bool (ru (i - 1))

end Go.Proofs.YtkglggkkbmmjkaaDoor

namespace Go.Proofs.YtkglggkkbmmjkaaDoor
open Go.RowKit

def likeI (x y : It) : Bool := x.R == y.R && x.P == y.P
def alikeL (a b : List It) : Bool := a.all fun x => b.any (likeI x)

end Go.Proofs.YtkglggkkbmmjkaaDoor

namespace Go.Proofs.YtkglggkkbmmjkaaDoor
open Go.RowKit

theorem srt_ext : ∀ {a b : List It}, Srt a → Srt b → (∀ y, y ∈ a ↔ y ∈ b) → a = b
  | [], [], _, _, _ => rfl
  | [], y :: b, _, _, h => by have := (h y).2 (List.mem_cons_self ..); cases this
  | x :: a, [], _, _, h => by have := (h x).1 (List.mem_cons_self ..); cases this
  | x :: a, y :: b, ha, hb, h => by
    have ha' := List.pairwise_cons.1 ha
    have hb' := List.pairwise_cons.1 hb
    have e : x = y := by
      rcases List.mem_cons.1 ((h x).1 (List.mem_cons_self ..)) with h1 | h1
      · exact h1
      · rcases List.mem_cons.1 ((h y).2 (List.mem_cons_self ..)) with h2 | h2
        · exact h2.symm
        · have := hb'.1 x h1
          have := ha'.1 y h2
          omega
    subst e
    congr 1
    refine srt_ext ha'.2 hb'.2 fun z => ⟨fun hz => ?_, fun hz => ?_⟩
    · rcases List.mem_cons.1 ((h z).1 (List.mem_cons_of_mem _ hz)) with h1 | h1
      · have := ha'.1 z hz; rw [h1] at this; omega
      · exact h1
    · rcases List.mem_cons.1 ((h z).2 (List.mem_cons_of_mem _ hz)) with h1 | h1
      · have := hb'.1 z hz; rw [h1] at this; omega
      · exact h1
theorem KernOf.uniq {rs : List Ru} {c : Nat} {l K K' : List It} (h : KernOf rs c l K) (h' : KernOf rs c l K') : K = K' :=
  srt_ext h.srt h'.srt fun y => (h.mem y).trans (h'.mem y).symm
theorem FullOf.uniq {rs : List Ru} {N : Nat → Bool} {T : Nat → Nat → Bool} {l L L' : List It} (h : FullOf rs N T l L) (h' : FullOf rs N T l L') : L = L' :=
  srt_ext h.lp.srt h'.lp.srt fun y => (h.mem y).trans (h'.mem y).symm
theorem FullOf.nil {rs : List Ru} {N : Nat → Bool} {T : Nat → Nat → Bool} {L : List It} (h : FullOf rs N T [] L) : L = [] := by
  cases L with
  | nil => rfl
  | cons x L => exact absurd ((h.mem x).1 (List.mem_cons_self ..) (fun _ => False) (fun _ hx => by cases hx) (fun _ _ hx _ => hx)) (fun hf => hf)

open Classical in
/-- the state behind a letter (no item: there is none) -/
noncomputable def stepM (rs : List Ru) (N : Nat → Bool) (T : Nat → Nat → Bool) (l : List It) (c : Nat) : List It :=
  if h : ∃ L, ∃ K, KernOf rs c l K ∧ FullOf rs N T K L then h.choose else []
theorem stepM_eq {rs : List Ru} {N : Nat → Bool} {T : Nat → Nat → Bool} {l K L : List It} {c : Nat} (h : KernOf rs c l K) (k : FullOf rs N T K L) : stepM rs N T l c = L := by
  unfold stepM
  have hex : ∃ L, ∃ K, KernOf rs c l K ∧ FullOf rs N T K L := ⟨L, K, h, k⟩
  rw [dif_pos hex]
  obtain ⟨K', h', k'⟩ := hex.choose_spec
  have e := h.uniq h'
  subst e
  exact k'.uniq k
open Classical in
/-- state 0 -/
noncomputable def startM (rs : List Ru) (N : Nat → Bool) (T : Nat → Nat → Bool) : List It :=
  if h : ∃ L, FullOf rs N T [⟨0, 0, 36⟩] L then h.choose else []
theorem startM_eq {rs : List Ru} {N : Nat → Bool} {T : Nat → Nat → Bool} {L : List It} (k : FullOf rs N T [⟨0, 0, 36⟩] L) : startM rs N T = L := by
  unfold startM
  have hex : ∃ L, FullOf rs N T [⟨0, 0, 36⟩] L := ⟨L, k⟩
  rw [dif_pos hex]
  exact hex.choose_spec.uniq k

/-- a state gets its number -/
def numM (S : List (List It)) (L : List It) : List (List It) × Nat := match S.findIdx? fun s => eqL s L with
  | some i => (S, i)
  | none => (S ++ [L], S.length)
/-- the steps of one state, by these letters -/
noncomputable def rowM (st : Nat → List It) : List Nat → List (List It) → List (Nat × Nat) → Option (List (List It) × List (Nat × Nat))
  | [], S, m => some (S, m)
  | c :: cs, S, m => if (st c).length = 0 then rowM st cs S m else
    if 40 < (numM S (st c)).1.length then none else rowM st cs (numM S (st c)).1 (m ++ [(c, (numM S (st c)).2)])
/-- all states and steps; none: too many -/
noncomputable def tabM (rs : List Ru) (N : Nat → Bool) (T : Nat → Nat → Bool) : Nat → Nat → List (List It) → List (List (Nat × Nat)) → Option (List (List It) × List (List (Nat × Nat)))
  | 0, _, S, M => some (S, M)
  | f + 1, i, S, M => if h : i < S.length then
      match rowM (stepM rs N T S[i]) (List.range' 65 58) S [] with
      | none => none
      | some (S', m) => tabM rs N T f (i + 1) S' (M ++ [m])
    else some (S, M)
end Go.Proofs.YtkglggkkbmmjkaaDoor
