import Derived.Test.YtkglggkkbmmjkaaGreatDoorJ21RSigns
namespace Go.Proofs.YtkglggkkbmmjkaaGreatDoor
open Go.RowKit

/-! Full sets of items. -/
def ru0 : Ru := ⟨0, ⟨#[]⟩, 0⟩
def rget (rs : List Ru) (i : Nat) : Ru := rs.getD i ru0
theorem rget_eq (rs : List Ru) (i : Nat) (h : i < rs.length) : rget rs i = rs[i] := by simp [rget, h]
/-- an item of these rules -/
def IOk (rs : List Ru) (x : It) : Prop := x.R < rs.length ∧ x.P ≤ (rget rs x.R).R.size ∧ (x.T = 36 ∨ smallB x.T = true)
/-- an item asks for another -/
def Asks (rs : List Ru) (N : Nat → Bool) (T : Nat → Nat → Bool) (x y : It) : Prop :=
  x.P < (rget rs x.R).R.size ∧ bigB (ch (rget rs x.R).R x.P) = true ∧ 1 ≤ y.R ∧ y.R < rs.length ∧ (rget rs y.R).L = ch (rget rs x.R).R x.P ∧ y.P = 0 ∧ y.T < 128 ∧ sgS N T (rget rs x.R) (x.P + 1) x.T y.T = true
/-- what items ask for, and so on -/
def Cl (rs : List Ru) (N : Nat → Bool) (T : Nat → Nat → Bool) (X : It → Prop) (y : It) : Prop :=
  ∀ S : It → Prop, (∀ x, X x → S x) → (∀ x y, S x → Asks rs N T x y → S y) → S y
theorem Cl.base {rs : List Ru} {N : Nat → Bool} {T : Nat → Nat → Bool} {X : It → Prop} {x : It} (h : X x) : Cl rs N T X x := fun _ h1 _ => h1 x h
theorem Cl.step {rs : List Ru} {N : Nat → Bool} {T : Nat → Nat → Bool} {X : It → Prop} {x y : It} (h : Cl rs N T X x) (k : Asks rs N T x y) : Cl rs N T X y := fun S h1 h2 => h2 x y (h S h1 h2) k
def Closed (rs : List Ru) (N : Nat → Bool) (T : Nat → Nat → Bool) (L : List It) : Prop := ∀ x ∈ L, ∀ y, Asks rs N T x y → y ∈ L
/-- a list in order on the way from l -/
structure LP (rs : List Ru) (N : Nat → Bool) (T : Nat → Nat → Bool) (l L : List It) : Prop where
  srt : Srt L
  ok : ∀ y ∈ L, IOk rs y
  sub : ∀ y ∈ l, y ∈ L
  cl : ∀ y ∈ L, Cl rs N T (· ∈ l) y

theorem IOk.ok {rs : List Ru} {x : It} (h : IOk rs x) (hl : rs.length ≤ 9) (hs : ∀ i (h : i < rs.length), rs[i].R.size ≤ 4) : x.ok := by
  obtain ⟨h1, h2, h3⟩ := h
  refine ⟨by omega, ?_, ?_⟩
  · rw [rget_eq rs _ h1] at h2
    have := hs _ h1
    omega
  · rcases h3 with h3 | h3
    · omega
    · have := smallB_iff.1 h3; omega
theorem srt_len : ∀ (l : List It) (m n : Nat), Srt l → (∀ x ∈ l, m ≤ x.key ∧ x.key < n) → l.length ≤ n - m
  | [], _, _, _, _ => by simp
  | a :: l, m, n, hs, h => by
    have h' := List.pairwise_cons.1 hs
    have h0 := h a (List.mem_cons_self ..)
    have ih := srt_len l (a.key + 1) n h'.2 (fun x hx => ⟨h'.1 x hx, (h x (List.mem_cons_of_mem _ hx)).2⟩)
    rw [List.length_cons]; omega
theorem It.ok.key_lt {x : It} (h : x.ok) : x.key < 8832 := by
  obtain ⟨h1, h2, h3⟩ := h
  unfold It.key; omega
theorem LP.len {rs : List Ru} {N : Nat → Bool} {T : Nat → Nat → Bool} {l L : List It} (h : LP rs N T l L) (hl : rs.length ≤ 9) (hs : ∀ i (h : i < rs.length), rs[i].R.size ≤ 4) : L.length ≤ 8832 := by
  have := srt_len L 0 8832 h.srt (fun x hx => ⟨Nat.zero_le _, ((h.ok x hx).ok hl hs).key_lt⟩)
  omega

theorem beg_small' {N : Nat → Bool} {F : Nat → Nat → Bool} {x : Nat} (hF : ∀ c, F c x = true → smallB x = true) : ∀ l, beg N F l x = true → smallB x = true
  | [], h => by cases h
  | c :: l, h => by
    rw [beg] at h
    split at h
    · have : x = c := by simpa using h
      subst this; assumption
    · rw [Bool.or_eq_true, Bool.and_eq_true] at h
      rcases h with h | h
      · exact hF c h
      · exact beg_small' hF l h.2
theorem Asks.ok {rs : List Ru} {N : Nat → Bool} {T : Nat → Nat → Bool} {x y : It} (h : Asks rs N T x y) (hx : IOk rs x) (hT : ∀ c x, x < 128 → T c x = true → smallB x = true) : IOk rs y := by
  obtain ⟨_, _, _, h4, _, h6, h7, h8⟩ := h
  refine ⟨h4, by rw [h6]; exact Nat.zero_le _, ?_⟩
  unfold sgS at h8
  rw [Bool.or_eq_true, Bool.and_eq_true] at h8
  rcases h8 with h8 | h8
  · exact Or.inr (beg_small' (fun c hc => hT c _ h7 hc) _ h8)
  · have : y.T = x.T := by simpa using h8.2
    rw [this]; exact hx.2.2
theorem LP.put {rs : List Ru} {N : Nat → Bool} {T : Nat → Nat → Bool} {l L : List It} {x y : It} (h : LP rs N T l L) (hx : x ∈ L) (k : Asks rs N T x y) (hT : ∀ c x, x < 128 → T c x = true → smallB x = true) : LP rs N T l (putL L y) :=
  ⟨putL_srt L y h.srt, fun z hz => by
    rcases putL_mem L y z hz with hz | rfl
    · exact h.ok z hz
    · exact k.ok (h.ok x hx) hT, fun z hz => putL_sub L y z (h.sub z hz), fun z hz => by
    rcases putL_mem L y z hz with hz | rfl
    · exact h.cl z hz
    · exact (h.cl x hx).step k⟩
theorem putL_in {rs : List Ru} {L : List It} {y : It} (hok : ∀ z ∈ L, IOk rs z) (hy : IOk rs y) (hl : rs.length ≤ 9) (hs : ∀ i (h : i < rs.length), rs[i].R.size ≤ 4) : y ∈ putL L y := by
  obtain ⟨z, hz, he⟩ := putL_has L y
  have hzo : IOk rs z := by
    rcases putL_mem L y z hz with hz | rfl
    · exact hok z hz
    · exact hy
  have e := It.eq_of_key (hzo.ok hl hs) (hy.ok hl hs) he
  subst e
  exact hz

/-! a list of signs, as bytes -/
theorem rlst_bytes (S : Nat → Bool) : bytes (rlst S) = (List.range 128).filter S := by
  unfold bytes rlst rlU
  simp only [List.map_map]
  rw [show ((List.range 128).filter S) = ((List.range 128).filter S).map id from (List.map_id _).symm]
  simp only [List.map_map]
  refine List.map_congr_left fun x hx => ?_
  have := List.mem_range.1 (List.mem_filter.1 hx).1
  show (UInt8.ofNat x).toNat = x
  rw [UInt8.toNat_ofNat']
  exact Nat.mod_eq_of_lt (by omega)
theorem rlst_get {S : Nat → Bool} {j : Nat} (h : j < (rlst S).size) : ch (rlst S) j < 128 ∧ S (ch (rlst S) j) = true := by
  have h' : j < (bytes (rlst S)).length := by rw [bytes_len]; exact h
  have hm : (bytes (rlst S))[j] ∈ bytes (rlst S) := List.getElem_mem h'
  rw [bytes_get] at hm
  rw [rlst_bytes] at hm
  obtain ⟨h1, h2⟩ := List.mem_filter.1 hm
  exact ⟨List.mem_range.1 h1, h2⟩
theorem rlst_mem {S : Nat → Bool} {x : Nat} (hx : x < 128) (h : S x = true) : ∃ j, j < (rlst S).size ∧ ch (rlst S) j = x := by
  have hm : x ∈ bytes (rlst S) := by
    rw [rlst_bytes]; exact List.mem_filter.2 ⟨List.mem_range.2 hx, h⟩
  obtain ⟨j, hj, e⟩ := List.getElem_of_mem hm
  refine ⟨j, by rw [← bytes_len]; exact hj, ?_⟩
  rw [bytes_get] at e; exact e
theorem rlst_len (S : Nat → Bool) : (rlst S).size ≤ 128 := by
  rw [← bytes_len, rlst_bytes]
  have := List.length_filter_le S (List.range 128)
  rwa [List.length_range] at this

/-- the whole list: full, and no more -/
structure FullOf (rs : List Ru) (N : Nat → Bool) (T : Nat → Nat → Bool) (l L : List It) : Prop where
  lp : LP rs N T l L
  closed : Closed rs N T L
theorem FullOf.mem {rs : List Ru} {N : Nat → Bool} {T : Nat → Nat → Bool} {l L : List It} (h : FullOf rs N T l L) (y : It) : y ∈ L ↔ Cl rs N T (· ∈ l) y :=
  ⟨h.lp.cl y, fun k => k (· ∈ L) (fun x hx => h.lp.sub x hx) (fun x y hx ha => h.closed x hx y ha)⟩
end Go.Proofs.YtkglggkkbmmjkaaGreatDoor

namespace Go.Proofs.YtkglggkkbmmjkaaGreatDoor
open Go.RowKit

/-- the state of full -/
structure FuS (w wr : World) (B mb q cq fq : Nat) (rs : List Ru) (N : Nat → Bool) (T : Nat → Nat → Bool) (v : Value) (L : List It) : Prop where
  below : Below B w wr
  tb : TB wr mb q cq fq rs N T
  row : IRow wr B v L
  hB : B ≤ wr.heap.size
  hm : mb < B
  hq : q < B
  hf : fq < B
theorem IRow.own {w : World} {B g : Nat} {v : Value} {l : List It} (h : IRow w B v l) (hg : v.ownBlock = some g) : B ≤ g ∧ g < w.heap.size := h.lt g hg
theorem FuS.fr {w wr wr' : World} {B mb q cq fq : Nat} {rs : List Ru} {N : Nat → Bool} {T : Nat → Nat → Bool} {v : Value} {L : List It} (h : FuS w wr B mb q cq fq rs N T v L) (k : Fr [] wr wr') : FuS w wr' B mb q cq fq rs N T v L :=
  ⟨h.below.trans (k.belowOf (by simp) h.hB), h.tb.fr0 k, ownsRow_fr h.row k (by simp), Nat.le_trans h.hB k.size, h.hm, h.hq, h.hf⟩
theorem FuS.far {w wr wr' : World} {B mb q cq fq x : Nat} {rs : List Ru} {N : Nat → Bool} {T : Nat → Nat → Bool} {v : Value} {L : List It} (h : FuS w wr B mb q cq fq rs N T v L) (k : Fr [x] wr wr') (hx : B ≤ x) (hv : v.ownBlock ≠ some x) : FuS w wr' B mb q cq fq rs N T v L := by
  have h1 := h.hm
  have h2 := h.hq
  have h3 := h.hf
  exact ⟨h.below.trans (k.belowOf (by simp; exact hx) h.hB), h.tb.fr k (by simp; omega) (by simp; omega) (by simp; omega), ownsRow_fr' h.row k (fun g hg => by
    simp; intro e; exact hv (by rw [hg, e])), Nat.le_trans h.hB k.size, h1, h2, h3⟩
theorem FuS.put {w wr wr' : World} {B mb q cq fq : Nat} {rs : List Ru} {N : Nat → Bool} {T : Nat → Nat → Bool} {v v' : Value} {L L' : List It} (h : FuS w wr B mb q cq fq rs N T v L) (k : Fr v.ownBlock.toList wr wr') (hr : IRow wr' B v' L') : FuS w wr' B mb q cq fq rs N T v' L' := by
  have h1 := h.hm
  have h2 := h.hq
  have h3 := h.hf
  have hn : ∀ x, x < B → x ∉ v.ownBlock.toList := fun x hx hm => by
    have : v.ownBlock = some x := by simpa using hm
    have := (h.row.own this).1
    omega
  exact ⟨h.below.trans (k.belowOf (fun x hx => (h.row.own (by simpa using hx)).1) h.hB), h.tb.fr k (hn _ h1) (hn _ h2) (hn _ h3), hr, Nat.le_trans h.hB k.size, h1, h2, h3⟩

theorem Tryz.zeroItem : (Tryz.prog.info? 181).bind (·.zero) = some (Agg 3 (itC it0)) := by kernel_rfl
theorem asks_end {rs : List Ru} {N : Nat → Bool} {T : Nat → Nat → Bool} {x y : It} (h : ¬ (x.P < (rget rs x.R).R.size ∧ bigB (ch (rget rs x.R).R x.P) = true)) : ¬ Asks rs N T x y := fun k => h ⟨k.1, k.2.1⟩

/-- x's own variable -/
def XV (wr : World) (v : Value) (xb : Nat) (x : It) : Prop := Blk wr xb 3 (itC x) ∧ v.ownBlock ≠ some xb
theorem XV.put {wr wr' : World} {v v' : Value} {xb : Nat} {x : It} (h : XV wr v xb x) (k : Fr v.ownBlock.toList wr wr') (ho : ∀ g', v'.ownBlock = some g' → v.ownBlock = some g' ∨ wr.heap.size ≤ g') : XV wr' v' xb x :=
  ⟨h.1.fr k (fun hm => h.2 (by simpa using hm)), fun e => by
    rcases ho xb e with e | e
    · exact h.2 e
    · have := h.1.lt; omega⟩
theorem XV.fr {wr wr' : World} {v : Value} {xb : Nat} {x : It} (h : XV wr v xb x) (k : Fr [] wr wr') : XV wr' v xb x := ⟨h.1.fr0 k, h.2⟩

/-- while one item's asks join: which rules are done -/
structure KS (rs : List Ru) (N : Nat → Bool) (T : Nat → Nat → Bool) (l L L' : List It) (mv : Bool) (c : Nat) (x : It) (k : Nat) : Prop where
  lp : LP rs N T l L'
  eq : mv = false → L' = L
  gt : mv = true → L.length < L'.length
  sup : ∀ y ∈ L, y ∈ L'
  done : ∀ k', 1 ≤ k' → k' < k → (rget rs k').L = c → ∀ t, t < 128 → sgS N T (rget rs x.R) (x.P + 1) x.T t = true → (⟨k', 0, t⟩ : It) ∈ L'
/-- and which signs of the rule at hand -/
structure JS (rs : List Ru) (N : Nat → Bool) (T : Nat → Nat → Bool) (l L L' : List It) (mv : Bool) (c : Nat) (x : It) (k : Nat) (ss : ByteArray) (j : Nat) : Prop where
  ks : KS rs N T l L L' mv c x k
  row : ∀ j', j' < j → (⟨k, 0, ch ss j'⟩ : It) ∈ L'
theorem JS.put {rs : List Ru} {N : Nat → Bool} {T : Nat → Nat → Bool} {l L L' : List It} {mv : Bool} {c : Nat} {x : It} {k : Nat} {ss : ByteArray} {j : Nat} (h : JS rs N T l L L' mv c x k ss j) (hx : x ∈ L) (ha : Asks rs N T x ⟨k, 0, ch ss j⟩)
    (hT : ∀ c x, x < 128 → T c x = true → smallB x = true) (hl : rs.length ≤ 9) (hs : ∀ i (h : i < rs.length), rs[i].R.size ≤ 4) : JS rs N T l L (putL L' ⟨k, 0, ch ss j⟩) (mv || !hasK L' ⟨k, 0, ch ss j⟩) c x k ss (j + 1) := by
  have hx' := h.ks.sup x hx
  have hlen := putL_len (x := ⟨k, 0, ch ss j⟩) h.ks.lp.srt
  refine ⟨⟨h.ks.lp.put hx' ha hT, fun e => ?_, fun e => ?_, fun y hy => putL_sub _ _ _ (h.ks.sup y hy), fun k' h1 h2 h3 t h4 h5 => putL_sub _ _ _ (h.ks.done k' h1 h2 h3 t h4 h5)⟩, fun j' hj' => ?_⟩
  · rw [Bool.or_eq_false_iff] at e
    have hk : hasK L' ⟨k, 0, ch ss j⟩ = true := by simpa using e.2
    rw [putL_old h.ks.lp.srt hk]; exact h.ks.eq e.1
  · rw [hlen]
    cases mv
    · have hk : hasK L' ⟨k, 0, ch ss j⟩ = false := by simpa using e
      rw [hk, h.ks.eq rfl]; simp
    · have := h.ks.gt rfl; omega
  · by_cases e : j' = j
    · subst e
      exact putL_in h.ks.lp.ok (ha.ok (h.ks.lp.ok x hx') hT) hl hs
    · exact putL_sub _ _ _ (h.row j' (by omega))
theorem JS.next {rs : List Ru} {N : Nat → Bool} {T : Nat → Nat → Bool} {l L L' : List It} {mv : Bool} {c : Nat} {x : It} {k : Nat} {ss : ByteArray} {j : Nat} (h : JS rs N T l L L' mv c x k ss j) (hss : rlst (sgS N T (rget rs x.R) (x.P + 1) x.T) = ss)
    (hj : (rget rs k).L = c → ss.size ≤ j) : KS rs N T l L L' mv c x (k + 1) :=
  ⟨h.ks.lp, h.ks.eq, h.ks.gt, h.ks.sup, fun k' h1 h2 h3 t h4 h5 => by
    by_cases e : k' = k
    · subst e
      obtain ⟨j', hj', e'⟩ := rlst_mem h4 h5
      rw [hss] at hj' e'
      rw [← e']; exact h.row j' (by have := hj h3; omega)
    · exact h.ks.done k' h1 (by omega) h3 t h4 h5⟩
theorem KS.all {rs : List Ru} {N : Nat → Bool} {T : Nat → Nat → Bool} {l L L' : List It} {mv : Bool} {c : Nat} {x : It} {k : Nat} (h : KS rs N T l L L' mv c x k) (hk : rs.length ≤ k) (hc : ch (rget rs x.R).R x.P = c) : ∀ y, Asks rs N T x y → y ∈ L' := fun y ⟨_, _, h3, h4, h5, h6, h7, h8⟩ => by
  obtain ⟨a, b, d⟩ := y
  have h6 : b = 0 := h6
  subst h6
  exact h.done a h3 (Nat.lt_of_lt_of_le h4 hk) (h5.trans hc) d h7 h8

/-- what full hands back -/
def FullOut (w : World) (B mb q cq fq : Nat) (rs : List Ru) (N : Nat → Bool) (T : Nat → Nat → Bool) (l : List It) (e : Ending) (w' : World) : Prop :=
  ∃ v' L, e = .returned v' ∧ FullOf rs N T l L ∧ FuS w w' B mb q cq fq rs N T v' L

set_option maxRecDepth 100000 in
set_option maxHeartbeats 8000000 in
theorem r_full (B mb q cq fq : Nat) (rs : List Ru) (N : Nat → Bool) (T : Nat → Nat → Bool) (v : Value) (l : List It) (w : World) (h : TB w mb q cq fq rs N T) (hr : IRow w B v l) (hB : B ≤ w.heap.size) (hm : mb < B) (hq : q < B) (hf : fq < B)
    (hT : ∀ c x, x < 128 → T c x = true → smallB x = true) (hs : Srt l) (hok : ∀ y ∈ l, IOk rs y) :
    Calls Tryz.prog 122 #[.pointer (some ⟨mb, 0, none⟩), v] w fun e w' => FullOut w B mb q cq fq rs N T l e w' := by
  have hlen := h.len
  have HSm := hide h.small
  have HLets := hide h.lets
  have HT := hide hT
  have HS0 := hide (show FuS w w B mb q cq fq rs N T v l from ⟨Below.refl _ _, h, hr, hB, hm, hq, hf⟩)
  have HLP0 := hide (show LP rs N T l l from ⟨hs, hok, fun _ h => h, fun _ h => Cl.base h⟩)
  clear h hr hB hm hq hf hT hs hok
  go_enter Tryz.func122, Tryz.ntmps122
  go_wp2
  go_loopg [1, 5] ((9000 - l.length) * 2 + 1) (fun g v' mo wr => ∃ (L : List It) (mv : Bool), g = (9000 - L.length) * 2 + (if mv then 1 else 0) ∧ mo = .bool mv ∧ Hid (LP rs N T l L) ∧ Hid (mv = false → Closed rs N T L) ∧ Hid (FuS w wr B mb q cq fq rs N T v' L))
  case atStart => exact ⟨l, true, rfl, rfl, HLP0, (fun h => by cases h), HS0⟩
  case round =>
    obtain ⟨L0, mv, hg, rfl, hlp, hcl, hfs⟩ := hrel
    cases mv
    · have HCl := hide (unhide hcl rfl)
      clear hcl
      go_wp2
      go_ret
      exact ⟨_, L0, rfl, ⟨unhide hlp, unhide HCl⟩, unhide hfs⟩
    · have hL0 := (unhide hlp).len hlen (unhide HSm)
      go_wp2
      go_loopw [1, 5, 6] (fun v' mo iv wr => ∃ (L : List It) (mv : Bool) (i : Nat), i ≤ L0.length ∧ mo = .bool mv ∧ iv = .int .i64 i ∧ Hid (LP rs N T l L) ∧ Hid (mv = false → L = L0 ∧ ∀ j, j < i → ∀ y, Asks rs N T (lget L0 j) y → y ∈ L0) ∧ Hid (mv = true → L0.length < L.length) ∧ Hid (FuS w wr B mb q cq fq rs N T v' L)) (fun _ _ iv _ => L0.length + 1 - (intOf iv).toNat)
      case atStart => exact ⟨L0, false, 0, by omega, rfl, rfl, hlp, (fun _ => ⟨rfl, fun j hj => by omega⟩), (fun h => by cases h), hfs⟩
      case round =>
        obtain ⟨L, mv, i, hi, rfl, rfl, hlp2, hfal, htru, hfs2⟩ := hrel
        cases mv
        · obtain ⟨rfl, hdone⟩ := unhide hfal rfl
          have HDone := hide hdone
          clear hfal htru hdone hcl
          have hrow := (unhide hfs2).row
          obtain ⟨g, cap, rfl⟩ | ⟨rfl, h0⟩ : (∃ g cap, u1 = .slice (some ⟨g, 0, none⟩) L.length cap) ∨ (u1 = .slice none 0 0 ∧ L.length = 0) := by
            rcases hrow.2 with ⟨e, h0⟩ | ⟨g, cap, cur, e, _⟩
            · exact Or.inr ⟨e, h0⟩
            · exact Or.inl ⟨g, cap, e⟩
          · by_cases hlt : i < L.length
            · obtain ⟨x, hx⟩ : ∃ x, lget L i = x := ⟨_, rfl⟩
              obtain ⟨c0, c1, c2⟩ := (IRow.at (unhide hfs2).row).1 i hlt
              rw [hx] at c0 c1 c2
              have hxm : x ∈ L := by rw [← hx, lget_eq L i hlt]; exact List.getElem_mem hlt
              have HXM := hide hxm
              have HX := hide hx
              have HIO := hide ((unhide hlp2).ok x hxm)
              obtain ⟨hxR, hxP, hxT⟩ := (unhide hlp2).ok x hxm
              obtain ⟨rt, hrt⟩ : ∃ rt, (rget rs x.R).R = rt := ⟨_, rfl⟩
              have HRt := hide hrt
              have hrs4 : rt.size ≤ 4 := by rw [← hrt, rget_eq rs _ hxR]; exact unhide HSm _ hxR
              rw [hrt] at hxP
              have hgl := (IRow.at (unhide hfs2).row).2.2.1
              have hgB := (unhide hfs2).hB
              have HXT := hide hxT
              clear hx hxm hrt hrow hxT
              go_wp2_with (first
                | (refine wpList_alloc_blk rfl 181 rfl (some 7) rfl 3 _ Tryz.zeroItem ?_; intro w2 hf2 hs2 hB2; have HF2 := hide ((unhide hfs2).fr hf2); have HB2 := hide hB2; clear hf2 hs2 hB2)
                | (refine wpList_store_blk rfl 181 (.tmp 7) (.tmp 28) rfl wr.heap.size 0 3 3 (itC it0) (itC x) rfl (by exact agg_it x) (by exact unhide HB2) Tryz.sizeItem (by omega) (by intro i hi; unfold itC; split; rfl; split <;> rfl) ?_; intro w3 hf3 hs3 hB3; have HF3 := hide ((unhide HF2).far hf3 hgB (by simp [Value.ownBlock]; omega)); have HV3 := hide (show XV w3 (.slice (some ⟨g, 0, none⟩) L.length cap) wr.heap.size x from ⟨hB3.congr fun i hi => lay_all _ _ _ i hi, by simp [Value.ownBlock]; omega⟩); clear hf3 hs3 hB3))
              have hxb : wr.heap.size < w3.heap.size := (unhide HV3).1.lt
              generalize wr.heap.size = xb at *
              clear c0 c1 c2 HF2 HB2 hfs2
              have t0 := (unhide HF3).tb.cL
              have t1 : w3.cell? ⟨xb, 0, none⟩ = some (.int .i64 x.R) := (unhide HV3).1.cell 0 (by omega)
              have t2 : w3.cell? ⟨q, x.R * 3 + 1, none⟩ = some (.string rt) := by
                rw [((unhide HF3).tb.ru x.R hxR).2.1, ← rget_eq rs _ hxR, unhide HRt]
              have v0 : (0 : Int) ≤ (x.R : Int) := by omega
              have v1 : (x.R : Int) < (rs.length : Int) := by omega
              go_region_held3 (fun w' => w'.cell? ⟨mb, 0, none⟩ = some (.slice (some ⟨q, 0, none⟩) rs.length cq) ∧ w'.cell? ⟨xb, 0, none⟩ = some (.int .i64 x.R) ∧ w'.cell? ⟨q, x.R * 3 + 1, none⟩ = some (.string rt)) (exact ⟨t0, t1, t2⟩) (fail)
              have HF4 := hide ((unhide HF3).fr ((Fr.refl [] _).drew))
              have HV4 := hide ((unhide HV3).fr ((Fr.refl [] _).drew))
              have t1' : w3.drew.cell? ⟨xb, 1, none⟩ = some (.int .i64 x.P) := (unhide HV4).1.cell 1 (by omega)
              generalize w3.drew = w4 at *
              by_cases hend : x.P = rt.size
              · have hq : (((x.P : Nat) : Int) == (rt.size : Nat)) = true := by rw [beq_iff_eq]; omega
                have HDn := hide (show ∀ j, j < i + 1 → ∀ y, Asks rs N T (lget L j) y → y ∈ L from fun j hj y hy => by
                  by_cases e : j = i
                  · rw [e, unhide HX] at hy
                    exact absurd hy (asks_end (by rw [unhide HRt]; omega))
                  · exact unhide HDone j (by omega) y hy)
                go_wp2
                go_roundw
                case rel => exact ⟨L, false, i + 1, by omega, rfl, by go_num, hlp2, (fun _ => ⟨rfl, unhide HDn⟩), (fun h => by cases h), HF4⟩
                case measure => simp [intOf]; omega
              · have hq : (((x.P : Nat) : Int) == (rt.size : Nat)) = false := by rw [beq_eq_false_iff_ne]; omega
                have hlP : x.P < rt.size := by omega
                have hch := hide (ch_eq rt x.P hlP)
                cases hbg : bigB rt[x.P].toNat
                · have HDn := hide (show ∀ j, j < i + 1 → ∀ y, Asks rs N T (lget L j) y → y ∈ L from fun j hj y hy => by
                    by_cases e : j = i
                    · rw [e, unhide HX] at hy
                      exact absurd hy (asks_end (by rw [unhide HRt, unhide hch, hbg]; simp))
                    · exact unhide HDone j (by omega) y hy)
                  go_wp2_with (go_at_call 63; refine (r_isBig_is _ false _ hbg).mono ?_; rintro e w' ⟨rfl, rfl⟩)
                  go_roundw
                  case rel => exact ⟨L, false, i + 1, by omega, rfl, by go_num, hlp2, (fun _ => ⟨rfl, unhide HDn⟩), (fun h => by cases h), HF4⟩
                  case measure => simp [intOf]; omega
                · have t0' : w4.cell? ⟨xb, 0, none⟩ = some (.int .i64 x.R) := (unhide HV4).1.cell 0 (by omega)
                  have t2' : w4.cell? ⟨xb, 2, none⟩ = some (.int .u8 x.T) := (unhide HV4).1.cell 2 (by omega)
                  have HSg := hide (show rs[x.R] = rget rs x.R from (rget_eq rs _ hxR).symm)
                  obtain ⟨ss, hss⟩ : ∃ ss, rlst (sgS N T (rget rs x.R) (x.P + 1) x.T) = ss := ⟨_, rfl⟩
                  have HSs := hide hss
                  have hs128 : ss.size ≤ 128 := by rw [← hss]; exact rlst_len _
                  have HP1 := hide (show x.P + 1 ≤ rs[x.R].R.size from by rw [unhide HSg, unhide HRt]; omega)
                  have HT1 := hide (show x.T < 128 from by
                    rcases unhide HXT with h | h
                    · omega
                    · have := smallB_iff.1 h; omega)
                  clear hss
                  go_wp2_with (first
                    | (go_at_call 63; refine (r_isBig_is _ true _ hbg).mono ?_; rintro e w' ⟨rfl, rfl⟩)
                    | (go_at_call 142; refine (r_signs mb q cq fq rs N T x.R (x.P + 1) x.T _ (by exact (unhide HF4).tb) hxR (unhide HP1) (unhide HT1)).mono ?_; rintro e w5 ⟨rfl, hf5⟩; rw [unhide HSg, unhide HSs]; have HF5 := hide ((unhide HF4).fr hf5); have HV5 := hide ((unhide HV4).fr hf5); clear hf5))
                  have HKS := hide (show KS rs N T l L L false rt[x.P].toNat x 1 from ⟨unhide hlp2, (fun _ => rfl), (fun h => by cases h), (fun _ h => h), (fun k' h1 h2 => by omega)⟩)
                  clear t0 t1 t2 t0' t1' t2' HF4 HV4 HF3 HV3
                  go_loopw [1, 5, 10] (fun v' mo kv wr => ∃ (L' : List It) (mv : Bool) (k : Nat), 1 ≤ k ∧ k ≤ rs.length ∧ mo = .bool mv ∧ kv = .int .i64 k ∧ Hid (KS rs N T l L L' mv rt[x.P].toNat x k) ∧ Hid (FuS w wr B mb q cq fq rs N T v' L') ∧ Hid (XV wr v' xb x)) (fun _ _ kv _ => rs.length + 1 - (intOf kv).toNat)
                  case atStart => exact ⟨L, false, 1, by omega, by omega, rfl, rfl, HKS, HF5, HV5⟩
                  case round =>
                    obtain ⟨L', mv, k, hk1, hk2, rfl, rfl, hks, hfs3, hxv⟩ := hrel
                    have t0 := (unhide hfs3).tb.cL
                    by_cases hkt : k < rs.length
                    · have HJS := hide (show JS rs N T l L L' mv rt[x.P].toNat x k ss 0 from ⟨unhide hks, fun j hj => by omega⟩)
                      go_wp2
                      go_loopw [1, 5, 11] (fun v' mo jv wr => ∃ (L' : List It) (mv : Bool) (j : Nat), j ≤ ss.size ∧ mo = .bool mv ∧ jv = .int .i64 j ∧ Hid (JS rs N T l L L' mv rt[x.P].toNat x k ss j) ∧ Hid (FuS w wr B mb q cq fq rs N T v' L') ∧ Hid (XV wr v' xb x)) (fun _ _ jv _ => ss.size + 1 - (intOf jv).toNat)
                      case atStart => exact ⟨L', mv, 0, by omega, rfl, rfl, HJS, hfs3, hxv⟩
                      case round =>
                        obtain ⟨L', mv, j, hj, rfl, rfl, hjs, hfs4, hxv4⟩ := hrel
                        clear hks hfs3 hxv HJS
                        have s0 := (unhide hfs4).tb.cL
                        obtain ⟨kl, hkl⟩ : ∃ kl, (rget rs k).L = kl := ⟨_, rfl⟩
                        have s1 : wr.cell? ⟨q, k * 3, none⟩ = some (.int .u8 kl) := by
                          rw [((unhide hfs4).tb.ru k hkt).1, ← rget_eq rs _ hkt, hkl]
                        have s2 : wr.cell? ⟨xb, 1, none⟩ = some (.int .i64 x.P) := (unhide hxv4).1.cell 1 (by omega)
                        have HKL := hide hkl
                        have w0 : (0 : Int) ≤ (k : Int) := by omega
                        have w1 : (k : Int) < (rs.length : Int) := by omega
                        have w2 : (0 : Int) ≤ (x.P : Int) := by omega
                        have w3 : (x.P : Int) < (rt.size : Int) := by omega
                        clear hkl
                        by_cases hL : kl = rt[x.P].toNat
                        · have hLb : (((kl : Nat) : Int) == (rt[x.P].toNat : Nat)) = true := by rw [beq_iff_eq]; omega
                          by_cases hjt : j < ss.size
                          · go_wp2_with fail
                            go_quiet (fail)
                            generalize hwd : World.drewN wr _ = wq
                            have HF6 := hide (show FuS w wq B mb q cq fq rs N T u1 L' from by rw [← hwd]; exact (unhide hfs4).fr (fr_drewN _ _))
                            have HV6 := hide (show XV wq u1 xb x from by rw [← hwd]; exact (unhide hxv4).fr (fr_drewN _ _))
                            have hcj := ch_eq ss j hjt
                            have hsg := rlst_get (S := sgS N T (rget rs x.R) (x.P + 1) x.T) (j := j) (by rw [unhide HSs]; exact hjt)
                            rw [unhide HSs, hcj] at hsg
                            have HA := hide (show Asks rs N T x ⟨k, 0, ss[j].toNat⟩ from ⟨by rw [unhide HRt]; exact hlP, by rw [unhide HRt, unhide hch]; exact hbg, hk1, hkt, by rw [unhide HRt, unhide hch]; exact (unhide HKL).trans hL, rfl, hsg.1, hsg.2⟩)
                            have HPut := hide ((unhide hjs).put (unhide HXM) (by rw [hcj]; exact unhide HA) (unhide HT) hlen (unhide HSm))
                            rw [hcj] at HPut
                            obtain ⟨gv, hgv⟩ : ∃ gv, (!hasK L' ⟨k, 0, ss[j].toNat⟩) = gv := ⟨_, rfl⟩
                            rw [hgv] at HPut
                            have HGv := hide hgv
                            have HLen := hide ((unhide hjs).ks.lp.len hlen (unhide HSm))
                            have HYok := hide (((unhide HA).ok (unhide HIO) (unhide HT)).ok hlen (unhide HSm))
                            clear hgv hsg hwd hcj hfs4 hxv4 s0 s1 s2
                            cases mv <;>
                            (go_wp2_with (go_at_call 143; refine (r_put B u1 L' ⟨k, 0, ss[j].toNat⟩ _ (by exact (unhide HF6).row) (fun y hy => ((unhide hjs).ks.lp.ok y hy).ok hlen (unhide HSm)) (unhide HYok) (Nat.le_trans (unhide HLen) (by omega)) (by exact (unhide HF6).hB) (unhide hjs).ks.lp.srt).mono ?_; rintro e w6 ⟨v6, rfl, hrow6, hf6, ho6⟩; rw [unhide HGv]; have HF7 := hide ((unhide HF6).put hf6 hrow6); have HV7 := hide ((unhide HV6).put hf6 ho6); clear hrow6 hf6 ho6)
                             go_roundw
                             case rel => exact ⟨_, _, j + 1, by omega, rfl, by go_num, HPut, HF7, HV7⟩
                             case measure => simp [intOf]; omega)
                          · have HN := hide ((unhide hjs).next (unhide HSs) (fun _ => by omega))
                            go_wp2_with fail
                            go_quiet (fail)
                            go_wp2
                            go_roundw
                            case rel => exact ⟨L', mv, k + 1, by omega, by omega, rfl, by go_num, HN, hide ((unhide hfs4).fr (fr_drewN _ _)), hide ((unhide hxv4).fr (fr_drewN _ _))⟩
                            case measure => simp [intOf]; omega
                        · have hLb : (((kl : Nat) : Int) == (rt[x.P].toNat : Nat)) = false := by rw [beq_eq_false_iff_ne]; omega
                          have HN := hide ((unhide hjs).next (unhide HSs) (fun h => absurd ((unhide HKL).symm.trans h) hL))
                          go_wp2_with fail
                          go_quiet (fail)
                          go_wp2
                          go_roundw
                          case rel => exact ⟨L', mv, k + 1, by omega, by omega, rfl, by go_num, HN, hide ((unhide hfs4).fr (fr_drewN _ _)), hide ((unhide hxv4).fr (fr_drewN _ _))⟩
                          case measure => simp [intOf]; omega
                    · have HAll := hide ((unhide hks).all (by omega) (by rw [unhide HRt, unhide hch]))
                      have HDn := hide (show mv = false → L' = L ∧ ∀ j, j < i + 1 → ∀ y, Asks rs N T (lget L j) y → y ∈ L from fun e => by
                        have e' := (unhide hks).eq e
                        refine ⟨e', fun j hj y hy => ?_⟩
                        by_cases ej : j = i
                        · rw [ej, unhide HX] at hy
                          have := unhide HAll y hy
                          rw [e'] at this; exact this
                        · exact unhide HDone j (by omega) y hy)
                      go_wp2
                      go_roundw
                      case rel => exact ⟨L', mv, i + 1, by omega, rfl, by go_num, hide (unhide hks).lp, HDn, hide (unhide hks).gt, hfs3⟩
                      case measure => simp [intOf]; omega
            · have HCl := hide (show Closed rs N T L from fun x hx y hy => by
                obtain ⟨j, hj, rfl⟩ := List.getElem_of_mem hx
                rw [← lget_eq L j hj] at hy
                exact unhide HDone j (by omega) y hy)
              go_wp2
              go_roundg ((9000 - L.length) * 2)
              case measure => rw [hg]; simp
              case rel => exact ⟨L, false, by simp, rfl, hlp2, (fun _ => unhide HCl), hfs2⟩
          · have HCl := hide (show Closed rs N T L from fun x hx => by
              have e : L = [] := List.length_eq_zero_iff.1 h0
              rw [e] at hx; cases hx)
            go_wp2
            go_roundg ((9000 - L.length) * 2)
            case measure => omega
            case rel => exact ⟨L, false, by simp, rfl, hlp2, (fun _ => unhide HCl), hfs2⟩
        · have hgr := unhide htru rfl
          have hL1 := (unhide hlp2).len hlen (unhide HSm)
          clear hfal htru hcl
          have hrow := (unhide hfs2).row
          obtain ⟨g', cap, rfl⟩ | ⟨rfl, h0⟩ : (∃ g cap, u1 = .slice (some ⟨g, 0, none⟩) L.length cap) ∨ (u1 = .slice none 0 0 ∧ L.length = 0) := by
            rcases hrow.2 with ⟨e, h0⟩ | ⟨g, cap, cur, e, _⟩
            · exact Or.inr ⟨e, h0⟩
            · exact Or.inl ⟨g, cap, e⟩
          · clear hrow
            have hlt : i < L.length := by omega
            go_wp2
            go_roundg ((9000 - L.length) * 2 + 1)
            case measure => rw [hg]; simp; omega
            case rel => exact ⟨L, true, by simp, rfl, hlp2, (fun h => by cases h), hfs2⟩
          · omega
end Go.Proofs.YtkglggkkbmmjkaaGreatDoor
