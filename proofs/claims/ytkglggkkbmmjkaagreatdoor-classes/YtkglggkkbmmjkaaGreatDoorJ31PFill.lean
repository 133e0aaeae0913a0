import Derived.Test.YtkglggkkbmmjkaaGreatDoorJ30POpen
namespace Go.Proofs.YtkglggkkbmmjkaaGreatDoor
open Go.RowKit

/-! Full sets, as the program fills them. -/
/-- an item asks for another; i, j: their places in the set -/
def AskI (p : Pl) (i j : Nat) : Prop :=
  bigB (p.lt (i / 27 / 5) (i / 27 % 5)) = true ∧ j / 135 < 9 ∧ p.left (j / 135) = p.lt (i / 27 / 5) (i / 27 % 5) ∧ j % 135 < 27 ∧ (p.bg (i / 27 / 5) (i / 27 % 5) (j % 135) = true ∨ (p.nl (i / 27 / 5) (i / 27 % 5) = true ∧ i % 27 = j % 135))
def ClI (p : Pl) (A : Nat → Bool) (j : Nat) : Prop := ∀ S : Nat → Prop, (∀ i, i < 1215 → A i = true → S i) → (∀ i j, i < 1215 → S i → AskI p i j → S j) → S j
/-- a set on the way from A to the full one; the items of the places below lim have been looked at -/
structure SpM (p : Pl) (A B : Nat → Bool) (lim : Nat) : Prop where
  mono : ∀ i, A i = true → B i = true
  sound : ∀ j, j < 1215 → B j = true → ClI p A j
  step : ∀ i j, i < 1215 → A i = true → i / 27 < lim → AskI p i j → B j = true
theorem SpM.start (p : Pl) (A : Nat → Bool) : SpM p A A 0 := ⟨fun _ h => h, fun j hj h S h1 _ => h1 j hj h, fun _ _ _ _ h => by omega⟩
theorem empB_false {A : Nat → Bool} (h : empB A = false) : ∃ k, k < 27 ∧ A k = true := by
  apply Classical.byContradiction
  intro hn
  have : empB A = true := allB_iff.2 fun i hi => by
    cases e : A i
    · rfl
    · exact absurd ⟨i, hi, e⟩ hn
  rw [this] at h; cases h
theorem empB_true {A : Nat → Bool} (h : empB A = true) (k : Nat) (hk : k < 27) : A k = false := allB_iff.1 h k hk
theorem opI_iff {p : Pl} {c : Nat} {M : Nat → Bool} {lim j : Nat} : opI p c M lim j = true ↔ j / 135 < lim ∧ p.left (j / 135) = c ∧ j % 135 < 27 ∧ M (j % 135) = true := by
  unfold opI
  simp only [Bool.and_eq_true, decide_eq_true_eq, beq_iff_eq, and_assoc]

/-- a place with a big letter, and items there -/
theorem SpM.opened {p : Pl} {A B : Nat → Bool} {n t : Nat} (h : SpM p A B (n * 5 + t)) (hn : n < 9) (ht : t < 5) (hb : bigB (p.lt n t) = true) (he : empB (fun k => B (n * 135 + t * 27 + k)) = false) :
    SpM p A (fun i => B i || opI p (p.lt n t) (fun k => p.bg n t k || (p.nl n t && B (n * 135 + t * 27 + k))) 9 i) (n * 5 + t + 1) := by
  have key : ∀ k, k < 27 → (n * 135 + t * 27 + k) / 27 / 5 = n ∧ (n * 135 + t * 27 + k) / 27 % 5 = t ∧ (n * 135 + t * 27 + k) % 27 = k := fun k hk => by omega
  refine ⟨fun i hi => by simp [h.mono i hi], fun j hj hB => ?_, fun i j hi hA hl hk => ?_⟩
  · rcases Bool.or_eq_true_iff.1 hB with hB | hB
    · exact h.sound j hj hB
    · obtain ⟨h1, h2, h3, h4⟩ := opI_iff.1 hB
      rcases Bool.or_eq_true_iff.1 h4 with h4 | h4
      · obtain ⟨k, hk, hBk⟩ := empB_false he
        obtain ⟨k1, k2, k3⟩ := key k hk
        have hlt : n * 135 + t * 27 + k < 1215 := by omega
        intro S s1 s2
        refine s2 (n * 135 + t * 27 + k) j hlt (h.sound _ hlt hBk S s1 s2) ?_
        unfold AskI
        rw [k1, k2, k3]
        exact ⟨hb, h1, h2, h3, Or.inl h4⟩
      · rw [Bool.and_eq_true] at h4
        obtain ⟨k1, k2, k3⟩ := key (j % 135) h3
        have hlt : n * 135 + t * 27 + j % 135 < 1215 := by omega
        intro S s1 s2
        refine s2 (n * 135 + t * 27 + j % 135) j hlt (h.sound _ hlt h4.2 S s1 s2) ?_
        unfold AskI
        rw [k1, k2, k3]
        exact ⟨hb, h1, h2, h3, Or.inr ⟨h4.1, rfl⟩⟩
  · by_cases e : i / 27 < n * 5 + t
    · rw [h.step i j hi hA e hk]; rfl
    · have ei : i / 27 = n * 5 + t := by omega
      obtain ⟨a1, a2, a3, a4, a5⟩ := hk
      rw [show i / 27 / 5 = n from by omega, show i / 27 % 5 = t from by omega] at a1 a3 a5
      rw [Bool.or_eq_true]; right
      refine opI_iff.2 ⟨a2, a3, a4, ?_⟩
      rcases a5 with a5 | a5
      · simp [a5]
      · rw [← a5.2, show n * 135 + t * 27 + i % 27 = i from by omega, h.mono i hA, a5.1]; simp
/-- a place with no big letter, or with no items -/
theorem SpM.skip {p : Pl} {A B : Nat → Bool} {n t : Nat} (h : SpM p A B (n * 5 + t)) (ht : t < 5) (hb : bigB (p.lt n t) = false ∨ empB (fun k => B (n * 135 + t * 27 + k)) = true) : SpM p A B (n * 5 + t + 1) := by
  refine ⟨h.mono, h.sound, fun i j hi hA hl hk => ?_⟩
  by_cases e : i / 27 < n * 5 + t
  · exact h.step i j hi hA e hk
  · have ei : i / 27 = n * 5 + t := by omega
    rcases hb with hb | hb
    · have := hk.1
      rw [show i / 27 / 5 = n from by omega, show i / 27 % 5 = t from by omega, hb] at this
      cases this
    · have := empB_true hb (i % 27) (by omega)
      rw [show n * 135 + t * 27 + i % 27 = i from by omega, h.mono i hA] at this
      cases this

/-- nothing was added: the set is full -/
theorem SpM.closed {p : Pl} {A B : Nat → Bool} (h : SpM p A B 45) (he : allB 1215 B A = true) (i j : Nat) (hi : i < 1215) (hA : A i = true) (hk : AskI p i j) : j < 1215 ∧ A j = true := by
  have hj : j < 1215 := by have := hk.2.1; omega
  refine ⟨hj, ?_⟩
  rw [← allB_iff.1 he j hj]
  exact h.step i j hi hA (by omega) hk

def cntI (A : Nat → Bool) : Nat := (List.range 1215).countP A
theorem cntI_le (A : Nat → Bool) : cntI A ≤ 1215 := by
  have := List.countP_le_length (p := A) (l := List.range 1215)
  rw [List.length_range] at this
  exact this
theorem countP_lt_of {α : Type} {p q : α → Bool} : ∀ (l : List α), (∀ r ∈ l, p r = true → q r = true) → (∃ r ∈ l, p r = false ∧ q r = true) → l.countP p < l.countP q
  | [], _, h => by obtain ⟨r, hr, _⟩ := h; cases hr
  | a :: l, h, h2 => by
    have hle : l.countP p ≤ l.countP q := List.countP_mono_left fun r hr hp => h r (List.mem_cons_of_mem _ hr) hp
    simp only [List.countP_cons]
    obtain ⟨r, hr, hp, hq⟩ := h2
    rcases List.mem_cons.1 hr with rfl | hr
    · rw [hp, hq]; simp; omega
    · have := countP_lt_of l (fun r hr hp => h r (List.mem_cons_of_mem _ hr) hp) ⟨r, hr, hp, hq⟩
      have ha := h a (List.mem_cons_self ..)
      cases h1 : p a
      · cases h2 : q a <;> simp <;> omega
      · rw [ha h1]; simp; omega
theorem cntI_lt {A B : Nat → Bool} (hm : ∀ i, A i = true → B i = true) (he : allB 1215 B A = false) : cntI A + 1 ≤ cntI B := by
  refine countP_lt_of _ (fun r _ h => hm r h) ?_
  apply Classical.byContradiction
  intro hn
  have : allB 1215 B A = true := allB_iff.2 fun i hi => by
    cases e : A i
    · cases e2 : B i
      · rfl
      · exact absurd ⟨i, List.mem_range.2 hi, e, e2⟩ hn
    · exact hm i e
  rw [this] at he; cases he

/-- on the way from A: more than A, and no more than is asked for -/
def FiM (p : Pl) (A B : Nat → Bool) : Prop := (∀ i, A i = true → B i = true) ∧ ∀ j, j < 1215 → B j = true → ClI p A j
theorem ClI.trans {p : Pl} {A B : Nat → Bool} (h : ∀ j, j < 1215 → B j = true → ClI p A j) {j : Nat} (k : ClI p B j) : ClI p A j := fun S s1 s2 =>
  k S (fun i hi hB => h i hi hB S s1 s2) s2
theorem FiM.round {p : Pl} {A B C : Nat → Bool} (h : FiM p A B) (k : SpM p B C 45) : FiM p A C :=
  ⟨fun i hi => k.mono i (h.1 i hi), fun j hj hC => ClI.trans h.2 (k.sound j hj hC)⟩
/-- filled -/
def FuI (p : Pl) (A B : Nat → Bool) : Prop := ∀ j, j < 1215 → (B j = true ↔ ClI p A j)
theorem FiM.full {p : Pl} {A B C : Nat → Bool} (h : FiM p A B) (k : SpM p B C 45) (he : allB 1215 C B = true) : FuI p A C := fun j hj => by
  rw [allB_iff.1 he j hj]
  refine ⟨h.2 j hj, fun hc => ?_⟩
  have := hc (fun j => j < 1215 ∧ B j = true) (fun i hi hA => ⟨hi, h.1 i hA⟩) (fun i j hi hS hk => k.closed he i j hi hS.2 hk)
  exact this.2
end Go.Proofs.YtkglggkkbmmjkaaGreatDoor

namespace Go.Proofs.YtkglggkkbmmjkaaGreatDoor
open Go.RowKit

theorem Tryz.zeroSpot : (Tryz.prog.info? 72).bind (·.zero) = some (Agg 30 (spF ⟨fun _ => 0, fun _ _ => 0, fun _ _ => false, fun _ _ _ => false, fun _ _ => false⟩ 0 0)) := by kernel_rfl
theorem Tryz.sizeSpot : (Tryz.prog.info? 72).map (·.size) = some 30 := by kernel_rfl

/-- spread's state -/
def SpS (w wr : World) (pb sb : Nat) (p : Pl) (B : Nat → Bool) : Prop := Fr [sb] w wr ∧ Blk wr sb 1215 (boolF B) ∧ PlAt wr pb p ∧ pb < w.heap.size ∧ sb < w.heap.size
theorem SpS.fr0 {w wr w' : World} {pb sb : Nat} {p : Pl} {B : Nat → Bool} (h : SpS w wr pb sb p B) (k : Fr [] wr w') : SpS w w' pb sb p B :=
  ⟨h.1.trans0 k, h.2.1.fr0 k, h.2.2.1.fr k (by simp) (Nat.lt_of_lt_of_le h.2.2.2.1 h.1.size), h.2.2.2⟩
theorem SpS.far {w wr w' : World} {pb sb x : Nat} {p : Pl} {B : Nat → Bool} (h : SpS w wr pb sb p B) (k : Fr [x] wr w') (hx : w.heap.size ≤ x) : SpS w w' pb sb p B :=
  ⟨h.1.trans1 k (Or.inr hx), h.2.1.fr1 k (by have := h.2.2.2.2; omega), h.2.2.1.fr k (by have := h.2.2.2.1; simp; omega) (Nat.lt_of_lt_of_le h.2.2.2.1 h.1.size), h.2.2.2⟩

set_option maxRecDepth 100000 in
set_option maxHeartbeats 1600000 in
/-- plan.spread -/
theorem p_spread (pb sb : Nat) (p : Pl) (A : Nat → Bool) (w : World) (hP : PlAt w pb p) (hB : Blk w sb 1215 (boolF A)) (hpl : pb < w.heap.size) (hne : pb ≠ sb) :
    Calls Tryz.prog 154 #[.pointer (some ⟨pb, 0, none⟩), .pointer (some ⟨sb, 0, none⟩)] w fun e w' => e = .returned (.tuple #[]) ∧ Fr [sb] w w' ∧ ∃ B, Blk w' sb 1215 (boolF B) ∧ SpM p A B 45 := by
  have HS := hide (show SpS w w pb sb p A from ⟨Fr.refl _ _, hB, hP, hpl, hB.lt⟩)
  have lb := hB.lt
  clear hB hP
  go_enter Tryz.func154, Tryz.ntmps154
  go_wp2
  go_loopw [4] (fun i wr => ∃ n : Nat, n ≤ 9 ∧ i = .int .i64 n ∧ ∃ B, Hid (SpS w wr pb sb p B ∧ SpM p A B (n * 5))) (fun i _ => 9 - (intOf i).toNat)
  case atStart => exact ⟨0, by omega, rfl, A, hide ⟨unhide HS, SpM.start p A⟩⟩
  case round =>
    obtain ⟨n, hn, rfl, B0, hs⟩ := hrel
    clear HS
    by_cases hlt : n < 9
    · have hn9 : (n : Int) < 9 := by omega
      go_wp2
      go_loopw [5] (fun i wr => ∃ t : Nat, t ≤ 5 ∧ i = .int .i64 t ∧ ∃ B, Hid (SpS w wr pb sb p B ∧ SpM p A B (n * 5 + t))) (fun i _ => 5 - (intOf i).toNat)
      case atStart => exact ⟨0, by omega, rfl, B0, hs⟩
      case round =>
        clear hs B0
        obtain ⟨t, ht, rfl, B, hs⟩ := hrel
        by_cases htt : t < 5
        · have HPS := hide ((unhide hs).1.2.2.1.spot n t hlt htt)
          cases hbig : bigB (p.lt n t)
          · have HN := hide ((unhide hs).2.skip htt (Or.inl hbig))
            go_wp2_with (first
              | (refine wpList_load_cs rfl 72 (.tmp 22) rfl (some 23) rfl pb (9 + n * 150 + t * 30) 30 (spF p n t) _ rfl (by exact unhide HPS) Tryz.underlying72 rfl Tryz.sizeSpot ?_)
              | (refine wpList_alloc_blk rfl 72 rfl (some 6) rfl 30 _ Tryz.zeroSpot ?_; intro w3 hf3 hs3 hB3; have H3 := hide ((unhide hs).1.fr0 hf3); have HA := hide hB3; clear hf3 hB3)
              | (refine wpList_store_blk rfl 72 (.tmp 6) (.tmp 23) rfl wr.heap.size 0 30 30 _ (spF p n t) rfl rfl (by exact unhide HA) Tryz.sizeSpot (by omega) (oneB_spF p n t 30) ?_; intro w4 hf4 hs4 hB4; have H4 := hide ((unhide H3).far hf4 (unhide hs).1.1.size); have HA4 := hide (show Blk w4 wr.heap.size 30 (spF p n t) from hB4.congr fun i hi => lay_all _ _ _ i hi); have c0 : w4.cell? ⟨wr.heap.size, 0, none⟩ = some (.int .u8 (p.lt n t : Nat)) := ((unhide HA4).cell 0 (by omega)); clear hf4 hB4 HPS H3 HA)
              | (go_at_call 74; refine (p_isBig_is _ false _ (by exact hbig)).mono ?_; rintro e w' ⟨rfl, rfl⟩))
            go_roundw
            case rel => exact ⟨t + 1, by omega, by go_num, B, hide ⟨unhide H4, unhide HN⟩⟩
            case measure => simp [intOf]; omega
          · cases hemp : empB (fun k => B (n * 135 + t * 27 + k))
            · have HN := hide ((unhide hs).2.opened hlt htt hbig hemp)
              go_wp2_with (first
                | (refine wpList_load_cs rfl 72 (.tmp 22) rfl (some 23) rfl pb (9 + n * 150 + t * 30) 30 (spF p n t) _ rfl (by exact unhide HPS) Tryz.underlying72 rfl Tryz.sizeSpot ?_)
                | (refine wpList_alloc_blk rfl 72 rfl (some 6) rfl 30 _ Tryz.zeroSpot ?_; intro w3 hf3 hs3 hB3; have H3 := hide ((unhide hs).1.fr0 hf3); have HA := hide hB3; clear hf3 hB3)
                | (refine wpList_store_blk rfl 72 (.tmp 6) (.tmp 23) rfl wr.heap.size 0 30 30 _ (spF p n t) rfl rfl (by exact unhide HA) Tryz.sizeSpot (by omega) (oneB_spF p n t 30) ?_; intro w4 hf4 hs4 hB4; have H4 := hide ((unhide H3).far hf4 (unhide hs).1.1.size); have HA4 := hide (show Blk w4 wr.heap.size 30 (spF p n t) from hB4.congr fun i hi => lay_all _ _ _ i hi); have c0 : w4.cell? ⟨wr.heap.size, 0, none⟩ = some (.int .u8 (p.lt n t : Nat)) := ((unhide HA4).cell 0 (by omega)); clear hf4 hB4 HPS H3 HA)
                | (go_at_call 74; refine (p_isBig_is _ true _ (by exact hbig)).mono ?_; rintro e w' ⟨rfl, rfl⟩)
                | (go_at_call 156; refine (p_isEmpty sb (n * 135 + t * 27) (fun k => B (n * 135 + t * 27 + k)) _ ((unhide H4).2.1.cs (n * 135 + t * 27) 27 (by omega)) (Nat.lt_of_lt_of_le lb (unhide H4).1.size)).mono ?_; rintro e w5 ⟨rfl, hf5⟩; rw [hemp]; have H5 := hide ((unhide H4).fr0 hf5); have HA5 := hide ((unhide HA4).fr0 hf5); clear hf5)
                | (refine wpList_load_cs rfl 48 (.tmp 44) rfl (some 45) rfl sb (n * 135 + t * 27) 27 (boolF fun k => B (n * 135 + t * 27 + k)) _ rfl (by exact (unhide H5).2.1.cs (n * 135 + t * 27) 27 (by omega)) Tryz.underlying48 rfl Tryz.sizeSign ?_)
                | (go_at_call 162; refine (p_behind wr.heap.size p n t (fun k => B (n * 135 + t * 27 + k)) _ (by exact unhide HA5)).mono ?_; rintro e w6 ⟨rfl, hf6⟩; have H6 := hide ((unhide H5).fr0 hf6); have HA6 := hide ((unhide HA5).fr0 hf6); clear hf6)
                | (refine wpList_alloc_blk rfl 48 rfl (some 7) rfl 27 _ Tryz.zeroSign ?_; intro w7 hf7 hs7 hB7; have H7 := hide ((unhide H6).fr0 hf7); have HA7 := hide ((unhide HA6).fr0 hf7); have HS7 := hide hB7; clear hf7 hB7)
                | (refine wpList_store_blk rfl 48 (.tmp 7) (.tmp 46) rfl w6.heap.size 0 27 27 _ (boolF fun i => p.bg n t i || (p.nl n t && B (n * 135 + t * 27 + i))) rfl rfl (by exact unhide HS7) Tryz.sizeSign (by omega) (fun _ _ => rfl) ?_; intro w8 hf8 hs8 hB8; have H8 := hide ((unhide H7).far hf8 (unhide H6).1.size); have HA8 := hide ((unhide HA7).fr1 hf8 (Nat.ne_of_lt (unhide HA6).lt)); have c1 : w8.cell? ⟨wr.heap.size, 0, none⟩ = some (.int .u8 (p.lt n t : Nat)) := ((unhide HA8).cell 0 (by omega)); have HS8 := hide (show Blk w8 w6.heap.size 27 (boolF fun i => p.bg n t i || (p.nl n t && B (n * 135 + t * 27 + i))) from hB8.congr fun i hi => lay_all _ _ _ i hi); clear hf8 hB8 H7 HA7 HS7 HA6 H6 H5 HA5)
                | (refine wpList_load_blk rfl 48 (.tmp 7) rfl (some 51) rfl w6.heap.size 0 27 27 (boolF fun i => p.bg n t i || (p.nl n t && B (n * 135 + t * 27 + i))) _ rfl (by exact unhide HS8) Tryz.underlying48 rfl Tryz.sizeSign (by omega) ?_)
                | (go_at_call 163; refine (p_open pb sb (p.lt n t) p B (fun i => p.bg n t (0 + i) || (p.nl n t && B (n * 135 + t * 27 + (0 + i)))) _ (by exact (unhide H8).2.2.1) (by exact (unhide H8).2.1) (Nat.lt_of_lt_of_le hpl (unhide H8).1.size) hne).mono ?_; rintro e w9 ⟨rfl, hf9, hB9⟩; have H9 := hide (show SpS w w9 pb sb p (fun i => B i || opI p (p.lt n t) (fun k => p.bg n t k || (p.nl n t && B (n * 135 + t * 27 + k))) 9 i) from ⟨(unhide H8).1.trans hf9 (by simp), hB9.congr fun i _ => by (simp only [Nat.zero_add]), (unhide H8).2.2.1.fr hf9 (by simpa using hne) (Nat.lt_of_lt_of_le hpl (unhide H8).1.size), hpl, lb⟩); clear hf9 hB9))
              go_roundw
              case rel => exact ⟨t + 1, by omega, by go_num, _, hide ⟨unhide H9, unhide HN⟩⟩
              case measure => simp [intOf]; omega
            · have HN := hide ((unhide hs).2.skip htt (Or.inr hemp))
              have HCs := hide (show CsAt wr sb (n * 135 + t * 27) 27 (boolF fun k => B (n * 135 + t * 27 + k)) from (unhide hs).1.2.1.cs (n * 135 + t * 27) 27 (by omega))
              go_wp2_with (first
                | (refine wpList_load_cs rfl 72 (.tmp 22) rfl (some 23) rfl pb (9 + n * 150 + t * 30) 30 (spF p n t) _ rfl (by exact unhide HPS) Tryz.underlying72 rfl Tryz.sizeSpot ?_)
                | (refine wpList_alloc_blk rfl 72 rfl (some 6) rfl 30 _ Tryz.zeroSpot ?_; intro w3 hf3 hs3 hB3; have H3 := hide ((unhide hs).1.fr0 hf3); have HA := hide hB3; clear hf3 hB3)
                | (refine wpList_store_blk rfl 72 (.tmp 6) (.tmp 23) rfl wr.heap.size 0 30 30 _ (spF p n t) rfl rfl (by exact unhide HA) Tryz.sizeSpot (by omega) (oneB_spF p n t 30) ?_; intro w4 hf4 hs4 hB4; have H4 := hide ((unhide H3).far hf4 (unhide hs).1.1.size); have HA4 := hide (show Blk w4 wr.heap.size 30 (spF p n t) from hB4.congr fun i hi => lay_all _ _ _ i hi); have c0 : w4.cell? ⟨wr.heap.size, 0, none⟩ = some (.int .u8 (p.lt n t : Nat)) := ((unhide HA4).cell 0 (by omega)); clear hf4 hB4 HPS H3 HA)
                | (go_at_call 74; refine (p_isBig_is _ true _ (by exact hbig)).mono ?_; rintro e w' ⟨rfl, rfl⟩)
                | (go_at_call 156; refine (p_isEmpty sb (n * 135 + t * 27) (fun k => B (n * 135 + t * 27 + k)) _ ((unhide H4).2.1.cs (n * 135 + t * 27) 27 (by omega)) (Nat.lt_of_lt_of_le lb (unhide H4).1.size)).mono ?_; rintro e w5 ⟨rfl, hf5⟩; rw [hemp]; have H5 := hide ((unhide H4).fr0 hf5); clear hf5))
              go_roundw
              case rel => exact ⟨t + 1, by omega, by go_num, B, hide ⟨unhide H5, unhide HN⟩⟩
              case measure => simp [intOf]; omega
        · have HN := hide (show SpS w wr pb sb p B ∧ SpM p A B ((n + 1) * 5) from by
            have e : t = 5 := by omega
            subst e; rw [Nat.add_mul]; exact unhide hs)
          clear hs
          go_wp2
          go_roundw
          case rel => exact ⟨n + 1, by omega, by go_num, B, HN⟩
          case measure => simp [intOf]; omega
    · have HN := hide (show Fr [sb] w wr ∧ Blk wr sb 1215 (boolF B0) ∧ SpM p A B0 45 from by
        have e : n = 9 := by omega
        subst e; exact ⟨(unhide hs).1.1, (unhide hs).1.2.1, (unhide hs).2⟩)
      clear hs
      go_wp2
      go_end0
      exact ⟨rfl, (unhide HN).1, B0, (unhide HN).2⟩
end Go.Proofs.YtkglggkkbmmjkaaGreatDoor
