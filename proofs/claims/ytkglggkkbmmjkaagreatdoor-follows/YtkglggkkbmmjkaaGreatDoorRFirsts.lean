import Derived.Test.YtkglggkkbmmjkaaGreatDoorRBegins
import Derived.Test.YtkglggkkbmmjkaaGreatDoorFMath
import Derived.OwnWalk
namespace Go.Proofs.YtkglggkkbmmjkaaGreatDoor
open Go.RowKit

/-- 'make' of a slice of arrays: a new block -/
theorem wpList_make_blk {P : Program} {ops : Array Oper} {rest : List Oper} {o : Oper} {a : Act} {w : World} {Q : Exit → Act → World → Prop} (hg : o.guard = none) (l c : Operand) (t : TypeId) (hop : o.op = Op.makeSlice t l c) (d : Option Tmp) (hd : o.dst = d)
    (e : TypeId) (i : TypeInfo) (z : Value) (h1 : P.underlying t = some (.slice e)) (h2 : P.info? e = some i) (h3 : i.zero = some z) (kl kc : IntKind) (n m : Nat) (hl : a.eval l = .int kl n) (hc : a.eval c = .int kc n) (hm : n * i.size = m)
    (b2 : i.bytes * n ≤ 281474976710656) (b3 : n ≤ 9223372036854775807) (g : Nat → Value) (hz : ∀ j, j < m → z.cells[j % z.cells.size]! = g j)
    (hK : ∀ w', Fr [] w w' → w'.heap.size = w.heap.size + 1 → Blk w' w.heap.size m g → wpList P ops Q rest (a.put d (.slice (some ⟨w.heap.size, 0, none⟩) n n)) w') : wpList P ops Q (o :: rest) a w := by
  subst hd
  refine wpList_plain hg fun K hK' => ?_
  have hb' : (i.bytes : Int) * (n : Int) ≤ 281474976710656 := by
    have h : ((i.bytes * n : Nat) : Int) ≤ 281474976710656 := by omega
    rwa [Int.natCast_mul] at h
  have hrun := run_make (P := P) w t e i z h1 h2 h3 kl kc n n (by omega) (Int.le_refl _) hb' (by omega)
  simp only [Int.toNat_natCast] at hrun
  rw [hm] at hrun
  unfold Oper.wp
  simp only [execOp, hop, hl, hc, Sem.run_bind, hrun, Result.andThen_ok, Sem.run_pure, Oper.upon]
  refine hK' _ _ (hK _ ((Fr.refl _ _).alloc _) (by simp) (Blk.newArr w _ e m g (size_madeCells _ _) fun j hj => ?_))
  rw [size_madeCells] at hj
  simp only [madeCells, Array.getElem_map, Array.getElem_range]
  exact hz j hj

theorem Tryz.infoSet : (Tryz.prog.info? 105).map (fun i => (i.zero, i.size, i.bytes)) = some (some (Agg 128 (sF fun _ => false)), 128, 128) := by kernel_rfl

theorem made_set (j : Nat) : (Agg 128 (sF fun _ => false)).cells[j % (Agg 128 (sF fun _ => false)).cells.size]! = tF (fun _ _ => false) j := by
  have hs : (Agg 128 (sF fun _ => false)).cells.size = 128 := by simp [Agg, Value.cells]
  rw [hs, getElem!_pos _ _ (by rw [hs]; exact Nat.mod_lt _ (by omega))]
  simp [Agg, Value.cells, sF, tF]

/-- the state of firsts -/
def FSt (w wr : World) (nb no fb q : Nat) (rs : List Ru) (N : Nat → Bool) (F : Nat → Nat → Bool) : Prop :=
  Fr [] w wr ∧ LAt wr q rs ∧ NAt wr nb no N ∧ Blk wr fb 3328 (tF F) ∧ w.heap.size ≤ fb ∧ nb < w.heap.size ∧ q < w.heap.size
theorem FSt.fr {w wr wr' : World} {nb no fb q : Nat} {rs : List Ru} {N : Nat → Bool} {F : Nat → Nat → Bool} (h : FSt w wr nb no fb q rs N F) (k : Fr [] wr wr') : FSt w wr' nb no fb q rs N F := by
  obtain ⟨h1, h2, h3, h4, h5⟩ := h
  exact ⟨h1.trans0 k, h2.fr0 k, h3.fr0 k, h4.fr0 k, h5⟩
theorem FSt.far {w wr wr' : World} {nb no fb q x : Nat} {rs : List Ru} {N : Nat → Bool} {F : Nat → Nat → Bool} (h : FSt w wr nb no fb q rs N F) (k : Fr [x] wr wr') (hx : w.heap.size ≤ x) (hx2 : fb ≠ x) : FSt w wr' nb no fb q rs N F := by
  obtain ⟨h1, h2, h3, h4, h5, h6, h7⟩ := h
  exact ⟨h1.trans1 k (Or.inr hx), h2.fr k (by simp; omega), h3.fr1 k (by omega), h4.fr1 k hx2, h5, h6, h7⟩
theorem FSt.put {w wr wr' : World} {nb no fb q : Nat} {rs : List Ru} {N : Nat → Bool} {F F' : Nat → Nat → Bool} (h : FSt w wr nb no fb q rs N F) (k : Fr [fb] wr wr') (hB : Blk wr' fb 3328 (tF F')) : FSt w wr' nb no fb q rs N F' := by
  obtain ⟨h1, h2, h3, h4, h5, h6, h7⟩ := h
  exact ⟨h1.trans1 k (Or.inr h5), h2.fr k (by simp; omega), h3.fr1 k (by omega), hB, h5, h6, h7⟩

/-- what firsts hands back -/
def FiOut (rs : List Ru) (N : Nat → Bool) (w : World) (e : Ending) (w' : World) : Prop :=
  ∃ (fb : Nat) (T : Nat → Nat → Bool), e = .returned (.slice (some ⟨fb, 0, none⟩) 26 26) ∧ Fr [] w w' ∧ w.heap.size ≤ fb ∧ Blk w' fb 3328 (tF T) ∧ ∀ c x, x < 128 → T c x = iterF (ffRound N rs) rs.length (fun _ _ => false) c x

set_option maxRecDepth 100000 in
set_option maxHeartbeats 3200000 in
theorem r_firstsO (q cap nb no : Nat) (rs : List Ru) (N : Nat → Bool) (w : World) (h : LAt w q rs) (hN : NAt w nb no N) :
    Calls Tryz.prog 72 #[.slice (some ⟨q, 0, none⟩) rs.length cap, .pointer (some ⟨nb, no, none⟩)] w fun e' w' => FiOut rs N w e' w' := by
  obtain ⟨i0, hi0, hz0, hz1, hz2⟩ := info_parts Tryz.infoSet
  have H := hide h
  have HN := hide hN
  have hlen := h.len
  clear h hN
  go_enter Tryz.func72, Tryz.ntmps72
  go_wp2_with (refine wpList_make_blk rfl _ _ 117 rfl (some 10) rfl 105 i0 _ Tryz.underlying117 hi0 hz0 .i64 .i64 26 3328 rfl rfl (by rw [hz1]) (by rw [hz2]; omega) (by omega) (tF fun _ _ => false) (fun j _ => made_set j) ?_; intro w1 hf1 hs1 hB1; have HA := hide (And.intro hf1 hB1); clear hf1 hs1 hB1)
  have HS := hide (show FSt w w1 nb no w.heap.size q rs N (fun _ _ => false) from
    ⟨(unhide HA).1, (unhide H).fr0 (unhide HA).1, (unhide HN).fr0 (unhide HA).1, (unhide HA).2, Nat.le_refl _, (unhide HN).lt, (unhide H).lt⟩)
  clear HA H HN
  go_loopg [6] (rs.length + 2) (fun g v wr => ∃ (k : Nat) (mv : Bool), g + k = rs.length + 2 ∧ v = .bool mv ∧ Hid (Stand (ffSteps N rs) (fun _ _ => false) rs.length k mv) ∧ Hid (FSt w wr nb no w.heap.size q rs N (iterF (ffRound N rs) k fun _ _ => false)))
  case atStart => exact ⟨0, true, rfl, rfl, Stand.start _ _ _, HS⟩
  case round =>
    obtain ⟨k, mv, hg, rfl, hst, hs⟩ := hrel
    cases mv
    · go_wp2
      go_ret
      exact ⟨w.heap.size, _, rfl, (unhide hs).1, Nat.le_refl _, (unhide hs).2.2.2.1, fun c x hx => by rw [ffRound_eq]; exact (unhide hst).2 rfl c x hx⟩
    · have hk := (unhide hst).1 rfl
      go_wp2
      go_loopw [6, 7] (fun v i wr2 => ∃ (j : Nat) (mv : Bool), j ≤ rs.length ∧ v = .bool mv ∧ i = .int .i64 j ∧ Hid (Grew (iterF (ffRound N rs) k fun _ _ => false) (ffUpTo N rs j (iterF (ffRound N rs) k fun _ _ => false)) mv) ∧ Hid (FSt w wr2 nb no w.heap.size q rs N (ffUpTo N rs j (iterF (ffRound N rs) k fun _ _ => false)))) (fun _ i _ => rs.length - (intOf i).toNat)
      case atStart => exact ⟨0, false, by omega, rfl, rfl, Grew.start _, hs⟩
      case round =>
        obtain ⟨j, mv, hj, rfl, rfl, hgr, hs2⟩ := hrel
        by_cases hjt : j < rs.length
        · obtain ⟨a0, a1, a2⟩ := (unhide hs2).2.1.ru j hjt
          have hsm := ((unhide hs2).2.1.small j hjt).1
          have HOk := hide ((unhide hs2).2.1.ok j hjt)
          have hb := bigB_iff.1 (unhide HOk).1
          have e0 : (0 : Int) ≤ (rs[j].L : Int) - 65 := by omega
          have e1 : (rs[j].L : Int) - 65 < 26 := by omega
          have hoff : (rs[j].L - 65) * 128 + 128 ≤ 3328 := by omega
          have HU := hide (ffUpTo_succ N rs j (iterF (ffRound N rs) k fun _ _ => false) hjt)
          generalize hG : ffUpTo N rs j (iterF (ffRound N rs) k fun _ _ => false) = G at *
          have HJ := hide ((unhide hgr).join rs[j].L (beg N G (bytes rs[j].R)))
          obtain ⟨av, hav⟩ : ∃ av, anyNew (G rs[j].L) (beg N G (bytes rs[j].R)) 128 = av := ⟨_, rfl⟩
          have HAV := hide hav
          clear hav hG hgr
          cases mv
          · go_wp2_with (first
              | (go_at_call 73; refine (r_beginsO nb no w.heap.size 26 N G rs[j].R _ (by exact (unhide hs2).2.2.1) (by exact (unhide hs2).2.2.2.1) hsm (unhide HOk).2).mono ?_; rintro e w3 ⟨rfl, hf3⟩; have HS3 := hide ((unhide hs2).fr hf3); clear hf3)
              | (refine wpList_alloc_blk rfl 105 rfl (some 8) rfl 128 _ Tryz.zeroSet ?_; intro w4 hf4 hs4 hB4; have HS4 := hide ((unhide HS3).fr hf4); have HB4 := hide hB4; have HH4 := hide (And.intro (unhide HS3).1.size (And.intro (unhide HS3).2.2.2.1.lt hs4)); clear hf4 hs4 hB4)
              | (refine wpList_store_blk rfl 105 (.tmp 8) (.tmp 25) rfl w3.heap.size 0 128 128 (sF fun _ => false) (sF (beg N G (bytes rs[j].R))) rfl rfl (by exact unhide HB4) Tryz.sizeSet (by omega) (by intro i hi; rfl) ?_; intro w5 hf5 hs5 hB5; have HS5 := hide ((unhide HS4).far hf5 (unhide HH4).1 (by have := (unhide HH4).2.1; omega)); have HB5 := hide (hB5.congr (g := sF (beg N G (bytes rs[j].R))) fun i hi => lay_all _ _ _ i hi); obtain ⟨b0, b1, b2⟩ := (unhide HS5).2.1.ru j hjt; clear hf5 hs5 hB5)
              | (go_at_call 77; refine (r_join w.heap.size ((rs[j].L - 65) * 128) 3328 w3.heap.size 0 128 (tF G) (sF (beg N G (bytes rs[j].R))) (G rs[j].L) (beg N G (bytes rs[j].R)) _ (by exact (unhide HS5).2.2.2.1) hoff (fun i hi => tF_at G _ i (unhide HOk).1 hi) (by exact unhide HB5) (by omega) (fun i _ => by rw [Nat.zero_add]; rfl) (by have := (unhide HH4).2.1; omega)).mono ?_; rintro e w6 ⟨rfl, hf6, hs6, hB6⟩; rw [unhide HAV]; have HS6 := hide ((unhide HS5).put hf6 (hB6.congr fun i _ => tF_join G _ _ (unhide HOk).1 i)); clear hf6 hs6 hB6))
            go_roundw
            case rel => exact ⟨j + 1, av, by omega, rfl, by go_num, hide (by rw [unhide HU, ← unhide HAV]; exact unhide HJ), hide (by rw [unhide HU]; exact unhide HS6)⟩
            case measure => simp [intOf]; omega
          · go_wp2_with (first
              | (go_at_call 73; refine (r_beginsO nb no w.heap.size 26 N G rs[j].R _ (by exact (unhide hs2).2.2.1) (by exact (unhide hs2).2.2.2.1) hsm (unhide HOk).2).mono ?_; rintro e w3 ⟨rfl, hf3⟩; have HS3 := hide ((unhide hs2).fr hf3); clear hf3)
              | (refine wpList_alloc_blk rfl 105 rfl (some 8) rfl 128 _ Tryz.zeroSet ?_; intro w4 hf4 hs4 hB4; have HS4 := hide ((unhide HS3).fr hf4); have HB4 := hide hB4; have HH4 := hide (And.intro (unhide HS3).1.size (And.intro (unhide HS3).2.2.2.1.lt hs4)); clear hf4 hs4 hB4)
              | (refine wpList_store_blk rfl 105 (.tmp 8) (.tmp 25) rfl w3.heap.size 0 128 128 (sF fun _ => false) (sF (beg N G (bytes rs[j].R))) rfl rfl (by exact unhide HB4) Tryz.sizeSet (by omega) (by intro i hi; rfl) ?_; intro w5 hf5 hs5 hB5; have HS5 := hide ((unhide HS4).far hf5 (unhide HH4).1 (by have := (unhide HH4).2.1; omega)); have HB5 := hide (hB5.congr (g := sF (beg N G (bytes rs[j].R))) fun i hi => lay_all _ _ _ i hi); obtain ⟨b0, b1, b2⟩ := (unhide HS5).2.1.ru j hjt; clear hf5 hs5 hB5)
              | (go_at_call 77; refine (r_join w.heap.size ((rs[j].L - 65) * 128) 3328 w3.heap.size 0 128 (tF G) (sF (beg N G (bytes rs[j].R))) (G rs[j].L) (beg N G (bytes rs[j].R)) _ (by exact (unhide HS5).2.2.2.1) hoff (fun i hi => tF_at G _ i (unhide HOk).1 hi) (by exact unhide HB5) (by omega) (fun i _ => by rw [Nat.zero_add]; rfl) (by have := (unhide HH4).2.1; omega)).mono ?_; rintro e w6 ⟨rfl, hf6, hs6, hB6⟩; rw [unhide HAV]; have HS6 := hide ((unhide HS5).put hf6 (hB6.congr fun i _ => tF_join G _ _ (unhide HOk).1 i)); clear hf6 hs6 hB6))
            go_roundw
            case rel => exact ⟨j + 1, true, by omega, rfl, by go_num, hide (by rw [unhide HU]; exact unhide HJ), hide (by rw [unhide HU]; exact unhide HS6)⟩
            case measure => simp [intOf]; omega
        · have HE := hide (show ffUpTo N rs j (iterF (ffRound N rs) k fun _ _ => false) = iterF (ffRound N rs) (k + 1) fun _ _ => false from ffUpTo_all _ _ _ _ (by omega))
          have HN2 := hide (show Stand (ffSteps N rs) (fun _ _ => false) rs.length (k + 1) mv from by
            have h1 := unhide hgr
            rw [unhide HE, ffRound_eq] at h1
            exact Stand.next (ffSteps_in N rs) (unhide hst) h1)
          go_wp2
          go_roundg (rs.length + 2 - (k + 1))
          case measure => omega
          case rel => exact ⟨k + 1, mv, by omega, rfl, HN2, hide (by rw [← unhide HE]; exact unhide hs2)⟩

theorem r_firsts (q cap nb : Nat) (rs : List Ru) (N : Nat → Bool) (w : World) (h : LAt w q rs) (hN : Blk w nb 128 (sF N)) :
    Calls Tryz.prog 72 #[.slice (some ⟨q, 0, none⟩) rs.length cap, .pointer (some ⟨nb, 0, none⟩)] w fun e' w' => FiOut rs N w e' w' := r_firstsO q cap nb 0 rs N w h (NAt.of_set hN)
end Go.Proofs.YtkglggkkbmmjkaaGreatDoor
