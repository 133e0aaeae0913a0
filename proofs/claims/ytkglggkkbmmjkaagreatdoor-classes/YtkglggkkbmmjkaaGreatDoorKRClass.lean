import Derived.Test.YtkglggkkbmmjkaaGreatDoorJ47RCallV
import Derived.Test.YtkglggkkbmmjkaaGreatDoorKPClass
import Derived.Deep.RegionHeld3
import Derived.Test.YtkglggkkbmmjkaaGreatDoorJ0Model
namespace Go.Proofs.YtkglggkkbmmjkaaGreatDoor
open Go.RowKit

theorem Tryz.infoInt : (Tryz.prog.info? 3).map (fun i => (i.zero, i.size, i.bytes)) = some (some (.int .i64 0), 1, 8) := by kernel_rfl
def intC (cs : List Nat) : List Value := cs.map fun n => .int .i64 (n : Nat)
/-- the list of cores, in the making -/
structure CrS (w wr : World) (v : Value) (cs : List Nat) : Prop where
  fr : Fr [] w wr
  row : wr.ownsRow w.heap.size 3 1 v cs.length (intC cs)
theorem CrS.push {w wr w' : World} {o : Obj} {v : Value} {cs : List Nat} {g cap c : Nat} (h : CrS w wr v cs) (hgrow : (wr.alloc o).grownBy w' v.ownBlock) (hown : w'.ownsRow w.heap.size 3 1 (.slice (some ⟨g, 0, none⟩) (cs.length + 1) cap) (cs.length + 1) (intC cs ++ [.int .i64 (c : Nat)])) : CrS w w' (.slice (some ⟨g, 0, none⟩) (cs ++ [c]).length cap) (cs ++ [c]) :=
  ⟨h.fr.trans (grown_fr hgrow) (fun x hx => Or.inr (h.row.lt x (by simpa using hx)).1), by rw [List.length_append]; simpa [intC] using hown⟩
/-- the cores of the first i states -/
def corI (Ms : List (List It)) (i : Nat) : List Nat × Nat := corF alk2 (Ms.take i) [] [] 0
theorem corF_len {α : Type} (eq : α → α → Bool) : ∀ (S prev : List α) (l : List Nat) (n : Nat), (corF eq S prev l n).1.length = l.length + S.length
  | [], _, _, _ => by simp [corF]
  | s :: S, prev, l, n => by
    rw [corF]
    split
    · rw [corF_len eq S]; simp; omega
    · rw [corF_len eq S]; simp; omega
theorem corI_len (Ms : List (List It)) {i : Nat} (h : i ≤ Ms.length) : (corI Ms i).1.length = i := by
  unfold corI; rw [corF_len]; simp; omega
theorem corI_succ {Ms : List (List It)} {i : Nat} (h : i < Ms.length) : corI Ms (i + 1) = match (Ms.take i).findIdx? (fun p => alk2 Ms[i] p) with
    | some k => ((corI Ms i).1 ++ [(corI Ms i).1.getD k 0], (corI Ms i).2)
    | none => ((corI Ms i).1 ++ [(corI Ms i).2], (corI Ms i).2 + 1) := by
  unfold corI
  rw [List.take_succ_eq_append_getElem h, corF_snoc]
  rfl
theorem corI_n (Ms : List (List It)) : ∀ i, i ≤ Ms.length → (corI Ms i).2 ≤ i
  | 0, _ => by unfold corI; simp [corF]
  | i + 1, h => by
    have ih := corI_n Ms i (by omega)
    rw [corI_succ (by omega)]
    split
    · show (corI Ms i).2 ≤ i + 1; omega
    · show (corI Ms i).2 + 1 ≤ i + 1; omega
theorem corI_all (Ms : List (List It)) {i : Nat} (h : Ms.length ≤ i) : corI Ms i = corV Ms := by
  unfold corI corV; rw [List.take_of_length_le h]
theorem corI_lt (Ms : List (List It)) : ∀ i, i ≤ Ms.length → ∀ c ∈ (corI Ms i).1, c < (corI Ms i).2
  | 0, _ => by intro c hc; unfold corI at hc; simp [corF] at hc
  | i + 1, h => by
    have ih := corI_lt Ms i (by omega)
    have hlen := corI_len Ms (show i ≤ Ms.length by omega)
    rw [corI_succ (by omega)]
    split
    · rename_i k hk
      intro c hc
      have hkl : k < i := by
        rw [List.findIdx?_eq_some_iff_getElem] at hk
        have := hk.1
        simp at this; omega
      rcases List.mem_append.1 hc with hc | hc
      · exact ih c hc
      · rw [List.mem_singleton.1 hc, List.getD_eq_getElem?_getD, List.getElem?_eq_getElem (by omega)]
        exact ih _ (List.getElem_mem _)
    · intro c hc
      show c < (corI Ms i).2 + 1
      rcases List.mem_append.1 hc with hc | hc
      · have := ih c hc; omega
      · rw [List.mem_singleton.1 hc]; omega
/-- the search of a like state: k are looked at -/
def LkS (Ms : List (List It)) (i k : Nat) (cv : Int) : Prop :=
  (cv = -1 ∧ ∀ j, j < k → alk2 (Ms.getD i []) (Ms.getD j []) = false) ∨ ∃ j, (Ms.take i).findIdx? (fun p => alk2 (Ms.getD i []) p) = some j ∧ cv = ((corI Ms i).1.getD j 0 : Nat)

theorem lk_none {Ms : List (List It)} {i : Nat} (hi : i < Ms.length) (h : ∀ j, j < i → alk2 (Ms.getD i []) (Ms.getD j []) = false) : (Ms.take i).findIdx? (fun p => alk2 Ms[i] p) = none := by
  rw [List.findIdx?_eq_none_iff]
  intro x hx
  obtain ⟨j, hj, rfl⟩ := List.getElem_of_mem hx
  have hj' : j < i := by rw [List.length_take] at hj; omega
  have := h j hj'
  rw [List.getD_eq_getElem?_getD, List.getElem?_eq_getElem hi, List.getD_eq_getElem?_getD, List.getElem?_eq_getElem (by omega)] at this
  rw [List.getElem_take]; exact this
theorem lk_some {Ms : List (List It)} {i k : Nat} (hi : i < Ms.length) (hk : k < i) (h : ∀ j, j < k → alk2 (Ms.getD i []) (Ms.getD j []) = false) (h2 : alk2 (Ms.getD i []) (Ms.getD k []) = true) : (Ms.take i).findIdx? (fun p => alk2 (Ms.getD i []) p) = some k := by
  rw [List.findIdx?_eq_some_iff_getElem]
  refine ⟨by rw [List.length_take]; omega, ?_, fun j hj => ?_⟩
  · rw [List.getElem_take]
    rw [List.getD_eq_getElem?_getD (l := Ms) (i := k), List.getElem?_eq_getElem (by omega)] at h2
    exact h2
  · have := h j hj
    rw [List.getD_eq_getElem?_getD (l := Ms) (i := j), List.getElem?_eq_getElem (by omega)] at this
    rw [List.getElem_take]
    have e : alk2 (Ms.getD i []) Ms[j] = false := this
    rw [e]; simp
theorem getD_i {Ms : List (List It)} {i : Nat} (hi : i < Ms.length) : Ms.getD i [] = Ms[i] := by
  rw [List.getD_eq_getElem?_getD, List.getElem?_eq_getElem hi]; rfl
theorem corI_new {Ms : List (List It)} {i : Nat} (hi : i < Ms.length) (h : LkS Ms i i (-1)) : corI Ms (i + 1) = ((corI Ms i).1 ++ [(corI Ms i).2], (corI Ms i).2 + 1) := by
  rcases h with ⟨_, h⟩ | ⟨j, _, e⟩
  · rw [corI_succ hi, lk_none hi h]
  · omega
theorem corI_old {Ms : List (List It)} {i k c : Nat} (hi : i < Ms.length) (h : LkS Ms i k (c : Nat)) : corI Ms (i + 1) = ((corI Ms i).1 ++ [c], (corI Ms i).2) := by
  rcases h with ⟨e, _⟩ | ⟨j, hj, e⟩
  · omega
  · rw [getD_i hi] at hj
    rw [corI_succ hi, hj]
    have : (corI Ms i).1.getD j 0 = c := by omega
    rw [← this]

set_option maxRecDepth 100000 in
set_option maxHeartbeats 8000000 in
theorem r_cores {w0 : World} {L : List Ru} {N : Nat → Bool} {r : Tb} {mb q cq fq Bs : Nat} {T : Nat → Nat → Bool} {gS cS : Nat} {ls : List Sl} {gT cT : Nat} {ms : List MSl} (w : World) (h : RtV w0 w L N r mb q cq fq Bs T gS cS ls gT cT ms) :
    Calls Tryz.prog 90 #[.pointer (some ⟨mb, 0, none⟩)] w fun e w' => ∃ v, e = .returned (.tuple #[v, .int .i64 ((corV r.1).2 : Nat)]) ∧ CrS w w' v (corV r.1).1 := by
  obtain ⟨i0, hi0, hz0, hz1, hz2⟩ := info_parts Tryz.infoInt
  have H := hide h
  have h40 := h.l40
  have hMs : r.1.length = ls.length := by rw [← h.sts, List.length_map]
  have HMs := hide hMs
  have HGet := hide (show ∀ i (hi : i < ls.length), r.1.getD i [] = ls[i].l from fun i hi => by rw [← h.sts, getD_l _ _ hi])
  have HW := hide (show CrS w w (.slice none 0 0) (corI r.1 0).1 from ⟨Fr.refl _ _, World.ownsRow_nil _ _ _ _⟩)
  clear h hMs
  go_enter Tryz.func90, Tryz.ntmps90
  go_wp2
  go_loopw [4, 5, 6] (fun v nv iv wr => ∃ (i : Nat), i ≤ ls.length ∧ iv = .int .i64 i ∧ nv = .int .i64 ((corI r.1 i).2 : Nat) ∧ Hid (CrS w wr v (corI r.1 i).1)) (fun _ _ iv _ => ls.length + 1 - (intOf iv).toNat)
  case atStart => exact ⟨0, by omega, rfl, rfl, HW⟩
  case round =>
    obtain ⟨i, hi, rfl, rfl, hC⟩ := hrel
    have HV := hide ((unhide H).fr0 (unhide hC).fr)
    have c0 := (unhide HV).rt.sa.cell
    clear HW
    by_cases hlt : i < ls.length
    · have hcl := corI_len r.1 (i := i) (by rw [unhide HMs]; omega)
      have hcn := corI_n r.1 i (by rw [unhide HMs]; omega)
      obtain ⟨cs, hcs⟩ : ∃ cs, (corI r.1 i).1 = cs := ⟨_, rfl⟩
      obtain ⟨n, hn⟩ : ∃ n, (corI r.1 i).2 = n := ⟨_, rfl⟩
      rw [hcs] at hC hcl
      rw [hn] at hcn ⊢
      have HCS := hide hcs
      have HN := hide hn
      have hcl2 : cs.length ≤ 40 := by omega
      have HCl := hide hcl
      obtain ⟨ao, cm, hv4⟩ := own_slice (unhide hC).row
      subst hv4
      clear hcs hn hcl
      go_wp2
      go_loopw [7, 8] (fun cv kv wr => ∃ (k : Nat) (c : Int), k ≤ i ∧ kv = .int .i64 k ∧ cv = .int .i64 c ∧ -1 ≤ c ∧ c ≤ 40 ∧ Hid (LkS r.1 i k c) ∧ Hid (CrS w wr (.slice ao cs.length cm) cs)) (fun _ kv _ => i + 1 - (intOf kv).toNat)
      case atStart => exact ⟨0, -1, by omega, rfl, rfl, by omega, by omega, Or.inl ⟨rfl, fun j hj => by omega⟩, hC⟩
      case round =>
        obtain ⟨k, c, hk, rfl, rfl, hc1, hc2, hL, hC2⟩ := hrel
        have HV2 := hide ((unhide H).fr0 (unhide hC2).fr)
        clear c0
        by_cases hcneg : c = -1
        · subst hcneg
          by_cases hkl : k < i
          · obtain ⟨g5, c5, e5⟩ := slice_some (unhide hC2).row (by have := unhide HCl; omega)
            injection e5 with e6 _ e7
            subst e6
            subst e7
            have d0 := (unhide HV2).rt.sa.cell
            have d1 := slV_get (unhide HV2).rt.sa.own i hlt
            have d2 := slV_get (unhide HV2).rt.sa.own k (by omega)
            unfold slV at d1 d2
            obtain ⟨m1, m2, m3, _⟩ := (unhide HV2).rt.sa.its ls[i] (List.getElem_mem hlt)
            obtain ⟨n1, n2, n3, _⟩ := (unhide HV2).rt.sa.its (ls[k]'(by omega)) (List.getElem_mem _)
            have HI := hide m1
            have HJ := hide n1
            obtain ⟨a, ha⟩ : ∃ a, alikeL ls[i].l (ls[k]'(by omega)).l = a := ⟨_, rfl⟩
            obtain ⟨b, hb⟩ : ∃ b, alikeL (ls[k]'(by omega)).l ls[i].l = b := ⟨_, rfl⟩
            have HA := hide ha
            have HB := hide hb
            have HAB := hide (show alk2 (r.1.getD i []) (r.1.getD k []) = (a && b) from by
              rw [unhide HGet i hlt, unhide HGet k (by omega)]; unfold alk2; rw [ha, hb])
            have hkc : k < cs.length := by have := unhide HCl; omega
            have e0 : ∀ W, Fr [] wr W → W.cell? ⟨g5, k, none⟩ = some (.int .i64 (cs[k] : Nat)) := fun W hW => by
              have := row1_get (xs := intC cs) (by rw [show (intC cs).length = cs.length from by simp [intC]]; exact (unhide hC2).row) k (by simpa [intC] using hkc)
              rw [hW.cell0 this]
              simp [intC]
            have HE0 := hide e0
            have hck : cs[k] ≤ 40 := by
              have := corI_lt r.1 i (by rw [unhide HMs]; omega) cs[k] (by rw [unhide HCS]; exact List.getElem_mem hkc)
              rw [unhide HN] at this; omega
            clear ha hb m1 n1 m2 n2 e0
            have hki : (k : Int) < (ls.length : Int) := by omega
            have hii : (i : Int) < (ls.length : Int) := by omega
            go_wp2_with fail
            go_region_held3 (fun w' => w'.cell? ⟨mb, 130, none⟩ = some (.slice (some ⟨gS, 0, none⟩) ls.length cS) ∧ w'.cell? ⟨gS, i, none⟩ = some (.slice (some ⟨ls[i].g, 0, none⟩) ls[i].l.length ls[i].c) ∧ w'.cell? ⟨gS, k, none⟩ = some (.slice (some ⟨ls[k].g, 0, none⟩) ls[k].l.length ls[k].c)) (first | (exact ⟨d0, d1, d2⟩) | (exact ⟨hf2.cell0 (by exact d0), hf2.cell0 (by exact d1), hf2.cell0 (by exact d2)⟩)) ((go_at_call 127; refine (r_alike ls[i].g ls[i].c ls[k].g ls[k].c ls[i].l ls[k].l _ (by exact (unhide HI).fr0 ((Fr.refl [] _).drew)) (by exact (unhide HJ).fr0 ((Fr.refl [] _).drew)) m3 n3).mono ?_; rintro e w2 ⟨rfl, hf2⟩; rw [unhide HA]))
            have HF2 := hide (show Fr [] wr w2 from (Fr.refl [] wr).drew.trans0 hf2)
            clear hf2
            have d0' := (unhide HF2).cell0 d0
            have d1' := (unhide HF2).cell0 d1
            have d2' := (unhide HF2).cell0 d2
            clear d0 d1 d2
            go_wp2_with fail
            go_region_held3 (fun w' => w'.cell? ⟨mb, 130, none⟩ = some (.slice (some ⟨gS, 0, none⟩) ls.length cS) ∧ w'.cell? ⟨gS, i, none⟩ = some (.slice (some ⟨ls[i].g, 0, none⟩) ls[i].l.length ls[i].c) ∧ w'.cell? ⟨gS, k, none⟩ = some (.slice (some ⟨ls[k].g, 0, none⟩) ls[k].l.length ls[k].c)) (first | (exact ⟨d0', d1', d2'⟩) | (exact ⟨hf3.cell0 (by exact d0'), hf3.cell0 (by exact d1'), hf3.cell0 (by exact d2')⟩)) ((go_at_call 127; refine (r_alike ls[k].g ls[k].c ls[i].g ls[i].c ls[k].l ls[i].l _ (by exact ((unhide HJ).fr0 (unhide HF2)).fr0 ((Fr.refl [] _).drew)) (by exact ((unhide HI).fr0 (unhide HF2)).fr0 ((Fr.refl [] _).drew)) n3 m3).mono ?_; rintro e w3 ⟨rfl, hf3⟩; rw [unhide HB]))
            have HF3 := hide (show Fr [] wr w3 from (unhide HF2).trans0 ((Fr.refl [] w2).drew.trans0 hf3))
            clear hf3 d0' d1' d2'
            have d3 := unhide HE0 w3 (unhide HF3)
            have HC3 := hide (show CrS w w3 (.slice (some ⟨g5, 0, none⟩) cs.length cm) cs from ⟨(unhide hC2).fr.trans0 (unhide HF3), ownsRow_fr (unhide hC2).row (unhide HF3) (by simp)⟩)
            have hkc' : (k : Int) < cs.length := by omega
            have hno : (a && b) = false → LkS r.1 i (k + 1) (-1) := fun hab => by
              rcases unhide hL with ⟨_, h⟩ | ⟨j, _, e⟩
              · exact Or.inl ⟨rfl, fun j hj => by
                  by_cases e : j = k
                  · subst e; rw [unhide HAB]; exact hab
                  · exact h j (by omega)⟩
              · omega
            have hyes : (a && b) = true → LkS r.1 i (k + 1) (cs[k] : Nat) := fun hab => by
              rcases unhide hL with ⟨_, h⟩ | ⟨j, _, e⟩
              · exact Or.inr ⟨k, lk_some (by rw [unhide HMs]; exact hlt) hkl h (by rw [unhide HAB]; exact hab), by rw [unhide HCS, List.getD_eq_getElem?_getD, List.getElem?_eq_getElem hkc]; rfl⟩
              · omega
            have HNo := hide hno
            have HYes := hide hyes
            clear hno hyes HAB HA HB HE0 HI HJ
            cases a
            · go_wp2
              go_roundw
              case rel => exact ⟨k + 1, -1, by omega, by go_num, rfl, by omega, by omega, unhide HNo rfl, HC3⟩
              case measure => simp [intOf]; omega
            · cases b
              · go_wp2
                go_roundw
                case rel => exact ⟨k + 1, -1, by omega, by go_num, rfl, by omega, by omega, unhide HNo rfl, HC3⟩
                case measure => simp [intOf]; omega
              · go_wp2
                go_roundw
                case rel => exact ⟨k + 1, (cs[k] : Nat), by omega, by go_num, rfl, by omega, by omega, unhide HYes rfl, HC3⟩
                case measure => simp [intOf]; omega
          · have HNew := hide (corI_new (Ms := r.1) (i := i) (by rw [unhide HMs]; exact hlt) (by have := unhide hL; rw [show k = i from by omega] at this; exact this))
            rw [unhide HCS, unhide HN] at HNew
            have hki : ¬ (k : Int) < (i : Int) := by omega
            go_wp2_with (at_builtin; refine wpList_append_lies _ rfl (.tmp 72) (.tmp 74) 148 rfl w.heap.size 3 i0 _ 1 8 Tryz.underlying148 hi0 hz0 hz1 hz2 rfl (by omega) (.slice ao cs.length cm) cs.length (intC cs) rfl (by exact (unhide hC2).row.alloc _) _ 1 1 [.int .i64 (n : Nat)] rfl rfl (World.news_of_block (cs := #[.int .i64 (n : Nat)]) (t := 3) (fr := (0, 0)) (heap_alloc_new _ _)) (by simp [Value.oneCell']) (by omega) (by unfold maxLen; omega) (by omega) (by have := (unhide hC2).fr.size; simp; omega) _ rfl ?_; intro g4 c4 w4 hown4 hgrow4 hat4 hlt4; have HC4 := hide ((unhide hC2).push hgrow4 hown4); clear hown4 hgrow4 hat4 hlt4)
            go_roundw
            case rel =>
              refine ⟨i + 1, by omega, by go_num, by rw [unhide HNew]; go_num, ?_⟩
              rw [unhide HNew]
              have h4 := unhide HC4
              rw [List.length_append] at h4
              exact h4
            case measure => simp [intOf]; omega
        · obtain ⟨cn, hcn'⟩ : ∃ cn : Nat, c = cn := ⟨c.toNat, by omega⟩
          subst hcn'
          have hc0 : ¬ (cn : Int) < 0 := by omega
          have HOld := hide (corI_old (Ms := r.1) (i := i) (by rw [unhide HMs]; exact hlt) (unhide hL))
          rw [unhide HCS, unhide HN] at HOld
          by_cases hkl : k < i
          all_goals
            go_wp2_with (at_builtin; refine wpList_append_lies _ rfl (.tmp 72) (.tmp 74) 148 rfl w.heap.size 3 i0 _ 1 8 Tryz.underlying148 hi0 hz0 hz1 hz2 rfl (by omega) (.slice ao cs.length cm) cs.length (intC cs) rfl (by exact (unhide hC2).row.alloc _) _ 1 1 [.int .i64 (cn : Nat)] rfl rfl (World.news_of_block (cs := #[.int .i64 (cn : Nat)]) (t := 3) (fr := (0, 0)) (heap_alloc_new _ _)) (by simp [Value.oneCell']) (by omega) (by unfold maxLen; omega) (by omega) (by have := (unhide hC2).fr.size; simp; omega) _ rfl ?_; intro g4 c4 w4 hown4 hgrow4 hat4 hlt4; have HC4 := hide ((unhide hC2).push hgrow4 hown4); clear hown4 hgrow4 hat4 hlt4)
            go_roundw
            case rel =>
              refine ⟨i + 1, by omega, by go_num, by rw [unhide HOld], ?_⟩
              rw [unhide HOld]
              have h4 := unhide HC4
              rw [List.length_append] at h4
              exact h4
            case measure => simp [intOf]; omega
    · have HE := hide (corI_all r.1 (i := i) (by rw [unhide HMs]; omega))
      go_wp2
      go_ret2
      exact ⟨_, by rw [unhide HE]; rfl, by have := unhide hC; rw [unhide HE] at this; exact this⟩
end Go.Proofs.YtkglggkkbmmjkaaGreatDoor

namespace Go.Proofs.YtkglggkkbmmjkaaGreatDoor
open Go.RowKit

/-- a cell of a row -/
theorem row_cell {w : World} {base e size g n cap : Nat} {xs : List Value} (h : w.ownsRow base e size (.slice (some ⟨g, 0, none⟩) n cap) n xs) {j : Nat} {u : Value} (hj : xs[j]? = some u) : w.cell? ⟨g, j, none⟩ = some u := by
  obtain ⟨h1, h2⟩ := h
  rcases h2 with ⟨h3, _⟩ | ⟨g', cap', cur, e, h3, h4, h5, h6, h7, h8⟩
  · cases h3
  · cases e
    rw [← h8] at hj
    have hlt : j < n * size := by
      rcases Nat.lt_or_ge j (n * size) with h | h
      · exact h
      · rw [List.getElem?_eq_none (by rw [List.length_take]; omega)] at hj; cases hj
    rw [List.getElem?_take_of_lt hlt, Array.getElem?_toList] at hj
    simp [World.cell?, h4, hj]
end Go.Proofs.YtkglggkkbmmjkaaGreatDoor

namespace Go.Proofs.YtkglggkkbmmjkaaGreatDoor
open Go.RowKit

theorem any_succ (f : Nat → Bool) (k : Nat) : (List.range (k + 1)).any f = ((List.range k).any f || f k) := by
  rw [List.range_succ, List.any_append]; simp
theorem mixS_succ (r : Tb) (cs : List Nat) (c : Int) (x k : Nat) : mixS r cs c x (k + 1) = (mixS r cs c x k || (((cs.getD k 0 : Nat) : Int) == c && canS r k x)) := any_succ _ k
theorem mixR_succ (L : List Ru) (r : Tb) (cs : List Nat) (c : Int) (x k i : Nat) : mixR L r cs c x (k + 1) i = (mixR L r cs c x k i || (((cs.getD k 0 : Nat) : Int) == c && canR L r k x i)) := any_succ _ k

set_option maxRecDepth 100000 in
set_option maxHeartbeats 4000000 in
/-- Table.mixed -/
theorem r_mixed {w0 : World} {L : List Ru} {N : Nat → Bool} {r : Tb} {mb q cq fq Bs : Nat} {T : Nat → Nat → Bool} {gS cS : Nat} {ls : List Sl} {gT cT : Nat} {ms : List MSl} (B g cm : Nat) (cs : List Nat) (c : Int) (x : Nat) (w : World) (h : RtV w0 w L N r mb q cq fq Bs T gS cS ls gT cT ms)
    (hr : w.ownsRow B 3 1 (.slice (some ⟨g, 0, none⟩) cs.length cm) cs.length (intC cs)) (hl : cs.length = ls.length) :
    Calls Tryz.prog 93 #[.pointer (some ⟨mb, 0, none⟩), .slice (some ⟨g, 0, none⟩) cs.length cm, .int .i64 c, .int .u8 (x : Nat)] w fun e w' => e = .returned (.string (wordsT (mixS r cs c x r.1.length) (mixR L r cs c x r.1.length))) ∧ Fr [] w w' := by
  have H := hide h
  have HR := hide hr
  have h40 := h.l40
  have HML := hide h.len
  have HL := hide hl
  have HS := hide (show r.1.length = ls.length from by rw [← h.sts, List.length_map])
  have hcl : cs.length ≤ 40 := by omega
  clear h hr hl
  go_enter Tryz.func93, Tryz.ntmps93
  go_wp2_with (refine wpList_box_blk rfl 139 (.tmp 11) rfl (some 12) rfl 10 (canF false fun _ => false) (by rfl) ?_; intro w2 hf2 hs2 hB2; have HF2 := hide hf2; have HB2 := hide hB2; clear hf2 hs2 hB2)
  go_loopw [10] (fun iv wr => ∃ k : Nat, k ≤ cs.length ∧ iv = .int .i64 k ∧ Hid (Fr [] w wr ∧ Blk wr w.heap.size 10 (canF (mixS r cs c x k) (mixR L r cs c x k)))) (fun iv _ => cs.length - (intOf iv).toNat)
  case atStart => exact ⟨0, by omega, rfl, unhide HF2, unhide HB2⟩
  case round =>
    obtain ⟨k, hk, rfl, hI⟩ := hrel
    clear HF2 HB2
    by_cases hlt : k < cs.length
    · have hlt2 : k < ls.length := by have := unhide HL; omega
      have hki : (k : Int) < (cs.length : Int) := by omega
      have d0 : wr.cell? ⟨g, k, none⟩ = some (.int .i64 ((cs[k] : Nat) : Int)) := by
        refine (unhide hI).1.cell0 ?_
        have := row_cell (unhide HR) (j := k) (u := .int .i64 ((cs[k] : Nat) : Int)) (by unfold intC; rw [List.getElem?_map, List.getElem?_eq_getElem hlt]; rfl)
        exact this
      have HG := hide (show cs.getD k 0 = cs[k] from by rw [List.getD_eq_getElem?_getD, List.getElem?_eq_getElem hlt]; rfl)
      obtain ⟨ck, hck⟩ : ∃ ck, cs[k] = ck := ⟨_, rfl⟩
      rw [hck] at d0 HG
      clear hck
      by_cases he : (ck : Int) = c
      · subst he
        have HV := hide ((unhide H).fr0 (unhide hI).1)
        have HNe := hide ((unhide H).fresh (Nat.le_refl _) hlt2)
        have HN := hide (show canF (mixS r cs ck x k || decide (0 ≤ toM (ms[k]'(by rw [unhide HML]; exact hlt2)).m x)) (fun i => mixR L r cs ck x k i || endsL L ls[k].l x i) = canF (mixS r cs ck x (k + 1)) (mixR L r cs ck x (k + 1)) from by
          have e1 : canS r k x = decide (0 ≤ toM (ms[k]'(by rw [unhide HML]; exact hlt2)).m x) := by unfold canS; rw [← (unhide H).mvs, getD_m _ _ (by rw [unhide HML]; exact hlt2)]
          have e2 : ∀ i, canR L r k x i = endsL L ls[k].l x i := fun i => by unfold canR; rw [← (unhide H).sts, getD_l _ _ hlt2]
          rw [mixS_succ, unhide HG, e1, show mixR L r cs ck x (k + 1) = fun i => mixR L r cs ck x k i || endsL L ls[k].l x i from funext fun i => by rw [mixR_succ, unhide HG, e2 i]; simp]
          simp)
        go_wp2_with (go_at_call 88; refine (r_can Bs mb q cq fq gS cS gT cT w.heap.size L N T ls ms k x _ _ _ (by exact (unhide HV).rt.tb) (by exact (unhide HV).rt.sa) (by exact (unhide HV).rt.mt) hlt2 (by rw [unhide HML]; exact hlt2) (by exact (unhide HV).rt.ok _ (List.getElem_mem hlt2)) (by exact (unhide hI).2) (by exact unhide HNe)).mono ?_; rintro e w3 ⟨rfl, hf3, hB3⟩; rw [unhide HN] at hB3; have HI3 := hide (And.intro ((unhide hI).1.trans1 hf3 (Or.inr (Nat.le_refl _))) hB3); clear hf3 hB3)
        go_roundw
        case rel => exact ⟨k + 1, by omega, by go_num, HI3⟩
        case measure => simp [intOf]; omega
      · have hne : ((ck : Int) == c) = false := by rw [beq_eq_false_iff_ne]; exact he
        have HN := hide (show Fr [] w wr ∧ Blk wr w.heap.size 10 (canF (mixS r cs c x (k + 1)) (mixR L r cs c x (k + 1))) from ⟨(unhide hI).1, by
          rw [mixS_succ, unhide HG, hne, show mixR L r cs c x (k + 1) = mixR L r cs c x k from funext fun i => by rw [mixR_succ, unhide HG, hne]; simp]
          simpa using (unhide hI).2⟩)
        clear he
        go_wp2
        go_roundw
        case rel => exact ⟨k + 1, by omega, by go_num, HN⟩
        case measure => simp [intOf]; omega
    · have hke : k = cs.length := by omega
      subst hke
      have HE := hide (show cs.length = r.1.length from by rw [unhide HS, unhide HL])
      go_wp2_with (go_at_call 89; refine (r_words w.heap.size _ _ _ (by exact (unhide hI).2)).mono ?_; rintro e w4 ⟨rfl, hf4⟩; have HF4 := hide ((unhide hI).1.trans0 hf4); clear hf4)
      go_ret
      exact ⟨by rw [unhide HE]; rfl, unhide HF4⟩
end Go.Proofs.YtkglggkkbmmjkaaGreatDoor

namespace Go.Proofs.YtkglggkkbmmjkaaGreatDoor
open Go.RowKit

theorem corV_len (Ms : List (List It)) : (corV Ms).1.length = Ms.length := by unfold corV; rw [corF_len]; simp
theorem corV_n (Ms : List (List It)) : (corV Ms).2 ≤ Ms.length := by rw [← corI_all Ms (Nat.le_refl _)]; exact corI_n Ms _ (Nat.le_refl _)
/-- the signs' own text -/
def sgsT : ByteArray := ⟨#[36, 97, 98, 99, 100, 101, 102, 103, 104, 105, 106, 107, 108, 109, 110, 111, 112, 113, 114, 115, 116, 117, 118, 119, 120, 121, 122]⟩
theorem sgsT_at : ∀ i : Fin 27, ((sgsT.data.toList[i.val]?).map UInt8.toNat) = some (sgn i.val) := by decide +kernel
theorem sgsT_get (i : Nat) (hi : i < 27) (h : i < sgsT.size) : ((sgsT[i]'h).toNat : Int) = ((sgn i : Nat) : Int) := by
  have := sgsT_at ⟨i, hi⟩
  rw [List.getElem?_eq_getElem (by simpa using h)] at this
  have e : (sgsT[i]'h).toNat = sgn i := by
    have e2 : (sgsT.data[i]'h).toNat = sgn i := by simpa using this
    exact e2
  rw [e]

set_option maxRecDepth 100000 in
set_option maxHeartbeats 4000000 in
/-- Table.class -/
theorem r_class {w0 : World} {L : List Ru} {N : Nat → Bool} {r : Tb} {mb q cq fq Bs : Nat} {T : Nat → Nat → Bool} {gS cS : Nat} {ls : List Sl} {gT cT : Nat} {ms : List MSl} (w : World) (h : RtV w0 w L N r mb q cq fq Bs T gS cS ls gT cT ms) :
    Calls Tryz.prog 95 #[.pointer (some ⟨mb, 0, none⟩)] w fun e w' => e = .returned (.int .i64 (clsT L r : Nat)) ∧ Fr [] w w' := by
  have H := hide h
  have h40 := h.l40
  have hpos := h.pos
  have HML := hide h.len
  have hS : r.1.length = ls.length := by rw [← h.sts, List.length_map]
  have HS := hide hS
  have HCL := hide (show (corV r.1).1.length = ls.length from by rw [corV_len, hS])
  have hcn : (corV r.1).2 ≤ 40 := by have := corV_n r.1; omega
  clear h hS
  go_enter Tryz.func95, Tryz.ntmps95
  go_wp2_with (go_at_call 90; refine (r_cores w (unhide H)).mono ?_; rintro e w1 ⟨v, rfl, hC⟩; obtain ⟨g, cm, hv⟩ := slice_some hC.row (by have := unhide HCL; omega); subst hv; have HC := hide hC; have c0 := ((unhide H).fr0 hC.fr).rt.sa.cell; clear hC)
  obtain ⟨cs, hcs⟩ : ∃ cs, (corV r.1).1 = cs := ⟨_, rfl⟩
  obtain ⟨nc, hnc⟩ : ∃ nc, (corV r.1).2 = nc := ⟨_, rfl⟩
  rw [hcs] at HC HCL ⊢
  rw [hnc] at hcn ⊢
  have HCS := hide hcs
  have HNC := hide hnc
  clear hcs hnc
  go_loopw [5] (fun iv wr => ∃ k : Nat, k ≤ ls.length ∧ iv = .int .i64 k ∧ Hid (∀ j, j < k → ∀ i, i < 27 → decide (1 < (actT L r j (sgn i)).size) = false) ∧ Hid (Fr [] w1 wr)) (fun iv _ => ls.length - (intOf iv).toNat)
  case atStart => exact ⟨0, by omega, rfl, (fun j hj => by omega), Fr.refl _ _⟩
  case round =>
    obtain ⟨k, hk, rfl, hm, hs⟩ := hrel
    clear c0
    have c0 := (((unhide H).fr0 (unhide HC).fr).fr0 (unhide hs)).rt.sa.cell
    by_cases hlt : k < ls.length
    · have hki : (k : Int) < ls.length := by omega
      go_wp2
      clear c0
      go_loopw [6] (fun iv wr => ∃ i : Nat, i ≤ 27 ∧ iv = .int .i64 i ∧ Hid (∀ j, j < i → decide (1 < (actT L r k (sgn j)).size) = false) ∧ Hid (Fr [] w1 wr)) (fun iv _ => 27 - (intOf iv).toNat)
      case atStart => exact ⟨0, by omega, rfl, (fun j hj => by omega), hs⟩
      case round =>
        clear hs
        obtain ⟨i, hi, rfl, hmi, hs⟩ := hrel
        by_cases hit : i < 27
        · have hii : (i : Int) < 27 := by omega
          have HV := hide (((unhide H).fr0 (unhide HC).fr).fr0 (unhide hs))
          have hsg := sgsT_get i hit (show i < 27 from hit)
          unfold sgsT at hsg
          have HSG := hide hsg
          clear hsg
          have hat : wordsT (decide (0 ≤ toM (ms[k]'(by rw [unhide HML]; exact hlt)).m (sgn i))) (endsL L ls[k].l (sgn i)) = actT L r k (sgn i) := by
            unfold actT canS
            rw [← (unhide HV).mvs, getD_m _ _ (by rw [unhide HML]; exact hlt), show canR L r k (sgn i) = endsL L ls[k].l (sgn i) from by unfold canR; rw [← (unhide HV).sts, getD_l _ _ hlt]]
          obtain ⟨a, ha⟩ : ∃ a, actT L r k (sgn i) = a := ⟨_, rfl⟩
          rw [ha] at hat
          have HAT := hide hat
          have hsz : a.size ≤ 10 := by
            rw [← ha]
            show (wdU _ _ 9).length ≤ 10
            exact wdU_len _ _ 9
          have HA := hide ha
          clear hat ha
          by_cases h1 : 1 < a.size
          · have HN := hide (show clsT L r = 0 from by
              unfold clsT
              rw [if_pos (anyC_true (k := k) (i := i) (by rw [unhide HS]; exact hlt) hit (by rw [unhide HA]; exact decide_eq_true h1))])
            have h1i : (1 : Int) < a.size := by omega
            go_wp2_with (first
            | (refine wpList_box_blk rfl 139 (.tmp 30) rfl (some 31) rfl 10 (canF false fun _ => false) (by rfl) ?_; intro w2 hf2 hs2 hB2; have HV2 := hide ((unhide HV).fr0 hf2); have HB2 := hide hB2; have HNe := hide ((unhide HV).fresh (Nat.le_refl _) hlt); have HF2 := hide ((unhide hs).trans0 hf2); clear hf2 hs2 hB2)
            | (go_at_call 88; rw [unhide HSG]; refine (r_can Bs mb q cq fq gS cS gT cT wr.heap.size L N T ls ms k (sgn i) false (fun _ => false) _ (by exact (unhide HV2).rt.tb) (by exact (unhide HV2).rt.sa) (by exact (unhide HV2).rt.mt) hlt (by rw [unhide HML]; exact hlt) (by exact (unhide HV2).rt.ok _ (List.getElem_mem hlt)) (by exact unhide HB2) (by exact unhide HNe)).mono ?_; rintro e w3 ⟨rfl, hf3, hB3⟩; rw [canF_first] at hB3; have HB3 := hide hB3; have HF3 := hide ((unhide HF2).trans1 hf3 (Or.inr (unhide hs).size)); clear hf3 hB3)
            | (go_at_call 89; refine (r_words wr.heap.size _ _ _ (by exact unhide HB3)).mono ?_; rintro e w4 ⟨rfl, hf4⟩; rw [unhide HAT]; have HF4 := hide ((unhide HF3).trans0 hf4); clear hf4))
            go_ret
            exact ⟨ret_int (by rw [unhide HN]; rfl), (unhide HC).fr.trans0 (unhide HF4)⟩
          · have HN := hide (show ∀ j, j < i + 1 → decide (1 < (actT L r k (sgn j)).size) = false from fun j hj => by
              by_cases e : j = i
              · subst e; rw [unhide HA]; exact decide_eq_false h1
              · exact unhide hmi j (by omega))
            have h1i : ¬ (1 : Int) < a.size := by omega
            go_wp2_with (first
            | (refine wpList_box_blk rfl 139 (.tmp 30) rfl (some 31) rfl 10 (canF false fun _ => false) (by rfl) ?_; intro w2 hf2 hs2 hB2; have HV2 := hide ((unhide HV).fr0 hf2); have HB2 := hide hB2; have HNe := hide ((unhide HV).fresh (Nat.le_refl _) hlt); have HF2 := hide ((unhide hs).trans0 hf2); clear hf2 hs2 hB2)
            | (go_at_call 88; rw [unhide HSG]; refine (r_can Bs mb q cq fq gS cS gT cT wr.heap.size L N T ls ms k (sgn i) false (fun _ => false) _ (by exact (unhide HV2).rt.tb) (by exact (unhide HV2).rt.sa) (by exact (unhide HV2).rt.mt) hlt (by rw [unhide HML]; exact hlt) (by exact (unhide HV2).rt.ok _ (List.getElem_mem hlt)) (by exact unhide HB2) (by exact unhide HNe)).mono ?_; rintro e w3 ⟨rfl, hf3, hB3⟩; rw [canF_first] at hB3; have HB3 := hide hB3; have HF3 := hide ((unhide HF2).trans1 hf3 (Or.inr (unhide hs).size)); clear hf3 hB3)
            | (go_at_call 89; refine (r_words wr.heap.size _ _ _ (by exact unhide HB3)).mono ?_; rintro e w4 ⟨rfl, hf4⟩; rw [unhide HAT]; have HF4 := hide ((unhide HF3).trans0 hf4); clear hf4))
            go_roundw
            case rel => exact ⟨i + 1, by omega, by go_num, HN, HF4⟩
            case measure => simp [intOf]; omega
        · have HN := hide (show ∀ j, j < k + 1 → ∀ i, i < 27 → decide (1 < (actT L r j (sgn i)).size) = false from fun j hj i2 hi2 => by
            by_cases e : j = k
            · subst e; exact unhide hmi i2 (by omega)
            · exact unhide hm j (by omega) i2 hi2)
          go_wp2
          go_roundw
          case rel => exact ⟨k + 1, by omega, by go_num, HN, hs⟩
          case measure => simp [intOf]; omega
    · have HAll := hide (anyC_false (f := fun k i => decide (1 < (actT L r k (sgn i)).size)) (m := r.1.length) (fun j hj i hi => unhide hm j (by rw [unhide HS] at hj; omega) i hi))
      go_wp2
      clear c0 hm
      go_loopw [9] (fun iv wr => ∃ k : Nat, k ≤ nc ∧ iv = .int .i64 k ∧ Hid (∀ j, j < k → ∀ i, i < 27 → decide (1 < (mixT L r (j : Nat) (sgn i)).size) = false) ∧ Hid (Fr [] w1 wr)) (fun iv _ => nc - (intOf iv).toNat)
      case atStart => exact ⟨0, by omega, rfl, (fun j hj => by omega), hs⟩
      case round =>
        clear hs hk hlt
        obtain ⟨k, hk, rfl, hm, hs⟩ := hrel
        by_cases hlt : k < nc
        · have hki : (k : Int) < nc := by omega
          go_wp2
          go_loopw [10] (fun iv wr => ∃ i : Nat, i ≤ 27 ∧ iv = .int .i64 i ∧ Hid (∀ j, j < i → decide (1 < (mixT L r (k : Nat) (sgn j)).size) = false) ∧ Hid (Fr [] w1 wr)) (fun iv _ => 27 - (intOf iv).toNat)
          case atStart => exact ⟨0, by omega, rfl, (fun j hj => by omega), hs⟩
          case round =>
            clear hs
            obtain ⟨i, hi, rfl, hmi, hs⟩ := hrel
            by_cases hit : i < 27
            · have hii : (i : Int) < 27 := by omega
              have HV := hide (((unhide H).fr0 (unhide HC).fr).fr0 (unhide hs))
              have HRw := hide (ownsRow_fr (unhide HC).row (unhide hs) (by simp))
              have hsg := sgsT_get i hit (show i < 27 from hit)
              unfold sgsT at hsg
              have HSG := hide hsg
              clear hsg
              have hat : wordsT (mixS r cs (k : Nat) (sgn i) r.1.length) (mixR L r cs (k : Nat) (sgn i) r.1.length) = mixT L r (k : Nat) (sgn i) := by unfold mixT; rw [unhide HCS]
              obtain ⟨a, ha⟩ : ∃ a, mixT L r (k : Nat) (sgn i) = a := ⟨_, rfl⟩
              rw [ha] at hat
              have HAT := hide hat
              have hsz : a.size ≤ 10 := by
                rw [← ha]
                show (wdU _ _ 9).length ≤ 10
                exact wdU_len _ _ 9
              have HA := hide ha
              clear hat ha
              by_cases h1 : 1 < a.size
              · have HN := hide (show clsT L r = 1 from by
                  unfold clsT
                  rw [if_neg (by rw [unhide HAll]; simp), if_pos (anyC_true (k := k) (i := i) (by rw [unhide HNC]; exact hlt) hit (by rw [unhide HA]; exact decide_eq_true h1))])
                have h1i : (1 : Int) < a.size := by omega
                go_wp2_with (go_at_call 93; rw [unhide HSG]; refine (r_mixed w.heap.size g cm cs (k : Nat) (sgn i) wr (by exact unhide HV) (by exact unhide HRw) (unhide HCL)).mono ?_; rintro e w4 ⟨rfl, hf4⟩; rw [unhide HAT]; have HF4 := hide ((unhide hs).trans0 hf4); clear hf4)
                go_ret
                exact ⟨ret_int (by rw [unhide HN]; rfl), (unhide HC).fr.trans0 (unhide HF4)⟩
              · have HN := hide (show ∀ j, j < i + 1 → decide (1 < (mixT L r (k : Nat) (sgn j)).size) = false from fun j hj => by
                  by_cases e : j = i
                  · subst e; rw [unhide HA]; exact decide_eq_false h1
                  · exact unhide hmi j (by omega))
                have h1i : ¬ (1 : Int) < a.size := by omega
                go_wp2_with (go_at_call 93; rw [unhide HSG]; refine (r_mixed w.heap.size g cm cs (k : Nat) (sgn i) wr (by exact unhide HV) (by exact unhide HRw) (unhide HCL)).mono ?_; rintro e w4 ⟨rfl, hf4⟩; rw [unhide HAT]; have HF4 := hide ((unhide hs).trans0 hf4); clear hf4)
                go_roundw
                case rel => exact ⟨i + 1, by omega, by go_num, HN, HF4⟩
                case measure => simp [intOf]; omega
            · have HN := hide (show ∀ j, j < k + 1 → ∀ i, i < 27 → decide (1 < (mixT L r (j : Nat) (sgn i)).size) = false from fun j hj i2 hi2 => by
                by_cases e : j = k
                · subst e; exact unhide hmi i2 (by omega)
                · exact unhide hm j (by omega) i2 hi2)
              go_wp2
              go_roundw
              case rel => exact ⟨k + 1, by omega, by go_num, HN, hs⟩
              case measure => simp [intOf]; omega
        · have HN := hide (show clsT L r = 2 from by
            unfold clsT
            rw [if_neg (by rw [unhide HAll]; simp), if_neg (by rw [anyC_false (f := fun k i => decide (1 < (mixT L r (k : Nat) (sgn i)).size)) (m := (corV r.1).2) (fun j hj i hi => unhide hm j (by rw [unhide HNC] at hj; omega) i hi)]; simp)])
          go_wp2
          go_ret
          exact ⟨ret_int (by rw [unhide HN]; rfl), (unhide HC).fr.trans0 (unhide hs)⟩
end Go.Proofs.YtkglggkkbmmjkaaGreatDoor

namespace Go.Proofs.YtkglggkkbmmjkaaGreatDoor
open Go.RowKit

theorem coreV_out {n : Int} {r : Tb} (h : ¬ (0 ≤ n ∧ n < r.1.length)) : coreV n (.inr r) = (0, 7) := by unfold coreV; dsimp only; rw [if_neg h]
theorem coreV_ok {n : Int} {r : Tb} (h : 0 ≤ n ∧ n < r.1.length) : coreV n (.inr r) = ((corV r.1).1.getD n.toNat 0, 0) := by unfold coreV; dsimp only; rw [if_pos h]

set_option maxRecDepth 100000 in
set_option maxHeartbeats 2000000 in
theorem r_CoreV (t : ByteArray) (n : Int) (w : World) (ht : t.size ≤ 9223372036854775807) :
    Calls Tryz.prog 38 #[.string t, .int .i64 n] w fun e w' => e = .returned (.tuple #[.int .i64 ((coreV n (tabR t)).1 : Nat), .int .i64 ((coreV n (tabR t)).2 : Nat)]) ∧ Fr [] w w' := by
  cases htab : tabR t with
  | inl x =>
    have HT := hide htab
    clear htab
    go_enter Tryz.func38, Tryz.ntmps38
    go_wp2_with (go_at_call 79; refine (r_tableV t w ht).mono ?_; rintro e w1 ⟨hf, h1, _⟩; obtain ⟨rfl, hx⟩ := h1 x (unhide HT); have hxb : ((x : Int) != 0) = true := (by rw [bne_iff_ne]; omega); have HF := hide hf; clear hf h1)
    go_ret2
    exact ⟨rfl, unhide HF⟩
  | inr r =>
    have HT := hide htab
    clear htab
    by_cases hin : 0 ≤ n ∧ n < r.1.length
    · have HA := hide (coreV_ok hin)
      obtain ⟨k, rfl⟩ : ∃ k : Nat, n = k := ⟨n.toNat, by omega⟩
      have HK := hide (show k < r.1.length by omega)
      clear hin
      go_enter Tryz.func38, Tryz.ntmps38
      go_wp2_with (first
        | (go_at_call 79; refine (r_tableV t w ht).mono ?_; rintro e w1 ⟨hf, _, h2⟩; obtain ⟨mb, q, cq, fq, Bs, T, gS, cS, ls, gT, cT, ms, rfl, hv⟩ := h2 r (unhide HT); have HV := hide hv; have hlt : k < ls.length := (by have := unhide HK; rw [← hv.sts, List.length_map] at this; exact this); have c0 := hv.rt.sa.cell; have HF := hide hf; clear hf h2 hv)
        | (go_at_call 90; refine (r_cores w1 (unhide HV)).mono ?_; rintro e w2 ⟨v, rfl, hC⟩; have hcl : (corV r.1).1.length = ls.length := (by rw [corV_len, ← (unhide HV).sts, List.length_map]); obtain ⟨g, cm, hv⟩ := slice_some hC.row (by omega); subst hv; have hk2 : k < (corV r.1).1.length := (by omega); have d0 : w2.cell? ⟨g, k, none⟩ = some (.int .i64 ((((corV r.1).1[k]) : Nat) : Int)) := row_cell hC.row (by unfold intC; rw [List.getElem?_map, List.getElem?_eq_getElem hk2]; rfl); have HFC := hide ((unhide HF).trans0 hC.fr); have hk3 : (k : Int) < ((corV r.1).1.length : Int) := (by omega); have HKK := hide hk2; clear hC hcl))
      go_ret2
      exact ⟨by rw [unhide HA, show ((k : Nat) : Int).toNat = k from rfl, List.getD_eq_getElem?_getD, List.getElem?_eq_getElem (unhide HKK)]; rfl, unhide HFC⟩
    · have HA := hide (coreV_out hin)
      have HIn := hide hin
      clear hin
      by_cases h0 : n < 0
      · go_enter Tryz.func38, Tryz.ntmps38
        go_wp2_with (first
          | (go_at_call 79; refine (r_tableV t w ht).mono ?_; rintro e w1 ⟨hf, _, h2⟩; obtain ⟨mb, q, cq, fq, Bs, T, gS, cS, ls, gT, cT, ms, rfl, hv⟩ := h2 r (unhide HT); have HV := hide hv; have c0 := hv.rt.sa.cell; have HF := hide hf; clear hf h2 hv))
        go_ret2
        exact ⟨by rw [unhide HA]; rfl, unhide HF⟩
      · go_enter Tryz.func38, Tryz.ntmps38
        go_wp2_with (first
          | (go_at_call 79; refine (r_tableV t w ht).mono ?_; rintro e w1 ⟨hf, _, h2⟩; obtain ⟨mb, q, cq, fq, Bs, T, gS, cS, ls, gT, cT, ms, rfl, hv⟩ := h2 r (unhide HT); have HV := hide hv; have hge : (ls.length : Int) ≤ n := (by have h := unhide HIn; rw [← hv.sts, List.length_map] at h; omega); have c0 := hv.rt.sa.cell; have HF := hide hf; clear hf h2 hv))
        go_ret2
        exact ⟨by rw [unhide HA]; rfl, unhide HF⟩

theorem mixV_out {L : List Ru} {n : Int} {s : ByteArray} {r : Tb} (h : ¬ (0 ≤ n ∧ n < (corV r.1).2)) : mixV L n s (.inr r) = (⟨#[]⟩, 7) := by unfold mixV; dsimp only; rw [if_neg h]
theorem mixV_bad {L : List Ru} {n : Int} {s : ByteArray} {r : Tb} (h : 0 ≤ n ∧ n < (corV r.1).2) (hs : sgnX s = false) : mixV L n s (.inr r) = (⟨#[]⟩, 5) := by unfold mixV; dsimp only; rw [if_pos h, if_pos hs]
theorem mixV_ok {L : List Ru} {n : Int} {s : ByteArray} {r : Tb} (h : 0 ≤ n ∧ n < (corV r.1).2) (hs : sgnX s = true) : mixV L n s (.inr r) = (mixT L r n (ch s 0), 0) := by unfold mixV; dsimp only; rw [if_pos h, if_neg (by rw [hs]; simp)]

set_option maxRecDepth 100000 in
set_option maxHeartbeats 2000000 in
theorem r_MixV (t : ByteArray) (n : Int) (s : ByteArray) (w : World) (ht : t.size ≤ 9223372036854775807) :
    Calls Tryz.prog 40 #[.string t, .int .i64 n, .string s] w fun e w' => e = .returned (.tuple #[.string (mixV (rul (parse t 8 0 []).1) n s (tabR t)).1, .int .i64 ((mixV (rul (parse t 8 0 []).1) n s (tabR t)).2 : Nat)]) ∧ Fr [] w w' := by
  have hsx : sgnW s = sgnX s := rfl
  cases htab : tabR t with
  | inl x =>
    have HT := hide htab
    clear htab
    go_enter Tryz.func40, Tryz.ntmps40
    go_wp2_with (go_at_call 79; refine (r_tableV t w ht).mono ?_; rintro e w1 ⟨hf, h1, _⟩; obtain ⟨rfl, hx⟩ := h1 x (unhide HT); have hxb : ((x : Int) != 0) = true := (by rw [bne_iff_ne]; omega); have HF := hide hf; clear hf h1)
    go_ret2
    exact ⟨rfl, unhide HF⟩
  | inr r =>
    have HT := hide htab
    clear htab
    obtain ⟨nc, hnc⟩ : ∃ nc, (corV r.1).2 = nc := ⟨_, rfl⟩
    have HNC := hide hnc
    by_cases hin : 0 ≤ n ∧ n < (corV r.1).2
    · have f1 : ¬ n < 0 := by omega
      have f2 : ¬ (nc : Int) ≤ n := by rw [← hnc]; omega
      cases hl : sgnX s
      · have HA := hide (mixV_bad (L := rul (parse t 8 0 []).1) hin hl)
        rw [hl] at hsx
        have HSX := hide hsx
        clear hin hl hsx hnc
        go_enter Tryz.func40, Tryz.ntmps40
        go_wp2_with (first
          | (go_at_call 79; refine (r_tableV t w ht).mono ?_; rintro e w1 ⟨hf, _, h2⟩; obtain ⟨mb, q, cq, fq, Bs, T, gS, cS, ls, gT, cT, ms, rfl, hv⟩ := h2 r (unhide HT); have HV := hide hv; have HF := hide hf; clear hf h2 hv)
          | (go_at_call 90; refine (r_cores w1 (unhide HV)).mono ?_; rintro e w2 ⟨v, rfl, hC⟩; rw [unhide HNC]; have HFC := hide ((unhide HF).trans0 hC.fr); clear hC)
          | (go_at_call 87; refine (r_isSign s _).mono ?_; rintro e w' ⟨rfl, hw'⟩; rw [hw', unhide HSX]))
        go_ret2
        exact ⟨by rw [unhide HA]; rfl, unhide HFC⟩
      · have HA := hide (mixV_ok (L := rul (parse t 8 0 []).1) hin hl)
        have h1 : s.size = 1 := by unfold sgnX at hl; rw [Bool.and_eq_true] at hl; exact of_decide_eq_true hl.1
        have hc0 : ((s[0]'(by omega)).toNat : Int) = ((ch s 0 : Nat) : Int) := by rw [ch_eq s 0 (by omega)]
        have h1' : (0 : Int) < (s.size : Int) := by omega
        obtain ⟨c, hc⟩ : ∃ c, ch s 0 = c := ⟨_, rfl⟩
        rw [hc] at hc0
        have HCC := hide hc
        rw [hl] at hsx
        have HSX := hide hsx
        clear hin hl hsx hc hnc
        go_enter Tryz.func40, Tryz.ntmps40
        go_wp2_with (first
          | (go_at_call 79; refine (r_tableV t w ht).mono ?_; rintro e w1 ⟨hf, _, h2⟩; obtain ⟨mb, q, cq, fq, Bs, T, gS, cS, ls, gT, cT, ms, rfl, hv⟩ := h2 r (unhide HT); have HV := hide hv; have HF := hide hf; clear hf h2 hv)
          | (go_at_call 90; refine (r_cores w1 (unhide HV)).mono ?_; rintro e w2 ⟨v, rfl, hC⟩; rw [unhide HNC]; have hcl : (corV r.1).1.length = ls.length := (by rw [corV_len, ← (unhide HV).sts, List.length_map]); obtain ⟨g, cm, hv⟩ := slice_some hC.row (by have := (unhide HV).pos; omega); subst hv; have HV2 := hide ((unhide HV).fr0 hC.fr); have HRw := hide hC.row; have HCL := hide hcl; have HFC := hide ((unhide HF).trans0 hC.fr); clear hC hcl)
          | (go_at_call 87; refine (r_isSign s _).mono ?_; rintro e w' ⟨rfl, hw'⟩; rw [hw', unhide HSX])
          | (go_at_call 93; refine (r_mixed w1.heap.size g cm (corV r.1).1 n c w2 (by exact unhide HV2) (by exact unhide HRw) (unhide HCL)).mono ?_; rintro e w4 ⟨rfl, hf4⟩; have HF4 := hide ((unhide HFC).trans0 hf4); clear hf4))
        go_ret2
        exact ⟨by rw [unhide HA, unhide HCC]; rfl, unhide HF4⟩
    · have HA := hide (mixV_out (L := rul (parse t 8 0 []).1) (s := s) hin)
      by_cases h0 : n < 0
      · clear hin hnc hsx
        go_enter Tryz.func40, Tryz.ntmps40
        go_wp2_with (first
          | (go_at_call 79; refine (r_tableV t w ht).mono ?_; rintro e w1 ⟨hf, _, h2⟩; obtain ⟨mb, q, cq, fq, Bs, T, gS, cS, ls, gT, cT, ms, rfl, hv⟩ := h2 r (unhide HT); have HV := hide hv; have HF := hide hf; clear hf h2 hv)
          | (go_at_call 90; refine (r_cores w1 (unhide HV)).mono ?_; rintro e w2 ⟨v, rfl, hC⟩; rw [unhide HNC]; have HFC := hide ((unhide HF).trans0 hC.fr); clear hC))
        go_ret2
        exact ⟨by rw [unhide HA]; rfl, unhide HFC⟩
      · have hge : (nc : Int) ≤ n := by rw [← hnc]; omega
        clear hin hnc hsx
        go_enter Tryz.func40, Tryz.ntmps40
        go_wp2_with (first
          | (go_at_call 79; refine (r_tableV t w ht).mono ?_; rintro e w1 ⟨hf, _, h2⟩; obtain ⟨mb, q, cq, fq, Bs, T, gS, cS, ls, gT, cT, ms, rfl, hv⟩ := h2 r (unhide HT); have HV := hide hv; have HF := hide hf; clear hf h2 hv)
          | (go_at_call 90; refine (r_cores w1 (unhide HV)).mono ?_; rintro e w2 ⟨v, rfl, hC⟩; rw [unhide HNC]; have HFC := hide ((unhide HF).trans0 hC.fr); clear hC))
        go_ret2
        exact ⟨by rw [unhide HA]; rfl, unhide HFC⟩

set_option maxRecDepth 100000 in
set_option maxHeartbeats 2000000 in
theorem r_ClassV (t : ByteArray) (w : World) (ht : t.size ≤ 9223372036854775807) :
    Calls Tryz.prog 42 #[.string t] w fun e w' => e = .returned (.tuple #[.int .i64 ((classV (rul (parse t 8 0 []).1) (tabR t)).1 : Nat), .int .i64 ((classV (rul (parse t 8 0 []).1) (tabR t)).2 : Nat)]) ∧ Fr [] w w' := by
  cases htab : tabR t with
  | inl x =>
    have HT := hide htab
    clear htab
    go_enter Tryz.func42, Tryz.ntmps42
    go_wp2_with (go_at_call 79; refine (r_tableV t w ht).mono ?_; rintro e w1 ⟨hf, h1, _⟩; obtain ⟨rfl, hx⟩ := h1 x (unhide HT); have hxb : ((x : Int) != 0) = true := (by rw [bne_iff_ne]; omega); have HF := hide hf; clear hf h1)
    go_ret2
    exact ⟨rfl, unhide HF⟩
  | inr r =>
    have HT := hide htab
    clear htab
    go_enter Tryz.func42, Tryz.ntmps42
    go_wp2_with (first
      | (go_at_call 79; refine (r_tableV t w ht).mono ?_; rintro e w1 ⟨hf, _, h2⟩; obtain ⟨mb, q, cq, fq, Bs, T, gS, cS, ls, gT, cT, ms, rfl, hv⟩ := h2 r (unhide HT); have HV := hide hv; have HF := hide hf; clear hf h2 hv)
      | (go_at_call 95; refine (r_class w1 (unhide HV)).mono ?_; rintro e w2 ⟨rfl, hf2⟩; have HF2 := hide ((unhide HF).trans0 hf2); clear hf2))
    go_ret2
    exact ⟨rfl, unhide HF2⟩
end Go.Proofs.YtkglggkkbmmjkaaGreatDoor
