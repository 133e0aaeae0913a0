import Derived.Test.YtkglggkkbmmjkabGreatDoorG40RPt8
import Derived.Test.YtkglggkkbmmjkabGreatDoorG18LrTab
namespace Go.Proofs.YtkglggkkbmmjkabGreatDoor
open Go.RowKit

set_option maxRecDepth 100000 in
set_option maxHeartbeats 4000000 in
theorem r_written_nil {pb : Nat} {rs : List Ru} {T : ByteArray} {D : Nat} (l : ByteArray) (i j : Nat) (x : List Nat) (n h : Nat) (w : World) (hl : l.size = 0) (hd : Dh (rul rs) (bytes l) (seg (bytes T) i j) x n h) :
    Calls Tryz.prog 98 #[.pointer (some ⟨pb, 0, none⟩), .string l, .int .i64 (i : Nat), .int .i64 (j : Nat), .int .i64 (D : Nat)] w fun e w' => e = .returned (.string (bstr x)) ∧ Fr [] w w' := by
  have hz : ((l.size : Int) == 0) = true := by rw [beq_iff_eq]; omega
  have HX := hide (show x = [] from by
    rw [show bytes l = [] from List.length_eq_zero_iff.1 (by rw [zah]; exact hl)] at hd
    exact hd.ds.nil_inv.2.1)
  clear hd hl
  go_enter Tryz.func98, Tryz.ntmps98
  go_wp2
  go_ret
  exact ⟨by rw [zaa HX]; rfl, Fr.refl [] w⟩

theorem Dh.zero {L : List Ru} {l w x : List Nat} {n h : Nat} (hd : Dh L l w x n h) (h0 : h = 0) : l = [] := by
  cases hd with
  | nil => rfl
  | small => omega
  | big => omega
theorem r_written0 {pb q off cap : Nat} {rs : List Ru} {T : ByteArray} {gi ci gj cj : Nat} {bI bG : Nat → Nat} {Is : Nat → Nat → Nat → Bool} {Go : Nat → Nat → Bool} : WrOk pb q off cap rs T gi ci gj cj bI bG Is Go 0 := by
  intro l i j x n h w _ _ _ _ _ hd _ hh _
  exact r_written_nil l i j x n h w (by rw [← zah, hd.zero (by omega)]; rfl) hd

set_option maxRecDepth 100000 in
set_option maxHeartbeats 4000000 in
theorem r_written {pb q off cap : Nat} {rs : List Ru} {T : ByteArray} {gi ci gj cj : Nat} {bI bG : Nat → Nat} {Is : Nat → Nat → Nat → Bool} {Go : Nat → Nat → Bool} (hK : PtK q off cap rs T Is Go) {d D : Nat} (hL : LtOk pb q off cap rs T gi ci gj cj bI bG Is Go d) (hD : D = d + 1) (hd200 : D ≤ 1000) : WrOk pb q off cap rs T gi ci gj cj bI bG Is Go D := by
  have key : ∀ (m : Nat) (l : ByteArray) (i j : Nat) (x : List Nat) (n h : Nat) (w : World), l.size = m → PtM w pb q off cap rs T gi ci gj cj bI bG Is Go → l.size ≤ 4 → (∀ k, k < l.size → letB (ch l k) = true) → i ≤ j → j ≤ T.size → Dh (rul rs) (bytes l) (seg (bytes T) i j) x n h → UqL (rul rs) (bytes l) (seg (bytes T) i j) → h ≤ D → x.length ≤ 100000000 →
      Calls Tryz.prog 98 #[.pointer (some ⟨pb, 0, none⟩), .string l, .int .i64 (i : Nat), .int .i64 (j : Nat), .int .i64 (D : Nat)] w fun e w' => e = .returned (.string (bstr x)) ∧ Fr [] w w' := by
    intro m
    induction m with
    | zero =>
      intro l i j x n h w hl _ _ _ _ _ hd _ _ _
      exact r_written_nil l i j x n h w hl hd
    | succ m ih =>
      intro s i j x n h w hs hM hs4 hl hij hj hd hU hh hxl
      have hpos : 0 < s.size := by omega
      have hz : ((s.size : Int) == 0) = false := by rw [beq_eq_false_iff_ne]; omega
      have hz2 : ((D : Int) == 0) = false := by rw [beq_eq_false_iff_ne]; omega
      obtain ⟨r, hr⟩ : ∃ r : ByteArray, s.extract 1 s.size = r := ⟨_, rfl⟩
      have hrs : r.size = m := by rw [← hr, ext1_size]; omega
      have hrl : ∀ k, k < r.size → letB (ch r k) = true := by rw [← hr]; exact ext1_let hl
      have hB : bytes s = ch s 0 :: bytes r := by rw [← hr]; exact bytes_cons1 hpos
      have hl0 := hl 0 hpos
      have hcc : ((s[0]'hpos).toNat : Int) = ((ch s 0 : Nat) : Int) := by rw [za8 s 0 hpos]
      obtain ⟨c, hc⟩ : ∃ c, ch s 0 = c := ⟨_, rfl⟩
      rw [hc] at hl0 hB hcc
      rw [hB] at hd hU
      have hjT : j ≤ (bytes T).length := by rw [zah]; exact hj
      obtain ⟨k0, a1, a2, a3, a4⟩ := rowP_cons.1 (hK.cl.row hK.big hd.ds hij hjT rfl)
      have HA := hide (And.intro a3 a4)
      have HI := hide ih
      have HM := hide hM
      have HX := hide hr
      have HL0 := hide hl0
      have HRL := hide hrl
      have HD := hide hd
      have HU := hide hU
      have HK := hide hK
      have HLt := hide hL
      have hT := hK.hT
      have hs1 : (1 : Int) ≤ s.size := by omega
      have hj13 : (j : Int) ≤ 13 := by omega
      have hDd : (D : Int) - 1 = (d : Int) := by omega
      have hhd : h ≤ d + 1 := by omega
      have hr4 : r.size ≤ 4 := by omega
      clear ih hM hr hl hrl hc hl0 hs hB hd hU hL hK a3 a4 hD
      go_enter Tryz.func98, Tryz.ntmps98
      go_wp2
      go_loop [11, 12, 13] (fun kv _ _ => ∃ k : Nat, i ≤ k ∧ k ≤ k0 ∧ kv = .int .i64 k) (fun kv _ _ => k0 + 1 - (intOf kv).toNat)
      case atStart => exact ⟨i, by omega, by omega, rfl⟩
      case round =>
        obtain ⟨k, h1, h2, rfl⟩ := hrel
        have hkj : k ≤ j := by omega
        cases ho : oneP (bytes T) Is c i k
        · have hne : k + 1 ≤ k0 := by
            rcases Nat.lt_or_ge k k0 with e | e
            · exact e
            · have : k = k0 := by omega
              rw [this, (zaa HA).1] at ho; cases ho
          have HO := hide ho
          clear ho
          go_wp2_with (go_at_call 128; refine (r_one pb q off cap rs T gi ci gj cj bI bG Is Go c i k w (zaa HM) (zaa HL0) h1 (by omega) hT).mono ?_; rintro e w' ⟨rfl, hw'⟩; rw [hw', zaa HO])
          go_round
          case rel => exact ⟨k + 1, by omega, by omega, by go_num⟩
          case measure => simp [intOf]; omega
        · have HO := hide ho
          cases hw : rowP (bytes T) Is (bytes r) k j
          · have hne : k + 1 ≤ k0 := by
              rcases Nat.lt_or_ge k k0 with e | e
              · exact e
              · have : k = k0 := by omega
                rw [this, (zaa HA).2] at hw; cases hw
            have HW := hide hw
            clear ho hw
            go_wp2_with (first
              | (go_at_call 128; refine (r_one pb q off cap rs T gi ci gj cj bI bG Is Go c i k w (zaa HM) (zaa HL0) h1 (by omega) hT).mono ?_; rintro e w' ⟨rfl, hw'⟩; rw [hw', zaa HO])
              | (go_at_call 97; rw [zaa HX]; refine (r_row pb q off cap rs T gi ci gj cj bI bG Is Go w (zaa HM) hT j hj r.size r k rfl (by omega) (zaa HRL) hkj).mono ?_; rintro e w' ⟨rfl, hw'⟩; rw [hw', zaa HW]))
            go_round
            case rel => exact ⟨k + 1, by omega, by omega, by go_num⟩
            case measure => simp [intOf]; omega
          · obtain ⟨x1, n1, x2, n2, e1, d1, d2, u1, u2⟩ := wr_split (zaa HK).big h1 hkj (zaa HD) (zaa HU) ((zaa HK).so.one h1 (by rw [zah]; omega) ho) ((zaa HK).so.row _ hkj hjT hw)
            have hl1 : x1.length ≤ 100000000 := by rw [e1, List.length_append] at hxl; omega
            have hl2 : x2.length ≤ 100000000 := by rw [e1, List.length_append] at hxl; omega
            obtain ⟨s1, hs1'⟩ : ∃ s1, bstr x1 = s1 := ⟨_, rfl⟩
            obtain ⟨s2, hs2'⟩ : ∃ s2, bstr x2 = s2 := ⟨_, rfl⟩
            have hz1 : s1.size ≤ 1000000000 := by rw [← hs1', bstr_size]; omega
            have hz2' : s2.size ≤ 1000000000 := by rw [← hs2', bstr_size]; omega
            have HS1 := hide hs1'
            have HS2 := hide hs2'
            have HE := hide e1
            have HD1 := hide d1
            have HD2 := hide d2
            have HU1 := hide u1
            have HU2 := hide u2
            have HW := hide hw
            clear ho hw e1 d1 d2 u1 u2 hs1' hs2'
            go_wp2_with (first
              | (go_at_call 128; refine (r_one pb q off cap rs T gi ci gj cj bI bG Is Go c i k w (zaa HM) (zaa HL0) h1 (by omega) hT).mono ?_; rintro e w' ⟨rfl, hw'⟩; rw [hw', zaa HO])
              | (go_at_call 97; rw [zaa HX]; refine (r_row pb q off cap rs T gi ci gj cj bI bG Is Go w (zaa HM) hT j hj r.size r k rfl (by omega) (zaa HRL) hkj).mono ?_; rintro e w' ⟨rfl, hw'⟩; rw [hw', zaa HW])
              | (go_at_call 43; refine (zaa HLt c i k x1 n1 h w (zaa HM) (zaa HL0) h1 (by omega) (zaa HD1) (zaa HU1) hhd hl1).mono ?_; rintro e w5 ⟨rfl, hf5⟩; rw [zaa HS1]; have HF5 := hide hf5; clear hf5)
              | (go_at_call 98; rw [zaa HX]; refine (zaa HI r k j x2 n2 h w5 hrs ((zaa HM).fr0 (zaa HF5)) hr4 (zaa HRL) hkj hj (zaa HD2) (zaa HU2) hh hl2).mono ?_; rintro e w6 ⟨rfl, hf6⟩; rw [zaa HS2]; have HF6 := hide ((zaa HF5).trans0 hf6); clear hf6))
            go_ret
            exact ⟨by rw [zaa HE, bstr_app, zaa HS1, zaa HS2]; rfl, zaa HF6⟩
  intro l i j x n h w a b c e f g hh i' j'
  exact key l.size l i j x n h w rfl a b c e f g hh i' j'
theorem r_letters {pb q off cap : Nat} {rs : List Ru} {T : ByteArray} {gi ci gj cj : Nat} {bI bG : Nat → Nat} {Is : Nat → Nat → Nat → Bool} {Go : Nat → Nat → Bool} (hK : PtK q off cap rs T Is Go) : ∀ d, d ≤ 500 → LtOk pb q off cap rs T gi ci gj cj bI bG Is Go d
  | 0, _ => r_letter hK r_written0
  | d + 1, h => r_letter hK (r_written hK (r_letters hK d (by omega)) rfl (by omega))
end Go.Proofs.YtkglggkkbmmjkabGreatDoor

namespace Go.Proofs.YtkglggkkbmmjkabGreatDoor
open Go.RowKit

/-! The reference's table in the making. -/
structure RtS (w wr : World) (mb q cq fq Bs : Nat) (L : List Ru) (N : Nat → Bool) (T : Nat → Nat → Bool) (vS : Value) (ls : List Sl) (vT : Value) (ms : List MSl) (vm : Value) (m : List (Nat × Nat)) : Prop where
  fr : Fr [] w wr
  tb : TB wr mb q cq fq L N T
  sa : SAt wr Bs mb vS ls
  mt : MT wr Bs mb vT ms
  row : wr.ownsRow Bs 186 2 vm m.length (zcq m)
  hq : q < Bs
  hf : fq < Bs
  nq : q ≠ mb
  nf : fq ≠ mb
  bs : Bs ≤ wr.heap.size
  lb : w.heap.size ≤ mb
  dST : ∀ g, vS.ownBlock = some g → vT.ownBlock ≠ some g
  dSm : ∀ g, vS.ownBlock = some g → ∀ x ∈ ms, x.v.ownBlock ≠ some g
  dSv : ∀ g, vS.ownBlock = some g → vm.ownBlock ≠ some g
  dTi : ∀ s ∈ ls, vT.ownBlock ≠ some s.g
  dvi : ∀ s ∈ ls, vm.ownBlock ≠ some s.g
  dvT : ∀ g, vm.ownBlock = some g → vT.ownBlock ≠ some g
  dvm : ∀ g, vm.ownBlock = some g → ∀ x ∈ ms, x.v.ownBlock ≠ some g
  ok : ∀ s ∈ ls, ∀ y ∈ s.l, IOk L y
  cp : L.length ≤ cq
theorem own_cap {w : World} {base e size g m cap n : Nat} {xs : List Value} (h : w.ownsRow base e size (.slice (some ⟨g, 0, none⟩) m cap) n xs) : n ≤ cap := by
  rcases h.2 with ⟨h2, _⟩ | ⟨g', cap', cur, hv, _, _, hle, _⟩
  · cases h2
  · cases hv; exact hle
theorem MT.fr {S : List Nat} {w w' : World} {Bs mb : Nat} {vT : Value} {ms : List MSl} (h : MT w Bs mb vT ms) (k : Fr S w w') (hm : mb ∉ S) (ho : ∀ g, vT.ownBlock = some g → g ∉ S) (hi : ∀ x ∈ ms, ∀ g, x.v.ownBlock = some g → g ∉ S) : MT w' Bs mb vT ms :=
  ⟨k.cell h.cell hm, by rw [k.frozen hm (World.block_lt_of_cell? w ⟨mb, 131, none⟩ h.cell)]; exact h.free, zas h.own k ho, fun x hx => ⟨zas (h.its x hx).1 k (hi x hx), (h.its x hx).2⟩, h.base, h.small⟩
theorem RtS.fr0 {w wr w' : World} {mb q cq fq Bs : Nat} {L : List Ru} {N : Nat → Bool} {T : Nat → Nat → Bool} {vS vT vm : Value} {ls : List Sl} {ms : List MSl} {m : List (Nat × Nat)} (h : RtS w wr mb q cq fq Bs L N T vS ls vT ms vm m) (k : Fr [] wr w') : RtS w w' mb q cq fq Bs L N T vS ls vT ms vm m :=
  { h with fr := h.fr.trans0 k, tb := h.tb.fr0 k, sa := h.sa.fr0 k, mt := h.mt.fr k (by simp) (by simp) (by simp), row := zas h.row k (by simp), bs := Nat.le_trans h.bs k.size }
theorem RtS.new {w wr w1 : World} {mb q cq fq Bs g cap : Nat} {L : List Ru} {N : Nat → Bool} {T : Nat → Nat → Bool} {vS vS' vT vm : Value} {ls : List Sl} {ms : List MSl} {m : List (Nat × Nat)} {l : List It} (h : RtS w wr mb q cq fq Bs L N T vS ls vT ms vm m)
    (k : Fr vS.ownBlock.toList wr w1) (hsa : SAt (w1.setCell ⟨mb, 130, none⟩ vS') Bs mb vS' (ls ++ [⟨g, cap, l⟩])) (hown : ∀ x, vS'.ownBlock = some x → vS.ownBlock = some x ∨ wr.heap.size ≤ x)
    (hgT : vT.ownBlock ≠ some g) (hgv : vm.ownBlock ≠ some g) (hok : ∀ y ∈ l, IOk L y) : RtS w (w1.setCell ⟨mb, 130, none⟩ vS') mb q cq fq Bs L N T vS' (ls ++ [⟨g, cap, l⟩]) vT ms vm m := by
  have hmB := h.sa.base
  have hS : ∀ x, x ∈ vS.ownBlock.toList → Bs ≤ x := fun x hx => (h.sa.own.lt x (by simpa using hx)).1
  have k2 : Fr [mb] w1 (w1.setCell ⟨mb, 130, none⟩ vS') := (Fr.refl [mb] w1).setCell ⟨mb, 130, none⟩ (by simp) vS'
  have hn : ∀ x, x < Bs → x ∉ vS.ownBlock.toList := fun x hx hm => by have := hS x hm; omega
  have hvl : ∀ x, vT.ownBlock = some x → x < wr.heap.size := fun x hx => (h.mt.own.lt x hx).2
  have hml : ∀ x, vm.ownBlock = some x → Bs ≤ x ∧ x < wr.heap.size := fun x hx => h.row.lt x hx
  have hTB : ∀ x, vT.ownBlock = some x → Bs ≤ x := fun x hx => (h.mt.own.lt x hx).1
  have hT1 := h.mt.fr k (hn mb hmB) (fun x hx hm => h.dST x (by simpa using hm) hx) (fun y hy x hx hm => h.dSm x (by simpa using hm) y hy hx)
  refine { h with fr := ?_, tb := ?_, sa := hsa, mt := ?_, row := ?_, bs := Nat.le_trans h.bs (Nat.le_trans k.size k2.size), dST := ?_, dSm := ?_, dSv := ?_, dTi := ?_, dvi := ?_, ok := ?_ }
  · refine (h.fr.trans k (fun x hx => Or.inr ?_)).trans1 k2 (Or.inr h.lb)
    have := hS x hx; have := h.lb; omega
  · exact (h.tb.fr k (hn mb hmB) (hn q h.hq) (hn fq h.hf)).set 130 (by omega) vS' h.nq h.nf
  · refine ⟨?_, ?_, zas hT1.own k2 (fun x hx => by have := hTB x hx; simp; omega), fun y hy => ⟨zas (hT1.its y hy).1 k2 (fun x hx => by have := ((h.mt.its y hy).2.2 x hx).2; simpa using this), (hT1.its y hy).2⟩, h.mt.base, h.mt.small⟩
    · rw [World.cell?_setCell_other _ _ _ _ (by intro e; have := congrArg Addr.off e; simp at this)]; exact hT1.cell
    · simpa using hT1.free
  · exact zas (zas h.row k (fun x hx hm => h.dSv x (by simpa using hm) hx)) k2 (fun x hx => by have := (hml x hx).1; simp; omega)
  · intro x hx e
    rcases hown x hx with h1 | h1
    · exact h.dST x h1 e
    · have := hvl x e; omega
  · intro x hx y hy e
    rcases hown x hx with h1 | h1
    · exact h.dSm x h1 y hy e
    · have := ((h.mt.its y hy).1.lt x e).2; omega
  · intro x hx e
    rcases hown x hx with h1 | h1
    · exact h.dSv x h1 e
    · have := (hml x e).2; omega
  · intro s hs
    rcases List.mem_append.1 hs with hs | hs
    · exact h.dTi s hs
    · rw [List.mem_singleton.1 hs]; exact hgT
  · intro s hs
    rcases List.mem_append.1 hs with hs | hs
    · exact h.dvi s hs
    · rw [List.mem_singleton.1 hs]; exact hgv
  · intro s hs
    rcases List.mem_append.1 hs with hs | hs
    · exact h.ok s hs
    · rw [List.mem_singleton.1 hs]; exact hok
theorem grown_fr {wr w' : World} {o : Obj} {row : Option Nat} (h : (wr.alloc o).grownBy w' row) : Fr row.toList wr w' :=
  Fr.of_grown ((Fr.refl row.toList wr).alloc o) h (fun k hk => Or.inl (by rw [hk]; simp))
theorem RtS.push {w wr w' : World} {o : Obj} {mb q cq fq Bs g cap c j : Nat} {L : List Ru} {N : Nat → Bool} {T : Nat → Nat → Bool} {vS vT vm : Value} {ls : List Sl} {ms : List MSl} {m : List (Nat × Nat)} (h : RtS w wr mb q cq fq Bs L N T vS ls vT ms vm m)
    (hgrow : (wr.alloc o).grownBy w' vm.ownBlock) (hown : w'.ownsRow Bs 186 2 (.slice (some ⟨g, 0, none⟩) (m.length + 1) cap) (m.length + 1) (zcq m ++ [.int .u8 c, .int .i64 j])) (hat : vm.ownBlock = some g ∨ wr.heap.size ≤ g) :
    RtS w w' mb q cq fq Bs L N T vS ls vT ms (.slice (some ⟨g, 0, none⟩) (m.length + 1) cap) (m ++ [(c, j)]) := by
  have hmB := h.sa.base
  have k := grown_fr hgrow
  have hS : ∀ x, x ∈ vm.ownBlock.toList → Bs ≤ x := fun x hx => (h.row.lt x (by simpa using hx)).1
  have hn : ∀ x, x < Bs → x ∉ vm.ownBlock.toList := fun x hx hm => by have := hS x hm; omega
  have hSl : ∀ x, vS.ownBlock = some x → x < wr.heap.size := fun x hx => (h.sa.own.lt x hx).2
  have hTl : ∀ x, vT.ownBlock = some x → x < wr.heap.size := fun x hx => (h.mt.own.lt x hx).2
  have hgo : ∀ x, (Value.slice (some ⟨g, 0, none⟩) (m.length + 1) cap).ownBlock = some x → g = x := fun x hx => by simpa [Value.ownBlock] using hx
  refine { h with fr := ?_, tb := h.tb.fr k (hn mb hmB) (hn q h.hq) (hn fq h.hf), sa := h.sa.fr k (hn mb hmB) (fun x hx hm => h.dSv x hx (by simpa using hm)) (fun s hs hm => h.dvi s hs (by simpa using hm)), mt := h.mt.fr k (hn mb hmB) (fun x hx hm => h.dvT x (by simpa using hm) hx) (fun y hy x hx hm => h.dvm x (by simpa using hm) y hy hx), row := ?_, bs := Nat.le_trans h.bs k.size, dSv := ?_, dvi := ?_, dvT := ?_, dvm := ?_ }
  · refine h.fr.trans k (fun x hx => Or.inr ?_)
    have := hS x hx; have := h.lb; omega
  · rw [List.length_append, show zcq (m ++ [(c, j)]) = zcq m ++ [.int .u8 c, .int .i64 j] from by simp [zcq]]; exact hown
  · intro x hx e
    have e := hgo x e
    rcases hat with h1 | h1
    · exact h.dSv x hx (by rw [h1, e])
    · have := hSl x hx; omega
  · intro s hs e
    have e := hgo _ e
    rcases hat with h1 | h1
    · exact h.dvi s hs (by rw [h1, e])
    · have := (h.sa.its s hs).2.1; omega
  · intro x hx e
    have e2 := hgo x hx
    rcases hat with h1 | h1
    · exact h.dvT x (by rw [h1, e2]) e
    · have := hTl x e; omega
  · intro x hx y hy e
    have e2 := hgo x hx
    rcases hat with h1 | h1
    · exact h.dvm x (by rw [h1, e2]) y hy e
    · have := ((h.mt.its y hy).1.lt x e).2; omega
theorem ownsRow_base {w : World} {B : Nat} {e : TypeId} {size : Nat} {v : Value} {n : Nat} {xs : List Value} (h : w.ownsRow B e size v n xs) : w.ownsRow 0 e size v n xs := by
  obtain ⟨h1, h2⟩ := h
  refine ⟨h1, ?_⟩
  rcases h2 with h2 | ⟨g, cap, cur, a, _, b⟩
  · exact Or.inl h2
  · exact Or.inr ⟨g, cap, cur, a, Nat.zero_le _, b⟩
theorem RtS.lay {w wr w1 : World} {o : Obj} {mb q cq fq Bs g cap : Nat} {L : List Ru} {N : Nat → Bool} {T : Nat → Nat → Bool} {vS vT vm : Value} {ls : List Sl} {ms : List MSl} {m : List (Nat × Nat)} (h : RtS w wr mb q cq fq Bs L N T vS ls vT ms vm m)
    (hgrow : (wr.alloc o).grownBy w1 vT.ownBlock) (hown : w1.ownsRow Bs 183 1 (.slice (some ⟨g, 0, none⟩) (ms.length + 1) cap) (ms.length + 1) (ms.map (·.v) ++ [vm])) (hat : vT.ownBlock = some g ∨ wr.heap.size ≤ g) (hm : m.length ≤ 100) (hms : ms.length ≤ 49) :
    RtS w (w1.setCell ⟨mb, 131, none⟩ (.slice (some ⟨g, 0, none⟩) (ms.length + 1) cap)) mb q cq fq Bs L N T vS ls (.slice (some ⟨g, 0, none⟩) (ms.length + 1) cap) (ms ++ [⟨vm, m⟩]) (.slice none 0 0) [] := by
  have hmB := h.sa.base
  have k := grown_fr hgrow
  have hTB : ∀ x, x ∈ vT.ownBlock.toList → Bs ≤ x := fun x hx => (h.mt.own.lt x (by simpa using hx)).1
  have hn : ∀ x, x < Bs → x ∉ vT.ownBlock.toList := fun x hx hm => by have := hTB x hm; omega
  have hSl : ∀ x, vS.ownBlock = some x → Bs ≤ x ∧ x < wr.heap.size := fun x hx => h.sa.own.lt x hx
  have hvl : ∀ x, vm.ownBlock = some x → Bs ≤ x ∧ x < wr.heap.size := fun x hx => h.row.lt x hx
  have hgB : Bs ≤ g := (hown.lt g rfl).1
  have hgo : ∀ x, (Value.slice (some ⟨g, 0, none⟩) (ms.length + 1) cap).ownBlock = some x → g = x := fun x hx => by simpa [Value.ownBlock] using hx
  have k2 : Fr [mb] w1 (w1.setCell ⟨mb, 131, none⟩ (.slice (some ⟨g, 0, none⟩) (ms.length + 1) cap)) := (Fr.refl [mb] w1).setCell ⟨mb, 131, none⟩ (by simp) _
  have hsa1 := h.sa.fr k (hn mb hmB) (fun x hx hm => h.dST x hx (by simpa using hm)) (fun s hs hm => h.dTi s hs (by simpa using hm))
  have hc1 : w1.cell? ⟨mb, 131, none⟩ = some vT := k.cell h.mt.cell (hn mb hmB)
  have hf1 : w1.frozen? ⟨mb, 131, none⟩ = false := by rw [k.frozen (hn mb hmB) (World.block_lt_of_cell? wr ⟨mb, 131, none⟩ h.mt.cell)]; exact h.mt.free
  refine { h with fr := ?_, tb := ?_, sa := ?_, mt := ?_, row := World.ownsRow_nil _ _ _ _, bs := Nat.le_trans h.bs (Nat.le_trans k.size k2.size), dST := ?_, dSm := ?_, dSv := (fun _ _ e => by cases e), dTi := ?_, dvi := (fun _ _ e => by cases e), dvT := (fun _ e => by cases e), dvm := (fun _ e => by cases e) }
  · refine (h.fr.trans k (fun x hx => Or.inr ?_)).trans1 k2 (Or.inr h.lb)
    have := hTB x hx; have := h.lb; omega
  · exact (h.tb.fr k (hn mb hmB) (hn q h.hq) (hn fq h.hf)).set 131 (by omega) _ h.nq h.nf
  · refine ⟨?_, ?_, zas hsa1.own k2 (fun x hx => by have := (hSl x hx).1; simp; omega), fun s hs => ⟨(hsa1.its s hs).1.fr k2 (by have := (hsa1.its s hs).2.2.2.2; simpa using this), Nat.lt_of_lt_of_le (hsa1.its s hs).2.1 k2.size, (hsa1.its s hs).2.2⟩, h.sa.base, h.sa.small⟩
    · rw [World.cell?_setCell_other _ _ _ _ (by intro e; have := congrArg Addr.off e; simp at this)]; exact hsa1.cell
    · simpa using hsa1.free
  · refine ⟨World.cell?_setCell_same _ _ _ hc1, by simpa using hf1, ?_, fun y hy => ?_, h.mt.base, by rw [List.length_append]; simp; omega⟩
    · rw [List.length_append, List.map_append]
      exact zas hown k2 (fun x hx => by have := hgo x hx; simp; omega)
    · rcases List.mem_append.1 hy with hy | hy
      · obtain ⟨a1, a2, a3⟩ := h.mt.its y hy
        refine ⟨zas (zas a1 k (fun x hx hm => (a3 x hx).1 (by simpa using hm))) k2 (fun x hx => by have := (a3 x hx).2; simpa using this), a2, fun x hx => ⟨fun e => ?_, (a3 x hx).2⟩⟩
        have e2 := hgo x e
        rcases hat with h1 | h1
        · exact (a3 x hx).1 (by rw [h1, e2])
        · have := (a1.lt x hx).2; omega
      · rw [List.mem_singleton.1 hy]
        refine ⟨ownsRow_base (zas (zas h.row k (fun x hx hm => h.dvT x hx (by simpa using hm))) k2 (fun x hx => by have := (hvl x hx).1; simp; omega)), hm, fun x hx => ⟨fun e => ?_, ?_⟩⟩
        · have e2 := hgo x e
          rcases hat with h1 | h1
          · exact h.dvT x hx (by rw [h1, e2])
          · have := (hvl x hx).2; omega
        · have := (hvl x hx).1; omega
  · intro x hx e
    have e2 := hgo x e
    rcases hat with h1 | h1
    · exact h.dST x hx (by rw [h1, e2])
    · have := (hSl x hx).2; omega
  · intro x hx y hy e
    rcases List.mem_append.1 hy with hy | hy
    · exact h.dSm x hx y hy e
    · rw [List.mem_singleton.1 hy] at e; exact h.dSv x hx e
  · intro s hs e
    have e2 := hgo _ e
    rcases hat with h1 | h1
    · exact h.dTi s hs (by rw [h1, e2])
    · have := (h.sa.its s hs).2.1; omega
end Go.Proofs.YtkglggkkbmmjkabGreatDoor

namespace Go.Proofs.YtkglggkkbmmjkabGreatDoor
open Go.RowKit

theorem rowM_app (st : Nat → List It) : ∀ (cs ds : List Nat) (S : List (List It)) (m : List (Nat × Nat)), rowM st (cs ++ ds) S m = (rowM st cs S m).bind fun r => rowM st ds r.1 r.2
  | [], ds, S, m => by simp [rowM]
  | c :: cs, ds, S, m => by
    rw [List.cons_append, rowM, rowM]
    split
    · exact rowM_app st cs ds S m
    · split
      · rfl
      · exact rowM_app st cs ds _ _
theorem range_snoc (k : Nat) : List.range' 65 (k + 1) = List.range' 65 k ++ [65 + k] := by
  rw [List.range'_concat]; simp
theorem rowM_snoc {st : Nat → List It} {k : Nat} {S S' : List (List It)} {m : List (Nat × Nat)} (h : rowM st (List.range' 65 k) S [] = some (S', m)) :
    rowM st (List.range' 65 (k + 1)) S [] = if (st (65 + k)).length = 0 then some (S', m) else if 40 < (numM S' (st (65 + k))).1.length then none else some ((numM S' (st (65 + k))).1, m ++ [(65 + k, (numM S' (st (65 + k))).2)]) := by
  rw [range_snoc, rowM_app, h]
  show rowM st [65 + k] S' m = _
  rw [rowM]
  split
  · rfl
  · split
    · rfl
    · rfl
theorem rowM_stays {st : Nat → List It} {S : List (List It)} {k : Nat} (h : rowM st (List.range' 65 k) S [] = none) : ∀ d, rowM st (List.range' 65 (k + d)) S [] = none
  | 0 => h
  | d + 1 => by
    rw [← Nat.add_assoc, range_snoc, rowM_app, rowM_stays h d]; rfl
theorem numM_numI {ls : List Sl} {L : List It} : numM (ls.map (·.l)) L = match numI ls L with
  | some i => (ls.map (·.l), i)
  | none => (ls.map (·.l) ++ [L], ls.length) := by
  unfold numM numI
  rw [List.findIdx?_map]
  show (match ls.findIdx? (fun s => eqL s.l L) with | some i => _ | none => _) = _
  cases ls.findIdx? (fun s => eqL s.l L) with
  | some i => rfl
  | none => simp
theorem tabM_end {rs : List Ru} {N : Nat → Bool} {T : Nat → Nat → Bool} {f i : Nat} {S : List (List It)} {M : List (List (Nat × Nat))} (hi : S.length ≤ i) : tabM rs N T f i S M = some (S, M) := by
  cases f with
  | zero => rfl
  | succ f => rw [tabM, dif_neg (by omega)]
theorem tabM_go {rs : List Ru} {N : Nat → Bool} {T : Nat → Nat → Bool} {f i : Nat} {S S' : List (List It)} {M : List (List (Nat × Nat))} {m : List (Nat × Nat)} (hi : i < S.length) {l : List It} (hl : S[i] = l) (h : rowM (zci rs N T l) (List.range' 65 58) S [] = some (S', m)) :
    tabM rs N T (f + 1) i S M = tabM rs N T f (i + 1) S' (M ++ [m]) := by
  rw [tabM, dif_pos hi, hl, h]
theorem tabM_many {rs : List Ru} {N : Nat → Bool} {T : Nat → Nat → Bool} {f i : Nat} {S : List (List It)} {M : List (List (Nat × Nat))} (hi : i < S.length) {l : List It} (hl : S[i] = l) (h : rowM (zci rs N T l) (List.range' 65 58) S [] = none) :
    tabM rs N T (f + 1) i S M = none := by
  rw [tabM, dif_pos hi, hl, h]

theorem zcb {w : World} {B : Nat} {e : TypeId} {size : Nat} {v : Value} {n : Nat} {xs : List Value} (h : w.ownsRow B e size v n xs) (hn : 0 < n) : ∃ g c, v = .slice (some ⟨g, 0, none⟩) n c := by
  rcases h.2 with ⟨_, h2⟩ | ⟨g, cap, cur, rfl, _⟩
  · omega
  · exact ⟨g, cap, rfl⟩
structure RowS (w wr : World) (mb q cq fq Bs : Nat) (L : List Ru) (N : Nat → Bool) (T : Nat → Nat → Bool) (l : List It) (ls0 : List Sl) (vT : Value) (ms : List MSl) (k : Nat) (vS : Value) (ls : List Sl) (vm : Value) (m : List (Nat × Nat)) : Prop where
  rt : RtS w wr mb q cq fq Bs L N T vS ls vT ms vm m
  ext : ∃ e, ls = ls0 ++ e
  ml : m.length ≤ k
  row : rowM (zci L N T l) (List.range' 65 k) (ls0.map (·.l)) [] = some (ls.map (·.l), m)
theorem RowS.fr0 {w wr w' : World} {mb q cq fq Bs : Nat} {L : List Ru} {N : Nat → Bool} {T : Nat → Nat → Bool} {l : List It} {ls0 : List Sl} {vT : Value} {ms : List MSl} {k : Nat} {vS : Value} {ls : List Sl} {vm : Value} {m : List (Nat × Nat)} (h : RowS w wr mb q cq fq Bs L N T l ls0 vT ms k vS ls vm m) (f : Fr [] wr w') : RowS w w' mb q cq fq Bs L N T l ls0 vT ms k vS ls vm m := { h with rt := h.rt.fr0 f }
theorem RowS.skip {w wr w' : World} {mb q cq fq Bs : Nat} {L : List Ru} {N : Nat → Bool} {T : Nat → Nat → Bool} {l K : List It} {ls0 : List Sl} {vT : Value} {ms : List MSl} {k : Nat} {vS : Value} {ls : List Sl} {vm : Value} {m : List (Nat × Nat)} (h : RowS w wr mb q cq fq Bs L N T l ls0 vT ms k vS ls vm m) (f : Fr [] wr w')
    (hk : zb2 L (65 + k) l K) (hF : zb9 L N T K []) : RowS w w' mb q cq fq Bs L N T l ls0 vT ms (k + 1) vS ls vm m :=
  { rt := h.rt.fr0 f, ext := h.ext, ml := Nat.le_succ_of_le h.ml, row := by rw [rowM_snoc h.row, stepM_eq hk hF, if_pos (by simp)] }
theorem RowS.old {w wr w' : World} {mb q cq fq Bs : Nat} {L : List Ru} {N : Nat → Bool} {T : Nat → Nat → Bool} {l K F : List It} {ls0 : List Sl} {vT : Value} {ms : List MSl} {k : Nat} {vS : Value} {ls : List Sl} {vm : Value} {m : List (Nat × Nat)} (h : RowS w wr mb q cq fq Bs L N T l ls0 vT ms k vS ls vm m)
    (hk : zb2 L (65 + k) l K) (hF : zb9 L N T K F) (hne : F.length ≠ 0) (h40 : ls.length ≤ 40) {j : Nat} (hj : numI ls F = some j) {vm' : Value} (hr : RtS w w' mb q cq fq Bs L N T vS ls vT ms vm' (m ++ [(65 + k, j)])) : RowS w w' mb q cq fq Bs L N T l ls0 vT ms (k + 1) vS ls vm' (m ++ [(65 + k, j)]) :=
  { rt := hr, ext := h.ext, ml := by have := h.ml; simp; omega, row := by
      rw [rowM_snoc h.row, stepM_eq hk hF, if_neg hne, numM_numI, hj, if_neg (by show ¬ 40 < (ls.map (·.l)).length; rw [List.length_map]; omega)] }
theorem RowS.new {w wr w' : World} {mb q cq fq Bs g cap : Nat} {L : List Ru} {N : Nat → Bool} {T : Nat → Nat → Bool} {l K F : List It} {ls0 : List Sl} {vT : Value} {ms : List MSl} {k : Nat} {vS vS' : Value} {ls : List Sl} {vm : Value} {m : List (Nat × Nat)} (h : RowS w wr mb q cq fq Bs L N T l ls0 vT ms k vS ls vm m)
    (hk : zb2 L (65 + k) l K) (hF : zb9 L N T K F) (hne : F.length ≠ 0) (h40 : ls.length + 1 ≤ 40) (hj : numI ls F = none) {vm' : Value} (hr : RtS w w' mb q cq fq Bs L N T vS' (ls ++ [⟨g, cap, F⟩]) vT ms vm' (m ++ [(65 + k, ls.length)])) : RowS w w' mb q cq fq Bs L N T l ls0 vT ms (k + 1) vS' (ls ++ [⟨g, cap, F⟩]) vm' (m ++ [(65 + k, ls.length)]) :=
  { rt := hr, ext := by obtain ⟨e, rfl⟩ := h.ext; exact ⟨e ++ [⟨g, cap, F⟩], by simp⟩, ml := by have := h.ml; simp; omega, row := by
      rw [rowM_snoc h.row, stepM_eq hk hF, if_neg hne, numM_numI, hj, if_neg (by show ¬ 40 < (ls.map (·.l) ++ [F]).length; rw [List.length_append, List.length_map]; simp; omega), List.map_append]; rfl }
theorem RowS.many {w wr : World} {mb q cq fq Bs : Nat} {L : List Ru} {N : Nat → Bool} {T : Nat → Nat → Bool} {l K F : List It} {ls0 : List Sl} {vT : Value} {ms : List MSl} {k : Nat} {vS : Value} {ls : List Sl} {vm : Value} {m : List (Nat × Nat)} (h : RowS w wr mb q cq fq Bs L N T l ls0 vT ms k vS ls vm m)
    (hk : zb2 L (65 + k) l K) (hF : zb9 L N T K F) (hne : F.length ≠ 0) (h40 : 40 ≤ ls.length) (hj : numI ls F = none) (hk58 : k < 58) : rowM (zci L N T l) (List.range' 65 58) (ls0.map (·.l)) [] = none := by
  have := rowM_stays (st := zci L N T l) (S := ls0.map (·.l)) (k := k + 1) (by
    rw [rowM_snoc h.row, stepM_eq hk hF, if_neg hne, numM_numI, hj, if_pos (by show 40 < (ls.map (·.l) ++ [F]).length; rw [List.length_append, List.length_map]; simp; omega)]) (57 - k)
  rw [show k + 1 + (57 - k) = 58 from by omega] at this
  exact this

structure AllS (w wr : World) (mb q cq fq Bs : Nat) (L : List Ru) (N : Nat → Bool) (T : Nat → Nat → Bool) (i : Nat) (vS : Value) (ls : List Sl) (vT : Value) (ms : List MSl) : Prop where
  rt : RtS w wr mb q cq fq Bs L N T vS ls vT ms (.slice none 0 0) []
  le : i ≤ ls.length
  l40 : ls.length ≤ 40
  pos : 0 < ls.length
  len : ms.length = i
  tab : tabM L N T 41 0 [zby L N T] [] = tabM L N T (41 - i) i (ls.map (·.l)) (ms.map (·.m))
theorem AllS.row {w wr : World} {mb q cq fq Bs : Nat} {L : List Ru} {N : Nat → Bool} {T : Nat → Nat → Bool} {i : Nat} {vS : Value} {ls : List Sl} {vT : Value} {ms : List MSl} (h : AllS w wr mb q cq fq Bs L N T i vS ls vT ms) (l : List It) : RowS w wr mb q cq fq Bs L N T l ls vT ms 0 vS ls (.slice none 0 0) [] :=
  { rt := h.rt, ext := ⟨[], by simp⟩, ml := Nat.le_refl _, row := rfl }
theorem AllS.end_ {w wr : World} {mb q cq fq Bs : Nat} {L : List Ru} {N : Nat → Bool} {T : Nat → Nat → Bool} {i : Nat} {vS : Value} {ls : List Sl} {vT : Value} {ms : List MSl} (h : AllS w wr mb q cq fq Bs L N T i vS ls vT ms) (hi : ¬ i < ls.length) : tabM L N T 41 0 [zby L N T] [] = some (ls.map (·.l), ms.map (·.m)) := by
  rw [h.tab, tabM_end (by rw [List.length_map]; omega)]
theorem AllS.many {w wr : World} {mb q cq fq Bs : Nat} {L : List Ru} {N : Nat → Bool} {T : Nat → Nat → Bool} {i : Nat} {vS : Value} {ls : List Sl} {vT : Value} {ms : List MSl} (h : AllS w wr mb q cq fq Bs L N T i vS ls vT ms) (hi : i < ls.length)
    (hr : rowM (zci L N T ls[i].l) (List.range' 65 58) (ls.map (·.l)) [] = none) : tabM L N T 41 0 [zby L N T] [] = none := by
  have := h.l40
  rw [h.tab, show 41 - i = (40 - i) + 1 from by omega]
  exact tabM_many (by rw [List.length_map]; exact hi) (by simp) hr
theorem AllS.next {w wr w' : World} {mb q cq fq Bs : Nat} {L : List Ru} {N : Nat → Bool} {T : Nat → Nat → Bool} {i : Nat} {vS vS' vT vT' vm : Value} {ls ls' : List Sl} {ms : List MSl} {m : List (Nat × Nat)} (h : AllS w wr mb q cq fq Bs L N T i vS ls vT ms) (hi : i < ls.length) {wx : World}
    (hr : RowS w wx mb q cq fq Bs L N T ls[i].l ls vT ms 58 vS' ls' vm m) (h40 : ls'.length ≤ 40) (hrt : RtS w w' mb q cq fq Bs L N T vS' ls' vT' (ms ++ [⟨vm, m⟩]) (.slice none 0 0) []) : AllS w w' mb q cq fq Bs L N T (i + 1) vS' ls' vT' (ms ++ [⟨vm, m⟩]) := by
  have hl := h.l40
  refine ⟨hrt, ?_, h40, ?_, by simp [h.len], ?_⟩
  · obtain ⟨e, rfl⟩ := hr.ext; simp; omega
  · obtain ⟨e, rfl⟩ := hr.ext; simp; omega
  · rw [h.tab, show 41 - i = (41 - (i + 1)) + 1 from by omega, tabM_go (by rw [List.length_map]; exact hi) (by simp) hr.row, List.map_append]
    rfl
end Go.Proofs.YtkglggkkbmmjkabGreatDoor
