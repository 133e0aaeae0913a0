import Derived.Test.YtkglggkkbmmjkaaGreatDoorG33PActs3
namespace Go.Proofs.YtkglggkkbmmjkaaGreatDoor
open Go.RowKit

def TErr (t : ByteArray) (x : Nat) : Prop := ((gErr t).1 ≠ 0 ∧ x = (gErr t).1) ∨ ((gErr t).1 = 0 ∧ ∃ n S c, StatesR (plT t) n S c x)
def TGood (t : ByteArray) (S : List Sd) (c : Nat) : Prop := (gErr t).1 = 0 ∧ StatesR (plT t) S.length S c 0 ∧ S.length ≤ 40 ∧ c ≤ S.length
theorem TabOut.parts {t : ByteArray} {w w' : World} {f : Nat → Value} (h : TabOut t w w' f) : ∃ (x : Nat) (ao : Option Addr) (l cap : Nat), f 1361 = .int .i64 (x : Nat) ∧ f 1359 = .slice ao l cap ∧ (x ≠ 0 → TErr t x) ∧ (x = 0 → ∃ S c base, TGood t S c ∧ l = S.length ∧ (∀ i, i < 1362 → f i = tbF (plT t) (.slice ao l cap) c 0 i) ∧ GRow w' base 147 1268 (.slice ao l cap) S.length (rwF S)) := by
  by_cases h0 : (gErr t).1 = 0
  · obtain ⟨n, v, S, c, fl, base, h1, h2, h3, h4, h5, h6, h7⟩ := h.2.2.2 h0
    obtain ⟨ao, cap, hv⟩ : ∃ ao cap, v = .slice ao S.length cap := by
      obtain ⟨_, k2⟩ := h6
      rcases k2 with ⟨rfl, k2⟩ | ⟨g', cap', cur, rfl, _⟩
      · exact ⟨none, 0, by rw [k2]⟩
      · exact ⟨_, cap', rfl⟩
    subst hv
    refine ⟨fl, ao, S.length, cap, by rw [h1 1361 (by omega)]; rfl, by rw [h1 1359 (by omega)]; rfl, fun hx => Or.inr ⟨h0, n, S, c, h2⟩, fun hx => ?_⟩
    subst hx
    exact ⟨S, c, base, ⟨h0, h3 rfl ▸ h2, h4, h5⟩, rfl, h1, h6⟩
  · exact ⟨(gErr t).1, none, 0, 0, (h.2.2.1 h0).1, (h.2.2.1 h0).2, fun _ => Or.inl ⟨h0, rfl⟩, fun hx => absurd hx h0⟩
theorem TabOut.lay {t : ByteArray} {w1 w2 w3 : World} {f z : Nat → Value} {v : Value} {S : List Sd} {c base : Nat} (hf : ∀ i, i < 1362 → f i = tbF (plT t) v c 0 i) (hr : GRow w1 base 147 1268 v S.length (rwF S)) (hf2 : Fr [] w1 w2) (hf3 : Fr [w1.heap.size] w2 w3) (hB : Blk w3 w1.heap.size 1362 (lay z 0 1362 f)) : TbR w3 w1.heap.size base (plT t) v S c 0 :=
  ⟨hB.congr fun i hi => (zak _ _ _ i hi).trans (hf i hi), (hr.fr hf2 (by simp)).fr hf3 (fun g hg => by have := (hr.lt hg).2; simp; omega)⟩

end Go.Proofs.YtkglggkkbmmjkaaGreatDoor

namespace Go.Proofs.YtkglggkkbmmjkaaGreatDoor
open Go.RowKit

end Go.Proofs.YtkglggkkbmmjkaaGreatDoor

namespace Go.Proofs.YtkglggkkbmmjkaaGreatDoor
open Go.RowKit

end Go.Proofs.YtkglggkkbmmjkaaGreatDoor
