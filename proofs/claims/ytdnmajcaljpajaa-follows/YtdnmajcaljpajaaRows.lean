/-
  No cell of these rows narrows 'for every input' (looked for: loops, veiled, ifaces, maps, wideKeys, modest, calm, conditions, laid).
  DERIVED. THE GIVEN ROWS OF THIS SEAT. 4 by the template 'for every input the law returns true; each argument reads behind the call as it read before'; 0 by the template 'total and deterministic' (their statements: YtdnmajcaljpajaaTotals.lean).
  GIVEN WITH THE SEED: the statements are not yours to turn. If you find one false, say at which input.
  Laid BY PROGRAM, IN A SANDBOX (cutbox-rows.mjs): the forced cells as the released guide's own fill.sh prints them over the translation d28a324b01cd9fd4… (all of the seat's roots in one cut). By AI agents, Wed Nov 11 2026. No macro, syntax, notation, axiom, sorry.
-/
import Derived.Test.YtdnmajcaljpajaaChecked
import GoSem.Claim
import GoSem.ClaimJoined
import GoSem.ClaimMapViews
import Derived.JoinedTies
import Derived.KernelRfl
namespace Go.Proofs.Ytdnmajcaljpajaa
/- THE CELL 'sum', in the pinned program and in every row, IS THE sha256 OF THE DUMP (.gsa) THAT YtdnmajcaljpajaaProg.lean LOADS. Nothing in Lean hashes anything: it is a label: what it is worth is what the hold of that sum in a sandbox is worth. -/
noncomputable def Try.pinned : Pinned := { name := "ytdnmajcaljpajaa", sum := "d28a324b01cd9fd4b021ff4f411a613734731a01a08ef30f07fc4c627bd69bb4", checked := Try.checked }
namespace Rows
def none {H : Type} : Left H := { results := [], args := [] }

/-- 'lrgenlaw.Checks': WHATEVER THE INPUT: true; the input reads as it did. -/
def checksSpec : ChangeSpec := { name := "checks", fn := fun _ => fun
  | [d] => { results := [.lit (.bool true)], args := [d] }
  | _ => none }
def checksRow : OpenClaim := { program := "ytdnmajcaljpajaa", sum := "d28a324b01cd9fd4b021ff4f411a613734731a01a08ef30f07fc4c627bd69bb4", func := "lrgen/lrgenlaw.Checks", spec := "checks", recurses := true, apart := false }
def ChecksSaid : Prop := checksRow.holds Try.pinned (OpenSpec.ofChange checksSpec)

/-- ITS FALSE NEIGHBOUR: 'it returns false'. Refute it at one input. -/
def checksWrong : ChangeSpec := { name := "checks", fn := fun _ => fun
  | [d] => { results := [.lit (.bool false)], args := [d] }
  | _ => none }
def ChecksWrongFalsely : Prop := checksRow.holds Try.pinned (OpenSpec.ofChange checksWrong)

/-- 'lrgenlaw.Firsts': WHATEVER THE INPUT: true; the input reads as it did. -/
def firstsSpec : ChangeSpec := { name := "firsts", fn := fun _ => fun
  | [d] => { results := [.lit (.bool true)], args := [d] }
  | _ => none }
def firstsRow : OpenClaim := { program := "ytdnmajcaljpajaa", sum := "d28a324b01cd9fd4b021ff4f411a613734731a01a08ef30f07fc4c627bd69bb4", func := "lrgen/lrgenlaw.Firsts", spec := "firsts", recurses := true, apart := false }
def FirstsSaid : Prop := firstsRow.holds Try.pinned (OpenSpec.ofChange firstsSpec)

/-- ITS FALSE NEIGHBOUR: 'it returns false'. Refute it at one input. -/
def firstsWrong : ChangeSpec := { name := "firsts", fn := fun _ => fun
  | [d] => { results := [.lit (.bool false)], args := [d] }
  | _ => none }
def FirstsWrongFalsely : Prop := firstsRow.holds Try.pinned (OpenSpec.ofChange firstsWrong)

/-- 'lrgenlaw.Parts': WHATEVER THE INPUT: true; the input reads as it did. -/
def partsSpec : ChangeSpec := { name := "parts", fn := fun _ => fun
  | [d] => { results := [.lit (.bool true)], args := [d] }
  | _ => none }
def partsRow : OpenClaim := { program := "ytdnmajcaljpajaa", sum := "d28a324b01cd9fd4b021ff4f411a613734731a01a08ef30f07fc4c627bd69bb4", func := "lrgen/lrgenlaw.Parts", spec := "parts", apart := false }
def PartsSaid : Prop := partsRow.holds Try.pinned (OpenSpec.ofChange partsSpec)

/-- ITS FALSE NEIGHBOUR: 'it returns false'. Refute it at one input. -/
def partsWrong : ChangeSpec := { name := "parts", fn := fun _ => fun
  | [d] => { results := [.lit (.bool false)], args := [d] }
  | _ => none }
def PartsWrongFalsely : Prop := partsRow.holds Try.pinned (OpenSpec.ofChange partsWrong)

/-- 'lrgenlaw.Follows': WHATEVER THE INPUT: true; the input reads as it did. -/
def followsSpec : ChangeSpec := { name := "follows", fn := fun _ => fun
  | [d] => { results := [.lit (.bool true)], args := [d] }
  | _ => none }
def followsRow : OpenClaim := { program := "ytdnmajcaljpajaa", sum := "d28a324b01cd9fd4b021ff4f411a613734731a01a08ef30f07fc4c627bd69bb4", func := "lrgen/lrgenlaw.Follows", spec := "follows", recurses := true, apart := false }
def FollowsSaid : Prop := followsRow.holds Try.pinned (OpenSpec.ofChange followsSpec)

/-- ITS FALSE NEIGHBOUR: 'it returns false'. Refute it at one input. -/
def followsWrong : ChangeSpec := { name := "follows", fn := fun _ => fun
  | [d] => { results := [.lit (.bool false)], args := [d] }
  | _ => none }
def FollowsWrongFalsely : Prop := followsRow.holds Try.pinned (OpenSpec.ofChange followsWrong)

/- THE SECOND FORM. 'bulk': how many values and letters a reading holds, each counted each time it is reached (what is shared counts as often as it is met; a slice's spare places count too). A statement '..UptoSaid' is the law's where the arguments, and the package variables that the reading takes, are together of bulk at most 1048576: NARROWER than '..Said'. Prove '..Said' where nothing that the law and all that it calls make is longer than what came in: it says more and counts as full. Else prove '..UptoSaid'. A law counts once. -/
mutual
def uptoBulk {H : Type} : DataW H → Nat
  | .lit (.string bytes) => bytes.length + 1
  | .lit _ => 1
  | .nil => 1
  | .ptr d => uptoBulk d + 1
  | .slice elems spare => uptoBulkAll elems + uptoBulkAll spare + 1
  | .agg parts => uptoBulkAll parts + 1
  | .iface _ d => uptoBulk d + 1
  | .map entries => uptoBulkEntries entries + 1
  | .held _ => 1
def uptoBulkAll {H : Type} : List (DataW H) → Nat
  | [] => 0
  | d :: r => uptoBulk d + uptoBulkAll r
def uptoBulkEntries {H : Type} : List (Lit × DataW H) → Nat
  | [] => 0
  | x :: r => uptoBulkEntry x + uptoBulkEntries r
def uptoBulkEntry {H : Type} : Lit × DataW H → Nat
  | (.string bytes, d) => bytes.length + uptoBulk d + 1
  | (_, d) => uptoBulk d + 1
 end
def uptoSmall : (H : Type) → List (DataW H) → Bool := fun _ ds => decide (uptoBulkAll ds ≤ 1048576)
def OpenSpec.upto (s : _root_.Go.ChangeSpec) : _root_.Go.OpenSpec := { _root_.Go.OpenSpec.ofChange s with cond := some uptoSmall }

/-- 'lrgenlaw.Checks', WHERE WHAT IT READS IS OF BULK AT MOST 1048576: true; the input reads as it did. -/
def checksUptoRow : OpenClaim := { program := "ytdnmajcaljpajaa", sum := "d28a324b01cd9fd4b021ff4f411a613734731a01a08ef30f07fc4c627bd69bb4", func := "lrgen/lrgenlaw.Checks", spec := "checks", recurses := true, apart := false, narrowed := true }
def ChecksUptoSaid : Prop := checksUptoRow.holds Try.pinned (OpenSpec.upto checksSpec)

/-- 'lrgenlaw.Firsts', WHERE WHAT IT READS IS OF BULK AT MOST 1048576: true; the input reads as it did. -/
def firstsUptoRow : OpenClaim := { program := "ytdnmajcaljpajaa", sum := "d28a324b01cd9fd4b021ff4f411a613734731a01a08ef30f07fc4c627bd69bb4", func := "lrgen/lrgenlaw.Firsts", spec := "firsts", recurses := true, apart := false, narrowed := true }
def FirstsUptoSaid : Prop := firstsUptoRow.holds Try.pinned (OpenSpec.upto firstsSpec)

/-- 'lrgenlaw.Parts', WHERE WHAT IT READS IS OF BULK AT MOST 1048576: true; the input reads as it did. -/
def partsUptoRow : OpenClaim := { program := "ytdnmajcaljpajaa", sum := "d28a324b01cd9fd4b021ff4f411a613734731a01a08ef30f07fc4c627bd69bb4", func := "lrgen/lrgenlaw.Parts", spec := "parts", apart := false, narrowed := true }
def PartsUptoSaid : Prop := partsUptoRow.holds Try.pinned (OpenSpec.upto partsSpec)

/-- 'lrgenlaw.Follows', WHERE WHAT IT READS IS OF BULK AT MOST 1048576: true; the input reads as it did. -/
def followsUptoRow : OpenClaim := { program := "ytdnmajcaljpajaa", sum := "d28a324b01cd9fd4b021ff4f411a613734731a01a08ef30f07fc4c627bd69bb4", func := "lrgen/lrgenlaw.Follows", spec := "follows", recurses := true, apart := false, narrowed := true }
def FollowsUptoSaid : Prop := followsUptoRow.holds Try.pinned (OpenSpec.upto followsSpec)

end Rows
end Go.Proofs.Ytdnmajcaljpajaa
