/-
  No cell of these rows narrows 'for every input' (looked for: loops, veiled, ifaces, maps, wideKeys, modest, calm, conditions, laid).
  DERIVED. THE GIVEN ROWS OF THIS SEAT. 6 by the template 'for every input the law returns true; each argument reads behind the call as it read before'; 0 by the template 'total and deterministic' (their statements: YtpphggmjmegbaaaGreatTotals.lean).
  GIVEN WITH THE SEED: the statements are not yours to turn. If you find one false, say at which input.
  Laid BY PROGRAM, IN A SANDBOX (cutbox-rows.mjs): the forced cells as the released guide's own fill.sh prints them over the translation 51bede814066f844… (all of the seat's roots in one cut). By AI agents, Wed Nov 11 2026. No macro, syntax, notation, axiom, sorry.
-/
import Derived.Test.YtpphggmjmegbaaaGreatChecked
import GoSem.Claim
import GoSem.ClaimJoined
import GoSem.ClaimMapViews
import Derived.JoinedTies
import Derived.KernelRfl
namespace Go.Proofs.YtpphggmjmegbaaaGreat
/- THE CELL 'sum', in the pinned program and in every row, IS THE sha256 OF THE DUMP (.gsa) THAT YtpphggmjmegbaaaGreatProg.lean LOADS. Nothing in Lean hashes anything: it is a label: what it is worth is what the hold of that sum in a sandbox is worth. -/
noncomputable def Tryz.pinned : Pinned := { name := "ytpphggmjmegbaaagreat", sum := "51bede814066f84492a1b920d71d07ef56140c37e63c7f4255d98cd59f78b280", checked := Tryz.checked }
namespace Rows
def none {H : Type} : Left H := { results := [], args := [] }

/-- 'lrgenlaw.Checks': WHATEVER THE INPUT: true; the input reads as it did. -/
def checksSpec : ChangeSpec := { name := "checks", fn := fun _ => fun
  | [d] => { results := [.lit (.bool true)], args := [d] }
  | _ => none }
def checksRow : OpenClaim := { program := "ytpphggmjmegbaaagreat", sum := "51bede814066f84492a1b920d71d07ef56140c37e63c7f4255d98cd59f78b280", func := "lrgen/lrgenlaw.Checks", spec := "checks", recurses := true, apart := false }
def ChecksSaid : Prop := checksRow.holds Tryz.pinned (OpenSpec.ofChange checksSpec)

/-- ITS FALSE NEIGHBOUR: 'it returns false'. Refute it at one input. -/
def checksWrong : ChangeSpec := { name := "checks", fn := fun _ => fun
  | [d] => { results := [.lit (.bool false)], args := [d] }
  | _ => none }
def ChecksWrongFalsely : Prop := checksRow.holds Tryz.pinned (OpenSpec.ofChange checksWrong)

/-- 'lrgenlaw.Firsts': WHATEVER THE INPUT: true; the input reads as it did. -/
def firstsSpec : ChangeSpec := { name := "firsts", fn := fun _ => fun
  | [d] => { results := [.lit (.bool true)], args := [d] }
  | _ => none }
def firstsRow : OpenClaim := { program := "ytpphggmjmegbaaagreat", sum := "51bede814066f84492a1b920d71d07ef56140c37e63c7f4255d98cd59f78b280", func := "lrgen/lrgenlaw.Firsts", spec := "firsts", recurses := true, apart := false }
def FirstsSaid : Prop := firstsRow.holds Tryz.pinned (OpenSpec.ofChange firstsSpec)

/-- ITS FALSE NEIGHBOUR: 'it returns false'. Refute it at one input. -/
def firstsWrong : ChangeSpec := { name := "firsts", fn := fun _ => fun
  | [d] => { results := [.lit (.bool false)], args := [d] }
  | _ => none }
def FirstsWrongFalsely : Prop := firstsRow.holds Tryz.pinned (OpenSpec.ofChange firstsWrong)

/-- 'lrgenlaw.Follows': WHATEVER THE INPUT: true; the input reads as it did. -/
def followsSpec : ChangeSpec := { name := "follows", fn := fun _ => fun
  | [d] => { results := [.lit (.bool true)], args := [d] }
  | _ => none }
def followsRow : OpenClaim := { program := "ytpphggmjmegbaaagreat", sum := "51bede814066f84492a1b920d71d07ef56140c37e63c7f4255d98cd59f78b280", func := "lrgen/lrgenlaw.Follows", spec := "follows", recurses := true, apart := false }
def FollowsSaid : Prop := followsRow.holds Tryz.pinned (OpenSpec.ofChange followsSpec)

/-- ITS FALSE NEIGHBOUR: 'it returns false'. Refute it at one input. -/
def followsWrong : ChangeSpec := { name := "follows", fn := fun _ => fun
  | [d] => { results := [.lit (.bool false)], args := [d] }
  | _ => none }
def FollowsWrongFalsely : Prop := followsRow.holds Tryz.pinned (OpenSpec.ofChange followsWrong)

/-- 'lrgenlaw.Tables': WHATEVER THE INPUT: true; the input reads as it did. -/
def tablesSpec : ChangeSpec := { name := "tables", fn := fun _ => fun
  | [d] => { results := [.lit (.bool true)], args := [d] }
  | _ => none }
def tablesRow : OpenClaim := { program := "ytpphggmjmegbaaagreat", sum := "51bede814066f84492a1b920d71d07ef56140c37e63c7f4255d98cd59f78b280", func := "lrgen/lrgenlaw.Tables", spec := "tables", recurses := true, apart := false }
def TablesSaid : Prop := tablesRow.holds Tryz.pinned (OpenSpec.ofChange tablesSpec)

/-- ITS FALSE NEIGHBOUR: 'it returns false'. Refute it at one input. -/
def tablesWrong : ChangeSpec := { name := "tables", fn := fun _ => fun
  | [d] => { results := [.lit (.bool false)], args := [d] }
  | _ => none }
def TablesWrongFalsely : Prop := tablesRow.holds Tryz.pinned (OpenSpec.ofChange tablesWrong)

/-- 'lrgenlaw.Cores': WHATEVER THE INPUT: true; the input reads as it did. -/
def coresSpec : ChangeSpec := { name := "cores", fn := fun _ => fun
  | [d] => { results := [.lit (.bool true)], args := [d] }
  | _ => none }
def coresRow : OpenClaim := { program := "ytpphggmjmegbaaagreat", sum := "51bede814066f84492a1b920d71d07ef56140c37e63c7f4255d98cd59f78b280", func := "lrgen/lrgenlaw.Cores", spec := "cores", recurses := true, apart := false }
def CoresSaid : Prop := coresRow.holds Tryz.pinned (OpenSpec.ofChange coresSpec)

/-- ITS FALSE NEIGHBOUR: 'it returns false'. Refute it at one input. -/
def coresWrong : ChangeSpec := { name := "cores", fn := fun _ => fun
  | [d] => { results := [.lit (.bool false)], args := [d] }
  | _ => none }
def CoresWrongFalsely : Prop := coresRow.holds Tryz.pinned (OpenSpec.ofChange coresWrong)

/-- 'lrgenlaw.Classes': WHATEVER THE INPUT: true; the input reads as it did. -/
def classesSpec : ChangeSpec := { name := "classes", fn := fun _ => fun
  | [d] => { results := [.lit (.bool true)], args := [d] }
  | _ => none }
def classesRow : OpenClaim := { program := "ytpphggmjmegbaaagreat", sum := "51bede814066f84492a1b920d71d07ef56140c37e63c7f4255d98cd59f78b280", func := "lrgen/lrgenlaw.Classes", spec := "classes", recurses := true, apart := false }
def ClassesSaid : Prop := classesRow.holds Tryz.pinned (OpenSpec.ofChange classesSpec)

/-- ITS FALSE NEIGHBOUR: 'it returns false'. Refute it at one input. -/
def classesWrong : ChangeSpec := { name := "classes", fn := fun _ => fun
  | [d] => { results := [.lit (.bool false)], args := [d] }
  | _ => none }
def ClassesWrongFalsely : Prop := classesRow.holds Tryz.pinned (OpenSpec.ofChange classesWrong)

/- THE SECOND FORM. 'bulk': how many values and letters a reading holds, each counted each time it is reached (what is shared counts as often as it is met; a slice's spare places count too). A statement '..UptoSaid' is the law's where the arguments, and the package variables that the reading takes, are together of bulk at most 1048576: NARROWER than '..Said'. Prove '..Said' where nothing that the law and all that it calls make is longer than what came in: it says more and counts as full. Else prove '..UptoSaid'. A law counts once. -/
mutual
def uptoBulk {H : Type} : DataW H → Nat
  | .lit (.string bytes) => bytes.length + 1
  | .lit _ => 1
  | .nil => 1
  | .ptr d => uptoBulk d + 1
  | .slice elems spare => uptoBulkAll elems + uptoBulkAll spare + 1
  | .agg parts => uptoBulkAll parts + 1
  | .iface _ d => uptoBulk d + 1
  | .map entries => uptoBulkEntries entries + 1
  | .held _ => 1
def uptoBulkAll {H : Type} : List (DataW H) → Nat
  | [] => 0
  | d :: r => uptoBulk d + uptoBulkAll r
def uptoBulkEntries {H : Type} : List (Lit × DataW H) → Nat
  | [] => 0
  | x :: r => uptoBulkEntry x + uptoBulkEntries r
def uptoBulkEntry {H : Type} : Lit × DataW H → Nat
  | (.string bytes, d) => bytes.length + uptoBulk d + 1
  | (_, d) => uptoBulk d + 1
 end
def uptoSmall : (H : Type) → List (DataW H) → Bool := fun _ ds => decide (uptoBulkAll ds ≤ 1048576)
def OpenSpec.upto (s : _root_.Go.ChangeSpec) : _root_.Go.OpenSpec := { _root_.Go.OpenSpec.ofChange s with cond := some uptoSmall }

/-- 'lrgenlaw.Checks', WHERE WHAT IT READS IS OF BULK AT MOST 1048576: true; the input reads as it did. -/
def checksUptoRow : OpenClaim := { program := "ytpphggmjmegbaaagreat", sum := "51bede814066f84492a1b920d71d07ef56140c37e63c7f4255d98cd59f78b280", func := "lrgen/lrgenlaw.Checks", spec := "checks", recurses := true, apart := false, narrowed := true }
def ChecksUptoSaid : Prop := checksUptoRow.holds Tryz.pinned (OpenSpec.upto checksSpec)

/-- 'lrgenlaw.Firsts', WHERE WHAT IT READS IS OF BULK AT MOST 1048576: true; the input reads as it did. -/
def firstsUptoRow : OpenClaim := { program := "ytpphggmjmegbaaagreat", sum := "51bede814066f84492a1b920d71d07ef56140c37e63c7f4255d98cd59f78b280", func := "lrgen/lrgenlaw.Firsts", spec := "firsts", recurses := true, apart := false, narrowed := true }
def FirstsUptoSaid : Prop := firstsUptoRow.holds Tryz.pinned (OpenSpec.upto firstsSpec)

/-- 'lrgenlaw.Follows', WHERE WHAT IT READS IS OF BULK AT MOST 1048576: true; the input reads as it did. -/
def followsUptoRow : OpenClaim := { program := "ytpphggmjmegbaaagreat", sum := "51bede814066f84492a1b920d71d07ef56140c37e63c7f4255d98cd59f78b280", func := "lrgen/lrgenlaw.Follows", spec := "follows", recurses := true, apart := false, narrowed := true }
def FollowsUptoSaid : Prop := followsUptoRow.holds Tryz.pinned (OpenSpec.upto followsSpec)

/-- 'lrgenlaw.Tables', WHERE WHAT IT READS IS OF BULK AT MOST 1048576: true; the input reads as it did. -/
def tablesUptoRow : OpenClaim := { program := "ytpphggmjmegbaaagreat", sum := "51bede814066f84492a1b920d71d07ef56140c37e63c7f4255d98cd59f78b280", func := "lrgen/lrgenlaw.Tables", spec := "tables", recurses := true, apart := false, narrowed := true }
def TablesUptoSaid : Prop := tablesUptoRow.holds Tryz.pinned (OpenSpec.upto tablesSpec)

/-- 'lrgenlaw.Cores', WHERE WHAT IT READS IS OF BULK AT MOST 1048576: true; the input reads as it did. -/
def coresUptoRow : OpenClaim := { program := "ytpphggmjmegbaaagreat", sum := "51bede814066f84492a1b920d71d07ef56140c37e63c7f4255d98cd59f78b280", func := "lrgen/lrgenlaw.Cores", spec := "cores", recurses := true, apart := false, narrowed := true }
def CoresUptoSaid : Prop := coresUptoRow.holds Tryz.pinned (OpenSpec.upto coresSpec)

/-- 'lrgenlaw.Classes', WHERE WHAT IT READS IS OF BULK AT MOST 1048576: true; the input reads as it did. -/
def classesUptoRow : OpenClaim := { program := "ytpphggmjmegbaaagreat", sum := "51bede814066f84492a1b920d71d07ef56140c37e63c7f4255d98cd59f78b280", func := "lrgen/lrgenlaw.Classes", spec := "classes", recurses := true, apart := false, narrowed := true }
def ClassesUptoSaid : Prop := classesUptoRow.holds Tryz.pinned (OpenSpec.upto classesSpec)

end Rows
end Go.Proofs.YtpphggmjmegbaaaGreat
