/-
  DERIVED. GIVEN WITH THE SEED: THE CARDS: each row of YtkglggkkbmmjkaaGreatDoorRows.lean that lists a variable, with what it lists TIED to the program's text (the seventh form; the later family's looks); each row that meets fmt, with fmt's text TOLD by the authors' own Lean function (tested against real Go, not proved from fmt's source: count such statements apart). THE CARD IS WHAT COUNTS. Prove the row's statement (the work); the ties are given (YtkglggkkbmmjkaaGreatDoorTie.lean); close each card by the builder's one call (the guide's Derived/Test/ToyasCard.lean, 'card_holds'). Laid BY PROGRAM, IN A SANDBOX (cutbox-door.mjs). By AI agents, Wed Nov 11 2026. No macro, syntax, notation, axiom, sorry.
-/
import Derived.Test.YtkglggkkbmmjkaaGreatDoorRows
import GoSem.ClaimSeven
namespace Go.Proofs.YtkglggkkbmmjkaaGreatDoor
namespace Rows

/-- THE TIED CARD OF 'lrgenlaw.Checks'. -/
def checksCard : Claim7 := { stood := { row := checksRow, standIns := [], harness := (true, "e58115dada0b790970ecb9bec0d9f47dbc2496ce12cd90c30d22b9ceef5080f7"), looks := false }, kinds := [], alts := [], laidByText := true, laidKinds := [.data, .data, .data], laidTests := true, laidLooks := .later }
def ChecksCardSaid : Prop := Claim7.holds Tryz.pinned (.plain (OpenSpec.ofChange checksSpec)) checksCard

/-- THE TIED CARD OF 'lrgenlaw.Firsts'. -/
def firstsCard : Claim7 := { stood := { row := firstsRow, standIns := [], harness := (true, "e58115dada0b790970ecb9bec0d9f47dbc2496ce12cd90c30d22b9ceef5080f7"), looks := false }, kinds := [], alts := [], laidByText := true, laidKinds := [.data, .data, .data], laidTests := true, laidLooks := .later }
def FirstsCardSaid : Prop := Claim7.holds Tryz.pinned (.plain (OpenSpec.ofChange firstsSpec)) firstsCard

/-- THE TIED CARD OF 'lrgenlaw.Follows'. -/
def followsCard : Claim7 := { stood := { row := followsRow, standIns := [], harness := (true, "e58115dada0b790970ecb9bec0d9f47dbc2496ce12cd90c30d22b9ceef5080f7"), looks := false }, kinds := [], alts := [], laidByText := true, laidKinds := [.data, .data, .data], laidTests := true, laidLooks := .later }
def FollowsCardSaid : Prop := Claim7.holds Tryz.pinned (.plain (OpenSpec.ofChange followsSpec)) followsCard

/-- THE TIED CARD OF 'lrgenlaw.Tables'. -/
def tablesCard : Claim7 := { stood := { row := tablesRow, standIns := [], harness := (true, "e58115dada0b790970ecb9bec0d9f47dbc2496ce12cd90c30d22b9ceef5080f7"), looks := false }, kinds := [], alts := [], laidByText := true, laidKinds := [.data, .data, .data], laidTests := true, laidLooks := .later }
def TablesCardSaid : Prop := Claim7.holds Tryz.pinned (.plain (OpenSpec.ofChange tablesSpec)) tablesCard

/-- THE TIED CARD OF 'lrgenlaw.Cores'. -/
def coresCard : Claim7 := { stood := { row := coresRow, standIns := [], harness := (true, "e58115dada0b790970ecb9bec0d9f47dbc2496ce12cd90c30d22b9ceef5080f7"), looks := false }, kinds := [], alts := [], laidByText := true, laidKinds := [.data, .data, .data], laidTests := true, laidLooks := .later }
def CoresCardSaid : Prop := Claim7.holds Tryz.pinned (.plain (OpenSpec.ofChange coresSpec)) coresCard

/-- THE TIED CARD OF 'lrgenlaw.Classes'. -/
def classesCard : Claim7 := { stood := { row := classesRow, standIns := [], harness := (true, "e58115dada0b790970ecb9bec0d9f47dbc2496ce12cd90c30d22b9ceef5080f7"), looks := false }, kinds := [], alts := [], laidByText := true, laidKinds := [.data, .data, .data], laidTests := true, laidLooks := .later }
def ClassesCardSaid : Prop := Claim7.holds Tryz.pinned (.plain (OpenSpec.ofChange classesSpec)) classesCard

/-- THE TIED CARD OF 'lrgenlaw.Trees'. -/
def treesCard : Claim7 := { stood := { row := treesRow, standIns := [], harness := (true, "e58115dada0b790970ecb9bec0d9f47dbc2496ce12cd90c30d22b9ceef5080f7"), looks := false }, kinds := [], alts := [], laidByText := true, laidKinds := [.data, .data, .data], laidTests := true, laidLooks := .later }
def TreesCardSaid : Prop := Claim7.holds Tryz.pinned (.plain (OpenSpec.ofChange treesSpec)) treesCard

/-- THE TIED CARD OF 'lrgenlaw.Stops'. -/
def stopsCard : Claim7 := { stood := { row := stopsRow, standIns := [], harness := (true, "e58115dada0b790970ecb9bec0d9f47dbc2496ce12cd90c30d22b9ceef5080f7"), looks := false }, kinds := [], alts := [], laidByText := true, laidKinds := [.data, .data, .data], laidTests := true, laidLooks := .later }
def StopsCardSaid : Prop := Claim7.holds Tryz.pinned (.plain (OpenSpec.ofChange stopsSpec)) stopsCard

/-- THE SECOND FORM's CARD OF 'lrgenlaw.Checks'. -/
def checksUptoCard : Claim7 := { stood := { row := checksUptoRow, standIns := [], harness := (true, "e58115dada0b790970ecb9bec0d9f47dbc2496ce12cd90c30d22b9ceef5080f7"), looks := false }, kinds := [], alts := [], laidByText := true, laidKinds := [.data, .data, .data], laidTests := true, laidLooks := .later }
def ChecksUptoCardSaid : Prop := Claim7.holds Tryz.pinned (.plain (OpenSpec.upto checksSpec)) checksUptoCard

/-- THE SECOND FORM's CARD OF 'lrgenlaw.Firsts'. -/
def firstsUptoCard : Claim7 := { stood := { row := firstsUptoRow, standIns := [], harness := (true, "e58115dada0b790970ecb9bec0d9f47dbc2496ce12cd90c30d22b9ceef5080f7"), looks := false }, kinds := [], alts := [], laidByText := true, laidKinds := [.data, .data, .data], laidTests := true, laidLooks := .later }
def FirstsUptoCardSaid : Prop := Claim7.holds Tryz.pinned (.plain (OpenSpec.upto firstsSpec)) firstsUptoCard

/-- THE SECOND FORM's CARD OF 'lrgenlaw.Follows'. -/
def followsUptoCard : Claim7 := { stood := { row := followsUptoRow, standIns := [], harness := (true, "e58115dada0b790970ecb9bec0d9f47dbc2496ce12cd90c30d22b9ceef5080f7"), looks := false }, kinds := [], alts := [], laidByText := true, laidKinds := [.data, .data, .data], laidTests := true, laidLooks := .later }
def FollowsUptoCardSaid : Prop := Claim7.holds Tryz.pinned (.plain (OpenSpec.upto followsSpec)) followsUptoCard

/-- THE SECOND FORM's CARD OF 'lrgenlaw.Tables'. -/
def tablesUptoCard : Claim7 := { stood := { row := tablesUptoRow, standIns := [], harness := (true, "e58115dada0b790970ecb9bec0d9f47dbc2496ce12cd90c30d22b9ceef5080f7"), looks := false }, kinds := [], alts := [], laidByText := true, laidKinds := [.data, .data, .data], laidTests := true, laidLooks := .later }
def TablesUptoCardSaid : Prop := Claim7.holds Tryz.pinned (.plain (OpenSpec.upto tablesSpec)) tablesUptoCard

/-- THE SECOND FORM's CARD OF 'lrgenlaw.Cores'. -/
def coresUptoCard : Claim7 := { stood := { row := coresUptoRow, standIns := [], harness := (true, "e58115dada0b790970ecb9bec0d9f47dbc2496ce12cd90c30d22b9ceef5080f7"), looks := false }, kinds := [], alts := [], laidByText := true, laidKinds := [.data, .data, .data], laidTests := true, laidLooks := .later }
def CoresUptoCardSaid : Prop := Claim7.holds Tryz.pinned (.plain (OpenSpec.upto coresSpec)) coresUptoCard

/-- THE SECOND FORM's CARD OF 'lrgenlaw.Classes'. -/
def classesUptoCard : Claim7 := { stood := { row := classesUptoRow, standIns := [], harness := (true, "e58115dada0b790970ecb9bec0d9f47dbc2496ce12cd90c30d22b9ceef5080f7"), looks := false }, kinds := [], alts := [], laidByText := true, laidKinds := [.data, .data, .data], laidTests := true, laidLooks := .later }
def ClassesUptoCardSaid : Prop := Claim7.holds Tryz.pinned (.plain (OpenSpec.upto classesSpec)) classesUptoCard

/-- THE SECOND FORM's CARD OF 'lrgenlaw.Trees'. -/
def treesUptoCard : Claim7 := { stood := { row := treesUptoRow, standIns := [], harness := (true, "e58115dada0b790970ecb9bec0d9f47dbc2496ce12cd90c30d22b9ceef5080f7"), looks := false }, kinds := [], alts := [], laidByText := true, laidKinds := [.data, .data, .data], laidTests := true, laidLooks := .later }
def TreesUptoCardSaid : Prop := Claim7.holds Tryz.pinned (.plain (OpenSpec.upto treesSpec)) treesUptoCard

/-- THE SECOND FORM's CARD OF 'lrgenlaw.Stops'. -/
def stopsUptoCard : Claim7 := { stood := { row := stopsUptoRow, standIns := [], harness := (true, "e58115dada0b790970ecb9bec0d9f47dbc2496ce12cd90c30d22b9ceef5080f7"), looks := false }, kinds := [], alts := [], laidByText := true, laidKinds := [.data, .data, .data], laidTests := true, laidLooks := .later }
def StopsUptoCardSaid : Prop := Claim7.holds Tryz.pinned (.plain (OpenSpec.upto stopsSpec)) stopsUptoCard
end Rows
end Go.Proofs.YtkglggkkbmmjkaaGreatDoor
