/-
  DERIVED. GIVEN WITH THE SEED: THE CARDS: each row of YtkglggkkbmmjkaaDoorRows.lean that lists a variable, with what it lists TIED to the program's text (the seventh form; the later family's looks); each row that meets fmt, with fmt's text TOLD by the authors' own Lean function (tested against real Go, not proved from fmt's source: count such statements apart). THE CARD IS WHAT COUNTS. Prove the row's statement (the work); the ties are given (YtkglggkkbmmjkaaDoorTie.lean); close each card by the builder's one call (the guide's Derived/Test/ToyasCard.lean, 'card_holds'). Laid BY PROGRAM, IN A SANDBOX (cutbox-door.mjs). By AI agents, Wed Nov 11 2026. No macro, syntax, notation, axiom, sorry.
-/
import Derived.Test.YtkglggkkbmmjkaaDoorRows
import GoSem.ClaimSeven
namespace Go.Proofs.YtkglggkkbmmjkaaDoor
namespace Rows

/-- THE TIED CARD OF 'lrgenlaw.Spelt'. -/
def speltCard : Claim7 := { stood := { row := speltRow, standIns := [], harness := (true, "c61e0e890a1174e657b10fbbbe035a99ca8321bc10a4a9edf1f60933d05106c6"), looks := false }, kinds := [], alts := [], laidByText := true, laidKinds := [.data, .data, .data], laidTests := true, laidLooks := .later }
def SpeltCardSaid : Prop := Claim7.holds Tryd.pinned (.plain (OpenSpec.ofChange speltSpec)) speltCard

/-- THE TIED CARD OF 'lrgenlaw.Driven'. -/
def drivenCard : Claim7 := { stood := { row := drivenRow, standIns := [], harness := (true, "c61e0e890a1174e657b10fbbbe035a99ca8321bc10a4a9edf1f60933d05106c6"), looks := false }, kinds := [], alts := [], laidByText := true, laidKinds := [.data, .data, .data], laidTests := true, laidLooks := .later }
def DrivenCardSaid : Prop := Claim7.holds Tryd.pinned (.plain (OpenSpec.ofChange drivenSpec)) drivenCard

/-- THE TIED CARD OF 'lrgenlaw.Grown'. -/
def grownCard : Claim7 := { stood := { row := grownRow, standIns := [], harness := (true, "c61e0e890a1174e657b10fbbbe035a99ca8321bc10a4a9edf1f60933d05106c6"), looks := false }, kinds := [], alts := [], laidByText := true, laidKinds := [.data, .data, .data], laidTests := true, laidLooks := .later }
def GrownCardSaid : Prop := Claim7.holds Tryd.pinned (.plain (OpenSpec.ofChange grownSpec)) grownCard

/-- THE SECOND FORM's CARD OF 'lrgenlaw.Spelt'. -/
def speltUptoCard : Claim7 := { stood := { row := speltUptoRow, standIns := [], harness := (true, "c61e0e890a1174e657b10fbbbe035a99ca8321bc10a4a9edf1f60933d05106c6"), looks := false }, kinds := [], alts := [], laidByText := true, laidKinds := [.data, .data, .data], laidTests := true, laidLooks := .later }
def SpeltUptoCardSaid : Prop := Claim7.holds Tryd.pinned (.plain (OpenSpec.upto speltSpec)) speltUptoCard

/-- THE SECOND FORM's CARD OF 'lrgenlaw.Driven'. -/
def drivenUptoCard : Claim7 := { stood := { row := drivenUptoRow, standIns := [], harness := (true, "c61e0e890a1174e657b10fbbbe035a99ca8321bc10a4a9edf1f60933d05106c6"), looks := false }, kinds := [], alts := [], laidByText := true, laidKinds := [.data, .data, .data], laidTests := true, laidLooks := .later }
def DrivenUptoCardSaid : Prop := Claim7.holds Tryd.pinned (.plain (OpenSpec.upto drivenSpec)) drivenUptoCard

/-- THE SECOND FORM's CARD OF 'lrgenlaw.Grown'. -/
def grownUptoCard : Claim7 := { stood := { row := grownUptoRow, standIns := [], harness := (true, "c61e0e890a1174e657b10fbbbe035a99ca8321bc10a4a9edf1f60933d05106c6"), looks := false }, kinds := [], alts := [], laidByText := true, laidKinds := [.data, .data, .data], laidTests := true, laidLooks := .later }
def GrownUptoCardSaid : Prop := Claim7.holds Tryd.pinned (.plain (OpenSpec.upto grownSpec)) grownUptoCard
end Rows
end Go.Proofs.YtkglggkkbmmjkaaDoor
