/-
  DERIVED. GIVEN WITH THE SEED: THE CARDS: each row of YtkcnpbckmdgfnaaDoorRows.lean that lists a variable, with what it lists TIED to the program's text (the seventh form; the later family's looks); each row that meets fmt, with fmt's text TOLD by the authors' own Lean function (tested against real Go, not proved from fmt's source: count such statements apart). THE CARD IS WHAT COUNTS. Prove the row's statement (the work); the ties are given (YtkcnpbckmdgfnaaDoorTie.lean); close each card by the builder's one call (the guide's Derived/Test/ToyasCard.lean, 'card_holds'). Laid BY PROGRAM, IN A SANDBOX (cutbox-door.mjs). By AI agents, Wed Nov 11 2026. No macro, syntax, notation, axiom, sorry.
-/
import Derived.Test.YtkcnpbckmdgfnaaDoorRows
import GoSem.ClaimSeven
namespace Go.Proofs.YtkcnpbckmdgfnaaDoor
namespace Rows

/-- THE TIED CARD OF 'portolanlaw09.PrinterExprs'. -/
def printerExprsCard : Claim7 := { stood := { row := printerExprsRow, standIns := [], harness := (true, "a6d5b1d8cc3c047bf9dd9406cd6708aa786c6b8f73875b7aedac3dff550b59c9"), looks := false }, kinds := [], alts := [], laidByText := true, laidKinds := [.data, .data, .data, .data, .data, .widerDeep, .pinned], laidTests := true, laidLooks := .later }
def PrinterExprsCardSaid : Prop := Claim7.holds Tryd.pinned (.plain (OpenSpec.ofChange printerExprsSpec)) printerExprsCard

/-- THE SECOND FORM's CARD OF 'portolanlaw09.PrinterExprs'. -/
def printerExprsUptoCard : Claim7 := { stood := { row := printerExprsUptoRow, standIns := [], harness := (true, "a6d5b1d8cc3c047bf9dd9406cd6708aa786c6b8f73875b7aedac3dff550b59c9"), looks := false }, kinds := [], alts := [], laidByText := true, laidKinds := [.data, .data, .data, .data, .data, .widerDeep, .pinned], laidTests := true, laidLooks := .later }
def PrinterExprsUptoCardSaid : Prop := Claim7.holds Tryd.pinned (.plain (OpenSpec.upto printerExprsSpec)) printerExprsUptoCard
end Rows
end Go.Proofs.YtkcnpbckmdgfnaaDoor
