/-
  DERIVED. GIVEN WITH THE SEED: THE CARDS: each row of YtkcnpbckmdgfnaaGreatDoorRows.lean that lists a variable, with what it lists TIED to the program's text (the seventh form; the later family's looks); each row that meets fmt, with fmt's text TOLD by the authors' own Lean function (tested against real Go, not proved from fmt's source: count such statements apart). THE CARD IS WHAT COUNTS. Prove the row's statement (the work); the ties are given (YtkcnpbckmdgfnaaGreatDoorTie.lean); close each card by the builder's one call (the guide's Derived/Test/ToyasCard.lean, 'card_holds'). Laid BY PROGRAM, IN A SANDBOX (cutbox-door.mjs). By AI agents, Wed Nov 11 2026. No macro, syntax, notation, axiom, sorry.
-/
import Derived.Test.YtkcnpbckmdgfnaaGreatDoorRows
import GoSem.ClaimSeven
namespace Go.Proofs.YtkcnpbckmdgfnaaGreatDoor
namespace Rows

/-- THE TIED CARD OF 'portolanlaw09.PrinterWrites'. -/
def printerWritesCard : Claim7 := { stood := { row := printerWritesRow, standIns := [], harness := (true, "7c09585ccbd639fa1335871fe964dbe7f55a78185f4ab34de05f461921d03ba5"), looks := true }, kinds := [], alts := [], laidByText := true, laidKinds := [.data, .data, .data, .data, .data, .widerDeep, .pinned], laidTests := true, laidLooks := .later }
def PrinterWritesCardSaid : Prop := Claim7.holds Tryz.pinned (.plain (OpenSpec.ofChange printerWritesSpec)) printerWritesCard

/-- THE TIED CARD OF 'portolanlaw09.PrinterBack'. -/
def printerBackCard : Claim7 := { stood := { row := printerBackRow, standIns := [], harness := (true, "7c09585ccbd639fa1335871fe964dbe7f55a78185f4ab34de05f461921d03ba5"), looks := true }, kinds := [], alts := [], laidByText := true, laidKinds := [.data, .data, .data, .data, .sentinel, .sentinel, .data, .data, .widerDeep, .pinned], laidTests := true, laidLooks := .later }
def PrinterBackCardSaid : Prop := Claim7.holds Tryz.pinned (.plain (OpenSpec.ofChange printerBackSpec)) printerBackCard

/-- THE TIED CARD OF 'portolanlaw09.PrinterTexts'. -/
def printerTextsCard : Claim7 := { stood := { row := printerTextsRow, standIns := [], harness := (true, "7c09585ccbd639fa1335871fe964dbe7f55a78185f4ab34de05f461921d03ba5"), looks := true }, kinds := [], alts := [], laidByText := true, laidKinds := [.data, .data, .data, .data, .sentinel, .sentinel, .data, .data, .widerDeep, .pinned], laidTests := true, laidLooks := .later }
def PrinterTextsCardSaid : Prop := Claim7.holds Tryz.pinned (.plain (OpenSpec.ofChange printerTextsSpec)) printerTextsCard

/-- THE TIED CARD OF 'portolanlaw09.PrinterLits'. -/
def printerLitsCard : Claim7 := { stood := { row := printerLitsRow, standIns := [], harness := (true, "7c09585ccbd639fa1335871fe964dbe7f55a78185f4ab34de05f461921d03ba5"), looks := true }, kinds := [], alts := [], laidByText := true, laidKinds := [.data, .data, .data, .data, .sentinel, .sentinel, .data, .data, .widerDeep, .pinned], laidTests := true, laidLooks := .later }
def PrinterLitsCardSaid : Prop := Claim7.holds Tryz.pinned (.plain (OpenSpec.ofChange printerLitsSpec)) printerLitsCard

/-- THE TIED CARD OF 'portolanlaw09.PrinterPairs'. -/
def printerPairsCard : Claim7 := { stood := { row := printerPairsRow, standIns := [], harness := (true, "7c09585ccbd639fa1335871fe964dbe7f55a78185f4ab34de05f461921d03ba5"), looks := true }, kinds := [], alts := [], laidByText := true, laidKinds := [.data, .data, .data, .data, .sentinel, .sentinel, .data, .data, .widerDeep, .pinned], laidTests := true, laidLooks := .later }
def PrinterPairsCardSaid : Prop := Claim7.holds Tryz.pinned (.plain (OpenSpec.ofChange printerPairsSpec)) printerPairsCard

/-- THE SECOND FORM's CARD OF 'portolanlaw09.PrinterWrites'. -/
def printerWritesUptoCard : Claim7 := { stood := { row := printerWritesUptoRow, standIns := [], harness := (true, "7c09585ccbd639fa1335871fe964dbe7f55a78185f4ab34de05f461921d03ba5"), looks := true }, kinds := [], alts := [], laidByText := true, laidKinds := [.data, .data, .data, .data, .data, .widerDeep, .pinned], laidTests := true, laidLooks := .later }
def PrinterWritesUptoCardSaid : Prop := Claim7.holds Tryz.pinned (.plain (OpenSpec.upto printerWritesSpec)) printerWritesUptoCard

/-- THE SECOND FORM's CARD OF 'portolanlaw09.PrinterBack'. -/
def printerBackUptoCard : Claim7 := { stood := { row := printerBackUptoRow, standIns := [], harness := (true, "7c09585ccbd639fa1335871fe964dbe7f55a78185f4ab34de05f461921d03ba5"), looks := true }, kinds := [], alts := [], laidByText := true, laidKinds := [.data, .data, .data, .data, .sentinel, .sentinel, .data, .data, .widerDeep, .pinned], laidTests := true, laidLooks := .later }
def PrinterBackUptoCardSaid : Prop := Claim7.holds Tryz.pinned (.plain (OpenSpec.upto printerBackSpec)) printerBackUptoCard

/-- THE SECOND FORM's CARD OF 'portolanlaw09.PrinterTexts'. -/
def printerTextsUptoCard : Claim7 := { stood := { row := printerTextsUptoRow, standIns := [], harness := (true, "7c09585ccbd639fa1335871fe964dbe7f55a78185f4ab34de05f461921d03ba5"), looks := true }, kinds := [], alts := [], laidByText := true, laidKinds := [.data, .data, .data, .data, .sentinel, .sentinel, .data, .data, .widerDeep, .pinned], laidTests := true, laidLooks := .later }
def PrinterTextsUptoCardSaid : Prop := Claim7.holds Tryz.pinned (.plain (OpenSpec.upto printerTextsSpec)) printerTextsUptoCard

/-- THE SECOND FORM's CARD OF 'portolanlaw09.PrinterLits'. -/
def printerLitsUptoCard : Claim7 := { stood := { row := printerLitsUptoRow, standIns := [], harness := (true, "7c09585ccbd639fa1335871fe964dbe7f55a78185f4ab34de05f461921d03ba5"), looks := true }, kinds := [], alts := [], laidByText := true, laidKinds := [.data, .data, .data, .data, .sentinel, .sentinel, .data, .data, .widerDeep, .pinned], laidTests := true, laidLooks := .later }
def PrinterLitsUptoCardSaid : Prop := Claim7.holds Tryz.pinned (.plain (OpenSpec.upto printerLitsSpec)) printerLitsUptoCard

/-- THE SECOND FORM's CARD OF 'portolanlaw09.PrinterPairs'. -/
def printerPairsUptoCard : Claim7 := { stood := { row := printerPairsUptoRow, standIns := [], harness := (true, "7c09585ccbd639fa1335871fe964dbe7f55a78185f4ab34de05f461921d03ba5"), looks := true }, kinds := [], alts := [], laidByText := true, laidKinds := [.data, .data, .data, .data, .sentinel, .sentinel, .data, .data, .widerDeep, .pinned], laidTests := true, laidLooks := .later }
def PrinterPairsUptoCardSaid : Prop := Claim7.holds Tryz.pinned (.plain (OpenSpec.upto printerPairsSpec)) printerPairsUptoCard
end Rows
end Go.Proofs.YtkcnpbckmdgfnaaGreatDoor
