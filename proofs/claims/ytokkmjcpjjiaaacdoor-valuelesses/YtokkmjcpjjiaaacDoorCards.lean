/-
  DERIVED. GIVEN WITH THE SEED: THE CARDS: each row of YtokkmjcpjjiaaacDoorRows.lean that lists a variable, with what it lists TIED to the program's text (the seventh form; the later family's looks); each row that meets fmt, with fmt's text TOLD by the authors' own Lean function (tested against real Go, not proved from fmt's source: count such statements apart). THE CARD IS WHAT COUNTS. Prove the row's statement (the work); the ties are given (YtokkmjcpjjiaaacDoorTie.lean); close each card by the builder's one call (the guide's Derived/Test/ToyasCard.lean, 'card_holds'). Laid BY PROGRAM, IN A SANDBOX (cutbox-door.mjs). By AI agents, Wed Nov 11 2026. No macro, syntax, notation, axiom, sorry.
-/
import Derived.Test.YtokkmjcpjjiaaacDoorRows
import GoSem.ClaimSeven
namespace Go.Proofs.YtokkmjcpjjiaaacDoor
namespace Rows

/-- THE TIED CARD OF 'portolanlaw02.ValueOrs'. -/
def valueOrsCard : Claim7 := { stood := { row := valueOrsRow, standIns := [], harness := (true, "5a633b7f4c81bd19e7111206039e3020b643b49224b9106823d9d2560aa87ef0"), looks := false }, kinds := [], alts := [], laidByText := true, laidKinds := [.data, .data, .data, .data, .pinned], laidTests := true, laidLooks := .later }
def ValueOrsCardSaid : Prop := Claim7.holds Tryd.pinned (.plain (OpenSpec.ofChange valueOrsSpec)) valueOrsCard

/-- THE TIED CARD OF 'portolanlaw02.ValueNots'. -/
def valueNotsCard : Claim7 := { stood := { row := valueNotsRow, standIns := [], harness := (true, "5a633b7f4c81bd19e7111206039e3020b643b49224b9106823d9d2560aa87ef0"), looks := false }, kinds := [], alts := [], laidByText := true, laidKinds := [.data, .data, .data, .data, .pinned], laidTests := true, laidLooks := .later }
def ValueNotsCardSaid : Prop := Claim7.holds Tryd.pinned (.plain (OpenSpec.ofChange valueNotsSpec)) valueNotsCard

/-- THE TIED CARD OF 'portolanlaw02.ValueEquals'. -/
def valueEqualsCard : Claim7 := { stood := { row := valueEqualsRow, standIns := [], harness := (true, "5a633b7f4c81bd19e7111206039e3020b643b49224b9106823d9d2560aa87ef0"), looks := false }, kinds := [], alts := [], laidByText := true, laidKinds := [.data, .data, .data, .data, .pinned], laidTests := true, laidLooks := .later }
def ValueEqualsCardSaid : Prop := Claim7.holds Tryd.pinned (.plain (OpenSpec.ofChange valueEqualsSpec)) valueEqualsCard

/-- THE TIED CARD OF 'portolanlaw02.ValueLesses'. -/
def valueLessesCard : Claim7 := { stood := { row := valueLessesRow, standIns := [], harness := (true, "5a633b7f4c81bd19e7111206039e3020b643b49224b9106823d9d2560aa87ef0"), looks := false }, kinds := [], alts := [], laidByText := true, laidKinds := [.data, .data, .data, .data, .pinned], laidTests := true, laidLooks := .later }
def ValueLessesCardSaid : Prop := Claim7.holds Tryd.pinned (.plain (OpenSpec.ofChange valueLessesSpec)) valueLessesCard

/-- THE SECOND FORM's CARD OF 'portolanlaw02.ValueOrs'. -/
def valueOrsUptoCard : Claim7 := { stood := { row := valueOrsUptoRow, standIns := [], harness := (true, "5a633b7f4c81bd19e7111206039e3020b643b49224b9106823d9d2560aa87ef0"), looks := false }, kinds := [], alts := [], laidByText := true, laidKinds := [.data, .data, .data, .data, .pinned], laidTests := true, laidLooks := .later }
def ValueOrsUptoCardSaid : Prop := Claim7.holds Tryd.pinned (.plain (OpenSpec.upto valueOrsSpec)) valueOrsUptoCard

/-- THE SECOND FORM's CARD OF 'portolanlaw02.ValueNots'. -/
def valueNotsUptoCard : Claim7 := { stood := { row := valueNotsUptoRow, standIns := [], harness := (true, "5a633b7f4c81bd19e7111206039e3020b643b49224b9106823d9d2560aa87ef0"), looks := false }, kinds := [], alts := [], laidByText := true, laidKinds := [.data, .data, .data, .data, .pinned], laidTests := true, laidLooks := .later }
def ValueNotsUptoCardSaid : Prop := Claim7.holds Tryd.pinned (.plain (OpenSpec.upto valueNotsSpec)) valueNotsUptoCard

/-- THE SECOND FORM's CARD OF 'portolanlaw02.ValueEquals'. -/
def valueEqualsUptoCard : Claim7 := { stood := { row := valueEqualsUptoRow, standIns := [], harness := (true, "5a633b7f4c81bd19e7111206039e3020b643b49224b9106823d9d2560aa87ef0"), looks := false }, kinds := [], alts := [], laidByText := true, laidKinds := [.data, .data, .data, .data, .pinned], laidTests := true, laidLooks := .later }
def ValueEqualsUptoCardSaid : Prop := Claim7.holds Tryd.pinned (.plain (OpenSpec.upto valueEqualsSpec)) valueEqualsUptoCard

/-- THE SECOND FORM's CARD OF 'portolanlaw02.ValueLesses'. -/
def valueLessesUptoCard : Claim7 := { stood := { row := valueLessesUptoRow, standIns := [], harness := (true, "5a633b7f4c81bd19e7111206039e3020b643b49224b9106823d9d2560aa87ef0"), looks := false }, kinds := [], alts := [], laidByText := true, laidKinds := [.data, .data, .data, .data, .pinned], laidTests := true, laidLooks := .later }
def ValueLessesUptoCardSaid : Prop := Claim7.holds Tryd.pinned (.plain (OpenSpec.upto valueLessesSpec)) valueLessesUptoCard
end Rows
end Go.Proofs.YtokkmjcpjjiaaacDoor
