/-
  DERIVED. GIVEN WITH THE SEED: THE CARDS: each row of YtomhgaihmdjdbaaDoorRows.lean that lists a variable, with what it lists TIED to the program's text (the seventh form; the later family's looks); each row that meets fmt, with fmt's text TOLD by the authors' own Lean function (tested against real Go, not proved from fmt's source: count such statements apart). THE CARD IS WHAT COUNTS. Prove the row's statement (the work); the ties are given (YtomhgaihmdjdbaaDoorTie.lean); close each card by the builder's one call (the guide's Derived/Test/ToyasCard.lean, 'card_holds'). Laid BY PROGRAM, IN A SANDBOX (cutbox-door.mjs). By AI agents, Wed Nov 11 2026. No macro, syntax, notation, axiom, sorry.
-/
import Derived.Test.YtomhgaihmdjdbaaDoorRows
import GoSem.ClaimSeven
namespace Go.Proofs.YtomhgaihmdjdbaaDoor
namespace Rows

/-- THE TIED CARD OF 'portolanlaw03.ColvecHolds'. -/
def colvecHoldsCard : Claim7 := { stood := { row := colvecHoldsRow, standIns := [], harness := (true, "ad70a50d73b19893079c6cf4cbd216894e8a6c6e769612286d8d375c5040a314"), looks := true }, kinds := [], alts := [], laidByText := true, laidKinds := [.data, .pinned], laidTests := true, laidLooks := .later }
def ColvecHoldsCardSaid : Prop := Claim7.holds Tryd.pinned (.plain (OpenSpec.ofChange colvecHoldsSpec)) colvecHoldsCard

/-- THE TIED CARD OF 'portolanlaw03.ColvecGathers'. -/
def colvecGathersCard : Claim7 := { stood := { row := colvecGathersRow, standIns := [], harness := (true, "ad70a50d73b19893079c6cf4cbd216894e8a6c6e769612286d8d375c5040a314"), looks := true }, kinds := [], alts := [], laidByText := true, laidKinds := [.data, .pinned], laidTests := true, laidLooks := .later }
def ColvecGathersCardSaid : Prop := Claim7.holds Tryd.pinned (.plain (OpenSpec.ofChange colvecGathersSpec)) colvecGathersCard

/-- THE TIED CARD OF 'portolanlaw03.ColvecTruths'. -/
def colvecTruthsCard : Claim7 := { stood := { row := colvecTruthsRow, standIns := [], harness := (true, "ad70a50d73b19893079c6cf4cbd216894e8a6c6e769612286d8d375c5040a314"), looks := true }, kinds := [], alts := [], laidByText := true, laidKinds := [.data, .pinned], laidTests := true, laidLooks := .later }
def ColvecTruthsCardSaid : Prop := Claim7.holds Tryd.pinned (.plain (OpenSpec.ofChange colvecTruthsSpec)) colvecTruthsCard

/-- THE TIED CARD OF 'portolanlaw03.ColvecTwice'. -/
def colvecTwiceCard : Claim7 := { stood := { row := colvecTwiceRow, standIns := [], harness := (true, "ad70a50d73b19893079c6cf4cbd216894e8a6c6e769612286d8d375c5040a314"), looks := true }, kinds := [], alts := [], laidByText := true, laidKinds := [.data, .pinned], laidTests := true, laidLooks := .later }
def ColvecTwiceCardSaid : Prop := Claim7.holds Tryd.pinned (.plain (OpenSpec.ofChange colvecTwiceSpec)) colvecTwiceCard

/-- THE TIED CARD OF 'portolanlaw03.ColvecDicts'. -/
def colvecDictsCard : Claim7 := { stood := { row := colvecDictsRow, standIns := [], harness := (true, "ad70a50d73b19893079c6cf4cbd216894e8a6c6e769612286d8d375c5040a314"), looks := true }, kinds := [], alts := [], laidByText := true, laidKinds := [.data, .pinned], laidTests := true, laidLooks := .later }
def ColvecDictsCardSaid : Prop := Claim7.holds Tryd.pinned (.plain (OpenSpec.ofChange colvecDictsSpec)) colvecDictsCard

/-- THE TIED CARD OF 'portolanlaw03.ColvecNulls'. -/
def colvecNullsCard : Claim7 := { stood := { row := colvecNullsRow, standIns := [], harness := (true, "ad70a50d73b19893079c6cf4cbd216894e8a6c6e769612286d8d375c5040a314"), looks := true }, kinds := [], alts := [], laidByText := true, laidKinds := [.data, .pinned], laidTests := true, laidLooks := .later }
def ColvecNullsCardSaid : Prop := Claim7.holds Tryd.pinned (.plain (OpenSpec.ofChange colvecNullsSpec)) colvecNullsCard

/-- THE SECOND FORM's CARD OF 'portolanlaw03.ColvecHolds'. -/
def colvecHoldsUptoCard : Claim7 := { stood := { row := colvecHoldsUptoRow, standIns := [], harness := (true, "ad70a50d73b19893079c6cf4cbd216894e8a6c6e769612286d8d375c5040a314"), looks := true }, kinds := [], alts := [], laidByText := true, laidKinds := [.data, .pinned], laidTests := true, laidLooks := .later }
def ColvecHoldsUptoCardSaid : Prop := Claim7.holds Tryd.pinned (.plain (OpenSpec.upto colvecHoldsSpec)) colvecHoldsUptoCard

/-- THE SECOND FORM's CARD OF 'portolanlaw03.ColvecGathers'. -/
def colvecGathersUptoCard : Claim7 := { stood := { row := colvecGathersUptoRow, standIns := [], harness := (true, "ad70a50d73b19893079c6cf4cbd216894e8a6c6e769612286d8d375c5040a314"), looks := true }, kinds := [], alts := [], laidByText := true, laidKinds := [.data, .pinned], laidTests := true, laidLooks := .later }
def ColvecGathersUptoCardSaid : Prop := Claim7.holds Tryd.pinned (.plain (OpenSpec.upto colvecGathersSpec)) colvecGathersUptoCard

/-- THE SECOND FORM's CARD OF 'portolanlaw03.ColvecTruths'. -/
def colvecTruthsUptoCard : Claim7 := { stood := { row := colvecTruthsUptoRow, standIns := [], harness := (true, "ad70a50d73b19893079c6cf4cbd216894e8a6c6e769612286d8d375c5040a314"), looks := true }, kinds := [], alts := [], laidByText := true, laidKinds := [.data, .pinned], laidTests := true, laidLooks := .later }
def ColvecTruthsUptoCardSaid : Prop := Claim7.holds Tryd.pinned (.plain (OpenSpec.upto colvecTruthsSpec)) colvecTruthsUptoCard

/-- THE SECOND FORM's CARD OF 'portolanlaw03.ColvecTwice'. -/
def colvecTwiceUptoCard : Claim7 := { stood := { row := colvecTwiceUptoRow, standIns := [], harness := (true, "ad70a50d73b19893079c6cf4cbd216894e8a6c6e769612286d8d375c5040a314"), looks := true }, kinds := [], alts := [], laidByText := true, laidKinds := [.data, .pinned], laidTests := true, laidLooks := .later }
def ColvecTwiceUptoCardSaid : Prop := Claim7.holds Tryd.pinned (.plain (OpenSpec.upto colvecTwiceSpec)) colvecTwiceUptoCard

/-- THE SECOND FORM's CARD OF 'portolanlaw03.ColvecDicts'. -/
def colvecDictsUptoCard : Claim7 := { stood := { row := colvecDictsUptoRow, standIns := [], harness := (true, "ad70a50d73b19893079c6cf4cbd216894e8a6c6e769612286d8d375c5040a314"), looks := true }, kinds := [], alts := [], laidByText := true, laidKinds := [.data, .pinned], laidTests := true, laidLooks := .later }
def ColvecDictsUptoCardSaid : Prop := Claim7.holds Tryd.pinned (.plain (OpenSpec.upto colvecDictsSpec)) colvecDictsUptoCard

/-- THE SECOND FORM's CARD OF 'portolanlaw03.ColvecNulls'. -/
def colvecNullsUptoCard : Claim7 := { stood := { row := colvecNullsUptoRow, standIns := [], harness := (true, "ad70a50d73b19893079c6cf4cbd216894e8a6c6e769612286d8d375c5040a314"), looks := true }, kinds := [], alts := [], laidByText := true, laidKinds := [.data, .pinned], laidTests := true, laidLooks := .later }
def ColvecNullsUptoCardSaid : Prop := Claim7.holds Tryd.pinned (.plain (OpenSpec.upto colvecNullsSpec)) colvecNullsUptoCard
end Rows
end Go.Proofs.YtomhgaihmdjdbaaDoor
