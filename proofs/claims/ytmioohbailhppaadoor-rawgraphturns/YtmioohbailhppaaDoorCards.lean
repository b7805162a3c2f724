/-
  DERIVED. GIVEN WITH THE SEED: THE CARDS: each row of YtmioohbailhppaaDoorRows.lean that lists a variable, with what it lists TIED to the program's text (the seventh form; the later family's looks); each row that meets fmt, with fmt's text TOLD by the authors' own Lean function (tested against real Go, not proved from fmt's source: count such statements apart). THE CARD IS WHAT COUNTS. Prove the row's statement (the work); the ties are given (YtmioohbailhppaaDoorTie.lean); close each card by the builder's one call (the guide's Derived/Test/ToyasCard.lean, 'card_holds'). Laid BY PROGRAM, IN A SANDBOX (cutbox-door.mjs). By AI agents, Wed Nov 11 2026. No macro, syntax, notation, axiom, sorry.
-/
import Derived.Test.YtmioohbailhppaaDoorRows
import GoSem.ClaimSeven
namespace Go.Proofs.YtmioohbailhppaaDoor
namespace Rows

/-- THE TIED CARD OF 'portolanlaw04.RawgraphNames'. -/
def rawgraphNamesCard : Claim7 := { stood := { row := rawgraphNamesRow, standIns := [], harness := (true, "b5a7fc941816db28b5befd43eefbf4f612d2b2fef52fdd3790d44982791360ec"), looks := false }, kinds := [], alts := [], laidByText := true, laidKinds := [.data, .pinned], laidTests := true, laidLooks := .later }
def RawgraphNamesCardSaid : Prop := Claim7.holds Tryd.pinned (.plain (OpenSpec.ofChange rawgraphNamesSpec)) rawgraphNamesCard

/-- THE TIED CARD OF 'portolanlaw04.RawgraphChecks'. -/
def rawgraphChecksCard : Claim7 := { stood := { row := rawgraphChecksRow, standIns := [], harness := (true, "b5a7fc941816db28b5befd43eefbf4f612d2b2fef52fdd3790d44982791360ec"), looks := false }, kinds := [], alts := [], laidByText := true, laidKinds := [.data, .pinned], laidTests := true, laidLooks := .later }
def RawgraphChecksCardSaid : Prop := Claim7.holds Tryd.pinned (.plain (OpenSpec.ofChange rawgraphChecksSpec)) rawgraphChecksCard

/-- THE TIED CARD OF 'portolanlaw04.RawgraphTurns'. -/
def rawgraphTurnsCard : Claim7 := { stood := { row := rawgraphTurnsRow, standIns := [], harness := (true, "b5a7fc941816db28b5befd43eefbf4f612d2b2fef52fdd3790d44982791360ec"), looks := false }, kinds := [], alts := [], laidByText := true, laidKinds := [.data, .pinned], laidTests := true, laidLooks := .later }
def RawgraphTurnsCardSaid : Prop := Claim7.holds Tryd.pinned (.plain (OpenSpec.ofChange rawgraphTurnsSpec)) rawgraphTurnsCard

/-- THE TIED CARD OF 'portolanlaw04.RawgraphFirst'. -/
def rawgraphFirstCard : Claim7 := { stood := { row := rawgraphFirstRow, standIns := [], harness := (true, "b5a7fc941816db28b5befd43eefbf4f612d2b2fef52fdd3790d44982791360ec"), looks := false }, kinds := [], alts := [], laidByText := true, laidKinds := [.data, .pinned], laidTests := true, laidLooks := .later }
def RawgraphFirstCardSaid : Prop := Claim7.holds Tryd.pinned (.plain (OpenSpec.ofChange rawgraphFirstSpec)) rawgraphFirstCard

/-- THE TIED CARD OF 'portolanlaw04.RawgraphIDs'. -/
def rawgraphIDsCard : Claim7 := { stood := { row := rawgraphIDsRow, standIns := [], harness := (true, "b5a7fc941816db28b5befd43eefbf4f612d2b2fef52fdd3790d44982791360ec"), looks := false }, kinds := [], alts := [], laidByText := true, laidKinds := [.data, .pinned], laidTests := true, laidLooks := .later }
def RawgraphIDsCardSaid : Prop := Claim7.holds Tryd.pinned (.plain (OpenSpec.ofChange rawgraphIDsSpec)) rawgraphIDsCard

/-- THE SECOND FORM's CARD OF 'portolanlaw04.RawgraphNames'. -/
def rawgraphNamesUptoCard : Claim7 := { stood := { row := rawgraphNamesUptoRow, standIns := [], harness := (true, "b5a7fc941816db28b5befd43eefbf4f612d2b2fef52fdd3790d44982791360ec"), looks := false }, kinds := [], alts := [], laidByText := true, laidKinds := [.data, .pinned], laidTests := true, laidLooks := .later }
def RawgraphNamesUptoCardSaid : Prop := Claim7.holds Tryd.pinned (.plain (OpenSpec.upto rawgraphNamesSpec)) rawgraphNamesUptoCard

/-- THE SECOND FORM's CARD OF 'portolanlaw04.RawgraphChecks'. -/
def rawgraphChecksUptoCard : Claim7 := { stood := { row := rawgraphChecksUptoRow, standIns := [], harness := (true, "b5a7fc941816db28b5befd43eefbf4f612d2b2fef52fdd3790d44982791360ec"), looks := false }, kinds := [], alts := [], laidByText := true, laidKinds := [.data, .pinned], laidTests := true, laidLooks := .later }
def RawgraphChecksUptoCardSaid : Prop := Claim7.holds Tryd.pinned (.plain (OpenSpec.upto rawgraphChecksSpec)) rawgraphChecksUptoCard

/-- THE SECOND FORM's CARD OF 'portolanlaw04.RawgraphTurns'. -/
def rawgraphTurnsUptoCard : Claim7 := { stood := { row := rawgraphTurnsUptoRow, standIns := [], harness := (true, "b5a7fc941816db28b5befd43eefbf4f612d2b2fef52fdd3790d44982791360ec"), looks := false }, kinds := [], alts := [], laidByText := true, laidKinds := [.data, .pinned], laidTests := true, laidLooks := .later }
def RawgraphTurnsUptoCardSaid : Prop := Claim7.holds Tryd.pinned (.plain (OpenSpec.upto rawgraphTurnsSpec)) rawgraphTurnsUptoCard

/-- THE SECOND FORM's CARD OF 'portolanlaw04.RawgraphFirst'. -/
def rawgraphFirstUptoCard : Claim7 := { stood := { row := rawgraphFirstUptoRow, standIns := [], harness := (true, "b5a7fc941816db28b5befd43eefbf4f612d2b2fef52fdd3790d44982791360ec"), looks := false }, kinds := [], alts := [], laidByText := true, laidKinds := [.data, .pinned], laidTests := true, laidLooks := .later }
def RawgraphFirstUptoCardSaid : Prop := Claim7.holds Tryd.pinned (.plain (OpenSpec.upto rawgraphFirstSpec)) rawgraphFirstUptoCard

/-- THE SECOND FORM's CARD OF 'portolanlaw04.RawgraphIDs'. -/
def rawgraphIDsUptoCard : Claim7 := { stood := { row := rawgraphIDsUptoRow, standIns := [], harness := (true, "b5a7fc941816db28b5befd43eefbf4f612d2b2fef52fdd3790d44982791360ec"), looks := false }, kinds := [], alts := [], laidByText := true, laidKinds := [.data, .pinned], laidTests := true, laidLooks := .later }
def RawgraphIDsUptoCardSaid : Prop := Claim7.holds Tryd.pinned (.plain (OpenSpec.upto rawgraphIDsSpec)) rawgraphIDsUptoCard
end Rows
end Go.Proofs.YtmioohbailhppaaDoor
