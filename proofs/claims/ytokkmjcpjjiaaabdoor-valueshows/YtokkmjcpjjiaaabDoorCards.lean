/-
  DERIVED. GIVEN WITH THE SEED: THE CARDS: each row of YtokkmjcpjjiaaabDoorRows.lean that lists a variable, with what it lists TIED to the program's text (the seventh form; the later family's looks); each row that meets fmt, with fmt's text TOLD by the authors' own Lean function (tested against real Go, not proved from fmt's source: count such statements apart). THE CARD IS WHAT COUNTS. Prove the row's statement (the work); the ties are given (YtokkmjcpjjiaaabDoorTie.lean); close each card by the builder's one call (the guide's Derived/Test/ToyasCard.lean, 'card_holds'). Laid BY PROGRAM, IN A SANDBOX (cutbox-door.mjs). By AI agents, Wed Nov 11 2026. No macro, syntax, notation, axiom, sorry.
-/
import Derived.Test.YtokkmjcpjjiaaabDoorRows
import GoSem.ClaimSeven
namespace Go.Proofs.YtokkmjcpjjiaaabDoor
namespace Rows

/-- THE TIED CARD OF 'portolanlaw02.ValueBack'. -/
def valueBackCard : Claim7 := { stood := { row := valueBackRow, standIns := [], harness := (true, "0bb919f3a2be78bf68102b38d8613f4a41126798c1ff976fa38596d613cd6ef4"), looks := false }, kinds := [], alts := [], laidByText := true, laidKinds := [.data, .data, .data, .data, .pinned], laidTests := true, laidLooks := .later }
def ValueBackCardSaid : Prop := Claim7.holds Tryd.pinned (.plain (OpenSpec.ofChange valueBackSpec)) valueBackCard

/-- THE TIED CARD OF 'portolanlaw02.ValueRights'. -/
def valueRightsCard : Claim7 := { stood := { row := valueRightsRow, standIns := [], harness := (true, "0bb919f3a2be78bf68102b38d8613f4a41126798c1ff976fa38596d613cd6ef4"), looks := false }, kinds := [], alts := [], laidByText := true, laidKinds := [.data, .data, .data, .data, .pinned], laidTests := true, laidLooks := .later }
def ValueRightsCardSaid : Prop := Claim7.holds Tryd.pinned (.plain (OpenSpec.ofChange valueRightsSpec)) valueRightsCard

/-- THE TIED CARD OF 'portolanlaw02.ValueShows'. -/
def valueShowsCard : Claim7 := { stood := { row := valueShowsRow, standIns := [], harness := (true, "0bb919f3a2be78bf68102b38d8613f4a41126798c1ff976fa38596d613cd6ef4"), looks := false }, kinds := [], alts := [], laidByText := true, laidKinds := [.data, .data, .data, .data, .pinned], laidTests := true, laidLooks := .later }
def ValueShowsCardSaid : Prop := Claim7.holds Tryd.pinned (.plain (OpenSpec.ofChange valueShowsSpec)) valueShowsCard

/-- THE TIED CARD OF 'portolanlaw02.ValueEncodes'. -/
def valueEncodesCard : Claim7 := { stood := { row := valueEncodesRow, standIns := [], harness := (true, "0bb919f3a2be78bf68102b38d8613f4a41126798c1ff976fa38596d613cd6ef4"), looks := false }, kinds := [], alts := [], laidByText := true, laidKinds := [.data, .data, .data, .data, .pinned], laidTests := true, laidLooks := .later }
def ValueEncodesCardSaid : Prop := Claim7.holds Tryd.pinned (.plain (OpenSpec.ofChange valueEncodesSpec)) valueEncodesCard

/-- THE TIED CARD OF 'portolanlaw02.ValueHashes'. -/
def valueHashesCard : Claim7 := { stood := { row := valueHashesRow, standIns := [], harness := (true, "0bb919f3a2be78bf68102b38d8613f4a41126798c1ff976fa38596d613cd6ef4"), looks := false }, kinds := [], alts := [], laidByText := true, laidKinds := [.data, .data, .data, .data, .pinned], laidTests := true, laidLooks := .later }
def ValueHashesCardSaid : Prop := Claim7.holds Tryd.pinned (.plain (OpenSpec.ofChange valueHashesSpec)) valueHashesCard

/-- THE TIED CARD OF 'portolanlaw02.ValueAnds'. -/
def valueAndsCard : Claim7 := { stood := { row := valueAndsRow, standIns := [], harness := (true, "0bb919f3a2be78bf68102b38d8613f4a41126798c1ff976fa38596d613cd6ef4"), looks := false }, kinds := [], alts := [], laidByText := true, laidKinds := [.data, .data, .data, .data, .pinned], laidTests := true, laidLooks := .later }
def ValueAndsCardSaid : Prop := Claim7.holds Tryd.pinned (.plain (OpenSpec.ofChange valueAndsSpec)) valueAndsCard

/-- THE SECOND FORM's CARD OF 'portolanlaw02.ValueBack'. -/
def valueBackUptoCard : Claim7 := { stood := { row := valueBackUptoRow, standIns := [], harness := (true, "0bb919f3a2be78bf68102b38d8613f4a41126798c1ff976fa38596d613cd6ef4"), looks := false }, kinds := [], alts := [], laidByText := true, laidKinds := [.data, .data, .data, .data, .pinned], laidTests := true, laidLooks := .later }
def ValueBackUptoCardSaid : Prop := Claim7.holds Tryd.pinned (.plain (OpenSpec.upto valueBackSpec)) valueBackUptoCard

/-- THE SECOND FORM's CARD OF 'portolanlaw02.ValueRights'. -/
def valueRightsUptoCard : Claim7 := { stood := { row := valueRightsUptoRow, standIns := [], harness := (true, "0bb919f3a2be78bf68102b38d8613f4a41126798c1ff976fa38596d613cd6ef4"), looks := false }, kinds := [], alts := [], laidByText := true, laidKinds := [.data, .data, .data, .data, .pinned], laidTests := true, laidLooks := .later }
def ValueRightsUptoCardSaid : Prop := Claim7.holds Tryd.pinned (.plain (OpenSpec.upto valueRightsSpec)) valueRightsUptoCard

/-- THE SECOND FORM's CARD OF 'portolanlaw02.ValueShows'. -/
def valueShowsUptoCard : Claim7 := { stood := { row := valueShowsUptoRow, standIns := [], harness := (true, "0bb919f3a2be78bf68102b38d8613f4a41126798c1ff976fa38596d613cd6ef4"), looks := false }, kinds := [], alts := [], laidByText := true, laidKinds := [.data, .data, .data, .data, .pinned], laidTests := true, laidLooks := .later }
def ValueShowsUptoCardSaid : Prop := Claim7.holds Tryd.pinned (.plain (OpenSpec.upto valueShowsSpec)) valueShowsUptoCard

/-- THE SECOND FORM's CARD OF 'portolanlaw02.ValueEncodes'. -/
def valueEncodesUptoCard : Claim7 := { stood := { row := valueEncodesUptoRow, standIns := [], harness := (true, "0bb919f3a2be78bf68102b38d8613f4a41126798c1ff976fa38596d613cd6ef4"), looks := false }, kinds := [], alts := [], laidByText := true, laidKinds := [.data, .data, .data, .data, .pinned], laidTests := true, laidLooks := .later }
def ValueEncodesUptoCardSaid : Prop := Claim7.holds Tryd.pinned (.plain (OpenSpec.upto valueEncodesSpec)) valueEncodesUptoCard

/-- THE SECOND FORM's CARD OF 'portolanlaw02.ValueHashes'. -/
def valueHashesUptoCard : Claim7 := { stood := { row := valueHashesUptoRow, standIns := [], harness := (true, "0bb919f3a2be78bf68102b38d8613f4a41126798c1ff976fa38596d613cd6ef4"), looks := false }, kinds := [], alts := [], laidByText := true, laidKinds := [.data, .data, .data, .data, .pinned], laidTests := true, laidLooks := .later }
def ValueHashesUptoCardSaid : Prop := Claim7.holds Tryd.pinned (.plain (OpenSpec.upto valueHashesSpec)) valueHashesUptoCard

/-- THE SECOND FORM's CARD OF 'portolanlaw02.ValueAnds'. -/
def valueAndsUptoCard : Claim7 := { stood := { row := valueAndsUptoRow, standIns := [], harness := (true, "0bb919f3a2be78bf68102b38d8613f4a41126798c1ff976fa38596d613cd6ef4"), looks := false }, kinds := [], alts := [], laidByText := true, laidKinds := [.data, .data, .data, .data, .pinned], laidTests := true, laidLooks := .later }
def ValueAndsUptoCardSaid : Prop := Claim7.holds Tryd.pinned (.plain (OpenSpec.upto valueAndsSpec)) valueAndsUptoCard
end Rows
end Go.Proofs.YtokkmjcpjjiaaabDoor
