/-
  NARROWER THAN 'FOR EVERY INPUT', by the rows' own cells (each row's printed sentence says how): RawgraphNames: laid · RawgraphChecks: laid · RawgraphTurns: laid · RawgraphFirst: laid · RawgraphIDs: laid.
  DERIVED. THE GIVEN ROWS OF THIS SEAT. 5 by the template 'for every input the law returns true; each argument reads behind the call as it read before'; 0 by the template 'total and deterministic' (their statements: YtmioohbailhppaaDoorTotals.lean).
  GIVEN WITH THE SEED: the statements are not yours to turn. If you find one false, say at which input.
  Laid BY PROGRAM, IN A SANDBOX (cutbox-rows.mjs): the forced cells as the released guide's own fill.sh prints them over the translation 2bc1a6c06f4af71d… (all of the seat's roots in one cut). By AI agents, Wed Nov 11 2026. No macro, syntax, notation, axiom, sorry.
-/
import Derived.Test.YtmioohbailhppaaDoorChecked
import GoSem.PinnedTables
import GoSem.Claim
import GoSem.ClaimJoined
import GoSem.ClaimMapViews
import Derived.JoinedTies
import Derived.KernelRfl
namespace Go.Proofs.YtmioohbailhppaaDoor
/- THE CELL 'sum', in the pinned program and in every row, IS THE sha256 OF THE DUMP (.gsa) THAT YtmioohbailhppaaDoorProg.lean LOADS. Nothing in Lean hashes anything: it is a label: what it is worth is what the hold of that sum in a sandbox is worth. -/
noncomputable def Tryd.pinned : Pinned := { name := "ytmioohbailhppaadoor", sum := "2bc1a6c06f4af71d68a01e7f70b996415231e975a1c6959667b087cad68fe1b2", checked := Tryd.checked }
namespace Rows
def none {H : Type} : Left H := { results := [], args := [] }

/- WHAT THE LISTED PACKAGE-LEVEL VARIABLES READ AS WHEN THE CALL BEGINS. Each datum BY PROGRAM (the guide's laid-datum.mjs) off the statement by which the dump's own 'gosem.cut.vars' lays the variable. In a bare row this is a premise. The card (YtmioohbailhppaaDoorCards.lean) ties it to the program's text. -/
def laid_unicode_utf8_acceptRanges {H : Type} : DataW H := .agg [.agg [.lit (.int .u8 128), .lit (.int .u8 191)], .agg [.lit (.int .u8 160), .lit (.int .u8 191)], .agg [.lit (.int .u8 128), .lit (.int .u8 159)], .agg [.lit (.int .u8 144), .lit (.int .u8 191)], .agg [.lit (.int .u8 128), .lit (.int .u8 143)], .agg [.lit (.int .u8 0), .lit (.int .u8 0)], .agg [.lit (.int .u8 0), .lit (.int .u8 0)], .agg [.lit (.int .u8 0), .lit (.int .u8 0)], .agg [.lit (.int .u8 0), .lit (.int .u8 0)], .agg [.lit (.int .u8 0), .lit (.int .u8 0)], .agg [.lit (.int .u8 0), .lit (.int .u8 0)], .agg [.lit (.int .u8 0), .lit (.int .u8 0)], .agg [.lit (.int .u8 0), .lit (.int .u8 0)], .agg [.lit (.int .u8 0), .lit (.int .u8 0)], .agg [.lit (.int .u8 0), .lit (.int .u8 0)], .agg [.lit (.int .u8 0), .lit (.int .u8 0)]]
/-- One of Go's own tables, pinned by name: the form's constant. -/
def laid_unicode_utf8_first : DataW Unit := Go.Pinned.utf8First

/-- 'portolanlaw04.RawgraphNames': WHATEVER THE INPUT: true; the input reads as it did. -/
def rawgraphNamesSpec : ChangeSpec := { name := "rawgraphNames", fn := fun _ => fun
  | [d] => { results := [.lit (.bool true)], args := [d] }
  | _ => none }
def rawgraphNamesRow : OpenClaim := { program := "ytmioohbailhppaadoor", sum := "2bc1a6c06f4af71d68a01e7f70b996415231e975a1c6959667b087cad68fe1b2", func := "portolan/portolanlaw04.RawgraphNames", spec := "rawgraphNames", unfollowed := true, recurses := true, named := ["unicode/utf8.first", "unicode/utf8.acceptRanges"], apart := false, laid := [("unicode/utf8.acceptRanges", laid_unicode_utf8_acceptRanges), ("unicode/utf8.first", laid_unicode_utf8_first)] }
def RawgraphNamesSaid : Prop := rawgraphNamesRow.holds Tryd.pinned (OpenSpec.ofChange rawgraphNamesSpec)

/-- ITS FALSE NEIGHBOUR: 'it returns false'. Refute it at one input. -/
def rawgraphNamesWrong : ChangeSpec := { name := "rawgraphNames", fn := fun _ => fun
  | [d] => { results := [.lit (.bool false)], args := [d] }
  | _ => none }
def RawgraphNamesWrongFalsely : Prop := rawgraphNamesRow.holds Tryd.pinned (OpenSpec.ofChange rawgraphNamesWrong)

/-- 'portolanlaw04.RawgraphChecks': WHATEVER THE INPUT: true; the input reads as it did. -/
def rawgraphChecksSpec : ChangeSpec := { name := "rawgraphChecks", fn := fun _ => fun
  | [d] => { results := [.lit (.bool true)], args := [d] }
  | _ => none }
def rawgraphChecksRow : OpenClaim := { program := "ytmioohbailhppaadoor", sum := "2bc1a6c06f4af71d68a01e7f70b996415231e975a1c6959667b087cad68fe1b2", func := "portolan/portolanlaw04.RawgraphChecks", spec := "rawgraphChecks", unfollowed := true, recurses := true, named := ["unicode/utf8.first", "unicode/utf8.acceptRanges"], apart := false, laid := [("unicode/utf8.acceptRanges", laid_unicode_utf8_acceptRanges), ("unicode/utf8.first", laid_unicode_utf8_first)] }
def RawgraphChecksSaid : Prop := rawgraphChecksRow.holds Tryd.pinned (OpenSpec.ofChange rawgraphChecksSpec)

/-- ITS FALSE NEIGHBOUR: 'it returns false'. Refute it at one input. -/
def rawgraphChecksWrong : ChangeSpec := { name := "rawgraphChecks", fn := fun _ => fun
  | [d] => { results := [.lit (.bool false)], args := [d] }
  | _ => none }
def RawgraphChecksWrongFalsely : Prop := rawgraphChecksRow.holds Tryd.pinned (OpenSpec.ofChange rawgraphChecksWrong)

/-- 'portolanlaw04.RawgraphTurns': WHATEVER THE INPUT: true; the input reads as it did. -/
def rawgraphTurnsSpec : ChangeSpec := { name := "rawgraphTurns", fn := fun _ => fun
  | [d1, d2, d3] => { results := [.lit (.bool true)], args := [d1, d2, d3] }
  | _ => none }
def rawgraphTurnsRow : OpenClaim := { program := "ytmioohbailhppaadoor", sum := "2bc1a6c06f4af71d68a01e7f70b996415231e975a1c6959667b087cad68fe1b2", func := "portolan/portolanlaw04.RawgraphTurns", spec := "rawgraphTurns", unfollowed := true, recurses := true, named := ["unicode/utf8.first", "unicode/utf8.acceptRanges"], apart := false, laid := [("unicode/utf8.acceptRanges", laid_unicode_utf8_acceptRanges), ("unicode/utf8.first", laid_unicode_utf8_first)] }
def RawgraphTurnsSaid : Prop := rawgraphTurnsRow.holds Tryd.pinned (OpenSpec.ofChange rawgraphTurnsSpec)

/-- ITS FALSE NEIGHBOUR: 'it returns false'. Refute it at one input. -/
def rawgraphTurnsWrong : ChangeSpec := { name := "rawgraphTurns", fn := fun _ => fun
  | [d1, d2, d3] => { results := [.lit (.bool false)], args := [d1, d2, d3] }
  | _ => none }
def RawgraphTurnsWrongFalsely : Prop := rawgraphTurnsRow.holds Tryd.pinned (OpenSpec.ofChange rawgraphTurnsWrong)

/-- 'portolanlaw04.RawgraphFirst': WHATEVER THE INPUT: true; the input reads as it did. -/
def rawgraphFirstSpec : ChangeSpec := { name := "rawgraphFirst", fn := fun _ => fun
  | [d1, d2, d3] => { results := [.lit (.bool true)], args := [d1, d2, d3] }
  | _ => none }
def rawgraphFirstRow : OpenClaim := { program := "ytmioohbailhppaadoor", sum := "2bc1a6c06f4af71d68a01e7f70b996415231e975a1c6959667b087cad68fe1b2", func := "portolan/portolanlaw04.RawgraphFirst", spec := "rawgraphFirst", unfollowed := true, recurses := true, named := ["unicode/utf8.first", "unicode/utf8.acceptRanges"], apart := false, laid := [("unicode/utf8.acceptRanges", laid_unicode_utf8_acceptRanges), ("unicode/utf8.first", laid_unicode_utf8_first)] }
def RawgraphFirstSaid : Prop := rawgraphFirstRow.holds Tryd.pinned (OpenSpec.ofChange rawgraphFirstSpec)

/-- ITS FALSE NEIGHBOUR: 'it returns false'. Refute it at one input. -/
def rawgraphFirstWrong : ChangeSpec := { name := "rawgraphFirst", fn := fun _ => fun
  | [d1, d2, d3] => { results := [.lit (.bool false)], args := [d1, d2, d3] }
  | _ => none }
def RawgraphFirstWrongFalsely : Prop := rawgraphFirstRow.holds Tryd.pinned (OpenSpec.ofChange rawgraphFirstWrong)

/-- 'portolanlaw04.RawgraphIDs': WHATEVER THE INPUT: true; the input reads as it did. -/
def rawgraphIDsSpec : ChangeSpec := { name := "rawgraphIDs", fn := fun _ => fun
  | [d1, d2] => { results := [.lit (.bool true)], args := [d1, d2] }
  | _ => none }
def rawgraphIDsRow : OpenClaim := { program := "ytmioohbailhppaadoor", sum := "2bc1a6c06f4af71d68a01e7f70b996415231e975a1c6959667b087cad68fe1b2", func := "portolan/portolanlaw04.RawgraphIDs", spec := "rawgraphIDs", unfollowed := true, recurses := true, named := ["unicode/utf8.first", "unicode/utf8.acceptRanges"], apart := false, laid := [("unicode/utf8.acceptRanges", laid_unicode_utf8_acceptRanges), ("unicode/utf8.first", laid_unicode_utf8_first)] }
def RawgraphIDsSaid : Prop := rawgraphIDsRow.holds Tryd.pinned (OpenSpec.ofChange rawgraphIDsSpec)

/-- ITS FALSE NEIGHBOUR: 'it returns false'. Refute it at one input. -/
def rawgraphIDsWrong : ChangeSpec := { name := "rawgraphIDs", fn := fun _ => fun
  | [d1, d2] => { results := [.lit (.bool false)], args := [d1, d2] }
  | _ => none }
def RawgraphIDsWrongFalsely : Prop := rawgraphIDsRow.holds Tryd.pinned (OpenSpec.ofChange rawgraphIDsWrong)

/- THE SECOND FORM. 'bulk': how many values and letters a reading holds, each counted each time it is reached (what is shared counts as often as it is met; a slice's spare places count too). A statement '..UptoSaid' is the law's where the arguments, and the package variables that the reading takes, are together of bulk at most 1048576: NARROWER than '..Said'. Prove '..Said' where nothing that the law and all that it calls make is longer than what came in: it says more and counts as full. Else prove '..UptoSaid'. A law counts once. -/
mutual
def uptoBulk {H : Type} : DataW H → Nat
  | .lit (.string bytes) => bytes.length + 1
  | .lit _ => 1
  | .nil => 1
  | .ptr d => uptoBulk d + 1
  | .slice elems spare => uptoBulkAll elems + uptoBulkAll spare + 1
  | .agg parts => uptoBulkAll parts + 1
  | .iface _ d => uptoBulk d + 1
  | .map entries => uptoBulkEntries entries + 1
  | .held _ => 1
def uptoBulkAll {H : Type} : List (DataW H) → Nat
  | [] => 0
  | d :: r => uptoBulk d + uptoBulkAll r
def uptoBulkEntries {H : Type} : List (Lit × DataW H) → Nat
  | [] => 0
  | x :: r => uptoBulkEntry x + uptoBulkEntries r
def uptoBulkEntry {H : Type} : Lit × DataW H → Nat
  | (.string bytes, d) => bytes.length + uptoBulk d + 1
  | (_, d) => uptoBulk d + 1
 end
def uptoSmall : (H : Type) → List (DataW H) → Bool := fun _ ds => decide (uptoBulkAll ds ≤ 1048576)
def OpenSpec.upto (s : _root_.Go.ChangeSpec) : _root_.Go.OpenSpec := { _root_.Go.OpenSpec.ofChange s with cond := some uptoSmall }

/-- 'portolanlaw04.RawgraphNames', WHERE WHAT IT READS IS OF BULK AT MOST 1048576: true; the input reads as it did. -/
def rawgraphNamesUptoRow : OpenClaim := { program := "ytmioohbailhppaadoor", sum := "2bc1a6c06f4af71d68a01e7f70b996415231e975a1c6959667b087cad68fe1b2", func := "portolan/portolanlaw04.RawgraphNames", spec := "rawgraphNames", unfollowed := true, recurses := true, named := ["unicode/utf8.first", "unicode/utf8.acceptRanges"], apart := false, laid := [("unicode/utf8.acceptRanges", laid_unicode_utf8_acceptRanges), ("unicode/utf8.first", laid_unicode_utf8_first)], narrowed := true }
def RawgraphNamesUptoSaid : Prop := rawgraphNamesUptoRow.holds Tryd.pinned (OpenSpec.upto rawgraphNamesSpec)

/-- 'portolanlaw04.RawgraphChecks', WHERE WHAT IT READS IS OF BULK AT MOST 1048576: true; the input reads as it did. -/
def rawgraphChecksUptoRow : OpenClaim := { program := "ytmioohbailhppaadoor", sum := "2bc1a6c06f4af71d68a01e7f70b996415231e975a1c6959667b087cad68fe1b2", func := "portolan/portolanlaw04.RawgraphChecks", spec := "rawgraphChecks", unfollowed := true, recurses := true, named := ["unicode/utf8.first", "unicode/utf8.acceptRanges"], apart := false, laid := [("unicode/utf8.acceptRanges", laid_unicode_utf8_acceptRanges), ("unicode/utf8.first", laid_unicode_utf8_first)], narrowed := true }
def RawgraphChecksUptoSaid : Prop := rawgraphChecksUptoRow.holds Tryd.pinned (OpenSpec.upto rawgraphChecksSpec)

/-- 'portolanlaw04.RawgraphTurns', WHERE WHAT IT READS IS OF BULK AT MOST 1048576: true; the input reads as it did. -/
def rawgraphTurnsUptoRow : OpenClaim := { program := "ytmioohbailhppaadoor", sum := "2bc1a6c06f4af71d68a01e7f70b996415231e975a1c6959667b087cad68fe1b2", func := "portolan/portolanlaw04.RawgraphTurns", spec := "rawgraphTurns", unfollowed := true, recurses := true, named := ["unicode/utf8.first", "unicode/utf8.acceptRanges"], apart := false, laid := [("unicode/utf8.acceptRanges", laid_unicode_utf8_acceptRanges), ("unicode/utf8.first", laid_unicode_utf8_first)], narrowed := true }
def RawgraphTurnsUptoSaid : Prop := rawgraphTurnsUptoRow.holds Tryd.pinned (OpenSpec.upto rawgraphTurnsSpec)

/-- 'portolanlaw04.RawgraphFirst', WHERE WHAT IT READS IS OF BULK AT MOST 1048576: true; the input reads as it did. -/
def rawgraphFirstUptoRow : OpenClaim := { program := "ytmioohbailhppaadoor", sum := "2bc1a6c06f4af71d68a01e7f70b996415231e975a1c6959667b087cad68fe1b2", func := "portolan/portolanlaw04.RawgraphFirst", spec := "rawgraphFirst", unfollowed := true, recurses := true, named := ["unicode/utf8.first", "unicode/utf8.acceptRanges"], apart := false, laid := [("unicode/utf8.acceptRanges", laid_unicode_utf8_acceptRanges), ("unicode/utf8.first", laid_unicode_utf8_first)], narrowed := true }
def RawgraphFirstUptoSaid : Prop := rawgraphFirstUptoRow.holds Tryd.pinned (OpenSpec.upto rawgraphFirstSpec)

/-- 'portolanlaw04.RawgraphIDs', WHERE WHAT IT READS IS OF BULK AT MOST 1048576: true; the input reads as it did. -/
def rawgraphIDsUptoRow : OpenClaim := { program := "ytmioohbailhppaadoor", sum := "2bc1a6c06f4af71d68a01e7f70b996415231e975a1c6959667b087cad68fe1b2", func := "portolan/portolanlaw04.RawgraphIDs", spec := "rawgraphIDs", unfollowed := true, recurses := true, named := ["unicode/utf8.first", "unicode/utf8.acceptRanges"], apart := false, laid := [("unicode/utf8.acceptRanges", laid_unicode_utf8_acceptRanges), ("unicode/utf8.first", laid_unicode_utf8_first)], narrowed := true }
def RawgraphIDsUptoSaid : Prop := rawgraphIDsUptoRow.holds Tryd.pinned (OpenSpec.upto rawgraphIDsSpec)

end Rows
end Go.Proofs.YtmioohbailhppaaDoor
