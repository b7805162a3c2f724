/-
  NARROWER THAN 'FOR EVERY INPUT', by the rows' own cells (each row's printed sentence says how): ColvecHolds: laid · ColvecGathers: laid · ColvecTruths: laid · ColvecTwice: laid · ColvecDicts: laid · ColvecNulls: laid.
  DERIVED. THE GIVEN ROWS OF THIS SEAT. 6 by the template 'for every input the law returns true; each argument reads behind the call as it read before'; 0 by the template 'total and deterministic' (their statements: YtomhgaihmdjdbaaDoorTotals.lean).
  GIVEN WITH THE SEED: the statements are not yours to turn. If you find one false, say at which input.
  Laid BY PROGRAM, IN A SANDBOX (cutbox-rows.mjs): the forced cells as the released guide's own fill.sh prints them over the translation 9ee70a616ab5eda7… (all of the seat's roots in one cut). By AI agents, Wed Nov 11 2026. No macro, syntax, notation, axiom, sorry.
-/
import Derived.Test.YtomhgaihmdjdbaaDoorChecked
import GoSem.PinnedTables
import GoSem.Claim
import GoSem.ClaimJoined
import GoSem.ClaimMapViews
import Derived.JoinedTies
import Derived.KernelRfl
namespace Go.Proofs.YtomhgaihmdjdbaaDoor
/- THE CELL 'sum', in the pinned program and in every row, IS THE sha256 OF THE DUMP (.gsa) THAT YtomhgaihmdjdbaaDoorProg.lean LOADS. Nothing in Lean hashes anything: it is a label: what it is worth is what the hold of that sum in a sandbox is worth. -/
noncomputable def Tryd.pinned : Pinned := { name := "ytomhgaihmdjdbaadoor", sum := "9ee70a616ab5eda7a68d251b7c5346c3d3aaaca7b1b139cff877d4f5ecde5082", checked := Tryd.checked }
namespace Rows
def none {H : Type} : Left H := { results := [], args := [] }

/- WHAT THE LISTED PACKAGE-LEVEL VARIABLES READ AS WHEN THE CALL BEGINS. Each datum BY PROGRAM (the guide's laid-datum.mjs) off the statement by which the dump's own 'gosem.cut.vars' lays the variable. In a bare row this is a premise. The card (YtomhgaihmdjdbaaDoorCards.lean) ties it to the program's text. -/
def laid_unicode_utf8_acceptRanges {H : Type} : DataW H := .agg [.agg [.lit (.int .u8 128), .lit (.int .u8 191)], .agg [.lit (.int .u8 160), .lit (.int .u8 191)], .agg [.lit (.int .u8 128), .lit (.int .u8 159)], .agg [.lit (.int .u8 144), .lit (.int .u8 191)], .agg [.lit (.int .u8 128), .lit (.int .u8 143)], .agg [.lit (.int .u8 0), .lit (.int .u8 0)], .agg [.lit (.int .u8 0), .lit (.int .u8 0)], .agg [.lit (.int .u8 0), .lit (.int .u8 0)], .agg [.lit (.int .u8 0), .lit (.int .u8 0)], .agg [.lit (.int .u8 0), .lit (.int .u8 0)], .agg [.lit (.int .u8 0), .lit (.int .u8 0)], .agg [.lit (.int .u8 0), .lit (.int .u8 0)], .agg [.lit (.int .u8 0), .lit (.int .u8 0)], .agg [.lit (.int .u8 0), .lit (.int .u8 0)], .agg [.lit (.int .u8 0), .lit (.int .u8 0)], .agg [.lit (.int .u8 0), .lit (.int .u8 0)]]
/-- One of Go's own tables, pinned by name: the form's constant. -/
def laid_unicode_utf8_first : DataW Unit := Go.Pinned.utf8First

/-- 'portolanlaw03.ColvecHolds': WHATEVER THE INPUT: true; the input reads as it did. -/
def colvecHoldsSpec : ChangeSpec := { name := "colvecHolds", fn := fun _ => fun
  | [d1, d2] => { results := [.lit (.bool true)], args := [d1, d2] }
  | _ => none }
def colvecHoldsRow : OpenClaim := { program := "ytomhgaihmdjdbaadoor", sum := "9ee70a616ab5eda7a68d251b7c5346c3d3aaaca7b1b139cff877d4f5ecde5082", func := "portolan/portolanlaw03.ColvecHolds", spec := "colvecHolds", named := ["unicode/utf8.first", "unicode/utf8.acceptRanges"], apart := false, laid := [("unicode/utf8.acceptRanges", laid_unicode_utf8_acceptRanges), ("unicode/utf8.first", laid_unicode_utf8_first)] }
def ColvecHoldsSaid : Prop := colvecHoldsRow.holds Tryd.pinned (OpenSpec.ofChange colvecHoldsSpec)

/-- ITS FALSE NEIGHBOUR: 'it returns false'. Refute it at one input. -/
def colvecHoldsWrong : ChangeSpec := { name := "colvecHolds", fn := fun _ => fun
  | [d1, d2] => { results := [.lit (.bool false)], args := [d1, d2] }
  | _ => none }
def ColvecHoldsWrongFalsely : Prop := colvecHoldsRow.holds Tryd.pinned (OpenSpec.ofChange colvecHoldsWrong)

/-- 'portolanlaw03.ColvecGathers': WHATEVER THE INPUT: true; the input reads as it did. -/
def colvecGathersSpec : ChangeSpec := { name := "colvecGathers", fn := fun _ => fun
  | [d1, d2, d3, d4, d5] => { results := [.lit (.bool true)], args := [d1, d2, d3, d4, d5] }
  | _ => none }
def colvecGathersRow : OpenClaim := { program := "ytomhgaihmdjdbaadoor", sum := "9ee70a616ab5eda7a68d251b7c5346c3d3aaaca7b1b139cff877d4f5ecde5082", func := "portolan/portolanlaw03.ColvecGathers", spec := "colvecGathers", inPlace := ["maps.clone"], named := ["unicode/utf8.first", "unicode/utf8.acceptRanges"], apart := false, laid := [("unicode/utf8.acceptRanges", laid_unicode_utf8_acceptRanges), ("unicode/utf8.first", laid_unicode_utf8_first)] }
def ColvecGathersSaid : Prop := colvecGathersRow.holds Tryd.pinned (OpenSpec.ofChange colvecGathersSpec)

/-- ITS FALSE NEIGHBOUR: 'it returns false'. Refute it at one input. -/
def colvecGathersWrong : ChangeSpec := { name := "colvecGathers", fn := fun _ => fun
  | [d1, d2, d3, d4, d5] => { results := [.lit (.bool false)], args := [d1, d2, d3, d4, d5] }
  | _ => none }
def ColvecGathersWrongFalsely : Prop := colvecGathersRow.holds Tryd.pinned (OpenSpec.ofChange colvecGathersWrong)

/-- 'portolanlaw03.ColvecTruths': WHATEVER THE INPUT: true; the input reads as it did. -/
def colvecTruthsSpec : ChangeSpec := { name := "colvecTruths", fn := fun _ => fun
  | [d] => { results := [.lit (.bool true)], args := [d] }
  | _ => none }
def colvecTruthsRow : OpenClaim := { program := "ytomhgaihmdjdbaadoor", sum := "9ee70a616ab5eda7a68d251b7c5346c3d3aaaca7b1b139cff877d4f5ecde5082", func := "portolan/portolanlaw03.ColvecTruths", spec := "colvecTruths", unfollowed := true, recurses := true, named := ["unicode/utf8.first", "unicode/utf8.acceptRanges"], apart := false, laid := [("unicode/utf8.acceptRanges", laid_unicode_utf8_acceptRanges), ("unicode/utf8.first", laid_unicode_utf8_first)] }
def ColvecTruthsSaid : Prop := colvecTruthsRow.holds Tryd.pinned (OpenSpec.ofChange colvecTruthsSpec)

/-- ITS FALSE NEIGHBOUR: 'it returns false'. Refute it at one input. -/
def colvecTruthsWrong : ChangeSpec := { name := "colvecTruths", fn := fun _ => fun
  | [d] => { results := [.lit (.bool false)], args := [d] }
  | _ => none }
def ColvecTruthsWrongFalsely : Prop := colvecTruthsRow.holds Tryd.pinned (OpenSpec.ofChange colvecTruthsWrong)

/-- 'portolanlaw03.ColvecTwice': WHATEVER THE INPUT: true; the input reads as it did. -/
def colvecTwiceSpec : ChangeSpec := { name := "colvecTwice", fn := fun _ => fun
  | [d1, d2, d3, d4] => { results := [.lit (.bool true)], args := [d1, d2, d3, d4] }
  | _ => none }
def colvecTwiceRow : OpenClaim := { program := "ytomhgaihmdjdbaadoor", sum := "9ee70a616ab5eda7a68d251b7c5346c3d3aaaca7b1b139cff877d4f5ecde5082", func := "portolan/portolanlaw03.ColvecTwice", spec := "colvecTwice", named := ["unicode/utf8.first", "unicode/utf8.acceptRanges"], apart := false, laid := [("unicode/utf8.acceptRanges", laid_unicode_utf8_acceptRanges), ("unicode/utf8.first", laid_unicode_utf8_first)] }
def ColvecTwiceSaid : Prop := colvecTwiceRow.holds Tryd.pinned (OpenSpec.ofChange colvecTwiceSpec)

/-- ITS FALSE NEIGHBOUR: 'it returns false'. Refute it at one input. -/
def colvecTwiceWrong : ChangeSpec := { name := "colvecTwice", fn := fun _ => fun
  | [d1, d2, d3, d4] => { results := [.lit (.bool false)], args := [d1, d2, d3, d4] }
  | _ => none }
def ColvecTwiceWrongFalsely : Prop := colvecTwiceRow.holds Tryd.pinned (OpenSpec.ofChange colvecTwiceWrong)

/-- 'portolanlaw03.ColvecDicts': WHATEVER THE INPUT: true; the input reads as it did. -/
def colvecDictsSpec : ChangeSpec := { name := "colvecDicts", fn := fun _ => fun
  | [d1, d2] => { results := [.lit (.bool true)], args := [d1, d2] }
  | _ => none }
def colvecDictsRow : OpenClaim := { program := "ytomhgaihmdjdbaadoor", sum := "9ee70a616ab5eda7a68d251b7c5346c3d3aaaca7b1b139cff877d4f5ecde5082", func := "portolan/portolanlaw03.ColvecDicts", spec := "colvecDicts", named := ["unicode/utf8.first", "unicode/utf8.acceptRanges"], apart := false, laid := [("unicode/utf8.acceptRanges", laid_unicode_utf8_acceptRanges), ("unicode/utf8.first", laid_unicode_utf8_first)] }
def ColvecDictsSaid : Prop := colvecDictsRow.holds Tryd.pinned (OpenSpec.ofChange colvecDictsSpec)

/-- ITS FALSE NEIGHBOUR: 'it returns false'. Refute it at one input. -/
def colvecDictsWrong : ChangeSpec := { name := "colvecDicts", fn := fun _ => fun
  | [d1, d2] => { results := [.lit (.bool false)], args := [d1, d2] }
  | _ => none }
def ColvecDictsWrongFalsely : Prop := colvecDictsRow.holds Tryd.pinned (OpenSpec.ofChange colvecDictsWrong)

/-- 'portolanlaw03.ColvecNulls': WHATEVER THE INPUT: true; the input reads as it did. -/
def colvecNullsSpec : ChangeSpec := { name := "colvecNulls", fn := fun _ => fun
  | [d1, d2] => { results := [.lit (.bool true)], args := [d1, d2] }
  | _ => none }
def colvecNullsRow : OpenClaim := { program := "ytomhgaihmdjdbaadoor", sum := "9ee70a616ab5eda7a68d251b7c5346c3d3aaaca7b1b139cff877d4f5ecde5082", func := "portolan/portolanlaw03.ColvecNulls", spec := "colvecNulls", named := ["unicode/utf8.first", "unicode/utf8.acceptRanges"], apart := false, laid := [("unicode/utf8.acceptRanges", laid_unicode_utf8_acceptRanges), ("unicode/utf8.first", laid_unicode_utf8_first)] }
def ColvecNullsSaid : Prop := colvecNullsRow.holds Tryd.pinned (OpenSpec.ofChange colvecNullsSpec)

/-- ITS FALSE NEIGHBOUR: 'it returns false'. Refute it at one input. -/
def colvecNullsWrong : ChangeSpec := { name := "colvecNulls", fn := fun _ => fun
  | [d1, d2] => { results := [.lit (.bool false)], args := [d1, d2] }
  | _ => none }
def ColvecNullsWrongFalsely : Prop := colvecNullsRow.holds Tryd.pinned (OpenSpec.ofChange colvecNullsWrong)

/- THE SECOND FORM. 'bulk': how many values and letters a reading holds, each counted each time it is reached (what is shared counts as often as it is met; a slice's spare places count too). A statement '..UptoSaid' is the law's where the arguments, and the package variables that the reading takes, are together of bulk at most 1048576: NARROWER than '..Said'. Prove '..Said' where nothing that the law and all that it calls make is longer than what came in: it says more and counts as full. Else prove '..UptoSaid'. A law counts once. -/
mutual
def uptoBulk {H : Type} : DataW H → Nat
  | .lit (.string bytes) => bytes.length + 1
  | .lit _ => 1
  | .nil => 1
  | .ptr d => uptoBulk d + 1
  | .slice elems spare => uptoBulkAll elems + uptoBulkAll spare + 1
  | .agg parts => uptoBulkAll parts + 1
  | .iface _ d => uptoBulk d + 1
  | .map entries => uptoBulkEntries entries + 1
  | .held _ => 1
def uptoBulkAll {H : Type} : List (DataW H) → Nat
  | [] => 0
  | d :: r => uptoBulk d + uptoBulkAll r
def uptoBulkEntries {H : Type} : List (Lit × DataW H) → Nat
  | [] => 0
  | x :: r => uptoBulkEntry x + uptoBulkEntries r
def uptoBulkEntry {H : Type} : Lit × DataW H → Nat
  | (.string bytes, d) => bytes.length + uptoBulk d + 1
  | (_, d) => uptoBulk d + 1
 end
def uptoSmall : (H : Type) → List (DataW H) → Bool := fun _ ds => decide (uptoBulkAll ds ≤ 1048576)
def OpenSpec.upto (s : _root_.Go.ChangeSpec) : _root_.Go.OpenSpec := { _root_.Go.OpenSpec.ofChange s with cond := some uptoSmall }

/-- 'portolanlaw03.ColvecHolds', WHERE WHAT IT READS IS OF BULK AT MOST 1048576: true; the input reads as it did. -/
def colvecHoldsUptoRow : OpenClaim := { program := "ytomhgaihmdjdbaadoor", sum := "9ee70a616ab5eda7a68d251b7c5346c3d3aaaca7b1b139cff877d4f5ecde5082", func := "portolan/portolanlaw03.ColvecHolds", spec := "colvecHolds", named := ["unicode/utf8.first", "unicode/utf8.acceptRanges"], apart := false, laid := [("unicode/utf8.acceptRanges", laid_unicode_utf8_acceptRanges), ("unicode/utf8.first", laid_unicode_utf8_first)], narrowed := true }
def ColvecHoldsUptoSaid : Prop := colvecHoldsUptoRow.holds Tryd.pinned (OpenSpec.upto colvecHoldsSpec)

/-- 'portolanlaw03.ColvecGathers', WHERE WHAT IT READS IS OF BULK AT MOST 1048576: true; the input reads as it did. -/
def colvecGathersUptoRow : OpenClaim := { program := "ytomhgaihmdjdbaadoor", sum := "9ee70a616ab5eda7a68d251b7c5346c3d3aaaca7b1b139cff877d4f5ecde5082", func := "portolan/portolanlaw03.ColvecGathers", spec := "colvecGathers", inPlace := ["maps.clone"], named := ["unicode/utf8.first", "unicode/utf8.acceptRanges"], apart := false, laid := [("unicode/utf8.acceptRanges", laid_unicode_utf8_acceptRanges), ("unicode/utf8.first", laid_unicode_utf8_first)], narrowed := true }
def ColvecGathersUptoSaid : Prop := colvecGathersUptoRow.holds Tryd.pinned (OpenSpec.upto colvecGathersSpec)

/-- 'portolanlaw03.ColvecTruths', WHERE WHAT IT READS IS OF BULK AT MOST 1048576: true; the input reads as it did. -/
def colvecTruthsUptoRow : OpenClaim := { program := "ytomhgaihmdjdbaadoor", sum := "9ee70a616ab5eda7a68d251b7c5346c3d3aaaca7b1b139cff877d4f5ecde5082", func := "portolan/portolanlaw03.ColvecTruths", spec := "colvecTruths", unfollowed := true, recurses := true, named := ["unicode/utf8.first", "unicode/utf8.acceptRanges"], apart := false, laid := [("unicode/utf8.acceptRanges", laid_unicode_utf8_acceptRanges), ("unicode/utf8.first", laid_unicode_utf8_first)], narrowed := true }
def ColvecTruthsUptoSaid : Prop := colvecTruthsUptoRow.holds Tryd.pinned (OpenSpec.upto colvecTruthsSpec)

/-- 'portolanlaw03.ColvecTwice', WHERE WHAT IT READS IS OF BULK AT MOST 1048576: true; the input reads as it did. -/
def colvecTwiceUptoRow : OpenClaim := { program := "ytomhgaihmdjdbaadoor", sum := "9ee70a616ab5eda7a68d251b7c5346c3d3aaaca7b1b139cff877d4f5ecde5082", func := "portolan/portolanlaw03.ColvecTwice", spec := "colvecTwice", named := ["unicode/utf8.first", "unicode/utf8.acceptRanges"], apart := false, laid := [("unicode/utf8.acceptRanges", laid_unicode_utf8_acceptRanges), ("unicode/utf8.first", laid_unicode_utf8_first)], narrowed := true }
def ColvecTwiceUptoSaid : Prop := colvecTwiceUptoRow.holds Tryd.pinned (OpenSpec.upto colvecTwiceSpec)

/-- 'portolanlaw03.ColvecDicts', WHERE WHAT IT READS IS OF BULK AT MOST 1048576: true; the input reads as it did. -/
def colvecDictsUptoRow : OpenClaim := { program := "ytomhgaihmdjdbaadoor", sum := "9ee70a616ab5eda7a68d251b7c5346c3d3aaaca7b1b139cff877d4f5ecde5082", func := "portolan/portolanlaw03.ColvecDicts", spec := "colvecDicts", named := ["unicode/utf8.first", "unicode/utf8.acceptRanges"], apart := false, laid := [("unicode/utf8.acceptRanges", laid_unicode_utf8_acceptRanges), ("unicode/utf8.first", laid_unicode_utf8_first)], narrowed := true }
def ColvecDictsUptoSaid : Prop := colvecDictsUptoRow.holds Tryd.pinned (OpenSpec.upto colvecDictsSpec)

/-- 'portolanlaw03.ColvecNulls', WHERE WHAT IT READS IS OF BULK AT MOST 1048576: true; the input reads as it did. -/
def colvecNullsUptoRow : OpenClaim := { program := "ytomhgaihmdjdbaadoor", sum := "9ee70a616ab5eda7a68d251b7c5346c3d3aaaca7b1b139cff877d4f5ecde5082", func := "portolan/portolanlaw03.ColvecNulls", spec := "colvecNulls", named := ["unicode/utf8.first", "unicode/utf8.acceptRanges"], apart := false, laid := [("unicode/utf8.acceptRanges", laid_unicode_utf8_acceptRanges), ("unicode/utf8.first", laid_unicode_utf8_first)], narrowed := true }
def ColvecNullsUptoSaid : Prop := colvecNullsUptoRow.holds Tryd.pinned (OpenSpec.upto colvecNullsSpec)

end Rows
end Go.Proofs.YtomhgaihmdjdbaaDoor
