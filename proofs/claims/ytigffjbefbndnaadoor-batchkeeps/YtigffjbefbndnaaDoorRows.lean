/-
  NARROWER THAN 'FOR EVERY INPUT', by the rows' own cells (each row's printed sentence says how): BatchSorts: laid · BatchPieces: laid · BatchKeeps: laid.
  DERIVED. THE GIVEN ROWS OF THIS SEAT. 3 by the template 'for every input the law returns true; each argument reads behind the call as it read before'; 0 by the template 'total and deterministic' (their statements: YtigffjbefbndnaaDoorTotals.lean).
  GIVEN WITH THE SEED: the statements are not yours to turn. If you find one false, say at which input.
  Laid BY PROGRAM, IN A SANDBOX (cutbox-rows.mjs): the forced cells as the released guide's own fill.sh prints them over the translation 18f0aeec8b08eaea… (all of the seat's roots in one cut). By AI agents, Wed Nov 11 2026. No macro, syntax, notation, axiom, sorry.
-/
import Derived.Test.YtigffjbefbndnaaDoorChecked
import GoSem.Claim
import GoSem.ClaimJoined
import GoSem.ClaimMapViews
import Derived.JoinedTies
import Derived.KernelRfl
namespace Go.Proofs.YtigffjbefbndnaaDoor
/- THE CELL 'sum', in the pinned program and in every row, IS THE sha256 OF THE DUMP (.gsa) THAT YtigffjbefbndnaaDoorProg.lean LOADS. Nothing in Lean hashes anything: it is a label: what it is worth is what the hold of that sum in a sandbox is worth. -/
noncomputable def Tryd.pinned : Pinned := { name := "ytigffjbefbndnaadoor", sum := "18f0aeec8b08eaea138d337178af334f6717892e2c255fdefd1f0a7898c07353", checked := Tryd.checked }
namespace Rows
def none {H : Type} : Left H := { results := [], args := [] }

/- WHAT THE LISTED PACKAGE-LEVEL VARIABLES READ AS WHEN THE CALL BEGINS. Each datum BY PROGRAM (the guide's laid-datum.mjs) off the statement by which the dump's own 'gosem.cut.vars' lays the variable. In a bare row this is a premise. The card (YtigffjbefbndnaaDoorCards.lean) ties it to the program's text. -/
def laid_hornbook_api_FailNil {H : Type} : DataW H := .iface "*errors.errorString" (.ptr (.agg [.lit (.string [110, 111, 32, 111, 98, 106, 101, 99, 116])]))
def laid_hornbook_api_FailLimits {H : Type} : DataW H := .iface "*errors.errorString" (.ptr (.agg [.lit (.string [97, 32, 110, 117, 109, 98, 101, 114, 32, 111, 117, 116, 32, 111, 102, 32, 105, 116, 115, 32, 114, 97, 110, 103, 101])]))
def laid_hornbook_api_FailNoRun {H : Type} : DataW H := .iface "*errors.errorString" (.ptr (.agg [.lit (.string [110, 111, 32, 115, 117, 99, 104, 32, 114, 117, 110])]))
def laid_hornbook_api_FailSealed {H : Type} : DataW H := .iface "*errors.errorString" (.ptr (.agg [.lit (.string [116, 104, 101, 32, 114, 117, 110, 32, 105, 115, 32, 115, 101, 97, 108, 101, 100])]))
def laid_hornbook_api_FailOpen {H : Type} : DataW H := .iface "*errors.errorString" (.ptr (.agg [.lit (.string [116, 104, 101, 32, 114, 117, 110, 32, 105, 115, 32, 110, 111, 116, 32, 115, 101, 97, 108, 101, 100])]))
def laid_hornbook_api_FailRange {H : Type} : DataW H := .iface "*errors.errorString" (.ptr (.agg [.lit (.string [110, 111, 32, 115, 117, 99, 104, 32, 112, 108, 97, 99, 101, 32, 105, 110, 32, 116, 104, 101, 32, 114, 117, 110])]))
def laid_hornbook_api_FailFull {H : Type} : DataW H := .iface "*errors.errorString" (.ptr (.agg [.lit (.string [116, 104, 101, 32, 115, 116, 111, 114, 101, 32, 105, 115, 32, 102, 117, 108, 108])]))
def laid_hornbook_api_FailSpent {H : Type} : DataW H := .iface "*errors.errorString" (.ptr (.agg [.lit (.string [110, 111, 32, 114, 117, 110, 32, 110, 117, 109, 98, 101, 114, 32, 105, 115, 32, 108, 101, 102, 116])]))
def laid_hornbook_api_FailBroken {H : Type} : DataW H := .iface "*errors.errorString" (.ptr (.agg [.lit (.string [116, 104, 101, 32, 115, 116, 111, 114, 101, 32, 114, 101, 102, 117, 115, 101, 100, 32, 97, 32, 115, 116, 101, 112])]))
def laid_hornbook_api_FailRecord {H : Type} : DataW H := .iface "*errors.errorString" (.ptr (.agg [.lit (.string [116, 104, 101, 32, 114, 101, 99, 111, 114, 100, 32, 105, 115, 32, 116, 111, 111, 32, 108, 111, 110, 103])]))
def laid_hornbook_api_FailClosed {H : Type} : DataW H := .iface "*errors.errorString" (.ptr (.agg [.lit (.string [99, 108, 111, 115, 101, 100])]))

/-- 'hornbooklaw09.BatchSorts': WHATEVER THE INPUT: true; the input reads as it did. -/
def batchSortsSpec : ChangeSpec := { name := "batchSorts", fn := fun _ => fun
  | [d1, d2] => { results := [.lit (.bool true)], args := [d1, d2] }
  | _ => none }
def batchSortsRow : OpenClaim := { program := "ytigffjbefbndnaadoor", sum := "18f0aeec8b08eaea138d337178af334f6717892e2c255fdefd1f0a7898c07353", func := "hornbook/hornbooklaw09.BatchSorts", spec := "batchSorts", unfollowed := true, recurses := true, named := ["hornbook/api.FailNil", "hornbook/api.FailLimits", "hornbook/api.FailRecord", "hornbook/api.FailClosed", "hornbook/api.FailNoRun", "hornbook/api.FailSpent", "hornbook/api.FailBroken", "hornbook/api.FailFull", "hornbook/api.FailSealed", "hornbook/api.FailOpen", "hornbook/api.FailRange"], apart := false, laid := [("hornbook/api.FailNil", laid_hornbook_api_FailNil), ("hornbook/api.FailLimits", laid_hornbook_api_FailLimits), ("hornbook/api.FailNoRun", laid_hornbook_api_FailNoRun), ("hornbook/api.FailSealed", laid_hornbook_api_FailSealed), ("hornbook/api.FailOpen", laid_hornbook_api_FailOpen), ("hornbook/api.FailRange", laid_hornbook_api_FailRange), ("hornbook/api.FailFull", laid_hornbook_api_FailFull), ("hornbook/api.FailSpent", laid_hornbook_api_FailSpent), ("hornbook/api.FailBroken", laid_hornbook_api_FailBroken), ("hornbook/api.FailRecord", laid_hornbook_api_FailRecord), ("hornbook/api.FailClosed", laid_hornbook_api_FailClosed)] }
def BatchSortsSaid : Prop := batchSortsRow.holds Tryd.pinned (OpenSpec.ofChange batchSortsSpec)

/-- ITS FALSE NEIGHBOUR: 'it returns false'. Refute it at one input. -/
def batchSortsWrong : ChangeSpec := { name := "batchSorts", fn := fun _ => fun
  | [d1, d2] => { results := [.lit (.bool false)], args := [d1, d2] }
  | _ => none }
def BatchSortsWrongFalsely : Prop := batchSortsRow.holds Tryd.pinned (OpenSpec.ofChange batchSortsWrong)

/-- 'hornbooklaw09.BatchPieces': WHATEVER THE INPUT: true; the input reads as it did. -/
def batchPiecesSpec : ChangeSpec := { name := "batchPieces", fn := fun _ => fun
  | [d1, d2, d3] => { results := [.lit (.bool true)], args := [d1, d2, d3] }
  | _ => none }
def batchPiecesRow : OpenClaim := { program := "ytigffjbefbndnaadoor", sum := "18f0aeec8b08eaea138d337178af334f6717892e2c255fdefd1f0a7898c07353", func := "hornbook/hornbooklaw09.BatchPieces", spec := "batchPieces", unfollowed := true, recurses := true, named := ["hornbook/api.FailNil", "hornbook/api.FailLimits", "hornbook/api.FailRecord", "hornbook/api.FailClosed", "hornbook/api.FailNoRun", "hornbook/api.FailSpent", "hornbook/api.FailBroken", "hornbook/api.FailFull", "hornbook/api.FailSealed", "hornbook/api.FailOpen", "hornbook/api.FailRange"], apart := false, laid := [("hornbook/api.FailNil", laid_hornbook_api_FailNil), ("hornbook/api.FailLimits", laid_hornbook_api_FailLimits), ("hornbook/api.FailNoRun", laid_hornbook_api_FailNoRun), ("hornbook/api.FailSealed", laid_hornbook_api_FailSealed), ("hornbook/api.FailOpen", laid_hornbook_api_FailOpen), ("hornbook/api.FailRange", laid_hornbook_api_FailRange), ("hornbook/api.FailFull", laid_hornbook_api_FailFull), ("hornbook/api.FailSpent", laid_hornbook_api_FailSpent), ("hornbook/api.FailBroken", laid_hornbook_api_FailBroken), ("hornbook/api.FailRecord", laid_hornbook_api_FailRecord), ("hornbook/api.FailClosed", laid_hornbook_api_FailClosed)] }
def BatchPiecesSaid : Prop := batchPiecesRow.holds Tryd.pinned (OpenSpec.ofChange batchPiecesSpec)

/-- ITS FALSE NEIGHBOUR: 'it returns false'. Refute it at one input. -/
def batchPiecesWrong : ChangeSpec := { name := "batchPieces", fn := fun _ => fun
  | [d1, d2, d3] => { results := [.lit (.bool false)], args := [d1, d2, d3] }
  | _ => none }
def BatchPiecesWrongFalsely : Prop := batchPiecesRow.holds Tryd.pinned (OpenSpec.ofChange batchPiecesWrong)

/-- 'hornbooklaw09.BatchKeeps': WHATEVER THE INPUT: true; the input reads as it did. -/
def batchKeepsSpec : ChangeSpec := { name := "batchKeeps", fn := fun _ => fun
  | [d1, d2] => { results := [.lit (.bool true)], args := [d1, d2] }
  | _ => none }
def batchKeepsRow : OpenClaim := { program := "ytigffjbefbndnaadoor", sum := "18f0aeec8b08eaea138d337178af334f6717892e2c255fdefd1f0a7898c07353", func := "hornbook/hornbooklaw09.BatchKeeps", spec := "batchKeeps", unfollowed := true, recurses := true, named := ["hornbook/api.FailNil", "hornbook/api.FailLimits", "hornbook/api.FailRecord", "hornbook/api.FailClosed", "hornbook/api.FailNoRun", "hornbook/api.FailSpent", "hornbook/api.FailBroken", "hornbook/api.FailFull", "hornbook/api.FailSealed", "hornbook/api.FailOpen", "hornbook/api.FailRange"], apart := false, laid := [("hornbook/api.FailNil", laid_hornbook_api_FailNil), ("hornbook/api.FailLimits", laid_hornbook_api_FailLimits), ("hornbook/api.FailNoRun", laid_hornbook_api_FailNoRun), ("hornbook/api.FailSealed", laid_hornbook_api_FailSealed), ("hornbook/api.FailOpen", laid_hornbook_api_FailOpen), ("hornbook/api.FailRange", laid_hornbook_api_FailRange), ("hornbook/api.FailFull", laid_hornbook_api_FailFull), ("hornbook/api.FailSpent", laid_hornbook_api_FailSpent), ("hornbook/api.FailBroken", laid_hornbook_api_FailBroken), ("hornbook/api.FailRecord", laid_hornbook_api_FailRecord), ("hornbook/api.FailClosed", laid_hornbook_api_FailClosed)] }
def BatchKeepsSaid : Prop := batchKeepsRow.holds Tryd.pinned (OpenSpec.ofChange batchKeepsSpec)

/-- ITS FALSE NEIGHBOUR: 'it returns false'. Refute it at one input. -/
def batchKeepsWrong : ChangeSpec := { name := "batchKeeps", fn := fun _ => fun
  | [d1, d2] => { results := [.lit (.bool false)], args := [d1, d2] }
  | _ => none }
def BatchKeepsWrongFalsely : Prop := batchKeepsRow.holds Tryd.pinned (OpenSpec.ofChange batchKeepsWrong)

/- THE SECOND FORM. 'bulk': how many values and letters a reading holds, each counted each time it is reached (what is shared counts as often as it is met; a slice's spare places count too). A statement '..UptoSaid' is the law's where the arguments, and the package variables that the reading takes, are together of bulk at most 1048576: NARROWER than '..Said'. Prove '..Said' where nothing that the law and all that it calls make is longer than what came in: it says more and counts as full. Else prove '..UptoSaid'. A law counts once. -/
mutual
def uptoBulk {H : Type} : DataW H → Nat
  | .lit (.string bytes) => bytes.length + 1
  | .lit _ => 1
  | .nil => 1
  | .ptr d => uptoBulk d + 1
  | .slice elems spare => uptoBulkAll elems + uptoBulkAll spare + 1
  | .agg parts => uptoBulkAll parts + 1
  | .iface _ d => uptoBulk d + 1
  | .map entries => uptoBulkEntries entries + 1
  | .held _ => 1
def uptoBulkAll {H : Type} : List (DataW H) → Nat
  | [] => 0
  | d :: r => uptoBulk d + uptoBulkAll r
def uptoBulkEntries {H : Type} : List (Lit × DataW H) → Nat
  | [] => 0
  | x :: r => uptoBulkEntry x + uptoBulkEntries r
def uptoBulkEntry {H : Type} : Lit × DataW H → Nat
  | (.string bytes, d) => bytes.length + uptoBulk d + 1
  | (_, d) => uptoBulk d + 1
 end
def uptoSmall : (H : Type) → List (DataW H) → Bool := fun _ ds => decide (uptoBulkAll ds ≤ 1048576)
def OpenSpec.upto (s : _root_.Go.ChangeSpec) : _root_.Go.OpenSpec := { _root_.Go.OpenSpec.ofChange s with cond := some uptoSmall }

/-- 'hornbooklaw09.BatchSorts', WHERE WHAT IT READS IS OF BULK AT MOST 1048576: true; the input reads as it did. -/
def batchSortsUptoRow : OpenClaim := { program := "ytigffjbefbndnaadoor", sum := "18f0aeec8b08eaea138d337178af334f6717892e2c255fdefd1f0a7898c07353", func := "hornbook/hornbooklaw09.BatchSorts", spec := "batchSorts", unfollowed := true, recurses := true, named := ["hornbook/api.FailNil", "hornbook/api.FailLimits", "hornbook/api.FailRecord", "hornbook/api.FailClosed", "hornbook/api.FailNoRun", "hornbook/api.FailSpent", "hornbook/api.FailBroken", "hornbook/api.FailFull", "hornbook/api.FailSealed", "hornbook/api.FailOpen", "hornbook/api.FailRange"], apart := false, laid := [("hornbook/api.FailNil", laid_hornbook_api_FailNil), ("hornbook/api.FailLimits", laid_hornbook_api_FailLimits), ("hornbook/api.FailNoRun", laid_hornbook_api_FailNoRun), ("hornbook/api.FailSealed", laid_hornbook_api_FailSealed), ("hornbook/api.FailOpen", laid_hornbook_api_FailOpen), ("hornbook/api.FailRange", laid_hornbook_api_FailRange), ("hornbook/api.FailFull", laid_hornbook_api_FailFull), ("hornbook/api.FailSpent", laid_hornbook_api_FailSpent), ("hornbook/api.FailBroken", laid_hornbook_api_FailBroken), ("hornbook/api.FailRecord", laid_hornbook_api_FailRecord), ("hornbook/api.FailClosed", laid_hornbook_api_FailClosed)], narrowed := true }
def BatchSortsUptoSaid : Prop := batchSortsUptoRow.holds Tryd.pinned (OpenSpec.upto batchSortsSpec)

/-- 'hornbooklaw09.BatchPieces', WHERE WHAT IT READS IS OF BULK AT MOST 1048576: true; the input reads as it did. -/
def batchPiecesUptoRow : OpenClaim := { program := "ytigffjbefbndnaadoor", sum := "18f0aeec8b08eaea138d337178af334f6717892e2c255fdefd1f0a7898c07353", func := "hornbook/hornbooklaw09.BatchPieces", spec := "batchPieces", unfollowed := true, recurses := true, named := ["hornbook/api.FailNil", "hornbook/api.FailLimits", "hornbook/api.FailRecord", "hornbook/api.FailClosed", "hornbook/api.FailNoRun", "hornbook/api.FailSpent", "hornbook/api.FailBroken", "hornbook/api.FailFull", "hornbook/api.FailSealed", "hornbook/api.FailOpen", "hornbook/api.FailRange"], apart := false, laid := [("hornbook/api.FailNil", laid_hornbook_api_FailNil), ("hornbook/api.FailLimits", laid_hornbook_api_FailLimits), ("hornbook/api.FailNoRun", laid_hornbook_api_FailNoRun), ("hornbook/api.FailSealed", laid_hornbook_api_FailSealed), ("hornbook/api.FailOpen", laid_hornbook_api_FailOpen), ("hornbook/api.FailRange", laid_hornbook_api_FailRange), ("hornbook/api.FailFull", laid_hornbook_api_FailFull), ("hornbook/api.FailSpent", laid_hornbook_api_FailSpent), ("hornbook/api.FailBroken", laid_hornbook_api_FailBroken), ("hornbook/api.FailRecord", laid_hornbook_api_FailRecord), ("hornbook/api.FailClosed", laid_hornbook_api_FailClosed)], narrowed := true }
def BatchPiecesUptoSaid : Prop := batchPiecesUptoRow.holds Tryd.pinned (OpenSpec.upto batchPiecesSpec)

/-- 'hornbooklaw09.BatchKeeps', WHERE WHAT IT READS IS OF BULK AT MOST 1048576: true; the input reads as it did. -/
def batchKeepsUptoRow : OpenClaim := { program := "ytigffjbefbndnaadoor", sum := "18f0aeec8b08eaea138d337178af334f6717892e2c255fdefd1f0a7898c07353", func := "hornbook/hornbooklaw09.BatchKeeps", spec := "batchKeeps", unfollowed := true, recurses := true, named := ["hornbook/api.FailNil", "hornbook/api.FailLimits", "hornbook/api.FailRecord", "hornbook/api.FailClosed", "hornbook/api.FailNoRun", "hornbook/api.FailSpent", "hornbook/api.FailBroken", "hornbook/api.FailFull", "hornbook/api.FailSealed", "hornbook/api.FailOpen", "hornbook/api.FailRange"], apart := false, laid := [("hornbook/api.FailNil", laid_hornbook_api_FailNil), ("hornbook/api.FailLimits", laid_hornbook_api_FailLimits), ("hornbook/api.FailNoRun", laid_hornbook_api_FailNoRun), ("hornbook/api.FailSealed", laid_hornbook_api_FailSealed), ("hornbook/api.FailOpen", laid_hornbook_api_FailOpen), ("hornbook/api.FailRange", laid_hornbook_api_FailRange), ("hornbook/api.FailFull", laid_hornbook_api_FailFull), ("hornbook/api.FailSpent", laid_hornbook_api_FailSpent), ("hornbook/api.FailBroken", laid_hornbook_api_FailBroken), ("hornbook/api.FailRecord", laid_hornbook_api_FailRecord), ("hornbook/api.FailClosed", laid_hornbook_api_FailClosed)], narrowed := true }
def BatchKeepsUptoSaid : Prop := batchKeepsUptoRow.holds Tryd.pinned (OpenSpec.upto batchKeepsSpec)

end Rows
end Go.Proofs.YtigffjbefbndnaaDoor
