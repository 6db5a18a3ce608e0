/-
  NARROWER THAN 'FOR EVERY INPUT', by the rows' own cells (each row's printed sentence says how): RunsPlays: laid · RunsTwins: laid · RunsRefuses: laid.
  DERIVED. THE GIVEN ROWS OF THIS SEAT. 3 by the template 'for every input the law returns true; each argument reads behind the call as it read before'; 0 by the template 'total and deterministic' (their statements: YtdlmpogmoepkjaaDoorTotals.lean).
  GIVEN WITH THE SEED: the statements are not yours to turn. If you find one false, say at which input.
  Laid BY PROGRAM, IN A SANDBOX (cutbox-rows.mjs): the forced cells as the released guide's own fill.sh prints them over the translation 537cf6cfe0e66740… (all of the seat's roots in one cut). By AI agents, Wed Nov 11 2026. No macro, syntax, notation, axiom, sorry.
-/
import Derived.Test.YtdlmpogmoepkjaaDoorChecked
import GoSem.Claim
import GoSem.ClaimJoined
import GoSem.ClaimMapViews
import Derived.JoinedTies
import Derived.KernelRfl
namespace Go.Proofs.YtdlmpogmoepkjaaDoor
/- THE CELL 'sum', in the pinned program and in every row, IS THE sha256 OF THE DUMP (.gsa) THAT YtdlmpogmoepkjaaDoorProg.lean LOADS. Nothing in Lean hashes anything: it is a label: what it is worth is what the hold of that sum in a sandbox is worth. -/
noncomputable def Tryd.pinned : Pinned := { name := "ytdlmpogmoepkjaadoor", sum := "537cf6cfe0e667400534b70178c5745784810eac24b57f5c8d8549f16a2931ea", checked := Tryd.checked }
namespace Rows
def none {H : Type} : Left H := { results := [], args := [] }

/- WHAT THE LISTED PACKAGE-LEVEL VARIABLES READ AS WHEN THE CALL BEGINS. Each datum BY PROGRAM (the guide's laid-datum.mjs) off the statement by which the dump's own 'gosem.cut.vars' lays the variable. In a bare row this is a premise. The card (YtdlmpogmoepkjaaDoorCards.lean) ties it to the program's text. -/
def laid_hornbook_api_FailNil {H : Type} : DataW H := .iface "*errors.errorString" (.ptr (.agg [.lit (.string [110, 111, 32, 111, 98, 106, 101, 99, 116])]))
def laid_hornbook_api_FailNoRun {H : Type} : DataW H := .iface "*errors.errorString" (.ptr (.agg [.lit (.string [110, 111, 32, 115, 117, 99, 104, 32, 114, 117, 110])]))
def laid_hornbook_api_FailSealed {H : Type} : DataW H := .iface "*errors.errorString" (.ptr (.agg [.lit (.string [116, 104, 101, 32, 114, 117, 110, 32, 105, 115, 32, 115, 101, 97, 108, 101, 100])]))
def laid_hornbook_api_FailOpen {H : Type} : DataW H := .iface "*errors.errorString" (.ptr (.agg [.lit (.string [116, 104, 101, 32, 114, 117, 110, 32, 105, 115, 32, 110, 111, 116, 32, 115, 101, 97, 108, 101, 100])]))
def laid_hornbook_api_FailRange {H : Type} : DataW H := .iface "*errors.errorString" (.ptr (.agg [.lit (.string [110, 111, 32, 115, 117, 99, 104, 32, 112, 108, 97, 99, 101, 32, 105, 110, 32, 116, 104, 101, 32, 114, 117, 110])]))
def laid_hornbook_api_FailFull {H : Type} : DataW H := .iface "*errors.errorString" (.ptr (.agg [.lit (.string [116, 104, 101, 32, 115, 116, 111, 114, 101, 32, 105, 115, 32, 102, 117, 108, 108])]))
def laid_hornbook_api_FailSpent {H : Type} : DataW H := .iface "*errors.errorString" (.ptr (.agg [.lit (.string [110, 111, 32, 114, 117, 110, 32, 110, 117, 109, 98, 101, 114, 32, 105, 115, 32, 108, 101, 102, 116])]))
def laid_hornbook_api_FailBroken {H : Type} : DataW H := .iface "*errors.errorString" (.ptr (.agg [.lit (.string [116, 104, 101, 32, 115, 116, 111, 114, 101, 32, 114, 101, 102, 117, 115, 101, 100, 32, 97, 32, 115, 116, 101, 112])]))

/-- 'hornbooklaw05.RunsPlays': WHATEVER THE INPUT: true; the input reads as it did. -/
def runsPlaysSpec : ChangeSpec := { name := "runsPlays", fn := fun _ => fun
  | [d1, d2] => { results := [.lit (.bool true)], args := [d1, d2] }
  | _ => none }
def runsPlaysRow : OpenClaim := { program := "ytdlmpogmoepkjaadoor", sum := "537cf6cfe0e667400534b70178c5745784810eac24b57f5c8d8549f16a2931ea", func := "hornbook/hornbooklaw05.RunsPlays", spec := "runsPlays", recurses := true, named := ["hornbook/api.FailFull", "hornbook/api.FailSpent", "hornbook/api.FailNil", "hornbook/api.FailBroken", "hornbook/api.FailSealed", "hornbook/api.FailNoRun", "hornbook/api.FailOpen", "hornbook/api.FailRange"], apart := false, laid := [("hornbook/api.FailNil", laid_hornbook_api_FailNil), ("hornbook/api.FailNoRun", laid_hornbook_api_FailNoRun), ("hornbook/api.FailSealed", laid_hornbook_api_FailSealed), ("hornbook/api.FailOpen", laid_hornbook_api_FailOpen), ("hornbook/api.FailRange", laid_hornbook_api_FailRange), ("hornbook/api.FailFull", laid_hornbook_api_FailFull), ("hornbook/api.FailSpent", laid_hornbook_api_FailSpent), ("hornbook/api.FailBroken", laid_hornbook_api_FailBroken)] }
def RunsPlaysSaid : Prop := runsPlaysRow.holds Tryd.pinned (OpenSpec.ofChange runsPlaysSpec)

/-- ITS FALSE NEIGHBOUR: 'it returns false'. Refute it at one input. -/
def runsPlaysWrong : ChangeSpec := { name := "runsPlays", fn := fun _ => fun
  | [d1, d2] => { results := [.lit (.bool false)], args := [d1, d2] }
  | _ => none }
def RunsPlaysWrongFalsely : Prop := runsPlaysRow.holds Tryd.pinned (OpenSpec.ofChange runsPlaysWrong)

/-- 'hornbooklaw05.RunsTwins': WHATEVER THE INPUT: true; the input reads as it did. -/
def runsTwinsSpec : ChangeSpec := { name := "runsTwins", fn := fun _ => fun
  | [d1, d2] => { results := [.lit (.bool true)], args := [d1, d2] }
  | _ => none }
def runsTwinsRow : OpenClaim := { program := "ytdlmpogmoepkjaadoor", sum := "537cf6cfe0e667400534b70178c5745784810eac24b57f5c8d8549f16a2931ea", func := "hornbook/hornbooklaw05.RunsTwins", spec := "runsTwins", recurses := true, named := ["hornbook/api.FailFull", "hornbook/api.FailSpent", "hornbook/api.FailNil", "hornbook/api.FailBroken", "hornbook/api.FailSealed", "hornbook/api.FailNoRun", "hornbook/api.FailOpen", "hornbook/api.FailRange"], apart := false, laid := [("hornbook/api.FailNil", laid_hornbook_api_FailNil), ("hornbook/api.FailNoRun", laid_hornbook_api_FailNoRun), ("hornbook/api.FailSealed", laid_hornbook_api_FailSealed), ("hornbook/api.FailOpen", laid_hornbook_api_FailOpen), ("hornbook/api.FailRange", laid_hornbook_api_FailRange), ("hornbook/api.FailFull", laid_hornbook_api_FailFull), ("hornbook/api.FailSpent", laid_hornbook_api_FailSpent), ("hornbook/api.FailBroken", laid_hornbook_api_FailBroken)] }
def RunsTwinsSaid : Prop := runsTwinsRow.holds Tryd.pinned (OpenSpec.ofChange runsTwinsSpec)

/-- ITS FALSE NEIGHBOUR: 'it returns false'. Refute it at one input. -/
def runsTwinsWrong : ChangeSpec := { name := "runsTwins", fn := fun _ => fun
  | [d1, d2] => { results := [.lit (.bool false)], args := [d1, d2] }
  | _ => none }
def RunsTwinsWrongFalsely : Prop := runsTwinsRow.holds Tryd.pinned (OpenSpec.ofChange runsTwinsWrong)

/-- 'hornbooklaw05.RunsRefuses': WHATEVER THE INPUT: true; the input reads as it did. -/
def runsRefusesSpec : ChangeSpec := { name := "runsRefuses", fn := fun _ => fun
  | [d1, d2] => { results := [.lit (.bool true)], args := [d1, d2] }
  | _ => none }
def runsRefusesRow : OpenClaim := { program := "ytdlmpogmoepkjaadoor", sum := "537cf6cfe0e667400534b70178c5745784810eac24b57f5c8d8549f16a2931ea", func := "hornbook/hornbooklaw05.RunsRefuses", spec := "runsRefuses", recurses := true, named := ["hornbook/api.FailFull", "hornbook/api.FailSpent", "hornbook/api.FailNil", "hornbook/api.FailBroken", "hornbook/api.FailSealed", "hornbook/api.FailNoRun", "hornbook/api.FailOpen", "hornbook/api.FailRange"], apart := false, laid := [("hornbook/api.FailNil", laid_hornbook_api_FailNil), ("hornbook/api.FailNoRun", laid_hornbook_api_FailNoRun), ("hornbook/api.FailSealed", laid_hornbook_api_FailSealed), ("hornbook/api.FailOpen", laid_hornbook_api_FailOpen), ("hornbook/api.FailRange", laid_hornbook_api_FailRange), ("hornbook/api.FailFull", laid_hornbook_api_FailFull), ("hornbook/api.FailSpent", laid_hornbook_api_FailSpent), ("hornbook/api.FailBroken", laid_hornbook_api_FailBroken)] }
def RunsRefusesSaid : Prop := runsRefusesRow.holds Tryd.pinned (OpenSpec.ofChange runsRefusesSpec)

/-- ITS FALSE NEIGHBOUR: 'it returns false'. Refute it at one input. -/
def runsRefusesWrong : ChangeSpec := { name := "runsRefuses", fn := fun _ => fun
  | [d1, d2] => { results := [.lit (.bool false)], args := [d1, d2] }
  | _ => none }
def RunsRefusesWrongFalsely : Prop := runsRefusesRow.holds Tryd.pinned (OpenSpec.ofChange runsRefusesWrong)

/- THE SECOND FORM. 'bulk': how many values and letters a reading holds, each counted each time it is reached (what is shared counts as often as it is met; a slice's spare places count too). A statement '..UptoSaid' is the law's where the arguments, and the package variables that the reading takes, are together of bulk at most 1048576: NARROWER than '..Said'. Prove '..Said' where nothing that the law and all that it calls make is longer than what came in: it says more and counts as full. Else prove '..UptoSaid'. A law counts once. -/
mutual
def uptoBulk {H : Type} : DataW H → Nat
  | .lit (.string bytes) => bytes.length + 1
  | .lit _ => 1
  | .nil => 1
  | .ptr d => uptoBulk d + 1
  | .slice elems spare => uptoBulkAll elems + uptoBulkAll spare + 1
  | .agg parts => uptoBulkAll parts + 1
  | .iface _ d => uptoBulk d + 1
  | .map entries => uptoBulkEntries entries + 1
  | .held _ => 1
def uptoBulkAll {H : Type} : List (DataW H) → Nat
  | [] => 0
  | d :: r => uptoBulk d + uptoBulkAll r
def uptoBulkEntries {H : Type} : List (Lit × DataW H) → Nat
  | [] => 0
  | x :: r => uptoBulkEntry x + uptoBulkEntries r
def uptoBulkEntry {H : Type} : Lit × DataW H → Nat
  | (.string bytes, d) => bytes.length + uptoBulk d + 1
  | (_, d) => uptoBulk d + 1
 end
def uptoSmall : (H : Type) → List (DataW H) → Bool := fun _ ds => decide (uptoBulkAll ds ≤ 1048576)
def OpenSpec.upto (s : _root_.Go.ChangeSpec) : _root_.Go.OpenSpec := { _root_.Go.OpenSpec.ofChange s with cond := some uptoSmall }

/-- 'hornbooklaw05.RunsPlays', WHERE WHAT IT READS IS OF BULK AT MOST 1048576: true; the input reads as it did. -/
def runsPlaysUptoRow : OpenClaim := { program := "ytdlmpogmoepkjaadoor", sum := "537cf6cfe0e667400534b70178c5745784810eac24b57f5c8d8549f16a2931ea", func := "hornbook/hornbooklaw05.RunsPlays", spec := "runsPlays", recurses := true, named := ["hornbook/api.FailFull", "hornbook/api.FailSpent", "hornbook/api.FailNil", "hornbook/api.FailBroken", "hornbook/api.FailSealed", "hornbook/api.FailNoRun", "hornbook/api.FailOpen", "hornbook/api.FailRange"], apart := false, laid := [("hornbook/api.FailNil", laid_hornbook_api_FailNil), ("hornbook/api.FailNoRun", laid_hornbook_api_FailNoRun), ("hornbook/api.FailSealed", laid_hornbook_api_FailSealed), ("hornbook/api.FailOpen", laid_hornbook_api_FailOpen), ("hornbook/api.FailRange", laid_hornbook_api_FailRange), ("hornbook/api.FailFull", laid_hornbook_api_FailFull), ("hornbook/api.FailSpent", laid_hornbook_api_FailSpent), ("hornbook/api.FailBroken", laid_hornbook_api_FailBroken)], narrowed := true }
def RunsPlaysUptoSaid : Prop := runsPlaysUptoRow.holds Tryd.pinned (OpenSpec.upto runsPlaysSpec)

/-- 'hornbooklaw05.RunsTwins', WHERE WHAT IT READS IS OF BULK AT MOST 1048576: true; the input reads as it did. -/
def runsTwinsUptoRow : OpenClaim := { program := "ytdlmpogmoepkjaadoor", sum := "537cf6cfe0e667400534b70178c5745784810eac24b57f5c8d8549f16a2931ea", func := "hornbook/hornbooklaw05.RunsTwins", spec := "runsTwins", recurses := true, named := ["hornbook/api.FailFull", "hornbook/api.FailSpent", "hornbook/api.FailNil", "hornbook/api.FailBroken", "hornbook/api.FailSealed", "hornbook/api.FailNoRun", "hornbook/api.FailOpen", "hornbook/api.FailRange"], apart := false, laid := [("hornbook/api.FailNil", laid_hornbook_api_FailNil), ("hornbook/api.FailNoRun", laid_hornbook_api_FailNoRun), ("hornbook/api.FailSealed", laid_hornbook_api_FailSealed), ("hornbook/api.FailOpen", laid_hornbook_api_FailOpen), ("hornbook/api.FailRange", laid_hornbook_api_FailRange), ("hornbook/api.FailFull", laid_hornbook_api_FailFull), ("hornbook/api.FailSpent", laid_hornbook_api_FailSpent), ("hornbook/api.FailBroken", laid_hornbook_api_FailBroken)], narrowed := true }
def RunsTwinsUptoSaid : Prop := runsTwinsUptoRow.holds Tryd.pinned (OpenSpec.upto runsTwinsSpec)

/-- 'hornbooklaw05.RunsRefuses', WHERE WHAT IT READS IS OF BULK AT MOST 1048576: true; the input reads as it did. -/
def runsRefusesUptoRow : OpenClaim := { program := "ytdlmpogmoepkjaadoor", sum := "537cf6cfe0e667400534b70178c5745784810eac24b57f5c8d8549f16a2931ea", func := "hornbook/hornbooklaw05.RunsRefuses", spec := "runsRefuses", recurses := true, named := ["hornbook/api.FailFull", "hornbook/api.FailSpent", "hornbook/api.FailNil", "hornbook/api.FailBroken", "hornbook/api.FailSealed", "hornbook/api.FailNoRun", "hornbook/api.FailOpen", "hornbook/api.FailRange"], apart := false, laid := [("hornbook/api.FailNil", laid_hornbook_api_FailNil), ("hornbook/api.FailNoRun", laid_hornbook_api_FailNoRun), ("hornbook/api.FailSealed", laid_hornbook_api_FailSealed), ("hornbook/api.FailOpen", laid_hornbook_api_FailOpen), ("hornbook/api.FailRange", laid_hornbook_api_FailRange), ("hornbook/api.FailFull", laid_hornbook_api_FailFull), ("hornbook/api.FailSpent", laid_hornbook_api_FailSpent), ("hornbook/api.FailBroken", laid_hornbook_api_FailBroken)], narrowed := true }
def RunsRefusesUptoSaid : Prop := runsRefusesUptoRow.holds Tryd.pinned (OpenSpec.upto runsRefusesSpec)

end Rows
end Go.Proofs.YtdlmpogmoepkjaaDoor
