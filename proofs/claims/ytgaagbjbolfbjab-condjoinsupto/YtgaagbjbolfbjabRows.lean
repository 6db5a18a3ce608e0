/-
  No cell of these rows narrows 'for every input' (looked for: loops, veiled, ifaces, maps, wideKeys, modest, calm, conditions, laid).
  DERIVED. THE GIVEN ROWS OF THIS SEAT. 3 by the template 'for every input the law returns true; each argument reads behind the call as it read before'; 0 by the template 'total and deterministic' (their statements: YtgaagbjbolfbjabTotals.lean).
  GIVEN WITH THE SEED: the statements are not yours to turn. If you find one false, say at which input.
  Laid BY PROGRAM, IN A SANDBOX (cutbox-rows.mjs): the forced cells as the released guide's own fill.sh prints them over the translation e6a58e2722d342d1… (all of the seat's roots in one cut). By AI agents, Wed Nov 11 2026. No macro, syntax, notation, axiom, sorry.
-/
import Derived.Test.YtgaagbjbolfbjabChecked
import GoSem.Claim
import GoSem.ClaimJoined
import GoSem.ClaimMapViews
import Derived.JoinedTies
import Derived.KernelRfl
namespace Go.Proofs.Ytgaagbjbolfbjab
/- THE CELL 'sum', in the pinned program and in every row, IS THE sha256 OF THE DUMP (.gsa) THAT YtgaagbjbolfbjabProg.lean LOADS. Nothing in Lean hashes anything: it is a label: what it is worth is what the hold of that sum in a sandbox is worth. -/
noncomputable def Try.pinned : Pinned := { name := "ytgaagbjbolfbjab", sum := "e6a58e2722d342d1b8f1ce249a221f0cc14534e7a82a75e02f042fc37c1c5691", checked := Try.checked }
namespace Rows
def none {H : Type} : Left H := { results := [], args := [] }

/-- 'hornbooklaw04.CondJoins': WHATEVER THE INPUT: true; the input reads as it did. -/
def condJoinsSpec : ChangeSpec := { name := "condJoins", fn := fun _ => fun
  | [d] => { results := [.lit (.bool true)], args := [d] }
  | _ => none }
def condJoinsRow : OpenClaim := { program := "ytgaagbjbolfbjab", sum := "e6a58e2722d342d1b8f1ce249a221f0cc14534e7a82a75e02f042fc37c1c5691", func := "hornbook/hornbooklaw04.CondJoins", spec := "condJoins", inPlace := ["internal/bytealg.IndexByteString", "internal/bytealg.IndexString", "internal/abi.NoEscape"], named := ["internal/bytealg.MaxLen"], apart := false }
def CondJoinsSaid : Prop := condJoinsRow.holds Try.pinned (OpenSpec.ofChange condJoinsSpec)

/-- ITS FALSE NEIGHBOUR: 'it returns false'. Refute it at one input. -/
def condJoinsWrong : ChangeSpec := { name := "condJoins", fn := fun _ => fun
  | [d] => { results := [.lit (.bool false)], args := [d] }
  | _ => none }
def CondJoinsWrongFalsely : Prop := condJoinsRow.holds Try.pinned (OpenSpec.ofChange condJoinsWrong)

/-- 'hornbooklaw04.CondParts': WHATEVER THE INPUT: true; the input reads as it did. -/
def condPartsSpec : ChangeSpec := { name := "condParts", fn := fun _ => fun
  | [d1, d2, d3] => { results := [.lit (.bool true)], args := [d1, d2, d3] }
  | _ => none }
def condPartsRow : OpenClaim := { program := "ytgaagbjbolfbjab", sum := "e6a58e2722d342d1b8f1ce249a221f0cc14534e7a82a75e02f042fc37c1c5691", func := "hornbook/hornbooklaw04.CondParts", spec := "condParts", inPlace := ["internal/bytealg.IndexByteString", "internal/bytealg.IndexString"], named := ["internal/bytealg.MaxLen"], apart := false }
def CondPartsSaid : Prop := condPartsRow.holds Try.pinned (OpenSpec.ofChange condPartsSpec)

/-- ITS FALSE NEIGHBOUR: 'it returns false'. Refute it at one input. -/
def condPartsWrong : ChangeSpec := { name := "condParts", fn := fun _ => fun
  | [d1, d2, d3] => { results := [.lit (.bool false)], args := [d1, d2, d3] }
  | _ => none }
def CondPartsWrongFalsely : Prop := condPartsRow.holds Try.pinned (OpenSpec.ofChange condPartsWrong)

/-- 'hornbooklaw04.CondLiteral': WHATEVER THE INPUT: true; the input reads as it did. -/
def condLiteralSpec : ChangeSpec := { name := "condLiteral", fn := fun _ => fun
  | [d1, d2] => { results := [.lit (.bool true)], args := [d1, d2] }
  | _ => none }
def condLiteralRow : OpenClaim := { program := "ytgaagbjbolfbjab", sum := "e6a58e2722d342d1b8f1ce249a221f0cc14534e7a82a75e02f042fc37c1c5691", func := "hornbook/hornbooklaw04.CondLiteral", spec := "condLiteral", inPlace := ["internal/bytealg.IndexByteString", "internal/bytealg.IndexString"], named := ["internal/bytealg.MaxLen"], apart := false }
def CondLiteralSaid : Prop := condLiteralRow.holds Try.pinned (OpenSpec.ofChange condLiteralSpec)

/-- ITS FALSE NEIGHBOUR: 'it returns false'. Refute it at one input. -/
def condLiteralWrong : ChangeSpec := { name := "condLiteral", fn := fun _ => fun
  | [d1, d2] => { results := [.lit (.bool false)], args := [d1, d2] }
  | _ => none }
def CondLiteralWrongFalsely : Prop := condLiteralRow.holds Try.pinned (OpenSpec.ofChange condLiteralWrong)

/- THE SECOND FORM. 'bulk': how many values and letters a reading holds, each counted each time it is reached (what is shared counts as often as it is met; a slice's spare places count too). A statement '..UptoSaid' is the law's where the arguments, and the package variables that the reading takes, are together of bulk at most 1048576: NARROWER than '..Said'. Prove '..Said' where nothing that the law and all that it calls make is longer than what came in: it says more and counts as full. Else prove '..UptoSaid'. A law counts once. -/
mutual
def uptoBulk {H : Type} : DataW H → Nat
  | .lit (.string bytes) => bytes.length + 1
  | .lit _ => 1
  | .nil => 1
  | .ptr d => uptoBulk d + 1
  | .slice elems spare => uptoBulkAll elems + uptoBulkAll spare + 1
  | .agg parts => uptoBulkAll parts + 1
  | .iface _ d => uptoBulk d + 1
  | .map entries => uptoBulkEntries entries + 1
  | .held _ => 1
def uptoBulkAll {H : Type} : List (DataW H) → Nat
  | [] => 0
  | d :: r => uptoBulk d + uptoBulkAll r
def uptoBulkEntries {H : Type} : List (Lit × DataW H) → Nat
  | [] => 0
  | x :: r => uptoBulkEntry x + uptoBulkEntries r
def uptoBulkEntry {H : Type} : Lit × DataW H → Nat
  | (.string bytes, d) => bytes.length + uptoBulk d + 1
  | (_, d) => uptoBulk d + 1
 end
def uptoSmall : (H : Type) → List (DataW H) → Bool := fun _ ds => decide (uptoBulkAll ds ≤ 1048576)
def OpenSpec.upto (s : _root_.Go.ChangeSpec) : _root_.Go.OpenSpec := { _root_.Go.OpenSpec.ofChange s with cond := some uptoSmall }

/-- 'hornbooklaw04.CondJoins', WHERE WHAT IT READS IS OF BULK AT MOST 1048576: true; the input reads as it did. -/
def condJoinsUptoRow : OpenClaim := { program := "ytgaagbjbolfbjab", sum := "e6a58e2722d342d1b8f1ce249a221f0cc14534e7a82a75e02f042fc37c1c5691", func := "hornbook/hornbooklaw04.CondJoins", spec := "condJoins", inPlace := ["internal/bytealg.IndexByteString", "internal/bytealg.IndexString", "internal/abi.NoEscape"], named := ["internal/bytealg.MaxLen"], apart := false, narrowed := true }
def CondJoinsUptoSaid : Prop := condJoinsUptoRow.holds Try.pinned (OpenSpec.upto condJoinsSpec)

/-- 'hornbooklaw04.CondParts', WHERE WHAT IT READS IS OF BULK AT MOST 1048576: true; the input reads as it did. -/
def condPartsUptoRow : OpenClaim := { program := "ytgaagbjbolfbjab", sum := "e6a58e2722d342d1b8f1ce249a221f0cc14534e7a82a75e02f042fc37c1c5691", func := "hornbook/hornbooklaw04.CondParts", spec := "condParts", inPlace := ["internal/bytealg.IndexByteString", "internal/bytealg.IndexString"], named := ["internal/bytealg.MaxLen"], apart := false, narrowed := true }
def CondPartsUptoSaid : Prop := condPartsUptoRow.holds Try.pinned (OpenSpec.upto condPartsSpec)

/-- 'hornbooklaw04.CondLiteral', WHERE WHAT IT READS IS OF BULK AT MOST 1048576: true; the input reads as it did. -/
def condLiteralUptoRow : OpenClaim := { program := "ytgaagbjbolfbjab", sum := "e6a58e2722d342d1b8f1ce249a221f0cc14534e7a82a75e02f042fc37c1c5691", func := "hornbook/hornbooklaw04.CondLiteral", spec := "condLiteral", inPlace := ["internal/bytealg.IndexByteString", "internal/bytealg.IndexString"], named := ["internal/bytealg.MaxLen"], apart := false, narrowed := true }
def CondLiteralUptoSaid : Prop := condLiteralUptoRow.holds Try.pinned (OpenSpec.upto condLiteralSpec)

end Rows
end Go.Proofs.Ytgaagbjbolfbjab
