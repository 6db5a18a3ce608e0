/-
  No cell of these rows narrows 'for every input' (looked for: loops, veiled, ifaces, maps, wideKeys, modest, calm, conditions, laid).
  DERIVED. THE GIVEN ROWS OF THIS SEAT. 5 by the template 'for every input the law returns true; each argument reads behind the call as it read before'; 0 by the template 'total and deterministic' (their statements: YtgaagbjbolfbjaaTotals.lean).
  GIVEN WITH THE SEED: the statements are not yours to turn. If you find one false, say at which input.
  Laid BY PROGRAM, IN A SANDBOX (cutbox-rows.mjs): the forced cells as the released guide's own fill.sh prints them over the translation 9fd09d4e99864999… (all of the seat's roots in one cut). By AI agents, Wed Nov 11 2026. No macro, syntax, notation, axiom, sorry.
-/
import Derived.Test.YtgaagbjbolfbjaaChecked
import GoSem.Claim
import GoSem.ClaimJoined
import GoSem.ClaimMapViews
import Derived.JoinedTies
import Derived.KernelRfl
namespace Go.Proofs.Ytgaagbjbolfbjaa
/- THE CELL 'sum', in the pinned program and in every row, IS THE sha256 OF THE DUMP (.gsa) THAT YtgaagbjbolfbjaaProg.lean LOADS. Nothing in Lean hashes anything: it is a label: what it is worth is what the hold of that sum in a sandbox is worth. -/
noncomputable def Try.pinned : Pinned := { name := "ytgaagbjbolfbjaa", sum := "9fd09d4e99864999305153a789d6ba6c26797c13b160f23363e9c6d0c32594c0", checked := Try.checked }
namespace Rows
def none {H : Type} : Left H := { results := [], args := [] }

/-- 'hornbooklaw04.CondReads': WHATEVER THE INPUT: true; the input reads as it did. -/
def condReadsSpec : ChangeSpec := { name := "condReads", fn := fun _ => fun
  | [d] => { results := [.lit (.bool true)], args := [d] }
  | _ => none }
def condReadsRow : OpenClaim := { program := "ytgaagbjbolfbjaa", sum := "9fd09d4e99864999305153a789d6ba6c26797c13b160f23363e9c6d0c32594c0", func := "hornbook/hornbooklaw04.CondReads", spec := "condReads", inPlace := ["internal/bytealg.IndexByteString", "internal/bytealg.IndexString"], named := ["internal/bytealg.MaxLen"], apart := false }
def CondReadsSaid : Prop := condReadsRow.holds Try.pinned (OpenSpec.ofChange condReadsSpec)

/-- ITS FALSE NEIGHBOUR: 'it returns false'. Refute it at one input. -/
def condReadsWrong : ChangeSpec := { name := "condReads", fn := fun _ => fun
  | [d] => { results := [.lit (.bool false)], args := [d] }
  | _ => none }
def CondReadsWrongFalsely : Prop := condReadsRow.holds Try.pinned (OpenSpec.ofChange condReadsWrong)

/-- 'hornbooklaw04.CondMatches': WHATEVER THE INPUT: true; the input reads as it did. -/
def condMatchesSpec : ChangeSpec := { name := "condMatches", fn := fun _ => fun
  | [d1, d2] => { results := [.lit (.bool true)], args := [d1, d2] }
  | _ => none }
def condMatchesRow : OpenClaim := { program := "ytgaagbjbolfbjaa", sum := "9fd09d4e99864999305153a789d6ba6c26797c13b160f23363e9c6d0c32594c0", func := "hornbook/hornbooklaw04.CondMatches", spec := "condMatches", inPlace := ["internal/bytealg.IndexByteString", "internal/bytealg.IndexString"], named := ["internal/bytealg.MaxLen"], apart := false }
def CondMatchesSaid : Prop := condMatchesRow.holds Try.pinned (OpenSpec.ofChange condMatchesSpec)

/-- ITS FALSE NEIGHBOUR: 'it returns false'. Refute it at one input. -/
def condMatchesWrong : ChangeSpec := { name := "condMatches", fn := fun _ => fun
  | [d1, d2] => { results := [.lit (.bool false)], args := [d1, d2] }
  | _ => none }
def CondMatchesWrongFalsely : Prop := condMatchesRow.holds Try.pinned (OpenSpec.ofChange condMatchesWrong)

/-- 'hornbooklaw04.CondShows': WHATEVER THE INPUT: true; the input reads as it did. -/
def condShowsSpec : ChangeSpec := { name := "condShows", fn := fun _ => fun
  | [d] => { results := [.lit (.bool true)], args := [d] }
  | _ => none }
def condShowsRow : OpenClaim := { program := "ytgaagbjbolfbjaa", sum := "9fd09d4e99864999305153a789d6ba6c26797c13b160f23363e9c6d0c32594c0", func := "hornbook/hornbooklaw04.CondShows", spec := "condShows", inPlace := ["internal/bytealg.IndexByteString", "internal/bytealg.IndexString", "internal/abi.NoEscape"], named := ["internal/bytealg.MaxLen"], apart := false }
def CondShowsSaid : Prop := condShowsRow.holds Try.pinned (OpenSpec.ofChange condShowsSpec)

/-- ITS FALSE NEIGHBOUR: 'it returns false'. Refute it at one input. -/
def condShowsWrong : ChangeSpec := { name := "condShows", fn := fun _ => fun
  | [d] => { results := [.lit (.bool false)], args := [d] }
  | _ => none }
def CondShowsWrongFalsely : Prop := condShowsRow.holds Try.pinned (OpenSpec.ofChange condShowsWrong)

/-- 'hornbooklaw04.CondEquals': WHATEVER THE INPUT: true; the input reads as it did. -/
def condEqualsSpec : ChangeSpec := { name := "condEquals", fn := fun _ => fun
  | [d1, d2] => { results := [.lit (.bool true)], args := [d1, d2] }
  | _ => none }
def condEqualsRow : OpenClaim := { program := "ytgaagbjbolfbjaa", sum := "9fd09d4e99864999305153a789d6ba6c26797c13b160f23363e9c6d0c32594c0", func := "hornbook/hornbooklaw04.CondEquals", spec := "condEquals", inPlace := ["internal/bytealg.IndexByteString", "internal/bytealg.IndexString"], named := ["internal/bytealg.MaxLen"], apart := false }
def CondEqualsSaid : Prop := condEqualsRow.holds Try.pinned (OpenSpec.ofChange condEqualsSpec)

/-- ITS FALSE NEIGHBOUR: 'it returns false'. Refute it at one input. -/
def condEqualsWrong : ChangeSpec := { name := "condEquals", fn := fun _ => fun
  | [d1, d2] => { results := [.lit (.bool false)], args := [d1, d2] }
  | _ => none }
def CondEqualsWrongFalsely : Prop := condEqualsRow.holds Try.pinned (OpenSpec.ofChange condEqualsWrong)

/-- 'hornbooklaw04.CondBack': WHATEVER THE INPUT: true; the input reads as it did. -/
def condBackSpec : ChangeSpec := { name := "condBack", fn := fun _ => fun
  | [d1, d2] => { results := [.lit (.bool true)], args := [d1, d2] }
  | _ => none }
def condBackRow : OpenClaim := { program := "ytgaagbjbolfbjaa", sum := "9fd09d4e99864999305153a789d6ba6c26797c13b160f23363e9c6d0c32594c0", func := "hornbook/hornbooklaw04.CondBack", spec := "condBack", inPlace := ["internal/bytealg.IndexByteString", "internal/bytealg.IndexString", "internal/abi.NoEscape"], named := ["internal/bytealg.MaxLen"], apart := false }
def CondBackSaid : Prop := condBackRow.holds Try.pinned (OpenSpec.ofChange condBackSpec)

/-- ITS FALSE NEIGHBOUR: 'it returns false'. Refute it at one input. -/
def condBackWrong : ChangeSpec := { name := "condBack", fn := fun _ => fun
  | [d1, d2] => { results := [.lit (.bool false)], args := [d1, d2] }
  | _ => none }
def CondBackWrongFalsely : Prop := condBackRow.holds Try.pinned (OpenSpec.ofChange condBackWrong)

/- THE SECOND FORM. 'bulk': how many values and letters a reading holds, each counted each time it is reached (what is shared counts as often as it is met; a slice's spare places count too). A statement '..UptoSaid' is the law's where the arguments, and the package variables that the reading takes, are together of bulk at most 1048576: NARROWER than '..Said'. Prove '..Said' where nothing that the law and all that it calls make is longer than what came in: it says more and counts as full. Else prove '..UptoSaid'. A law counts once. -/
mutual
def uptoBulk {H : Type} : DataW H → Nat
  | .lit (.string bytes) => bytes.length + 1
  | .lit _ => 1
  | .nil => 1
  | .ptr d => uptoBulk d + 1
  | .slice elems spare => uptoBulkAll elems + uptoBulkAll spare + 1
  | .agg parts => uptoBulkAll parts + 1
  | .iface _ d => uptoBulk d + 1
  | .map entries => uptoBulkEntries entries + 1
  | .held _ => 1
def uptoBulkAll {H : Type} : List (DataW H) → Nat
  | [] => 0
  | d :: r => uptoBulk d + uptoBulkAll r
def uptoBulkEntries {H : Type} : List (Lit × DataW H) → Nat
  | [] => 0
  | x :: r => uptoBulkEntry x + uptoBulkEntries r
def uptoBulkEntry {H : Type} : Lit × DataW H → Nat
  | (.string bytes, d) => bytes.length + uptoBulk d + 1
  | (_, d) => uptoBulk d + 1
 end
def uptoSmall : (H : Type) → List (DataW H) → Bool := fun _ ds => decide (uptoBulkAll ds ≤ 1048576)
def OpenSpec.upto (s : _root_.Go.ChangeSpec) : _root_.Go.OpenSpec := { _root_.Go.OpenSpec.ofChange s with cond := some uptoSmall }

/-- 'hornbooklaw04.CondReads', WHERE WHAT IT READS IS OF BULK AT MOST 1048576: true; the input reads as it did. -/
def condReadsUptoRow : OpenClaim := { program := "ytgaagbjbolfbjaa", sum := "9fd09d4e99864999305153a789d6ba6c26797c13b160f23363e9c6d0c32594c0", func := "hornbook/hornbooklaw04.CondReads", spec := "condReads", inPlace := ["internal/bytealg.IndexByteString", "internal/bytealg.IndexString"], named := ["internal/bytealg.MaxLen"], apart := false, narrowed := true }
def CondReadsUptoSaid : Prop := condReadsUptoRow.holds Try.pinned (OpenSpec.upto condReadsSpec)

/-- 'hornbooklaw04.CondMatches', WHERE WHAT IT READS IS OF BULK AT MOST 1048576: true; the input reads as it did. -/
def condMatchesUptoRow : OpenClaim := { program := "ytgaagbjbolfbjaa", sum := "9fd09d4e99864999305153a789d6ba6c26797c13b160f23363e9c6d0c32594c0", func := "hornbook/hornbooklaw04.CondMatches", spec := "condMatches", inPlace := ["internal/bytealg.IndexByteString", "internal/bytealg.IndexString"], named := ["internal/bytealg.MaxLen"], apart := false, narrowed := true }
def CondMatchesUptoSaid : Prop := condMatchesUptoRow.holds Try.pinned (OpenSpec.upto condMatchesSpec)

/-- 'hornbooklaw04.CondShows', WHERE WHAT IT READS IS OF BULK AT MOST 1048576: true; the input reads as it did. -/
def condShowsUptoRow : OpenClaim := { program := "ytgaagbjbolfbjaa", sum := "9fd09d4e99864999305153a789d6ba6c26797c13b160f23363e9c6d0c32594c0", func := "hornbook/hornbooklaw04.CondShows", spec := "condShows", inPlace := ["internal/bytealg.IndexByteString", "internal/bytealg.IndexString", "internal/abi.NoEscape"], named := ["internal/bytealg.MaxLen"], apart := false, narrowed := true }
def CondShowsUptoSaid : Prop := condShowsUptoRow.holds Try.pinned (OpenSpec.upto condShowsSpec)

/-- 'hornbooklaw04.CondEquals', WHERE WHAT IT READS IS OF BULK AT MOST 1048576: true; the input reads as it did. -/
def condEqualsUptoRow : OpenClaim := { program := "ytgaagbjbolfbjaa", sum := "9fd09d4e99864999305153a789d6ba6c26797c13b160f23363e9c6d0c32594c0", func := "hornbook/hornbooklaw04.CondEquals", spec := "condEquals", inPlace := ["internal/bytealg.IndexByteString", "internal/bytealg.IndexString"], named := ["internal/bytealg.MaxLen"], apart := false, narrowed := true }
def CondEqualsUptoSaid : Prop := condEqualsUptoRow.holds Try.pinned (OpenSpec.upto condEqualsSpec)

/-- 'hornbooklaw04.CondBack', WHERE WHAT IT READS IS OF BULK AT MOST 1048576: true; the input reads as it did. -/
def condBackUptoRow : OpenClaim := { program := "ytgaagbjbolfbjaa", sum := "9fd09d4e99864999305153a789d6ba6c26797c13b160f23363e9c6d0c32594c0", func := "hornbook/hornbooklaw04.CondBack", spec := "condBack", inPlace := ["internal/bytealg.IndexByteString", "internal/bytealg.IndexString", "internal/abi.NoEscape"], named := ["internal/bytealg.MaxLen"], apart := false, narrowed := true }
def CondBackUptoSaid : Prop := condBackUptoRow.holds Try.pinned (OpenSpec.upto condBackSpec)

end Rows
end Go.Proofs.Ytgaagbjbolfbjaa
