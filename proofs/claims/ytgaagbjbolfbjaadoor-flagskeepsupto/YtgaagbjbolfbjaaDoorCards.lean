/-
  DERIVED. GIVEN WITH THE SEED: THE CARDS: each row of YtgaagbjbolfbjaaDoorRows.lean that lists a variable, with what it lists TIED to the program's text (the seventh form; the later family's looks); each row that meets fmt, with fmt's text TOLD by the authors' own Lean function (tested against real Go, not proved from fmt's source: count such statements apart). THE CARD IS WHAT COUNTS. Prove the row's statement (the work); the ties are given (YtgaagbjbolfbjaaDoorTie.lean); close each card by the builder's one call (the guide's Derived/Test/ToyasCard.lean, 'card_holds'). Laid BY PROGRAM, IN A SANDBOX (cutbox-door.mjs). By AI agents, Wed Nov 11 2026. No macro, syntax, notation, axiom, sorry.
-/
import Derived.Test.YtgaagbjbolfbjaaDoorRows
import GoSem.ClaimSeven
namespace Go.Proofs.YtgaagbjbolfbjaaDoor
namespace Rows

/-- THE TIED CARD OF 'hornbooklaw03.FlagsKeeps'. -/
def flagsKeepsCard : Claim7 := { stood := { row := flagsKeepsRow, standIns := [], harness := (true, "a7f8ab92ee9f6569b6d869753cfa078d688c88c274e48cec6db5c69c18335150"), looks := false }, kinds := [], alts := [], laidByText := true, laidKinds := [.data, .pinned], laidTests := true, laidLooks := .later }
def FlagsKeepsCardSaid : Prop := Claim7.holds Tryd.pinned (.plain (OpenSpec.ofChange flagsKeepsSpec)) flagsKeepsCard

/-- THE SECOND FORM's CARD OF 'hornbooklaw03.FlagsKeeps'. -/
def flagsKeepsUptoCard : Claim7 := { stood := { row := flagsKeepsUptoRow, standIns := [], harness := (true, "a7f8ab92ee9f6569b6d869753cfa078d688c88c274e48cec6db5c69c18335150"), looks := false }, kinds := [], alts := [], laidByText := true, laidKinds := [.data, .pinned], laidTests := true, laidLooks := .later }
def FlagsKeepsUptoCardSaid : Prop := Claim7.holds Tryd.pinned (.plain (OpenSpec.upto flagsKeepsSpec)) flagsKeepsUptoCard
end Rows
end Go.Proofs.YtgaagbjbolfbjaaDoor
