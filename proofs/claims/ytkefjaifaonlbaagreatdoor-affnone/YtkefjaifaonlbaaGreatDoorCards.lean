/-
  DERIVED. GIVEN WITH THE SEED: THE CARDS: each row of YtkefjaifaonlbaaGreatDoorRows.lean that lists a variable, with what it lists TIED to the program's text (the seventh form; the later family's looks); each row that meets fmt, with fmt's text TOLD by the authors' own Lean function (tested against real Go, not proved from fmt's source: count such statements apart). THE CARD IS WHAT COUNTS. Prove the row's statement (the work); the ties are given (YtkefjaifaonlbaaGreatDoorTie.lean); close each card by the builder's one call (the guide's Derived/Test/ToyasCard.lean, 'card_holds'). Laid BY PROGRAM, IN A SANDBOX (cutbox-door.mjs). By AI agents, Wed Nov 11 2026. No macro, syntax, notation, axiom, sorry.
-/
import Derived.Test.YtkefjaifaonlbaaGreatDoorRows
import GoSem.ClaimSeven
namespace Go.Proofs.YtkefjaifaonlbaaGreatDoor
namespace Rows

/-- THE TIED CARD OF 'hornbooklaw11.AffNone'. -/
def affNoneCard : Claim7 := { stood := { row := affNoneRow, standIns := [], harness := (true, "3afce104796bc0164048f82646b6655606ac77acca48dd710adca9b0e193ff01"), looks := true }, kinds := [], alts := [], laidByText := true, laidKinds := [.data, .data, .data, .data, .pinned], laidTests := true, laidLooks := .later }
def AffNoneCardSaid : Prop := Claim7.holds Tryz.pinned (.plain (OpenSpec.ofChange affNoneSpec)) affNoneCard

/-- THE SECOND FORM's CARD OF 'hornbooklaw11.AffNone'. -/
def affNoneUptoCard : Claim7 := { stood := { row := affNoneUptoRow, standIns := [], harness := (true, "3afce104796bc0164048f82646b6655606ac77acca48dd710adca9b0e193ff01"), looks := true }, kinds := [], alts := [], laidByText := true, laidKinds := [.data, .data, .data, .data, .pinned], laidTests := true, laidLooks := .later }
def AffNoneUptoCardSaid : Prop := Claim7.holds Tryz.pinned (.plain (OpenSpec.upto affNoneSpec)) affNoneUptoCard
end Rows
end Go.Proofs.YtkefjaifaonlbaaGreatDoor
