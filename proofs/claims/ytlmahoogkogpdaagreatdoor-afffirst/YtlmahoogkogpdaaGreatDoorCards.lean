/-
  DERIVED. GIVEN WITH THE SEED: THE CARDS: each row of YtlmahoogkogpdaaGreatDoorRows.lean that lists a variable, with what it lists TIED to the program's text (the seventh form; the later family's looks); each row that meets fmt, with fmt's text TOLD by the authors' own Lean function (tested against real Go, not proved from fmt's source: count such statements apart). THE CARD IS WHAT COUNTS. Prove the row's statement (the work); the ties are given (YtlmahoogkogpdaaGreatDoorTie.lean); close each card by the builder's one call (the guide's Derived/Test/ToyasCard.lean, 'card_holds'). Laid BY PROGRAM, IN A SANDBOX (cutbox-door.mjs). By AI agents, Wed Nov 11 2026. No macro, syntax, notation, axiom, sorry.
-/
import Derived.Test.YtlmahoogkogpdaaGreatDoorRows
import GoSem.ClaimSeven
namespace Go.Proofs.YtlmahoogkogpdaaGreatDoor
namespace Rows

/-- THE TIED CARD OF 'hornbooklaw11.AffBack'. -/
def affBackCard : Claim7 := { stood := { row := affBackRow, standIns := [], harness := (true, "e6fecc43dcc762257e78962373a2a9f68fbcd42f6b7f61cc3e557672fc14896b"), looks := true }, kinds := [], alts := [], laidByText := true, laidKinds := [.data, .data, .data, .data, .pinned], laidTests := true, laidLooks := .later }
def AffBackCardSaid : Prop := Claim7.holds Tryz.pinned (.plain (OpenSpec.ofChange affBackSpec)) affBackCard

/-- THE TIED CARD OF 'hornbooklaw11.AffRemarks'. -/
def affRemarksCard : Claim7 := { stood := { row := affRemarksRow, standIns := [], harness := (true, "e6fecc43dcc762257e78962373a2a9f68fbcd42f6b7f61cc3e557672fc14896b"), looks := true }, kinds := [], alts := [], laidByText := true, laidKinds := [.data, .pinned], laidTests := true, laidLooks := .later }
def AffRemarksCardSaid : Prop := Claim7.holds Tryz.pinned (.plain (OpenSpec.ofChange affRemarksSpec)) affRemarksCard

/-- THE TIED CARD OF 'hornbooklaw11.AffFirst'. -/
def affFirstCard : Claim7 := { stood := { row := affFirstRow, standIns := [], harness := (true, "e6fecc43dcc762257e78962373a2a9f68fbcd42f6b7f61cc3e557672fc14896b"), looks := true }, kinds := [], alts := [], laidByText := true, laidKinds := [.data, .pinned], laidTests := true, laidLooks := .later }
def AffFirstCardSaid : Prop := Claim7.holds Tryz.pinned (.plain (OpenSpec.ofChange affFirstSpec)) affFirstCard

/-- THE SECOND FORM's CARD OF 'hornbooklaw11.AffBack'. -/
def affBackUptoCard : Claim7 := { stood := { row := affBackUptoRow, standIns := [], harness := (true, "e6fecc43dcc762257e78962373a2a9f68fbcd42f6b7f61cc3e557672fc14896b"), looks := true }, kinds := [], alts := [], laidByText := true, laidKinds := [.data, .data, .data, .data, .pinned], laidTests := true, laidLooks := .later }
def AffBackUptoCardSaid : Prop := Claim7.holds Tryz.pinned (.plain (OpenSpec.upto affBackSpec)) affBackUptoCard

/-- THE SECOND FORM's CARD OF 'hornbooklaw11.AffRemarks'. -/
def affRemarksUptoCard : Claim7 := { stood := { row := affRemarksUptoRow, standIns := [], harness := (true, "e6fecc43dcc762257e78962373a2a9f68fbcd42f6b7f61cc3e557672fc14896b"), looks := true }, kinds := [], alts := [], laidByText := true, laidKinds := [.data, .pinned], laidTests := true, laidLooks := .later }
def AffRemarksUptoCardSaid : Prop := Claim7.holds Tryz.pinned (.plain (OpenSpec.upto affRemarksSpec)) affRemarksUptoCard

/-- THE SECOND FORM's CARD OF 'hornbooklaw11.AffFirst'. -/
def affFirstUptoCard : Claim7 := { stood := { row := affFirstUptoRow, standIns := [], harness := (true, "e6fecc43dcc762257e78962373a2a9f68fbcd42f6b7f61cc3e557672fc14896b"), looks := true }, kinds := [], alts := [], laidByText := true, laidKinds := [.data, .pinned], laidTests := true, laidLooks := .later }
def AffFirstUptoCardSaid : Prop := Claim7.holds Tryz.pinned (.plain (OpenSpec.upto affFirstSpec)) affFirstUptoCard
end Rows
end Go.Proofs.YtlmahoogkogpdaaGreatDoor
