/-
  DERIVED. GIVEN WITH THE SEED: THE CARDS: each row of YtmhegbeemgagkaaGreatDoorRows.lean that lists a variable, with what it lists TIED to the program's text (the seventh form; the later family's looks); each row that meets fmt, with fmt's text TOLD by the authors' own Lean function (tested against real Go, not proved from fmt's source: count such statements apart). THE CARD IS WHAT COUNTS. Prove the row's statement (the work); the ties are given (YtmhegbeemgagkaaGreatDoorTie.lean); close each card by the builder's one call (the guide's Derived/Test/ToyasCard.lean, 'card_holds'). Laid BY PROGRAM, IN A SANDBOX (cutbox-door.mjs). By AI agents, Wed Nov 11 2026. No macro, syntax, notation, axiom, sorry.
-/
import Derived.Test.YtmhegbeemgagkaaGreatDoorRows
import GoSem.ClaimSeven
namespace Go.Proofs.YtmhegbeemgagkaaGreatDoor
namespace Rows

/-- THE TIED CARD OF 'hornbooklaw11.AffReads'. -/
def affReadsCard : Claim7 := { stood := { row := affReadsRow, standIns := [], harness := (true, "fba37a8a72d670730990b216a1f8d8af445d94bf17b4e9535db9ddedb8a3f4ac"), looks := true }, kinds := [], alts := [], laidByText := true, laidKinds := [.data, .pinned], laidTests := true, laidLooks := .later }
def AffReadsCardSaid : Prop := Claim7.holds Tryz.pinned (.plain (OpenSpec.ofChange affReadsSpec)) affReadsCard

/-- THE TIED CARD OF 'hornbooklaw11.AffClasses'. -/
def affClassesCard : Claim7 := { stood := { row := affClassesRow, standIns := [], harness := (true, "fba37a8a72d670730990b216a1f8d8af445d94bf17b4e9535db9ddedb8a3f4ac"), looks := true }, kinds := [], alts := [], laidByText := true, laidKinds := [.data, .pinned], laidTests := true, laidLooks := .later }
def AffClassesCardSaid : Prop := Claim7.holds Tryz.pinned (.plain (OpenSpec.ofChange affClassesSpec)) affClassesCard

/-- THE TIED CARD OF 'hornbooklaw11.AffFlags'. -/
def affFlagsCard : Claim7 := { stood := { row := affFlagsRow, standIns := [], harness := (true, "fba37a8a72d670730990b216a1f8d8af445d94bf17b4e9535db9ddedb8a3f4ac"), looks := true }, kinds := [], alts := [], laidByText := true, laidKinds := [.data, .pinned], laidTests := true, laidLooks := .later }
def AffFlagsCardSaid : Prop := Claim7.holds Tryz.pinned (.plain (OpenSpec.ofChange affFlagsSpec)) affFlagsCard

/-- THE TIED CARD OF 'hornbooklaw11.AffWrites'. -/
def affWritesCard : Claim7 := { stood := { row := affWritesRow, standIns := [], harness := (true, "fba37a8a72d670730990b216a1f8d8af445d94bf17b4e9535db9ddedb8a3f4ac"), looks := true }, kinds := [], alts := [], laidByText := true, laidKinds := [.data, .data, .data, .data, .pinned], laidTests := true, laidLooks := .later }
def AffWritesCardSaid : Prop := Claim7.holds Tryz.pinned (.plain (OpenSpec.ofChange affWritesSpec)) affWritesCard

/-- THE TIED CARD OF 'hornbooklaw11.AffBack'. -/
def affBackCard : Claim7 := { stood := { row := affBackRow, standIns := [], harness := (true, "fba37a8a72d670730990b216a1f8d8af445d94bf17b4e9535db9ddedb8a3f4ac"), looks := true }, kinds := [], alts := [], laidByText := true, laidKinds := [.data, .data, .data, .data, .pinned], laidTests := true, laidLooks := .later }
def AffBackCardSaid : Prop := Claim7.holds Tryz.pinned (.plain (OpenSpec.ofChange affBackSpec)) affBackCard

/-- THE TIED CARD OF 'hornbooklaw11.AffKeeps'. -/
def affKeepsCard : Claim7 := { stood := { row := affKeepsRow, standIns := [], harness := (true, "fba37a8a72d670730990b216a1f8d8af445d94bf17b4e9535db9ddedb8a3f4ac"), looks := true }, kinds := [], alts := [], laidByText := true, laidKinds := [.data, .pinned], laidTests := true, laidLooks := .later }
def AffKeepsCardSaid : Prop := Claim7.holds Tryz.pinned (.plain (OpenSpec.ofChange affKeepsSpec)) affKeepsCard

/-- THE SECOND FORM's CARD OF 'hornbooklaw11.AffReads'. -/
def affReadsUptoCard : Claim7 := { stood := { row := affReadsUptoRow, standIns := [], harness := (true, "fba37a8a72d670730990b216a1f8d8af445d94bf17b4e9535db9ddedb8a3f4ac"), looks := true }, kinds := [], alts := [], laidByText := true, laidKinds := [.data, .pinned], laidTests := true, laidLooks := .later }
def AffReadsUptoCardSaid : Prop := Claim7.holds Tryz.pinned (.plain (OpenSpec.upto affReadsSpec)) affReadsUptoCard

/-- THE SECOND FORM's CARD OF 'hornbooklaw11.AffClasses'. -/
def affClassesUptoCard : Claim7 := { stood := { row := affClassesUptoRow, standIns := [], harness := (true, "fba37a8a72d670730990b216a1f8d8af445d94bf17b4e9535db9ddedb8a3f4ac"), looks := true }, kinds := [], alts := [], laidByText := true, laidKinds := [.data, .pinned], laidTests := true, laidLooks := .later }
def AffClassesUptoCardSaid : Prop := Claim7.holds Tryz.pinned (.plain (OpenSpec.upto affClassesSpec)) affClassesUptoCard

/-- THE SECOND FORM's CARD OF 'hornbooklaw11.AffFlags'. -/
def affFlagsUptoCard : Claim7 := { stood := { row := affFlagsUptoRow, standIns := [], harness := (true, "fba37a8a72d670730990b216a1f8d8af445d94bf17b4e9535db9ddedb8a3f4ac"), looks := true }, kinds := [], alts := [], laidByText := true, laidKinds := [.data, .pinned], laidTests := true, laidLooks := .later }
def AffFlagsUptoCardSaid : Prop := Claim7.holds Tryz.pinned (.plain (OpenSpec.upto affFlagsSpec)) affFlagsUptoCard

/-- THE SECOND FORM's CARD OF 'hornbooklaw11.AffWrites'. -/
def affWritesUptoCard : Claim7 := { stood := { row := affWritesUptoRow, standIns := [], harness := (true, "fba37a8a72d670730990b216a1f8d8af445d94bf17b4e9535db9ddedb8a3f4ac"), looks := true }, kinds := [], alts := [], laidByText := true, laidKinds := [.data, .data, .data, .data, .pinned], laidTests := true, laidLooks := .later }
def AffWritesUptoCardSaid : Prop := Claim7.holds Tryz.pinned (.plain (OpenSpec.upto affWritesSpec)) affWritesUptoCard

/-- THE SECOND FORM's CARD OF 'hornbooklaw11.AffBack'. -/
def affBackUptoCard : Claim7 := { stood := { row := affBackUptoRow, standIns := [], harness := (true, "fba37a8a72d670730990b216a1f8d8af445d94bf17b4e9535db9ddedb8a3f4ac"), looks := true }, kinds := [], alts := [], laidByText := true, laidKinds := [.data, .data, .data, .data, .pinned], laidTests := true, laidLooks := .later }
def AffBackUptoCardSaid : Prop := Claim7.holds Tryz.pinned (.plain (OpenSpec.upto affBackSpec)) affBackUptoCard

/-- THE SECOND FORM's CARD OF 'hornbooklaw11.AffKeeps'. -/
def affKeepsUptoCard : Claim7 := { stood := { row := affKeepsUptoRow, standIns := [], harness := (true, "fba37a8a72d670730990b216a1f8d8af445d94bf17b4e9535db9ddedb8a3f4ac"), looks := true }, kinds := [], alts := [], laidByText := true, laidKinds := [.data, .pinned], laidTests := true, laidLooks := .later }
def AffKeepsUptoCardSaid : Prop := Claim7.holds Tryz.pinned (.plain (OpenSpec.upto affKeepsSpec)) affKeepsUptoCard
end Rows
end Go.Proofs.YtmhegbeemgagkaaGreatDoor
