/-
  DERIVED. GIVEN WITH THE SEED: THE CARDS: each row of YtidhbhdcoanfcaaGreatDoorRows.lean that lists a variable, with what it lists TIED to the program's text (the seventh form; the later family's looks); each row that meets fmt, with fmt's text TOLD by the authors' own Lean function (tested against real Go, not proved from fmt's source: count such statements apart). THE CARD IS WHAT COUNTS. Prove the row's statement (the work); the ties are given (YtidhbhdcoanfcaaGreatDoorTie.lean); close each card by the builder's one call (the guide's Derived/Test/ToyasCard.lean, 'card_holds'). Laid BY PROGRAM, IN A SANDBOX (cutbox-door.mjs). By AI agents, Wed Nov 11 2026. No macro, syntax, notation, axiom, sorry.
-/
import Derived.Test.YtidhbhdcoanfcaaGreatDoorRows
import GoSem.ClaimSeven
namespace Go.Proofs.YtidhbhdcoanfcaaGreatDoor
namespace Rows

/-- THE TIED CARD OF 'hornbooklaw11.AffRemarks'. -/
def affRemarksCard : Claim7 := { stood := { row := affRemarksRow, standIns := [], harness := (true, "5737bfb133f4518935445f45aab9591038881fc261de571214cff7f9b2d4c020"), looks := true }, kinds := [], alts := [], laidByText := true, laidKinds := [.data, .pinned], laidTests := true, laidLooks := .later }
def AffRemarksCardSaid : Prop := Claim7.holds Tryz.pinned (.plain (OpenSpec.ofChange affRemarksSpec)) affRemarksCard

/-- THE TIED CARD OF 'hornbooklaw12.DicAnyWord'. -/
def dicAnyWordCard : Claim7 := { stood := { row := dicAnyWordRow, standIns := [], harness := (true, "5737bfb133f4518935445f45aab9591038881fc261de571214cff7f9b2d4c020"), looks := true }, kinds := [], alts := [], laidByText := true, laidKinds := [.data, .pinned], laidTests := true, laidLooks := .later }
def DicAnyWordCardSaid : Prop := Claim7.holds Tryz.pinned (.plain (OpenSpec.ofChange dicAnyWordSpec)) dicAnyWordCard

/-- THE TIED CARD OF 'hornbooklaw12.DicOrder'. -/
def dicOrderCard : Claim7 := { stood := { row := dicOrderRow, standIns := [], harness := (true, "5737bfb133f4518935445f45aab9591038881fc261de571214cff7f9b2d4c020"), looks := true }, kinds := [], alts := [], laidByText := true, laidKinds := [.data, .pinned], laidTests := true, laidLooks := .later }
def DicOrderCardSaid : Prop := Claim7.holds Tryz.pinned (.plain (OpenSpec.ofChange dicOrderSpec)) dicOrderCard

/-- THE TIED CARD OF 'hornbooklaw12.DicRemarks'. -/
def dicRemarksCard : Claim7 := { stood := { row := dicRemarksRow, standIns := [], harness := (true, "5737bfb133f4518935445f45aab9591038881fc261de571214cff7f9b2d4c020"), looks := true }, kinds := [], alts := [], laidByText := true, laidKinds := [.data, .pinned], laidTests := true, laidLooks := .later }
def DicRemarksCardSaid : Prop := Claim7.holds Tryz.pinned (.plain (OpenSpec.ofChange dicRemarksSpec)) dicRemarksCard

/-- THE TIED CARD OF 'hornbooklaw13.TablesNames'. -/
def tablesNamesCard : Claim7 := { stood := { row := tablesNamesRow, standIns := [], harness := (true, "5737bfb133f4518935445f45aab9591038881fc261de571214cff7f9b2d4c020"), looks := true }, kinds := [], alts := [], laidByText := true, laidKinds := [.data, .pinned], laidTests := true, laidLooks := .later }
def TablesNamesCardSaid : Prop := Claim7.holds Tryz.pinned (.plain (OpenSpec.ofChange tablesNamesSpec)) tablesNamesCard

/-- THE SECOND FORM's CARD OF 'hornbooklaw11.AffRemarks'. -/
def affRemarksUptoCard : Claim7 := { stood := { row := affRemarksUptoRow, standIns := [], harness := (true, "5737bfb133f4518935445f45aab9591038881fc261de571214cff7f9b2d4c020"), looks := true }, kinds := [], alts := [], laidByText := true, laidKinds := [.data, .pinned], laidTests := true, laidLooks := .later }
def AffRemarksUptoCardSaid : Prop := Claim7.holds Tryz.pinned (.plain (OpenSpec.upto affRemarksSpec)) affRemarksUptoCard

/-- THE SECOND FORM's CARD OF 'hornbooklaw12.DicAnyWord'. -/
def dicAnyWordUptoCard : Claim7 := { stood := { row := dicAnyWordUptoRow, standIns := [], harness := (true, "5737bfb133f4518935445f45aab9591038881fc261de571214cff7f9b2d4c020"), looks := true }, kinds := [], alts := [], laidByText := true, laidKinds := [.data, .pinned], laidTests := true, laidLooks := .later }
def DicAnyWordUptoCardSaid : Prop := Claim7.holds Tryz.pinned (.plain (OpenSpec.upto dicAnyWordSpec)) dicAnyWordUptoCard

/-- THE SECOND FORM's CARD OF 'hornbooklaw12.DicOrder'. -/
def dicOrderUptoCard : Claim7 := { stood := { row := dicOrderUptoRow, standIns := [], harness := (true, "5737bfb133f4518935445f45aab9591038881fc261de571214cff7f9b2d4c020"), looks := true }, kinds := [], alts := [], laidByText := true, laidKinds := [.data, .pinned], laidTests := true, laidLooks := .later }
def DicOrderUptoCardSaid : Prop := Claim7.holds Tryz.pinned (.plain (OpenSpec.upto dicOrderSpec)) dicOrderUptoCard

/-- THE SECOND FORM's CARD OF 'hornbooklaw12.DicRemarks'. -/
def dicRemarksUptoCard : Claim7 := { stood := { row := dicRemarksUptoRow, standIns := [], harness := (true, "5737bfb133f4518935445f45aab9591038881fc261de571214cff7f9b2d4c020"), looks := true }, kinds := [], alts := [], laidByText := true, laidKinds := [.data, .pinned], laidTests := true, laidLooks := .later }
def DicRemarksUptoCardSaid : Prop := Claim7.holds Tryz.pinned (.plain (OpenSpec.upto dicRemarksSpec)) dicRemarksUptoCard

/-- THE SECOND FORM's CARD OF 'hornbooklaw13.TablesNames'. -/
def tablesNamesUptoCard : Claim7 := { stood := { row := tablesNamesUptoRow, standIns := [], harness := (true, "5737bfb133f4518935445f45aab9591038881fc261de571214cff7f9b2d4c020"), looks := true }, kinds := [], alts := [], laidByText := true, laidKinds := [.data, .pinned], laidTests := true, laidLooks := .later }
def TablesNamesUptoCardSaid : Prop := Claim7.holds Tryz.pinned (.plain (OpenSpec.upto tablesNamesSpec)) tablesNamesUptoCard
end Rows
end Go.Proofs.YtidhbhdcoanfcaaGreatDoor
