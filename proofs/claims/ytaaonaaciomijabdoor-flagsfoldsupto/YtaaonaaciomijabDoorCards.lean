/-
  DERIVED. GIVEN WITH THE SEED: THE CARDS: each row of YtaaonaaciomijabDoorRows.lean that lists a variable, with what it lists TIED to the program's text (the seventh form; the later family's looks); each row that meets fmt, with fmt's text TOLD by the authors' own Lean function (tested against real Go, not proved from fmt's source: count such statements apart). THE CARD IS WHAT COUNTS. Prove the row's statement (the work); the ties are given (YtaaonaaciomijabDoorTie.lean); close each card by the builder's one call (the guide's Derived/Test/ToyasCard.lean, 'card_holds'). Laid BY PROGRAM, IN A SANDBOX (cutbox-door.mjs). By AI agents, Wed Nov 11 2026. No macro, syntax, notation, axiom, sorry.
-/
import Derived.Test.YtaaonaaciomijabDoorRows
import GoSem.ClaimSeven
namespace Go.Proofs.YtaaonaaciomijabDoor
namespace Rows

/-- THE TIED CARD OF 'hornbooklaw03.FlagsFolds'. -/
def flagsFoldsCard : Claim7 := { stood := { row := flagsFoldsRow, standIns := [], harness := (true, "c7dd8947f7b04110ed28bf9e0b5b1a2918b98811c0f0bf7e98f235d1dfe4cb7c"), looks := false }, kinds := [], alts := [], laidByText := true, laidKinds := [.data, .pinned], laidTests := true, laidLooks := .later }
def FlagsFoldsCardSaid : Prop := Claim7.holds Tryd.pinned (.plain (OpenSpec.ofChange flagsFoldsSpec)) flagsFoldsCard

/-- THE TIED CARD OF 'hornbooklaw03.FlagsDrops'. -/
def flagsDropsCard : Claim7 := { stood := { row := flagsDropsRow, standIns := [], harness := (true, "c7dd8947f7b04110ed28bf9e0b5b1a2918b98811c0f0bf7e98f235d1dfe4cb7c"), looks := false }, kinds := [], alts := [], laidByText := true, laidKinds := [.data, .pinned], laidTests := true, laidLooks := .later }
def FlagsDropsCardSaid : Prop := Claim7.holds Tryd.pinned (.plain (OpenSpec.ofChange flagsDropsSpec)) flagsDropsCard

/-- THE TIED CARD OF 'hornbooklaw03.FlagsKeeps'. -/
def flagsKeepsCard : Claim7 := { stood := { row := flagsKeepsRow, standIns := [], harness := (true, "c7dd8947f7b04110ed28bf9e0b5b1a2918b98811c0f0bf7e98f235d1dfe4cb7c"), looks := false }, kinds := [], alts := [], laidByText := true, laidKinds := [.data, .pinned], laidTests := true, laidLooks := .later }
def FlagsKeepsCardSaid : Prop := Claim7.holds Tryd.pinned (.plain (OpenSpec.ofChange flagsKeepsSpec)) flagsKeepsCard

/-- THE TIED CARD OF 'hornbooklaw01.LinesShown'. -/
def linesShownCard : Claim7 := { stood := { row := linesShownRow, standIns := [], harness := (true, "c7dd8947f7b04110ed28bf9e0b5b1a2918b98811c0f0bf7e98f235d1dfe4cb7c"), looks := false }, kinds := [], alts := [], laidByText := true, laidKinds := [.data, .data, .data], laidTests := true, laidLooks := .later }
def LinesShownCardSaid : Prop := Claim7.holds Tryd.pinned (.plain (OpenSpec.ofChange linesShownSpec)) linesShownCard

/-- THE TIED CARD OF 'hornbooklaw01.LinesBack'. -/
def linesBackCard : Claim7 := { stood := { row := linesBackRow, standIns := [], harness := (true, "c7dd8947f7b04110ed28bf9e0b5b1a2918b98811c0f0bf7e98f235d1dfe4cb7c"), looks := false }, kinds := [], alts := [], laidByText := true, laidKinds := [.data, .data, .data], laidTests := true, laidLooks := .later }
def LinesBackCardSaid : Prop := Claim7.holds Tryd.pinned (.plain (OpenSpec.ofChange linesBackSpec)) linesBackCard

/-- THE SECOND FORM's CARD OF 'hornbooklaw03.FlagsFolds'. -/
def flagsFoldsUptoCard : Claim7 := { stood := { row := flagsFoldsUptoRow, standIns := [], harness := (true, "c7dd8947f7b04110ed28bf9e0b5b1a2918b98811c0f0bf7e98f235d1dfe4cb7c"), looks := false }, kinds := [], alts := [], laidByText := true, laidKinds := [.data, .pinned], laidTests := true, laidLooks := .later }
def FlagsFoldsUptoCardSaid : Prop := Claim7.holds Tryd.pinned (.plain (OpenSpec.upto flagsFoldsSpec)) flagsFoldsUptoCard

/-- THE SECOND FORM's CARD OF 'hornbooklaw03.FlagsDrops'. -/
def flagsDropsUptoCard : Claim7 := { stood := { row := flagsDropsUptoRow, standIns := [], harness := (true, "c7dd8947f7b04110ed28bf9e0b5b1a2918b98811c0f0bf7e98f235d1dfe4cb7c"), looks := false }, kinds := [], alts := [], laidByText := true, laidKinds := [.data, .pinned], laidTests := true, laidLooks := .later }
def FlagsDropsUptoCardSaid : Prop := Claim7.holds Tryd.pinned (.plain (OpenSpec.upto flagsDropsSpec)) flagsDropsUptoCard

/-- THE SECOND FORM's CARD OF 'hornbooklaw03.FlagsKeeps'. -/
def flagsKeepsUptoCard : Claim7 := { stood := { row := flagsKeepsUptoRow, standIns := [], harness := (true, "c7dd8947f7b04110ed28bf9e0b5b1a2918b98811c0f0bf7e98f235d1dfe4cb7c"), looks := false }, kinds := [], alts := [], laidByText := true, laidKinds := [.data, .pinned], laidTests := true, laidLooks := .later }
def FlagsKeepsUptoCardSaid : Prop := Claim7.holds Tryd.pinned (.plain (OpenSpec.upto flagsKeepsSpec)) flagsKeepsUptoCard

/-- THE SECOND FORM's CARD OF 'hornbooklaw01.LinesShown'. -/
def linesShownUptoCard : Claim7 := { stood := { row := linesShownUptoRow, standIns := [], harness := (true, "c7dd8947f7b04110ed28bf9e0b5b1a2918b98811c0f0bf7e98f235d1dfe4cb7c"), looks := false }, kinds := [], alts := [], laidByText := true, laidKinds := [.data, .data, .data], laidTests := true, laidLooks := .later }
def LinesShownUptoCardSaid : Prop := Claim7.holds Tryd.pinned (.plain (OpenSpec.upto linesShownSpec)) linesShownUptoCard

/-- THE SECOND FORM's CARD OF 'hornbooklaw01.LinesBack'. -/
def linesBackUptoCard : Claim7 := { stood := { row := linesBackUptoRow, standIns := [], harness := (true, "c7dd8947f7b04110ed28bf9e0b5b1a2918b98811c0f0bf7e98f235d1dfe4cb7c"), looks := false }, kinds := [], alts := [], laidByText := true, laidKinds := [.data, .data, .data], laidTests := true, laidLooks := .later }
def LinesBackUptoCardSaid : Prop := Claim7.holds Tryd.pinned (.plain (OpenSpec.upto linesBackSpec)) linesBackUptoCard
end Rows
end Go.Proofs.YtaaonaaciomijabDoor
