/-
  DERIVED. GIVEN WITH THE SEED: THE CARDS: each row of YtgmgnhkphlegpabDoorRows.lean that lists a variable, with what it lists TIED to the program's text (the seventh form; the later family's looks); each row that meets fmt, with fmt's text TOLD by the authors' own Lean function (tested against real Go, not proved from fmt's source: count such statements apart). THE CARD IS WHAT COUNTS. Prove the row's statement (the work); the ties are given (YtgmgnhkphlegpabDoorTie.lean); close each card by the builder's one call (the guide's Derived/Test/ToyasCard.lean, 'card_holds'). Laid BY PROGRAM, IN A SANDBOX (cutbox-door.mjs). By AI agents, Wed Nov 11 2026. No macro, syntax, notation, axiom, sorry.
-/
import Derived.Test.YtgmgnhkphlegpabDoorRows
import GoSem.ClaimSeven
namespace Go.Proofs.YtgmgnhkphlegpabDoor
namespace Rows

/-- THE TIED CARD OF 'hornbooklaw05.RunsRoom'. -/
def runsRoomCard : Claim7 := { stood := { row := runsRoomRow, standIns := [], harness := (true, "ea9a30cbef737b79e46cfc48379f0c9857029fa49c781c08d1b30e1e4e011433"), looks := true }, kinds := [], alts := [], laidByText := true, laidKinds := [.sentinel, .sentinel, .sentinel, .sentinel, .sentinel, .sentinel], laidTests := true, laidLooks := .later }
def RunsRoomCardSaid : Prop := Claim7.holds Tryd.pinned (.plain (OpenSpec.ofChange runsRoomSpec)) runsRoomCard

/-- THE TIED CARD OF 'hornbooklaw05.RunsKeeps'. -/
def runsKeepsCard : Claim7 := { stood := { row := runsKeepsRow, standIns := [], harness := (true, "ea9a30cbef737b79e46cfc48379f0c9857029fa49c781c08d1b30e1e4e011433"), looks := true }, kinds := [], alts := [], laidByText := true, laidKinds := [.sentinel, .sentinel, .sentinel, .sentinel, .sentinel, .sentinel], laidTests := true, laidLooks := .later }
def RunsKeepsCardSaid : Prop := Claim7.holds Tryd.pinned (.plain (OpenSpec.ofChange runsKeepsSpec)) runsKeepsCard

/-- THE SECOND FORM's CARD OF 'hornbooklaw05.RunsRoom'. -/
def runsRoomUptoCard : Claim7 := { stood := { row := runsRoomUptoRow, standIns := [], harness := (true, "ea9a30cbef737b79e46cfc48379f0c9857029fa49c781c08d1b30e1e4e011433"), looks := true }, kinds := [], alts := [], laidByText := true, laidKinds := [.sentinel, .sentinel, .sentinel, .sentinel, .sentinel, .sentinel], laidTests := true, laidLooks := .later }
def RunsRoomUptoCardSaid : Prop := Claim7.holds Tryd.pinned (.plain (OpenSpec.upto runsRoomSpec)) runsRoomUptoCard

/-- THE SECOND FORM's CARD OF 'hornbooklaw05.RunsKeeps'. -/
def runsKeepsUptoCard : Claim7 := { stood := { row := runsKeepsUptoRow, standIns := [], harness := (true, "ea9a30cbef737b79e46cfc48379f0c9857029fa49c781c08d1b30e1e4e011433"), looks := true }, kinds := [], alts := [], laidByText := true, laidKinds := [.sentinel, .sentinel, .sentinel, .sentinel, .sentinel, .sentinel], laidTests := true, laidLooks := .later }
def RunsKeepsUptoCardSaid : Prop := Claim7.holds Tryd.pinned (.plain (OpenSpec.upto runsKeepsSpec)) runsKeepsUptoCard
end Rows
end Go.Proofs.YtgmgnhkphlegpabDoor
