/-
  DERIVED. GIVEN WITH THE SEED: THE CARDS: each row of YtgmakjpicdgmgabDoorRows.lean that lists a variable, with what it lists TIED to the program's text (the seventh form; the later family's looks); each row that meets fmt, with fmt's text TOLD by the authors' own Lean function (tested against real Go, not proved from fmt's source: count such statements apart). THE CARD IS WHAT COUNTS. Prove the row's statement (the work); the ties are given (YtgmakjpicdgmgabDoorTie.lean); close each card by the builder's one call (the guide's Derived/Test/ToyasCard.lean, 'card_holds'). Laid BY PROGRAM, IN A SANDBOX (cutbox-door.mjs). By AI agents, Wed Nov 11 2026. No macro, syntax, notation, axiom, sorry.
-/
import Derived.Test.YtgmakjpicdgmgabDoorRows
import GoSem.ClaimSeven
namespace Go.Proofs.YtgmakjpicdgmgabDoor
namespace Rows

/-- THE TIED CARD OF 'hornbooklaw01.LinesDecimals'. -/
def linesDecimalsCard : Claim7 := { stood := { row := linesDecimalsRow, standIns := [], harness := (true, "33194e5e3ac501581a35d2a503fec157df85489b63675d5c66c58571d3be9ffa"), looks := false }, kinds := [], alts := [], laidByText := true, laidKinds := [.data, .data, .data], laidTests := true, laidLooks := .later }
def LinesDecimalsCardSaid : Prop := Claim7.holds Tryd.pinned (.plain (OpenSpec.ofChange linesDecimalsSpec)) linesDecimalsCard

/-- THE TIED CARD OF 'hornbooklaw01.LinesCounts'. -/
def linesCountsCard : Claim7 := { stood := { row := linesCountsRow, standIns := [], harness := (true, "33194e5e3ac501581a35d2a503fec157df85489b63675d5c66c58571d3be9ffa"), looks := false }, kinds := [], alts := [], laidByText := true, laidKinds := [.data, .data, .data], laidTests := true, laidLooks := .later }
def LinesCountsCardSaid : Prop := Claim7.holds Tryd.pinned (.plain (OpenSpec.ofChange linesCountsSpec)) linesCountsCard

/-- THE TIED CARD OF 'hornbooklaw01.LinesBack'. -/
def linesBackCard : Claim7 := { stood := { row := linesBackRow, standIns := [], harness := (true, "33194e5e3ac501581a35d2a503fec157df85489b63675d5c66c58571d3be9ffa"), looks := false }, kinds := [], alts := [], laidByText := true, laidKinds := [.data, .data, .data], laidTests := true, laidLooks := .later }
def LinesBackCardSaid : Prop := Claim7.holds Tryd.pinned (.plain (OpenSpec.ofChange linesBackSpec)) linesBackCard

/-- THE TIED CARD OF 'hornbooklaw01.LinesEnds'. -/
def linesEndsCard : Claim7 := { stood := { row := linesEndsRow, standIns := [], harness := (true, "33194e5e3ac501581a35d2a503fec157df85489b63675d5c66c58571d3be9ffa"), looks := false }, kinds := [], alts := [], laidByText := true, laidKinds := [.data, .data, .data], laidTests := true, laidLooks := .later }
def LinesEndsCardSaid : Prop := Claim7.holds Tryd.pinned (.plain (OpenSpec.ofChange linesEndsSpec)) linesEndsCard

/-- THE TIED CARD OF 'hornbooklaw01.LinesBlanks'. -/
def linesBlanksCard : Claim7 := { stood := { row := linesBlanksRow, standIns := [], harness := (true, "33194e5e3ac501581a35d2a503fec157df85489b63675d5c66c58571d3be9ffa"), looks := false }, kinds := [], alts := [], laidByText := true, laidKinds := [.data, .data, .data], laidTests := true, laidLooks := .later }
def LinesBlanksCardSaid : Prop := Claim7.holds Tryd.pinned (.plain (OpenSpec.ofChange linesBlanksSpec)) linesBlanksCard

/-- THE TIED CARD OF 'hornbooklaw01.LinesKeeps'. -/
def linesKeepsCard : Claim7 := { stood := { row := linesKeepsRow, standIns := [], harness := (true, "33194e5e3ac501581a35d2a503fec157df85489b63675d5c66c58571d3be9ffa"), looks := false }, kinds := [], alts := [], laidByText := true, laidKinds := [.data, .data, .data], laidTests := true, laidLooks := .later }
def LinesKeepsCardSaid : Prop := Claim7.holds Tryd.pinned (.plain (OpenSpec.ofChange linesKeepsSpec)) linesKeepsCard

/-- THE SECOND FORM's CARD OF 'hornbooklaw01.LinesDecimals'. -/
def linesDecimalsUptoCard : Claim7 := { stood := { row := linesDecimalsUptoRow, standIns := [], harness := (true, "33194e5e3ac501581a35d2a503fec157df85489b63675d5c66c58571d3be9ffa"), looks := false }, kinds := [], alts := [], laidByText := true, laidKinds := [.data, .data, .data], laidTests := true, laidLooks := .later }
def LinesDecimalsUptoCardSaid : Prop := Claim7.holds Tryd.pinned (.plain (OpenSpec.upto linesDecimalsSpec)) linesDecimalsUptoCard

/-- THE SECOND FORM's CARD OF 'hornbooklaw01.LinesCounts'. -/
def linesCountsUptoCard : Claim7 := { stood := { row := linesCountsUptoRow, standIns := [], harness := (true, "33194e5e3ac501581a35d2a503fec157df85489b63675d5c66c58571d3be9ffa"), looks := false }, kinds := [], alts := [], laidByText := true, laidKinds := [.data, .data, .data], laidTests := true, laidLooks := .later }
def LinesCountsUptoCardSaid : Prop := Claim7.holds Tryd.pinned (.plain (OpenSpec.upto linesCountsSpec)) linesCountsUptoCard

/-- THE SECOND FORM's CARD OF 'hornbooklaw01.LinesBack'. -/
def linesBackUptoCard : Claim7 := { stood := { row := linesBackUptoRow, standIns := [], harness := (true, "33194e5e3ac501581a35d2a503fec157df85489b63675d5c66c58571d3be9ffa"), looks := false }, kinds := [], alts := [], laidByText := true, laidKinds := [.data, .data, .data], laidTests := true, laidLooks := .later }
def LinesBackUptoCardSaid : Prop := Claim7.holds Tryd.pinned (.plain (OpenSpec.upto linesBackSpec)) linesBackUptoCard

/-- THE SECOND FORM's CARD OF 'hornbooklaw01.LinesEnds'. -/
def linesEndsUptoCard : Claim7 := { stood := { row := linesEndsUptoRow, standIns := [], harness := (true, "33194e5e3ac501581a35d2a503fec157df85489b63675d5c66c58571d3be9ffa"), looks := false }, kinds := [], alts := [], laidByText := true, laidKinds := [.data, .data, .data], laidTests := true, laidLooks := .later }
def LinesEndsUptoCardSaid : Prop := Claim7.holds Tryd.pinned (.plain (OpenSpec.upto linesEndsSpec)) linesEndsUptoCard

/-- THE SECOND FORM's CARD OF 'hornbooklaw01.LinesBlanks'. -/
def linesBlanksUptoCard : Claim7 := { stood := { row := linesBlanksUptoRow, standIns := [], harness := (true, "33194e5e3ac501581a35d2a503fec157df85489b63675d5c66c58571d3be9ffa"), looks := false }, kinds := [], alts := [], laidByText := true, laidKinds := [.data, .data, .data], laidTests := true, laidLooks := .later }
def LinesBlanksUptoCardSaid : Prop := Claim7.holds Tryd.pinned (.plain (OpenSpec.upto linesBlanksSpec)) linesBlanksUptoCard

/-- THE SECOND FORM's CARD OF 'hornbooklaw01.LinesKeeps'. -/
def linesKeepsUptoCard : Claim7 := { stood := { row := linesKeepsUptoRow, standIns := [], harness := (true, "33194e5e3ac501581a35d2a503fec157df85489b63675d5c66c58571d3be9ffa"), looks := false }, kinds := [], alts := [], laidByText := true, laidKinds := [.data, .data, .data], laidTests := true, laidLooks := .later }
def LinesKeepsUptoCardSaid : Prop := Claim7.holds Tryd.pinned (.plain (OpenSpec.upto linesKeepsSpec)) linesKeepsUptoCard
end Rows
end Go.Proofs.YtgmakjpicdgmgabDoor
