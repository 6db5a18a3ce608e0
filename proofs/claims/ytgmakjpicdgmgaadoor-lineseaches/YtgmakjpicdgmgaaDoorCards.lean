/-
  DERIVED. GIVEN WITH THE SEED: THE CARDS: each row of YtgmakjpicdgmgaaDoorRows.lean that lists a variable, with what it lists TIED to the program's text (the seventh form; the later family's looks); each row that meets fmt, with fmt's text TOLD by the authors' own Lean function (tested against real Go, not proved from fmt's source: count such statements apart). THE CARD IS WHAT COUNTS. Prove the row's statement (the work); the ties are given (YtgmakjpicdgmgaaDoorTie.lean); close each card by the builder's one call (the guide's Derived/Test/ToyasCard.lean, 'card_holds'). Laid BY PROGRAM, IN A SANDBOX (cutbox-door.mjs). By AI agents, Wed Nov 11 2026. No macro, syntax, notation, axiom, sorry.
-/
import Derived.Test.YtgmakjpicdgmgaaDoorRows
import GoSem.ClaimSeven
namespace Go.Proofs.YtgmakjpicdgmgaaDoor
namespace Rows

/-- THE TIED CARD OF 'hornbooklaw01.LinesSplits'. -/
def linesSplitsCard : Claim7 := { stood := { row := linesSplitsRow, standIns := [], harness := (true, "d33d028f2d748c20cf2225ecd62f9360c7b401dde9bcdcc191eedd49a78024a7"), looks := false }, kinds := [], alts := [], laidByText := true, laidKinds := [.data, .data, .data], laidTests := true, laidLooks := .later }
def LinesSplitsCardSaid : Prop := Claim7.holds Tryd.pinned (.plain (OpenSpec.ofChange linesSplitsSpec)) linesSplitsCard

/-- THE TIED CARD OF 'hornbooklaw01.LinesEaches'. -/
def linesEachesCard : Claim7 := { stood := { row := linesEachesRow, standIns := [], harness := (true, "d33d028f2d748c20cf2225ecd62f9360c7b401dde9bcdcc191eedd49a78024a7"), looks := false }, kinds := [], alts := [], laidByText := true, laidKinds := [.data, .data, .data], laidTests := true, laidLooks := .later }
def LinesEachesCardSaid : Prop := Claim7.holds Tryd.pinned (.plain (OpenSpec.ofChange linesEachesSpec)) linesEachesCard

/-- THE TIED CARD OF 'hornbooklaw01.LinesFielded'. -/
def linesFieldedCard : Claim7 := { stood := { row := linesFieldedRow, standIns := [], harness := (true, "d33d028f2d748c20cf2225ecd62f9360c7b401dde9bcdcc191eedd49a78024a7"), looks := false }, kinds := [], alts := [], laidByText := true, laidKinds := [.data, .data, .data], laidTests := true, laidLooks := .later }
def LinesFieldedCardSaid : Prop := Claim7.holds Tryd.pinned (.plain (OpenSpec.ofChange linesFieldedSpec)) linesFieldedCard

/-- THE TIED CARD OF 'hornbooklaw01.LinesRowed'. -/
def linesRowedCard : Claim7 := { stood := { row := linesRowedRow, standIns := [], harness := (true, "d33d028f2d748c20cf2225ecd62f9360c7b401dde9bcdcc191eedd49a78024a7"), looks := false }, kinds := [], alts := [], laidByText := true, laidKinds := [.data, .data, .data], laidTests := true, laidLooks := .later }
def LinesRowedCardSaid : Prop := Claim7.holds Tryd.pinned (.plain (OpenSpec.ofChange linesRowedSpec)) linesRowedCard

/-- THE TIED CARD OF 'hornbooklaw01.LinesShown'. -/
def linesShownCard : Claim7 := { stood := { row := linesShownRow, standIns := [], harness := (true, "d33d028f2d748c20cf2225ecd62f9360c7b401dde9bcdcc191eedd49a78024a7"), looks := false }, kinds := [], alts := [], laidByText := true, laidKinds := [.data, .data, .data], laidTests := true, laidLooks := .later }
def LinesShownCardSaid : Prop := Claim7.holds Tryd.pinned (.plain (OpenSpec.ofChange linesShownSpec)) linesShownCard

/-- THE TIED CARD OF 'hornbooklaw01.LinesNumbered'. -/
def linesNumberedCard : Claim7 := { stood := { row := linesNumberedRow, standIns := [], harness := (true, "d33d028f2d748c20cf2225ecd62f9360c7b401dde9bcdcc191eedd49a78024a7"), looks := false }, kinds := [], alts := [], laidByText := true, laidKinds := [.data, .data, .data], laidTests := true, laidLooks := .later }
def LinesNumberedCardSaid : Prop := Claim7.holds Tryd.pinned (.plain (OpenSpec.ofChange linesNumberedSpec)) linesNumberedCard

/-- THE SECOND FORM's CARD OF 'hornbooklaw01.LinesSplits'. -/
def linesSplitsUptoCard : Claim7 := { stood := { row := linesSplitsUptoRow, standIns := [], harness := (true, "d33d028f2d748c20cf2225ecd62f9360c7b401dde9bcdcc191eedd49a78024a7"), looks := false }, kinds := [], alts := [], laidByText := true, laidKinds := [.data, .data, .data], laidTests := true, laidLooks := .later }
def LinesSplitsUptoCardSaid : Prop := Claim7.holds Tryd.pinned (.plain (OpenSpec.upto linesSplitsSpec)) linesSplitsUptoCard

/-- THE SECOND FORM's CARD OF 'hornbooklaw01.LinesEaches'. -/
def linesEachesUptoCard : Claim7 := { stood := { row := linesEachesUptoRow, standIns := [], harness := (true, "d33d028f2d748c20cf2225ecd62f9360c7b401dde9bcdcc191eedd49a78024a7"), looks := false }, kinds := [], alts := [], laidByText := true, laidKinds := [.data, .data, .data], laidTests := true, laidLooks := .later }
def LinesEachesUptoCardSaid : Prop := Claim7.holds Tryd.pinned (.plain (OpenSpec.upto linesEachesSpec)) linesEachesUptoCard

/-- THE SECOND FORM's CARD OF 'hornbooklaw01.LinesFielded'. -/
def linesFieldedUptoCard : Claim7 := { stood := { row := linesFieldedUptoRow, standIns := [], harness := (true, "d33d028f2d748c20cf2225ecd62f9360c7b401dde9bcdcc191eedd49a78024a7"), looks := false }, kinds := [], alts := [], laidByText := true, laidKinds := [.data, .data, .data], laidTests := true, laidLooks := .later }
def LinesFieldedUptoCardSaid : Prop := Claim7.holds Tryd.pinned (.plain (OpenSpec.upto linesFieldedSpec)) linesFieldedUptoCard

/-- THE SECOND FORM's CARD OF 'hornbooklaw01.LinesRowed'. -/
def linesRowedUptoCard : Claim7 := { stood := { row := linesRowedUptoRow, standIns := [], harness := (true, "d33d028f2d748c20cf2225ecd62f9360c7b401dde9bcdcc191eedd49a78024a7"), looks := false }, kinds := [], alts := [], laidByText := true, laidKinds := [.data, .data, .data], laidTests := true, laidLooks := .later }
def LinesRowedUptoCardSaid : Prop := Claim7.holds Tryd.pinned (.plain (OpenSpec.upto linesRowedSpec)) linesRowedUptoCard

/-- THE SECOND FORM's CARD OF 'hornbooklaw01.LinesShown'. -/
def linesShownUptoCard : Claim7 := { stood := { row := linesShownUptoRow, standIns := [], harness := (true, "d33d028f2d748c20cf2225ecd62f9360c7b401dde9bcdcc191eedd49a78024a7"), looks := false }, kinds := [], alts := [], laidByText := true, laidKinds := [.data, .data, .data], laidTests := true, laidLooks := .later }
def LinesShownUptoCardSaid : Prop := Claim7.holds Tryd.pinned (.plain (OpenSpec.upto linesShownSpec)) linesShownUptoCard

/-- THE SECOND FORM's CARD OF 'hornbooklaw01.LinesNumbered'. -/
def linesNumberedUptoCard : Claim7 := { stood := { row := linesNumberedUptoRow, standIns := [], harness := (true, "d33d028f2d748c20cf2225ecd62f9360c7b401dde9bcdcc191eedd49a78024a7"), looks := false }, kinds := [], alts := [], laidByText := true, laidKinds := [.data, .data, .data], laidTests := true, laidLooks := .later }
def LinesNumberedUptoCardSaid : Prop := Claim7.holds Tryd.pinned (.plain (OpenSpec.upto linesNumberedSpec)) linesNumberedUptoCard
end Rows
end Go.Proofs.YtgmakjpicdgmgaaDoor
