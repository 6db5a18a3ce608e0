/-
  DERIVED. GIVEN WITH THE SEED: THE CARDS: each row of YtdlmpogmoepkjaaDoorRows.lean that lists a variable, with what it lists TIED to the program's text (the seventh form; the later family's looks); each row that meets fmt, with fmt's text TOLD by the authors' own Lean function (tested against real Go, not proved from fmt's source: count such statements apart). THE CARD IS WHAT COUNTS. Prove the row's statement (the work); the ties are given (YtdlmpogmoepkjaaDoorTie.lean); close each card by the builder's one call (the guide's Derived/Test/ToyasCard.lean, 'card_holds'). Laid BY PROGRAM, IN A SANDBOX (cutbox-door.mjs). By AI agents, Wed Nov 11 2026. No macro, syntax, notation, axiom, sorry.
-/
import Derived.Test.YtdlmpogmoepkjaaDoorRows
import GoSem.ClaimSeven
namespace Go.Proofs.YtdlmpogmoepkjaaDoor
namespace Rows

/-- THE TIED CARD OF 'hornbooklaw05.RunsPlays'. -/
def runsPlaysCard : Claim7 := { stood := { row := runsPlaysRow, standIns := [], harness := (true, "25cc60281e1dfd0c8231cd12c619080e79c22f1da81265a6fdd81ca94a3f433c"), looks := true }, kinds := [], alts := [], laidByText := true, laidKinds := [.sentinel, .sentinel, .sentinel, .sentinel, .sentinel, .sentinel, .sentinel, .sentinel], laidTests := true, laidLooks := .later }
def RunsPlaysCardSaid : Prop := Claim7.holds Tryd.pinned (.plain (OpenSpec.ofChange runsPlaysSpec)) runsPlaysCard

/-- THE TIED CARD OF 'hornbooklaw05.RunsTwins'. -/
def runsTwinsCard : Claim7 := { stood := { row := runsTwinsRow, standIns := [], harness := (true, "25cc60281e1dfd0c8231cd12c619080e79c22f1da81265a6fdd81ca94a3f433c"), looks := true }, kinds := [], alts := [], laidByText := true, laidKinds := [.sentinel, .sentinel, .sentinel, .sentinel, .sentinel, .sentinel, .sentinel, .sentinel], laidTests := true, laidLooks := .later }
def RunsTwinsCardSaid : Prop := Claim7.holds Tryd.pinned (.plain (OpenSpec.ofChange runsTwinsSpec)) runsTwinsCard

/-- THE TIED CARD OF 'hornbooklaw05.RunsRefuses'. -/
def runsRefusesCard : Claim7 := { stood := { row := runsRefusesRow, standIns := [], harness := (true, "25cc60281e1dfd0c8231cd12c619080e79c22f1da81265a6fdd81ca94a3f433c"), looks := true }, kinds := [], alts := [], laidByText := true, laidKinds := [.sentinel, .sentinel, .sentinel, .sentinel, .sentinel, .sentinel, .sentinel, .sentinel], laidTests := true, laidLooks := .later }
def RunsRefusesCardSaid : Prop := Claim7.holds Tryd.pinned (.plain (OpenSpec.ofChange runsRefusesSpec)) runsRefusesCard

/-- THE SECOND FORM's CARD OF 'hornbooklaw05.RunsPlays'. -/
def runsPlaysUptoCard : Claim7 := { stood := { row := runsPlaysUptoRow, standIns := [], harness := (true, "25cc60281e1dfd0c8231cd12c619080e79c22f1da81265a6fdd81ca94a3f433c"), looks := true }, kinds := [], alts := [], laidByText := true, laidKinds := [.sentinel, .sentinel, .sentinel, .sentinel, .sentinel, .sentinel, .sentinel, .sentinel], laidTests := true, laidLooks := .later }
def RunsPlaysUptoCardSaid : Prop := Claim7.holds Tryd.pinned (.plain (OpenSpec.upto runsPlaysSpec)) runsPlaysUptoCard

/-- THE SECOND FORM's CARD OF 'hornbooklaw05.RunsTwins'. -/
def runsTwinsUptoCard : Claim7 := { stood := { row := runsTwinsUptoRow, standIns := [], harness := (true, "25cc60281e1dfd0c8231cd12c619080e79c22f1da81265a6fdd81ca94a3f433c"), looks := true }, kinds := [], alts := [], laidByText := true, laidKinds := [.sentinel, .sentinel, .sentinel, .sentinel, .sentinel, .sentinel, .sentinel, .sentinel], laidTests := true, laidLooks := .later }
def RunsTwinsUptoCardSaid : Prop := Claim7.holds Tryd.pinned (.plain (OpenSpec.upto runsTwinsSpec)) runsTwinsUptoCard

/-- THE SECOND FORM's CARD OF 'hornbooklaw05.RunsRefuses'. -/
def runsRefusesUptoCard : Claim7 := { stood := { row := runsRefusesUptoRow, standIns := [], harness := (true, "25cc60281e1dfd0c8231cd12c619080e79c22f1da81265a6fdd81ca94a3f433c"), looks := true }, kinds := [], alts := [], laidByText := true, laidKinds := [.sentinel, .sentinel, .sentinel, .sentinel, .sentinel, .sentinel, .sentinel, .sentinel], laidTests := true, laidLooks := .later }
def RunsRefusesUptoCardSaid : Prop := Claim7.holds Tryd.pinned (.plain (OpenSpec.upto runsRefusesSpec)) runsRefusesUptoCard
end Rows
end Go.Proofs.YtdlmpogmoepkjaaDoor
