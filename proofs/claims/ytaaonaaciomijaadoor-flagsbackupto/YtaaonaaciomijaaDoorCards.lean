/-
  DERIVED. GIVEN WITH THE SEED: THE CARDS: each row of YtaaonaaciomijaaDoorRows.lean that lists a variable, with what it lists TIED to the program's text (the seventh form; the later family's looks); each row that meets fmt, with fmt's text TOLD by the authors' own Lean function (tested against real Go, not proved from fmt's source: count such statements apart). THE CARD IS WHAT COUNTS. Prove the row's statement (the work); the ties are given (YtaaonaaciomijaaDoorTie.lean); close each card by the builder's one call (the guide's Derived/Test/ToyasCard.lean, 'card_holds'). Laid BY PROGRAM, IN A SANDBOX (cutbox-door.mjs). By AI agents, Wed Nov 11 2026. No macro, syntax, notation, axiom, sorry.
-/
import Derived.Test.YtaaonaaciomijaaDoorRows
import GoSem.ClaimSeven
namespace Go.Proofs.YtaaonaaciomijaaDoor
namespace Rows

/-- THE TIED CARD OF 'hornbooklaw03.FlagsOnes'. -/
def flagsOnesCard : Claim7 := { stood := { row := flagsOnesRow, standIns := [], harness := (true, "f65c24fb5243e6029850755c279c20abe6ad301976420a82542c36ab1dd1ffcd"), looks := false }, kinds := [], alts := [], laidByText := true, laidKinds := [.data, .pinned], laidTests := true, laidLooks := .later }
def FlagsOnesCardSaid : Prop := Claim7.holds Tryd.pinned (.plain (OpenSpec.ofChange flagsOnesSpec)) flagsOnesCard

/-- THE TIED CARD OF 'hornbooklaw03.FlagsReads'. -/
def flagsReadsCard : Claim7 := { stood := { row := flagsReadsRow, standIns := [], harness := (true, "f65c24fb5243e6029850755c279c20abe6ad301976420a82542c36ab1dd1ffcd"), looks := false }, kinds := [], alts := [], laidByText := true, laidKinds := [.data, .pinned], laidTests := true, laidLooks := .later }
def FlagsReadsCardSaid : Prop := Claim7.holds Tryd.pinned (.plain (OpenSpec.ofChange flagsReadsSpec)) flagsReadsCard

/-- THE TIED CARD OF 'hornbooklaw03.FlagsShows'. -/
def flagsShowsCard : Claim7 := { stood := { row := flagsShowsRow, standIns := [], harness := (true, "f65c24fb5243e6029850755c279c20abe6ad301976420a82542c36ab1dd1ffcd"), looks := false }, kinds := [], alts := [], laidByText := true, laidKinds := [.data, .data, .data, .data, .pinned], laidTests := true, laidLooks := .later }
def FlagsShowsCardSaid : Prop := Claim7.holds Tryd.pinned (.plain (OpenSpec.ofChange flagsShowsSpec)) flagsShowsCard

/-- THE TIED CARD OF 'hornbooklaw03.FlagsSets'. -/
def flagsSetsCard : Claim7 := { stood := { row := flagsSetsRow, standIns := [], harness := (true, "f65c24fb5243e6029850755c279c20abe6ad301976420a82542c36ab1dd1ffcd"), looks := false }, kinds := [], alts := [], laidByText := true, laidKinds := [.data, .pinned], laidTests := true, laidLooks := .later }
def FlagsSetsCardSaid : Prop := Claim7.holds Tryd.pinned (.plain (OpenSpec.ofChange flagsSetsSpec)) flagsSetsCard

/-- THE TIED CARD OF 'hornbooklaw03.FlagsBack'. -/
def flagsBackCard : Claim7 := { stood := { row := flagsBackRow, standIns := [], harness := (true, "f65c24fb5243e6029850755c279c20abe6ad301976420a82542c36ab1dd1ffcd"), looks := false }, kinds := [], alts := [], laidByText := true, laidKinds := [.data, .data, .data, .data, .pinned], laidTests := true, laidLooks := .later }
def FlagsBackCardSaid : Prop := Claim7.holds Tryd.pinned (.plain (OpenSpec.ofChange flagsBackSpec)) flagsBackCard

/-- THE SECOND FORM's CARD OF 'hornbooklaw03.FlagsOnes'. -/
def flagsOnesUptoCard : Claim7 := { stood := { row := flagsOnesUptoRow, standIns := [], harness := (true, "f65c24fb5243e6029850755c279c20abe6ad301976420a82542c36ab1dd1ffcd"), looks := false }, kinds := [], alts := [], laidByText := true, laidKinds := [.data, .pinned], laidTests := true, laidLooks := .later }
def FlagsOnesUptoCardSaid : Prop := Claim7.holds Tryd.pinned (.plain (OpenSpec.upto flagsOnesSpec)) flagsOnesUptoCard

/-- THE SECOND FORM's CARD OF 'hornbooklaw03.FlagsReads'. -/
def flagsReadsUptoCard : Claim7 := { stood := { row := flagsReadsUptoRow, standIns := [], harness := (true, "f65c24fb5243e6029850755c279c20abe6ad301976420a82542c36ab1dd1ffcd"), looks := false }, kinds := [], alts := [], laidByText := true, laidKinds := [.data, .pinned], laidTests := true, laidLooks := .later }
def FlagsReadsUptoCardSaid : Prop := Claim7.holds Tryd.pinned (.plain (OpenSpec.upto flagsReadsSpec)) flagsReadsUptoCard

/-- THE SECOND FORM's CARD OF 'hornbooklaw03.FlagsShows'. -/
def flagsShowsUptoCard : Claim7 := { stood := { row := flagsShowsUptoRow, standIns := [], harness := (true, "f65c24fb5243e6029850755c279c20abe6ad301976420a82542c36ab1dd1ffcd"), looks := false }, kinds := [], alts := [], laidByText := true, laidKinds := [.data, .data, .data, .data, .pinned], laidTests := true, laidLooks := .later }
def FlagsShowsUptoCardSaid : Prop := Claim7.holds Tryd.pinned (.plain (OpenSpec.upto flagsShowsSpec)) flagsShowsUptoCard

/-- THE SECOND FORM's CARD OF 'hornbooklaw03.FlagsSets'. -/
def flagsSetsUptoCard : Claim7 := { stood := { row := flagsSetsUptoRow, standIns := [], harness := (true, "f65c24fb5243e6029850755c279c20abe6ad301976420a82542c36ab1dd1ffcd"), looks := false }, kinds := [], alts := [], laidByText := true, laidKinds := [.data, .pinned], laidTests := true, laidLooks := .later }
def FlagsSetsUptoCardSaid : Prop := Claim7.holds Tryd.pinned (.plain (OpenSpec.upto flagsSetsSpec)) flagsSetsUptoCard

/-- THE SECOND FORM's CARD OF 'hornbooklaw03.FlagsBack'. -/
def flagsBackUptoCard : Claim7 := { stood := { row := flagsBackUptoRow, standIns := [], harness := (true, "f65c24fb5243e6029850755c279c20abe6ad301976420a82542c36ab1dd1ffcd"), looks := false }, kinds := [], alts := [], laidByText := true, laidKinds := [.data, .data, .data, .data, .pinned], laidTests := true, laidLooks := .later }
def FlagsBackUptoCardSaid : Prop := Claim7.holds Tryd.pinned (.plain (OpenSpec.upto flagsBackSpec)) flagsBackUptoCard
end Rows
end Go.Proofs.YtaaonaaciomijaaDoor
