import Derived.Test.YtidhbhdcoanfcaaGreatDoorGn00
namespace Go.Proofs.YtidhbhdcoanfcaaGreatDoor
open Go.RowKit
namespace LnR
open FldW Byt

end LnR
end Go.Proofs.YtidhbhdcoanfcaaGreatDoor
