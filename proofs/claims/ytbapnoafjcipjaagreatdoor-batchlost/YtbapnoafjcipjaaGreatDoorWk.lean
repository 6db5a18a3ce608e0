/- Layer 6: what Close does to a store. No walk. -/
import Derived.Test.YtbapnoafjcipjaaGreatDoorGe
namespace Go.Proofs.YtbapnoafjcipjaaGreatDoor
open Go.RowKit
namespace Rs
/-- what Close does to the store: the failure, and the store -/
def wclo (k : Int) (m : Sto) (buf : List UInt8) : Nat × Sto :=
  if buf = [] then sel m k else if (app m k [strB buf]).1 = 0 then sel (app m k [strB buf]).2 k else app m k [strB buf]
end Rs
end Go.Proofs.YtbapnoafjcipjaaGreatDoor
