import Derived.Test.YtidhbhdcoanfcaaGreatDoorGuArgF
namespace Go.Proofs.YtidhbhdcoanfcaaGreatDoor
open Go.RowKit Go.ChangeShapes Go.WideShapes
namespace ArgX
theorem sized_str {H : Type} {P : Program} {ts : List TypeId} {ds : List (DataW H)} (h : (DataW.weightsEach P ts ds).all (· ≤ reachBytes) = true) {j : Nat} {t : TypeId} {s : ByteArray} (ht : ts[j]? = some t) (hd : ds[j]? = some (.lit (.string s.data.toList))) : s.size ≤ 140737488351232 := by
 have := List.all_eq_true.1 h _ (DataW.weights_mem_each ht hd s.data.toList.length (by simp [DataW.weights]))
 have h2 : s.data.toList.length ≤ reachBytes := by simpa using this
 have h3 : reachBytes = 140737488351232 := by decide
 have h4 : s.data.toList.length = s.size := by simp
 omega
end ArgX
end Go.Proofs.YtidhbhdcoanfcaaGreatDoor
