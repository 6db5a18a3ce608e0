/- Contracts: the document's Starts and Ends; the laws' wakes. -/
import Derived.Test.YtjcchogilbekoabRaW
namespace Go.Proofs.Ytjcchogilbekoab
open Go.RowKit
namespace Pt
open Cd

theorem each_snoc {P : List (List UInt8)} {l : List UInt8} {k : Nat} (h1 : k < P.length) (h2 : k < l.length) : each ((P.map adm).drop k) (l.drop k) = (adm P[k] l[k] && each ((P.map adm).drop (k + 1)) (l.drop (k + 1))) := by
  rw [each_step (by simpa using h1) h2]
  simp
end Pt
end Go.Proofs.Ytjcchogilbekoab
