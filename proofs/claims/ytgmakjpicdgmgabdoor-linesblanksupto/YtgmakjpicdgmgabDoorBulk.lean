/- How the bound on what came in tells the sizes of texts; no walk. -/
import Derived.Test.YtgmakjpicdgmgabDoorRows
import Derived.Test.YtgmakjpicdgmgabDoorArgB
import Derived.Test.YtgmakjpicdgmgabDoorBlkM
namespace Go.Proofs.YtgmakjpicdgmgabDoor
namespace ArgB
theorem bulk_strs {H : Type} (L : List ByteArray) : Blk.tot L = Rows.uptoBulkAll (H := H) (L.map datS) := by
  induction L with
  | nil => rfl
  | cons x t ih =>
    simp only [List.map_cons, Rows.uptoBulkAll, Blk.tot, ← ih, datS, Rows.uptoBulk]
    have : x.data.toList.length = x.size := by simp
    omega
end ArgB
end Go.Proofs.YtgmakjpicdgmgabDoor
