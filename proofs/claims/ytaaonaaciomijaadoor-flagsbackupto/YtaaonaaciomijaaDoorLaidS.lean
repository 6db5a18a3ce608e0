/- A world for the witness: the settled one, the five listed tables holding what their initialisers lay. -/
import Derived.Test.YtaaonaaciomijaaDoorLaid
import Derived.Test.YtaaonaaciomijaaDoorLaidF
namespace Go.Proofs.YtaaonaaciomijaaDoor.LaidS
theorem own : ownKnob Tryd.prog.godebug = none := by kernel_rfl
def tabs (W : World) : World := Laid.tabs (LaidF.tabs W)
end Go.Proofs.YtaaonaaciomijaaDoor.LaidS
