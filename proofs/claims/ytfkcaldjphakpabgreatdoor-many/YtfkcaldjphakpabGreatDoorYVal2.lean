/- Contracts of package value: And. -/
import Derived.Test.YtfkcaldjphakpabGreatDoorYVal1
import Derived.Deep.RegionWith
import Derived.Deep.DeepCutAuto
namespace Go.Proofs.YtfkcaldjphakpabGreatDoor
open Go.RowKit

def andV (x y : V) : V := if decide (x = bV false) || decide (y = bV false) then bV false else if decide (x = bV true) && decide (y = bV true) then bV true else nV

end Go.Proofs.YtfkcaldjphakpabGreatDoor
