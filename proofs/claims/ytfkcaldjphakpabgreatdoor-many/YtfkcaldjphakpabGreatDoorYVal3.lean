/- Contracts of package value: Or. -/
import Derived.Test.YtfkcaldjphakpabGreatDoorYVal2
import Derived.Deep.RegionWith
import Derived.Deep.DeepCutAuto
namespace Go.Proofs.YtfkcaldjphakpabGreatDoor
open Go.RowKit

def orV (x y : V) : V := if decide (x = bV true) || decide (y = bV true) then bV true else if decide (x = bV false) && decide (y = bV false) then bV false else nV

end Go.Proofs.YtfkcaldjphakpabGreatDoor
