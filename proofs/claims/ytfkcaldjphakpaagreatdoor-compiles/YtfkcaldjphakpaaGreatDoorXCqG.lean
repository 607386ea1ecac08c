/- What the card of Compiles asks of the program's calls (a text of its own: its check takes much memory). -/
import Derived.Test.YtfkcaldjphakpaaGreatDoorXCqV
namespace Go.Proofs.YtfkcaldjphakpaaGreatDoor.fnCompiles
open Go.ChangeShapes Go.WideShapes Go.ChangeAt Go.RowKit
theorem goes:false=Rows.compilesRow.goesBy Tryz.pinned.checked.prog:=by kernel_rfl
end Go.Proofs.YtfkcaldjphakpaaGreatDoor.fnCompiles
