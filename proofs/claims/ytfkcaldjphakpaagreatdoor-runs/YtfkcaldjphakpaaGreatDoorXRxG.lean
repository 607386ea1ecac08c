/- What the card of Runs asks of the program's calls (a text of its own: its check takes much memory). -/
import Derived.Test.YtfkcaldjphakpaaGreatDoorXRxV
namespace Go.Proofs.YtfkcaldjphakpaaGreatDoor.fnRuns
open Go.ChangeShapes Go.WideShapes Go.ChangeAt Go.RowKit
theorem vmv:false=Rows.runsRow.goesBy Tryz.pinned.checked.prog:=by kernel_rfl
end Go.Proofs.YtfkcaldjphakpaaGreatDoor.fnRuns
