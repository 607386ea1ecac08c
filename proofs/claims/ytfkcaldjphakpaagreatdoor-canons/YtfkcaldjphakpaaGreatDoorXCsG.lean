/- What the card of Canons asks of the program's calls (a text of its own: its check takes much memory). -/
import Derived.Test.YtfkcaldjphakpaaGreatDoorXCsV
namespace Go.Proofs.YtfkcaldjphakpaaGreatDoor.fnCanons
open Go.ChangeShapes Go.WideShapes Go.ChangeAt Go.RowKit
theorem goes : false = Rows.canonsRow.goesBy Tryz.pinned.checked.prog := by kernel_rfl
end Go.Proofs.YtfkcaldjphakpaaGreatDoor.fnCanons
