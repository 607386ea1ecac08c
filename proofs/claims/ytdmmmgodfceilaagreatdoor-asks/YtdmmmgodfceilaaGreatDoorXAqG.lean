/- What the card of Asks asks of the program's calls (a text of its own: its check takes much memory). -/
import Derived.Test.YtdmmmgodfceilaaGreatDoorXAqV
namespace Go.Proofs.YtdmmmgodfceilaaGreatDoor.fnAsks
open Go.ChangeShapes Go.WideShapes Go.ChangeAt Go.RowKit
theorem vsa:false=Rows.asksRow.goesBy Tryz.pinned.checked.prog:=by kernel_rfl
end Go.Proofs.YtdmmmgodfceilaaGreatDoor.fnAsks
