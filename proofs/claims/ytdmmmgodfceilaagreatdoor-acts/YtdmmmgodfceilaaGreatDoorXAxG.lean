/- What the card of Acts asks of the program's calls (a text of its own: its check takes much memory). -/
import Derived.Test.YtdmmmgodfceilaaGreatDoorXAxV
namespace Go.Proofs.YtdmmmgodfceilaaGreatDoor.fnActs
open Go.ChangeShapes Go.WideShapes Go.ChangeAt Go.RowKit
theorem vsa:false=Rows.actsRow.goesBy Tryz.pinned.checked.prog:=by kernel_rfl
end Go.Proofs.YtdmmmgodfceilaaGreatDoor.fnActs
