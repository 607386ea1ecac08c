/- What the card of All asks of the program's calls (a text of its own: its check takes much memory). -/
import Derived.Test.YtmepkbgodcffoaaGreatDoorXAlV
namespace Go.Proofs.YtmepkbgodcffoaaGreatDoor.fnAll
open Go.ChangeShapes Go.WideShapes Go.ChangeAt Go.RowKit
theorem vxq:false=Rows.allRow.goesBy Tryz.pinned.checked.prog:=by kernel_rfl
end Go.Proofs.YtmepkbgodcffoaaGreatDoor.fnAll
