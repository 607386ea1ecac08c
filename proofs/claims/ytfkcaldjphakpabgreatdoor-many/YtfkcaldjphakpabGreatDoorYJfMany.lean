/- The closed facts of the row of Many: those that walk through all that it calls each alone, for the memory's sake. -/
import Derived.Test.YtfkcaldjphakpabGreatDoorCards
import Derived.WalkKit
import Derived.ProofKit
import Derived.JoinedCond
namespace Go.Proofs.YtfkcaldjphakpabGreatDoor.fnMany
open Go.ChangeShapes Go.WideShapes Go.ChangeAt Go.RowKit

set_option maxRecDepth 100000 in
theorem k10 : (Rows.manyRow.inPlace == Tryz.pinned.checked.prog.inPlace 6) = true := by kernel_rfl
set_option maxRecDepth 100000 in
theorem k11 : (Rows.manyRow.unfollowed == Tryz.pinned.checked.prog.unfollowed 6) = true := by kernel_rfl
set_option maxRecDepth 100000 in
theorem k12 : (Rows.manyRow.recurses == Tryz.pinned.checked.prog.recurses 6) = true := by kernel_rfl
set_option maxRecDepth 100000 in
theorem k13 : (Rows.manyRow.named == Tryz.pinned.checked.prog.varsNamed 6) = true := by kernel_rfl
set_option maxRecDepth 100000 in
theorem closed : joinedFacts Tryz.pinned.checked.prog 6 Tryz.f6 (OpenSpec.ofChange Rows.manySpec).bare Rows.manyRow = true := by
  unfold joinedFacts
  rw [k10, k11, k12, k13]
  kernel_rfl

end Go.Proofs.YtfkcaldjphakpabGreatDoor.fnMany
