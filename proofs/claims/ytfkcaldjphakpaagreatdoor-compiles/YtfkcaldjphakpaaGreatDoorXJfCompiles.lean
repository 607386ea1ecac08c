/- The closed facts of the row of Compiles: those that walk through all that it calls each alone, for the memory's sake. -/
import Derived.Test.YtfkcaldjphakpaaGreatDoorCards
import Derived.WalkKit
import Derived.ProofKit
import Derived.JoinedCond
set_option maxRecDepth 100000
namespace Go.Proofs.YtfkcaldjphakpaaGreatDoor.fnCompiles
open Go.ChangeShapes Go.WideShapes Go.ChangeAt Go.RowKit
theorem k10:(Rows.compilesRow.inPlace==Tryz.pinned.checked.prog.inPlace 10)=true:=by kernel_rfl
theorem k11:(Rows.compilesRow.unfollowed==Tryz.pinned.checked.prog.unfollowed 10)=true:=by kernel_rfl
theorem k12:(Rows.compilesRow.recurses==Tryz.pinned.checked.prog.recurses 10)=true:=by kernel_rfl
theorem k13:(Rows.compilesRow.named==Tryz.pinned.checked.prog.varsNamed 10)=true:=by kernel_rfl
theorem closed:joinedFacts Tryz.pinned.checked.prog 10 Tryz.f10 (OpenSpec.ofChange Rows.compilesSpec).bare Rows.compilesRow=true:=by
 unfold joinedFacts;rw[k10,k11,k12,k13]
 kernel_rfl
end Go.Proofs.YtfkcaldjphakpaaGreatDoor.fnCompiles
