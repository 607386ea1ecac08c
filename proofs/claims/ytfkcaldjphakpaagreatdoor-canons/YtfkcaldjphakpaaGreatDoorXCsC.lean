/- In one sentence: for every script the Go function sievelaw.Canons returns true: at every step of kind 2 the program's Canon answers what the document's own answer (package sieveref) does: the canonical text, the error and the place. Conditions: package-level variables of the library start as the program lays them (the tie of the card); each string and slice takes at most 2^47 - 4096 bytes (every row's own reach). -/
import Derived.Test.YtfkcaldjphakpaaGreatDoorXCsS
import Derived.Test.YtfkcaldjphakpaaGreatDoorXCsG
namespace Go.Proofs.YtfkcaldjphakpaaGreatDoor.fnCanons
open Go.ChangeShapes Go.WideShapes Go.ChangeAt Go.RowKit
theorem card:Rows.CanonsCardSaid:=
 Claim7.holds_tied_plain_at .later [] _ _ _ _ said (fun _ h=>by cases h) (by kernel_rfl) (fun _ h=>by cases h) canons_row_tie rfl ⟨rfl,rfl⟩ (by kernel_rfl) rfl plain goes
end Go.Proofs.YtfkcaldjphakpaaGreatDoor.fnCanons
