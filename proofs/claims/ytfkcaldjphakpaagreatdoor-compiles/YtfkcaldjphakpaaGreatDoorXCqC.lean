/- In one sentence: for every script the Go function sievelaw.Compiles returns true: at every step of kind 3 the program's Compile answers what the document's own answer (package sieveref) does, the error and its number, gives no bytes with an error and else at most as many as the document says, leaves the texts and the spare room behind them as they were, and no two lists that came out share room. Conditions: package-level variables of the library start as the program lays them (the tie of the card); each string and slice takes at most 2^47 - 4096 bytes (every row's own reach). -/
import Derived.Test.YtfkcaldjphakpaaGreatDoorXCqS
import Derived.Test.YtfkcaldjphakpaaGreatDoorXCqG
namespace Go.Proofs.YtfkcaldjphakpaaGreatDoor.fnCompiles
open Go.ChangeShapes Go.WideShapes Go.ChangeAt Go.RowKit
theorem card:Rows.CompilesCardSaid:=
 Claim7.holds_tied_plain_at .later [] _ _ _ _ said (λ_ h=>by cases h) (by kernel_rfl) (λ_ h=>by cases h) compiles_row_tie rfl ⟨rfl,rfl⟩ (by kernel_rfl) rfl plain goes
end Go.Proofs.YtfkcaldjphakpaaGreatDoor.fnCompiles
