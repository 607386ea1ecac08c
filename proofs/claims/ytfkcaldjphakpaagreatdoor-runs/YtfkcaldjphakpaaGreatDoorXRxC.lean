/- In one sentence: for every script the Go function sievelaw.Runs returns true: at every step of kind 4 whose texts compile the program's Run over the compiled bytes answers what the document's own answer (package sieveref) does, the numbers of the texts that the event meets and the error, leaves the event, the bytes and the spare room behind them as they were, and no two lists that came out or were handed in share room. Conditions: package-level variables of the library start as the program lays them (the tie of the card); each string and slice takes at most 2^47 - 4096 bytes (every row's own reach). -/
import Derived.Test.YtfkcaldjphakpaaGreatDoorXRxS
import Derived.Test.YtfkcaldjphakpaaGreatDoorXRxG
namespace Go.Proofs.YtfkcaldjphakpaaGreatDoor.fnRuns
open Go.ChangeShapes Go.WideShapes Go.ChangeAt Go.RowKit
theorem card:Rows.RunsCardSaid:=
 Claim7.holds_tied_plain_at .later [] _ _ _ _ said (λ_ h=>by cases h) (by kernel_rfl) (λ_ h=>by cases h) runs_row_tie rfl ⟨rfl,rfl⟩ (by kernel_rfl) rfl plain vmv
end Go.Proofs.YtfkcaldjphakpaaGreatDoor.fnRuns
