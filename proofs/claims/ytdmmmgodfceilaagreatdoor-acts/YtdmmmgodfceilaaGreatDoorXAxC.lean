/- In one sentence: for every script the Go function sievelaw.Acts returns true: New gives a broker, and at every step of kinds 6 to 9 the program's Subscribe, Unsubscribe, Publish and Poll of any broker answer what the document's own broker (package sieveref) does, whatever else was played between them (kinds 10 and 11 too); events and the spare room behind them stay as they were, and no two lists that came out share room. Conditions: package-level variables of the library start as the program lays them (the tie of the card); each string and slice takes at most 2^47 - 4096 bytes (every row's own reach). -/
import Derived.Test.YtdmmmgodfceilaaGreatDoorXAxS
import Derived.Test.YtdmmmgodfceilaaGreatDoorXAxG
namespace Go.Proofs.YtdmmmgodfceilaaGreatDoor.fnActs
open Go.ChangeShapes Go.WideShapes Go.ChangeAt Go.RowKit
theorem card:Rows.ActsCardSaid:=
 Claim7.holds_tied_plain_at .later [] _ _ _ _ said (λ_ h=>by cases h) (by kernel_rfl) (λ_ h=>by cases h) acts_row_tie rfl ⟨rfl,rfl⟩ (by kernel_rfl) rfl plain vsa
end Go.Proofs.YtdmmmgodfceilaaGreatDoor.fnActs
