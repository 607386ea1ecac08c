/- In one sentence: for every script the Go function sievelaw.Asks returns true: New gives a broker, and at every step of kinds 10 and 11 the program's Nodes and Live of any broker answer what the document's own broker (package sieveref) does, whatever was done to the brokers between them (kinds 5 to 9), and no two lists that came out share room. Conditions: package-level variables of the library start as the program lays them (the tie of the card); each string and slice takes at most 2^47 - 4096 bytes (every row's own reach). -/
import Derived.Test.YtdmmmgodfceilaaGreatDoorXAqS
import Derived.Test.YtdmmmgodfceilaaGreatDoorXAqG
namespace Go.Proofs.YtdmmmgodfceilaaGreatDoor.fnAsks
open Go.ChangeShapes Go.WideShapes Go.ChangeAt Go.RowKit
theorem card:Rows.AsksCardSaid:=
 Claim7.holds_tied_plain_at .later [] _ _ _ _ said (λ_ h=>by cases h) (by kernel_rfl) (λ_ h=>by cases h) asks_row_tie rfl ⟨rfl,rfl⟩ (by kernel_rfl) rfl plain vsa
end Go.Proofs.YtdmmmgodfceilaaGreatDoor.fnAsks
