/- In one sentence: for every script the Go function sievelaw.All returns true. Conditions: package-level variables of the library start as the program lays them (the tie of the card); each string and slice takes at most 2^47 - 4096 bytes (every row's own reach). -/
import Derived.Test.YtmepkbgodcffoaaGreatDoorXAlS
import Derived.Test.YtmepkbgodcffoaaGreatDoorXAlG
namespace Go.Proofs.YtmepkbgodcffoaaGreatDoor.fnAll
open Go.ChangeShapes Go.WideShapes Go.ChangeAt Go.RowKit
theorem card:Rows.AllCardSaid:=
 Claim7.holds_tied_plain_at .later [] _ _ _ _ said (λ_ h=>by cases h) (by kernel_rfl) (λ_ h=>by cases h) all_row_tie rfl ⟨rfl,rfl⟩ (by kernel_rfl) rfl plain vxq
end Go.Proofs.YtmepkbgodcffoaaGreatDoor.fnAll
