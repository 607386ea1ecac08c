/-
  DERIVED. GIVEN WITH THE SEED: THE CARDS: each row of YtdmmmgodfceilaaGreatDoorRows.lean that lists a variable, with what it lists TIED to the program's text (the seventh form; the later family's looks); each row that meets fmt, with fmt's text TOLD by the authors' own Lean function (tested against real Go, not proved from fmt's source: count such statements apart). THE CARD IS WHAT COUNTS. Prove the row's statement (the work); the ties are given (YtdmmmgodfceilaaGreatDoorTie.lean); close each card by the builder's one call (the guide's Derived/Test/ToyasCard.lean, 'card_holds'). Laid BY PROGRAM, IN A SANDBOX (cutbox-door.mjs). By AI agents, Wed Nov 11 2026. No macro, syntax, notation, axiom, sorry.
-/
import Derived.Test.YtdmmmgodfceilaaGreatDoorRows
import GoSem.ClaimSeven
namespace Go.Proofs.YtdmmmgodfceilaaGreatDoor
namespace Rows

/-- THE TIED CARD OF 'sievelaw.Acts'. -/
def actsCard : Claim7 := { stood := { row := actsRow, standIns := [], harness := (true, "76ba30115bf314f36366c64a0060727e05fe1d929c7d1f3002442e8a196ae01f"), looks := true }, kinds := [], alts := [], laidByText := true, laidKinds := [.data, .data, .data, .data, .sentinel, .sentinel, .pinned, .pinned], laidTests := true, laidLooks := .later }
def ActsCardSaid : Prop := Claim7.holds Tryz.pinned (.plain (OpenSpec.ofChange actsSpec)) actsCard

/-- THE TIED CARD OF 'sievelaw.Asks'. -/
def asksCard : Claim7 := { stood := { row := asksRow, standIns := [], harness := (true, "76ba30115bf314f36366c64a0060727e05fe1d929c7d1f3002442e8a196ae01f"), looks := true }, kinds := [], alts := [], laidByText := true, laidKinds := [.data, .data, .data, .data, .sentinel, .sentinel, .pinned, .pinned], laidTests := true, laidLooks := .later }
def AsksCardSaid : Prop := Claim7.holds Tryz.pinned (.plain (OpenSpec.ofChange asksSpec)) asksCard

/-- THE TIED CARD OF 'sievelaw.All'. -/
def allCard : Claim7 := { stood := { row := allRow, standIns := [], harness := (true, "76ba30115bf314f36366c64a0060727e05fe1d929c7d1f3002442e8a196ae01f"), looks := true }, kinds := [], alts := [], laidByText := true, laidKinds := [.data, .data, .data, .data, .sentinel, .sentinel, .pinned, .pinned], laidTests := true, laidLooks := .later }
def AllCardSaid : Prop := Claim7.holds Tryz.pinned (.plain (OpenSpec.ofChange allSpec)) allCard

/-- THE SECOND FORM's CARD OF 'sievelaw.Acts'. -/
def actsUptoCard : Claim7 := { stood := { row := actsUptoRow, standIns := [], harness := (true, "76ba30115bf314f36366c64a0060727e05fe1d929c7d1f3002442e8a196ae01f"), looks := true }, kinds := [], alts := [], laidByText := true, laidKinds := [.data, .data, .data, .data, .sentinel, .sentinel, .pinned, .pinned], laidTests := true, laidLooks := .later }
def ActsUptoCardSaid : Prop := Claim7.holds Tryz.pinned (.plain (OpenSpec.upto actsSpec)) actsUptoCard

/-- THE SECOND FORM's CARD OF 'sievelaw.Asks'. -/
def asksUptoCard : Claim7 := { stood := { row := asksUptoRow, standIns := [], harness := (true, "76ba30115bf314f36366c64a0060727e05fe1d929c7d1f3002442e8a196ae01f"), looks := true }, kinds := [], alts := [], laidByText := true, laidKinds := [.data, .data, .data, .data, .sentinel, .sentinel, .pinned, .pinned], laidTests := true, laidLooks := .later }
def AsksUptoCardSaid : Prop := Claim7.holds Tryz.pinned (.plain (OpenSpec.upto asksSpec)) asksUptoCard

/-- THE SECOND FORM's CARD OF 'sievelaw.All'. -/
def allUptoCard : Claim7 := { stood := { row := allUptoRow, standIns := [], harness := (true, "76ba30115bf314f36366c64a0060727e05fe1d929c7d1f3002442e8a196ae01f"), looks := true }, kinds := [], alts := [], laidByText := true, laidKinds := [.data, .data, .data, .data, .sentinel, .sentinel, .pinned, .pinned], laidTests := true, laidLooks := .later }
def AllUptoCardSaid : Prop := Claim7.holds Tryz.pinned (.plain (OpenSpec.upto allSpec)) allUptoCard
end Rows
end Go.Proofs.YtdmmmgodfceilaaGreatDoor
