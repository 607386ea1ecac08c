/-
  DERIVED. GIVEN WITH THE SEED: THE CARDS: each row of YtfkcaldjphakpabGreatDoorRows.lean that lists a variable, with what it lists TIED to the program's text (the seventh form; the later family's looks); each row that meets fmt, with fmt's text TOLD by the authors' own Lean function (tested against real Go, not proved from fmt's source: count such statements apart). THE CARD IS WHAT COUNTS. Prove the row's statement (the work); the ties are given (YtfkcaldjphakpabGreatDoorTie.lean); close each card by the builder's one call (the guide's Derived/Test/ToyasCard.lean, 'card_holds'). Laid BY PROGRAM, IN A SANDBOX (cutbox-door.mjs). By AI agents, Wed Nov 11 2026. No macro, syntax, notation, axiom, sorry.
-/
import Derived.Test.YtfkcaldjphakpabGreatDoorRows
import GoSem.ClaimSeven
namespace Go.Proofs.YtfkcaldjphakpabGreatDoor
namespace Rows

/-- THE TIED CARD OF 'sievekeep.Fresh'. -/
def freshCard : Claim7 := { stood := { row := freshRow, standIns := [], harness := (true, "97293a0f724f52f8a38264ceda883fa391d5b04d5b711935d0b52a571d374fda"), looks := true }, kinds := [], alts := [], laidByText := true, laidKinds := [.data, .data, .data, .data, .sentinel, .sentinel, .pinned, .pinned], laidTests := true, laidLooks := .later }
def FreshCardSaid : Prop := Claim7.holds Tryz.pinned (.plain (OpenSpec.ofChange freshSpec)) freshCard

/-- THE TIED CARD OF 'sievekeep.Gone'. -/
def goneCard : Claim7 := { stood := { row := goneRow, standIns := [], harness := (true, "97293a0f724f52f8a38264ceda883fa391d5b04d5b711935d0b52a571d374fda"), looks := true }, kinds := [], alts := [], laidByText := true, laidKinds := [.data, .data, .data, .data, .sentinel, .sentinel, .pinned, .pinned], laidTests := true, laidLooks := .later }
def GoneCardSaid : Prop := Claim7.holds Tryz.pinned (.plain (OpenSpec.ofChange goneSpec)) goneCard

/-- THE TIED CARD OF 'sievekeep.Served'. -/
def servedCard : Claim7 := { stood := { row := servedRow, standIns := [], harness := (true, "97293a0f724f52f8a38264ceda883fa391d5b04d5b711935d0b52a571d374fda"), looks := true }, kinds := [], alts := [], laidByText := true, laidKinds := [.data, .data, .data, .data, .sentinel, .sentinel, .pinned, .pinned], laidTests := true, laidLooks := .later }
def ServedCardSaid : Prop := Claim7.holds Tryz.pinned (.plain (OpenSpec.ofChange servedSpec)) servedCard

/-- THE TIED CARD OF 'sievekeep.Many'. -/
def manyCard : Claim7 := { stood := { row := manyRow, standIns := [], harness := (true, "97293a0f724f52f8a38264ceda883fa391d5b04d5b711935d0b52a571d374fda"), looks := true }, kinds := [], alts := [], laidByText := true, laidKinds := [.data, .data, .data, .data, .sentinel, .sentinel, .pinned, .pinned], laidTests := true, laidLooks := .later }
def ManyCardSaid : Prop := Claim7.holds Tryz.pinned (.plain (OpenSpec.ofChange manySpec)) manyCard

/-- THE TIED CARD OF 'sievekeep.Twins'. -/
def twinsCard : Claim7 := { stood := { row := twinsRow, standIns := [], harness := (true, "97293a0f724f52f8a38264ceda883fa391d5b04d5b711935d0b52a571d374fda"), looks := true }, kinds := [], alts := [], laidByText := true, laidKinds := [.data, .data, .data, .data, .sentinel, .sentinel, .pinned, .pinned], laidTests := true, laidLooks := .later }
def TwinsCardSaid : Prop := Claim7.holds Tryz.pinned (.plain (OpenSpec.ofChange twinsSpec)) twinsCard

/-- THE TIED CARD OF 'sievelaw.All'. -/
def allCard : Claim7 := { stood := { row := allRow, standIns := [], harness := (true, "97293a0f724f52f8a38264ceda883fa391d5b04d5b711935d0b52a571d374fda"), looks := true }, kinds := [], alts := [], laidByText := true, laidKinds := [.data, .data, .data, .data, .sentinel, .sentinel, .pinned, .pinned], laidTests := true, laidLooks := .later }
def AllCardSaid : Prop := Claim7.holds Tryz.pinned (.plain (OpenSpec.ofChange allSpec)) allCard

/-- THE SECOND FORM's CARD OF 'sievekeep.Fresh'. -/
def freshUptoCard : Claim7 := { stood := { row := freshUptoRow, standIns := [], harness := (true, "97293a0f724f52f8a38264ceda883fa391d5b04d5b711935d0b52a571d374fda"), looks := true }, kinds := [], alts := [], laidByText := true, laidKinds := [.data, .data, .data, .data, .sentinel, .sentinel, .pinned, .pinned], laidTests := true, laidLooks := .later }
def FreshUptoCardSaid : Prop := Claim7.holds Tryz.pinned (.plain (OpenSpec.upto freshSpec)) freshUptoCard

/-- THE SECOND FORM's CARD OF 'sievekeep.Gone'. -/
def goneUptoCard : Claim7 := { stood := { row := goneUptoRow, standIns := [], harness := (true, "97293a0f724f52f8a38264ceda883fa391d5b04d5b711935d0b52a571d374fda"), looks := true }, kinds := [], alts := [], laidByText := true, laidKinds := [.data, .data, .data, .data, .sentinel, .sentinel, .pinned, .pinned], laidTests := true, laidLooks := .later }
def GoneUptoCardSaid : Prop := Claim7.holds Tryz.pinned (.plain (OpenSpec.upto goneSpec)) goneUptoCard

/-- THE SECOND FORM's CARD OF 'sievekeep.Served'. -/
def servedUptoCard : Claim7 := { stood := { row := servedUptoRow, standIns := [], harness := (true, "97293a0f724f52f8a38264ceda883fa391d5b04d5b711935d0b52a571d374fda"), looks := true }, kinds := [], alts := [], laidByText := true, laidKinds := [.data, .data, .data, .data, .sentinel, .sentinel, .pinned, .pinned], laidTests := true, laidLooks := .later }
def ServedUptoCardSaid : Prop := Claim7.holds Tryz.pinned (.plain (OpenSpec.upto servedSpec)) servedUptoCard

/-- THE SECOND FORM's CARD OF 'sievekeep.Many'. -/
def manyUptoCard : Claim7 := { stood := { row := manyUptoRow, standIns := [], harness := (true, "97293a0f724f52f8a38264ceda883fa391d5b04d5b711935d0b52a571d374fda"), looks := true }, kinds := [], alts := [], laidByText := true, laidKinds := [.data, .data, .data, .data, .sentinel, .sentinel, .pinned, .pinned], laidTests := true, laidLooks := .later }
def ManyUptoCardSaid : Prop := Claim7.holds Tryz.pinned (.plain (OpenSpec.upto manySpec)) manyUptoCard

/-- THE SECOND FORM's CARD OF 'sievekeep.Twins'. -/
def twinsUptoCard : Claim7 := { stood := { row := twinsUptoRow, standIns := [], harness := (true, "97293a0f724f52f8a38264ceda883fa391d5b04d5b711935d0b52a571d374fda"), looks := true }, kinds := [], alts := [], laidByText := true, laidKinds := [.data, .data, .data, .data, .sentinel, .sentinel, .pinned, .pinned], laidTests := true, laidLooks := .later }
def TwinsUptoCardSaid : Prop := Claim7.holds Tryz.pinned (.plain (OpenSpec.upto twinsSpec)) twinsUptoCard

/-- THE SECOND FORM's CARD OF 'sievelaw.All'. -/
def allUptoCard : Claim7 := { stood := { row := allUptoRow, standIns := [], harness := (true, "97293a0f724f52f8a38264ceda883fa391d5b04d5b711935d0b52a571d374fda"), looks := true }, kinds := [], alts := [], laidByText := true, laidKinds := [.data, .data, .data, .data, .sentinel, .sentinel, .pinned, .pinned], laidTests := true, laidLooks := .later }
def AllUptoCardSaid : Prop := Claim7.holds Tryz.pinned (.plain (OpenSpec.upto allSpec)) allUptoCard
end Rows
end Go.Proofs.YtfkcaldjphakpabGreatDoor
