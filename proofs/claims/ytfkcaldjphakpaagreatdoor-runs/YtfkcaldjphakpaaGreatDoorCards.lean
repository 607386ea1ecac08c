/-
  DERIVED. GIVEN WITH THE SEED: THE CARDS: each row of YtfkcaldjphakpaaGreatDoorRows.lean that lists a variable, with what it lists TIED to the program's text (the seventh form; the later family's looks); each row that meets fmt, with fmt's text TOLD by the authors' own Lean function (tested against real Go, not proved from fmt's source: count such statements apart). THE CARD IS WHAT COUNTS. Prove the row's statement (the work); the ties are given (YtfkcaldjphakpaaGreatDoorTie.lean); close each card by the builder's one call (the guide's Derived/Test/ToyasCard.lean, 'card_holds'). Laid BY PROGRAM, IN A SANDBOX (cutbox-door.mjs). By AI agents, Wed Nov 11 2026. No macro, syntax, notation, axiom, sorry.
-/
import Derived.Test.YtfkcaldjphakpaaGreatDoorRows
import GoSem.ClaimSeven
namespace Go.Proofs.YtfkcaldjphakpaaGreatDoor
namespace Rows

/-- THE TIED CARD OF 'sievelaw.Evals'. -/
def evalsCard : Claim7 := { stood := { row := evalsRow, standIns := [], harness := (true, "2b4165654e250af432e99edf6cc3e8e6183f4216968c9526eadd36a51257fe83"), looks := true }, kinds := [], alts := [], laidByText := true, laidKinds := [.data, .data, .data, .data, .sentinel, .sentinel, .pinned, .pinned], laidTests := true, laidLooks := .later }
def EvalsCardSaid : Prop := Claim7.holds Tryz.pinned (.plain (OpenSpec.ofChange evalsSpec)) evalsCard

/-- THE TIED CARD OF 'sievekeep.Ranges'. -/
def rangesCard : Claim7 := { stood := { row := rangesRow, standIns := [], harness := (true, "2b4165654e250af432e99edf6cc3e8e6183f4216968c9526eadd36a51257fe83"), looks := true }, kinds := [], alts := [], laidByText := true, laidKinds := [.data, .data, .data, .data, .sentinel, .sentinel, .pinned, .pinned], laidTests := true, laidLooks := .later }
def RangesCardSaid : Prop := Claim7.holds Tryz.pinned (.plain (OpenSpec.ofChange rangesSpec)) rangesCard

/-- THE TIED CARD OF 'sievekeep.Sums'. -/
def sumsCard : Claim7 := { stood := { row := sumsRow, standIns := [], harness := (true, "2b4165654e250af432e99edf6cc3e8e6183f4216968c9526eadd36a51257fe83"), looks := true }, kinds := [], alts := [], laidByText := true, laidKinds := [.data, .data, .data, .data, .sentinel, .sentinel, .pinned, .pinned], laidTests := true, laidLooks := .later }
def SumsCardSaid : Prop := Claim7.holds Tryz.pinned (.plain (OpenSpec.ofChange sumsSpec)) sumsCard

/-- THE TIED CARD OF 'sievekeep.Likes'. -/
def likesCard : Claim7 := { stood := { row := likesRow, standIns := [], harness := (true, "2b4165654e250af432e99edf6cc3e8e6183f4216968c9526eadd36a51257fe83"), looks := true }, kinds := [], alts := [], laidByText := true, laidKinds := [.data, .data, .data, .data, .sentinel, .sentinel, .pinned, .pinned], laidTests := true, laidLooks := .later }
def LikesCardSaid : Prop := Claim7.holds Tryz.pinned (.plain (OpenSpec.ofChange likesSpec)) likesCard

/-- THE TIED CARD OF 'sievekeep.Logic'. -/
def logicCard : Claim7 := { stood := { row := logicRow, standIns := [], harness := (true, "2b4165654e250af432e99edf6cc3e8e6183f4216968c9526eadd36a51257fe83"), looks := true }, kinds := [], alts := [], laidByText := true, laidKinds := [.data, .data, .data, .data, .sentinel, .sentinel, .pinned, .pinned], laidTests := true, laidLooks := .later }
def LogicCardSaid : Prop := Claim7.holds Tryz.pinned (.plain (OpenSpec.ofChange logicSpec)) logicCard

/-- THE TIED CARD OF 'sievelaw.Canons'. -/
def canonsCard : Claim7 := { stood := { row := canonsRow, standIns := [], harness := (true, "2b4165654e250af432e99edf6cc3e8e6183f4216968c9526eadd36a51257fe83"), looks := true }, kinds := [], alts := [], laidByText := true, laidKinds := [.data, .data, .data, .data, .sentinel, .sentinel, .pinned, .pinned], laidTests := true, laidLooks := .later }
def CanonsCardSaid : Prop := Claim7.holds Tryz.pinned (.plain (OpenSpec.ofChange canonsSpec)) canonsCard

/-- THE TIED CARD OF 'sievekeep.Meant'. -/
def meantCard : Claim7 := { stood := { row := meantRow, standIns := [], harness := (true, "2b4165654e250af432e99edf6cc3e8e6183f4216968c9526eadd36a51257fe83"), looks := true }, kinds := [], alts := [], laidByText := true, laidKinds := [.data, .data, .data, .data, .sentinel, .sentinel, .pinned, .pinned], laidTests := true, laidLooks := .later }
def MeantCardSaid : Prop := Claim7.holds Tryz.pinned (.plain (OpenSpec.ofChange meantSpec)) meantCard

/-- THE TIED CARD OF 'sievelaw.Compiles'. -/
def compilesCard : Claim7 := { stood := { row := compilesRow, standIns := [], harness := (true, "2b4165654e250af432e99edf6cc3e8e6183f4216968c9526eadd36a51257fe83"), looks := true }, kinds := [], alts := [], laidByText := true, laidKinds := [.data, .data, .data, .data, .sentinel, .sentinel, .pinned, .pinned], laidTests := true, laidLooks := .later }
def CompilesCardSaid : Prop := Claim7.holds Tryz.pinned (.plain (OpenSpec.ofChange compilesSpec)) compilesCard

/-- THE TIED CARD OF 'sievelaw.Runs'. -/
def runsCard : Claim7 := { stood := { row := runsRow, standIns := [], harness := (true, "2b4165654e250af432e99edf6cc3e8e6183f4216968c9526eadd36a51257fe83"), looks := true }, kinds := [], alts := [], laidByText := true, laidKinds := [.data, .data, .data, .data, .sentinel, .sentinel, .pinned, .pinned], laidTests := true, laidLooks := .later }
def RunsCardSaid : Prop := Claim7.holds Tryz.pinned (.plain (OpenSpec.ofChange runsSpec)) runsCard

/-- THE TIED CARD OF 'sievekeep.Any'. -/
def anyCard : Claim7 := { stood := { row := anyRow, standIns := [], harness := (true, "2b4165654e250af432e99edf6cc3e8e6183f4216968c9526eadd36a51257fe83"), looks := true }, kinds := [], alts := [], laidByText := true, laidKinds := [.data, .data, .data, .data, .sentinel, .sentinel, .pinned, .pinned], laidTests := true, laidLooks := .later }
def AnyCardSaid : Prop := Claim7.holds Tryz.pinned (.plain (OpenSpec.ofChange anySpec)) anyCard

/-- THE TIED CARD OF 'sievelaw.Acts'. -/
def actsCard : Claim7 := { stood := { row := actsRow, standIns := [], harness := (true, "2b4165654e250af432e99edf6cc3e8e6183f4216968c9526eadd36a51257fe83"), looks := true }, kinds := [], alts := [], laidByText := true, laidKinds := [.data, .data, .data, .data, .sentinel, .sentinel, .pinned, .pinned], laidTests := true, laidLooks := .later }
def ActsCardSaid : Prop := Claim7.holds Tryz.pinned (.plain (OpenSpec.ofChange actsSpec)) actsCard

/-- THE TIED CARD OF 'sievelaw.Asks'. -/
def asksCard : Claim7 := { stood := { row := asksRow, standIns := [], harness := (true, "2b4165654e250af432e99edf6cc3e8e6183f4216968c9526eadd36a51257fe83"), looks := true }, kinds := [], alts := [], laidByText := true, laidKinds := [.data, .data, .data, .data, .sentinel, .sentinel, .pinned, .pinned], laidTests := true, laidLooks := .later }
def AsksCardSaid : Prop := Claim7.holds Tryz.pinned (.plain (OpenSpec.ofChange asksSpec)) asksCard

/-- THE SECOND FORM's CARD OF 'sievelaw.Evals'. -/
def evalsUptoCard : Claim7 := { stood := { row := evalsUptoRow, standIns := [], harness := (true, "2b4165654e250af432e99edf6cc3e8e6183f4216968c9526eadd36a51257fe83"), looks := true }, kinds := [], alts := [], laidByText := true, laidKinds := [.data, .data, .data, .data, .sentinel, .sentinel, .pinned, .pinned], laidTests := true, laidLooks := .later }
def EvalsUptoCardSaid : Prop := Claim7.holds Tryz.pinned (.plain (OpenSpec.upto evalsSpec)) evalsUptoCard

/-- THE SECOND FORM's CARD OF 'sievekeep.Ranges'. -/
def rangesUptoCard : Claim7 := { stood := { row := rangesUptoRow, standIns := [], harness := (true, "2b4165654e250af432e99edf6cc3e8e6183f4216968c9526eadd36a51257fe83"), looks := true }, kinds := [], alts := [], laidByText := true, laidKinds := [.data, .data, .data, .data, .sentinel, .sentinel, .pinned, .pinned], laidTests := true, laidLooks := .later }
def RangesUptoCardSaid : Prop := Claim7.holds Tryz.pinned (.plain (OpenSpec.upto rangesSpec)) rangesUptoCard

/-- THE SECOND FORM's CARD OF 'sievekeep.Sums'. -/
def sumsUptoCard : Claim7 := { stood := { row := sumsUptoRow, standIns := [], harness := (true, "2b4165654e250af432e99edf6cc3e8e6183f4216968c9526eadd36a51257fe83"), looks := true }, kinds := [], alts := [], laidByText := true, laidKinds := [.data, .data, .data, .data, .sentinel, .sentinel, .pinned, .pinned], laidTests := true, laidLooks := .later }
def SumsUptoCardSaid : Prop := Claim7.holds Tryz.pinned (.plain (OpenSpec.upto sumsSpec)) sumsUptoCard

/-- THE SECOND FORM's CARD OF 'sievekeep.Likes'. -/
def likesUptoCard : Claim7 := { stood := { row := likesUptoRow, standIns := [], harness := (true, "2b4165654e250af432e99edf6cc3e8e6183f4216968c9526eadd36a51257fe83"), looks := true }, kinds := [], alts := [], laidByText := true, laidKinds := [.data, .data, .data, .data, .sentinel, .sentinel, .pinned, .pinned], laidTests := true, laidLooks := .later }
def LikesUptoCardSaid : Prop := Claim7.holds Tryz.pinned (.plain (OpenSpec.upto likesSpec)) likesUptoCard

/-- THE SECOND FORM's CARD OF 'sievekeep.Logic'. -/
def logicUptoCard : Claim7 := { stood := { row := logicUptoRow, standIns := [], harness := (true, "2b4165654e250af432e99edf6cc3e8e6183f4216968c9526eadd36a51257fe83"), looks := true }, kinds := [], alts := [], laidByText := true, laidKinds := [.data, .data, .data, .data, .sentinel, .sentinel, .pinned, .pinned], laidTests := true, laidLooks := .later }
def LogicUptoCardSaid : Prop := Claim7.holds Tryz.pinned (.plain (OpenSpec.upto logicSpec)) logicUptoCard

/-- THE SECOND FORM's CARD OF 'sievelaw.Canons'. -/
def canonsUptoCard : Claim7 := { stood := { row := canonsUptoRow, standIns := [], harness := (true, "2b4165654e250af432e99edf6cc3e8e6183f4216968c9526eadd36a51257fe83"), looks := true }, kinds := [], alts := [], laidByText := true, laidKinds := [.data, .data, .data, .data, .sentinel, .sentinel, .pinned, .pinned], laidTests := true, laidLooks := .later }
def CanonsUptoCardSaid : Prop := Claim7.holds Tryz.pinned (.plain (OpenSpec.upto canonsSpec)) canonsUptoCard

/-- THE SECOND FORM's CARD OF 'sievekeep.Meant'. -/
def meantUptoCard : Claim7 := { stood := { row := meantUptoRow, standIns := [], harness := (true, "2b4165654e250af432e99edf6cc3e8e6183f4216968c9526eadd36a51257fe83"), looks := true }, kinds := [], alts := [], laidByText := true, laidKinds := [.data, .data, .data, .data, .sentinel, .sentinel, .pinned, .pinned], laidTests := true, laidLooks := .later }
def MeantUptoCardSaid : Prop := Claim7.holds Tryz.pinned (.plain (OpenSpec.upto meantSpec)) meantUptoCard

/-- THE SECOND FORM's CARD OF 'sievelaw.Compiles'. -/
def compilesUptoCard : Claim7 := { stood := { row := compilesUptoRow, standIns := [], harness := (true, "2b4165654e250af432e99edf6cc3e8e6183f4216968c9526eadd36a51257fe83"), looks := true }, kinds := [], alts := [], laidByText := true, laidKinds := [.data, .data, .data, .data, .sentinel, .sentinel, .pinned, .pinned], laidTests := true, laidLooks := .later }
def CompilesUptoCardSaid : Prop := Claim7.holds Tryz.pinned (.plain (OpenSpec.upto compilesSpec)) compilesUptoCard

/-- THE SECOND FORM's CARD OF 'sievelaw.Runs'. -/
def runsUptoCard : Claim7 := { stood := { row := runsUptoRow, standIns := [], harness := (true, "2b4165654e250af432e99edf6cc3e8e6183f4216968c9526eadd36a51257fe83"), looks := true }, kinds := [], alts := [], laidByText := true, laidKinds := [.data, .data, .data, .data, .sentinel, .sentinel, .pinned, .pinned], laidTests := true, laidLooks := .later }
def RunsUptoCardSaid : Prop := Claim7.holds Tryz.pinned (.plain (OpenSpec.upto runsSpec)) runsUptoCard

/-- THE SECOND FORM's CARD OF 'sievekeep.Any'. -/
def anyUptoCard : Claim7 := { stood := { row := anyUptoRow, standIns := [], harness := (true, "2b4165654e250af432e99edf6cc3e8e6183f4216968c9526eadd36a51257fe83"), looks := true }, kinds := [], alts := [], laidByText := true, laidKinds := [.data, .data, .data, .data, .sentinel, .sentinel, .pinned, .pinned], laidTests := true, laidLooks := .later }
def AnyUptoCardSaid : Prop := Claim7.holds Tryz.pinned (.plain (OpenSpec.upto anySpec)) anyUptoCard

/-- THE SECOND FORM's CARD OF 'sievelaw.Acts'. -/
def actsUptoCard : Claim7 := { stood := { row := actsUptoRow, standIns := [], harness := (true, "2b4165654e250af432e99edf6cc3e8e6183f4216968c9526eadd36a51257fe83"), looks := true }, kinds := [], alts := [], laidByText := true, laidKinds := [.data, .data, .data, .data, .sentinel, .sentinel, .pinned, .pinned], laidTests := true, laidLooks := .later }
def ActsUptoCardSaid : Prop := Claim7.holds Tryz.pinned (.plain (OpenSpec.upto actsSpec)) actsUptoCard

/-- THE SECOND FORM's CARD OF 'sievelaw.Asks'. -/
def asksUptoCard : Claim7 := { stood := { row := asksUptoRow, standIns := [], harness := (true, "2b4165654e250af432e99edf6cc3e8e6183f4216968c9526eadd36a51257fe83"), looks := true }, kinds := [], alts := [], laidByText := true, laidKinds := [.data, .data, .data, .data, .sentinel, .sentinel, .pinned, .pinned], laidTests := true, laidLooks := .later }
def AsksUptoCardSaid : Prop := Claim7.holds Tryz.pinned (.plain (OpenSpec.upto asksSpec)) asksUptoCard
end Rows
end Go.Proofs.YtfkcaldjphakpaaGreatDoor
