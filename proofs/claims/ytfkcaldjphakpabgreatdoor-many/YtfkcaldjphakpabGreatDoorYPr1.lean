/- What a term of a program is of an event: Term.of. -/
import Derived.Test.YtfkcaldjphakpabGreatDoorN13
import Derived.Test.YtfkcaldjphakpabGreatDoorN18
import Derived.Test.YtfkcaldjphakpabGreatDoorYAm1
import Derived.Test.YtfkcaldjphakpabGreatDoorYOf2
import Derived.Test.YtfkcaldjphakpabGreatDoorN26
import Derived.Test.YtfkcaldjphakpabGreatDoorN17
import Derived.Deep.RegionWith
import Derived.Deep.RegionHeld3
namespace Go.Proofs.YtfkcaldjphakpabGreatDoor
open Go.RowKit

/-- A row of n values in a block; the first of them are known, the others are nothing. -/
def ValsAt (w : World) (vb n : Nat) (vs : List V) : Prop := ∀ i, i < n →
  w.cell? ⟨vb, i * 3, none⟩ = some (.int .i64 (vs.getD i nV).kind) ∧ w.cell? ⟨vb, i * 3 + 1, none⟩ = some (.int .i64 (vs.getD i nV).num) ∧ w.cell? ⟨vb, i * 3 + 2, none⟩ = some (.string (BS (vs.getD i nV).str))

theorem ValsAt.below {B : Nat} {w w' : World} {vb n : Nat} {vs : List V} (h : ValsAt w vb n vs) (hb : Below B w w') (hlt : vb < B) : ValsAt w' vb n vs := by
  intro k hk
  obtain ⟨h1, h2, h3⟩ := h k hk
  exact ⟨(hb.cell hlt).trans h1, (hb.cell hlt).trans h2, (hb.cell hlt).trans h3⟩

end Go.Proofs.YtfkcaldjphakpabGreatDoor
