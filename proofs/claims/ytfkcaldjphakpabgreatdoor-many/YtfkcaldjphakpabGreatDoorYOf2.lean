/- Of, over what join says. -/
import Derived.Test.YtfkcaldjphakpabGreatDoorN12
namespace Go.Proofs.YtfkcaldjphakpabGreatDoor
open Go.RowKit

/-- What the loop has worked out so far. -/
def OfAt (ps : List Pr) (t : Ast) (k : Nat) (x0 x1 x2 : V) : Prop :=
  x0 = (if 0 < k then ((sidesA t).map (ofA ps)).getD 0 nV else nV) ∧ x1 = (if 1 < k then ((sidesA t).map (ofA ps)).getD 1 nV else nV) ∧ x2 = (if 2 < k then ((sidesA t).map (ofA ps)).getD 2 nV else nV)

theorem getD_ge (l : List V) (n : Nat) (h : l.length ≤ n) : l.getD n nV = nV := by rw [List.getD_eq_getElem?_getD, List.getElem?_eq_none h]; rfl

theorem OfAt.done {ps : List Pr} {t : Ast} {x0 x1 x2 : V} (h : OfAt ps t (sidesA t).length x0 x1 x2) : joinN (payA t) x0 x1 x2 = joinN (payA t) (((sidesA t).map (ofA ps)).getD 0 nV) (((sidesA t).map (ofA ps)).getD 1 nV) (((sidesA t).map (ofA ps)).getD 2 nV) := by
  obtain ⟨rfl, rfl, rfl⟩ := h
  have hz : ∀ i, (if i < (sidesA t).length then ((sidesA t).map (ofA ps)).getD i nV else nV) = ((sidesA t).map (ofA ps)).getD i nV := by
    intro i
    split
    · rfl
    · rw [getD_ge]; rw [List.length_map]; omega
  rw [hz, hz, hz]

theorem OfAt.rng {ps : List Pr} {t : Ast} {k : Nat} {x0 x1 x2 : V} (h : OfAt ps t k x0 x1 x2) (hr : ∀ x ∈ sidesA t, Rng (ofA ps x).num) : Rng x0.num ∧ Rng x1.num ∧ Rng x2.num := by
  have hz : ∀ i, Rng (((sidesA t).map (ofA ps)).getD i nV).num := by
    intro i
    rw [List.getD_eq_getElem?_getD, List.getElem?_map]
    cases hx : (sidesA t)[i]? with
    | none => exact rng_n
    | some x => exact hr x (List.mem_of_getElem? hx)
  obtain ⟨rfl, rfl, rfl⟩ := h
  refine ⟨?_, ?_, ?_⟩ <;> split <;> first | exact hz _ | exact rng_n

theorem OfAt.len {ps : List Pr} {t : Ast} {k : Nat} {x0 x1 x2 : V} (h : OfAt ps t k x0 x1 x2) (hr : ∀ x ∈ sidesA t, (ofA ps x).str.length ≤ 1000) : x0.str.length ≤ 1000 := by
  obtain ⟨rfl, _, _⟩ := h
  split
  · rw [List.getD_eq_getElem?_getD, List.getElem?_map]
    cases hx : (sidesA t)[0]? with
    | none => simp [nV]
    | some x => exact hr x (List.mem_of_getElem? hx)
  · simp [nV]

end Go.Proofs.YtfkcaldjphakpabGreatDoor
