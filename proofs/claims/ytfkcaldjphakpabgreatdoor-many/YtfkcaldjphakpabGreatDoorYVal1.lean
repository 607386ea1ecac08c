/- Contracts of package value: the logic and the comparisons. -/
import Derived.Test.YtfkcaldjphakpabGreatDoorN00
namespace Go.Proofs.YtfkcaldjphakpabGreatDoor
open Go.RowKit

/-- A value of the program: its kind, its number, its text. -/
structure V where
  kind : Int
  num : Int
  str : List UInt8
  deriving DecidableEq

def nV : V := ⟨0, 0, []⟩
def bV (b : Bool) : V := ⟨1, if b then 1 else 0, []⟩
def iV (n : Int) : V := ⟨2, n, []⟩
def tV (s : List UInt8) : V := ⟨3, 0, s⟩

def intsB (x y : V) : Bool := x.kind == 2 && y.kind == 2

theorem below2 (w : World) (o o' : Obj) : Below w.heap.size w ((w.alloc o).alloc o') := ((Below.refl _ _).alloc (Nat.le_refl _) o).alloc (by simp) o'
theorem below3 (w : World) (o o' o'' : Obj) : Below w.heap.size w (((w.alloc o).alloc o').alloc o'') := (below2 w o o').alloc (by simp; omega) o''

theorem below_any {w W w' : World} (h1 : Below w.heap.size w W) (h2 : Below W.heap.size W w') : Below w.heap.size w w' := h1.trans (h2.mono h1.size)

def notV (x : V) : V := if x.kind == 1 then bV (x.num == 0) else nV

def eqV (x y : V) : V := if x.kind == 0 || !(x.kind == y.kind) then nV else bV (decide (x = y))
def lessV (x y : V) : V := if intsB x y then bV (decide (x.num < y.num)) else nV
def leV (x y : V) : V := if intsB x y then bV (decide (x.num ≤ y.num)) else nV

end Go.Proofs.YtfkcaldjphakpabGreatDoor
