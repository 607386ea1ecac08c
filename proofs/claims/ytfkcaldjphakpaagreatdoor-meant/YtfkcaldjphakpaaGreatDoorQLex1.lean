/- Contracts of the small functions of package lex: which bytes are spaces, digits, begin a word, go on a word. -/
import Derived.Test.YtfkcaldjphakpaaGreatDoorProg
import Derived.WalkKit
import Derived.WalkSpells
import Derived.WalkLawsBesides
namespace Go.Proofs.YtfkcaldjphakpaaGreatDoor
open Go.RowKit

theorem hide {p : Prop} (h : p) : Hid p := h
theorem unhide {p : Prop} (h : Hid p) : p := h

theorem bcell {W w1 : World} (hb : Below W.heap.size W w1) : (∀ b o, b < W.heap.size → w1.cell? ⟨b, o, none⟩ = W.cell? ⟨b, o, none⟩) ∧ (∀ b o, b < W.heap.size → w1.frozen? ⟨b, o, none⟩ = W.frozen? ⟨b, o, none⟩) :=
  ⟨fun b o h => hb.cell (p := ⟨b, o, none⟩) h, fun b o h => hb.frozen (p := ⟨b, o, none⟩) h⟩

theorem below_step {w w' : World} {o : Obj} (hb : Below (w.alloc o).heap.size (w.alloc o) w') : Below w.heap.size w w' :=
  ((Below.refl _ _).alloc (Nat.le_refl _) _).trans (hb.mono (by simp))

/-- The variable strconv.ErrRange holds an error, or nil. -/
def ErrOk (w : World) : Prop := 3 < w.heap.size ∧ ∃ ev, w.cell? ⟨3, 0, none⟩ = some ev ∧ (ev = .nilIface ∨ ∃ te pe, ev = .iface te pe)
theorem ErrOk.below {w w' : World} {B : Nat} (h : ErrOk w) (hb : Below B w w') (hB : w.heap.size ≤ B) : ErrOk w' := by
  obtain ⟨h1, ev, h2, h3⟩ := h
  refine ⟨Nat.lt_of_lt_of_le h1 hb.size, ev, ?_, h3⟩
  rw [hb.cell (p := ⟨3, 0, none⟩) (Nat.lt_of_lt_of_le h1 hB)]; exact h2
theorem ErrOk.alloc {w : World} (h : ErrOk w) (o : Obj) : ErrOk (w.alloc o) :=
  h.below ((Below.refl w.heap.size w).alloc (Nat.le_refl _) o) (Nat.le_refl _)

def spB (c : Int) : Bool := c == 32 || c == 9 || c == 10
def digB (c : Int) : Bool := decide (48 ≤ c) && decide (c ≤ 57)
def begB (c : Int) : Bool := decide (65 ≤ c) && decide (c ≤ 90) || decide (97 ≤ c) && decide (c ≤ 122) || c == 95 || c == 36
def goeB (c : Int) : Bool := begB c || digB c || c == 46

theorem ret_bool {a b : Bool} (h : a = true ↔ b = true) : Ending.returned (.bool a) = .returned (.bool b) := by
  rw [Bool.eq_iff_iff.2 h]

set_option maxHeartbeats 400000 in
theorem isSpace_any (c : Int) (w : World) :
    Calls Tryz.prog 143 #[.int .u8 c] w fun e w' => e = .returned (.bool (spB c)) ∧ w' = w := by
  unfold spB
  go_enter Tryz.func143, Tryz.ntmps143
  go_wp2
  all_goals (go_ret; exact ⟨ret_bool (by simp <;> omega), rfl⟩)

set_option maxHeartbeats 400000 in
theorem isDigit_any (c : Int) (w : World) :
    Calls Tryz.prog 192 #[.int .u8 c] w fun e w' => e = .returned (.bool (digB c)) ∧ w' = w := by
  unfold digB
  go_enter Tryz.func192, Tryz.ntmps192
  go_wp2
  all_goals (go_ret; exact ⟨ret_bool (by simp <;> omega), rfl⟩)

set_option maxHeartbeats 400000 in
theorem beginsWord_any (c : Int) (w : World) :
    Calls Tryz.prog 190 #[.int .u8 c] w fun e w' => e = .returned (.bool (begB c)) ∧ w' = w := by
  unfold begB
  go_enter Tryz.func190, Tryz.ntmps190
  go_wp2
  all_goals (go_ret; exact ⟨ret_bool (by simp <;> omega), rfl⟩)

set_option maxHeartbeats 400000 in
theorem goesOnWord_any (c : Int) (w : World) :
    Calls Tryz.prog 201 #[.int .u8 c] w fun e w' => e = .returned (.bool (goeB c)) ∧ w' = w := by
  unfold goeB
  go_enter Tryz.func201, Tryz.ntmps201
  go_wp2_with (first | (go_at_call 190; refine (beginsWord_any _ _).mono ?_; rintro e w' ⟨rfl, rfl⟩) | (go_at_call 192; refine (isDigit_any _ _).mono ?_; rintro e w' ⟨rfl, rfl⟩))
  all_goals (go_ret; exact ⟨ret_bool (by simp_all), rfl⟩)

end Go.Proofs.YtfkcaldjphakpaaGreatDoor
