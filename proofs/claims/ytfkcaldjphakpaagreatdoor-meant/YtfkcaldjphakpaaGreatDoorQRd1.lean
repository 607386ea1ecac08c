/- The reader's state in memory; the contract of (*reader).step. -/
import Derived.Test.YtfkcaldjphakpaaGreatDoorQLex9
import Derived.Deep.RegionWith
namespace Go.Proofs.YtfkcaldjphakpaaGreatDoor
open Go.RowKit

/-- The reader: the token that it looks at, its place, the place behind it, how many things are open. -/
structure St where
  tk : Tk
  place : Nat
  after : Nat
  op : Nat

/-- It lies in a block of its own. -/
structure RdAt (w : World) (rb : Nat) (s : ByteArray) (st : St) : Prop where
  c0 : w.cell? ⟨rb, 0, none⟩ = some (.string s)
  c1 : w.cell? ⟨rb, 1, none⟩ = some (.int .i64 st.tk.kind)
  c2 : w.cell? ⟨rb, 2, none⟩ = some (.int .i64 st.place)
  c3 : w.cell? ⟨rb, 3, none⟩ = some (.int .i64 st.tk.num)
  c4 : w.cell? ⟨rb, 4, none⟩ = some (.string (BS st.tk.str))
  c5 : w.cell? ⟨rb, 5, none⟩ = some (.int .i64 st.after)
  c6 : w.cell? ⟨rb, 6, none⟩ = some (.int .i64 st.op)
  fz : ∀ j, w.frozen? ⟨rb, j, none⟩ = false

/-- All blocks that were there are as they were, but for the reader's. -/
structure Kept (rb : Nat) (w w' : World) : Prop where
  os : w'.os = w.os
  tape : w'.tape = w.tape
  output : w'.output = w.output
  size : w.heap.size ≤ w'.heap.size
  block : ∀ k, k < w.heap.size → k ≠ rb → w'.heap[k]? = w.heap[k]?

theorem Kept.refl (rb : Nat) (w : World) : Kept rb w w := ⟨rfl, rfl, rfl, Nat.le_refl _, fun _ _ _ => rfl⟩
theorem Kept.trans {rb : Nat} {a b c : World} (h : Kept rb a b) (k : Kept rb b c) : Kept rb a c :=
  ⟨k.os.trans h.os, k.tape.trans h.tape, k.output.trans h.output, Nat.le_trans h.size k.size, fun i hi hn => (k.block i (Nat.lt_of_lt_of_le hi h.size) hn).trans (h.block i hi hn)⟩
theorem Kept.of_below {rb : Nat} {w w' : World} (h : Below w.heap.size w w') : Kept rb w w' := ⟨h.os, h.tape, h.output, h.size, fun k hk _ => h.block k hk⟩
theorem Kept.drew {rb : Nat} {a w : World} (h : Kept rb a w) : Kept rb a w.drew := ⟨h.os, h.tape, h.output, h.size, h.block⟩
theorem Kept.setCell {rb : Nat} {a w : World} (h : Kept rb a w) (j : Nat) (u : Value) : Kept rb a (w.setCell ⟨rb, j, none⟩ u) := by
  have hb := (Below.refl 0 w).setCell (p := ⟨rb, j, none⟩) (Nat.zero_le _) u
  refine ⟨hb.os.trans h.os, hb.tape.trans h.tape, hb.output.trans h.output, Nat.le_trans h.size hb.size, fun k hk hn => ?_⟩
  rw [Below.heap_setCell w ⟨rb, j, none⟩ u k hn]; exact h.block k hk hn
theorem Kept.alloc {rb : Nat} {a w : World} (h : Kept rb a w) (o : Obj) : Kept rb a (w.alloc o) :=
  h.trans (Kept.of_below ((Below.refl _ _).alloc (Nat.le_refl _) o))

theorem RdAt.below {w w' : World} {rb : Nat} {s : ByteArray} {st : St} (h : RdAt w rb s st) (hb : Below w.heap.size w w') (hlt : rb < w.heap.size) : RdAt w' rb s st :=
  ⟨(hb.cell hlt).trans h.c0, (hb.cell hlt).trans h.c1, (hb.cell hlt).trans h.c2, (hb.cell hlt).trans h.c3, (hb.cell hlt).trans h.c4, (hb.cell hlt).trans h.c5, (hb.cell hlt).trans h.c6, fun j => (hb.frozen hlt).trans (h.fz j)⟩

theorem ErrOk.kept {rb : Nat} {w w' : World} (h : ErrOk w) (k : Kept rb w w') (hrb : 3 < rb) : ErrOk w' := by
  obtain ⟨h1, ev, h2, h3⟩ := h
  refine ⟨Nat.lt_of_lt_of_le h1 k.size, ev, ?_, h3⟩
  rw [World.cell?_of_block (w := w) (w' := w') (k.block _ h1 (by show 3 ≠ rb; omega))]; exact h2

/-- The next token. -/
def stepSt (s : ByteArray) (st : St) : St := ⟨nextTk s.data.toList st.after, nextAt s.data.toList st.after, nextTo s.data.toList st.after, st.op⟩

set_option maxHeartbeats 1000000 in
theorem step_any (rb : Nat) (s : ByteArray) (st : St) (w : World) (hs : s.size ≤ 140737488355328) (ha : st.after ≤ s.size) (hr : RdAt w rb s st) (hlt : rb < w.heap.size) (hE : ErrOk w) :
    Calls Tryz.prog 54 #[.pointer (some ⟨rb, 0, none⟩)] w fun e w' => e = .returned (.tuple #[]) ∧ RdAt w' rb s (stepSt s st) ∧ Kept rb w w' := by
  have HR := hide hr
  obtain ⟨c0, c1, c2, c3, c4, c5, c6, fz⟩ := hr
  go_enter Tryz.func54, Tryz.ntmps54
  go_wp2_with fail
  go_region_with (go_at_call 100; refine (next_any s hs st.after ha _ (by exact hE)).mono ?_; rintro e w1 ⟨rfl, hb1⟩; have hb2 : Below w.heap.size w w1 := ((Below.refl w.heap.size w).drew).trans hb1; clear hb1; obtain ⟨d0, d1, d2, d3, d4, d5, d6, dz⟩ := (unhide HR).below hb2 hlt; simp only [tkV])
  all_goals (go_wp2_with fail)
  all_goals go_end0
  all_goals refine ⟨rfl, ⟨?_, ?_, ?_, ?_, ?_, ?_, ?_, ?_⟩, (((((Kept.of_below hb2).setCell 1 _).setCell 2 _).setCell 3 _).setCell 4 _).setCell 5 _⟩
  all_goals first | (simp [go_sem, stepSt, d0, d1, d2, d3, d4, d5, d6]; done) | (intro j; simp [go_sem, dz]; done)

end Go.Proofs.YtfkcaldjphakpaaGreatDoor
