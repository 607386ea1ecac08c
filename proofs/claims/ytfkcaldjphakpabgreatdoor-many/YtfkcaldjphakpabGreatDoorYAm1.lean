/- among. -/
import Derived.Test.YtfkcaldjphakpabGreatDoorYOf2
import Derived.Deep.RegionWith
namespace Go.Proofs.YtfkcaldjphakpabGreatDoor
open Go.RowKit

structure AmAt (w W : World) (F : Nat) (x f : V) : Prop where
  x0 : W.cell? ⟨w.heap.size, 0, none⟩ = some (.int .i64 x.kind)
  x1 : W.cell? ⟨w.heap.size, 1, none⟩ = some (.int .i64 x.num)
  x2 : W.cell? ⟨w.heap.size, 2, none⟩ = some (.string (BS x.str))
  r0 : W.cell? ⟨w.heap.size + 1, 0, none⟩ = some (.int .i64 0)
  r1 : W.cell? ⟨w.heap.size + 1, 1, none⟩ = some (.int .i64 0)
  r2 : W.cell? ⟨w.heap.size + 1, 2, none⟩ = some (.string ⟨#[]⟩)
  f0 : W.cell? ⟨F, 0, none⟩ = some (.int .i64 f.kind)
  f1 : W.cell? ⟨F, 1, none⟩ = some (.int .i64 f.num)
  f2 : W.cell? ⟨F, 2, none⟩ = some (.string (BS f.str))
  fr : ∀ j, W.frozen? ⟨w.heap.size + 1, j, none⟩ = false
  ff : ∀ j, W.frozen? ⟨F, j, none⟩ = false
  ge : w.heap.size + 1 < F
  lt : F < W.heap.size
  below : Below w.heap.size w W

theorem AmAt.next {w W W' : World} {F : Nat} {x f : V} (h : AmAt w W F x f) (hb : Below W.heap.size W W') : AmAt w W' F x f := by
  obtain ⟨hc, hf⟩ := bcell hb
  have hl := h.lt
  have hg := h.ge
  exact ⟨(hc _ 0 (by omega)).trans h.x0, (hc _ 1 (by omega)).trans h.x1, (hc _ 2 (by omega)).trans h.x2, (hc _ 0 (by omega)).trans h.r0, (hc _ 1 (by omega)).trans h.r1, (hc _ 2 (by omega)).trans h.r2, (hc _ 0 (by omega)).trans h.f0, (hc _ 1 (by omega)).trans h.f1, (hc _ 2 (by omega)).trans h.f2, fun j => (hf _ j (by omega)).trans (h.fr j), fun j => (hf _ j (by omega)).trans (h.ff j), hg, Nat.lt_of_lt_of_le hl hb.size, below_any h.below hb⟩

theorem AmAt.drew {w W : World} {F : Nat} {x f : V} (h : AmAt w W F x f) : AmAt w W.drew F x f := h.next ((Below.refl _ _).drew)

theorem TextsAt.any {lo : Nat} {w : World} {v : Value} {ts : List (List UInt8)} (h : TextsAt lo w v ts) : ∃ a c, v = .slice a ts.length c ∧ ∀ (j : Nat) (t : List UInt8), ts[j]? = some t → ∃ g, a = some ⟨g, 0, none⟩ ∧ g < w.heap.size ∧ w.cell? ⟨g, j, none⟩ = some (.string (BS t)) := by
  rcases h with ⟨rfl, rfl⟩ | ⟨g, c, rfl, _, h2, h3⟩
  · exact ⟨none, 0, rfl, fun j t hj => by simp at hj⟩
  · exact ⟨_, c, rfl, fun j t hj => ⟨g, rfl, h2, h3 j t hj⟩⟩

theorem AmAt.store {w W : World} {F : Nat} {x f : V} (h : AmAt w W F x f) (f' : V) : AmAt w (((W.setCell ⟨F, 0, none⟩ (.int .i64 f'.kind)).setCell ⟨F, 1, none⟩ (.int .i64 f'.num)).setCell ⟨F, 2, none⟩ (.string (BS f'.str))) F x f' := by
  have hg := h.ge
  have d0 : ¬ F = w.heap.size := by omega
  have d1 : ¬ F = w.heap.size + 1 := by omega
  have d2 : ¬ w.heap.size = F := by omega
  have d3 : ¬ w.heap.size + 1 = F := by omega
  refine ⟨?_, ?_, ?_, ?_, ?_, ?_, ?_, ?_, ?_, fun j => ?_, fun j => ?_, hg, by simpa using h.lt, ((h.below.setCell (by show w.heap.size ≤ F; omega) _).setCell (by show w.heap.size ≤ F; omega) _).setCell (by show w.heap.size ≤ F; omega) _⟩
  · simp [go_sem, h.x0]
  · simp [go_sem, h.x1]
  · simp [go_sem, h.x2]
  · simp [go_sem, h.r0]
  · simp [go_sem, h.r1]
  · simp [go_sem, h.r2]
  · simp [go_sem, h.f0]
  · simp [go_sem, h.f1]
  · simp [go_sem, h.f2]
  · simp [go_sem, h.fr]
  · simp [go_sem, h.ff]

end Go.Proofs.YtfkcaldjphakpabGreatDoor
