/- join: what needs nothing but Join. -/
import Derived.Test.YtfkcaldjphakpaaGreatDoorQOf2
import Derived.Deep.RegionWith
namespace Go.Proofs.YtfkcaldjphakpaaGreatDoor
open Go.RowKit

set_option maxHeartbeats 1000000 in
set_option maxRecDepth 100000 in
theorem joinN_else (lo : Nat) (t : Ast) (h20 : ¬ (payA t).op = 20) (h21 : ¬ (payA t).op = 21) (h22 : ¬ (payA t).op = 22) (hJ : ∀ x y, Rng x.num → Rng y.num → JoinOk (payA t).op x y (joinV (payA t).op x y)) : JoinNOk lo t := by
  intro w b x y z hx hy _ _ h
  have hr : joinN (payA t) x y z = joinV (payA t).op x y := by rw [joinN, if_neg h20, if_neg h21, if_neg h22]
  rw [hr]
  have CON := hide (hJ x y hx hy)
  obtain ⟨b', sv, hb, hnode, _⟩ := h.parts
  obtain rfl : b = b' := by simpa using hb
  have c0 := hnode.c0
  have hbw := hnode.within
  have m1 : b < w.heap.size + 1 := by omega
  have m2 : b < w.heap.size + 1 + 1 := by omega
  have m3 : b < w.heap.size + 1 + 1 + 1 := by omega
  obtain ⟨op, hop⟩ : ∃ op, (payA t).op = op := ⟨_, rfl⟩
  rw [hop] at c0 h20 h21 h22 CON ⊢
  have e20 : (op == 20) = false := beq_eq_false_iff_ne.2 h20
  have e21 : (op == 21) = false := beq_eq_false_iff_ne.2 h21
  have e22 : (op == 22) = false := beq_eq_false_iff_ne.2 h22
  obtain ⟨r, hr'⟩ : ∃ r, joinV op x y = r := ⟨_, rfl⟩
  rw [hr'] at CON ⊢
  clear hr hr' hnode hb h hx hy h20 h21 h22 hop hJ
  conv => arg 3; simp only [vV]
  go_enter Tryz.func65, Tryz.ntmps65
  go_wp2_with fail
  go_region_with (go_at_call 110; refine (unhide CON _).mono ?_; rintro e w1 ⟨rfl, hb1'⟩; have hb1 : Below w.heap.size w w1 := below_any (((below3 _ _ _ _).alloc (by simp; omega) _).drew) hb1'; obtain ⟨hc1, hf1⟩ := bcell hb1'; have hz1 : w.heap.size + 3 < w1.heap.size := (by have := hb1'.size; simp at this; omega); simp only [vV])
  all_goals go_wp2_with fail
  all_goals refine bodyPost_ret (by simp [results, Tryz.results65, go_sem, hc1] <;> rfl) rfl ⟨rfl, ?_⟩
  all_goals exact ((hb1.setCell (by simp; omega) _).setCell (by simp; omega) _).setCell (by simp; omega) _

end Go.Proofs.YtfkcaldjphakpaaGreatDoor
