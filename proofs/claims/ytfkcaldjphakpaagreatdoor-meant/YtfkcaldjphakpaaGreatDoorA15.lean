/- Op.Join: operator 5. Op.Join: operator 7. Op.Join: operator 8. Op.Join: operator 9. Op.Join: operator 18. Op.Join: operator 19. A block that is left at its end. The world behind x, y = Int(0), x. Op.Join: operator 14. Op.Join: operator 15. -/
import Derived.Test.YtfkcaldjphakpaaGreatDoorA08
import Derived.Deep.RegionWith
namespace Go.Proofs.YtfkcaldjphakpaaGreatDoor
open Go.RowKit

section
set_option maxHeartbeats 1000000 in
set_option maxRecDepth 100000 in
theorem join_5 (x y : V) : JoinOk 5 x y (notV x) := by
  intro w
  have CON := hide (fun w => vNot_any x w)
  conv => arg 3; simp only [vV]
  go_enter Tryz.func110, Tryz.ntmps110
  repeat ((fail_if_success (with_reducible refine wp_exit ?_)); go_step)
  with_reducible refine wp_exit ?_
  repeat (first | (with_reducible refine then_exit ?_) | (with_reducible refine inBlock_same ?_) | ((with_reducible refine inBlock_other ?hne ?_); (case hne => rfl)))
  with_reducible refine then_normal ?_
  go_wp2_with (go_at_call 157; refine (unhide CON _).mono ?_; rintro e w1 ⟨rfl, hb1⟩; obtain ⟨hc1, hf1⟩ := bcell hb1; have hz1 : w.heap.size + 2 < w1.heap.size := (by have := hb1.size; simp at this; omega); simp only [vV])
  refine bodyPost_ret (by simp [results, Tryz.results110, go_sem, hc1] <;> rfl) rfl ⟨rfl, ?_⟩
  exact ((((below_any (below3 _ _ _ _) hb1).setCell (by simp; omega) _).setCell (by simp; omega) _).setCell (by simp; omega) _)
end

section
set_option maxHeartbeats 1000000 in
set_option maxRecDepth 100000 in
theorem join_7 (x y : V) : JoinOk 7 x y (orV x y) := by
  intro w
  have CON := hide (fun w => vOr_any x y w)
  conv => arg 3; simp only [vV]
  go_enter Tryz.func110, Tryz.ntmps110
  repeat ((fail_if_success (with_reducible refine wp_exit ?_)); go_step)
  with_reducible refine wp_exit ?_
  repeat (first | (with_reducible refine then_exit ?_) | (with_reducible refine inBlock_same ?_) | ((with_reducible refine inBlock_other ?hne ?_); (case hne => rfl)))
  with_reducible refine then_normal ?_
  go_wp2_with (go_at_call 154; refine (unhide CON _).mono ?_; rintro e w1 ⟨rfl, hb1⟩; obtain ⟨hc1, hf1⟩ := bcell hb1; have hz1 : w.heap.size + 2 < w1.heap.size := (by have := hb1.size; simp at this; omega); simp only [vV])
  refine bodyPost_ret (by simp [results, Tryz.results110, go_sem, hc1] <;> rfl) rfl ⟨rfl, ?_⟩
  exact ((((below_any (below3 _ _ _ _) hb1).setCell (by simp; omega) _).setCell (by simp; omega) _).setCell (by simp; omega) _)
end

section
set_option maxHeartbeats 1000000 in
set_option maxRecDepth 100000 in
theorem join_8 (x y : V) : JoinOk 8 x y (eqV x y) := by
  intro w
  have CON := hide (fun w => vEqual_any x y w)
  conv => arg 3; simp only [vV]
  go_enter Tryz.func110, Tryz.ntmps110
  repeat ((fail_if_success (with_reducible refine wp_exit ?_)); go_step)
  with_reducible refine wp_exit ?_
  repeat (first | (with_reducible refine then_exit ?_) | (with_reducible refine inBlock_same ?_) | ((with_reducible refine inBlock_other ?hne ?_); (case hne => rfl)))
  with_reducible refine then_normal ?_
  go_wp2_with (go_at_call 155; refine (unhide CON _).mono ?_; rintro e w1 ⟨rfl, hb1⟩; obtain ⟨hc1, hf1⟩ := bcell hb1; have hz1 : w.heap.size + 2 < w1.heap.size := (by have := hb1.size; simp at this; omega); simp only [vV])
  refine bodyPost_ret (by simp [results, Tryz.results110, go_sem, hc1] <;> rfl) rfl ⟨rfl, ?_⟩
  exact ((((below_any (below3 _ _ _ _) hb1).setCell (by simp; omega) _).setCell (by simp; omega) _).setCell (by simp; omega) _)
end

section
set_option maxHeartbeats 1000000 in
set_option maxRecDepth 100000 in
theorem join_9 (x y : V) : JoinOk 9 x y (notV (eqV x y)) := by
  intro w
  have CON := hide (fun w => vEqual_any x y w)
  have CON2 := hide (fun w => vNot_any (eqV x y) w)
  conv => arg 3; simp only [vV]
  go_enter Tryz.func110, Tryz.ntmps110
  repeat ((fail_if_success (with_reducible refine wp_exit ?_)); go_step)
  with_reducible refine wp_exit ?_
  repeat (first | (with_reducible refine then_exit ?_) | (with_reducible refine inBlock_same ?_) | ((with_reducible refine inBlock_other ?hne ?_); (case hne => rfl)))
  with_reducible refine then_normal ?_
  go_wp2_with (first | (go_at_call 155; refine (unhide CON _).mono ?_; rintro e w0 ⟨rfl, hb0⟩) | (go_at_call 157; refine (unhide CON2 _).mono ?_; rintro e w1 ⟨rfl, hb1'⟩; have hb1 := below_any hb0 hb1'; obtain ⟨hc1, hf1⟩ := bcell hb1; have hz1 : w.heap.size + 2 < w1.heap.size := (by have := hb1.size; simp at this; omega); simp only [vV]))
  refine bodyPost_ret (by simp [results, Tryz.results110, go_sem, hc1] <;> rfl) rfl ⟨rfl, ?_⟩
  exact ((((below_any (below3 _ _ _ _) hb1).setCell (by simp; omega) _).setCell (by simp; omega) _).setCell (by simp; omega) _)
end

section
set_option maxHeartbeats 1000000 in
set_option maxRecDepth 100000 in
theorem join_18 (x y : V) (hx : Rng x.num) (hy : Rng y.num) : JoinOk 18 x y (mulV x y) := by
  intro w
  have CON := hide (fun w => vMultiply_any x y hx hy w)
  conv => arg 3; simp only [vV]
  go_enter Tryz.func110, Tryz.ntmps110
  repeat ((fail_if_success (with_reducible refine wp_exit ?_)); go_step)
  with_reducible refine wp_exit ?_
  repeat (first | (with_reducible refine then_exit ?_) | (with_reducible refine inBlock_same ?_) | ((with_reducible refine inBlock_other ?hne ?_); (case hne => rfl)))
  with_reducible refine then_normal ?_
  go_wp2_with (go_at_call 161; refine (unhide CON _).mono ?_; rintro e w1 ⟨rfl, hb1⟩; obtain ⟨hc1, hf1⟩ := bcell hb1; have hz1 : w.heap.size + 2 < w1.heap.size := (by have := hb1.size; simp at this; omega); simp only [vV])
  refine bodyPost_ret (by simp [results, Tryz.results110, go_sem, hc1] <;> rfl) rfl ⟨rfl, ?_⟩
  exact ((((below_any (below3 _ _ _ _) hb1).setCell (by simp; omega) _).setCell (by simp; omega) _).setCell (by simp; omega) _)
end

section
set_option maxHeartbeats 1000000 in
set_option maxRecDepth 100000 in
theorem join_19 (x y : V) (hx : Rng x.num) : JoinOk 19 x y (divV x y) := by
  intro w
  have CON := hide (fun w => vDivide_any x y hx w)
  conv => arg 3; simp only [vV]
  go_enter Tryz.func110, Tryz.ntmps110
  repeat ((fail_if_success (with_reducible refine wp_exit ?_)); go_step)
  with_reducible refine wp_exit ?_
  repeat (first | (with_reducible refine then_exit ?_) | (with_reducible refine inBlock_same ?_) | ((with_reducible refine inBlock_other ?hne ?_); (case hne => rfl)))
  with_reducible refine then_normal ?_
  go_wp2_with (go_at_call 162; refine (unhide CON _).mono ?_; rintro e w1 ⟨rfl, hb1⟩; obtain ⟨hc1, hf1⟩ := bcell hb1; have hz1 : w.heap.size + 2 < w1.heap.size := (by have := hb1.size; simp at this; omega); simp only [vV])
  refine bodyPost_ret (by simp [results, Tryz.results110, go_sem, hc1] <;> rfl) rfl ⟨rfl, ?_⟩
  exact ((((below_any (below3 _ _ _ _) hb1).setCell (by simp; omega) _).setCell (by simp; omega) _).setCell (by simp; omega) _)
end

section
theorem inBlock_normal {id : Nat} {Q : Exit → Act → World → Prop} {a : Act} {w : World} (h : Q .normal a w) : Exit.inBlock id Q .normal a w := h
end

section
structure SignAt (w W2 : World) (x : V) : Prop where
  a0 : W2.cell? ⟨w.heap.size, 0, none⟩ = some (.int .i64 (iV 0).kind)
  a1 : W2.cell? ⟨w.heap.size, 1, none⟩ = some (.int .i64 (iV 0).num)
  a2 : W2.cell? ⟨w.heap.size, 2, none⟩ = some (.string (BS (iV 0).str))
  b0 : W2.cell? ⟨w.heap.size + 1, 0, none⟩ = some (.int .i64 x.kind)
  b1 : W2.cell? ⟨w.heap.size + 1, 1, none⟩ = some (.int .i64 x.num)
  b2 : W2.cell? ⟨w.heap.size + 1, 2, none⟩ = some (.string (BS x.str))
  r0 : W2.cell? ⟨w.heap.size + 2, 0, none⟩ = some (.int .i64 0)
  r1 : W2.cell? ⟨w.heap.size + 2, 1, none⟩ = some (.int .i64 0)
  r2 : W2.cell? ⟨w.heap.size + 2, 2, none⟩ = some (.string ⟨#[]⟩)
  fz : ∀ j, W2.frozen? ⟨w.heap.size + 2, j, none⟩ = false
  lt : w.heap.size + 2 < W2.heap.size
  below : Below w.heap.size w W2

theorem sign_world (w w0 W2 : World) (x y : V) (hb : Below ((((w.alloc (.cells #[.int .i64 x.kind, .int .i64 x.num, .string (BS x.str)] 26)).alloc (.cells #[.int .i64 y.kind, .int .i64 y.num, .string (BS y.str)] 26)).alloc (.cells #[.int .i64 0, .int .i64 0, .string ⟨#[]⟩] 26)).drew).heap.size ((((w.alloc (.cells #[.int .i64 x.kind, .int .i64 x.num, .string (BS x.str)] 26)).alloc (.cells #[.int .i64 y.kind, .int .i64 y.num, .string (BS y.str)] 26)).alloc (.cells #[.int .i64 0, .int .i64 0, .string ⟨#[]⟩] 26)).drew) w0) (h2 : ((((((w0.setCell ⟨w.heap.size, 0, none⟩ (.int .i64 (iV 0).kind)).setCell ⟨w.heap.size, 1, none⟩ (.int .i64 (iV 0).num)).setCell ⟨w.heap.size, 2, none⟩ (.string (BS (iV 0).str))).setCell ⟨w.heap.size + 1, 0, none⟩ (.int .i64 x.kind)).setCell ⟨w.heap.size + 1, 1, none⟩ (.int .i64 x.num)).setCell ⟨w.heap.size + 1, 2, none⟩ (.string (BS x.str))) = W2) : SignAt w W2 x := by
  subst h2
  have hz := hb.size
  simp at hz
  obtain ⟨hc, hf⟩ := bcell hb
  have x0 := (hc w.heap.size 0 (by simp; omega)).trans (show _ = some (.int .i64 x.kind) by rw [World.cell?_drew, World.cell?_alloc_past _ _ _ (by simp; omega), World.cell?_alloc_past _ _ _ (by simp), World.cell?_alloc_at _ _ _ _ rfl]; rfl)
  have x1 := (hc w.heap.size 1 (by simp; omega)).trans (show _ = some (.int .i64 x.num) by rw [World.cell?_drew, World.cell?_alloc_past _ _ _ (by simp; omega), World.cell?_alloc_past _ _ _ (by simp), World.cell?_alloc_at _ _ _ _ rfl]; rfl)
  have x2 := (hc w.heap.size 2 (by simp; omega)).trans (show _ = some (.string (BS x.str)) by rw [World.cell?_drew, World.cell?_alloc_past _ _ _ (by simp; omega), World.cell?_alloc_past _ _ _ (by simp), World.cell?_alloc_at _ _ _ _ rfl]; rfl)
  have y0 := (hc (w.heap.size + 1) 0 (by simp)).trans (show _ = some (.int .i64 y.kind) by rw [World.cell?_drew, World.cell?_alloc_past _ _ _ (by simp), World.cell?_alloc_at _ _ _ _ (by simp)]; rfl)
  have y1 := (hc (w.heap.size + 1) 1 (by simp)).trans (show _ = some (.int .i64 y.num) by rw [World.cell?_drew, World.cell?_alloc_past _ _ _ (by simp), World.cell?_alloc_at _ _ _ _ (by simp)]; rfl)
  have y2 := (hc (w.heap.size + 1) 2 (by simp)).trans (show _ = some (.string (BS y.str)) by rw [World.cell?_drew, World.cell?_alloc_past _ _ _ (by simp), World.cell?_alloc_at _ _ _ _ (by simp)]; rfl)
  have z0 := (hc (w.heap.size + 2) 0 (by simp)).trans (show _ = some (.int .i64 0) by rw [World.cell?_drew, World.cell?_alloc_at _ _ _ _ (by simp)]; rfl)
  have z1 := (hc (w.heap.size + 2) 1 (by simp)).trans (show _ = some (.int .i64 0) by rw [World.cell?_drew, World.cell?_alloc_at _ _ _ _ (by simp)]; rfl)
  have z2 := (hc (w.heap.size + 2) 2 (by simp)).trans (show _ = some (.string ⟨#[]⟩) by rw [World.cell?_drew, World.cell?_alloc_at _ _ _ _ (by simp)]; rfl)
  have zf : ∀ j, w0.frozen? ⟨w.heap.size + 2, j, none⟩ = false := fun j => (hf (w.heap.size + 2) j (by simp)).trans (by rw [World.frozen?_drew, World.frozen?_alloc_at _ _ _ _ (by simp)])
  refine ⟨?_, ?_, ?_, ?_, ?_, ?_, ?_, ?_, ?_, fun j => ?_, ?_, ?_⟩
  · simp [go_sem, x0]
  · simp [go_sem, x1]
  · simp [go_sem, x2]
  · simp [go_sem, y0]
  · simp [go_sem, y1]
  · simp [go_sem, y2]
  · simp [go_sem, z0]
  · simp [go_sem, z1]
  · simp [go_sem, z2]
  · simp [go_sem, zf]
  · simp; omega
  · exact (((((((below_any ((below3 w _ _ _).drew) hb).setCell (by simp) _).setCell (by simp) _).setCell (by simp) _).setCell (by simp) _).setCell (by simp) _).setCell (by simp) _)
end

section
set_option maxHeartbeats 1000000 in
set_option maxRecDepth 100000 in
theorem join_14 (x y : V) (hx : Rng x.num) : JoinOk 14 x y (addV (iV 0) x) := by
  intro w
  have CON := hide (fun w => vAdd_any (iV 0) x rng0 hx w)
  obtain ⟨r, hr⟩ : ∃ r, addV (iV 0) x = r := ⟨_, rfl⟩
  rw [hr] at CON ⊢
  clear hr hx
  conv => arg 3; simp only [vV]
  go_enter Tryz.func110, Tryz.ntmps110
  repeat ((fail_if_success (with_reducible refine wp_exit ?_)); go_step)
  with_reducible refine wp_exit ?_
  repeat (first | (with_reducible refine then_exit ?_) | (with_reducible refine inBlock_same ?_) | ((with_reducible refine inBlock_other ?hne ?_); (case hne => rfl)))
  with_reducible refine then_normal ?_
  go_wp2_with fail
  go_region_with (go_at_call 62; refine (vInt_any 0 _).mono ?_; rintro e w0 ⟨rfl, hb0⟩; obtain ⟨hc0, hf0⟩ := bcell hb0; have hz0 : w.heap.size + 2 < w0.heap.size := (by have := hb0.size; simp at this; omega); simp only [vV])
  all_goals (repeat (first | (with_reducible refine inBlock_normal ?_) | (with_reducible refine then_normal ?_)))
  all_goals
    generalize hW2 : World.setCell _ _ _ = W2
    have SG := hide (sign_world w w0 W2 x y hb0 hW2)
    obtain ⟨a0, a1, a2, b0, b1, b2, r0, r1, r2, fz, lt, bel⟩ := unhide SG
    clear hW2 hb0 hc0 hf0
    go_wp2_with (go_at_call 159; refine (unhide CON _).mono ?_; rintro e w1 ⟨rfl, hb1⟩; have s0 : w1.cell? ⟨w.heap.size + 2, 0, none⟩ = some (.int .i64 0) := ((bcell hb1).1 _ 0 lt).trans r0; have s1 : w1.cell? ⟨w.heap.size + 2, 1, none⟩ = some (.int .i64 0) := ((bcell hb1).1 _ 1 lt).trans r1; have s2 : w1.cell? ⟨w.heap.size + 2, 2, none⟩ = some (.string ⟨#[]⟩) := ((bcell hb1).1 _ 2 lt).trans r2; have f1 : ∀ j, w1.frozen? ⟨w.heap.size + 2, j, none⟩ = false := (fun j => ((bcell hb1).2 _ j lt).trans (fz j)); have hB1 := hide (below_any bel hb1); clear hb1; simp only [vV])
    refine bodyPost_ret (by simp [results, Tryz.results110, go_sem, s0, s1, s2] <;> rfl) rfl ⟨rfl, ?_⟩
    exact (((unhide hB1).setCell (by simp; omega) _).setCell (by simp; omega) _).setCell (by simp; omega) _
end

section
set_option maxHeartbeats 1000000 in
set_option maxRecDepth 100000 in
theorem join_15 (x y : V) (hx : Rng x.num) : JoinOk 15 x y (subV (iV 0) x) := by
  intro w
  have CON := hide (fun w => vSubtract_any (iV 0) x rng0 hx w)
  obtain ⟨r, hr⟩ : ∃ r, subV (iV 0) x = r := ⟨_, rfl⟩
  rw [hr] at CON ⊢
  clear hr hx
  conv => arg 3; simp only [vV]
  go_enter Tryz.func110, Tryz.ntmps110
  repeat ((fail_if_success (with_reducible refine wp_exit ?_)); go_step)
  with_reducible refine wp_exit ?_
  repeat (first | (with_reducible refine then_exit ?_) | (with_reducible refine inBlock_same ?_) | ((with_reducible refine inBlock_other ?hne ?_); (case hne => rfl)))
  with_reducible refine then_normal ?_
  go_wp2_with fail
  go_region_with (go_at_call 62; refine (vInt_any 0 _).mono ?_; rintro e w0 ⟨rfl, hb0⟩; obtain ⟨hc0, hf0⟩ := bcell hb0; have hz0 : w.heap.size + 2 < w0.heap.size := (by have := hb0.size; simp at this; omega); simp only [vV])
  all_goals (repeat (first | (with_reducible refine inBlock_normal ?_) | (with_reducible refine then_normal ?_)))
  all_goals
    generalize hW2 : World.setCell _ _ _ = W2
    have SG := hide (sign_world w w0 W2 x y hb0 hW2)
    obtain ⟨a0, a1, a2, b0, b1, b2, r0, r1, r2, fz, lt, bel⟩ := unhide SG
    clear hW2 hb0 hc0 hf0
    go_wp2_with (go_at_call 160; refine (unhide CON _).mono ?_; rintro e w1 ⟨rfl, hb1⟩; have s0 : w1.cell? ⟨w.heap.size + 2, 0, none⟩ = some (.int .i64 0) := ((bcell hb1).1 _ 0 lt).trans r0; have s1 : w1.cell? ⟨w.heap.size + 2, 1, none⟩ = some (.int .i64 0) := ((bcell hb1).1 _ 1 lt).trans r1; have s2 : w1.cell? ⟨w.heap.size + 2, 2, none⟩ = some (.string ⟨#[]⟩) := ((bcell hb1).1 _ 2 lt).trans r2; have f1 : ∀ j, w1.frozen? ⟨w.heap.size + 2, j, none⟩ = false := (fun j => ((bcell hb1).2 _ j lt).trans (fz j)); have hB1 := hide (below_any bel hb1); clear hb1; simp only [vV])
    refine bodyPost_ret (by simp [results, Tryz.results110, go_sem, s0, s1, s2] <;> rfl) rfl ⟨rfl, ?_⟩
    exact (((unhide hB1).setCell (by simp; omega) _).setCell (by simp; omega) _).setCell (by simp; omega) _
end

end Go.Proofs.YtfkcaldjphakpaaGreatDoor
