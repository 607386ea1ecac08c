/- Op.Join: operator 5. Op.Join: operator 6. Op.Join: operator 7. Op.Join: operator 8. Op.Join: operator 9. Op.Join: operator 10. Op.Join: operator 11. Op.Join: operator 12. Op.Join: operator 13. Op.Join: operator 16. Op.Join: operator 17. Op.Join: operator 18. Op.Join: operator 19. Op.Join: operator none. All of Join but for the signs. -/
import Derived.Test.YtfkcaldjphakpabGreatDoorM16
import Derived.Deep.RegionWith
namespace Go.Proofs.YtfkcaldjphakpabGreatDoor
open Go.RowKit

section
set_option maxHeartbeats 1000000 in
set_option maxRecDepth 100000 in
theorem join_5 (x y : V) : JoinOk 5 x y (notV x) := by
  intro w
  have CON := hide (fun w => vNot_any x w)
  conv => arg 3; simp only [vV]
  go_enter Tryz.func106, Tryz.ntmps106
  repeat ((fail_if_success (with_reducible refine wp_exit ?_)); go_step)
  with_reducible refine wp_exit ?_
  repeat (first | (with_reducible refine then_exit ?_) | (with_reducible refine inBlock_same ?_) | ((with_reducible refine inBlock_other ?hne ?_); (case hne => rfl)))
  with_reducible refine then_normal ?_
  go_wp2_with (go_at_call 148; refine (unhide CON _).mono ?_; rintro e w1 ⟨rfl, hb1⟩; obtain ⟨hc1, hf1⟩ := bcell hb1; have hz1 : w.heap.size + 2 < w1.heap.size := (by have := hb1.size; simp at this; omega); simp only [vV])
  refine bodyPost_ret (by simp [results, Tryz.results106, go_sem, hc1] <;> rfl) rfl ⟨rfl, ?_⟩
  exact ((((below_any (below3 _ _ _ _) hb1).setCell (by simp; omega) _).setCell (by simp; omega) _).setCell (by simp; omega) _)
end

section
set_option maxHeartbeats 1000000 in
set_option maxRecDepth 100000 in
theorem join_6 (x y : V) : JoinOk 6 x y (andV x y) := by
  intro w
  have CON := hide (fun w => vAnd_any x y w)
  conv => arg 3; simp only [vV]
  go_enter Tryz.func106, Tryz.ntmps106
  repeat ((fail_if_success (with_reducible refine wp_exit ?_)); go_step)
  with_reducible refine wp_exit ?_
  repeat (first | (with_reducible refine then_exit ?_) | (with_reducible refine inBlock_same ?_) | ((with_reducible refine inBlock_other ?hne ?_); (case hne => rfl)))
  with_reducible refine then_normal ?_
  go_wp2_with (go_at_call 149; refine (unhide CON _).mono ?_; rintro e w1 ⟨rfl, hb1⟩; obtain ⟨hc1, hf1⟩ := bcell hb1; have hz1 : w.heap.size + 2 < w1.heap.size := (by have := hb1.size; simp at this; omega); simp only [vV])
  refine bodyPost_ret (by simp [results, Tryz.results106, go_sem, hc1] <;> rfl) rfl ⟨rfl, ?_⟩
  exact ((((below_any (below3 _ _ _ _) hb1).setCell (by simp; omega) _).setCell (by simp; omega) _).setCell (by simp; omega) _)
end

section
set_option maxHeartbeats 1000000 in
set_option maxRecDepth 100000 in
theorem join_7 (x y : V) : JoinOk 7 x y (orV x y) := by
  intro w
  have CON := hide (fun w => vOr_any x y w)
  conv => arg 3; simp only [vV]
  go_enter Tryz.func106, Tryz.ntmps106
  repeat ((fail_if_success (with_reducible refine wp_exit ?_)); go_step)
  with_reducible refine wp_exit ?_
  repeat (first | (with_reducible refine then_exit ?_) | (with_reducible refine inBlock_same ?_) | ((with_reducible refine inBlock_other ?hne ?_); (case hne => rfl)))
  with_reducible refine then_normal ?_
  go_wp2_with (go_at_call 150; refine (unhide CON _).mono ?_; rintro e w1 ⟨rfl, hb1⟩; obtain ⟨hc1, hf1⟩ := bcell hb1; have hz1 : w.heap.size + 2 < w1.heap.size := (by have := hb1.size; simp at this; omega); simp only [vV])
  refine bodyPost_ret (by simp [results, Tryz.results106, go_sem, hc1] <;> rfl) rfl ⟨rfl, ?_⟩
  exact ((((below_any (below3 _ _ _ _) hb1).setCell (by simp; omega) _).setCell (by simp; omega) _).setCell (by simp; omega) _)
end

section
set_option maxHeartbeats 1000000 in
set_option maxRecDepth 100000 in
theorem join_8 (x y : V) : JoinOk 8 x y (eqV x y) := by
  intro w
  have CON := hide (fun w => vEqual_any x y w)
  conv => arg 3; simp only [vV]
  go_enter Tryz.func106, Tryz.ntmps106
  repeat ((fail_if_success (with_reducible refine wp_exit ?_)); go_step)
  with_reducible refine wp_exit ?_
  repeat (first | (with_reducible refine then_exit ?_) | (with_reducible refine inBlock_same ?_) | ((with_reducible refine inBlock_other ?hne ?_); (case hne => rfl)))
  with_reducible refine then_normal ?_
  go_wp2_with (go_at_call 151; refine (unhide CON _).mono ?_; rintro e w1 ⟨rfl, hb1⟩; obtain ⟨hc1, hf1⟩ := bcell hb1; have hz1 : w.heap.size + 2 < w1.heap.size := (by have := hb1.size; simp at this; omega); simp only [vV])
  refine bodyPost_ret (by simp [results, Tryz.results106, go_sem, hc1] <;> rfl) rfl ⟨rfl, ?_⟩
  exact ((((below_any (below3 _ _ _ _) hb1).setCell (by simp; omega) _).setCell (by simp; omega) _).setCell (by simp; omega) _)
end

section
set_option maxHeartbeats 1000000 in
set_option maxRecDepth 100000 in
theorem join_9 (x y : V) : JoinOk 9 x y (notV (eqV x y)) := by
  intro w
  have CON := hide (fun w => vEqual_any x y w)
  have CON2 := hide (fun w => vNot_any (eqV x y) w)
  conv => arg 3; simp only [vV]
  go_enter Tryz.func106, Tryz.ntmps106
  repeat ((fail_if_success (with_reducible refine wp_exit ?_)); go_step)
  with_reducible refine wp_exit ?_
  repeat (first | (with_reducible refine then_exit ?_) | (with_reducible refine inBlock_same ?_) | ((with_reducible refine inBlock_other ?hne ?_); (case hne => rfl)))
  with_reducible refine then_normal ?_
  go_wp2_with (first | (go_at_call 151; refine (unhide CON _).mono ?_; rintro e w0 ⟨rfl, hb0⟩) | (go_at_call 148; refine (unhide CON2 _).mono ?_; rintro e w1 ⟨rfl, hb1'⟩; have hb1 := below_any hb0 hb1'; obtain ⟨hc1, hf1⟩ := bcell hb1; have hz1 : w.heap.size + 2 < w1.heap.size := (by have := hb1.size; simp at this; omega); simp only [vV]))
  refine bodyPost_ret (by simp [results, Tryz.results106, go_sem, hc1] <;> rfl) rfl ⟨rfl, ?_⟩
  exact ((((below_any (below3 _ _ _ _) hb1).setCell (by simp; omega) _).setCell (by simp; omega) _).setCell (by simp; omega) _)
end

section
set_option maxHeartbeats 1000000 in
set_option maxRecDepth 100000 in
theorem join_10 (x y : V) : JoinOk 10 x y (lessV x y) := by
  intro w
  have CON := hide (fun w => vLess_any x y w)
  conv => arg 3; simp only [vV]
  go_enter Tryz.func106, Tryz.ntmps106
  repeat ((fail_if_success (with_reducible refine wp_exit ?_)); go_step)
  with_reducible refine wp_exit ?_
  repeat (first | (with_reducible refine then_exit ?_) | (with_reducible refine inBlock_same ?_) | ((with_reducible refine inBlock_other ?hne ?_); (case hne => rfl)))
  with_reducible refine then_normal ?_
  go_wp2_with (go_at_call 152; refine (unhide CON _).mono ?_; rintro e w1 ⟨rfl, hb1⟩; obtain ⟨hc1, hf1⟩ := bcell hb1; have hz1 : w.heap.size + 2 < w1.heap.size := (by have := hb1.size; simp at this; omega); simp only [vV])
  refine bodyPost_ret (by simp [results, Tryz.results106, go_sem, hc1] <;> rfl) rfl ⟨rfl, ?_⟩
  exact ((((below_any (below3 _ _ _ _) hb1).setCell (by simp; omega) _).setCell (by simp; omega) _).setCell (by simp; omega) _)
end

section
set_option maxHeartbeats 1000000 in
set_option maxRecDepth 100000 in
theorem join_11 (x y : V) : JoinOk 11 x y (leV x y) := by
  intro w
  have CON := hide (fun w => vLessEqual_any x y w)
  conv => arg 3; simp only [vV]
  go_enter Tryz.func106, Tryz.ntmps106
  repeat ((fail_if_success (with_reducible refine wp_exit ?_)); go_step)
  with_reducible refine wp_exit ?_
  repeat (first | (with_reducible refine then_exit ?_) | (with_reducible refine inBlock_same ?_) | ((with_reducible refine inBlock_other ?hne ?_); (case hne => rfl)))
  with_reducible refine then_normal ?_
  go_wp2_with (go_at_call 153; refine (unhide CON _).mono ?_; rintro e w1 ⟨rfl, hb1⟩; obtain ⟨hc1, hf1⟩ := bcell hb1; have hz1 : w.heap.size + 2 < w1.heap.size := (by have := hb1.size; simp at this; omega); simp only [vV])
  refine bodyPost_ret (by simp [results, Tryz.results106, go_sem, hc1] <;> rfl) rfl ⟨rfl, ?_⟩
  exact ((((below_any (below3 _ _ _ _) hb1).setCell (by simp; omega) _).setCell (by simp; omega) _).setCell (by simp; omega) _)
end

section
set_option maxHeartbeats 1000000 in
set_option maxRecDepth 100000 in
theorem join_12 (x y : V) : JoinOk 12 x y (lessV y x) := by
  intro w
  have CON := hide (fun w => vLess_any y x w)
  conv => arg 3; simp only [vV]
  go_enter Tryz.func106, Tryz.ntmps106
  repeat ((fail_if_success (with_reducible refine wp_exit ?_)); go_step)
  with_reducible refine wp_exit ?_
  repeat (first | (with_reducible refine then_exit ?_) | (with_reducible refine inBlock_same ?_) | ((with_reducible refine inBlock_other ?hne ?_); (case hne => rfl)))
  with_reducible refine then_normal ?_
  go_wp2_with (go_at_call 152; refine (unhide CON _).mono ?_; rintro e w1 ⟨rfl, hb1⟩; obtain ⟨hc1, hf1⟩ := bcell hb1; have hz1 : w.heap.size + 2 < w1.heap.size := (by have := hb1.size; simp at this; omega); simp only [vV])
  refine bodyPost_ret (by simp [results, Tryz.results106, go_sem, hc1] <;> rfl) rfl ⟨rfl, ?_⟩
  exact ((((below_any (below3 _ _ _ _) hb1).setCell (by simp; omega) _).setCell (by simp; omega) _).setCell (by simp; omega) _)
end

section
set_option maxHeartbeats 1000000 in
set_option maxRecDepth 100000 in
theorem join_13 (x y : V) : JoinOk 13 x y (leV y x) := by
  intro w
  have CON := hide (fun w => vLessEqual_any y x w)
  conv => arg 3; simp only [vV]
  go_enter Tryz.func106, Tryz.ntmps106
  repeat ((fail_if_success (with_reducible refine wp_exit ?_)); go_step)
  with_reducible refine wp_exit ?_
  repeat (first | (with_reducible refine then_exit ?_) | (with_reducible refine inBlock_same ?_) | ((with_reducible refine inBlock_other ?hne ?_); (case hne => rfl)))
  with_reducible refine then_normal ?_
  go_wp2_with (go_at_call 153; refine (unhide CON _).mono ?_; rintro e w1 ⟨rfl, hb1⟩; obtain ⟨hc1, hf1⟩ := bcell hb1; have hz1 : w.heap.size + 2 < w1.heap.size := (by have := hb1.size; simp at this; omega); simp only [vV])
  refine bodyPost_ret (by simp [results, Tryz.results106, go_sem, hc1] <;> rfl) rfl ⟨rfl, ?_⟩
  exact ((((below_any (below3 _ _ _ _) hb1).setCell (by simp; omega) _).setCell (by simp; omega) _).setCell (by simp; omega) _)
end

section
set_option maxHeartbeats 1000000 in
set_option maxRecDepth 100000 in
theorem join_16 (x y : V) (hx : Rng x.num) (hy : Rng y.num) : JoinOk 16 x y (addV x y) := by
  intro w
  have CON := hide (fun w => vAdd_any x y hx hy w)
  conv => arg 3; simp only [vV]
  go_enter Tryz.func106, Tryz.ntmps106
  repeat ((fail_if_success (with_reducible refine wp_exit ?_)); go_step)
  with_reducible refine wp_exit ?_
  repeat (first | (with_reducible refine then_exit ?_) | (with_reducible refine inBlock_same ?_) | ((with_reducible refine inBlock_other ?hne ?_); (case hne => rfl)))
  with_reducible refine then_normal ?_
  go_wp2_with (go_at_call 154; refine (unhide CON _).mono ?_; rintro e w1 ⟨rfl, hb1⟩; obtain ⟨hc1, hf1⟩ := bcell hb1; have hz1 : w.heap.size + 2 < w1.heap.size := (by have := hb1.size; simp at this; omega); simp only [vV])
  refine bodyPost_ret (by simp [results, Tryz.results106, go_sem, hc1] <;> rfl) rfl ⟨rfl, ?_⟩
  exact ((((below_any (below3 _ _ _ _) hb1).setCell (by simp; omega) _).setCell (by simp; omega) _).setCell (by simp; omega) _)
end

section
set_option maxHeartbeats 1000000 in
set_option maxRecDepth 100000 in
theorem join_17 (x y : V) (hx : Rng x.num) (hy : Rng y.num) : JoinOk 17 x y (subV x y) := by
  intro w
  have CON := hide (fun w => vSubtract_any x y hx hy w)
  conv => arg 3; simp only [vV]
  go_enter Tryz.func106, Tryz.ntmps106
  repeat ((fail_if_success (with_reducible refine wp_exit ?_)); go_step)
  with_reducible refine wp_exit ?_
  repeat (first | (with_reducible refine then_exit ?_) | (with_reducible refine inBlock_same ?_) | ((with_reducible refine inBlock_other ?hne ?_); (case hne => rfl)))
  with_reducible refine then_normal ?_
  go_wp2_with (go_at_call 155; refine (unhide CON _).mono ?_; rintro e w1 ⟨rfl, hb1⟩; obtain ⟨hc1, hf1⟩ := bcell hb1; have hz1 : w.heap.size + 2 < w1.heap.size := (by have := hb1.size; simp at this; omega); simp only [vV])
  refine bodyPost_ret (by simp [results, Tryz.results106, go_sem, hc1] <;> rfl) rfl ⟨rfl, ?_⟩
  exact ((((below_any (below3 _ _ _ _) hb1).setCell (by simp; omega) _).setCell (by simp; omega) _).setCell (by simp; omega) _)
end

section
set_option maxHeartbeats 1000000 in
set_option maxRecDepth 100000 in
theorem join_18 (x y : V) (hx : Rng x.num) (hy : Rng y.num) : JoinOk 18 x y (mulV x y) := by
  intro w
  have CON := hide (fun w => vMultiply_any x y hx hy w)
  conv => arg 3; simp only [vV]
  go_enter Tryz.func106, Tryz.ntmps106
  repeat ((fail_if_success (with_reducible refine wp_exit ?_)); go_step)
  with_reducible refine wp_exit ?_
  repeat (first | (with_reducible refine then_exit ?_) | (with_reducible refine inBlock_same ?_) | ((with_reducible refine inBlock_other ?hne ?_); (case hne => rfl)))
  with_reducible refine then_normal ?_
  go_wp2_with (go_at_call 156; refine (unhide CON _).mono ?_; rintro e w1 ⟨rfl, hb1⟩; obtain ⟨hc1, hf1⟩ := bcell hb1; have hz1 : w.heap.size + 2 < w1.heap.size := (by have := hb1.size; simp at this; omega); simp only [vV])
  refine bodyPost_ret (by simp [results, Tryz.results106, go_sem, hc1] <;> rfl) rfl ⟨rfl, ?_⟩
  exact ((((below_any (below3 _ _ _ _) hb1).setCell (by simp; omega) _).setCell (by simp; omega) _).setCell (by simp; omega) _)
end

section
set_option maxHeartbeats 1000000 in
set_option maxRecDepth 100000 in
theorem join_19 (x y : V) (hx : Rng x.num) : JoinOk 19 x y (divV x y) := by
  intro w
  have CON := hide (fun w => vDivide_any x y hx w)
  conv => arg 3; simp only [vV]
  go_enter Tryz.func106, Tryz.ntmps106
  repeat ((fail_if_success (with_reducible refine wp_exit ?_)); go_step)
  with_reducible refine wp_exit ?_
  repeat (first | (with_reducible refine then_exit ?_) | (with_reducible refine inBlock_same ?_) | ((with_reducible refine inBlock_other ?hne ?_); (case hne => rfl)))
  with_reducible refine then_normal ?_
  go_wp2_with (go_at_call 157; refine (unhide CON _).mono ?_; rintro e w1 ⟨rfl, hb1⟩; obtain ⟨hc1, hf1⟩ := bcell hb1; have hz1 : w.heap.size + 2 < w1.heap.size := (by have := hb1.size; simp at this; omega); simp only [vV])
  refine bodyPost_ret (by simp [results, Tryz.results106, go_sem, hc1] <;> rfl) rfl ⟨rfl, ?_⟩
  exact ((((below_any (below3 _ _ _ _) hb1).setCell (by simp; omega) _).setCell (by simp; omega) _).setCell (by simp; omega) _)
end

section
set_option maxHeartbeats 1000000 in
set_option maxRecDepth 100000 in
theorem join_none (op : Int) (x y : V) (h5 : ¬ op = 5) (h6 : ¬ op = 6) (h7 : ¬ op = 7) (h8 : ¬ op = 8) (h9 : ¬ op = 9) (h12 : ¬ op = 12) (h10 : ¬ op = 10) (h13 : ¬ op = 13) (h11 : ¬ op = 11) (h14 : ¬ op = 14) (h16 : ¬ op = 16) (h15 : ¬ op = 15) (h17 : ¬ op = 17) (h18 : ¬ op = 18) (h19 : ¬ op = 19) : JoinOk op x y (bV (x.kind == 0)) := by
  intro w
  have CON := hide (fun w => vIsNull_any x w)
  have e5 : (op == 5) = false := beq_eq_false_iff_ne.2 h5
  have e6 : (op == 6) = false := beq_eq_false_iff_ne.2 h6
  have e7 : (op == 7) = false := beq_eq_false_iff_ne.2 h7
  have e8 : (op == 8) = false := beq_eq_false_iff_ne.2 h8
  have e9 : (op == 9) = false := beq_eq_false_iff_ne.2 h9
  have e12 : (op == 12) = false := beq_eq_false_iff_ne.2 h12
  have e10 : (op == 10) = false := beq_eq_false_iff_ne.2 h10
  have e13 : (op == 13) = false := beq_eq_false_iff_ne.2 h13
  have e11 : (op == 11) = false := beq_eq_false_iff_ne.2 h11
  have e14 : (op == 14) = false := beq_eq_false_iff_ne.2 h14
  have e16 : (op == 16) = false := beq_eq_false_iff_ne.2 h16
  have e15 : (op == 15) = false := beq_eq_false_iff_ne.2 h15
  have e17 : (op == 17) = false := beq_eq_false_iff_ne.2 h17
  have e18 : (op == 18) = false := beq_eq_false_iff_ne.2 h18
  have e19 : (op == 19) = false := beq_eq_false_iff_ne.2 h19
  clear h5 h6 h7 h8 h9 h12 h10 h13 h11 h14 h16 h15 h17 h18 h19
  obtain ⟨r, hr⟩ : ∃ r, bV (x.kind == 0) = r := ⟨_, rfl⟩
  rw [hr] at CON ⊢
  clear hr
  conv => arg 3; simp only [vV]
  go_enter Tryz.func106, Tryz.ntmps106
  repeat ((fail_if_success (with_reducible refine wp_exit ?_)); go_step)
  with_reducible refine wp_exit ?_
  repeat (first | (with_reducible refine then_exit ?_) | (with_reducible refine inBlock_same ?_) | ((with_reducible refine inBlock_other ?hne ?_); (case hne => rfl)))
  with_reducible refine then_normal ?_
  go_wp2_with (go_at_call 158; refine (unhide CON _).mono ?_; rintro e w1 ⟨rfl, hb1⟩; obtain ⟨hc1, hf1⟩ := bcell hb1; have hz1 : w.heap.size + 2 < w1.heap.size := (by have := hb1.size; simp at this; omega); simp only [vV])
  refine bodyPost_ret (by simp [results, Tryz.results106, go_sem, hc1] <;> rfl) rfl ⟨rfl, ?_⟩
  exact ((((below_any (below3 _ _ _ _) hb1).setCell (by simp; omega) _).setCell (by simp; omega) _).setCell (by simp; omega) _)
end

section
theorem join_all (op : Int) (h14 : ¬ op = 14) (h15 : ¬ op = 15) (x y : V) (hx : Rng x.num) (hy : Rng y.num) : JoinOk op x y (joinV op x y) := by
  by_cases h5 : op = 5
  · subst h5; exact join_5 x y
  by_cases h6 : op = 6
  · subst h6; exact join_6 x y
  by_cases h7 : op = 7
  · subst h7; exact join_7 x y
  by_cases h8 : op = 8
  · subst h8; exact join_8 x y
  by_cases h9 : op = 9
  · subst h9; exact join_9 x y
  by_cases h12 : op = 12
  · subst h12; exact join_12 x y
  by_cases h10 : op = 10
  · subst h10; exact join_10 x y
  by_cases h13 : op = 13
  · subst h13; exact join_13 x y
  by_cases h11 : op = 11
  · subst h11; exact join_11 x y
  by_cases h16 : op = 16
  · subst h16; exact join_16 x y hx hy
  by_cases h17 : op = 17
  · subst h17; exact join_17 x y hx hy
  by_cases h18 : op = 18
  · subst h18; exact join_18 x y hx hy
  by_cases h19 : op = 19
  · subst h19; exact join_19 x y hx
  have hr : joinV op x y = bV (x.kind == 0) := by
    rw [joinV, if_neg h5, if_neg h6, if_neg h7, if_neg h8, if_neg h9, if_neg h12, if_neg h10, if_neg h13, if_neg h11, if_neg h14, if_neg h16, if_neg h15, if_neg h17, if_neg h18, if_neg h19]
  rw [hr]
  exact join_none op x y h5 h6 h7 h8 h9 h12 h10 h13 h11 h14 h16 h15 h17 h18 h19
end

end Go.Proofs.YtfkcaldjphakpabGreatDoor
