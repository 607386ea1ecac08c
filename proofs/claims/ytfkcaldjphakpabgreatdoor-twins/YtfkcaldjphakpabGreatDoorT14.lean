/- Op.Join: operator 9. Op.Join: operator 10. Op.Join: operator 11. Op.Join: operator 12. Op.Join: operator 13. Op.Join: operator 16. Op.Join: operator 17. Op.Join: operator 18. -/
import Derived.Test.YtfkcaldjphakpabGreatDoorT09
import Derived.Deep.RegionWith
namespace Go.Proofs.YtfkcaldjphakpabGreatDoor
open Go.RowKit
section
set_option maxHeartbeats 1000000 in
set_option maxRecDepth 100000 in
theorem join_9 (x y : V) : qj2 9 x y (notV (eqV x y)) := by
  intro w
  have CON := v6 (fun w => ve3 x y w)
  have CON2 := v6 (fun w => jq2 (eqV x y) w)
  conv => arg 3; simp only [vV]
  go_enter Tryz.func106, Tryz.ntmps106
  repeat ((fail_if_success (with_reducible refine wp_exit ?_)); go_step)
  with_reducible refine wp_exit ?_
  repeat (first | (with_reducible refine qd7 ?_) | (with_reducible refine qa2 ?_) | ((with_reducible refine y5 ?hne ?_); (case hne => rfl)))
  with_reducible refine qa3 ?_
  go_wp2_with (first | (go_at_call 151; refine (q9 CON _).mono ?_; rintro e w0 ⟨rfl, hb0⟩) | (go_at_call 148; refine (q9 CON2 _).mono ?_; rintro e w1 ⟨rfl, hb1'⟩; have hb1 := v7 hb0 hb1'; obtain ⟨hc1, hf1⟩ := j5 hb1; have hz1 : w.heap.size + 2 < w1.heap.size := (by have := hb1.size; simp at this; omega); simp only [vV]))
  refine bodyPost_ret (by simp [results, Tryz.results106, go_sem, hc1] <;> rfl) rfl ⟨rfl, ?_⟩
  exact ((((v7 (qb2 _ _ _ _) hb1).setCell (by simp; omega) _).setCell (by simp; omega) _).setCell (by simp; omega) _)
end
section
set_option maxHeartbeats 1000000 in
set_option maxRecDepth 100000 in
theorem join_10 (x y : V) : qj2 10 x y (vz0 x y) := by
  intro w
  have CON := v6 (fun w => jb7 x y w)
  conv => arg 3; simp only [vV]
  go_enter Tryz.func106, Tryz.ntmps106
  repeat ((fail_if_success (with_reducible refine wp_exit ?_)); go_step)
  with_reducible refine wp_exit ?_
  repeat (first | (with_reducible refine qd7 ?_) | (with_reducible refine qa2 ?_) | ((with_reducible refine y5 ?hne ?_); (case hne => rfl)))
  with_reducible refine qa3 ?_
  go_wp2_with (go_at_call 152; refine (q9 CON _).mono ?_; rintro e w1 ⟨rfl, hb1⟩; obtain ⟨hc1, hf1⟩ := j5 hb1; have hz1 : w.heap.size + 2 < w1.heap.size := (by have := hb1.size; simp at this; omega); simp only [vV])
  refine bodyPost_ret (by simp [results, Tryz.results106, go_sem, hc1] <;> rfl) rfl ⟨rfl, ?_⟩
  exact ((((v7 (qb2 _ _ _ _) hb1).setCell (by simp; omega) _).setCell (by simp; omega) _).setCell (by simp; omega) _)
end
section
set_option maxHeartbeats 1000000 in
set_option maxRecDepth 100000 in
theorem join_11 (x y : V) : qj2 11 x y (leV x y) := by
  intro w
  have CON := v6 (fun w => qk7 x y w)
  conv => arg 3; simp only [vV]
  go_enter Tryz.func106, Tryz.ntmps106
  repeat ((fail_if_success (with_reducible refine wp_exit ?_)); go_step)
  with_reducible refine wp_exit ?_
  repeat (first | (with_reducible refine qd7 ?_) | (with_reducible refine qa2 ?_) | ((with_reducible refine y5 ?hne ?_); (case hne => rfl)))
  with_reducible refine qa3 ?_
  go_wp2_with (go_at_call 153; refine (q9 CON _).mono ?_; rintro e w1 ⟨rfl, hb1⟩; obtain ⟨hc1, hf1⟩ := j5 hb1; have hz1 : w.heap.size + 2 < w1.heap.size := (by have := hb1.size; simp at this; omega); simp only [vV])
  refine bodyPost_ret (by simp [results, Tryz.results106, go_sem, hc1] <;> rfl) rfl ⟨rfl, ?_⟩
  exact ((((v7 (qb2 _ _ _ _) hb1).setCell (by simp; omega) _).setCell (by simp; omega) _).setCell (by simp; omega) _)
end
section
set_option maxHeartbeats 1000000 in
set_option maxRecDepth 100000 in
theorem join_12 (x y : V) : qj2 12 x y (vz0 y x) := by
  intro w
  have CON := v6 (fun w => jb7 y x w)
  conv => arg 3; simp only [vV]
  go_enter Tryz.func106, Tryz.ntmps106
  repeat ((fail_if_success (with_reducible refine wp_exit ?_)); go_step)
  with_reducible refine wp_exit ?_
  repeat (first | (with_reducible refine qd7 ?_) | (with_reducible refine qa2 ?_) | ((with_reducible refine y5 ?hne ?_); (case hne => rfl)))
  with_reducible refine qa3 ?_
  go_wp2_with (go_at_call 152; refine (q9 CON _).mono ?_; rintro e w1 ⟨rfl, hb1⟩; obtain ⟨hc1, hf1⟩ := j5 hb1; have hz1 : w.heap.size + 2 < w1.heap.size := (by have := hb1.size; simp at this; omega); simp only [vV])
  refine bodyPost_ret (by simp [results, Tryz.results106, go_sem, hc1] <;> rfl) rfl ⟨rfl, ?_⟩
  exact ((((v7 (qb2 _ _ _ _) hb1).setCell (by simp; omega) _).setCell (by simp; omega) _).setCell (by simp; omega) _)
end
section
set_option maxHeartbeats 1000000 in
set_option maxRecDepth 100000 in
theorem join_13 (x y : V) : qj2 13 x y (leV y x) := by
  intro w
  have CON := v6 (fun w => qk7 y x w)
  conv => arg 3; simp only [vV]
  go_enter Tryz.func106, Tryz.ntmps106
  repeat ((fail_if_success (with_reducible refine wp_exit ?_)); go_step)
  with_reducible refine wp_exit ?_
  repeat (first | (with_reducible refine qd7 ?_) | (with_reducible refine qa2 ?_) | ((with_reducible refine y5 ?hne ?_); (case hne => rfl)))
  with_reducible refine qa3 ?_
  go_wp2_with (go_at_call 153; refine (q9 CON _).mono ?_; rintro e w1 ⟨rfl, hb1⟩; obtain ⟨hc1, hf1⟩ := j5 hb1; have hz1 : w.heap.size + 2 < w1.heap.size := (by have := hb1.size; simp at this; omega); simp only [vV])
  refine bodyPost_ret (by simp [results, Tryz.results106, go_sem, hc1] <;> rfl) rfl ⟨rfl, ?_⟩
  exact ((((v7 (qb2 _ _ _ _) hb1).setCell (by simp; omega) _).setCell (by simp; omega) _).setCell (by simp; omega) _)
end
section
set_option maxHeartbeats 1000000 in
set_option maxRecDepth 100000 in
theorem join_16 (x y : V) (hx : Rng x.num) (hy : Rng y.num) : qj2 16 x y (addV x y) := by
  intro w
  have CON := v6 (fun w => jq0 x y hx hy w)
  conv => arg 3; simp only [vV]
  go_enter Tryz.func106, Tryz.ntmps106
  repeat ((fail_if_success (with_reducible refine wp_exit ?_)); go_step)
  with_reducible refine wp_exit ?_
  repeat (first | (with_reducible refine qd7 ?_) | (with_reducible refine qa2 ?_) | ((with_reducible refine y5 ?hne ?_); (case hne => rfl)))
  with_reducible refine qa3 ?_
  go_wp2_with (go_at_call 154; refine (q9 CON _).mono ?_; rintro e w1 ⟨rfl, hb1⟩; obtain ⟨hc1, hf1⟩ := j5 hb1; have hz1 : w.heap.size + 2 < w1.heap.size := (by have := hb1.size; simp at this; omega); simp only [vV])
  refine bodyPost_ret (by simp [results, Tryz.results106, go_sem, hc1] <;> rfl) rfl ⟨rfl, ?_⟩
  exact ((((v7 (qb2 _ _ _ _) hb1).setCell (by simp; omega) _).setCell (by simp; omega) _).setCell (by simp; omega) _)
end
section
set_option maxHeartbeats 1000000 in
set_option maxRecDepth 100000 in
theorem join_17 (x y : V) (hx : Rng x.num) (hy : Rng y.num) : qj2 17 x y (subV x y) := by
  intro w
  have CON := v6 (fun w => vc3 x y hx hy w)
  conv => arg 3; simp only [vV]
  go_enter Tryz.func106, Tryz.ntmps106
  repeat ((fail_if_success (with_reducible refine wp_exit ?_)); go_step)
  with_reducible refine wp_exit ?_
  repeat (first | (with_reducible refine qd7 ?_) | (with_reducible refine qa2 ?_) | ((with_reducible refine y5 ?hne ?_); (case hne => rfl)))
  with_reducible refine qa3 ?_
  go_wp2_with (go_at_call 155; refine (q9 CON _).mono ?_; rintro e w1 ⟨rfl, hb1⟩; obtain ⟨hc1, hf1⟩ := j5 hb1; have hz1 : w.heap.size + 2 < w1.heap.size := (by have := hb1.size; simp at this; omega); simp only [vV])
  refine bodyPost_ret (by simp [results, Tryz.results106, go_sem, hc1] <;> rfl) rfl ⟨rfl, ?_⟩
  exact ((((v7 (qb2 _ _ _ _) hb1).setCell (by simp; omega) _).setCell (by simp; omega) _).setCell (by simp; omega) _)
end
section
set_option maxHeartbeats 1000000 in
set_option maxRecDepth 100000 in
theorem join_18 (x y : V) (hx : Rng x.num) (hy : Rng y.num) : qj2 18 x y (mulV x y) := by
  intro w
  have CON := v6 (fun w => vv6 x y hx hy w)
  conv => arg 3; simp only [vV]
  go_enter Tryz.func106, Tryz.ntmps106
  repeat ((fail_if_success (with_reducible refine wp_exit ?_)); go_step)
  with_reducible refine wp_exit ?_
  repeat (first | (with_reducible refine qd7 ?_) | (with_reducible refine qa2 ?_) | ((with_reducible refine y5 ?hne ?_); (case hne => rfl)))
  with_reducible refine qa3 ?_
  go_wp2_with (go_at_call 156; refine (q9 CON _).mono ?_; rintro e w1 ⟨rfl, hb1⟩; obtain ⟨hc1, hf1⟩ := j5 hb1; have hz1 : w.heap.size + 2 < w1.heap.size := (by have := hb1.size; simp at this; omega); simp only [vV])
  refine bodyPost_ret (by simp [results, Tryz.results106, go_sem, hc1] <;> rfl) rfl ⟨rfl, ?_⟩
  exact ((((v7 (qb2 _ _ _ _) hb1).setCell (by simp; omega) _).setCell (by simp; omega) _).setCell (by simp; omega) _)
end
end Go.Proofs.YtfkcaldjphakpabGreatDoor
