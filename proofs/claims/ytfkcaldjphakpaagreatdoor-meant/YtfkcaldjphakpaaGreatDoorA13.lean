/- The class of a whole selector. Op.Join: operator 6. Op.Join: operator 10. Op.Join: operator 11. Op.Join: operator 12. Op.Join: operator 13. Op.Join: operator 16. Op.Join: operator 17. Op.Join: operator none. -/
import Derived.Test.YtfkcaldjphakpaaGreatDoorA08
import Derived.Deep.RegionWith
namespace Go.Proofs.YtfkcaldjphakpaaGreatDoor
open Go.RowKit

section
/-- None: the selector is bool or any. -/
def chkR : CRes → Option Int
  | .err q => some q
  | .ok c => if (c != 3 && c != 0) = true then some 0 else none
end

section
set_option maxHeartbeats 1000000 in
set_option maxRecDepth 100000 in
theorem join_6 (x y : V) : JoinOk 6 x y (andV x y) := by
  intro w
  have CON := hide (fun w => vAnd_any x y w)
  conv => arg 3; simp only [vV]
  go_enter Tryz.func110, Tryz.ntmps110
  repeat ((fail_if_success (with_reducible refine wp_exit ?_)); go_step)
  with_reducible refine wp_exit ?_
  repeat (first | (with_reducible refine then_exit ?_) | (with_reducible refine inBlock_same ?_) | ((with_reducible refine inBlock_other ?hne ?_); (case hne => rfl)))
  with_reducible refine then_normal ?_
  go_wp2_with (go_at_call 106; refine (unhide CON _).mono ?_; rintro e w1 ⟨rfl, hb1⟩; obtain ⟨hc1, hf1⟩ := bcell hb1; have hz1 : w.heap.size + 2 < w1.heap.size := (by have := hb1.size; simp at this; omega); simp only [vV])
  refine bodyPost_ret (by simp [results, Tryz.results110, go_sem, hc1] <;> rfl) rfl ⟨rfl, ?_⟩
  exact ((((below_any (below3 _ _ _ _) hb1).setCell (by simp; omega) _).setCell (by simp; omega) _).setCell (by simp; omega) _)
end

section
set_option maxHeartbeats 1000000 in
set_option maxRecDepth 100000 in
theorem join_10 (x y : V) : JoinOk 10 x y (lessV x y) := by
  intro w
  have CON := hide (fun w => vLess_any x y w)
  conv => arg 3; simp only [vV]
  go_enter Tryz.func110, Tryz.ntmps110
  repeat ((fail_if_success (with_reducible refine wp_exit ?_)); go_step)
  with_reducible refine wp_exit ?_
  repeat (first | (with_reducible refine then_exit ?_) | (with_reducible refine inBlock_same ?_) | ((with_reducible refine inBlock_other ?hne ?_); (case hne => rfl)))
  with_reducible refine then_normal ?_
  go_wp2_with (go_at_call 158; refine (unhide CON _).mono ?_; rintro e w1 ⟨rfl, hb1⟩; obtain ⟨hc1, hf1⟩ := bcell hb1; have hz1 : w.heap.size + 2 < w1.heap.size := (by have := hb1.size; simp at this; omega); simp only [vV])
  refine bodyPost_ret (by simp [results, Tryz.results110, go_sem, hc1] <;> rfl) rfl ⟨rfl, ?_⟩
  exact ((((below_any (below3 _ _ _ _) hb1).setCell (by simp; omega) _).setCell (by simp; omega) _).setCell (by simp; omega) _)
end

section
set_option maxHeartbeats 1000000 in
set_option maxRecDepth 100000 in
theorem join_11 (x y : V) : JoinOk 11 x y (leV x y) := by
  intro w
  have CON := hide (fun w => vLessEqual_any x y w)
  conv => arg 3; simp only [vV]
  go_enter Tryz.func110, Tryz.ntmps110
  repeat ((fail_if_success (with_reducible refine wp_exit ?_)); go_step)
  with_reducible refine wp_exit ?_
  repeat (first | (with_reducible refine then_exit ?_) | (with_reducible refine inBlock_same ?_) | ((with_reducible refine inBlock_other ?hne ?_); (case hne => rfl)))
  with_reducible refine then_normal ?_
  go_wp2_with (go_at_call 107; refine (unhide CON _).mono ?_; rintro e w1 ⟨rfl, hb1⟩; obtain ⟨hc1, hf1⟩ := bcell hb1; have hz1 : w.heap.size + 2 < w1.heap.size := (by have := hb1.size; simp at this; omega); simp only [vV])
  refine bodyPost_ret (by simp [results, Tryz.results110, go_sem, hc1] <;> rfl) rfl ⟨rfl, ?_⟩
  exact ((((below_any (below3 _ _ _ _) hb1).setCell (by simp; omega) _).setCell (by simp; omega) _).setCell (by simp; omega) _)
end

section
set_option maxHeartbeats 1000000 in
set_option maxRecDepth 100000 in
theorem join_12 (x y : V) : JoinOk 12 x y (lessV y x) := by
  intro w
  have CON := hide (fun w => vLess_any y x w)
  conv => arg 3; simp only [vV]
  go_enter Tryz.func110, Tryz.ntmps110
  repeat ((fail_if_success (with_reducible refine wp_exit ?_)); go_step)
  with_reducible refine wp_exit ?_
  repeat (first | (with_reducible refine then_exit ?_) | (with_reducible refine inBlock_same ?_) | ((with_reducible refine inBlock_other ?hne ?_); (case hne => rfl)))
  with_reducible refine then_normal ?_
  go_wp2_with (go_at_call 158; refine (unhide CON _).mono ?_; rintro e w1 ⟨rfl, hb1⟩; obtain ⟨hc1, hf1⟩ := bcell hb1; have hz1 : w.heap.size + 2 < w1.heap.size := (by have := hb1.size; simp at this; omega); simp only [vV])
  refine bodyPost_ret (by simp [results, Tryz.results110, go_sem, hc1] <;> rfl) rfl ⟨rfl, ?_⟩
  exact ((((below_any (below3 _ _ _ _) hb1).setCell (by simp; omega) _).setCell (by simp; omega) _).setCell (by simp; omega) _)
end

section
set_option maxHeartbeats 1000000 in
set_option maxRecDepth 100000 in
theorem join_13 (x y : V) : JoinOk 13 x y (leV y x) := by
  intro w
  have CON := hide (fun w => vLessEqual_any y x w)
  conv => arg 3; simp only [vV]
  go_enter Tryz.func110, Tryz.ntmps110
  repeat ((fail_if_success (with_reducible refine wp_exit ?_)); go_step)
  with_reducible refine wp_exit ?_
  repeat (first | (with_reducible refine then_exit ?_) | (with_reducible refine inBlock_same ?_) | ((with_reducible refine inBlock_other ?hne ?_); (case hne => rfl)))
  with_reducible refine then_normal ?_
  go_wp2_with (go_at_call 107; refine (unhide CON _).mono ?_; rintro e w1 ⟨rfl, hb1⟩; obtain ⟨hc1, hf1⟩ := bcell hb1; have hz1 : w.heap.size + 2 < w1.heap.size := (by have := hb1.size; simp at this; omega); simp only [vV])
  refine bodyPost_ret (by simp [results, Tryz.results110, go_sem, hc1] <;> rfl) rfl ⟨rfl, ?_⟩
  exact ((((below_any (below3 _ _ _ _) hb1).setCell (by simp; omega) _).setCell (by simp; omega) _).setCell (by simp; omega) _)
end

section
set_option maxHeartbeats 1000000 in
set_option maxRecDepth 100000 in
theorem join_16 (x y : V) (hx : Rng x.num) (hy : Rng y.num) : JoinOk 16 x y (addV x y) := by
  intro w
  have CON := hide (fun w => vAdd_any x y hx hy w)
  conv => arg 3; simp only [vV]
  go_enter Tryz.func110, Tryz.ntmps110
  repeat ((fail_if_success (with_reducible refine wp_exit ?_)); go_step)
  with_reducible refine wp_exit ?_
  repeat (first | (with_reducible refine then_exit ?_) | (with_reducible refine inBlock_same ?_) | ((with_reducible refine inBlock_other ?hne ?_); (case hne => rfl)))
  with_reducible refine then_normal ?_
  go_wp2_with (go_at_call 159; refine (unhide CON _).mono ?_; rintro e w1 ⟨rfl, hb1⟩; obtain ⟨hc1, hf1⟩ := bcell hb1; have hz1 : w.heap.size + 2 < w1.heap.size := (by have := hb1.size; simp at this; omega); simp only [vV])
  refine bodyPost_ret (by simp [results, Tryz.results110, go_sem, hc1] <;> rfl) rfl ⟨rfl, ?_⟩
  exact ((((below_any (below3 _ _ _ _) hb1).setCell (by simp; omega) _).setCell (by simp; omega) _).setCell (by simp; omega) _)
end

section
set_option maxHeartbeats 1000000 in
set_option maxRecDepth 100000 in
theorem join_17 (x y : V) (hx : Rng x.num) (hy : Rng y.num) : JoinOk 17 x y (subV x y) := by
  intro w
  have CON := hide (fun w => vSubtract_any x y hx hy w)
  conv => arg 3; simp only [vV]
  go_enter Tryz.func110, Tryz.ntmps110
  repeat ((fail_if_success (with_reducible refine wp_exit ?_)); go_step)
  with_reducible refine wp_exit ?_
  repeat (first | (with_reducible refine then_exit ?_) | (with_reducible refine inBlock_same ?_) | ((with_reducible refine inBlock_other ?hne ?_); (case hne => rfl)))
  with_reducible refine then_normal ?_
  go_wp2_with (go_at_call 160; refine (unhide CON _).mono ?_; rintro e w1 ⟨rfl, hb1⟩; obtain ⟨hc1, hf1⟩ := bcell hb1; have hz1 : w.heap.size + 2 < w1.heap.size := (by have := hb1.size; simp at this; omega); simp only [vV])
  refine bodyPost_ret (by simp [results, Tryz.results110, go_sem, hc1] <;> rfl) rfl ⟨rfl, ?_⟩
  exact ((((below_any (below3 _ _ _ _) hb1).setCell (by simp; omega) _).setCell (by simp; omega) _).setCell (by simp; omega) _)
end

section
set_option maxHeartbeats 1000000 in
set_option maxRecDepth 100000 in
theorem join_none (op : Int) (x y : V) (h5 : ¬ op = 5) (h6 : ¬ op = 6) (h7 : ¬ op = 7) (h8 : ¬ op = 8) (h9 : ¬ op = 9) (h12 : ¬ op = 12) (h10 : ¬ op = 10) (h13 : ¬ op = 13) (h11 : ¬ op = 11) (h14 : ¬ op = 14) (h16 : ¬ op = 16) (h15 : ¬ op = 15) (h17 : ¬ op = 17) (h18 : ¬ op = 18) (h19 : ¬ op = 19) : JoinOk op x y (bV (x.kind == 0)) := by
  intro w
  have CON := hide (fun w => vIsNull_any x w)
  have e5 : (op == 5) = false := beq_eq_false_iff_ne.2 h5
  have e6 : (op == 6) = false := beq_eq_false_iff_ne.2 h6
  have e7 : (op == 7) = false := beq_eq_false_iff_ne.2 h7
  have e8 : (op == 8) = false := beq_eq_false_iff_ne.2 h8
  have e9 : (op == 9) = false := beq_eq_false_iff_ne.2 h9
  have e12 : (op == 12) = false := beq_eq_false_iff_ne.2 h12
  have e10 : (op == 10) = false := beq_eq_false_iff_ne.2 h10
  have e13 : (op == 13) = false := beq_eq_false_iff_ne.2 h13
  have e11 : (op == 11) = false := beq_eq_false_iff_ne.2 h11
  have e14 : (op == 14) = false := beq_eq_false_iff_ne.2 h14
  have e16 : (op == 16) = false := beq_eq_false_iff_ne.2 h16
  have e15 : (op == 15) = false := beq_eq_false_iff_ne.2 h15
  have e17 : (op == 17) = false := beq_eq_false_iff_ne.2 h17
  have e18 : (op == 18) = false := beq_eq_false_iff_ne.2 h18
  have e19 : (op == 19) = false := beq_eq_false_iff_ne.2 h19
  clear h5 h6 h7 h8 h9 h12 h10 h13 h11 h14 h16 h15 h17 h18 h19
  obtain ⟨r, hr⟩ : ∃ r, bV (x.kind == 0) = r := ⟨_, rfl⟩
  rw [hr] at CON ⊢
  clear hr
  conv => arg 3; simp only [vV]
  go_enter Tryz.func110, Tryz.ntmps110
  repeat ((fail_if_success (with_reducible refine wp_exit ?_)); go_step)
  with_reducible refine wp_exit ?_
  repeat (first | (with_reducible refine then_exit ?_) | (with_reducible refine inBlock_same ?_) | ((with_reducible refine inBlock_other ?hne ?_); (case hne => rfl)))
  with_reducible refine then_normal ?_
  go_wp2_with (go_at_call 163; refine (unhide CON _).mono ?_; rintro e w1 ⟨rfl, hb1⟩; obtain ⟨hc1, hf1⟩ := bcell hb1; have hz1 : w.heap.size + 2 < w1.heap.size := (by have := hb1.size; simp at this; omega); simp only [vV])
  refine bodyPost_ret (by simp [results, Tryz.results110, go_sem, hc1] <;> rfl) rfl ⟨rfl, ?_⟩
  exact ((((below_any (below3 _ _ _ _) hb1).setCell (by simp; omega) _).setCell (by simp; omega) _).setCell (by simp; omega) _)
end

end Go.Proofs.YtfkcaldjphakpaaGreatDoor
