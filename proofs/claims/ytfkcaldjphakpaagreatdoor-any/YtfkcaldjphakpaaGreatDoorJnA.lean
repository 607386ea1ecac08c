/- Op.Join. Op.Join: operator 5. Op.Join: operator 6. Op.Join: operator 7. Op.Join: operator 8. Op.Join: operator 9. Op.Join: operator 10. Op.Join: operator 11. Op.Join: operator 12. Op.Join: operator 13. -/
import Derived.Test.YtfkcaldjphakpaaGreatDoorValC
import Derived.Test.YtfkcaldjphakpaaGreatDoorValD
import Derived.Test.YtfkcaldjphakpaaGreatDoorRdB
import Derived.Deep.RegionWith
namespace Go.Proofs.YtfkcaldjphakpaaGreatDoor
open Go.RowKit

section
def joinV (op : Int) (x y : V) : V :=
  if op = 5 then notV x else if op = 6 then andV x y else if op = 7 then orV x y else if op = 8 then eqV x y else if op = 9 then notV (eqV x y)
  else if op = 12 then lessV y x else if op = 10 then lessV x y else if op = 13 then leV y x else if op = 11 then leV x y
  else if op = 14 then addV (iV 0) x else if op = 16 then addV x y else if op = 15 then subV (iV 0) x else if op = 17 then subV x y
  else if op = 18 then mulV x y else if op = 19 then divV x y else bV (x.kind == 0)

def JoinOk (op : Int) (x y r : V) : Prop := ∀ w : World, Calls Tryz.prog 110 #[.int .i64 op, vV x, vV y] w fun e w' => e = .returned (vV r) ∧ Below w.heap.size w w'

theorem then_exit {next : Act → World → Prop} {Q : Exit → Act → World → Prop} {n : Nat} {a : Act} {w : World} (h : Q (.exit n) a w) : Exit.then next Q (.exit n) a w := h
theorem inBlock_other {id n : Nat} {Q : Exit → Act → World → Prop} {a : Act} {w : World} (hne : (n == id) = false) (h : Q (.exit n) a w) : Exit.inBlock id Q (.exit n) a w := by
  have hn : ¬ n = id := by simpa using hne
  simp only [Exit.inBlock, hn, if_false]; exact h
theorem inBlock_same {id : Nat} {Q : Exit → Act → World → Prop} {a : Act} {w : World} (h : Q .normal a w) : Exit.inBlock id Q (.exit id) a w := by
  simp only [Exit.inBlock, if_true]; exact h
theorem then_normal {next : Act → World → Prop} {Q : Exit → Act → World → Prop} {a : Act} {w : World} (h : next a w) : Exit.then next Q .normal a w := h
theorem inBlock_ret {id : Nat} {Q : Exit → Act → World → Prop} {a : Act} {w : World} (h : Q .ret a w) : Exit.inBlock id Q .ret a w := h
theorem then_ret {next : Act → World → Prop} {Q : Exit → Act → World → Prop} {a : Act} {w : World} (h : Q .ret a w) : Exit.then next Q .ret a w := h

theorem rng0 : Rng 0 := ⟨by decide, by decide⟩
end

section
set_option maxHeartbeats 1000000 in
set_option maxRecDepth 100000 in
theorem join_5 (x y : V) : JoinOk 5 x y (notV x) := by
  intro w
  have CON := hide (fun w => vNot_any x w)
  conv => arg 3; simp only [vV]
  go_enter Tryz.func110, Tryz.ntmps110
  repeat ((fail_if_success (with_reducible refine wp_exit ?_)); go_step)
  with_reducible refine wp_exit ?_
  repeat (first | (with_reducible refine then_exit ?_) | (with_reducible refine inBlock_same ?_) | ((with_reducible refine inBlock_other ?hne ?_); (case hne => rfl)))
  with_reducible refine then_normal ?_
  go_wp2_with (go_at_call 157; refine (unhide CON _).mono ?_; rintro e w1 ⟨rfl, hb1⟩; obtain ⟨hc1, hf1⟩ := bcell hb1; have hz1 : w.heap.size + 2 < w1.heap.size := (by have := hb1.size; simp at this; omega); simp only [vV])
  refine bodyPost_ret (by simp [results, Tryz.results110, go_sem, hc1] <;> rfl) rfl ⟨rfl, ?_⟩
  exact ((((below_any (below3 _ _ _ _) hb1).setCell (by simp; omega) _).setCell (by simp; omega) _).setCell (by simp; omega) _)
end

section
set_option maxHeartbeats 1000000 in
set_option maxRecDepth 100000 in
theorem join_6 (x y : V) : JoinOk 6 x y (andV x y) := by
  intro w
  have CON := hide (fun w => vAnd_any x y w)
  conv => arg 3; simp only [vV]
  go_enter Tryz.func110, Tryz.ntmps110
  repeat ((fail_if_success (with_reducible refine wp_exit ?_)); go_step)
  with_reducible refine wp_exit ?_
  repeat (first | (with_reducible refine then_exit ?_) | (with_reducible refine inBlock_same ?_) | ((with_reducible refine inBlock_other ?hne ?_); (case hne => rfl)))
  with_reducible refine then_normal ?_
  go_wp2_with (go_at_call 106; refine (unhide CON _).mono ?_; rintro e w1 ⟨rfl, hb1⟩; obtain ⟨hc1, hf1⟩ := bcell hb1; have hz1 : w.heap.size + 2 < w1.heap.size := (by have := hb1.size; simp at this; omega); simp only [vV])
  refine bodyPost_ret (by simp [results, Tryz.results110, go_sem, hc1] <;> rfl) rfl ⟨rfl, ?_⟩
  exact ((((below_any (below3 _ _ _ _) hb1).setCell (by simp; omega) _).setCell (by simp; omega) _).setCell (by simp; omega) _)
end

section
set_option maxHeartbeats 1000000 in
set_option maxRecDepth 100000 in
theorem join_7 (x y : V) : JoinOk 7 x y (orV x y) := by
  intro w
  have CON := hide (fun w => vOr_any x y w)
  conv => arg 3; simp only [vV]
  go_enter Tryz.func110, Tryz.ntmps110
  repeat ((fail_if_success (with_reducible refine wp_exit ?_)); go_step)
  with_reducible refine wp_exit ?_
  repeat (first | (with_reducible refine then_exit ?_) | (with_reducible refine inBlock_same ?_) | ((with_reducible refine inBlock_other ?hne ?_); (case hne => rfl)))
  with_reducible refine then_normal ?_
  go_wp2_with (go_at_call 154; refine (unhide CON _).mono ?_; rintro e w1 ⟨rfl, hb1⟩; obtain ⟨hc1, hf1⟩ := bcell hb1; have hz1 : w.heap.size + 2 < w1.heap.size := (by have := hb1.size; simp at this; omega); simp only [vV])
  refine bodyPost_ret (by simp [results, Tryz.results110, go_sem, hc1] <;> rfl) rfl ⟨rfl, ?_⟩
  exact ((((below_any (below3 _ _ _ _) hb1).setCell (by simp; omega) _).setCell (by simp; omega) _).setCell (by simp; omega) _)
end

section
set_option maxHeartbeats 1000000 in
set_option maxRecDepth 100000 in
theorem join_8 (x y : V) : JoinOk 8 x y (eqV x y) := by
  intro w
  have CON := hide (fun w => vEqual_any x y w)
  conv => arg 3; simp only [vV]
  go_enter Tryz.func110, Tryz.ntmps110
  repeat ((fail_if_success (with_reducible refine wp_exit ?_)); go_step)
  with_reducible refine wp_exit ?_
  repeat (first | (with_reducible refine then_exit ?_) | (with_reducible refine inBlock_same ?_) | ((with_reducible refine inBlock_other ?hne ?_); (case hne => rfl)))
  with_reducible refine then_normal ?_
  go_wp2_with (go_at_call 155; refine (unhide CON _).mono ?_; rintro e w1 ⟨rfl, hb1⟩; obtain ⟨hc1, hf1⟩ := bcell hb1; have hz1 : w.heap.size + 2 < w1.heap.size := (by have := hb1.size; simp at this; omega); simp only [vV])
  refine bodyPost_ret (by simp [results, Tryz.results110, go_sem, hc1] <;> rfl) rfl ⟨rfl, ?_⟩
  exact ((((below_any (below3 _ _ _ _) hb1).setCell (by simp; omega) _).setCell (by simp; omega) _).setCell (by simp; omega) _)
end

section
set_option maxHeartbeats 1000000 in
set_option maxRecDepth 100000 in
theorem join_9 (x y : V) : JoinOk 9 x y (notV (eqV x y)) := by
  intro w
  have CON := hide (fun w => vEqual_any x y w)
  have CON2 := hide (fun w => vNot_any (eqV x y) w)
  conv => arg 3; simp only [vV]
  go_enter Tryz.func110, Tryz.ntmps110
  repeat ((fail_if_success (with_reducible refine wp_exit ?_)); go_step)
  with_reducible refine wp_exit ?_
  repeat (first | (with_reducible refine then_exit ?_) | (with_reducible refine inBlock_same ?_) | ((with_reducible refine inBlock_other ?hne ?_); (case hne => rfl)))
  with_reducible refine then_normal ?_
  go_wp2_with (first | (go_at_call 155; refine (unhide CON _).mono ?_; rintro e w0 ⟨rfl, hb0⟩) | (go_at_call 157; refine (unhide CON2 _).mono ?_; rintro e w1 ⟨rfl, hb1'⟩; have hb1 := below_any hb0 hb1'; obtain ⟨hc1, hf1⟩ := bcell hb1; have hz1 : w.heap.size + 2 < w1.heap.size := (by have := hb1.size; simp at this; omega); simp only [vV]))
  refine bodyPost_ret (by simp [results, Tryz.results110, go_sem, hc1] <;> rfl) rfl ⟨rfl, ?_⟩
  exact ((((below_any (below3 _ _ _ _) hb1).setCell (by simp; omega) _).setCell (by simp; omega) _).setCell (by simp; omega) _)
end

section
set_option maxHeartbeats 1000000 in
set_option maxRecDepth 100000 in
theorem join_10 (x y : V) : JoinOk 10 x y (lessV x y) := by
  intro w
  have CON := hide (fun w => vLess_any x y w)
  conv => arg 3; simp only [vV]
  go_enter Tryz.func110, Tryz.ntmps110
  repeat ((fail_if_success (with_reducible refine wp_exit ?_)); go_step)
  with_reducible refine wp_exit ?_
  repeat (first | (with_reducible refine then_exit ?_) | (with_reducible refine inBlock_same ?_) | ((with_reducible refine inBlock_other ?hne ?_); (case hne => rfl)))
  with_reducible refine then_normal ?_
  go_wp2_with (go_at_call 158; refine (unhide CON _).mono ?_; rintro e w1 ⟨rfl, hb1⟩; obtain ⟨hc1, hf1⟩ := bcell hb1; have hz1 : w.heap.size + 2 < w1.heap.size := (by have := hb1.size; simp at this; omega); simp only [vV])
  refine bodyPost_ret (by simp [results, Tryz.results110, go_sem, hc1] <;> rfl) rfl ⟨rfl, ?_⟩
  exact ((((below_any (below3 _ _ _ _) hb1).setCell (by simp; omega) _).setCell (by simp; omega) _).setCell (by simp; omega) _)
end

section
set_option maxHeartbeats 1000000 in
set_option maxRecDepth 100000 in
theorem join_11 (x y : V) : JoinOk 11 x y (leV x y) := by
  intro w
  have CON := hide (fun w => vLessEqual_any x y w)
  conv => arg 3; simp only [vV]
  go_enter Tryz.func110, Tryz.ntmps110
  repeat ((fail_if_success (with_reducible refine wp_exit ?_)); go_step)
  with_reducible refine wp_exit ?_
  repeat (first | (with_reducible refine then_exit ?_) | (with_reducible refine inBlock_same ?_) | ((with_reducible refine inBlock_other ?hne ?_); (case hne => rfl)))
  with_reducible refine then_normal ?_
  go_wp2_with (go_at_call 107; refine (unhide CON _).mono ?_; rintro e w1 ⟨rfl, hb1⟩; obtain ⟨hc1, hf1⟩ := bcell hb1; have hz1 : w.heap.size + 2 < w1.heap.size := (by have := hb1.size; simp at this; omega); simp only [vV])
  refine bodyPost_ret (by simp [results, Tryz.results110, go_sem, hc1] <;> rfl) rfl ⟨rfl, ?_⟩
  exact ((((below_any (below3 _ _ _ _) hb1).setCell (by simp; omega) _).setCell (by simp; omega) _).setCell (by simp; omega) _)
end

section
set_option maxHeartbeats 1000000 in
set_option maxRecDepth 100000 in
theorem join_12 (x y : V) : JoinOk 12 x y (lessV y x) := by
  intro w
  have CON := hide (fun w => vLess_any y x w)
  conv => arg 3; simp only [vV]
  go_enter Tryz.func110, Tryz.ntmps110
  repeat ((fail_if_success (with_reducible refine wp_exit ?_)); go_step)
  with_reducible refine wp_exit ?_
  repeat (first | (with_reducible refine then_exit ?_) | (with_reducible refine inBlock_same ?_) | ((with_reducible refine inBlock_other ?hne ?_); (case hne => rfl)))
  with_reducible refine then_normal ?_
  go_wp2_with (go_at_call 158; refine (unhide CON _).mono ?_; rintro e w1 ⟨rfl, hb1⟩; obtain ⟨hc1, hf1⟩ := bcell hb1; have hz1 : w.heap.size + 2 < w1.heap.size := (by have := hb1.size; simp at this; omega); simp only [vV])
  refine bodyPost_ret (by simp [results, Tryz.results110, go_sem, hc1] <;> rfl) rfl ⟨rfl, ?_⟩
  exact ((((below_any (below3 _ _ _ _) hb1).setCell (by simp; omega) _).setCell (by simp; omega) _).setCell (by simp; omega) _)
end

section
set_option maxHeartbeats 1000000 in
set_option maxRecDepth 100000 in
theorem join_13 (x y : V) : JoinOk 13 x y (leV y x) := by
  intro w
  have CON := hide (fun w => vLessEqual_any y x w)
  conv => arg 3; simp only [vV]
  go_enter Tryz.func110, Tryz.ntmps110
  repeat ((fail_if_success (with_reducible refine wp_exit ?_)); go_step)
  with_reducible refine wp_exit ?_
  repeat (first | (with_reducible refine then_exit ?_) | (with_reducible refine inBlock_same ?_) | ((with_reducible refine inBlock_other ?hne ?_); (case hne => rfl)))
  with_reducible refine then_normal ?_
  go_wp2_with (go_at_call 107; refine (unhide CON _).mono ?_; rintro e w1 ⟨rfl, hb1⟩; obtain ⟨hc1, hf1⟩ := bcell hb1; have hz1 : w.heap.size + 2 < w1.heap.size := (by have := hb1.size; simp at this; omega); simp only [vV])
  refine bodyPost_ret (by simp [results, Tryz.results110, go_sem, hc1] <;> rfl) rfl ⟨rfl, ?_⟩
  exact ((((below_any (below3 _ _ _ _) hb1).setCell (by simp; omega) _).setCell (by simp; omega) _).setCell (by simp; omega) _)
end

end Go.Proofs.YtfkcaldjphakpaaGreatDoor
