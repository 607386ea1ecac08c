/- Contracts of package value: sums, differences, products, quotients. Contracts of package value: products and quotients. Contracts of package value: Multiply, Divide. -/
import Derived.Test.YtfkcaldjphakpaaGreatDoorValA
import Derived.Deep.QuietTactic
import Derived.BigQuiet
namespace Go.Proofs.YtfkcaldjphakpaaGreatDoor
open Go.RowKit

section
def fitB (n : Int) : Bool := decide (-9223372036854775808 ≤ n) && decide (n ≤ 9223372036854775807)
def Rng (n : Int) : Prop := -9223372036854775808 ≤ n ∧ n ≤ 9223372036854775807

def addV (x y : V) : V := if intsB x y && fitB (x.num + y.num) then iV (x.num + y.num) else nV
def subV (x y : V) : V := if intsB x y && fitB (x.num - y.num) then iV (x.num - y.num) else nV
def mulV (x y : V) : V := if intsB x y && fitB (x.num * y.num) then iV (x.num * y.num) else nV
def divV (x y : V) : V := if intsB x y && !(y.num == 0) && fitB (x.num.tdiv y.num) then iV (x.num.tdiv y.num) else nV

theorem wrap_fit {n : Int} (h : fitB n = true) : wrap64 n = n := by
  simp [fitB] at h; unfold wrap64; omega

theorem add_test {a b : Int} (ha : Rng a) (hb : Rng b) : ((decide (wrap64 (a + b) < a)) != (decide (b < 0))) = !fitB (a + b) := by
  unfold Rng at ha hb
  rw [Bool.eq_iff_iff]
  simp [fitB, wrap64]
  omega

theorem sub_test {a b : Int} (ha : Rng a) (hb : Rng b) : ((decide (a < wrap64 (a - b))) != (decide (b < 0))) = !fitB (a - b) := by
  unfold Rng at ha hb
  rw [Bool.eq_iff_iff]
  simp [fitB, wrap64]
  omega

set_option maxHeartbeats 400000 in
theorem vAdd_any (x y : V) (hx : Rng x.num) (hy : Rng y.num) (w : World) :
    Calls Tryz.prog 159 #[vV x, vV y] w fun e w' => e = .returned (vV (addV x y)) ∧ Below w.heap.size w w' := by
  have ht := add_test hx hy
  simp only [bne] at ht
  unfold addV
  cases hk : intsB x y with
  | true =>
    have HK := hide hk
    clear hk
    cases hf : fitB (x.num + y.num) with
    | true =>
      rw [hf] at ht
      simp only [Bool.not_true] at ht
      have HW := hide (wrap_fit hf)
      clear hf
      simp only [Bool.and_self, if_true]
      conv => arg 3; simp only [vV]
      go_enter Tryz.func159, Tryz.ntmps159
      go_wp2_with (first | (go_at_call 153; refine (bothInts_any x y _).mono ?_; rintro e w1 ⟨rfl, hb1⟩; rw [unhide HK]; obtain ⟨hc1, hf1⟩ := bcell hb1; have hz1 : w.heap.size + 2 < w1.heap.size := (by have := hb1.size; simp at this; omega)) | (go_at_call 62; rw [unhide HW]; refine (vInt_any _ _).mono ?_; rintro e w2 ⟨rfl, hb2⟩; obtain ⟨hc2, hf2⟩ := bcell hb2; simp only [vV]))
      refine bodyPost_ret (by simp [results, Tryz.results159, go_sem, hc2, hc1, hz1] <;> rfl) rfl ⟨rfl, ?_⟩
      exact ((((below_any (below_any (below3 _ _ _ _) hb1) hb2).setCell (by simp; omega) _).setCell (by simp; omega) _).setCell (by simp; omega) _)
    | false =>
      rw [hf] at ht
      simp only [Bool.not_false] at ht
      clear hf
      simp only [Bool.and_false, Bool.false_eq_true, if_false]
      conv => arg 3; simp only [vV]
      go_enter Tryz.func159, Tryz.ntmps159
      go_wp2_with (first | (go_at_call 153; refine (bothInts_any x y _).mono ?_; rintro e w1 ⟨rfl, hb1⟩; rw [unhide HK]; obtain ⟨hc1, hf1⟩ := bcell hb1; have hz1 : w.heap.size + 2 < w1.heap.size := (by have := hb1.size; simp at this; omega)) | (go_at_call 152; refine (vnull_any _).mono ?_; rintro e w2 ⟨rfl, hb2⟩; obtain ⟨hc2, hf2⟩ := bcell hb2; simp only [vV]))
      refine bodyPost_ret (by simp [results, Tryz.results159, go_sem, hc2, hc1, hz1] <;> rfl) rfl ⟨rfl, ?_⟩
      exact ((((below_any (below_any (below3 _ _ _ _) hb1) hb2).setCell (by simp; omega) _).setCell (by simp; omega) _).setCell (by simp; omega) _)
  | false =>
    have HK := hide hk
    clear hk ht
    simp only [Bool.false_and, Bool.false_eq_true, if_false]
    conv => arg 3; simp only [vV]
    go_enter Tryz.func159, Tryz.ntmps159
    go_wp2_with (first | (go_at_call 153; refine (bothInts_any x y _).mono ?_; rintro e w1 ⟨rfl, hb1⟩; rw [unhide HK]; obtain ⟨hc1, hf1⟩ := bcell hb1; have hz1 : w.heap.size + 2 < w1.heap.size := (by have := hb1.size; simp at this; omega)) | (go_at_call 152; refine (vnull_any _).mono ?_; rintro e w2 ⟨rfl, hb2⟩; obtain ⟨hc2, hf2⟩ := bcell hb2; simp only [vV]))
    refine bodyPost_ret (by simp [results, Tryz.results159, go_sem, hc2, hc1, hz1] <;> rfl) rfl ⟨rfl, ?_⟩
    exact ((((below_any (below_any (below3 _ _ _ _) hb1) hb2).setCell (by simp; omega) _).setCell (by simp; omega) _).setCell (by simp; omega) _)

set_option maxHeartbeats 400000 in
theorem vSubtract_any (x y : V) (hx : Rng x.num) (hy : Rng y.num) (w : World) :
    Calls Tryz.prog 160 #[vV x, vV y] w fun e w' => e = .returned (vV (subV x y)) ∧ Below w.heap.size w w' := by
  have ht := sub_test hx hy
  simp only [bne] at ht
  unfold subV
  cases hk : intsB x y with
  | true =>
    have HK := hide hk
    clear hk
    cases hf : fitB (x.num - y.num) with
    | true =>
      rw [hf] at ht
      simp only [Bool.not_true] at ht
      have HW := hide (wrap_fit hf)
      clear hf
      simp only [Bool.and_self, if_true]
      conv => arg 3; simp only [vV]
      go_enter Tryz.func160, Tryz.ntmps160
      go_wp2_with (first | (go_at_call 153; refine (bothInts_any x y _).mono ?_; rintro e w1 ⟨rfl, hb1⟩; rw [unhide HK]; obtain ⟨hc1, hf1⟩ := bcell hb1; have hz1 : w.heap.size + 2 < w1.heap.size := (by have := hb1.size; simp at this; omega)) | (go_at_call 62; rw [unhide HW]; refine (vInt_any _ _).mono ?_; rintro e w2 ⟨rfl, hb2⟩; obtain ⟨hc2, hf2⟩ := bcell hb2; simp only [vV]))
      refine bodyPost_ret (by simp [results, Tryz.results160, go_sem, hc2, hc1, hz1] <;> rfl) rfl ⟨rfl, ?_⟩
      exact ((((below_any (below_any (below3 _ _ _ _) hb1) hb2).setCell (by simp; omega) _).setCell (by simp; omega) _).setCell (by simp; omega) _)
    | false =>
      rw [hf] at ht
      simp only [Bool.not_false] at ht
      clear hf
      simp only [Bool.and_false, Bool.false_eq_true, if_false]
      conv => arg 3; simp only [vV]
      go_enter Tryz.func160, Tryz.ntmps160
      go_wp2_with (first | (go_at_call 153; refine (bothInts_any x y _).mono ?_; rintro e w1 ⟨rfl, hb1⟩; rw [unhide HK]; obtain ⟨hc1, hf1⟩ := bcell hb1; have hz1 : w.heap.size + 2 < w1.heap.size := (by have := hb1.size; simp at this; omega)) | (go_at_call 152; refine (vnull_any _).mono ?_; rintro e w2 ⟨rfl, hb2⟩; obtain ⟨hc2, hf2⟩ := bcell hb2; simp only [vV]))
      refine bodyPost_ret (by simp [results, Tryz.results160, go_sem, hc2, hc1, hz1] <;> rfl) rfl ⟨rfl, ?_⟩
      exact ((((below_any (below_any (below3 _ _ _ _) hb1) hb2).setCell (by simp; omega) _).setCell (by simp; omega) _).setCell (by simp; omega) _)
  | false =>
    have HK := hide hk
    clear hk ht
    simp only [Bool.false_and, Bool.false_eq_true, if_false]
    conv => arg 3; simp only [vV]
    go_enter Tryz.func160, Tryz.ntmps160
    go_wp2_with (first | (go_at_call 153; refine (bothInts_any x y _).mono ?_; rintro e w1 ⟨rfl, hb1⟩; rw [unhide HK]; obtain ⟨hc1, hf1⟩ := bcell hb1; have hz1 : w.heap.size + 2 < w1.heap.size := (by have := hb1.size; simp at this; omega)) | (go_at_call 152; refine (vnull_any _).mono ?_; rintro e w2 ⟨rfl, hb2⟩; obtain ⟨hc2, hf2⟩ := bcell hb2; simp only [vV]))
    refine bodyPost_ret (by simp [results, Tryz.results160, go_sem, hc2, hc1, hz1] <;> rfl) rfl ⟨rfl, ?_⟩
    exact ((((below_any (below_any (below3 _ _ _ _) hb1) hb2).setCell (by simp; omega) _).setCell (by simp; omega) _).setCell (by simp; omega) _)
end

section
theorem tdiv_parts (p b : Int) (hb : b ≠ 0) : ∃ r, p = b * p.tdiv b + r ∧ r.natAbs < b.natAbs := by
  refine ⟨p.tmod b, (Int.mul_tdiv_add_tmod p b).symm, ?_⟩
  rw [Int.natAbs_tmod]
  exact Nat.mod_lt _ (Int.natAbs_pos.2 hb)

theorem tdiv_bound (p b : Int) (hb1 : b ≠ -1) (hp : Rng p) : Rng (p.tdiv b) := by
  have h := Int.natAbs_tdiv_le_natAbs p b
  unfold Rng at hp ⊢
  by_cases hm : p = -9223372036854775808
  · by_cases h1 : b = 1
    · rw [h1, Int.tdiv_one]; exact hp
    · by_cases h0 : b = 0
      · rw [h0, Int.tdiv_zero]; omega
      · have h2 := Int.natAbs_tdiv p b
        have h3 : p.natAbs.div b.natAbs ≤ p.natAbs / 2 := Nat.div_le_div_left (by omega) (by omega)
        omega
  · omega

theorem wrap_rng {n : Int} (h : Rng n) : wrap64 n = n := by
  unfold Rng at h; unfold wrap64; omega
theorem rng_wrap (n : Int) : Rng (wrap64 n) := by
  unfold Rng wrap64; omega

theorem fitB_iff (n : Int) : fitB n = true ↔ Rng n := by simp [fitB, Rng]

theorem mul_test {a b : Int} (ha : Rng a) (hb : Rng b) (h0 : b ≠ 0) :
    ((a == -9223372036854775808 && b == -1) || !(wrap64 ((wrap64 (a * b)).tdiv b) == a)) = !fitB (a * b) := by
  cases hf : fitB (a * b) with
  | true =>
    have hr := (fitB_iff _).1 hf
    have e : wrap64 (a * b) = a * b := wrap_rng hr
    have e2 : (a * b).tdiv b = a := Int.mul_tdiv_cancel a h0
    rw [e, e2, wrap_rng ha]
    have : ¬ (a = -9223372036854775808 ∧ b = -1) := by
      rintro ⟨rfl, rfl⟩
      unfold Rng at hr; omega
    simp
    intro h1 h2
    exact this ⟨h1, h2⟩
  | false =>
    have hn : ¬ Rng (a * b) := fun h => by rw [(fitB_iff _).2 h] at hf; cases hf
    by_cases h1 : b = -1
    · have : a = -9223372036854775808 := by
        subst h1; unfold Rng at hn ha; omega
      simp [h1, this]
    · have hb1 := tdiv_bound (wrap64 (a * b)) b h1 (rng_wrap _)
      rw [wrap_rng hb1]
      obtain ⟨r, hr, hrb⟩ := tdiv_parts (wrap64 (a * b)) b h0
      have : ¬ (wrap64 (a * b)).tdiv b = a := by
        intro he
        rw [he, Int.mul_comm b a] at hr
        generalize a * b = m at *
        unfold Rng at *
        unfold wrap64 at hr
        omega
      simp [this]

theorem div_test {a b : Int} (ha : Rng a) : (a == -9223372036854775808 && b == -1) = !fitB (a.tdiv b) := by
  by_cases h1 : b = -1
  · subst h1
    have e : a.tdiv (-1) = -a := by rw [Int.tdiv_neg, Int.tdiv_one]
    rw [e, Bool.eq_iff_iff]; simp [fitB]; unfold Rng at ha; omega
  · have := (fitB_iff _).2 (tdiv_bound a b h1 ha)
    rw [this]; simp; intro _; exact h1
end

section
set_option maxHeartbeats 400000 in
theorem least_any (a b : Int) (w : World) :
    Calls Tryz.prog 205 #[.int .i64 a, .int .i64 b] w fun e w' => e = .returned (.bool (a == -9223372036854775808 && b == -1)) ∧ w' = w := by
  go_enter Tryz.func205, Tryz.ntmps205
  go_wp2_with fail
  all_goals (go_ret; exact ⟨ret_bool (by simp <;> omega), rfl⟩)

theorem least_val {a b : Int} {v : Bool} (h : (a == -9223372036854775808 && b == -1) = v) (w : World) :
    Calls Tryz.prog 205 #[.int .i64 a, .int .i64 b] w fun e w' => e = .returned (.bool v) ∧ w' = w := by
  rw [← h]; exact least_any a b w

set_option maxHeartbeats 400000 in
theorem vDivide_any (x y : V) (hx : Rng x.num) (w : World) :
    Calls Tryz.prog 162 #[vV x, vV y] w fun e w' => e = .returned (vV (divV x y)) ∧ Below w.heap.size w w' := by
  have ht := div_test (b := y.num) hx
  unfold divV
  cases hk : intsB x y with
  | true =>
    have HK := hide hk
    clear hk
    cases h0 : (y.num == 0) with
    | true =>
      clear ht
      simp only [Bool.not_true, Bool.and_false, Bool.false_and, Bool.false_eq_true, if_false]
      conv => arg 3; simp only [vV]
      go_enter Tryz.func162, Tryz.ntmps162
      go_wp2_with (first | (go_at_call 153; refine (bothInts_any x y _).mono ?_; rintro e w1 ⟨rfl, hb1⟩; rw [unhide HK]; obtain ⟨hc1, hf1⟩ := bcell hb1; have hz1 : w.heap.size + 2 < w1.heap.size := (by have := hb1.size; simp at this; omega)) | (go_at_call 152; refine (vnull_any _).mono ?_; rintro e w2 ⟨rfl, hb2⟩; obtain ⟨hc2, hf2⟩ := bcell hb2; simp only [vV]))
      refine bodyPost_ret (by simp [results, Tryz.results162, go_sem, hc2, hc1, hz1] <;> rfl) rfl ⟨rfl, ?_⟩
      exact ((((below_any (below_any (below3 _ _ _ _) hb1) hb2).setCell (by simp; omega) _).setCell (by simp; omega) _).setCell (by simp; omega) _)
    | false =>
      have hy0 : ¬ y.num = 0 := by simpa using h0
      cases hf : fitB (x.num.tdiv y.num) with
      | true =>
        rw [hf, Bool.not_true] at ht
        have HL := hide ht
        have HW := hide (wrap_fit hf)
        clear ht hf
        simp only [Bool.not_false, Bool.and_self, if_true]
        conv => arg 3; simp only [vV]
        go_enter Tryz.func162, Tryz.ntmps162
        go_wp2_with (first | (go_at_call 153; refine (bothInts_any x y _).mono ?_; rintro e w1 ⟨rfl, hb1⟩; rw [unhide HK]; obtain ⟨hc1, hf1⟩ := bcell hb1; have hz1 : w.heap.size + 2 < w1.heap.size := (by have := hb1.size; simp at this; omega)) | (go_at_call 205; refine (least_val (unhide HL) _).mono ?_; rintro e w3 ⟨rfl, rfl⟩) | (go_at_call 62; rw [unhide HW]; refine (vInt_any _ _).mono ?_; rintro e w2 ⟨rfl, hb2⟩; obtain ⟨hc2, hf2⟩ := bcell hb2; simp only [vV]))
        refine bodyPost_ret (by simp [results, Tryz.results162, go_sem, hc2, hc1, hz1] <;> rfl) rfl ⟨rfl, ?_⟩
        exact ((((below_any (below_any (below3 _ _ _ _) hb1) hb2).setCell (by simp; omega) _).setCell (by simp; omega) _).setCell (by simp; omega) _)
      | false =>
        rw [hf, Bool.not_false] at ht
        have HL := hide ht
        clear ht hf
        simp only [Bool.and_false, Bool.false_eq_true, if_false]
        conv => arg 3; simp only [vV]
        go_enter Tryz.func162, Tryz.ntmps162
        go_wp2_with (first | (go_at_call 153; refine (bothInts_any x y _).mono ?_; rintro e w1 ⟨rfl, hb1⟩; rw [unhide HK]; obtain ⟨hc1, hf1⟩ := bcell hb1; have hz1 : w.heap.size + 2 < w1.heap.size := (by have := hb1.size; simp at this; omega)) | (go_at_call 205; refine (least_val (unhide HL) _).mono ?_; rintro e w3 ⟨rfl, rfl⟩) | (go_at_call 152; refine (vnull_any _).mono ?_; rintro e w2 ⟨rfl, hb2⟩; obtain ⟨hc2, hf2⟩ := bcell hb2; simp only [vV]))
        refine bodyPost_ret (by simp [results, Tryz.results162, go_sem, hc2, hc1, hz1] <;> rfl) rfl ⟨rfl, ?_⟩
        exact ((((below_any (below_any (below3 _ _ _ _) hb1) hb2).setCell (by simp; omega) _).setCell (by simp; omega) _).setCell (by simp; omega) _)
  | false =>
    have HK := hide hk
    clear hk ht
    simp only [Bool.false_and, Bool.false_eq_true, if_false]
    conv => arg 3; simp only [vV]
    go_enter Tryz.func162, Tryz.ntmps162
    go_wp2_with (first | (go_at_call 153; refine (bothInts_any x y _).mono ?_; rintro e w1 ⟨rfl, hb1⟩; rw [unhide HK]; obtain ⟨hc1, hf1⟩ := bcell hb1; have hz1 : w.heap.size + 2 < w1.heap.size := (by have := hb1.size; simp at this; omega)) | (go_at_call 152; refine (vnull_any _).mono ?_; rintro e w2 ⟨rfl, hb2⟩; obtain ⟨hc2, hf2⟩ := bcell hb2; simp only [vV]))
    refine bodyPost_ret (by simp [results, Tryz.results162, go_sem, hc2, hc1, hz1] <;> rfl) rfl ⟨rfl, ?_⟩
    exact ((((below_any (below_any (below3 _ _ _ _) hb1) hb2).setCell (by simp; omega) _).setCell (by simp; omega) _).setCell (by simp; omega) _)

set_option maxHeartbeats 800000 in
theorem vMultiply_any (x y : V) (hx : Rng x.num) (hy : Rng y.num) (w : World) :
    Calls Tryz.prog 161 #[vV x, vV y] w fun e w' => e = .returned (vV (mulV x y)) ∧ Below w.heap.size w w' := by
  unfold mulV
  cases hk : intsB x y with
  | true =>
    have HK := hide hk
    clear hk
    cases h0 : (y.num == 0) with
    | true =>
      have hm : x.num * y.num = 0 := by have : y.num = 0 := by simpa using h0
                                        rw [this, Int.mul_zero]
      rw [hm]
      clear hm
      simp only [show fitB 0 = true from rfl, Bool.and_self, if_true]
      conv => arg 3; simp only [vV]
      go_enter Tryz.func161, Tryz.ntmps161
      go_wp2_with (first | (go_at_call 153; refine (bothInts_any x y _).mono ?_; rintro e w1 ⟨rfl, hb1⟩; rw [unhide HK]; obtain ⟨hc1, hf1⟩ := bcell hb1; have hz1 : w.heap.size + 2 < w1.heap.size := (by have := hb1.size; simp at this; omega)) | (go_at_call 62; refine (vInt_any _ _).mono ?_; rintro e w2 ⟨rfl, hb2⟩; obtain ⟨hc2, hf2⟩ := bcell hb2; simp only [vV]))
      refine bodyPost_ret (by simp [results, Tryz.results161, go_sem, hc2, hc1, hz1] <;> rfl) rfl ⟨rfl, ?_⟩
      exact ((((below_any (below_any (below3 _ _ _ _) hb1) hb2).setCell (by simp; omega) _).setCell (by simp; omega) _).setCell (by simp; omega) _)
    | false =>
      have hy0 : ¬ y.num = 0 := by simpa using h0
      have ht := mul_test hx hy hy0
      cases hL : (x.num == -9223372036854775808 && y.num == -1) with
      | true =>
        rw [hL, Bool.true_or] at ht
        have hf : fitB (x.num * y.num) = false := by simpa using ht.symm
        rw [hf]
        have HL := hide hL
        clear ht hf hL
        simp only [Bool.and_false, Bool.false_eq_true, if_false]
        conv => arg 3; simp only [vV]
        go_enter Tryz.func161, Tryz.ntmps161
        go_wp2_with (first | (go_at_call 153; refine (bothInts_any x y _).mono ?_; rintro e w1 ⟨rfl, hb1⟩; rw [unhide HK]; obtain ⟨hc1, hf1⟩ := bcell hb1; have hz1 : w.heap.size + 2 < w1.heap.size := (by have := hb1.size; simp at this; omega)))
        go_quiet ((go_at_call 205; exact Calls.quiet_of_same (least_val (unhide HL) _)))
        go_wp2_with (first | (go_at_call 152; refine (vnull_any _).mono ?_; rintro e w2 ⟨rfl, hb2'⟩; have hb2 : Below w1.heap.size w1 w2 := (below_drewN (Below.refl w1.heap.size w1) _).trans hb2'; clear hb2'; obtain ⟨hc2, hf2⟩ := bcell hb2; simp only [vV]))
        refine bodyPost_ret (by simp [results, Tryz.results161, go_sem, hc2, hc1, hz1] <;> rfl) rfl ⟨rfl, ?_⟩
        exact ((((below_any (below_any (below3 _ _ _ _) hb1) hb2).setCell (by simp; omega) _).setCell (by simp; omega) _).setCell (by simp; omega) _)
      | false =>
        rw [hL, Bool.false_or] at ht
        have HL := hide hL
        clear hL
        cases hf : fitB (x.num * y.num) with
        | true =>
          rw [hf, Bool.not_true] at ht
          have ht2 : (wrap64 ((wrap64 (x.num * y.num)).tdiv y.num) != x.num) = false := ht
          have HW := hide (wrap_fit hf)
          clear hf
          simp only [Bool.and_self, if_true]
          conv => arg 3; simp only [vV]
          go_enter Tryz.func161, Tryz.ntmps161
          go_wp2_with (first | (go_at_call 153; refine (bothInts_any x y _).mono ?_; rintro e w1 ⟨rfl, hb1⟩; rw [unhide HK]; obtain ⟨hc1, hf1⟩ := bcell hb1; have hz1 : w.heap.size + 2 < w1.heap.size := (by have := hb1.size; simp at this; omega)))
          go_quiet ((go_at_call 205; exact Calls.quiet_of_same (least_val (unhide HL) _)))
          go_wp2_with (first | (go_at_call 62; rw [unhide HW]; refine (vInt_any _ _).mono ?_; rintro e w2 ⟨rfl, hb2'⟩; have hb2 : Below w1.heap.size w1 w2 := (below_drewN (Below.refl w1.heap.size w1) _).trans hb2'; clear hb2'; obtain ⟨hc2, hf2⟩ := bcell hb2; simp only [vV]))
          refine bodyPost_ret (by simp [results, Tryz.results161, go_sem, hc2, hc1, hz1] <;> rfl) rfl ⟨rfl, ?_⟩
          exact ((((below_any (below_any (below3 _ _ _ _) hb1) hb2).setCell (by simp; omega) _).setCell (by simp; omega) _).setCell (by simp; omega) _)
        | false =>
          rw [hf, Bool.not_false] at ht
          have ht2 : (wrap64 ((wrap64 (x.num * y.num)).tdiv y.num) != x.num) = true := ht
          clear hf
          simp only [Bool.and_false, Bool.false_eq_true, if_false]
          conv => arg 3; simp only [vV]
          go_enter Tryz.func161, Tryz.ntmps161
          go_wp2_with (first | (go_at_call 153; refine (bothInts_any x y _).mono ?_; rintro e w1 ⟨rfl, hb1⟩; rw [unhide HK]; obtain ⟨hc1, hf1⟩ := bcell hb1; have hz1 : w.heap.size + 2 < w1.heap.size := (by have := hb1.size; simp at this; omega)))
          go_quiet ((go_at_call 205; exact Calls.quiet_of_same (least_val (unhide HL) _)))
          go_wp2_with (first | (go_at_call 152; refine (vnull_any _).mono ?_; rintro e w2 ⟨rfl, hb2'⟩; have hb2 : Below w1.heap.size w1 w2 := (below_drewN (Below.refl w1.heap.size w1) _).trans hb2'; clear hb2'; obtain ⟨hc2, hf2⟩ := bcell hb2; simp only [vV]))
          refine bodyPost_ret (by simp [results, Tryz.results161, go_sem, hc2, hc1, hz1] <;> rfl) rfl ⟨rfl, ?_⟩
          exact ((((below_any (below_any (below3 _ _ _ _) hb1) hb2).setCell (by simp; omega) _).setCell (by simp; omega) _).setCell (by simp; omega) _)
  | false =>
    have HK := hide hk
    clear hk
    simp only [Bool.false_and, Bool.false_eq_true, if_false]
    conv => arg 3; simp only [vV]
    go_enter Tryz.func161, Tryz.ntmps161
    go_wp2_with (first | (go_at_call 153; refine (bothInts_any x y _).mono ?_; rintro e w1 ⟨rfl, hb1⟩; rw [unhide HK]; obtain ⟨hc1, hf1⟩ := bcell hb1; have hz1 : w.heap.size + 2 < w1.heap.size := (by have := hb1.size; simp at this; omega)) | (go_at_call 152; refine (vnull_any _).mono ?_; rintro e w2 ⟨rfl, hb2⟩; obtain ⟨hc2, hf2⟩ := bcell hb2; simp only [vV]))
    refine bodyPost_ret (by simp [results, Tryz.results161, go_sem, hc2, hc1, hz1] <;> rfl) rfl ⟨rfl, ?_⟩
    exact ((((below_any (below_any (below3 _ _ _ _) hb1) hb2).setCell (by simp; omega) _).setCell (by simp; omega) _).setCell (by simp; omega) _)
end

end Go.Proofs.YtfkcaldjphakpaaGreatDoor
