/- Contracts of package value: sums, differences, products, quotients. Contracts of package value: products and quotients. Contracts of package value: Multiply, Divide. -/
import Derived.Test.YtfkcaldjphakpabGreatDoorYVal1
import Derived.Deep.QuietTactic
import Derived.BigQuiet
namespace Go.Proofs.YtfkcaldjphakpabGreatDoor
open Go.RowKit
section
def vp9 (n : Int) : Bool := decide (-9223372036854775808 ≤ n) && decide (n ≤ 9223372036854775807)
def Rng (n : Int) : Prop := -9223372036854775808 ≤ n ∧ n ≤ 9223372036854775807
def addV (x y : V) : V := if va5 x y && vp9 (x.num + y.num) then iV (x.num + y.num) else nV
def subV (x y : V) : V := if va5 x y && vp9 (x.num - y.num) then iV (x.num - y.num) else nV
def mulV (x y : V) : V := if va5 x y && vp9 (x.num * y.num) then iV (x.num * y.num) else nV
def divV (x y : V) : V := if va5 x y && !(y.num == 0) && vp9 (x.num.tdiv y.num) then iV (x.num.tdiv y.num) else nV
theorem vg7 {n : Int} (h : vp9 n = true) : wrap64 n = n := by
  simp [vp9] at h; unfold wrap64; omega
theorem add_test {a b : Int} (ha : Rng a) (hb : Rng b) : ((decide (wrap64 (a + b) < a)) != (decide (b < 0))) = !vp9 (a + b) := by
  unfold Rng at ha hb
  rw [Bool.eq_iff_iff]
  simp [vp9, wrap64]
  omega
theorem sub_test {a b : Int} (ha : Rng a) (hb : Rng b) : ((decide (a < wrap64 (a - b))) != (decide (b < 0))) = !vp9 (a - b) := by
  unfold Rng at ha hb
  rw [Bool.eq_iff_iff]
  simp [vp9, wrap64]
  omega
set_option maxHeartbeats 400000 in
theorem jq0 (x y : V) (hx : Rng x.num) (hy : Rng y.num) (w : World) :
    Calls Tryz.prog 154 #[vV x, vV y] w fun e w' => e = .returned (vV (addV x y)) ∧ Below w.heap.size w w' := by
  have ht := add_test hx hy
  simp only [bne] at ht
  unfold addV
  cases hk : va5 x y with
  | true =>
    have HK := v6 hk
    clear hk
    cases hf : vp9 (x.num + y.num) with
    | true =>
      rw [hf] at ht
      simp only [Bool.not_true] at ht
      have HW := v6 (vg7 hf)
      clear hf
      simp only [Bool.and_self, if_true]
      conv => arg 3; simp only [vV]
      go_enter Tryz.func154, Tryz.ntmps154
      go_wp2_with (first | (go_at_call 197; refine (x7 x y _).mono ?_; rintro e w1 ⟨rfl, hb1⟩; rw [q9 HK]; obtain ⟨hc1, hf1⟩ := j5 hb1; have hz1 : w.heap.size + 2 < w1.heap.size := (by have := hb1.size; simp at this; omega)) | (go_at_call 103; rw [q9 HW]; refine (qp4 _ _).mono ?_; rintro e w2 ⟨rfl, hb2⟩; obtain ⟨hc2, hf2⟩ := j5 hb2; simp only [vV]))
      refine bodyPost_ret (by simp [results, Tryz.results154, go_sem, hc2, hc1, hz1] <;> rfl) rfl ⟨rfl, ?_⟩
      exact ((((v7 (v7 (qb2 _ _ _ _) hb1) hb2).setCell (by simp; omega) _).setCell (by simp; omega) _).setCell (by simp; omega) _)
    | false =>
      rw [hf] at ht
      simp only [Bool.not_false] at ht
      clear hf
      simp only [Bool.and_false, Bool.false_eq_true, if_false]
      conv => arg 3; simp only [vV]
      go_enter Tryz.func154, Tryz.ntmps154
      go_wp2_with (first | (go_at_call 197; refine (x7 x y _).mono ?_; rintro e w1 ⟨rfl, hb1⟩; rw [q9 HK]; obtain ⟨hc1, hf1⟩ := j5 hb1; have hz1 : w.heap.size + 2 < w1.heap.size := (by have := hb1.size; simp at this; omega)) | (go_at_call 146; refine (qc7 _).mono ?_; rintro e w2 ⟨rfl, hb2⟩; obtain ⟨hc2, hf2⟩ := j5 hb2; simp only [vV]))
      refine bodyPost_ret (by simp [results, Tryz.results154, go_sem, hc2, hc1, hz1] <;> rfl) rfl ⟨rfl, ?_⟩
      exact ((((v7 (v7 (qb2 _ _ _ _) hb1) hb2).setCell (by simp; omega) _).setCell (by simp; omega) _).setCell (by simp; omega) _)
  | false =>
    have HK := v6 hk
    clear hk ht
    simp only [Bool.false_and, Bool.false_eq_true, if_false]
    conv => arg 3; simp only [vV]
    go_enter Tryz.func154, Tryz.ntmps154
    go_wp2_with (first | (go_at_call 197; refine (x7 x y _).mono ?_; rintro e w1 ⟨rfl, hb1⟩; rw [q9 HK]; obtain ⟨hc1, hf1⟩ := j5 hb1; have hz1 : w.heap.size + 2 < w1.heap.size := (by have := hb1.size; simp at this; omega)) | (go_at_call 146; refine (qc7 _).mono ?_; rintro e w2 ⟨rfl, hb2⟩; obtain ⟨hc2, hf2⟩ := j5 hb2; simp only [vV]))
    refine bodyPost_ret (by simp [results, Tryz.results154, go_sem, hc2, hc1, hz1] <;> rfl) rfl ⟨rfl, ?_⟩
    exact ((((v7 (v7 (qb2 _ _ _ _) hb1) hb2).setCell (by simp; omega) _).setCell (by simp; omega) _).setCell (by simp; omega) _)
set_option maxHeartbeats 400000 in
theorem vc3 (x y : V) (hx : Rng x.num) (hy : Rng y.num) (w : World) :
    Calls Tryz.prog 155 #[vV x, vV y] w fun e w' => e = .returned (vV (subV x y)) ∧ Below w.heap.size w w' := by
  have ht := sub_test hx hy
  simp only [bne] at ht
  unfold subV
  cases hk : va5 x y with
  | true =>
    have HK := v6 hk
    clear hk
    cases hf : vp9 (x.num - y.num) with
    | true =>
      rw [hf] at ht
      simp only [Bool.not_true] at ht
      have HW := v6 (vg7 hf)
      clear hf
      simp only [Bool.and_self, if_true]
      conv => arg 3; simp only [vV]
      go_enter Tryz.func155, Tryz.ntmps155
      go_wp2_with (first | (go_at_call 197; refine (x7 x y _).mono ?_; rintro e w1 ⟨rfl, hb1⟩; rw [q9 HK]; obtain ⟨hc1, hf1⟩ := j5 hb1; have hz1 : w.heap.size + 2 < w1.heap.size := (by have := hb1.size; simp at this; omega)) | (go_at_call 103; rw [q9 HW]; refine (qp4 _ _).mono ?_; rintro e w2 ⟨rfl, hb2⟩; obtain ⟨hc2, hf2⟩ := j5 hb2; simp only [vV]))
      refine bodyPost_ret (by simp [results, Tryz.results155, go_sem, hc2, hc1, hz1] <;> rfl) rfl ⟨rfl, ?_⟩
      exact ((((v7 (v7 (qb2 _ _ _ _) hb1) hb2).setCell (by simp; omega) _).setCell (by simp; omega) _).setCell (by simp; omega) _)
    | false =>
      rw [hf] at ht
      simp only [Bool.not_false] at ht
      clear hf
      simp only [Bool.and_false, Bool.false_eq_true, if_false]
      conv => arg 3; simp only [vV]
      go_enter Tryz.func155, Tryz.ntmps155
      go_wp2_with (first | (go_at_call 197; refine (x7 x y _).mono ?_; rintro e w1 ⟨rfl, hb1⟩; rw [q9 HK]; obtain ⟨hc1, hf1⟩ := j5 hb1; have hz1 : w.heap.size + 2 < w1.heap.size := (by have := hb1.size; simp at this; omega)) | (go_at_call 146; refine (qc7 _).mono ?_; rintro e w2 ⟨rfl, hb2⟩; obtain ⟨hc2, hf2⟩ := j5 hb2; simp only [vV]))
      refine bodyPost_ret (by simp [results, Tryz.results155, go_sem, hc2, hc1, hz1] <;> rfl) rfl ⟨rfl, ?_⟩
      exact ((((v7 (v7 (qb2 _ _ _ _) hb1) hb2).setCell (by simp; omega) _).setCell (by simp; omega) _).setCell (by simp; omega) _)
  | false =>
    have HK := v6 hk
    clear hk ht
    simp only [Bool.false_and, Bool.false_eq_true, if_false]
    conv => arg 3; simp only [vV]
    go_enter Tryz.func155, Tryz.ntmps155
    go_wp2_with (first | (go_at_call 197; refine (x7 x y _).mono ?_; rintro e w1 ⟨rfl, hb1⟩; rw [q9 HK]; obtain ⟨hc1, hf1⟩ := j5 hb1; have hz1 : w.heap.size + 2 < w1.heap.size := (by have := hb1.size; simp at this; omega)) | (go_at_call 146; refine (qc7 _).mono ?_; rintro e w2 ⟨rfl, hb2⟩; obtain ⟨hc2, hf2⟩ := j5 hb2; simp only [vV]))
    refine bodyPost_ret (by simp [results, Tryz.results155, go_sem, hc2, hc1, hz1] <;> rfl) rfl ⟨rfl, ?_⟩
    exact ((((v7 (v7 (qb2 _ _ _ _) hb1) hb2).setCell (by simp; omega) _).setCell (by simp; omega) _).setCell (by simp; omega) _)
end
section
theorem jx9 (p b : Int) (hb : b ≠ 0) : ∃ r, p = b * p.tdiv b + r ∧ r.natAbs < b.natAbs := by
  refine ⟨p.tmod b, (Int.mul_tdiv_add_tmod p b).symm, ?_⟩
  rw [Int.natAbs_tmod]
  exact Nat.mod_lt _ (Int.natAbs_pos.2 hb)
theorem vr5 (p b : Int) (hb1 : b ≠ -1) (hp : Rng p) : Rng (p.tdiv b) := by
  have h := Int.natAbs_tdiv_le_natAbs p b
  unfold Rng at hp ⊢
  by_cases hm : p = -9223372036854775808
  · by_cases h1 : b = 1
    · rw [h1, Int.tdiv_one]; exact hp
    · by_cases h0 : b = 0
      · rw [h0, Int.tdiv_zero]; omega
      · have h2 := Int.natAbs_tdiv p b
        have h3 : p.natAbs.div b.natAbs ≤ p.natAbs / 2 := Nat.div_le_div_left (by omega) (by omega)
        omega
  · omega
theorem vv9 {n : Int} (h : Rng n) : wrap64 n = n := by
  unfold Rng at h; unfold wrap64; omega
theorem jp0 (n : Int) : Rng (wrap64 n) := by
  unfold Rng wrap64; omega
theorem vt4 (n : Int) : vp9 n = true ↔ Rng n := by simp [vp9, Rng]
theorem mul_test {a b : Int} (ha : Rng a) (hb : Rng b) (h0 : b ≠ 0) :
    ((a == -9223372036854775808 && b == -1) || !(wrap64 ((wrap64 (a * b)).tdiv b) == a)) = !vp9 (a * b) := by
  cases hf : vp9 (a * b) with
  | true =>
    have hr := (vt4 _).1 hf
    have e : wrap64 (a * b) = a * b := vv9 hr
    have e2 : (a * b).tdiv b = a := Int.mul_tdiv_cancel a h0
    rw [e, e2, vv9 ha]
    have : ¬ (a = -9223372036854775808 ∧ b = -1) := by
      rintro ⟨rfl, rfl⟩
      unfold Rng at hr; omega
    simp
    intro h1 h2
    exact this ⟨h1, h2⟩
  | false =>
    have hn : ¬ Rng (a * b) := fun h => by rw [(vt4 _).2 h] at hf; cases hf
    by_cases h1 : b = -1
    · have : a = -9223372036854775808 := by
        subst h1; unfold Rng at hn ha; omega
      simp [h1, this]
    · have hb1 := vr5 (wrap64 (a * b)) b h1 (jp0 _)
      rw [vv9 hb1]
      obtain ⟨r, hr, hrb⟩ := jx9 (wrap64 (a * b)) b h0
      have : ¬ (wrap64 (a * b)).tdiv b = a := by
        intro he
        rw [he, Int.mul_comm b a] at hr
        generalize a * b = m at *
        unfold Rng at *
        unfold wrap64 at hr
        omega
      simp [this]
theorem div_test {a b : Int} (ha : Rng a) : (a == -9223372036854775808 && b == -1) = !vp9 (a.tdiv b) := by
  by_cases h1 : b = -1
  · subst h1
    have e : a.tdiv (-1) = -a := by rw [Int.tdiv_neg, Int.tdiv_one]
    rw [e, Bool.eq_iff_iff]; simp [vp9]; unfold Rng at ha; omega
  · have := (vt4 _).2 (vr5 a b h1 ha)
    rw [this]; simp; intro _; exact h1
end
section
set_option maxHeartbeats 400000 in
theorem least_any (a b : Int) (w : World) :
    Calls Tryz.prog 198 #[.int .i64 a, .int .i64 b] w fun e w' => e = .returned (.bool (a == -9223372036854775808 && b == -1)) ∧ w' = w := by
  go_enter Tryz.func198, Tryz.ntmps198
  go_wp2_with fail
  all_goals (go_ret; exact ⟨qe3 (by simp <;> omega), rfl⟩)
theorem qw0 {a b : Int} {v : Bool} (h : (a == -9223372036854775808 && b == -1) = v) (w : World) :
    Calls Tryz.prog 198 #[.int .i64 a, .int .i64 b] w fun e w' => e = .returned (.bool v) ∧ w' = w := by
  rw [← h]; exact least_any a b w
set_option maxHeartbeats 400000 in
theorem jj4 (x y : V) (hx : Rng x.num) (w : World) :
    Calls Tryz.prog 157 #[vV x, vV y] w fun e w' => e = .returned (vV (divV x y)) ∧ Below w.heap.size w w' := by
  have ht := div_test (b := y.num) hx
  unfold divV
  cases hk : va5 x y with
  | true =>
    have HK := v6 hk
    clear hk
    cases h0 : (y.num == 0) with
    | true =>
      clear ht
      simp only [Bool.not_true, Bool.and_false, Bool.false_and, Bool.false_eq_true, if_false]
      conv => arg 3; simp only [vV]
      go_enter Tryz.func157, Tryz.ntmps157
      go_wp2_with (first | (go_at_call 197; refine (x7 x y _).mono ?_; rintro e w1 ⟨rfl, hb1⟩; rw [q9 HK]; obtain ⟨hc1, hf1⟩ := j5 hb1; have hz1 : w.heap.size + 2 < w1.heap.size := (by have := hb1.size; simp at this; omega)) | (go_at_call 146; refine (qc7 _).mono ?_; rintro e w2 ⟨rfl, hb2⟩; obtain ⟨hc2, hf2⟩ := j5 hb2; simp only [vV]))
      refine bodyPost_ret (by simp [results, Tryz.results157, go_sem, hc2, hc1, hz1] <;> rfl) rfl ⟨rfl, ?_⟩
      exact ((((v7 (v7 (qb2 _ _ _ _) hb1) hb2).setCell (by simp; omega) _).setCell (by simp; omega) _).setCell (by simp; omega) _)
    | false =>
      have hy0 : ¬ y.num = 0 := by simpa using h0
      cases hf : vp9 (x.num.tdiv y.num) with
      | true =>
        rw [hf, Bool.not_true] at ht
        have HL := v6 ht
        have HW := v6 (vg7 hf)
        clear ht hf
        simp only [Bool.not_false, Bool.and_self, if_true]
        conv => arg 3; simp only [vV]
        go_enter Tryz.func157, Tryz.ntmps157
        go_wp2_with (first | (go_at_call 197; refine (x7 x y _).mono ?_; rintro e w1 ⟨rfl, hb1⟩; rw [q9 HK]; obtain ⟨hc1, hf1⟩ := j5 hb1; have hz1 : w.heap.size + 2 < w1.heap.size := (by have := hb1.size; simp at this; omega)) | (go_at_call 198; refine (qw0 (q9 HL) _).mono ?_; rintro e w3 ⟨rfl, rfl⟩) | (go_at_call 103; rw [q9 HW]; refine (qp4 _ _).mono ?_; rintro e w2 ⟨rfl, hb2⟩; obtain ⟨hc2, hf2⟩ := j5 hb2; simp only [vV]))
        refine bodyPost_ret (by simp [results, Tryz.results157, go_sem, hc2, hc1, hz1] <;> rfl) rfl ⟨rfl, ?_⟩
        exact ((((v7 (v7 (qb2 _ _ _ _) hb1) hb2).setCell (by simp; omega) _).setCell (by simp; omega) _).setCell (by simp; omega) _)
      | false =>
        rw [hf, Bool.not_false] at ht
        have HL := v6 ht
        clear ht hf
        simp only [Bool.and_false, Bool.false_eq_true, if_false]
        conv => arg 3; simp only [vV]
        go_enter Tryz.func157, Tryz.ntmps157
        go_wp2_with (first | (go_at_call 197; refine (x7 x y _).mono ?_; rintro e w1 ⟨rfl, hb1⟩; rw [q9 HK]; obtain ⟨hc1, hf1⟩ := j5 hb1; have hz1 : w.heap.size + 2 < w1.heap.size := (by have := hb1.size; simp at this; omega)) | (go_at_call 198; refine (qw0 (q9 HL) _).mono ?_; rintro e w3 ⟨rfl, rfl⟩) | (go_at_call 146; refine (qc7 _).mono ?_; rintro e w2 ⟨rfl, hb2⟩; obtain ⟨hc2, hf2⟩ := j5 hb2; simp only [vV]))
        refine bodyPost_ret (by simp [results, Tryz.results157, go_sem, hc2, hc1, hz1] <;> rfl) rfl ⟨rfl, ?_⟩
        exact ((((v7 (v7 (qb2 _ _ _ _) hb1) hb2).setCell (by simp; omega) _).setCell (by simp; omega) _).setCell (by simp; omega) _)
  | false =>
    have HK := v6 hk
    clear hk ht
    simp only [Bool.false_and, Bool.false_eq_true, if_false]
    conv => arg 3; simp only [vV]
    go_enter Tryz.func157, Tryz.ntmps157
    go_wp2_with (first | (go_at_call 197; refine (x7 x y _).mono ?_; rintro e w1 ⟨rfl, hb1⟩; rw [q9 HK]; obtain ⟨hc1, hf1⟩ := j5 hb1; have hz1 : w.heap.size + 2 < w1.heap.size := (by have := hb1.size; simp at this; omega)) | (go_at_call 146; refine (qc7 _).mono ?_; rintro e w2 ⟨rfl, hb2⟩; obtain ⟨hc2, hf2⟩ := j5 hb2; simp only [vV]))
    refine bodyPost_ret (by simp [results, Tryz.results157, go_sem, hc2, hc1, hz1] <;> rfl) rfl ⟨rfl, ?_⟩
    exact ((((v7 (v7 (qb2 _ _ _ _) hb1) hb2).setCell (by simp; omega) _).setCell (by simp; omega) _).setCell (by simp; omega) _)
set_option maxHeartbeats 800000 in
theorem vv6 (x y : V) (hx : Rng x.num) (hy : Rng y.num) (w : World) :
    Calls Tryz.prog 156 #[vV x, vV y] w fun e w' => e = .returned (vV (mulV x y)) ∧ Below w.heap.size w w' := by
  unfold mulV
  cases hk : va5 x y with
  | true =>
    have HK := v6 hk
    clear hk
    cases h0 : (y.num == 0) with
    | true =>
      have hm : x.num * y.num = 0 := by have : y.num = 0 := by simpa using h0
                                        rw [this, Int.mul_zero]
      rw [hm]
      clear hm
      simp only [show vp9 0 = true from rfl, Bool.and_self, if_true]
      conv => arg 3; simp only [vV]
      go_enter Tryz.func156, Tryz.ntmps156
      go_wp2_with (first | (go_at_call 197; refine (x7 x y _).mono ?_; rintro e w1 ⟨rfl, hb1⟩; rw [q9 HK]; obtain ⟨hc1, hf1⟩ := j5 hb1; have hz1 : w.heap.size + 2 < w1.heap.size := (by have := hb1.size; simp at this; omega)) | (go_at_call 103; refine (qp4 _ _).mono ?_; rintro e w2 ⟨rfl, hb2⟩; obtain ⟨hc2, hf2⟩ := j5 hb2; simp only [vV]))
      refine bodyPost_ret (by simp [results, Tryz.results156, go_sem, hc2, hc1, hz1] <;> rfl) rfl ⟨rfl, ?_⟩
      exact ((((v7 (v7 (qb2 _ _ _ _) hb1) hb2).setCell (by simp; omega) _).setCell (by simp; omega) _).setCell (by simp; omega) _)
    | false =>
      have hy0 : ¬ y.num = 0 := by simpa using h0
      have ht := mul_test hx hy hy0
      cases hL : (x.num == -9223372036854775808 && y.num == -1) with
      | true =>
        rw [hL, Bool.true_or] at ht
        have hf : vp9 (x.num * y.num) = false := by simpa using ht.symm
        rw [hf]
        have HL := v6 hL
        clear ht hf hL
        simp only [Bool.and_false, Bool.false_eq_true, if_false]
        conv => arg 3; simp only [vV]
        go_enter Tryz.func156, Tryz.ntmps156
        go_wp2_with (first | (go_at_call 197; refine (x7 x y _).mono ?_; rintro e w1 ⟨rfl, hb1⟩; rw [q9 HK]; obtain ⟨hc1, hf1⟩ := j5 hb1; have hz1 : w.heap.size + 2 < w1.heap.size := (by have := hb1.size; simp at this; omega)))
        go_quiet ((go_at_call 198; exact Calls.quiet_of_same (qw0 (q9 HL) _)))
        go_wp2_with (first | (go_at_call 146; refine (qc7 _).mono ?_; rintro e w2 ⟨rfl, hb2'⟩; have hb2 : Below w1.heap.size w1 w2 := (below_drewN (Below.refl w1.heap.size w1) _).trans hb2'; clear hb2'; obtain ⟨hc2, hf2⟩ := j5 hb2; simp only [vV]))
        refine bodyPost_ret (by simp [results, Tryz.results156, go_sem, hc2, hc1, hz1] <;> rfl) rfl ⟨rfl, ?_⟩
        exact ((((v7 (v7 (qb2 _ _ _ _) hb1) hb2).setCell (by simp; omega) _).setCell (by simp; omega) _).setCell (by simp; omega) _)
      | false =>
        rw [hL, Bool.false_or] at ht
        have HL := v6 hL
        clear hL
        cases hf : vp9 (x.num * y.num) with
        | true =>
          rw [hf, Bool.not_true] at ht
          have ht2 : (wrap64 ((wrap64 (x.num * y.num)).tdiv y.num) != x.num) = false := ht
          have HW := v6 (vg7 hf)
          clear hf
          simp only [Bool.and_self, if_true]
          conv => arg 3; simp only [vV]
          go_enter Tryz.func156, Tryz.ntmps156
          go_wp2_with (first | (go_at_call 197; refine (x7 x y _).mono ?_; rintro e w1 ⟨rfl, hb1⟩; rw [q9 HK]; obtain ⟨hc1, hf1⟩ := j5 hb1; have hz1 : w.heap.size + 2 < w1.heap.size := (by have := hb1.size; simp at this; omega)))
          go_quiet ((go_at_call 198; exact Calls.quiet_of_same (qw0 (q9 HL) _)))
          go_wp2_with (first | (go_at_call 103; rw [q9 HW]; refine (qp4 _ _).mono ?_; rintro e w2 ⟨rfl, hb2'⟩; have hb2 : Below w1.heap.size w1 w2 := (below_drewN (Below.refl w1.heap.size w1) _).trans hb2'; clear hb2'; obtain ⟨hc2, hf2⟩ := j5 hb2; simp only [vV]))
          refine bodyPost_ret (by simp [results, Tryz.results156, go_sem, hc2, hc1, hz1] <;> rfl) rfl ⟨rfl, ?_⟩
          exact ((((v7 (v7 (qb2 _ _ _ _) hb1) hb2).setCell (by simp; omega) _).setCell (by simp; omega) _).setCell (by simp; omega) _)
        | false =>
          rw [hf, Bool.not_false] at ht
          have ht2 : (wrap64 ((wrap64 (x.num * y.num)).tdiv y.num) != x.num) = true := ht
          clear hf
          simp only [Bool.and_false, Bool.false_eq_true, if_false]
          conv => arg 3; simp only [vV]
          go_enter Tryz.func156, Tryz.ntmps156
          go_wp2_with (first | (go_at_call 197; refine (x7 x y _).mono ?_; rintro e w1 ⟨rfl, hb1⟩; rw [q9 HK]; obtain ⟨hc1, hf1⟩ := j5 hb1; have hz1 : w.heap.size + 2 < w1.heap.size := (by have := hb1.size; simp at this; omega)))
          go_quiet ((go_at_call 198; exact Calls.quiet_of_same (qw0 (q9 HL) _)))
          go_wp2_with (first | (go_at_call 146; refine (qc7 _).mono ?_; rintro e w2 ⟨rfl, hb2'⟩; have hb2 : Below w1.heap.size w1 w2 := (below_drewN (Below.refl w1.heap.size w1) _).trans hb2'; clear hb2'; obtain ⟨hc2, hf2⟩ := j5 hb2; simp only [vV]))
          refine bodyPost_ret (by simp [results, Tryz.results156, go_sem, hc2, hc1, hz1] <;> rfl) rfl ⟨rfl, ?_⟩
          exact ((((v7 (v7 (qb2 _ _ _ _) hb1) hb2).setCell (by simp; omega) _).setCell (by simp; omega) _).setCell (by simp; omega) _)
  | false =>
    have HK := v6 hk
    clear hk
    simp only [Bool.false_and, Bool.false_eq_true, if_false]
    conv => arg 3; simp only [vV]
    go_enter Tryz.func156, Tryz.ntmps156
    go_wp2_with (first | (go_at_call 197; refine (x7 x y _).mono ?_; rintro e w1 ⟨rfl, hb1⟩; rw [q9 HK]; obtain ⟨hc1, hf1⟩ := j5 hb1; have hz1 : w.heap.size + 2 < w1.heap.size := (by have := hb1.size; simp at this; omega)) | (go_at_call 146; refine (qc7 _).mono ?_; rintro e w2 ⟨rfl, hb2⟩; obtain ⟨hc2, hf2⟩ := j5 hb2; simp only [vV]))
    refine bodyPost_ret (by simp [results, Tryz.results156, go_sem, hc2, hc1, hz1] <;> rfl) rfl ⟨rfl, ?_⟩
    exact ((((v7 (v7 (qb2 _ _ _ _) hb1) hb2).setCell (by simp; omega) _).setCell (by simp; omega) _).setCell (by simp; omega) _)
end
end Go.Proofs.YtfkcaldjphakpabGreatDoor
