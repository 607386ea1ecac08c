/- Contracts of package value: sums, differences, products, quotients. Contracts of package value: products and quotients. Contracts of package value: Multiply, Divide. Contracts of package events: has, Find. digits. Contracts of package events: validName, validValue. The contract of events.Valid. -/
import Derived.Test.YtfkcaldjphakpabGreatDoorZVal1
import Derived.Deep.QuietTactic
import Derived.BigQuiet
import Derived.Test.YtfkcaldjphakpabGreatDoorP02
import Derived.Laws.IdiomStrings
import Derived.Laws.Concat
import Derived.Deep.RegionWith
namespace Go.Proofs.YtfkcaldjphakpabGreatDoor
open Go.RowKit
section
def vs5 (n : Int) : Bool := decide (-9223372036854775808 ≤ n) && decide (n ≤ 9223372036854775807)
def Rng (n : Int) : Prop := -9223372036854775808 ≤ n ∧ n ≤ 9223372036854775807
def addV (x y : V) : V := if vc4 x y && vs5 (x.num + y.num) then iV (x.num + y.num) else nV
def subV (x y : V) : V := if vc4 x y && vs5 (x.num - y.num) then iV (x.num - y.num) else nV
def mulV (x y : V) : V := if vc4 x y && vs5 (x.num * y.num) then iV (x.num * y.num) else nV
def divV (x y : V) : V := if vc4 x y && !(y.num == 0) && vs5 (x.num.tdiv y.num) then iV (x.num.tdiv y.num) else nV
theorem vh6 {n : Int} (h : vs5 n = true) : wrap64 n = n := by
  simp [vs5] at h; unfold wrap64; omega
theorem add_test {a b : Int} (ha : Rng a) (hb : Rng b) : ((decide (wrap64 (a + b) < a)) != (decide (b < 0))) = !vs5 (a + b) := by
  unfold Rng at ha hb
  rw [Bool.eq_iff_iff]
  simp [vs5, wrap64]
  omega
theorem sub_test {a b : Int} (ha : Rng a) (hb : Rng b) : ((decide (a < wrap64 (a - b))) != (decide (b < 0))) = !vs5 (a - b) := by
  unfold Rng at ha hb
  rw [Bool.eq_iff_iff]
  simp [vs5, wrap64]
  omega
set_option maxHeartbeats 400000 in
theorem jq1 (x y : V) (hx : Rng x.num) (hy : Rng y.num) (w : World) :
    Calls Tryz.prog 154 #[vV x, vV y] w fun e w' => e = .returned (vV (addV x y)) ∧ Below w.heap.size w w' := by
  have ht := add_test hx hy
  simp only [bne] at ht
  unfold addV
  cases hk : vc4 x y with
  | true =>
    have HK := v6 hk
    clear hk
    cases hf : vs5 (x.num + y.num) with
    | true =>
      rw [hf] at ht
      simp only [Bool.not_true] at ht
      have HW := v6 (vh6 hf)
      clear hf
      simp only [Bool.and_self, if_true]
      conv => arg 3; simp only [vV]
      go_enter Tryz.func154, Tryz.ntmps154
      go_wp2_with (first | (go_at_call 197; refine (x9 x y _).mono ?_; rintro e w1 ⟨rfl, hb1⟩; rw [q9 HK]; obtain ⟨hc1, hf1⟩ := j6 hb1; have hz1 : w.heap.size + 2 < w1.heap.size := (by have := hb1.size; simp at this; omega)) | (go_at_call 103; rw [q9 HW]; refine (qp6 _ _).mono ?_; rintro e w2 ⟨rfl, hb2⟩; obtain ⟨hc2, hf2⟩ := j6 hb2; simp only [vV]))
      refine bodyPost_ret (by simp [results, Tryz.results154, go_sem, hc2, hc1, hz1] <;> rfl) rfl ⟨rfl, ?_⟩
      exact ((((v7 (v7 (qb5 _ _ _ _) hb1) hb2).setCell (by simp; omega) _).setCell (by simp; omega) _).setCell (by simp; omega) _)
    | false =>
      rw [hf] at ht
      simp only [Bool.not_false] at ht
      clear hf
      simp only [Bool.and_false, Bool.false_eq_true, if_false]
      conv => arg 3; simp only [vV]
      go_enter Tryz.func154, Tryz.ntmps154
      go_wp2_with (first | (go_at_call 197; refine (x9 x y _).mono ?_; rintro e w1 ⟨rfl, hb1⟩; rw [q9 HK]; obtain ⟨hc1, hf1⟩ := j6 hb1; have hz1 : w.heap.size + 2 < w1.heap.size := (by have := hb1.size; simp at this; omega)) | (go_at_call 146; refine (qc8 _).mono ?_; rintro e w2 ⟨rfl, hb2⟩; obtain ⟨hc2, hf2⟩ := j6 hb2; simp only [vV]))
      refine bodyPost_ret (by simp [results, Tryz.results154, go_sem, hc2, hc1, hz1] <;> rfl) rfl ⟨rfl, ?_⟩
      exact ((((v7 (v7 (qb5 _ _ _ _) hb1) hb2).setCell (by simp; omega) _).setCell (by simp; omega) _).setCell (by simp; omega) _)
  | false =>
    have HK := v6 hk
    clear hk ht
    simp only [Bool.false_and, Bool.false_eq_true, if_false]
    conv => arg 3; simp only [vV]
    go_enter Tryz.func154, Tryz.ntmps154
    go_wp2_with (first | (go_at_call 197; refine (x9 x y _).mono ?_; rintro e w1 ⟨rfl, hb1⟩; rw [q9 HK]; obtain ⟨hc1, hf1⟩ := j6 hb1; have hz1 : w.heap.size + 2 < w1.heap.size := (by have := hb1.size; simp at this; omega)) | (go_at_call 146; refine (qc8 _).mono ?_; rintro e w2 ⟨rfl, hb2⟩; obtain ⟨hc2, hf2⟩ := j6 hb2; simp only [vV]))
    refine bodyPost_ret (by simp [results, Tryz.results154, go_sem, hc2, hc1, hz1] <;> rfl) rfl ⟨rfl, ?_⟩
    exact ((((v7 (v7 (qb5 _ _ _ _) hb1) hb2).setCell (by simp; omega) _).setCell (by simp; omega) _).setCell (by simp; omega) _)
set_option maxHeartbeats 400000 in
theorem vc2 (x y : V) (hx : Rng x.num) (hy : Rng y.num) (w : World) :
    Calls Tryz.prog 155 #[vV x, vV y] w fun e w' => e = .returned (vV (subV x y)) ∧ Below w.heap.size w w' := by
  have ht := sub_test hx hy
  simp only [bne] at ht
  unfold subV
  cases hk : vc4 x y with
  | true =>
    have HK := v6 hk
    clear hk
    cases hf : vs5 (x.num - y.num) with
    | true =>
      rw [hf] at ht
      simp only [Bool.not_true] at ht
      have HW := v6 (vh6 hf)
      clear hf
      simp only [Bool.and_self, if_true]
      conv => arg 3; simp only [vV]
      go_enter Tryz.func155, Tryz.ntmps155
      go_wp2_with (first | (go_at_call 197; refine (x9 x y _).mono ?_; rintro e w1 ⟨rfl, hb1⟩; rw [q9 HK]; obtain ⟨hc1, hf1⟩ := j6 hb1; have hz1 : w.heap.size + 2 < w1.heap.size := (by have := hb1.size; simp at this; omega)) | (go_at_call 103; rw [q9 HW]; refine (qp6 _ _).mono ?_; rintro e w2 ⟨rfl, hb2⟩; obtain ⟨hc2, hf2⟩ := j6 hb2; simp only [vV]))
      refine bodyPost_ret (by simp [results, Tryz.results155, go_sem, hc2, hc1, hz1] <;> rfl) rfl ⟨rfl, ?_⟩
      exact ((((v7 (v7 (qb5 _ _ _ _) hb1) hb2).setCell (by simp; omega) _).setCell (by simp; omega) _).setCell (by simp; omega) _)
    | false =>
      rw [hf] at ht
      simp only [Bool.not_false] at ht
      clear hf
      simp only [Bool.and_false, Bool.false_eq_true, if_false]
      conv => arg 3; simp only [vV]
      go_enter Tryz.func155, Tryz.ntmps155
      go_wp2_with (first | (go_at_call 197; refine (x9 x y _).mono ?_; rintro e w1 ⟨rfl, hb1⟩; rw [q9 HK]; obtain ⟨hc1, hf1⟩ := j6 hb1; have hz1 : w.heap.size + 2 < w1.heap.size := (by have := hb1.size; simp at this; omega)) | (go_at_call 146; refine (qc8 _).mono ?_; rintro e w2 ⟨rfl, hb2⟩; obtain ⟨hc2, hf2⟩ := j6 hb2; simp only [vV]))
      refine bodyPost_ret (by simp [results, Tryz.results155, go_sem, hc2, hc1, hz1] <;> rfl) rfl ⟨rfl, ?_⟩
      exact ((((v7 (v7 (qb5 _ _ _ _) hb1) hb2).setCell (by simp; omega) _).setCell (by simp; omega) _).setCell (by simp; omega) _)
  | false =>
    have HK := v6 hk
    clear hk ht
    simp only [Bool.false_and, Bool.false_eq_true, if_false]
    conv => arg 3; simp only [vV]
    go_enter Tryz.func155, Tryz.ntmps155
    go_wp2_with (first | (go_at_call 197; refine (x9 x y _).mono ?_; rintro e w1 ⟨rfl, hb1⟩; rw [q9 HK]; obtain ⟨hc1, hf1⟩ := j6 hb1; have hz1 : w.heap.size + 2 < w1.heap.size := (by have := hb1.size; simp at this; omega)) | (go_at_call 146; refine (qc8 _).mono ?_; rintro e w2 ⟨rfl, hb2⟩; obtain ⟨hc2, hf2⟩ := j6 hb2; simp only [vV]))
    refine bodyPost_ret (by simp [results, Tryz.results155, go_sem, hc2, hc1, hz1] <;> rfl) rfl ⟨rfl, ?_⟩
    exact ((((v7 (v7 (qb5 _ _ _ _) hb1) hb2).setCell (by simp; omega) _).setCell (by simp; omega) _).setCell (by simp; omega) _)
end
section
theorem ju0 (p b : Int) (hb : b ≠ 0) : ∃ r, p = b * p.tdiv b + r ∧ r.natAbs < b.natAbs := by
  refine ⟨p.tmod b, (Int.mul_tdiv_add_tmod p b).symm, ?_⟩
  rw [Int.natAbs_tmod]
  exact Nat.mod_lt _ (Int.natAbs_pos.2 hb)
theorem vr0 (p b : Int) (hb1 : b ≠ -1) (hp : Rng p) : Rng (p.tdiv b) := by
  have h := Int.natAbs_tdiv_le_natAbs p b
  unfold Rng at hp ⊢
  by_cases hm : p = -9223372036854775808
  · by_cases h1 : b = 1
    · rw [h1, Int.tdiv_one]; exact hp
    · by_cases h0 : b = 0
      · rw [h0, Int.tdiv_zero]; omega
      · have h2 := Int.natAbs_tdiv p b
        have h3 : p.natAbs.div b.natAbs ≤ p.natAbs / 2 := Nat.div_le_div_left (by omega) (by omega)
        omega
  · omega
theorem vv0 {n : Int} (h : Rng n) : wrap64 n = n := by
  unfold Rng at h; unfold wrap64; omega
theorem jm5 (n : Int) : Rng (wrap64 n) := by
  unfold Rng wrap64; omega
theorem vw4 (n : Int) : vs5 n = true ↔ Rng n := by simp [vs5, Rng]
theorem mul_test {a b : Int} (ha : Rng a) (hb : Rng b) (h0 : b ≠ 0) :
    ((a == -9223372036854775808 && b == -1) || !(wrap64 ((wrap64 (a * b)).tdiv b) == a)) = !vs5 (a * b) := by
  cases hf : vs5 (a * b) with
  | true =>
    have hr := (vw4 _).1 hf
    have e : wrap64 (a * b) = a * b := vv0 hr
    have e2 : (a * b).tdiv b = a := Int.mul_tdiv_cancel a h0
    rw [e, e2, vv0 ha]
    have : ¬ (a = -9223372036854775808 ∧ b = -1) := by
      rintro ⟨rfl, rfl⟩
      unfold Rng at hr; omega
    simp
    intro h1 h2
    exact this ⟨h1, h2⟩
  | false =>
    have hn : ¬ Rng (a * b) := fun h => by rw [(vw4 _).2 h] at hf; cases hf
    by_cases h1 : b = -1
    · have : a = -9223372036854775808 := by
        subst h1; unfold Rng at hn ha; omega
      simp [h1, this]
    · have hb1 := vr0 (wrap64 (a * b)) b h1 (jm5 _)
      rw [vv0 hb1]
      obtain ⟨r, hr, hrb⟩ := ju0 (wrap64 (a * b)) b h0
      have : ¬ (wrap64 (a * b)).tdiv b = a := by
        intro he
        rw [he, Int.mul_comm b a] at hr
        generalize a * b = m at *
        unfold Rng at *
        unfold wrap64 at hr
        omega
      simp [this]
theorem div_test {a b : Int} (ha : Rng a) : (a == -9223372036854775808 && b == -1) = !vs5 (a.tdiv b) := by
  by_cases h1 : b = -1
  · subst h1
    have e : a.tdiv (-1) = -a := by rw [Int.tdiv_neg, Int.tdiv_one]
    rw [e, Bool.eq_iff_iff]; simp [vs5]; unfold Rng at ha; omega
  · have := (vw4 _).2 (vr0 a b h1 ha)
    rw [this]; simp; intro _; exact h1
end
section
set_option maxHeartbeats 400000 in
theorem least_any (a b : Int) (w : World) :
    Calls Tryz.prog 198 #[.int .i64 a, .int .i64 b] w fun e w' => e = .returned (.bool (a == -9223372036854775808 && b == -1)) ∧ w' = w := by
  go_enter Tryz.func198, Tryz.ntmps198
  go_wp2_with fail
  all_goals (go_ret; exact ⟨qf0 (by simp <;> omega), rfl⟩)
theorem qw2 {a b : Int} {v : Bool} (h : (a == -9223372036854775808 && b == -1) = v) (w : World) :
    Calls Tryz.prog 198 #[.int .i64 a, .int .i64 b] w fun e w' => e = .returned (.bool v) ∧ w' = w := by
  rw [← h]; exact least_any a b w
set_option maxHeartbeats 400000 in
theorem je7 (x y : V) (hx : Rng x.num) (w : World) :
    Calls Tryz.prog 157 #[vV x, vV y] w fun e w' => e = .returned (vV (divV x y)) ∧ Below w.heap.size w w' := by
  have ht := div_test (b := y.num) hx
  unfold divV
  cases hk : vc4 x y with
  | true =>
    have HK := v6 hk
    clear hk
    cases h0 : (y.num == 0) with
    | true =>
      clear ht
      simp only [Bool.not_true, Bool.and_false, Bool.false_and, Bool.false_eq_true, if_false]
      conv => arg 3; simp only [vV]
      go_enter Tryz.func157, Tryz.ntmps157
      go_wp2_with (first | (go_at_call 197; refine (x9 x y _).mono ?_; rintro e w1 ⟨rfl, hb1⟩; rw [q9 HK]; obtain ⟨hc1, hf1⟩ := j6 hb1; have hz1 : w.heap.size + 2 < w1.heap.size := (by have := hb1.size; simp at this; omega)) | (go_at_call 146; refine (qc8 _).mono ?_; rintro e w2 ⟨rfl, hb2⟩; obtain ⟨hc2, hf2⟩ := j6 hb2; simp only [vV]))
      refine bodyPost_ret (by simp [results, Tryz.results157, go_sem, hc2, hc1, hz1] <;> rfl) rfl ⟨rfl, ?_⟩
      exact ((((v7 (v7 (qb5 _ _ _ _) hb1) hb2).setCell (by simp; omega) _).setCell (by simp; omega) _).setCell (by simp; omega) _)
    | false =>
      have hy0 : ¬ y.num = 0 := by simpa using h0
      cases hf : vs5 (x.num.tdiv y.num) with
      | true =>
        rw [hf, Bool.not_true] at ht
        have HL := v6 ht
        have HW := v6 (vh6 hf)
        clear ht hf
        simp only [Bool.not_false, Bool.and_self, if_true]
        conv => arg 3; simp only [vV]
        go_enter Tryz.func157, Tryz.ntmps157
        go_wp2_with (first | (go_at_call 197; refine (x9 x y _).mono ?_; rintro e w1 ⟨rfl, hb1⟩; rw [q9 HK]; obtain ⟨hc1, hf1⟩ := j6 hb1; have hz1 : w.heap.size + 2 < w1.heap.size := (by have := hb1.size; simp at this; omega)) | (go_at_call 198; refine (qw2 (q9 HL) _).mono ?_; rintro e w3 ⟨rfl, rfl⟩) | (go_at_call 103; rw [q9 HW]; refine (qp6 _ _).mono ?_; rintro e w2 ⟨rfl, hb2⟩; obtain ⟨hc2, hf2⟩ := j6 hb2; simp only [vV]))
        refine bodyPost_ret (by simp [results, Tryz.results157, go_sem, hc2, hc1, hz1] <;> rfl) rfl ⟨rfl, ?_⟩
        exact ((((v7 (v7 (qb5 _ _ _ _) hb1) hb2).setCell (by simp; omega) _).setCell (by simp; omega) _).setCell (by simp; omega) _)
      | false =>
        rw [hf, Bool.not_false] at ht
        have HL := v6 ht
        clear ht hf
        simp only [Bool.and_false, Bool.false_eq_true, if_false]
        conv => arg 3; simp only [vV]
        go_enter Tryz.func157, Tryz.ntmps157
        go_wp2_with (first | (go_at_call 197; refine (x9 x y _).mono ?_; rintro e w1 ⟨rfl, hb1⟩; rw [q9 HK]; obtain ⟨hc1, hf1⟩ := j6 hb1; have hz1 : w.heap.size + 2 < w1.heap.size := (by have := hb1.size; simp at this; omega)) | (go_at_call 198; refine (qw2 (q9 HL) _).mono ?_; rintro e w3 ⟨rfl, rfl⟩) | (go_at_call 146; refine (qc8 _).mono ?_; rintro e w2 ⟨rfl, hb2⟩; obtain ⟨hc2, hf2⟩ := j6 hb2; simp only [vV]))
        refine bodyPost_ret (by simp [results, Tryz.results157, go_sem, hc2, hc1, hz1] <;> rfl) rfl ⟨rfl, ?_⟩
        exact ((((v7 (v7 (qb5 _ _ _ _) hb1) hb2).setCell (by simp; omega) _).setCell (by simp; omega) _).setCell (by simp; omega) _)
  | false =>
    have HK := v6 hk
    clear hk ht
    simp only [Bool.false_and, Bool.false_eq_true, if_false]
    conv => arg 3; simp only [vV]
    go_enter Tryz.func157, Tryz.ntmps157
    go_wp2_with (first | (go_at_call 197; refine (x9 x y _).mono ?_; rintro e w1 ⟨rfl, hb1⟩; rw [q9 HK]; obtain ⟨hc1, hf1⟩ := j6 hb1; have hz1 : w.heap.size + 2 < w1.heap.size := (by have := hb1.size; simp at this; omega)) | (go_at_call 146; refine (qc8 _).mono ?_; rintro e w2 ⟨rfl, hb2⟩; obtain ⟨hc2, hf2⟩ := j6 hb2; simp only [vV]))
    refine bodyPost_ret (by simp [results, Tryz.results157, go_sem, hc2, hc1, hz1] <;> rfl) rfl ⟨rfl, ?_⟩
    exact ((((v7 (v7 (qb5 _ _ _ _) hb1) hb2).setCell (by simp; omega) _).setCell (by simp; omega) _).setCell (by simp; omega) _)
set_option maxHeartbeats 800000 in
theorem vw7 (x y : V) (hx : Rng x.num) (hy : Rng y.num) (w : World) :
    Calls Tryz.prog 156 #[vV x, vV y] w fun e w' => e = .returned (vV (mulV x y)) ∧ Below w.heap.size w w' := by
  unfold mulV
  cases hk : vc4 x y with
  | true =>
    have HK := v6 hk
    clear hk
    cases h0 : (y.num == 0) with
    | true =>
      have hm : x.num * y.num = 0 := by have : y.num = 0 := by simpa using h0
                                        rw [this, Int.mul_zero]
      rw [hm]
      clear hm
      simp only [show vs5 0 = true from rfl, Bool.and_self, if_true]
      conv => arg 3; simp only [vV]
      go_enter Tryz.func156, Tryz.ntmps156
      go_wp2_with (first | (go_at_call 197; refine (x9 x y _).mono ?_; rintro e w1 ⟨rfl, hb1⟩; rw [q9 HK]; obtain ⟨hc1, hf1⟩ := j6 hb1; have hz1 : w.heap.size + 2 < w1.heap.size := (by have := hb1.size; simp at this; omega)) | (go_at_call 103; refine (qp6 _ _).mono ?_; rintro e w2 ⟨rfl, hb2⟩; obtain ⟨hc2, hf2⟩ := j6 hb2; simp only [vV]))
      refine bodyPost_ret (by simp [results, Tryz.results156, go_sem, hc2, hc1, hz1] <;> rfl) rfl ⟨rfl, ?_⟩
      exact ((((v7 (v7 (qb5 _ _ _ _) hb1) hb2).setCell (by simp; omega) _).setCell (by simp; omega) _).setCell (by simp; omega) _)
    | false =>
      have hy0 : ¬ y.num = 0 := by simpa using h0
      have ht := mul_test hx hy hy0
      cases hL : (x.num == -9223372036854775808 && y.num == -1) with
      | true =>
        rw [hL, Bool.true_or] at ht
        have hf : vs5 (x.num * y.num) = false := by simpa using ht.symm
        rw [hf]
        have HL := v6 hL
        clear ht hf hL
        simp only [Bool.and_false, Bool.false_eq_true, if_false]
        conv => arg 3; simp only [vV]
        go_enter Tryz.func156, Tryz.ntmps156
        go_wp2_with (first | (go_at_call 197; refine (x9 x y _).mono ?_; rintro e w1 ⟨rfl, hb1⟩; rw [q9 HK]; obtain ⟨hc1, hf1⟩ := j6 hb1; have hz1 : w.heap.size + 2 < w1.heap.size := (by have := hb1.size; simp at this; omega)))
        go_quiet ((go_at_call 198; exact Calls.quiet_of_same (qw2 (q9 HL) _)))
        go_wp2_with (first | (go_at_call 146; refine (qc8 _).mono ?_; rintro e w2 ⟨rfl, hb2'⟩; have hb2 : Below w1.heap.size w1 w2 := (below_drewN (Below.refl w1.heap.size w1) _).trans hb2'; clear hb2'; obtain ⟨hc2, hf2⟩ := j6 hb2; simp only [vV]))
        refine bodyPost_ret (by simp [results, Tryz.results156, go_sem, hc2, hc1, hz1] <;> rfl) rfl ⟨rfl, ?_⟩
        exact ((((v7 (v7 (qb5 _ _ _ _) hb1) hb2).setCell (by simp; omega) _).setCell (by simp; omega) _).setCell (by simp; omega) _)
      | false =>
        rw [hL, Bool.false_or] at ht
        have HL := v6 hL
        clear hL
        cases hf : vs5 (x.num * y.num) with
        | true =>
          rw [hf, Bool.not_true] at ht
          have ht2 : (wrap64 ((wrap64 (x.num * y.num)).tdiv y.num) != x.num) = false := ht
          have HW := v6 (vh6 hf)
          clear hf
          simp only [Bool.and_self, if_true]
          conv => arg 3; simp only [vV]
          go_enter Tryz.func156, Tryz.ntmps156
          go_wp2_with (first | (go_at_call 197; refine (x9 x y _).mono ?_; rintro e w1 ⟨rfl, hb1⟩; rw [q9 HK]; obtain ⟨hc1, hf1⟩ := j6 hb1; have hz1 : w.heap.size + 2 < w1.heap.size := (by have := hb1.size; simp at this; omega)))
          go_quiet ((go_at_call 198; exact Calls.quiet_of_same (qw2 (q9 HL) _)))
          go_wp2_with (first | (go_at_call 103; rw [q9 HW]; refine (qp6 _ _).mono ?_; rintro e w2 ⟨rfl, hb2'⟩; have hb2 : Below w1.heap.size w1 w2 := (below_drewN (Below.refl w1.heap.size w1) _).trans hb2'; clear hb2'; obtain ⟨hc2, hf2⟩ := j6 hb2; simp only [vV]))
          refine bodyPost_ret (by simp [results, Tryz.results156, go_sem, hc2, hc1, hz1] <;> rfl) rfl ⟨rfl, ?_⟩
          exact ((((v7 (v7 (qb5 _ _ _ _) hb1) hb2).setCell (by simp; omega) _).setCell (by simp; omega) _).setCell (by simp; omega) _)
        | false =>
          rw [hf, Bool.not_false] at ht
          have ht2 : (wrap64 ((wrap64 (x.num * y.num)).tdiv y.num) != x.num) = true := ht
          clear hf
          simp only [Bool.and_false, Bool.false_eq_true, if_false]
          conv => arg 3; simp only [vV]
          go_enter Tryz.func156, Tryz.ntmps156
          go_wp2_with (first | (go_at_call 197; refine (x9 x y _).mono ?_; rintro e w1 ⟨rfl, hb1⟩; rw [q9 HK]; obtain ⟨hc1, hf1⟩ := j6 hb1; have hz1 : w.heap.size + 2 < w1.heap.size := (by have := hb1.size; simp at this; omega)))
          go_quiet ((go_at_call 198; exact Calls.quiet_of_same (qw2 (q9 HL) _)))
          go_wp2_with (first | (go_at_call 146; refine (qc8 _).mono ?_; rintro e w2 ⟨rfl, hb2'⟩; have hb2 : Below w1.heap.size w1 w2 := (below_drewN (Below.refl w1.heap.size w1) _).trans hb2'; clear hb2'; obtain ⟨hc2, hf2⟩ := j6 hb2; simp only [vV]))
          refine bodyPost_ret (by simp [results, Tryz.results156, go_sem, hc2, hc1, hz1] <;> rfl) rfl ⟨rfl, ?_⟩
          exact ((((v7 (v7 (qb5 _ _ _ _) hb1) hb2).setCell (by simp; omega) _).setCell (by simp; omega) _).setCell (by simp; omega) _)
  | false =>
    have HK := v6 hk
    clear hk
    simp only [Bool.false_and, Bool.false_eq_true, if_false]
    conv => arg 3; simp only [vV]
    go_enter Tryz.func156, Tryz.ntmps156
    go_wp2_with (first | (go_at_call 197; refine (x9 x y _).mono ?_; rintro e w1 ⟨rfl, hb1⟩; rw [q9 HK]; obtain ⟨hc1, hf1⟩ := j6 hb1; have hz1 : w.heap.size + 2 < w1.heap.size := (by have := hb1.size; simp at this; omega)) | (go_at_call 146; refine (qc8 _).mono ?_; rintro e w2 ⟨rfl, hb2⟩; obtain ⟨hc2, hf2⟩ := j6 hb2; simp only [vV]))
    refine bodyPost_ret (by simp [results, Tryz.results156, go_sem, hc2, hc1, hz1] <;> rfl) rfl ⟨rfl, ?_⟩
    exact ((((v7 (v7 (qb5 _ _ _ _) hb1) hb2).setCell (by simp; omega) _).setCell (by simp; omega) _).setCell (by simp; omega) _)
end
section
structure Pr where
  name : List UInt8
  val : V
def EvAt (w : World) (b off : Nat) (ps : List Pr) : Prop := ∀ (k : Nat) (p : Pr), ps[k]? = some p →
  w.cell? ⟨b, off + k * 4, none⟩ = some (.string (BS p.name)) ∧ w.cell? ⟨b, off + k * 4 + 1, none⟩ = some (.int .i64 p.val.kind) ∧
  w.cell? ⟨b, off + k * 4 + 2, none⟩ = some (.int .i64 p.val.num) ∧ w.cell? ⟨b, off + k * 4 + 3, none⟩ = some (.string (BS p.val.str))
def jh4 (ps : List Pr) (n : List UInt8) : Bool := ps.any fun p => p.name == n
theorem x3 {a w : World} (h : Below a.heap.size a w) (o : Obj) : Below a.heap.size a (w.alloc o) := h.alloc h.size o
theorem EvAt.below {w w' : World} {b off : Nat} {ps : List Pr} (h : EvAt w b off ps) (hb : Below w.heap.size w w') (hlt : b < w.heap.size) : EvAt w' b off ps := by
  intro k p hk
  obtain ⟨h1, h2, h3, h4⟩ := h k p hk
  exact ⟨(hb.cell hlt).trans h1, (hb.cell hlt).trans h2, (hb.cell hlt).trans h3, (hb.cell hlt).trans h4⟩
theorem any_drop {ps : List Pr} {n : List UInt8} {k : Nat} {p : Pr} (h : ps[k]? = some p) : jh4 (ps.drop k) n = (p.name == n || jh4 (ps.drop (k + 1)) n) := by
  obtain ⟨hk, he⟩ := List.getElem?_eq_some_iff.1 h
  unfold jh4
  rw [List.drop_eq_getElem_cons hk, List.any_cons, he]
set_option maxHeartbeats 400000 in
theorem has_any (b off cap : Nat) (ps : List Pr) (s : ByteArray) (w : World) (hps : ps.length ≤ 8) (hw : EvAt w b off ps) (hlt : b < w.heap.size) :
    Calls Tryz.prog 66 #[.slice (some ⟨b, off, none⟩) ps.length cap, .string s] w fun e w' => e = .returned (.bool (jh4 ps s.data.toList)) ∧ Below w.heap.size w w' := by
  go_enter Tryz.func66, Tryz.ntmps66
  go_wp2_with fail
  go_loopw [6, 9] (fun _ i wr => ∃ k : Nat, k ≤ ps.length ∧ i = .int .i64 k ∧ Hid (jh4 ps s.data.toList = jh4 (ps.drop k) s.data.toList) ∧ Below w.heap.size w wr) (fun _ i _ => ps.length - (intOf i).toNat)
  case atStart => exact ⟨0, Nat.zero_le _, rfl, v6 (by rw [List.drop_zero]), Below.refl _ _⟩
  case round =>
    obtain ⟨k, hk, rfl, hh, hb⟩ := hrel
    by_cases hlt2 : k < ps.length
    · obtain ⟨p, hp⟩ : ∃ p, ps[k]? = some p := ⟨_, List.getElem?_eq_getElem hlt2⟩
      obtain ⟨h1, h2, h3, h4⟩ := (hw.below hb hlt) k p hp
      have hA := any_drop (n := s.data.toList) hp
      have hst : ((BS p.name).toList == s.toList) = (p.name == s.data.toList) := by rw [qn4, Lib.toList_data]
      cases he : (p.name == s.data.toList) with
      | true =>
        rw [he, Bool.true_or] at hA
        rw [he] at hst
        have HT : Hid (jh4 ps s.data.toList = true) := v6 (by rw [q9 hh, hA])
        clear hA hp he hh
        go_wp2_with fail
        go_ret
        exact ⟨qf0 (by rw [q9 HT]), x3 hb _⟩
      | false =>
        rw [he, Bool.false_or] at hA
        rw [he] at hst
        have HT : Hid (jh4 ps s.data.toList = jh4 (ps.drop (k + 1)) s.data.toList) := v6 (by rw [q9 hh, hA])
        clear hA hp he hh
        go_wp2_with fail
        exact ⟨⟨k + 1, by omega, by go_num, HT, x3 hb _⟩, by simp [intOf]; omega⟩
    · have HT : Hid (jh4 ps s.data.toList = false) := v6 (by rw [q9 hh, List.drop_of_length_le (by omega)]; rfl)
      clear hh
      go_wp2_with fail
      go_ret
      exact ⟨qf0 (by rw [q9 HT]), hb⟩
def qy6 (ps : List Pr) (n : List UInt8) : V := match ps.find? fun p => p.name == n with
  | some p => p.val
  | none => nV
theorem find_drop {ps : List Pr} {n : List UInt8} {k : Nat} {p : Pr} (h : ps[k]? = some p) : qy6 (ps.drop k) n = if p.name == n then p.val else qy6 (ps.drop (k + 1)) n := by
  obtain ⟨hk, he⟩ := List.getElem?_eq_some_iff.1 h
  unfold qy6
  rw [List.drop_eq_getElem_cons hk, he, List.find?_cons]
  cases p.name == n <;> rfl
set_option maxHeartbeats 400000 in
theorem find_any (b off cap : Nat) (ps : List Pr) (s : ByteArray) (w : World) (hps : ps.length ≤ 8) (hw : EvAt w b off ps) (hlt : b < w.heap.size) :
    Calls Tryz.prog 102 #[.slice (some ⟨b, off, none⟩) ps.length cap, .string s] w fun e w' => e = .returned (vV (qy6 ps s.data.toList)) ∧ Below w.heap.size w w' := by
  obtain ⟨F, hF⟩ : ∃ f, qy6 ps s.data.toList = f := ⟨_, rfl⟩
  rw [hF]
  have HF := v6 hF
  clear hF
  go_enter Tryz.func102, Tryz.ntmps102
  go_wp2_with fail
  go_loopw [6, 9] (fun _ i wr => ∃ k : Nat, k ≤ ps.length ∧ i = .int .i64 k ∧ Hid (F = qy6 (ps.drop k) s.data.toList) ∧ Below (w.heap.size + 1) (w.alloc (.cells #[.int .i64 0, .int .i64 0, .string ⟨#[]⟩] 118)) wr) (fun _ i _ => ps.length - (intOf i).toNat)
  case atStart => exact ⟨0, Nat.zero_le _, rfl, v6 (by rw [List.drop_zero, q9 HF]), Below.refl _ _⟩
  case round =>
    obtain ⟨k, hk, rfl, hh, hb⟩ := hrel
    have hb' : Below (w.alloc (.cells #[.int .i64 0, .int .i64 0, .string ⟨#[]⟩] 118)).heap.size (w.alloc (.cells #[.int .i64 0, .int .i64 0, .string ⟨#[]⟩] 118)) wr := by simpa using hb
    have hbw := qc4 hb'
    obtain ⟨hc0, hf0⟩ := j6 hb'
    have hz0 : w.heap.size < wr.heap.size := by have := hb'.size; simp at this; omega
    by_cases hlt2 : k < ps.length
    · obtain ⟨p, hp⟩ : ∃ p, ps[k]? = some p := ⟨_, List.getElem?_eq_getElem hlt2⟩
      obtain ⟨h1, h2, h3, h4⟩ := hw k p hp
      have hA := find_drop (n := s.data.toList) hp
      have hst : ((BS p.name).toList == s.toList) = (p.name == s.data.toList) := by rw [qn4, Lib.toList_data]
      cases he : (p.name == s.data.toList) with
      | true =>
        rw [he, if_pos rfl] at hA
        rw [he] at hst
        have HT : Hid (F = p.val) := v6 (by rw [q9 hh, hA])
        clear hA hp he hh
        go_wp2_with fail
        refine bodyPost_ret (by simp [results, Tryz.results102, go_sem, hc0, hz0] <;> rfl) rfl ⟨?_, ?_⟩
        · rw [q9 HT]; rfl
        · exact x3 (((hbw.setCell (by simp) _).setCell (by simp) _).setCell (by simp) _) _
      | false =>
        rw [he, if_neg (by simp)] at hA
        rw [he] at hst
        have HT : Hid (F = qy6 (ps.drop (k + 1)) s.data.toList) := v6 (by rw [q9 hh, hA])
        clear hA hp he hh
        go_wp2_with fail
        exact ⟨⟨k + 1, by omega, by go_num, HT, hb.alloc (by omega) _⟩, by simp [intOf]; omega⟩
    · have HT : Hid (F = nV) := v6 (by rw [q9 hh, List.drop_of_length_le (by omega)]; rfl)
      clear hh
      go_wp2_with fail
      refine bodyPost_ret (by simp [results, Tryz.results102, go_sem, hc0] <;> rfl) rfl ⟨?_, ?_⟩
      · rw [q9 HT]; rfl
      · exact ((hbw.setCell (by simp) _).setCell (by simp) _).setCell (by simp) _
theorem jy1 (a : Option Addr) (cap : Nat) (s : ByteArray) (w : World) :
    Calls Tryz.prog 102 #[.slice a 0 cap, .string s] w fun e w' => e = .returned (vV nV) ∧ Below w.heap.size w w' := by
  go_enter Tryz.func102, Tryz.ntmps102
  go_wp2_with fail
  refine wp_loop_rounds 1 ?_
  rw [rounds_succ]
  go_wp2_with fail
  refine bodyPost_ret (by simp [results, Tryz.results102, go_sem] <;> rfl) rfl ⟨rfl, (Below.refl _ _).alloc (Nat.le_refl _) _⟩
def qv1 (n : List UInt8) : Bool := decide (n.length ≤ 16) && nameB n
def vv9 (v : V) : Bool :=
  if v.kind == 0 then v.num == 0 && v.str.isEmpty
  else if v.kind == 1 then (v.num == 0 || v.num == 1) && v.str.isEmpty
  else if v.kind == 2 then v.str.isEmpty
  else if v.kind == 3 then v.num == 0 && decide (v.str.length ≤ 20)
  else false
end
section
def dig (n : Nat) : UInt8 := UInt8.ofNat (48 + n % 10)
theorem qk7 (a b : List UInt8) : BS a ++ BS b = BS (a ++ b) := by
  apply ByteArray.ext
  show (BS a ++ BS b).data = _
  rw [ByteArray.data_append]
  simp [BS]
end
section
set_option maxHeartbeats 400000 in
theorem qk2 (s : ByteArray) (hs : s.size ≤ 140737488355328) (w : World) :
    Calls Tryz.prog 64 #[.string s] w fun e w' => e = .returned (.bool (qv1 s.data.toList)) ∧ Below w.heap.size w w' := by
  unfold qv1
  rw [qb3]
  obtain ⟨nb, hn⟩ : ∃ nb, nameB s.data.toList = nb := ⟨_, rfl⟩
  rw [hn]
  have HN := v6 hn
  clear hn
  by_cases h : s.size ≤ 16
  · go_enter Tryz.func64, Tryz.ntmps64
    go_wp2_with (go_at_call 97; refine (jz2 _ hs _).mono ?_; rintro e w' ⟨rfl, hb⟩; rw [q9 HN])
    all_goals (go_ret; exact ⟨qf0 (by simp_all), by assumption⟩)
  · go_enter Tryz.func64, Tryz.ntmps64
    go_wp2_with fail
    go_ret
    exact ⟨qf0 (by simp <;> omega), Below.refl _ _⟩
theorem BS_empty (l : List UInt8) : (BS l).toList.isEmpty = l.isEmpty := by rw [qn4]
set_option maxHeartbeats 400000 in
theorem qm5 (v : V) (hv : v.str.length ≤ 140737488355328) (w : World) :
    Calls Tryz.prog 65 #[vV v] w fun e w' => e = .returned (.bool (vv9 v)) ∧ Below w.heap.size w w' := by
  have he := BS_empty v.str
  have hz := qc1 v.str
  unfold vv9
  obtain ⟨em, hem⟩ : ∃ em, v.str.isEmpty = em := ⟨_, rfl⟩
  rw [hem] at he ⊢
  clear hem
  conv => arg 3; simp only [vV]
  cases h0 : (v.kind == 0)
  · cases h1 : (v.kind == 1)
    · cases h2 : (v.kind == 2)
      · cases h3 : (v.kind == 3)
        · simp only [Bool.false_eq_true, if_false]
          go_enter Tryz.func65, Tryz.ntmps65
          go_wp2_with fail
          go_ret
          exact ⟨rfl, (Below.refl _ _).alloc (Nat.le_refl _) _⟩
        · simp only [Bool.false_eq_true, if_false, if_true]
          go_enter Tryz.func65, Tryz.ntmps65
          go_wp2_with fail
          all_goals (go_ret; exact ⟨qf0 (by simp_all <;> omega), (Below.refl _ _).alloc (Nat.le_refl _) _⟩)
      · simp only [Bool.false_eq_true, if_false, if_true]
        go_enter Tryz.func65, Tryz.ntmps65
        go_wp2_with fail
        all_goals (go_ret; exact ⟨qf0 (by simp_all <;> omega), (Below.refl _ _).alloc (Nat.le_refl _) _⟩)
    · simp only [Bool.false_eq_true, if_false, if_true]
      go_enter Tryz.func65, Tryz.ntmps65
      go_wp2_with fail
      all_goals (go_ret; exact ⟨qf0 (by simp_all <;> omega), (Below.refl _ _).alloc (Nat.le_refl _) _⟩)
  · simp only [if_true]
    go_enter Tryz.func65, Tryz.ntmps65
    go_wp2_with fail
    all_goals (go_ret; exact ⟨qf0 (by simp_all <;> omega), (Below.refl _ _).alloc (Nat.le_refl _) _⟩)
end
section
def za7 (ps : List Pr) (k : Nat) : Bool := match ps[k]? with
  | some p => qv1 p.name && vv9 p.val && !jh4 (ps.take k) p.name
  | none => true
def vf9 (ps : List Pr) : Bool := decide (ps.length ≤ 8) && (List.range ps.length).all (za7 ps)
theorem evOk_long {ps : List Pr} (h : ¬ ps.length ≤ 8) : vf9 ps = false := by unfold vf9; rw [decide_eq_false h]; rfl
theorem evOk_good {ps : List Pr} (h8 : ps.length ≤ 8) (h : ∀ j, j < ps.length → za7 ps j = true) : vf9 ps = true := by
  unfold vf9
  rw [decide_eq_true h8, Bool.true_and, List.all_eq_true]
  exact fun j hj => h j (List.mem_range.1 hj)
theorem EvAt.take {w : World} {b off : Nat} {ps : List Pr} (h : EvAt w b off ps) (k : Nat) : EvAt w b off (ps.take k) := by
  intro j p hj
  rw [List.getElem?_take] at hj
  split at hj
  · exact h j p hj
  · cases hj
def Short (ps : List Pr) : Prop := ∀ p ∈ ps, p.name.length ≤ 140737488355328 ∧ p.val.str.length ≤ 140737488355328
theorem has_k {qs : List Pr} {k : Nat} (hq : qs.length = k) (cap : Nat) {b off : Nat} (s : ByteArray) (w : World) (hk : k ≤ 8) (hw : EvAt w b off qs) (hlt : b < w.heap.size) :
    Calls Tryz.prog 66 #[.slice (some ⟨b, off, none⟩) k cap, .string s] w fun e w' => e = .returned (.bool (jh4 qs s.data.toList)) ∧ Below w.heap.size w w' := by
  subst hq; exact has_any b off cap qs s w hk hw hlt
theorem EvAt.later {w W w1 w2 : World} {b off : Nat} {ps : List Pr} {o : Obj} (h : EvAt w b off ps) (hW : W = (w.alloc o).drew) (hlt : b < w.heap.size) (hb1 : Below W.heap.size W w1) (hb2 : Below w1.heap.size w1 w2) : EvAt w2 b off ps := by
  subst hW
  have h1 : EvAt (w.alloc o).drew b off ps := h.below ((Below.refl _ _).alloc (Nat.le_refl _) o).drew hlt
  have hlt1 : b < (w.alloc o).drew.heap.size := by show b < (w.alloc o).heap.size; simp; omega
  exact (h1.below hb1 hlt1).below hb2 (Nat.lt_of_lt_of_le hlt1 hb1.size)
set_option maxHeartbeats 1000000 in
theorem jx1 (b off cap : Nat) (ps : List Pr) (w : World) (hcap : ps.length ≤ cap) (hbig : ps.length ≤ 140737488355328) (hsh : Short ps) (hw : EvAt w b off ps) (hlt : b < w.heap.size) (hok : vf9 ps = true) :
    Calls Tryz.prog 40 #[.slice (some ⟨b, off, none⟩) ps.length cap] w fun e w' => e = .returned (.bool true) ∧ Below w.heap.size w w' := by
  obtain ⟨h8, hg⟩ : ps.length ≤ 8 ∧ ∀ j, j < ps.length → za7 ps j = true := by
    unfold vf9 at hok
    rw [Bool.and_eq_true, decide_eq_true_eq, List.all_eq_true] at hok
    exact ⟨hok.1, fun j hj => hok.2 j (List.mem_range.2 hj)⟩
  have HG := v6 hg
  clear hg hok
  go_enter Tryz.func40, Tryz.ntmps40
  go_wp2_with fail
  go_loopw [3, 4, 10] (fun _ _ i wr => ∃ k : Nat, k ≤ ps.length ∧ i = .int .i64 k ∧ Hid (∀ j, j < k → za7 ps j = true) ∧ Below w.heap.size w wr) (fun _ _ i _ => ps.length - (intOf i).toNat)
  case atStart => exact ⟨0, Nat.zero_le _, rfl, v6 (fun j hj => absurd hj (by omega)), Below.refl _ _⟩
  case round =>
    obtain ⟨k, hk, rfl, hh, hb⟩ := hrel
    by_cases hlt2 : k < ps.length
    · obtain ⟨p, hp⟩ : ∃ p, ps[k]? = some p := ⟨_, List.getElem?_eq_getElem hlt2⟩
      have hwr := hw.below hb hlt
      have hltr : b < wr.heap.size := Nat.lt_of_lt_of_le hlt hb.size
      obtain ⟨h1, h2, h3, h4⟩ := hwr k p hp
      obtain ⟨hs1, hs2⟩ := hsh p (List.mem_of_getElem? hp)
      have hok : za7 ps k = (qv1 p.name && vv9 p.val && !jh4 (ps.take k) p.name) := by unfold za7; rw [hp]
      have htl : (ps.take k).length = k := by rw [List.length_take]; omega
      have HTK := v6 (hwr.take k)
      have HL := v6 htl
      clear hp hwr htl
      have hall := q9 HG k hlt2
      rw [hok] at hall
      simp only [Bool.and_eq_true, Bool.not_eq_true'] at hall
      obtain ⟨⟨hn, hv⟩, hx⟩ := hall
      have HN := v6 hn
      have HV := v6 hv
      have HOK : Hid (∀ j, j < k + 1 → za7 ps j = true) := v6 (fun j hj => by
        by_cases hjk : j < k
        · exact q9 hh j hjk
        · have : j = k := by omega
          rw [this, hok, hn, hv, hx]; rfl)
      have HH := v6 hx
      clear hn hok hv hx
      go_wp2_with fail
      go_region_with (first | (go_at_call 64; refine (qk2 _ (by exact hs1) _).mono ?_; rintro e w1 ⟨rfl, hb1⟩; rw [show qv1 (BS p.name).data.toList = true from q9 HN]; obtain ⟨hc1, hf1⟩ := j6 hb1; have hz1 : wr.heap.size < w1.heap.size := (by have := hb1.size; simp at this; omega); have hB1 : Below w.heap.size w w1 := v7 (x3 hb _).drew hb1) | (go_at_call 65; refine (qm5 p.val hs2 _).mono ?_; rintro e w2 ⟨rfl, hb2⟩; rw [q9 HV]; obtain ⟨hc2, hf2⟩ := j6 hb2; have hz2 : wr.heap.size < w2.heap.size := (by have := hb2.size; omega); have hB2 : Below w.heap.size w w2 := v7 hB1 hb2) | (go_at_call 66; refine (has_k (q9 HL) cap (BS p.name) _ (by omega) (by exact (q9 HTK).later rfl hltr hb1 hb2) (by omega)).mono ?_; rintro e w3 ⟨rfl, hb3⟩; rw [show jh4 (ps.take k) (BS p.name).data.toList = false from q9 HH]; have hB3 : Below w.heap.size w w3 := v7 hB2 hb3))
      all_goals (go_wp2_with fail)
      all_goals exact ⟨⟨k + 1, by omega, by go_num, HOK, hB3⟩, by simp [intOf]; omega⟩
    · clear hh
      go_wp2_with fail
      go_ret
      exact ⟨rfl, hb⟩
end
end Go.Proofs.YtfkcaldjphakpabGreatDoor
