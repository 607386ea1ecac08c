/- The five texts of Sums: what they are, and what these are of x and y. -/
import Derived.Test.YtfkcaldjphakpaaGreatDoorOfC
import Derived.Test.YtfkcaldjphakpaaGreatDoorRfA
namespace Go.Proofs.YtfkcaldjphakpaaGreatDoor
open Go.RowKit

def lf (op place num : Int) (str : List UInt8) : Ast := .leaf ⟨op, place, num, str, [], []⟩
def bn (op place : Int) (x y : Ast) : Ast := .bin ⟨op, place, 0, [], [], []⟩ x y
def nx (pl : Int) : Ast := lf 0 pl 0 [120]
def ny (pl : Int) : Ast := lf 0 pl 0 [121]

def text1 : ByteArray := ⟨#[120, 32, 43, 32, 121, 32, 62, 32, 55]⟩
def ast1 : Ast := bn 12 6 (bn 16 2 (nx 0) (ny 4)) (lf 1 8 7 [])
def text2 : ByteArray := ⟨#[120, 32, 43, 32, 121, 32, 45, 32, 121, 32, 61, 32, 120]⟩
def ast2 : Ast := bn 8 10 (bn 17 6 (bn 16 2 (nx 0) (ny 4)) (ny 8)) (nx 12)
def text3 : ByteArray := ⟨#[120, 32, 45, 32, 120, 32, 47, 32, 121, 32, 42, 32, 121, 32, 60, 32, 121, 32, 79, 82, 32, 120, 32, 45, 32, 120, 32, 47, 32, 121, 32, 42, 32, 121, 32, 62, 61, 32, 121, 32, 79, 82, 32, 70, 65, 76, 83, 69]⟩
def ast3 : Ast := bn 7 40 (bn 7 18 (bn 10 14 (bn 17 2 (nx 0) (bn 18 10 (bn 19 6 (nx 4) (ny 8)) (ny 12))) (ny 16)) (bn 13 35 (bn 17 23 (nx 21) (bn 18 31 (bn 19 27 (nx 25) (ny 29)) (ny 33))) (ny 38))) (lf 4 43 0 [])
def text4 : ByteArray := ⟨#[120, 32, 47, 32, 48, 32, 61, 32, 49, 32, 79, 82, 32, 121, 32, 47, 32, 48, 32, 60, 62, 32, 50]⟩
def ast4 : Ast := bn 7 10 (bn 8 6 (bn 19 2 (nx 0) (lf 1 4 0 [])) (lf 1 8 1 [])) (bn 9 19 (bn 19 15 (ny 13) (lf 1 17 0 [])) (lf 1 22 2 []))
def text5 : ByteArray := ⟨#[120, 32, 42, 32, 48, 32, 61, 32, 48, 32, 65, 78, 68, 32, 121, 32, 42, 32, 49, 32, 61, 32, 121]⟩
def ast5 : Ast := bn 6 10 (bn 8 6 (bn 18 2 (nx 0) (lf 1 4 0 [])) (lf 1 8 0 [])) (bn 8 20 (bn 18 16 (ny 14) (lf 1 18 1 [])) (ny 22))

set_option maxRecDepth 1000000 in
theorem read1 : readR text1 = .ok ast1 := by kernel_rfl
set_option maxRecDepth 1000000 in
theorem read2 : readR text2 = .ok ast2 := by kernel_rfl
set_option maxRecDepth 1000000 in
theorem read3 : readR text3 = .ok ast3 := by kernel_rfl
set_option maxRecDepth 1000000 in
theorem read4 : readR text4 = .ok ast4 := by kernel_rfl
set_option maxRecDepth 1000000 in
theorem read5 : readR text5 = .ok ast5 := by kernel_rfl

/-- The event of Sums. -/
def xy (x y : Int) : List Pr := [⟨[120], iV x⟩, ⟨[121], iV y⟩]

theorem of_x (x y pl : Int) : ofA (xy x y) (nx pl) = iV x := rfl
theorem of_y (x y pl : Int) : ofA (xy x y) (ny pl) = iV y := rfl
theorem of_n (x y pl n : Int) : ofA (xy x y) (lf 1 pl n []) = iV n := rfl
theorem of_b (x y op pl : Int) (a b : Ast) (h : 4 < op) (h20 : ¬ op = 20) (h21 : ¬ op = 21) (h22 : ¬ op = 22) : ofA (xy x y) (bn op pl a b) = joinV op (ofA (xy x y) a) (ofA (xy x y) b) := by
  show ofN (xy x y) ⟨op, pl, 0, [], [], []⟩ [ofA (xy x y) a, ofA (xy x y) b] = _
  unfold ofN joinN
  rw [if_neg (by show ¬ op = 0; omega), if_neg (by show ¬ op = 1; omega), if_neg (by show ¬ op = 2; omega), if_neg (by show ¬ op = 3; omega), if_neg (by show ¬ op = 4; omega), if_neg h20, if_neg h21, if_neg h22]
  rfl

theorem add_i (a b : Int) : addV (iV a) (iV b) = if fitB (a + b) then iV (a + b) else nV := rfl
theorem sub_i (a b : Int) : subV (iV a) (iV b) = if fitB (a - b) then iV (a - b) else nV := rfl
theorem mul_i (a b : Int) : mulV (iV a) (iV b) = if fitB (a * b) then iV (a * b) else nV := rfl
theorem div_i (a b : Int) : divV (iV a) (iV b) = if !(b == 0) && fitB (a.tdiv b) then iV (a.tdiv b) else nV := rfl
theorem less_i (a b : Int) : lessV (iV a) (iV b) = bV (decide (a < b)) := rfl
theorem le_i (a b : Int) : leV (iV a) (iV b) = bV (decide (a ≤ b)) := rfl
theorem eq_i (a b : Int) : eqV (iV a) (iV b) = bV (decide (iV a = iV b)) := rfl

theorem fit_rng {a : Int} (h : Rng a) : fitB a = true := by unfold Rng at h; simp [fitB]; exact h

theorem val1 (x y : Int) : ofA (xy x y) ast1 = if fitB (x + y) then bV (decide (7 < x + y)) else nV := by
  unfold ast1
  rw [of_b _ _ _ _ _ _ (by decide) (by decide) (by decide) (by decide), of_b _ _ _ _ _ _ (by decide) (by decide) (by decide) (by decide), of_x, of_y, of_n]
  show lessV (iV 7) (addV (iV x) (iV y)) = _
  rw [add_i]
  split
  · rfl
  · rfl

theorem val2 (x y : Int) (hx : Rng x) : ofA (xy x y) ast2 = if fitB (x + y) then bV true else nV := by
  unfold ast2
  rw [of_b _ _ _ _ _ _ (by decide) (by decide) (by decide) (by decide), of_b _ _ _ _ _ _ (by decide) (by decide) (by decide) (by decide), of_b _ _ _ _ _ _ (by decide) (by decide) (by decide) (by decide), of_x, of_y, of_y, of_x]
  show eqV (subV (addV (iV x) (iV y)) (iV y)) (iV x) = _
  rw [add_i]
  split
  · have h : x + y - y = x := by omega
    rw [sub_i, h, if_pos (fit_rng hx), eq_i]
    simp
  · rfl

theorem quot_pos {a b : Int} (ha : 0 ≤ a) (hb : 0 < b) : 0 ≤ a.tdiv b * b ∧ a.tdiv b * b ≤ a := by
  rw [Int.tdiv_eq_ediv_of_nonneg ha]
  exact ⟨Int.mul_nonneg (Int.ediv_nonneg ha (by omega)) (by omega), Int.ediv_mul_le a (by omega)⟩
theorem quot_nonneg {a b : Int} (ha : 0 ≤ a) (hb : ¬ b = 0) : 0 ≤ a.tdiv b * b ∧ a.tdiv b * b ≤ a := by
  by_cases h : 0 < b
  · exact quot_pos ha h
  · have := quot_pos (b := -b) ha (by omega)
    rw [Int.tdiv_neg, Int.neg_mul_neg] at this
    exact this
theorem quot_neg {a b : Int} (ha : a ≤ 0) (hb : ¬ b = 0) : a ≤ a.tdiv b * b ∧ a.tdiv b * b ≤ 0 := by
  have := quot_nonneg (a := -a) (b := b) (by omega) hb
  rw [Int.neg_tdiv, Int.neg_mul] at this
  omega

theorem rest_fit (x y : Int) (hx : Rng x) (hy : ¬ y = 0) : Rng (x.tdiv y * y) ∧ Rng (x - x.tdiv y * y) := by
  unfold Rng at hx ⊢
  by_cases h : 0 ≤ x
  · have := quot_nonneg h hy; omega
  · have := quot_neg (a := x) (by omega) hy; omega

theorem tdiv_fit (x y : Int) (hx : Rng x) : fitB (x.tdiv y) = (!(x == -9223372036854775808) || !(y == -1)) := by
  have h := div_test (b := y) hx
  rw [← Bool.not_and, h, Bool.not_not]

/-- Whether x and y have a quotient. -/
def quotB (x y : Int) : Bool := !(y == 0) && (!(x == -9223372036854775808) || !(y == -1))

theorem val3 (x y : Int) (hx : Rng x) : ofA (xy x y) ast3 = if quotB x y then bV true else nV := by
  unfold ast3
  rw [of_b _ _ _ _ _ _ (by decide) (by decide) (by decide) (by decide), of_b _ _ _ _ _ _ (by decide) (by decide) (by decide) (by decide), of_b _ _ _ _ _ _ (by decide) (by decide) (by decide) (by decide), of_b _ _ _ _ _ _ (by decide) (by decide) (by decide) (by decide), of_b _ _ _ _ _ _ (by decide) (by decide) (by decide) (by decide), of_b _ _ _ _ _ _ (by decide) (by decide) (by decide) (by decide), of_b _ _ 13 _ _ _ (by decide) (by decide) (by decide) (by decide), of_b _ _ 17 _ _ _ (by decide) (by decide) (by decide) (by decide), of_b _ _ 18 _ _ _ (by decide) (by decide) (by decide) (by decide), of_b _ _ 19 _ _ _ (by decide) (by decide) (by decide) (by decide)]
  simp only [of_x, of_y]
  show orV (orV (lessV (subV (iV x) (mulV (divV (iV x) (iV y)) (iV y))) (iV y)) (leV (iV y) (subV (iV x) (mulV (divV (iV x) (iV y)) (iV y))))) (bV false) = _
  rw [div_i]
  by_cases hy : y = 0
  · subst hy
    rfl
  · have hy' : (y == 0) = false := beq_eq_false_iff_ne.2 hy
    rw [tdiv_fit x y hx]
    unfold quotB
    rw [hy']
    simp only [Bool.not_false, Bool.true_and]
    split
    · obtain ⟨h1, h2⟩ := rest_fit x y hx hy
      rw [mul_i, if_pos (fit_rng h1), sub_i, if_pos (fit_rng h2), less_i, le_i]
      by_cases h : x - x.tdiv y * y < y
      · rw [decide_eq_true h]; rfl
      · rw [decide_eq_false h, decide_eq_true (by omega)]; rfl
    · rfl

theorem val4 (x y : Int) : ofA (xy x y) ast4 = nV := rfl

theorem val5 (x y : Int) (hy : Rng y) : ofA (xy x y) ast5 = bV true := by
  unfold ast5
  rw [of_b _ _ _ _ _ _ (by decide) (by decide) (by decide) (by decide), of_b _ _ _ _ _ _ (by decide) (by decide) (by decide) (by decide), of_b _ _ _ _ _ _ (by decide) (by decide) (by decide) (by decide), of_b _ _ 8 20 _ _ (by decide) (by decide) (by decide) (by decide), of_b _ _ 18 16 _ _ (by decide) (by decide) (by decide) (by decide)]
  simp only [of_x, of_y, of_n]
  show andV (eqV (mulV (iV x) (iV 0)) (iV 0)) (eqV (mulV (iV y) (iV 1)) (iV y)) = _
  rw [mul_i, mul_i, Int.mul_zero, Int.mul_one, if_pos (fit_rng hy), if_pos (by decide), eq_i, eq_i]
  simp
  rfl

theorem simp_all : (BndA ast1 ∧ NumA ast1) ∧ (BndA ast2 ∧ NumA ast2) ∧ (BndA ast3 ∧ NumA ast3) ∧ (BndA ast4 ∧ NumA ast4) ∧ (BndA ast5 ∧ NumA ast5) := by
  simp [ast1, ast2, ast3, ast4, ast5, bn, lf, nx, ny, BndA, NumA, Bp, Rng]

end Go.Proofs.YtfkcaldjphakpaaGreatDoor
