/- Contracts of package value: the logic and the comparisons. -/
import Derived.Test.YtfkcaldjphakpaaGreatDoorQLex3
namespace Go.Proofs.YtfkcaldjphakpaaGreatDoor
open Go.RowKit

/-- A value of the program: its kind, its number, its text. -/
structure V where
  kind : Int
  num : Int
  str : List UInt8
  deriving DecidableEq

def vV (v : V) : Value := .agg #[.int .i64 v.kind, .int .i64 v.num, .string (BS v.str)]
def nV : V := ⟨0, 0, []⟩
def bV (b : Bool) : V := ⟨1, if b then 1 else 0, []⟩
def iV (n : Int) : V := ⟨2, n, []⟩
def tV (s : List UInt8) : V := ⟨3, 0, s⟩

set_option maxHeartbeats 400000 in
theorem vBool_any (b : Bool) (w : World) :
    Calls Tryz.prog 64 #[.bool b] w fun e w' => e = .returned (vV (bV b)) ∧ Below w.heap.size w w' := by
  cases b
  all_goals
    go_enter Tryz.func64, Tryz.ntmps64
    go_wp2_with fail
    refine bodyPost_ret (by simp [results, Tryz.results64, go_sem]; rfl) rfl ⟨rfl, (Below.refl _ _).alloc (Nat.le_refl _) _⟩

set_option maxHeartbeats 400000 in
theorem vInt_any (n : Int) (w : World) :
    Calls Tryz.prog 62 #[.int .i64 n] w fun e w' => e = .returned (vV (iV n)) ∧ Below w.heap.size w w' := by
  go_enter Tryz.func62, Tryz.ntmps62
  go_wp2_with fail
  refine bodyPost_ret (by simp [results, Tryz.results62, go_sem]; rfl) rfl ⟨rfl, (Below.refl _ _).alloc (Nat.le_refl _) _⟩

set_option maxHeartbeats 400000 in
theorem vText_any (s : ByteArray) (w : World) :
    Calls Tryz.prog 63 #[.string s] w fun e w' => e = .returned (vV (tV s.data.toList)) ∧ Below w.heap.size w w' := by
  go_enter Tryz.func63, Tryz.ntmps63
  go_wp2_with fail
  refine bodyPost_ret (by simp [results, Tryz.results63, go_sem]; rfl) rfl ⟨rfl, (Below.refl _ _).alloc (Nat.le_refl _) _⟩

set_option maxHeartbeats 400000 in
theorem vnull_any (w : World) :
    Calls Tryz.prog 152 #[] w fun e w' => e = .returned (vV nV) ∧ Below w.heap.size w w' := by
  go_enter Tryz.func152, Tryz.ntmps152
  go_wp2_with fail
  refine bodyPost_ret (by simp [results, Tryz.results152, go_sem]; rfl) rfl ⟨rfl, (Below.refl _ _).alloc (Nat.le_refl _) _⟩

def intsB (x y : V) : Bool := x.kind == 2 && y.kind == 2

theorem below2 (w : World) (o o' : Obj) : Below w.heap.size w ((w.alloc o).alloc o') := ((Below.refl _ _).alloc (Nat.le_refl _) o).alloc (by simp) o'
theorem below3 (w : World) (o o' o'' : Obj) : Below w.heap.size w (((w.alloc o).alloc o').alloc o'') := (below2 w o o').alloc (by simp; omega) o''

set_option maxHeartbeats 400000 in
theorem bothInts_any (x y : V) (w : World) :
    Calls Tryz.prog 153 #[vV x, vV y] w fun e w' => e = .returned (.bool (intsB x y)) ∧ Below w.heap.size w w' := by
  unfold intsB vV
  go_enter Tryz.func153, Tryz.ntmps153
  go_wp2_with fail
  all_goals
    go_ret
    exact ⟨ret_bool (by simp_all), below2 _ _ _⟩

theorem below_any {w W w' : World} (h1 : Below w.heap.size w W) (h2 : Below W.heap.size W w') : Below w.heap.size w w' := h1.trans (h2.mono h1.size)

def notV (x : V) : V := if x.kind == 1 then bV (x.num == 0) else nV

set_option maxHeartbeats 400000 in
theorem vNot_any (x : V) (w : World) :
    Calls Tryz.prog 157 #[vV x] w fun e w' => e = .returned (vV (notV x)) ∧ Below w.heap.size w w' := by
  unfold notV
  cases hk : (x.kind == 1) with
  | true =>
    have hk' : (x.kind != 1) = false := by simp only [bne, hk]; rfl
    simp only [vV]
    go_enter Tryz.func157, Tryz.ntmps157
    go_wp2_with (go_at_call 64; refine (vBool_any _ _).mono ?_; rintro e w' ⟨rfl, hb⟩; obtain ⟨hc, hf⟩ := bcell hb; simp only [vV])
    refine bodyPost_ret (by simp [results, Tryz.results157, go_sem, hc] <;> rfl) rfl ⟨rfl, ?_⟩
    exact ((((below_any (below2 _ _ _) hb).setCell (by simp) _).setCell (by simp) _).setCell (by simp) _)
  | false =>
    have hk' : (x.kind != 1) = true := by simp only [bne, hk]; rfl
    simp only [vV]
    go_enter Tryz.func157, Tryz.ntmps157
    go_wp2_with (go_at_call 152; refine (vnull_any _).mono ?_; rintro e w' ⟨rfl, hb⟩; obtain ⟨hc, hf⟩ := bcell hb; simp only [vV])
    refine bodyPost_ret (by simp [results, Tryz.results157, go_sem, hc] <;> rfl) rfl ⟨rfl, ?_⟩
    exact ((((below_any (below2 _ _ _) hb).setCell (by simp) _).setCell (by simp) _).setCell (by simp) _)

set_option maxHeartbeats 400000 in
theorem vIsNull_any (x : V) (w : World) :
    Calls Tryz.prog 163 #[vV x] w fun e w' => e = .returned (vV (bV (x.kind == 0))) ∧ Below w.heap.size w w' := by
  simp only [vV]
  go_enter Tryz.func163, Tryz.ntmps163
  go_wp2_with (go_at_call 64; refine (vBool_any _ _).mono ?_; rintro e w' ⟨rfl, hb⟩; obtain ⟨hc, hf⟩ := bcell hb; simp only [vV])
  refine bodyPost_ret (by simp [results, Tryz.results163, go_sem, hc] <;> rfl) rfl ⟨rfl, ?_⟩
  exact ((((below_any (below2 _ _ _) hb).setCell (by simp) _).setCell (by simp) _).setCell (by simp) _)

def eqV (x y : V) : V := if x.kind == 0 || !(x.kind == y.kind) then nV else bV (decide (x = y))
def lessV (x y : V) : V := if intsB x y then bV (decide (x.num < y.num)) else nV
def leV (x y : V) : V := if intsB x y then bV (decide (x.num ≤ y.num)) else nV

set_option maxHeartbeats 400000 in
theorem vLess_any (x y : V) (w : World) :
    Calls Tryz.prog 158 #[vV x, vV y] w fun e w' => e = .returned (vV (lessV x y)) ∧ Below w.heap.size w w' := by
  unfold lessV
  cases hk : intsB x y with
  | true =>
    have HK := hide hk
    clear hk
    simp only [if_true]
    obtain ⟨b, hb⟩ : ∃ b, decide (x.num < y.num) = b := ⟨_, rfl⟩
    rw [hb]
    have HB := hide hb
    clear hb
    conv => arg 3; simp only [vV]
    go_enter Tryz.func158, Tryz.ntmps158
    go_wp2_with (first | (go_at_call 153; refine (bothInts_any x y _).mono ?_; rintro e w1 ⟨rfl, hb1⟩; rw [unhide HK]; obtain ⟨hc1, hf1⟩ := bcell hb1; have hz1 : w.heap.size + 2 < w1.heap.size := (by have := hb1.size; simp at this; omega)) | (go_at_call 64; rw [unhide HB]; refine (vBool_any _ _).mono ?_; rintro e w2 ⟨rfl, hb2⟩; obtain ⟨hc2, hf2⟩ := bcell hb2; simp only [vV]))
    refine bodyPost_ret (by simp [results, Tryz.results158, go_sem, hc2, hc1, hz1] <;> rfl) rfl ⟨rfl, ?_⟩
    exact ((((below_any (below_any (below3 _ _ _ _) hb1) hb2).setCell (by simp; omega) _).setCell (by simp; omega) _).setCell (by simp; omega) _)
  | false =>
    have HK := hide hk
    clear hk
    simp only [Bool.false_eq_true, if_false]
    conv => arg 3; simp only [vV]
    go_enter Tryz.func158, Tryz.ntmps158
    go_wp2_with (first | (go_at_call 153; refine (bothInts_any x y _).mono ?_; rintro e w1 ⟨rfl, hb1⟩; rw [unhide HK]; obtain ⟨hc1, hf1⟩ := bcell hb1; have hz1 : w.heap.size + 2 < w1.heap.size := (by have := hb1.size; simp at this; omega)) | (go_at_call 152; refine (vnull_any _).mono ?_; rintro e w2 ⟨rfl, hb2⟩; obtain ⟨hc2, hf2⟩ := bcell hb2; simp only [vV]))
    refine bodyPost_ret (by simp [results, Tryz.results158, go_sem, hc2, hc1, hz1] <;> rfl) rfl ⟨rfl, ?_⟩
    exact ((((below_any (below_any (below3 _ _ _ _) hb1) hb2).setCell (by simp; omega) _).setCell (by simp; omega) _).setCell (by simp; omega) _)

set_option maxHeartbeats 400000 in
theorem vLessEqual_any (x y : V) (w : World) :
    Calls Tryz.prog 107 #[vV x, vV y] w fun e w' => e = .returned (vV (leV x y)) ∧ Below w.heap.size w w' := by
  unfold leV
  cases hk : intsB x y with
  | true =>
    have HK := hide hk
    clear hk
    simp only [if_true]
    obtain ⟨b, hb⟩ : ∃ b, decide (x.num ≤ y.num) = b := ⟨_, rfl⟩
    rw [hb]
    have HB := hide hb
    clear hb
    conv => arg 3; simp only [vV]
    go_enter Tryz.func107, Tryz.ntmps107
    go_wp2_with (first | (go_at_call 153; refine (bothInts_any x y _).mono ?_; rintro e w1 ⟨rfl, hb1⟩; rw [unhide HK]; obtain ⟨hc1, hf1⟩ := bcell hb1; have hz1 : w.heap.size + 2 < w1.heap.size := (by have := hb1.size; simp at this; omega)) | (go_at_call 64; rw [unhide HB]; refine (vBool_any _ _).mono ?_; rintro e w2 ⟨rfl, hb2⟩; obtain ⟨hc2, hf2⟩ := bcell hb2; simp only [vV]))
    refine bodyPost_ret (by simp [results, Tryz.results107, go_sem, hc2, hc1, hz1] <;> rfl) rfl ⟨rfl, ?_⟩
    exact ((((below_any (below_any (below3 _ _ _ _) hb1) hb2).setCell (by simp; omega) _).setCell (by simp; omega) _).setCell (by simp; omega) _)
  | false =>
    have HK := hide hk
    clear hk
    simp only [Bool.false_eq_true, if_false]
    conv => arg 3; simp only [vV]
    go_enter Tryz.func107, Tryz.ntmps107
    go_wp2_with (first | (go_at_call 153; refine (bothInts_any x y _).mono ?_; rintro e w1 ⟨rfl, hb1⟩; rw [unhide HK]; obtain ⟨hc1, hf1⟩ := bcell hb1; have hz1 : w.heap.size + 2 < w1.heap.size := (by have := hb1.size; simp at this; omega)) | (go_at_call 152; refine (vnull_any _).mono ?_; rintro e w2 ⟨rfl, hb2⟩; obtain ⟨hc2, hf2⟩ := bcell hb2; simp only [vV]))
    refine bodyPost_ret (by simp [results, Tryz.results107, go_sem, hc2, hc1, hz1] <;> rfl) rfl ⟨rfl, ?_⟩
    exact ((((below_any (below_any (below3 _ _ _ _) hb1) hb2).setCell (by simp; omega) _).setCell (by simp; omega) _).setCell (by simp; omega) _)

theorem eql_v (x y : V) (w : World) : (binOp .eql 26 (vV x) (vV y)).run Tryz.prog w = .ok (.bool (decide (x = y))) w := by
  obtain ⟨k, n, s⟩ := x
  obtain ⟨k', n', s'⟩ := y
  simp only [vV, V.mk.injEq]
  by_cases h1 : k = k'
  · by_cases h2 : n = n'
    · by_cases h3 : s = s'
      · subst h1 h2 h3
        simp [go_sem]
      · simp [go_sem, h1, h2, h3, BS_toList]
    · simp [go_sem, h1, h2]
  · simp [go_sem, h1]

set_option maxHeartbeats 400000 in
theorem vEqual_any (x y : V) (w : World) :
    Calls Tryz.prog 155 #[vV x, vV y] w fun e w' => e = .returned (vV (eqV x y)) ∧ Below w.heap.size w w' := by
  have he := fun w => eql_v x y w
  simp only [vV] at he
  unfold eqV
  generalize decide (x = y) = d at *
  cases h0 : (x.kind == 0) with
  | true =>
    simp only [Bool.true_or, if_true]
    conv => arg 3; simp only [vV]
    go_enter Tryz.func155, Tryz.ntmps155
    go_wp2_with (first | (go_at_call 64; refine (vBool_any _ _).mono ?_; rintro e w' ⟨rfl, hb⟩; obtain ⟨hc, hf⟩ := bcell hb; have hz : w.heap.size + 2 < w'.heap.size := (by have := hb.size; simp at this; omega); have hB : Below w.heap.size w w' := (by first | exact below_any (below3 _ _ _ _) hb | exact below_any (by assumption) hb); clear hb; simp only [vV]) | (go_at_call 152; refine (vnull_any _).mono ?_; rintro e w' ⟨rfl, hb⟩; obtain ⟨hc, hf⟩ := bcell hb; have hz : w.heap.size + 2 < w'.heap.size := (by have := hb.size; simp at this; omega); have hB : Below w.heap.size w w' := (by first | exact below_any (below3 _ _ _ _) hb | exact below_any (by assumption) hb); clear hb; simp only [vV]))
    refine bodyPost_ret (by simp [results, Tryz.results155, go_sem, *] <;> rfl) rfl ⟨rfl, ?_⟩
    exact (((hB.setCell (by simp; omega) _).setCell (by simp; omega) _).setCell (by simp; omega) _)
  | false =>
    cases h1 : (x.kind == y.kind) with
    | false =>
      have h2 : (x.kind != y.kind) = true := by simp only [bne, h1]; rfl
      simp only [Bool.false_or, Bool.not_false, if_true]
      conv => arg 3; simp only [vV]
      go_enter Tryz.func155, Tryz.ntmps155
      go_wp2_with (first | (go_at_call 64; refine (vBool_any _ _).mono ?_; rintro e w' ⟨rfl, hb⟩; obtain ⟨hc, hf⟩ := bcell hb; have hz : w.heap.size + 2 < w'.heap.size := (by have := hb.size; simp at this; omega); have hB : Below w.heap.size w w' := (by first | exact below_any (below3 _ _ _ _) hb | exact below_any (by assumption) hb); clear hb; simp only [vV]) | (go_at_call 152; refine (vnull_any _).mono ?_; rintro e w' ⟨rfl, hb⟩; obtain ⟨hc, hf⟩ := bcell hb; have hz : w.heap.size + 2 < w'.heap.size := (by have := hb.size; simp at this; omega); have hB : Below w.heap.size w w' := (by first | exact below_any (below3 _ _ _ _) hb | exact below_any (by assumption) hb); clear hb; simp only [vV]))
      refine bodyPost_ret (by simp [results, Tryz.results155, go_sem, *] <;> rfl) rfl ⟨rfl, ?_⟩
      exact (((hB.setCell (by simp; omega) _).setCell (by simp; omega) _).setCell (by simp; omega) _)
    | true =>
      have h2 : (x.kind != y.kind) = false := by simp only [bne, h1]; rfl
      simp only [Bool.false_or, Bool.not_true, Bool.false_eq_true, if_false]
      conv => arg 3; simp only [vV]
      go_enter Tryz.func155, Tryz.ntmps155
      go_wp2_with (first | (go_at_call 64; refine (vBool_any _ _).mono ?_; rintro e w' ⟨rfl, hb⟩; obtain ⟨hc, hf⟩ := bcell hb; have hz : w.heap.size + 2 < w'.heap.size := (by have := hb.size; simp at this; omega); have hB : Below w.heap.size w w' := (by first | exact below_any (below3 _ _ _ _) hb | exact below_any (by assumption) hb); clear hb; simp only [vV]) | (go_at_call 152; refine (vnull_any _).mono ?_; rintro e w' ⟨rfl, hb⟩; obtain ⟨hc, hf⟩ := bcell hb; have hz : w.heap.size + 2 < w'.heap.size := (by have := hb.size; simp at this; omega); have hB : Below w.heap.size w w' := (by first | exact below_any (below3 _ _ _ _) hb | exact below_any (by assumption) hb); clear hb; simp only [vV]))
      refine bodyPost_ret (by simp [results, Tryz.results155, go_sem, *] <;> rfl) rfl ⟨rfl, ?_⟩
      exact (((hB.setCell (by simp; omega) _).setCell (by simp; omega) _).setCell (by simp; omega) _)

end Go.Proofs.YtfkcaldjphakpaaGreatDoor
