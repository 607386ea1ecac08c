/- Quoted texts and patterns, as lists of bytes. The texts of Likes: their tokens, what they are read as, what that is of an event that holds n alone. The contracts of quoted and starts of the statements. is, of a text that is read and of the event of Likes. What the walk through Likes leans on: its texts, named. -/
import Derived.Test.YtfkcaldjphakpaaGreatDoorOfA
import Derived.Test.YtfkcaldjphakpaaGreatDoorLexB
import Derived.Test.YtfkcaldjphakpaaGreatDoorDgA
import Derived.Test.YtfkcaldjphakpaaGreatDoorRgA
namespace Go.Proofs.YtfkcaldjphakpaaGreatDoor
open Go.RowKit

section
/-- A text as it stands between its quotes. -/
def dblL : List UInt8 → List UInt8
  | [] => []
  | c :: r => if c == 39 then 39 :: 39 :: dblL r else c :: dblL r
theorem dblL_append (a b : List UInt8) : dblL (a ++ b) = dblL a ++ dblL b := by
  induction a with
  | nil => rfl
  | cons c r ih =>
    rw [List.cons_append, dblL, dblL, ih]
    split <;> rfl
theorem dblL_len (a : List UInt8) : (dblL a).length ≤ 2 * a.length := by
  induction a with
  | nil => exact Nat.le_refl _
  | cons c r ih => rw [dblL]; split <;> simp <;> omega
theorem dblL_snoc (a : List UInt8) (c : UInt8) : dblL (a ++ [c]) = dblL a ++ (if c == 39 then [39, 39] else [c]) := by
  rw [dblL_append]
  congr 1

theorem quotF_end (r : List UInt8) (h : ∀ c, r.head? = some c → (c == 39) = false) : quotF (39 :: r) = some ([], 1) := by
  cases r with
  | nil => rfl
  | cons d t => rw [quotF, if_pos (by decide), if_neg (by rw [h d rfl]; decide)]

theorem quotF_dbl (r : List UInt8) (h : ∀ c, r.head? = some c → (c == 39) = false) (s : List UInt8) : quotF (dblL s ++ 39 :: r) = some (s, (dblL s).length + 1) := by
  induction s with
  | nil => exact quotF_end r h
  | cons c t ih =>
    rw [dblL]
    by_cases hc : (c == 39) = true
    · rw [if_pos hc]
      show quotF (39 :: 39 :: (dblL t ++ 39 :: r)) = _
      rw [quotF, if_pos (by decide), if_pos (by decide), ih, eq_of_beq hc]
      rfl
    · rw [if_neg hc]
      cases hd : dblL t ++ 39 :: r with
      | nil => simp at hd
      | cons d u =>
        show quotF (c :: (dblL t ++ 39 :: r)) = _
        rw [hd, quotF, if_neg hc, ← hd, ih]
        rfl

/-- A text as a pattern of its own bytes, with the escape 33. -/
def escB (c : UInt8) : Bool := c == 37 || c == 95 || c == 33
def escL : List UInt8 → List UInt8
  | [] => []
  | c :: r => if escB c then 33 :: c :: escL r else c :: escL r
theorem escL_append (a b : List UInt8) : escL (a ++ b) = escL a ++ escL b := by
  induction a with
  | nil => rfl
  | cons c r ih =>
    rw [List.cons_append, escL, escL, ih]
    split <;> rfl
theorem escL_len (a : List UInt8) : (escL a).length ≤ 2 * a.length := by
  induction a with
  | nil => exact Nat.le_refl _
  | cons c r ih => rw [escL]; split <;> simp <;> omega
theorem escL_snoc (a : List UInt8) (c : UInt8) : escL (a ++ [c]) = escL a ++ (if escB c then [33, c] else [c]) := by
  rw [escL_append]
  congr 1

/-- Bytes that stand for themselves. -/
def litP (t : List UInt8) : List Pc := t.map fun c => ⟨0, c⟩

theorem plainP_lit {c : UInt8} (h : escB c = false) : plainP c = ⟨0, c⟩ ∧ ¬ c = 33 := by
  unfold escB at h
  simp only [Bool.or_eq_false_iff, beq_eq_false_iff_ne] at h
  obtain ⟨⟨h1, h2⟩, h3⟩ := h
  refine ⟨?_, h3⟩
  unfold plainP
  rw [if_neg (fun h => h1 (UInt8.toNat.inj (by have := eq_of_beq h; show c.toNat = 37; omega))), if_neg (fun h => h2 (UInt8.toNat.inj (by have := eq_of_beq h; show c.toNat = 95; omega)))]

theorem cutL_cons {e : List UInt8} {c : UInt8} (h : ¬ e.head? = some c) (r : List UInt8) : cutL e (c :: r) = (cutL e r).map (plainP c :: ·) := by
  cases r with
  | nil => show (if e.head? = some c then none else some [plainP c]) = _; rw [if_neg h]; rfl
  | cons d t => rw [cutL, if_neg h]

theorem cutL_lit (r : List UInt8) (ps : List Pc) (h : cutL [33] r = some ps) (t : List UInt8) : cutL [33] (escL t ++ r) = some (litP t ++ ps) := by
  induction t with
  | nil => exact h
  | cons c t ih =>
    rw [escL]
    cases hc : escB c with
    | true =>
      rw [if_pos rfl]
      show cutL [33] (33 :: c :: (escL t ++ r)) = _
      rw [cutL, if_pos (by rfl), ih]
      rfl
    | false =>
      rw [if_neg (by decide)]
      obtain ⟨h1, h2⟩ := plainP_lit hc
      show cutL [33] (c :: (escL t ++ r)) = _
      rw [cutL_cons (by intro e; exact h2 (by simpa using e.symm)), ih, h1]
      rfl

theorem cutL_any (r : List UInt8) : cutL [33] (37 :: r) = (cutL [33] r).map (⟨2, 0⟩ :: ·) := by
  rw [cutL_cons (by decide)]; rfl
theorem cutL_ones (n : Nat) : cutL [] (List.replicate n 95) = some (List.replicate n ⟨1, 0⟩) := by
  induction n with
  | zero => rfl
  | succ n ih => rw [List.replicate_succ, cutL_cons (by decide), ih]; rfl

/-- A text stands in another at a place. -/
def standsAt (s t : List UInt8) (i : Nat) : Bool := decide (i + t.length ≤ s.length) && (s.drop i).take t.length == t

theorem fit_lits (r : List Pc) (s t : List UInt8) : ∀ (e : Nat → Bool), ∃ e' : Nat → Bool, (∀ j, e' j = (decide (t.length ≤ j) && e (j - t.length) && decide (∀ i, i < t.length → s.getD (j - t.length + i) 0 = t.getD i 0))) ∧ fitB' (litP t ++ r) s e = fitB' r s e' := by
  induction t with
  | nil => intro e; exact ⟨e, fun j => by simp, rfl⟩
  | cons c t ih =>
    intro e
    obtain ⟨e', h1, h2⟩ := ih (nextB ⟨0, c⟩ s e)
    refine ⟨e', fun j => ?_, h2⟩
    rw [h1]
    by_cases hj : t.length < j
    · obtain ⟨k, hk⟩ : ∃ k, j - t.length = k + 1 := ⟨j - t.length - 1, by omega⟩
      have hk' : j - (c :: t).length = k := by simp; omega
      rw [hk, hk']
      show (_ && (e k && s.getD k 0 == c) && _) = _
      rw [Bool.eq_iff_iff]
      simp only [Bool.and_eq_true, decide_eq_true_eq, List.length_cons, beq_iff_eq]
      constructor
      · rintro ⟨⟨_, h3, h4⟩, h5⟩
        refine ⟨⟨by omega, h3⟩, fun i hi => ?_⟩
        cases i with
        | zero => exact h4
        | succ i => have := h5 i (by omega); rw [show k + 1 + i = k + (i + 1) by omega] at this; exact this
      · rintro ⟨⟨_, h3⟩, h5⟩
        refine ⟨⟨by omega, h3, h5 0 (by omega)⟩, fun i hi => ?_⟩
        have := h5 (i + 1) (by omega); rw [show k + (i + 1) = k + 1 + i by omega] at this; exact this
    · by_cases hj2 : t.length ≤ j
      · have : j - t.length = 0 := by omega
        rw [this]
        have hn : ¬ (c :: t).length ≤ j := by simp; omega
        rw [decide_eq_false hn]
        show (_ && (false && _) && _) = _
        simp
      · have hn : ¬ (c :: t).length ≤ j := by simp; omega
        rw [decide_eq_false hn, decide_eq_false hj2]; simp

theorem stands_iff (s t : List UInt8) (i : Nat) (h : i + t.length ≤ s.length) : standsAt s t i = decide (∀ k, k < t.length → s.getD (i + k) 0 = t.getD k 0) := by
  unfold standsAt
  rw [decide_eq_true h, Bool.true_and, Bool.eq_iff_iff, beq_iff_eq, decide_eq_true_eq]
  constructor
  · intro he k hk
    rw [← he]
    simp only [List.getD_eq_getElem?_getD]
    rw [List.getElem?_take, if_pos hk, List.getElem?_drop]
  · intro he
    apply List.ext_getElem?
    intro k
    rw [List.getElem?_take]
    by_cases hk : k < t.length
    · rw [if_pos hk, List.getElem?_drop]
      have := he k hk
      simp only [List.getD_eq_getElem?_getD] at this
      rw [List.getElem?_eq_getElem (by omega), List.getElem?_eq_getElem hk] at this ⊢
      simp at this
      rw [this]
    · rw [if_neg hk, List.getElem?_eq_none (by omega)]

theorem stands_all (s t : List UInt8) : (decide (s.length = t.length) && standsAt s t 0) = decide (s = t) := by
  rw [Bool.eq_iff_iff]
  simp only [Bool.and_eq_true, decide_eq_true_eq]
  constructor
  · rintro ⟨h1, h2⟩
    unfold standsAt at h2
    simp only [Bool.and_eq_true, beq_iff_eq, List.drop_zero] at h2
    rw [← h1, List.take_length] at h2
    exact h2.2
  · rintro rfl
    exact ⟨rfl, by simp [standsAt]⟩

/-- A pattern of a text's own bytes fits that text alone. -/
theorem fits_same (s t : List UInt8) : fitsB (escL t) [33] s = decide (s = t) := by
  have hc := cutL_lit [] [] rfl t
  rw [List.append_nil, List.append_nil] at hc
  unfold fitsB
  rw [hc]
  obtain ⟨e', h1, h2⟩ := fit_lits [] s t (fun j => j == 0)
  show fitB' (litP t) s _ = _
  rw [List.append_nil] at h2
  rw [h2]
  show e' s.length = _
  rw [h1, ← stands_all]
  by_cases h : s.length = t.length
  · rw [h, Nat.sub_self, stands_iff s t 0 (by omega)]; simp
  · by_cases h2 : t.length ≤ s.length
    · have : (s.length - t.length == 0) = false := beq_eq_false_iff_ne.2 (by omega)
      simp [this, h]
    · simp [h2, h]

theorem any_iff (s : List UInt8) (e : Nat → Bool) : ∀ j, nextB ⟨2, 0⟩ s e j = true ↔ ∃ i, i ≤ j ∧ e i = true := by
  intro j
  induction j with
  | zero =>
    show (true && e 0) = true ↔ _
    rw [Bool.true_and]
    exact ⟨fun h => ⟨0, Nat.le_refl _, h⟩, fun ⟨i, hi, h⟩ => by rwa [Nat.le_zero.1 hi] at h⟩
  | succ j ih =>
    show (e (j + 1) || nextB ⟨2, 0⟩ s e j) = true ↔ _
    rw [Bool.or_eq_true, ih]
    constructor
    · rintro (h | ⟨i, hi, h⟩)
      · exact ⟨_, Nat.le_refl _, h⟩
      · exact ⟨i, by omega, h⟩
    · rintro ⟨i, hi, h⟩
      by_cases he : i = j + 1
      · exact .inl (he ▸ h)
      · exact .inr ⟨i, by omega, h⟩

theorem fits_begins (s t : List UInt8) : fitsB (escL t ++ [37]) [33] s = standsAt s t 0 := by
  have hc := cutL_lit [37] [⟨2, 0⟩] rfl t
  unfold fitsB
  rw [hc]
  obtain ⟨e', h1, h2⟩ := fit_lits [⟨2, 0⟩] s t (fun j => j == 0)
  show fitB' _ s _ = _
  rw [h2]
  show nextB ⟨2, 0⟩ s e' s.length = _
  rw [Bool.eq_iff_iff, any_iff]
  constructor
  · rintro ⟨i, hi, h⟩
    rw [h1] at h
    simp only [Bool.and_eq_true, decide_eq_true_eq, beq_iff_eq] at h
    obtain ⟨⟨h3, h4⟩, h5⟩ := h
    have : i = t.length := by omega
    subst this
    rw [stands_iff s t 0 (by omega), decide_eq_true_eq]
    rw [h4] at h5
    exact h5
  · intro h
    have hl : 0 + t.length ≤ s.length := by unfold standsAt at h; simp only [Bool.and_eq_true, decide_eq_true_eq] at h; exact h.1
    rw [stands_iff s t 0 hl, decide_eq_true_eq] at h
    refine ⟨t.length, by omega, ?_⟩
    rw [h1]
    simp only [Bool.and_eq_true, decide_eq_true_eq, beq_iff_eq, Nat.sub_self]
    exact ⟨⟨Nat.le_refl _, trivial⟩, h⟩

theorem fits_within (s t : List UInt8) : fitsB (37 :: (escL t ++ [37])) [33] s = true ↔ ∃ i, i ≤ s.length ∧ standsAt s t i = true := by
  have hc := cutL_lit [37] [⟨2, 0⟩] rfl t
  unfold fitsB
  rw [cutL_any, hc]
  show fitB' (litP t ++ [⟨2, 0⟩]) s (nextB ⟨2, 0⟩ s fun j => j == 0) = true ↔ _
  obtain ⟨e', h1, h2⟩ := fit_lits [⟨2, 0⟩] s t (nextB ⟨2, 0⟩ s fun j => j == 0)
  rw [h2]
  show nextB ⟨2, 0⟩ s e' s.length = true ↔ _
  rw [any_iff]
  constructor
  · rintro ⟨i, hi, h⟩
    rw [h1] at h
    simp only [Bool.and_eq_true, decide_eq_true_eq] at h
    obtain ⟨⟨h3, _⟩, h5⟩ := h
    refine ⟨i - t.length, by omega, ?_⟩
    rw [stands_iff s t _ (by omega), decide_eq_true_eq]
    exact h5
  · rintro ⟨i, hi, h⟩
    have hl : i + t.length ≤ s.length := by unfold standsAt at h; simp only [Bool.and_eq_true, decide_eq_true_eq] at h; exact h.1
    rw [stands_iff s t i hl, decide_eq_true_eq] at h
    refine ⟨i + t.length, hl, ?_⟩
    rw [h1]
    simp only [Bool.and_eq_true, decide_eq_true_eq, Nat.add_sub_cancel]
    exact ⟨⟨by omega, (any_iff s _ i).2 ⟨0, Nat.zero_le _, rfl⟩⟩, h⟩

theorem fit_ones (s : List UInt8) : ∀ (n : Nat) (e : Nat → Bool), ∃ e' : Nat → Bool, (∀ j, e' j = (decide (n ≤ j) && e (j - n))) ∧ fitB' (List.replicate n ⟨1, 0⟩) s e = e' s.length := by
  intro n
  induction n with
  | zero => intro e; exact ⟨e, fun j => by simp, rfl⟩
  | succ n ih =>
    intro e
    obtain ⟨e', h1, h2⟩ := ih (nextB ⟨1, 0⟩ s e)
    refine ⟨e', fun j => ?_, h2⟩
    rw [h1]
    by_cases hj : n < j
    · obtain ⟨k, hk⟩ : ∃ k, j - n = k + 1 := ⟨j - n - 1, by omega⟩
      rw [hk, show j - (n + 1) = k by omega, decide_eq_true (show n ≤ j by omega), decide_eq_true (show n + 1 ≤ j by omega)]
      rfl
    · rw [decide_eq_false (show ¬ n + 1 ≤ j by omega)]
      by_cases hj2 : n ≤ j
      · rw [show j - n = 0 by omega]; show (_ && false) = _; simp
      · rw [decide_eq_false hj2]; simp
theorem fits_ones (s : List UInt8) (n : Nat) : fitsB (List.replicate n 95) [] s = decide (s.length = n) := by
  unfold fitsB
  rw [cutL_ones]
  obtain ⟨e', h1, h2⟩ := fit_ones s n (fun j => j == 0)
  show fitB' _ s _ = _
  rw [h2, h1, Bool.eq_iff_iff]
  simp only [Bool.and_eq_true, decide_eq_true_eq, beq_iff_eq]
  omega
end

section
theorem lx_quoted {r : List UInt8} {L : List Tk} (h : Lx r L) (hr : ∀ c, r.head? = some c → (c == 39) = false) (s : List UInt8) : Lx (39 :: (dblL s ++ 39 :: r)) (⟨4, 0, s⟩ :: L) := by
  have hq := quotF_dbl r hr s
  have h1 : quotTk (39 :: (dblL s ++ 39 :: r)) = ⟨4, 0, s⟩ := by
    unfold quotTk
    rw [List.drop_succ_cons, List.drop_zero, hq]
  have h2 : quotS (39 :: (dblL s ++ 39 :: r)) = (dblL s).length + 2 := by
    unfold quotS
    rw [List.drop_succ_cons, List.drop_zero, hq]
  have hm : nextTk (39 :: (dblL s ++ 39 :: r)) 0 = ⟨4, 0, s⟩ ∧ nextTo (39 :: (dblL s ++ 39 :: r)) 0 = (dblL s).length + 2 := by
    constructor
    · show quotTk (39 :: (dblL s ++ 39 :: r)) = _
      exact h1
    · show 0 + quotS (39 :: (dblL s ++ 39 :: r)) = _
      rw [h2]; omega
  refine .cons hm.1 (show (4 : Int) ≠ 0 by decide) ?_
  rw [hm.2, List.drop_succ_cons]
  have : (dblL s ++ 39 :: r).drop ((dblL s).length + 1) = r := by simp [List.drop_append]
  rw [this]
  exact h

/-- A text between quotes. -/
def qtL (s : List UInt8) : List UInt8 := 39 :: (dblL s ++ [39])
theorem qtL_app (s r : List UInt8) : qtL s ++ r = 39 :: (dblL s ++ 39 :: r) := by simp [qtL]
theorem qtL_len (s : List UInt8) : (qtL s).length ≤ 2 * s.length + 2 := by
  have := dblL_len s
  simp [qtL]; omega

theorem lx_like (p : List UInt8) {r : List UInt8} {L : List Tk} (h : Lx r L) (hr : ∀ c, r.head? = some c → (c == 39) = false) : Lx ([110, 32, 76, 73, 75, 69, 32] ++ (qtL p ++ r)) (⟨2, 0, [110]⟩ :: ⟨12, 0, []⟩ :: ⟨4, 0, p⟩ :: L) := by
  rw [qtL_app]
  exact .cons (k := ⟨2, 0, [110]⟩) rfl (show (2 : Int) ≠ 0 by decide) (lx_space (.cons (k := ⟨12, 0, []⟩) rfl (show (12 : Int) ≠ 0 by decide) (lx_space (lx_quoted h hr p))))
theorem lx_notlike (p : List UInt8) {r : List UInt8} {L : List Tk} (h : Lx r L) (hr : ∀ c, r.head? = some c → (c == 39) = false) : Lx ([110, 32, 78, 79, 84, 32, 76, 73, 75, 69, 32] ++ (qtL p ++ r)) (⟨2, 0, [110]⟩ :: ⟨7, 0, []⟩ :: ⟨12, 0, []⟩ :: ⟨4, 0, p⟩ :: L) := by
  rw [qtL_app]
  exact .cons (k := ⟨2, 0, [110]⟩) rfl (show (2 : Int) ≠ 0 by decide) (lx_space (.cons (k := ⟨7, 0, []⟩) rfl (show (7 : Int) ≠ 0 by decide) (lx_space (.cons (k := ⟨12, 0, []⟩) rfl (show (12 : Int) ≠ 0 by decide) (lx_space (lx_quoted h hr p))))))
theorem lx_esc : Lx [32, 69, 83, 67, 65, 80, 69, 32, 39, 33, 39] [⟨13, 0, []⟩, ⟨4, 0, [33]⟩] :=
  lx_space (.cons (k := ⟨13, 0, []⟩) rfl (show (13 : Int) ≠ 0 by decide) (lx_space (.cons (k := ⟨4, 0, [33]⟩) rfl (show (4 : Int) ≠ 0 by decide) lx_end)))

/-- no such text, by its length alone -/
def noneL : List UInt8 := [110, 111, 32, 115, 117, 99, 104, 32, 116, 101, 120, 116, 44, 32, 98, 121, 32, 105, 116, 115, 32, 108, 101, 110, 103, 116, 104, 32, 97, 108, 111, 110, 101]
theorem lx_in (p : List UInt8) : Lx ([110, 32, 73, 78, 32, 40] ++ (qtL p ++ (44 :: 32 :: (qtL noneL ++ [41])))) [⟨2, 0, [110]⟩, ⟨11, 0, []⟩, ⟨26, 0, []⟩, ⟨4, 0, p⟩, ⟨28, 0, []⟩, ⟨4, 0, noneL⟩, ⟨27, 0, []⟩] := by
  have h1 : Lx (qtL noneL ++ [41]) [⟨4, 0, noneL⟩, ⟨27, 0, []⟩] := by
    rw [qtL_app]
    exact lx_quoted (show Lx [41] [⟨27, 0, []⟩] from .cons (k := ⟨27, 0, []⟩) rfl (show (27 : Int) ≠ 0 by decide) lx_end) (fun c h => by simp at h; subst h; rfl) noneL
  have h2 : Lx (44 :: 32 :: (qtL noneL ++ [41])) [⟨28, 0, []⟩, ⟨4, 0, noneL⟩, ⟨27, 0, []⟩] := .cons (k := ⟨28, 0, []⟩) rfl (show (28 : Int) ≠ 0 by decide) (lx_space h1)
  have h3 : Lx (qtL p ++ (44 :: 32 :: (qtL noneL ++ [41]))) [⟨4, 0, p⟩, ⟨28, 0, []⟩, ⟨4, 0, noneL⟩, ⟨27, 0, []⟩] := by
    rw [qtL_app p]
    exact lx_quoted h2 (fun c h => by simp at h; subst h; rfl) p
  rw [qtL_app p] at h3 ⊢
  exact .cons (k := ⟨2, 0, [110]⟩) rfl (show (2 : Int) ≠ 0 by decide) (lx_space (.cons (k := ⟨11, 0, []⟩) rfl (show (11 : Int) ≠ 0 by decide) (lx_space (.cons (k := ⟨26, 0, []⟩) rfl (show (26 : Int) ≠ 0 by decide) h3))))

def sumT : TS → TRes := tRow (tRow (tSigned (tLvl 11).S (tLvl 11).E) [24, 25]) [22, 23]
theorem E_of_test {L : List Tk} {t : Ast} (h7 : ¬ (hd L).kind = 7) (h : tTest sumT ⟨L, 0⟩ = .ok t ⟨[], 0⟩) : (tLvl 12).E ⟨L, 0⟩ = .ok t ⟨[], 0⟩ := by
  have h1 : tDenied (tLvl 11).D (tTest sumT) ⟨L, 0⟩ = .ok t ⟨[], 0⟩ := by
    show (if (hd L).kind = 7 then tSign (tLvl 11).D 5 ⟨L, 0⟩ else tTest sumT ⟨L, 0⟩) = _
    rw [if_neg h7]
    exact h
  have h2 : tRow (tDenied (tLvl 11).D (tTest sumT)) [5] ⟨L, 0⟩ = .ok t ⟨[], 0⟩ := by
    unfold tRow
    rw [h1]
    rfl
  show tRow (tRow (tDenied (tLvl 11).D (tTest sumT)) [5]) [6] ⟨L, 0⟩ = .ok t ⟨[], 0⟩
  generalize tRow (tDenied (tLvl 11).D (tTest sumT)) [5] = f at h2 ⊢
  unfold tRow
  rw [h2]
  rfl

def nameN : Ast := tLeaf 0 0 [110]
def likeA (p e : List UInt8) : Ast := .un ⟨22, 0, 0, p, e, []⟩ nameN
def notA (t : Ast) : Ast := .un ⟨5, 0, 0, [], [], []⟩ t

theorem sum_name (L : List Tk) (k : Tk) (h : [24, 25].contains k.kind = false) (h2 : [22, 23].contains k.kind = false) : sumT ⟨⟨2, 0, [110]⟩ :: k :: L, 0⟩ = .ok nameN ⟨k :: L, 0⟩ := by
  have h1 : tSigned (tLvl 11).S (tLvl 11).E ⟨⟨2, 0, [110]⟩ :: k :: L, 0⟩ = .ok nameN ⟨k :: L, 0⟩ := rfl
  unfold sumT
  generalize tSigned (tLvl 11).S (tLvl 11).E = f at h1 ⊢
  have h3 : tRow f [24, 25] ⟨⟨2, 0, [110]⟩ :: k :: L, 0⟩ = .ok nameN ⟨k :: L, 0⟩ := by
    unfold tRow
    rw [h1]
    show tLoop f [24, 25] ((k :: L).length + 1) nameN ⟨k :: L, 0⟩ = _
    rw [tLoop, if_neg (by show ¬ [24, 25].contains k.kind = true; rw [h]; decide)]
  generalize tRow f [24, 25] = g at h3 ⊢
  unfold tRow
  rw [h3]
  show tLoop g [22, 23] ((k :: L).length + 1) nameN ⟨k :: L, 0⟩ = _
  rw [tLoop, if_neg (by show ¬ [22, 23].contains k.kind = true; rw [h2]; decide)]

theorem tlike_esc (p : List UInt8) (h : (cutL [33] p).isSome = true) : tLike nameN ⟨[⟨12, 0, []⟩, ⟨4, 0, p⟩, ⟨13, 0, []⟩, ⟨4, 0, [33]⟩], 0⟩ = .ok (likeA p [33]) ⟨[], 0⟩ := by
  have e : tLike nameN ⟨[⟨12, 0, []⟩, ⟨4, 0, p⟩, ⟨13, 0, []⟩, ⟨4, 0, [33]⟩], 0⟩ = (if (4 : Int) = 4 ∧ 1 = 1 ∧ (cutL [33] p).isSome = true then TRes.ok (likeA p [33]) ⟨[], 0⟩ else .err 2) := rfl
  rw [e, if_pos ⟨rfl, rfl, h⟩]
theorem parse_like (p : List UInt8) (h : (cutL [33] p).isSome = true) : (tLvl 12).E ⟨[⟨2, 0, [110]⟩, ⟨12, 0, []⟩, ⟨4, 0, p⟩, ⟨13, 0, []⟩, ⟨4, 0, [33]⟩], 0⟩ = .ok (likeA p [33]) ⟨[], 0⟩ := by
  refine E_of_test (show ¬ (2 : Int) = 7 by decide) ?_
  have hs := sum_name [⟨4, 0, p⟩, ⟨13, 0, []⟩, ⟨4, 0, [33]⟩] ⟨12, 0, []⟩ rfl rfl
  generalize sumT = f at hs ⊢
  unfold tTest
  rw [hs]
  show tTail f true nameN ⟨[⟨12, 0, []⟩, ⟨4, 0, p⟩, ⟨13, 0, []⟩, ⟨4, 0, [33]⟩], 0⟩ = _
  have hk : tTail f true nameN ⟨[⟨12, 0, []⟩, ⟨4, 0, p⟩, ⟨13, 0, []⟩, ⟨4, 0, [33]⟩], 0⟩ = tLike nameN ⟨[⟨12, 0, []⟩, ⟨4, 0, p⟩, ⟨13, 0, []⟩, ⟨4, 0, [33]⟩], 0⟩ := by kernel_rfl
  rw [hk]
  exact tlike_esc p h
theorem parse_notlike (p : List UInt8) (h : (cutL [33] p).isSome = true) : (tLvl 12).E ⟨[⟨2, 0, [110]⟩, ⟨7, 0, []⟩, ⟨12, 0, []⟩, ⟨4, 0, p⟩, ⟨13, 0, []⟩, ⟨4, 0, [33]⟩], 0⟩ = .ok (notA (likeA p [33])) ⟨[], 0⟩ := by
  refine E_of_test (show ¬ (2 : Int) = 7 by decide) ?_
  have hs := sum_name [⟨12, 0, []⟩, ⟨4, 0, p⟩, ⟨13, 0, []⟩, ⟨4, 0, [33]⟩] ⟨7, 0, []⟩ rfl rfl
  generalize sumT = f at hs ⊢
  unfold tTest
  rw [hs]
  show tTail f true nameN ⟨[⟨7, 0, []⟩, ⟨12, 0, []⟩, ⟨4, 0, p⟩, ⟨13, 0, []⟩, ⟨4, 0, [33]⟩], 0⟩ = _
  have hk : tTail f true nameN ⟨[⟨7, 0, []⟩, ⟨12, 0, []⟩, ⟨4, 0, p⟩, ⟨13, 0, []⟩, ⟨4, 0, [33]⟩], 0⟩ = (match tLike nameN ⟨[⟨12, 0, []⟩, ⟨4, 0, p⟩, ⟨13, 0, []⟩, ⟨4, 0, [33]⟩], 0⟩ with
    | .ok t ts' => TRes.ok (.un ⟨5, 0, 0, [], [], []⟩ t) ts'
    | .err en => .err en) := by kernel_rfl
  rw [hk, tlike_esc p h]
  rfl
set_option maxRecDepth 1000000 in
theorem parse_plain (p : List UInt8) : (tLvl 12).E ⟨[⟨2, 0, [110]⟩, ⟨12, 0, []⟩, ⟨4, 0, p⟩], 0⟩ = .ok (likeA p []) ⟨[], 0⟩ := by kernel_rfl
set_option maxRecDepth 1000000 in
theorem parse_in (p : List UInt8) : (tLvl 12).E ⟨[⟨2, 0, [110]⟩, ⟨11, 0, []⟩, ⟨26, 0, []⟩, ⟨4, 0, p⟩, ⟨28, 0, []⟩, ⟨4, 0, noneL⟩, ⟨27, 0, []⟩], 0⟩ = .ok (.un ⟨21, 0, 0, [], [], [p, noneL]⟩ nameN) ⟨[], 0⟩ := by kernel_rfl

def escS : List UInt8 := [32, 69, 83, 67, 65, 80, 69, 32, 39, 33, 39]
theorem readl_like (p : List UInt8) (hl : p.length ≤ 60) (h : (cutL [33] p).isSome = true) : ∃ t, readR (BS ([110, 32, 76, 73, 75, 69, 32] ++ (qtL p ++ escS))) = .ok t ∧ erase t = likeA p [33] ∧ NumA t ∧ BndA t := by
  have := qtL_len p
  exact read_of_tokens _ (by rw [BS_size]; simp [escS]; omega) _ (by rw [BS_data]; exact lx_like p (r := escS) lx_esc (fun c h => by simp [escS] at h; subst h; rfl)) _ (parse_like p h) rfl
theorem readl_not (p : List UInt8) (hl : p.length ≤ 60) (h : (cutL [33] p).isSome = true) : ∃ t, readR (BS ([110, 32, 78, 79, 84, 32, 76, 73, 75, 69, 32] ++ (qtL p ++ escS))) = .ok t ∧ erase t = notA (likeA p [33]) ∧ NumA t ∧ BndA t := by
  have := qtL_len p
  exact read_of_tokens _ (by rw [BS_size]; simp [escS]; omega) _ (by rw [BS_data]; exact lx_notlike p (r := escS) lx_esc (fun c h => by simp [escS] at h; subst h; rfl)) _ (parse_notlike p h) rfl
theorem readl_plain (p : List UInt8) (hl : p.length ≤ 60) : ∃ t, readR (BS ([110, 32, 76, 73, 75, 69, 32] ++ (qtL p ++ []))) = .ok t ∧ erase t = likeA p [] ∧ NumA t ∧ BndA t := by
  have := qtL_len p
  exact read_of_tokens _ (by rw [BS_size]; simp; omega) _ (by rw [BS_data]; exact lx_like p lx_end (fun c h => by cases h)) _ (parse_plain p) rfl
theorem readl_in (p : List UInt8) (hl : p.length ≤ 20) : ∃ t, readR (BS ([110, 32, 73, 78, 32, 40] ++ (qtL p ++ (44 :: 32 :: (qtL noneL ++ [41]))))) = .ok t ∧ erase t = .un ⟨21, 0, 0, [], [], [p, noneL]⟩ nameN ∧ NumA t ∧ BndA t := by
  have := qtL_len p
  have h2 : (qtL noneL).length = 35 := rfl
  exact read_of_tokens _ (by rw [BS_size]; simp [h2]; omega) _ (by rw [BS_data]; exact lx_in p) _ (parse_in p) rfl

/-- The event of Likes. -/
def evn (s : List UInt8) : List Pr := [⟨[110], tV s⟩]
theorem vall_like (s p e : List UInt8) : ofA (evn s) (likeA p e) = bV (fitsB p e s) := rfl
theorem not_bV (p : Bool) : notV (bV p) = bV (!p) := by cases p <;> rfl
theorem vall_not (s p e : List UInt8) : ofA (evn s) (notA (likeA p e)) = bV (!fitsB p e s) := by
  show notV (bV (fitsB p e s)) = _
  exact not_bV _
theorem eq_tt (a b : List UInt8) : eqV (tV a) (tV b) = bV (decide (a = b)) := by
  have h : eqV (tV a) (tV b) = bV (decide (tV a = tV b)) := rfl
  rw [h]
  congr 1
  simp [tV]
theorem vall_in (s t : List UInt8) (hs : s.length ≤ 20) : ofA (evn s) (.un ⟨21, 0, 0, [], [], [t, noneL]⟩ nameN) = bV (decide (s = t)) := by
  show orV (orV (bV false) (eqV (tV s) (tV t))) (eqV (tV s) (tV noneL)) = _
  have hn : ¬ s = noneL := fun h => by rw [h] at hs; revert hs; decide
  rw [eq_tt, eq_tt, decide_eq_false hn]
  cases decide (s = t) <;> rfl
end

section
theorem take_one (s : ByteArray) (k : Nat) (h : k < s.size) : s.data.toList.take (k + 1) = s.data.toList.take k ++ [s[k]] := by
  rw [List.take_add_one, List.getElem?_eq_getElem (by rw [data_len]; exact h), data_getElem s k h]
  rfl
theorem extract_one (s : ByteArray) (k : Nat) (h : k < s.size) : s.extract k (k + 1) = BS [s[k]] := by
  have : (s.extract k (k + 1)).data.toList = [s[k]] := by
    rw [Lib.extract_data]
    rw [Nat.add_sub_cancel_left]
    rw [List.drop_eq_getElem_cons (by rw [data_len]; exact h), data_getElem s k h]
    simp
  apply ByteArray.ext
  apply Array.ext'
  exact this

set_option maxHeartbeats 400000 in
theorem quotedK_any (s : ByteArray) (hs : s.size ≤ 100) (w : World) :
    Calls Tryz.prog 21 #[.string s] w fun e w' => e = .returned (.string (BS (qtL s.data.toList))) ∧ w' = w := by
  have hl := data_len s
  go_enter Tryz.func21, Tryz.ntmps21
  go_wp2_with fail
  go_loop [3, 4] (fun o i => ∃ k : Nat, k ≤ s.size ∧ i = .int .i64 k ∧ o = .string (BS (39 :: dblL (s.data.toList.take k)))) (fun _ i => s.size - (intOf i).toNat)
  case atStart => exact ⟨0, Nat.zero_le _, rfl, rfl⟩
  case round =>
    obtain ⟨k, hk, rfl, rfl⟩ := hrel
    have hz := dblL_len (s.data.toList.take k)
    rw [List.length_take, hl] at hz
    obtain ⟨O, hO⟩ : ∃ O, BS (39 :: dblL (s.data.toList.take k)) = O := ⟨_, rfl⟩
    have zO : O.size ≤ 201 := by rw [← hO, BS_size, List.length_cons]; omega
    by_cases hlt : k < s.size
    · have hX := extract_one s k hlt
      have zX : (s.extract k (k + 1)).size ≤ 1 := by rw [hX, BS_size]; exact Nat.le_refl _
      have hT := take_one s k hlt
      cases hq : (s[k] == 39) with
      | true =>
        have hq' : ((s[k].toNat : Int) == 39) = true := by rw [u8_39]; exact hq
        obtain ⟨Y, eY, zY, aY⟩ := add_run O ⟨#[39]⟩ 201 1 zO (Nat.le_refl _) (by decide)
        obtain ⟨Z, eZ, zZ, aZ⟩ := add_run Y (s.extract k (k + 1)) 202 1 zY zX (by decide)
        have HZ : Hid (Z = BS (39 :: dblL (s.data.toList.take (k + 1)))) := hide (by
          rw [eZ, eY, ← hO, hX, show (⟨#[39]⟩ : ByteArray) = BS [39] from rfl, BS_add, BS_add, hT, dblL_snoc, if_pos hq, eq_of_beq hq]
          simp)
        rw [hO]
        clear hO hz zO hX zX hT hq eY zY eZ zZ
        go_wp2_with fail
        go_round
        case rel => exact ⟨k + 1, by omega, by go_num, by rw [unhide HZ]⟩
        case measure => simp [intOf]; omega
      | false =>
        have hq' : ((s[k].toNat : Int) == 39) = false := by rw [u8_39]; exact hq
        obtain ⟨Z, eZ, zZ, aZ⟩ := add_run O (s.extract k (k + 1)) 201 1 zO zX (by decide)
        have HZ : Hid (Z = BS (39 :: dblL (s.data.toList.take (k + 1)))) := hide (by
          rw [eZ, ← hO, hX, BS_add, hT, dblL_snoc, if_neg (by rw [hq]; decide)]
          simp)
        rw [hO]
        clear hO hz zO hX zX hT hq eZ zZ
        go_wp2_with fail
        go_round
        case rel => exact ⟨k + 1, by omega, by go_num, by rw [unhide HZ]⟩
        case measure => simp [intOf]; omega
    · obtain rfl : k = s.size := by omega
      obtain ⟨Y, eY, zY, aY⟩ := add_run O ⟨#[39]⟩ 201 1 zO (Nat.le_refl _) (by decide)
      have HY : Hid (Y = BS (qtL s.data.toList)) := hide (by
        rw [eY, ← hO, show (⟨#[39]⟩ : ByteArray) = BS [39] from rfl, BS_add, List.take_of_length_le (by rw [hl]; exact Nat.le_refl _)]
        rfl)
      rw [hO]
      clear hO hz zO eY zY
      go_wp2_with fail
      go_ret
      exact ⟨by rw [unhide HY]; rfl, rfl⟩

theorem standsAt_ba (s t : ByteArray) (k : Nat) (h : k + t.size ≤ s.size) : standsAt s.data.toList t.data.toList k = ((s.extract k (k + t.size)).data.toList == t.data.toList) := by
  unfold standsAt
  rw [data_len, data_len, decide_eq_true h, Bool.true_and, Lib.extract_data]
  rw [Nat.add_sub_cancel_left]

set_option maxHeartbeats 400000 in
theorem starts_any (s t : ByteArray) (k : Nat) (hs : s.size ≤ 20) (ht : t.size ≤ 20) (hk : k ≤ 20) (w : World) :
    Calls Tryz.prog 20 #[.string s, .int .i64 k, .string t] w fun e w' => e = .returned (.bool (standsAt s.data.toList t.data.toList k)) ∧ w' = w := by
  by_cases h : k + t.size ≤ s.size
  · have hb := standsAt_ba s t k h
    obtain ⟨b, hb2⟩ : ∃ b, ((s.extract k (k + t.size)).toList == t.toList) = b := ⟨_, rfl⟩
    have HB : Hid (standsAt s.data.toList t.data.toList k = b) := hide (by rw [hb, ← hb2]; rw [Lib.toList_data, Lib.toList_data])
    clear hb
    cases b
    all_goals
      go_enter Tryz.func20, Tryz.ntmps20
      go_wp2_with fail
      go_ret
      exact ⟨by rw [unhide HB]; rfl, rfl⟩
  · have HB : Hid (standsAt s.data.toList t.data.toList k = false) := hide (by unfold standsAt; rw [data_len, data_len, decide_eq_false h]; rfl)
    go_enter Tryz.func20, Tryz.ntmps20
    go_wp2_with fail
    go_ret
    exact ⟨by rw [unhide HB]; rfl, rfl⟩
end

section
theorem BS_self (s : ByteArray) : BS s.data.toList = s := by
  cases s with
  | mk d => cases d with
    | mk l => rfl

/-- The world that holds the event of Likes. -/
def eventedN (w : World) (S : ByteArray) : World := w.alloc (.cells #[.string ⟨#[110]⟩, .int .i64 3, .int .i64 0, .string S] 28)

theorem eventedN_at (w : World) (S : ByteArray) : EvAt (eventedN w S) w.heap.size 0 (evn S.data.toList) := by
  intro k p hk
  unfold eventedN
  match k, hk with
  | 0, hk =>
    obtain rfl : (⟨[110], tV S.data.toList⟩ : Pr) = p := by simpa [evn] using hk
    refine ⟨?_, ?_, ?_, ?_⟩ <;> simp [tV, BS_self]
    rfl
  | k + 1, hk => simp [evn] at hk

theorem evn_ok (l : List UInt8) (h : l.length ≤ 20) : evOk (evn l) = true := by
  have h1 : valOk (tV l) = true := by simp [valOk, tV, h]
  have h2 : okAt (evn l) 0 = true := by
    show (nameOk [110] && valOk (tV l) && !hasB [] [110]) = true
    rw [h1]
    rfl
  show (true && (okAt (evn l) 0 && true)) = true
  rw [h2]
  rfl
theorem evn_short (l : List UInt8) (h : l.length ≤ 20) : Short (evn l) := by
  intro p hp
  simp [evn] at hp
  subst hp
  simp [tV]
  omega
theorem evn_rng (l : List UInt8) : EvRng (evn l) := by
  intro p hp
  simp [evn] at hp
  subst hp
  simp [tV, Rng]
theorem evn_sh (l : List UInt8) (h : l.length ≤ 20) : EvSh (evn l) := by
  intro p hp
  simp [evn] at hp
  subst hp
  show l.length ≤ 1000
  omega

theorem is_n (w : World) (hE : ErrOk w) (S : ByteArray) (hS : S.size ≤ 20) (s : ByteArray) (hs : s.size ≤ 140737488355328) (want : V) (hl : want.str.length ≤ 281474976710656) (u : Ast) (hrd : ∃ t, readR s = .ok t ∧ erase t = u ∧ NumA t ∧ BndA t) (hv : ofA (evn S.data.toList) u = want)
    (w1 : World) (hb : Below (w.heap.size + 1) (eventedN w S) w1) :
    Calls Tryz.prog 17 #[.string s, .slice (some ⟨w.heap.size, 0, none⟩) 1 1, vV want] w1 fun e w' => e = .returned (.bool true) ∧ Below w1.heap.size w1 w' := by
  have hz : (eventedN w S).heap.size = w.heap.size + 1 := by simp [eventedN]
  have hz1 := hb.size
  have hE0 : ErrOk (eventedN w S) := hE.alloc _
  have hL : S.data.toList.length ≤ 20 := by rw [data_len]; exact hS
  obtain ⟨t, hrt, het, hN, hB⟩ := hrd
  have hv' : ofA (evn S.data.toList) t = want := by rw [← of_erase, het]; exact hv
  refine (is_any s (.slice (some ⟨w.heap.size, 0, none⟩) 1 1) want want ⟨_, _, _, rfl⟩ w1 (fun w2 hb2 hlt => ?_)).mono ?_
  · have hb3 : Below (w.heap.size + 1) (eventedN w S) w2 := hb.trans (hb2.mono (by omega))
    have := eval_ok s hs t hrt (evn S.data.toList) w.heap.size 0 1 w2 (hE0.below hb3 (by omega)) (by simp [evn]) (by simp [evn]) (evn_short _ hL) ((eventedN_at w S).belowB hb3 (by omega)) (by have := hb2.size; omega) (evn_ok _ hL) (fun lo => of_every lo (evn S.data.toList) _ (evn_rng _) (evn_sh _ hL) t hB hN) (by rw [hv']; exact hl)
    rw [hv'] at this
    exact this
  · rintro e w' ⟨rfl, h⟩
    exact ⟨by simp, h⟩
end

section
/-- Whether a text stands in another at a place ahead of k. -/
def anyAt (s t : List UInt8) : Nat → Bool
  | 0 => false
  | k + 1 => anyAt s t k || standsAt s t k
theorem anyAt_succ (s t : List UInt8) (k : Nat) : anyAt s t (k + 1) = (anyAt s t k || standsAt s t k) := rfl
theorem anyAt_iff (s t : List UInt8) : ∀ k, anyAt s t k = true ↔ ∃ i, i < k ∧ standsAt s t i = true := by
  intro k
  induction k with
  | zero => exact ⟨fun h => (by cases h), fun ⟨i, hi, _⟩ => absurd hi (Nat.not_lt_zero _)⟩
  | succ k ih =>
    rw [anyAt_succ, Bool.or_eq_true, ih]
    constructor
    · rintro (⟨i, hi, h⟩ | h)
      · exact ⟨i, by omega, h⟩
      · exact ⟨k, by omega, h⟩
    · rintro ⟨i, hi, h⟩
      by_cases he : i = k
      · exact .inr (he ▸ h)
      · exact .inl ⟨i, by omega, h⟩
theorem anyAt_fits (s t : List UInt8) : fitsB (37 :: (escL t ++ [37])) [33] s = anyAt s t (s.length + 1) := by
  rw [Bool.eq_iff_iff, fits_within, anyAt_iff]
  exact ⟨fun ⟨i, hi, h⟩ => ⟨i, by omega, h⟩, fun ⟨i, hi, h⟩ => ⟨i, by omega, h⟩⟩

theorem eqS (S T : ByteArray) : (S.toList == T.toList) = decide (S.data.toList = T.data.toList) := by
  rw [Lib.toList_data, Lib.toList_data, Bool.eq_iff_iff, beq_iff_eq, decide_eq_true_eq]
theorem eqZ (S T : ByteArray) : ((S.size : Int) == (T.size : Int)) = decide (S.data.toList.length = T.size) := by
  rw [data_len, Bool.eq_iff_iff, beq_iff_eq, decide_eq_true_eq]
  omega

theorem quoted_of (P : ByteArray) (l : List UInt8) (h : P = BS l) (hl : l.length ≤ 100) : ∃ Q, Q = BS (qtL l) ∧ Hid (∀ w, Calls Tryz.prog 21 #[.string P] w fun e w' => e = .returned (.string Q) ∧ w' = w) := by
  subst h
  exact ⟨_, rfl, hide (fun w => quotedK_any (BS l) hl w)⟩

def IsN (w : World) (S T : ByteArray) (want : V) : Prop := ∀ w1, Below (w.heap.size + 1) (eventedN w S) w1 →
    Calls Tryz.prog 17 #[.string T, .slice (some ⟨w.heap.size, 0, none⟩) 1 1, vV want] w1 fun e w' => e = .returned (.bool true) ∧ Below w1.heap.size w1 w'

theorem text_like (w : World) (hE : ErrOk w) (S : ByteArray) (zS : S.size ≤ 20) (l : List UInt8) (hl : l.length ≤ 60) (hc : (cutL [33] l).isSome = true) (Q : ByteArray) (hQ : Q = BS (qtL l)) (want : Bool) (hv : fitsB l [33] S.data.toList = want) :
    ∃ T1 T2, (∀ w : World, (Op.stringOp .add ⟨#[110, 32, 76, 73, 75, 69, 32]⟩ Q).run Tryz.prog w = .ok (.string T1) w) ∧ (∀ w : World, (Op.stringOp .add T1 ⟨#[32, 69, 83, 67, 65, 80, 69, 32, 39, 33, 39]⟩).run Tryz.prog w = .ok (.string T2) w) ∧ Hid (IsN w S T2 (bV want)) := by
  have zq := qtL_len l
  have zQ : Q.size ≤ 122 := by rw [hQ, BS_size]; omega
  obtain ⟨T1, e1, z1, a1⟩ := add_run ⟨#[110, 32, 76, 73, 75, 69, 32]⟩ Q 7 122 (Nat.le_refl _) zQ (by decide)
  obtain ⟨T2, e2, z2, a2⟩ := add_run T1 ⟨#[32, 69, 83, 67, 65, 80, 69, 32, 39, 33, 39]⟩ 129 11 z1 (Nat.le_refl _) (by decide)
  have t1 : T2 = BS ([110, 32, 76, 73, 75, 69, 32] ++ (qtL l ++ escS)) := by
    rw [e2, e1, hQ, show (⟨#[110, 32, 76, 73, 75, 69, 32]⟩ : ByteArray) = BS [110, 32, 76, 73, 75, 69, 32] from rfl, show (⟨#[32, 69, 83, 67, 65, 80, 69, 32, 39, 33, 39]⟩ : ByteArray) = BS escS from rfl, BS_add, BS_add, List.append_assoc]
  exact ⟨T1, T2, a1, a2, hide (fun w1 hb => is_n w hE S zS T2 (Nat.le_trans z2 (by decide)) (bV want) (Nat.zero_le _) _ (by rw [t1]; exact readl_like l hl hc) (by rw [vall_like, hv]) w1 hb)⟩

theorem text_not (w : World) (hE : ErrOk w) (S : ByteArray) (zS : S.size ≤ 20) (l : List UInt8) (hl : l.length ≤ 60) (hc : (cutL [33] l).isSome = true) (Q : ByteArray) (hQ : Q = BS (qtL l)) (want : Bool) (hv : (!fitsB l [33] S.data.toList) = want) :
    ∃ T1 T2, (∀ w : World, (Op.stringOp .add ⟨#[110, 32, 78, 79, 84, 32, 76, 73, 75, 69, 32]⟩ Q).run Tryz.prog w = .ok (.string T1) w) ∧ (∀ w : World, (Op.stringOp .add T1 ⟨#[32, 69, 83, 67, 65, 80, 69, 32, 39, 33, 39]⟩).run Tryz.prog w = .ok (.string T2) w) ∧ Hid (IsN w S T2 (bV want)) := by
  have zq := qtL_len l
  have zQ : Q.size ≤ 122 := by rw [hQ, BS_size]; omega
  obtain ⟨T1, e1, z1, a1⟩ := add_run ⟨#[110, 32, 78, 79, 84, 32, 76, 73, 75, 69, 32]⟩ Q 11 122 (Nat.le_refl _) zQ (by decide)
  obtain ⟨T2, e2, z2, a2⟩ := add_run T1 ⟨#[32, 69, 83, 67, 65, 80, 69, 32, 39, 33, 39]⟩ 133 11 z1 (Nat.le_refl _) (by decide)
  have t1 : T2 = BS ([110, 32, 78, 79, 84, 32, 76, 73, 75, 69, 32] ++ (qtL l ++ escS)) := by
    rw [e2, e1, hQ, show (⟨#[110, 32, 78, 79, 84, 32, 76, 73, 75, 69, 32]⟩ : ByteArray) = BS [110, 32, 78, 79, 84, 32, 76, 73, 75, 69, 32] from rfl, show (⟨#[32, 69, 83, 67, 65, 80, 69, 32, 39, 33, 39]⟩ : ByteArray) = BS escS from rfl, BS_add, BS_add, List.append_assoc]
  exact ⟨T1, T2, a1, a2, hide (fun w1 hb => is_n w hE S zS T2 (Nat.le_trans z2 (by decide)) (bV want) (Nat.zero_le _) _ (by rw [t1]; exact readl_not l hl hc) (by rw [vall_not, hv]) w1 hb)⟩

theorem text_plain (w : World) (hE : ErrOk w) (S : ByteArray) (zS : S.size ≤ 20) (l : List UInt8) (hl : l.length ≤ 60) (Q : ByteArray) (hQ : Q = BS (qtL l)) (want : Bool) (hv : fitsB l [] S.data.toList = want) :
    ∃ T1, (∀ w : World, (Op.stringOp .add ⟨#[110, 32, 76, 73, 75, 69, 32]⟩ Q).run Tryz.prog w = .ok (.string T1) w) ∧ Hid (IsN w S T1 (bV want)) := by
  have zq := qtL_len l
  have zQ : Q.size ≤ 122 := by rw [hQ, BS_size]; omega
  obtain ⟨T1, e1, z1, a1⟩ := add_run ⟨#[110, 32, 76, 73, 75, 69, 32]⟩ Q 7 122 (Nat.le_refl _) zQ (by decide)
  have t1 : T1 = BS ([110, 32, 76, 73, 75, 69, 32] ++ (qtL l ++ [])) := by
    rw [e1, hQ, show (⟨#[110, 32, 76, 73, 75, 69, 32]⟩ : ByteArray) = BS [110, 32, 76, 73, 75, 69, 32] from rfl, BS_add, List.append_nil]
  exact ⟨T1, a1, hide (fun w1 hb => is_n w hE S zS T1 (Nat.le_trans z1 (by decide)) (bV want) (Nat.zero_le _) _ (by rw [t1]; exact readl_plain l hl) (by rw [vall_like, hv]) w1 hb)⟩

theorem text_in (w : World) (hE : ErrOk w) (S : ByteArray) (zS : S.size ≤ 20) (l : List UInt8) (hl : l.length ≤ 20) (Q : ByteArray) (hQ : Q = BS (qtL l)) (want : Bool) (hv : decide (S.data.toList = l) = want) :
    ∃ T1 T2, (∀ w : World, (Op.stringOp .add ⟨#[110, 32, 73, 78, 32, 40]⟩ Q).run Tryz.prog w = .ok (.string T1) w) ∧ (∀ w : World, (Op.stringOp .add T1 ⟨#[44, 32, 39, 110, 111, 32, 115, 117, 99, 104, 32, 116, 101, 120, 116, 44, 32, 98, 121, 32, 105, 116, 115, 32, 108, 101, 110, 103, 116, 104, 32, 97, 108, 111, 110, 101, 39, 41]⟩).run Tryz.prog w = .ok (.string T2) w) ∧ Hid (IsN w S T2 (bV want)) := by
  have zq := qtL_len l
  have zQ : Q.size ≤ 42 := by rw [hQ, BS_size]; omega
  obtain ⟨T1, e1, z1, a1⟩ := add_run ⟨#[110, 32, 73, 78, 32, 40]⟩ Q 6 42 (Nat.le_refl _) zQ (by decide)
  obtain ⟨T2, e2, z2, a2⟩ := add_run T1 ⟨#[44, 32, 39, 110, 111, 32, 115, 117, 99, 104, 32, 116, 101, 120, 116, 44, 32, 98, 121, 32, 105, 116, 115, 32, 108, 101, 110, 103, 116, 104, 32, 97, 108, 111, 110, 101, 39, 41]⟩ 48 38 z1 (Nat.le_refl _) (by decide)
  have t1 : T2 = BS ([110, 32, 73, 78, 32, 40] ++ (qtL l ++ (44 :: 32 :: (qtL noneL ++ [41])))) := by
    rw [e2, e1, hQ, show (⟨#[110, 32, 73, 78, 32, 40]⟩ : ByteArray) = BS [110, 32, 73, 78, 32, 40] from rfl, show (⟨#[44, 32, 39, 110, 111, 32, 115, 117, 99, 104, 32, 116, 101, 120, 116, 44, 32, 98, 121, 32, 105, 116, 115, 32, 108, 101, 110, 103, 116, 104, 32, 97, 108, 111, 110, 101, 39, 41]⟩ : ByteArray) = BS (44 :: 32 :: (qtL noneL ++ [41])) from rfl, BS_add, BS_add, List.append_assoc]
  exact ⟨T1, T2, a1, a2, hide (fun w1 hb => is_n w hE S zS T2 (Nat.le_trans z2 (by decide)) (bV want) (Nat.zero_le _) _ (by rw [t1]; exact readl_in l hl) (by rw [vall_in _ _ (by rw [data_len]; exact zS), hv]) w1 hb)⟩

theorem cut_esc (t : List UInt8) : (cutL [33] (escL t)).isSome = true := by
  have := cutL_lit [] [] rfl t
  rw [List.append_nil] at this
  rw [this]
  rfl
theorem cut_esc2 (t : List UInt8) : (cutL [33] (escL t ++ [37])).isSome = true := by
  rw [cutL_lit [37] [⟨2, 0⟩] rfl t]
  rfl
theorem cut_esc3 (t : List UInt8) : (cutL [33] (37 :: (escL t ++ [37]))).isSome = true := by
  rw [cutL_any, cutL_lit [37] [⟨2, 0⟩] rfl t]
  rfl
end

end Go.Proofs.YtfkcaldjphakpaaGreatDoor
