/- Contracts of core's quoted, sign, spellEscape. -/
import Derived.Test.YtfkcaldjphakpaaGreatDoorA19
import Derived.Test.YtfkcaldjphakpaaGreatDoorA16
import Derived.Test.YtfkcaldjphakpaaGreatDoorShelf2
namespace Go.Proofs.YtfkcaldjphakpaaGreatDoor
open Go.RowKit

theorem replaceK_dbl : ∀ s : List UInt8, Lib.replaceK [39] [39, 39] (Lib.count s [39]) s = dblL s := by
  intro s
  induction s with
  | nil => rfl
  | cons b l ih =>
    rw [dblL]
    by_cases hb : b = 39
    · subst hb
      rw [Lib.count_cons_eq, Nat.add_comm, Lib.replaceK_hit _ _ _ _ 0 (by rfl), if_pos (by rfl)]
      show [] ++ [39, 39] ++ Lib.replaceK [39] [39, 39] (Lib.count l [39]) l = _
      rw [ih]
      rfl
    · rw [Lib.count_cons_ne b 39 l hb, if_neg (by simpa using hb)]
      cases hc : Lib.count l [39] with
      | zero =>
        rw [hc] at ih
        show b :: l = b :: dblL l
        rw [← ih]
        rfl
      | succ k =>
        obtain ⟨i, hi⟩ := Lib.index_of_count (s := l) (old := [39]) (by rw [hc]; omega)
        have hi' : Lib.index (b :: l) [39] = ((i + 1 : Nat) : Int) := by
          rw [Lib.index]
          have h1 : ([39] : List UInt8).isPrefixOf (b :: l) = false := by
            show ((39 : UInt8) == b && true) = false
            rw [Bool.and_true]
            apply beq_eq_false_iff_ne.2
            intro e; exact hb e.symm
          rw [h1, if_neg (by decide), if_neg (by rw [hi]; intro e; have := eq_of_beq e; omega), hi]
          push_cast
          rfl
        rw [hc, Lib.replaceK_hit _ _ _ _ i hi] at ih
        rw [Lib.replaceK_hit _ _ _ _ (i + 1) hi', ← ih]
        rfl
theorem replaceAll_dbl (s : List UInt8) : Lib.replaceAll s [39] [39, 39] = dblL s := by
  unfold Lib.replaceAll Lib.replace
  rw [if_neg (by decide)]
  unfold Lib.replaceNum
  rw [if_pos (.inl (by decide))]
  exact replaceK_dbl s

/-- The sum of two strings. -/
theorem add_any (s t : ByteArray) (m n : Nat) (hs : s.size ≤ m) (ht : t.size ≤ n) (h : m + n ≤ 9000000000) : ∃ r, r = s ++ t ∧ r.size ≤ m + n ∧ ∀ w : World, (Op.stringOp .add s t).run Tryz.prog w = .ok (.string r) w :=
  ⟨s ++ t, rfl, by rw [ByteArray.size_append]; omega, fun w => run_string_add_sum (P := Tryz.prog) (w := w) _ _ (by omega)⟩

theorem qL_len (s : List UInt8) : (qL s).length ≤ 2 * s.length + 2 := by
  have := dblL_len s
  unfold qL
  simp
  omega

set_option maxHeartbeats 400000 in
theorem cquoted_any (s : List UInt8) (hs : s.length ≤ 1000000000) (w : World) (hL : LibOk w) :
    Calls Tryz.prog 210 #[.string (BS s)] w fun e w' => e = .returned (.string (BS (qL s))) ∧ Below w.heap.size w w' := by
  obtain ⟨_, m, hm⟩ := hL.max
  have hc := Lib.countB_le ⟨#[39]⟩ (by decide) _ (BS s) (Nat.le_refl _)
  rw [BS_size] at hc
  have hrep := Tryz.strings_ReplaceAll (BS s) ⟨#[39]⟩ ⟨#[39, 39]⟩ m w (by rw [BS_size]; omega) hm (by decide) (by rw [BS_size]; show _ + _ * 2 ≤ _; omega)
  rw [show Lib.replaceAll (BS s).data.toList (⟨#[39]⟩ : ByteArray).data.toList (⟨#[39, 39]⟩ : ByteArray).data.toList = dblL s from replaceAll_dbl s] at hrep
  have HREP : Hid (Calls Tryz.prog 255 #[.string (BS s), .string ⟨#[39]⟩, .string ⟨#[39, 39]⟩] w fun e w' => e = .returned (.string (BS (dblL s))) ∧ Below w.heap.size w w') := hide hrep
  have hd := dblL_len s
  obtain ⟨R1, e1, z1, a1⟩ := add_any ⟨#[39]⟩ (BS (dblL s)) 1 2000000000 (Nat.le_refl _) (by rw [BS_size]; omega) (by decide)
  obtain ⟨R2, e2, z2, a2⟩ := add_any R1 ⟨#[39]⟩ 2000000001 1 z1 (Nat.le_refl _) (by decide)
  have HR : Hid (R2 = BS (qL s)) := hide (by
    rw [e2, e1, show (⟨#[39]⟩ : ByteArray) = BS [39] from rfl, BS_add, BS_add]
    rfl)
  clear hrep hm hL hc hs hd e1 z1 e2 z2
  go_enter Tryz.func210, Tryz.ntmps210
  go_wp2_with (go_at_call 255; refine (unhide HREP).mono ?_; rintro e w1 ⟨rfl, hb1⟩)
  go_ret
  exact ⟨by rw [unhide HR]; rfl, hb1⟩

theorem signL_len (op : Int) : (signL op).length ≤ 3 := by
  unfold signL
  repeat' split
  all_goals decide

set_option maxHeartbeats 400000 in
theorem csign_any (op : Int) (w : World) :
    Calls Tryz.prog 212 #[.int .i64 op] w fun e w' => e = .returned (.string (BS (signL op))) ∧ w' = w := by
  go_enter Tryz.func212, Tryz.ntmps212
  go_wp2_with fail
  all_goals (go_ret; refine ⟨?_, rfl⟩; go_light; simp only [signL, *, if_true, Bool.false_eq_true, if_false]; rfl)

set_option maxHeartbeats 400000 in
theorem takesEither_any (op : Int) (w : World) :
    Calls Tryz.prog 164 #[.int .i64 op] w fun e w' => e = .returned (.bool (eitherB op)) ∧ w' = w := by
  go_enter Tryz.func164, Tryz.ntmps164
  go_wp2_with fail
  all_goals (go_ret; refine ⟨?_, rfl⟩; go_light; simp only [eitherB, *, Bool.or_true, Bool.true_or, Bool.or_false]; rfl)

set_option maxHeartbeats 400000 in
theorem spellEscape_any (b : Nat) (s : List UInt8) (hs : s.length ≤ 1000000000) (w : World) (hL : LibOk w) (hc : w.cell? ⟨b, 5, none⟩ = some (.string (BS s))) :
    Calls Tryz.prog 211 #[at0 b] w fun e w' => e = .returned (.string (BS (escT s))) ∧ Below w.heap.size w w' := by
  unfold at0 escT
  cases he : s.isEmpty with
  | true =>
    have h1 : (BS s).toList.isEmpty = true := by rw [BS_toList]; exact he
    rw [if_pos rfl]
    clear hL
    go_enter Tryz.func211, Tryz.ntmps211
    go_wp2_with fail
    go_ret
    exact ⟨rfl, Below.refl _ _⟩
  | false =>
    have h1 : (BS s).toList.isEmpty = false := by rw [BS_toList]; exact he
    rw [if_neg (by decide)]
    have HQ := hide (cquoted_any s hs w hL)
    have hq := qL_len s
    obtain ⟨R1, e1, z1, a1⟩ := add_any ⟨#[32, 69, 83, 67, 65, 80, 69, 32]⟩ (BS (qL s)) 8 2000000002 (Nat.le_refl _) (by rw [BS_size]; omega) (by decide)
    have HR : Hid (R1 = BS ([32, 69, 83, 67, 65, 80, 69, 32] ++ qL s)) := hide (by rw [e1, show (⟨#[32, 69, 83, 67, 65, 80, 69, 32]⟩ : ByteArray) = BS [32, 69, 83, 67, 65, 80, 69, 32] from rfl, BS_add])
    clear hL hs hq e1 z1 he
    go_enter Tryz.func211, Tryz.ntmps211
    go_wp2_with (go_at_call 210; refine (unhide HQ).mono ?_; rintro e w1 ⟨rfl, hb1⟩)
    go_ret
    exact ⟨by rw [unhide HR]; rfl, hb1⟩

end Go.Proofs.YtfkcaldjphakpaaGreatDoor
