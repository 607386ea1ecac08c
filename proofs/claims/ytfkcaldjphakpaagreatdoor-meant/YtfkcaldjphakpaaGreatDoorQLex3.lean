/- Contracts of lex.markKind and lex.mark. -/
import Derived.Test.YtfkcaldjphakpaaGreatDoorA00
import Derived.Deep.Light
import Derived.Lib.IndexBytes
namespace Go.Proofs.YtfkcaldjphakpaaGreatDoor
open Go.RowKit

/-- The string of a list of bytes. -/
def BS (l : List UInt8) : ByteArray := ⟨l.toArray⟩
theorem BS_data (l : List UInt8) : (BS l).data.toList = l := rfl
theorem BS_toList (l : List UInt8) : (BS l).toList = l := by rw [Lib.toList_data]; rfl
theorem BS_size (l : List UInt8) : (BS l).size = l.length := rfl
def markK (l : List UInt8) : Int :=
  if l == [61] then 16 else if l == [60] then 18 else if l == [60, 61] then 19 else if l == [62] then 20 else if l == [62, 61] then 21
  else if l == [43] then 22 else if l == [45] then 23 else if l == [42] then 24 else if l == [47] then 25 else if l == [40] then 26
  else if l == [41] then 27 else if l == [44] then 28 else 1

set_option maxHeartbeats 400000 in
theorem markKind_any (s : ByteArray) (w : World) :
    Calls Tryz.prog 240 #[.string s] w fun e w' => e = .returned (.int .i64 (markK s.data.toList)) ∧ w' = w := by
  go_enter Tryz.func240, Tryz.ntmps240
  go_wp2_with fail
  all_goals (go_ret; refine ⟨ret_int ?_, rfl⟩; simp only [Lib.toList_data] at *; simp only [markK, *, if_true, Bool.false_eq_true, if_false])

/-- A token's kind, number and text. -/
structure Tk where
  kind : Int
  num : Int
  str : List UInt8

def tkV (t : Tk) (place : Int) : Value := .agg #[.int .i64 t.kind, .int .i64 place, .int .i64 t.num, .string (BS t.str)]
def plainTk (k : Int) : Tk := ⟨k, 0, []⟩

def markS (l : List UInt8) : Nat :=
  match l with
  | [] => 1
  | [_] => 1
  | a :: b :: _ => if a == 60 && b == 62 || (a == 60 || a == 62) && b == 61 then 2 else 1

def markT (l : List UInt8) : Int := if l.take 2 == [60, 62] then 17 else markK (l.take (markS l))

theorem u8_beq (c d : UInt8) : ((c.toNat : Int) == (d.toNat : Int)) = (c == d) := by
  rw [Bool.eq_iff_iff]; simp [← UInt8.toNat_inj]; omega
theorem u8_39 (c : UInt8) : ((c.toNat : Int) == 39) = (c == 39) := u8_beq c 39
theorem u8_60 (c : UInt8) : ((c.toNat : Int) == 60) = (c == 60) := u8_beq c 60
theorem u8_61 (c : UInt8) : ((c.toNat : Int) == 61) = (c == 61) := u8_beq c 61
theorem u8_62 (c : UInt8) : ((c.toNat : Int) == 62) = (c == 62) := u8_beq c 62

theorem tok_ret {k k' z z' : Int} (hk : k = k') (hz : z = z') :
    Ending.returned (.tuple #[.agg #[.int .i64 k, .int .i64 0, .int .i64 0, .string ⟨#[]⟩], .int .i64 z]) = .returned (.tuple #[tkV (plainTk k') 0, .int .i64 z']) := by
  rw [hk, hz]; rfl

theorem one_byte (s : ByteArray) (h : s.size = 1) : s.data.toList = [s[0]] := by
  have hl := data_len s
  have e := List.drop_eq_getElem_cons (l := s.data.toList) (i := 0) (by omega)
  rw [List.drop_zero, data_getElem s 0 (by omega), List.drop_of_length_le (by omega)] at e
  exact e

set_option maxHeartbeats 400000 in
theorem mark_any (s : ByteArray) (h0 : 0 < s.size) (hs : s.size ≤ maxLen) (w : World) :
    Calls Tryz.prog 195 #[.string s] w fun e w' => e = .returned (.tuple #[tkV (plainTk (markT s.data.toList)) 0, .int .i64 (markS s.data.toList)]) ∧ Below w.heap.size w w' := by
  unfold maxLen at hs
  by_cases h1 : 1 < s.size
  · obtain ⟨t, ht⟩ := Lib.two_bytes s h1
    have HT := hide ht
    clear ht
    go_enter Tryz.func195, Tryz.ntmps195
    go_wp2_with (go_at_call 240; refine (markKind_any _ _).mono ?_; rintro e w' ⟨rfl, rfl⟩)
    all_goals
      refine bodyPost_ret (by simp [results, Tryz.results195, go_sem]; rfl) rfl ⟨?_, ?_⟩
      case refine_2 => exact (Below.refl _ _).alloc (Nat.le_refl _) _
    all_goals (go_light; rw [unhide HT]; simp only [u8_60, u8_61, u8_62] at *; refine tok_ret ?_ ?_ <;> simp_all [markT, markS])
  · have ht := one_byte s (by omega)
    have HT := hide ht
    clear ht
    go_enter Tryz.func195, Tryz.ntmps195
    go_wp2_with (go_at_call 240; refine (markKind_any _ _).mono ?_; rintro e w' ⟨rfl, rfl⟩)
    all_goals
      refine bodyPost_ret (by simp [results, Tryz.results195, go_sem]; rfl) rfl ⟨?_, ?_⟩
      case refine_2 => exact (Below.refl _ _).alloc (Nat.le_refl _) _
    all_goals (go_light; rw [unhide HT]; refine tok_ret ?_ ?_ <;> simp [markT, markS])

end Go.Proofs.YtfkcaldjphakpaaGreatDoor
