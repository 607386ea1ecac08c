/- Contracts of the small functions of package lex: which bytes are spaces, digits, begin a word, go on a word. Contracts of lex.wordSize and lex.markKind. Contracts of lex.markKind and lex.mark. -/
import Derived.Test.YtfkcaldjphakpaaGreatDoorProg
import Derived.WalkKit
import Derived.WalkSpells
import Derived.WalkLawsBesides
import Derived.Lib.Strings
import Derived.Deep.Light
import Derived.Lib.IndexBytes
namespace Go.Proofs.YtfkcaldjphakpaaGreatDoor
open Go.RowKit

section
theorem hide {p : Prop} (h : p) : Hid p := h
theorem unhide {p : Prop} (h : Hid p) : p := h

theorem bcell {W w1 : World} (hb : Below W.heap.size W w1) : (∀ b o, b < W.heap.size → w1.cell? ⟨b, o, none⟩ = W.cell? ⟨b, o, none⟩) ∧ (∀ b o, b < W.heap.size → w1.frozen? ⟨b, o, none⟩ = W.frozen? ⟨b, o, none⟩) :=
  ⟨fun b o h => hb.cell (p := ⟨b, o, none⟩) h, fun b o h => hb.frozen (p := ⟨b, o, none⟩) h⟩

theorem below_step {w w' : World} {o : Obj} (hb : Below (w.alloc o).heap.size (w.alloc o) w') : Below w.heap.size w w' :=
  ((Below.refl _ _).alloc (Nat.le_refl _) _).trans (hb.mono (by simp))

/-- The variable strconv.ErrRange holds an error, or nil. -/
def ErrOk (w : World) : Prop := 3 < w.heap.size ∧ ∃ ev, w.cell? ⟨3, 0, none⟩ = some ev ∧ (ev = .nilIface ∨ ∃ te pe, ev = .iface te pe)
theorem ErrOk.below {w w' : World} {B : Nat} (h : ErrOk w) (hb : Below B w w') (hB : w.heap.size ≤ B) : ErrOk w' := by
  obtain ⟨h1, ev, h2, h3⟩ := h
  refine ⟨Nat.lt_of_lt_of_le h1 hb.size, ev, ?_, h3⟩
  rw [hb.cell (p := ⟨3, 0, none⟩) (Nat.lt_of_lt_of_le h1 hB)]; exact h2
theorem ErrOk.alloc {w : World} (h : ErrOk w) (o : Obj) : ErrOk (w.alloc o) :=
  h.below ((Below.refl w.heap.size w).alloc (Nat.le_refl _) o) (Nat.le_refl _)

def spB (c : Int) : Bool := c == 32 || c == 9 || c == 10
def digB (c : Int) : Bool := decide (48 ≤ c) && decide (c ≤ 57)
def begB (c : Int) : Bool := decide (65 ≤ c) && decide (c ≤ 90) || decide (97 ≤ c) && decide (c ≤ 122) || c == 95 || c == 36
def goeB (c : Int) : Bool := begB c || digB c || c == 46

theorem ret_bool {a b : Bool} (h : a = true ↔ b = true) : Ending.returned (.bool a) = .returned (.bool b) := by
  rw [Bool.eq_iff_iff.2 h]

set_option maxHeartbeats 400000 in
theorem isSpace_any (c : Int) (w : World) :
    Calls Tryz.prog 143 #[.int .u8 c] w fun e w' => e = .returned (.bool (spB c)) ∧ w' = w := by
  unfold spB
  go_enter Tryz.func143, Tryz.ntmps143
  go_wp2
  all_goals (go_ret; exact ⟨ret_bool (by simp <;> omega), rfl⟩)

set_option maxHeartbeats 400000 in
theorem isDigit_any (c : Int) (w : World) :
    Calls Tryz.prog 192 #[.int .u8 c] w fun e w' => e = .returned (.bool (digB c)) ∧ w' = w := by
  unfold digB
  go_enter Tryz.func192, Tryz.ntmps192
  go_wp2
  all_goals (go_ret; exact ⟨ret_bool (by simp <;> omega), rfl⟩)

set_option maxHeartbeats 400000 in
theorem beginsWord_any (c : Int) (w : World) :
    Calls Tryz.prog 190 #[.int .u8 c] w fun e w' => e = .returned (.bool (begB c)) ∧ w' = w := by
  unfold begB
  go_enter Tryz.func190, Tryz.ntmps190
  go_wp2
  all_goals (go_ret; exact ⟨ret_bool (by simp <;> omega), rfl⟩)

set_option maxHeartbeats 400000 in
theorem goesOnWord_any (c : Int) (w : World) :
    Calls Tryz.prog 201 #[.int .u8 c] w fun e w' => e = .returned (.bool (goeB c)) ∧ w' = w := by
  unfold goeB
  go_enter Tryz.func201, Tryz.ntmps201
  go_wp2_with (first | (go_at_call 190; refine (beginsWord_any _ _).mono ?_; rintro e w' ⟨rfl, rfl⟩) | (go_at_call 192; refine (isDigit_any _ _).mono ?_; rintro e w' ⟨rfl, rfl⟩))
  all_goals (go_ret; exact ⟨ret_bool (by simp_all), rfl⟩)
end

section
/-- The length of the longest beginning all of whose bytes meet p. -/
def runLen (p : UInt8 → Bool) : List UInt8 → Nat
  | [] => 0
  | c :: t => if p c then runLen p t + 1 else 0

def goeU (c : UInt8) : Bool := goeB (c.toNat : Int)
def begU (c : UInt8) : Bool := begB (c.toNat : Int)
def digU (c : UInt8) : Bool := digB (c.toNat : Int)
def spU (c : UInt8) : Bool := spB (c.toNat : Int)

theorem runLen_le (p : UInt8 → Bool) (l : List UInt8) : runLen p l ≤ l.length := by
  induction l with
  | nil => simp [runLen]
  | cons c t ih => simp only [runLen]; split <;> simp <;> omega

/-- One step of a scan: the byte at k goes on. -/
theorem runLen_drop_succ (p : UInt8 → Bool) (l : List UInt8) (k : Nat) (h : k < l.length) (hp : p (l[k]) = true) :
    runLen p (l.drop k) = runLen p (l.drop (k + 1)) + 1 := by
  rw [List.drop_eq_getElem_cons h]; simp [runLen, hp]

theorem runLen_drop_stop (p : UInt8 → Bool) (l : List UInt8) (k : Nat) (h : k < l.length) (hp : p (l[k]) = false) :
    runLen p (l.drop k) = 0 := by
  rw [List.drop_eq_getElem_cons h]; simp [runLen, hp]

theorem runLen_drop_end (p : UInt8 → Bool) (l : List UInt8) (k : Nat) (h : l.length ≤ k) : runLen p (l.drop k) = 0 := by
  rw [List.drop_of_length_le h]; rfl

def wordSize : List UInt8 → Nat
  | [] => 0
  | c :: t => if begU c then runLen goeU t + 1 else 0

theorem data_len (s : ByteArray) : s.data.toList.length = s.size := by simp only [Array.length_toList]; rfl

theorem data_getElem (s : ByteArray) (k : Nat) (h : k < s.size) : s.data.toList[k]'(by rw [data_len]; exact h) = s[k] := rfl

theorem toList_ne {s : ByteArray} (h : 0 < s.size) : s.toList.isEmpty = false := by
  have hl := data_len s
  rw [Lib.toList_data]
  cases he : s.data.toList with
  | nil => rw [he] at hl; simp at hl; omega
  | cons c t => rfl

theorem toList_em {s : ByteArray} (h : ¬ 0 < s.size) : s.toList.isEmpty = true := by
  have hl := data_len s
  rw [Lib.toList_data, List.eq_nil_of_length_eq_zero (show s.data.toList.length = 0 by omega)]; rfl

theorem ret_int {k : IntKind} {a b : Int} (h : a = b) : Ending.returned (.int k a) = .returned (.int k b) := by rw [h]

theorem wordSize_cons (s : ByteArray) (h : 0 < s.size) : wordSize s.data.toList = if begU s[0] then runLen goeU (s.data.toList.drop 1) + 1 else 0 := by
  have e := List.drop_eq_getElem_cons (l := s.data.toList) (i := 0) (by rw [data_len]; exact h)
  rw [List.drop_zero, data_getElem s 0 h] at e
  rw [e]; rfl

set_option maxHeartbeats 400000 in
theorem wordSize_any (s : ByteArray) (hs : s.size ≤ maxLen) (w : World) :
    Calls Tryz.prog 150 #[.string s] w fun e w' => e = .returned (.int .i64 (wordSize s.data.toList)) ∧ w' = w := by
  unfold maxLen at hs
  have hl := data_len s
  by_cases h0 : 0 < s.size
  · have hne : s.toList.isEmpty = false := toList_ne h0
    have hw := wordSize_cons s h0
    cases hb : begU s[0] with
    | false =>
      rw [hb, if_neg (by simp)] at hw
      have H := hide hw
      have Hb := hide hb
      clear hw hb
      go_enter Tryz.func150, Tryz.ntmps150
      go_wp2_with (go_at_call 190; refine (beginsWord_any _ _).mono ?_; rintro e w' ⟨rfl, rfl⟩; rw [show begB (s[0].toNat : Int) = false from unhide Hb])
      go_ret
      exact ⟨ret_int (by rw [unhide H]; rfl), rfl⟩
    | true =>
      rw [hb, if_pos rfl] at hw
      have H := hide hw
      have Hb := hide hb
      clear hw hb
      go_enter Tryz.func150, Tryz.ntmps150
      go_wp2_with (go_at_call 190; refine (beginsWord_any _ _).mono ?_; rintro e w' ⟨rfl, rfl⟩; rw [show begB (s[0].toNat : Int) = true from unhide Hb])
      go_loop [3] (fun i => ∃ k : Nat, 1 ≤ k ∧ k ≤ s.size ∧ i = .int .i64 k ∧ Hid (runLen goeU (s.data.toList.drop 1) + 1 = runLen goeU (s.data.toList.drop k) + k)) (fun i => s.size - (intOf i).toNat)
      case atStart => exact ⟨1, Nat.le_refl _, by omega, rfl, hide rfl⟩
      case round =>
        obtain ⟨k, hk1, hk, rfl, hr⟩ := hrel
        by_cases hlt : k < s.size
        · cases hg : goeU s[k] with
          | true =>
            have hr2 := runLen_drop_succ goeU s.data.toList k (by omega) hg
            have HR : Hid (runLen goeU (s.data.toList.drop 1) + 1 = runLen goeU (s.data.toList.drop (k + 1)) + (k + 1)) := hide (by rw [unhide hr, hr2]; omega)
            have Hg := hide hg
            clear hr2 hg hr
            go_wp2_with (go_at_call 201; refine (goesOnWord_any _ _).mono ?_; rintro e w' ⟨rfl, rfl⟩; rw [show goeB (s[k].toNat : Int) = true from unhide Hg])
            go_round
            case rel => exact ⟨k + 1, by omega, by omega, by go_num, HR⟩
            case measure => simp [intOf]; omega
          | false =>
            have hr2 := runLen_drop_stop goeU s.data.toList k (by omega) hg
            have HR : Hid (runLen goeU (s.data.toList.drop 1) + 1 = k) := hide (by rw [unhide hr, hr2]; omega)
            have Hg := hide hg
            clear hr2 hg hr
            go_wp2_with (go_at_call 201; refine (goesOnWord_any _ _).mono ?_; rintro e w' ⟨rfl, rfl⟩; rw [show goeB (s[k].toNat : Int) = false from unhide Hg])
            go_ret
            exact ⟨ret_int (by rw [unhide H, unhide HR]), rfl⟩
        · have hr2 := runLen_drop_end goeU s.data.toList k (by omega)
          have HR : Hid (runLen goeU (s.data.toList.drop 1) + 1 = k) := hide (by rw [unhide hr, hr2]; omega)
          clear hr2 hr
          go_wp2_with fail
          go_ret
          exact ⟨ret_int (by rw [unhide H, unhide HR]), rfl⟩
  · have hw : wordSize s.data.toList = 0 := by rw [List.eq_nil_of_length_eq_zero (show s.data.toList.length = 0 by omega)]; rfl
    have he : s.toList.isEmpty = true := toList_em h0
    have H := hide hw
    clear hw
    go_enter Tryz.func150, Tryz.ntmps150
    go_wp2_with fail
    go_ret
    exact ⟨ret_int (by rw [unhide H]; rfl), rfl⟩
end

section
/-- The string of a list of bytes. -/
def BS (l : List UInt8) : ByteArray := ⟨l.toArray⟩
theorem BS_data (l : List UInt8) : (BS l).data.toList = l := rfl
theorem BS_of (s : ByteArray) : BS s.data.toList = s := rfl
theorem BS_toList (l : List UInt8) : (BS l).toList = l := by rw [Lib.toList_data]; rfl
theorem BS_size (l : List UInt8) : (BS l).size = l.length := rfl
theorem extract_BS (s : ByteArray) (a b : Nat) : s.extract a b = BS ((s.data.toList.drop a).take (b - a)) := by
  rw [← Lib.extract_data]; rfl

def markK (l : List UInt8) : Int :=
  if l == [61] then 16 else if l == [60] then 18 else if l == [60, 61] then 19 else if l == [62] then 20 else if l == [62, 61] then 21
  else if l == [43] then 22 else if l == [45] then 23 else if l == [42] then 24 else if l == [47] then 25 else if l == [40] then 26
  else if l == [41] then 27 else if l == [44] then 28 else 1

set_option maxHeartbeats 400000 in
theorem markKind_any (s : ByteArray) (w : World) :
    Calls Tryz.prog 240 #[.string s] w fun e w' => e = .returned (.int .i64 (markK s.data.toList)) ∧ w' = w := by
  go_enter Tryz.func240, Tryz.ntmps240
  go_wp2_with fail
  all_goals (go_ret; refine ⟨ret_int ?_, rfl⟩; simp only [Lib.toList_data] at *; simp only [markK, *, if_true, Bool.false_eq_true, if_false])

/-- A token's kind, number and text. -/
structure Tk where
  kind : Int
  num : Int
  str : List UInt8

def tkV (t : Tk) (place : Int) : Value := .agg #[.int .i64 t.kind, .int .i64 place, .int .i64 t.num, .string (BS t.str)]
def plainTk (k : Int) : Tk := ⟨k, 0, []⟩

def markS (l : List UInt8) : Nat :=
  match l with
  | [] => 1
  | [_] => 1
  | a :: b :: _ => if a == 60 && b == 62 || (a == 60 || a == 62) && b == 61 then 2 else 1

def markT (l : List UInt8) : Int := if l.take 2 == [60, 62] then 17 else markK (l.take (markS l))

theorem u8_beq (c d : UInt8) : ((c.toNat : Int) == (d.toNat : Int)) = (c == d) := by
  rw [Bool.eq_iff_iff]; simp [← UInt8.toNat_inj]; omega
theorem u8_39 (c : UInt8) : ((c.toNat : Int) == 39) = (c == 39) := u8_beq c 39
theorem u8_60 (c : UInt8) : ((c.toNat : Int) == 60) = (c == 60) := u8_beq c 60
theorem u8_61 (c : UInt8) : ((c.toNat : Int) == 61) = (c == 61) := u8_beq c 61
theorem u8_62 (c : UInt8) : ((c.toNat : Int) == 62) = (c == 62) := u8_beq c 62

theorem tok_ret {k k' z z' : Int} (hk : k = k') (hz : z = z') :
    Ending.returned (.tuple #[.agg #[.int .i64 k, .int .i64 0, .int .i64 0, .string ⟨#[]⟩], .int .i64 z]) = .returned (.tuple #[tkV (plainTk k') 0, .int .i64 z']) := by
  rw [hk, hz]; rfl

theorem one_byte (s : ByteArray) (h : s.size = 1) : s.data.toList = [s[0]] := by
  have hl := data_len s
  have e := List.drop_eq_getElem_cons (l := s.data.toList) (i := 0) (by omega)
  rw [List.drop_zero, data_getElem s 0 (by omega), List.drop_of_length_le (by omega)] at e
  exact e

set_option maxHeartbeats 400000 in
theorem mark_any (s : ByteArray) (h0 : 0 < s.size) (hs : s.size ≤ maxLen) (w : World) :
    Calls Tryz.prog 195 #[.string s] w fun e w' => e = .returned (.tuple #[tkV (plainTk (markT s.data.toList)) 0, .int .i64 (markS s.data.toList)]) ∧ Below w.heap.size w w' := by
  unfold maxLen at hs
  by_cases h1 : 1 < s.size
  · obtain ⟨t, ht⟩ := Lib.two_bytes s h1
    have HT := hide ht
    clear ht
    go_enter Tryz.func195, Tryz.ntmps195
    go_wp2_with (go_at_call 240; refine (markKind_any _ _).mono ?_; rintro e w' ⟨rfl, rfl⟩)
    all_goals
      refine bodyPost_ret (by simp [results, Tryz.results195, go_sem]; rfl) rfl ⟨?_, ?_⟩
      case refine_2 => exact (Below.refl _ _).alloc (Nat.le_refl _) _
    all_goals (go_light; rw [unhide HT]; simp only [u8_60, u8_61, u8_62] at *; refine tok_ret ?_ ?_ <;> simp_all [markT, markS])
  · have ht := one_byte s (by omega)
    have HT := hide ht
    clear ht
    go_enter Tryz.func195, Tryz.ntmps195
    go_wp2_with (go_at_call 240; refine (markKind_any _ _).mono ?_; rintro e w' ⟨rfl, rfl⟩)
    all_goals
      refine bodyPost_ret (by simp [results, Tryz.results195, go_sem]; rfl) rfl ⟨?_, ?_⟩
      case refine_2 => exact (Below.refl _ _).alloc (Nat.le_refl _) _
    all_goals (go_light; rw [unhide HT]; refine tok_ret ?_ ?_ <;> simp [markT, markS])
end

end Go.Proofs.YtfkcaldjphakpaaGreatDoor
