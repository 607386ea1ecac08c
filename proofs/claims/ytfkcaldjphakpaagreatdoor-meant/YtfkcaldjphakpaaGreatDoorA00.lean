/- Contracts of lex.wordSize and lex.markKind. What strconv.ParseInt's contract says of digits alone: plain arithmetic. -/
import Derived.Test.YtfkcaldjphakpaaGreatDoorQLex1
import Derived.Lib.Strings
import Derived.Lib.ParseIntB
namespace Go.Proofs.YtfkcaldjphakpaaGreatDoor
open Go.RowKit

section
/-- The length of the longest beginning all of whose bytes meet p. -/
def runLen (p : UInt8 → Bool) : List UInt8 → Nat
  | [] => 0
  | c :: t => if p c then runLen p t + 1 else 0

def goeU (c : UInt8) : Bool := goeB (c.toNat : Int)
def begU (c : UInt8) : Bool := begB (c.toNat : Int)
def digU (c : UInt8) : Bool := digB (c.toNat : Int)
def spU (c : UInt8) : Bool := spB (c.toNat : Int)

theorem runLen_le (p : UInt8 → Bool) (l : List UInt8) : runLen p l ≤ l.length := by
  induction l with
  | nil => simp [runLen]
  | cons c t ih => simp only [runLen]; split <;> simp <;> omega

/-- One step of a scan: the byte at k goes on. -/
theorem runLen_drop_succ (p : UInt8 → Bool) (l : List UInt8) (k : Nat) (h : k < l.length) (hp : p (l[k]) = true) :
    runLen p (l.drop k) = runLen p (l.drop (k + 1)) + 1 := by
  rw [List.drop_eq_getElem_cons h]; simp [runLen, hp]

theorem runLen_drop_stop (p : UInt8 → Bool) (l : List UInt8) (k : Nat) (h : k < l.length) (hp : p (l[k]) = false) :
    runLen p (l.drop k) = 0 := by
  rw [List.drop_eq_getElem_cons h]; simp [runLen, hp]

theorem runLen_drop_end (p : UInt8 → Bool) (l : List UInt8) (k : Nat) (h : l.length ≤ k) : runLen p (l.drop k) = 0 := by
  rw [List.drop_of_length_le h]; rfl

def wordSize : List UInt8 → Nat
  | [] => 0
  | c :: t => if begU c then runLen goeU t + 1 else 0

theorem data_len (s : ByteArray) : s.data.toList.length = s.size := by simp only [Array.length_toList]; rfl

theorem data_getElem (s : ByteArray) (k : Nat) (h : k < s.size) : s.data.toList[k]'(by rw [data_len]; exact h) = s[k] := rfl

theorem toList_ne {s : ByteArray} (h : 0 < s.size) : s.toList.isEmpty = false := by
  have hl := data_len s
  rw [Lib.toList_data]
  cases he : s.data.toList with
  | nil => rw [he] at hl; simp at hl; omega
  | cons c t => rfl

theorem toList_em {s : ByteArray} (h : ¬ 0 < s.size) : s.toList.isEmpty = true := by
  have hl := data_len s
  rw [Lib.toList_data, List.eq_nil_of_length_eq_zero (show s.data.toList.length = 0 by omega)]; rfl

theorem ret_int {k : IntKind} {a b : Int} (h : a = b) : Ending.returned (.int k a) = .returned (.int k b) := by rw [h]

theorem wordSize_cons (s : ByteArray) (h : 0 < s.size) : wordSize s.data.toList = if begU s[0] then runLen goeU (s.data.toList.drop 1) + 1 else 0 := by
  have e := List.drop_eq_getElem_cons (l := s.data.toList) (i := 0) (by rw [data_len]; exact h)
  rw [List.drop_zero, data_getElem s 0 h] at e
  rw [e]; rfl

set_option maxHeartbeats 400000 in
theorem wordSize_any (s : ByteArray) (hs : s.size ≤ maxLen) (w : World) :
    Calls Tryz.prog 150 #[.string s] w fun e w' => e = .returned (.int .i64 (wordSize s.data.toList)) ∧ w' = w := by
  unfold maxLen at hs
  have hl := data_len s
  by_cases h0 : 0 < s.size
  · have hne : s.toList.isEmpty = false := toList_ne h0
    have hw := wordSize_cons s h0
    cases hb : begU s[0] with
    | false =>
      rw [hb, if_neg (by simp)] at hw
      have H := hide hw
      have Hb := hide hb
      clear hw hb
      go_enter Tryz.func150, Tryz.ntmps150
      go_wp2_with (go_at_call 190; refine (beginsWord_any _ _).mono ?_; rintro e w' ⟨rfl, rfl⟩; rw [show begB (s[0].toNat : Int) = false from unhide Hb])
      go_ret
      exact ⟨ret_int (by rw [unhide H]; rfl), rfl⟩
    | true =>
      rw [hb, if_pos rfl] at hw
      have H := hide hw
      have Hb := hide hb
      clear hw hb
      go_enter Tryz.func150, Tryz.ntmps150
      go_wp2_with (go_at_call 190; refine (beginsWord_any _ _).mono ?_; rintro e w' ⟨rfl, rfl⟩; rw [show begB (s[0].toNat : Int) = true from unhide Hb])
      go_loop [3] (fun i => ∃ k : Nat, 1 ≤ k ∧ k ≤ s.size ∧ i = .int .i64 k ∧ Hid (runLen goeU (s.data.toList.drop 1) + 1 = runLen goeU (s.data.toList.drop k) + k)) (fun i => s.size - (intOf i).toNat)
      case atStart => exact ⟨1, Nat.le_refl _, by omega, rfl, hide rfl⟩
      case round =>
        obtain ⟨k, hk1, hk, rfl, hr⟩ := hrel
        by_cases hlt : k < s.size
        · cases hg : goeU s[k] with
          | true =>
            have hr2 := runLen_drop_succ goeU s.data.toList k (by omega) hg
            have HR : Hid (runLen goeU (s.data.toList.drop 1) + 1 = runLen goeU (s.data.toList.drop (k + 1)) + (k + 1)) := hide (by rw [unhide hr, hr2]; omega)
            have Hg := hide hg
            clear hr2 hg hr
            go_wp2_with (go_at_call 201; refine (goesOnWord_any _ _).mono ?_; rintro e w' ⟨rfl, rfl⟩; rw [show goeB (s[k].toNat : Int) = true from unhide Hg])
            go_round
            case rel => exact ⟨k + 1, by omega, by omega, by go_num, HR⟩
            case measure => simp [intOf]; omega
          | false =>
            have hr2 := runLen_drop_stop goeU s.data.toList k (by omega) hg
            have HR : Hid (runLen goeU (s.data.toList.drop 1) + 1 = k) := hide (by rw [unhide hr, hr2]; omega)
            have Hg := hide hg
            clear hr2 hg hr
            go_wp2_with (go_at_call 201; refine (goesOnWord_any _ _).mono ?_; rintro e w' ⟨rfl, rfl⟩; rw [show goeB (s[k].toNat : Int) = false from unhide Hg])
            go_ret
            exact ⟨ret_int (by rw [unhide H, unhide HR]), rfl⟩
        · have hr2 := runLen_drop_end goeU s.data.toList k (by omega)
          have HR : Hid (runLen goeU (s.data.toList.drop 1) + 1 = k) := hide (by rw [unhide hr, hr2]; omega)
          clear hr2 hr
          go_wp2_with fail
          go_ret
          exact ⟨ret_int (by rw [unhide H, unhide HR]), rfl⟩
  · have hw : wordSize s.data.toList = 0 := by rw [List.eq_nil_of_length_eq_zero (show s.data.toList.length = 0 by omega)]; rfl
    have he : s.toList.isEmpty = true := toList_em h0
    have H := hide hw
    clear hw
    go_enter Tryz.func150, Tryz.ntmps150
    go_wp2_with fail
    go_ret
    exact ⟨ret_int (by rw [unhide H]; rfl), rfl⟩
end

section
open Go.Lib

/-- What digits are worth, behind what 'acc' is worth. -/
def decVal (acc : Nat) : List UInt8 → Nat
  | [] => acc
  | c :: r => decVal (acc * 10 + (c.toNat - 48)) r

theorem le_decVal (l : List UInt8) : ∀ acc, acc ≤ decVal acc l := by
  induction l with
  | nil => intro acc; exact Nat.le_refl _
  | cons c r ih => intro acc; exact Nat.le_trans (by omega) (ih _)

theorem parseUintM_digits (M : Nat) (hM1 : M < 18446744073709551616) (hM2 : 18446744073709551615 ≤ M) (l : List UInt8) : ∀ acc, acc ≤ M → (∀ c ∈ l, 48 ≤ c.toNat ∧ c.toNat ≤ 57) →
    parseUintM M acc l = if decVal acc l ≤ M then .ok (decVal acc l) else .range := by
  induction l with
  | nil => intro acc h _; rw [if_pos (show decVal acc [] ≤ M from h)]; rfl
  | cons c r ih =>
    intro acc h hd
    have hc := hd c (by simp)
    have hle := le_decVal r (acc * 10 + (c.toNat - 48))
    have e : decVal acc (c :: r) = decVal (acc * 10 + (c.toNat - 48)) r := rfl
    rw [e, parseUintM, if_pos hc]
    by_cases h1 : 1844674407370955162 ≤ acc
    · rw [if_pos h1, if_neg (by omega)]
    · rw [if_neg h1]
      by_cases h2 : M < acc * 10 + (c.toNat - 48)
      · rw [if_pos h2, if_neg (by omega)]
      · rw [if_neg h2]
        exact ih _ (by omega) (fun d hd' => hd d (by simp [hd']))

theorem parseIntB_digits (l : List UInt8) (hne : l ≠ []) (hd : ∀ c ∈ l, 48 ≤ c.toNat ∧ c.toNat ≤ 57) :
    parseIntB 64 l = if decVal 0 l ≤ 9223372036854775807 then .ok (decVal 0 l : Int) else .range := by
  cases l with
  | nil => exact absurd rfl hne
  | cons c r =>
    have hc := hd c (by simp)
    have h43 : ¬ (c.toNat = 43 ∨ c.toNat = 45) := by omega
    have h45 : ¬ c.toNat = 45 := by omega
    have hp : (2 : Nat) ^ (64 - 1) = 9223372036854775808 := by decide +kernel
    unfold parseIntB parseUintB
    simp only [if_neg h43, hp]
    rw [if_neg (List.cons_ne_nil c r), parseUintM_digits (2 ^ 64 - 1) (by decide +kernel) (by decide +kernel) _ 0 (Nat.zero_le _) hd]
    by_cases h : decVal 0 (c :: r) ≤ 2 ^ 64 - 1
    · rw [if_pos h]
      by_cases h2 : decVal 0 (c :: r) ≤ 9223372036854775807
      · rw [if_pos h2]; dsimp only
        rw [if_neg (by omega), if_neg (by omega), if_neg h45]
      · rw [if_neg h2]; dsimp only
        rw [if_pos (by omega)]
    · rw [if_neg h, if_neg (by omega)]
end

end Go.Proofs.YtfkcaldjphakpaaGreatDoor
