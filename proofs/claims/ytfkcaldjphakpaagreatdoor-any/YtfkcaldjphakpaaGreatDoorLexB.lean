/- Contracts of lex.wordKind and lex.word. What strconv.ParseInt's contract says of digits alone: plain arithmetic. The contract of lex.number. The contract of lex.quoted. The contract of lex.quoted: the walk. The contracts of lex.first, lex.Next and lex.IsName. The contracts of lex.Next and lex.IsName. -/
import Derived.Test.YtfkcaldjphakpaaGreatDoorLexA
import Derived.Test.YtfkcaldjphakpaaGreatDoorShelf
import Derived.Lib.ParseIntB
import Derived.Lib.AtoiErrMem
import Derived.Laws.IdiomStrings
namespace Go.Proofs.YtfkcaldjphakpaaGreatDoor
open Go.RowKit

section
def kwK (l : List UInt8) : Int :=
  if l == [65, 78, 68] then 5 else if l == [79, 82] then 6 else if l == [78, 79, 84] then 7 else if l == [84, 82, 85, 69] then 8
  else if l == [70, 65, 76, 83, 69] then 9 else if l == [66, 69, 84, 87, 69, 69, 78] then 10 else if l == [73, 78] then 11
  else if l == [76, 73, 75, 69] then 12 else if l == [69, 83, 67, 65, 80, 69] then 13 else if l == [73, 83] then 14
  else if l == [78, 85, 76, 76] then 15 else 2

def wordK (l : List UInt8) : Int := kwK (Lib.toUpperA l)

theorem asciiAt {l : List UInt8} (h : ∀ c ∈ l, c.toNat < 128) : ∀ (j : Nat) (b : UInt8), l[j]? = some b → b.toNat < 128 :=
  fun _ _ hj => h _ (List.mem_of_getElem? hj)

set_option maxHeartbeats 400000 in
theorem wordKind_any (s : ByteArray) (hs : s.size ≤ 140737488355328) (ha : ∀ c ∈ s.data.toList, c.toNat < 128) (w : World) :
    Calls Tryz.prog 151 #[.string s] w fun e w' => e = .returned (.int .i64 (wordK s.data.toList)) ∧ Below w.heap.size w w' := by
  have Ha := hide (asciiAt ha)
  clear ha
  unfold wordK
  obtain ⟨u, hu⟩ : ∃ u, Lib.toUpperA s.data.toList = u := ⟨_, rfl⟩
  rw [hu]
  have Hu := hide hu
  clear hu
  go_enter Tryz.func151, Tryz.ntmps151
  go_wp2_with (go_at_call 202; refine (Tryz.strings_ToUpper_ascii _ _ hs (unhide Ha)).mono ?_; rintro e w' ⟨rfl, hb⟩; rw [unhide Hu])
  all_goals (go_ret; refine ⟨ret_int ?_, by assumption⟩; go_light; simp only [kwK, *, if_true, Bool.false_eq_true, if_false])


theorem goe_ascii {c : UInt8} (h : goeU c = true) : c.toNat < 128 := by
  simp [goeU, goeB, begB, digB] at h; omega
theorem beg_ascii {c : UInt8} (h : begU c = true) : c.toNat < 128 := by
  simp [begU, begB] at h; omega

theorem runLen_all (p : UInt8 → Bool) (l : List UInt8) : ∀ c ∈ l.take (runLen p l), p c = true := by
  induction l with
  | nil => simp [runLen]
  | cons d t ih =>
    intro c hc
    by_cases hd : p d = true
    · simp only [runLen, hd, if_true, List.take_succ_cons, List.mem_cons] at hc
      rcases hc with rfl | hc
      · exact hd
      · exact ih c hc
    · simp [runLen, hd] at hc

theorem wordSize_le (l : List UInt8) : wordSize l ≤ l.length := by
  cases l with
  | nil => simp [wordSize]
  | cons c t => have := runLen_le goeU t; simp only [wordSize]; split <;> simp <;> omega

theorem word_ascii (l : List UInt8) : ∀ c ∈ l.take (wordSize l), c.toNat < 128 := by
  cases l with
  | nil => simp
  | cons d t =>
    intro c hc
    by_cases hd : begU d = true
    · simp only [wordSize, hd, if_true, List.take_succ_cons, List.mem_cons] at hc
      rcases hc with rfl | hc
      · exact beg_ascii hd
      · exact goe_ascii (runLen_all goeU t c hc)
    · simp [wordSize, hd] at hc

/-- The token that a text with a letter in front begins with. -/
def wordTk (l : List UInt8) : Tk := if wordK (l.take (wordSize l)) = 2 then ⟨2, 0, l.take (wordSize l)⟩ else plainTk (wordK (l.take (wordSize l)))

theorem tok_ret2 {w : Tk} {k n : Int} {b : ByteArray} {z z' : Int} (hk : k = w.kind) (hn : n = w.num) (hs : b = BS w.str) (hz : z = z') :
    Ending.returned (.tuple #[.agg #[.int .i64 k, .int .i64 0, .int .i64 n, .string b], .int .i64 z]) = .returned (.tuple #[tkV w 0, .int .i64 z']) := by
  rw [hk, hn, hs, hz]; rfl

set_option maxHeartbeats 400000 in
theorem clone_any (s : ByteArray) (w : World) (hs : s.size ≤ 281474976710656) :
    Calls Tryz.prog 39 #[.string s] w fun e w' => e = .returned (.string s) ∧ Below w.heap.size w w' := by
  go_enter Tryz.func39, Tryz.ntmps39
  go_wp2_with (go_at_call 66; refine (Tryz.stringslite_Clone s _ hs).mono ?_; rintro e w1 ⟨rfl, hb1⟩)
  go_ret
  exact ⟨rfl, hb1⟩

set_option maxHeartbeats 400000 in
theorem word_any (s : ByteArray) (hs : s.size ≤ 140737488355328) (w : World) :
    Calls Tryz.prog 191 #[.string s] w fun e w' => e = .returned (.tuple #[tkV (wordTk s.data.toList) 0, .int .i64 (wordSize s.data.toList)]) ∧ Below w.heap.size w w' := by
  have hle := wordSize_le s.data.toList
  rw [data_len] at hle
  have hx : (s.extract 0 (wordSize s.data.toList)).data.toList = s.data.toList.take (wordSize s.data.toList) := by rw [Lib.extract_data]; simp
  have hm : s.size ≤ maxLen := by unfold maxLen; omega
  have Ha := hide (word_ascii s.data.toList)
  obtain ⟨z, hz⟩ : ∃ z, wordSize s.data.toList = z := ⟨_, rfl⟩
  have Hk : Hid (wordTk s.data.toList = if wordK (s.data.toList.take z) = 2 then ⟨2, 0, s.data.toList.take z⟩ else plainTk (wordK (s.data.toList.take z))) := by rw [← hz]; exact hide rfl
  rw [hz] at hle hx Ha ⊢
  have Hx := hide hx
  have Hz := hide hz
  clear hx hz
  obtain ⟨k, hk⟩ : ∃ k, wordK (s.data.toList.take z) = k := ⟨_, rfl⟩
  have Hkk := hide hk
  clear hk
  by_cases h2 : k = 2
  · have h2'' : (k != 2) = false := by simp [h2]
    have H2 := hide h2
    clear h2
    go_enter Tryz.func191, Tryz.ntmps191
    go_wp2_with (first | (go_at_call 150; refine (wordSize_any _ hm _).mono ?_; rintro e w' ⟨rfl, rfl⟩; rw [unhide Hz]) | (go_at_call 151; refine (wordKind_any _ (by simp; omega) (by rw [unhide Hx]; exact unhide Ha) _).mono ?_; rintro e w' ⟨rfl, hb⟩; obtain ⟨hc, hf⟩ := bcell hb; have hz := hb.size; rw [unhide Hx, unhide Hkk]) | (go_at_call 39; refine (clone_any _ _ (by simp; omega)).mono ?_; rintro e w2 ⟨rfl, hb2⟩; have hz1 : w.heap.size < w'.heap.size := (by simp at hz; omega); have hz2 : w.heap.size < w2.heap.size := (by have := hb2.size; omega); have c0 : w2.cell? ⟨w.heap.size, 0, none⟩ = some (.int .i64 0) := ((bcell hb2).1 _ 0 hz1).trans ((hc _ 0 (by simp)).trans (by simp)); have c1 : w2.cell? ⟨w.heap.size, 1, none⟩ = some (.int .i64 0) := ((bcell hb2).1 _ 1 hz1).trans ((hc _ 1 (by simp)).trans (by simp)); have c2 : w2.cell? ⟨w.heap.size, 2, none⟩ = some (.int .i64 0) := ((bcell hb2).1 _ 2 hz1).trans ((hc _ 2 (by simp)).trans (by simp)); have c3 : w2.cell? ⟨w.heap.size, 3, none⟩ = some (.string ⟨#[]⟩) := ((bcell hb2).1 _ 3 hz1).trans ((hc _ 3 (by simp)).trans (by simp)); have z0 : ∀ j, w2.frozen? ⟨w.heap.size, j, none⟩ = false := (fun j => ((bcell hb2).2 _ j hz1).trans ((hf _ j (by simp)).trans (by simp))); have hB := hide (hb.trans (hb2.mono hb.size)); clear hb hb2 hc hf hz))
    refine bodyPost_ret (by simp [results, Tryz.results191, go_sem, c0, c1, c2, c3]; rfl) rfl ⟨?_, ?_⟩
    all_goals go_light
    · exact tok_ret2 (by rw [unhide Hk, unhide Hkk, if_pos (unhide H2)]) (by rw [unhide Hk, unhide Hkk, if_pos (unhide H2)]) (by rw [unhide Hk, unhide Hkk, if_pos (unhide H2), ← unhide Hx]; rfl) rfl
    · exact ((((below_step (unhide hB)).setCell (by simp) _).setCell (by simp) _).setCell (by simp) _).setCell (by simp) _
  · have h2'' : (k != 2) = true := by simp [h2]
    have H2 := hide h2
    clear h2
    go_enter Tryz.func191, Tryz.ntmps191
    go_wp2_with (first | (go_at_call 150; refine (wordSize_any _ hm _).mono ?_; rintro e w' ⟨rfl, rfl⟩; rw [unhide Hz]) | (go_at_call 151; refine (wordKind_any _ (by simp; omega) (by rw [unhide Hx]; exact unhide Ha) _).mono ?_; rintro e w' ⟨rfl, hb⟩; obtain ⟨hc, hf⟩ := bcell hb; have hz := hb.size; rw [unhide Hx, unhide Hkk]))
    refine bodyPost_ret (by simp [results, Tryz.results191, go_sem, hc]; rfl) rfl ⟨?_, ?_⟩
    all_goals go_light
    · exact tok_ret2 (by rw [unhide Hk, unhide Hkk, if_neg (unhide H2)]; rfl) (by rw [unhide Hk, unhide Hkk, if_neg (unhide H2)]; rfl) (by rw [unhide Hk, unhide Hkk, if_neg (unhide H2)]; rfl) rfl
    · exact ((((below_step hb).setCell (by simp) _).setCell (by simp) _).setCell (by simp) _).setCell (by simp) _
end

section
open Go.Lib

/-- What digits are worth, behind what 'acc' is worth. -/
def decVal (acc : Nat) : List UInt8 → Nat
  | [] => acc
  | c :: r => decVal (acc * 10 + (c.toNat - 48)) r

theorem le_decVal (l : List UInt8) : ∀ acc, acc ≤ decVal acc l := by
  induction l with
  | nil => intro acc; exact Nat.le_refl _
  | cons c r ih => intro acc; exact Nat.le_trans (by omega) (ih _)

theorem parseUintM_digits (M : Nat) (hM1 : M < 18446744073709551616) (hM2 : 18446744073709551615 ≤ M) (l : List UInt8) : ∀ acc, acc ≤ M → (∀ c ∈ l, 48 ≤ c.toNat ∧ c.toNat ≤ 57) →
    parseUintM M acc l = if decVal acc l ≤ M then .ok (decVal acc l) else .range := by
  induction l with
  | nil => intro acc h _; rw [if_pos (show decVal acc [] ≤ M from h)]; rfl
  | cons c r ih =>
    intro acc h hd
    have hc := hd c (by simp)
    have hle := le_decVal r (acc * 10 + (c.toNat - 48))
    have e : decVal acc (c :: r) = decVal (acc * 10 + (c.toNat - 48)) r := rfl
    rw [e, parseUintM, if_pos hc]
    by_cases h1 : 1844674407370955162 ≤ acc
    · rw [if_pos h1, if_neg (by omega)]
    · rw [if_neg h1]
      by_cases h2 : M < acc * 10 + (c.toNat - 48)
      · rw [if_pos h2, if_neg (by omega)]
      · rw [if_neg h2]
        exact ih _ (by omega) (fun d hd' => hd d (by simp [hd']))

theorem parseIntB_digits (l : List UInt8) (hne : l ≠ []) (hd : ∀ c ∈ l, 48 ≤ c.toNat ∧ c.toNat ≤ 57) :
    parseIntB 64 l = if decVal 0 l ≤ 9223372036854775807 then .ok (decVal 0 l : Int) else .range := by
  cases l with
  | nil => exact absurd rfl hne
  | cons c r =>
    have hc := hd c (by simp)
    have h43 : ¬ (c.toNat = 43 ∨ c.toNat = 45) := by omega
    have h45 : ¬ c.toNat = 45 := by omega
    have hp : (2 : Nat) ^ (64 - 1) = 9223372036854775808 := by decide +kernel
    unfold parseIntB parseUintB
    simp only [if_neg h43, hp]
    rw [if_neg (List.cons_ne_nil c r), parseUintM_digits (2 ^ 64 - 1) (by decide +kernel) (by decide +kernel) _ 0 (Nat.zero_le _) hd]
    by_cases h : decVal 0 (c :: r) ≤ 2 ^ 64 - 1
    · rw [if_pos h]
      by_cases h2 : decVal 0 (c :: r) ≤ 9223372036854775807
      · rw [if_pos h2]; dsimp only
        rw [if_neg (by omega), if_neg (by omega), if_neg h45]
      · rw [if_neg h2]; dsimp only
        rw [if_pos (by omega)]
    · rw [if_neg h, if_neg (by omega)]
end

section
def numTk (l : List UInt8) : Tk := if decVal 0 (l.take (runLen digU l)) ≤ 9223372036854775807 then ⟨3, decVal 0 (l.take (runLen digU l)), []⟩ else plainTk 1

theorem digs_of (l : List UInt8) : ∀ c ∈ l.take (runLen digU l), 48 ≤ c.toNat ∧ c.toNat ≤ 57 := by
  intro c hc
  have := runLen_all digU l c hc
  simp [digU, digB] at this; omega

theorem parse_ok (s : ByteArray) (hs : s.size ≤ 140737488355328) (v : Int) (h : Lib.parseIntB 64 s.data.toList = .ok v) (w : World) :
    Calls Tryz.prog 239 #[.string s, .int .i64 10, .int .i64 64] w fun e w' => e = .returned (.tuple #[.int .i64 v, .nilIface]) ∧ Below w.heap.size w w' := by
  refine (Tryz.strconv_ParseInt_10_at64_ok s (by omega) v h w).mono ?_
  rintro e w' ⟨rfl, rfl | ⟨t, rfl⟩⟩
  · exact ⟨rfl, Below.refl _ _⟩
  · exact ⟨rfl, Lib.bytesWorld_below _ _ _⟩

theorem parse_range (s : ByteArray) (hs : s.size ≤ 140737488355328) (h : Lib.parseIntB 64 s.data.toList = .range) (w : World) (hE : ErrOk w) :
    Calls Tryz.prog 239 #[.string s, .int .i64 10, .int .i64 64] w fun e w' => (∃ x t p, e = .returned (.tuple #[.int .i64 x, .iface t p])) ∧ Below w.heap.size w w' := by
  obtain ⟨_, ev, h2, h3⟩ := hE
  refine (Tryz.strconv_ParseInt_10_at64_range s (by omega) h ev w h2 h3).mono ?_
  rintro e w' ⟨N, rfl, _, _, hb⟩
  exact ⟨⟨_, _, _, rfl⟩, hb⟩

theorem runLen_pos (p : UInt8 → Bool) (s : ByteArray) (h : 0 < s.size) (hp : p s[0] = true) : runLen p s.data.toList = runLen p (s.data.toList.drop 1) + 1 := by
  have := runLen_drop_succ p s.data.toList 0 (by rw [data_len]; exact h) hp
  rwa [List.drop_zero] at this

set_option maxHeartbeats 400000 in
theorem number_any (s : ByteArray) (h0 : 0 < s.size) (hs : s.size ≤ 140737488355328) (hd : digU s[0] = true) (w : World) (hE : ErrOk w) :
    Calls Tryz.prog 193 #[.string s] w fun e w' => e = .returned (.tuple #[tkV (numTk s.data.toList) 0, .int .i64 (runLen digU s.data.toList)]) ∧ Below w.heap.size w w' := by
  have hl := data_len s
  have hp := runLen_pos digU s h0 hd
  have hle := runLen_le digU s.data.toList
  have hdg := digs_of s.data.toList
  have HD : Hid (digU s[0] = true) := hd
  clear hd
  obtain ⟨z, hz⟩ : ∃ z, runLen digU s.data.toList = z := ⟨_, rfl⟩
  have hz1 : 1 ≤ z := by omega
  have hzl : z ≤ s.size := by omega
  have hxx : (s.extract 0 z).data.toList = s.data.toList.take z := by rw [Lib.extract_data]; simp
  have hpi := parseIntB_digits (s.data.toList.take z) (by intro h; have := congrArg List.length h; rw [List.length_take, List.length_nil] at this; omega) (by rw [← hz]; exact hdg)
  have HK : Hid (numTk s.data.toList = if decVal 0 (s.data.toList.take z) ≤ 9223372036854775807 then ⟨3, decVal 0 (s.data.toList.take z), []⟩ else plainTk 1) := by rw [← hz]; exact hide rfl
  rw [hz] at hp ⊢
  have HP := hide hp
  have HX := hide hxx
  have HI := hide hpi
  have hEa := fun o => hE.alloc o
  have HE := hide hEa
  clear hdg hle hz hp hxx hpi hE hEa
  obtain ⟨v, hv⟩ : ∃ v, decVal 0 (s.data.toList.take z) = v := ⟨_, rfl⟩
  rw [hv] at HK HI
  have HV := hide hv
  clear hv
  go_enter Tryz.func193, Tryz.ntmps193
  go_wp2_with fail
  go_loop [4] (fun i => ∃ k : Nat, 1 ≤ k ∧ k ≤ s.size ∧ i = .int .i64 k ∧ Hid (z = runLen digU (s.data.toList.drop k) + k)) (fun i => s.size - (intOf i).toNat)
  case atStart => exact ⟨1, Nat.le_refl _, by omega, rfl, HP⟩
  case round =>
    obtain ⟨k, hk1, hk, rfl, hr⟩ := hrel
    have more : ∀ hlt : k < s.size, digU s[k] = true → Hid (z = runLen digU (s.data.toList.drop (k + 1)) + (k + 1)) := fun hlt hg => hide (by
      have := runLen_drop_succ digU s.data.toList k (by omega) hg; rw [unhide hr, this]; omega)
    have done1 : ∀ hlt : k < s.size, digU s[k] = false → z = k := fun hlt hg => by
      have := runLen_drop_stop digU s.data.toList k (by omega) hg; rw [unhide hr, this]; omega
    have done2 : ¬ k < s.size → z = k := fun hlt => by
      have := runLen_drop_end digU s.data.toList k (by omega); rw [unhide hr, this]; omega
    clear hr
    by_cases hgo : ∃ hlt : k < s.size, digU s[k] = true
    · obtain ⟨hlt, hg⟩ := hgo
      have HR := more hlt hg
      have Hg := hide hg
      clear more done1 done2 hg
      go_wp2_with (go_at_call 192; refine (isDigit_any _ _).mono ?_; rintro e w' ⟨rfl, rfl⟩; rw [show digB (s[k].toNat : Int) = true from unhide Hg])
      go_round
      case rel => exact ⟨k + 1, by omega, by omega, by go_num, HR⟩
      case measure => simp [intOf]; omega
    · have hzk : z = k := by
        by_cases hlt : k < s.size
        · exact done1 hlt (by cases hg : digU s[k] with | false => rfl | true => exact absurd ⟨hlt, hg⟩ hgo)
        · exact done2 hlt
      have Hg : Hid (∀ hlt : k < s.size, digU s[k] = false) := hide fun hlt => by cases hg : digU s[k] with | false => rfl | true => exact absurd ⟨hlt, hg⟩ hgo
      clear more done1 done2 hgo
      subst hzk
      by_cases hv : v ≤ 9223372036854775807
      · rw [if_pos hv] at HK HI
        have HVV := hide hv
        clear hv
        by_cases hlt : z < s.size
        all_goals
          go_wp2_with (first | (go_at_call 192; refine (isDigit_any _ _).mono ?_; rintro e w' ⟨rfl, rfl⟩; rw [show digB (s[z].toNat : Int) = false from unhide Hg hlt]) | (go_at_call 239; refine (parse_ok _ (by simp; omega) v (by rw [unhide HX]; exact unhide HI) _).mono ?_; rintro e w' ⟨rfl, hb⟩; obtain ⟨hc, hf⟩ := bcell hb; have hz := hb.size))
          refine bodyPost_ret (by simp [results, Tryz.results193, go_sem, hc]; rfl) rfl ⟨?_, ?_⟩
          all_goals go_light
          · exact tok_ret2 (by rw [unhide HK]) (by rw [unhide HK]) (by rw [unhide HK]; rfl) rfl
          · exact ((((below_step hb).setCell (by simp) _).setCell (by simp) _).setCell (by simp) _).setCell (by simp) _
      · rw [if_neg hv] at HK HI
        clear hv
        by_cases hlt : z < s.size
        all_goals
          go_wp2_with (first | (go_at_call 192; refine (isDigit_any _ _).mono ?_; rintro e w' ⟨rfl, rfl⟩; rw [show digB (s[z].toNat : Int) = false from unhide Hg hlt]) | (go_at_call 239; refine (parse_range _ (by simp; omega) (by rw [unhide HX]; exact unhide HI) _ (unhide HE _)).mono ?_; rintro e w' ⟨⟨x, t, p, rfl⟩, hb⟩; obtain ⟨hc, hf⟩ := bcell hb; have hz := hb.size))
          refine bodyPost_ret (by simp [results, Tryz.results193, go_sem, hc]; rfl) rfl ⟨?_, ?_⟩
          all_goals go_light
          · exact tok_ret2 (by rw [unhide HK]; rfl) (by rw [unhide HK]; rfl) (by rw [unhide HK]; rfl) rfl
          · exact ((((below_step hb).setCell (by simp) _).setCell (by simp) _).setCell (by simp) _).setCell (by simp) _
end

section
/-- What stands up to the closing quote, and how many bytes that takes, the closing quote with them. -/
def quotF : List UInt8 → Option (List UInt8 × Nat)
  | [] => none
  | [c] => if c == 39 then some ([], 1) else none
  | c :: d :: t =>
    if c == 39 then (if d == 39 then (quotF t).map fun r => (39 :: r.1, r.2 + 2) else some ([], 1))
    else (quotF (d :: t)).map fun r => (c :: r.1, r.2 + 1)

def quotTk (l : List UInt8) : Tk := match quotF (l.drop 1) with
  | some r => ⟨4, 0, r.1⟩
  | none => plainTk 1
def quotS (l : List UInt8) : Nat := match quotF (l.drop 1) with
  | some r => r.2 + 1
  | none => l.length

/-- Where the scan stands: xs is what was read, k the place. -/
def QAt (l : List UInt8) (k : Nat) (xs : List UInt8) : Prop := quotF (l.drop 1) = (quotF (l.drop k)).map fun r => (xs ++ r.1, r.2 + (k - 1))

theorem drop2 (l : List UInt8) (k : Nat) (h : k + 1 < l.length) : l.drop k = l[k] :: l[k + 1] :: l.drop (k + 2) := by
  rw [List.drop_eq_getElem_cons (by omega), List.drop_eq_getElem_cons (by omega)]
theorem drop1 (l : List UInt8) (k : Nat) (h : k + 1 = l.length) : l.drop k = [l[k]] := by
  rw [List.drop_eq_getElem_cons (by omega), List.drop_of_length_le (by omega)]

theorem QAt.start (l : List UInt8) : QAt l 1 [] := by
  unfold QAt
  cases quotF (l.drop 1) <;> simp

theorem QAt.over {l : List UInt8} {k : Nat} {xs : List UInt8} (h : QAt l k xs) (hk : l.length ≤ k) : quotF (l.drop 1) = none := by
  unfold QAt at h; rw [h, List.drop_of_length_le hk]; rfl

theorem QAt.close {l : List UInt8} {k : Nat} {xs : List UInt8} (h : QAt l k xs) (h1 : 1 ≤ k) (hk : k < l.length) (hc : l[k] = 39) (hn : ∀ h : k + 1 < l.length, l[k + 1] ≠ 39) :
    quotF (l.drop 1) = some (xs, k) := by
  unfold QAt at h
  rw [h]
  by_cases h2 : k + 1 < l.length
  · have := hn h2
    rw [drop2 l k h2, quotF, if_pos (by simp [hc]), if_neg (by simpa using this)]; simp; omega
  · rw [drop1 l k (by omega), quotF, if_pos (by simp [hc])]; simp; omega

theorem QAt.two {l : List UInt8} {k : Nat} {xs : List UInt8} (h : QAt l k xs) (h1 : 1 ≤ k) (hk : k + 1 < l.length) (hc : l[k] = 39) (hd : l[k + 1] = 39) : QAt l (k + 2) (xs ++ [39]) := by
  unfold QAt at h ⊢
  rw [h, drop2 l k hk, quotF, if_pos (by simp [hc]), if_pos (by simp [hd])]
  cases quotF (l.drop (k + 2)) with
  | none => rfl
  | some r => simp; omega

theorem QAt.one {l : List UInt8} {k : Nat} {xs : List UInt8} (h : QAt l k xs) (h1 : 1 ≤ k) (hk : k < l.length) (hc : l[k] ≠ 39) : QAt l (k + 1) (xs ++ [l[k]]) := by
  unfold QAt at h ⊢
  rw [h]
  by_cases h2 : k + 1 < l.length
  · rw [drop2 l k h2, quotF, if_neg (by simpa using hc), List.drop_eq_getElem_cons h2]
    cases quotF (l[k + 1] :: l.drop (k + 1 + 1)) with
    | none => rfl
    | some r => simp; omega
  · rw [drop1 l k (by omega), quotF, if_neg (by simpa using hc), List.drop_of_length_le (by omega)]; rfl

theorem Tryz.info5u : (Tryz.prog.info? 5).map (fun i => (i.zero, i.size, i.bytes)) = some (some (.int .u8 0), 1, 1) := by kernel_rfl

theorem conv_own {w : World} {base : Nat} {v : Value} {l : List UInt8} (h : w.ownsRow base 5 1 v l.length (l.map fun c => .int .u8 (c.toNat : Int))) :
    (convert 51 9 v).run Tryz.prog w = .ok (.string (BS l)) w := by
  have h' := h
  obtain ⟨_, ⟨rfl, hn⟩ | ⟨g, cap, cur, rfl, _⟩⟩ := h
  · have : l = [] := List.eq_nil_of_length_eq_zero hn
    subst this
    rw [run_convert_bytes_string w 51 9 5 none 0 0 Tryz.underlying51 Tryz.underlying5 Tryz.underlying9]
    simp [Conv.bytesToString]
    rfl
  · refine run_convert_bytes_back w 51 9 5 ⟨g, 0, none⟩ cap l Tryz.underlying51 Tryz.underlying5 Tryz.underlying9 fun j hj => ?_
    exact h'.cells rfl j _ (by simp [List.getElem?_eq_getElem hj])
end

section
theorem own_step {W w1 wr : World} {B : Nat} {v : Value} {n : Nat} {xs : List Value} {e : TypeId} (hb : Below B W wr) (hB : B ≤ wr.heap.size) (ho : wr.ownsRow B e 1 v n xs) (o : Obj)
    (hg : (wr.alloc o).grownBy w1 v.ownBlock) : Below B W w1 :=
  (hb.alloc hB o).grown hg (by simp; omega) fun k hk => (ho.lt k hk).1

theorem u8_bne39 (c : UInt8) : ((c.toNat : Int) != 39) = !(c == 39) := by simp only [bne, u8_39]

theorem quot_ok {l : List UInt8} {xs : List UInt8} {k : Nat} (h : quotF (l.drop 1) = some (xs, k)) : quotTk l = ⟨4, 0, xs⟩ ∧ quotS l = k + 1 := by
  unfold quotTk quotS; rw [h]; exact ⟨rfl, rfl⟩
theorem quot_no {l : List UInt8} (h : quotF (l.drop 1) = none) : quotTk l = plainTk 1 ∧ quotS l = l.length := by
  unfold quotTk quotS; rw [h]; exact ⟨rfl, rfl⟩

set_option maxHeartbeats 800000 in
set_option maxRecDepth 100000 in
theorem quoted_any (s : ByteArray) (h0 : 0 < s.size) (hs : s.size ≤ 140737488355328) (w : World) :
    Calls Tryz.prog 194 #[.string s] w fun e w' => e = .returned (.tuple #[tkV (quotTk s.data.toList) 0, .int .i64 (quotS s.data.toList)]) ∧ Below w.heap.size w w' := by
  have hl := data_len s
  obtain ⟨i0, hi, hz0, hz1, hz2⟩ := info_parts Tryz.info5u
  obtain ⟨TK, hTK⟩ : ∃ t, quotTk s.data.toList = t := ⟨_, rfl⟩
  obtain ⟨Z, hZ⟩ : ∃ t, quotS s.data.toList = t := ⟨_, rfl⟩
  rw [hTK, hZ]
  have HTK := hide hTK
  have HZ := hide hZ
  clear hTK hZ
  go_enter Tryz.func194, Tryz.ntmps194
  go_wp2_with fail
  go_loopw [4, 5] (fun v i wr => ∃ (k : Nat) (xs : List UInt8), 1 ≤ k ∧ k ≤ s.size ∧ i = .int .i64 k ∧ Hid (QAt s.data.toList k xs) ∧ xs.length < k ∧ wr.ownsRow (w.heap.size + 1) 5 1 v xs.length (xs.map fun c => .int .u8 (c.toNat : Int)) ∧ Below (w.heap.size + 1) (w.alloc (.cells #[.int .i64 0, .int .i64 0, .int .i64 0, .string ⟨#[]⟩] 91)) wr)
    (fun _ i _ => s.size - (intOf i).toNat)
  case atStart => exact ⟨1, [], Nat.le_refl _, by omega, rfl, hide (QAt.start _), by simp, World.ownsRow_nil _ _ _ _, Below.refl _ _⟩
  case round =>
    obtain ⟨k, xs, hk1, hk, rfl, hq, hxl, hown, hb⟩ := hrel
    have hbs : w.heap.size + 1 ≤ wr.heap.size := by have := hb.size; simpa using this
    have hcv := conv_own hown
    have hb' : Below (w.alloc (.cells #[.int .i64 0, .int .i64 0, .int .i64 0, .string ⟨#[]⟩] 91)).heap.size (w.alloc (.cells #[.int .i64 0, .int .i64 0, .int .i64 0, .string ⟨#[]⟩] 91)) wr := by simpa using hb
    obtain ⟨hc0, hf0⟩ := bcell hb'
    by_cases hlt : k < s.size
    · cases hc : (s[k] == 39) with
      | false =>
        have HQ : Hid (QAt s.data.toList (k + 1) (xs ++ [s[k]])) := hide ((unhide hq).one hk1 (by omega) (by rw [data_getElem s k hlt]; simpa using hc))
        have hc' : ((s[k].toNat : Int) == 39) = false := by rw [u8_39]; exact hc
        clear hc hq
        go_wp2_with (at_builtin; refine wpList_append_own _ rfl _ _ 51 rfl (w.heap.size + 1) 5 i0 (.int .u8 0) 1 1 Tryz.underlying51 hi hz0 hz1 hz2 rfl (by decide) _ _ _ rfl (hown.alloc _) ⟨wr.heap.size, 0, none⟩ 1 1 [.int .u8 (s[k].toNat : Int)] rfl rfl ?c1 ?c2 ?c3 ?c4 ?c5 ?_)
        case c1 =>
          intro j u hj
          match j, hj with
          | 0, hj => simp at hj; subst hj; simp [Addr.add]
        case c2 => intro u hu; simp at hu; subst hu; rfl
        case c3 => unfold maxLen; omega
        case c4 => omega
        case c5 => simp; omega
        intro v' w1 hown' hgrow _
        have hb1 := own_step hb hbs hown _ hgrow
        have hown1 : w1.ownsRow (w.heap.size + 1) 5 1 v' (xs ++ [s[k]]).length ((xs ++ [s[k]]).map fun c => .int .u8 (c.toNat : Int)) := by simpa using hown'
        clear hown' hgrow hown hcv hb hbs hb' hc0 hf0
        go_wp2_with fail
        go_roundw
        case rel => exact ⟨k + 1, xs ++ [s[k]], by omega, by omega, by go_num, HQ, by simp; omega, hown1, hb1⟩
        case measure => simp [intOf]; omega
      | true =>
        have hc' : ((s[k].toNat : Int) == 39) = true := by rw [u8_39]; exact hc
        have hk39 : s.data.toList[k]'(by omega) = 39 := by rw [data_getElem s k hlt]; simpa using hc
        by_cases h2 : k + 1 < s.size
        · cases hd : (s[k + 1] == 39) with
          | true =>
            have HQ : Hid (QAt s.data.toList (k + 2) (xs ++ [39])) := hide ((unhide hq).two hk1 (by omega) hk39 (by rw [data_getElem s (k + 1) h2]; simpa using hd))
            have hd1 : ((s[k + 1].toNat : Int) != 39) = false := by rw [u8_bne39, hd]; rfl
            have hd2 : (s[k + 1].toNat : Int) = 39 := by rw [show s[k + 1] = 39 by simpa using hd]; rfl
            have he : ((k : Int) + 1 == (s.size : Int)) = false := beq_eq_false_iff_ne.2 (by omega)
            clear hc hq hd hk39
            go_wp2_with (at_builtin; refine wpList_append_own _ rfl _ _ 51 rfl (w.heap.size + 1) 5 i0 (.int .u8 0) 1 1 Tryz.underlying51 hi hz0 hz1 hz2 rfl (by decide) _ _ _ rfl (hown.alloc _) ⟨wr.heap.size, 0, none⟩ 1 1 [.int .u8 39] rfl rfl ?c1 ?c2 ?c3 ?c4 ?c5 ?_)
            case c1 =>
              intro j u hj
              match j, hj with
              | 0, hj => simp at hj; subst hj; simp [Addr.add]
            case c2 => intro u hu; simp at hu; subst hu; rfl
            case c3 => unfold maxLen; omega
            case c4 => omega
            case c5 => simp; omega
            intro v' w1 hown' hgrow _
            have hb1 := own_step hb hbs hown _ hgrow
            have hown1 : w1.ownsRow (w.heap.size + 1) 5 1 v' (xs ++ [(39 : UInt8)]).length ((xs ++ [(39 : UInt8)]).map fun c => .int .u8 (c.toNat : Int)) := by simpa using hown'
            clear hown' hgrow hown hcv hb hbs hb' hc0 hf0
            go_wp2_with fail
            go_roundw
            case rel => exact ⟨k + 2, xs ++ [39], by omega, by omega, by go_num, HQ, by simp; omega, hown1, hb1⟩
            case measure => simp [intOf]; omega
          | false =>
            have HC : Hid (quotF (s.data.toList.drop 1) = some (xs, k)) := hide ((unhide hq).close hk1 (by omega) hk39 (fun _ => by rw [data_getElem s (k + 1) h2]; simpa using hd))
            have hd1 : ((s[k + 1].toNat : Int) != 39) = true := by rw [u8_bne39, hd]; rfl
            have he : ((k : Int) + 1 == (s.size : Int)) = false := beq_eq_false_iff_ne.2 (by omega)
            clear hc hq hd hk39
            go_wp2_with fail
            refine bodyPost_ret (by simp [results, Tryz.results194, go_sem, hc0]; rfl) rfl ⟨?_, ?_⟩
            all_goals go_light
            · exact tok_ret2 (by rw [← unhide HTK, (quot_ok (unhide HC)).1]) (by rw [← unhide HTK, (quot_ok (unhide HC)).1]) (by rw [← unhide HTK, (quot_ok (unhide HC)).1]) (by rw [← unhide HZ, (quot_ok (unhide HC)).2]; go_num)
            · exact (((((below_step hb').setCell (by simp) _).setCell (by simp) _).setCell (by simp) _).setCell (by simp) _)
        · have HC : Hid (quotF (s.data.toList.drop 1) = some (xs, k)) := hide ((unhide hq).close hk1 (by omega) hk39 (fun h => absurd h (by omega)))
          have he : ((k : Int) + 1 == (s.size : Int)) = true := beq_iff_eq.2 (by omega)
          clear hc hq hk39
          go_wp2_with fail
          refine bodyPost_ret (by simp [results, Tryz.results194, go_sem, hc0]; rfl) rfl ⟨?_, ?_⟩
          all_goals go_light
          · exact tok_ret2 (by rw [← unhide HTK, (quot_ok (unhide HC)).1]) (by rw [← unhide HTK, (quot_ok (unhide HC)).1]) (by rw [← unhide HTK, (quot_ok (unhide HC)).1]) (by rw [← unhide HZ, (quot_ok (unhide HC)).2]; go_num)
          · exact (((((below_step hb').setCell (by simp) _).setCell (by simp) _).setCell (by simp) _).setCell (by simp) _)
    · have HN : Hid (quotF (s.data.toList.drop 1) = none) := hide ((unhide hq).over (by omega))
      clear hq
      go_wp2_with fail
      refine bodyPost_ret (by simp [results, Tryz.results194, go_sem, hc0]; rfl) rfl ⟨?_, ?_⟩
      all_goals go_light
      · exact tok_ret2 (by rw [← unhide HTK, (quot_no (unhide HN)).1]; rfl) (by rw [← unhide HTK, (quot_no (unhide HN)).1]; rfl) (by rw [← unhide HTK, (quot_no (unhide HN)).1]; rfl) (by rw [← unhide HZ, (quot_no (unhide HN)).2, hl])
      · exact (((((below_step hb').setCell (by simp) _).setCell (by simp) _).setCell (by simp) _).setCell (by simp) _)
end

section
def firstTk (l : List UInt8) : Tk := match l with
  | [] => plainTk 1
  | c :: _ => if begU c then wordTk l else if digU c then numTk l else if c == 39 then quotTk l else plainTk (markT l)
def firstS (l : List UInt8) : Nat := match l with
  | [] => 1
  | c :: _ => if begU c then wordSize l else if digU c then runLen digU l else if c == 39 then quotS l else markS l

theorem first_at (s : ByteArray) (h : 0 < s.size) :
    firstTk s.data.toList = (if begU s[0] then wordTk s.data.toList else if digU s[0] then numTk s.data.toList else if s[0] == 39 then quotTk s.data.toList else plainTk (markT s.data.toList)) ∧
    firstS s.data.toList = (if begU s[0] then wordSize s.data.toList else if digU s[0] then runLen digU s.data.toList else if s[0] == 39 then quotS s.data.toList else markS s.data.toList) := by
  have e := List.drop_eq_getElem_cons (l := s.data.toList) (i := 0) (by rw [data_len]; exact h)
  rw [List.drop_zero, data_getElem s 0 h] at e
  constructor
  · conv => lhs; rw [e]
    conv => rhs; rw [e]
    rfl
  · conv => lhs; rw [e]
    conv => rhs; rw [e]
    rfl

set_option maxHeartbeats 400000 in
theorem first_any (s : ByteArray) (h0 : 0 < s.size) (hs : s.size ≤ 140737488355328) (w : World) (hE : ErrOk w) :
    Calls Tryz.prog 144 #[.string s] w fun e w' => e = .returned (.tuple #[tkV (firstTk s.data.toList) 0, .int .i64 (firstS s.data.toList)]) ∧ Below w.heap.size w w' := by
  obtain ⟨h1, h2⟩ := first_at s h0
  have hm : s.size ≤ maxLen := by unfold maxLen; omega
  have HE : Hid (∀ o, ErrOk (w.alloc o)) := hide fun o => hE.alloc o
  clear hE
  cases hb : begU s[0] with
  | true =>
    rw [hb, if_pos rfl] at h1 h2
    rw [h1, h2]
    have Hb := hide hb
    clear hb h1 h2
    go_enter Tryz.func144, Tryz.ntmps144
    go_wp2_with (first | (go_at_call 190; refine (beginsWord_any _ _).mono ?_; rintro e w' ⟨rfl, rfl⟩; rw [show begB (s[0].toNat : Int) = true from unhide Hb]) | (go_at_call 191; refine (word_any _ hs _).mono ?_; rintro e w' ⟨rfl, hb⟩; obtain ⟨hc, hf⟩ := bcell hb; have hz := hb.size; simp only [tkV]))
    refine bodyPost_ret (by simp [results, Tryz.results144, go_sem, hc]; rfl) rfl ⟨?_, ?_⟩
    all_goals go_light
    · rfl
    · exact ((((below_step hb).setCell (by simp) _).setCell (by simp) _).setCell (by simp) _).setCell (by simp) _
  | false =>
    rw [hb, if_neg (by simp)] at h1 h2
    have Hb := hide hb
    clear hb
    cases hd : digU s[0] with
    | true =>
      rw [hd, if_pos rfl] at h1 h2
      rw [h1, h2]
      have Hd := hide hd
      clear hd h1 h2
      go_enter Tryz.func144, Tryz.ntmps144
      go_wp2_with (first | (go_at_call 190; refine (beginsWord_any _ _).mono ?_; rintro e w' ⟨rfl, rfl⟩; rw [show begB (s[0].toNat : Int) = false from unhide Hb]) | (go_at_call 192; refine (isDigit_any _ _).mono ?_; rintro e w' ⟨rfl, rfl⟩; rw [show digB (s[0].toNat : Int) = true from unhide Hd]) | (go_at_call 193; refine (number_any _ h0 hs (unhide Hd) _ (unhide HE _)).mono ?_; rintro e w' ⟨rfl, hb⟩; obtain ⟨hc, hf⟩ := bcell hb; have hz := hb.size; simp only [tkV]))
      refine bodyPost_ret (by simp [results, Tryz.results144, go_sem, hc]; rfl) rfl ⟨?_, ?_⟩
      all_goals go_light
      · rfl
      · exact ((((below_step hb).setCell (by simp) _).setCell (by simp) _).setCell (by simp) _).setCell (by simp) _
    | false =>
      rw [hd, if_neg (by simp)] at h1 h2
      have Hd := hide hd
      clear hd
      cases hq : (s[0] == 39) with
      | true =>
        rw [hq, if_pos rfl] at h1 h2
        rw [h1, h2]
        have hq' : ((s[0].toNat : Int) == 39) = true := by rw [u8_39]; exact hq
        clear hq h1 h2
        go_enter Tryz.func144, Tryz.ntmps144
        go_wp2_with (first | (go_at_call 190; refine (beginsWord_any _ _).mono ?_; rintro e w' ⟨rfl, rfl⟩; rw [show begB (s[0].toNat : Int) = false from unhide Hb]) | (go_at_call 192; refine (isDigit_any _ _).mono ?_; rintro e w' ⟨rfl, rfl⟩; rw [show digB (s[0].toNat : Int) = false from unhide Hd]) | (go_at_call 194; refine (quoted_any _ h0 hs _).mono ?_; rintro e w' ⟨rfl, hb⟩; obtain ⟨hc, hf⟩ := bcell hb; have hz := hb.size; simp only [tkV]))
        refine bodyPost_ret (by simp [results, Tryz.results144, go_sem, hc]; rfl) rfl ⟨?_, ?_⟩
        all_goals go_light
        · rfl
        · exact ((((below_step hb).setCell (by simp) _).setCell (by simp) _).setCell (by simp) _).setCell (by simp) _
      | false =>
        rw [hq, if_neg (by simp)] at h1 h2
        rw [h1, h2]
        have hq' : ((s[0].toNat : Int) == 39) = false := by rw [u8_39]; exact hq
        clear hq h1 h2
        go_enter Tryz.func144, Tryz.ntmps144
        go_wp2_with (first | (go_at_call 190; refine (beginsWord_any _ _).mono ?_; rintro e w' ⟨rfl, rfl⟩; rw [show begB (s[0].toNat : Int) = false from unhide Hb]) | (go_at_call 192; refine (isDigit_any _ _).mono ?_; rintro e w' ⟨rfl, rfl⟩; rw [show digB (s[0].toNat : Int) = false from unhide Hd]) | (go_at_call 195; refine (mark_any _ h0 hm _).mono ?_; rintro e w' ⟨rfl, hb⟩; obtain ⟨hc, hf⟩ := bcell hb; have hz := hb.size; simp only [tkV]))
        refine bodyPost_ret (by simp [results, Tryz.results144, go_sem, hc]; rfl) rfl ⟨?_, ?_⟩
        all_goals go_light
        · rfl
        · exact ((((below_step hb).setCell (by simp) _).setCell (by simp) _).setCell (by simp) _).setCell (by simp) _

/-- The token that comes from a place on, its place, and the place behind it. -/
def nextAt (l : List UInt8) (k : Nat) : Nat := k + runLen spU (l.drop k)
def nextTk (l : List UInt8) (k : Nat) : Tk := if nextAt l k < l.length then firstTk (l.drop (nextAt l k)) else plainTk 0
def nextTo (l : List UInt8) (k : Nat) : Nat := if nextAt l k < l.length then nextAt l k + firstS (l.drop (nextAt l k)) else l.length
theorem nextAt_le (l : List UInt8) (k : Nat) (h : k ≤ l.length) : nextAt l k ≤ l.length := by
  have := runLen_le spU (l.drop k); rw [List.length_drop] at this; unfold nextAt; omega

theorem mark_le (l : List UInt8) (h : 0 < l.length) : markS l ≤ l.length := by
  unfold markS; split
  · simp at h
  · simp
  · split <;> simp

theorem quotF_le : ∀ (n : Nat) (l : List UInt8), l.length ≤ n → ∀ r, quotF l = some r → r.2 ≤ l.length := by
  intro n
  induction n with
  | zero => intro l hl r h; have : l = [] := List.eq_nil_of_length_eq_zero (by omega)
            subst this; simp [quotF] at h
  | succ n ih =>
    intro l hl r h
    match l, hl, h with
    | [], _, h => simp [quotF] at h
    | [c], _, h =>
      simp only [quotF] at h
      split at h
      · simp at h; subst h; simp
      · simp at h
    | c :: d :: t, hl, h =>
      simp only [quotF] at h
      simp only [List.length_cons] at hl
      split at h
      · split at h
        · cases hq : quotF t with
          | none => rw [hq] at h; simp at h
          | some q =>
            rw [hq] at h; simp at h; subst h
            have := ih t (by omega) q hq; simp; omega
        · simp at h; subst h; simp
      · cases hq : quotF (d :: t) with
        | none => rw [hq] at h; simp at h
        | some q =>
          rw [hq] at h; simp at h; subst h
          have := ih (d :: t) (by simp; omega) q hq; simp at this ⊢; omega

theorem quotS_le (l : List UInt8) (h : 0 < l.length) : quotS l ≤ l.length := by
  unfold quotS; split
  · rename_i r hr
    have := quotF_le _ (l.drop 1) (Nat.le_refl _) r hr
    rw [List.length_drop] at this; omega
  · exact Nat.le_refl _

theorem firstS_le (l : List UInt8) (h : 0 < l.length) : firstS l ≤ l.length := by
  cases l with
  | nil => simp at h
  | cons c t =>
    simp only [firstS]
    split
    · exact wordSize_le _
    · split
      · exact runLen_le _ _
      · split
        · exact quotS_le _ h
        · exact mark_le _ h

theorem nextTo_le (l : List UInt8) (k : Nat) : nextTo l k ≤ l.length := by
  unfold nextTo; split
  · have := firstS_le (l.drop (nextAt l k)) (by rw [List.length_drop]; omega)
    rw [List.length_drop] at this; omega
  · exact Nat.le_refl _
end

section
theorem tok_ret3 {t : Tk} {p p' z z' : Int} (hp : p = p') (hz : z = z') :
    Ending.returned (.tuple #[.agg #[.int .i64 t.kind, .int .i64 p, .int .i64 t.num, .string (BS t.str)], .int .i64 z]) = .returned (.tuple #[tkV t p', .int .i64 z']) := by
  rw [hp, hz]; rfl

set_option maxHeartbeats 400000 in
theorem next_any (s : ByteArray) (hs : s.size ≤ 140737488355328) (f : Nat) (hf : f ≤ s.size) (w : World) (hE : ErrOk w) :
    Calls Tryz.prog 100 #[.string s, .int .i64 f] w fun e w' => e = .returned (.tuple #[tkV (nextTk s.data.toList f) (nextAt s.data.toList f), .int .i64 (nextTo s.data.toList f)]) ∧ Below w.heap.size w w' := by
  have hl := data_len s
  have hle := nextAt_le s.data.toList f (by omega)
  have HE : Hid (∀ o, ErrOk (w.alloc o)) := hide fun o => hE.alloc o
  clear hE
  obtain ⟨A, hA⟩ : ∃ a, nextAt s.data.toList f = a := ⟨_, rfl⟩
  have hT : nextTk s.data.toList f = if A < s.data.toList.length then firstTk (s.data.toList.drop A) else plainTk 0 := by rw [← hA]; rfl
  have hZ : nextTo s.data.toList f = if A < s.data.toList.length then A + firstS (s.data.toList.drop A) else s.data.toList.length := by rw [← hA]; rfl
  obtain ⟨T, hT'⟩ : ∃ t, nextTk s.data.toList f = t := ⟨_, rfl⟩
  obtain ⟨Z, hZ'⟩ : ∃ t, nextTo s.data.toList f = t := ⟨_, rfl⟩
  rw [hT'] at hT
  rw [hZ'] at hZ
  rw [hA] at hle
  rw [hA, hT', hZ']
  have HA : Hid (A = f + runLen spU (s.data.toList.drop f)) := hide (by rw [← hA]; rfl)
  have HT := hide hT
  have HZ := hide hZ
  clear hT hZ hT' hZ' hA
  go_enter Tryz.func100, Tryz.ntmps100
  go_wp2_with fail
  go_loop [6] (fun i => ∃ k : Nat, f ≤ k ∧ k ≤ s.size ∧ i = .int .i64 k ∧ Hid (A = runLen spU (s.data.toList.drop k) + k)) (fun i => s.size - (intOf i).toNat)
  case atStart => exact ⟨f, Nat.le_refl _, hf, rfl, hide (by rw [Nat.add_comm]; exact unhide HA)⟩
  case round =>
    obtain ⟨k, hk1, hk, rfl, hr⟩ := hrel
    have more : ∀ hlt : k < s.size, spU s[k] = true → Hid (A = runLen spU (s.data.toList.drop (k + 1)) + (k + 1)) := fun hlt hg => hide (by
      have := runLen_drop_succ spU s.data.toList k (by omega) hg; rw [unhide hr, this]; omega)
    have done1 : ∀ hlt : k < s.size, spU s[k] = false → A = k := fun hlt hg => by
      have := runLen_drop_stop spU s.data.toList k (by omega) hg; rw [unhide hr, this]; omega
    have done2 : ¬ k < s.size → A = k := fun hlt => by
      have := runLen_drop_end spU s.data.toList k (by omega); rw [unhide hr, this]; omega
    clear hr
    by_cases hlt : k < s.size
    · cases hg : spU s[k] with
      | true =>
        have HR := more hlt hg
        have Hg := hide hg
        clear more done1 done2 hg
        go_wp2_with (go_at_call 143; refine (isSpace_any _ _).mono ?_; rintro e w' ⟨rfl, rfl⟩; rw [show spB (s[k].toNat : Int) = true from unhide Hg])
        go_round
        case rel => exact ⟨k + 1, by omega, by omega, by go_num, HR⟩
        case measure => simp [intOf]; omega
      | false =>
        have hA := done1 hlt hg
        have Hg := hide hg
        clear more done1 done2 hg
        subst hA
        rw [if_pos (by omega)] at HT HZ
        have hx : (s.extract A s.size).data.toList = s.data.toList.drop A := Lib.extract_to_end s A
        have hfl := firstS_le (s.data.toList.drop A) (by rw [List.length_drop]; omega)
        rw [List.length_drop, hl] at hfl
        have HX := hide hx
        clear hx
        go_wp2_with (first | (go_at_call 143; refine (isSpace_any _ _).mono ?_; rintro e w' ⟨rfl, rfl⟩; rw [show spB (s[A].toNat : Int) = false from unhide Hg]) | (go_at_call 144; refine (first_any _ (by simp; omega) (by simp; omega) _ (unhide HE _)).mono ?_; rintro e w' ⟨rfl, hb⟩; obtain ⟨hc, hfz⟩ := bcell hb; have hz : w.heap.size < w'.heap.size := (by have := hb.size; simp at this; omega); rw [unhide HX]; simp only [tkV]))
        refine bodyPost_ret (by simp [results, Tryz.results100, go_sem, hc, hz]; rfl) rfl ⟨?_, ?_⟩
        all_goals go_light
        · rw [unhide HT, unhide HZ]; exact tok_ret3 rfl (by omega)
        · exact (((((below_step hb).setCell (by simp) _).setCell (by simp) _).setCell (by simp) _).setCell (by simp) _).alloc (by simp; omega) _
    · have hA := done2 hlt
      clear more done1 done2
      subst hA
      rw [if_neg (by omega)] at HT HZ
      go_wp2_with fail
      refine bodyPost_ret (by simp [results, Tryz.results100, go_sem]; rfl) rfl ⟨?_, ?_⟩
      all_goals go_light
      · rw [unhide HT, unhide HZ]; exact tok_ret3 (t := plainTk 0) (by omega) (by omega)
      · exact (Below.refl _ _).alloc (Nat.le_refl _) _

/-- A text that is one word, and no keyword. -/
def nameB (l : List UInt8) : Bool := decide (0 < wordSize l) && decide (wordSize l = l.length) && (wordK l == 2)

theorem nameB_ascii {l : List UInt8} (h : wordSize l = l.length) : ∀ c ∈ l, c.toNat < 128 := by
  have := word_ascii l
  rw [h, List.take_length] at this; exact this

set_option maxHeartbeats 400000 in
theorem isName_any (s : ByteArray) (hs : s.size ≤ 140737488355328) (w : World) :
    Calls Tryz.prog 105 #[.string s] w fun e w' => e = .returned (.bool (nameB s.data.toList)) ∧ Below w.heap.size w w' := by
  have hm : s.size ≤ maxLen := by unfold maxLen; omega
  have hl := data_len s
  have hn : nameB s.data.toList = (decide (0 < wordSize s.data.toList) && decide (wordSize s.data.toList = s.size) && (wordK s.data.toList == 2)) := by unfold nameB; rw [hl]
  have ha := fun h => nameB_ascii (l := s.data.toList) h
  rw [hn]
  generalize hz : wordSize s.data.toList = z at *
  generalize hk : wordK s.data.toList = k at *
  have HZ := hide hz
  have HK := hide hk
  clear hz hk hn
  by_cases h0 : 0 < z
  · by_cases h1 : z = s.size
    · have HA := hide (ha (by omega))
      have h1' : ((z : Int) == (s.size : Int)) = true := beq_iff_eq.2 (by omega)
      have H1 := hide h1
      clear ha h1
      go_enter Tryz.func105, Tryz.ntmps105
      go_wp2_with (first | (go_at_call 150; refine (wordSize_any _ hm _).mono ?_; rintro e w' ⟨rfl, rfl⟩; rw [unhide HZ]) | (go_at_call 151; refine (wordKind_any _ hs (unhide HA) _).mono ?_; rintro e w' ⟨rfl, hb⟩; rw [unhide HK]))
      all_goals (go_ret; exact ⟨ret_bool (by have := unhide H1; simp_all), by assumption⟩)
    · have h1' : ((z : Int) == (s.size : Int)) = false := beq_eq_false_iff_ne.2 (by omega)
      have H1 := hide h1
      clear ha h1
      go_enter Tryz.func105, Tryz.ntmps105
      go_wp2_with (first | (go_at_call 150; refine (wordSize_any _ hm _).mono ?_; rintro e w' ⟨rfl, rfl⟩; rw [unhide HZ]))
      go_ret
      exact ⟨ret_bool (by have := unhide H1; simp [this]), Below.refl _ _⟩
  · clear ha
    go_enter Tryz.func105, Tryz.ntmps105
    go_wp2_with (first | (go_at_call 150; refine (wordSize_any _ hm _).mono ?_; rintro e w' ⟨rfl, rfl⟩; rw [unhide HZ]))
    go_ret
    exact ⟨ret_bool (by simp; omega), Below.refl _ _⟩
end

end Go.Proofs.YtfkcaldjphakpaaGreatDoor
