/- Contracts of lex.wordKind and lex.word. -/
import Derived.Test.YtfkcaldjphakpaaGreatDoorQLex3
import Derived.Test.YtfkcaldjphakpaaGreatDoorShelf
namespace Go.Proofs.YtfkcaldjphakpaaGreatDoor
open Go.RowKit

def kwK (l : List UInt8) : Int :=
  if l == [65, 78, 68] then 5 else if l == [79, 82] then 6 else if l == [78, 79, 84] then 7 else if l == [84, 82, 85, 69] then 8
  else if l == [70, 65, 76, 83, 69] then 9 else if l == [66, 69, 84, 87, 69, 69, 78] then 10 else if l == [73, 78] then 11
  else if l == [76, 73, 75, 69] then 12 else if l == [69, 83, 67, 65, 80, 69] then 13 else if l == [73, 83] then 14
  else if l == [78, 85, 76, 76] then 15 else 2

def wordK (l : List UInt8) : Int := kwK (Lib.toUpperA l)

theorem asciiAt {l : List UInt8} (h : ∀ c ∈ l, c.toNat < 128) : ∀ (j : Nat) (b : UInt8), l[j]? = some b → b.toNat < 128 :=
  fun _ _ hj => h _ (List.mem_of_getElem? hj)

set_option maxHeartbeats 400000 in
theorem wordKind_any (s : ByteArray) (hs : s.size ≤ 140737488355328) (ha : ∀ c ∈ s.data.toList, c.toNat < 128) (w : World) :
    Calls Tryz.prog 151 #[.string s] w fun e w' => e = .returned (.int .i64 (wordK s.data.toList)) ∧ Below w.heap.size w w' := by
  have Ha := hide (asciiAt ha)
  clear ha
  unfold wordK
  obtain ⟨u, hu⟩ : ∃ u, Lib.toUpperA s.data.toList = u := ⟨_, rfl⟩
  rw [hu]
  have Hu := hide hu
  clear hu
  go_enter Tryz.func151, Tryz.ntmps151
  go_wp2_with (go_at_call 202; refine (Tryz.strings_ToUpper_ascii _ _ hs (unhide Ha)).mono ?_; rintro e w' ⟨rfl, hb⟩; rw [unhide Hu])
  all_goals (go_ret; refine ⟨ret_int ?_, by assumption⟩; go_light; simp only [kwK, *, if_true, Bool.false_eq_true, if_false])


theorem goe_ascii {c : UInt8} (h : goeU c = true) : c.toNat < 128 := by
  simp [goeU, goeB, begB, digB] at h; omega
theorem beg_ascii {c : UInt8} (h : begU c = true) : c.toNat < 128 := by
  simp [begU, begB] at h; omega

theorem runLen_all (p : UInt8 → Bool) (l : List UInt8) : ∀ c ∈ l.take (runLen p l), p c = true := by
  induction l with
  | nil => simp [runLen]
  | cons d t ih =>
    intro c hc
    by_cases hd : p d = true
    · simp only [runLen, hd, if_true, List.take_succ_cons, List.mem_cons] at hc
      rcases hc with rfl | hc
      · exact hd
      · exact ih c hc
    · simp [runLen, hd] at hc

theorem wordSize_le (l : List UInt8) : wordSize l ≤ l.length := by
  cases l with
  | nil => simp [wordSize]
  | cons c t => have := runLen_le goeU t; simp only [wordSize]; split <;> simp <;> omega

theorem word_ascii (l : List UInt8) : ∀ c ∈ l.take (wordSize l), c.toNat < 128 := by
  cases l with
  | nil => simp
  | cons d t =>
    intro c hc
    by_cases hd : begU d = true
    · simp only [wordSize, hd, if_true, List.take_succ_cons, List.mem_cons] at hc
      rcases hc with rfl | hc
      · exact beg_ascii hd
      · exact goe_ascii (runLen_all goeU t c hc)
    · simp [wordSize, hd] at hc

/-- The token that a text with a letter in front begins with. -/
def wordTk (l : List UInt8) : Tk := if wordK (l.take (wordSize l)) = 2 then ⟨2, 0, l.take (wordSize l)⟩ else plainTk (wordK (l.take (wordSize l)))

theorem tok_ret2 {w : Tk} {k n : Int} {b : ByteArray} {z z' : Int} (hk : k = w.kind) (hn : n = w.num) (hs : b = BS w.str) (hz : z = z') :
    Ending.returned (.tuple #[.agg #[.int .i64 k, .int .i64 0, .int .i64 n, .string b], .int .i64 z]) = .returned (.tuple #[tkV w 0, .int .i64 z']) := by
  rw [hk, hn, hs, hz]; rfl

set_option maxHeartbeats 400000 in
theorem clone_any (s : ByteArray) (w : World) (hs : s.size ≤ 281474976710656) :
    Calls Tryz.prog 39 #[.string s] w fun e w' => e = .returned (.string s) ∧ Below w.heap.size w w' := by
  go_enter Tryz.func39, Tryz.ntmps39
  go_wp2_with (go_at_call 66; refine (Tryz.stringslite_Clone s _ hs).mono ?_; rintro e w1 ⟨rfl, hb1⟩)
  go_ret
  exact ⟨rfl, hb1⟩

set_option maxHeartbeats 400000 in
theorem word_any (s : ByteArray) (hs : s.size ≤ 140737488355328) (w : World) :
    Calls Tryz.prog 191 #[.string s] w fun e w' => e = .returned (.tuple #[tkV (wordTk s.data.toList) 0, .int .i64 (wordSize s.data.toList)]) ∧ Below w.heap.size w w' := by
  have hle := wordSize_le s.data.toList
  rw [data_len] at hle
  have hx : (s.extract 0 (wordSize s.data.toList)).data.toList = s.data.toList.take (wordSize s.data.toList) := by rw [Lib.extract_data]; simp
  have hm : s.size ≤ maxLen := by unfold maxLen; omega
  have Ha := hide (word_ascii s.data.toList)
  obtain ⟨z, hz⟩ : ∃ z, wordSize s.data.toList = z := ⟨_, rfl⟩
  have Hk : Hid (wordTk s.data.toList = if wordK (s.data.toList.take z) = 2 then ⟨2, 0, s.data.toList.take z⟩ else plainTk (wordK (s.data.toList.take z))) := by rw [← hz]; exact hide rfl
  rw [hz] at hle hx Ha ⊢
  have Hx := hide hx
  have Hz := hide hz
  clear hx hz
  obtain ⟨k, hk⟩ : ∃ k, wordK (s.data.toList.take z) = k := ⟨_, rfl⟩
  have Hkk := hide hk
  clear hk
  by_cases h2 : k = 2
  · have h2'' : (k != 2) = false := by simp [h2]
    have H2 := hide h2
    clear h2
    go_enter Tryz.func191, Tryz.ntmps191
    go_wp2_with (first | (go_at_call 150; refine (wordSize_any _ hm _).mono ?_; rintro e w' ⟨rfl, rfl⟩; rw [unhide Hz]) | (go_at_call 151; refine (wordKind_any _ (by simp; omega) (by rw [unhide Hx]; exact unhide Ha) _).mono ?_; rintro e w' ⟨rfl, hb⟩; obtain ⟨hc, hf⟩ := bcell hb; have hz := hb.size; rw [unhide Hx, unhide Hkk]) | (go_at_call 39; refine (clone_any _ _ (by simp; omega)).mono ?_; rintro e w2 ⟨rfl, hb2⟩; have hz1 : w.heap.size < w'.heap.size := (by simp at hz; omega); have hz2 : w.heap.size < w2.heap.size := (by have := hb2.size; omega); have c0 : w2.cell? ⟨w.heap.size, 0, none⟩ = some (.int .i64 0) := ((bcell hb2).1 _ 0 hz1).trans ((hc _ 0 (by simp)).trans (by simp)); have c1 : w2.cell? ⟨w.heap.size, 1, none⟩ = some (.int .i64 0) := ((bcell hb2).1 _ 1 hz1).trans ((hc _ 1 (by simp)).trans (by simp)); have c2 : w2.cell? ⟨w.heap.size, 2, none⟩ = some (.int .i64 0) := ((bcell hb2).1 _ 2 hz1).trans ((hc _ 2 (by simp)).trans (by simp)); have c3 : w2.cell? ⟨w.heap.size, 3, none⟩ = some (.string ⟨#[]⟩) := ((bcell hb2).1 _ 3 hz1).trans ((hc _ 3 (by simp)).trans (by simp)); have z0 : ∀ j, w2.frozen? ⟨w.heap.size, j, none⟩ = false := (fun j => ((bcell hb2).2 _ j hz1).trans ((hf _ j (by simp)).trans (by simp))); have hB := hide (hb.trans (hb2.mono hb.size)); clear hb hb2 hc hf hz))
    refine bodyPost_ret (by simp [results, Tryz.results191, go_sem, c0, c1, c2, c3]; rfl) rfl ⟨?_, ?_⟩
    all_goals go_light
    · exact tok_ret2 (by rw [unhide Hk, unhide Hkk, if_pos (unhide H2)]) (by rw [unhide Hk, unhide Hkk, if_pos (unhide H2)]) (by rw [unhide Hk, unhide Hkk, if_pos (unhide H2), ← unhide Hx]; rfl) rfl
    · exact ((((below_step (unhide hB)).setCell (by simp) _).setCell (by simp) _).setCell (by simp) _).setCell (by simp) _
  · have h2'' : (k != 2) = true := by simp [h2]
    have H2 := hide h2
    clear h2
    go_enter Tryz.func191, Tryz.ntmps191
    go_wp2_with (first | (go_at_call 150; refine (wordSize_any _ hm _).mono ?_; rintro e w' ⟨rfl, rfl⟩; rw [unhide Hz]) | (go_at_call 151; refine (wordKind_any _ (by simp; omega) (by rw [unhide Hx]; exact unhide Ha) _).mono ?_; rintro e w' ⟨rfl, hb⟩; obtain ⟨hc, hf⟩ := bcell hb; have hz := hb.size; rw [unhide Hx, unhide Hkk]))
    refine bodyPost_ret (by simp [results, Tryz.results191, go_sem, hc]; rfl) rfl ⟨?_, ?_⟩
    all_goals go_light
    · exact tok_ret2 (by rw [unhide Hk, unhide Hkk, if_neg (unhide H2)]; rfl) (by rw [unhide Hk, unhide Hkk, if_neg (unhide H2)]; rfl) (by rw [unhide Hk, unhide Hkk, if_neg (unhide H2)]; rfl) rfl
    · exact ((((below_step hb).setCell (by simp) _).setCell (by simp) _).setCell (by simp) _).setCell (by simp) _

end Go.Proofs.YtfkcaldjphakpaaGreatDoor
