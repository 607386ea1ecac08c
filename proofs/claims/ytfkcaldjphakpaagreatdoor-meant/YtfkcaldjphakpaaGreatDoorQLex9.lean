/- The contracts of lex.Next and lex.IsName. -/
import Derived.Test.YtfkcaldjphakpaaGreatDoorA02
namespace Go.Proofs.YtfkcaldjphakpaaGreatDoor
open Go.RowKit

theorem tok_ret3 {t : Tk} {p p' z z' : Int} (hp : p = p') (hz : z = z') :
    Ending.returned (.tuple #[.agg #[.int .i64 t.kind, .int .i64 p, .int .i64 t.num, .string (BS t.str)], .int .i64 z]) = .returned (.tuple #[tkV t p', .int .i64 z']) := by
  rw [hp, hz]; rfl

set_option maxHeartbeats 400000 in
theorem next_any (s : ByteArray) (hs : s.size ≤ 140737488355328) (f : Nat) (hf : f ≤ s.size) (w : World) (hE : ErrOk w) :
    Calls Tryz.prog 100 #[.string s, .int .i64 f] w fun e w' => e = .returned (.tuple #[tkV (nextTk s.data.toList f) (nextAt s.data.toList f), .int .i64 (nextTo s.data.toList f)]) ∧ Below w.heap.size w w' := by
  have hl := data_len s
  have hle := nextAt_le s.data.toList f (by omega)
  have HE : Hid (∀ o, ErrOk (w.alloc o)) := hide fun o => hE.alloc o
  clear hE
  obtain ⟨A, hA⟩ : ∃ a, nextAt s.data.toList f = a := ⟨_, rfl⟩
  have hT : nextTk s.data.toList f = if A < s.data.toList.length then firstTk (s.data.toList.drop A) else plainTk 0 := by rw [← hA]; rfl
  have hZ : nextTo s.data.toList f = if A < s.data.toList.length then A + firstS (s.data.toList.drop A) else s.data.toList.length := by rw [← hA]; rfl
  obtain ⟨T, hT'⟩ : ∃ t, nextTk s.data.toList f = t := ⟨_, rfl⟩
  obtain ⟨Z, hZ'⟩ : ∃ t, nextTo s.data.toList f = t := ⟨_, rfl⟩
  rw [hT'] at hT
  rw [hZ'] at hZ
  rw [hA] at hle
  rw [hA, hT', hZ']
  have HA : Hid (A = f + runLen spU (s.data.toList.drop f)) := hide (by rw [← hA]; rfl)
  have HT := hide hT
  have HZ := hide hZ
  clear hT hZ hT' hZ' hA
  go_enter Tryz.func100, Tryz.ntmps100
  go_wp2_with fail
  go_loop [6] (fun i => ∃ k : Nat, f ≤ k ∧ k ≤ s.size ∧ i = .int .i64 k ∧ Hid (A = runLen spU (s.data.toList.drop k) + k)) (fun i => s.size - (intOf i).toNat)
  case atStart => exact ⟨f, Nat.le_refl _, hf, rfl, hide (by rw [Nat.add_comm]; exact unhide HA)⟩
  case round =>
    obtain ⟨k, hk1, hk, rfl, hr⟩ := hrel
    have more : ∀ hlt : k < s.size, spU s[k] = true → Hid (A = runLen spU (s.data.toList.drop (k + 1)) + (k + 1)) := fun hlt hg => hide (by
      have := runLen_drop_succ spU s.data.toList k (by omega) hg; rw [unhide hr, this]; omega)
    have done1 : ∀ hlt : k < s.size, spU s[k] = false → A = k := fun hlt hg => by
      have := runLen_drop_stop spU s.data.toList k (by omega) hg; rw [unhide hr, this]; omega
    have done2 : ¬ k < s.size → A = k := fun hlt => by
      have := runLen_drop_end spU s.data.toList k (by omega); rw [unhide hr, this]; omega
    clear hr
    by_cases hlt : k < s.size
    · cases hg : spU s[k] with
      | true =>
        have HR := more hlt hg
        have Hg := hide hg
        clear more done1 done2 hg
        go_wp2_with (go_at_call 143; refine (isSpace_any _ _).mono ?_; rintro e w' ⟨rfl, rfl⟩; rw [show spB (s[k].toNat : Int) = true from unhide Hg])
        go_round
        case rel => exact ⟨k + 1, by omega, by omega, by go_num, HR⟩
        case measure => simp [intOf]; omega
      | false =>
        have hA := done1 hlt hg
        have Hg := hide hg
        clear more done1 done2 hg
        subst hA
        rw [if_pos (by omega)] at HT HZ
        have hx : (s.extract A s.size).data.toList = s.data.toList.drop A := Lib.extract_to_end s A
        have hfl := firstS_le (s.data.toList.drop A) (by rw [List.length_drop]; omega)
        rw [List.length_drop, hl] at hfl
        have HX := hide hx
        clear hx
        go_wp2_with (first | (go_at_call 143; refine (isSpace_any _ _).mono ?_; rintro e w' ⟨rfl, rfl⟩; rw [show spB (s[A].toNat : Int) = false from unhide Hg]) | (go_at_call 144; refine (first_any _ (by simp; omega) (by simp; omega) _ (unhide HE _)).mono ?_; rintro e w' ⟨rfl, hb⟩; obtain ⟨hc, hfz⟩ := bcell hb; have hz : w.heap.size < w'.heap.size := (by have := hb.size; simp at this; omega); rw [unhide HX]; simp only [tkV]))
        refine bodyPost_ret (by simp [results, Tryz.results100, go_sem, hc, hz]; rfl) rfl ⟨?_, ?_⟩
        all_goals go_light
        · rw [unhide HT, unhide HZ]; exact tok_ret3 rfl (by omega)
        · exact (((((below_step hb).setCell (by simp) _).setCell (by simp) _).setCell (by simp) _).setCell (by simp) _).alloc (by simp; omega) _
    · have hA := done2 hlt
      clear more done1 done2
      subst hA
      rw [if_neg (by omega)] at HT HZ
      go_wp2_with fail
      refine bodyPost_ret (by simp [results, Tryz.results100, go_sem]; rfl) rfl ⟨?_, ?_⟩
      all_goals go_light
      · rw [unhide HT, unhide HZ]; exact tok_ret3 (t := plainTk 0) (by omega) (by omega)
      · exact (Below.refl _ _).alloc (Nat.le_refl _) _

/-- A text that is one word, and no keyword. -/
def nameB (l : List UInt8) : Bool := decide (0 < wordSize l) && decide (wordSize l = l.length) && (wordK l == 2)

theorem nameB_ascii {l : List UInt8} (h : wordSize l = l.length) : ∀ c ∈ l, c.toNat < 128 := by
  have := word_ascii l
  rw [h, List.take_length] at this; exact this

set_option maxHeartbeats 400000 in
theorem isName_any (s : ByteArray) (hs : s.size ≤ 140737488355328) (w : World) :
    Calls Tryz.prog 105 #[.string s] w fun e w' => e = .returned (.bool (nameB s.data.toList)) ∧ Below w.heap.size w w' := by
  have hm : s.size ≤ maxLen := by unfold maxLen; omega
  have hl := data_len s
  have hn : nameB s.data.toList = (decide (0 < wordSize s.data.toList) && decide (wordSize s.data.toList = s.size) && (wordK s.data.toList == 2)) := by unfold nameB; rw [hl]
  have ha := fun h => nameB_ascii (l := s.data.toList) h
  rw [hn]
  generalize hz : wordSize s.data.toList = z at *
  generalize hk : wordK s.data.toList = k at *
  have HZ := hide hz
  have HK := hide hk
  clear hz hk hn
  by_cases h0 : 0 < z
  · by_cases h1 : z = s.size
    · have HA := hide (ha (by omega))
      have h1' : ((z : Int) == (s.size : Int)) = true := beq_iff_eq.2 (by omega)
      have H1 := hide h1
      clear ha h1
      go_enter Tryz.func105, Tryz.ntmps105
      go_wp2_with (first | (go_at_call 150; refine (wordSize_any _ hm _).mono ?_; rintro e w' ⟨rfl, rfl⟩; rw [unhide HZ]) | (go_at_call 151; refine (wordKind_any _ hs (unhide HA) _).mono ?_; rintro e w' ⟨rfl, hb⟩; rw [unhide HK]))
      all_goals (go_ret; exact ⟨ret_bool (by have := unhide H1; simp_all), by assumption⟩)
    · have h1' : ((z : Int) == (s.size : Int)) = false := beq_eq_false_iff_ne.2 (by omega)
      have H1 := hide h1
      clear ha h1
      go_enter Tryz.func105, Tryz.ntmps105
      go_wp2_with (first | (go_at_call 150; refine (wordSize_any _ hm _).mono ?_; rintro e w' ⟨rfl, rfl⟩; rw [unhide HZ]))
      go_ret
      exact ⟨ret_bool (by have := unhide H1; simp [this]), Below.refl _ _⟩
  · clear ha
    go_enter Tryz.func105, Tryz.ntmps105
    go_wp2_with (first | (go_at_call 150; refine (wordSize_any _ hm _).mono ?_; rintro e w' ⟨rfl, rfl⟩; rw [unhide HZ]))
    go_ret
    exact ⟨ret_bool (by simp; omega), Below.refl _ _⟩

end Go.Proofs.YtfkcaldjphakpaaGreatDoor
