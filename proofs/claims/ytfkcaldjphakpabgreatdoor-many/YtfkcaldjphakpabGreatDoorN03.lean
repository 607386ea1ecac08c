/- The contracts of lex.first, lex.Next and lex.IsName. The contracts of lex.Next and lex.IsName. -/
import Derived.Test.YtfkcaldjphakpabGreatDoorYLex7
namespace Go.Proofs.YtfkcaldjphakpabGreatDoor
open Go.RowKit

section
def firstTk (l : List UInt8) : Tk := match l with
  | [] => plainTk 1
  | c :: _ => if begU c then wordTk l else if digU c then numTk l else if c == 39 then quotTk l else plainTk (markT l)
def firstS (l : List UInt8) : Nat := match l with
  | [] => 1
  | c :: _ => if begU c then wordSize l else if digU c then runLen digU l else if c == 39 then quotS l else markS l

theorem first_at (s : ByteArray) (h : 0 < s.size) :
    firstTk s.data.toList = (if begU s[0] then wordTk s.data.toList else if digU s[0] then numTk s.data.toList else if s[0] == 39 then quotTk s.data.toList else plainTk (markT s.data.toList)) ∧
    firstS s.data.toList = (if begU s[0] then wordSize s.data.toList else if digU s[0] then runLen digU s.data.toList else if s[0] == 39 then quotS s.data.toList else markS s.data.toList) := by
  have e := List.drop_eq_getElem_cons (l := s.data.toList) (i := 0) (by rw [data_len]; exact h)
  rw [List.drop_zero, data_getElem s 0 h] at e
  constructor
  · conv => lhs; rw [e]
    conv => rhs; rw [e]
    rfl
  · conv => lhs; rw [e]
    conv => rhs; rw [e]
    rfl

set_option maxHeartbeats 400000 in
theorem first_any (s : ByteArray) (h0 : 0 < s.size) (hs : s.size ≤ 140737488355328) (w : World) (hE : ErrOk w) :
    Calls Tryz.prog 131 #[.string s] w fun e w' => e = .returned (.tuple #[tkV (firstTk s.data.toList) 0, .int .i64 (firstS s.data.toList)]) ∧ Below w.heap.size w w' := by
  obtain ⟨h1, h2⟩ := first_at s h0
  have hm : s.size ≤ maxLen := by unfold maxLen; omega
  have HE : Hid (∀ o, ErrOk (w.alloc o)) := hide fun o => hE.alloc o
  clear hE
  cases hb : begU s[0] with
  | true =>
    rw [hb, if_pos rfl] at h1 h2
    rw [h1, h2]
    have Hb := hide hb
    clear hb h1 h2
    go_enter Tryz.func131, Tryz.ntmps131
    go_wp2_with (first | (go_at_call 175; refine (beginsWord_any _ _).mono ?_; rintro e w' ⟨rfl, rfl⟩; rw [show begB (s[0].toNat : Int) = true from unhide Hb]) | (go_at_call 176; refine (word_any _ hs _).mono ?_; rintro e w' ⟨rfl, hb⟩; obtain ⟨hc, hf⟩ := bcell hb; have hz := hb.size; simp only [tkV]))
    refine bodyPost_ret (by simp [results, Tryz.results131, go_sem, hc]; rfl) rfl ⟨?_, ?_⟩
    all_goals go_light
    · rfl
    · exact ((((below_step hb).setCell (by simp) _).setCell (by simp) _).setCell (by simp) _).setCell (by simp) _
  | false =>
    rw [hb, if_neg (by simp)] at h1 h2
    have Hb := hide hb
    clear hb
    cases hd : digU s[0] with
    | true =>
      rw [hd, if_pos rfl] at h1 h2
      rw [h1, h2]
      have Hd := hide hd
      clear hd h1 h2
      go_enter Tryz.func131, Tryz.ntmps131
      go_wp2_with (first | (go_at_call 175; refine (beginsWord_any _ _).mono ?_; rintro e w' ⟨rfl, rfl⟩; rw [show begB (s[0].toNat : Int) = false from unhide Hb]) | (go_at_call 177; refine (isDigit_any _ _).mono ?_; rintro e w' ⟨rfl, rfl⟩; rw [show digB (s[0].toNat : Int) = true from unhide Hd]) | (go_at_call 178; refine (number_any _ h0 hs (unhide Hd) _ (unhide HE _)).mono ?_; rintro e w' ⟨rfl, hb⟩; obtain ⟨hc, hf⟩ := bcell hb; have hz := hb.size; simp only [tkV]))
      refine bodyPost_ret (by simp [results, Tryz.results131, go_sem, hc]; rfl) rfl ⟨?_, ?_⟩
      all_goals go_light
      · rfl
      · exact ((((below_step hb).setCell (by simp) _).setCell (by simp) _).setCell (by simp) _).setCell (by simp) _
    | false =>
      rw [hd, if_neg (by simp)] at h1 h2
      have Hd := hide hd
      clear hd
      cases hq : (s[0] == 39) with
      | true =>
        rw [hq, if_pos rfl] at h1 h2
        rw [h1, h2]
        have hq' : ((s[0].toNat : Int) == 39) = true := by rw [u8_39]; exact hq
        clear hq h1 h2
        go_enter Tryz.func131, Tryz.ntmps131
        go_wp2_with (first | (go_at_call 175; refine (beginsWord_any _ _).mono ?_; rintro e w' ⟨rfl, rfl⟩; rw [show begB (s[0].toNat : Int) = false from unhide Hb]) | (go_at_call 177; refine (isDigit_any _ _).mono ?_; rintro e w' ⟨rfl, rfl⟩; rw [show digB (s[0].toNat : Int) = false from unhide Hd]) | (go_at_call 179; refine (quoted_any _ h0 hs _).mono ?_; rintro e w' ⟨rfl, hb⟩; obtain ⟨hc, hf⟩ := bcell hb; have hz := hb.size; simp only [tkV]))
        refine bodyPost_ret (by simp [results, Tryz.results131, go_sem, hc]; rfl) rfl ⟨?_, ?_⟩
        all_goals go_light
        · rfl
        · exact ((((below_step hb).setCell (by simp) _).setCell (by simp) _).setCell (by simp) _).setCell (by simp) _
      | false =>
        rw [hq, if_neg (by simp)] at h1 h2
        rw [h1, h2]
        have hq' : ((s[0].toNat : Int) == 39) = false := by rw [u8_39]; exact hq
        clear hq h1 h2
        go_enter Tryz.func131, Tryz.ntmps131
        go_wp2_with (first | (go_at_call 175; refine (beginsWord_any _ _).mono ?_; rintro e w' ⟨rfl, rfl⟩; rw [show begB (s[0].toNat : Int) = false from unhide Hb]) | (go_at_call 177; refine (isDigit_any _ _).mono ?_; rintro e w' ⟨rfl, rfl⟩; rw [show digB (s[0].toNat : Int) = false from unhide Hd]) | (go_at_call 180; refine (mark_any _ h0 hm _).mono ?_; rintro e w' ⟨rfl, hb⟩; obtain ⟨hc, hf⟩ := bcell hb; have hz := hb.size; simp only [tkV]))
        refine bodyPost_ret (by simp [results, Tryz.results131, go_sem, hc]; rfl) rfl ⟨?_, ?_⟩
        all_goals go_light
        · rfl
        · exact ((((below_step hb).setCell (by simp) _).setCell (by simp) _).setCell (by simp) _).setCell (by simp) _

/-- The token that comes from a place on, its place, and the place behind it. -/
def nextAt (l : List UInt8) (k : Nat) : Nat := k + runLen spU (l.drop k)
def nextTk (l : List UInt8) (k : Nat) : Tk := if nextAt l k < l.length then firstTk (l.drop (nextAt l k)) else plainTk 0
def nextTo (l : List UInt8) (k : Nat) : Nat := if nextAt l k < l.length then nextAt l k + firstS (l.drop (nextAt l k)) else l.length
theorem nextAt_le (l : List UInt8) (k : Nat) (h : k ≤ l.length) : nextAt l k ≤ l.length := by
  have := runLen_le spU (l.drop k); rw [List.length_drop] at this; unfold nextAt; omega

theorem mark_le (l : List UInt8) (h : 0 < l.length) : markS l ≤ l.length := by
  unfold markS; split
  · simp at h
  · simp
  · split <;> simp

theorem quotF_le : ∀ (n : Nat) (l : List UInt8), l.length ≤ n → ∀ r, quotF l = some r → r.2 ≤ l.length := by
  intro n
  induction n with
  | zero => intro l hl r h; have : l = [] := List.eq_nil_of_length_eq_zero (by omega)
            subst this; simp [quotF] at h
  | succ n ih =>
    intro l hl r h
    match l, hl, h with
    | [], _, h => simp [quotF] at h
    | [c], _, h =>
      simp only [quotF] at h
      split at h
      · simp at h; subst h; simp
      · simp at h
    | c :: d :: t, hl, h =>
      simp only [quotF] at h
      simp only [List.length_cons] at hl
      split at h
      · split at h
        · cases hq : quotF t with
          | none => rw [hq] at h; simp at h
          | some q =>
            rw [hq] at h; simp at h; subst h
            have := ih t (by omega) q hq; simp; omega
        · simp at h; subst h; simp
      · cases hq : quotF (d :: t) with
        | none => rw [hq] at h; simp at h
        | some q =>
          rw [hq] at h; simp at h; subst h
          have := ih (d :: t) (by simp; omega) q hq; simp at this ⊢; omega

theorem quotS_le (l : List UInt8) (h : 0 < l.length) : quotS l ≤ l.length := by
  unfold quotS; split
  · rename_i r hr
    have := quotF_le _ (l.drop 1) (Nat.le_refl _) r hr
    rw [List.length_drop] at this; omega
  · exact Nat.le_refl _

theorem firstS_le (l : List UInt8) (h : 0 < l.length) : firstS l ≤ l.length := by
  cases l with
  | nil => simp at h
  | cons c t =>
    simp only [firstS]
    split
    · exact wordSize_le _
    · split
      · exact runLen_le _ _
      · split
        · exact quotS_le _ h
        · exact mark_le _ h

theorem nextTo_le (l : List UInt8) (k : Nat) : nextTo l k ≤ l.length := by
  unfold nextTo; split
  · have := firstS_le (l.drop (nextAt l k)) (by rw [List.length_drop]; omega)
    rw [List.length_drop] at this; omega
  · exact Nat.le_refl _
end

section
theorem tok_ret3 {t : Tk} {p p' z z' : Int} (hp : p = p') (hz : z = z') :
    Ending.returned (.tuple #[.agg #[.int .i64 t.kind, .int .i64 p, .int .i64 t.num, .string (BS t.str)], .int .i64 z]) = .returned (.tuple #[tkV t p', .int .i64 z']) := by
  rw [hp, hz]; rfl

set_option maxHeartbeats 400000 in
theorem next_any (s : ByteArray) (hs : s.size ≤ 140737488355328) (f : Nat) (hf : f ≤ s.size) (w : World) (hE : ErrOk w) :
    Calls Tryz.prog 84 #[.string s, .int .i64 f] w fun e w' => e = .returned (.tuple #[tkV (nextTk s.data.toList f) (nextAt s.data.toList f), .int .i64 (nextTo s.data.toList f)]) ∧ Below w.heap.size w w' := by
  have hl := data_len s
  have hle := nextAt_le s.data.toList f (by omega)
  have HE : Hid (∀ o, ErrOk (w.alloc o)) := hide fun o => hE.alloc o
  clear hE
  obtain ⟨A, hA⟩ : ∃ a, nextAt s.data.toList f = a := ⟨_, rfl⟩
  have hT : nextTk s.data.toList f = if A < s.data.toList.length then firstTk (s.data.toList.drop A) else plainTk 0 := by rw [← hA]; rfl
  have hZ : nextTo s.data.toList f = if A < s.data.toList.length then A + firstS (s.data.toList.drop A) else s.data.toList.length := by rw [← hA]; rfl
  obtain ⟨T, hT'⟩ : ∃ t, nextTk s.data.toList f = t := ⟨_, rfl⟩
  obtain ⟨Z, hZ'⟩ : ∃ t, nextTo s.data.toList f = t := ⟨_, rfl⟩
  rw [hT'] at hT
  rw [hZ'] at hZ
  rw [hA] at hle
  rw [hA, hT', hZ']
  have HA : Hid (A = f + runLen spU (s.data.toList.drop f)) := hide (by rw [← hA]; rfl)
  have HT := hide hT
  have HZ := hide hZ
  clear hT hZ hT' hZ' hA
  go_enter Tryz.func84, Tryz.ntmps84
  go_wp2_with fail
  go_loop [6] (fun i => ∃ k : Nat, f ≤ k ∧ k ≤ s.size ∧ i = .int .i64 k ∧ Hid (A = runLen spU (s.data.toList.drop k) + k)) (fun i => s.size - (intOf i).toNat)
  case atStart => exact ⟨f, Nat.le_refl _, hf, rfl, hide (by rw [Nat.add_comm]; exact unhide HA)⟩
  case round =>
    obtain ⟨k, hk1, hk, rfl, hr⟩ := hrel
    have more : ∀ hlt : k < s.size, spU s[k] = true → Hid (A = runLen spU (s.data.toList.drop (k + 1)) + (k + 1)) := fun hlt hg => hide (by
      have := runLen_drop_succ spU s.data.toList k (by omega) hg; rw [unhide hr, this]; omega)
    have done1 : ∀ hlt : k < s.size, spU s[k] = false → A = k := fun hlt hg => by
      have := runLen_drop_stop spU s.data.toList k (by omega) hg; rw [unhide hr, this]; omega
    have done2 : ¬ k < s.size → A = k := fun hlt => by
      have := runLen_drop_end spU s.data.toList k (by omega); rw [unhide hr, this]; omega
    clear hr
    by_cases hlt : k < s.size
    · cases hg : spU s[k] with
      | true =>
        have HR := more hlt hg
        have Hg := hide hg
        clear more done1 done2 hg
        go_wp2_with (go_at_call 130; refine (isSpace_any _ _).mono ?_; rintro e w' ⟨rfl, rfl⟩; rw [show spB (s[k].toNat : Int) = true from unhide Hg])
        go_round
        case rel => exact ⟨k + 1, by omega, by omega, by go_num, HR⟩
        case measure => simp [intOf]; omega
      | false =>
        have hA := done1 hlt hg
        have Hg := hide hg
        clear more done1 done2 hg
        subst hA
        rw [if_pos (by omega)] at HT HZ
        have hx : (s.extract A s.size).data.toList = s.data.toList.drop A := Lib.extract_to_end s A
        have hfl := firstS_le (s.data.toList.drop A) (by rw [List.length_drop]; omega)
        rw [List.length_drop, hl] at hfl
        have HX := hide hx
        clear hx
        go_wp2_with (first | (go_at_call 130; refine (isSpace_any _ _).mono ?_; rintro e w' ⟨rfl, rfl⟩; rw [show spB (s[A].toNat : Int) = false from unhide Hg]) | (go_at_call 131; refine (first_any _ (by simp; omega) (by simp; omega) _ (unhide HE _)).mono ?_; rintro e w' ⟨rfl, hb⟩; obtain ⟨hc, hfz⟩ := bcell hb; have hz : w.heap.size < w'.heap.size := (by have := hb.size; simp at this; omega); rw [unhide HX]; simp only [tkV]))
        refine bodyPost_ret (by simp [results, Tryz.results84, go_sem, hc, hz]; rfl) rfl ⟨?_, ?_⟩
        all_goals go_light
        · rw [unhide HT, unhide HZ]; exact tok_ret3 rfl (by omega)
        · exact (((((below_step hb).setCell (by simp) _).setCell (by simp) _).setCell (by simp) _).setCell (by simp) _).alloc (by simp; omega) _
    · have hA := done2 hlt
      clear more done1 done2
      subst hA
      rw [if_neg (by omega)] at HT HZ
      go_wp2_with fail
      refine bodyPost_ret (by simp [results, Tryz.results84, go_sem]; rfl) rfl ⟨?_, ?_⟩
      all_goals go_light
      · rw [unhide HT, unhide HZ]; exact tok_ret3 (t := plainTk 0) (by omega) (by omega)
      · exact (Below.refl _ _).alloc (Nat.le_refl _) _
end

end Go.Proofs.YtfkcaldjphakpabGreatDoor
