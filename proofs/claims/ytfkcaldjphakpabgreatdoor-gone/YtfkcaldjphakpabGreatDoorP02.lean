/- The contracts of lex.first, lex.Next and lex.IsName. The contracts of lex.Next and lex.IsName. -/
import Derived.Test.YtfkcaldjphakpabGreatDoorZLex7
namespace Go.Proofs.YtfkcaldjphakpabGreatDoor
open Go.RowKit
section
def qj1 (l : List UInt8) : Tk := match l with
  | [] => z7 1
  | c :: _ => if vp9 c then qv4 l else if qt3 c then vh0 l else if c == 39 then qn0 l else z7 (ve2 l)
def qv7 (l : List UInt8) : Nat := match l with
  | [] => 1
  | c :: _ => if vp9 c then qa3 l else if qt3 c then x8 qt3 l else if c == 39 then vb1 l else ve1 l
theorem first_at (s : ByteArray) (h : 0 < s.size) :
    qj1 s.data.toList = (if vp9 s[0] then qv4 s.data.toList else if qt3 s[0] then vh0 s.data.toList else if s[0] == 39 then qn0 s.data.toList else z7 (ve2 s.data.toList)) ∧
    qv7 s.data.toList = (if vp9 s[0] then qa3 s.data.toList else if qt3 s[0] then x8 qt3 s.data.toList else if s[0] == 39 then vb1 s.data.toList else ve1 s.data.toList) := by
  have e := List.drop_eq_getElem_cons (l := s.data.toList) (i := 0) (by rw [qb3]; exact h)
  rw [List.drop_zero, qc7 s 0 h] at e
  constructor
  · conv => lhs; rw [e]
    conv => rhs; rw [e]
    rfl
  · conv => lhs; rw [e]
    conv => rhs; rw [e]
    rfl
set_option maxHeartbeats 400000 in
theorem first_any (s : ByteArray) (h0 : 0 < s.size) (hs : s.size ≤ 140737488355328) (w : World) (hE : ErrOk w) :
    Calls Tryz.prog 131 #[.string s] w fun e w' => e = .returned (.tuple #[tkV (qj1 s.data.toList) 0, .int .i64 (qv7 s.data.toList)]) ∧ Below w.heap.size w w' := by
  obtain ⟨h1, h2⟩ := first_at s h0
  have hm : s.size ≤ maxLen := by unfold maxLen; omega
  have HE : Hid (∀ o, ErrOk (w.alloc o)) := v6 fun o => hE.alloc o
  clear hE
  cases hb : vp9 s[0] with
  | true =>
    rw [hb, if_pos rfl] at h1 h2
    rw [h1, h2]
    have Hb := v6 hb
    clear hb h1 h2
    go_enter Tryz.func131, Tryz.ntmps131
    go_wp2_with (first | (go_at_call 175; refine (qf6 _ _).mono ?_; rintro e w' ⟨rfl, rfl⟩; rw [show za8 (s[0].toNat : Int) = true from q9 Hb]) | (go_at_call 176; refine (word_any _ hs _).mono ?_; rintro e w' ⟨rfl, hb⟩; obtain ⟨hc, hf⟩ := j6 hb; have hz := hb.size; simp only [tkV]))
    refine bodyPost_ret (by simp [results, Tryz.results131, go_sem, hc]; rfl) rfl ⟨?_, ?_⟩
    all_goals go_light
    · rfl
    · exact ((((qc4 hb).setCell (by simp) _).setCell (by simp) _).setCell (by simp) _).setCell (by simp) _
  | false =>
    rw [hb, if_neg (by simp)] at h1 h2
    have Hb := v6 hb
    clear hb
    cases hd : qt3 s[0] with
    | true =>
      rw [hd, if_pos rfl] at h1 h2
      rw [h1, h2]
      have Hd := v6 hd
      clear hd h1 h2
      go_enter Tryz.func131, Tryz.ntmps131
      go_wp2_with (first | (go_at_call 175; refine (qf6 _ _).mono ?_; rintro e w' ⟨rfl, rfl⟩; rw [show za8 (s[0].toNat : Int) = false from q9 Hb]) | (go_at_call 177; refine (qj2 _ _).mono ?_; rintro e w' ⟨rfl, rfl⟩; rw [show za6 (s[0].toNat : Int) = true from q9 Hd]) | (go_at_call 178; refine (jr5 _ h0 hs (q9 Hd) _ (q9 HE _)).mono ?_; rintro e w' ⟨rfl, hb⟩; obtain ⟨hc, hf⟩ := j6 hb; have hz := hb.size; simp only [tkV]))
      refine bodyPost_ret (by simp [results, Tryz.results131, go_sem, hc]; rfl) rfl ⟨?_, ?_⟩
      all_goals go_light
      · rfl
      · exact ((((qc4 hb).setCell (by simp) _).setCell (by simp) _).setCell (by simp) _).setCell (by simp) _
    | false =>
      rw [hd, if_neg (by simp)] at h1 h2
      have Hd := v6 hd
      clear hd
      cases hq : (s[0] == 39) with
      | true =>
        rw [hq, if_pos rfl] at h1 h2
        rw [h1, h2]
        have hq' : ((s[0].toNat : Int) == 39) = true := by rw [u8_39]; exact hq
        clear hq h1 h2
        go_enter Tryz.func131, Tryz.ntmps131
        go_wp2_with (first | (go_at_call 175; refine (qf6 _ _).mono ?_; rintro e w' ⟨rfl, rfl⟩; rw [show za8 (s[0].toNat : Int) = false from q9 Hb]) | (go_at_call 177; refine (qj2 _ _).mono ?_; rintro e w' ⟨rfl, rfl⟩; rw [show za6 (s[0].toNat : Int) = false from q9 Hd]) | (go_at_call 179; refine (js7 _ h0 hs _).mono ?_; rintro e w' ⟨rfl, hb⟩; obtain ⟨hc, hf⟩ := j6 hb; have hz := hb.size; simp only [tkV]))
        refine bodyPost_ret (by simp [results, Tryz.results131, go_sem, hc]; rfl) rfl ⟨?_, ?_⟩
        all_goals go_light
        · rfl
        · exact ((((qc4 hb).setCell (by simp) _).setCell (by simp) _).setCell (by simp) _).setCell (by simp) _
      | false =>
        rw [hq, if_neg (by simp)] at h1 h2
        rw [h1, h2]
        have hq' : ((s[0].toNat : Int) == 39) = false := by rw [u8_39]; exact hq
        clear hq h1 h2
        go_enter Tryz.func131, Tryz.ntmps131
        go_wp2_with (first | (go_at_call 175; refine (qf6 _ _).mono ?_; rintro e w' ⟨rfl, rfl⟩; rw [show za8 (s[0].toNat : Int) = false from q9 Hb]) | (go_at_call 177; refine (qj2 _ _).mono ?_; rintro e w' ⟨rfl, rfl⟩; rw [show za6 (s[0].toNat : Int) = false from q9 Hd]) | (go_at_call 180; refine (mark_any _ h0 hm _).mono ?_; rintro e w' ⟨rfl, hb⟩; obtain ⟨hc, hf⟩ := j6 hb; have hz := hb.size; simp only [tkV]))
        refine bodyPost_ret (by simp [results, Tryz.results131, go_sem, hc]; rfl) rfl ⟨?_, ?_⟩
        all_goals go_light
        · rfl
        · exact ((((qc4 hb).setCell (by simp) _).setCell (by simp) _).setCell (by simp) _).setCell (by simp) _
def qc2 (l : List UInt8) (k : Nat) : Nat := k + x8 spU (l.drop k)
def qd0 (l : List UInt8) (k : Nat) : Tk := if qc2 l k < l.length then qj1 (l.drop (qc2 l k)) else z7 0
def qg3 (l : List UInt8) (k : Nat) : Nat := if qc2 l k < l.length then qc2 l k + qv7 (l.drop (qc2 l k)) else l.length
theorem jc4 (l : List UInt8) (k : Nat) (h : k ≤ l.length) : qc2 l k ≤ l.length := by
  have := qx4 spU (l.drop k); rw [List.length_drop] at this; unfold qc2; omega
theorem mark_le (l : List UInt8) (h : 0 < l.length) : ve1 l ≤ l.length := by
  unfold ve1; split
  · simp at h
  · simp
  · split <;> simp
theorem quotF_le : ∀ (n : Nat) (l : List UInt8), l.length ≤ n → ∀ r, qe5 l = some r → r.2 ≤ l.length := by
  intro n
  induction n with
  | zero => intro l hl r h; have : l = [] := List.eq_nil_of_length_eq_zero (by omega)
            subst this; simp [qe5] at h
  | succ n ih =>
    intro l hl r h
    match l, hl, h with
    | [], _, h => simp [qe5] at h
    | [c], _, h =>
      simp only [qe5] at h
      split at h
      · simp at h; subst h; simp
      · simp at h
    | c :: d :: t, hl, h =>
      simp only [qe5] at h
      simp only [List.length_cons] at hl
      split at h
      · split at h
        · cases hq : qe5 t with
          | none => rw [hq] at h; simp at h
          | some q =>
            rw [hq] at h; simp at h; subst h
            have := ih t (by omega) q hq; simp; omega
        · simp at h; subst h; simp
      · cases hq : qe5 (d :: t) with
        | none => rw [hq] at h; simp at h
        | some q =>
          rw [hq] at h; simp at h; subst h
          have := ih (d :: t) (by simp; omega) q hq; simp at this ⊢; omega
theorem quotS_le (l : List UInt8) (h : 0 < l.length) : vb1 l ≤ l.length := by
  unfold vb1; split
  · rename_i r hr
    have := quotF_le _ (l.drop 1) (Nat.le_refl _) r hr
    rw [List.length_drop] at this; omega
  · exact Nat.le_refl _
theorem jd0 (l : List UInt8) (h : 0 < l.length) : qv7 l ≤ l.length := by
  cases l with
  | nil => simp at h
  | cons c t =>
    simp only [qv7]
    split
    · exact va4 _
    · split
      · exact qx4 _ _
      · split
        · exact quotS_le _ h
        · exact mark_le _ h
theorem vk5 (l : List UInt8) (k : Nat) : qg3 l k ≤ l.length := by
  unfold qg3; split
  · have := jd0 (l.drop (qc2 l k)) (by rw [List.length_drop]; omega)
    rw [List.length_drop] at this; omega
  · exact Nat.le_refl _
end
section
theorem jm4 {t : Tk} {p p' z z' : Int} (hp : p = p') (hz : z = z') :
    Ending.returned (.tuple #[.agg #[.int .i64 t.kind, .int .i64 p, .int .i64 t.num, .string (BS t.str)], .int .i64 z]) = .returned (.tuple #[tkV t p', .int .i64 z']) := by
  rw [hp, hz]; rfl
set_option maxHeartbeats 400000 in
theorem next_any (s : ByteArray) (hs : s.size ≤ 140737488355328) (f : Nat) (hf : f ≤ s.size) (w : World) (hE : ErrOk w) :
    Calls Tryz.prog 84 #[.string s, .int .i64 f] w fun e w' => e = .returned (.tuple #[tkV (qd0 s.data.toList f) (qc2 s.data.toList f), .int .i64 (qg3 s.data.toList f)]) ∧ Below w.heap.size w w' := by
  have hl := qb3 s
  have hle := jc4 s.data.toList f (by omega)
  have HE : Hid (∀ o, ErrOk (w.alloc o)) := v6 fun o => hE.alloc o
  clear hE
  obtain ⟨A, hA⟩ : ∃ a, qc2 s.data.toList f = a := ⟨_, rfl⟩
  have hT : qd0 s.data.toList f = if A < s.data.toList.length then qj1 (s.data.toList.drop A) else z7 0 := by rw [← hA]; rfl
  have hZ : qg3 s.data.toList f = if A < s.data.toList.length then A + qv7 (s.data.toList.drop A) else s.data.toList.length := by rw [← hA]; rfl
  obtain ⟨T, hT'⟩ : ∃ t, qd0 s.data.toList f = t := ⟨_, rfl⟩
  obtain ⟨Z, hZ'⟩ : ∃ t, qg3 s.data.toList f = t := ⟨_, rfl⟩
  rw [hT'] at hT
  rw [hZ'] at hZ
  rw [hA] at hle
  rw [hA, hT', hZ']
  have HA : Hid (A = f + x8 spU (s.data.toList.drop f)) := v6 (by rw [← hA]; rfl)
  have HT := v6 hT
  have HZ := v6 hZ
  clear hT hZ hT' hZ' hA
  go_enter Tryz.func84, Tryz.ntmps84
  go_wp2_with fail
  go_loop [6] (fun i => ∃ k : Nat, f ≤ k ∧ k ≤ s.size ∧ i = .int .i64 k ∧ Hid (A = x8 spU (s.data.toList.drop k) + k)) (fun i => s.size - (intOf i).toNat)
  case atStart => exact ⟨f, Nat.le_refl _, hf, rfl, v6 (by rw [Nat.add_comm]; exact q9 HA)⟩
  case round =>
    obtain ⟨k, hk1, hk, rfl, hr⟩ := hrel
    have more : ∀ hlt : k < s.size, spU s[k] = true → Hid (A = x8 spU (s.data.toList.drop (k + 1)) + (k + 1)) := fun hlt hg => v6 (by
      have := qj0 spU s.data.toList k (by omega) hg; rw [q9 hr, this]; omega)
    have done1 : ∀ hlt : k < s.size, spU s[k] = false → A = k := fun hlt hg => by
      have := qp3 spU s.data.toList k (by omega) hg; rw [q9 hr, this]; omega
    have done2 : ¬ k < s.size → A = k := fun hlt => by
      have := qq5 spU s.data.toList k (by omega); rw [q9 hr, this]; omega
    clear hr
    by_cases hlt : k < s.size
    · cases hg : spU s[k] with
      | true =>
        have HR := more hlt hg
        have Hg := v6 hg
        clear more done1 done2 hg
        go_wp2_with (go_at_call 130; refine (vm4 _ _).mono ?_; rintro e w' ⟨rfl, rfl⟩; rw [show spB (s[k].toNat : Int) = true from q9 Hg])
        go_round
        case rel => exact ⟨k + 1, by omega, by omega, by go_num, HR⟩
        case measure => simp [intOf]; omega
      | false =>
        have hA := done1 hlt hg
        have Hg := v6 hg
        clear more done1 done2 hg
        subst hA
        rw [if_pos (by omega)] at HT HZ
        have hx : (s.extract A s.size).data.toList = s.data.toList.drop A := Lib.extract_to_end s A
        have hfl := jd0 (s.data.toList.drop A) (by rw [List.length_drop]; omega)
        rw [List.length_drop, hl] at hfl
        have HX := v6 hx
        clear hx
        go_wp2_with (first | (go_at_call 130; refine (vm4 _ _).mono ?_; rintro e w' ⟨rfl, rfl⟩; rw [show spB (s[A].toNat : Int) = false from q9 Hg]) | (go_at_call 131; refine (first_any _ (by simp; omega) (by simp; omega) _ (q9 HE _)).mono ?_; rintro e w' ⟨rfl, hb⟩; obtain ⟨hc, hfz⟩ := j6 hb; have hz : w.heap.size < w'.heap.size := (by have := hb.size; simp at this; omega); rw [q9 HX]; simp only [tkV]))
        refine bodyPost_ret (by simp [results, Tryz.results84, go_sem, hc, hz]; rfl) rfl ⟨?_, ?_⟩
        all_goals go_light
        · rw [q9 HT, q9 HZ]; exact jm4 rfl (by omega)
        · exact (((((qc4 hb).setCell (by simp) _).setCell (by simp) _).setCell (by simp) _).setCell (by simp) _).alloc (by simp; omega) _
    · have hA := done2 hlt
      clear more done1 done2
      subst hA
      rw [if_neg (by omega)] at HT HZ
      go_wp2_with fail
      refine bodyPost_ret (by simp [results, Tryz.results84, go_sem]; rfl) rfl ⟨?_, ?_⟩
      all_goals go_light
      · rw [q9 HT, q9 HZ]; exact jm4 (t := z7 0) (by omega) (by omega)
      · exact (Below.refl _ _).alloc (Nat.le_refl _) _
def nameB (l : List UInt8) : Bool := decide (0 < qa3 l) && decide (qa3 l = l.length) && (vn1 l == 2)
theorem jg9 {l : List UInt8} (h : qa3 l = l.length) : ∀ c ∈ l, c.toNat < 128 := by
  have := vr2 l
  rw [h, List.take_length] at this; exact this
set_option maxHeartbeats 400000 in
theorem jz2 (s : ByteArray) (hs : s.size ≤ 140737488355328) (w : World) :
    Calls Tryz.prog 97 #[.string s] w fun e w' => e = .returned (.bool (nameB s.data.toList)) ∧ Below w.heap.size w w' := by
  have hm : s.size ≤ maxLen := by unfold maxLen; omega
  have hl := qb3 s
  have hn : nameB s.data.toList = (decide (0 < qa3 s.data.toList) && decide (qa3 s.data.toList = s.size) && (vn1 s.data.toList == 2)) := by unfold nameB; rw [hl]
  have ha := fun h => jg9 (l := s.data.toList) h
  rw [hn]
  generalize hz : qa3 s.data.toList = z at *
  generalize hk : vn1 s.data.toList = k at *
  have HZ := v6 hz
  have HK := v6 hk
  clear hz hk hn
  by_cases h0 : 0 < z
  · by_cases h1 : z = s.size
    · have HA := v6 (ha (by omega))
      have h1' : ((z : Int) == (s.size : Int)) = true := beq_iff_eq.2 (by omega)
      have H1 := v6 h1
      clear ha h1
      go_enter Tryz.func97, Tryz.ntmps97
      go_wp2_with (first | (go_at_call 143; refine (qm7 _ hm _).mono ?_; rintro e w' ⟨rfl, rfl⟩; rw [q9 HZ]) | (go_at_call 144; refine (qx1 _ hs (q9 HA) _).mono ?_; rintro e w' ⟨rfl, hb⟩; rw [q9 HK]))
      all_goals (go_ret; exact ⟨qf0 (by have := q9 H1; simp_all), by assumption⟩)
    · have h1' : ((z : Int) == (s.size : Int)) = false := beq_eq_false_iff_ne.2 (by omega)
      have H1 := v6 h1
      clear ha h1
      go_enter Tryz.func97, Tryz.ntmps97
      go_wp2_with (first | (go_at_call 143; refine (qm7 _ hm _).mono ?_; rintro e w' ⟨rfl, rfl⟩; rw [q9 HZ]))
      go_ret
      exact ⟨qf0 (by have := q9 H1; simp [this]), Below.refl _ _⟩
  · clear ha
    go_enter Tryz.func97, Tryz.ntmps97
    go_wp2_with (first | (go_at_call 143; refine (qm7 _ hm _).mono ?_; rintro e w' ⟨rfl, rfl⟩; rw [q9 HZ]))
    go_ret
    exact ⟨qf0 (by simp; omega), Below.refl _ _⟩
end
end Go.Proofs.YtfkcaldjphakpabGreatDoor
