/- Contracts of core's quoted, sign, spellEscape. What is read of tokens is read of them too where a closing parenthesis follows, some things open more, or it is too deep. The tokens of a text behind which another one stands. The escapes and the texts of what is read are short. -/
import Derived.Test.YtfkcaldjphakpabGreatDoorT16
import Derived.Test.YtfkcaldjphakpabGreatDoorT21
import Derived.Test.YtfkcaldjphakpabGreatDoorShelf2
import Derived.Test.YtfkcaldjphakpabGreatDoorT15
import Derived.Test.YtfkcaldjphakpabGreatDoorT03
namespace Go.Proofs.YtfkcaldjphakpabGreatDoor
open Go.RowKit
section
theorem ja3 : ∀ s : List UInt8, Lib.replaceK [39] [39, 39] (Lib.count s [39]) s = jy8 s := by
  intro s
  induction s with
  | nil => rfl
  | cons b l ih =>
    rw [jy8]
    by_cases hb : b = 39
    · subst hb
      rw [Lib.count_cons_eq, Nat.add_comm, Lib.replaceK_hit _ _ _ _ 0 (by rfl), if_pos (by rfl)]
      show [] ++ [39, 39] ++ Lib.replaceK [39] [39, 39] (Lib.count l [39]) l = _
      rw [ih]
      rfl
    · rw [Lib.count_cons_ne b 39 l hb, if_neg (by simpa using hb)]
      cases hc : Lib.count l [39] with
      | zero =>
        rw [hc] at ih
        show b :: l = b :: jy8 l
        rw [← ih]
        rfl
      | succ k =>
        obtain ⟨i, hi⟩ := Lib.index_of_count (s := l) (old := [39]) (by rw [hc]; omega)
        have hi' : Lib.index (b :: l) [39] = ((i + 1 : Nat) : Int) := by
          rw [Lib.index]
          have h1 : ([39] : List UInt8).isPrefixOf (b :: l) = false := by
            show ((39 : UInt8) == b && true) = false
            rw [Bool.and_true]
            apply beq_eq_false_iff_ne.2
            intro e; exact hb e.symm
          rw [h1, if_neg (by decide), if_neg (by rw [hi]; intro e; have := eq_of_beq e; omega), hi]
          push_cast
          rfl
        rw [hc, Lib.replaceK_hit _ _ _ _ i hi] at ih
        rw [Lib.replaceK_hit _ _ _ _ (i + 1) hi', ← ih]
        rfl
theorem vn9 (s : List UInt8) : Lib.replaceAll s [39] [39, 39] = jy8 s := by
  unfold Lib.replaceAll Lib.replace
  rw [if_neg (by decide)]
  unfold Lib.replaceNum
  rw [if_pos (.inl (by decide))]
  exact ja3 s
theorem qg6 (s t : ByteArray) (m n : Nat) (hs : s.size ≤ m) (ht : t.size ≤ n) (h : m + n ≤ 9000000000) : ∃ r, r = s ++ t ∧ r.size ≤ m + n ∧ ∀ w : World, (Op.stringOp .add s t).run Tryz.prog w = .ok (.string r) w :=
  ⟨s ++ t, rfl, by rw [ByteArray.size_append]; omega, fun w => run_string_add_sum (P := Tryz.prog) (w := w) _ _ (by omega)⟩
theorem vj7 (s : List UInt8) : (qL s).length ≤ 2 * s.length + 2 := by
  have := jk6 s
  unfold qL
  simp
  omega
set_option maxHeartbeats 400000 in
theorem qz1 (s : List UInt8) (hs : s.length ≤ 1000000000) (w : World) (hL : LibOk w) :
    Calls Tryz.prog 190 #[.string (BS s)] w fun e w' => e = .returned (.string (BS (qL s))) ∧ Below w.heap.size w w' := by
  obtain ⟨_, m, hm⟩ := hL.max
  have hc := Lib.countB_le ⟨#[39]⟩ (by decide) _ (BS s) (Nat.le_refl _)
  rw [qc0] at hc
  have hrep := Tryz.strings_ReplaceAll (BS s) ⟨#[39]⟩ ⟨#[39, 39]⟩ m w (by rw [qc0]; omega) hm (by decide) (by rw [qc0]; show _ + _ * 2 ≤ _; omega)
  rw [show Lib.replaceAll (BS s).data.toList (⟨#[39]⟩ : ByteArray).data.toList (⟨#[39, 39]⟩ : ByteArray).data.toList = jy8 s from vn9 s] at hrep
  have HREP : Hid (Calls Tryz.prog 221 #[.string (BS s), .string ⟨#[39]⟩, .string ⟨#[39, 39]⟩] w fun e w' => e = .returned (.string (BS (jy8 s))) ∧ Below w.heap.size w w') := v6 hrep
  have hd := jk6 s
  obtain ⟨R1, e1, z1, a1⟩ := qg6 ⟨#[39]⟩ (BS (jy8 s)) 1 2000000000 (Nat.le_refl _) (by rw [qc0]; omega) (by decide)
  obtain ⟨R2, e2, z2, a2⟩ := qg6 R1 ⟨#[39]⟩ 2000000001 1 z1 (Nat.le_refl _) (by decide)
  have HR : Hid (R2 = BS (qL s)) := v6 (by
    rw [e2, e1, show (⟨#[39]⟩ : ByteArray) = BS [39] from rfl, qj7, qj7]
    rfl)
  clear hrep hm hL hc hs hd e1 z1 e2 z2
  go_enter Tryz.func190, Tryz.ntmps190
  go_wp2_with (go_at_call 221; refine (q9 HREP).mono ?_; rintro e w1 ⟨rfl, hb1⟩)
  go_ret
  exact ⟨by rw [q9 HR]; rfl, hb1⟩
theorem vb9 (op : Int) : (qk3 op).length ≤ 3 := by
  unfold qk3
  repeat' split
  all_goals decide
set_option maxHeartbeats 400000 in
theorem csign_any (op : Int) (w : World) :
    Calls Tryz.prog 192 #[.int .i64 op] w fun e w' => e = .returned (.string (BS (qk3 op))) ∧ w' = w := by
  go_enter Tryz.func192, Tryz.ntmps192
  go_wp2_with fail
  all_goals (go_ret; refine ⟨?_, rfl⟩; go_light; simp only [qk3, *, if_true, Bool.false_eq_true, if_false]; rfl)
set_option maxHeartbeats 400000 in
theorem qw8 (op : Int) (w : World) :
    Calls Tryz.prog 138 #[.int .i64 op] w fun e w' => e = .returned (.bool (vt1 op)) ∧ w' = w := by
  go_enter Tryz.func138, Tryz.ntmps138
  go_wp2_with fail
  all_goals (go_ret; refine ⟨?_, rfl⟩; go_light; simp only [vt1, *, Bool.or_true, Bool.true_or, Bool.or_false]; rfl)
set_option maxHeartbeats 400000 in
theorem vm0 (b : Nat) (s : List UInt8) (hs : s.length ≤ 1000000000) (w : World) (hL : LibOk w) (hc : w.cell? ⟨b, 5, none⟩ = some (.string (BS s))) :
    Calls Tryz.prog 191 #[at0 b] w fun e w' => e = .returned (.string (BS (escT s))) ∧ Below w.heap.size w w' := by
  unfold at0 escT
  cases he : s.isEmpty with
  | true =>
    have h1 : (BS s).toList.isEmpty = true := by rw [qm0]; exact he
    rw [if_pos rfl]
    clear hL
    go_enter Tryz.func191, Tryz.ntmps191
    go_wp2_with fail
    go_ret
    exact ⟨rfl, Below.refl _ _⟩
  | false =>
    have h1 : (BS s).toList.isEmpty = false := by rw [qm0]; exact he
    rw [if_neg (by decide)]
    have HQ := v6 (qz1 s hs w hL)
    have hq := vj7 s
    obtain ⟨R1, e1, z1, a1⟩ := qg6 ⟨#[32, 69, 83, 67, 65, 80, 69, 32]⟩ (BS (qL s)) 8 2000000002 (Nat.le_refl _) (by rw [qc0]; omega) (by decide)
    have HR : Hid (R1 = BS ([32, 69, 83, 67, 65, 80, 69, 32] ++ qL s)) := v6 (by rw [e1, show (⟨#[32, 69, 83, 67, 65, 80, 69, 32]⟩ : ByteArray) = BS [32, 69, 83, 67, 65, 80, 69, 32] from rfl, qj7])
    clear hL hs hq e1 z1 he
    go_enter Tryz.func191, Tryz.ntmps191
    go_wp2_with (go_at_call 190; refine (q9 HQ).mono ?_; rintro e w1 ⟨rfl, hb1⟩)
    go_ret
    exact ⟨by rw [q9 HR]; rfl, hb1⟩
end
section
def Clo (X : List Tk) : Prop := (hd X).kind = 27
def sh (X : List Tk) (k : Nat) (ts : TS) : TS := ⟨ts.toks ++ X, ts.op + k⟩
def ExtR (X : List Tk) (k o : Nat) (r r' : TRes) : Prop := ∀ t ts, r = .ok t ts → ts.op = o ∧ (r' = .err 3 ∨ r' = .ok t (sh X k ts))
def Ext (X : List Tk) (k o : Nat) (f f' : TS → TRes) : Prop := ∀ ts, ts.op = o → ExtR X k o (f ts) (f' (sh X k ts))
theorem ExtR.err {X : List Tk} {k o : Nat} {en : Int} {r : TRes} : ExtR X k o (.err en) r := by
  intro t ts h; cases h
theorem ExtR.deep {X : List Tk} {k o : Nat} {r : TRes} (h : ∀ t ts, r = .ok t ts → ts.op = o) : ExtR X k o r (.err 3) := fun t ts he => ⟨h t ts he, .inl rfl⟩
theorem ExtR.ok {X : List Tk} {k o : Nat} {t : Ast} {ts : TS} (h : ts.op = o) : ExtR X k o (.ok t ts) (.ok t (sh X k ts)) := by
  intro t' ts' he
  injection he with h1 h2
  subst h1 h2
  exact ⟨h, .inr rfl⟩
theorem ExtR.cases {X : List Tk} {k o : Nat} {r r' : TRes} (h : ExtR X k o r r') : (∃ en, r = .err en) ∨ (∃ t ts, r = .ok t ts ∧ ts.op = o ∧ r' = .err 3) ∨ ∃ t ts, r = .ok t ts ∧ ts.op = o ∧ r' = .ok t (sh X k ts) := by
  cases hr : r with
  | err en => exact .inl ⟨en, rfl⟩
  | ok t ts =>
    obtain ⟨h1, h2 | h2⟩ := h t ts hr
    · exact .inr (.inl ⟨t, ts, rfl, h1, h2⟩)
    · exact .inr (.inr ⟨t, ts, rfl, h1, h2⟩)
theorem j7 {ts : TS} {c : Int} (hc : c ≠ 0) (h : ts.tk.kind = c) : ts.toks ≠ [] := by
  intro e
  unfold TS.tk at h
  rw [e] at h
  exact hc h.symm
theorem jx1 {X : List Tk} {k : Nat} {ts : TS} (h : ts.toks ≠ []) : (sh X k ts).tk = ts.tk := by
  unfold sh TS.tk
  cases ht : ts.toks with
  | nil => exact absurd ht h
  | cons a r => rfl
theorem vk2 {X : List Tk} {k : Nat} {ts : TS} (h : ts.toks ≠ []) : (sh X k ts).next = sh X k ts.next := by
  unfold sh TS.next
  cases ht : ts.toks with
  | nil => exact absurd ht h
  | cons a r => rfl
theorem sh_in {X : List Tk} {k : Nat} {ts : TS} (h : ts.toks ≠ []) : tIn (sh X k ts) = sh X k (tIn ts) := by
  unfold sh tIn
  cases ht : ts.toks with
  | nil => exact absurd ht h
  | cons a r =>
    show TS.mk (r ++ X) (ts.op + k + 1) = TS.mk (r ++ X) (ts.op + 1 + k)
    rw [Nat.add_right_comm]
theorem sh_end {X : List Tk} (hX : Clo X) {k : Nat} {ts : TS} (h : ts.toks = []) : (sh X k ts).tk.kind = 27 := by
  unfold sh TS.tk
  rw [h]
  exact hX
theorem qa5 {X : List Tk} (hX : Clo X) {k : Nat} {ts : TS} {c : Int} (h0 : c ≠ 0) (h27 : c ≠ 27) : (sh X k ts).tk.kind = c ↔ ts.tk.kind = c := by
  by_cases h : ts.toks = []
  · have h1 := sh_end hX (k := k) h
    have h2 : ts.tk.kind = 0 := by unfold TS.tk; rw [h]; rfl
    rw [h1, h2]
    exact ⟨fun e => absurd e.symm h27, fun e => absurd e.symm h0⟩
  · rw [jx1 h]
theorem qf3 {X : List Tk} {k : Nat} {ts : TS} {c : Int} (hc : c ≠ 0) (h : ts.tk.kind = c) : (sh X k ts).tk = ts.tk ∧ (sh X k ts).next = sh X k ts.next := ⟨jx1 (j7 hc h), vk2 (j7 hc h)⟩
theorem ji6 {X : List Tk} (hX : Clo X) {k : Nat} {ts : TS} {ks : List Int} (h0 : ks.contains 0 = false) (h27 : ks.contains 27 = false) : ks.contains (sh X k ts).tk.kind = ks.contains ts.tk.kind := by
  by_cases h : ts.toks = []
  · have h1 := sh_end hX (k := k) h
    have h2 : ts.tk.kind = 0 := by unfold TS.tk; rw [h]; rfl
    rw [h1, h2, h0, h27]
  · rw [jx1 h]
section
variable {X : List Tk} {k o : Nat} {f f' : TS → TRes}
theorem Ext.join (h : Ext X k o f f') (ts : TS) (l : Ast) (ho : ts.op = o) (hne : ts.toks ≠ []) : ExtR X k o (qw6 f ts l) (qw6 f' (sh X k ts) l) := by
  unfold qw6
  rw [vk2 hne, jx1 hne]
  rcases (h ts.next ho).cases with ⟨en, e⟩ | ⟨t, ts', e, eo, e'⟩ | ⟨t, ts', e, eo, e'⟩
  · rw [e]; exact ExtR.err
  · rw [e, e']; exact ExtR.deep (fun t ts h => by injection h with _ h2; rw [← h2]; exact eo)
  · rw [e, e']; exact ExtR.ok eo
theorem Ext.loop (hX : Clo X) (h : Ext X k o f f') (hs : Shr f) (ks : List Int) (h0 : ks.contains 0 = false) (h27 : ks.contains 27 = false) : ∀ n n' l ts, ts.op = o → ts.toks.length < n → ts.toks.length + X.length < n' → ExtR X k o (qs2 f ks n l ts) (qs2 f' ks n' l (sh X k ts)) := by
  intro n
  induction n with
  | zero => intro n' l ts _ h1; omega
  | succ n ih =>
    intro n' l ts ho h1 h2
    obtain ⟨m, rfl⟩ : ∃ m, n' = m + 1 := ⟨n' - 1, by omega⟩
    rw [qs2, qs2, ji6 hX h0 h27]
    by_cases hc : ks.contains ts.tk.kind = true
    · have hne : ts.toks ≠ [] := by
        intro e
        have : ts.tk.kind = 0 := by unfold TS.tk; rw [e]; rfl
        rw [this, h0] at hc
        cases hc
      rw [if_pos hc, if_pos hc]
      have hlt : ts.next.toks.length < ts.toks.length := by
        cases ht : ts.toks with
        | nil => exact absurd ht hne
        | cons a r => show (ts.toks.tail).length < _; rw [ht]; simp
      rcases (h.join ts l ho hne).cases with ⟨en, e⟩ | ⟨t, ts', e, eo, e'⟩ | ⟨t, ts', e, eo, e'⟩
      · rw [e]; exact ExtR.err
      · rw [e, e']
        have hl := hs.join _ _ _ _ e
        refine ExtR.deep (fun t2 ts2 he => ?_)
        obtain ⟨hh, _⟩ := ih (ts'.toks.length + X.length + 1) t ts' eo (by omega) (by omega) t2 ts2 he
        exact hh
      · rw [e, e']
        have hl := hs.join _ _ _ _ e
        exact ih m t ts' eo (by omega) (by omega)
    · rw [if_neg hc, if_neg hc]
      exact ExtR.ok ho
theorem Ext.row (hX : Clo X) (h : Ext X k o f f') (hs : Shr f) (ks : List Int) (h0 : ks.contains 0 = false) (h27 : ks.contains 27 = false) : Ext X k o (vp1 f ks) (vp1 f' ks) := by
  intro ts ho
  unfold vp1
  rcases (h ts ho).cases with ⟨en, e⟩ | ⟨t, ts', e, eo, e'⟩ | ⟨t, ts', e, eo, e'⟩
  · rw [e]; exact ExtR.err
  · rw [e, e']
    refine ExtR.deep (fun t2 ts2 he => ?_)
    exact (h.loop hX hs ks h0 h27 _ (ts'.toks.length + X.length + 1) t ts' eo (Nat.lt_succ_self _) (Nat.lt_succ_self _) t2 ts2 he).1
  · rw [e, e']
    exact h.loop hX hs ks h0 h27 _ _ t ts' eo (Nat.lt_succ_self _) (by show _ < (ts'.toks ++ X).length + 1; rw [List.length_append]; omega)
theorem Ext.sign (hk : o + k ≤ 12) (h : o + k < 12 → Ext X k (o + 1) f f') (n : Int) (ts : TS) (ho : ts.op = o) (hne : ts.toks ≠ []) : ExtR X k o (qw7 f n ts) (qw7 f' n (sh X k ts)) := by
  unfold qw7
  show ExtR X k o _ (if ts.op + k = 12 then _ else _)
  by_cases h12 : ts.op + k = 12
  · rw [if_pos h12]
    refine ExtR.deep (fun t2 ts2 he => ?_)
    split at he
    · cases he
    · split at he
      · injection he with _ h2; rw [← h2]; exact ho
      · cases he
  · rw [if_neg h12, if_neg (by omega), sh_in hne]
    rcases (h (by omega) (tIn ts) (by show ts.op + 1 = _; omega)).cases with ⟨en, e⟩ | ⟨t, ts', e, eo, e'⟩ | ⟨t, ts', e, eo, e'⟩
    · rw [e]; exact ExtR.err
    · rw [e, e']; exact ExtR.deep (fun t ts h => by injection h with _ h2; rw [← h2]; exact ho)
    · rw [e, e']; exact ExtR.ok ho
theorem Ext.group (hk : o + k ≤ 12) (h : o + k < 12 → Ext X k (o + 1) f f') (ts : TS) (ho : ts.op = o) (hne : ts.toks ≠ []) : ExtR X k o (qq7 f ts) (qq7 f' (sh X k ts)) := by
  unfold qq7
  show ExtR X k o _ (if ts.op + k = 12 then _ else _)
  by_cases h12 : ts.op + k = 12
  · rw [if_pos h12]
    refine ExtR.deep (fun t2 ts2 he => ?_)
    split at he
    · cases he
    · split at he
      · split at he
        · injection he with _ h2; rw [← h2]; exact ho
        · cases he
      · cases he
  · rw [if_neg h12, if_neg (by omega), sh_in hne]
    rcases (h (by omega) (tIn ts) (by show ts.op + 1 = _; omega)).cases with ⟨en, e⟩ | ⟨t, ts', e, eo, e'⟩ | ⟨t, ts', e, eo, e'⟩
    · rw [e]; exact ExtR.err
    · rw [e, e']
      refine ExtR.deep (fun t2 ts2 he => ?_)
      simp only at he
      split at he
      · injection he with _ h2; rw [← h2]; exact ho
      · cases he
    · rw [e, e']
      show ExtR X k o (if ts'.tk.kind = 27 then _ else _) (if (sh X k ts').tk.kind = 27 then _ else _)
      by_cases h27 : ts'.tk.kind = 27
      · have hne' := j7 (by decide) h27
        rw [if_pos h27, if_pos (by rw [jx1 hne']; exact h27)]
        have : (⟨(sh X k ts').toks.tail, (sh X k ts).op⟩ : TS) = sh X k ⟨ts'.toks.tail, ts.op⟩ := by
          unfold sh
          cases ht : ts'.toks with
          | nil => exact absurd ht hne'
          | cons a r => rfl
        rw [this]
        exact ExtR.ok ho
      · rw [if_neg h27]; exact ExtR.err
theorem Ext.signed (hX : Clo X) {g g' : TS → TRes} (hk : o + k ≤ 12) (hS : o + k < 12 → Ext X k (o + 1) f f') (hE : o + k < 12 → Ext X k (o + 1) g g') : Ext X k o (qg8 f g) (qg8 f' g') := by
  intro ts ho
  unfold qg8
  by_cases h22 : ts.tk.kind = 22
  · rw [if_pos h22, if_pos ((qa5 hX (by decide) (by decide)).2 h22)]
    exact Ext.sign hk hS 14 ts ho (j7 (by decide) h22)
  rw [if_neg h22, if_neg (fun e => h22 ((qa5 hX (by decide) (by decide)).1 e))]
  by_cases h23 : ts.tk.kind = 23
  · rw [if_pos h23, if_pos ((qa5 hX (by decide) (by decide)).2 h23)]
    exact Ext.sign hk hS 15 ts ho (j7 (by decide) h23)
  rw [if_neg h23, if_neg (fun e => h23 ((qa5 hX (by decide) (by decide)).1 e))]
  by_cases h26 : ts.tk.kind = 26
  · rw [if_pos h26, if_pos ((qa5 hX (by decide) (by decide)).2 h26)]
    exact Ext.group hk hE ts ho (j7 (by decide) h26)
  rw [if_neg h26, if_neg (fun e => h26 ((qa5 hX (by decide) (by decide)).1 e))]
  by_cases h2 : ts.tk.kind = 2
  · rw [if_pos h2, if_pos ((qa5 hX (by decide) (by decide)).2 h2), (qf3 (by decide) h2).1, (qf3 (by decide) h2).2]
    exact ExtR.ok ho
  rw [if_neg h2, if_neg (fun e => h2 ((qa5 hX (by decide) (by decide)).1 e))]
  by_cases h3 : ts.tk.kind = 3
  · rw [if_pos h3, if_pos ((qa5 hX (by decide) (by decide)).2 h3), (qf3 (by decide) h3).1, (qf3 (by decide) h3).2]
    exact ExtR.ok ho
  rw [if_neg h3, if_neg (fun e => h3 ((qa5 hX (by decide) (by decide)).1 e))]
  by_cases h4 : ts.tk.kind = 4
  · rw [if_pos h4, if_pos ((qa5 hX (by decide) (by decide)).2 h4), (qf3 (by decide) h4).1, (qf3 (by decide) h4).2]
    exact ExtR.ok ho
  rw [if_neg h4, if_neg (fun e => h4 ((qa5 hX (by decide) (by decide)).1 e))]
  by_cases h8 : ts.tk.kind = 8
  · rw [if_pos h8, if_pos ((qa5 hX (by decide) (by decide)).2 h8), (qf3 (by decide) h8).2]
    exact ExtR.ok ho
  rw [if_neg h8, if_neg (fun e => h8 ((qa5 hX (by decide) (by decide)).1 e))]
  by_cases h9 : ts.tk.kind = 9
  · rw [if_pos h9, if_pos ((qa5 hX (by decide) (by decide)).2 h9), (qf3 (by decide) h9).2]
    exact ExtR.ok ho
  rw [if_neg h9]
  exact ExtR.err
theorem js5 (hX : Clo X) (l : Ast) (ts : TS) (ho : ts.op = o) (hne : ts.toks ≠ []) : ExtR X k o (tIsNull l ts) (tIsNull l (sh X k ts)) := by
  unfold tIsNull
  rw [vk2 hne]
  by_cases h7 : ts.next.tk.kind = 7
  · rw [if_pos h7, if_pos ((qa5 hX (by decide) (by decide)).2 h7), (qf3 (by decide) h7).2]
    by_cases h15 : ts.next.next.tk.kind = 15
    · rw [if_pos h15, if_pos ((qa5 hX (by decide) (by decide)).2 h15), (qf3 (by decide) h15).2]
      exact ExtR.ok ho
    · rw [if_neg h15]; exact ExtR.err
  · rw [if_neg h7, if_neg (fun e => h7 ((qa5 hX (by decide) (by decide)).1 e))]
    by_cases h15 : ts.next.tk.kind = 15
    · rw [if_pos h15, if_pos ((qa5 hX (by decide) (by decide)).2 h15), (qf3 (by decide) h15).2]
      exact ExtR.ok ho
    · rw [if_neg h15]; exact ExtR.err
theorem Ext.between (hX : Clo X) (h : Ext X k o f f') (l : Ast) (ts : TS) (ho : ts.op = o) : ExtR X k o (qg1 f l ts) (qg1 f' l (sh X k ts)) := by
  unfold qg1
  by_cases h10 : ts.tk.kind = 10
  · rw [if_pos h10, if_pos ((qa5 hX (by decide) (by decide)).2 h10), (qf3 (by decide) h10).2]
    rcases (h ts.next ho).cases with ⟨en, e⟩ | ⟨t, ts', e, eo, e'⟩ | ⟨t, ts', e, eo, e'⟩
    · rw [e]; exact ExtR.err
    · rw [e, e']
      refine ExtR.deep (fun t2 ts2 he => ?_)
      simp only at he
      split at he
      · split at he
        · rename_i hf
          injection he with _ h2
          rw [← h2]
          exact (h ts'.next eo _ _ hf).1
        · cases he
      · cases he
    · rw [e, e']
      show ExtR X k o (if ts'.tk.kind = 5 then _ else _) (if (sh X k ts').tk.kind = 5 then _ else _)
      by_cases h5 : ts'.tk.kind = 5
      · rw [if_pos h5, if_pos ((qa5 hX (by decide) (by decide)).2 h5), (qf3 (by decide) h5).2]
        rcases (h ts'.next eo).cases with ⟨en, e⟩ | ⟨t, ts', e, eo, e'⟩ | ⟨t, ts', e, eo, e'⟩
        · rw [e]; exact ExtR.err
        · rw [e, e']; exact ExtR.deep (fun t ts h => by injection h with _ h2; rw [← h2]; exact eo)
        · rw [e, e']; exact ExtR.ok eo
      · rw [if_neg h5]; exact ExtR.err
  · rw [if_neg h10]; exact ExtR.err
theorem js4 (hX : Clo X) (l : Ast) : ∀ n n' xs ts, ts.op = o → ts.toks.length < n → ts.toks.length + X.length < n' → ExtR X k o (qf4 l n xs ts) (qf4 l n' xs (sh X k ts)) := by
  intro n
  induction n with
  | zero => intro n' xs ts _ h1; omega
  | succ n ih =>
    intro n' xs ts ho h1 h2
    obtain ⟨m, rfl⟩ : ∃ m, n' = m + 1 := ⟨n' - 1, by omega⟩
    rw [qf4, qf4]
    by_cases h28 : ts.tk.kind = 28
    · rw [if_pos h28, if_pos ((qa5 hX (by decide) (by decide)).2 h28), (qf3 (by decide) h28).2]
      have hne := j7 (by decide) h28
      have hlt : ts.next.toks.length < ts.toks.length := by
        cases ht : ts.toks with
        | nil => exact absurd ht hne
        | cons a r => show (ts.toks.tail).length < _; rw [ht]; simp
      by_cases h4 : ts.next.tk.kind = 4
      · rw [if_pos h4, if_pos ((qa5 hX (by decide) (by decide)).2 h4), (qf3 (by decide) h4).2, (qf3 (by decide) h4).1]
        have := x9 ts.next
        exact ih m _ ts.next.next ho (by omega) (by omega)
      · rw [if_neg h4]; exact ExtR.err
    · rw [if_neg h28, if_neg (fun e => h28 ((qa5 hX (by decide) (by decide)).1 e))]
      by_cases h27 : ts.tk.kind = 27
      · rw [if_pos h27, if_pos (by rw [(qf3 (by decide) h27).1]; exact h27), (qf3 (by decide) h27).2]
        exact ExtR.ok ho
      · rw [if_neg h27]; exact ExtR.err
theorem ext_in (hX : Clo X) (l : Ast) (ts : TS) (ho : ts.op = o) (hne : ts.toks ≠ []) : ExtR X k o (tInRes l ts) (tInRes l (sh X k ts)) := by
  unfold tInRes
  rw [vk2 hne]
  by_cases h26 : ts.next.tk.kind = 26
  · rw [if_pos h26, if_pos ((qa5 hX (by decide) (by decide)).2 h26), (qf3 (by decide) h26).2]
    by_cases h4 : ts.next.next.tk.kind = 4
    · rw [if_pos h4, if_pos ((qa5 hX (by decide) (by decide)).2 h4), (qf3 (by decide) h4).2, (qf3 (by decide) h4).1]
      have l1 := x9 ts
      have l2 := x9 ts.next
      have l3 := x9 ts.next.next
      have hl : (sh X k ts).toks.length = ts.toks.length + X.length := by show (ts.toks ++ X).length = _; rw [List.length_append]
      exact js4 hX l _ _ _ ts.next.next.next ho (by omega) (by rw [hl]; omega)
    · rw [if_neg h4]; exact ExtR.err
  · rw [if_neg h26]; exact ExtR.err
theorem ext_like (hX : Clo X) (l : Ast) (ts : TS) (ho : ts.op = o) (hne : ts.toks ≠ []) : ExtR X k o (tLike l ts) (tLike l (sh X k ts)) := by
  unfold tLike
  rw [vk2 hne]
  by_cases h4 : ts.next.tk.kind = 4
  · rw [if_pos h4, if_pos ((qa5 hX (by decide) (by decide)).2 h4), (qf3 (by decide) h4).2, (qf3 (by decide) h4).1]
    by_cases h13 : ts.next.next.tk.kind = 13
    · rw [if_pos h13, if_pos ((qa5 hX (by decide) (by decide)).2 h13), (qf3 (by decide) h13).2]
      by_cases g : ts.next.next.next.tk.kind = 4 ∧ ts.next.next.next.tk.str.length = 1 ∧ (qv4 ts.next.next.next.tk.str ts.next.tk.str).isSome = true
      · rw [if_pos g, (qf3 (by decide) g.1).1, if_pos g, (qf3 (by decide) g.1).2]
        exact ExtR.ok ho
      · rw [if_neg g]; exact ExtR.err
    · rw [if_neg h13, if_neg (fun e => h13 ((qa5 hX (by decide) (by decide)).1 e))]
      exact ExtR.ok ho
  · rw [if_neg h4]; exact ExtR.err
theorem Ext.keyword (hX : Clo X) (h : Ext X k o f f') (bare : Bool) (l : Ast) (ts : TS) (ho : ts.op = o) : ExtR X k o (qe7 f bare l ts) (qe7 f' bare l (sh X k ts)) := by
  unfold qe7
  by_cases h11 : ts.tk.kind = 11 ∧ bare = true
  · rw [if_pos h11, if_pos ⟨(qa5 hX (by decide) (by decide)).2 h11.1, h11.2⟩]
    exact ext_in hX l ts ho (j7 (by decide) h11.1)
  rw [if_neg h11, if_neg (show ¬ ((sh X k ts).tk.kind = 11 ∧ bare = true) from fun e => h11 ⟨(qa5 hX (by decide) (by decide)).1 e.1, e.2⟩)]
  by_cases h12 : ts.tk.kind = 12 ∧ bare = true
  · rw [if_pos h12, if_pos ⟨(qa5 hX (by decide) (by decide)).2 h12.1, h12.2⟩]
    exact ext_like hX l ts ho (j7 (by decide) h12.1)
  rw [if_neg h12, if_neg (show ¬ ((sh X k ts).tk.kind = 12 ∧ bare = true) from fun e => h12 ⟨(qa5 hX (by decide) (by decide)).1 e.1, e.2⟩)]
  exact h.between hX l ts ho
theorem Ext.tail (hX : Clo X) (h : Ext X k o f f') (bare : Bool) (l : Ast) (ts : TS) (ho : ts.op = o) : ExtR X k o (vc0 f bare l ts) (vc0 f' bare l (sh X k ts)) := by
  have hk : ∀ c : Int, c ≠ 0 → c ≠ 27 → ((sh X k ts).tk.kind = c ↔ ts.tk.kind = c) := fun c a b => qa5 hX a b
  have h6 : ((sh X k ts).tk.kind = 16 ∨ (sh X k ts).tk.kind = 17 ∨ (sh X k ts).tk.kind = 18 ∨ (sh X k ts).tk.kind = 19 ∨ (sh X k ts).tk.kind = 20 ∨ (sh X k ts).tk.kind = 21) ↔ (ts.tk.kind = 16 ∨ ts.tk.kind = 17 ∨ ts.tk.kind = 18 ∨ ts.tk.kind = 19 ∨ ts.tk.kind = 20 ∨ ts.tk.kind = 21) := by
    rw [hk 16 (by decide) (by decide), hk 17 (by decide) (by decide), hk 18 (by decide) (by decide), hk 19 (by decide) (by decide), hk 20 (by decide) (by decide), hk 21 (by decide) (by decide)]
  have h3 : ((sh X k ts).tk.kind = 10 ∨ (sh X k ts).tk.kind = 11 ∨ (sh X k ts).tk.kind = 12) ↔ (ts.tk.kind = 10 ∨ ts.tk.kind = 11 ∨ ts.tk.kind = 12) := by
    rw [hk 10 (by decide) (by decide), hk 11 (by decide) (by decide), hk 12 (by decide) (by decide)]
  unfold vc0
  by_cases h16 : ts.tk.kind = 16 ∨ ts.tk.kind = 17 ∨ ts.tk.kind = 18 ∨ ts.tk.kind = 19 ∨ ts.tk.kind = 20 ∨ ts.tk.kind = 21
  · rw [if_pos h16, if_pos (h6.2 h16)]
    refine h.join ts l ho ?_
    rcases h16 with e | e | e | e | e | e <;> exact j7 (by decide) e
  rw [if_neg h16, if_neg (fun e => h16 (h6.1 e))]
  by_cases h14 : ts.tk.kind = 14
  · rw [if_pos h14, if_pos ((hk 14 (by decide) (by decide)).2 h14)]
    cases bare
    · exact ExtR.ok ho
    · exact js5 hX l ts ho (j7 (by decide) h14)
  rw [if_neg h14, if_neg (fun e => h14 ((hk 14 (by decide) (by decide)).1 e))]
  by_cases h7 : ts.tk.kind = 7
  · rw [if_pos h7, if_pos ((hk 7 (by decide) (by decide)).2 h7), (qf3 (by decide) h7).2]
    rcases (h.keyword hX bare l ts.next ho).cases with ⟨en, e⟩ | ⟨t, ts', e, eo, e'⟩ | ⟨t, ts', e, eo, e'⟩
    · rw [e]; exact ExtR.err
    · rw [e, e']; exact ExtR.deep (fun t ts h => by injection h with _ h2; rw [← h2]; exact eo)
    · rw [e, e']; exact ExtR.ok eo
  rw [if_neg h7, if_neg (fun e => h7 ((hk 7 (by decide) (by decide)).1 e))]
  by_cases h10 : ts.tk.kind = 10 ∨ ts.tk.kind = 11 ∨ ts.tk.kind = 12
  · rw [if_pos h10, if_pos (h3.2 h10)]; exact h.keyword hX bare l ts ho
  · rw [if_neg h10, if_neg (fun e => h10 (h3.1 e))]; exact ExtR.ok ho
theorem Ext.test (hX : Clo X) (h : Ext X k o f f') (hf : ∀ ts t ts', f ts = .ok t ts' → ts.toks ≠ []) : Ext X k o (qz8 f) (qz8 f') := by
  intro ts ho
  unfold qz8
  rcases (h ts ho).cases with ⟨en, e⟩ | ⟨t, ts', e, eo, e'⟩ | ⟨t, ts', e, eo, e'⟩
  · rw [e]; exact ExtR.err
  · rw [e, e']
    refine ExtR.deep (fun t2 ts2 he => ?_)
    exact (h.tail hX _ t ts' eo t2 ts2 he).1
  · rw [e, e', jx1 (hf _ _ _ e)]
    exact h.tail hX _ t ts' eo
theorem Ext.denied (hX : Clo X) {g g' : TS → TRes} (hk : o + k ≤ 12) (hD : o + k < 12 → Ext X k (o + 1) f f') (hT : Ext X k o g g') : Ext X k o (qi8 f g) (qi8 f' g') := by
  intro ts ho
  unfold qi8
  by_cases h7 : ts.tk.kind = 7
  · rw [if_pos h7, if_pos ((qa5 hX (by decide) (by decide)).2 h7)]
    exact Ext.sign hk hD 5 ts ho (j7 (by decide) h7)
  · rw [if_neg h7, if_neg (fun e => h7 ((qa5 hX (by decide) (by decide)).1 e))]
    exact hT ts ho
end
def Some' (f : TS → TRes) : Prop := ∀ ts t ts', f ts = .ok t ts' → ts.toks ≠ []
theorem ji7 (f g : TS → TRes) : Some' (qg8 f g) := by
  intro ts t ts' he e
  unfold qg8 at he
  have h0 : ts.tk.kind = 0 := by unfold TS.tk; rw [e]; rfl
  rw [h0] at he
  cases he
theorem Some'.row {f : TS → TRes} (h : Some' f) (ks : List Int) : Some' (vp1 f ks) := by
  intro ts t ts' he
  unfold vp1 at he
  split at he
  · rename_i hf; exact h _ _ _ hf
  · cases he
structure Ext3 (X : List Tk) (k o : Nat) (L L' : T3) : Prop where
  S : Ext X k o L.S L'.S
  D : Ext X k o L.D L'.D
  E : Ext X k o L.E L'.E
structure Shr3 (L : T3) : Prop where
  S : Shr L.S
  D : Shr L.D
  E : Shr L.E
theorem ext_up {X : List Tk} (hX : Clo X) {k o : Nat} (hk : o + k ≤ 12) {L L' : T3} (hs : Shr3 L) (h : o + k < 12 → Ext3 X k (o + 1) L L') : Ext3 X k o (tUp L) (tUp L') := by
  have hS := Ext.signed hX hk (fun e => (h e).S) (fun e => (h e).E)
  have zS := Shr.signed hs.S hs.E
  have hP := hS.row hX zS [24, 25] rfl rfl
  have zP := zS.row [24, 25]
  have hU := hP.row hX zP [22, 23] rfl rfl
  have zU := zP.row [22, 23]
  have hT := hU.test hX (((ji7 _ _).row _).row _)
  have zT := zU.test
  have hD := Ext.denied hX hk (fun e => (h e).D) hT
  have zD := Shr.denied hs.D zT
  have hB := hD.row hX zD [5] rfl rfl
  have zB := zD.row [5]
  exact ⟨hS, hD, hB.row hX zB [6] rfl rfl⟩
theorem shr_lvl (d : Nat) : Shr3 (tLvl d) := ⟨(vk5 ⟨#[]⟩ d).s', (vk5 ⟨#[]⟩ d).d', (vk5 ⟨#[]⟩ d).e'⟩
theorem lvl_up (d : Nat) : ∃ L, tLvl d = tUp L ∧ Shr3 L := by
  cases d with
  | zero => exact ⟨_, rfl, ⟨(fun _ _ _ h => by cases h), (fun _ _ _ h => by cases h), (fun _ _ _ h => by cases h)⟩⟩
  | succ d => exact ⟨_, rfl, shr_lvl d⟩
theorem ext_lvl {X : List Tk} (hX : Clo X) (k : Nat) : ∀ d o, o + k + d = 12 → Ext3 X k o (tLvl (d + k)) (tLvl d) := by
  intro d
  induction d with
  | zero =>
    intro o h
    obtain ⟨L, e, z⟩ := lvl_up (0 + k)
    rw [e]
    exact ext_up hX (by omega) z (fun e => absurd e (by omega))
  | succ d ih =>
    intro o h
    rw [show d + 1 + k = (d + k) + 1 by omega]
    exact ext_up hX (by omega) (shr_lvl _) (fun e => ih (o + 1) (by omega))
end
section
structure Stop (d : UInt8) : Prop where
  goe : vy6 d = false
  dig : qx9 d = false
  quo : (d == 39) = false
  eq : (d == 61) = false
  gt : (d == 62) = false
theorem ite_ne {c : Prop} [Decidable c] {a b : Int} (ha : a ≠ 0) (hb : b ≠ 0) : (if c then a else b) ≠ 0 := by
  by_cases h : c
  · rw [if_pos h]; exact ha
  · rw [if_neg h]; exact hb
theorem kwK_ne (l : List UInt8) : kwK l ≠ 0 := by
  unfold kwK
  repeat refine ite_ne (by decide) ?_
  decide
theorem markK_ne (l : List UInt8) : markK l ≠ 0 := by
  unfold markK
  repeat refine ite_ne (by decide) ?_
  decide
theorem word_ne (l : List UInt8) : (vc5 l).kind ≠ 0 := by
  unfold vc5
  by_cases h : vm8 (l.take (qb4 l)) = 2
  · rw [if_pos h]; show (2 : Int) ≠ 0; decide
  · rw [if_neg h]; exact kwK_ne _
theorem num_ne (l : List UInt8) : (vu1 l).kind ≠ 0 := by
  unfold vu1
  by_cases h : qm2 0 (l.take (qb8 qx9 l)) ≤ 9223372036854775807
  · rw [if_pos h]; show (3 : Int) ≠ 0; decide
  · rw [if_neg h]; show (1 : Int) ≠ 0; decide
theorem quot_ne (l : List UInt8) : (qt0 l).kind ≠ 0 := by
  unfold qt0
  cases qh4 (l.drop 1) with
  | none => show (1 : Int) ≠ 0; decide
  | some r => show (4 : Int) ≠ 0; decide
theorem mark_ne (l : List UInt8) : vz1 l ≠ 0 := by
  unfold vz1
  exact ite_ne (by decide) (markK_ne _)
theorem first_ne (l : List UInt8) : (qr8 l).kind ≠ 0 := by
  cases l with
  | nil => show (1 : Int) ≠ 0; decide
  | cons c t =>
    show (if jq4 c then vc5 (c :: t) else if qx9 c then vu1 (c :: t) else if c == 39 then qt0 (c :: t) else qd5 (vz1 (c :: t))).kind ≠ 0
    by_cases hb : jq4 c = true
    · rw [if_pos hb]; exact word_ne _
    rw [if_neg hb]
    by_cases hg : qx9 c = true
    · rw [if_pos hg]; exact num_ne _
    rw [if_neg hg]
    by_cases hq : (c == 39) = true
    · rw [if_pos hq]; exact quot_ne _
    rw [if_neg hq]
    exact mark_ne _
theorem next_in {l : List UInt8} (h : (qh9 l 0).kind ≠ 0) : qf2 l 0 < l.length := by
  apply Decidable.byContradiction
  intro hn
  unfold qh9 at h
  rw [if_neg hn] at h
  exact h rfl
theorem jm7 : ∀ (n : Nat) (l : List UInt8), l.length ≤ n → ∃ L, Lx l L := by
  intro n
  induction n with
  | zero =>
    intro l hl
    have : l = [] := List.eq_nil_of_length_eq_zero (by omega)
    subst this
    exact ⟨[], lx_end⟩
  | succ n ih =>
    intro l hl
    by_cases h : qf2 l 0 < l.length
    · have hk : qh9 l 0 = qr8 (l.drop (qf2 l 0)) := by unfold qh9; rw [if_pos h]
      have hz : 0 < qk0 l 0 := by
        unfold qk0
        rw [if_pos h]
        have := vd1 (l.drop (qf2 l 0)) (by rw [List.length_drop]; omega)
        omega
      obtain ⟨L, hL⟩ := ih (l.drop (qk0 l 0)) (by rw [List.length_drop]; omega)
      exact ⟨_, .cons rfl (by rw [hk]; exact first_ne _) hL⟩
    · exact ⟨[], .nil (by unfold qh9; rw [if_neg h])⟩
end
section
def Bq (p : Pay) : Prop := p.esc.length ≤ 1 ∧ ∀ x ∈ p.texts, x.length ≤ 200
def BqA : Ast → Prop
  | .leaf p => Bq p
  | .un p x => Bq p ∧ BqA x
  | .bin p x y => Bq p ∧ BqA x ∧ BqA y
  | .tri p x y z => Bq p ∧ BqA x ∧ BqA y ∧ BqA z
theorem bq0 (op pl num : Int) : Bq ⟨op, pl, num, [], [], []⟩ := ⟨by simp, by simp⟩
theorem bq1 {op pl num : Int} {s : List UInt8} : Bq ⟨op, pl, num, s, [], []⟩ := ⟨by simp, by simp⟩
def QGood (f : St → Res) : Prop := ∀ st t st', vw9 st → f st = .ok t st' → BqA t ∧ vw9 st'
def vw7 (g : Ast → St → Res) : Prop := ∀ l st t st', BqA l → vw9 st → g l st = .ok t st' → BqA t ∧ vw9 st'
theorem QGood.join {s : ByteArray} (H : s.size ≤ 200) {f : St → Res} (h : QGood f) : ∀ st l t st', BqA l → qb3 s f st l = .ok t st' → BqA t ∧ vw9 st' := by
  intro st l t st' hl he
  unfold qb3 at he
  split at he
  · rename_i r st2 hr; injection he with h1 h2; subst h1; subst h2
    have := h _ _ _ (j8 H st) hr
    exact ⟨⟨(bq0 _ _ _), hl, this.1⟩, this.2⟩
  · cases he
theorem QGood.loop {s : ByteArray} (H : s.size ≤ 200) {f : St → Res} {ks : List Int} (h : QGood f) : ∀ n l st t st', BqA l → vw9 st → qa4 s f ks n l st = .ok t st' → BqA t ∧ vw9 st' := by
  intro n
  induction n with
  | zero => intro l st t st' hl hs he; rw [qa4] at he; injection he with h1 h2; subst h1; subst h2; exact ⟨hl, hs⟩
  | succ n ih =>
    intro l st t st' hl hs he
    rw [qa4] at he
    split at he
    · split at he
      · rename_i hj; have := h.join H _ _ _ _ hl hj; exact ih _ _ _ _ this.1 this.2 he
      · cases he
    · injection he with h1 h2; subst h1; subst h2; exact ⟨hl, hs⟩
theorem QGood.row {s : ByteArray} (H : s.size ≤ 200) {f : St → Res} {ks : List Int} (h : QGood f) : QGood (qf7 s f ks) := by
  intro st t st' hs he
  unfold qf7 at he
  split at he
  · rename_i hr; have := h _ _ _ hs hr; exact h.loop H _ _ _ _ _ this.1 this.2 he
  · cases he
theorem QGood.sign {s : ByteArray} (H : s.size ≤ 200) {f : St → Res} (h : QGood f) (o : Int) : QGood (qg0 s f o) := by
  intro st t st' _ he
  unfold qg0 at he
  split at he
  · cases he
  · split at he
    · rename_i hr; injection he with h1 h2; subst h1; subst h2
      have := h (qy7 s st) _ _ (j8 H st) hr
      exact ⟨⟨(bq0 _ _ _), this.1⟩, this.2⟩
    · cases he
theorem QGood.group {s : ByteArray} (H : s.size ≤ 200) {f : St → Res} (h : QGood f) : QGood (qg9 s f) := by
  intro st t st' _ he
  unfold qg9 at he
  split at he
  · cases he
  · split at he
    · rename_i hr; split at he
      · injection he with h1 h2; subst h1; subst h2
        exact ⟨(h (qy7 s st) _ _ (j8 H st) hr).1, j8 H _⟩
      · cases he
    · cases he
theorem QGood.signed {s : ByteArray} (H : s.size ≤ 200) {fS fE : St → Res} (hS : QGood fS) (hE : QGood fE) : QGood (qa7 s fS fE) := by
  intro st t st' hs he
  unfold qa7 at he
  split at he
  · exact hS.sign H 14 _ _ _ hs he
  split at he
  · exact hS.sign H 15 _ _ _ hs he
  split at he
  · exact hE.group H _ _ _ hs he
  split at he
  · injection he with h1 h2; subst h1; subst h2; exact ⟨bq1, j8 H st⟩
  split at he
  · injection he with h1 h2; subst h1; subst h2; exact ⟨(bq0 _ _ _), j8 H st⟩
  split at he
  · injection he with h1 h2; subst h1; subst h2; exact ⟨bq1, j8 H st⟩
  split at he
  · injection he with h1 h2; subst h1; subst h2; exact ⟨(bq0 _ _ _), j8 H st⟩
  split at he
  · injection he with h1 h2; subst h1; subst h2; exact ⟨(bq0 _ _ _), j8 H st⟩
  · cases he
theorem bq_isNull {s : ByteArray} (H : s.size ≤ 200) : vw7 (qc4 s) := by
  intro l st t st' hl _ he
  unfold qc4 at he
  split at he
  · split at he
    · injection he with h1 h2; subst h1; subst h2; exact ⟨⟨(bq0 _ _ _), (bq0 _ _ _), hl⟩, j8 H _⟩
    · cases he
  · split at he
    · injection he with h1 h2; subst h1; subst h2; exact ⟨⟨(bq0 _ _ _), hl⟩, j8 H _⟩
    · cases he
theorem bq_inLoop {s : ByteArray} (H : s.size ≤ 200) {l : Ast} {pl : Nat} (hl : BqA l) : ∀ n ts st t st', (∀ x ∈ ts, x.length ≤ 200) → qf0 s l pl n ts st = .ok t st' → BqA t ∧ vw9 st' := by
  intro n
  induction n with
  | zero => intro ts st t st' _ he; rw [qf0] at he; cases he
  | succ n ih =>
    intro ts st t st' hn he
    rw [qf0] at he
    split at he
    · split at he
      · refine ih _ _ _ _ (fun x hx => ?_) he
        rcases List.mem_append.1 hx with hx | hx
        · exact hn x hx
        · simp at hx; subst hx; exact j8 H st
      · cases he
    · split at he
      · injection he with h1 h2; subst h1; subst h2; exact ⟨⟨⟨by simp, hn⟩, hl⟩, j8 H _⟩
      · cases he
theorem bq_in {s : ByteArray} (H : s.size ≤ 200) : vw7 (qm4 s) := by
  intro l st t st' hl _ he
  unfold qm4 at he
  split at he
  · split at he
    · exact bq_inLoop H hl _ _ _ _ _ (fun x hx => by simp at hx; subst hx; exact j8 H _) he
    · cases he
  · cases he
theorem js2 {s : ByteArray} {ft : Tk} {fp : Nat} {st : St} {str : List UInt8} {st' : St} (h : qy4 s ft fp st = .ok str st') : str.length ≤ 1 := by
  unfold qy4 at h
  split at h
  · split at h
    · rename_i h1
      split at h
      · injection h with e1 _; subst e1; omega
      · cases h
    · cases h
  · cases h
theorem bq_like {s : ByteArray} (H : s.size ≤ 200) : vw7 (qd4 s) := by
  intro l st t st' hl _ he
  unfold qd4 at he
  split at he
  · split at he
    · split at he
      · rename_i hk; injection he with h1 h2; subst h1; subst h2; rw [(va3 hk).2]; exact ⟨⟨⟨js2 hk, by simp⟩, hl⟩, j8 H _⟩
      · cases he
    · injection he with h1 h2; subst h1; subst h2; exact ⟨⟨⟨by simp, by simp⟩, hl⟩, j8 H _⟩
  · cases he
theorem QGood.between {s : ByteArray} (H : s.size ≤ 200) {f : St → Res} (h : QGood f) : vw7 (qc9 s f) := by
  intro l st t st' hl _ he
  unfold qc9 at he
  split at he
  · split at he
    · rename_i h1; split at he
      · split at he
        · rename_i h2; injection he with h3 h4; subst h3; subst h4
          have a := h _ _ _ (j8 H _) h1
          have b := h _ _ _ (j8 H _) h2
          exact ⟨⟨(bq0 _ _ _), hl, a.1, b.1⟩, b.2⟩
        · cases he
      · cases he
    · cases he
  · cases he
theorem QGood.keyword {s : ByteArray} (H : s.size ≤ 200) {f : St → Res} (h : QGood f) (bare : Bool) : vw7 (y4 s f (qm4 s) (qd4 s) bare) := by
  intro l st t st' hl hs he
  unfold y4 at he
  split at he
  · exact bq_in H _ _ _ _ hl hs he
  split at he
  · exact bq_like H _ _ _ _ hl hs he
  · exact h.between H _ _ _ _ hl hs he
theorem QGood.test {s : ByteArray} (H : s.size ≤ 200) {f : St → Res} (h : QGood f) : QGood (qi2 s f (qm4 s) (qd4 s)) := by
  intro st t st' hs he
  unfold qi2 at he
  split at he
  · rename_i hr
    obtain ⟨hl, hs1⟩ := h _ _ _ hs hr
    unfold x5 at he
    split at he
    · exact h.join H _ _ _ _ hl he
    split at he
    · split at he
      · exact bq_isNull H _ _ _ _ hl hs1 he
      · injection he with h1 h2; subst h1; subst h2; exact ⟨hl, hs1⟩
    split at he
    · split at he
      · rename_i hk; injection he with h1 h2; subst h1; subst h2
        have := h.keyword H _ _ _ _ _ hl (j8 H _) hk
        exact ⟨⟨(bq0 _ _ _), this.1⟩, this.2⟩
      · cases he
    split at he
    · exact h.keyword H _ _ _ _ _ hl hs1 he
    · injection he with h1 h2; subst h1; subst h2; exact ⟨hl, hs1⟩
  · cases he
theorem QGood.denied {s : ByteArray} (H : s.size ≤ 200) {fD fT : St → Res} (hD : QGood fD) (hT : QGood fT) : QGood (qe0 s fD fT) := by
  intro st t st' hs he
  unfold qe0 at he
  split at he
  · exact hD.sign H 5 _ _ _ hs he
  · exact hT _ _ _ hs he
structure QGood3 (L : L3) : Prop where
  S : QGood L.S
  D : QGood L.D
  E : QGood L.E
theorem up3_bq {s : ByteArray} (H : s.size ≤ 200) {L : L3} (h : QGood3 L) : QGood3 (up3 s L) := by
  have hS := QGood.signed (s := s) H h.S h.E
  have hD := QGood.denied (s := s) H h.D (QGood.test (s := s) H ((hS.row (s := s) H (ks := [24, 25])).row (s := s) H (ks := [22, 23])))
  exact ⟨hS, hD, (hD.row (s := s) H (ks := [5])).row (s := s) H (ks := [6])⟩
theorem lvl_bq (s : ByteArray) (H : s.size ≤ 200) : ∀ d, QGood3 (lvl s d) := by
  intro d
  induction d with
  | zero => exact up3_bq H ⟨(fun _ _ _ _ h => by cases h), (fun _ _ _ _ h => by cases h), (fun _ _ _ _ h => by cases h)⟩
  | succ d ih => exact up3_bq H ih
end
end Go.Proofs.YtfkcaldjphakpabGreatDoor
