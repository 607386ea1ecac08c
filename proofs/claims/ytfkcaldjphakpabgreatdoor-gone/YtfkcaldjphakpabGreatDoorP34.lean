/- What is read of tokens is read of them too where a closing parenthesis follows, some things open more, or it is too deep. The tokens of a text behind which another one stands. No bad token is read: the tokens of a selector. The shapes of terms that are read, and how many there are. The escapes and the texts of what is read are short. Selectors in parentheses, with AND, OR and NOT. An error's number is never 0. What the library's tables and variables are at a row's own world. -/
import Derived.Test.YtfkcaldjphakpabGreatDoorP13
import Derived.Test.YtfkcaldjphakpabGreatDoorP16
import Derived.Test.YtfkcaldjphakpabGreatDoorP03
import Derived.Test.YtfkcaldjphakpabGreatDoorRows
import Derived.Lib.LaidTab
import Derived.Lib.LaidU8
import Derived.Shelf.Vars
namespace Go.Proofs.YtfkcaldjphakpabGreatDoor
open Go.RowKit
section
def Clo (X : List Tk) : Prop := (hd X).kind = 27
def sh (X : List Tk) (k : Nat) (ts : TS) : TS := ⟨ts.toks ++ X, ts.op + k⟩
def ExtR (X : List Tk) (k o : Nat) (r r' : TRes) : Prop := ∀ t ts, r = .ok t ts → ts.op = o ∧ (r' = .err 3 ∨ r' = .ok t (sh X k ts))
def Ext (X : List Tk) (k o : Nat) (f f' : TS → TRes) : Prop := ∀ ts, ts.op = o → ExtR X k o (f ts) (f' (sh X k ts))
theorem ExtR.err {X : List Tk} {k o : Nat} {en : Int} {r : TRes} : ExtR X k o (.err en) r := by
  intro t ts h; cases h
theorem ExtR.deep {X : List Tk} {k o : Nat} {r : TRes} (h : ∀ t ts, r = .ok t ts → ts.op = o) : ExtR X k o r (.err 3) := fun t ts he => ⟨h t ts he, .inl rfl⟩
theorem ExtR.ok {X : List Tk} {k o : Nat} {t : Ast} {ts : TS} (h : ts.op = o) : ExtR X k o (.ok t ts) (.ok t (sh X k ts)) := by
  intro t' ts' he
  injection he with h1 h2
  subst h1 h2
  exact ⟨h, .inr rfl⟩
theorem ExtR.cases {X : List Tk} {k o : Nat} {r r' : TRes} (h : ExtR X k o r r') : (∃ en, r = .err en) ∨ (∃ t ts, r = .ok t ts ∧ ts.op = o ∧ r' = .err 3) ∨ ∃ t ts, r = .ok t ts ∧ ts.op = o ∧ r' = .ok t (sh X k ts) := by
  cases hr : r with
  | err en => exact .inl ⟨en, rfl⟩
  | ok t ts =>
    obtain ⟨h1, h2 | h2⟩ := h t ts hr
    · exact .inr (.inl ⟨t, ts, rfl, h1, h2⟩)
    · exact .inr (.inr ⟨t, ts, rfl, h1, h2⟩)
theorem j8 {ts : TS} {c : Int} (hc : c ≠ 0) (h : ts.tk.kind = c) : ts.toks ≠ [] := by
  intro e
  unfold TS.tk at h
  rw [e] at h
  exact hc h.symm
theorem jw3 {X : List Tk} {k : Nat} {ts : TS} (h : ts.toks ≠ []) : (sh X k ts).tk = ts.tk := by
  unfold sh TS.tk
  cases ht : ts.toks with
  | nil => exact absurd ht h
  | cons a r => rfl
theorem vj5 {X : List Tk} {k : Nat} {ts : TS} (h : ts.toks ≠ []) : (sh X k ts).next = sh X k ts.next := by
  unfold sh TS.next
  cases ht : ts.toks with
  | nil => exact absurd ht h
  | cons a r => rfl
theorem sh_in {X : List Tk} {k : Nat} {ts : TS} (h : ts.toks ≠ []) : tIn (sh X k ts) = sh X k (tIn ts) := by
  unfold sh tIn
  cases ht : ts.toks with
  | nil => exact absurd ht h
  | cons a r =>
    show TS.mk (r ++ X) (ts.op + k + 1) = TS.mk (r ++ X) (ts.op + 1 + k)
    rw [Nat.add_right_comm]
theorem sh_end {X : List Tk} (hX : Clo X) {k : Nat} {ts : TS} (h : ts.toks = []) : (sh X k ts).tk.kind = 27 := by
  unfold sh TS.tk
  rw [h]
  exact hX
theorem qa7 {X : List Tk} (hX : Clo X) {k : Nat} {ts : TS} {c : Int} (h0 : c ≠ 0) (h27 : c ≠ 27) : (sh X k ts).tk.kind = c ↔ ts.tk.kind = c := by
  by_cases h : ts.toks = []
  · have h1 := sh_end hX (k := k) h
    have h2 : ts.tk.kind = 0 := by unfold TS.tk; rw [h]; rfl
    rw [h1, h2]
    exact ⟨fun e => absurd e.symm h27, fun e => absurd e.symm h0⟩
  · rw [jw3 h]
theorem qg0 {X : List Tk} {k : Nat} {ts : TS} {c : Int} (hc : c ≠ 0) (h : ts.tk.kind = c) : (sh X k ts).tk = ts.tk ∧ (sh X k ts).next = sh X k ts.next := ⟨jw3 (j8 hc h), vj5 (j8 hc h)⟩
theorem jk8 {X : List Tk} (hX : Clo X) {k : Nat} {ts : TS} {ks : List Int} (h0 : ks.contains 0 = false) (h27 : ks.contains 27 = false) : ks.contains (sh X k ts).tk.kind = ks.contains ts.tk.kind := by
  by_cases h : ts.toks = []
  · have h1 := sh_end hX (k := k) h
    have h2 : ts.tk.kind = 0 := by unfold TS.tk; rw [h]; rfl
    rw [h1, h2, h0, h27]
  · rw [jw3 h]
section
variable {X : List Tk} {k o : Nat} {f f' : TS → TRes}
theorem Ext.join (h : Ext X k o f f') (ts : TS) (l : Ast) (ho : ts.op = o) (hne : ts.toks ≠ []) : ExtR X k o (qx7 f ts l) (qx7 f' (sh X k ts) l) := by
  unfold qx7
  rw [vj5 hne, jw3 hne]
  rcases (h ts.next ho).cases with ⟨en, e⟩ | ⟨t, ts', e, eo, e'⟩ | ⟨t, ts', e, eo, e'⟩
  · rw [e]; exact ExtR.err
  · rw [e, e']; exact ExtR.deep (fun t ts h => by injection h with _ h2; rw [← h2]; exact eo)
  · rw [e, e']; exact ExtR.ok eo
theorem Ext.loop (hX : Clo X) (h : Ext X k o f f') (hs : Shr f) (ks : List Int) (h0 : ks.contains 0 = false) (h27 : ks.contains 27 = false) : ∀ n n' l ts, ts.op = o → ts.toks.length < n → ts.toks.length + X.length < n' → ExtR X k o (qq4 f ks n l ts) (qq4 f' ks n' l (sh X k ts)) := by
  intro n
  induction n with
  | zero => intro n' l ts _ h1; omega
  | succ n ih =>
    intro n' l ts ho h1 h2
    obtain ⟨m, rfl⟩ : ∃ m, n' = m + 1 := ⟨n' - 1, by omega⟩
    rw [qq4, qq4, jk8 hX h0 h27]
    by_cases hc : ks.contains ts.tk.kind = true
    · have hne : ts.toks ≠ [] := by
        intro e
        have : ts.tk.kind = 0 := by unfold TS.tk; rw [e]; rfl
        rw [this, h0] at hc
        cases hc
      rw [if_pos hc, if_pos hc]
      have hlt : ts.next.toks.length < ts.toks.length := by
        cases ht : ts.toks with
        | nil => exact absurd ht hne
        | cons a r => show (ts.toks.tail).length < _; rw [ht]; simp
      rcases (h.join ts l ho hne).cases with ⟨en, e⟩ | ⟨t, ts', e, eo, e'⟩ | ⟨t, ts', e, eo, e'⟩
      · rw [e]; exact ExtR.err
      · rw [e, e']
        have hl := hs.join _ _ _ _ e
        refine ExtR.deep (fun t2 ts2 he => ?_)
        obtain ⟨hh, _⟩ := ih (ts'.toks.length + X.length + 1) t ts' eo (by omega) (by omega) t2 ts2 he
        exact hh
      · rw [e, e']
        have hl := hs.join _ _ _ _ e
        exact ih m t ts' eo (by omega) (by omega)
    · rw [if_neg hc, if_neg hc]
      exact ExtR.ok ho
theorem Ext.row (hX : Clo X) (h : Ext X k o f f') (hs : Shr f) (ks : List Int) (h0 : ks.contains 0 = false) (h27 : ks.contains 27 = false) : Ext X k o (qz2 f ks) (qz2 f' ks) := by
  intro ts ho
  unfold qz2
  rcases (h ts ho).cases with ⟨en, e⟩ | ⟨t, ts', e, eo, e'⟩ | ⟨t, ts', e, eo, e'⟩
  · rw [e]; exact ExtR.err
  · rw [e, e']
    refine ExtR.deep (fun t2 ts2 he => ?_)
    exact (h.loop hX hs ks h0 h27 _ (ts'.toks.length + X.length + 1) t ts' eo (Nat.lt_succ_self _) (Nat.lt_succ_self _) t2 ts2 he).1
  · rw [e, e']
    exact h.loop hX hs ks h0 h27 _ _ t ts' eo (Nat.lt_succ_self _) (by show _ < (ts'.toks ++ X).length + 1; rw [List.length_append]; omega)
theorem Ext.sign (hk : o + k ≤ 12) (h : o + k < 12 → Ext X k (o + 1) f f') (n : Int) (ts : TS) (ho : ts.op = o) (hne : ts.toks ≠ []) : ExtR X k o (qw5 f n ts) (qw5 f' n (sh X k ts)) := by
  unfold qw5
  show ExtR X k o _ (if ts.op + k = 12 then _ else _)
  by_cases h12 : ts.op + k = 12
  · rw [if_pos h12]
    refine ExtR.deep (fun t2 ts2 he => ?_)
    split at he
    · cases he
    · split at he
      · injection he with _ h2; rw [← h2]; exact ho
      · cases he
  · rw [if_neg h12, if_neg (by omega), sh_in hne]
    rcases (h (by omega) (tIn ts) (by show ts.op + 1 = _; omega)).cases with ⟨en, e⟩ | ⟨t, ts', e, eo, e'⟩ | ⟨t, ts', e, eo, e'⟩
    · rw [e]; exact ExtR.err
    · rw [e, e']; exact ExtR.deep (fun t ts h => by injection h with _ h2; rw [← h2]; exact ho)
    · rw [e, e']; exact ExtR.ok ho
theorem Ext.group (hk : o + k ≤ 12) (h : o + k < 12 → Ext X k (o + 1) f f') (ts : TS) (ho : ts.op = o) (hne : ts.toks ≠ []) : ExtR X k o (qj9 f ts) (qj9 f' (sh X k ts)) := by
  unfold qj9
  show ExtR X k o _ (if ts.op + k = 12 then _ else _)
  by_cases h12 : ts.op + k = 12
  · rw [if_pos h12]
    refine ExtR.deep (fun t2 ts2 he => ?_)
    split at he
    · cases he
    · split at he
      · split at he
        · injection he with _ h2; rw [← h2]; exact ho
        · cases he
      · cases he
  · rw [if_neg h12, if_neg (by omega), sh_in hne]
    rcases (h (by omega) (tIn ts) (by show ts.op + 1 = _; omega)).cases with ⟨en, e⟩ | ⟨t, ts', e, eo, e'⟩ | ⟨t, ts', e, eo, e'⟩
    · rw [e]; exact ExtR.err
    · rw [e, e']
      refine ExtR.deep (fun t2 ts2 he => ?_)
      simp only at he
      split at he
      · injection he with _ h2; rw [← h2]; exact ho
      · cases he
    · rw [e, e']
      show ExtR X k o (if ts'.tk.kind = 27 then _ else _) (if (sh X k ts').tk.kind = 27 then _ else _)
      by_cases h27 : ts'.tk.kind = 27
      · have hne' := j8 (by decide) h27
        rw [if_pos h27, if_pos (by rw [jw3 hne']; exact h27)]
        have : (⟨(sh X k ts').toks.tail, (sh X k ts).op⟩ : TS) = sh X k ⟨ts'.toks.tail, ts.op⟩ := by
          unfold sh
          cases ht : ts'.toks with
          | nil => exact absurd ht hne'
          | cons a r => rfl
        rw [this]
        exact ExtR.ok ho
      · rw [if_neg h27]; exact ExtR.err
theorem Ext.signed (hX : Clo X) {g g' : TS → TRes} (hk : o + k ≤ 12) (hS : o + k < 12 → Ext X k (o + 1) f f') (hE : o + k < 12 → Ext X k (o + 1) g g') : Ext X k o (qd9 f g) (qd9 f' g') := by
  intro ts ho
  unfold qd9
  by_cases h22 : ts.tk.kind = 22
  · rw [if_pos h22, if_pos ((qa7 hX (by decide) (by decide)).2 h22)]
    exact Ext.sign hk hS 14 ts ho (j8 (by decide) h22)
  rw [if_neg h22, if_neg (fun e => h22 ((qa7 hX (by decide) (by decide)).1 e))]
  by_cases h23 : ts.tk.kind = 23
  · rw [if_pos h23, if_pos ((qa7 hX (by decide) (by decide)).2 h23)]
    exact Ext.sign hk hS 15 ts ho (j8 (by decide) h23)
  rw [if_neg h23, if_neg (fun e => h23 ((qa7 hX (by decide) (by decide)).1 e))]
  by_cases h26 : ts.tk.kind = 26
  · rw [if_pos h26, if_pos ((qa7 hX (by decide) (by decide)).2 h26)]
    exact Ext.group hk hE ts ho (j8 (by decide) h26)
  rw [if_neg h26, if_neg (fun e => h26 ((qa7 hX (by decide) (by decide)).1 e))]
  by_cases h2 : ts.tk.kind = 2
  · rw [if_pos h2, if_pos ((qa7 hX (by decide) (by decide)).2 h2), (qg0 (by decide) h2).1, (qg0 (by decide) h2).2]
    exact ExtR.ok ho
  rw [if_neg h2, if_neg (fun e => h2 ((qa7 hX (by decide) (by decide)).1 e))]
  by_cases h3 : ts.tk.kind = 3
  · rw [if_pos h3, if_pos ((qa7 hX (by decide) (by decide)).2 h3), (qg0 (by decide) h3).1, (qg0 (by decide) h3).2]
    exact ExtR.ok ho
  rw [if_neg h3, if_neg (fun e => h3 ((qa7 hX (by decide) (by decide)).1 e))]
  by_cases h4 : ts.tk.kind = 4
  · rw [if_pos h4, if_pos ((qa7 hX (by decide) (by decide)).2 h4), (qg0 (by decide) h4).1, (qg0 (by decide) h4).2]
    exact ExtR.ok ho
  rw [if_neg h4, if_neg (fun e => h4 ((qa7 hX (by decide) (by decide)).1 e))]
  by_cases h8 : ts.tk.kind = 8
  · rw [if_pos h8, if_pos ((qa7 hX (by decide) (by decide)).2 h8), (qg0 (by decide) h8).2]
    exact ExtR.ok ho
  rw [if_neg h8, if_neg (fun e => h8 ((qa7 hX (by decide) (by decide)).1 e))]
  by_cases h9 : ts.tk.kind = 9
  · rw [if_pos h9, if_pos ((qa7 hX (by decide) (by decide)).2 h9), (qg0 (by decide) h9).2]
    exact ExtR.ok ho
  rw [if_neg h9]
  exact ExtR.err
theorem jx5 (hX : Clo X) (l : Ast) (ts : TS) (ho : ts.op = o) (hne : ts.toks ≠ []) : ExtR X k o (tIsNull l ts) (tIsNull l (sh X k ts)) := by
  unfold tIsNull
  rw [vj5 hne]
  by_cases h7 : ts.next.tk.kind = 7
  · rw [if_pos h7, if_pos ((qa7 hX (by decide) (by decide)).2 h7), (qg0 (by decide) h7).2]
    by_cases h15 : ts.next.next.tk.kind = 15
    · rw [if_pos h15, if_pos ((qa7 hX (by decide) (by decide)).2 h15), (qg0 (by decide) h15).2]
      exact ExtR.ok ho
    · rw [if_neg h15]; exact ExtR.err
  · rw [if_neg h7, if_neg (fun e => h7 ((qa7 hX (by decide) (by decide)).1 e))]
    by_cases h15 : ts.next.tk.kind = 15
    · rw [if_pos h15, if_pos ((qa7 hX (by decide) (by decide)).2 h15), (qg0 (by decide) h15).2]
      exact ExtR.ok ho
    · rw [if_neg h15]; exact ExtR.err
theorem Ext.between (hX : Clo X) (h : Ext X k o f f') (l : Ast) (ts : TS) (ho : ts.op = o) : ExtR X k o (qh0 f l ts) (qh0 f' l (sh X k ts)) := by
  unfold qh0
  by_cases h10 : ts.tk.kind = 10
  · rw [if_pos h10, if_pos ((qa7 hX (by decide) (by decide)).2 h10), (qg0 (by decide) h10).2]
    rcases (h ts.next ho).cases with ⟨en, e⟩ | ⟨t, ts', e, eo, e'⟩ | ⟨t, ts', e, eo, e'⟩
    · rw [e]; exact ExtR.err
    · rw [e, e']
      refine ExtR.deep (fun t2 ts2 he => ?_)
      simp only at he
      split at he
      · split at he
        · rename_i hf
          injection he with _ h2
          rw [← h2]
          exact (h ts'.next eo _ _ hf).1
        · cases he
      · cases he
    · rw [e, e']
      show ExtR X k o (if ts'.tk.kind = 5 then _ else _) (if (sh X k ts').tk.kind = 5 then _ else _)
      by_cases h5 : ts'.tk.kind = 5
      · rw [if_pos h5, if_pos ((qa7 hX (by decide) (by decide)).2 h5), (qg0 (by decide) h5).2]
        rcases (h ts'.next eo).cases with ⟨en, e⟩ | ⟨t, ts', e, eo, e'⟩ | ⟨t, ts', e, eo, e'⟩
        · rw [e]; exact ExtR.err
        · rw [e, e']; exact ExtR.deep (fun t ts h => by injection h with _ h2; rw [← h2]; exact eo)
        · rw [e, e']; exact ExtR.ok eo
      · rw [if_neg h5]; exact ExtR.err
  · rw [if_neg h10]; exact ExtR.err
theorem jw2 (hX : Clo X) (l : Ast) : ∀ n n' xs ts, ts.op = o → ts.toks.length < n → ts.toks.length + X.length < n' → ExtR X k o (qg1 l n xs ts) (qg1 l n' xs (sh X k ts)) := by
  intro n
  induction n with
  | zero => intro n' xs ts _ h1; omega
  | succ n ih =>
    intro n' xs ts ho h1 h2
    obtain ⟨m, rfl⟩ : ∃ m, n' = m + 1 := ⟨n' - 1, by omega⟩
    rw [qg1, qg1]
    by_cases h28 : ts.tk.kind = 28
    · rw [if_pos h28, if_pos ((qa7 hX (by decide) (by decide)).2 h28), (qg0 (by decide) h28).2]
      have hne := j8 (by decide) h28
      have hlt : ts.next.toks.length < ts.toks.length := by
        cases ht : ts.toks with
        | nil => exact absurd ht hne
        | cons a r => show (ts.toks.tail).length < _; rw [ht]; simp
      by_cases h4 : ts.next.tk.kind = 4
      · rw [if_pos h4, if_pos ((qa7 hX (by decide) (by decide)).2 h4), (qg0 (by decide) h4).2, (qg0 (by decide) h4).1]
        have := y5 ts.next
        exact ih m _ ts.next.next ho (by omega) (by omega)
      · rw [if_neg h4]; exact ExtR.err
    · rw [if_neg h28, if_neg (fun e => h28 ((qa7 hX (by decide) (by decide)).1 e))]
      by_cases h27 : ts.tk.kind = 27
      · rw [if_pos h27, if_pos (by rw [(qg0 (by decide) h27).1]; exact h27), (qg0 (by decide) h27).2]
        exact ExtR.ok ho
      · rw [if_neg h27]; exact ExtR.err
theorem ext_in (hX : Clo X) (l : Ast) (ts : TS) (ho : ts.op = o) (hne : ts.toks ≠ []) : ExtR X k o (tInRes l ts) (tInRes l (sh X k ts)) := by
  unfold tInRes
  rw [vj5 hne]
  by_cases h26 : ts.next.tk.kind = 26
  · rw [if_pos h26, if_pos ((qa7 hX (by decide) (by decide)).2 h26), (qg0 (by decide) h26).2]
    by_cases h4 : ts.next.next.tk.kind = 4
    · rw [if_pos h4, if_pos ((qa7 hX (by decide) (by decide)).2 h4), (qg0 (by decide) h4).2, (qg0 (by decide) h4).1]
      have l1 := y5 ts
      have l2 := y5 ts.next
      have l3 := y5 ts.next.next
      have hl : (sh X k ts).toks.length = ts.toks.length + X.length := by show (ts.toks ++ X).length = _; rw [List.length_append]
      exact jw2 hX l _ _ _ ts.next.next.next ho (by omega) (by rw [hl]; omega)
    · rw [if_neg h4]; exact ExtR.err
  · rw [if_neg h26]; exact ExtR.err
theorem ext_like (hX : Clo X) (l : Ast) (ts : TS) (ho : ts.op = o) (hne : ts.toks ≠ []) : ExtR X k o (tLike l ts) (tLike l (sh X k ts)) := by
  unfold tLike
  rw [vj5 hne]
  by_cases h4 : ts.next.tk.kind = 4
  · rw [if_pos h4, if_pos ((qa7 hX (by decide) (by decide)).2 h4), (qg0 (by decide) h4).2, (qg0 (by decide) h4).1]
    by_cases h13 : ts.next.next.tk.kind = 13
    · rw [if_pos h13, if_pos ((qa7 hX (by decide) (by decide)).2 h13), (qg0 (by decide) h13).2]
      by_cases g : ts.next.next.next.tk.kind = 4 ∧ ts.next.next.next.tk.str.length = 1 ∧ (qw1 ts.next.next.next.tk.str ts.next.tk.str).isSome = true
      · rw [if_pos g, (qg0 (by decide) g.1).1, if_pos g, (qg0 (by decide) g.1).2]
        exact ExtR.ok ho
      · rw [if_neg g]; exact ExtR.err
    · rw [if_neg h13, if_neg (fun e => h13 ((qa7 hX (by decide) (by decide)).1 e))]
      exact ExtR.ok ho
  · rw [if_neg h4]; exact ExtR.err
theorem Ext.keyword (hX : Clo X) (h : Ext X k o f f') (bare : Bool) (l : Ast) (ts : TS) (ho : ts.op = o) : ExtR X k o (qf5 f bare l ts) (qf5 f' bare l (sh X k ts)) := by
  unfold qf5
  by_cases h11 : ts.tk.kind = 11 ∧ bare = true
  · rw [if_pos h11, if_pos ⟨(qa7 hX (by decide) (by decide)).2 h11.1, h11.2⟩]
    exact ext_in hX l ts ho (j8 (by decide) h11.1)
  rw [if_neg h11, if_neg (show ¬ ((sh X k ts).tk.kind = 11 ∧ bare = true) from fun e => h11 ⟨(qa7 hX (by decide) (by decide)).1 e.1, e.2⟩)]
  by_cases h12 : ts.tk.kind = 12 ∧ bare = true
  · rw [if_pos h12, if_pos ⟨(qa7 hX (by decide) (by decide)).2 h12.1, h12.2⟩]
    exact ext_like hX l ts ho (j8 (by decide) h12.1)
  rw [if_neg h12, if_neg (show ¬ ((sh X k ts).tk.kind = 12 ∧ bare = true) from fun e => h12 ⟨(qa7 hX (by decide) (by decide)).1 e.1, e.2⟩)]
  exact h.between hX l ts ho
theorem Ext.tail (hX : Clo X) (h : Ext X k o f f') (bare : Bool) (l : Ast) (ts : TS) (ho : ts.op = o) : ExtR X k o (qy5 f bare l ts) (qy5 f' bare l (sh X k ts)) := by
  have hk : ∀ c : Int, c ≠ 0 → c ≠ 27 → ((sh X k ts).tk.kind = c ↔ ts.tk.kind = c) := fun c a b => qa7 hX a b
  have h6 : ((sh X k ts).tk.kind = 16 ∨ (sh X k ts).tk.kind = 17 ∨ (sh X k ts).tk.kind = 18 ∨ (sh X k ts).tk.kind = 19 ∨ (sh X k ts).tk.kind = 20 ∨ (sh X k ts).tk.kind = 21) ↔ (ts.tk.kind = 16 ∨ ts.tk.kind = 17 ∨ ts.tk.kind = 18 ∨ ts.tk.kind = 19 ∨ ts.tk.kind = 20 ∨ ts.tk.kind = 21) := by
    rw [hk 16 (by decide) (by decide), hk 17 (by decide) (by decide), hk 18 (by decide) (by decide), hk 19 (by decide) (by decide), hk 20 (by decide) (by decide), hk 21 (by decide) (by decide)]
  have h3 : ((sh X k ts).tk.kind = 10 ∨ (sh X k ts).tk.kind = 11 ∨ (sh X k ts).tk.kind = 12) ↔ (ts.tk.kind = 10 ∨ ts.tk.kind = 11 ∨ ts.tk.kind = 12) := by
    rw [hk 10 (by decide) (by decide), hk 11 (by decide) (by decide), hk 12 (by decide) (by decide)]
  unfold qy5
  by_cases h16 : ts.tk.kind = 16 ∨ ts.tk.kind = 17 ∨ ts.tk.kind = 18 ∨ ts.tk.kind = 19 ∨ ts.tk.kind = 20 ∨ ts.tk.kind = 21
  · rw [if_pos h16, if_pos (h6.2 h16)]
    refine h.join ts l ho ?_
    rcases h16 with e | e | e | e | e | e <;> exact j8 (by decide) e
  rw [if_neg h16, if_neg (fun e => h16 (h6.1 e))]
  by_cases h14 : ts.tk.kind = 14
  · rw [if_pos h14, if_pos ((hk 14 (by decide) (by decide)).2 h14)]
    cases bare
    · exact ExtR.ok ho
    · exact jx5 hX l ts ho (j8 (by decide) h14)
  rw [if_neg h14, if_neg (fun e => h14 ((hk 14 (by decide) (by decide)).1 e))]
  by_cases h7 : ts.tk.kind = 7
  · rw [if_pos h7, if_pos ((hk 7 (by decide) (by decide)).2 h7), (qg0 (by decide) h7).2]
    rcases (h.keyword hX bare l ts.next ho).cases with ⟨en, e⟩ | ⟨t, ts', e, eo, e'⟩ | ⟨t, ts', e, eo, e'⟩
    · rw [e]; exact ExtR.err
    · rw [e, e']; exact ExtR.deep (fun t ts h => by injection h with _ h2; rw [← h2]; exact eo)
    · rw [e, e']; exact ExtR.ok eo
  rw [if_neg h7, if_neg (fun e => h7 ((hk 7 (by decide) (by decide)).1 e))]
  by_cases h10 : ts.tk.kind = 10 ∨ ts.tk.kind = 11 ∨ ts.tk.kind = 12
  · rw [if_pos h10, if_pos (h3.2 h10)]; exact h.keyword hX bare l ts ho
  · rw [if_neg h10, if_neg (fun e => h10 (h3.1 e))]; exact ExtR.ok ho
theorem Ext.test (hX : Clo X) (h : Ext X k o f f') (hf : ∀ ts t ts', f ts = .ok t ts' → ts.toks ≠ []) : Ext X k o (qx2 f) (qx2 f') := by
  intro ts ho
  unfold qx2
  rcases (h ts ho).cases with ⟨en, e⟩ | ⟨t, ts', e, eo, e'⟩ | ⟨t, ts', e, eo, e'⟩
  · rw [e]; exact ExtR.err
  · rw [e, e']
    refine ExtR.deep (fun t2 ts2 he => ?_)
    exact (h.tail hX _ t ts' eo t2 ts2 he).1
  · rw [e, e', jw3 (hf _ _ _ e)]
    exact h.tail hX _ t ts' eo
theorem Ext.denied (hX : Clo X) {g g' : TS → TRes} (hk : o + k ≤ 12) (hD : o + k < 12 → Ext X k (o + 1) f f') (hT : Ext X k o g g') : Ext X k o (qg6 f g) (qg6 f' g') := by
  intro ts ho
  unfold qg6
  by_cases h7 : ts.tk.kind = 7
  · rw [if_pos h7, if_pos ((qa7 hX (by decide) (by decide)).2 h7)]
    exact Ext.sign hk hD 5 ts ho (j8 (by decide) h7)
  · rw [if_neg h7, if_neg (fun e => h7 ((qa7 hX (by decide) (by decide)).1 e))]
    exact hT ts ho
end
def Some' (f : TS → TRes) : Prop := ∀ ts t ts', f ts = .ok t ts' → ts.toks ≠ []
theorem je1 (f g : TS → TRes) : Some' (qd9 f g) := by
  intro ts t ts' he e
  unfold qd9 at he
  have h0 : ts.tk.kind = 0 := by unfold TS.tk; rw [e]; rfl
  rw [h0] at he
  cases he
theorem Some'.row {f : TS → TRes} (h : Some' f) (ks : List Int) : Some' (qz2 f ks) := by
  intro ts t ts' he
  unfold qz2 at he
  split at he
  · rename_i hf; exact h _ _ _ hf
  · cases he
structure Ext3 (X : List Tk) (k o : Nat) (L L' : T3) : Prop where
  S : Ext X k o L.S L'.S
  D : Ext X k o L.D L'.D
  E : Ext X k o L.E L'.E
structure Shr3 (L : T3) : Prop where
  S : Shr L.S
  D : Shr L.D
  E : Shr L.E
theorem ext_up {X : List Tk} (hX : Clo X) {k o : Nat} (hk : o + k ≤ 12) {L L' : T3} (hs : Shr3 L) (h : o + k < 12 → Ext3 X k (o + 1) L L') : Ext3 X k o (tUp L) (tUp L') := by
  have hS := Ext.signed hX hk (fun e => (h e).S) (fun e => (h e).E)
  have zS := Shr.signed hs.S hs.E
  have hP := hS.row hX zS [24, 25] rfl rfl
  have zP := zS.row [24, 25]
  have hU := hP.row hX zP [22, 23] rfl rfl
  have zU := zP.row [22, 23]
  have hT := hU.test hX (((je1 _ _).row _).row _)
  have zT := zU.test
  have hD := Ext.denied hX hk (fun e => (h e).D) hT
  have zD := Shr.denied hs.D zT
  have hB := hD.row hX zD [5] rfl rfl
  have zB := zD.row [5]
  exact ⟨hS, hD, hB.row hX zB [6] rfl rfl⟩
theorem shr_lvl (d : Nat) : Shr3 (vd6 d) := ⟨(va5 ⟨#[]⟩ d).s', (va5 ⟨#[]⟩ d).d', (va5 ⟨#[]⟩ d).e'⟩
theorem lvl_up (d : Nat) : ∃ L, vd6 d = tUp L ∧ Shr3 L := by
  cases d with
  | zero => exact ⟨_, rfl, ⟨(fun _ _ _ h => by cases h), (fun _ _ _ h => by cases h), (fun _ _ _ h => by cases h)⟩⟩
  | succ d => exact ⟨_, rfl, shr_lvl d⟩
theorem ext_lvl {X : List Tk} (hX : Clo X) (k : Nat) : ∀ d o, o + k + d = 12 → Ext3 X k o (vd6 (d + k)) (vd6 d) := by
  intro d
  induction d with
  | zero =>
    intro o h
    obtain ⟨L, e, z⟩ := lvl_up (0 + k)
    rw [e]
    exact ext_up hX (by omega) z (fun e => absurd e (by omega))
  | succ d ih =>
    intro o h
    rw [show d + 1 + k = (d + k) + 1 by omega]
    exact ext_up hX (by omega) (shr_lvl _) (fun e => ih (o + 1) (by omega))
end
section
structure Stop (d : UInt8) : Prop where
  goe : vr6 d = false
  dig : qt3 d = false
  quo : (d == 39) = false
  eq : (d == 61) = false
  gt : (d == 62) = false
theorem vr7 (p : UInt8 → Bool) {d : UInt8} (h : p d = false) (y : List UInt8) : ∀ l, x8 p (l ++ d :: y) = x8 p l := by
  intro l
  induction l with
  | nil => show (if p d then _ else 0) = 0; rw [h]; rfl
  | cons c t ih => show (if p c then x8 p (t ++ d :: y) + 1 else 0) = if p c then x8 p t + 1 else 0; rw [ih]
theorem runLen_lt (p : UInt8 → Bool) (y : List UInt8) : ∀ l, x8 p l < l.length → x8 p (l ++ y) = x8 p l := by
  intro l
  induction l with
  | nil => intro h; exact absurd h (Nat.not_lt_zero _)
  | cons c t ih =>
    intro h
    show (if p c then x8 p (t ++ y) + 1 else 0) = if p c then x8 p t + 1 else 0
    have hc : x8 p (c :: t) = if p c then x8 p t + 1 else 0 := rfl
    rw [hc] at h
    by_cases hp : p c = true
    · rw [if_pos hp] at h
      rw [if_pos hp, if_pos hp, ih (by simp at h; omega)]
    · rw [if_neg hp, if_neg hp]
theorem vf8 {d : UInt8} (hd : Stop d) (y : List UInt8) (c : UInt8) (t : List UInt8) : qa3 (c :: t ++ d :: y) = qa3 (c :: t) := by
  show (if vp9 c then x8 vr6 (t ++ d :: y) + 1 else 0) = if vp9 c then x8 vr6 t + 1 else 0
  rw [vr7 vr6 hd.goe]
theorem vu8 (l z : List UInt8) (n : Nat) (h : n ≤ l.length) : (l ++ z).take n = l.take n := by
  rw [List.take_append, show n - l.length = 0 by omega, List.take_zero, List.append_nil]
theorem quotF_app {d : UInt8} (hd : (d == 39) = false) (y : List UInt8) : ∀ (n : Nat) (l : List UInt8), l.length ≤ n → ∀ r, qe5 l = some r → qe5 (l ++ d :: y) = some r := by
  intro n
  induction n with
  | zero =>
    intro l hl r h
    have : l = [] := List.eq_nil_of_length_eq_zero (by omega)
    subst this
    simp [qe5] at h
  | succ n ih =>
    intro l hl r h
    match l, hl, h with
    | [], _, h => simp [qe5] at h
    | [c], _, h =>
      simp only [qe5] at h
      split at h
      · rename_i hc
        show qe5 (c :: d :: y) = _
        rw [qe5, if_pos hc, if_neg (by rw [hd]; decide)]
        exact h
      · simp at h
    | c :: e :: t, hl, h =>
      simp only [List.length_cons] at hl
      show qe5 (c :: e :: (t ++ d :: y)) = _
      rw [qe5] at h ⊢
      by_cases hc : (c == 39) = true
      · rw [if_pos hc] at h ⊢
        by_cases he : (e == 39) = true
        · rw [if_pos he] at h ⊢
          cases hq : qe5 t with
          | none => rw [hq] at h; simp at h
          | some q => rw [hq] at h; rw [ih t (by omega) q hq]; exact h
        · rw [if_neg he] at h ⊢; exact h
      · rw [if_neg hc] at h ⊢
        cases hq : qe5 (e :: t) with
        | none => rw [hq] at h; simp at h
        | some q =>
          rw [hq] at h
          have := ih (e :: t) (by simp; omega) q hq
          rw [List.cons_append] at this
          rw [this]; exact h
theorem vy0 {d : UInt8} (hd : Stop d) (y : List UInt8) (c : UInt8) (t : List UInt8) : ve1 (c :: t ++ d :: y) = ve1 (c :: t) := by
  cases t with
  | nil =>
    show (if c == 60 && d == 62 || (c == 60 || c == 62) && d == 61 then 2 else 1) = 1
    rw [hd.eq, hd.gt]; simp
  | cons e t => rfl
theorem markT_app {d : UInt8} (hd : Stop d) (y : List UInt8) (c : UInt8) (t : List UInt8) : ve2 (c :: t ++ d :: y) = ve2 (c :: t) := by
  unfold ve2
  rw [vy0 hd y c t, vu8 (c :: t) (d :: y) _ (mark_le _ (by simp))]
  cases t with
  | nil =>
    have : ((c :: [] ++ d :: y).take 2 == [60, 62]) = false := by
      show (c == 60 && (d == 62 && true)) = false
      rw [hd.gt]; simp
    rw [this]
    have : ((c :: []).take 2 == ([60, 62] : List UInt8)) = false := by
      show (c == 60 && false) = false
      simp
    rw [this]
  | cons e t => rfl
theorem first_app {d : UInt8} (hd : Stop d) (y : List UInt8) (c : UInt8) (t : List UInt8) (h : (qj1 (c :: t)).kind ≠ 1) : qj1 (c :: t ++ d :: y) = qj1 (c :: t) ∧ qv7 (c :: t ++ d :: y) = qv7 (c :: t) := by
  have h1 : qj1 (c :: t) = if vp9 c then qv4 (c :: t) else if qt3 c then vh0 (c :: t) else if c == 39 then qn0 (c :: t) else z7 (ve2 (c :: t)) := rfl
  have h2 : qj1 (c :: t ++ d :: y) = if vp9 c then qv4 (c :: t ++ d :: y) else if qt3 c then vh0 (c :: t ++ d :: y) else if c == 39 then qn0 (c :: t ++ d :: y) else z7 (ve2 (c :: t ++ d :: y)) := rfl
  have h3 : qv7 (c :: t) = if vp9 c then qa3 (c :: t) else if qt3 c then x8 qt3 (c :: t) else if c == 39 then vb1 (c :: t) else ve1 (c :: t) := rfl
  have h4 : qv7 (c :: t ++ d :: y) = if vp9 c then qa3 (c :: t ++ d :: y) else if qt3 c then x8 qt3 (c :: t ++ d :: y) else if c == 39 then vb1 (c :: t ++ d :: y) else ve1 (c :: t ++ d :: y) := rfl
  rw [h1] at h
  rw [h1, h2, h3, h4]
  by_cases hb : vp9 c = true
  · rw [if_pos hb, if_pos hb, if_pos hb, if_pos hb]
    refine ⟨?_, vf8 hd y c t⟩
    unfold qv4
    rw [vf8 hd y c t, vu8 _ _ _ (va4 _)]
  rw [if_neg hb] at h
  rw [if_neg hb, if_neg hb, if_neg hb, if_neg hb]
  by_cases hg : qt3 c = true
  · rw [if_pos hg, if_pos hg, if_pos hg, if_pos hg]
    have hr := vr7 qt3 hd.dig y (c :: t)
    refine ⟨?_, hr⟩
    unfold vh0
    rw [hr, vu8 _ _ _ (qx4 _ _)]
  rw [if_neg hg] at h
  rw [if_neg hg, if_neg hg, if_neg hg, if_neg hg]
  by_cases hq : (c == 39) = true
  · rw [if_pos hq] at h
    rw [if_pos hq, if_pos hq, if_pos hq, if_pos hq]
    cases hf : qe5 ((c :: t).drop 1) with
    | none => exfalso; unfold qn0 at h; rw [hf] at h; exact h rfl
    | some r =>
      have hf' : qe5 ((c :: t ++ d :: y).drop 1) = some r := quotF_app hd.quo y _ t (Nat.le_refl _) r hf
      unfold qn0 vb1
      rw [hf, hf']
      exact ⟨rfl, rfl⟩
  · rw [if_neg hq, if_neg hq, if_neg hq, if_neg hq, markT_app hd y c t, vy0 hd y c t]
    exact ⟨rfl, rfl⟩
theorem ite_ne {c : Prop} [Decidable c] {a b : Int} (ha : a ≠ 0) (hb : b ≠ 0) : (if c then a else b) ≠ 0 := by
  by_cases h : c
  · rw [if_pos h]; exact ha
  · rw [if_neg h]; exact hb
theorem kwK_ne (l : List UInt8) : kwK l ≠ 0 := by
  unfold kwK
  repeat refine ite_ne (by decide) ?_
  decide
theorem markK_ne (l : List UInt8) : markK l ≠ 0 := by
  unfold markK
  repeat refine ite_ne (by decide) ?_
  decide
theorem word_ne (l : List UInt8) : (qv4 l).kind ≠ 0 := by
  unfold qv4
  by_cases h : vn1 (l.take (qa3 l)) = 2
  · rw [if_pos h]; show (2 : Int) ≠ 0; decide
  · rw [if_neg h]; exact kwK_ne _
theorem num_ne (l : List UInt8) : (vh0 l).kind ≠ 0 := by
  unfold vh0
  by_cases h : qn3 0 (l.take (x8 qt3 l)) ≤ 9223372036854775807
  · rw [if_pos h]; show (3 : Int) ≠ 0; decide
  · rw [if_neg h]; show (1 : Int) ≠ 0; decide
theorem quot_ne (l : List UInt8) : (qn0 l).kind ≠ 0 := by
  unfold qn0
  cases qe5 (l.drop 1) with
  | none => show (1 : Int) ≠ 0; decide
  | some r => show (4 : Int) ≠ 0; decide
theorem mark_ne (l : List UInt8) : ve2 l ≠ 0 := by
  unfold ve2
  exact ite_ne (by decide) (markK_ne _)
theorem jn1 (l : List UInt8) : (qj1 l).kind ≠ 0 := by
  cases l with
  | nil => show (1 : Int) ≠ 0; decide
  | cons c t =>
    show (if vp9 c then qv4 (c :: t) else if qt3 c then vh0 (c :: t) else if c == 39 then qn0 (c :: t) else z7 (ve2 (c :: t))).kind ≠ 0
    by_cases hb : vp9 c = true
    · rw [if_pos hb]; exact word_ne _
    rw [if_neg hb]
    by_cases hg : qt3 c = true
    · rw [if_pos hg]; exact num_ne _
    rw [if_neg hg]
    by_cases hq : (c == 39) = true
    · rw [if_pos hq]; exact quot_ne _
    rw [if_neg hq]
    exact mark_ne _
theorem next_in {l : List UInt8} (h : (qd0 l 0).kind ≠ 0) : qc2 l 0 < l.length := by
  apply Decidable.byContradiction
  intro hn
  unfold qd0 at h
  rw [if_neg hn] at h
  exact h rfl
theorem next_out {l : List UInt8} (h : qd0 l 0 = z7 0) : ¬ qc2 l 0 < l.length := by
  intro hn
  unfold qd0 at h
  rw [if_pos hn] at h
  exact jn1 _ (by rw [h]; rfl)
theorem next_app {d : UInt8} (hd : Stop d) (y : List UInt8) (l : List UInt8) (h0 : (qd0 l 0).kind ≠ 0) (h1 : (qd0 l 0).kind ≠ 1) : qd0 (l ++ d :: y) 0 = qd0 l 0 ∧ qg3 (l ++ d :: y) 0 = qg3 l 0 := by
  have hl := next_in h0
  have ha : qc2 (l ++ d :: y) 0 = qc2 l 0 := by
    unfold qc2 at hl ⊢
    rw [List.drop_zero] at hl ⊢
    rw [List.drop_zero, runLen_lt _ _ _ (by omega)]
  have hla : qc2 l 0 < (l ++ d :: y).length := by rw [List.length_append]; omega
  unfold qd0 qg3
  unfold qd0 at h1
  rw [if_pos hl] at h1
  rw [ha, if_pos hl, if_pos hla, if_pos hl, if_pos hla, List.drop_append_of_le_length (Nat.le_of_lt hl)]
  cases hr : l.drop (qc2 l 0) with
  | nil => have := congrArg List.length hr; rw [List.length_drop] at this; simp at this; omega
  | cons c t =>
    rw [hr] at h1
    obtain ⟨e1, e2⟩ := first_app hd y c t h1
    rw [e1, e2]
    exact ⟨rfl, rfl⟩
theorem lx_sp {c : UInt8} (hc : spU c = true) {r : List UInt8} {L : List Tk} (h : Lx r L) : Lx (c :: r) L := by
  have ha : qc2 (c :: r) 0 = qc2 r 0 + 1 := by unfold qc2; simp [x8, hc]
  have hk : qd0 (c :: r) 0 = qd0 r 0 := by
    unfold qd0
    rw [ha]
    by_cases hl : qc2 r 0 < r.length
    · rw [if_pos hl, if_pos (by simp; omega)]; rfl
    · rw [if_neg hl, if_neg (by simp; omega)]
  have ht : qg3 (c :: r) 0 = qg3 r 0 + 1 := by
    unfold qg3
    rw [ha]
    by_cases hl : qc2 r 0 < r.length
    · rw [if_pos hl, if_pos (by simp; omega), List.drop_succ_cons]; omega
    · rw [if_neg hl, if_neg (by simp; omega)]; simp
  cases h with
  | nil h => exact .nil (by rw [hk]; exact h)
  | cons e h t => exact .cons (by rw [hk]; exact e) h (by rw [ht, List.drop_succ_cons]; exact t)
theorem lx_sps {z : List UInt8} {M : List Tk} (h : Lx z M) : ∀ l : List UInt8, l.length ≤ x8 spU l → Lx (l ++ z) M := by
  intro l
  induction l with
  | nil => intro _; exact h
  | cons c t ih =>
    intro hl
    have hc : x8 spU (c :: t) = if spU c then x8 spU t + 1 else 0 := rfl
    rw [hc] at hl
    by_cases hp : spU c = true
    · rw [if_pos hp] at hl
      exact lx_sp hp (ih (by simp at hl; omega))
    · rw [if_neg hp] at hl; simp at hl
theorem lx_app {d : UInt8} (hd : Stop d) {y : List UInt8} {M : List Tk} (hM : Lx (d :: y) M) {l : List UInt8} {L : List Tk} (h : Lx l L) : (∀ k ∈ L, k.kind ≠ 1) → Lx (l ++ d :: y) (L ++ M) := by
  induction h with
  | @nil r h =>
    intro _
    have := next_out h
    unfold qc2 at this
    rw [List.drop_zero] at this
    exact lx_sps hM r (by omega)
  | @cons r k L e h t ih =>
    intro hb
    obtain ⟨e1, e2⟩ := next_app hd y r (by rw [e]; exact h) (by rw [e]; exact hb k (by simp))
    refine .cons (by rw [e1]; exact e) h ?_
    rw [e2, List.drop_append_of_le_length (vk5 r 0)]
    exact ih (fun k hk => hb k (by simp [hk]))
theorem jn2 : ∀ (n : Nat) (l : List UInt8), l.length ≤ n → ∃ L, Lx l L := by
  intro n
  induction n with
  | zero =>
    intro l hl
    have : l = [] := List.eq_nil_of_length_eq_zero (by omega)
    subst this
    exact ⟨[], lx_end⟩
  | succ n ih =>
    intro l hl
    by_cases h : qc2 l 0 < l.length
    · have hk : qd0 l 0 = qj1 (l.drop (qc2 l 0)) := by unfold qd0; rw [if_pos h]
      have hz : 0 < qg3 l 0 := by
        unfold qg3
        rw [if_pos h]
        have := vf0 (l.drop (qc2 l 0)) (by rw [List.length_drop]; omega)
        omega
      obtain ⟨L, hL⟩ := ih (l.drop (qg3 l 0)) (by rw [List.length_drop]; omega)
      exact ⟨_, .cons rfl (by rw [hk]; exact jn1 _) hL⟩
    · exact ⟨[], .nil (by unfold qd0; rw [if_neg h])⟩
theorem stop41 : Stop 41 := ⟨rfl, rfl, rfl, rfl, rfl⟩
end
section
def Ate (ts ts' : TS) : Prop := ∃ A, ts.toks = A ++ ts'.toks ∧ ∀ k ∈ A, k.kind ≠ 1
theorem Ate.refl (ts : TS) : Ate ts ts := ⟨[], rfl, fun _ h => by cases h⟩
theorem Ate.trans {a b c : TS} (h : Ate a b) (g : Ate b c) : Ate a c := by
  obtain ⟨A, e1, h1⟩ := h
  obtain ⟨B, e2, h2⟩ := g
  refine ⟨A ++ B, by rw [e1, e2, List.append_assoc], fun k hk => ?_⟩
  rcases List.mem_append.1 hk with h | h
  · exact h1 k h
  · exact h2 k h
theorem Ate.tail {ts : TS} {n : Nat} (h : ts.tk.kind ≠ 1) : Ate ts ⟨ts.toks.tail, n⟩ := by
  cases ht : ts.toks with
  | nil => exact ⟨[], by rw [ht]; rfl, fun _ h => by cases h⟩
  | cons a r =>
    refine ⟨[a], by rw [ht]; rfl, fun k hk => ?_⟩
    simp at hk
    subst hk
    unfold TS.tk at h
    rw [ht] at h
    exact h
theorem Ate.next {ts : TS} (h : ts.tk.kind ≠ 1) : Ate ts ts.next := Ate.tail h
theorem Ate.of {ts : TS} {c : Int} (h : ts.tk.kind = c) (hc : c ≠ 1) : Ate ts ts.next := Ate.next (by rw [h]; exact hc)
theorem Ate.op {a b : TS} (h : Ate a b) (n : Nat) : Ate a ⟨b.toks, n⟩ := h
def Eats (f : TS → TRes) : Prop := ∀ ts t ts', f ts = .ok t ts' → Ate ts ts'
theorem Eats.join {f : TS → TRes} (h : Eats f) (ts : TS) (l t : Ast) (ts' : TS) (hk : ts.tk.kind ≠ 1) (he : qx7 f ts l = .ok t ts') : Ate ts ts' := by
  unfold qx7 at he
  split at he
  · rename_i hr; injection he with _ h2; subst h2; exact (Ate.next hk).trans (h _ _ _ hr)
  · cases he
theorem Eats.loop {f : TS → TRes} (h : Eats f) (ks : List Int) (h1 : ks.contains 1 = false) : ∀ n l ts t ts', qq4 f ks n l ts = .ok t ts' → Ate ts ts' := by
  intro n
  induction n with
  | zero => intro l ts t ts' he; rw [qq4] at he; injection he with _ h2; subst h2; exact Ate.refl _
  | succ n ih =>
    intro l ts t ts' he
    rw [qq4] at he
    by_cases hc : ks.contains ts.tk.kind = true
    · rw [if_pos hc] at he
      have hk : ts.tk.kind ≠ 1 := fun e => by rw [e, h1] at hc; cases hc
      split at he
      · rename_i hj; exact (h.join _ _ _ _ hk hj).trans (ih _ _ _ _ he)
      · cases he
    · rw [if_neg hc] at he
      injection he with _ h2; subst h2; exact Ate.refl _
theorem Eats.row {f : TS → TRes} (h : Eats f) (ks : List Int) (h1 : ks.contains 1 = false) : Eats (qz2 f ks) := by
  intro ts t ts' he
  unfold qz2 at he
  split at he
  · rename_i hr; exact (h _ _ _ hr).trans (h.loop ks h1 _ _ _ _ _ he)
  · cases he
theorem Eats.sign {f : TS → TRes} (h : Eats f) (o : Int) (ts : TS) (t : Ast) (ts' : TS) (hk : ts.tk.kind ≠ 1) (he : qw5 f o ts = .ok t ts') : Ate ts ts' := by
  unfold qw5 at he
  split at he
  · cases he
  · split at he
    · rename_i hr; injection he with _ h2; subst h2
      exact ((Ate.tail (n := ts.op + 1) hk).trans (h _ _ _ hr)).op _
    · cases he
theorem Eats.group {f : TS → TRes} (h : Eats f) (ts : TS) (t : Ast) (ts' : TS) (hk : ts.tk.kind ≠ 1) (he : qj9 f ts = .ok t ts') : Ate ts ts' := by
  unfold qj9 at he
  split at he
  · cases he
  · split at he
    · rename_i hr
      split at he
      · rename_i h27
        injection he with _ h2; subst h2
        exact ((Ate.tail (n := ts.op + 1) hk).trans (h _ _ _ hr)).trans (Ate.tail (by rw [h27]; decide))
      · cases he
    · cases he
theorem Eats.signed {f g : TS → TRes} (hS : Eats f) (hE : Eats g) : Eats (qd9 f g) := by
  intro ts t ts' he
  unfold qd9 at he
  by_cases h22 : ts.tk.kind = 22
  · rw [if_pos h22] at he; exact hS.sign 14 _ _ _ (by rw [h22]; decide) he
  rw [if_neg h22] at he
  by_cases h23 : ts.tk.kind = 23
  · rw [if_pos h23] at he; exact hS.sign 15 _ _ _ (by rw [h23]; decide) he
  rw [if_neg h23] at he
  by_cases h26 : ts.tk.kind = 26
  · rw [if_pos h26] at he; exact hE.group _ _ _ (by rw [h26]; decide) he
  rw [if_neg h26] at he
  by_cases h2 : ts.tk.kind = 2
  · rw [if_pos h2] at he; injection he with _ e; subst e; exact Ate.of h2 (by decide)
  rw [if_neg h2] at he
  by_cases h3 : ts.tk.kind = 3
  · rw [if_pos h3] at he; injection he with _ e; subst e; exact Ate.of h3 (by decide)
  rw [if_neg h3] at he
  by_cases h4 : ts.tk.kind = 4
  · rw [if_pos h4] at he; injection he with _ e; subst e; exact Ate.of h4 (by decide)
  rw [if_neg h4] at he
  by_cases h8 : ts.tk.kind = 8
  · rw [if_pos h8] at he; injection he with _ e; subst e; exact Ate.of h8 (by decide)
  rw [if_neg h8] at he
  by_cases h9 : ts.tk.kind = 9
  · rw [if_pos h9] at he; injection he with _ e; subst e; exact Ate.of h9 (by decide)
  rw [if_neg h9] at he
  cases he
theorem ji2 (l : Ast) (ts : TS) (t : Ast) (ts' : TS) (hk : ts.tk.kind ≠ 1) (he : tIsNull l ts = .ok t ts') : Ate ts ts' := by
  unfold tIsNull at he
  by_cases h7 : ts.next.tk.kind = 7
  · rw [if_pos h7] at he
    by_cases h15 : ts.next.next.tk.kind = 15
    · rw [if_pos h15] at he; injection he with _ e; subst e
      exact ((Ate.next hk).trans (Ate.of h7 (by decide))).trans (Ate.of h15 (by decide))
    · rw [if_neg h15] at he; cases he
  · rw [if_neg h7] at he
    by_cases h15 : ts.next.tk.kind = 15
    · rw [if_pos h15] at he; injection he with _ e; subst e
      exact (Ate.next hk).trans (Ate.of h15 (by decide))
    · rw [if_neg h15] at he; cases he
theorem je8 (l : Ast) : ∀ n xs ts t ts', qg1 l n xs ts = .ok t ts' → Ate ts ts' := by
  intro n
  induction n with
  | zero => intro xs ts t ts' he; rw [qg1] at he; cases he
  | succ n ih =>
    intro xs ts t ts' he
    rw [qg1] at he
    by_cases h28 : ts.tk.kind = 28
    · rw [if_pos h28] at he
      by_cases h4 : ts.next.tk.kind = 4
      · rw [if_pos h4] at he
        exact ((Ate.of h28 (by decide)).trans (Ate.of h4 (by decide))).trans (ih _ _ _ _ he)
      · rw [if_neg h4] at he; cases he
    · rw [if_neg h28] at he
      by_cases h27 : ts.tk.kind = 27
      · rw [if_pos h27] at he; injection he with _ e; subst e; exact Ate.of h27 (by decide)
      · rw [if_neg h27] at he; cases he
theorem eats_in (l : Ast) (ts : TS) (t : Ast) (ts' : TS) (hk : ts.tk.kind ≠ 1) (he : tInRes l ts = .ok t ts') : Ate ts ts' := by
  unfold tInRes at he
  by_cases h26 : ts.next.tk.kind = 26
  · rw [if_pos h26] at he
    by_cases h4 : ts.next.next.tk.kind = 4
    · rw [if_pos h4] at he
      exact (((Ate.next hk).trans (Ate.of h26 (by decide))).trans (Ate.of h4 (by decide))).trans (je8 l _ _ _ _ _ he)
    · rw [if_neg h4] at he; cases he
  · rw [if_neg h26] at he; cases he
theorem eats_like (l : Ast) (ts : TS) (t : Ast) (ts' : TS) (hk : ts.tk.kind ≠ 1) (he : tLike l ts = .ok t ts') : Ate ts ts' := by
  unfold tLike at he
  by_cases h4 : ts.next.tk.kind = 4
  · rw [if_pos h4] at he
    have a := (Ate.next hk).trans (Ate.of h4 (by decide))
    by_cases h13 : ts.next.next.tk.kind = 13
    · rw [if_pos h13] at he
      split at he
      · rename_i g
        injection he with _ e; subst e
        exact (a.trans (Ate.of h13 (by decide))).trans (Ate.of g.1 (by decide))
      · cases he
    · rw [if_neg h13] at he
      injection he with _ e; subst e; exact a
  · rw [if_neg h4] at he; cases he
theorem Eats.between {f : TS → TRes} (h : Eats f) (l : Ast) (ts : TS) (t : Ast) (ts' : TS) (he : qh0 f l ts = .ok t ts') : Ate ts ts' := by
  unfold qh0 at he
  by_cases h10 : ts.tk.kind = 10
  · rw [if_pos h10] at he
    split at he
    · rename_i ts1 e1
      split at he
      · rename_i h5
        split at he
        · rename_i e2
          injection he with _ e; subst e
          exact (((Ate.of h10 (by decide)).trans (h _ _ _ e1)).trans (Ate.of h5 (by decide))).trans (h _ _ _ e2)
        · cases he
      · cases he
    · cases he
  · rw [if_neg h10] at he; cases he
theorem Eats.keyword {f : TS → TRes} (h : Eats f) (bare : Bool) (l : Ast) (ts : TS) (t : Ast) (ts' : TS) (he : qf5 f bare l ts = .ok t ts') : Ate ts ts' := by
  unfold qf5 at he
  split at he
  · rename_i g; exact eats_in _ _ _ _ (by rw [g.1]; decide) he
  split at he
  · rename_i g; exact eats_like _ _ _ _ (by rw [g.1]; decide) he
  · exact h.between _ _ _ _ he
theorem Eats.test {f : TS → TRes} (h : Eats f) : Eats (qx2 f) := by
  intro ts t ts' he
  unfold qx2 at he
  split at he
  · rename_i hr
    refine (h _ _ _ hr).trans ?_
    unfold qy5 at he
    split at he
    · rename_i g
      exact h.join _ _ _ _ (by rcases g with e | e | e | e | e | e <;> rw [e] <;> decide) he
    split at he
    · rename_i g
      split at he
      · exact ji2 _ _ _ _ (by rw [g]; decide) he
      · injection he with _ h2; subst h2; exact Ate.refl _
    split at he
    · rename_i g
      split at he
      · rename_i hk; injection he with _ h2; subst h2; exact (Ate.of g (by decide)).trans (h.keyword _ _ _ _ _ hk)
      · cases he
    split at he
    · exact h.keyword _ _ _ _ _ he
    · injection he with _ h2; subst h2; exact Ate.refl _
  · cases he
theorem Eats.denied {fD fT : TS → TRes} (hD : Eats fD) (hT : Eats fT) : Eats (qg6 fD fT) := by
  intro ts t ts' he
  unfold qg6 at he
  split at he
  · rename_i g; exact hD.sign 5 _ _ _ (by rw [g]; decide) he
  · exact hT _ _ _ he
structure Eats3 (L : T3) : Prop where
  S : Eats L.S
  D : Eats L.D
  E : Eats L.E
theorem eats_up {L : T3} (h : Eats3 L) : Eats3 (tUp L) := by
  have hS := Eats.signed h.S h.E
  have hT := ((hS.row [24, 25] rfl).row [22, 23] rfl).test
  have hD := Eats.denied h.D hT
  exact ⟨hS, hD, (hD.row [5] rfl).row [6] rfl⟩
theorem eats_lvl : ∀ d, Eats3 (vd6 d) := by
  intro d
  induction d with
  | zero => exact eats_up ⟨(fun _ _ _ h => by cases h), (fun _ _ _ h => by cases h), (fun _ _ _ h => by cases h)⟩
  | succ d ih => exact eats_up ih
theorem ja7 {t : Ast} (h : js9 (qa1 t) = none) : js9 (qa1 (qf9 t)) = none := by
  have hr := vy3 t
  cases h1 : qa1 t with
  | ok c =>
    rw [h1] at hr h
    cases h2 : qa1 (qf9 t) with
    | ok d => rw [h2] at hr; cases hr; exact h
    | err q => rw [h2] at hr; cases hr
  | err p => rw [h1] at h; cases h
theorem qz1 {s : ByteArray} {t : Ast} (h : qh5 s = .ok t) : s.size ≤ 200 ∧ ∃ L, Lx s.data.toList L ∧ (∀ k ∈ L, k.kind ≠ 1) ∧ (vd6 12).E ⟨L, 0⟩ = .ok (qf9 t) ⟨[], 0⟩ ∧ js9 (qa1 (qf9 t)) = none := by
  unfold qh5 at h
  by_cases hs : s.size ≤ 200
  · rw [if_pos hs] at h
    refine ⟨hs, ?_⟩
    obtain ⟨L, hL⟩ := jn2 _ s.data.toList (Nat.le_refl _)
    have hst : Str s (v8 s st0) L := vc7 hL st0 (Nat.zero_le _) (List.drop_zero)
    have hfi := qi0 s st0 (Nat.zero_le _)
    have hsim := (va5 s 12).E (v8 s st0) ⟨L, 0⟩ hfi hst rfl
    rcases hsim.cases with ⟨t1, st, ts, e1, e2, e3, e4, e5⟩ | ⟨en, pl, e1, e2⟩
    · rw [e1] at h
      change jy3 t1 st = _ at h
      unfold jy3 at h
      by_cases hk : st.tk.kind = 0
      · rw [if_pos hk] at h
        cases hc : js9 (qa1 t1) with
        | some q => rw [hc] at h; cases h
        | none =>
          rw [hc] at h
          injection h with h
          subst h
          have hnil : ts.toks = [] := by
            cases hl : ts.toks with
            | nil => rfl
            | cons a r =>
              rw [hl] at e3
              cases e3 with
              | cons g _ => exact absurd hk g
          have hop : ts.op = 0 := ((ext_lvl (X := [z7 27]) rfl 0 12 0 rfl).E ⟨L, 0⟩ rfl _ _ e2).1
          have hts : ts = ⟨[], 0⟩ := by cases ts; simp at hnil hop; rw [hnil, hop]
          rw [hts] at e2
          obtain ⟨A, ea, hA⟩ := (eats_lvl 12).E _ _ _ e2
          refine ⟨L, hL, fun k hk => hA k ?_, e2, ja7 hc⟩
          have : L = A := by simpa using ea
          rw [← this]; exact hk
      · rw [if_neg hk] at h; cases h
    · rw [e1] at h; cases h
  · rw [if_neg hs] at h; cases h
end
section
def ShA : Ast → Prop
  | .leaf p => 0 ≤ p.op ∧ p.op ≤ 4
  | .un p x => (p.op = 5 ∨ p.op = 14 ∨ p.op = 15 ∨ p.op = 21 ∨ p.op = 22 ∨ p.op = 23) ∧ (p.op = 21 → p.texts ≠ []) ∧ (p.op = 21 ∨ p.op = 22 ∨ p.op = 23 → opA x = 0) ∧ ShA x
  | .bin p x y => (6 ≤ p.op ∧ p.op ≤ 13 ∨ 16 ≤ p.op ∧ p.op ≤ 19) ∧ ShA x ∧ ShA y
  | .tri p x y z => p.op = 20 ∧ ShA x ∧ ShA y ∧ ShA z
def ndA : Ast → Nat
  | .leaf _ => 1
  | .un p x => 1 + p.texts.length + ndA x
  | .bin _ x y => 1 + ndA x + ndA y
  | .tri _ x y z => 1 + ndA x + ndA y + ndA z
theorem opOf_rng (k : Int) : 6 ≤ jp7 k ∧ jp7 k ≤ 13 ∨ 16 ≤ jp7 k ∧ jp7 k ≤ 19 := by
  unfold jp7
  have ite' : ∀ {c : Prop} [Decidable c] {a b : Int}, (6 ≤ a ∧ a ≤ 13 ∨ 16 ≤ a ∧ a ≤ 19) → (6 ≤ b ∧ b ≤ 13 ∨ 16 ≤ b ∧ b ≤ 19) → (6 ≤ (if c then a else b) ∧ (if c then a else b) ≤ 13 ∨ 16 ≤ (if c then a else b) ∧ (if c then a else b) ≤ 19) := by
    intro c _ a b ha hb
    by_cases h : c
    · rw [if_pos h]; exact ha
    · rw [if_neg h]; exact hb
  repeat refine ite' (by decide) ?_
  decide
def Nd (f : TS → TRes) : Prop := ∀ ts t ts', f ts = .ok t ts' → ShA t ∧ ndA t + ts'.toks.length ≤ ts.toks.length
def NdT (l : Ast) (ts : TS) (t : Ast) (ts' : TS) : Prop := ShA l → ShA t ∧ ndA t + ts'.toks.length ≤ ndA l + ts.toks.length
theorem qi6 {ts : TS} (h : ts.toks ≠ []) : ts.next.toks.length + 1 = ts.toks.length := by
  cases ht : ts.toks with
  | nil => exact absurd ht h
  | cons a r => show (ts.toks.tail).length + 1 = _; rw [ht]; rfl
theorem Nd.join {f : TS → TRes} (h : Nd f) (ts : TS) (l t : Ast) (ts' : TS) (hne : ts.toks ≠ []) (he : qx7 f ts l = .ok t ts') : NdT l ts t ts' := by
  intro hl
  unfold qx7 at he
  split at he
  · rename_i hr
    injection he with h1 h2
    subst h1 h2
    obtain ⟨a, b⟩ := h _ _ _ hr
    have := qi6 hne
    refine ⟨⟨opOf_rng _, hl, a⟩, ?_⟩
    show 1 + ndA l + _ + _ ≤ _
    omega
  · cases he
theorem Nd.loop {f : TS → TRes} (h : Nd f) (ks : List Int) (h0 : ks.contains 0 = false) : ∀ n l ts t ts', qq4 f ks n l ts = .ok t ts' → NdT l ts t ts' := by
  intro n
  induction n with
  | zero => intro l ts t ts' he hl; rw [qq4] at he; injection he with h1 h2; subst h1 h2; exact ⟨hl, Nat.le_refl _⟩
  | succ n ih =>
    intro l ts t ts' he hl
    rw [qq4] at he
    by_cases hc : ks.contains ts.tk.kind = true
    · rw [if_pos hc] at he
      have hne : ts.toks ≠ [] := by
        intro e
        have : ts.tk.kind = 0 := by unfold TS.tk; rw [e]; rfl
        rw [this, h0] at hc
        cases hc
      split at he
      · rename_i hj
        obtain ⟨a, b⟩ := h.join _ _ _ _ hne hj hl
        obtain ⟨c, d⟩ := ih _ _ _ _ he a
        exact ⟨c, by omega⟩
      · cases he
    · rw [if_neg hc] at he
      injection he with h1 h2; subst h1 h2; exact ⟨hl, Nat.le_refl _⟩
theorem Nd.row {f : TS → TRes} (h : Nd f) (ks : List Int) (h0 : ks.contains 0 = false) : Nd (qz2 f ks) := by
  intro ts t ts' he
  unfold qz2 at he
  split at he
  · rename_i hr
    obtain ⟨a, b⟩ := h _ _ _ hr
    obtain ⟨c, d⟩ := h.loop ks h0 _ _ _ _ _ he a
    exact ⟨c, by omega⟩
  · cases he
theorem Nd.sign {f : TS → TRes} (h : Nd f) (o : Int) (ho : o = 5 ∨ o = 14 ∨ o = 15) (ts : TS) (t : Ast) (ts' : TS) (hne : ts.toks ≠ []) (he : qw5 f o ts = .ok t ts') : ShA t ∧ ndA t + ts'.toks.length ≤ ts.toks.length := by
  unfold qw5 at he
  split at he
  · cases he
  · split at he
    · rename_i ts1 hr
      injection he with h1 h2
      subst h1 h2
      obtain ⟨a, b⟩ := h _ _ _ hr
      have := qi6 hne
      refine ⟨⟨by simp only; omega, fun e => ?_, fun e => ?_, a⟩, ?_⟩
      · simp only at e; omega
      · simp only at e; omega
      · show 1 + 0 + _ + ts1.toks.length ≤ _
        have e : (tIn ts).toks.length = ts.next.toks.length := rfl
        omega
    · cases he
theorem Nd.group {f : TS → TRes} (h : Nd f) (ts : TS) (t : Ast) (ts' : TS) (he : qj9 f ts = .ok t ts') : ShA t ∧ ndA t + ts'.toks.length ≤ ts.toks.length := by
  unfold qj9 at he
  split at he
  · cases he
  · split at he
    · rename_i ts1 hr
      split at he
      · injection he with h1 h2
        subst h1 h2
        obtain ⟨a, b⟩ := h _ _ _ hr
        have e : (tIn ts).toks.length ≤ ts.toks.length := vf1 _
        have e2 := vf1 ts1.toks
        refine ⟨a, ?_⟩
        show _ + ts1.toks.tail.length ≤ _
        omega
      · cases he
    · cases he
theorem vi3 {o n : Int} {s : List UInt8} (ho : 0 ≤ o ∧ o ≤ 4) {ts : TS} (hne : ts.toks ≠ []) : ShA (jk3 o n s) ∧ ndA (jk3 o n s) + ts.next.toks.length ≤ ts.toks.length := by
  have := qi6 hne
  exact ⟨ho, by show 1 + _ ≤ _; omega⟩
theorem Nd.signed {f g : TS → TRes} (hS : Nd f) (hE : Nd g) : Nd (qd9 f g) := by
  intro ts t ts' he
  unfold qd9 at he
  by_cases h22 : ts.tk.kind = 22
  · rw [if_pos h22] at he; exact hS.sign 14 (by omega) _ _ _ (j8 (by decide) h22) he
  rw [if_neg h22] at he
  by_cases h23 : ts.tk.kind = 23
  · rw [if_pos h23] at he; exact hS.sign 15 (by omega) _ _ _ (j8 (by decide) h23) he
  rw [if_neg h23] at he
  by_cases h26 : ts.tk.kind = 26
  · rw [if_pos h26] at he; exact hE.group _ _ _ he
  rw [if_neg h26] at he
  by_cases h2 : ts.tk.kind = 2
  · rw [if_pos h2] at he; injection he with e1 e2; subst e1 e2; exact vi3 (by decide) (j8 (by decide) h2)
  rw [if_neg h2] at he
  by_cases h3 : ts.tk.kind = 3
  · rw [if_pos h3] at he; injection he with e1 e2; subst e1 e2; exact vi3 (by decide) (j8 (by decide) h3)
  rw [if_neg h3] at he
  by_cases h4 : ts.tk.kind = 4
  · rw [if_pos h4] at he; injection he with e1 e2; subst e1 e2; exact vi3 (by decide) (j8 (by decide) h4)
  rw [if_neg h4] at he
  by_cases h8 : ts.tk.kind = 8
  · rw [if_pos h8] at he; injection he with e1 e2; subst e1 e2; exact vi3 (by decide) (j8 (by decide) h8)
  rw [if_neg h8] at he
  by_cases h9 : ts.tk.kind = 9
  · rw [if_pos h9] at he; injection he with e1 e2; subst e1 e2; exact vi3 (by decide) (j8 (by decide) h9)
  rw [if_neg h9] at he
  cases he
theorem nd_isNull (l : Ast) (h0 : opA l = 0) (ts : TS) (t : Ast) (ts' : TS) (hne : ts.toks ≠ []) (he : tIsNull l ts = .ok t ts') : NdT l ts t ts' := by
  intro hl
  have n0 := qi6 hne
  unfold tIsNull at he
  by_cases h7 : ts.next.tk.kind = 7
  · rw [if_pos h7] at he
    have n1 := qi6 (j8 (by decide) h7)
    by_cases h15 : ts.next.next.tk.kind = 15
    · rw [if_pos h15] at he; injection he with e1 e2; subst e1 e2
      have n2 := qi6 (j8 (by decide) h15)
      exact ⟨⟨by simp, fun e => by simp at e, fun e => by simp at e, ⟨by simp, fun e => by simp at e, fun _ => h0, hl⟩⟩, by show 1 + 0 + (1 + 0 + ndA l) + _ ≤ _; omega⟩
    · rw [if_neg h15] at he; cases he
  · rw [if_neg h7] at he
    by_cases h15 : ts.next.tk.kind = 15
    · rw [if_pos h15] at he; injection he with e1 e2; subst e1 e2
      have n1 := qi6 (j8 (by decide) h15)
      exact ⟨⟨by simp, fun e => by simp at e, fun _ => h0, hl⟩, by show 1 + 0 + ndA l + _ ≤ _; omega⟩
    · rw [if_neg h15] at he; cases he
theorem nd_inLoop (l : Ast) (h0 : opA l = 0) : ∀ n xs ts t ts', xs ≠ [] → ShA l → qg1 l n xs ts = .ok t ts' → ShA t ∧ ndA t + ts'.toks.length ≤ 1 + xs.length + ndA l + ts.toks.length := by
  intro n
  induction n with
  | zero => intro xs ts t ts' _ _ he; rw [qg1] at he; cases he
  | succ n ih =>
    intro xs ts t ts' hx hl he
    rw [qg1] at he
    by_cases h28 : ts.tk.kind = 28
    · rw [if_pos h28] at he
      have n1 := qi6 (j8 (by decide) h28)
      by_cases h4 : ts.next.tk.kind = 4
      · rw [if_pos h4] at he
        have n2 := qi6 (j8 (by decide) h4)
        obtain ⟨a, b⟩ := ih _ _ _ _ (by simp) hl he
        refine ⟨a, ?_⟩
        rw [List.length_append] at b
        simp only [List.length_singleton] at b
        omega
      · rw [if_neg h4] at he; cases he
    · rw [if_neg h28] at he
      by_cases h27 : ts.tk.kind = 27
      · rw [if_pos h27] at he; injection he with e1 e2; subst e1 e2
        have n1 := qi6 (j8 (by decide) h27)
        exact ⟨⟨by simp, fun _ => hx, fun _ => h0, hl⟩, by show 1 + xs.length + ndA l + _ ≤ _; omega⟩
      · rw [if_neg h27] at he; cases he
theorem nd_in (l : Ast) (h0 : opA l = 0) (ts : TS) (t : Ast) (ts' : TS) (hne : ts.toks ≠ []) (he : tInRes l ts = .ok t ts') : NdT l ts t ts' := by
  intro hl
  have n0 := qi6 hne
  unfold tInRes at he
  by_cases h26 : ts.next.tk.kind = 26
  · rw [if_pos h26] at he
    have n1 := qi6 (j8 (by decide) h26)
    by_cases h4 : ts.next.next.tk.kind = 4
    · rw [if_pos h4] at he
      have n2 := qi6 (j8 (by decide) h4)
      obtain ⟨a, b⟩ := nd_inLoop l h0 _ _ _ _ _ (by simp) hl he
      simp only [List.length_singleton] at b
      exact ⟨a, by omega⟩
    · rw [if_neg h4] at he; cases he
  · rw [if_neg h26] at he; cases he
theorem nd_like (l : Ast) (h0 : opA l = 0) (ts : TS) (t : Ast) (ts' : TS) (hne : ts.toks ≠ []) (he : tLike l ts = .ok t ts') : NdT l ts t ts' := by
  intro hl
  have n0 := qi6 hne
  have n1 := y5 ts.next
  have n2 := y5 ts.next.next
  have n3 := y5 ts.next.next.next
  unfold tLike at he
  split at he
  · split at he
    · split at he
      · injection he with e1 e2; subst e1 e2
        exact ⟨⟨by simp, fun e => by simp at e, fun _ => h0, hl⟩, by show 1 + 0 + ndA l + _ ≤ _; omega⟩
      · cases he
    · injection he with e1 e2; subst e1 e2
      exact ⟨⟨by simp, fun e => by simp at e, fun _ => h0, hl⟩, by show 1 + 0 + ndA l + _ ≤ _; omega⟩
  · cases he
theorem Nd.between {f : TS → TRes} (h : Nd f) (l : Ast) (ts : TS) (t : Ast) (ts' : TS) (he : qh0 f l ts = .ok t ts') : NdT l ts t ts' := by
  intro hl
  unfold qh0 at he
  by_cases h10 : ts.tk.kind = 10
  · rw [if_pos h10] at he
    have n0 := qi6 (j8 (by decide) h10)
    split at he
    · rename_i ts1 e1
      obtain ⟨a, b⟩ := h _ _ _ e1
      split at he
      · split at he
        · rename_i e2
          obtain ⟨c, d⟩ := h _ _ _ e2
          have n1 := y5 ts1
          injection he with e3 e4
          subst e3 e4
          exact ⟨⟨rfl, hl, a, c⟩, by show 1 + ndA l + _ + _ + _ ≤ _; omega⟩
        · cases he
      · cases he
    · cases he
  · rw [if_neg h10] at he; cases he
theorem Nd.keyword {f : TS → TRes} (h : Nd f) (bare : Bool) (l : Ast) (hb : bare = true → opA l = 0) (ts : TS) (t : Ast) (ts' : TS) (he : qf5 f bare l ts = .ok t ts') : NdT l ts t ts' := by
  unfold qf5 at he
  split at he
  · rename_i g; exact nd_in _ (hb g.2) _ _ _ (j8 (by decide) g.1) he
  split at he
  · rename_i g; exact nd_like _ (hb g.2) _ _ _ (j8 (by decide) g.1) he
  · exact h.between _ _ _ _ he
theorem Nd.test {f : TS → TRes} (h : Nd f) : Nd (qx2 f) := by
  intro ts t ts' he
  unfold qx2 at he
  split at he
  · rename_i ts1 hr
    obtain ⟨a, b⟩ := h _ _ _ hr
    suffices hs : ∀ l, ShA l → qy5 f (ts.tk.kind == 2 && opA l == 0) l ts1 = .ok t ts' → NdT l ts1 t ts' by
      obtain ⟨c, d⟩ := hs _ a he a
      exact ⟨c, by omega⟩
    intro l hl he
    have hbare : (ts.tk.kind == 2 && opA l == 0) = true → opA l = 0 := fun e => by simp only [Bool.and_eq_true, beq_iff_eq] at e; exact e.2
    unfold qy5 at he
    split at he
    · rename_i g
      refine h.join _ _ _ _ ?_ he
      rcases g with e | e | e | e | e | e <;> exact j8 (by decide) e
    split at he
    · rename_i g
      split at he
      · rename_i gb; exact nd_isNull _ (hbare gb) _ _ _ (j8 (by decide) g) he
      · injection he with e1 e2; subst e1 e2; exact fun _ => ⟨hl, Nat.le_refl _⟩
    split at he
    · rename_i g
      have n0 := qi6 (j8 (by decide) g)
      split at he
      · rename_i hk
        injection he with e1 e2; subst e1 e2
        intro hl
        obtain ⟨c, d⟩ := h.keyword _ _ hbare _ _ _ hk hl
        exact ⟨⟨by simp, fun e => by simp at e, fun e => by simp at e, c⟩, by show 1 + 0 + _ + _ ≤ _; omega⟩
      · cases he
    split at he
    · exact h.keyword _ _ hbare _ _ _ he
    · injection he with e1 e2; subst e1 e2; exact fun _ => ⟨hl, Nat.le_refl _⟩
  · cases he
theorem Nd.denied {fD fT : TS → TRes} (hD : Nd fD) (hT : Nd fT) : Nd (qg6 fD fT) := by
  intro ts t ts' he
  unfold qg6 at he
  split at he
  · rename_i g; exact hD.sign 5 (by omega) _ _ _ (j8 (by decide) g) he
  · exact hT _ _ _ he
structure Nd3 (L : T3) : Prop where
  S : Nd L.S
  D : Nd L.D
  E : Nd L.E
theorem nd_up {L : T3} (h : Nd3 L) : Nd3 (tUp L) := by
  have hS := Nd.signed h.S h.E
  have hT := ((hS.row [24, 25] rfl).row [22, 23] rfl).test
  have hD := Nd.denied h.D hT
  exact ⟨hS, hD, (hD.row [5] rfl).row [6] rfl⟩
theorem nd_lvl : ∀ d, Nd3 (vd6 d) := by
  intro d
  induction d with
  | zero => exact nd_up ⟨(fun _ _ _ h => by cases h), (fun _ _ _ h => by cases h), (fun _ _ _ h => by cases h)⟩
  | succ d ih => exact nd_up ih
theorem lx_len {l : List UInt8} {L : List Tk} (h : Lx l L) : L.length ≤ l.length := by
  induction h with
  | nil _ => exact Nat.zero_le _
  | @cons r k L e h t ih =>
    have hl := next_in (l := r) (by rw [e]; exact h)
    have hz : 0 < qg3 r 0 := by
      unfold qg3
      rw [if_pos hl]
      have := vf0 (r.drop (qc2 r 0)) (by rw [List.length_drop]; omega)
      omega
    have := vk5 r 0
    rw [List.length_drop] at ih
    simp only [List.length_cons]
    omega
theorem sh_erase : ∀ t, ShA (qf9 t) → ShA t := by
  intro t
  induction t with
  | leaf p => exact fun h => h
  | un p x ih => exact fun h => ⟨h.1, h.2.1, fun e => by rw [← jc6]; exact h.2.2.1 e, ih h.2.2.2⟩
  | bin p x y ihx ihy => exact fun h => ⟨h.1, ihx h.2.1, ihy h.2.2⟩
  | tri p x y z ihx ihy ihz => exact fun h => ⟨h.1, ihx h.2.1, ihy h.2.2.1, ihz h.2.2.2⟩
theorem nd_erase : ∀ t, ndA (qf9 t) = ndA t := by
  intro t
  induction t with
  | leaf p => rfl
  | un p x ih => show 1 + _ + ndA (qf9 x) = _; rw [ih]; rfl
  | bin p x y ihx ihy => show 1 + ndA (qf9 x) + ndA (qf9 y) = _; rw [ihx, ihy]; rfl
  | tri p x y z ihx ihy ihz => show 1 + ndA (qf9 x) + ndA (qf9 y) + ndA (qf9 z) = _; rw [ihx, ihy, ihz]; rfl
theorem vv7 {s : ByteArray} {t : Ast} (h : qh5 s = .ok t) : ShA t ∧ ndA t ≤ 200 := by
  obtain ⟨hs, L, hL, _, hr, _⟩ := qz1 h
  obtain ⟨a, b⟩ := (nd_lvl 12).E _ _ _ hr
  have := lx_len hL
  rw [qb3] at this
  rw [nd_erase] at b
  exact ⟨sh_erase t a, by simp only [List.length_nil] at b; show ndA t ≤ 200; have e : (⟨L, 0⟩ : TS).toks.length = L.length := rfl; omega⟩
end
section
def Bq (p : Pay) : Prop := p.esc.length ≤ 1 ∧ ∀ x ∈ p.texts, x.length ≤ 200
def BqA : Ast → Prop
  | .leaf p => Bq p
  | .un p x => Bq p ∧ BqA x
  | .bin p x y => Bq p ∧ BqA x ∧ BqA y
  | .tri p x y z => Bq p ∧ BqA x ∧ BqA y ∧ BqA z
theorem bq0 (op pl num : Int) : Bq ⟨op, pl, num, [], [], []⟩ := ⟨by simp, by simp⟩
theorem bq1 {op pl num : Int} {s : List UInt8} : Bq ⟨op, pl, num, s, [], []⟩ := ⟨by simp, by simp⟩
def QGood (f : St → Res) : Prop := ∀ st t st', ja4 st → f st = .ok t st' → BqA t ∧ ja4 st'
def vx6 (g : Ast → St → Res) : Prop := ∀ l st t st', BqA l → ja4 st → g l st = .ok t st' → BqA t ∧ ja4 st'
theorem QGood.join {s : ByteArray} (H : s.size ≤ 200) {f : St → Res} (h : QGood f) : ∀ st l t st', BqA l → qb6 s f st l = .ok t st' → BqA t ∧ ja4 st' := by
  intro st l t st' hl he
  unfold qb6 at he
  split at he
  · rename_i r st2 hr; injection he with h1 h2; subst h1; subst h2
    have := h _ _ _ (j7 H st) hr
    exact ⟨⟨(bq0 _ _ _), hl, this.1⟩, this.2⟩
  · cases he
theorem QGood.loop {s : ByteArray} (H : s.size ≤ 200) {f : St → Res} {ks : List Int} (h : QGood f) : ∀ n l st t st', BqA l → ja4 st → qa6 s f ks n l st = .ok t st' → BqA t ∧ ja4 st' := by
  intro n
  induction n with
  | zero => intro l st t st' hl hs he; rw [qa6] at he; injection he with h1 h2; subst h1; subst h2; exact ⟨hl, hs⟩
  | succ n ih =>
    intro l st t st' hl hs he
    rw [qa6] at he
    split at he
    · split at he
      · rename_i hj; have := h.join H _ _ _ _ hl hj; exact ih _ _ _ _ this.1 this.2 he
      · cases he
    · injection he with h1 h2; subst h1; subst h2; exact ⟨hl, hs⟩
theorem QGood.row {s : ByteArray} (H : s.size ≤ 200) {f : St → Res} {ks : List Int} (h : QGood f) : QGood (qg4 s f ks) := by
  intro st t st' hs he
  unfold qg4 at he
  split at he
  · rename_i hr; have := h _ _ _ hs hr; exact h.loop H _ _ _ _ _ this.1 this.2 he
  · cases he
theorem QGood.sign {s : ByteArray} (H : s.size ≤ 200) {f : St → Res} (h : QGood f) (o : Int) : QGood (qg5 s f o) := by
  intro st t st' _ he
  unfold qg5 at he
  split at he
  · cases he
  · split at he
    · rename_i hr; injection he with h1 h2; subst h1; subst h2
      have := h (qz3 s st) _ _ (j7 H st) hr
      exact ⟨⟨(bq0 _ _ _), this.1⟩, this.2⟩
    · cases he
theorem QGood.group {s : ByteArray} (H : s.size ≤ 200) {f : St → Res} (h : QGood f) : QGood (qh6 s f) := by
  intro st t st' _ he
  unfold qh6 at he
  split at he
  · cases he
  · split at he
    · rename_i hr; split at he
      · injection he with h1 h2; subst h1; subst h2
        exact ⟨(h (qz3 s st) _ _ (j7 H st) hr).1, j7 H _⟩
      · cases he
    · cases he
theorem QGood.signed {s : ByteArray} (H : s.size ≤ 200) {fS fE : St → Res} (hS : QGood fS) (hE : QGood fE) : QGood (qb0 s fS fE) := by
  intro st t st' hs he
  unfold qb0 at he
  split at he
  · exact hS.sign H 14 _ _ _ hs he
  split at he
  · exact hS.sign H 15 _ _ _ hs he
  split at he
  · exact hE.group H _ _ _ hs he
  split at he
  · injection he with h1 h2; subst h1; subst h2; exact ⟨bq1, j7 H st⟩
  split at he
  · injection he with h1 h2; subst h1; subst h2; exact ⟨(bq0 _ _ _), j7 H st⟩
  split at he
  · injection he with h1 h2; subst h1; subst h2; exact ⟨bq1, j7 H st⟩
  split at he
  · injection he with h1 h2; subst h1; subst h2; exact ⟨(bq0 _ _ _), j7 H st⟩
  split at he
  · injection he with h1 h2; subst h1; subst h2; exact ⟨(bq0 _ _ _), j7 H st⟩
  · cases he
theorem bq_isNull {s : ByteArray} (H : s.size ≤ 200) : vx6 (qc9 s) := by
  intro l st t st' hl _ he
  unfold qc9 at he
  split at he
  · split at he
    · injection he with h1 h2; subst h1; subst h2; exact ⟨⟨(bq0 _ _ _), (bq0 _ _ _), hl⟩, j7 H _⟩
    · cases he
  · split at he
    · injection he with h1 h2; subst h1; subst h2; exact ⟨⟨(bq0 _ _ _), hl⟩, j7 H _⟩
    · cases he
theorem bq_inLoop {s : ByteArray} (H : s.size ≤ 200) {l : Ast} {pl : Nat} (hl : BqA l) : ∀ n ts st t st', (∀ x ∈ ts, x.length ≤ 200) → qf7 s l pl n ts st = .ok t st' → BqA t ∧ ja4 st' := by
  intro n
  induction n with
  | zero => intro ts st t st' _ he; rw [qf7] at he; cases he
  | succ n ih =>
    intro ts st t st' hn he
    rw [qf7] at he
    split at he
    · split at he
      · refine ih _ _ _ _ (fun x hx => ?_) he
        rcases List.mem_append.1 hx with hx | hx
        · exact hn x hx
        · simp at hx; subst hx; exact j7 H st
      · cases he
    · split at he
      · injection he with h1 h2; subst h1; subst h2; exact ⟨⟨⟨by simp, hn⟩, hl⟩, j7 H _⟩
      · cases he
theorem bq_in {s : ByteArray} (H : s.size ≤ 200) : vx6 (qm8 s) := by
  intro l st t st' hl _ he
  unfold qm8 at he
  split at he
  · split at he
    · exact bq_inLoop H hl _ _ _ _ _ (fun x hx => by simp at hx; subst hx; exact j7 H _) he
    · cases he
  · cases he
theorem jz1 {s : ByteArray} {ft : Tk} {fp : Nat} {st : St} {str : List UInt8} {st' : St} (h : qz4 s ft fp st = .ok str st') : str.length ≤ 1 := by
  unfold qz4 at h
  split at h
  · split at h
    · rename_i h1
      split at h
      · injection h with e1 _; subst e1; omega
      · cases h
    · cases h
  · cases h
theorem bq_like {s : ByteArray} (H : s.size ≤ 200) : vx6 (qd8 s) := by
  intro l st t st' hl _ he
  unfold qd8 at he
  split at he
  · split at he
    · split at he
      · rename_i hk; injection he with h1 h2; subst h1; subst h2; rw [(vc0 hk).2]; exact ⟨⟨⟨jz1 hk, by simp⟩, hl⟩, j7 H _⟩
      · cases he
    · injection he with h1 h2; subst h1; subst h2; exact ⟨⟨⟨by simp, by simp⟩, hl⟩, j7 H _⟩
  · cases he
theorem QGood.between {s : ByteArray} (H : s.size ≤ 200) {f : St → Res} (h : QGood f) : vx6 (qd5 s f) := by
  intro l st t st' hl _ he
  unfold qd5 at he
  split at he
  · split at he
    · rename_i h1; split at he
      · split at he
        · rename_i h2; injection he with h3 h4; subst h3; subst h4
          have a := h _ _ _ (j7 H _) h1
          have b := h _ _ _ (j7 H _) h2
          exact ⟨⟨(bq0 _ _ _), hl, a.1, b.1⟩, b.2⟩
        · cases he
      · cases he
    · cases he
  · cases he
theorem QGood.keyword {s : ByteArray} (H : s.size ≤ 200) {f : St → Res} (h : QGood f) (bare : Bool) : vx6 (y6 s f (qm8 s) (qd8 s) bare) := by
  intro l st t st' hl hs he
  unfold y6 at he
  split at he
  · exact bq_in H _ _ _ _ hl hs he
  split at he
  · exact bq_like H _ _ _ _ hl hs he
  · exact h.between H _ _ _ _ hl hs he
theorem QGood.test {s : ByteArray} (H : s.size ≤ 200) {f : St → Res} (h : QGood f) : QGood (qi8 s f (qm8 s) (qd8 s)) := by
  intro st t st' hs he
  unfold qi8 at he
  split at he
  · rename_i hr
    obtain ⟨hl, hs1⟩ := h _ _ _ hs hr
    unfold x7 at he
    split at he
    · exact h.join H _ _ _ _ hl he
    split at he
    · split at he
      · exact bq_isNull H _ _ _ _ hl hs1 he
      · injection he with h1 h2; subst h1; subst h2; exact ⟨hl, hs1⟩
    split at he
    · split at he
      · rename_i hk; injection he with h1 h2; subst h1; subst h2
        have := h.keyword H _ _ _ _ _ hl (j7 H _) hk
        exact ⟨⟨(bq0 _ _ _), this.1⟩, this.2⟩
      · cases he
    split at he
    · exact h.keyword H _ _ _ _ _ hl hs1 he
    · injection he with h1 h2; subst h1; subst h2; exact ⟨hl, hs1⟩
  · cases he
theorem QGood.denied {s : ByteArray} (H : s.size ≤ 200) {fD fT : St → Res} (hD : QGood fD) (hT : QGood fT) : QGood (qe6 s fD fT) := by
  intro st t st' hs he
  unfold qe6 at he
  split at he
  · exact hD.sign H 5 _ _ _ hs he
  · exact hT _ _ _ hs he
structure QGood3 (L : L3) : Prop where
  S : QGood L.S
  D : QGood L.D
  E : QGood L.E
theorem up3_bq {s : ByteArray} (H : s.size ≤ 200) {L : L3} (h : QGood3 L) : QGood3 (up3 s L) := by
  have hS := QGood.signed (s := s) H h.S h.E
  have hD := QGood.denied (s := s) H h.D (QGood.test (s := s) H ((hS.row (s := s) H (ks := [24, 25])).row (s := s) H (ks := [22, 23])))
  exact ⟨hS, hD, (hD.row (s := s) H (ks := [5])).row (s := s) H (ks := [6])⟩
theorem lvl_bq (s : ByteArray) (H : s.size ≤ 200) : ∀ d, QGood3 (lvl s d) := by
  intro d
  induction d with
  | zero => exact up3_bq H ⟨(fun _ _ _ _ h => by cases h), (fun _ _ _ _ h => by cases h), (fun _ _ _ _ h => by cases h)⟩
  | succ d ih => exact up3_bq H ih
end
section
theorem group_up (L : T3) (a r : List Tk) (o : Nat) (ho : o ≠ 12) (t : Ast) (h : L.E ⟨a, o + 1⟩ = .ok t ⟨z7 27 :: r, o + 1⟩) : (tUp L).S ⟨z7 26 :: a, o⟩ = .ok t ⟨r, o⟩ := by
  show qd9 L.S L.E ⟨z7 26 :: a, o⟩ = _
  have e : qd9 L.S L.E ⟨z7 26 :: a, o⟩ = qj9 L.E ⟨z7 26 :: a, o⟩ := rfl
  rw [e]
  unfold qj9
  rw [if_neg ho]
  show (match L.E ⟨a, o + 1⟩ with
    | .ok t ts' => if ts'.tk.kind = 27 then TRes.ok t ⟨ts'.toks.tail, o⟩ else .err 2
    | .err en => .err en) = _
  rw [h]
  rfl
theorem group_no (L : T3) (a : List Tk) (o : Nat) (ho : o ≠ 12) (en : Int) (h : L.E ⟨a, o + 1⟩ = .err en) : (tUp L).S ⟨z7 26 :: a, o⟩ = .err en := by
  show qd9 L.S L.E ⟨z7 26 :: a, o⟩ = _
  have e : qd9 L.S L.E ⟨z7 26 :: a, o⟩ = qj9 L.E ⟨z7 26 :: a, o⟩ := rfl
  rw [e]
  unfold qj9
  rw [if_neg ho]
  show (match L.E ⟨a, o + 1⟩ with
    | .ok t ts' => if ts'.tk.kind = 27 then TRes.ok t ⟨ts'.toks.tail, o⟩ else .err 2
    | .err en => .err en) = _
  rw [h]
theorem vv6 {f : TS → TRes} {ks : List Int} {ts : TS} {t : Ast} {r : List Tk} {o : Nat} (h : f ts = .ok t ⟨r, o⟩) (hk : ks.contains (hd r).kind = false) : qz2 f ks ts = .ok t ⟨r, o⟩ := by
  unfold qz2
  rw [h]
  show qq4 f ks (r.length + 1) t ⟨r, o⟩ = _
  rw [qq4]
  show (if ks.contains (hd r).kind = true then _ else _) = _
  rw [if_neg (by rw [hk]; decide)]
theorem jq7 {f : TS → TRes} {ks : List Int} {ts : TS} {en : Int} (h : f ts = .err en) : qz2 f ks ts = .err en := by
  unfold qz2
  rw [h]
def Plain (k : Int) : Prop := k = 0 ∨ k = 5 ∨ k = 6 ∨ k = 27
theorem jw0 (f : TS → TRes) (bare : Bool) (l : Ast) (ts : TS) (h : Plain ts.tk.kind) : qy5 f bare l ts = .ok l ts := by
  unfold qy5
  rcases h with e | e | e | e <;> rw [e] <;> rfl
theorem denied_up (L : T3) (ts : TS) (h7 : ts.tk.kind ≠ 7) (t : Ast) (r : List Tk) (o : Nat) (h : (tUp L).S ts = .ok t ⟨r, o⟩) (hr : Plain (hd r).kind) : (tUp L).D ts = .ok t ⟨r, o⟩ := by
  show qg6 L.D _ ts = _
  unfold qg6
  rw [if_neg h7]
  have h1 : qz2 (qd9 L.S L.E) [24, 25] ts = .ok t ⟨r, o⟩ := vv6 h (by rcases hr with e | e | e | e <;> rw [e] <;> rfl)
  have h2 : qz2 (qz2 (qd9 L.S L.E) [24, 25]) [22, 23] ts = .ok t ⟨r, o⟩ := vv6 h1 (by rcases hr with e | e | e | e <;> rw [e] <;> rfl)
  unfold qx2
  rw [h2]
  exact jw0 _ _ _ _ hr
theorem denied_no (L : T3) (ts : TS) (h7 : ts.tk.kind ≠ 7) (en : Int) (h : (tUp L).S ts = .err en) : (tUp L).D ts = .err en := by
  show qg6 L.D _ ts = _
  unfold qg6
  rw [if_neg h7]
  have h2 : qz2 (qz2 (qd9 L.S L.E) [24, 25]) [22, 23] ts = .err en := jq7 (jq7 h)
  unfold qx2
  rw [h2]
theorem paren {d o : Nat} (ho : o + d + 1 = 12) {La r : List Tk} {e : Ast} (h : (vd6 12).E ⟨La, 0⟩ = .ok e ⟨[], 0⟩) (hr : Plain (hd r).kind) :
    (vd6 (d + 1)).D ⟨z7 26 :: (La ++ z7 27 :: r), o⟩ = .err 3 ∨ (vd6 (d + 1)).D ⟨z7 26 :: (La ++ z7 27 :: r), o⟩ = .ok e ⟨r, o⟩ := by
  have hX : Clo (z7 27 :: r) := rfl
  have hx := ext_lvl hX (o + 1) d 0 (by omega)
  rw [show d + (o + 1) = 12 by omega] at hx
  obtain ⟨_, h3 | h3⟩ := hx.E ⟨La, 0⟩ rfl _ _ h
  · left
    have h4 : (vd6 d).E ⟨La ++ z7 27 :: r, o + 1⟩ = .err 3 := by
      have := h3
      unfold sh at this
      rw [Nat.zero_add] at this
      exact this
    refine denied_no (vd6 d) _ ?_ 3 (group_no (vd6 d) _ o (by omega) 3 h4)
    show (26 : Int) ≠ 7
    decide
  · right
    have h4 : (vd6 d).E ⟨La ++ z7 27 :: r, o + 1⟩ = .ok e ⟨z7 27 :: r, o + 1⟩ := by
      have := h3
      unfold sh at this
      rw [Nat.zero_add] at this
      exact this
    refine denied_up (vd6 d) _ ?_ e r o (group_up (vd6 d) _ r o (by omega) e h4) hr
    show (26 : Int) ≠ 7
    decide
theorem jc7 {La : List Tk} {e : Ast} (h : (vd6 12).E ⟨La, 0⟩ = .ok e ⟨[], 0⟩) :
    (vd6 12).E ⟨z7 26 :: (La ++ [z7 27]), 0⟩ = .err 3 ∨ (vd6 12).E ⟨z7 26 :: (La ++ [z7 27]), 0⟩ = .ok e ⟨[], 0⟩ := by
  have hE : (vd6 12).E = qz2 (qz2 (vd6 12).D [5]) [6] := rfl
  rw [hE]
  rcases paren (d := 11) (o := 0) rfl (r := []) h (.inl rfl) with a | a
  · left; exact jq7 (jq7 a)
  · right; exact vv6 (vv6 a rfl) rfl
theorem vn9 (s : ByteArray) (hs : s.size ≤ 200) (L : List Tk) (hL : Lx s.data.toList L) (en : Int) (h : (vd6 12).E ⟨L, 0⟩ = .err en) : ∃ pl, qh5 s = .err en pl := by
  have hst : Str s (v8 s st0) L := vc7 hL st0 (Nat.zero_le _) (List.drop_zero)
  have hfi := qi0 s st0 (Nat.zero_le _)
  have hsim := (va5 s 12).E (v8 s st0) ⟨L, 0⟩ hfi hst rfl
  rcases hsim.cases with ⟨t, st, ts, e1, e2, e3, e4, e5⟩ | ⟨en', pl, e1, e2⟩
  · rw [h] at e2; cases e2
  · rw [h] at e2
    injection e2 with e2
    subst e2
    exact ⟨pl, by rw [qh5, if_pos hs, e1]⟩
def Big (s : ByteArray) (t' : Ast) : Prop := (200 < s.size ∧ qh5 s = .err 1 0) ∨ (∃ pl, qh5 s = .err 3 pl) ∨ ∃ t, qh5 s = .ok t ∧ qf9 t = t' ∧ ve4 t ∧ vd8 t
theorem big_of (s : ByteArray) (L : List Tk) (hL : Lx s.data.toList L) (t' : Ast) (h : (vd6 12).E ⟨L, 0⟩ = .err 3 ∨ (vd6 12).E ⟨L, 0⟩ = .ok t' ⟨[], 0⟩) (hc : js9 (qa1 t') = none) : Big s t' := by
  by_cases hs : s.size ≤ 200
  · right
    rcases h with h | h
    · exact .inl (vn9 s hs L hL 3 h)
    · exact .inr (vp8 s hs L hL t' h hc)
  · left
    exact ⟨by omega, by rw [qh5, if_neg hs]⟩
theorem lx_close {r : List UInt8} {L : List Tk} (h : Lx r L) : Lx (41 :: r) (z7 27 :: L) := by
  have hm : qd0 (41 :: r) 0 = z7 27 ∧ qg3 (41 :: r) 0 = 1 := by cases r <;> exact ⟨rfl, rfl⟩
  exact .cons hm.1 (show (27 : Int) ≠ 0 by decide) (by rw [hm.2]; exact h)
theorem lx_open {r : List UInt8} {L : List Tk} (h : Lx r L) : Lx (40 :: r) (z7 26 :: L) := by
  have hm : qd0 (40 :: r) 0 = z7 26 ∧ qg3 (40 :: r) 0 = 1 := by cases r <;> exact ⟨rfl, rfl⟩
  exact .cons hm.1 (show (26 : Int) ≠ 0 by decide) (by rw [hm.2]; exact h)
theorem za1 {p : ByteArray} {t : Ast} (hp : qh5 p = .ok t) (s : ByteArray) (hs : s.data.toList = 40 :: (p.data.toList ++ [41])) : Big s (qf9 t) := by
  obtain ⟨_, L1, x1, b1, r1, c1⟩ := qz1 hp
  refine big_of s _ ?_ _ (jc7 r1) c1
  rw [hs]
  exact lx_open (lx_app stop41 (lx_close lx_end) x1 b1)
end
section
def En (r : TRes) : Prop := ∀ en, r = .err en → en = 2 ∨ en = 3
def Nz (o : Nat) (f : TS → TRes) : Prop := ∀ ts, ts.op = o → En (f ts) ∧ ∀ t ts', f ts = .ok t ts' → ts'.op = o
theorem En.ok {t : Ast} {ts : TS} : En (.ok t ts) := fun _ h => by cases h
theorem En.two : En (.err 2) := fun _ h => by injection h with h; exact .inl h.symm
theorem En.three : En (.err 3) := fun _ h => by injection h with h; exact .inr h.symm
theorem Nz.join {o : Nat} {f : TS → TRes} (h : Nz o f) (ts : TS) (l : Ast) (ho : ts.op = o) : En (qx7 f ts l) ∧ ∀ t ts', qx7 f ts l = .ok t ts' → ts'.op = o := by
  obtain ⟨h1, h2⟩ := h ts.next ho
  unfold qx7
  cases hf : f ts.next with
  | err en => rw [hf] at h1; exact ⟨h1, fun _ _ h => by cases h⟩
  | ok t ts' => exact ⟨En.ok, fun _ _ h => by injection h with _ e; rw [← e]; exact h2 _ _ hf⟩
theorem Nz.loop {o : Nat} {f : TS → TRes} (h : Nz o f) (ks : List Int) : ∀ n l ts, ts.op = o → En (qq4 f ks n l ts) ∧ ∀ t ts', qq4 f ks n l ts = .ok t ts' → ts'.op = o := by
  intro n
  induction n with
  | zero => intro l ts ho; rw [qq4]; exact ⟨En.ok, fun _ _ h => by injection h with _ e; rw [← e]; exact ho⟩
  | succ n ih =>
    intro l ts ho
    rw [qq4]
    split
    · obtain ⟨h1, h2⟩ := h.join ts l ho
      cases hf : qx7 f ts l with
      | err en => rw [hf] at h1; exact ⟨h1, fun _ _ h => by cases h⟩
      | ok t ts' => exact ih t ts' (h2 _ _ hf)
    · exact ⟨En.ok, fun _ _ h => by injection h with _ e; rw [← e]; exact ho⟩
theorem Nz.row {o : Nat} {f : TS → TRes} (h : Nz o f) (ks : List Int) : Nz o (qz2 f ks) := by
  intro ts ho
  obtain ⟨h1, h2⟩ := h ts ho
  unfold qz2
  cases hf : f ts with
  | err en => rw [hf] at h1; exact ⟨h1, fun _ _ h => by cases h⟩
  | ok t ts' => exact h.loop ks _ t ts' (h2 _ _ hf)
theorem Nz.sign {o : Nat} (hk : o ≤ 12) {f : TS → TRes} (h : o < 12 → Nz (o + 1) f) (n : Int) (ts : TS) (ho : ts.op = o) : En (qw5 f n ts) ∧ ∀ t ts', qw5 f n ts = .ok t ts' → ts'.op = o := by
  unfold qw5
  by_cases h12 : ts.op = 12
  · rw [if_pos h12]; exact ⟨En.three, fun _ _ h => by cases h⟩
  · rw [if_neg h12]
    obtain ⟨h1, h2⟩ := h (by omega) (tIn ts) (by show ts.op + 1 = _; omega)
    cases hf : f (tIn ts) with
    | err en => rw [hf] at h1; exact ⟨h1, fun _ _ h => by cases h⟩
    | ok t ts' => exact ⟨En.ok, fun _ _ h => by injection h with _ e; rw [← e]; exact ho⟩
theorem Nz.group {o : Nat} (hk : o ≤ 12) {f : TS → TRes} (h : o < 12 → Nz (o + 1) f) (ts : TS) (ho : ts.op = o) : En (qj9 f ts) ∧ ∀ t ts', qj9 f ts = .ok t ts' → ts'.op = o := by
  unfold qj9
  by_cases h12 : ts.op = 12
  · rw [if_pos h12]; exact ⟨En.three, fun _ _ h => by cases h⟩
  · rw [if_neg h12]
    obtain ⟨h1, h2⟩ := h (by omega) (tIn ts) (by show ts.op + 1 = _; omega)
    cases hf : f (tIn ts) with
    | err en => rw [hf] at h1; exact ⟨h1, fun _ _ h => by cases h⟩
    | ok t ts' =>
      show En (if ts'.tk.kind = 27 then _ else _) ∧ ∀ t2 ts2, (if ts'.tk.kind = 27 then _ else _) = TRes.ok t2 ts2 → _
      split
      · exact ⟨En.ok, fun _ _ h => by injection h with _ e; rw [← e]; exact ho⟩
      · exact ⟨En.two, fun _ _ h => by cases h⟩
theorem Nz.signed {o : Nat} (hk : o ≤ 12) {f g : TS → TRes} (hS : o < 12 → Nz (o + 1) f) (hE : o < 12 → Nz (o + 1) g) : Nz o (qd9 f g) := by
  intro ts ho
  unfold qd9
  split
  · exact Nz.sign hk hS 14 ts ho
  split
  · exact Nz.sign hk hS 15 ts ho
  split
  · exact Nz.group hk hE ts ho
  split
  · exact ⟨En.ok, fun _ _ h => by injection h with _ e; rw [← e]; exact ho⟩
  split
  · exact ⟨En.ok, fun _ _ h => by injection h with _ e; rw [← e]; exact ho⟩
  split
  · exact ⟨En.ok, fun _ _ h => by injection h with _ e; rw [← e]; exact ho⟩
  split
  · exact ⟨En.ok, fun _ _ h => by injection h with _ e; rw [← e]; exact ho⟩
  split
  · exact ⟨En.ok, fun _ _ h => by injection h with _ e; rw [← e]; exact ho⟩
  · exact ⟨En.two, fun _ _ h => by cases h⟩
theorem nz_isNull {o : Nat} (l : Ast) (ts : TS) (ho : ts.op = o) : En (tIsNull l ts) ∧ ∀ t ts', tIsNull l ts = .ok t ts' → ts'.op = o := by
  unfold tIsNull
  split
  · split
    · exact ⟨En.ok, fun _ _ h => by injection h with _ e; rw [← e]; exact ho⟩
    · exact ⟨En.two, fun _ _ h => by cases h⟩
  · split
    · exact ⟨En.ok, fun _ _ h => by injection h with _ e; rw [← e]; exact ho⟩
    · exact ⟨En.two, fun _ _ h => by cases h⟩
theorem nz_inLoop {o : Nat} (l : Ast) : ∀ n xs ts, ts.op = o → ts.toks.length < n → En (qg1 l n xs ts) ∧ ∀ t ts', qg1 l n xs ts = .ok t ts' → ts'.op = o := by
  intro n
  induction n with
  | zero => intro xs ts _ h; omega
  | succ n ih =>
    intro xs ts ho hl
    rw [qg1]
    by_cases h28 : ts.tk.kind = 28
    · rw [if_pos h28]
      have hne := j8 (by decide) h28
      have hlt : ts.next.toks.length < ts.toks.length := by
        cases ht : ts.toks with
        | nil => exact absurd ht hne
        | cons a r => show (ts.toks.tail).length < _; rw [ht]; simp
      split
      · have := y5 ts.next
        exact ih _ ts.next.next ho (by omega)
      · exact ⟨En.two, fun _ _ h => by cases h⟩
    · rw [if_neg h28]
      split
      · exact ⟨En.ok, fun _ _ h => by injection h with _ e; rw [← e]; exact ho⟩
      · exact ⟨En.two, fun _ _ h => by cases h⟩
theorem nz_in {o : Nat} (l : Ast) (ts : TS) (ho : ts.op = o) : En (tInRes l ts) ∧ ∀ t ts', tInRes l ts = .ok t ts' → ts'.op = o := by
  unfold tInRes
  split
  · split
    · have l1 := y5 ts
      have l2 := y5 ts.next
      have l3 := y5 ts.next.next
      exact nz_inLoop l _ _ ts.next.next.next ho (by omega)
    · exact ⟨En.two, fun _ _ h => by cases h⟩
  · exact ⟨En.two, fun _ _ h => by cases h⟩
theorem nz_like {o : Nat} (l : Ast) (ts : TS) (ho : ts.op = o) : En (tLike l ts) ∧ ∀ t ts', tLike l ts = .ok t ts' → ts'.op = o := by
  unfold tLike
  split
  · split
    · split
      · exact ⟨En.ok, fun _ _ h => by injection h with _ e; rw [← e]; exact ho⟩
      · exact ⟨En.two, fun _ _ h => by cases h⟩
    · exact ⟨En.ok, fun _ _ h => by injection h with _ e; rw [← e]; exact ho⟩
  · exact ⟨En.two, fun _ _ h => by cases h⟩
theorem Nz.between {o : Nat} {f : TS → TRes} (h : Nz o f) (l : Ast) (ts : TS) (ho : ts.op = o) : En (qh0 f l ts) ∧ ∀ t ts', qh0 f l ts = .ok t ts' → ts'.op = o := by
  unfold qh0
  split
  · obtain ⟨h1, h2⟩ := h ts.next ho
    cases hf : f ts.next with
    | err en => rw [hf] at h1; exact ⟨h1, fun _ _ h => by cases h⟩
    | ok t ts1 =>
      show En (if ts1.tk.kind = 5 then _ else _) ∧ ∀ t2 ts2, (if ts1.tk.kind = 5 then _ else _) = TRes.ok t2 ts2 → _
      split
      · have ho1 : ts1.op = o := h2 _ _ hf
        obtain ⟨h3, h4⟩ := h ts1.next ho1
        cases hg : f ts1.next with
        | err en => rw [hg] at h3; exact ⟨h3, fun _ _ h => by cases h⟩
        | ok t2 ts2 => exact ⟨En.ok, fun _ _ h => by injection h with _ e; rw [← e]; exact h4 _ _ hg⟩
      · exact ⟨En.two, fun _ _ h => by cases h⟩
  · exact ⟨En.two, fun _ _ h => by cases h⟩
theorem Nz.keyword {o : Nat} {f : TS → TRes} (h : Nz o f) (bare : Bool) (l : Ast) (ts : TS) (ho : ts.op = o) : En (qf5 f bare l ts) ∧ ∀ t ts', qf5 f bare l ts = .ok t ts' → ts'.op = o := by
  unfold qf5
  split
  · exact nz_in l ts ho
  split
  · exact nz_like l ts ho
  · exact h.between l ts ho
theorem Nz.test {o : Nat} {f : TS → TRes} (h : Nz o f) : Nz o (qx2 f) := by
  intro ts ho
  obtain ⟨h1, h2⟩ := h ts ho
  unfold qx2
  cases hf : f ts with
  | err en => rw [hf] at h1; exact ⟨h1, fun _ _ h => by cases h⟩
  | ok l ts1 =>
    have ho1 := h2 _ _ hf
    show En (qy5 f _ l ts1) ∧ ∀ t2 ts2, qy5 f _ l ts1 = TRes.ok t2 ts2 → _
    unfold qy5
    split
    · exact h.join ts1 l ho1
    split
    · split
      · exact nz_isNull l ts1 ho1
      · exact ⟨En.ok, fun _ _ h => by injection h with _ e; rw [← e]; exact ho1⟩
    split
    · obtain ⟨h3, h4⟩ := h.keyword (ts.tk.kind == 2 && opA l == 0) l ts1.next ho1
      cases hg : qf5 f (ts.tk.kind == 2 && opA l == 0) l ts1.next with
      | err en => rw [hg] at h3; exact ⟨h3, fun _ _ h => by cases h⟩
      | ok t2 ts2 => exact ⟨En.ok, fun _ _ h => by injection h with _ e; rw [← e]; exact h4 _ _ hg⟩
    split
    · exact h.keyword _ l ts1 ho1
    · exact ⟨En.ok, fun _ _ h => by injection h with _ e; rw [← e]; exact ho1⟩
theorem Nz.denied {o : Nat} (hk : o ≤ 12) {f g : TS → TRes} (hD : o < 12 → Nz (o + 1) f) (hT : Nz o g) : Nz o (qg6 f g) := by
  intro ts ho
  unfold qg6
  split
  · exact Nz.sign hk hD 5 ts ho
  · exact hT ts ho
structure Nz3 (o : Nat) (L : T3) : Prop where
  S : Nz o L.S
  D : Nz o L.D
  E : Nz o L.E
theorem nz_up {o : Nat} (hk : o ≤ 12) {L : T3} (h : o < 12 → Nz3 (o + 1) L) : Nz3 o (tUp L) := by
  have hS := Nz.signed hk (fun e => (h e).S) (fun e => (h e).E)
  have hT := ((hS.row [24, 25]).row [22, 23]).test
  have hD := Nz.denied hk (fun e => (h e).D) hT
  exact ⟨hS, hD, (hD.row [5]).row [6]⟩
theorem nz_lvl : ∀ d o, o + d = 12 → Nz3 o (vd6 d) := by
  intro d
  induction d with
  | zero => intro o h; exact nz_up (by omega) (fun e => absurd e (by omega))
  | succ d ih => intro o h; exact nz_up (by omega) (fun e => ih (o + 1) (by omega))
theorem qn5 {s : ByteArray} {en pl : Int} (h : qh5 s = .err en pl) : en = 1 ∨ en = 2 ∨ en = 3 ∨ en = 4 := by
  unfold qh5 at h
  by_cases hs : s.size ≤ 200
  · rw [if_pos hs] at h
    obtain ⟨L, hL⟩ := jn2 _ s.data.toList (Nat.le_refl _)
    have hst : Str s (v8 s st0) L := vc7 hL st0 (Nat.zero_le _) (List.drop_zero)
    have hfi := qi0 s st0 (Nat.zero_le _)
    have hsim := (va5 s 12).E (v8 s st0) ⟨L, 0⟩ hfi hst rfl
    rcases hsim.cases with ⟨t1, st, ts, e1, e2, e3, e4, e5⟩ | ⟨en', pl', e1, e2⟩
    · rw [e1] at h
      change jy3 t1 st = _ at h
      unfold jy3 at h
      by_cases hk : st.tk.kind = 0
      · rw [if_pos hk] at h
        cases hc : js9 (qa1 t1) with
        | some q => rw [hc] at h; injection h with h1 _; exact .inr (.inr (.inr h1.symm))
        | none => rw [hc] at h; cases h
      · rw [if_neg hk] at h; injection h with h1 _; exact .inr (.inl h1.symm)
    · rw [e1] at h
      injection h with h1 _
      subst h1
      rcases ((nz_lvl 12 0 rfl).E ⟨L, 0⟩ rfl).1 _ e2 with e | e
      · exact .inr (.inl e)
      · exact .inr (.inr (.inl e))
  · rw [if_neg hs] at h
    injection h with h1 _
    exact .inl h1.symm
end
section
open Go.ChangeShapes Go.WideShapes Go.RowKit
theorem powNamed : Tryz.prog.globalNamed "internal/strconv.uint64pow10" = some 0 := by kernel_rfl
set_option maxRecDepth 100000 in
theorem max_ok {W : World} (h : W.ShapedOpen Tryz.prog) : 4 < W.heap.size ∧ ∃ m, W.cell? ⟨4, 0, none⟩ = some (.int .i64 m) := by
  obtain ⟨m, hm⟩ := cell_of_shapedOpen_int (g := 4) (zero := #[.int .i64 0]) (t := 3) h (of_decide_eq_true (by kernel_rfl)) (by kernel_rfl) rfl (by kernel_rfl) (by kernel_rfl) Tryz.underlying3
  exact ⟨block_lt_of_cell hm, m, hm⟩
theorem powType : (Tryz.prog.globals[0]?).map (·.type) = some 345 := by kernel_rfl
theorem cellsPow : Tryz.prog.cellsOf 345 = 20 := by kernel_rfl
theorem cellsU64 : Tryz.prog.cellsOf 318 = 1 := by kernel_rfl
theorem powLaid : (Rows.laid_internal_strconv_uint64pow10 : DataW Unit) = Lib.tabData .u64 Lib.pow10Tab := by kernel_rfl
theorem pow_ok {W : World} {l : List (String × DataW Unit)} (hm : ("internal/strconv.uint64pow10", Rows.laid_internal_strconv_uint64pow10) ∈ l) (h : laidMet Tryz.prog l W) : Lib.TabIs Tryz.prog W "internal/strconv.uint64pow10" .u64 Lib.pow10Tab := by
  obtain ⟨g, t, cs, fuel, p, h1, h2, h3, h4⟩ := Lib.laidMet.reads h hm
  obtain rfl : 0 = g := Option.some.inj (powNamed.symm.trans h1)
  obtain rfl : 345 = t := Option.some.inj (powType.symm.trans h2)
  rw [powLaid] at h4
  unfold Lib.TabIs
  rw [h3, ← Lib.cells_of_tab Tryz.underlying345 Tryz.underlying318 cellsU64 cellsPow h4]
end
end Go.Proofs.YtfkcaldjphakpabGreatDoor
