/- What is read of tokens is read of them too where a closing parenthesis follows, some things open more, or it is too deep. The tokens of a text behind which another one stands. No bad token is read: the tokens of a selector. Selectors in parentheses, with AND, OR and NOT. An error's number is never 0. Eval of any text and any list of properties. small, is of any text and list, reads. -/
import Derived.Test.YtfkcaldjphakpaaGreatDoorRfA
import Derived.Test.YtfkcaldjphakpaaGreatDoorDgA
import Derived.Test.YtfkcaldjphakpaaGreatDoorRdA
import Derived.Test.YtfkcaldjphakpaaGreatDoorEeA
import Derived.Test.YtfkcaldjphakpaaGreatDoorEvB
import Derived.Test.YtfkcaldjphakpaaGreatDoorOfC
namespace Go.Proofs.YtfkcaldjphakpaaGreatDoor
open Go.RowKit

section
/-- Tokens that begin with a closing parenthesis. -/
def Clo (X : List Tk) : Prop := (hd X).kind = 27

def sh (X : List Tk) (k : Nat) (ts : TS) : TS := ⟨ts.toks ++ X, ts.op + k⟩

def ExtR (X : List Tk) (k o : Nat) (r r' : TRes) : Prop := ∀ t ts, r = .ok t ts → ts.op = o ∧ (r' = .err 3 ∨ r' = .ok t (sh X k ts))
def Ext (X : List Tk) (k o : Nat) (f f' : TS → TRes) : Prop := ∀ ts, ts.op = o → ExtR X k o (f ts) (f' (sh X k ts))

theorem ExtR.err {X : List Tk} {k o : Nat} {en : Int} {r : TRes} : ExtR X k o (.err en) r := by
  intro t ts h; cases h
theorem ExtR.deep {X : List Tk} {k o : Nat} {r : TRes} (h : ∀ t ts, r = .ok t ts → ts.op = o) : ExtR X k o r (.err 3) := fun t ts he => ⟨h t ts he, .inl rfl⟩
theorem ExtR.ok {X : List Tk} {k o : Nat} {t : Ast} {ts : TS} (h : ts.op = o) : ExtR X k o (.ok t ts) (.ok t (sh X k ts)) := by
  intro t' ts' he
  injection he with h1 h2
  subst h1 h2
  exact ⟨h, .inr rfl⟩

theorem ExtR.cases {X : List Tk} {k o : Nat} {r r' : TRes} (h : ExtR X k o r r') : (∃ en, r = .err en) ∨ (∃ t ts, r = .ok t ts ∧ ts.op = o ∧ r' = .err 3) ∨ ∃ t ts, r = .ok t ts ∧ ts.op = o ∧ r' = .ok t (sh X k ts) := by
  cases hr : r with
  | err en => exact .inl ⟨en, rfl⟩
  | ok t ts =>
    obtain ⟨h1, h2 | h2⟩ := h t ts hr
    · exact .inr (.inl ⟨t, ts, rfl, h1, h2⟩)
    · exact .inr (.inr ⟨t, ts, rfl, h1, h2⟩)

theorem ne_of_kind {ts : TS} {c : Int} (hc : c ≠ 0) (h : ts.tk.kind = c) : ts.toks ≠ [] := by
  intro e
  unfold TS.tk at h
  rw [e] at h
  exact hc h.symm
theorem sh_tk {X : List Tk} {k : Nat} {ts : TS} (h : ts.toks ≠ []) : (sh X k ts).tk = ts.tk := by
  unfold sh TS.tk
  cases ht : ts.toks with
  | nil => exact absurd ht h
  | cons a r => rfl
theorem sh_next {X : List Tk} {k : Nat} {ts : TS} (h : ts.toks ≠ []) : (sh X k ts).next = sh X k ts.next := by
  unfold sh TS.next
  cases ht : ts.toks with
  | nil => exact absurd ht h
  | cons a r => rfl
theorem sh_in {X : List Tk} {k : Nat} {ts : TS} (h : ts.toks ≠ []) : tIn (sh X k ts) = sh X k (tIn ts) := by
  unfold sh tIn
  cases ht : ts.toks with
  | nil => exact absurd ht h
  | cons a r =>
    show TS.mk (r ++ X) (ts.op + k + 1) = TS.mk (r ++ X) (ts.op + 1 + k)
    rw [Nat.add_right_comm]
theorem sh_end {X : List Tk} (hX : Clo X) {k : Nat} {ts : TS} (h : ts.toks = []) : (sh X k ts).tk.kind = 27 := by
  unfold sh TS.tk
  rw [h]
  exact hX
theorem sh_kind {X : List Tk} (hX : Clo X) {k : Nat} {ts : TS} {c : Int} (h0 : c ≠ 0) (h27 : c ≠ 27) : (sh X k ts).tk.kind = c ↔ ts.tk.kind = c := by
  by_cases h : ts.toks = []
  · have h1 := sh_end hX (k := k) h
    have h2 : ts.tk.kind = 0 := by unfold TS.tk; rw [h]; rfl
    rw [h1, h2]
    exact ⟨fun e => absurd e.symm h27, fun e => absurd e.symm h0⟩
  · rw [sh_tk h]
theorem sh_str {X : List Tk} {k : Nat} {ts : TS} {c : Int} (hc : c ≠ 0) (h : ts.tk.kind = c) : (sh X k ts).tk = ts.tk ∧ (sh X k ts).next = sh X k ts.next := ⟨sh_tk (ne_of_kind hc h), sh_next (ne_of_kind hc h)⟩
theorem sh_contains {X : List Tk} (hX : Clo X) {k : Nat} {ts : TS} {ks : List Int} (h0 : ks.contains 0 = false) (h27 : ks.contains 27 = false) : ks.contains (sh X k ts).tk.kind = ks.contains ts.tk.kind := by
  by_cases h : ts.toks = []
  · have h1 := sh_end hX (k := k) h
    have h2 : ts.tk.kind = 0 := by unfold TS.tk; rw [h]; rfl
    rw [h1, h2, h0, h27]
  · rw [sh_tk h]

section
variable {X : List Tk} {k o : Nat} {f f' : TS → TRes}

theorem Ext.join (h : Ext X k o f f') (ts : TS) (l : Ast) (ho : ts.op = o) (hne : ts.toks ≠ []) : ExtR X k o (tJoin f ts l) (tJoin f' (sh X k ts) l) := by
  unfold tJoin
  rw [sh_next hne, sh_tk hne]
  rcases (h ts.next ho).cases with ⟨en, e⟩ | ⟨t, ts', e, eo, e'⟩ | ⟨t, ts', e, eo, e'⟩
  · rw [e]; exact ExtR.err
  · rw [e, e']; exact ExtR.deep (fun t ts h => by injection h with _ h2; rw [← h2]; exact eo)
  · rw [e, e']; exact ExtR.ok eo

theorem Ext.loop (hX : Clo X) (h : Ext X k o f f') (hs : Shr f) (ks : List Int) (h0 : ks.contains 0 = false) (h27 : ks.contains 27 = false) : ∀ n n' l ts, ts.op = o → ts.toks.length < n → ts.toks.length + X.length < n' → ExtR X k o (tLoop f ks n l ts) (tLoop f' ks n' l (sh X k ts)) := by
  intro n
  induction n with
  | zero => intro n' l ts _ h1; omega
  | succ n ih =>
    intro n' l ts ho h1 h2
    obtain ⟨m, rfl⟩ : ∃ m, n' = m + 1 := ⟨n' - 1, by omega⟩
    rw [tLoop, tLoop, sh_contains hX h0 h27]
    by_cases hc : ks.contains ts.tk.kind = true
    · have hne : ts.toks ≠ [] := by
        intro e
        have : ts.tk.kind = 0 := by unfold TS.tk; rw [e]; rfl
        rw [this, h0] at hc
        cases hc
      rw [if_pos hc, if_pos hc]
      have hlt : ts.next.toks.length < ts.toks.length := by
        cases ht : ts.toks with
        | nil => exact absurd ht hne
        | cons a r => show (ts.toks.tail).length < _; rw [ht]; simp
      rcases (h.join ts l ho hne).cases with ⟨en, e⟩ | ⟨t, ts', e, eo, e'⟩ | ⟨t, ts', e, eo, e'⟩
      · rw [e]; exact ExtR.err
      · rw [e, e']
        have hl := hs.join _ _ _ _ e
        refine ExtR.deep (fun t2 ts2 he => ?_)
        obtain ⟨hh, _⟩ := ih (ts'.toks.length + X.length + 1) t ts' eo (by omega) (by omega) t2 ts2 he
        exact hh
      · rw [e, e']
        have hl := hs.join _ _ _ _ e
        exact ih m t ts' eo (by omega) (by omega)
    · rw [if_neg hc, if_neg hc]
      exact ExtR.ok ho

theorem Ext.row (hX : Clo X) (h : Ext X k o f f') (hs : Shr f) (ks : List Int) (h0 : ks.contains 0 = false) (h27 : ks.contains 27 = false) : Ext X k o (tRow f ks) (tRow f' ks) := by
  intro ts ho
  unfold tRow
  rcases (h ts ho).cases with ⟨en, e⟩ | ⟨t, ts', e, eo, e'⟩ | ⟨t, ts', e, eo, e'⟩
  · rw [e]; exact ExtR.err
  · rw [e, e']
    refine ExtR.deep (fun t2 ts2 he => ?_)
    exact (h.loop hX hs ks h0 h27 _ (ts'.toks.length + X.length + 1) t ts' eo (Nat.lt_succ_self _) (Nat.lt_succ_self _) t2 ts2 he).1
  · rw [e, e']
    exact h.loop hX hs ks h0 h27 _ _ t ts' eo (Nat.lt_succ_self _) (by show _ < (ts'.toks ++ X).length + 1; rw [List.length_append]; omega)

theorem Ext.sign (hk : o + k ≤ 12) (h : o + k < 12 → Ext X k (o + 1) f f') (n : Int) (ts : TS) (ho : ts.op = o) (hne : ts.toks ≠ []) : ExtR X k o (tSign f n ts) (tSign f' n (sh X k ts)) := by
  unfold tSign
  show ExtR X k o _ (if ts.op + k = 12 then _ else _)
  by_cases h12 : ts.op + k = 12
  · rw [if_pos h12]
    refine ExtR.deep (fun t2 ts2 he => ?_)
    split at he
    · cases he
    · split at he
      · injection he with _ h2; rw [← h2]; exact ho
      · cases he
  · rw [if_neg h12, if_neg (by omega), sh_in hne]
    rcases (h (by omega) (tIn ts) (by show ts.op + 1 = _; omega)).cases with ⟨en, e⟩ | ⟨t, ts', e, eo, e'⟩ | ⟨t, ts', e, eo, e'⟩
    · rw [e]; exact ExtR.err
    · rw [e, e']; exact ExtR.deep (fun t ts h => by injection h with _ h2; rw [← h2]; exact ho)
    · rw [e, e']; exact ExtR.ok ho

theorem Ext.group (hk : o + k ≤ 12) (h : o + k < 12 → Ext X k (o + 1) f f') (ts : TS) (ho : ts.op = o) (hne : ts.toks ≠ []) : ExtR X k o (tGroup f ts) (tGroup f' (sh X k ts)) := by
  unfold tGroup
  show ExtR X k o _ (if ts.op + k = 12 then _ else _)
  by_cases h12 : ts.op + k = 12
  · rw [if_pos h12]
    refine ExtR.deep (fun t2 ts2 he => ?_)
    split at he
    · cases he
    · split at he
      · split at he
        · injection he with _ h2; rw [← h2]; exact ho
        · cases he
      · cases he
  · rw [if_neg h12, if_neg (by omega), sh_in hne]
    rcases (h (by omega) (tIn ts) (by show ts.op + 1 = _; omega)).cases with ⟨en, e⟩ | ⟨t, ts', e, eo, e'⟩ | ⟨t, ts', e, eo, e'⟩
    · rw [e]; exact ExtR.err
    · rw [e, e']
      refine ExtR.deep (fun t2 ts2 he => ?_)
      simp only at he
      split at he
      · injection he with _ h2; rw [← h2]; exact ho
      · cases he
    · rw [e, e']
      show ExtR X k o (if ts'.tk.kind = 27 then _ else _) (if (sh X k ts').tk.kind = 27 then _ else _)
      by_cases h27 : ts'.tk.kind = 27
      · have hne' := ne_of_kind (by decide) h27
        rw [if_pos h27, if_pos (by rw [sh_tk hne']; exact h27)]
        have : (⟨(sh X k ts').toks.tail, (sh X k ts).op⟩ : TS) = sh X k ⟨ts'.toks.tail, ts.op⟩ := by
          unfold sh
          cases ht : ts'.toks with
          | nil => exact absurd ht hne'
          | cons a r => rfl
        rw [this]
        exact ExtR.ok ho
      · rw [if_neg h27]; exact ExtR.err

theorem Ext.signed (hX : Clo X) {g g' : TS → TRes} (hk : o + k ≤ 12) (hS : o + k < 12 → Ext X k (o + 1) f f') (hE : o + k < 12 → Ext X k (o + 1) g g') : Ext X k o (tSigned f g) (tSigned f' g') := by
  intro ts ho
  unfold tSigned
  by_cases h22 : ts.tk.kind = 22
  · rw [if_pos h22, if_pos ((sh_kind hX (by decide) (by decide)).2 h22)]
    exact Ext.sign hk hS 14 ts ho (ne_of_kind (by decide) h22)
  rw [if_neg h22, if_neg (fun e => h22 ((sh_kind hX (by decide) (by decide)).1 e))]
  by_cases h23 : ts.tk.kind = 23
  · rw [if_pos h23, if_pos ((sh_kind hX (by decide) (by decide)).2 h23)]
    exact Ext.sign hk hS 15 ts ho (ne_of_kind (by decide) h23)
  rw [if_neg h23, if_neg (fun e => h23 ((sh_kind hX (by decide) (by decide)).1 e))]
  by_cases h26 : ts.tk.kind = 26
  · rw [if_pos h26, if_pos ((sh_kind hX (by decide) (by decide)).2 h26)]
    exact Ext.group hk hE ts ho (ne_of_kind (by decide) h26)
  rw [if_neg h26, if_neg (fun e => h26 ((sh_kind hX (by decide) (by decide)).1 e))]
  by_cases h2 : ts.tk.kind = 2
  · rw [if_pos h2, if_pos ((sh_kind hX (by decide) (by decide)).2 h2), (sh_str (by decide) h2).1, (sh_str (by decide) h2).2]
    exact ExtR.ok ho
  rw [if_neg h2, if_neg (fun e => h2 ((sh_kind hX (by decide) (by decide)).1 e))]
  by_cases h3 : ts.tk.kind = 3
  · rw [if_pos h3, if_pos ((sh_kind hX (by decide) (by decide)).2 h3), (sh_str (by decide) h3).1, (sh_str (by decide) h3).2]
    exact ExtR.ok ho
  rw [if_neg h3, if_neg (fun e => h3 ((sh_kind hX (by decide) (by decide)).1 e))]
  by_cases h4 : ts.tk.kind = 4
  · rw [if_pos h4, if_pos ((sh_kind hX (by decide) (by decide)).2 h4), (sh_str (by decide) h4).1, (sh_str (by decide) h4).2]
    exact ExtR.ok ho
  rw [if_neg h4, if_neg (fun e => h4 ((sh_kind hX (by decide) (by decide)).1 e))]
  by_cases h8 : ts.tk.kind = 8
  · rw [if_pos h8, if_pos ((sh_kind hX (by decide) (by decide)).2 h8), (sh_str (by decide) h8).2]
    exact ExtR.ok ho
  rw [if_neg h8, if_neg (fun e => h8 ((sh_kind hX (by decide) (by decide)).1 e))]
  by_cases h9 : ts.tk.kind = 9
  · rw [if_pos h9, if_pos ((sh_kind hX (by decide) (by decide)).2 h9), (sh_str (by decide) h9).2]
    exact ExtR.ok ho
  rw [if_neg h9]
  exact ExtR.err

theorem ext_isNull (hX : Clo X) (l : Ast) (ts : TS) (ho : ts.op = o) (hne : ts.toks ≠ []) : ExtR X k o (tIsNull l ts) (tIsNull l (sh X k ts)) := by
  unfold tIsNull
  rw [sh_next hne]
  by_cases h7 : ts.next.tk.kind = 7
  · rw [if_pos h7, if_pos ((sh_kind hX (by decide) (by decide)).2 h7), (sh_str (by decide) h7).2]
    by_cases h15 : ts.next.next.tk.kind = 15
    · rw [if_pos h15, if_pos ((sh_kind hX (by decide) (by decide)).2 h15), (sh_str (by decide) h15).2]
      exact ExtR.ok ho
    · rw [if_neg h15]; exact ExtR.err
  · rw [if_neg h7, if_neg (fun e => h7 ((sh_kind hX (by decide) (by decide)).1 e))]
    by_cases h15 : ts.next.tk.kind = 15
    · rw [if_pos h15, if_pos ((sh_kind hX (by decide) (by decide)).2 h15), (sh_str (by decide) h15).2]
      exact ExtR.ok ho
    · rw [if_neg h15]; exact ExtR.err

theorem Ext.between (hX : Clo X) (h : Ext X k o f f') (l : Ast) (ts : TS) (ho : ts.op = o) : ExtR X k o (tBetween f l ts) (tBetween f' l (sh X k ts)) := by
  unfold tBetween
  by_cases h10 : ts.tk.kind = 10
  · rw [if_pos h10, if_pos ((sh_kind hX (by decide) (by decide)).2 h10), (sh_str (by decide) h10).2]
    rcases (h ts.next ho).cases with ⟨en, e⟩ | ⟨t, ts', e, eo, e'⟩ | ⟨t, ts', e, eo, e'⟩
    · rw [e]; exact ExtR.err
    · rw [e, e']
      refine ExtR.deep (fun t2 ts2 he => ?_)
      simp only at he
      split at he
      · split at he
        · rename_i hf
          injection he with _ h2
          rw [← h2]
          exact (h ts'.next eo _ _ hf).1
        · cases he
      · cases he
    · rw [e, e']
      show ExtR X k o (if ts'.tk.kind = 5 then _ else _) (if (sh X k ts').tk.kind = 5 then _ else _)
      by_cases h5 : ts'.tk.kind = 5
      · rw [if_pos h5, if_pos ((sh_kind hX (by decide) (by decide)).2 h5), (sh_str (by decide) h5).2]
        rcases (h ts'.next eo).cases with ⟨en, e⟩ | ⟨t, ts', e, eo, e'⟩ | ⟨t, ts', e, eo, e'⟩
        · rw [e]; exact ExtR.err
        · rw [e, e']; exact ExtR.deep (fun t ts h => by injection h with _ h2; rw [← h2]; exact eo)
        · rw [e, e']; exact ExtR.ok eo
      · rw [if_neg h5]; exact ExtR.err
  · rw [if_neg h10]; exact ExtR.err

theorem ext_inLoop (hX : Clo X) (l : Ast) : ∀ n n' xs ts, ts.op = o → ts.toks.length < n → ts.toks.length + X.length < n' → ExtR X k o (tInLoop l n xs ts) (tInLoop l n' xs (sh X k ts)) := by
  intro n
  induction n with
  | zero => intro n' xs ts _ h1; omega
  | succ n ih =>
    intro n' xs ts ho h1 h2
    obtain ⟨m, rfl⟩ : ∃ m, n' = m + 1 := ⟨n' - 1, by omega⟩
    rw [tInLoop, tInLoop]
    by_cases h28 : ts.tk.kind = 28
    · rw [if_pos h28, if_pos ((sh_kind hX (by decide) (by decide)).2 h28), (sh_str (by decide) h28).2]
      have hne := ne_of_kind (by decide) h28
      have hlt : ts.next.toks.length < ts.toks.length := by
        cases ht : ts.toks with
        | nil => exact absurd ht hne
        | cons a r => show (ts.toks.tail).length < _; rw [ht]; simp
      by_cases h4 : ts.next.tk.kind = 4
      · rw [if_pos h4, if_pos ((sh_kind hX (by decide) (by decide)).2 h4), (sh_str (by decide) h4).2, (sh_str (by decide) h4).1]
        have := next_le ts.next
        exact ih m _ ts.next.next ho (by omega) (by omega)
      · rw [if_neg h4]; exact ExtR.err
    · rw [if_neg h28, if_neg (fun e => h28 ((sh_kind hX (by decide) (by decide)).1 e))]
      by_cases h27 : ts.tk.kind = 27
      · rw [if_pos h27, if_pos (by rw [(sh_str (by decide) h27).1]; exact h27), (sh_str (by decide) h27).2]
        exact ExtR.ok ho
      · rw [if_neg h27]; exact ExtR.err

theorem ext_in (hX : Clo X) (l : Ast) (ts : TS) (ho : ts.op = o) (hne : ts.toks ≠ []) : ExtR X k o (tInRes l ts) (tInRes l (sh X k ts)) := by
  unfold tInRes
  rw [sh_next hne]
  by_cases h26 : ts.next.tk.kind = 26
  · rw [if_pos h26, if_pos ((sh_kind hX (by decide) (by decide)).2 h26), (sh_str (by decide) h26).2]
    by_cases h4 : ts.next.next.tk.kind = 4
    · rw [if_pos h4, if_pos ((sh_kind hX (by decide) (by decide)).2 h4), (sh_str (by decide) h4).2, (sh_str (by decide) h4).1]
      have l1 := next_le ts
      have l2 := next_le ts.next
      have l3 := next_le ts.next.next
      have hl : (sh X k ts).toks.length = ts.toks.length + X.length := by show (ts.toks ++ X).length = _; rw [List.length_append]
      exact ext_inLoop hX l _ _ _ ts.next.next.next ho (by omega) (by rw [hl]; omega)
    · rw [if_neg h4]; exact ExtR.err
  · rw [if_neg h26]; exact ExtR.err

theorem ext_like (hX : Clo X) (l : Ast) (ts : TS) (ho : ts.op = o) (hne : ts.toks ≠ []) : ExtR X k o (tLike l ts) (tLike l (sh X k ts)) := by
  unfold tLike
  rw [sh_next hne]
  by_cases h4 : ts.next.tk.kind = 4
  · rw [if_pos h4, if_pos ((sh_kind hX (by decide) (by decide)).2 h4), (sh_str (by decide) h4).2, (sh_str (by decide) h4).1]
    by_cases h13 : ts.next.next.tk.kind = 13
    · rw [if_pos h13, if_pos ((sh_kind hX (by decide) (by decide)).2 h13), (sh_str (by decide) h13).2]
      by_cases g : ts.next.next.next.tk.kind = 4 ∧ ts.next.next.next.tk.str.length = 1 ∧ (cutL ts.next.next.next.tk.str ts.next.tk.str).isSome = true
      · rw [if_pos g, (sh_str (by decide) g.1).1, if_pos g, (sh_str (by decide) g.1).2]
        exact ExtR.ok ho
      · rw [if_neg g]; exact ExtR.err
    · rw [if_neg h13, if_neg (fun e => h13 ((sh_kind hX (by decide) (by decide)).1 e))]
      exact ExtR.ok ho
  · rw [if_neg h4]; exact ExtR.err

theorem Ext.keyword (hX : Clo X) (h : Ext X k o f f') (bare : Bool) (l : Ast) (ts : TS) (ho : ts.op = o) : ExtR X k o (tKeyword f bare l ts) (tKeyword f' bare l (sh X k ts)) := by
  unfold tKeyword
  by_cases h11 : ts.tk.kind = 11 ∧ bare = true
  · rw [if_pos h11, if_pos ⟨(sh_kind hX (by decide) (by decide)).2 h11.1, h11.2⟩]
    exact ext_in hX l ts ho (ne_of_kind (by decide) h11.1)
  rw [if_neg h11, if_neg (show ¬ ((sh X k ts).tk.kind = 11 ∧ bare = true) from fun e => h11 ⟨(sh_kind hX (by decide) (by decide)).1 e.1, e.2⟩)]
  by_cases h12 : ts.tk.kind = 12 ∧ bare = true
  · rw [if_pos h12, if_pos ⟨(sh_kind hX (by decide) (by decide)).2 h12.1, h12.2⟩]
    exact ext_like hX l ts ho (ne_of_kind (by decide) h12.1)
  rw [if_neg h12, if_neg (show ¬ ((sh X k ts).tk.kind = 12 ∧ bare = true) from fun e => h12 ⟨(sh_kind hX (by decide) (by decide)).1 e.1, e.2⟩)]
  exact h.between hX l ts ho

theorem Ext.tail (hX : Clo X) (h : Ext X k o f f') (bare : Bool) (l : Ast) (ts : TS) (ho : ts.op = o) : ExtR X k o (tTail f bare l ts) (tTail f' bare l (sh X k ts)) := by
  have hk : ∀ c : Int, c ≠ 0 → c ≠ 27 → ((sh X k ts).tk.kind = c ↔ ts.tk.kind = c) := fun c a b => sh_kind hX a b
  have h6 : ((sh X k ts).tk.kind = 16 ∨ (sh X k ts).tk.kind = 17 ∨ (sh X k ts).tk.kind = 18 ∨ (sh X k ts).tk.kind = 19 ∨ (sh X k ts).tk.kind = 20 ∨ (sh X k ts).tk.kind = 21) ↔ (ts.tk.kind = 16 ∨ ts.tk.kind = 17 ∨ ts.tk.kind = 18 ∨ ts.tk.kind = 19 ∨ ts.tk.kind = 20 ∨ ts.tk.kind = 21) := by
    rw [hk 16 (by decide) (by decide), hk 17 (by decide) (by decide), hk 18 (by decide) (by decide), hk 19 (by decide) (by decide), hk 20 (by decide) (by decide), hk 21 (by decide) (by decide)]
  have h3 : ((sh X k ts).tk.kind = 10 ∨ (sh X k ts).tk.kind = 11 ∨ (sh X k ts).tk.kind = 12) ↔ (ts.tk.kind = 10 ∨ ts.tk.kind = 11 ∨ ts.tk.kind = 12) := by
    rw [hk 10 (by decide) (by decide), hk 11 (by decide) (by decide), hk 12 (by decide) (by decide)]
  unfold tTail
  by_cases h16 : ts.tk.kind = 16 ∨ ts.tk.kind = 17 ∨ ts.tk.kind = 18 ∨ ts.tk.kind = 19 ∨ ts.tk.kind = 20 ∨ ts.tk.kind = 21
  · rw [if_pos h16, if_pos (h6.2 h16)]
    refine h.join ts l ho ?_
    rcases h16 with e | e | e | e | e | e <;> exact ne_of_kind (by decide) e
  rw [if_neg h16, if_neg (fun e => h16 (h6.1 e))]
  by_cases h14 : ts.tk.kind = 14
  · rw [if_pos h14, if_pos ((hk 14 (by decide) (by decide)).2 h14)]
    cases bare
    · exact ExtR.ok ho
    · exact ext_isNull hX l ts ho (ne_of_kind (by decide) h14)
  rw [if_neg h14, if_neg (fun e => h14 ((hk 14 (by decide) (by decide)).1 e))]
  by_cases h7 : ts.tk.kind = 7
  · rw [if_pos h7, if_pos ((hk 7 (by decide) (by decide)).2 h7), (sh_str (by decide) h7).2]
    rcases (h.keyword hX bare l ts.next ho).cases with ⟨en, e⟩ | ⟨t, ts', e, eo, e'⟩ | ⟨t, ts', e, eo, e'⟩
    · rw [e]; exact ExtR.err
    · rw [e, e']; exact ExtR.deep (fun t ts h => by injection h with _ h2; rw [← h2]; exact eo)
    · rw [e, e']; exact ExtR.ok eo
  rw [if_neg h7, if_neg (fun e => h7 ((hk 7 (by decide) (by decide)).1 e))]
  by_cases h10 : ts.tk.kind = 10 ∨ ts.tk.kind = 11 ∨ ts.tk.kind = 12
  · rw [if_pos h10, if_pos (h3.2 h10)]; exact h.keyword hX bare l ts ho
  · rw [if_neg h10, if_neg (fun e => h10 (h3.1 e))]; exact ExtR.ok ho

theorem Ext.test (hX : Clo X) (h : Ext X k o f f') (hf : ∀ ts t ts', f ts = .ok t ts' → ts.toks ≠ []) : Ext X k o (tTest f) (tTest f') := by
  intro ts ho
  unfold tTest
  rcases (h ts ho).cases with ⟨en, e⟩ | ⟨t, ts', e, eo, e'⟩ | ⟨t, ts', e, eo, e'⟩
  · rw [e]; exact ExtR.err
  · rw [e, e']
    refine ExtR.deep (fun t2 ts2 he => ?_)
    exact (h.tail hX _ t ts' eo t2 ts2 he).1
  · rw [e, e', sh_tk (hf _ _ _ e)]
    exact h.tail hX _ t ts' eo

theorem Ext.denied (hX : Clo X) {g g' : TS → TRes} (hk : o + k ≤ 12) (hD : o + k < 12 → Ext X k (o + 1) f f') (hT : Ext X k o g g') : Ext X k o (tDenied f g) (tDenied f' g') := by
  intro ts ho
  unfold tDenied
  by_cases h7 : ts.tk.kind = 7
  · rw [if_pos h7, if_pos ((sh_kind hX (by decide) (by decide)).2 h7)]
    exact Ext.sign hk hD 5 ts ho (ne_of_kind (by decide) h7)
  · rw [if_neg h7, if_neg (fun e => h7 ((sh_kind hX (by decide) (by decide)).1 e))]
    exact hT ts ho
end

/-- Something is read of something alone. -/
def Some' (f : TS → TRes) : Prop := ∀ ts t ts', f ts = .ok t ts' → ts.toks ≠ []
theorem some_signed (f g : TS → TRes) : Some' (tSigned f g) := by
  intro ts t ts' he e
  unfold tSigned at he
  have h0 : ts.tk.kind = 0 := by unfold TS.tk; rw [e]; rfl
  rw [h0] at he
  cases he
theorem Some'.row {f : TS → TRes} (h : Some' f) (ks : List Int) : Some' (tRow f ks) := by
  intro ts t ts' he
  unfold tRow at he
  split at he
  · rename_i hf; exact h _ _ _ hf
  · cases he

structure Ext3 (X : List Tk) (k o : Nat) (L L' : T3) : Prop where
  S : Ext X k o L.S L'.S
  D : Ext X k o L.D L'.D
  E : Ext X k o L.E L'.E
structure Shr3 (L : T3) : Prop where
  S : Shr L.S
  D : Shr L.D
  E : Shr L.E

theorem ext_up {X : List Tk} (hX : Clo X) {k o : Nat} (hk : o + k ≤ 12) {L L' : T3} (hs : Shr3 L) (h : o + k < 12 → Ext3 X k (o + 1) L L') : Ext3 X k o (tUp L) (tUp L') := by
  have hS := Ext.signed hX hk (fun e => (h e).S) (fun e => (h e).E)
  have zS := Shr.signed hs.S hs.E
  have hP := hS.row hX zS [24, 25] rfl rfl
  have zP := zS.row [24, 25]
  have hU := hP.row hX zP [22, 23] rfl rfl
  have zU := zP.row [22, 23]
  have hT := hU.test hX (((some_signed _ _).row _).row _)
  have zT := zU.test
  have hD := Ext.denied hX hk (fun e => (h e).D) hT
  have zD := Shr.denied hs.D zT
  have hB := hD.row hX zD [5] rfl rfl
  have zB := zD.row [5]
  exact ⟨hS, hD, hB.row hX zB [6] rfl rfl⟩

theorem shr_lvl (d : Nat) : Shr3 (tLvl d) := ⟨(sim_lvl ⟨#[]⟩ d).s', (sim_lvl ⟨#[]⟩ d).d', (sim_lvl ⟨#[]⟩ d).e'⟩
theorem lvl_up (d : Nat) : ∃ L, tLvl d = tUp L ∧ Shr3 L := by
  cases d with
  | zero => exact ⟨_, rfl, ⟨(fun _ _ _ h => by cases h), (fun _ _ _ h => by cases h), (fun _ _ _ h => by cases h)⟩⟩
  | succ d => exact ⟨_, rfl, shr_lvl d⟩

theorem ext_lvl {X : List Tk} (hX : Clo X) (k : Nat) : ∀ d o, o + k + d = 12 → Ext3 X k o (tLvl (d + k)) (tLvl d) := by
  intro d
  induction d with
  | zero =>
    intro o h
    obtain ⟨L, e, z⟩ := lvl_up (0 + k)
    rw [e]
    exact ext_up hX (by omega) z (fun e => absurd e (by omega))
  | succ d ih =>
    intro o h
    rw [show d + 1 + k = (d + k) + 1 by omega]
    exact ext_up hX (by omega) (shr_lvl _) (fun e => ih (o + 1) (by omega))
end

section
/-- A byte that goes on no token. -/
structure Stop (d : UInt8) : Prop where
  goe : goeU d = false
  dig : digU d = false
  quo : (d == 39) = false
  eq : (d == 61) = false
  gt : (d == 62) = false

theorem runLen_app (p : UInt8 → Bool) {d : UInt8} (h : p d = false) (y : List UInt8) : ∀ l, runLen p (l ++ d :: y) = runLen p l := by
  intro l
  induction l with
  | nil => show (if p d then _ else 0) = 0; rw [h]; rfl
  | cons c t ih => show (if p c then runLen p (t ++ d :: y) + 1 else 0) = if p c then runLen p t + 1 else 0; rw [ih]
theorem runLen_lt (p : UInt8 → Bool) (y : List UInt8) : ∀ l, runLen p l < l.length → runLen p (l ++ y) = runLen p l := by
  intro l
  induction l with
  | nil => intro h; exact absurd h (Nat.not_lt_zero _)
  | cons c t ih =>
    intro h
    show (if p c then runLen p (t ++ y) + 1 else 0) = if p c then runLen p t + 1 else 0
    have hc : runLen p (c :: t) = if p c then runLen p t + 1 else 0 := rfl
    rw [hc] at h
    by_cases hp : p c = true
    · rw [if_pos hp] at h
      rw [if_pos hp, if_pos hp, ih (by simp at h; omega)]
    · rw [if_neg hp, if_neg hp]

theorem wordSize_app {d : UInt8} (hd : Stop d) (y : List UInt8) (c : UInt8) (t : List UInt8) : wordSize (c :: t ++ d :: y) = wordSize (c :: t) := by
  show (if begU c then runLen goeU (t ++ d :: y) + 1 else 0) = if begU c then runLen goeU t + 1 else 0
  rw [runLen_app goeU hd.goe]
theorem take_app (l z : List UInt8) (n : Nat) (h : n ≤ l.length) : (l ++ z).take n = l.take n := by
  rw [List.take_append, show n - l.length = 0 by omega, List.take_zero, List.append_nil]

theorem quotF_app {d : UInt8} (hd : (d == 39) = false) (y : List UInt8) : ∀ (n : Nat) (l : List UInt8), l.length ≤ n → ∀ r, quotF l = some r → quotF (l ++ d :: y) = some r := by
  intro n
  induction n with
  | zero =>
    intro l hl r h
    have : l = [] := List.eq_nil_of_length_eq_zero (by omega)
    subst this
    simp [quotF] at h
  | succ n ih =>
    intro l hl r h
    match l, hl, h with
    | [], _, h => simp [quotF] at h
    | [c], _, h =>
      simp only [quotF] at h
      split at h
      · rename_i hc
        show quotF (c :: d :: y) = _
        rw [quotF, if_pos hc, if_neg (by rw [hd]; decide)]
        exact h
      · simp at h
    | c :: e :: t, hl, h =>
      simp only [List.length_cons] at hl
      show quotF (c :: e :: (t ++ d :: y)) = _
      rw [quotF] at h ⊢
      by_cases hc : (c == 39) = true
      · rw [if_pos hc] at h ⊢
        by_cases he : (e == 39) = true
        · rw [if_pos he] at h ⊢
          cases hq : quotF t with
          | none => rw [hq] at h; simp at h
          | some q => rw [hq] at h; rw [ih t (by omega) q hq]; exact h
        · rw [if_neg he] at h ⊢; exact h
      · rw [if_neg hc] at h ⊢
        cases hq : quotF (e :: t) with
        | none => rw [hq] at h; simp at h
        | some q =>
          rw [hq] at h
          have := ih (e :: t) (by simp; omega) q hq
          rw [List.cons_append] at this
          rw [this]; exact h

theorem markS_app {d : UInt8} (hd : Stop d) (y : List UInt8) (c : UInt8) (t : List UInt8) : markS (c :: t ++ d :: y) = markS (c :: t) := by
  cases t with
  | nil =>
    show (if c == 60 && d == 62 || (c == 60 || c == 62) && d == 61 then 2 else 1) = 1
    rw [hd.eq, hd.gt]; simp
  | cons e t => rfl
theorem markT_app {d : UInt8} (hd : Stop d) (y : List UInt8) (c : UInt8) (t : List UInt8) : markT (c :: t ++ d :: y) = markT (c :: t) := by
  unfold markT
  rw [markS_app hd y c t, take_app (c :: t) (d :: y) _ (mark_le _ (by simp))]
  cases t with
  | nil =>
    have : ((c :: [] ++ d :: y).take 2 == [60, 62]) = false := by
      show (c == 60 && (d == 62 && true)) = false
      rw [hd.gt]; simp
    rw [this]
    have : ((c :: []).take 2 == ([60, 62] : List UInt8)) = false := by
      show (c == 60 && false) = false
      simp
    rw [this]
  | cons e t => rfl

theorem first_app {d : UInt8} (hd : Stop d) (y : List UInt8) (c : UInt8) (t : List UInt8) (h : (firstTk (c :: t)).kind ≠ 1) : firstTk (c :: t ++ d :: y) = firstTk (c :: t) ∧ firstS (c :: t ++ d :: y) = firstS (c :: t) := by
  have h1 : firstTk (c :: t) = if begU c then wordTk (c :: t) else if digU c then numTk (c :: t) else if c == 39 then quotTk (c :: t) else plainTk (markT (c :: t)) := rfl
  have h2 : firstTk (c :: t ++ d :: y) = if begU c then wordTk (c :: t ++ d :: y) else if digU c then numTk (c :: t ++ d :: y) else if c == 39 then quotTk (c :: t ++ d :: y) else plainTk (markT (c :: t ++ d :: y)) := rfl
  have h3 : firstS (c :: t) = if begU c then wordSize (c :: t) else if digU c then runLen digU (c :: t) else if c == 39 then quotS (c :: t) else markS (c :: t) := rfl
  have h4 : firstS (c :: t ++ d :: y) = if begU c then wordSize (c :: t ++ d :: y) else if digU c then runLen digU (c :: t ++ d :: y) else if c == 39 then quotS (c :: t ++ d :: y) else markS (c :: t ++ d :: y) := rfl
  rw [h1] at h
  rw [h1, h2, h3, h4]
  by_cases hb : begU c = true
  · rw [if_pos hb, if_pos hb, if_pos hb, if_pos hb]
    refine ⟨?_, wordSize_app hd y c t⟩
    unfold wordTk
    rw [wordSize_app hd y c t, take_app _ _ _ (wordSize_le _)]
  rw [if_neg hb] at h
  rw [if_neg hb, if_neg hb, if_neg hb, if_neg hb]
  by_cases hg : digU c = true
  · rw [if_pos hg, if_pos hg, if_pos hg, if_pos hg]
    have hr := runLen_app digU hd.dig y (c :: t)
    refine ⟨?_, hr⟩
    unfold numTk
    rw [hr, take_app _ _ _ (runLen_le _ _)]
  rw [if_neg hg] at h
  rw [if_neg hg, if_neg hg, if_neg hg, if_neg hg]
  by_cases hq : (c == 39) = true
  · rw [if_pos hq] at h
    rw [if_pos hq, if_pos hq, if_pos hq, if_pos hq]
    cases hf : quotF ((c :: t).drop 1) with
    | none => exfalso; unfold quotTk at h; rw [hf] at h; exact h rfl
    | some r =>
      have hf' : quotF ((c :: t ++ d :: y).drop 1) = some r := quotF_app hd.quo y _ t (Nat.le_refl _) r hf
      unfold quotTk quotS
      rw [hf, hf']
      exact ⟨rfl, rfl⟩
  · rw [if_neg hq, if_neg hq, if_neg hq, if_neg hq, markT_app hd y c t, markS_app hd y c t]
    exact ⟨rfl, rfl⟩

theorem ite_ne {c : Prop} [Decidable c] {a b : Int} (ha : a ≠ 0) (hb : b ≠ 0) : (if c then a else b) ≠ 0 := by
  by_cases h : c
  · rw [if_pos h]; exact ha
  · rw [if_neg h]; exact hb
theorem kwK_ne (l : List UInt8) : kwK l ≠ 0 := by
  unfold kwK
  repeat refine ite_ne (by decide) ?_
  decide
theorem markK_ne (l : List UInt8) : markK l ≠ 0 := by
  unfold markK
  repeat refine ite_ne (by decide) ?_
  decide
theorem word_ne (l : List UInt8) : (wordTk l).kind ≠ 0 := by
  unfold wordTk
  by_cases h : wordK (l.take (wordSize l)) = 2
  · rw [if_pos h]; show (2 : Int) ≠ 0; decide
  · rw [if_neg h]; exact kwK_ne _
theorem num_ne (l : List UInt8) : (numTk l).kind ≠ 0 := by
  unfold numTk
  by_cases h : decVal 0 (l.take (runLen digU l)) ≤ 9223372036854775807
  · rw [if_pos h]; show (3 : Int) ≠ 0; decide
  · rw [if_neg h]; show (1 : Int) ≠ 0; decide
theorem quot_ne (l : List UInt8) : (quotTk l).kind ≠ 0 := by
  unfold quotTk
  cases quotF (l.drop 1) with
  | none => show (1 : Int) ≠ 0; decide
  | some r => show (4 : Int) ≠ 0; decide
theorem mark_ne (l : List UInt8) : markT l ≠ 0 := by
  unfold markT
  exact ite_ne (by decide) (markK_ne _)
theorem first_ne (l : List UInt8) : (firstTk l).kind ≠ 0 := by
  cases l with
  | nil => show (1 : Int) ≠ 0; decide
  | cons c t =>
    show (if begU c then wordTk (c :: t) else if digU c then numTk (c :: t) else if c == 39 then quotTk (c :: t) else plainTk (markT (c :: t))).kind ≠ 0
    by_cases hb : begU c = true
    · rw [if_pos hb]; exact word_ne _
    rw [if_neg hb]
    by_cases hg : digU c = true
    · rw [if_pos hg]; exact num_ne _
    rw [if_neg hg]
    by_cases hq : (c == 39) = true
    · rw [if_pos hq]; exact quot_ne _
    rw [if_neg hq]
    exact mark_ne _

theorem next_in {l : List UInt8} (h : (nextTk l 0).kind ≠ 0) : nextAt l 0 < l.length := by
  apply Decidable.byContradiction
  intro hn
  unfold nextTk at h
  rw [if_neg hn] at h
  exact h rfl
theorem next_out {l : List UInt8} (h : nextTk l 0 = plainTk 0) : ¬ nextAt l 0 < l.length := by
  intro hn
  unfold nextTk at h
  rw [if_pos hn] at h
  exact first_ne _ (by rw [h]; rfl)

theorem next_app {d : UInt8} (hd : Stop d) (y : List UInt8) (l : List UInt8) (h0 : (nextTk l 0).kind ≠ 0) (h1 : (nextTk l 0).kind ≠ 1) : nextTk (l ++ d :: y) 0 = nextTk l 0 ∧ nextTo (l ++ d :: y) 0 = nextTo l 0 := by
  have hl := next_in h0
  have ha : nextAt (l ++ d :: y) 0 = nextAt l 0 := by
    unfold nextAt at hl ⊢
    rw [List.drop_zero] at hl ⊢
    rw [List.drop_zero, runLen_lt _ _ _ (by omega)]
  have hla : nextAt l 0 < (l ++ d :: y).length := by rw [List.length_append]; omega
  unfold nextTk nextTo
  unfold nextTk at h1
  rw [if_pos hl] at h1
  rw [ha, if_pos hl, if_pos hla, if_pos hl, if_pos hla, List.drop_append_of_le_length (Nat.le_of_lt hl)]
  cases hr : l.drop (nextAt l 0) with
  | nil => have := congrArg List.length hr; rw [List.length_drop] at this; simp at this; omega
  | cons c t =>
    rw [hr] at h1
    obtain ⟨e1, e2⟩ := first_app hd y c t h1
    rw [e1, e2]
    exact ⟨rfl, rfl⟩

theorem lx_sp {c : UInt8} (hc : spU c = true) {r : List UInt8} {L : List Tk} (h : Lx r L) : Lx (c :: r) L := by
  have ha : nextAt (c :: r) 0 = nextAt r 0 + 1 := by unfold nextAt; simp [runLen, hc]
  have hk : nextTk (c :: r) 0 = nextTk r 0 := by
    unfold nextTk
    rw [ha]
    by_cases hl : nextAt r 0 < r.length
    · rw [if_pos hl, if_pos (by simp; omega)]; rfl
    · rw [if_neg hl, if_neg (by simp; omega)]
  have ht : nextTo (c :: r) 0 = nextTo r 0 + 1 := by
    unfold nextTo
    rw [ha]
    by_cases hl : nextAt r 0 < r.length
    · rw [if_pos hl, if_pos (by simp; omega), List.drop_succ_cons]; omega
    · rw [if_neg hl, if_neg (by simp; omega)]; simp
  cases h with
  | nil h => exact .nil (by rw [hk]; exact h)
  | cons e h t => exact .cons (by rw [hk]; exact e) h (by rw [ht, List.drop_succ_cons]; exact t)
theorem lx_sps {z : List UInt8} {M : List Tk} (h : Lx z M) : ∀ l : List UInt8, l.length ≤ runLen spU l → Lx (l ++ z) M := by
  intro l
  induction l with
  | nil => intro _; exact h
  | cons c t ih =>
    intro hl
    have hc : runLen spU (c :: t) = if spU c then runLen spU t + 1 else 0 := rfl
    rw [hc] at hl
    by_cases hp : spU c = true
    · rw [if_pos hp] at hl
      exact lx_sp hp (ih (by simp at hl; omega))
    · rw [if_neg hp] at hl; simp at hl

theorem lx_app {d : UInt8} (hd : Stop d) {y : List UInt8} {M : List Tk} (hM : Lx (d :: y) M) {l : List UInt8} {L : List Tk} (h : Lx l L) : (∀ k ∈ L, k.kind ≠ 1) → Lx (l ++ d :: y) (L ++ M) := by
  induction h with
  | @nil r h =>
    intro _
    have := next_out h
    unfold nextAt at this
    rw [List.drop_zero] at this
    exact lx_sps hM r (by omega)
  | @cons r k L e h t ih =>
    intro hb
    obtain ⟨e1, e2⟩ := next_app hd y r (by rw [e]; exact h) (by rw [e]; exact hb k (by simp))
    refine .cons (by rw [e1]; exact e) h ?_
    rw [e2, List.drop_append_of_le_length (nextTo_le r 0)]
    exact ih (fun k hk => hb k (by simp [hk]))

/-- Every text has its tokens. -/
theorem lx_total : ∀ (n : Nat) (l : List UInt8), l.length ≤ n → ∃ L, Lx l L := by
  intro n
  induction n with
  | zero =>
    intro l hl
    have : l = [] := List.eq_nil_of_length_eq_zero (by omega)
    subst this
    exact ⟨[], lx_end⟩
  | succ n ih =>
    intro l hl
    by_cases h : nextAt l 0 < l.length
    · have hk : nextTk l 0 = firstTk (l.drop (nextAt l 0)) := by unfold nextTk; rw [if_pos h]
      have hz : 0 < nextTo l 0 := by
        unfold nextTo
        rw [if_pos h]
        have := firstS_pos (l.drop (nextAt l 0)) (by rw [List.length_drop]; omega)
        omega
      obtain ⟨L, hL⟩ := ih (l.drop (nextTo l 0)) (by rw [List.length_drop]; omega)
      exact ⟨_, .cons rfl (by rw [hk]; exact first_ne _) hL⟩
    · exact ⟨[], .nil (by unfold nextTk; rw [if_neg h])⟩

theorem stop41 : Stop 41 := ⟨rfl, rfl, rfl, rfl, rfl⟩
theorem stop32 : Stop 32 := ⟨rfl, rfl, rfl, rfl, rfl⟩
end

section
def Ate (ts ts' : TS) : Prop := ∃ A, ts.toks = A ++ ts'.toks ∧ ∀ k ∈ A, k.kind ≠ 1
theorem Ate.refl (ts : TS) : Ate ts ts := ⟨[], rfl, fun _ h => by cases h⟩
theorem Ate.trans {a b c : TS} (h : Ate a b) (g : Ate b c) : Ate a c := by
  obtain ⟨A, e1, h1⟩ := h
  obtain ⟨B, e2, h2⟩ := g
  refine ⟨A ++ B, by rw [e1, e2, List.append_assoc], fun k hk => ?_⟩
  rcases List.mem_append.1 hk with h | h
  · exact h1 k h
  · exact h2 k h
theorem Ate.tail {ts : TS} {n : Nat} (h : ts.tk.kind ≠ 1) : Ate ts ⟨ts.toks.tail, n⟩ := by
  cases ht : ts.toks with
  | nil => exact ⟨[], by rw [ht]; rfl, fun _ h => by cases h⟩
  | cons a r =>
    refine ⟨[a], by rw [ht]; rfl, fun k hk => ?_⟩
    simp at hk
    subst hk
    unfold TS.tk at h
    rw [ht] at h
    exact h
theorem Ate.next {ts : TS} (h : ts.tk.kind ≠ 1) : Ate ts ts.next := Ate.tail h
theorem Ate.of {ts : TS} {c : Int} (h : ts.tk.kind = c) (hc : c ≠ 1) : Ate ts ts.next := Ate.next (by rw [h]; exact hc)
theorem Ate.op {a b : TS} (h : Ate a b) (n : Nat) : Ate a ⟨b.toks, n⟩ := h

def Eats (f : TS → TRes) : Prop := ∀ ts t ts', f ts = .ok t ts' → Ate ts ts'

theorem Eats.join {f : TS → TRes} (h : Eats f) (ts : TS) (l t : Ast) (ts' : TS) (hk : ts.tk.kind ≠ 1) (he : tJoin f ts l = .ok t ts') : Ate ts ts' := by
  unfold tJoin at he
  split at he
  · rename_i hr; injection he with _ h2; subst h2; exact (Ate.next hk).trans (h _ _ _ hr)
  · cases he
theorem Eats.loop {f : TS → TRes} (h : Eats f) (ks : List Int) (h1 : ks.contains 1 = false) : ∀ n l ts t ts', tLoop f ks n l ts = .ok t ts' → Ate ts ts' := by
  intro n
  induction n with
  | zero => intro l ts t ts' he; rw [tLoop] at he; injection he with _ h2; subst h2; exact Ate.refl _
  | succ n ih =>
    intro l ts t ts' he
    rw [tLoop] at he
    by_cases hc : ks.contains ts.tk.kind = true
    · rw [if_pos hc] at he
      have hk : ts.tk.kind ≠ 1 := fun e => by rw [e, h1] at hc; cases hc
      split at he
      · rename_i hj; exact (h.join _ _ _ _ hk hj).trans (ih _ _ _ _ he)
      · cases he
    · rw [if_neg hc] at he
      injection he with _ h2; subst h2; exact Ate.refl _
theorem Eats.row {f : TS → TRes} (h : Eats f) (ks : List Int) (h1 : ks.contains 1 = false) : Eats (tRow f ks) := by
  intro ts t ts' he
  unfold tRow at he
  split at he
  · rename_i hr; exact (h _ _ _ hr).trans (h.loop ks h1 _ _ _ _ _ he)
  · cases he
theorem Eats.sign {f : TS → TRes} (h : Eats f) (o : Int) (ts : TS) (t : Ast) (ts' : TS) (hk : ts.tk.kind ≠ 1) (he : tSign f o ts = .ok t ts') : Ate ts ts' := by
  unfold tSign at he
  split at he
  · cases he
  · split at he
    · rename_i hr; injection he with _ h2; subst h2
      exact ((Ate.tail (n := ts.op + 1) hk).trans (h _ _ _ hr)).op _
    · cases he
theorem Eats.group {f : TS → TRes} (h : Eats f) (ts : TS) (t : Ast) (ts' : TS) (hk : ts.tk.kind ≠ 1) (he : tGroup f ts = .ok t ts') : Ate ts ts' := by
  unfold tGroup at he
  split at he
  · cases he
  · split at he
    · rename_i hr
      split at he
      · rename_i h27
        injection he with _ h2; subst h2
        exact ((Ate.tail (n := ts.op + 1) hk).trans (h _ _ _ hr)).trans (Ate.tail (by rw [h27]; decide))
      · cases he
    · cases he
theorem Eats.signed {f g : TS → TRes} (hS : Eats f) (hE : Eats g) : Eats (tSigned f g) := by
  intro ts t ts' he
  unfold tSigned at he
  by_cases h22 : ts.tk.kind = 22
  · rw [if_pos h22] at he; exact hS.sign 14 _ _ _ (by rw [h22]; decide) he
  rw [if_neg h22] at he
  by_cases h23 : ts.tk.kind = 23
  · rw [if_pos h23] at he; exact hS.sign 15 _ _ _ (by rw [h23]; decide) he
  rw [if_neg h23] at he
  by_cases h26 : ts.tk.kind = 26
  · rw [if_pos h26] at he; exact hE.group _ _ _ (by rw [h26]; decide) he
  rw [if_neg h26] at he
  by_cases h2 : ts.tk.kind = 2
  · rw [if_pos h2] at he; injection he with _ e; subst e; exact Ate.of h2 (by decide)
  rw [if_neg h2] at he
  by_cases h3 : ts.tk.kind = 3
  · rw [if_pos h3] at he; injection he with _ e; subst e; exact Ate.of h3 (by decide)
  rw [if_neg h3] at he
  by_cases h4 : ts.tk.kind = 4
  · rw [if_pos h4] at he; injection he with _ e; subst e; exact Ate.of h4 (by decide)
  rw [if_neg h4] at he
  by_cases h8 : ts.tk.kind = 8
  · rw [if_pos h8] at he; injection he with _ e; subst e; exact Ate.of h8 (by decide)
  rw [if_neg h8] at he
  by_cases h9 : ts.tk.kind = 9
  · rw [if_pos h9] at he; injection he with _ e; subst e; exact Ate.of h9 (by decide)
  rw [if_neg h9] at he
  cases he
theorem eats_isNull (l : Ast) (ts : TS) (t : Ast) (ts' : TS) (hk : ts.tk.kind ≠ 1) (he : tIsNull l ts = .ok t ts') : Ate ts ts' := by
  unfold tIsNull at he
  by_cases h7 : ts.next.tk.kind = 7
  · rw [if_pos h7] at he
    by_cases h15 : ts.next.next.tk.kind = 15
    · rw [if_pos h15] at he; injection he with _ e; subst e
      exact ((Ate.next hk).trans (Ate.of h7 (by decide))).trans (Ate.of h15 (by decide))
    · rw [if_neg h15] at he; cases he
  · rw [if_neg h7] at he
    by_cases h15 : ts.next.tk.kind = 15
    · rw [if_pos h15] at he; injection he with _ e; subst e
      exact (Ate.next hk).trans (Ate.of h15 (by decide))
    · rw [if_neg h15] at he; cases he
theorem eats_inLoop (l : Ast) : ∀ n xs ts t ts', tInLoop l n xs ts = .ok t ts' → Ate ts ts' := by
  intro n
  induction n with
  | zero => intro xs ts t ts' he; rw [tInLoop] at he; cases he
  | succ n ih =>
    intro xs ts t ts' he
    rw [tInLoop] at he
    by_cases h28 : ts.tk.kind = 28
    · rw [if_pos h28] at he
      by_cases h4 : ts.next.tk.kind = 4
      · rw [if_pos h4] at he
        exact ((Ate.of h28 (by decide)).trans (Ate.of h4 (by decide))).trans (ih _ _ _ _ he)
      · rw [if_neg h4] at he; cases he
    · rw [if_neg h28] at he
      by_cases h27 : ts.tk.kind = 27
      · rw [if_pos h27] at he; injection he with _ e; subst e; exact Ate.of h27 (by decide)
      · rw [if_neg h27] at he; cases he
theorem eats_in (l : Ast) (ts : TS) (t : Ast) (ts' : TS) (hk : ts.tk.kind ≠ 1) (he : tInRes l ts = .ok t ts') : Ate ts ts' := by
  unfold tInRes at he
  by_cases h26 : ts.next.tk.kind = 26
  · rw [if_pos h26] at he
    by_cases h4 : ts.next.next.tk.kind = 4
    · rw [if_pos h4] at he
      exact (((Ate.next hk).trans (Ate.of h26 (by decide))).trans (Ate.of h4 (by decide))).trans (eats_inLoop l _ _ _ _ _ he)
    · rw [if_neg h4] at he; cases he
  · rw [if_neg h26] at he; cases he
theorem eats_like (l : Ast) (ts : TS) (t : Ast) (ts' : TS) (hk : ts.tk.kind ≠ 1) (he : tLike l ts = .ok t ts') : Ate ts ts' := by
  unfold tLike at he
  by_cases h4 : ts.next.tk.kind = 4
  · rw [if_pos h4] at he
    have a := (Ate.next hk).trans (Ate.of h4 (by decide))
    by_cases h13 : ts.next.next.tk.kind = 13
    · rw [if_pos h13] at he
      split at he
      · rename_i g
        injection he with _ e; subst e
        exact (a.trans (Ate.of h13 (by decide))).trans (Ate.of g.1 (by decide))
      · cases he
    · rw [if_neg h13] at he
      injection he with _ e; subst e; exact a
  · rw [if_neg h4] at he; cases he
theorem Eats.between {f : TS → TRes} (h : Eats f) (l : Ast) (ts : TS) (t : Ast) (ts' : TS) (he : tBetween f l ts = .ok t ts') : Ate ts ts' := by
  unfold tBetween at he
  by_cases h10 : ts.tk.kind = 10
  · rw [if_pos h10] at he
    split at he
    · rename_i ts1 e1
      split at he
      · rename_i h5
        split at he
        · rename_i e2
          injection he with _ e; subst e
          exact (((Ate.of h10 (by decide)).trans (h _ _ _ e1)).trans (Ate.of h5 (by decide))).trans (h _ _ _ e2)
        · cases he
      · cases he
    · cases he
  · rw [if_neg h10] at he; cases he
theorem Eats.keyword {f : TS → TRes} (h : Eats f) (bare : Bool) (l : Ast) (ts : TS) (t : Ast) (ts' : TS) (he : tKeyword f bare l ts = .ok t ts') : Ate ts ts' := by
  unfold tKeyword at he
  split at he
  · rename_i g; exact eats_in _ _ _ _ (by rw [g.1]; decide) he
  split at he
  · rename_i g; exact eats_like _ _ _ _ (by rw [g.1]; decide) he
  · exact h.between _ _ _ _ he
theorem Eats.test {f : TS → TRes} (h : Eats f) : Eats (tTest f) := by
  intro ts t ts' he
  unfold tTest at he
  split at he
  · rename_i hr
    refine (h _ _ _ hr).trans ?_
    unfold tTail at he
    split at he
    · rename_i g
      exact h.join _ _ _ _ (by rcases g with e | e | e | e | e | e <;> rw [e] <;> decide) he
    split at he
    · rename_i g
      split at he
      · exact eats_isNull _ _ _ _ (by rw [g]; decide) he
      · injection he with _ h2; subst h2; exact Ate.refl _
    split at he
    · rename_i g
      split at he
      · rename_i hk; injection he with _ h2; subst h2; exact (Ate.of g (by decide)).trans (h.keyword _ _ _ _ _ hk)
      · cases he
    split at he
    · exact h.keyword _ _ _ _ _ he
    · injection he with _ h2; subst h2; exact Ate.refl _
  · cases he
theorem Eats.denied {fD fT : TS → TRes} (hD : Eats fD) (hT : Eats fT) : Eats (tDenied fD fT) := by
  intro ts t ts' he
  unfold tDenied at he
  split at he
  · rename_i g; exact hD.sign 5 _ _ _ (by rw [g]; decide) he
  · exact hT _ _ _ he
structure Eats3 (L : T3) : Prop where
  S : Eats L.S
  D : Eats L.D
  E : Eats L.E
theorem eats_up {L : T3} (h : Eats3 L) : Eats3 (tUp L) := by
  have hS := Eats.signed h.S h.E
  have hT := ((hS.row [24, 25] rfl).row [22, 23] rfl).test
  have hD := Eats.denied h.D hT
  exact ⟨hS, hD, (hD.row [5] rfl).row [6] rfl⟩
theorem eats_lvl : ∀ d, Eats3 (tLvl d) := by
  intro d
  induction d with
  | zero => exact eats_up ⟨(fun _ _ _ h => by cases h), (fun _ _ _ h => by cases h), (fun _ _ _ h => by cases h)⟩
  | succ d ih => exact eats_up ih

theorem chk_of_erase {t : Ast} (h : chkR (clsA t) = none) : chkR (clsA (erase t)) = none := by
  have hr := cls_erase t
  cases h1 : clsA t with
  | ok c =>
    rw [h1] at hr h
    cases h2 : clsA (erase t) with
    | ok d => rw [h2] at hr; cases hr; exact h
    | err q => rw [h2] at hr; cases hr
  | err p => rw [h1] at h; cases h

/-- The tokens of a selector. -/
theorem tokens_of_read {s : ByteArray} {t : Ast} (h : readR s = .ok t) : s.size ≤ 200 ∧ ∃ L, Lx s.data.toList L ∧ (∀ k ∈ L, k.kind ≠ 1) ∧ (tLvl 12).E ⟨L, 0⟩ = .ok (erase t) ⟨[], 0⟩ ∧ chkR (clsA (erase t)) = none := by
  unfold readR at h
  by_cases hs : s.size ≤ 200
  · rw [if_pos hs] at h
    refine ⟨hs, ?_⟩
    obtain ⟨L, hL⟩ := lx_total _ s.data.toList (Nat.le_refl _)
    have hst : Str s (stepSt s st0) L := str_of_lx hL st0 (Nat.zero_le _) (List.drop_zero)
    have hfi := stepSt_fine s st0 (Nat.zero_le _)
    have hsim := (sim_lvl s 12).E (stepSt s st0) ⟨L, 0⟩ hfi hst rfl
    rcases hsim.cases with ⟨t1, st, ts, e1, e2, e3, e4, e5⟩ | ⟨en, pl, e1, e2⟩
    · rw [e1] at h
      change endR t1 st = _ at h
      unfold endR at h
      by_cases hk : st.tk.kind = 0
      · rw [if_pos hk] at h
        cases hc : chkR (clsA t1) with
        | some q => rw [hc] at h; cases h
        | none =>
          rw [hc] at h
          injection h with h
          subst h
          have hnil : ts.toks = [] := by
            cases hl : ts.toks with
            | nil => rfl
            | cons a r =>
              rw [hl] at e3
              cases e3 with
              | cons g _ => exact absurd hk g
          have hop : ts.op = 0 := ((ext_lvl (X := [plainTk 27]) rfl 0 12 0 rfl).E ⟨L, 0⟩ rfl _ _ e2).1
          have hts : ts = ⟨[], 0⟩ := by cases ts; simp at hnil hop; rw [hnil, hop]
          rw [hts] at e2
          obtain ⟨A, ea, hA⟩ := (eats_lvl 12).E _ _ _ e2
          refine ⟨L, hL, fun k hk => hA k ?_, e2, chk_of_erase hc⟩
          have : L = A := by simpa using ea
          rw [← this]; exact hk
      · rw [if_neg hk] at h; cases h
    · rw [e1] at h; cases h
  · rw [if_neg hs] at h; cases h
end

section
theorem group_up (L : T3) (a r : List Tk) (o : Nat) (ho : o ≠ 12) (t : Ast) (h : L.E ⟨a, o + 1⟩ = .ok t ⟨plainTk 27 :: r, o + 1⟩) : (tUp L).S ⟨plainTk 26 :: a, o⟩ = .ok t ⟨r, o⟩ := by
  show tSigned L.S L.E ⟨plainTk 26 :: a, o⟩ = _
  have e : tSigned L.S L.E ⟨plainTk 26 :: a, o⟩ = tGroup L.E ⟨plainTk 26 :: a, o⟩ := rfl
  rw [e]
  unfold tGroup
  rw [if_neg ho]
  show (match L.E ⟨a, o + 1⟩ with
    | .ok t ts' => if ts'.tk.kind = 27 then TRes.ok t ⟨ts'.toks.tail, o⟩ else .err 2
    | .err en => .err en) = _
  rw [h]
  rfl
theorem group_no (L : T3) (a : List Tk) (o : Nat) (ho : o ≠ 12) (en : Int) (h : L.E ⟨a, o + 1⟩ = .err en) : (tUp L).S ⟨plainTk 26 :: a, o⟩ = .err en := by
  show tSigned L.S L.E ⟨plainTk 26 :: a, o⟩ = _
  have e : tSigned L.S L.E ⟨plainTk 26 :: a, o⟩ = tGroup L.E ⟨plainTk 26 :: a, o⟩ := rfl
  rw [e]
  unfold tGroup
  rw [if_neg ho]
  show (match L.E ⟨a, o + 1⟩ with
    | .ok t ts' => if ts'.tk.kind = 27 then TRes.ok t ⟨ts'.toks.tail, o⟩ else .err 2
    | .err en => .err en) = _
  rw [h]

theorem row_one {f : TS → TRes} {ks : List Int} {ts : TS} {t : Ast} {r : List Tk} {o : Nat} (h : f ts = .ok t ⟨r, o⟩) (hk : ks.contains (hd r).kind = false) : tRow f ks ts = .ok t ⟨r, o⟩ := by
  unfold tRow
  rw [h]
  show tLoop f ks (r.length + 1) t ⟨r, o⟩ = _
  rw [tLoop]
  show (if ks.contains (hd r).kind = true then _ else _) = _
  rw [if_neg (by rw [hk]; decide)]
theorem row_no {f : TS → TRes} {ks : List Int} {ts : TS} {en : Int} (h : f ts = .err en) : tRow f ks ts = .err en := by
  unfold tRow
  rw [h]
theorem row_two {f : TS → TRes} {ks : List Int} {ts : TS} {l r : Ast} {k : Tk} {Y Z : List Tk} {o : Nat} (h : f ts = .ok l ⟨k :: Y, o⟩) (hk : ks.contains k.kind = true) (h2 : f ⟨Y, o⟩ = .ok r ⟨Z, o⟩) (hz : ks.contains (hd Z).kind = false) :
    tRow f ks ts = .ok (.bin ⟨opOf k.kind, 0, 0, [], [], []⟩ l r) ⟨Z, o⟩ := by
  unfold tRow
  rw [h]
  show tLoop f ks (Y.length + 1 + 1) l ⟨k :: Y, o⟩ = _
  rw [tLoop]
  show (if ks.contains k.kind = true then _ else _) = _
  rw [if_pos hk]
  have hj : tJoin f ⟨k :: Y, o⟩ l = .ok (.bin ⟨opOf k.kind, 0, 0, [], [], []⟩ l r) ⟨Z, o⟩ := by
    unfold tJoin
    show (match f ⟨Y, o⟩ with
      | .ok r ts' => TRes.ok (.bin ⟨opOf k.kind, 0, 0, [], [], []⟩ l r) ts'
      | .err en => .err en) = _
    rw [h2]
  rw [hj]
  show tLoop f ks (Y.length + 1) _ ⟨Z, o⟩ = _
  rw [tLoop]
  show (if ks.contains (hd Z).kind = true then _ else _) = _
  rw [if_neg (by rw [hz]; decide)]
theorem row_two_no {f : TS → TRes} {ks : List Int} {ts : TS} {l : Ast} {k : Tk} {Y : List Tk} {o : Nat} {en : Int} (h : f ts = .ok l ⟨k :: Y, o⟩) (hk : ks.contains k.kind = true) (h2 : f ⟨Y, o⟩ = .err en) :
    tRow f ks ts = .err en := by
  unfold tRow
  rw [h]
  show tLoop f ks (Y.length + 1 + 1) l ⟨k :: Y, o⟩ = _
  rw [tLoop]
  show (if ks.contains k.kind = true then _ else _) = _
  rw [if_pos hk]
  have hj : tJoin f ⟨k :: Y, o⟩ l = .err en := by
    unfold tJoin
    show (match f ⟨Y, o⟩ with
      | .ok r ts' => TRes.ok (.bin ⟨opOf k.kind, 0, 0, [], [], []⟩ l r) ts'
      | .err en => .err en) = _
    rw [h2]
  rw [hj]

/-- Behind what is no operator of a test. -/
def Plain (k : Int) : Prop := k = 0 ∨ k = 5 ∨ k = 6 ∨ k = 27

theorem tail_plain (f : TS → TRes) (bare : Bool) (l : Ast) (ts : TS) (h : Plain ts.tk.kind) : tTail f bare l ts = .ok l ts := by
  unfold tTail
  rcases h with e | e | e | e <;> rw [e] <;> rfl

theorem denied_up (L : T3) (ts : TS) (h7 : ts.tk.kind ≠ 7) (t : Ast) (r : List Tk) (o : Nat) (h : (tUp L).S ts = .ok t ⟨r, o⟩) (hr : Plain (hd r).kind) : (tUp L).D ts = .ok t ⟨r, o⟩ := by
  show tDenied L.D _ ts = _
  unfold tDenied
  rw [if_neg h7]
  have h1 : tRow (tSigned L.S L.E) [24, 25] ts = .ok t ⟨r, o⟩ := row_one h (by rcases hr with e | e | e | e <;> rw [e] <;> rfl)
  have h2 : tRow (tRow (tSigned L.S L.E) [24, 25]) [22, 23] ts = .ok t ⟨r, o⟩ := row_one h1 (by rcases hr with e | e | e | e <;> rw [e] <;> rfl)
  unfold tTest
  rw [h2]
  exact tail_plain _ _ _ _ hr
theorem denied_no (L : T3) (ts : TS) (h7 : ts.tk.kind ≠ 7) (en : Int) (h : (tUp L).S ts = .err en) : (tUp L).D ts = .err en := by
  show tDenied L.D _ ts = _
  unfold tDenied
  rw [if_neg h7]
  have h2 : tRow (tRow (tSigned L.S L.E) [24, 25]) [22, 23] ts = .err en := row_no (row_no h)
  unfold tTest
  rw [h2]

/-- A selector in parentheses, of a level below. -/
theorem paren {d o : Nat} (ho : o + d + 1 = 12) {La r : List Tk} {e : Ast} (h : (tLvl 12).E ⟨La, 0⟩ = .ok e ⟨[], 0⟩) (hr : Plain (hd r).kind) :
    (tLvl (d + 1)).D ⟨plainTk 26 :: (La ++ plainTk 27 :: r), o⟩ = .err 3 ∨ (tLvl (d + 1)).D ⟨plainTk 26 :: (La ++ plainTk 27 :: r), o⟩ = .ok e ⟨r, o⟩ := by
  have hX : Clo (plainTk 27 :: r) := rfl
  have hx := ext_lvl hX (o + 1) d 0 (by omega)
  rw [show d + (o + 1) = 12 by omega] at hx
  obtain ⟨_, h3 | h3⟩ := hx.E ⟨La, 0⟩ rfl _ _ h
  · left
    have h4 : (tLvl d).E ⟨La ++ plainTk 27 :: r, o + 1⟩ = .err 3 := by
      have := h3
      unfold sh at this
      rw [Nat.zero_add] at this
      exact this
    refine denied_no (tLvl d) _ ?_ 3 (group_no (tLvl d) _ o (by omega) 3 h4)
    show (26 : Int) ≠ 7
    decide
  · right
    have h4 : (tLvl d).E ⟨La ++ plainTk 27 :: r, o + 1⟩ = .ok e ⟨plainTk 27 :: r, o + 1⟩ := by
      have := h3
      unfold sh at this
      rw [Nat.zero_add] at this
      exact this
    refine denied_up (tLvl d) _ ?_ e r o (group_up (tLvl d) _ r o (by omega) e h4) hr
    show (26 : Int) ≠ 7
    decide

theorem both_tokens {L1 L2 : List Tk} {e1 e2 : Ast} (h1 : (tLvl 12).E ⟨L1, 0⟩ = .ok e1 ⟨[], 0⟩) (h2 : (tLvl 12).E ⟨L2, 0⟩ = .ok e2 ⟨[], 0⟩) (c : Int) (hc : c = 5 ∨ c = 6) :
    (tLvl 12).E ⟨plainTk 26 :: (L1 ++ plainTk 27 :: plainTk c :: plainTk 26 :: (L2 ++ [plainTk 27])), 0⟩ = .err 3 ∨ (tLvl 12).E ⟨plainTk 26 :: (L1 ++ plainTk 27 :: plainTk c :: plainTk 26 :: (L2 ++ [plainTk 27])), 0⟩ = .ok (.bin ⟨opOf c, 0, 0, [], [], []⟩ e1 e2) ⟨[], 0⟩ := by
  have hE : (tLvl 12).E = tRow (tRow (tLvl 12).D [5]) [6] := rfl
  rw [hE]
  have a := paren (d := 11) (o := 0) rfl (r := plainTk c :: plainTk 26 :: (L2 ++ [plainTk 27])) h1 (by rcases hc with rfl | rfl <;> simp [Plain, hd, plainTk])
  have b := paren (d := 11) (o := 0) rfl (r := []) h2 (.inl rfl)
  rcases a with a | a
  · left; exact row_no (row_no a)
  rcases hc with rfl | rfl
  · rcases b with b | b
    · left; exact row_no (row_two_no a rfl b)
    · right; exact row_one (row_two a rfl b rfl) rfl
  · have a' := row_one (ks := [5]) a rfl
    rcases b with b | b
    · left; exact row_two_no a' rfl (row_no b)
    · right; exact row_two a' rfl (row_one b rfl) rfl

theorem not_tokens {La : List Tk} {e : Ast} (h : (tLvl 12).E ⟨La, 0⟩ = .ok e ⟨[], 0⟩) :
    (tLvl 12).E ⟨plainTk 7 :: plainTk 26 :: (La ++ [plainTk 27]), 0⟩ = .err 3 ∨ (tLvl 12).E ⟨plainTk 7 :: plainTk 26 :: (La ++ [plainTk 27]), 0⟩ = .ok (.un ⟨5, 0, 0, [], [], []⟩ e) ⟨[], 0⟩ := by
  have hE : (tLvl 12).E = tRow (tRow (tLvl 12).D [5]) [6] := rfl
  rw [hE]
  have a := paren (d := 10) (o := 1) rfl (r := []) h (.inl rfl)
  have hD : (tLvl 12).D ⟨plainTk 7 :: plainTk 26 :: (La ++ [plainTk 27]), 0⟩ = match (tLvl 11).D ⟨plainTk 26 :: (La ++ [plainTk 27]), 1⟩ with
    | .ok x ts' => .ok (.un ⟨5, 0, 0, [], [], []⟩ x) ⟨ts'.toks, 0⟩
    | .err en => .err en := rfl
  rcases a with a | a
  · left
    refine row_no (row_no ?_)
    rw [hD, a]
  · right
    refine row_one (row_one ?_ rfl) rfl
    rw [hD, a]

theorem paren_tokens {La : List Tk} {e : Ast} (h : (tLvl 12).E ⟨La, 0⟩ = .ok e ⟨[], 0⟩) :
    (tLvl 12).E ⟨plainTk 26 :: (La ++ [plainTk 27]), 0⟩ = .err 3 ∨ (tLvl 12).E ⟨plainTk 26 :: (La ++ [plainTk 27]), 0⟩ = .ok e ⟨[], 0⟩ := by
  have hE : (tLvl 12).E = tRow (tRow (tLvl 12).D [5]) [6] := rfl
  rw [hE]
  rcases paren (d := 11) (o := 0) rfl (r := []) h (.inl rfl) with a | a
  · left; exact row_no (row_no a)
  · right; exact row_one (row_one a rfl) rfl

theorem deep_of_tokens (s : ByteArray) (hs : s.size ≤ 200) (L : List Tk) (hL : Lx s.data.toList L) (en : Int) (h : (tLvl 12).E ⟨L, 0⟩ = .err en) : ∃ pl, readR s = .err en pl := by
  have hst : Str s (stepSt s st0) L := str_of_lx hL st0 (Nat.zero_le _) (List.drop_zero)
  have hfi := stepSt_fine s st0 (Nat.zero_le _)
  have hsim := (sim_lvl s 12).E (stepSt s st0) ⟨L, 0⟩ hfi hst rfl
  rcases hsim.cases with ⟨t, st, ts, e1, e2, e3, e4, e5⟩ | ⟨en', pl, e1, e2⟩
  · rw [h] at e2; cases e2
  · rw [h] at e2
    injection e2 with e2
    subst e2
    exact ⟨pl, by rw [readR, if_pos hs, e1]⟩

theorem chk_ok {t : Ast} (h : chkR (clsA t) = none) : ∃ c, clsA t = .ok c ∧ (c = 3 ∨ c = 0) := by
  cases hc : clsA t with
  | err q => rw [hc] at h; cases h
  | ok c =>
    rw [hc] at h
    refine ⟨c, rfl, ?_⟩
    by_cases h3 : c = 3
    · exact .inl h3
    · by_cases h0 : c = 0
      · exact .inr h0
      · exfalso
        have : (c != 3 && c != 0) = true := by simp [bne_iff_ne, h3, h0]
        change (if (c != 3 && c != 0) = true then some 0 else none) = none at h
        rw [if_pos this] at h
        cases h
theorem chk_bin {op : Int} (ho : op = 6 ∨ op = 7) {x y : Ast} (hx : chkR (clsA x) = none) (hy : chkR (clsA y) = none) : chkR (clsA (.bin ⟨op, 0, 0, [], [], []⟩ x y)) = none := by
  obtain ⟨c, e, hc⟩ := chk_ok hx
  obtain ⟨d, f, hd⟩ := chk_ok hy
  show chkR (clsOf op 0 [clsA x, clsA y]) = none
  rw [e, f]
  rcases ho with rfl | rfl <;> rcases hc with rfl | rfl <;> rcases hd with rfl | rfl <;> rfl
theorem chk_not {x : Ast} (hx : chkR (clsA x) = none) : chkR (clsA (.un ⟨5, 0, 0, [], [], []⟩ x)) = none := by
  obtain ⟨c, e, hc⟩ := chk_ok hx
  show chkR (clsOf 5 0 [clsA x]) = none
  rw [e]
  rcases hc with rfl | rfl <;> rfl

/-- What a text made of selectors reads as: too long, too deep, or that term. -/
def Big (s : ByteArray) (t' : Ast) : Prop := (200 < s.size ∧ readR s = .err 1 0) ∨ (∃ pl, readR s = .err 3 pl) ∨ ∃ t, readR s = .ok t ∧ erase t = t' ∧ NumA t ∧ BndA t

theorem big_of (s : ByteArray) (L : List Tk) (hL : Lx s.data.toList L) (t' : Ast) (h : (tLvl 12).E ⟨L, 0⟩ = .err 3 ∨ (tLvl 12).E ⟨L, 0⟩ = .ok t' ⟨[], 0⟩) (hc : chkR (clsA t') = none) : Big s t' := by
  by_cases hs : s.size ≤ 200
  · right
    rcases h with h | h
    · exact .inl (deep_of_tokens s hs L hL 3 h)
    · exact .inr (read_of_tokens s hs L hL t' h hc)
  · left
    exact ⟨by omega, by rw [readR, if_neg hs]⟩

theorem lx_close {r : List UInt8} {L : List Tk} (h : Lx r L) : Lx (41 :: r) (plainTk 27 :: L) := by
  have hm : nextTk (41 :: r) 0 = plainTk 27 ∧ nextTo (41 :: r) 0 = 1 := by cases r <;> exact ⟨rfl, rfl⟩
  exact .cons hm.1 (show (27 : Int) ≠ 0 by decide) (by rw [hm.2]; exact h)
theorem lx_open {r : List UInt8} {L : List Tk} (h : Lx r L) : Lx (40 :: r) (plainTk 26 :: L) := by
  have hm : nextTk (40 :: r) 0 = plainTk 26 ∧ nextTo (40 :: r) 0 = 1 := by cases r <;> exact ⟨rfl, rfl⟩
  exact .cons hm.1 (show (26 : Int) ≠ 0 by decide) (by rw [hm.2]; exact h)

theorem lx_and {r : List UInt8} {L : List Tk} (h : Lx r L) : Lx (65 :: 78 :: 68 :: 32 :: r) (plainTk 5 :: L) := .cons (k := plainTk 5) rfl (show (5 : Int) ≠ 0 by decide) (lx_space h)
theorem lx_or {r : List UInt8} {L : List Tk} (h : Lx r L) : Lx (79 :: 82 :: 32 :: r) (plainTk 6 :: L) := .cons (k := plainTk 6) rfl (show (6 : Int) ≠ 0 by decide) (lx_space h)

theorem read_and {p q : ByteArray} {t1 t2 : Ast} (hp : readR p = .ok t1) (hq : readR q = .ok t2) (s : ByteArray) (hs : s.data.toList = 40 :: (p.data.toList ++ 41 :: 32 :: 65 :: 78 :: 68 :: 32 :: 40 :: (q.data.toList ++ [41]))) : Big s (.bin ⟨6, 0, 0, [], [], []⟩ (erase t1) (erase t2)) := by
  obtain ⟨_, L1, x1, b1, r1, c1⟩ := tokens_of_read hp
  obtain ⟨_, L2, x2, b2, r2, c2⟩ := tokens_of_read hq
  refine big_of s _ ?_ _ (both_tokens r1 r2 5 (.inl rfl)) (chk_bin (.inl rfl) c1 c2)
  rw [hs]
  exact lx_open (lx_app stop41 (lx_close (lx_space (lx_and (lx_open (lx_app stop41 (lx_close lx_end) x2 b2))))) x1 b1)
theorem read_or {p q : ByteArray} {t1 t2 : Ast} (hp : readR p = .ok t1) (hq : readR q = .ok t2) (s : ByteArray) (hs : s.data.toList = 40 :: (p.data.toList ++ 41 :: 32 :: 79 :: 82 :: 32 :: 40 :: (q.data.toList ++ [41]))) : Big s (.bin ⟨7, 0, 0, [], [], []⟩ (erase t1) (erase t2)) := by
  obtain ⟨_, L1, x1, b1, r1, c1⟩ := tokens_of_read hp
  obtain ⟨_, L2, x2, b2, r2, c2⟩ := tokens_of_read hq
  refine big_of s _ ?_ _ (both_tokens r1 r2 6 (.inr rfl)) (chk_bin (.inr rfl) c1 c2)
  rw [hs]
  exact lx_open (lx_app stop41 (lx_close (lx_space (lx_or (lx_open (lx_app stop41 (lx_close lx_end) x2 b2))))) x1 b1)
theorem read_not {p : ByteArray} {t : Ast} (hp : readR p = .ok t) (s : ByteArray) (hs : s.data.toList = 78 :: 79 :: 84 :: 32 :: 40 :: (p.data.toList ++ [41])) : Big s (.un ⟨5, 0, 0, [], [], []⟩ (erase t)) := by
  obtain ⟨_, L1, x1, b1, r1, c1⟩ := tokens_of_read hp
  refine big_of s _ ?_ _ (not_tokens r1) (chk_not c1)
  rw [hs]
  exact .cons (k := plainTk 7) rfl (show (7 : Int) ≠ 0 by decide) (lx_space (lx_open (lx_app stop41 (lx_close lx_end) x1 b1)))
theorem read_paren {p : ByteArray} {t : Ast} (hp : readR p = .ok t) (s : ByteArray) (hs : s.data.toList = 40 :: (p.data.toList ++ [41])) : Big s (erase t) := by
  obtain ⟨_, L1, x1, b1, r1, c1⟩ := tokens_of_read hp
  refine big_of s _ ?_ _ (paren_tokens r1) c1
  rw [hs]
  exact lx_open (lx_app stop41 (lx_close lx_end) x1 b1)
end

section
def En (r : TRes) : Prop := ∀ en, r = .err en → en = 2 ∨ en = 3
def Nz (o : Nat) (f : TS → TRes) : Prop := ∀ ts, ts.op = o → En (f ts) ∧ ∀ t ts', f ts = .ok t ts' → ts'.op = o

theorem En.ok {t : Ast} {ts : TS} : En (.ok t ts) := fun _ h => by cases h
theorem En.two : En (.err 2) := fun _ h => by injection h with h; exact .inl h.symm
theorem En.three : En (.err 3) := fun _ h => by injection h with h; exact .inr h.symm

theorem Nz.join {o : Nat} {f : TS → TRes} (h : Nz o f) (ts : TS) (l : Ast) (ho : ts.op = o) : En (tJoin f ts l) ∧ ∀ t ts', tJoin f ts l = .ok t ts' → ts'.op = o := by
  obtain ⟨h1, h2⟩ := h ts.next ho
  unfold tJoin
  cases hf : f ts.next with
  | err en => rw [hf] at h1; exact ⟨h1, fun _ _ h => by cases h⟩
  | ok t ts' => exact ⟨En.ok, fun _ _ h => by injection h with _ e; rw [← e]; exact h2 _ _ hf⟩
theorem Nz.loop {o : Nat} {f : TS → TRes} (h : Nz o f) (ks : List Int) : ∀ n l ts, ts.op = o → En (tLoop f ks n l ts) ∧ ∀ t ts', tLoop f ks n l ts = .ok t ts' → ts'.op = o := by
  intro n
  induction n with
  | zero => intro l ts ho; rw [tLoop]; exact ⟨En.ok, fun _ _ h => by injection h with _ e; rw [← e]; exact ho⟩
  | succ n ih =>
    intro l ts ho
    rw [tLoop]
    split
    · obtain ⟨h1, h2⟩ := h.join ts l ho
      cases hf : tJoin f ts l with
      | err en => rw [hf] at h1; exact ⟨h1, fun _ _ h => by cases h⟩
      | ok t ts' => exact ih t ts' (h2 _ _ hf)
    · exact ⟨En.ok, fun _ _ h => by injection h with _ e; rw [← e]; exact ho⟩
theorem Nz.row {o : Nat} {f : TS → TRes} (h : Nz o f) (ks : List Int) : Nz o (tRow f ks) := by
  intro ts ho
  obtain ⟨h1, h2⟩ := h ts ho
  unfold tRow
  cases hf : f ts with
  | err en => rw [hf] at h1; exact ⟨h1, fun _ _ h => by cases h⟩
  | ok t ts' => exact h.loop ks _ t ts' (h2 _ _ hf)
theorem Nz.sign {o : Nat} (hk : o ≤ 12) {f : TS → TRes} (h : o < 12 → Nz (o + 1) f) (n : Int) (ts : TS) (ho : ts.op = o) : En (tSign f n ts) ∧ ∀ t ts', tSign f n ts = .ok t ts' → ts'.op = o := by
  unfold tSign
  by_cases h12 : ts.op = 12
  · rw [if_pos h12]; exact ⟨En.three, fun _ _ h => by cases h⟩
  · rw [if_neg h12]
    obtain ⟨h1, h2⟩ := h (by omega) (tIn ts) (by show ts.op + 1 = _; omega)
    cases hf : f (tIn ts) with
    | err en => rw [hf] at h1; exact ⟨h1, fun _ _ h => by cases h⟩
    | ok t ts' => exact ⟨En.ok, fun _ _ h => by injection h with _ e; rw [← e]; exact ho⟩
theorem Nz.group {o : Nat} (hk : o ≤ 12) {f : TS → TRes} (h : o < 12 → Nz (o + 1) f) (ts : TS) (ho : ts.op = o) : En (tGroup f ts) ∧ ∀ t ts', tGroup f ts = .ok t ts' → ts'.op = o := by
  unfold tGroup
  by_cases h12 : ts.op = 12
  · rw [if_pos h12]; exact ⟨En.three, fun _ _ h => by cases h⟩
  · rw [if_neg h12]
    obtain ⟨h1, h2⟩ := h (by omega) (tIn ts) (by show ts.op + 1 = _; omega)
    cases hf : f (tIn ts) with
    | err en => rw [hf] at h1; exact ⟨h1, fun _ _ h => by cases h⟩
    | ok t ts' =>
      show En (if ts'.tk.kind = 27 then _ else _) ∧ ∀ t2 ts2, (if ts'.tk.kind = 27 then _ else _) = TRes.ok t2 ts2 → _
      split
      · exact ⟨En.ok, fun _ _ h => by injection h with _ e; rw [← e]; exact ho⟩
      · exact ⟨En.two, fun _ _ h => by cases h⟩
theorem Nz.signed {o : Nat} (hk : o ≤ 12) {f g : TS → TRes} (hS : o < 12 → Nz (o + 1) f) (hE : o < 12 → Nz (o + 1) g) : Nz o (tSigned f g) := by
  intro ts ho
  unfold tSigned
  split
  · exact Nz.sign hk hS 14 ts ho
  split
  · exact Nz.sign hk hS 15 ts ho
  split
  · exact Nz.group hk hE ts ho
  split
  · exact ⟨En.ok, fun _ _ h => by injection h with _ e; rw [← e]; exact ho⟩
  split
  · exact ⟨En.ok, fun _ _ h => by injection h with _ e; rw [← e]; exact ho⟩
  split
  · exact ⟨En.ok, fun _ _ h => by injection h with _ e; rw [← e]; exact ho⟩
  split
  · exact ⟨En.ok, fun _ _ h => by injection h with _ e; rw [← e]; exact ho⟩
  split
  · exact ⟨En.ok, fun _ _ h => by injection h with _ e; rw [← e]; exact ho⟩
  · exact ⟨En.two, fun _ _ h => by cases h⟩
theorem nz_isNull {o : Nat} (l : Ast) (ts : TS) (ho : ts.op = o) : En (tIsNull l ts) ∧ ∀ t ts', tIsNull l ts = .ok t ts' → ts'.op = o := by
  unfold tIsNull
  split
  · split
    · exact ⟨En.ok, fun _ _ h => by injection h with _ e; rw [← e]; exact ho⟩
    · exact ⟨En.two, fun _ _ h => by cases h⟩
  · split
    · exact ⟨En.ok, fun _ _ h => by injection h with _ e; rw [← e]; exact ho⟩
    · exact ⟨En.two, fun _ _ h => by cases h⟩
theorem nz_inLoop {o : Nat} (l : Ast) : ∀ n xs ts, ts.op = o → ts.toks.length < n → En (tInLoop l n xs ts) ∧ ∀ t ts', tInLoop l n xs ts = .ok t ts' → ts'.op = o := by
  intro n
  induction n with
  | zero => intro xs ts _ h; omega
  | succ n ih =>
    intro xs ts ho hl
    rw [tInLoop]
    by_cases h28 : ts.tk.kind = 28
    · rw [if_pos h28]
      have hne := ne_of_kind (by decide) h28
      have hlt : ts.next.toks.length < ts.toks.length := by
        cases ht : ts.toks with
        | nil => exact absurd ht hne
        | cons a r => show (ts.toks.tail).length < _; rw [ht]; simp
      split
      · have := next_le ts.next
        exact ih _ ts.next.next ho (by omega)
      · exact ⟨En.two, fun _ _ h => by cases h⟩
    · rw [if_neg h28]
      split
      · exact ⟨En.ok, fun _ _ h => by injection h with _ e; rw [← e]; exact ho⟩
      · exact ⟨En.two, fun _ _ h => by cases h⟩
theorem nz_in {o : Nat} (l : Ast) (ts : TS) (ho : ts.op = o) : En (tInRes l ts) ∧ ∀ t ts', tInRes l ts = .ok t ts' → ts'.op = o := by
  unfold tInRes
  split
  · split
    · have l1 := next_le ts
      have l2 := next_le ts.next
      have l3 := next_le ts.next.next
      exact nz_inLoop l _ _ ts.next.next.next ho (by omega)
    · exact ⟨En.two, fun _ _ h => by cases h⟩
  · exact ⟨En.two, fun _ _ h => by cases h⟩
theorem nz_like {o : Nat} (l : Ast) (ts : TS) (ho : ts.op = o) : En (tLike l ts) ∧ ∀ t ts', tLike l ts = .ok t ts' → ts'.op = o := by
  unfold tLike
  split
  · split
    · split
      · exact ⟨En.ok, fun _ _ h => by injection h with _ e; rw [← e]; exact ho⟩
      · exact ⟨En.two, fun _ _ h => by cases h⟩
    · exact ⟨En.ok, fun _ _ h => by injection h with _ e; rw [← e]; exact ho⟩
  · exact ⟨En.two, fun _ _ h => by cases h⟩
theorem Nz.between {o : Nat} {f : TS → TRes} (h : Nz o f) (l : Ast) (ts : TS) (ho : ts.op = o) : En (tBetween f l ts) ∧ ∀ t ts', tBetween f l ts = .ok t ts' → ts'.op = o := by
  unfold tBetween
  split
  · obtain ⟨h1, h2⟩ := h ts.next ho
    cases hf : f ts.next with
    | err en => rw [hf] at h1; exact ⟨h1, fun _ _ h => by cases h⟩
    | ok t ts1 =>
      show En (if ts1.tk.kind = 5 then _ else _) ∧ ∀ t2 ts2, (if ts1.tk.kind = 5 then _ else _) = TRes.ok t2 ts2 → _
      split
      · have ho1 : ts1.op = o := h2 _ _ hf
        obtain ⟨h3, h4⟩ := h ts1.next ho1
        cases hg : f ts1.next with
        | err en => rw [hg] at h3; exact ⟨h3, fun _ _ h => by cases h⟩
        | ok t2 ts2 => exact ⟨En.ok, fun _ _ h => by injection h with _ e; rw [← e]; exact h4 _ _ hg⟩
      · exact ⟨En.two, fun _ _ h => by cases h⟩
  · exact ⟨En.two, fun _ _ h => by cases h⟩
theorem Nz.keyword {o : Nat} {f : TS → TRes} (h : Nz o f) (bare : Bool) (l : Ast) (ts : TS) (ho : ts.op = o) : En (tKeyword f bare l ts) ∧ ∀ t ts', tKeyword f bare l ts = .ok t ts' → ts'.op = o := by
  unfold tKeyword
  split
  · exact nz_in l ts ho
  split
  · exact nz_like l ts ho
  · exact h.between l ts ho
theorem Nz.test {o : Nat} {f : TS → TRes} (h : Nz o f) : Nz o (tTest f) := by
  intro ts ho
  obtain ⟨h1, h2⟩ := h ts ho
  unfold tTest
  cases hf : f ts with
  | err en => rw [hf] at h1; exact ⟨h1, fun _ _ h => by cases h⟩
  | ok l ts1 =>
    have ho1 := h2 _ _ hf
    show En (tTail f _ l ts1) ∧ ∀ t2 ts2, tTail f _ l ts1 = TRes.ok t2 ts2 → _
    unfold tTail
    split
    · exact h.join ts1 l ho1
    split
    · split
      · exact nz_isNull l ts1 ho1
      · exact ⟨En.ok, fun _ _ h => by injection h with _ e; rw [← e]; exact ho1⟩
    split
    · obtain ⟨h3, h4⟩ := h.keyword (ts.tk.kind == 2 && opA l == 0) l ts1.next ho1
      cases hg : tKeyword f (ts.tk.kind == 2 && opA l == 0) l ts1.next with
      | err en => rw [hg] at h3; exact ⟨h3, fun _ _ h => by cases h⟩
      | ok t2 ts2 => exact ⟨En.ok, fun _ _ h => by injection h with _ e; rw [← e]; exact h4 _ _ hg⟩
    split
    · exact h.keyword _ l ts1 ho1
    · exact ⟨En.ok, fun _ _ h => by injection h with _ e; rw [← e]; exact ho1⟩
theorem Nz.denied {o : Nat} (hk : o ≤ 12) {f g : TS → TRes} (hD : o < 12 → Nz (o + 1) f) (hT : Nz o g) : Nz o (tDenied f g) := by
  intro ts ho
  unfold tDenied
  split
  · exact Nz.sign hk hD 5 ts ho
  · exact hT ts ho
structure Nz3 (o : Nat) (L : T3) : Prop where
  S : Nz o L.S
  D : Nz o L.D
  E : Nz o L.E
theorem nz_up {o : Nat} (hk : o ≤ 12) {L : T3} (h : o < 12 → Nz3 (o + 1) L) : Nz3 o (tUp L) := by
  have hS := Nz.signed hk (fun e => (h e).S) (fun e => (h e).E)
  have hT := ((hS.row [24, 25]).row [22, 23]).test
  have hD := Nz.denied hk (fun e => (h e).D) hT
  exact ⟨hS, hD, (hD.row [5]).row [6]⟩
theorem nz_lvl : ∀ d o, o + d = 12 → Nz3 o (tLvl d) := by
  intro d
  induction d with
  | zero => intro o h; exact nz_up (by omega) (fun e => absurd e (by omega))
  | succ d ih => intro o h; exact nz_up (by omega) (fun e => ih (o + 1) (by omega))

theorem read_err_pos {s : ByteArray} {en pl : Int} (h : readR s = .err en pl) : en = 1 ∨ en = 2 ∨ en = 3 ∨ en = 4 := by
  unfold readR at h
  by_cases hs : s.size ≤ 200
  · rw [if_pos hs] at h
    obtain ⟨L, hL⟩ := lx_total _ s.data.toList (Nat.le_refl _)
    have hst : Str s (stepSt s st0) L := str_of_lx hL st0 (Nat.zero_le _) (List.drop_zero)
    have hfi := stepSt_fine s st0 (Nat.zero_le _)
    have hsim := (sim_lvl s 12).E (stepSt s st0) ⟨L, 0⟩ hfi hst rfl
    rcases hsim.cases with ⟨t1, st, ts, e1, e2, e3, e4, e5⟩ | ⟨en', pl', e1, e2⟩
    · rw [e1] at h
      change endR t1 st = _ at h
      unfold endR at h
      by_cases hk : st.tk.kind = 0
      · rw [if_pos hk] at h
        cases hc : chkR (clsA t1) with
        | some q => rw [hc] at h; injection h with h1 _; exact .inr (.inr (.inr h1.symm))
        | none => rw [hc] at h; cases h
      · rw [if_neg hk] at h; injection h with h1 _; exact .inr (.inl h1.symm)
    · rw [e1] at h
      injection h with h1 _
      subst h1
      rcases ((nz_lvl 12 0 rfl).E ⟨L, 0⟩ rfl).1 _ e2 with e | e
      · exact .inr (.inl e)
      · exact .inr (.inr (.inl e))
  · rw [if_neg hs] at h
    injection h with h1 _
    exact .inl h1.symm
end

section
/-- A list of properties as an argument, an event or not. -/
def EvIn (w : World) (ev : Value) (ps : List Pr) : Prop :=
  (ps = [] ∧ ∃ a cap, ev = .slice a 0 cap) ∨ ∃ b off cap, ev = .slice (some ⟨b, off, none⟩) ps.length cap ∧ ps.length ≤ cap ∧ EvAt w b off ps ∧ b < w.heap.size

theorem EvIn.below {w w' : World} {ev : Value} {ps : List Pr} (h : EvIn w ev ps) (hb : Below w.heap.size w w') : EvIn w' ev ps := by
  rcases h with h | ⟨b, off, cap, rfl, hc, he, hlt⟩
  · exact .inl h
  · exact .inr ⟨b, off, cap, rfl, hc, he.below hb hlt, Nat.lt_of_lt_of_le hlt hb.size⟩
theorem EvIn.slice {w : World} {ev : Value} {ps : List Pr} (h : EvIn w ev ps) : ∃ a n c, ev = .slice a n c := by
  rcases h with ⟨_, a, cap, rfl⟩ | ⟨b, off, cap, rfl, _⟩
  · exact ⟨_, _, _, rfl⟩
  · exact ⟨_, _, _, rfl⟩
theorem EvIn.arg {w : World} {ev : Value} {ps : List Pr} (h : EvIn w ev ps) (h8 : ps.length ≤ 8) : EvArg w ev ps := by
  refine ⟨h8, ?_⟩
  rcases h with h | ⟨b, off, cap, rfl, hc, he, hlt⟩
  · exact .inl h
  · exact .inr ⟨b, off, cap, rfl, he, hlt⟩

/-- What any machine says of the sizes and numbers in it. -/
structure EvGood (ps : List Pr) : Prop where
  short : Short ps
  rng : EvRng ps
  len : ps.length ≤ 140737488355328

theorem valid_in {w : World} {ev : Value} {ps : List Pr} (h : EvIn w ev ps) (hg : EvGood ps) :
    Calls Tryz.prog 37 #[ev] w fun e w' => e = .returned (.bool (evOk ps)) ∧ Below w.heap.size w w' := by
  rcases h with ⟨rfl, a, cap, rfl⟩ | ⟨b, off, cap, rfl, hc, he, hlt⟩
  · exact valid_empty a cap w
  · exact evValid_any b off cap ps w hc hg.len hg.short he hlt

theorem evOk_8 {ps : List Pr} (h : evOk ps = true) : ps.length ≤ 8 := by
  apply Decidable.byContradiction
  intro hn
  rw [evOk_long hn] at h
  cases h
theorem evOk_at {ps : List Pr} (h : evOk ps = true) {p : Pr} (hp : p ∈ ps) : nameOk p.name = true ∧ valOk p.val = true := by
  obtain ⟨k, hk⟩ := List.getElem?_of_mem hp
  unfold evOk at h
  rw [Bool.and_eq_true, List.all_eq_true] at h
  obtain ⟨hlt, _⟩ := List.getElem?_eq_some_iff.1 hk
  have := h.2 k (List.mem_range.2 hlt)
  unfold okAt at this
  rw [hk] at this
  simp only [Bool.and_eq_true] at this
  exact this.1
theorem valOk_str {v : V} (h : valOk v = true) : v.str.length ≤ 20 := by
  apply Decidable.byContradiction
  intro hn
  have he : v.str.isEmpty = false := by cases hs : v.str with
    | nil => rw [hs] at hn; simp at hn
    | cons c t => rfl
  have hd : decide (v.str.length ≤ 20) = false := decide_eq_false hn
  simp only [valOk, he, hd, Bool.and_false, Bool.false_eq_true, ite_self] at h
theorem evSh_of {ps : List Pr} (h : evOk ps = true) : EvSh ps := fun p hp => Nat.le_trans (valOk_str (evOk_at h hp).2) (by decide)

theorem read_good {s : ByteArray} {t : Ast} (h : readR s = .ok t) : NumA t ∧ BndA t := by
  unfold readR at h
  by_cases hs : s.size ≤ 200
  · rw [if_pos hs] at h
    cases he : (lvl s 12).E (stepSt s st0) with
    | err en pl => rw [he] at h; cases h
    | ok t1 st =>
      rw [he] at h
      change endR t1 st = _ at h
      have : t1 = t := by
        unfold endR at h
        split at h
        · split at h
          · injection h
          · cases h
        · cases h
      subst this
      exact ⟨((lvl_num s 12).E _ _ _ (stepSt_tk s st0) he).1, ((lvl_bnd s hs 12).E _ _ _ (stepSt_ln hs st0) he).1⟩
  · rw [if_neg hs] at h; cases h

set_option maxHeartbeats 1000000 in
set_option maxRecDepth 100000 in
theorem eval_in_ok (s : ByteArray) (hs : s.size ≤ 140737488355328) (t : Ast) (hrd : readR s = .ok t) (ps : List Pr) (ev : Value) (w : World) (hE : ErrOk w)
    (hev : EvIn w ev ps) (hg : EvGood ps) (hok : evOk ps = true) :
    Calls Tryz.prog 23 #[.string s, ev] w fun e w' => e = .returned (.tuple #[vV (ofA ps t), .int .i64 0, .int .i64 0]) ∧ Below w.heap.size w w' := by
  have hof : ∀ lo, OfOk lo ps ev t := fun lo => of_every lo ps ev hg.rng (evSh_of hok) t (read_good hrd).2 (read_good hrd).1
  have hlen : (ofA ps t).str.length ≤ 281474976710656 := Nat.le_trans (sh_ofA (evSh_of hok) t (read_good hrd).2) (by decide)
  have RD := hide (read_any s (w.alloc (.cells #[.int .i64 0, .int .i64 0, .string ⟨#[]⟩] 26)) (hE.alloc _) hs)
  rw [hrd] at RD
  have hbl := (Below.refl w.heap.size w).alloc (Nat.le_refl _) (.cells #[.int .i64 0, .int .i64 0, .string ⟨#[]⟩] 26)
  have EVA := hide (hev.below hbl)
  obtain ⟨a, n, c, rfl⟩ := hev.slice
  have HV := hide (fun w1 (h : EvIn w1 (.slice a n c) ps) => valid_in h hg)
  rw [hok] at HV
  have HOF := hide hof
  have HB8 := hide (evOk_8 hok)
  obtain ⟨r, hr⟩ : ∃ r, ofA ps t = r := ⟨_, rfl⟩
  rw [hr] at hlen ⊢
  have HR := hide hr
  have hzs := BS_size r.str
  have hcl : (BS r.str).size ≤ 281474976710656 := by omega
  clear hrd hE hg hev hok hof hr hlen hzs
  go_enter Tryz.func23, Tryz.ntmps23
  go_wp2_with (first | (go_at_call 36; refine (unhide RD).mono ?_; rintro e w1 ⟨hb1, v1, rfl, hn1⟩; obtain ⟨vb, rfl⟩ := hn1.ptr; have hz1 : w.heap.size < w1.heap.size := (by have := hb1.size; simp at this; omega); have EV1 := hide ((unhide EVA).below hb1); have g0 : w1.cell? ⟨w.heap.size, 0, none⟩ = some (.int .i64 0) := ((bcell hb1).1 _ 0 (by simp)).trans (by simp); have g1 : w1.cell? ⟨w.heap.size, 1, none⟩ = some (.int .i64 0) := ((bcell hb1).1 _ 1 (by simp)).trans (by simp); have g2 : w1.cell? ⟨w.heap.size, 2, none⟩ = some (.string ⟨#[]⟩) := ((bcell hb1).1 _ 2 (by simp)).trans (by simp); have z0 : ∀ j, w1.frozen? ⟨w.heap.size, j, none⟩ = false := (fun j => ((bcell hb1).2 _ j (by simp)).trans (by simp)); have hB1 := hide (below_any hbl hb1); have hN1 := hide hn1; clear hb1 hn1) | (go_at_call 37; refine (unhide HV _ (unhide EV1)).mono ?_; rintro e w2 ⟨rfl, hb2⟩; have hz2 : w.heap.size < w2.heap.size := (by have := hb2.size; omega); have EV2 := hide ((unhide EV1).below hb2); have k0 : w2.cell? ⟨w.heap.size, 0, none⟩ = some (.int .i64 0) := ((bcell hb2).1 _ 0 hz1).trans g0; have k1 : w2.cell? ⟨w.heap.size, 1, none⟩ = some (.int .i64 0) := ((bcell hb2).1 _ 1 hz1).trans g1; have k2 : w2.cell? ⟨w.heap.size, 2, none⟩ = some (.string ⟨#[]⟩) := ((bcell hb2).1 _ 2 hz1).trans g2; have z2 : ∀ j, w2.frozen? ⟨w.heap.size, j, none⟩ = false := (fun j => ((bcell hb2).2 _ j hz1).trans (z0 j)); have hN2 := hide ((unhide hN1).kept (Kept.of_below hb2)); have hB2 := hide (below_any (unhide hB1) hb2); clear hb2 g0 g1 g2 z0) | (go_at_call 38; refine (unhide HOF _ _ _ (unhide hN2) ((unhide EV2).arg (unhide HB8))).mono ?_; rw [unhide HR]; rintro e w3 ⟨rfl, hb3⟩; have hz3 : w.heap.size < w3.heap.size := (by have := hb3.size; omega); have m0 : w3.cell? ⟨w.heap.size, 0, none⟩ = some (.int .i64 0) := ((bcell hb3).1 _ 0 hz2).trans k0; have m1 : w3.cell? ⟨w.heap.size, 1, none⟩ = some (.int .i64 0) := ((bcell hb3).1 _ 1 hz2).trans k1; have m2 : w3.cell? ⟨w.heap.size, 2, none⟩ = some (.string ⟨#[]⟩) := ((bcell hb3).1 _ 2 hz2).trans k2; have z3 : ∀ j, w3.frozen? ⟨w.heap.size, j, none⟩ = false := (fun j => ((bcell hb3).2 _ j hz2).trans (z2 j)); have hB3 := hide (below_any (unhide hB2) hb3); clear hb3 k0 k1 k2 z2; simp only [vV]) | (go_at_call 39; refine (clone_any (BS r.str) _ hcl).mono ?_; rintro e w4 ⟨rfl, hb4⟩; have hz4 : w3.heap.size < w4.heap.size := (by have := hb4.size; simp at this; omega); have n0 : w4.cell? ⟨w.heap.size, 0, none⟩ = some (.int .i64 0) := ((bcell hb4).1 _ 0 (by simp; omega)).trans (by rw [World.cell?_alloc_past _ _ _ hz3]; exact m0); have n1 : w4.cell? ⟨w.heap.size, 1, none⟩ = some (.int .i64 0) := ((bcell hb4).1 _ 1 (by simp; omega)).trans (by rw [World.cell?_alloc_past _ _ _ hz3]; exact m1); have n2 : w4.cell? ⟨w.heap.size, 2, none⟩ = some (.string ⟨#[]⟩) := ((bcell hb4).1 _ 2 (by simp; omega)).trans (by rw [World.cell?_alloc_past _ _ _ hz3]; exact m2); have z4 : ∀ j, w4.frozen? ⟨w.heap.size, j, none⟩ = false := (fun j => ((bcell hb4).2 _ j (by simp; omega)).trans (by rw [World.frozen?_alloc_past _ _ _ hz3]; exact z3 j)); have a0 : w4.cell? ⟨w3.heap.size, 0, none⟩ = some (.int .i64 r.kind) := ((bcell hb4).1 _ 0 (by simp)).trans (by simp); have a1 : w4.cell? ⟨w3.heap.size, 1, none⟩ = some (.int .i64 r.num) := ((bcell hb4).1 _ 1 (by simp)).trans (by simp); have a2 : w4.cell? ⟨w3.heap.size, 2, none⟩ = some (.string (BS r.str)) := ((bcell hb4).1 _ 2 (by simp)).trans (by simp); have z5 : ∀ j, w4.frozen? ⟨w3.heap.size, j, none⟩ = false := (fun j => ((bcell hb4).2 _ j (by simp)).trans (by simp)); have hne : ¬ w3.heap.size = w.heap.size := (by omega); have hB4 := hide (below_any (below_alloc (unhide hB3) _) hb4); clear hb4 m0 m1 m2 z3))
  refine bodyPost_ret (by simp [results, Tryz.results23, go_sem, n0, n1, n2] <;> rfl) rfl ⟨rfl, ?_⟩
  exact ((((unhide hB4).setCell (by simp; omega) _).setCell (by simp) _).setCell (by simp) _).setCell (by simp) _

set_option maxHeartbeats 1000000 in
set_option maxRecDepth 100000 in
theorem eval_in_bad (s : ByteArray) (hs : s.size ≤ 140737488355328) (t : Ast) (hrd : readR s = .ok t) (ps : List Pr) (ev : Value) (w : World) (hE : ErrOk w)
    (hev : EvIn w ev ps) (hg : EvGood ps) (hok : evOk ps = false) :
    Calls Tryz.prog 23 #[.string s, ev] w fun e w' => e = .returned (.tuple #[vV nV, .int .i64 7, .int .i64 0]) ∧ Below w.heap.size w w' := by
  have RD := hide (read_any s (w.alloc (.cells #[.int .i64 0, .int .i64 0, .string ⟨#[]⟩] 26)) (hE.alloc _) hs)
  rw [hrd] at RD
  have hbl := (Below.refl w.heap.size w).alloc (Nat.le_refl _) (.cells #[.int .i64 0, .int .i64 0, .string ⟨#[]⟩] 26)
  have EVA := hide (hev.below hbl)
  obtain ⟨a, n, c, rfl⟩ := hev.slice
  have HV := hide (fun w1 (h : EvIn w1 (.slice a n c) ps) => valid_in h hg)
  rw [hok] at HV
  clear hrd hE hg hev hok
  go_enter Tryz.func23, Tryz.ntmps23
  go_wp2_with (first | (go_at_call 36; refine (unhide RD).mono ?_; rintro e w1 ⟨hb1, v1, rfl, hn1⟩; obtain ⟨vb, rfl⟩ := hn1.ptr; have hz1 : w.heap.size < w1.heap.size := (by have := hb1.size; simp at this; omega); have EV1 := hide ((unhide EVA).below hb1); have g0 : w1.cell? ⟨w.heap.size, 0, none⟩ = some (.int .i64 0) := ((bcell hb1).1 _ 0 (by simp)).trans (by simp); have g1 : w1.cell? ⟨w.heap.size, 1, none⟩ = some (.int .i64 0) := ((bcell hb1).1 _ 1 (by simp)).trans (by simp); have g2 : w1.cell? ⟨w.heap.size, 2, none⟩ = some (.string ⟨#[]⟩) := ((bcell hb1).1 _ 2 (by simp)).trans (by simp); have z0 : ∀ j, w1.frozen? ⟨w.heap.size, j, none⟩ = false := (fun j => ((bcell hb1).2 _ j (by simp)).trans (by simp)); have hB1 := hide (below_any hbl hb1); clear hb1 hn1) | (go_at_call 37; refine (unhide HV _ (unhide EV1)).mono ?_; rintro e w2 ⟨rfl, hb2⟩; have hz2 : w.heap.size < w2.heap.size := (by have := hb2.size; omega); have k0 : w2.cell? ⟨w.heap.size, 0, none⟩ = some (.int .i64 0) := ((bcell hb2).1 _ 0 hz1).trans g0; have k1 : w2.cell? ⟨w.heap.size, 1, none⟩ = some (.int .i64 0) := ((bcell hb2).1 _ 1 hz1).trans g1; have k2 : w2.cell? ⟨w.heap.size, 2, none⟩ = some (.string ⟨#[]⟩) := ((bcell hb2).1 _ 2 hz1).trans g2; have z2 : ∀ j, w2.frozen? ⟨w.heap.size, j, none⟩ = false := (fun j => ((bcell hb2).2 _ j hz1).trans (z0 j)); have hB2 := hide (below_any (unhide hB1) hb2); clear hb2 g0 g1 g2 z0))
  refine bodyPost_ret (by simp [results, Tryz.results23, go_sem, k0, k1, k2] <;> rfl) rfl ⟨rfl, ?_⟩
  exact (((unhide hB2).setCell (by simp) _).setCell (by simp) _).setCell (by simp) _

set_option maxHeartbeats 1000000 in
set_option maxRecDepth 100000 in
theorem eval_in_err (s : ByteArray) (hs : s.size ≤ 140737488355328) (en pl : Int) (hrd : readR s = .err en pl) (ev : Value) (w : World) (hE : ErrOk w) (hev : ∃ a n c, ev = .slice a n c) :
    Calls Tryz.prog 23 #[.string s, ev] w fun e w' => e = .returned (.tuple #[vV nV, .int .i64 en, .int .i64 pl]) ∧ Below w.heap.size w w' := by
  have RD := hide (read_any s (w.alloc (.cells #[.int .i64 0, .int .i64 0, .string ⟨#[]⟩] 26)) (hE.alloc _) hs)
  rw [hrd] at RD
  have hbl := (Below.refl w.heap.size w).alloc (Nat.le_refl _) (.cells #[.int .i64 0, .int .i64 0, .string ⟨#[]⟩] 26)
  obtain ⟨a, n, c, rfl⟩ := hev
  have hen : (en != 0) = true := by rcases read_err_pos hrd with h | h | h | h <;> rw [h] <;> rfl
  have hen' : (en == 0) = false := by rcases read_err_pos hrd with h | h | h | h <;> rw [h] <;> rfl
  clear hrd hE
  go_enter Tryz.func23, Tryz.ntmps23
  go_wp2_with (first | (go_at_call 36; refine (unhide RD).mono ?_; rintro e w1 ⟨hb1, rfl⟩; have hz1 : w.heap.size < w1.heap.size := (by have := hb1.size; simp at this; omega); have g0 : w1.cell? ⟨w.heap.size, 0, none⟩ = some (.int .i64 0) := ((bcell hb1).1 _ 0 (by simp)).trans (by simp); have g1 : w1.cell? ⟨w.heap.size, 1, none⟩ = some (.int .i64 0) := ((bcell hb1).1 _ 1 (by simp)).trans (by simp); have g2 : w1.cell? ⟨w.heap.size, 2, none⟩ = some (.string ⟨#[]⟩) := ((bcell hb1).1 _ 2 (by simp)).trans (by simp); have z0 : ∀ j, w1.frozen? ⟨w.heap.size, j, none⟩ = false := (fun j => ((bcell hb1).2 _ j (by simp)).trans (by simp)); have hB1 := hide (below_any hbl hb1); clear hb1))
  refine bodyPost_ret (by simp [results, Tryz.results23, go_sem, g0, g1, g2] <;> rfl) rfl ⟨rfl, ?_⟩
  exact (((unhide hB1).setCell (by simp) _).setCell (by simp) _).setCell (by simp) _

/-- What Eval says. -/
structure Ans where
  val : V
  errno : Int
  place : Int
def evalR (s : ByteArray) (ps : List Pr) : Ans := match readR s with
  | .err en pl => ⟨nV, en, pl⟩
  | .ok t => if evOk ps then ⟨ofA ps t, 0, 0⟩ else ⟨nV, 7, 0⟩

theorem eval_any (s : ByteArray) (hs : s.size ≤ 140737488355328) (ps : List Pr) (ev : Value) (w : World) (hE : ErrOk w) (hev : EvIn w ev ps) (hg : EvGood ps) :
    Calls Tryz.prog 23 #[.string s, ev] w fun e w' => e = .returned (.tuple #[vV (evalR s ps).val, .int .i64 (evalR s ps).errno, .int .i64 (evalR s ps).place]) ∧ Below w.heap.size w w' := by
  unfold evalR
  cases hrd : readR s with
  | err en pl => exact eval_in_err s hs en pl hrd ev w hE hev.slice
  | ok t =>
    cases hok : evOk ps with
    | true => exact eval_in_ok s hs t hrd ps ev w hE hev hg hok
    | false => exact eval_in_bad s hs t hrd ps ev w hE hev hg hok
end

section
def evs : List Pr := [⟨[97], iV 5⟩]
def eventedS (w : World) : World := w.alloc (.cells #[.string ⟨#[97]⟩, .int .i64 2, .int .i64 5, .string ⟨#[]⟩] 28)

set_option maxHeartbeats 400000 in
theorem small_any (w : World) :
    Calls Tryz.prog 35 #[] w fun e w' => e = .returned (.slice (some ⟨w.heap.size, 0, none⟩) 1 1) ∧ w' = eventedS w := by
  go_enter Tryz.func35, Tryz.ntmps35
  go_wp2_with fail
  go_ret
  exact ⟨rfl, rfl⟩

theorem eventedS_at (w : World) : EvAt (eventedS w) w.heap.size 0 evs := by
  intro k p hk
  unfold eventedS
  match k, hk with
  | 0, hk =>
    have : p = ⟨[97], iV 5⟩ := by simpa [evs] using hk.symm
    subst this
    refine ⟨?_, ?_, ?_, ?_⟩
    all_goals (rw [World.cell?_alloc_at _ _ _ _ rfl]; rfl)
  | k + 1, hk => simp [evs] at hk
theorem evs_good : EvGood evs := by
  refine ⟨fun p hp => ?_, fun p hp => ?_, by simp [evs]⟩
  · simp [evs] at hp; subst hp; exact ⟨by decide, by decide⟩
  · simp [evs] at hp; subst hp; exact ⟨by decide, by decide⟩
theorem evs_in {w w1 : World} (hb : Below (eventedS w).heap.size (eventedS w) w1) : EvIn w1 (.slice (some ⟨w.heap.size, 0, none⟩) 1 1) evs := by
  have hz : (eventedS w).heap.size = w.heap.size + 1 := by simp [eventedS]
  exact .inr ⟨w.heap.size, 0, 1, rfl, by simp [evs], (eventedS_at w).below hb (by omega), by have := hb.size; omega⟩

theorem is_in (s : ByteArray) (hs : s.size ≤ 140737488355328) (ps : List Pr) (ev : Value) (want : V) (w : World) (hE : ErrOk w) (hev : EvIn w ev ps) (hg : EvGood ps) (hr : evalR s ps = ⟨want, 0, 0⟩) :
    Calls Tryz.prog 17 #[.string s, ev, vV want] w fun e w' => e = .returned (.bool true) ∧ Below w.heap.size w w' := by
  refine (is_any s ev want want hev.slice w (fun w1 hb _ => ?_)).mono ?_
  · have := eval_any s hs ps ev w1 (hE.below hb (Nat.le_refl _)) (hev.below hb) hg
    rw [hr] at this
    exact this
  · rintro e w' ⟨rfl, h⟩
    exact ⟨by simp, h⟩

def textR1 : ByteArray := ⟨#[97, 32, 43, 32, 49, 32, 61, 32, 54, 32, 65, 78, 68, 32, 78, 79, 84, 32, 98, 32, 73, 83, 32, 78, 85, 76, 76, 32, 79, 82, 32, 97, 32, 62, 32, 52]⟩
def textR2 : ByteArray := ⟨#[97, 32, 60, 32, 53]⟩
set_option maxRecDepth 100000 in
theorem evalR1 : evalR textR1 evs = ⟨bV true, 0, 0⟩ := by kernel_rfl
set_option maxRecDepth 100000 in
theorem evalR2 : evalR textR2 evs = ⟨bV false, 0, 0⟩ := by kernel_rfl

set_option maxHeartbeats 1000000 in
theorem reads_any (w : World) (hE : ErrOk w) :
    Calls Tryz.prog 22 #[] w fun e w' => e = .returned (.bool true) ∧ Below w.heap.size w w' := by
  have hz : (eventedS w).heap.size = w.heap.size + 1 := by simp [eventedS]
  have hE0 : ErrOk (eventedS w) := hE.alloc _
  have I1 : Hid (∀ w1, Below (eventedS w).heap.size (eventedS w) w1 → Calls Tryz.prog 17 #[.string textR1, .slice (some ⟨w.heap.size, 0, none⟩) 1 1, vV (bV true)] w1 fun e w' => e = .returned (.bool true) ∧ Below w1.heap.size w1 w') :=
    hide (fun w1 hb => is_in textR1 (by decide) evs _ _ w1 (hE0.below hb (Nat.le_refl _)) (evs_in hb) evs_good evalR1)
  have I2 : Hid (∀ w1, Below (eventedS w).heap.size (eventedS w) w1 → Calls Tryz.prog 17 #[.string textR2, .slice (some ⟨w.heap.size, 0, none⟩) 1 1, vV (bV false)] w1 fun e w' => e = .returned (.bool true) ∧ Below w1.heap.size w1 w') :=
    hide (fun w1 hb => is_in textR2 (by decide) evs _ _ w1 (hE0.below hb (Nat.le_refl _)) (evs_in hb) evs_good evalR2)
  have HB : Hid (Below (eventedS w).heap.size (eventedS w) (eventedS w)) := hide (Below.refl _ _)
  have BW : Hid (∀ w1, Below (eventedS w).heap.size (eventedS w) w1 → Below w.heap.size w w1) := hide (fun w1 h => below_any ((Below.refl _ _).alloc (Nat.le_refl _) _) h)
  clear hE hE0 hz
  go_enter Tryz.func22, Tryz.ntmps22
  go_wp2_with fail
  refine (small_any _).mono ?_
  rintro e w1 ⟨rfl, rfl⟩
  go_wp2_with fail
  refine (truth_any _ _).mono ?_
  rintro e w1 ⟨rfl, hb⟩
  replace HB := hide (below_any (unhide HB) hb)
  clear hb
  go_wp2_with fail
  refine (unhide I1 _ (unhide HB)).mono ?_
  rintro e w2 ⟨rfl, hb⟩
  replace HB := hide (below_any (unhide HB) hb)
  clear hb
  go_wp2_with fail
  refine (truth_any _ _).mono ?_
  rintro e w3 ⟨rfl, hb⟩
  replace HB := hide (below_any (unhide HB) hb)
  clear hb
  go_wp2_with fail
  refine (unhide I2 _ (unhide HB)).mono ?_
  rintro e w4 ⟨rfl, hb⟩
  replace HB := hide (below_any (unhide HB) hb)
  clear hb
  go_wp2_with fail
  go_ret
  exact ⟨rfl, unhide BW _ (unhide HB)⟩
end

end Go.Proofs.YtfkcaldjphakpaaGreatDoor
