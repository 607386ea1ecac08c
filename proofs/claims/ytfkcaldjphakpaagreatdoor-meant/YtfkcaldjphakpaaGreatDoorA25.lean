/- The tokens of a text behind which another one stands. No bad token is read: the tokens of a selector. The shapes of terms that are read, and how many there are. The words, numbers and patterns of what is read are as a text has them. Selectors in parentheses, with AND, OR and NOT. The texts of Likes: their tokens, what they are read as, what that is of an event that holds n alone. What program.Read keeps in memory while it reads. Rows of elements of several cells: copy, clear, append onto a row's own part. slices.Insert and slices.Clone of subscriptions. slices.Insert of subscriptions, in the middle. An error's number is never 0. The three-valued logic of package sievekeep. or, of package sievekeep. What the library's tables and variables are at a row's own world. -/
import Derived.Test.YtfkcaldjphakpaaGreatDoorA19
import Derived.Test.YtfkcaldjphakpaaGreatDoorA03
import Derived.Test.YtfkcaldjphakpaaGreatDoorA14
import Derived.Test.YtfkcaldjphakpaaGreatDoorA11
import Derived.Test.YtfkcaldjphakpaaGreatDoorA23
import Derived.Test.YtfkcaldjphakpaaGreatDoorA09
import Derived.Test.YtfkcaldjphakpaaGreatDoorA08
import Derived.Deep.AppendLies
import Derived.Deep.RegionHeld3
import Derived.Deep.RegionWith
import Derived.Lib.Overlaps
import Derived.Lib.AppendZerosOnto
import Derived.Test.YtfkcaldjphakpaaGreatDoorRows
import Derived.Lib.LaidTab
import Derived.Lib.LaidU8
import Derived.Shelf.Vars
namespace Go.Proofs.YtfkcaldjphakpaaGreatDoor
open Go.RowKit

section
/-- A byte that goes on no token. -/
structure Stop (d : UInt8) : Prop where
  goe : goeU d = false
  dig : digU d = false
  quo : (d == 39) = false
  eq : (d == 61) = false
  gt : (d == 62) = false

theorem runLen_app (p : UInt8 → Bool) {d : UInt8} (h : p d = false) (y : List UInt8) : ∀ l, runLen p (l ++ d :: y) = runLen p l := by
  intro l
  induction l with
  | nil => show (if p d then _ else 0) = 0; rw [h]; rfl
  | cons c t ih => show (if p c then runLen p (t ++ d :: y) + 1 else 0) = if p c then runLen p t + 1 else 0; rw [ih]
theorem runLen_lt (p : UInt8 → Bool) (y : List UInt8) : ∀ l, runLen p l < l.length → runLen p (l ++ y) = runLen p l := by
  intro l
  induction l with
  | nil => intro h; exact absurd h (Nat.not_lt_zero _)
  | cons c t ih =>
    intro h
    show (if p c then runLen p (t ++ y) + 1 else 0) = if p c then runLen p t + 1 else 0
    have hc : runLen p (c :: t) = if p c then runLen p t + 1 else 0 := rfl
    rw [hc] at h
    by_cases hp : p c = true
    · rw [if_pos hp] at h
      rw [if_pos hp, if_pos hp, ih (by simp at h; omega)]
    · rw [if_neg hp, if_neg hp]

theorem wordSize_app {d : UInt8} (hd : Stop d) (y : List UInt8) (c : UInt8) (t : List UInt8) : wordSize (c :: t ++ d :: y) = wordSize (c :: t) := by
  show (if begU c then runLen goeU (t ++ d :: y) + 1 else 0) = if begU c then runLen goeU t + 1 else 0
  rw [runLen_app goeU hd.goe]
theorem take_app (l z : List UInt8) (n : Nat) (h : n ≤ l.length) : (l ++ z).take n = l.take n := by
  rw [List.take_append, show n - l.length = 0 by omega, List.take_zero, List.append_nil]

theorem quotF_app {d : UInt8} (hd : (d == 39) = false) (y : List UInt8) : ∀ (n : Nat) (l : List UInt8), l.length ≤ n → ∀ r, quotF l = some r → quotF (l ++ d :: y) = some r := by
  intro n
  induction n with
  | zero =>
    intro l hl r h
    have : l = [] := List.eq_nil_of_length_eq_zero (by omega)
    subst this
    simp [quotF] at h
  | succ n ih =>
    intro l hl r h
    match l, hl, h with
    | [], _, h => simp [quotF] at h
    | [c], _, h =>
      simp only [quotF] at h
      split at h
      · rename_i hc
        show quotF (c :: d :: y) = _
        rw [quotF, if_pos hc, if_neg (by rw [hd]; decide)]
        exact h
      · simp at h
    | c :: e :: t, hl, h =>
      simp only [List.length_cons] at hl
      show quotF (c :: e :: (t ++ d :: y)) = _
      rw [quotF] at h ⊢
      by_cases hc : (c == 39) = true
      · rw [if_pos hc] at h ⊢
        by_cases he : (e == 39) = true
        · rw [if_pos he] at h ⊢
          cases hq : quotF t with
          | none => rw [hq] at h; simp at h
          | some q => rw [hq] at h; rw [ih t (by omega) q hq]; exact h
        · rw [if_neg he] at h ⊢; exact h
      · rw [if_neg hc] at h ⊢
        cases hq : quotF (e :: t) with
        | none => rw [hq] at h; simp at h
        | some q =>
          rw [hq] at h
          have := ih (e :: t) (by simp; omega) q hq
          rw [List.cons_append] at this
          rw [this]; exact h

theorem markS_app {d : UInt8} (hd : Stop d) (y : List UInt8) (c : UInt8) (t : List UInt8) : markS (c :: t ++ d :: y) = markS (c :: t) := by
  cases t with
  | nil =>
    show (if c == 60 && d == 62 || (c == 60 || c == 62) && d == 61 then 2 else 1) = 1
    rw [hd.eq, hd.gt]; simp
  | cons e t => rfl
theorem markT_app {d : UInt8} (hd : Stop d) (y : List UInt8) (c : UInt8) (t : List UInt8) : markT (c :: t ++ d :: y) = markT (c :: t) := by
  unfold markT
  rw [markS_app hd y c t, take_app (c :: t) (d :: y) _ (mark_le _ (by simp))]
  cases t with
  | nil =>
    have : ((c :: [] ++ d :: y).take 2 == [60, 62]) = false := by
      show (c == 60 && (d == 62 && true)) = false
      rw [hd.gt]; simp
    rw [this]
    have : ((c :: []).take 2 == ([60, 62] : List UInt8)) = false := by
      show (c == 60 && false) = false
      simp
    rw [this]
  | cons e t => rfl

theorem first_app {d : UInt8} (hd : Stop d) (y : List UInt8) (c : UInt8) (t : List UInt8) (h : (firstTk (c :: t)).kind ≠ 1) : firstTk (c :: t ++ d :: y) = firstTk (c :: t) ∧ firstS (c :: t ++ d :: y) = firstS (c :: t) := by
  have h1 : firstTk (c :: t) = if begU c then wordTk (c :: t) else if digU c then numTk (c :: t) else if c == 39 then quotTk (c :: t) else plainTk (markT (c :: t)) := rfl
  have h2 : firstTk (c :: t ++ d :: y) = if begU c then wordTk (c :: t ++ d :: y) else if digU c then numTk (c :: t ++ d :: y) else if c == 39 then quotTk (c :: t ++ d :: y) else plainTk (markT (c :: t ++ d :: y)) := rfl
  have h3 : firstS (c :: t) = if begU c then wordSize (c :: t) else if digU c then runLen digU (c :: t) else if c == 39 then quotS (c :: t) else markS (c :: t) := rfl
  have h4 : firstS (c :: t ++ d :: y) = if begU c then wordSize (c :: t ++ d :: y) else if digU c then runLen digU (c :: t ++ d :: y) else if c == 39 then quotS (c :: t ++ d :: y) else markS (c :: t ++ d :: y) := rfl
  rw [h1] at h
  rw [h1, h2, h3, h4]
  by_cases hb : begU c = true
  · rw [if_pos hb, if_pos hb, if_pos hb, if_pos hb]
    refine ⟨?_, wordSize_app hd y c t⟩
    unfold wordTk
    rw [wordSize_app hd y c t, take_app _ _ _ (wordSize_le _)]
  rw [if_neg hb] at h
  rw [if_neg hb, if_neg hb, if_neg hb, if_neg hb]
  by_cases hg : digU c = true
  · rw [if_pos hg, if_pos hg, if_pos hg, if_pos hg]
    have hr := runLen_app digU hd.dig y (c :: t)
    refine ⟨?_, hr⟩
    unfold numTk
    rw [hr, take_app _ _ _ (runLen_le _ _)]
  rw [if_neg hg] at h
  rw [if_neg hg, if_neg hg, if_neg hg, if_neg hg]
  by_cases hq : (c == 39) = true
  · rw [if_pos hq] at h
    rw [if_pos hq, if_pos hq, if_pos hq, if_pos hq]
    cases hf : quotF ((c :: t).drop 1) with
    | none => exfalso; unfold quotTk at h; rw [hf] at h; exact h rfl
    | some r =>
      have hf' : quotF ((c :: t ++ d :: y).drop 1) = some r := quotF_app hd.quo y _ t (Nat.le_refl _) r hf
      unfold quotTk quotS
      rw [hf, hf']
      exact ⟨rfl, rfl⟩
  · rw [if_neg hq, if_neg hq, if_neg hq, if_neg hq, markT_app hd y c t, markS_app hd y c t]
    exact ⟨rfl, rfl⟩

theorem ite_ne {c : Prop} [Decidable c] {a b : Int} (ha : a ≠ 0) (hb : b ≠ 0) : (if c then a else b) ≠ 0 := by
  by_cases h : c
  · rw [if_pos h]; exact ha
  · rw [if_neg h]; exact hb
theorem kwK_ne (l : List UInt8) : kwK l ≠ 0 := by
  unfold kwK
  repeat refine ite_ne (by decide) ?_
  decide
theorem markK_ne (l : List UInt8) : markK l ≠ 0 := by
  unfold markK
  repeat refine ite_ne (by decide) ?_
  decide
theorem word_ne (l : List UInt8) : (wordTk l).kind ≠ 0 := by
  unfold wordTk
  by_cases h : wordK (l.take (wordSize l)) = 2
  · rw [if_pos h]; show (2 : Int) ≠ 0; decide
  · rw [if_neg h]; exact kwK_ne _
theorem num_ne (l : List UInt8) : (numTk l).kind ≠ 0 := by
  unfold numTk
  by_cases h : decVal 0 (l.take (runLen digU l)) ≤ 9223372036854775807
  · rw [if_pos h]; show (3 : Int) ≠ 0; decide
  · rw [if_neg h]; show (1 : Int) ≠ 0; decide
theorem quot_ne (l : List UInt8) : (quotTk l).kind ≠ 0 := by
  unfold quotTk
  cases quotF (l.drop 1) with
  | none => show (1 : Int) ≠ 0; decide
  | some r => show (4 : Int) ≠ 0; decide
theorem mark_ne (l : List UInt8) : markT l ≠ 0 := by
  unfold markT
  exact ite_ne (by decide) (markK_ne _)
theorem first_ne (l : List UInt8) : (firstTk l).kind ≠ 0 := by
  cases l with
  | nil => show (1 : Int) ≠ 0; decide
  | cons c t =>
    show (if begU c then wordTk (c :: t) else if digU c then numTk (c :: t) else if c == 39 then quotTk (c :: t) else plainTk (markT (c :: t))).kind ≠ 0
    by_cases hb : begU c = true
    · rw [if_pos hb]; exact word_ne _
    rw [if_neg hb]
    by_cases hg : digU c = true
    · rw [if_pos hg]; exact num_ne _
    rw [if_neg hg]
    by_cases hq : (c == 39) = true
    · rw [if_pos hq]; exact quot_ne _
    rw [if_neg hq]
    exact mark_ne _

theorem next_in {l : List UInt8} (h : (nextTk l 0).kind ≠ 0) : nextAt l 0 < l.length := by
  apply Decidable.byContradiction
  intro hn
  unfold nextTk at h
  rw [if_neg hn] at h
  exact h rfl
theorem next_out {l : List UInt8} (h : nextTk l 0 = plainTk 0) : ¬ nextAt l 0 < l.length := by
  intro hn
  unfold nextTk at h
  rw [if_pos hn] at h
  exact first_ne _ (by rw [h]; rfl)

theorem next_app {d : UInt8} (hd : Stop d) (y : List UInt8) (l : List UInt8) (h0 : (nextTk l 0).kind ≠ 0) (h1 : (nextTk l 0).kind ≠ 1) : nextTk (l ++ d :: y) 0 = nextTk l 0 ∧ nextTo (l ++ d :: y) 0 = nextTo l 0 := by
  have hl := next_in h0
  have ha : nextAt (l ++ d :: y) 0 = nextAt l 0 := by
    unfold nextAt at hl ⊢
    rw [List.drop_zero] at hl ⊢
    rw [List.drop_zero, runLen_lt _ _ _ (by omega)]
  have hla : nextAt l 0 < (l ++ d :: y).length := by rw [List.length_append]; omega
  unfold nextTk nextTo
  unfold nextTk at h1
  rw [if_pos hl] at h1
  rw [ha, if_pos hl, if_pos hla, if_pos hl, if_pos hla, List.drop_append_of_le_length (Nat.le_of_lt hl)]
  cases hr : l.drop (nextAt l 0) with
  | nil => have := congrArg List.length hr; rw [List.length_drop] at this; simp at this; omega
  | cons c t =>
    rw [hr] at h1
    obtain ⟨e1, e2⟩ := first_app hd y c t h1
    rw [e1, e2]
    exact ⟨rfl, rfl⟩

theorem lx_sp {c : UInt8} (hc : spU c = true) {r : List UInt8} {L : List Tk} (h : Lx r L) : Lx (c :: r) L := by
  have ha : nextAt (c :: r) 0 = nextAt r 0 + 1 := by unfold nextAt; simp [runLen, hc]
  have hk : nextTk (c :: r) 0 = nextTk r 0 := by
    unfold nextTk
    rw [ha]
    by_cases hl : nextAt r 0 < r.length
    · rw [if_pos hl, if_pos (by simp; omega)]; rfl
    · rw [if_neg hl, if_neg (by simp; omega)]
  have ht : nextTo (c :: r) 0 = nextTo r 0 + 1 := by
    unfold nextTo
    rw [ha]
    by_cases hl : nextAt r 0 < r.length
    · rw [if_pos hl, if_pos (by simp; omega), List.drop_succ_cons]; omega
    · rw [if_neg hl, if_neg (by simp; omega)]; simp
  cases h with
  | nil h => exact .nil (by rw [hk]; exact h)
  | cons e h t => exact .cons (by rw [hk]; exact e) h (by rw [ht, List.drop_succ_cons]; exact t)
theorem lx_sps {z : List UInt8} {M : List Tk} (h : Lx z M) : ∀ l : List UInt8, l.length ≤ runLen spU l → Lx (l ++ z) M := by
  intro l
  induction l with
  | nil => intro _; exact h
  | cons c t ih =>
    intro hl
    have hc : runLen spU (c :: t) = if spU c then runLen spU t + 1 else 0 := rfl
    rw [hc] at hl
    by_cases hp : spU c = true
    · rw [if_pos hp] at hl
      exact lx_sp hp (ih (by simp at hl; omega))
    · rw [if_neg hp] at hl; simp at hl

theorem lx_app {d : UInt8} (hd : Stop d) {y : List UInt8} {M : List Tk} (hM : Lx (d :: y) M) {l : List UInt8} {L : List Tk} (h : Lx l L) : (∀ k ∈ L, k.kind ≠ 1) → Lx (l ++ d :: y) (L ++ M) := by
  induction h with
  | @nil r h =>
    intro _
    have := next_out h
    unfold nextAt at this
    rw [List.drop_zero] at this
    exact lx_sps hM r (by omega)
  | @cons r k L e h t ih =>
    intro hb
    obtain ⟨e1, e2⟩ := next_app hd y r (by rw [e]; exact h) (by rw [e]; exact hb k (by simp))
    refine .cons (by rw [e1]; exact e) h ?_
    rw [e2, List.drop_append_of_le_length (nextTo_le r 0)]
    exact ih (fun k hk => hb k (by simp [hk]))

/-- Every text has its tokens. -/
theorem lx_total : ∀ (n : Nat) (l : List UInt8), l.length ≤ n → ∃ L, Lx l L := by
  intro n
  induction n with
  | zero =>
    intro l hl
    have : l = [] := List.eq_nil_of_length_eq_zero (by omega)
    subst this
    exact ⟨[], lx_end⟩
  | succ n ih =>
    intro l hl
    by_cases h : nextAt l 0 < l.length
    · have hk : nextTk l 0 = firstTk (l.drop (nextAt l 0)) := by unfold nextTk; rw [if_pos h]
      have hz : 0 < nextTo l 0 := by
        unfold nextTo
        rw [if_pos h]
        have := firstS_pos (l.drop (nextAt l 0)) (by rw [List.length_drop]; omega)
        omega
      obtain ⟨L, hL⟩ := ih (l.drop (nextTo l 0)) (by rw [List.length_drop]; omega)
      exact ⟨_, .cons rfl (by rw [hk]; exact first_ne _) hL⟩
    · exact ⟨[], .nil (by unfold nextTk; rw [if_neg h])⟩

theorem stop41 : Stop 41 := ⟨rfl, rfl, rfl, rfl, rfl⟩
theorem stop32 : Stop 32 := ⟨rfl, rfl, rfl, rfl, rfl⟩
end

section
def Ate (ts ts' : TS) : Prop := ∃ A, ts.toks = A ++ ts'.toks ∧ ∀ k ∈ A, k.kind ≠ 1
theorem Ate.refl (ts : TS) : Ate ts ts := ⟨[], rfl, fun _ h => by cases h⟩
theorem Ate.trans {a b c : TS} (h : Ate a b) (g : Ate b c) : Ate a c := by
  obtain ⟨A, e1, h1⟩ := h
  obtain ⟨B, e2, h2⟩ := g
  refine ⟨A ++ B, by rw [e1, e2, List.append_assoc], fun k hk => ?_⟩
  rcases List.mem_append.1 hk with h | h
  · exact h1 k h
  · exact h2 k h
theorem Ate.tail {ts : TS} {n : Nat} (h : ts.tk.kind ≠ 1) : Ate ts ⟨ts.toks.tail, n⟩ := by
  cases ht : ts.toks with
  | nil => exact ⟨[], by rw [ht]; rfl, fun _ h => by cases h⟩
  | cons a r =>
    refine ⟨[a], by rw [ht]; rfl, fun k hk => ?_⟩
    simp at hk
    subst hk
    unfold TS.tk at h
    rw [ht] at h
    exact h
theorem Ate.next {ts : TS} (h : ts.tk.kind ≠ 1) : Ate ts ts.next := Ate.tail h
theorem Ate.of {ts : TS} {c : Int} (h : ts.tk.kind = c) (hc : c ≠ 1) : Ate ts ts.next := Ate.next (by rw [h]; exact hc)
theorem Ate.op {a b : TS} (h : Ate a b) (n : Nat) : Ate a ⟨b.toks, n⟩ := h

def Eats (f : TS → TRes) : Prop := ∀ ts t ts', f ts = .ok t ts' → Ate ts ts'

theorem Eats.join {f : TS → TRes} (h : Eats f) (ts : TS) (l t : Ast) (ts' : TS) (hk : ts.tk.kind ≠ 1) (he : tJoin f ts l = .ok t ts') : Ate ts ts' := by
  unfold tJoin at he
  split at he
  · rename_i hr; injection he with _ h2; subst h2; exact (Ate.next hk).trans (h _ _ _ hr)
  · cases he
theorem Eats.loop {f : TS → TRes} (h : Eats f) (ks : List Int) (h1 : ks.contains 1 = false) : ∀ n l ts t ts', tLoop f ks n l ts = .ok t ts' → Ate ts ts' := by
  intro n
  induction n with
  | zero => intro l ts t ts' he; rw [tLoop] at he; injection he with _ h2; subst h2; exact Ate.refl _
  | succ n ih =>
    intro l ts t ts' he
    rw [tLoop] at he
    by_cases hc : ks.contains ts.tk.kind = true
    · rw [if_pos hc] at he
      have hk : ts.tk.kind ≠ 1 := fun e => by rw [e, h1] at hc; cases hc
      split at he
      · rename_i hj; exact (h.join _ _ _ _ hk hj).trans (ih _ _ _ _ he)
      · cases he
    · rw [if_neg hc] at he
      injection he with _ h2; subst h2; exact Ate.refl _
theorem Eats.row {f : TS → TRes} (h : Eats f) (ks : List Int) (h1 : ks.contains 1 = false) : Eats (tRow f ks) := by
  intro ts t ts' he
  unfold tRow at he
  split at he
  · rename_i hr; exact (h _ _ _ hr).trans (h.loop ks h1 _ _ _ _ _ he)
  · cases he
theorem Eats.sign {f : TS → TRes} (h : Eats f) (o : Int) (ts : TS) (t : Ast) (ts' : TS) (hk : ts.tk.kind ≠ 1) (he : tSign f o ts = .ok t ts') : Ate ts ts' := by
  unfold tSign at he
  split at he
  · cases he
  · split at he
    · rename_i hr; injection he with _ h2; subst h2
      exact ((Ate.tail (n := ts.op + 1) hk).trans (h _ _ _ hr)).op _
    · cases he
theorem Eats.group {f : TS → TRes} (h : Eats f) (ts : TS) (t : Ast) (ts' : TS) (hk : ts.tk.kind ≠ 1) (he : tGroup f ts = .ok t ts') : Ate ts ts' := by
  unfold tGroup at he
  split at he
  · cases he
  · split at he
    · rename_i hr
      split at he
      · rename_i h27
        injection he with _ h2; subst h2
        exact ((Ate.tail (n := ts.op + 1) hk).trans (h _ _ _ hr)).trans (Ate.tail (by rw [h27]; decide))
      · cases he
    · cases he
theorem Eats.signed {f g : TS → TRes} (hS : Eats f) (hE : Eats g) : Eats (tSigned f g) := by
  intro ts t ts' he
  unfold tSigned at he
  by_cases h22 : ts.tk.kind = 22
  · rw [if_pos h22] at he; exact hS.sign 14 _ _ _ (by rw [h22]; decide) he
  rw [if_neg h22] at he
  by_cases h23 : ts.tk.kind = 23
  · rw [if_pos h23] at he; exact hS.sign 15 _ _ _ (by rw [h23]; decide) he
  rw [if_neg h23] at he
  by_cases h26 : ts.tk.kind = 26
  · rw [if_pos h26] at he; exact hE.group _ _ _ (by rw [h26]; decide) he
  rw [if_neg h26] at he
  by_cases h2 : ts.tk.kind = 2
  · rw [if_pos h2] at he; injection he with _ e; subst e; exact Ate.of h2 (by decide)
  rw [if_neg h2] at he
  by_cases h3 : ts.tk.kind = 3
  · rw [if_pos h3] at he; injection he with _ e; subst e; exact Ate.of h3 (by decide)
  rw [if_neg h3] at he
  by_cases h4 : ts.tk.kind = 4
  · rw [if_pos h4] at he; injection he with _ e; subst e; exact Ate.of h4 (by decide)
  rw [if_neg h4] at he
  by_cases h8 : ts.tk.kind = 8
  · rw [if_pos h8] at he; injection he with _ e; subst e; exact Ate.of h8 (by decide)
  rw [if_neg h8] at he
  by_cases h9 : ts.tk.kind = 9
  · rw [if_pos h9] at he; injection he with _ e; subst e; exact Ate.of h9 (by decide)
  rw [if_neg h9] at he
  cases he
theorem eats_isNull (l : Ast) (ts : TS) (t : Ast) (ts' : TS) (hk : ts.tk.kind ≠ 1) (he : tIsNull l ts = .ok t ts') : Ate ts ts' := by
  unfold tIsNull at he
  by_cases h7 : ts.next.tk.kind = 7
  · rw [if_pos h7] at he
    by_cases h15 : ts.next.next.tk.kind = 15
    · rw [if_pos h15] at he; injection he with _ e; subst e
      exact ((Ate.next hk).trans (Ate.of h7 (by decide))).trans (Ate.of h15 (by decide))
    · rw [if_neg h15] at he; cases he
  · rw [if_neg h7] at he
    by_cases h15 : ts.next.tk.kind = 15
    · rw [if_pos h15] at he; injection he with _ e; subst e
      exact (Ate.next hk).trans (Ate.of h15 (by decide))
    · rw [if_neg h15] at he; cases he
theorem eats_inLoop (l : Ast) : ∀ n xs ts t ts', tInLoop l n xs ts = .ok t ts' → Ate ts ts' := by
  intro n
  induction n with
  | zero => intro xs ts t ts' he; rw [tInLoop] at he; cases he
  | succ n ih =>
    intro xs ts t ts' he
    rw [tInLoop] at he
    by_cases h28 : ts.tk.kind = 28
    · rw [if_pos h28] at he
      by_cases h4 : ts.next.tk.kind = 4
      · rw [if_pos h4] at he
        exact ((Ate.of h28 (by decide)).trans (Ate.of h4 (by decide))).trans (ih _ _ _ _ he)
      · rw [if_neg h4] at he; cases he
    · rw [if_neg h28] at he
      by_cases h27 : ts.tk.kind = 27
      · rw [if_pos h27] at he; injection he with _ e; subst e; exact Ate.of h27 (by decide)
      · rw [if_neg h27] at he; cases he
theorem eats_in (l : Ast) (ts : TS) (t : Ast) (ts' : TS) (hk : ts.tk.kind ≠ 1) (he : tInRes l ts = .ok t ts') : Ate ts ts' := by
  unfold tInRes at he
  by_cases h26 : ts.next.tk.kind = 26
  · rw [if_pos h26] at he
    by_cases h4 : ts.next.next.tk.kind = 4
    · rw [if_pos h4] at he
      exact (((Ate.next hk).trans (Ate.of h26 (by decide))).trans (Ate.of h4 (by decide))).trans (eats_inLoop l _ _ _ _ _ he)
    · rw [if_neg h4] at he; cases he
  · rw [if_neg h26] at he; cases he
theorem eats_like (l : Ast) (ts : TS) (t : Ast) (ts' : TS) (hk : ts.tk.kind ≠ 1) (he : tLike l ts = .ok t ts') : Ate ts ts' := by
  unfold tLike at he
  by_cases h4 : ts.next.tk.kind = 4
  · rw [if_pos h4] at he
    have a := (Ate.next hk).trans (Ate.of h4 (by decide))
    by_cases h13 : ts.next.next.tk.kind = 13
    · rw [if_pos h13] at he
      split at he
      · rename_i g
        injection he with _ e; subst e
        exact (a.trans (Ate.of h13 (by decide))).trans (Ate.of g.1 (by decide))
      · cases he
    · rw [if_neg h13] at he
      injection he with _ e; subst e; exact a
  · rw [if_neg h4] at he; cases he
theorem Eats.between {f : TS → TRes} (h : Eats f) (l : Ast) (ts : TS) (t : Ast) (ts' : TS) (he : tBetween f l ts = .ok t ts') : Ate ts ts' := by
  unfold tBetween at he
  by_cases h10 : ts.tk.kind = 10
  · rw [if_pos h10] at he
    split at he
    · rename_i ts1 e1
      split at he
      · rename_i h5
        split at he
        · rename_i e2
          injection he with _ e; subst e
          exact (((Ate.of h10 (by decide)).trans (h _ _ _ e1)).trans (Ate.of h5 (by decide))).trans (h _ _ _ e2)
        · cases he
      · cases he
    · cases he
  · rw [if_neg h10] at he; cases he
theorem Eats.keyword {f : TS → TRes} (h : Eats f) (bare : Bool) (l : Ast) (ts : TS) (t : Ast) (ts' : TS) (he : tKeyword f bare l ts = .ok t ts') : Ate ts ts' := by
  unfold tKeyword at he
  split at he
  · rename_i g; exact eats_in _ _ _ _ (by rw [g.1]; decide) he
  split at he
  · rename_i g; exact eats_like _ _ _ _ (by rw [g.1]; decide) he
  · exact h.between _ _ _ _ he
theorem Eats.test {f : TS → TRes} (h : Eats f) : Eats (tTest f) := by
  intro ts t ts' he
  unfold tTest at he
  split at he
  · rename_i hr
    refine (h _ _ _ hr).trans ?_
    unfold tTail at he
    split at he
    · rename_i g
      exact h.join _ _ _ _ (by rcases g with e | e | e | e | e | e <;> rw [e] <;> decide) he
    split at he
    · rename_i g
      split at he
      · exact eats_isNull _ _ _ _ (by rw [g]; decide) he
      · injection he with _ h2; subst h2; exact Ate.refl _
    split at he
    · rename_i g
      split at he
      · rename_i hk; injection he with _ h2; subst h2; exact (Ate.of g (by decide)).trans (h.keyword _ _ _ _ _ hk)
      · cases he
    split at he
    · exact h.keyword _ _ _ _ _ he
    · injection he with _ h2; subst h2; exact Ate.refl _
  · cases he
theorem Eats.denied {fD fT : TS → TRes} (hD : Eats fD) (hT : Eats fT) : Eats (tDenied fD fT) := by
  intro ts t ts' he
  unfold tDenied at he
  split at he
  · rename_i g; exact hD.sign 5 _ _ _ (by rw [g]; decide) he
  · exact hT _ _ _ he
structure Eats3 (L : T3) : Prop where
  S : Eats L.S
  D : Eats L.D
  E : Eats L.E
theorem eats_up {L : T3} (h : Eats3 L) : Eats3 (tUp L) := by
  have hS := Eats.signed h.S h.E
  have hT := ((hS.row [24, 25] rfl).row [22, 23] rfl).test
  have hD := Eats.denied h.D hT
  exact ⟨hS, hD, (hD.row [5] rfl).row [6] rfl⟩
theorem eats_lvl : ∀ d, Eats3 (tLvl d) := by
  intro d
  induction d with
  | zero => exact eats_up ⟨(fun _ _ _ h => by cases h), (fun _ _ _ h => by cases h), (fun _ _ _ h => by cases h)⟩
  | succ d ih => exact eats_up ih

theorem chk_of_erase {t : Ast} (h : chkR (clsA t) = none) : chkR (clsA (erase t)) = none := by
  have hr := cls_erase t
  cases h1 : clsA t with
  | ok c =>
    rw [h1] at hr h
    cases h2 : clsA (erase t) with
    | ok d => rw [h2] at hr; cases hr; exact h
    | err q => rw [h2] at hr; cases hr
  | err p => rw [h1] at h; cases h

/-- The tokens of a selector. -/
theorem tokens_of_read {s : ByteArray} {t : Ast} (h : readR s = .ok t) : s.size ≤ 200 ∧ ∃ L, Lx s.data.toList L ∧ (∀ k ∈ L, k.kind ≠ 1) ∧ (tLvl 12).E ⟨L, 0⟩ = .ok (erase t) ⟨[], 0⟩ ∧ chkR (clsA (erase t)) = none := by
  unfold readR at h
  by_cases hs : s.size ≤ 200
  · rw [if_pos hs] at h
    refine ⟨hs, ?_⟩
    obtain ⟨L, hL⟩ := lx_total _ s.data.toList (Nat.le_refl _)
    have hst : Str s (stepSt s st0) L := str_of_lx hL st0 (Nat.zero_le _) (List.drop_zero)
    have hfi := stepSt_fine s st0 (Nat.zero_le _)
    have hsim := (sim_lvl s 12).E (stepSt s st0) ⟨L, 0⟩ hfi hst rfl
    rcases hsim.cases with ⟨t1, st, ts, e1, e2, e3, e4, e5⟩ | ⟨en, pl, e1, e2⟩
    · rw [e1] at h
      change endR t1 st = _ at h
      unfold endR at h
      by_cases hk : st.tk.kind = 0
      · rw [if_pos hk] at h
        cases hc : chkR (clsA t1) with
        | some q => rw [hc] at h; cases h
        | none =>
          rw [hc] at h
          injection h with h
          subst h
          have hnil : ts.toks = [] := by
            cases hl : ts.toks with
            | nil => rfl
            | cons a r =>
              rw [hl] at e3
              cases e3 with
              | cons g _ => exact absurd hk g
          have hop : ts.op = 0 := ((ext_lvl (X := [plainTk 27]) rfl 0 12 0 rfl).E ⟨L, 0⟩ rfl _ _ e2).1
          have hts : ts = ⟨[], 0⟩ := by cases ts; simp at hnil hop; rw [hnil, hop]
          rw [hts] at e2
          obtain ⟨A, ea, hA⟩ := (eats_lvl 12).E _ _ _ e2
          refine ⟨L, hL, fun k hk => hA k ?_, e2, chk_of_erase hc⟩
          have : L = A := by simpa using ea
          rw [← this]; exact hk
      · rw [if_neg hk] at h; cases h
    · rw [e1] at h; cases h
  · rw [if_neg hs] at h; cases h
end

section
def ShA : Ast → Prop
  | .leaf p => 0 ≤ p.op ∧ p.op ≤ 4
  | .un p x => (p.op = 5 ∨ p.op = 14 ∨ p.op = 15 ∨ p.op = 21 ∨ p.op = 22 ∨ p.op = 23) ∧ (p.op = 21 → p.texts ≠ []) ∧ (p.op = 21 ∨ p.op = 22 ∨ p.op = 23 → opA x = 0) ∧ ShA x
  | .bin p x y => (6 ≤ p.op ∧ p.op ≤ 13 ∨ 16 ≤ p.op ∧ p.op ≤ 19) ∧ ShA x ∧ ShA y
  | .tri p x y z => p.op = 20 ∧ ShA x ∧ ShA y ∧ ShA z
def ndA : Ast → Nat
  | .leaf _ => 1
  | .un p x => 1 + p.texts.length + ndA x
  | .bin _ x y => 1 + ndA x + ndA y
  | .tri _ x y z => 1 + ndA x + ndA y + ndA z

theorem opOf_rng (k : Int) : 6 ≤ opOf k ∧ opOf k ≤ 13 ∨ 16 ≤ opOf k ∧ opOf k ≤ 19 := by
  unfold opOf
  have ite' : ∀ {c : Prop} [Decidable c] {a b : Int}, (6 ≤ a ∧ a ≤ 13 ∨ 16 ≤ a ∧ a ≤ 19) → (6 ≤ b ∧ b ≤ 13 ∨ 16 ≤ b ∧ b ≤ 19) → (6 ≤ (if c then a else b) ∧ (if c then a else b) ≤ 13 ∨ 16 ≤ (if c then a else b) ∧ (if c then a else b) ≤ 19) := by
    intro c _ a b ha hb
    by_cases h : c
    · rw [if_pos h]; exact ha
    · rw [if_neg h]; exact hb
  repeat refine ite' (by decide) ?_
  decide

/-- What is read is in shape, and costs a token a term. -/
def Nd (f : TS → TRes) : Prop := ∀ ts t ts', f ts = .ok t ts' → ShA t ∧ ndA t + ts'.toks.length ≤ ts.toks.length
def NdT (l : Ast) (ts : TS) (t : Ast) (ts' : TS) : Prop := ShA l → ShA t ∧ ndA t + ts'.toks.length ≤ ndA l + ts.toks.length

theorem next_lt {ts : TS} (h : ts.toks ≠ []) : ts.next.toks.length + 1 = ts.toks.length := by
  cases ht : ts.toks with
  | nil => exact absurd ht h
  | cons a r => show (ts.toks.tail).length + 1 = _; rw [ht]; rfl

theorem Nd.join {f : TS → TRes} (h : Nd f) (ts : TS) (l t : Ast) (ts' : TS) (hne : ts.toks ≠ []) (he : tJoin f ts l = .ok t ts') : NdT l ts t ts' := by
  intro hl
  unfold tJoin at he
  split at he
  · rename_i hr
    injection he with h1 h2
    subst h1 h2
    obtain ⟨a, b⟩ := h _ _ _ hr
    have := next_lt hne
    refine ⟨⟨opOf_rng _, hl, a⟩, ?_⟩
    show 1 + ndA l + _ + _ ≤ _
    omega
  · cases he
theorem Nd.loop {f : TS → TRes} (h : Nd f) (ks : List Int) (h0 : ks.contains 0 = false) : ∀ n l ts t ts', tLoop f ks n l ts = .ok t ts' → NdT l ts t ts' := by
  intro n
  induction n with
  | zero => intro l ts t ts' he hl; rw [tLoop] at he; injection he with h1 h2; subst h1 h2; exact ⟨hl, Nat.le_refl _⟩
  | succ n ih =>
    intro l ts t ts' he hl
    rw [tLoop] at he
    by_cases hc : ks.contains ts.tk.kind = true
    · rw [if_pos hc] at he
      have hne : ts.toks ≠ [] := by
        intro e
        have : ts.tk.kind = 0 := by unfold TS.tk; rw [e]; rfl
        rw [this, h0] at hc
        cases hc
      split at he
      · rename_i hj
        obtain ⟨a, b⟩ := h.join _ _ _ _ hne hj hl
        obtain ⟨c, d⟩ := ih _ _ _ _ he a
        exact ⟨c, by omega⟩
      · cases he
    · rw [if_neg hc] at he
      injection he with h1 h2; subst h1 h2; exact ⟨hl, Nat.le_refl _⟩
theorem Nd.row {f : TS → TRes} (h : Nd f) (ks : List Int) (h0 : ks.contains 0 = false) : Nd (tRow f ks) := by
  intro ts t ts' he
  unfold tRow at he
  split at he
  · rename_i hr
    obtain ⟨a, b⟩ := h _ _ _ hr
    obtain ⟨c, d⟩ := h.loop ks h0 _ _ _ _ _ he a
    exact ⟨c, by omega⟩
  · cases he
theorem Nd.sign {f : TS → TRes} (h : Nd f) (o : Int) (ho : o = 5 ∨ o = 14 ∨ o = 15) (ts : TS) (t : Ast) (ts' : TS) (hne : ts.toks ≠ []) (he : tSign f o ts = .ok t ts') : ShA t ∧ ndA t + ts'.toks.length ≤ ts.toks.length := by
  unfold tSign at he
  split at he
  · cases he
  · split at he
    · rename_i ts1 hr
      injection he with h1 h2
      subst h1 h2
      obtain ⟨a, b⟩ := h _ _ _ hr
      have := next_lt hne
      refine ⟨⟨by simp only; omega, fun e => ?_, fun e => ?_, a⟩, ?_⟩
      · simp only at e; omega
      · simp only at e; omega
      · show 1 + 0 + _ + ts1.toks.length ≤ _
        have e : (tIn ts).toks.length = ts.next.toks.length := rfl
        omega
    · cases he
theorem Nd.group {f : TS → TRes} (h : Nd f) (ts : TS) (t : Ast) (ts' : TS) (he : tGroup f ts = .ok t ts') : ShA t ∧ ndA t + ts'.toks.length ≤ ts.toks.length := by
  unfold tGroup at he
  split at he
  · cases he
  · split at he
    · rename_i ts1 hr
      split at he
      · injection he with h1 h2
        subst h1 h2
        obtain ⟨a, b⟩ := h _ _ _ hr
        have e : (tIn ts).toks.length ≤ ts.toks.length := tail_le _
        have e2 := tail_le ts1.toks
        refine ⟨a, ?_⟩
        show _ + ts1.toks.tail.length ≤ _
        omega
      · cases he
    · cases he
theorem nd_leaf {o n : Int} {s : List UInt8} (ho : 0 ≤ o ∧ o ≤ 4) {ts : TS} (hne : ts.toks ≠ []) : ShA (tLeaf o n s) ∧ ndA (tLeaf o n s) + ts.next.toks.length ≤ ts.toks.length := by
  have := next_lt hne
  exact ⟨ho, by show 1 + _ ≤ _; omega⟩
theorem Nd.signed {f g : TS → TRes} (hS : Nd f) (hE : Nd g) : Nd (tSigned f g) := by
  intro ts t ts' he
  unfold tSigned at he
  by_cases h22 : ts.tk.kind = 22
  · rw [if_pos h22] at he; exact hS.sign 14 (by omega) _ _ _ (ne_of_kind (by decide) h22) he
  rw [if_neg h22] at he
  by_cases h23 : ts.tk.kind = 23
  · rw [if_pos h23] at he; exact hS.sign 15 (by omega) _ _ _ (ne_of_kind (by decide) h23) he
  rw [if_neg h23] at he
  by_cases h26 : ts.tk.kind = 26
  · rw [if_pos h26] at he; exact hE.group _ _ _ he
  rw [if_neg h26] at he
  by_cases h2 : ts.tk.kind = 2
  · rw [if_pos h2] at he; injection he with e1 e2; subst e1 e2; exact nd_leaf (by decide) (ne_of_kind (by decide) h2)
  rw [if_neg h2] at he
  by_cases h3 : ts.tk.kind = 3
  · rw [if_pos h3] at he; injection he with e1 e2; subst e1 e2; exact nd_leaf (by decide) (ne_of_kind (by decide) h3)
  rw [if_neg h3] at he
  by_cases h4 : ts.tk.kind = 4
  · rw [if_pos h4] at he; injection he with e1 e2; subst e1 e2; exact nd_leaf (by decide) (ne_of_kind (by decide) h4)
  rw [if_neg h4] at he
  by_cases h8 : ts.tk.kind = 8
  · rw [if_pos h8] at he; injection he with e1 e2; subst e1 e2; exact nd_leaf (by decide) (ne_of_kind (by decide) h8)
  rw [if_neg h8] at he
  by_cases h9 : ts.tk.kind = 9
  · rw [if_pos h9] at he; injection he with e1 e2; subst e1 e2; exact nd_leaf (by decide) (ne_of_kind (by decide) h9)
  rw [if_neg h9] at he
  cases he
theorem nd_isNull (l : Ast) (h0 : opA l = 0) (ts : TS) (t : Ast) (ts' : TS) (hne : ts.toks ≠ []) (he : tIsNull l ts = .ok t ts') : NdT l ts t ts' := by
  intro hl
  have n0 := next_lt hne
  unfold tIsNull at he
  by_cases h7 : ts.next.tk.kind = 7
  · rw [if_pos h7] at he
    have n1 := next_lt (ne_of_kind (by decide) h7)
    by_cases h15 : ts.next.next.tk.kind = 15
    · rw [if_pos h15] at he; injection he with e1 e2; subst e1 e2
      have n2 := next_lt (ne_of_kind (by decide) h15)
      exact ⟨⟨by simp, fun e => by simp at e, fun e => by simp at e, ⟨by simp, fun e => by simp at e, fun _ => h0, hl⟩⟩, by show 1 + 0 + (1 + 0 + ndA l) + _ ≤ _; omega⟩
    · rw [if_neg h15] at he; cases he
  · rw [if_neg h7] at he
    by_cases h15 : ts.next.tk.kind = 15
    · rw [if_pos h15] at he; injection he with e1 e2; subst e1 e2
      have n1 := next_lt (ne_of_kind (by decide) h15)
      exact ⟨⟨by simp, fun e => by simp at e, fun _ => h0, hl⟩, by show 1 + 0 + ndA l + _ ≤ _; omega⟩
    · rw [if_neg h15] at he; cases he
theorem nd_inLoop (l : Ast) (h0 : opA l = 0) : ∀ n xs ts t ts', xs ≠ [] → ShA l → tInLoop l n xs ts = .ok t ts' → ShA t ∧ ndA t + ts'.toks.length ≤ 1 + xs.length + ndA l + ts.toks.length := by
  intro n
  induction n with
  | zero => intro xs ts t ts' _ _ he; rw [tInLoop] at he; cases he
  | succ n ih =>
    intro xs ts t ts' hx hl he
    rw [tInLoop] at he
    by_cases h28 : ts.tk.kind = 28
    · rw [if_pos h28] at he
      have n1 := next_lt (ne_of_kind (by decide) h28)
      by_cases h4 : ts.next.tk.kind = 4
      · rw [if_pos h4] at he
        have n2 := next_lt (ne_of_kind (by decide) h4)
        obtain ⟨a, b⟩ := ih _ _ _ _ (by simp) hl he
        refine ⟨a, ?_⟩
        rw [List.length_append] at b
        simp only [List.length_singleton] at b
        omega
      · rw [if_neg h4] at he; cases he
    · rw [if_neg h28] at he
      by_cases h27 : ts.tk.kind = 27
      · rw [if_pos h27] at he; injection he with e1 e2; subst e1 e2
        have n1 := next_lt (ne_of_kind (by decide) h27)
        exact ⟨⟨by simp, fun _ => hx, fun _ => h0, hl⟩, by show 1 + xs.length + ndA l + _ ≤ _; omega⟩
      · rw [if_neg h27] at he; cases he
theorem nd_in (l : Ast) (h0 : opA l = 0) (ts : TS) (t : Ast) (ts' : TS) (hne : ts.toks ≠ []) (he : tInRes l ts = .ok t ts') : NdT l ts t ts' := by
  intro hl
  have n0 := next_lt hne
  unfold tInRes at he
  by_cases h26 : ts.next.tk.kind = 26
  · rw [if_pos h26] at he
    have n1 := next_lt (ne_of_kind (by decide) h26)
    by_cases h4 : ts.next.next.tk.kind = 4
    · rw [if_pos h4] at he
      have n2 := next_lt (ne_of_kind (by decide) h4)
      obtain ⟨a, b⟩ := nd_inLoop l h0 _ _ _ _ _ (by simp) hl he
      simp only [List.length_singleton] at b
      exact ⟨a, by omega⟩
    · rw [if_neg h4] at he; cases he
  · rw [if_neg h26] at he; cases he
theorem nd_like (l : Ast) (h0 : opA l = 0) (ts : TS) (t : Ast) (ts' : TS) (hne : ts.toks ≠ []) (he : tLike l ts = .ok t ts') : NdT l ts t ts' := by
  intro hl
  have n0 := next_lt hne
  have n1 := next_le ts.next
  have n2 := next_le ts.next.next
  have n3 := next_le ts.next.next.next
  unfold tLike at he
  split at he
  · split at he
    · split at he
      · injection he with e1 e2; subst e1 e2
        exact ⟨⟨by simp, fun e => by simp at e, fun _ => h0, hl⟩, by show 1 + 0 + ndA l + _ ≤ _; omega⟩
      · cases he
    · injection he with e1 e2; subst e1 e2
      exact ⟨⟨by simp, fun e => by simp at e, fun _ => h0, hl⟩, by show 1 + 0 + ndA l + _ ≤ _; omega⟩
  · cases he
theorem Nd.between {f : TS → TRes} (h : Nd f) (l : Ast) (ts : TS) (t : Ast) (ts' : TS) (he : tBetween f l ts = .ok t ts') : NdT l ts t ts' := by
  intro hl
  unfold tBetween at he
  by_cases h10 : ts.tk.kind = 10
  · rw [if_pos h10] at he
    have n0 := next_lt (ne_of_kind (by decide) h10)
    split at he
    · rename_i ts1 e1
      obtain ⟨a, b⟩ := h _ _ _ e1
      split at he
      · split at he
        · rename_i e2
          obtain ⟨c, d⟩ := h _ _ _ e2
          have n1 := next_le ts1
          injection he with e3 e4
          subst e3 e4
          exact ⟨⟨rfl, hl, a, c⟩, by show 1 + ndA l + _ + _ + _ ≤ _; omega⟩
        · cases he
      · cases he
    · cases he
  · rw [if_neg h10] at he; cases he
theorem Nd.keyword {f : TS → TRes} (h : Nd f) (bare : Bool) (l : Ast) (hb : bare = true → opA l = 0) (ts : TS) (t : Ast) (ts' : TS) (he : tKeyword f bare l ts = .ok t ts') : NdT l ts t ts' := by
  unfold tKeyword at he
  split at he
  · rename_i g; exact nd_in _ (hb g.2) _ _ _ (ne_of_kind (by decide) g.1) he
  split at he
  · rename_i g; exact nd_like _ (hb g.2) _ _ _ (ne_of_kind (by decide) g.1) he
  · exact h.between _ _ _ _ he
theorem Nd.test {f : TS → TRes} (h : Nd f) : Nd (tTest f) := by
  intro ts t ts' he
  unfold tTest at he
  split at he
  · rename_i ts1 hr
    obtain ⟨a, b⟩ := h _ _ _ hr
    suffices hs : ∀ l, ShA l → tTail f (ts.tk.kind == 2 && opA l == 0) l ts1 = .ok t ts' → NdT l ts1 t ts' by
      obtain ⟨c, d⟩ := hs _ a he a
      exact ⟨c, by omega⟩
    intro l hl he
    have hbare : (ts.tk.kind == 2 && opA l == 0) = true → opA l = 0 := fun e => by simp only [Bool.and_eq_true, beq_iff_eq] at e; exact e.2
    unfold tTail at he
    split at he
    · rename_i g
      refine h.join _ _ _ _ ?_ he
      rcases g with e | e | e | e | e | e <;> exact ne_of_kind (by decide) e
    split at he
    · rename_i g
      split at he
      · rename_i gb; exact nd_isNull _ (hbare gb) _ _ _ (ne_of_kind (by decide) g) he
      · injection he with e1 e2; subst e1 e2; exact fun _ => ⟨hl, Nat.le_refl _⟩
    split at he
    · rename_i g
      have n0 := next_lt (ne_of_kind (by decide) g)
      split at he
      · rename_i hk
        injection he with e1 e2; subst e1 e2
        intro hl
        obtain ⟨c, d⟩ := h.keyword _ _ hbare _ _ _ hk hl
        exact ⟨⟨by simp, fun e => by simp at e, fun e => by simp at e, c⟩, by show 1 + 0 + _ + _ ≤ _; omega⟩
      · cases he
    split at he
    · exact h.keyword _ _ hbare _ _ _ he
    · injection he with e1 e2; subst e1 e2; exact fun _ => ⟨hl, Nat.le_refl _⟩
  · cases he
theorem Nd.denied {fD fT : TS → TRes} (hD : Nd fD) (hT : Nd fT) : Nd (tDenied fD fT) := by
  intro ts t ts' he
  unfold tDenied at he
  split at he
  · rename_i g; exact hD.sign 5 (by omega) _ _ _ (ne_of_kind (by decide) g) he
  · exact hT _ _ _ he
structure Nd3 (L : T3) : Prop where
  S : Nd L.S
  D : Nd L.D
  E : Nd L.E
theorem nd_up {L : T3} (h : Nd3 L) : Nd3 (tUp L) := by
  have hS := Nd.signed h.S h.E
  have hT := ((hS.row [24, 25] rfl).row [22, 23] rfl).test
  have hD := Nd.denied h.D hT
  exact ⟨hS, hD, (hD.row [5] rfl).row [6] rfl⟩
theorem nd_lvl : ∀ d, Nd3 (tLvl d) := by
  intro d
  induction d with
  | zero => exact nd_up ⟨(fun _ _ _ h => by cases h), (fun _ _ _ h => by cases h), (fun _ _ _ h => by cases h)⟩
  | succ d ih => exact nd_up ih

theorem lx_len {l : List UInt8} {L : List Tk} (h : Lx l L) : L.length ≤ l.length := by
  induction h with
  | nil _ => exact Nat.zero_le _
  | @cons r k L e h t ih =>
    have hl := next_in (l := r) (by rw [e]; exact h)
    have hz : 0 < nextTo r 0 := by
      unfold nextTo
      rw [if_pos hl]
      have := firstS_pos (r.drop (nextAt r 0)) (by rw [List.length_drop]; omega)
      omega
    have := nextTo_le r 0
    rw [List.length_drop] at ih
    simp only [List.length_cons]
    omega
theorem sh_erase : ∀ t, ShA (erase t) → ShA t := by
  intro t
  induction t with
  | leaf p => exact fun h => h
  | un p x ih => exact fun h => ⟨h.1, h.2.1, fun e => by rw [← opA_erase]; exact h.2.2.1 e, ih h.2.2.2⟩
  | bin p x y ihx ihy => exact fun h => ⟨h.1, ihx h.2.1, ihy h.2.2⟩
  | tri p x y z ihx ihy ihz => exact fun h => ⟨h.1, ihx h.2.1, ihy h.2.2.1, ihz h.2.2.2⟩
theorem nd_erase : ∀ t, ndA (erase t) = ndA t := by
  intro t
  induction t with
  | leaf p => rfl
  | un p x ih => show 1 + _ + ndA (erase x) = _; rw [ih]; rfl
  | bin p x y ihx ihy => show 1 + ndA (erase x) + ndA (erase y) = _; rw [ihx, ihy]; rfl
  | tri p x y z ihx ihy ihz => show 1 + ndA (erase x) + ndA (erase y) + ndA (erase z) = _; rw [ihx, ihy, ihz]; rfl

/-- A selector's shape, and that it has at most two hundred terms. -/
theorem shape_of_read {s : ByteArray} {t : Ast} (h : readR s = .ok t) : ShA t ∧ ndA t ≤ 200 := by
  obtain ⟨hs, L, hL, _, hr, _⟩ := tokens_of_read h
  obtain ⟨a, b⟩ := (nd_lvl 12).E _ _ _ hr
  have := lx_len hL
  rw [data_len] at this
  rw [nd_erase] at b
  exact ⟨sh_erase t a, by simp only [List.length_nil] at b; show ndA t ≤ 200; have e : (⟨L, 0⟩ : TS).toks.length = L.length := rfl; omega⟩
end

section
/-- What a term bears, for its operator. -/
structure Bz (p : Pay) : Prop where
  name : p.op = 0 → p.num = 0 ∧ p.esc = [] ∧ nameB p.str = true
  num : p.op = 1 → 0 ≤ p.num ∧ p.str = [] ∧ p.esc = []
  text : p.op = 2 → p.num = 0 ∧ p.esc = []
  bare : p.op = 3 ∨ p.op = 4 ∨ p.op = 5 ∨ p.op = 23 → p.num = 0 ∧ p.str = [] ∧ p.esc = []
  like : p.op = 22 → p.num = 0 ∧ (p.esc = [] ∨ p.esc.length = 1 ∧ (cutL p.esc p.str).isSome = true)
def BzA : Ast → Prop
  | .leaf p => Bz p
  | .un p x => Bz p ∧ BzA x
  | .bin p x y => Bz p ∧ BzA x ∧ BzA y
  | .tri p x y z => Bz p ∧ BzA x ∧ BzA y ∧ BzA z
theorem bz0 {op pl : Int} (h : op ≠ 0) : Bz ⟨op, pl, 0, [], [], []⟩ := ⟨fun e => absurd e h, fun _ => ⟨Int.le_refl _, rfl, rfl⟩, fun _ => ⟨rfl, rfl⟩, fun _ => ⟨rfl, rfl, rfl⟩, fun _ => ⟨rfl, .inl rfl⟩⟩
theorem bz_name {pl : Int} {s : List UInt8} (h : nameB s = true) : Bz ⟨0, pl, 0, s, [], []⟩ := by
  constructor <;> intro e <;> simp at e
  exact ⟨rfl, rfl, h⟩
theorem bz_num {pl n : Int} (h : 0 ≤ n) : Bz ⟨1, pl, n, [], [], []⟩ := by
  constructor <;> intro e <;> simp at e
  exact ⟨h, rfl, rfl⟩
theorem bz_text {pl : Int} {s : List UInt8} : Bz ⟨2, pl, 0, s, [], []⟩ := by
  constructor <;> intro e <;> simp at e
  exact ⟨rfl, rfl⟩
theorem bz_among {pl : Int} {ts : List (List UInt8)} : Bz ⟨21, pl, 0, [], [], ts⟩ := by
  constructor <;> intro e <;> simp at e
theorem bz_lk {pl : Int} {s e : List UInt8} (h : e = [] ∨ e.length = 1 ∧ (cutL e s).isSome = true) : Bz ⟨22, pl, 0, s, e, []⟩ := by
  constructor <;> intro e <;> simp at e
  exact ⟨rfl, h⟩
theorem opOf_ne (k : Int) : opOf k ≠ 0 := by
  unfold opOf
  repeat' split
  all_goals decide
theorem runLen_take (p : UInt8 → Bool) : ∀ (l : List UInt8) (n : Nat), n ≤ runLen p l → runLen p (l.take n) = n := by
  intro l
  induction l with
  | nil => intro n h; simp [runLen] at h; subst h; rfl
  | cons c t ih =>
    intro n h
    cases n with
    | zero => rfl
    | succ n =>
      unfold runLen at h
      by_cases hc : p c = true
      · rw [if_pos hc] at h
        have := ih n (by omega)
        simp [runLen, hc, this]
      · rw [if_neg hc] at h
        omega
/-- A word that is no keyword is a name by itself. -/
theorem name_tk {l : List UInt8} (h : (firstTk l).kind = 2) : nameB (firstTk l).str = true := by
  cases l with
  | nil => simp [firstTk, plainTk] at h
  | cons c t =>
    by_cases hb : begU c = true
    · have e : firstTk (c :: t) = wordTk (c :: t) := by simp [firstTk, hb]
      rw [e] at h ⊢
      by_cases hw : wordK ((c :: t).take (wordSize (c :: t))) = 2
      · have e2 : wordTk (c :: t) = ⟨2, 0, (c :: t).take (wordSize (c :: t))⟩ := by unfold wordTk; rw [if_pos hw]
        rw [e2]
        have hs : wordSize (c :: t) = runLen goeU t + 1 := by simp [wordSize, hb]
        have hz : wordSize ((c :: t).take (wordSize (c :: t))) = wordSize (c :: t) := by
          rw [hs, List.take_succ_cons]
          simp only [wordSize, hb, if_true]
          rw [runLen_take goeU t _ (Nat.le_refl _)]
        have hl := wordSize_le (c :: t)
        unfold nameB
        simp only [hz, hw, List.length_take]
        rw [Nat.min_eq_left hl]
        simp [hs]
      · have e2 : wordTk (c :: t) = plainTk (wordK ((c :: t).take (wordSize (c :: t)))) := by unfold wordTk; rw [if_neg hw]
        rw [e2] at h
        exact absurd h hw
    · exfalso
      have hb : begU c = false := by simpa using hb
      by_cases hd : digU c = true
      · have e : firstTk (c :: t) = numTk (c :: t) := by simp [firstTk, hb, hd]
        rw [e] at h
        unfold numTk at h
        split at h
        · simp at h
        · simp [plainTk] at h
      · have hd : digU c = false := by simpa using hd
        by_cases hq : (c == 39) = true
        · have e : firstTk (c :: t) = quotTk (c :: t) := by simp [firstTk, hb, hd, hq]
          rw [e] at h
          unfold quotTk at h
          split at h
          · simp at h
          · simp [plainTk] at h
        · have hq : (c == 39) = false := by simpa using hq
          have e : firstTk (c :: t) = plainTk (markT (c :: t)) := by simp [firstTk, hb, hd, hq]
          rw [e] at h
          have h : markT (c :: t) = 2 := h
          unfold markT at h
          split at h
          · omega
          · unfold markK at h
            repeat' split at h
            all_goals omega
theorem num_tk {l : List UInt8} : 0 ≤ (firstTk l).num := by
  cases l with
  | nil => simp [firstTk, plainTk]
  | cons c t =>
    have hw : ∀ l, 0 ≤ (wordTk l).num := fun l => by unfold wordTk; split <;> simp [plainTk]
    have hn : ∀ l, 0 ≤ (numTk l).num := fun l => by
      unfold numTk
      split
      · simp
      · simp [plainTk]
    have hq : ∀ l, 0 ≤ (quotTk l).num := fun l => by unfold quotTk; split <;> simp [plainTk]
    show 0 ≤ (if begU c then wordTk (c :: t) else if digU c then numTk (c :: t) else if c == 39 then quotTk (c :: t) else plainTk (markT (c :: t))).num
    split
    · exact hw _
    · split
      · exact hn _
      · split
        · exact hq _
        · exact Int.le_refl _
def TkZ (st : St) : Prop := (st.tk.kind = 2 → nameB st.tk.str = true) ∧ 0 ≤ st.tk.num
theorem stepSt_z {s : ByteArray} (_ : s.size ≤ 200) (st : St) : TkZ (stepSt s st) := by
  show ((nextTk _ _).kind = 2 → nameB (nextTk _ _).str = true) ∧ 0 ≤ (nextTk _ _).num
  unfold nextTk
  split
  · exact ⟨name_tk, num_tk⟩
  · exact ⟨fun h => by simp [plainTk] at h, by simp [plainTk]⟩

def ZGood (f : St → Res) : Prop := ∀ st t st', TkZ st → f st = .ok t st' → BzA t ∧ TkZ st'
def ZGoodT (g : Ast → St → Res) : Prop := ∀ l st t st', BzA l → TkZ st → g l st = .ok t st' → BzA t ∧ TkZ st'

theorem ZGood.join {s : ByteArray} (H : s.size ≤ 200) {f : St → Res} (h : ZGood f) : ∀ st l t st', BzA l → joinRes s f st l = .ok t st' → BzA t ∧ TkZ st' := by
  intro st l t st' hl he
  unfold joinRes at he
  split at he
  · rename_i r st2 hr; injection he with h1 h2; subst h1; subst h2
    have := h _ _ _ (stepSt_z H st) hr
    exact ⟨⟨bz0 (opOf_ne _), hl, this.1⟩, this.2⟩
  · cases he

theorem ZGood.loop {s : ByteArray} (H : s.size ≤ 200) {f : St → Res} {ks : List Int} (h : ZGood f) : ∀ n l st t st', BzA l → TkZ st → rowLoop s f ks n l st = .ok t st' → BzA t ∧ TkZ st' := by
  intro n
  induction n with
  | zero => intro l st t st' hl hs he; rw [rowLoop] at he; injection he with h1 h2; subst h1; subst h2; exact ⟨hl, hs⟩
  | succ n ih =>
    intro l st t st' hl hs he
    rw [rowLoop] at he
    split at he
    · split at he
      · rename_i hj; have := h.join H _ _ _ _ hl hj; exact ih _ _ _ _ this.1 this.2 he
      · cases he
    · injection he with h1 h2; subst h1; subst h2; exact ⟨hl, hs⟩

theorem ZGood.row {s : ByteArray} (H : s.size ≤ 200) {f : St → Res} {ks : List Int} (h : ZGood f) : ZGood (rowRes s f ks) := by
  intro st t st' hs he
  unfold rowRes at he
  split at he
  · rename_i hr; have := h _ _ _ hs hr; exact h.loop H _ _ _ _ _ this.1 this.2 he
  · cases he

theorem ZGood.sign {s : ByteArray} (H : s.size ≤ 200) {f : St → Res} (h : ZGood f) (o : Int) (ho : o ≠ 0) : ZGood (signRes s f o) := by
  intro st t st' _ he
  unfold signRes at he
  split at he
  · cases he
  · split at he
    · rename_i hr; injection he with h1 h2; subst h1; subst h2
      have := h (inSt s st) _ _ (stepSt_z H st) hr
      exact ⟨⟨bz0 ho, this.1⟩, this.2⟩
    · cases he

theorem ZGood.group {s : ByteArray} (H : s.size ≤ 200) {f : St → Res} (h : ZGood f) : ZGood (groupRes s f) := by
  intro st t st' _ he
  unfold groupRes at he
  split at he
  · cases he
  · split at he
    · rename_i hr; split at he
      · injection he with h1 h2; subst h1; subst h2
        exact ⟨(h (inSt s st) _ _ (stepSt_z H st) hr).1, stepSt_z H _⟩
      · cases he
    · cases he

theorem ZGood.signed {s : ByteArray} (H : s.size ≤ 200) {fS fE : St → Res} (hS : ZGood fS) (hE : ZGood fE) : ZGood (signedRes s fS fE) := by
  intro st t st' hs he
  unfold signedRes at he
  split at he
  · exact hS.sign H 14 (by decide) _ _ _ hs he
  split at he
  · exact hS.sign H 15 (by decide) _ _ _ hs he
  split at he
  · exact hE.group H _ _ _ hs he
  split at he
  · injection he with h1 h2; subst h1; subst h2; exact ⟨bz_name (hs.1 (by assumption)), stepSt_z H st⟩
  split at he
  · injection he with h1 h2; subst h1; subst h2; exact ⟨bz_num hs.2, stepSt_z H st⟩
  split at he
  · injection he with h1 h2; subst h1; subst h2; exact ⟨bz_text, stepSt_z H st⟩
  split at he
  · injection he with h1 h2; subst h1; subst h2; exact ⟨bz0 (by decide), stepSt_z H st⟩
  split at he
  · injection he with h1 h2; subst h1; subst h2; exact ⟨bz0 (by decide), stepSt_z H st⟩
  · cases he

theorem bz_isNull {s : ByteArray} (H : s.size ≤ 200) : ZGoodT (isNullRes s) := by
  intro l st t st' hl _ he
  unfold isNullRes at he
  split at he
  · split at he
    · injection he with h1 h2; subst h1; subst h2; exact ⟨⟨(bz0 (by decide)), (bz0 (by decide)), hl⟩, stepSt_z H _⟩
    · cases he
  · split at he
    · injection he with h1 h2; subst h1; subst h2; exact ⟨⟨(bz0 (by decide)), hl⟩, stepSt_z H _⟩
    · cases he

theorem bz_inLoop {s : ByteArray} (H : s.size ≤ 200) {l : Ast} {pl : Nat} (hl : BzA l) : ∀ n ts st t st', inLoop s l pl n ts st = .ok t st' → BzA t ∧ TkZ st' := by
  intro n
  induction n with
  | zero => intro ts st t st' he; rw [inLoop] at he; cases he
  | succ n ih =>
    intro ts st t st' he
    rw [inLoop] at he
    split at he
    · split at he
      · exact ih _ _ _ _ he
      · cases he
    · split at he
      · injection he with h1 h2; subst h1; subst h2; exact ⟨⟨bz_among, hl⟩, stepSt_z H _⟩
      · cases he

theorem bz_in {s : ByteArray} (H : s.size ≤ 200) : ZGoodT (inRes s) := by
  intro l st t st' hl _ he
  unfold inRes at he
  split at he
  · split at he
    · exact bz_inLoop H hl _ _ _ _ _ he
    · cases he
  · cases he

theorem escRes_cut {s : ByteArray} {ft : Tk} {fp : Nat} {st : St} {str : List UInt8} {st' : St} (h : escRes s ft fp st = .ok str st') : str.length = 1 ∧ (cutL str ft.str).isSome = true := by
  unfold escRes at h
  split at h
  · split at h
    · rename_i h1
      split at h
      · rename_i h2
        injection h with e1 _; subst e1; exact ⟨h1, h2⟩
      · cases h
    · cases h
  · cases h

theorem bz_like {s : ByteArray} (H : s.size ≤ 200) : ZGoodT (likeRes s) := by
  intro l st t st' hl _ he
  unfold likeRes at he
  split at he
  · split at he
    · split at he
      · rename_i hk; injection he with h1 h2; subst h1; subst h2; rw [(escRes_ok hk).2]; exact ⟨⟨bz_lk (.inr (escRes_cut hk)), hl⟩, stepSt_z H _⟩
      · cases he
    · injection he with h1 h2; subst h1; subst h2; exact ⟨⟨bz_lk (.inl rfl), hl⟩, stepSt_z H _⟩
  · cases he

theorem ZGood.between {s : ByteArray} (H : s.size ≤ 200) {f : St → Res} (h : ZGood f) : ZGoodT (betweenRes s f) := by
  intro l st t st' hl _ he
  unfold betweenRes at he
  split at he
  · split at he
    · rename_i h1; split at he
      · split at he
        · rename_i h2; injection he with h3 h4; subst h3; subst h4
          have a := h _ _ _ (stepSt_z H _) h1
          have b := h _ _ _ (stepSt_z H _) h2
          exact ⟨⟨(bz0 (by decide)), hl, a.1, b.1⟩, b.2⟩
        · cases he
      · cases he
    · cases he
  · cases he

theorem ZGood.keyword {s : ByteArray} (H : s.size ≤ 200) {f : St → Res} (h : ZGood f) (bare : Bool) : ZGoodT (keywordRes s f (inRes s) (likeRes s) bare) := by
  intro l st t st' hl hs he
  unfold keywordRes at he
  split at he
  · exact bz_in H _ _ _ _ hl hs he
  split at he
  · exact bz_like H _ _ _ _ hl hs he
  · exact h.between H _ _ _ _ hl hs he

theorem ZGood.test {s : ByteArray} (H : s.size ≤ 200) {f : St → Res} (h : ZGood f) : ZGood (testRes s f (inRes s) (likeRes s)) := by
  intro st t st' hs he
  unfold testRes at he
  split at he
  · rename_i hr
    obtain ⟨hl, hs1⟩ := h _ _ _ hs hr
    unfold tailRes at he
    split at he
    · exact h.join H _ _ _ _ hl he
    split at he
    · split at he
      · exact bz_isNull H _ _ _ _ hl hs1 he
      · injection he with h1 h2; subst h1; subst h2; exact ⟨hl, hs1⟩
    split at he
    · split at he
      · rename_i hk; injection he with h1 h2; subst h1; subst h2
        have := h.keyword H _ _ _ _ _ hl (stepSt_z H _) hk
        exact ⟨⟨(bz0 (by decide)), this.1⟩, this.2⟩
      · cases he
    split at he
    · exact h.keyword H _ _ _ _ _ hl hs1 he
    · injection he with h1 h2; subst h1; subst h2; exact ⟨hl, hs1⟩
  · cases he

theorem ZGood.denied {s : ByteArray} (H : s.size ≤ 200) {fD fT : St → Res} (hD : ZGood fD) (hT : ZGood fT) : ZGood (deniedRes s fD fT) := by
  intro st t st' hs he
  unfold deniedRes at he
  split at he
  · exact hD.sign H 5 (by decide) _ _ _ hs he
  · exact hT _ _ _ hs he

structure ZGood3 (L : L3) : Prop where
  S : ZGood L.S
  D : ZGood L.D
  E : ZGood L.E

theorem up3_bz {s : ByteArray} (H : s.size ≤ 200) {L : L3} (h : ZGood3 L) : ZGood3 (up3 s L) := by
  have hS := ZGood.signed (s := s) H h.S h.E
  have hD := ZGood.denied (s := s) H h.D (ZGood.test (s := s) H ((hS.row (s := s) H (ks := [24, 25])).row (s := s) H (ks := [22, 23])))
  exact ⟨hS, hD, (hD.row (s := s) H (ks := [5])).row (s := s) H (ks := [6])⟩

theorem lvl_bz (s : ByteArray) (H : s.size ≤ 200) : ∀ d, ZGood3 (lvl s d) := by
  intro d
  induction d with
  | zero => exact up3_bz H ⟨(fun _ _ _ _ h => by cases h), (fun _ _ _ _ h => by cases h), (fun _ _ _ _ h => by cases h)⟩
  | succ d ih => exact up3_bz H ih

theorem bz_of_read {s : ByteArray} {t : Ast} (h : readR s = .ok t) : BzA t := by
  unfold readR at h
  by_cases hs : s.size ≤ 200
  · rw [if_pos hs] at h
    cases he : (lvl s 12).E (stepSt s st0) with
    | err en pl => rw [he] at h; cases h
    | ok t' st =>
      rw [he] at h
      have hq := ((lvl_bz s hs 12).E _ _ _ (stepSt_z hs st0) he).1
      simp only [endR] at h
      split at h
      · split at h
        · injection h with e; subst e; exact hq
        · cases h
      · cases h
  · rw [if_neg hs] at h; cases h
end

section
theorem group_up (L : T3) (a r : List Tk) (o : Nat) (ho : o ≠ 12) (t : Ast) (h : L.E ⟨a, o + 1⟩ = .ok t ⟨plainTk 27 :: r, o + 1⟩) : (tUp L).S ⟨plainTk 26 :: a, o⟩ = .ok t ⟨r, o⟩ := by
  show tSigned L.S L.E ⟨plainTk 26 :: a, o⟩ = _
  have e : tSigned L.S L.E ⟨plainTk 26 :: a, o⟩ = tGroup L.E ⟨plainTk 26 :: a, o⟩ := rfl
  rw [e]
  unfold tGroup
  rw [if_neg ho]
  show (match L.E ⟨a, o + 1⟩ with
    | .ok t ts' => if ts'.tk.kind = 27 then TRes.ok t ⟨ts'.toks.tail, o⟩ else .err 2
    | .err en => .err en) = _
  rw [h]
  rfl
theorem group_no (L : T3) (a : List Tk) (o : Nat) (ho : o ≠ 12) (en : Int) (h : L.E ⟨a, o + 1⟩ = .err en) : (tUp L).S ⟨plainTk 26 :: a, o⟩ = .err en := by
  show tSigned L.S L.E ⟨plainTk 26 :: a, o⟩ = _
  have e : tSigned L.S L.E ⟨plainTk 26 :: a, o⟩ = tGroup L.E ⟨plainTk 26 :: a, o⟩ := rfl
  rw [e]
  unfold tGroup
  rw [if_neg ho]
  show (match L.E ⟨a, o + 1⟩ with
    | .ok t ts' => if ts'.tk.kind = 27 then TRes.ok t ⟨ts'.toks.tail, o⟩ else .err 2
    | .err en => .err en) = _
  rw [h]

theorem row_one {f : TS → TRes} {ks : List Int} {ts : TS} {t : Ast} {r : List Tk} {o : Nat} (h : f ts = .ok t ⟨r, o⟩) (hk : ks.contains (hd r).kind = false) : tRow f ks ts = .ok t ⟨r, o⟩ := by
  unfold tRow
  rw [h]
  show tLoop f ks (r.length + 1) t ⟨r, o⟩ = _
  rw [tLoop]
  show (if ks.contains (hd r).kind = true then _ else _) = _
  rw [if_neg (by rw [hk]; decide)]
theorem row_no {f : TS → TRes} {ks : List Int} {ts : TS} {en : Int} (h : f ts = .err en) : tRow f ks ts = .err en := by
  unfold tRow
  rw [h]
theorem row_two {f : TS → TRes} {ks : List Int} {ts : TS} {l r : Ast} {k : Tk} {Y Z : List Tk} {o : Nat} (h : f ts = .ok l ⟨k :: Y, o⟩) (hk : ks.contains k.kind = true) (h2 : f ⟨Y, o⟩ = .ok r ⟨Z, o⟩) (hz : ks.contains (hd Z).kind = false) :
    tRow f ks ts = .ok (.bin ⟨opOf k.kind, 0, 0, [], [], []⟩ l r) ⟨Z, o⟩ := by
  unfold tRow
  rw [h]
  show tLoop f ks (Y.length + 1 + 1) l ⟨k :: Y, o⟩ = _
  rw [tLoop]
  show (if ks.contains k.kind = true then _ else _) = _
  rw [if_pos hk]
  have hj : tJoin f ⟨k :: Y, o⟩ l = .ok (.bin ⟨opOf k.kind, 0, 0, [], [], []⟩ l r) ⟨Z, o⟩ := by
    unfold tJoin
    show (match f ⟨Y, o⟩ with
      | .ok r ts' => TRes.ok (.bin ⟨opOf k.kind, 0, 0, [], [], []⟩ l r) ts'
      | .err en => .err en) = _
    rw [h2]
  rw [hj]
  show tLoop f ks (Y.length + 1) _ ⟨Z, o⟩ = _
  rw [tLoop]
  show (if ks.contains (hd Z).kind = true then _ else _) = _
  rw [if_neg (by rw [hz]; decide)]
theorem row_two_no {f : TS → TRes} {ks : List Int} {ts : TS} {l : Ast} {k : Tk} {Y : List Tk} {o : Nat} {en : Int} (h : f ts = .ok l ⟨k :: Y, o⟩) (hk : ks.contains k.kind = true) (h2 : f ⟨Y, o⟩ = .err en) :
    tRow f ks ts = .err en := by
  unfold tRow
  rw [h]
  show tLoop f ks (Y.length + 1 + 1) l ⟨k :: Y, o⟩ = _
  rw [tLoop]
  show (if ks.contains k.kind = true then _ else _) = _
  rw [if_pos hk]
  have hj : tJoin f ⟨k :: Y, o⟩ l = .err en := by
    unfold tJoin
    show (match f ⟨Y, o⟩ with
      | .ok r ts' => TRes.ok (.bin ⟨opOf k.kind, 0, 0, [], [], []⟩ l r) ts'
      | .err en => .err en) = _
    rw [h2]
  rw [hj]

/-- Behind what is no operator of a test. -/
def Plain (k : Int) : Prop := k = 0 ∨ k = 5 ∨ k = 6 ∨ k = 27

theorem tail_plain (f : TS → TRes) (bare : Bool) (l : Ast) (ts : TS) (h : Plain ts.tk.kind) : tTail f bare l ts = .ok l ts := by
  unfold tTail
  rcases h with e | e | e | e <;> rw [e] <;> rfl

theorem denied_up (L : T3) (ts : TS) (h7 : ts.tk.kind ≠ 7) (t : Ast) (r : List Tk) (o : Nat) (h : (tUp L).S ts = .ok t ⟨r, o⟩) (hr : Plain (hd r).kind) : (tUp L).D ts = .ok t ⟨r, o⟩ := by
  show tDenied L.D _ ts = _
  unfold tDenied
  rw [if_neg h7]
  have h1 : tRow (tSigned L.S L.E) [24, 25] ts = .ok t ⟨r, o⟩ := row_one h (by rcases hr with e | e | e | e <;> rw [e] <;> rfl)
  have h2 : tRow (tRow (tSigned L.S L.E) [24, 25]) [22, 23] ts = .ok t ⟨r, o⟩ := row_one h1 (by rcases hr with e | e | e | e <;> rw [e] <;> rfl)
  unfold tTest
  rw [h2]
  exact tail_plain _ _ _ _ hr
theorem denied_no (L : T3) (ts : TS) (h7 : ts.tk.kind ≠ 7) (en : Int) (h : (tUp L).S ts = .err en) : (tUp L).D ts = .err en := by
  show tDenied L.D _ ts = _
  unfold tDenied
  rw [if_neg h7]
  have h2 : tRow (tRow (tSigned L.S L.E) [24, 25]) [22, 23] ts = .err en := row_no (row_no h)
  unfold tTest
  rw [h2]

theorem deep_of_tokens (s : ByteArray) (hs : s.size ≤ 200) (L : List Tk) (hL : Lx s.data.toList L) (en : Int) (h : (tLvl 12).E ⟨L, 0⟩ = .err en) : ∃ pl, readR s = .err en pl := by
  have hst : Str s (stepSt s st0) L := str_of_lx hL st0 (Nat.zero_le _) (List.drop_zero)
  have hfi := stepSt_fine s st0 (Nat.zero_le _)
  have hsim := (sim_lvl s 12).E (stepSt s st0) ⟨L, 0⟩ hfi hst rfl
  rcases hsim.cases with ⟨t, st, ts, e1, e2, e3, e4, e5⟩ | ⟨en', pl, e1, e2⟩
  · rw [h] at e2; cases e2
  · rw [h] at e2
    injection e2 with e2
    subst e2
    exact ⟨pl, by rw [readR, if_pos hs, e1]⟩

theorem chk_ok {t : Ast} (h : chkR (clsA t) = none) : ∃ c, clsA t = .ok c ∧ (c = 3 ∨ c = 0) := by
  cases hc : clsA t with
  | err q => rw [hc] at h; cases h
  | ok c =>
    rw [hc] at h
    refine ⟨c, rfl, ?_⟩
    by_cases h3 : c = 3
    · exact .inl h3
    · by_cases h0 : c = 0
      · exact .inr h0
      · exfalso
        have : (c != 3 && c != 0) = true := by simp [bne_iff_ne, h3, h0]
        change (if (c != 3 && c != 0) = true then some 0 else none) = none at h
        rw [if_pos this] at h
        cases h
/-- What a text made of selectors reads as: too long, too deep, or that term. -/
def Big (s : ByteArray) (t' : Ast) : Prop := (200 < s.size ∧ readR s = .err 1 0) ∨ (∃ pl, readR s = .err 3 pl) ∨ ∃ t, readR s = .ok t ∧ erase t = t' ∧ NumA t ∧ BndA t

theorem big_of (s : ByteArray) (L : List Tk) (hL : Lx s.data.toList L) (t' : Ast) (h : (tLvl 12).E ⟨L, 0⟩ = .err 3 ∨ (tLvl 12).E ⟨L, 0⟩ = .ok t' ⟨[], 0⟩) (hc : chkR (clsA t') = none) : Big s t' := by
  by_cases hs : s.size ≤ 200
  · right
    rcases h with h | h
    · exact .inl (deep_of_tokens s hs L hL 3 h)
    · exact .inr (read_of_tokens s hs L hL t' h hc)
  · left
    exact ⟨by omega, by rw [readR, if_neg hs]⟩

theorem lx_close {r : List UInt8} {L : List Tk} (h : Lx r L) : Lx (41 :: r) (plainTk 27 :: L) := by
  have hm : nextTk (41 :: r) 0 = plainTk 27 ∧ nextTo (41 :: r) 0 = 1 := by cases r <;> exact ⟨rfl, rfl⟩
  exact .cons hm.1 (show (27 : Int) ≠ 0 by decide) (by rw [hm.2]; exact h)
theorem lx_open {r : List UInt8} {L : List Tk} (h : Lx r L) : Lx (40 :: r) (plainTk 26 :: L) := by
  have hm : nextTk (40 :: r) 0 = plainTk 26 ∧ nextTo (40 :: r) 0 = 1 := by cases r <;> exact ⟨rfl, rfl⟩
  exact .cons hm.1 (show (26 : Int) ≠ 0 by decide) (by rw [hm.2]; exact h)

theorem lx_and {r : List UInt8} {L : List Tk} (h : Lx r L) : Lx (65 :: 78 :: 68 :: 32 :: r) (plainTk 5 :: L) := .cons (k := plainTk 5) rfl (show (5 : Int) ≠ 0 by decide) (lx_space h)
theorem lx_or {r : List UInt8} {L : List Tk} (h : Lx r L) : Lx (79 :: 82 :: 32 :: r) (plainTk 6 :: L) := .cons (k := plainTk 6) rfl (show (6 : Int) ≠ 0 by decide) (lx_space h)
end

section
theorem lx_quoted {r : List UInt8} {L : List Tk} (h : Lx r L) (hr : ∀ c, r.head? = some c → (c == 39) = false) (s : List UInt8) : Lx (39 :: (dblL s ++ 39 :: r)) (⟨4, 0, s⟩ :: L) := by
  have hq := quotF_dbl r hr s
  have h1 : quotTk (39 :: (dblL s ++ 39 :: r)) = ⟨4, 0, s⟩ := by
    unfold quotTk
    rw [List.drop_succ_cons, List.drop_zero, hq]
  have h2 : quotS (39 :: (dblL s ++ 39 :: r)) = (dblL s).length + 2 := by
    unfold quotS
    rw [List.drop_succ_cons, List.drop_zero, hq]
  have hm : nextTk (39 :: (dblL s ++ 39 :: r)) 0 = ⟨4, 0, s⟩ ∧ nextTo (39 :: (dblL s ++ 39 :: r)) 0 = (dblL s).length + 2 := by
    constructor
    · show quotTk (39 :: (dblL s ++ 39 :: r)) = _
      exact h1
    · show 0 + quotS (39 :: (dblL s ++ 39 :: r)) = _
      rw [h2]; omega
  refine .cons hm.1 (show (4 : Int) ≠ 0 by decide) ?_
  rw [hm.2, List.drop_succ_cons]
  have : (dblL s ++ 39 :: r).drop ((dblL s).length + 1) = r := by simp [List.drop_append]
  rw [this]
  exact h
end

section
/-- An append, kept whole for the walk. -/
def appSem (ats : Array TypeId) (ty : TypeId) (args : Array Value) : Sem Value := Builtin.append_ ats ty args
theorem app_fold (ats : Array TypeId) (ty : TypeId) (args : Array Value) : Builtin.append_ ats ty args = appSem ats ty args := rfl
end

section
variable {P : Program}

theorem ownsRow_cur {w : World} {base : Nat} {e : TypeId} {size g n cap : Nat} {xs : List Value} (h : w.ownsRow base e size (.slice (some ⟨g, 0, none⟩) n cap) n xs) : base ≤ g ∧ n ≤ cap ∧ cap ≤ maxLen ∧ ∃ cur, w.heap[g]? = some (.cells cur e (0, 0)) ∧ cur.size = cap * size ∧ cur.toList.take (n * size) = xs := by
  rcases h.2 with ⟨hv, _⟩ | ⟨g', cap', cur0, hv, hb, hh, hnc, hcm, hcs, hx⟩
  · simp at hv
  · simp at hv
    obtain ⟨rfl, rfl⟩ := hv
    exact ⟨hb, hnc, hcm, cur0, hh, hcs, hx⟩
end

section
attribute [local go_sem ↓] app_fold

theorem row_forms {w : World} {base size n : Nat} {e : TypeId} {v : Value} {xs : List Value} (h : w.ownsRow base e size v n xs) : (v = .slice none 0 0 ∧ n = 0) ∨ ∃ g cap, v = .slice (some ⟨g, 0, none⟩) n cap := by
  rcases h.2 with ⟨h1, h2⟩ | ⟨g, cap, cur, rfl, _⟩
  · exact .inl ⟨h1, h2⟩
  · exact .inr ⟨g, cap, rfl⟩
end

section
attribute [local go_sem ↓] app_fold

def copySem (ats : Array TypeId) (ty : TypeId) (args : Array Value) : Sem Value := Builtin.copy_ ats ty args
theorem copy_fold (ats : Array TypeId) (ty : TypeId) (args : Array Value) : Builtin.copy_ ats ty args = copySem ats ty args := rfl
attribute [local go_sem ↓] copy_fold

theorem addr_off (g o j : Nat) : (⟨g, o, none⟩ : Addr).add j = ⟨g, o + j, none⟩ := by unfold Addr.add; split <;> simp_all
end

section
def En (r : TRes) : Prop := ∀ en, r = .err en → en = 2 ∨ en = 3
def Nz (o : Nat) (f : TS → TRes) : Prop := ∀ ts, ts.op = o → En (f ts) ∧ ∀ t ts', f ts = .ok t ts' → ts'.op = o

theorem En.ok {t : Ast} {ts : TS} : En (.ok t ts) := fun _ h => by cases h
theorem En.two : En (.err 2) := fun _ h => by injection h with h; exact .inl h.symm
theorem En.three : En (.err 3) := fun _ h => by injection h with h; exact .inr h.symm

theorem Nz.join {o : Nat} {f : TS → TRes} (h : Nz o f) (ts : TS) (l : Ast) (ho : ts.op = o) : En (tJoin f ts l) ∧ ∀ t ts', tJoin f ts l = .ok t ts' → ts'.op = o := by
  obtain ⟨h1, h2⟩ := h ts.next ho
  unfold tJoin
  cases hf : f ts.next with
  | err en => rw [hf] at h1; exact ⟨h1, fun _ _ h => by cases h⟩
  | ok t ts' => exact ⟨En.ok, fun _ _ h => by injection h with _ e; rw [← e]; exact h2 _ _ hf⟩
theorem Nz.loop {o : Nat} {f : TS → TRes} (h : Nz o f) (ks : List Int) : ∀ n l ts, ts.op = o → En (tLoop f ks n l ts) ∧ ∀ t ts', tLoop f ks n l ts = .ok t ts' → ts'.op = o := by
  intro n
  induction n with
  | zero => intro l ts ho; rw [tLoop]; exact ⟨En.ok, fun _ _ h => by injection h with _ e; rw [← e]; exact ho⟩
  | succ n ih =>
    intro l ts ho
    rw [tLoop]
    split
    · obtain ⟨h1, h2⟩ := h.join ts l ho
      cases hf : tJoin f ts l with
      | err en => rw [hf] at h1; exact ⟨h1, fun _ _ h => by cases h⟩
      | ok t ts' => exact ih t ts' (h2 _ _ hf)
    · exact ⟨En.ok, fun _ _ h => by injection h with _ e; rw [← e]; exact ho⟩
theorem Nz.row {o : Nat} {f : TS → TRes} (h : Nz o f) (ks : List Int) : Nz o (tRow f ks) := by
  intro ts ho
  obtain ⟨h1, h2⟩ := h ts ho
  unfold tRow
  cases hf : f ts with
  | err en => rw [hf] at h1; exact ⟨h1, fun _ _ h => by cases h⟩
  | ok t ts' => exact h.loop ks _ t ts' (h2 _ _ hf)
theorem Nz.sign {o : Nat} (hk : o ≤ 12) {f : TS → TRes} (h : o < 12 → Nz (o + 1) f) (n : Int) (ts : TS) (ho : ts.op = o) : En (tSign f n ts) ∧ ∀ t ts', tSign f n ts = .ok t ts' → ts'.op = o := by
  unfold tSign
  by_cases h12 : ts.op = 12
  · rw [if_pos h12]; exact ⟨En.three, fun _ _ h => by cases h⟩
  · rw [if_neg h12]
    obtain ⟨h1, h2⟩ := h (by omega) (tIn ts) (by show ts.op + 1 = _; omega)
    cases hf : f (tIn ts) with
    | err en => rw [hf] at h1; exact ⟨h1, fun _ _ h => by cases h⟩
    | ok t ts' => exact ⟨En.ok, fun _ _ h => by injection h with _ e; rw [← e]; exact ho⟩
theorem Nz.group {o : Nat} (hk : o ≤ 12) {f : TS → TRes} (h : o < 12 → Nz (o + 1) f) (ts : TS) (ho : ts.op = o) : En (tGroup f ts) ∧ ∀ t ts', tGroup f ts = .ok t ts' → ts'.op = o := by
  unfold tGroup
  by_cases h12 : ts.op = 12
  · rw [if_pos h12]; exact ⟨En.three, fun _ _ h => by cases h⟩
  · rw [if_neg h12]
    obtain ⟨h1, h2⟩ := h (by omega) (tIn ts) (by show ts.op + 1 = _; omega)
    cases hf : f (tIn ts) with
    | err en => rw [hf] at h1; exact ⟨h1, fun _ _ h => by cases h⟩
    | ok t ts' =>
      show En (if ts'.tk.kind = 27 then _ else _) ∧ ∀ t2 ts2, (if ts'.tk.kind = 27 then _ else _) = TRes.ok t2 ts2 → _
      split
      · exact ⟨En.ok, fun _ _ h => by injection h with _ e; rw [← e]; exact ho⟩
      · exact ⟨En.two, fun _ _ h => by cases h⟩
theorem Nz.signed {o : Nat} (hk : o ≤ 12) {f g : TS → TRes} (hS : o < 12 → Nz (o + 1) f) (hE : o < 12 → Nz (o + 1) g) : Nz o (tSigned f g) := by
  intro ts ho
  unfold tSigned
  split
  · exact Nz.sign hk hS 14 ts ho
  split
  · exact Nz.sign hk hS 15 ts ho
  split
  · exact Nz.group hk hE ts ho
  split
  · exact ⟨En.ok, fun _ _ h => by injection h with _ e; rw [← e]; exact ho⟩
  split
  · exact ⟨En.ok, fun _ _ h => by injection h with _ e; rw [← e]; exact ho⟩
  split
  · exact ⟨En.ok, fun _ _ h => by injection h with _ e; rw [← e]; exact ho⟩
  split
  · exact ⟨En.ok, fun _ _ h => by injection h with _ e; rw [← e]; exact ho⟩
  split
  · exact ⟨En.ok, fun _ _ h => by injection h with _ e; rw [← e]; exact ho⟩
  · exact ⟨En.two, fun _ _ h => by cases h⟩
theorem nz_isNull {o : Nat} (l : Ast) (ts : TS) (ho : ts.op = o) : En (tIsNull l ts) ∧ ∀ t ts', tIsNull l ts = .ok t ts' → ts'.op = o := by
  unfold tIsNull
  split
  · split
    · exact ⟨En.ok, fun _ _ h => by injection h with _ e; rw [← e]; exact ho⟩
    · exact ⟨En.two, fun _ _ h => by cases h⟩
  · split
    · exact ⟨En.ok, fun _ _ h => by injection h with _ e; rw [← e]; exact ho⟩
    · exact ⟨En.two, fun _ _ h => by cases h⟩
theorem nz_inLoop {o : Nat} (l : Ast) : ∀ n xs ts, ts.op = o → ts.toks.length < n → En (tInLoop l n xs ts) ∧ ∀ t ts', tInLoop l n xs ts = .ok t ts' → ts'.op = o := by
  intro n
  induction n with
  | zero => intro xs ts _ h; omega
  | succ n ih =>
    intro xs ts ho hl
    rw [tInLoop]
    by_cases h28 : ts.tk.kind = 28
    · rw [if_pos h28]
      have hne := ne_of_kind (by decide) h28
      have hlt : ts.next.toks.length < ts.toks.length := by
        cases ht : ts.toks with
        | nil => exact absurd ht hne
        | cons a r => show (ts.toks.tail).length < _; rw [ht]; simp
      split
      · have := next_le ts.next
        exact ih _ ts.next.next ho (by omega)
      · exact ⟨En.two, fun _ _ h => by cases h⟩
    · rw [if_neg h28]
      split
      · exact ⟨En.ok, fun _ _ h => by injection h with _ e; rw [← e]; exact ho⟩
      · exact ⟨En.two, fun _ _ h => by cases h⟩
theorem nz_in {o : Nat} (l : Ast) (ts : TS) (ho : ts.op = o) : En (tInRes l ts) ∧ ∀ t ts', tInRes l ts = .ok t ts' → ts'.op = o := by
  unfold tInRes
  split
  · split
    · have l1 := next_le ts
      have l2 := next_le ts.next
      have l3 := next_le ts.next.next
      exact nz_inLoop l _ _ ts.next.next.next ho (by omega)
    · exact ⟨En.two, fun _ _ h => by cases h⟩
  · exact ⟨En.two, fun _ _ h => by cases h⟩
theorem nz_like {o : Nat} (l : Ast) (ts : TS) (ho : ts.op = o) : En (tLike l ts) ∧ ∀ t ts', tLike l ts = .ok t ts' → ts'.op = o := by
  unfold tLike
  split
  · split
    · split
      · exact ⟨En.ok, fun _ _ h => by injection h with _ e; rw [← e]; exact ho⟩
      · exact ⟨En.two, fun _ _ h => by cases h⟩
    · exact ⟨En.ok, fun _ _ h => by injection h with _ e; rw [← e]; exact ho⟩
  · exact ⟨En.two, fun _ _ h => by cases h⟩
theorem Nz.between {o : Nat} {f : TS → TRes} (h : Nz o f) (l : Ast) (ts : TS) (ho : ts.op = o) : En (tBetween f l ts) ∧ ∀ t ts', tBetween f l ts = .ok t ts' → ts'.op = o := by
  unfold tBetween
  split
  · obtain ⟨h1, h2⟩ := h ts.next ho
    cases hf : f ts.next with
    | err en => rw [hf] at h1; exact ⟨h1, fun _ _ h => by cases h⟩
    | ok t ts1 =>
      show En (if ts1.tk.kind = 5 then _ else _) ∧ ∀ t2 ts2, (if ts1.tk.kind = 5 then _ else _) = TRes.ok t2 ts2 → _
      split
      · have ho1 : ts1.op = o := h2 _ _ hf
        obtain ⟨h3, h4⟩ := h ts1.next ho1
        cases hg : f ts1.next with
        | err en => rw [hg] at h3; exact ⟨h3, fun _ _ h => by cases h⟩
        | ok t2 ts2 => exact ⟨En.ok, fun _ _ h => by injection h with _ e; rw [← e]; exact h4 _ _ hg⟩
      · exact ⟨En.two, fun _ _ h => by cases h⟩
  · exact ⟨En.two, fun _ _ h => by cases h⟩
theorem Nz.keyword {o : Nat} {f : TS → TRes} (h : Nz o f) (bare : Bool) (l : Ast) (ts : TS) (ho : ts.op = o) : En (tKeyword f bare l ts) ∧ ∀ t ts', tKeyword f bare l ts = .ok t ts' → ts'.op = o := by
  unfold tKeyword
  split
  · exact nz_in l ts ho
  split
  · exact nz_like l ts ho
  · exact h.between l ts ho
theorem Nz.test {o : Nat} {f : TS → TRes} (h : Nz o f) : Nz o (tTest f) := by
  intro ts ho
  obtain ⟨h1, h2⟩ := h ts ho
  unfold tTest
  cases hf : f ts with
  | err en => rw [hf] at h1; exact ⟨h1, fun _ _ h => by cases h⟩
  | ok l ts1 =>
    have ho1 := h2 _ _ hf
    show En (tTail f _ l ts1) ∧ ∀ t2 ts2, tTail f _ l ts1 = TRes.ok t2 ts2 → _
    unfold tTail
    split
    · exact h.join ts1 l ho1
    split
    · split
      · exact nz_isNull l ts1 ho1
      · exact ⟨En.ok, fun _ _ h => by injection h with _ e; rw [← e]; exact ho1⟩
    split
    · obtain ⟨h3, h4⟩ := h.keyword (ts.tk.kind == 2 && opA l == 0) l ts1.next ho1
      cases hg : tKeyword f (ts.tk.kind == 2 && opA l == 0) l ts1.next with
      | err en => rw [hg] at h3; exact ⟨h3, fun _ _ h => by cases h⟩
      | ok t2 ts2 => exact ⟨En.ok, fun _ _ h => by injection h with _ e; rw [← e]; exact h4 _ _ hg⟩
    split
    · exact h.keyword _ l ts1 ho1
    · exact ⟨En.ok, fun _ _ h => by injection h with _ e; rw [← e]; exact ho1⟩
theorem Nz.denied {o : Nat} (hk : o ≤ 12) {f g : TS → TRes} (hD : o < 12 → Nz (o + 1) f) (hT : Nz o g) : Nz o (tDenied f g) := by
  intro ts ho
  unfold tDenied
  split
  · exact Nz.sign hk hD 5 ts ho
  · exact hT ts ho
structure Nz3 (o : Nat) (L : T3) : Prop where
  S : Nz o L.S
  D : Nz o L.D
  E : Nz o L.E
theorem nz_up {o : Nat} (hk : o ≤ 12) {L : T3} (h : o < 12 → Nz3 (o + 1) L) : Nz3 o (tUp L) := by
  have hS := Nz.signed hk (fun e => (h e).S) (fun e => (h e).E)
  have hT := ((hS.row [24, 25]).row [22, 23]).test
  have hD := Nz.denied hk (fun e => (h e).D) hT
  exact ⟨hS, hD, (hD.row [5]).row [6]⟩
theorem nz_lvl : ∀ d o, o + d = 12 → Nz3 o (tLvl d) := by
  intro d
  induction d with
  | zero => intro o h; exact nz_up (by omega) (fun e => absurd e (by omega))
  | succ d ih => intro o h; exact nz_up (by omega) (fun e => ih (o + 1) (by omega))

theorem read_err_pos {s : ByteArray} {en pl : Int} (h : readR s = .err en pl) : en = 1 ∨ en = 2 ∨ en = 3 ∨ en = 4 := by
  unfold readR at h
  by_cases hs : s.size ≤ 200
  · rw [if_pos hs] at h
    obtain ⟨L, hL⟩ := lx_total _ s.data.toList (Nat.le_refl _)
    have hst : Str s (stepSt s st0) L := str_of_lx hL st0 (Nat.zero_le _) (List.drop_zero)
    have hfi := stepSt_fine s st0 (Nat.zero_le _)
    have hsim := (sim_lvl s 12).E (stepSt s st0) ⟨L, 0⟩ hfi hst rfl
    rcases hsim.cases with ⟨t1, st, ts, e1, e2, e3, e4, e5⟩ | ⟨en', pl', e1, e2⟩
    · rw [e1] at h
      change endR t1 st = _ at h
      unfold endR at h
      by_cases hk : st.tk.kind = 0
      · rw [if_pos hk] at h
        cases hc : chkR (clsA t1) with
        | some q => rw [hc] at h; injection h with h1 _; exact .inr (.inr (.inr h1.symm))
        | none => rw [hc] at h; cases h
      · rw [if_neg hk] at h; injection h with h1 _; exact .inr (.inl h1.symm)
    · rw [e1] at h
      injection h with h1 _
      subst h1
      rcases ((nz_lvl 12 0 rfl).E ⟨L, 0⟩ rfl).1 _ e2 with e | e
      · exact .inr (.inl e)
      · exact .inr (.inr (.inl e))
  · rw [if_neg hs] at h
    injection h with h1 _
    exact .inl h1.symm
end

section
def bigB (e : Int) : Bool := e == 1 || e == 3

set_option maxHeartbeats 400000 in
theorem tooBig_any (e : Int) (w : World) :
    Calls Tryz.prog 24 #[.int .i64 e] w fun r w' => r = .returned (.bool (bigB e)) ∧ w' = w := by
  unfold bigB
  cases h1 : (e == 1) <;> cases h3 : (e == 3)
  all_goals
    go_enter Tryz.func24, Tryz.ntmps24
    go_wp2_with fail
    go_ret
    exact ⟨rfl, rfl⟩
end

section
theorem blk3 {W w1 : World} (hb : Below W.heap.size W w1) {b : Nat} (h : b < W.heap.size) {p q r : Value} (h0 : W.cell? ⟨b, 0, none⟩ = some p) (h1 : W.cell? ⟨b, 1, none⟩ = some q) (h2 : W.cell? ⟨b, 2, none⟩ = some r) :
    w1.cell? ⟨b, 0, none⟩ = some p ∧ w1.cell? ⟨b, 1, none⟩ = some q ∧ w1.cell? ⟨b, 2, none⟩ = some r ∧ b < w1.heap.size :=
  ⟨((bcell hb).1 b 0 h).trans h0, ((bcell hb).1 b 1 h).trans h1, ((bcell hb).1 b 2 h).trans h2, Nat.lt_of_lt_of_le h hb.size⟩
theorem blkA (w : World) (o : Obj) {b : Nat} (h : b < w.heap.size) {p q r : Value} (h0 : w.cell? ⟨b, 0, none⟩ = some p) (h1 : w.cell? ⟨b, 1, none⟩ = some q) (h2 : w.cell? ⟨b, 2, none⟩ = some r) :
    (w.alloc o).cell? ⟨b, 0, none⟩ = some p ∧ (w.alloc o).cell? ⟨b, 1, none⟩ = some q ∧ (w.alloc o).cell? ⟨b, 2, none⟩ = some r ∧ b < (w.alloc o).heap.size :=
  ⟨by rw [World.cell?_alloc_past _ _ _ h]; exact h0, by rw [World.cell?_alloc_past _ _ _ h]; exact h1, by rw [World.cell?_alloc_past _ _ _ h]; exact h2, by simp; omega⟩
theorem blkN (w : World) (v : V) : (w.alloc (.cells #[.int .i64 v.kind, .int .i64 v.num, .string (BS v.str)] 26)).cell? ⟨w.heap.size, 0, none⟩ = some (.int .i64 v.kind) ∧ (w.alloc (.cells #[.int .i64 v.kind, .int .i64 v.num, .string (BS v.str)] 26)).cell? ⟨w.heap.size, 1, none⟩ = some (.int .i64 v.num) ∧ (w.alloc (.cells #[.int .i64 v.kind, .int .i64 v.num, .string (BS v.str)] 26)).cell? ⟨w.heap.size, 2, none⟩ = some (.string (BS v.str)) ∧ w.heap.size < (w.alloc (.cells #[.int .i64 v.kind, .int .i64 v.num, .string (BS v.str)] 26)).heap.size := by
  refine ⟨?_, ?_, ?_, ?_⟩ <;> simp
end

section
open Go.ChangeShapes Go.WideShapes Go.RowKit

theorem powNamed : Tryz.prog.globalNamed "internal/strconv.uint64pow10" = some 1 := by kernel_rfl

set_option maxRecDepth 100000 in
theorem max_ok {W : World} (h : W.ShapedOpen Tryz.prog) : 4 < W.heap.size ∧ ∃ m, W.cell? ⟨4, 0, none⟩ = some (.int .i64 m) := by
  obtain ⟨m, hm⟩ := cell_of_shapedOpen_int (g := 4) (zero := #[.int .i64 0]) (t := 3) h (of_decide_eq_true (by kernel_rfl)) (by kernel_rfl) rfl (by kernel_rfl) (by kernel_rfl) Tryz.underlying3
  exact ⟨block_lt_of_cell hm, m, hm⟩

theorem powType : (Tryz.prog.globals[1]?).map (·.type) = some 343 := by kernel_rfl
theorem cellsPow : Tryz.prog.cellsOf 343 = 20 := by kernel_rfl
theorem cellsU64 : Tryz.prog.cellsOf 317 = 1 := by kernel_rfl
theorem powLaid : (Rows.laid_internal_strconv_uint64pow10 : DataW Unit) = Lib.tabData .u64 Lib.pow10Tab := by kernel_rfl
theorem pow_ok {W : World} {l : List (String × DataW Unit)} (hm : ("internal/strconv.uint64pow10", Rows.laid_internal_strconv_uint64pow10) ∈ l) (h : laidMet Tryz.prog l W) : Lib.TabIs Tryz.prog W "internal/strconv.uint64pow10" .u64 Lib.pow10Tab := by
  obtain ⟨g, t, cs, fuel, p, h1, h2, h3, h4⟩ := Lib.laidMet.reads h hm
  obtain rfl : 1 = g := Option.some.inj (powNamed.symm.trans h1)
  obtain rfl : 343 = t := Option.some.inj (powType.symm.trans h2)
  rw [powLaid] at h4
  unfold Lib.TabIs
  rw [h3, ← Lib.cells_of_tab Tryz.underlying343 Tryz.underlying317 cellsU64 cellsPow h4]
end

end Go.Proofs.YtfkcaldjphakpaaGreatDoor
