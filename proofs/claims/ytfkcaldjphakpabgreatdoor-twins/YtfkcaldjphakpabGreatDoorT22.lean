/- No bad token is read: the tokens of a selector. The shapes of terms that are read, and how many there are. What is true of bytes that are a program: places lie below, numbers and texts are small. -/
import Derived.Test.YtfkcaldjphakpabGreatDoorT18
import Derived.Test.YtfkcaldjphakpabGreatDoorT27
namespace Go.Proofs.YtfkcaldjphakpabGreatDoor
open Go.RowKit
section
def Ate (ts ts' : TS) : Prop := ∃ A, ts.toks = A ++ ts'.toks ∧ ∀ k ∈ A, k.kind ≠ 1
theorem Ate.refl (ts : TS) : Ate ts ts := ⟨[], rfl, fun _ h => by cases h⟩
theorem Ate.trans {a b c : TS} (h : Ate a b) (g : Ate b c) : Ate a c := by
  obtain ⟨A, e1, h1⟩ := h
  obtain ⟨B, e2, h2⟩ := g
  refine ⟨A ++ B, by rw [e1, e2, List.append_assoc], fun k hk => ?_⟩
  rcases List.mem_append.1 hk with h | h
  · exact h1 k h
  · exact h2 k h
theorem Ate.tail {ts : TS} {n : Nat} (h : ts.tk.kind ≠ 1) : Ate ts ⟨ts.toks.tail, n⟩ := by
  cases ht : ts.toks with
  | nil => exact ⟨[], by rw [ht]; rfl, fun _ h => by cases h⟩
  | cons a r =>
    refine ⟨[a], by rw [ht]; rfl, fun k hk => ?_⟩
    simp at hk
    subst hk
    unfold TS.tk at h
    rw [ht] at h
    exact h
theorem Ate.next {ts : TS} (h : ts.tk.kind ≠ 1) : Ate ts ts.next := Ate.tail h
theorem Ate.of {ts : TS} {c : Int} (h : ts.tk.kind = c) (hc : c ≠ 1) : Ate ts ts.next := Ate.next (by rw [h]; exact hc)
theorem Ate.op {a b : TS} (h : Ate a b) (n : Nat) : Ate a ⟨b.toks, n⟩ := h
def Eats (f : TS → TRes) : Prop := ∀ ts t ts', f ts = .ok t ts' → Ate ts ts'
theorem Eats.join {f : TS → TRes} (h : Eats f) (ts : TS) (l t : Ast) (ts' : TS) (hk : ts.tk.kind ≠ 1) (he : qw6 f ts l = .ok t ts') : Ate ts ts' := by
  unfold qw6 at he
  split at he
  · rename_i hr; injection he with _ h2; subst h2; exact (Ate.next hk).trans (h _ _ _ hr)
  · cases he
theorem Eats.loop {f : TS → TRes} (h : Eats f) (ks : List Int) (h1 : ks.contains 1 = false) : ∀ n l ts t ts', qs2 f ks n l ts = .ok t ts' → Ate ts ts' := by
  intro n
  induction n with
  | zero => intro l ts t ts' he; rw [qs2] at he; injection he with _ h2; subst h2; exact Ate.refl _
  | succ n ih =>
    intro l ts t ts' he
    rw [qs2] at he
    by_cases hc : ks.contains ts.tk.kind = true
    · rw [if_pos hc] at he
      have hk : ts.tk.kind ≠ 1 := fun e => by rw [e, h1] at hc; cases hc
      split at he
      · rename_i hj; exact (h.join _ _ _ _ hk hj).trans (ih _ _ _ _ he)
      · cases he
    · rw [if_neg hc] at he
      injection he with _ h2; subst h2; exact Ate.refl _
theorem Eats.row {f : TS → TRes} (h : Eats f) (ks : List Int) (h1 : ks.contains 1 = false) : Eats (vp1 f ks) := by
  intro ts t ts' he
  unfold vp1 at he
  split at he
  · rename_i hr; exact (h _ _ _ hr).trans (h.loop ks h1 _ _ _ _ _ he)
  · cases he
theorem Eats.sign {f : TS → TRes} (h : Eats f) (o : Int) (ts : TS) (t : Ast) (ts' : TS) (hk : ts.tk.kind ≠ 1) (he : qw7 f o ts = .ok t ts') : Ate ts ts' := by
  unfold qw7 at he
  split at he
  · cases he
  · split at he
    · rename_i hr; injection he with _ h2; subst h2
      exact ((Ate.tail (n := ts.op + 1) hk).trans (h _ _ _ hr)).op _
    · cases he
theorem Eats.group {f : TS → TRes} (h : Eats f) (ts : TS) (t : Ast) (ts' : TS) (hk : ts.tk.kind ≠ 1) (he : qq7 f ts = .ok t ts') : Ate ts ts' := by
  unfold qq7 at he
  split at he
  · cases he
  · split at he
    · rename_i hr
      split at he
      · rename_i h27
        injection he with _ h2; subst h2
        exact ((Ate.tail (n := ts.op + 1) hk).trans (h _ _ _ hr)).trans (Ate.tail (by rw [h27]; decide))
      · cases he
    · cases he
theorem Eats.signed {f g : TS → TRes} (hS : Eats f) (hE : Eats g) : Eats (qg8 f g) := by
  intro ts t ts' he
  unfold qg8 at he
  by_cases h22 : ts.tk.kind = 22
  · rw [if_pos h22] at he; exact hS.sign 14 _ _ _ (by rw [h22]; decide) he
  rw [if_neg h22] at he
  by_cases h23 : ts.tk.kind = 23
  · rw [if_pos h23] at he; exact hS.sign 15 _ _ _ (by rw [h23]; decide) he
  rw [if_neg h23] at he
  by_cases h26 : ts.tk.kind = 26
  · rw [if_pos h26] at he; exact hE.group _ _ _ (by rw [h26]; decide) he
  rw [if_neg h26] at he
  by_cases h2 : ts.tk.kind = 2
  · rw [if_pos h2] at he; injection he with _ e; subst e; exact Ate.of h2 (by decide)
  rw [if_neg h2] at he
  by_cases h3 : ts.tk.kind = 3
  · rw [if_pos h3] at he; injection he with _ e; subst e; exact Ate.of h3 (by decide)
  rw [if_neg h3] at he
  by_cases h4 : ts.tk.kind = 4
  · rw [if_pos h4] at he; injection he with _ e; subst e; exact Ate.of h4 (by decide)
  rw [if_neg h4] at he
  by_cases h8 : ts.tk.kind = 8
  · rw [if_pos h8] at he; injection he with _ e; subst e; exact Ate.of h8 (by decide)
  rw [if_neg h8] at he
  by_cases h9 : ts.tk.kind = 9
  · rw [if_pos h9] at he; injection he with _ e; subst e; exact Ate.of h9 (by decide)
  rw [if_neg h9] at he
  cases he
theorem jd8 (l : Ast) (ts : TS) (t : Ast) (ts' : TS) (hk : ts.tk.kind ≠ 1) (he : tIsNull l ts = .ok t ts') : Ate ts ts' := by
  unfold tIsNull at he
  by_cases h7 : ts.next.tk.kind = 7
  · rw [if_pos h7] at he
    by_cases h15 : ts.next.next.tk.kind = 15
    · rw [if_pos h15] at he; injection he with _ e; subst e
      exact ((Ate.next hk).trans (Ate.of h7 (by decide))).trans (Ate.of h15 (by decide))
    · rw [if_neg h15] at he; cases he
  · rw [if_neg h7] at he
    by_cases h15 : ts.next.tk.kind = 15
    · rw [if_pos h15] at he; injection he with _ e; subst e
      exact (Ate.next hk).trans (Ate.of h15 (by decide))
    · rw [if_neg h15] at he; cases he
theorem jd7 (l : Ast) : ∀ n xs ts t ts', qf4 l n xs ts = .ok t ts' → Ate ts ts' := by
  intro n
  induction n with
  | zero => intro xs ts t ts' he; rw [qf4] at he; cases he
  | succ n ih =>
    intro xs ts t ts' he
    rw [qf4] at he
    by_cases h28 : ts.tk.kind = 28
    · rw [if_pos h28] at he
      by_cases h4 : ts.next.tk.kind = 4
      · rw [if_pos h4] at he
        exact ((Ate.of h28 (by decide)).trans (Ate.of h4 (by decide))).trans (ih _ _ _ _ he)
      · rw [if_neg h4] at he; cases he
    · rw [if_neg h28] at he
      by_cases h27 : ts.tk.kind = 27
      · rw [if_pos h27] at he; injection he with _ e; subst e; exact Ate.of h27 (by decide)
      · rw [if_neg h27] at he; cases he
theorem eats_in (l : Ast) (ts : TS) (t : Ast) (ts' : TS) (hk : ts.tk.kind ≠ 1) (he : tInRes l ts = .ok t ts') : Ate ts ts' := by
  unfold tInRes at he
  by_cases h26 : ts.next.tk.kind = 26
  · rw [if_pos h26] at he
    by_cases h4 : ts.next.next.tk.kind = 4
    · rw [if_pos h4] at he
      exact (((Ate.next hk).trans (Ate.of h26 (by decide))).trans (Ate.of h4 (by decide))).trans (jd7 l _ _ _ _ _ he)
    · rw [if_neg h4] at he; cases he
  · rw [if_neg h26] at he; cases he
theorem eats_like (l : Ast) (ts : TS) (t : Ast) (ts' : TS) (hk : ts.tk.kind ≠ 1) (he : tLike l ts = .ok t ts') : Ate ts ts' := by
  unfold tLike at he
  by_cases h4 : ts.next.tk.kind = 4
  · rw [if_pos h4] at he
    have a := (Ate.next hk).trans (Ate.of h4 (by decide))
    by_cases h13 : ts.next.next.tk.kind = 13
    · rw [if_pos h13] at he
      split at he
      · rename_i g
        injection he with _ e; subst e
        exact (a.trans (Ate.of h13 (by decide))).trans (Ate.of g.1 (by decide))
      · cases he
    · rw [if_neg h13] at he
      injection he with _ e; subst e; exact a
  · rw [if_neg h4] at he; cases he
theorem Eats.between {f : TS → TRes} (h : Eats f) (l : Ast) (ts : TS) (t : Ast) (ts' : TS) (he : qg1 f l ts = .ok t ts') : Ate ts ts' := by
  unfold qg1 at he
  by_cases h10 : ts.tk.kind = 10
  · rw [if_pos h10] at he
    split at he
    · rename_i ts1 e1
      split at he
      · rename_i h5
        split at he
        · rename_i e2
          injection he with _ e; subst e
          exact (((Ate.of h10 (by decide)).trans (h _ _ _ e1)).trans (Ate.of h5 (by decide))).trans (h _ _ _ e2)
        · cases he
      · cases he
    · cases he
  · rw [if_neg h10] at he; cases he
theorem Eats.keyword {f : TS → TRes} (h : Eats f) (bare : Bool) (l : Ast) (ts : TS) (t : Ast) (ts' : TS) (he : qe7 f bare l ts = .ok t ts') : Ate ts ts' := by
  unfold qe7 at he
  split at he
  · rename_i g; exact eats_in _ _ _ _ (by rw [g.1]; decide) he
  split at he
  · rename_i g; exact eats_like _ _ _ _ (by rw [g.1]; decide) he
  · exact h.between _ _ _ _ he
theorem Eats.test {f : TS → TRes} (h : Eats f) : Eats (qz8 f) := by
  intro ts t ts' he
  unfold qz8 at he
  split at he
  · rename_i hr
    refine (h _ _ _ hr).trans ?_
    unfold vc0 at he
    split at he
    · rename_i g
      exact h.join _ _ _ _ (by rcases g with e | e | e | e | e | e <;> rw [e] <;> decide) he
    split at he
    · rename_i g
      split at he
      · exact jd8 _ _ _ _ (by rw [g]; decide) he
      · injection he with _ h2; subst h2; exact Ate.refl _
    split at he
    · rename_i g
      split at he
      · rename_i hk; injection he with _ h2; subst h2; exact (Ate.of g (by decide)).trans (h.keyword _ _ _ _ _ hk)
      · cases he
    split at he
    · exact h.keyword _ _ _ _ _ he
    · injection he with _ h2; subst h2; exact Ate.refl _
  · cases he
theorem Eats.denied {fD fT : TS → TRes} (hD : Eats fD) (hT : Eats fT) : Eats (qi8 fD fT) := by
  intro ts t ts' he
  unfold qi8 at he
  split at he
  · rename_i g; exact hD.sign 5 _ _ _ (by rw [g]; decide) he
  · exact hT _ _ _ he
structure Eats3 (L : T3) : Prop where
  S : Eats L.S
  D : Eats L.D
  E : Eats L.E
theorem eats_up {L : T3} (h : Eats3 L) : Eats3 (tUp L) := by
  have hS := Eats.signed h.S h.E
  have hT := ((hS.row [24, 25] rfl).row [22, 23] rfl).test
  have hD := Eats.denied h.D hT
  exact ⟨hS, hD, (hD.row [5] rfl).row [6] rfl⟩
theorem eats_lvl : ∀ d, Eats3 (tLvl d) := by
  intro d
  induction d with
  | zero => exact eats_up ⟨(fun _ _ _ h => by cases h), (fun _ _ _ h => by cases h), (fun _ _ _ h => by cases h)⟩
  | succ d ih => exact eats_up ih
theorem vx7 {t : Ast} (h : chkR (qa1 t) = none) : chkR (qa1 (qi5 t)) = none := by
  have hr := cls_erase t
  cases h1 : qa1 t with
  | ok c =>
    rw [h1] at hr h
    cases h2 : qa1 (qi5 t) with
    | ok d => rw [h2] at hr; cases hr; exact h
    | err q => rw [h2] at hr; cases hr
  | err p => rw [h1] at h; cases h
theorem vp2 {s : ByteArray} {t : Ast} (h : qm5 s = .ok t) : s.size ≤ 200 ∧ ∃ L, Lx s.data.toList L ∧ (∀ k ∈ L, k.kind ≠ 1) ∧ (tLvl 12).E ⟨L, 0⟩ = .ok (qi5 t) ⟨[], 0⟩ ∧ chkR (qa1 (qi5 t)) = none := by
  unfold qm5 at h
  by_cases hs : s.size ≤ 200
  · rw [if_pos hs] at h
    refine ⟨hs, ?_⟩
    obtain ⟨L, hL⟩ := jm7 _ s.data.toList (Nat.le_refl _)
    have hst : Str s (v8 s st0) L := jb0 hL st0 (Nat.zero_le _) (List.drop_zero)
    have hfi := qk4 s st0 (Nat.zero_le _)
    have hsim := (vk5 s 12).E (v8 s st0) ⟨L, 0⟩ hfi hst rfl
    rcases hsim.cases with ⟨t1, st, ts, e1, e2, e3, e4, e5⟩ | ⟨en, pl, e1, e2⟩
    · rw [e1] at h
      change endR t1 st = _ at h
      unfold endR at h
      by_cases hk : st.tk.kind = 0
      · rw [if_pos hk] at h
        cases hc : chkR (qa1 t1) with
        | some q => rw [hc] at h; cases h
        | none =>
          rw [hc] at h
          injection h with h
          subst h
          have hnil : ts.toks = [] := by
            cases hl : ts.toks with
            | nil => rfl
            | cons a r =>
              rw [hl] at e3
              cases e3 with
              | cons g _ => exact absurd hk g
          have hop : ts.op = 0 := ((ext_lvl (X := [qd5 27]) rfl 0 12 0 rfl).E ⟨L, 0⟩ rfl _ _ e2).1
          have hts : ts = ⟨[], 0⟩ := by cases ts; simp at hnil hop; rw [hnil, hop]
          rw [hts] at e2
          obtain ⟨A, ea, hA⟩ := (eats_lvl 12).E _ _ _ e2
          refine ⟨L, hL, fun k hk => hA k ?_, e2, vx7 hc⟩
          have : L = A := by simpa using ea
          rw [← this]; exact hk
      · rw [if_neg hk] at h; cases h
    · rw [e1] at h; cases h
  · rw [if_neg hs] at h; cases h
end
section
def ShA : Ast → Prop
  | .leaf p => 0 ≤ p.op ∧ p.op ≤ 4
  | .un p x => (p.op = 5 ∨ p.op = 14 ∨ p.op = 15 ∨ p.op = 21 ∨ p.op = 22 ∨ p.op = 23) ∧ (p.op = 21 → p.texts ≠ []) ∧ (p.op = 21 ∨ p.op = 22 ∨ p.op = 23 → opA x = 0) ∧ ShA x
  | .bin p x y => (6 ≤ p.op ∧ p.op ≤ 13 ∨ 16 ≤ p.op ∧ p.op ≤ 19) ∧ ShA x ∧ ShA y
  | .tri p x y z => p.op = 20 ∧ ShA x ∧ ShA y ∧ ShA z
def ndA : Ast → Nat
  | .leaf _ => 1
  | .un p x => 1 + p.texts.length + ndA x
  | .bin _ x y => 1 + ndA x + ndA y
  | .tri _ x y z => 1 + ndA x + ndA y + ndA z
theorem opOf_rng (k : Int) : 6 ≤ jn0 k ∧ jn0 k ≤ 13 ∨ 16 ≤ jn0 k ∧ jn0 k ≤ 19 := by
  unfold jn0
  have ite' : ∀ {c : Prop} [Decidable c] {a b : Int}, (6 ≤ a ∧ a ≤ 13 ∨ 16 ≤ a ∧ a ≤ 19) → (6 ≤ b ∧ b ≤ 13 ∨ 16 ≤ b ∧ b ≤ 19) → (6 ≤ (if c then a else b) ∧ (if c then a else b) ≤ 13 ∨ 16 ≤ (if c then a else b) ∧ (if c then a else b) ≤ 19) := by
    intro c _ a b ha hb
    by_cases h : c
    · rw [if_pos h]; exact ha
    · rw [if_neg h]; exact hb
  repeat refine ite' (by decide) ?_
  decide
def Nd (f : TS → TRes) : Prop := ∀ ts t ts', f ts = .ok t ts' → ShA t ∧ ndA t + ts'.toks.length ≤ ts.toks.length
def NdT (l : Ast) (ts : TS) (t : Ast) (ts' : TS) : Prop := ShA l → ShA t ∧ ndA t + ts'.toks.length ≤ ndA l + ts.toks.length
theorem qi0 {ts : TS} (h : ts.toks ≠ []) : ts.next.toks.length + 1 = ts.toks.length := by
  cases ht : ts.toks with
  | nil => exact absurd ht h
  | cons a r => show (ts.toks.tail).length + 1 = _; rw [ht]; rfl
theorem Nd.join {f : TS → TRes} (h : Nd f) (ts : TS) (l t : Ast) (ts' : TS) (hne : ts.toks ≠ []) (he : qw6 f ts l = .ok t ts') : NdT l ts t ts' := by
  intro hl
  unfold qw6 at he
  split at he
  · rename_i hr
    injection he with h1 h2
    subst h1 h2
    obtain ⟨a, b⟩ := h _ _ _ hr
    have := qi0 hne
    refine ⟨⟨opOf_rng _, hl, a⟩, ?_⟩
    show 1 + ndA l + _ + _ ≤ _
    omega
  · cases he
theorem Nd.loop {f : TS → TRes} (h : Nd f) (ks : List Int) (h0 : ks.contains 0 = false) : ∀ n l ts t ts', qs2 f ks n l ts = .ok t ts' → NdT l ts t ts' := by
  intro n
  induction n with
  | zero => intro l ts t ts' he hl; rw [qs2] at he; injection he with h1 h2; subst h1 h2; exact ⟨hl, Nat.le_refl _⟩
  | succ n ih =>
    intro l ts t ts' he hl
    rw [qs2] at he
    by_cases hc : ks.contains ts.tk.kind = true
    · rw [if_pos hc] at he
      have hne : ts.toks ≠ [] := by
        intro e
        have : ts.tk.kind = 0 := by unfold TS.tk; rw [e]; rfl
        rw [this, h0] at hc
        cases hc
      split at he
      · rename_i hj
        obtain ⟨a, b⟩ := h.join _ _ _ _ hne hj hl
        obtain ⟨c, d⟩ := ih _ _ _ _ he a
        exact ⟨c, by omega⟩
      · cases he
    · rw [if_neg hc] at he
      injection he with h1 h2; subst h1 h2; exact ⟨hl, Nat.le_refl _⟩
theorem Nd.row {f : TS → TRes} (h : Nd f) (ks : List Int) (h0 : ks.contains 0 = false) : Nd (vp1 f ks) := by
  intro ts t ts' he
  unfold vp1 at he
  split at he
  · rename_i hr
    obtain ⟨a, b⟩ := h _ _ _ hr
    obtain ⟨c, d⟩ := h.loop ks h0 _ _ _ _ _ he a
    exact ⟨c, by omega⟩
  · cases he
theorem Nd.sign {f : TS → TRes} (h : Nd f) (o : Int) (ho : o = 5 ∨ o = 14 ∨ o = 15) (ts : TS) (t : Ast) (ts' : TS) (hne : ts.toks ≠ []) (he : qw7 f o ts = .ok t ts') : ShA t ∧ ndA t + ts'.toks.length ≤ ts.toks.length := by
  unfold qw7 at he
  split at he
  · cases he
  · split at he
    · rename_i ts1 hr
      injection he with h1 h2
      subst h1 h2
      obtain ⟨a, b⟩ := h _ _ _ hr
      have := qi0 hne
      refine ⟨⟨by simp only; omega, fun e => ?_, fun e => ?_, a⟩, ?_⟩
      · simp only at e; omega
      · simp only at e; omega
      · show 1 + 0 + _ + ts1.toks.length ≤ _
        have e : (tIn ts).toks.length = ts.next.toks.length := rfl
        omega
    · cases he
theorem Nd.group {f : TS → TRes} (h : Nd f) (ts : TS) (t : Ast) (ts' : TS) (he : qq7 f ts = .ok t ts') : ShA t ∧ ndA t + ts'.toks.length ≤ ts.toks.length := by
  unfold qq7 at he
  split at he
  · cases he
  · split at he
    · rename_i ts1 hr
      split at he
      · injection he with h1 h2
        subst h1 h2
        obtain ⟨a, b⟩ := h _ _ _ hr
        have e : (tIn ts).toks.length ≤ ts.toks.length := ve2 _
        have e2 := ve2 ts1.toks
        refine ⟨a, ?_⟩
        show _ + ts1.toks.tail.length ≤ _
        omega
      · cases he
    · cases he
theorem vi9 {o n : Int} {s : List UInt8} (ho : 0 ≤ o ∧ o ≤ 4) {ts : TS} (hne : ts.toks ≠ []) : ShA (ji9 o n s) ∧ ndA (ji9 o n s) + ts.next.toks.length ≤ ts.toks.length := by
  have := qi0 hne
  exact ⟨ho, by show 1 + _ ≤ _; omega⟩
theorem Nd.signed {f g : TS → TRes} (hS : Nd f) (hE : Nd g) : Nd (qg8 f g) := by
  intro ts t ts' he
  unfold qg8 at he
  by_cases h22 : ts.tk.kind = 22
  · rw [if_pos h22] at he; exact hS.sign 14 (by omega) _ _ _ (j7 (by decide) h22) he
  rw [if_neg h22] at he
  by_cases h23 : ts.tk.kind = 23
  · rw [if_pos h23] at he; exact hS.sign 15 (by omega) _ _ _ (j7 (by decide) h23) he
  rw [if_neg h23] at he
  by_cases h26 : ts.tk.kind = 26
  · rw [if_pos h26] at he; exact hE.group _ _ _ he
  rw [if_neg h26] at he
  by_cases h2 : ts.tk.kind = 2
  · rw [if_pos h2] at he; injection he with e1 e2; subst e1 e2; exact vi9 (by decide) (j7 (by decide) h2)
  rw [if_neg h2] at he
  by_cases h3 : ts.tk.kind = 3
  · rw [if_pos h3] at he; injection he with e1 e2; subst e1 e2; exact vi9 (by decide) (j7 (by decide) h3)
  rw [if_neg h3] at he
  by_cases h4 : ts.tk.kind = 4
  · rw [if_pos h4] at he; injection he with e1 e2; subst e1 e2; exact vi9 (by decide) (j7 (by decide) h4)
  rw [if_neg h4] at he
  by_cases h8 : ts.tk.kind = 8
  · rw [if_pos h8] at he; injection he with e1 e2; subst e1 e2; exact vi9 (by decide) (j7 (by decide) h8)
  rw [if_neg h8] at he
  by_cases h9 : ts.tk.kind = 9
  · rw [if_pos h9] at he; injection he with e1 e2; subst e1 e2; exact vi9 (by decide) (j7 (by decide) h9)
  rw [if_neg h9] at he
  cases he
theorem nd_isNull (l : Ast) (h0 : opA l = 0) (ts : TS) (t : Ast) (ts' : TS) (hne : ts.toks ≠ []) (he : tIsNull l ts = .ok t ts') : NdT l ts t ts' := by
  intro hl
  have n0 := qi0 hne
  unfold tIsNull at he
  by_cases h7 : ts.next.tk.kind = 7
  · rw [if_pos h7] at he
    have n1 := qi0 (j7 (by decide) h7)
    by_cases h15 : ts.next.next.tk.kind = 15
    · rw [if_pos h15] at he; injection he with e1 e2; subst e1 e2
      have n2 := qi0 (j7 (by decide) h15)
      exact ⟨⟨by simp, fun e => by simp at e, fun e => by simp at e, ⟨by simp, fun e => by simp at e, fun _ => h0, hl⟩⟩, by show 1 + 0 + (1 + 0 + ndA l) + _ ≤ _; omega⟩
    · rw [if_neg h15] at he; cases he
  · rw [if_neg h7] at he
    by_cases h15 : ts.next.tk.kind = 15
    · rw [if_pos h15] at he; injection he with e1 e2; subst e1 e2
      have n1 := qi0 (j7 (by decide) h15)
      exact ⟨⟨by simp, fun e => by simp at e, fun _ => h0, hl⟩, by show 1 + 0 + ndA l + _ ≤ _; omega⟩
    · rw [if_neg h15] at he; cases he
theorem nd_inLoop (l : Ast) (h0 : opA l = 0) : ∀ n xs ts t ts', xs ≠ [] → ShA l → qf4 l n xs ts = .ok t ts' → ShA t ∧ ndA t + ts'.toks.length ≤ 1 + xs.length + ndA l + ts.toks.length := by
  intro n
  induction n with
  | zero => intro xs ts t ts' _ _ he; rw [qf4] at he; cases he
  | succ n ih =>
    intro xs ts t ts' hx hl he
    rw [qf4] at he
    by_cases h28 : ts.tk.kind = 28
    · rw [if_pos h28] at he
      have n1 := qi0 (j7 (by decide) h28)
      by_cases h4 : ts.next.tk.kind = 4
      · rw [if_pos h4] at he
        have n2 := qi0 (j7 (by decide) h4)
        obtain ⟨a, b⟩ := ih _ _ _ _ (by simp) hl he
        refine ⟨a, ?_⟩
        rw [List.length_append] at b
        simp only [List.length_singleton] at b
        omega
      · rw [if_neg h4] at he; cases he
    · rw [if_neg h28] at he
      by_cases h27 : ts.tk.kind = 27
      · rw [if_pos h27] at he; injection he with e1 e2; subst e1 e2
        have n1 := qi0 (j7 (by decide) h27)
        exact ⟨⟨by simp, fun _ => hx, fun _ => h0, hl⟩, by show 1 + xs.length + ndA l + _ ≤ _; omega⟩
      · rw [if_neg h27] at he; cases he
theorem nd_in (l : Ast) (h0 : opA l = 0) (ts : TS) (t : Ast) (ts' : TS) (hne : ts.toks ≠ []) (he : tInRes l ts = .ok t ts') : NdT l ts t ts' := by
  intro hl
  have n0 := qi0 hne
  unfold tInRes at he
  by_cases h26 : ts.next.tk.kind = 26
  · rw [if_pos h26] at he
    have n1 := qi0 (j7 (by decide) h26)
    by_cases h4 : ts.next.next.tk.kind = 4
    · rw [if_pos h4] at he
      have n2 := qi0 (j7 (by decide) h4)
      obtain ⟨a, b⟩ := nd_inLoop l h0 _ _ _ _ _ (by simp) hl he
      simp only [List.length_singleton] at b
      exact ⟨a, by omega⟩
    · rw [if_neg h4] at he; cases he
  · rw [if_neg h26] at he; cases he
theorem nd_like (l : Ast) (h0 : opA l = 0) (ts : TS) (t : Ast) (ts' : TS) (hne : ts.toks ≠ []) (he : tLike l ts = .ok t ts') : NdT l ts t ts' := by
  intro hl
  have n0 := qi0 hne
  have n1 := x9 ts.next
  have n2 := x9 ts.next.next
  have n3 := x9 ts.next.next.next
  unfold tLike at he
  split at he
  · split at he
    · split at he
      · injection he with e1 e2; subst e1 e2
        exact ⟨⟨by simp, fun e => by simp at e, fun _ => h0, hl⟩, by show 1 + 0 + ndA l + _ ≤ _; omega⟩
      · cases he
    · injection he with e1 e2; subst e1 e2
      exact ⟨⟨by simp, fun e => by simp at e, fun _ => h0, hl⟩, by show 1 + 0 + ndA l + _ ≤ _; omega⟩
  · cases he
theorem Nd.between {f : TS → TRes} (h : Nd f) (l : Ast) (ts : TS) (t : Ast) (ts' : TS) (he : qg1 f l ts = .ok t ts') : NdT l ts t ts' := by
  intro hl
  unfold qg1 at he
  by_cases h10 : ts.tk.kind = 10
  · rw [if_pos h10] at he
    have n0 := qi0 (j7 (by decide) h10)
    split at he
    · rename_i ts1 e1
      obtain ⟨a, b⟩ := h _ _ _ e1
      split at he
      · split at he
        · rename_i e2
          obtain ⟨c, d⟩ := h _ _ _ e2
          have n1 := x9 ts1
          injection he with e3 e4
          subst e3 e4
          exact ⟨⟨rfl, hl, a, c⟩, by show 1 + ndA l + _ + _ + _ ≤ _; omega⟩
        · cases he
      · cases he
    · cases he
  · rw [if_neg h10] at he; cases he
theorem Nd.keyword {f : TS → TRes} (h : Nd f) (bare : Bool) (l : Ast) (hb : bare = true → opA l = 0) (ts : TS) (t : Ast) (ts' : TS) (he : qe7 f bare l ts = .ok t ts') : NdT l ts t ts' := by
  unfold qe7 at he
  split at he
  · rename_i g; exact nd_in _ (hb g.2) _ _ _ (j7 (by decide) g.1) he
  split at he
  · rename_i g; exact nd_like _ (hb g.2) _ _ _ (j7 (by decide) g.1) he
  · exact h.between _ _ _ _ he
theorem Nd.test {f : TS → TRes} (h : Nd f) : Nd (qz8 f) := by
  intro ts t ts' he
  unfold qz8 at he
  split at he
  · rename_i ts1 hr
    obtain ⟨a, b⟩ := h _ _ _ hr
    suffices hs : ∀ l, ShA l → vc0 f (ts.tk.kind == 2 && opA l == 0) l ts1 = .ok t ts' → NdT l ts1 t ts' by
      obtain ⟨c, d⟩ := hs _ a he a
      exact ⟨c, by omega⟩
    intro l hl he
    have hbare : (ts.tk.kind == 2 && opA l == 0) = true → opA l = 0 := fun e => by simp only [Bool.and_eq_true, beq_iff_eq] at e; exact e.2
    unfold vc0 at he
    split at he
    · rename_i g
      refine h.join _ _ _ _ ?_ he
      rcases g with e | e | e | e | e | e <;> exact j7 (by decide) e
    split at he
    · rename_i g
      split at he
      · rename_i gb; exact nd_isNull _ (hbare gb) _ _ _ (j7 (by decide) g) he
      · injection he with e1 e2; subst e1 e2; exact fun _ => ⟨hl, Nat.le_refl _⟩
    split at he
    · rename_i g
      have n0 := qi0 (j7 (by decide) g)
      split at he
      · rename_i hk
        injection he with e1 e2; subst e1 e2
        intro hl
        obtain ⟨c, d⟩ := h.keyword _ _ hbare _ _ _ hk hl
        exact ⟨⟨by simp, fun e => by simp at e, fun e => by simp at e, c⟩, by show 1 + 0 + _ + _ ≤ _; omega⟩
      · cases he
    split at he
    · exact h.keyword _ _ hbare _ _ _ he
    · injection he with e1 e2; subst e1 e2; exact fun _ => ⟨hl, Nat.le_refl _⟩
  · cases he
theorem Nd.denied {fD fT : TS → TRes} (hD : Nd fD) (hT : Nd fT) : Nd (qi8 fD fT) := by
  intro ts t ts' he
  unfold qi8 at he
  split at he
  · rename_i g; exact hD.sign 5 (by omega) _ _ _ (j7 (by decide) g) he
  · exact hT _ _ _ he
structure Nd3 (L : T3) : Prop where
  S : Nd L.S
  D : Nd L.D
  E : Nd L.E
theorem nd_up {L : T3} (h : Nd3 L) : Nd3 (tUp L) := by
  have hS := Nd.signed h.S h.E
  have hT := ((hS.row [24, 25] rfl).row [22, 23] rfl).test
  have hD := Nd.denied h.D hT
  exact ⟨hS, hD, (hD.row [5] rfl).row [6] rfl⟩
theorem nd_lvl : ∀ d, Nd3 (tLvl d) := by
  intro d
  induction d with
  | zero => exact nd_up ⟨(fun _ _ _ h => by cases h), (fun _ _ _ h => by cases h), (fun _ _ _ h => by cases h)⟩
  | succ d ih => exact nd_up ih
theorem lx_len {l : List UInt8} {L : List Tk} (h : Lx l L) : L.length ≤ l.length := by
  induction h with
  | nil _ => exact Nat.zero_le _
  | @cons r k L e h t ih =>
    have hl := next_in (l := r) (by rw [e]; exact h)
    have hz : 0 < qk0 r 0 := by
      unfold qk0
      rw [if_pos hl]
      have := vd1 (r.drop (qf2 r 0)) (by rw [List.length_drop]; omega)
      omega
    have := vz3 r 0
    rw [List.length_drop] at ih
    simp only [List.length_cons]
    omega
theorem sh_erase : ∀ t, ShA (qi5 t) → ShA t := by
  intro t
  induction t with
  | leaf p => exact fun h => h
  | un p x ih => exact fun h => ⟨h.1, h.2.1, fun e => by rw [← vz5]; exact h.2.2.1 e, ih h.2.2.2⟩
  | bin p x y ihx ihy => exact fun h => ⟨h.1, ihx h.2.1, ihy h.2.2⟩
  | tri p x y z ihx ihy ihz => exact fun h => ⟨h.1, ihx h.2.1, ihy h.2.2.1, ihz h.2.2.2⟩
theorem nd_erase : ∀ t, ndA (qi5 t) = ndA t := by
  intro t
  induction t with
  | leaf p => rfl
  | un p x ih => show 1 + _ + ndA (qi5 x) = _; rw [ih]; rfl
  | bin p x y ihx ihy => show 1 + ndA (qi5 x) + ndA (qi5 y) = _; rw [ihx, ihy]; rfl
  | tri p x y z ihx ihy ihz => show 1 + ndA (qi5 x) + ndA (qi5 y) + ndA (qi5 z) = _; rw [ihx, ihy, ihz]; rfl
theorem vv1 {s : ByteArray} {t : Ast} (h : qm5 s = .ok t) : ShA t ∧ ndA t ≤ 200 := by
  obtain ⟨hs, L, hL, _, hr, _⟩ := vp2 h
  obtain ⟨a, b⟩ := (nd_lvl 12).E _ _ _ hr
  have := lx_len hL
  rw [qa9] at this
  rw [nd_erase] at b
  exact ⟨sh_erase t a, by simp only [List.length_nil] at b; show ndA t ≤ 200; have e : (⟨L, 0⟩ : TS).toks.length = L.length := rfl; omega⟩
end
section
theorem vv2 {s : Ps} {n : Nat} (h : (s.take n).2.bad = false) : s.bad = false ∧ n ≤ s.rest.length := by
  rw [Ps.take] at h
  split at h
  · exact ⟨h, by assumption⟩
  · simp [failS] at h
theorem jm9 {s : Ps} (h : s.next.2.bad = false) : s.bad = false := (vv2 (n := 1) h).1
theorem qr4 {s : Ps} {m : Int} (h : (s.upTo m).2.bad = false) : s.bad = false ∧ ((s.upTo m).1 : Int) ≤ m := by
  rw [Ps.upTo] at h ⊢
  split at h
  · simp [failS] at h
  · rename_i hm
    rw [if_neg hm]
    exact ⟨jm9 h, by show (s.next.1.toNat : Int) ≤ m; omega⟩
theorem ju9 {s : Ps} (h : s.number.2.bad = false) : s.bad = false := (vv2 (n := 8) h).1
theorem vv3 {s : Ps} {m : Int} (h : (s.text m).2.bad = false) : s.bad = false ∧ ((s.text m).1.length : Int) ≤ m := by
  have h1 := vv2 (s := (s.upTo m).2) (n := (s.upTo m).1) h
  have h2 := qr4 h1.1
  refine ⟨h2.1, ?_⟩
  rw [Ps.text, Ps.take_length]
  exact h2.2
theorem numS_rng (m : Int) (k : Nat) (x : UInt8) : Rng (numS m k x) := by
  have h : ∀ n : Int, Rng (IntKind.i64.wrap n) := fun n => by have := jp0 n; rw [IntKind.wrap_i64]; unfold wrap64 at this; exact this
  unfold numS bits
  exact h _
theorem numK_rng (l : List UInt8) (k : Nat) : Rng (numK l k) := by
  cases k with
  | zero => exact ⟨by show (_ : Int) ≤ 0; decide, by show (0 : Int) ≤ _; decide⟩
  | succ k => exact numS_rng _ _ _
structure FitsT (pl : Nat) (t : Tm) : Prop where
  op : t.op ≤ 23
  num : Rng t.num
  str : t.str.length ≤ 200
  esc : t.esc.length ≤ 1
  sides : 5 ≤ t.op → t.left < pl ∧ t.right < pl
theorem body_fits {s : Ps} {pl op : Nat} (h : (s.body pl op).2.bad = false) : s.bad = false ∧ FitsT pl (s.body pl op).1 := by
  have r0 : Rng 0 := ⟨by decide, by decide⟩
  unfold Ps.body at h ⊢
  by_cases h1 : op = 3 ∨ op = 4
  · rw [if_pos h1] at h ⊢
    dsimp only at h ⊢
    exact ⟨h, by show op ≤ 23; omega, r0, Nat.zero_le _, Nat.zero_le _, fun h5 => by have : 5 ≤ op := h5; omega⟩
  rw [if_neg h1] at h ⊢
  by_cases h2 : op = 1
  · rw [if_pos h2] at h ⊢
    dsimp only at h ⊢
    exact ⟨ju9 h, by show op ≤ 23; omega, numK_rng _ _, Nat.zero_le _, Nat.zero_le _, fun h5 => by have : 5 ≤ op := h5; omega⟩
  rw [if_neg h2] at h ⊢
  by_cases h3 : op = 22
  · rw [if_pos h3] at h ⊢
    dsimp only at h ⊢
    have a := vv3 (s := ((s.upTo ((pl : Int) - 1)).2.text 1).2) (m := 200) h
    have b := vv3 (s := (s.upTo ((pl : Int) - 1)).2) (m := 1) a.1
    have c := qr4 (s := s) (m := (pl : Int) - 1) b.1
    refine ⟨c.1, by show op ≤ 23; omega, r0, by have := a.2; dsimp only; omega, by have := b.2; dsimp only; omega, fun _ => ?_⟩
    have := c.2
    exact ⟨by dsimp only; omega, by show 0 < pl; omega⟩
  rw [if_neg h3] at h ⊢
  by_cases h4 : op = 0 ∨ op = 2
  · rw [if_pos h4] at h ⊢
    dsimp only at h ⊢
    have a := vv3 (s := s) (m := 200) h
    exact ⟨a.1, by show op ≤ 23; omega, r0, by have := a.2; dsimp only; omega, Nat.zero_le _, fun h5 => by have : 5 ≤ op := h5; omega⟩
  rw [if_neg h4] at h ⊢
  by_cases h5 : qy8 op = true
  · rw [if_pos h5] at h ⊢
    dsimp only at h ⊢
    have a := qr4 (s := (s.upTo ((pl : Int) - 1)).2) (m := (pl : Int) - 1) h
    have b := qr4 (s := s) (m := (pl : Int) - 1) a.1
    refine ⟨b.1, ?_, r0, Nat.zero_le _, Nat.zero_le _, fun _ => ?_⟩
    · simp [qy8] at h5
      show op ≤ 23
      omega
    · have := a.2
      have := b.2
      exact ⟨by dsimp only; omega, by dsimp only; omega⟩
  rw [if_neg h5] at h ⊢
  by_cases h6 : op = 5 ∨ op = 23
  · rw [if_pos h6] at h ⊢
    dsimp only at h ⊢
    have a := qr4 (s := s) (m := (pl : Int) - 1) h
    refine ⟨a.1, by show op ≤ 23; omega, r0, Nat.zero_le _, Nat.zero_le _, fun _ => ?_⟩
    have := a.2
    exact ⟨by dsimp only; omega, by show 0 < pl; omega⟩
  rw [if_neg h6] at h
  simp [failS] at h
theorem term_fits {s : Ps} {pl : Nat} (h : (s.term pl).2.bad = false) : s.bad = false ∧ FitsT pl (s.term pl).1 := by
  have := body_fits h
  exact ⟨jm9 this.1, this.2⟩
theorem jj0 {s : Ps} {k : Nat} (h : (qd8 s k).2.bad = false) : s.bad = false ∧ ∀ i t, (qd8 s k).1[i]? = some t → FitsT i t := by
  induction k with
  | zero => exact ⟨h, fun i t hi => by simp [qd8] at hi⟩
  | succ k ih =>
    have a := term_fits h
    have b := ih a.1
    refine ⟨b.1, fun i t hi => ?_⟩
    rw [qd8] at hi
    have hl := qu5 s k
    rcases Nat.lt_or_ge i k with hk | hk
    · rw [List.getElem?_append_left (by omega)] at hi
      exact b.2 i t hi
    · have he : i = k := by
        have := (List.getElem?_eq_some_iff.1 hi).1
        rw [List.length_append, List.length_singleton] at this
        omega
      subst he
      rw [List.getElem?_append_right (by omega), hl, Nat.sub_self] at hi
      simp at hi
      subst hi
      exact a.2
theorem ji3 {m : Int} {s : Ps} {k : Nat} (h : (qh5 m s k).2.bad = false) : s.bad = false ∧ ∀ r ∈ (qh5 m s k).1, (r : Int) ≤ m := by
  induction k with
  | zero => exact ⟨h, fun r hr => by simp [qh5] at hr⟩
  | succ k ih =>
    have a := qr4 h
    have b := ih a.1
    refine ⟨b.1, fun r hr => ?_⟩
    rw [qh5, List.mem_append] at hr
    rcases hr with hr | hr
    · exact b.2 r hr
    · simp at hr
      subst hr
      exact a.2
structure Prg (ts : List Tm) (rs : List Nat) : Prop where
  terms : ts.length ≤ 80
  roots : rs.length ≤ 8
  fits : ∀ i t, ts[i]? = some t → FitsT i t
  below : ∀ r ∈ rs, r < ts.length
theorem jw1 {code : List UInt8} (h : (qu1 code).2.2 = true) : Prg (qu1 code).1 (qu1 code).2.1 := by
  have h' : (jw2 code).2.bad = false := by
    simp only [qu1, Bool.and_eq_true, Bool.not_eq_true'] at h
    exact h.1
  have a := ji3 h'
  have b := jj0 a.1
  have c := qr4 b.1
  have d := qr4 c.1
  have ht : (qu1 code).1.length = (vk0 code).1 := qu5 _ _
  have hr : (qu1 code).2.1.length = (vb2 code).1 := vb3 _ _ _
  refine ⟨?_, ?_, b.2, fun r hr => ?_⟩
  · have : ((vk0 code).1 : Int) ≤ 80 := d.2
    omega
  · have : ((vb2 code).1 : Int) ≤ 8 := c.2
    omega
  · have := a.2 r hr
    omega
end
end Go.Proofs.YtfkcaldjphakpabGreatDoor
