/- All levels of the reader together. The numbers of what is read fit an int64. What a term is of an event. Reading a list of tokens, places left out; it goes as reading a text goes. -/
import Derived.Test.YtfkcaldjphakpabGreatDoorT06
import Derived.Test.YtfkcaldjphakpabGreatDoorT09
import Derived.Test.YtfkcaldjphakpabGreatDoorT07
import Derived.Test.YtfkcaldjphakpabGreatDoorT08
import Derived.Test.YtfkcaldjphakpabGreatDoorT10
namespace Go.Proofs.YtfkcaldjphakpabGreatDoor
open Go.RowKit
section
structure L3 where
  S : St → Res
  D : St → Res
  E : St → Res
def prodOf (s : ByteArray) (S : St → Res) : St → Res := qf7 s S [24, 25]
def sumOf (s : ByteArray) (S : St → Res) : St → Res := qf7 s (prodOf s S) [22, 23]
def testOf (s : ByteArray) (S : St → Res) : St → Res := qi2 s (sumOf s S) (qm4 s) (qd4 s)
def eitherOf (s : ByteArray) (D : St → Res) : St → Res := qf7 s (qf7 s D [5]) [6]
def up3 (s : ByteArray) (L : L3) : L3 := ⟨qa7 s L.S L.E, qe0 s L.D (testOf s (qa7 s L.S L.E)), eitherOf s (qe0 s L.D (testOf s (qa7 s L.S L.E)))⟩
def lvl (s : ByteArray) : Nat → L3
  | 0 => up3 s ⟨fun _ => .err 0 0, fun _ => .err 0 0, fun _ => .err 0 0⟩
  | d + 1 => up3 s (lvl s d)
structure Reads3 (rb : Nat) (s : ByteArray) (op : Nat) (L : L3) : Prop where
  S : qe4 291 rb s op L.S
  D : qe4 134 rb s op L.D
  E : qe4 56 rb s op L.E
theorem jb6 (rb : Nat) (s : ByteArray) (hs : s.size ≤ 200) (op : Nat) (hop : op ≤ 12) (L : L3) (h : op < 12 → Reads3 rb s (op + 1) L) : Reads3 rb s op (up3 s L) := by
  have hS : qe4 291 rb s op (qa7 s L.S L.E) := ja6 rb s op hop L.S L.E (fun k => (h k).S) (fun k => (h k).E)
  have hP := vu6 rb s op _ hS
  have hU := sum_reads rb s op _ hP
  have hT := jy0 rb s op _ _ _ hU (in_reads rb s op hs) (ju4 rb s op hs)
  have hD := vy1 rb s op hop L.D _ (fun k => (h k).D) hT
  exact ⟨hS, hD, vy2 rb s op _ (jq8 rb s op _ hD)⟩
theorem lvl_reads (rb : Nat) (s : ByteArray) (hs : s.size ≤ 200) : ∀ (d op : Nat), op + d = 12 → Reads3 rb s op (lvl s d) := by
  intro d
  induction d with
  | zero => intro op h; exact jb6 rb s hs op (by omega) _ (fun k => by omega)
  | succ d ih => intro op h; exact jb6 rb s hs op (by omega) _ (fun _ => ih (op + 1) (by omega))
def Good (f : St → Res) : Prop := ∀ st t st', f st = .ok t st' → WfA t
def GoodT (g : Ast → St → Res) : Prop := ∀ l st t st', WfA l → g l st = .ok t st' → WfA t
theorem Good.join {s : ByteArray} {f : St → Res} (h : Good f) : ∀ st l t st', WfA l → qb3 s f st l = .ok t st' → WfA t := by
  intro st l t st' hl he
  unfold qb3 at he
  split at he
  · rename_i r st2 hr; injection he with h1 _; subst h1; exact ⟨hl, h _ _ _ hr⟩
  · cases he
theorem Good.loop {s : ByteArray} {f : St → Res} {ks : List Int} (h : Good f) : ∀ n l st t st', WfA l → qa4 s f ks n l st = .ok t st' → WfA t := by
  intro n
  induction n with
  | zero => intro l st t st' hl he; rw [qa4] at he; injection he with h1 _; subst h1; exact hl
  | succ n ih =>
    intro l st t st' hl he
    rw [qa4] at he
    split at he
    · split at he
      · rename_i hj; exact ih _ _ _ _ (h.join _ _ _ _ hl hj) he
      · cases he
    · injection he with h1 _; subst h1; exact hl
theorem Good.row {s : ByteArray} {f : St → Res} {ks : List Int} (h : Good f) : Good (qf7 s f ks) := by
  intro st t st' he
  unfold qf7 at he
  split at he
  · rename_i hr; exact h.loop _ _ _ _ _ (h _ _ _ hr) he
  · cases he
theorem Good.sign {s : ByteArray} {f : St → Res} (h : Good f) (o : Int) (ho : ¬ o = 8 ∧ ¬ o = 9) : Good (qg0 s f o) := by
  intro st t st' he
  unfold qg0 at he
  split at he
  · cases he
  · split at he
    · rename_i hr; injection he with h1 _; subst h1; exact ⟨ho, h _ _ _ hr⟩
    · cases he
theorem Good.group {s : ByteArray} {f : St → Res} (h : Good f) : Good (qg9 s f) := by
  intro st t st' he
  unfold qg9 at he
  split at he
  · cases he
  · split at he
    · rename_i hr; split at he
      · injection he with h1 _; subst h1; exact h _ _ _ hr
      · cases he
    · cases he
theorem Good.signed {s : ByteArray} {fS fE : St → Res} (hS : Good fS) (hE : Good fE) : Good (qa7 s fS fE) := by
  intro st t st' he
  unfold qa7 at he
  split at he
  · exact hS.sign 14 (by decide) _ _ _ he
  split at he
  · exact hS.sign 15 (by decide) _ _ _ he
  split at he
  · exact hE.group _ _ _ he
  split at he
  · injection he with h1 _; subst h1; exact ⟨by simp, by simp⟩
  split at he
  · injection he with h1 _; subst h1; exact ⟨by simp, by simp⟩
  split at he
  · injection he with h1 _; subst h1; exact ⟨by simp, by simp⟩
  split at he
  · injection he with h1 _; subst h1; exact ⟨by simp, by simp⟩
  split at he
  · injection he with h1 _; subst h1; exact ⟨by simp, by simp⟩
  · cases he
theorem jf7 {s : ByteArray} : GoodT (qc4 s) := by
  intro l st t st' hl he
  unfold qc4 at he
  split at he
  · split at he
    · injection he with h1 _; subst h1; exact ⟨⟨by simp, by simp⟩, ⟨by simp, by simp⟩, hl⟩
    · cases he
  · split at he
    · injection he with h1 _; subst h1; exact ⟨⟨by simp, by simp⟩, hl⟩
    · cases he
theorem jf6 {s : ByteArray} {l : Ast} {pl : Nat} (hl : WfA l) : ∀ n ts st t st', qf0 s l pl n ts st = .ok t st' → WfA t := by
  intro n
  induction n with
  | zero => intro ts st t st' he; rw [qf0] at he; cases he
  | succ n ih =>
    intro ts st t st' he
    rw [qf0] at he
    split at he
    · split at he
      · exact ih _ _ _ _ he
      · cases he
    · split at he
      · injection he with h1 _; subst h1; exact ⟨⟨by simp, by simp⟩, hl⟩
      · cases he
theorem good_in {s : ByteArray} : GoodT (qm4 s) := by
  intro l st t st' hl he
  unfold qm4 at he
  split at he
  · split at he
    · exact jf6 hl _ _ _ _ _ he
    · cases he
  · cases he
theorem good_like {s : ByteArray} : GoodT (qd4 s) := by
  intro l st t st' hl he
  unfold qd4 at he
  repeat' split at he
  all_goals first | (injection he with h1 _; subst h1; exact ⟨⟨by simp, by simp⟩, hl⟩) | cases he
theorem Good.between {s : ByteArray} {f : St → Res} (h : Good f) : GoodT (qc9 s f) := by
  intro l st t st' hl he
  unfold qc9 at he
  split at he
  · split at he
    · rename_i h1; split at he
      · split at he
        · rename_i h2; injection he with h3 _; subst h3; exact ⟨⟨by simp, by simp⟩, hl, h _ _ _ h1, h _ _ _ h2⟩
        · cases he
      · cases he
    · cases he
  · cases he
theorem Good.keyword {s : ByteArray} {f : St → Res} (h : Good f) (bare : Bool) : GoodT (y4 s f (qm4 s) (qd4 s) bare) := by
  intro l st t st' hl he
  unfold y4 at he
  split at he
  · exact good_in _ _ _ _ hl he
  split at he
  · exact good_like _ _ _ _ hl he
  · exact h.between _ _ _ _ hl he
theorem Good.test {s : ByteArray} {f : St → Res} (h : Good f) : Good (qi2 s f (qm4 s) (qd4 s)) := by
  intro st t st' he
  unfold qi2 at he
  split at he
  · rename_i hr
    have hl := h _ _ _ hr
    unfold x5 at he
    split at he
    · exact h.join _ _ _ _ hl he
    split at he
    · split at he
      · exact jf7 _ _ _ _ hl he
      · injection he with h1 _; subst h1; exact hl
    split at he
    · split at he
      · rename_i hk; injection he with h1 _; subst h1; exact ⟨⟨by simp, by simp⟩, h.keyword _ _ _ _ _ hl hk⟩
      · cases he
    split at he
    · exact h.keyword _ _ _ _ _ hl he
    · injection he with h1 _; subst h1; exact hl
  · cases he
theorem Good.denied {s : ByteArray} {fD fT : St → Res} (hD : Good fD) (hT : Good fT) : Good (qe0 s fD fT) := by
  intro st t st' he
  unfold qe0 at he
  split at he
  · exact hD.sign 5 (by decide) _ _ _ he
  · exact hT _ _ _ he
structure Good3 (L : L3) : Prop where
  S : Good L.S
  D : Good L.D
  E : Good L.E
theorem jp9 {s : ByteArray} {L : L3} (h : Good3 L) : Good3 (up3 s L) := by
  have hS := Good.signed (s := s) h.S h.E
  have hD := Good.denied (s := s) h.D (Good.test (s := s) ((hS.row (s := s) (ks := [24, 25])).row (s := s) (ks := [22, 23])))
  exact ⟨hS, hD, (hD.row (s := s) (ks := [5])).row (s := s) (ks := [6])⟩
theorem lvl_good (s : ByteArray) : ∀ d, Good3 (lvl s d) := by
  intro d
  induction d with
  | zero => exact jp9 ⟨(fun _ _ _ h => by cases h), (fun _ _ _ h => by cases h), (fun _ _ _ h => by cases h)⟩
  | succ d ih => exact jp9 ih
end
section
theorem rngN {n : Nat} (h : n ≤ 9223372036854775807) : Rng (n : Int) := ⟨by omega, by omega⟩
theorem vp0 : Rng 0 := ⟨by decide, by decide⟩
def TkOk (st : St) : Prop := Rng st.tk.num
theorem je9 (l : List UInt8) : Rng (qr8 l).num := by
  unfold qr8
  split
  · exact vp0
  · split
    · unfold vc5; split <;> exact vp0
    split
    · unfold vu1; split
      · rename_i h; exact rngN h
      · exact vp0
    split
    · unfold qt0; split <;> exact vp0
    · exact vp0
theorem qb9 (s : ByteArray) (st : St) : TkOk (v8 s st) := by
  show Rng (qh9 s.data.toList st.after).num
  unfold qh9
  split
  · exact je9 _
  · exact vp0
def vf5 : Ast → Prop
  | .leaf p => Rng p.num
  | .un p x => Rng p.num ∧ vf5 x
  | .bin p x y => Rng p.num ∧ vf5 x ∧ vf5 y
  | .tri p x y z => Rng p.num ∧ vf5 x ∧ vf5 y ∧ vf5 z
def NGood (f : St → Res) : Prop := ∀ st t st', TkOk st → f st = .ok t st' → vf5 t ∧ TkOk st'
def vw6 (g : Ast → St → Res) : Prop := ∀ l st t st', vf5 l → TkOk st → g l st = .ok t st' → vf5 t ∧ TkOk st'
theorem NGood.join {s : ByteArray} {f : St → Res} (h : NGood f) : ∀ st l t st', vf5 l → qb3 s f st l = .ok t st' → vf5 t ∧ TkOk st' := by
  intro st l t st' hl he
  unfold qb3 at he
  split at he
  · rename_i r st2 hr; injection he with h1 h2; subst h1; subst h2
    have := h _ _ _ (qb9 s st) hr
    exact ⟨⟨vp0, hl, this.1⟩, this.2⟩
  · cases he
theorem NGood.loop {s : ByteArray} {f : St → Res} {ks : List Int} (h : NGood f) : ∀ n l st t st', vf5 l → TkOk st → qa4 s f ks n l st = .ok t st' → vf5 t ∧ TkOk st' := by
  intro n
  induction n with
  | zero => intro l st t st' hl hs he; rw [qa4] at he; injection he with h1 h2; subst h1; subst h2; exact ⟨hl, hs⟩
  | succ n ih =>
    intro l st t st' hl hs he
    rw [qa4] at he
    split at he
    · split at he
      · rename_i hj; have := h.join _ _ _ _ hl hj; exact ih _ _ _ _ this.1 this.2 he
      · cases he
    · injection he with h1 h2; subst h1; subst h2; exact ⟨hl, hs⟩
theorem NGood.row {s : ByteArray} {f : St → Res} {ks : List Int} (h : NGood f) : NGood (qf7 s f ks) := by
  intro st t st' hs he
  unfold qf7 at he
  split at he
  · rename_i hr; have := h _ _ _ hs hr; exact h.loop _ _ _ _ _ this.1 this.2 he
  · cases he
theorem NGood.sign {s : ByteArray} {f : St → Res} (h : NGood f) (o : Int) : NGood (qg0 s f o) := by
  intro st t st' _ he
  unfold qg0 at he
  split at he
  · cases he
  · split at he
    · rename_i hr; injection he with h1 h2; subst h1; subst h2
      have := h (qy7 s st) _ _ (qb9 s st) hr
      exact ⟨⟨vp0, this.1⟩, this.2⟩
    · cases he
theorem NGood.group {s : ByteArray} {f : St → Res} (h : NGood f) : NGood (qg9 s f) := by
  intro st t st' _ he
  unfold qg9 at he
  split at he
  · cases he
  · split at he
    · rename_i hr; split at he
      · injection he with h1 h2; subst h1; subst h2
        exact ⟨(h (qy7 s st) _ _ (qb9 s st) hr).1, qb9 s _⟩
      · cases he
    · cases he
theorem NGood.signed {s : ByteArray} {fS fE : St → Res} (hS : NGood fS) (hE : NGood fE) : NGood (qa7 s fS fE) := by
  intro st t st' hs he
  unfold qa7 at he
  split at he
  · exact hS.sign 14 _ _ _ hs he
  split at he
  · exact hS.sign 15 _ _ _ hs he
  split at he
  · exact hE.group _ _ _ hs he
  split at he
  · injection he with h1 h2; subst h1; subst h2; exact ⟨vp0, qb9 s st⟩
  split at he
  · injection he with h1 h2; subst h1; subst h2; exact ⟨hs, qb9 s st⟩
  split at he
  · injection he with h1 h2; subst h1; subst h2; exact ⟨vp0, qb9 s st⟩
  split at he
  · injection he with h1 h2; subst h1; subst h2; exact ⟨vp0, qb9 s st⟩
  split at he
  · injection he with h1 h2; subst h1; subst h2; exact ⟨vp0, qb9 s st⟩
  · cases he
theorem ju7 {s : ByteArray} : vw6 (qc4 s) := by
  intro l st t st' hl _ he
  unfold qc4 at he
  split at he
  · split at he
    · injection he with h1 h2; subst h1; subst h2; exact ⟨⟨vp0, vp0, hl⟩, qb9 s _⟩
    · cases he
  · split at he
    · injection he with h1 h2; subst h1; subst h2; exact ⟨⟨vp0, hl⟩, qb9 s _⟩
    · cases he
theorem ju6 {s : ByteArray} {l : Ast} {pl : Nat} (hl : vf5 l) : ∀ n ts st t st', qf0 s l pl n ts st = .ok t st' → vf5 t ∧ TkOk st' := by
  intro n
  induction n with
  | zero => intro ts st t st' he; rw [qf0] at he; cases he
  | succ n ih =>
    intro ts st t st' he
    rw [qf0] at he
    split at he
    · split at he
      · exact ih _ _ _ _ he
      · cases he
    · split at he
      · injection he with h1 h2; subst h1; subst h2; exact ⟨⟨vp0, hl⟩, qb9 s _⟩
      · cases he
theorem num_in {s : ByteArray} : vw6 (qm4 s) := by
  intro l st t st' hl _ he
  unfold qm4 at he
  split at he
  · split at he
    · exact ju6 hl _ _ _ _ _ he
    · cases he
  · cases he
theorem num_like {s : ByteArray} : vw6 (qd4 s) := by
  intro l st t st' hl _ he
  unfold qd4 at he
  split at he
  · split at he
    · split at he
      · rename_i hk; injection he with h1 h2; subst h1; subst h2; rw [(va3 hk).2]; exact ⟨⟨vp0, hl⟩, qb9 s _⟩
      · cases he
    · injection he with h1 h2; subst h1; subst h2; exact ⟨⟨vp0, hl⟩, qb9 s _⟩
  · cases he
theorem NGood.between {s : ByteArray} {f : St → Res} (h : NGood f) : vw6 (qc9 s f) := by
  intro l st t st' hl _ he
  unfold qc9 at he
  split at he
  · split at he
    · rename_i h1; split at he
      · split at he
        · rename_i h2; injection he with h3 h4; subst h3; subst h4
          have a := h _ _ _ (qb9 s _) h1
          have b := h _ _ _ (qb9 s _) h2
          exact ⟨⟨vp0, hl, a.1, b.1⟩, b.2⟩
        · cases he
      · cases he
    · cases he
  · cases he
theorem NGood.keyword {s : ByteArray} {f : St → Res} (h : NGood f) (bare : Bool) : vw6 (y4 s f (qm4 s) (qd4 s) bare) := by
  intro l st t st' hl hs he
  unfold y4 at he
  split at he
  · exact num_in _ _ _ _ hl hs he
  split at he
  · exact num_like _ _ _ _ hl hs he
  · exact h.between _ _ _ _ hl hs he
theorem NGood.test {s : ByteArray} {f : St → Res} (h : NGood f) : NGood (qi2 s f (qm4 s) (qd4 s)) := by
  intro st t st' hs he
  unfold qi2 at he
  split at he
  · rename_i hr
    obtain ⟨hl, hs1⟩ := h _ _ _ hs hr
    unfold x5 at he
    split at he
    · exact h.join _ _ _ _ hl he
    split at he
    · split at he
      · exact ju7 _ _ _ _ hl hs1 he
      · injection he with h1 h2; subst h1; subst h2; exact ⟨hl, hs1⟩
    split at he
    · split at he
      · rename_i hk; injection he with h1 h2; subst h1; subst h2
        have := h.keyword _ _ _ _ _ hl (qb9 s _) hk
        exact ⟨⟨vp0, this.1⟩, this.2⟩
      · cases he
    split at he
    · exact h.keyword _ _ _ _ _ hl hs1 he
    · injection he with h1 h2; subst h1; subst h2; exact ⟨hl, hs1⟩
  · cases he
theorem NGood.denied {s : ByteArray} {fD fT : St → Res} (hD : NGood fD) (hT : NGood fT) : NGood (qe0 s fD fT) := by
  intro st t st' hs he
  unfold qe0 at he
  split at he
  · exact hD.sign 5 _ _ _ hs he
  · exact hT _ _ _ hs he
structure NGood3 (L : L3) : Prop where
  S : NGood L.S
  D : NGood L.D
  E : NGood L.E
theorem up3_num {s : ByteArray} {L : L3} (h : NGood3 L) : NGood3 (up3 s L) := by
  have hS := NGood.signed (s := s) h.S h.E
  have hD := NGood.denied (s := s) h.D (NGood.test (s := s) ((hS.row (s := s) (ks := [24, 25])).row (s := s) (ks := [22, 23])))
  exact ⟨hS, hD, (hD.row (s := s) (ks := [5])).row (s := s) (ks := [6])⟩
theorem lvl_num (s : ByteArray) : ∀ d, NGood3 (lvl s d) := by
  intro d
  induction d with
  | zero => exact up3_num ⟨(fun _ _ _ _ h => by cases h), (fun _ _ _ _ h => by cases h), (fun _ _ _ _ h => by cases h)⟩
  | succ d ih => exact up3_num ih
end
section
def nextB (p : Pc) (t : List UInt8) (e : Nat → Bool) : Nat → Bool
  | 0 => p.kind == 2 && e 0
  | j + 1 => if p.kind == 2 then e (j + 1) || nextB p t e j else if p.kind == 1 then e j else e j && t.getD j 0 == p.c
def vi0 (ps : List Pc) (t : List UInt8) (e : Nat → Bool) : Bool := match ps with
  | [] => e t.length
  | p :: r => vi0 r t (nextB p t e)
def fitsB (pat esc t : List UInt8) : Bool := match qv4 esc pat with
  | none => false
  | some ps => vi0 ps t fun j => j == 0
def vn4 (x : V) (pat esc : List UInt8) : V := if x.kind == 3 then bV (fitsB pat esc x.str) else nV
def vx2 (x : V) (ts : List (List UInt8)) : V := ts.foldl (fun f t => orV f (eqV x (tV t))) (bV false)
def qs6 (p : Pay) (x y z : V) : V :=
  if p.op = 20 then andV (leV y x) (leV x z) else if p.op = 21 then vx2 x p.texts else if p.op = 22 then vn4 x p.str p.esc else qz2 p.op x y
def ofN (ps : List Pr) (p : Pay) (s : List V) : V :=
  if p.op = 0 then qy0 ps p.str else if p.op = 1 then iV p.num else if p.op = 2 then tV p.str else if p.op = 3 then bV true else if p.op = 4 then bV false
  else qs6 p (s.getD 0 nV) (s.getD 1 nV) (s.getD 2 nV)
def ofA (ps : List Pr) : Ast → V
  | .leaf p => ofN ps p []
  | .un p x => ofN ps p [ofA ps x]
  | .bin p x y => ofN ps p [ofA ps x, ofA ps y]
  | .tri p x y z => ofN ps p [ofA ps x, ofA ps y, ofA ps z]
theorem vq4 (ps : List Pr) (t : Ast) : ofA ps t = ofN ps (y7 t) ((j3 t).map (ofA ps)) := by cases t <;> rfl
theorem qz5 (b : Bool) : Rng (bV b).num := by cases b <;> exact ⟨by decide, by decide⟩
theorem qy2 : Rng nV.num := ⟨by decide, by decide⟩
theorem vv0 {n : Int} (h : vp9 n = true) : Rng (iV n).num := by
  simp [vp9] at h; exact h
theorem rng_not (x : V) : Rng (notV x).num := by unfold notV; split; exact qz5 _; exact qy2
theorem rng_and (x y : V) : Rng (andV x y).num := by unfold andV; split; exact qz5 _; split; exact qz5 _; exact qy2
theorem rng_or (x y : V) : Rng (orV x y).num := by unfold orV; split; exact qz5 _; split; exact qz5 _; exact qy2
theorem rng_eq (x y : V) : Rng (eqV x y).num := by unfold eqV; split; exact qy2; exact qz5 _
theorem jn8 (x y : V) : Rng (vz0 x y).num := by unfold vz0; split; exact qz5 _; exact qy2
theorem rng_le (x y : V) : Rng (leV x y).num := by unfold leV; split; exact qz5 _; exact qy2
theorem rng_add (x y : V) : Rng (addV x y).num := by
  unfold addV; split
  · rename_i h; simp only [Bool.and_eq_true] at h; exact vv0 h.2
  · exact qy2
theorem rng_sub (x y : V) : Rng (subV x y).num := by
  unfold subV; split
  · rename_i h; simp only [Bool.and_eq_true] at h; exact vv0 h.2
  · exact qy2
theorem rng_mul (x y : V) : Rng (mulV x y).num := by
  unfold mulV; split
  · rename_i h; simp only [Bool.and_eq_true] at h; exact vv0 h.2
  · exact qy2
theorem rng_div (x y : V) : Rng (divV x y).num := by
  unfold divV; split
  · rename_i h; simp only [Bool.and_eq_true] at h; exact vv0 h.2
  · exact qy2
theorem qi1 {c : Prop} [Decidable c] {a b : V} (ha : Rng a.num) (hb : Rng b.num) : Rng (if c then a else b).num := by
  split
  · exact ha
  · exact hb
theorem jn7 (op : Int) (x y : V) : Rng (qz2 op x y).num := by
  unfold qz2
  exact qi1 (rng_not _) (qi1 (rng_and _ _) (qi1 (rng_or _ _) (qi1 (rng_eq _ _) (qi1 (rng_not _) (qi1 (jn8 _ _) (qi1 (jn8 _ _) (qi1 (rng_le _ _) (qi1 (rng_le _ _) (qi1 (rng_add _ _) (qi1 (rng_add _ _) (qi1 (rng_sub _ _) (qi1 (rng_sub _ _) (qi1 (rng_mul _ _) (qi1 (rng_div _ _) (qz5 _)))))))))))))))
theorem rng_among (x : V) (ts : List (List UInt8)) : ∀ f : V, Rng f.num → Rng (ts.foldl (fun f t => orV f (eqV x (tV t))) f).num := by
  induction ts with
  | nil => intro f h; exact h
  | cons t r ih => intro f _; exact ih _ (rng_or _ _)
theorem rng_joinN (p : Pay) (x y z : V) : Rng (qs6 p x y z).num := by
  unfold qs6
  split
  · exact rng_and _ _
  split
  · exact rng_among x _ _ (qz5 _)
  split
  · unfold vn4; split; exact qz5 _; exact qy2
  · exact jn7 _ _ _
def vw5 (ps : List Pr) : Prop := ∀ p ∈ ps, Rng p.val.num
theorem jn6 {ps : List Pr} (h : vw5 ps) (n : List UInt8) : Rng (qy0 ps n).num := by
  unfold qy0
  split
  · rename_i p hp; exact h p (List.mem_of_find?_eq_some hp)
  · exact qy2
theorem jn9 {ps : List Pr} (h : vw5 ps) {p : Pay} (hp : Rng p.num) (s : List V) : Rng (ofN ps p s).num := by
  unfold ofN
  split
  · exact jn6 h _
  split
  · exact hp
  split
  · exact vp0
  split
  · exact qz5 _
  split
  · exact qz5 _
  · exact rng_joinN _ _ _ _
theorem vd8 {ps : List Pr} (h : vw5 ps) : ∀ t, vf5 t → Rng (ofA ps t).num := by
  intro t
  cases t with
  | leaf p => intro hn; exact jn9 h hn _
  | un p x => intro hn; exact jn9 h hn.1 _
  | bin p x y => intro hn; exact jn9 h hn.1 _
  | tri p x y z => intro hn; exact jn9 h hn.1 _
def EvArg (w : World) (ev : Value) (ps : List Pr) : Prop :=
  ps.length ≤ 8 ∧ ((ps = [] ∧ ∃ a cap, ev = .slice a 0 cap) ∨ ∃ b off cap, ev = .slice (some ⟨b, off, none⟩) ps.length cap ∧ EvAt w b off ps ∧ b < w.heap.size)
theorem EvArg.below {w w' : World} {ev : Value} {ps : List Pr} (h : EvArg w ev ps) (hb : Below w.heap.size w w') : EvArg w' ev ps := by
  refine ⟨h.1, ?_⟩
  rcases h.2 with h | ⟨b, off, cap, rfl, he, hlt⟩
  · exact .inl h
  · exact .inr ⟨b, off, cap, rfl, he.below hb hlt, Nat.lt_of_lt_of_le hlt hb.size⟩
theorem EvArg.slice {w : World} {ev : Value} {ps : List Pr} (h : EvArg w ev ps) : ∃ a n c, ev = .slice a n c := by
  rcases h.2 with ⟨_, a, cap, rfl⟩ | ⟨b, off, cap, rfl, _⟩
  · exact ⟨_, _, _, rfl⟩
  · exact ⟨_, _, _, rfl⟩
theorem jm3 {w : World} {ev : Value} {ps : List Pr} (h : EvArg w ev ps) (s : ByteArray) :
    Calls Tryz.prog 102 #[ev, .string s] w fun e w' => e = .returned (vV (qy0 ps s.data.toList)) ∧ Below w.heap.size w w' := by
  rcases h.2 with ⟨rfl, a, cap, rfl⟩ | ⟨b, off, cap, rfl, he, hlt⟩
  · exact js6 a cap s w
  · exact find_any b off cap ps s w h.1 he hlt
end
section
def noPl (p : Pay) : Pay := { p with place := 0 }
def qi5 : Ast → Ast
  | .leaf p => .leaf (noPl p)
  | .un p x => .un (noPl p) (qi5 x)
  | .bin p x y => .bin (noPl p) (qi5 x) (qi5 y)
  | .tri p x y z => .tri (noPl p) (qi5 x) (qi5 y) (qi5 z)
theorem vz5 (t : Ast) : opA (qi5 t) = opA t := by cases t <;> rfl
structure TS where
  toks : List Tk
  op : Nat
inductive TRes where
  | ok (t : Ast) (ts : TS)
  | err (en : Int)
def hd (L : List Tk) : Tk := match L with
  | [] => qd5 0
  | k :: _ => k
def TS.tk (ts : TS) : Tk := hd ts.toks
def TS.next (ts : TS) : TS := ⟨ts.toks.tail, ts.op⟩
def qw6 (f : TS → TRes) (ts : TS) (l : Ast) : TRes := match f ts.next with
  | .ok r ts' => .ok (.bin ⟨jn0 ts.tk.kind, 0, 0, [], [], []⟩ l r) ts'
  | .err en => .err en
def qs2 (f : TS → TRes) (ks : List Int) : Nat → Ast → TS → TRes
  | 0, l, ts => .ok l ts
  | n + 1, l, ts => if ks.contains ts.tk.kind then (match qw6 f ts l with
      | .ok l' ts' => qs2 f ks n l' ts'
      | .err en => .err en) else .ok l ts
def vp1 (f : TS → TRes) (ks : List Int) (ts : TS) : TRes := match f ts with
  | .ok l ts' => qs2 f ks (ts'.toks.length + 1) l ts'
  | .err en => .err en
def tIn (ts : TS) : TS := ⟨ts.toks.tail, ts.op + 1⟩
def qw7 (f : TS → TRes) (o : Int) (ts : TS) : TRes := if ts.op = 12 then .err 3 else match f (tIn ts) with
  | .ok x ts' => .ok (.un ⟨o, 0, 0, [], [], []⟩ x) ⟨ts'.toks, ts.op⟩
  | .err en => .err en
def qq7 (f : TS → TRes) (ts : TS) : TRes := if ts.op = 12 then .err 3 else match f (tIn ts) with
  | .ok t ts' => if ts'.tk.kind = 27 then .ok t ⟨ts'.toks.tail, ts.op⟩ else .err 2
  | .err en => .err en
def ji9 (o : Int) (num : Int) (str : List UInt8) : Ast := .leaf ⟨o, 0, num, str, [], []⟩
def qg8 (fS fE : TS → TRes) (ts : TS) : TRes :=
  if ts.tk.kind = 22 then qw7 fS 14 ts else if ts.tk.kind = 23 then qw7 fS 15 ts else if ts.tk.kind = 26 then qq7 fE ts
  else if ts.tk.kind = 2 then .ok (ji9 0 0 ts.tk.str) ts.next
  else if ts.tk.kind = 3 then .ok (ji9 1 ts.tk.num []) ts.next
  else if ts.tk.kind = 4 then .ok (ji9 2 0 ts.tk.str) ts.next
  else if ts.tk.kind = 8 then .ok (ji9 3 0 []) ts.next
  else if ts.tk.kind = 9 then .ok (ji9 4 0 []) ts.next else .err 2
def tNull (l : Ast) : Ast := .un ⟨23, 0, 0, [], [], []⟩ l
def tIsNull (l : Ast) (ts : TS) : TRes :=
  if ts.next.tk.kind = 7 then (if ts.next.next.tk.kind = 15 then .ok (.un ⟨5, 0, 0, [], [], []⟩ (tNull l)) ts.next.next.next else .err 2)
  else if ts.next.tk.kind = 15 then .ok (tNull l) ts.next.next else .err 2
def qg1 (f : TS → TRes) (l : Ast) (ts : TS) : TRes := if ts.tk.kind = 10 then (match f ts.next with
    | .ok lo ts1 => if ts1.tk.kind = 5 then (match f ts1.next with
        | .ok hi ts2 => .ok (.tri ⟨20, 0, 0, [], [], []⟩ l lo hi) ts2
        | .err en => .err en) else .err 2
    | .err en => .err en) else .err 2
def qf4 (l : Ast) : Nat → List (List UInt8) → TS → TRes
  | 0, _, _ => .err 0
  | n + 1, xs, ts => if ts.tk.kind = 28 then (if ts.next.tk.kind = 4 then qf4 l n (xs ++ [ts.next.tk.str]) ts.next.next else .err 2)
      else if ts.tk.kind = 27 then .ok (.un ⟨21, 0, 0, [], [], xs⟩ l) ts.next else .err 2
def tInRes (l : Ast) (ts : TS) : TRes :=
  if ts.next.tk.kind = 26 then (if ts.next.next.tk.kind = 4 then qf4 l (ts.toks.length + 1) [ts.next.next.tk.str] ts.next.next.next else .err 2) else .err 2
def tLike (l : Ast) (ts : TS) : TRes :=
  if ts.next.tk.kind = 4 then
    (if ts.next.next.tk.kind = 13 then
      (if ts.next.next.next.tk.kind = 4 ∧ ts.next.next.next.tk.str.length = 1 ∧ (qv4 ts.next.next.next.tk.str ts.next.tk.str).isSome = true
        then .ok (.un ⟨22, 0, 0, ts.next.tk.str, ts.next.next.next.tk.str, []⟩ l) ts.next.next.next.next else .err 2)
    else .ok (.un ⟨22, 0, 0, ts.next.tk.str, [], []⟩ l) ts.next.next)
  else .err 2
def qe7 (f : TS → TRes) (bare : Bool) (l : Ast) (ts : TS) : TRes :=
  if ts.tk.kind = 11 ∧ bare = true then tInRes l ts else if ts.tk.kind = 12 ∧ bare = true then tLike l ts else qg1 f l ts
def vc0 (f : TS → TRes) (bare : Bool) (l : Ast) (ts : TS) : TRes :=
  if ts.tk.kind = 16 ∨ ts.tk.kind = 17 ∨ ts.tk.kind = 18 ∨ ts.tk.kind = 19 ∨ ts.tk.kind = 20 ∨ ts.tk.kind = 21 then qw6 f ts l
  else if ts.tk.kind = 14 then (if bare = true then tIsNull l ts else .ok l ts)
  else if ts.tk.kind = 7 then (match qe7 f bare l ts.next with
    | .ok t ts' => .ok (.un ⟨5, 0, 0, [], [], []⟩ t) ts'
    | .err en => .err en)
  else if ts.tk.kind = 10 ∨ ts.tk.kind = 11 ∨ ts.tk.kind = 12 then qe7 f bare l ts
  else .ok l ts
def qz8 (f : TS → TRes) (ts : TS) : TRes := match f ts with
  | .ok l ts' => vc0 f (ts.tk.kind == 2 && opA l == 0) l ts'
  | .err en => .err en
def qi8 (fD fT : TS → TRes) (ts : TS) : TRes := if ts.tk.kind = 7 then qw7 fD 5 ts else fT ts
structure T3 where
  S : TS → TRes
  D : TS → TRes
  E : TS → TRes
def tUp (L : T3) : T3 :=
  ⟨qg8 L.S L.E, qi8 L.D (qz8 (vp1 (vp1 (qg8 L.S L.E) [24, 25]) [22, 23])), vp1 (vp1 (qi8 L.D (qz8 (vp1 (vp1 (qg8 L.S L.E) [24, 25]) [22, 23]))) [5]) [6]⟩
def tLvl : Nat → T3
  | 0 => tUp ⟨fun _ => .err 0, fun _ => .err 0, fun _ => .err 0⟩
  | d + 1 => tUp (tLvl d)
inductive Str (s : ByteArray) : St → List Tk → Prop where
  | nil {st : St} (h : st.tk = qd5 0) : Str s st []
  | cons {st : St} {L : List Tk} (h : st.tk.kind ≠ 0) (r : Str s (v8 s st) L) : Str s st (st.tk :: L)
theorem Str.tk {s : ByteArray} {st : St} {L : List Tk} (h : Str s st L) : hd L = st.tk := by
  cases h with
  | nil h => exact h.symm
  | cons _ _ => rfl
theorem Str.next {s : ByteArray} {st : St} {L : List Tk} (h : Str s st L) (hk : st.tk.kind ≠ 0) : Str s (v8 s st) L.tail := by
  cases h with
  | nil h => rw [h] at hk; exact absurd rfl hk
  | cons _ r => exact r
theorem Str.withOp {s : ByteArray} {st : St} {L : List Tk} (h : Str s st L) (n : Nat) : Str s { st with op := n } L := by
  induction h generalizing n with
  | nil h => exact .nil h
  | cons h r ih =>
    rename_i st L
    exact .cons (st := { st with op := n }) h (ih n)
theorem Str.len {s : ByteArray} {st : St} {L : List Tk} (h : Str s st L) : Fine s st → L.length ≤ s.size - st.place := by
  induction h with
  | nil h => intro _; simp
  | cons h r ih =>
    rename_i st L
    intro hf
    have h1 := ih hf.next
    have h2 := hf.lt h
    have h3 := hf.next.place
    simp only [List.length_cons]
    omega
def SimR (s : ByteArray) : Res → TRes → Prop
  | .ok t st, .ok t' ts => qi5 t = t' ∧ Str s st ts.toks ∧ st.op = ts.op ∧ Fine s st
  | .err en _, .err en' => en = en'
  | _, _ => False
def Sim (s : ByteArray) (f : St → Res) (f' : TS → TRes) : Prop := ∀ st ts, Fine s st → Str s st ts.toks → st.op = ts.op → SimR s (f st) (f' ts)
end
end Go.Proofs.YtfkcaldjphakpabGreatDoor
