/- All levels of the reader together. The numbers of what is read fit an int64. What a term is of an event. -/
import Derived.Test.YtfkcaldjphakpaaGreatDoorA06
import Derived.Test.YtfkcaldjphakpaaGreatDoorA08
import Derived.Test.YtfkcaldjphakpaaGreatDoorA07
import Derived.Test.YtfkcaldjphakpaaGreatDoorA09
namespace Go.Proofs.YtfkcaldjphakpaaGreatDoor
open Go.RowKit

section
/-- What reads a signed thing, a denied one, a whole one. -/
structure L3 where
  S : St → Res
  D : St → Res
  E : St → Res

def prodOf (s : ByteArray) (S : St → Res) : St → Res := rowRes s S [24, 25]
def sumOf (s : ByteArray) (S : St → Res) : St → Res := rowRes s (prodOf s S) [22, 23]
def testOf (s : ByteArray) (S : St → Res) : St → Res := testRes s (sumOf s S) (inRes s) (likeRes s)
def eitherOf (s : ByteArray) (D : St → Res) : St → Res := rowRes s (rowRes s D [5]) [6]

def up3 (s : ByteArray) (L : L3) : L3 := ⟨signedRes s L.S L.E, deniedRes s L.D (testOf s (signedRes s L.S L.E)), eitherOf s (deniedRes s L.D (testOf s (signedRes s L.S L.E)))⟩

/-- With so many things that may be opened. -/
def lvl (s : ByteArray) : Nat → L3
  | 0 => up3 s ⟨fun _ => .err 0 0, fun _ => .err 0 0, fun _ => .err 0 0⟩
  | d + 1 => up3 s (lvl s d)

structure Reads3 (rb : Nat) (s : ByteArray) (op : Nat) (L : L3) : Prop where
  S : Reads 301 rb s op L.S
  D : Reads 147 rb s op L.D
  E : Reads 55 rb s op L.E

theorem up3_reads (rb : Nat) (s : ByteArray) (hs : s.size ≤ 200) (op : Nat) (hop : op ≤ 12) (L : L3) (h : op < 12 → Reads3 rb s (op + 1) L) : Reads3 rb s op (up3 s L) := by
  have hS : Reads 301 rb s op (signedRes s L.S L.E) := signed_reads rb s op hop L.S L.E (fun k => (h k).S) (fun k => (h k).E)
  have hP := product_reads rb s op _ hS
  have hU := sum_reads rb s op _ hP
  have hT := test_reads rb s op _ _ _ hU (in_reads rb s op hs) (like_reads rb s op hs)
  have hD := denied_reads rb s op hop L.D _ (fun k => (h k).D) hT
  exact ⟨hS, hD, either_reads rb s op _ (both_reads rb s op _ hD)⟩

theorem lvl_reads (rb : Nat) (s : ByteArray) (hs : s.size ≤ 200) : ∀ (d op : Nat), op + d = 12 → Reads3 rb s op (lvl s d) := by
  intro d
  induction d with
  | zero => intro op h; exact up3_reads rb s hs op (by omega) _ (fun k => by omega)
  | succ d ih => intro op h; exact up3_reads rb s hs op (by omega) _ (fun _ => ih (op + 1) (by omega))

/-- What is read has equations of two sides alone. -/
def Good (f : St → Res) : Prop := ∀ st t st', f st = .ok t st' → WfA t
def GoodT (g : Ast → St → Res) : Prop := ∀ l st t st', WfA l → g l st = .ok t st' → WfA t

theorem Good.join {s : ByteArray} {f : St → Res} (h : Good f) : ∀ st l t st', WfA l → joinRes s f st l = .ok t st' → WfA t := by
  intro st l t st' hl he
  unfold joinRes at he
  split at he
  · rename_i r st2 hr; injection he with h1 _; subst h1; exact ⟨hl, h _ _ _ hr⟩
  · cases he

theorem Good.loop {s : ByteArray} {f : St → Res} {ks : List Int} (h : Good f) : ∀ n l st t st', WfA l → rowLoop s f ks n l st = .ok t st' → WfA t := by
  intro n
  induction n with
  | zero => intro l st t st' hl he; rw [rowLoop] at he; injection he with h1 _; subst h1; exact hl
  | succ n ih =>
    intro l st t st' hl he
    rw [rowLoop] at he
    split at he
    · split at he
      · rename_i hj; exact ih _ _ _ _ (h.join _ _ _ _ hl hj) he
      · cases he
    · injection he with h1 _; subst h1; exact hl

theorem Good.row {s : ByteArray} {f : St → Res} {ks : List Int} (h : Good f) : Good (rowRes s f ks) := by
  intro st t st' he
  unfold rowRes at he
  split at he
  · rename_i hr; exact h.loop _ _ _ _ _ (h _ _ _ hr) he
  · cases he

theorem Good.sign {s : ByteArray} {f : St → Res} (h : Good f) (o : Int) (ho : ¬ o = 8 ∧ ¬ o = 9) : Good (signRes s f o) := by
  intro st t st' he
  unfold signRes at he
  split at he
  · cases he
  · split at he
    · rename_i hr; injection he with h1 _; subst h1; exact ⟨ho, h _ _ _ hr⟩
    · cases he

theorem Good.group {s : ByteArray} {f : St → Res} (h : Good f) : Good (groupRes s f) := by
  intro st t st' he
  unfold groupRes at he
  split at he
  · cases he
  · split at he
    · rename_i hr; split at he
      · injection he with h1 _; subst h1; exact h _ _ _ hr
      · cases he
    · cases he

theorem Good.signed {s : ByteArray} {fS fE : St → Res} (hS : Good fS) (hE : Good fE) : Good (signedRes s fS fE) := by
  intro st t st' he
  unfold signedRes at he
  split at he
  · exact hS.sign 14 (by decide) _ _ _ he
  split at he
  · exact hS.sign 15 (by decide) _ _ _ he
  split at he
  · exact hE.group _ _ _ he
  split at he
  · injection he with h1 _; subst h1; exact ⟨by simp, by simp⟩
  split at he
  · injection he with h1 _; subst h1; exact ⟨by simp, by simp⟩
  split at he
  · injection he with h1 _; subst h1; exact ⟨by simp, by simp⟩
  split at he
  · injection he with h1 _; subst h1; exact ⟨by simp, by simp⟩
  split at he
  · injection he with h1 _; subst h1; exact ⟨by simp, by simp⟩
  · cases he

theorem good_isNull {s : ByteArray} : GoodT (isNullRes s) := by
  intro l st t st' hl he
  unfold isNullRes at he
  split at he
  · split at he
    · injection he with h1 _; subst h1; exact ⟨⟨by simp, by simp⟩, ⟨by simp, by simp⟩, hl⟩
    · cases he
  · split at he
    · injection he with h1 _; subst h1; exact ⟨⟨by simp, by simp⟩, hl⟩
    · cases he

theorem good_inLoop {s : ByteArray} {l : Ast} {pl : Nat} (hl : WfA l) : ∀ n ts st t st', inLoop s l pl n ts st = .ok t st' → WfA t := by
  intro n
  induction n with
  | zero => intro ts st t st' he; rw [inLoop] at he; cases he
  | succ n ih =>
    intro ts st t st' he
    rw [inLoop] at he
    split at he
    · split at he
      · exact ih _ _ _ _ he
      · cases he
    · split at he
      · injection he with h1 _; subst h1; exact ⟨⟨by simp, by simp⟩, hl⟩
      · cases he

theorem good_in {s : ByteArray} : GoodT (inRes s) := by
  intro l st t st' hl he
  unfold inRes at he
  split at he
  · split at he
    · exact good_inLoop hl _ _ _ _ _ he
    · cases he
  · cases he

theorem good_like {s : ByteArray} : GoodT (likeRes s) := by
  intro l st t st' hl he
  unfold likeRes at he
  repeat' split at he
  all_goals first | (injection he with h1 _; subst h1; exact ⟨⟨by simp, by simp⟩, hl⟩) | cases he

theorem Good.between {s : ByteArray} {f : St → Res} (h : Good f) : GoodT (betweenRes s f) := by
  intro l st t st' hl he
  unfold betweenRes at he
  split at he
  · split at he
    · rename_i h1; split at he
      · split at he
        · rename_i h2; injection he with h3 _; subst h3; exact ⟨⟨by simp, by simp⟩, hl, h _ _ _ h1, h _ _ _ h2⟩
        · cases he
      · cases he
    · cases he
  · cases he

theorem Good.keyword {s : ByteArray} {f : St → Res} (h : Good f) (bare : Bool) : GoodT (keywordRes s f (inRes s) (likeRes s) bare) := by
  intro l st t st' hl he
  unfold keywordRes at he
  split at he
  · exact good_in _ _ _ _ hl he
  split at he
  · exact good_like _ _ _ _ hl he
  · exact h.between _ _ _ _ hl he

theorem Good.test {s : ByteArray} {f : St → Res} (h : Good f) : Good (testRes s f (inRes s) (likeRes s)) := by
  intro st t st' he
  unfold testRes at he
  split at he
  · rename_i hr
    have hl := h _ _ _ hr
    unfold tailRes at he
    split at he
    · exact h.join _ _ _ _ hl he
    split at he
    · split at he
      · exact good_isNull _ _ _ _ hl he
      · injection he with h1 _; subst h1; exact hl
    split at he
    · split at he
      · rename_i hk; injection he with h1 _; subst h1; exact ⟨⟨by simp, by simp⟩, h.keyword _ _ _ _ _ hl hk⟩
      · cases he
    split at he
    · exact h.keyword _ _ _ _ _ hl he
    · injection he with h1 _; subst h1; exact hl
  · cases he

theorem Good.denied {s : ByteArray} {fD fT : St → Res} (hD : Good fD) (hT : Good fT) : Good (deniedRes s fD fT) := by
  intro st t st' he
  unfold deniedRes at he
  split at he
  · exact hD.sign 5 (by decide) _ _ _ he
  · exact hT _ _ _ he

structure Good3 (L : L3) : Prop where
  S : Good L.S
  D : Good L.D
  E : Good L.E

theorem up3_good {s : ByteArray} {L : L3} (h : Good3 L) : Good3 (up3 s L) := by
  have hS := Good.signed (s := s) h.S h.E
  have hD := Good.denied (s := s) h.D (Good.test (s := s) ((hS.row (s := s) (ks := [24, 25])).row (s := s) (ks := [22, 23])))
  exact ⟨hS, hD, (hD.row (s := s) (ks := [5])).row (s := s) (ks := [6])⟩

theorem lvl_good (s : ByteArray) : ∀ d, Good3 (lvl s d) := by
  intro d
  induction d with
  | zero => exact up3_good ⟨(fun _ _ _ h => by cases h), (fun _ _ _ h => by cases h), (fun _ _ _ h => by cases h)⟩
  | succ d ih => exact up3_good ih
end

section
theorem rngN {n : Nat} (h : n ≤ 9223372036854775807) : Rng (n : Int) := ⟨by omega, by omega⟩
theorem rngZ : Rng 0 := ⟨by decide, by decide⟩

def TkOk (st : St) : Prop := Rng st.tk.num

theorem firstTk_num (l : List UInt8) : Rng (firstTk l).num := by
  unfold firstTk
  split
  · exact rngZ
  · split
    · unfold wordTk; split <;> exact rngZ
    split
    · unfold numTk; split
      · rename_i h; exact rngN h
      · exact rngZ
    split
    · unfold quotTk; split <;> exact rngZ
    · exact rngZ

theorem stepSt_tk (s : ByteArray) (st : St) : TkOk (stepSt s st) := by
  show Rng (nextTk s.data.toList st.after).num
  unfold nextTk
  split
  · exact firstTk_num _
  · exact rngZ

def NumA : Ast → Prop
  | .leaf p => Rng p.num
  | .un p x => Rng p.num ∧ NumA x
  | .bin p x y => Rng p.num ∧ NumA x ∧ NumA y
  | .tri p x y z => Rng p.num ∧ NumA x ∧ NumA y ∧ NumA z

def NGood (f : St → Res) : Prop := ∀ st t st', TkOk st → f st = .ok t st' → NumA t ∧ TkOk st'
def NGoodT (g : Ast → St → Res) : Prop := ∀ l st t st', NumA l → TkOk st → g l st = .ok t st' → NumA t ∧ TkOk st'

theorem NGood.join {s : ByteArray} {f : St → Res} (h : NGood f) : ∀ st l t st', NumA l → joinRes s f st l = .ok t st' → NumA t ∧ TkOk st' := by
  intro st l t st' hl he
  unfold joinRes at he
  split at he
  · rename_i r st2 hr; injection he with h1 h2; subst h1; subst h2
    have := h _ _ _ (stepSt_tk s st) hr
    exact ⟨⟨rngZ, hl, this.1⟩, this.2⟩
  · cases he

theorem NGood.loop {s : ByteArray} {f : St → Res} {ks : List Int} (h : NGood f) : ∀ n l st t st', NumA l → TkOk st → rowLoop s f ks n l st = .ok t st' → NumA t ∧ TkOk st' := by
  intro n
  induction n with
  | zero => intro l st t st' hl hs he; rw [rowLoop] at he; injection he with h1 h2; subst h1; subst h2; exact ⟨hl, hs⟩
  | succ n ih =>
    intro l st t st' hl hs he
    rw [rowLoop] at he
    split at he
    · split at he
      · rename_i hj; have := h.join _ _ _ _ hl hj; exact ih _ _ _ _ this.1 this.2 he
      · cases he
    · injection he with h1 h2; subst h1; subst h2; exact ⟨hl, hs⟩

theorem NGood.row {s : ByteArray} {f : St → Res} {ks : List Int} (h : NGood f) : NGood (rowRes s f ks) := by
  intro st t st' hs he
  unfold rowRes at he
  split at he
  · rename_i hr; have := h _ _ _ hs hr; exact h.loop _ _ _ _ _ this.1 this.2 he
  · cases he

theorem NGood.sign {s : ByteArray} {f : St → Res} (h : NGood f) (o : Int) : NGood (signRes s f o) := by
  intro st t st' _ he
  unfold signRes at he
  split at he
  · cases he
  · split at he
    · rename_i hr; injection he with h1 h2; subst h1; subst h2
      have := h (inSt s st) _ _ (stepSt_tk s st) hr
      exact ⟨⟨rngZ, this.1⟩, this.2⟩
    · cases he

theorem NGood.group {s : ByteArray} {f : St → Res} (h : NGood f) : NGood (groupRes s f) := by
  intro st t st' _ he
  unfold groupRes at he
  split at he
  · cases he
  · split at he
    · rename_i hr; split at he
      · injection he with h1 h2; subst h1; subst h2
        exact ⟨(h (inSt s st) _ _ (stepSt_tk s st) hr).1, stepSt_tk s _⟩
      · cases he
    · cases he

theorem NGood.signed {s : ByteArray} {fS fE : St → Res} (hS : NGood fS) (hE : NGood fE) : NGood (signedRes s fS fE) := by
  intro st t st' hs he
  unfold signedRes at he
  split at he
  · exact hS.sign 14 _ _ _ hs he
  split at he
  · exact hS.sign 15 _ _ _ hs he
  split at he
  · exact hE.group _ _ _ hs he
  split at he
  · injection he with h1 h2; subst h1; subst h2; exact ⟨rngZ, stepSt_tk s st⟩
  split at he
  · injection he with h1 h2; subst h1; subst h2; exact ⟨hs, stepSt_tk s st⟩
  split at he
  · injection he with h1 h2; subst h1; subst h2; exact ⟨rngZ, stepSt_tk s st⟩
  split at he
  · injection he with h1 h2; subst h1; subst h2; exact ⟨rngZ, stepSt_tk s st⟩
  split at he
  · injection he with h1 h2; subst h1; subst h2; exact ⟨rngZ, stepSt_tk s st⟩
  · cases he

theorem num_isNull {s : ByteArray} : NGoodT (isNullRes s) := by
  intro l st t st' hl _ he
  unfold isNullRes at he
  split at he
  · split at he
    · injection he with h1 h2; subst h1; subst h2; exact ⟨⟨rngZ, rngZ, hl⟩, stepSt_tk s _⟩
    · cases he
  · split at he
    · injection he with h1 h2; subst h1; subst h2; exact ⟨⟨rngZ, hl⟩, stepSt_tk s _⟩
    · cases he

theorem num_inLoop {s : ByteArray} {l : Ast} {pl : Nat} (hl : NumA l) : ∀ n ts st t st', inLoop s l pl n ts st = .ok t st' → NumA t ∧ TkOk st' := by
  intro n
  induction n with
  | zero => intro ts st t st' he; rw [inLoop] at he; cases he
  | succ n ih =>
    intro ts st t st' he
    rw [inLoop] at he
    split at he
    · split at he
      · exact ih _ _ _ _ he
      · cases he
    · split at he
      · injection he with h1 h2; subst h1; subst h2; exact ⟨⟨rngZ, hl⟩, stepSt_tk s _⟩
      · cases he

theorem num_in {s : ByteArray} : NGoodT (inRes s) := by
  intro l st t st' hl _ he
  unfold inRes at he
  split at he
  · split at he
    · exact num_inLoop hl _ _ _ _ _ he
    · cases he
  · cases he

theorem num_like {s : ByteArray} : NGoodT (likeRes s) := by
  intro l st t st' hl _ he
  unfold likeRes at he
  split at he
  · split at he
    · split at he
      · rename_i hk; injection he with h1 h2; subst h1; subst h2; rw [(escRes_ok hk).2]; exact ⟨⟨rngZ, hl⟩, stepSt_tk s _⟩
      · cases he
    · injection he with h1 h2; subst h1; subst h2; exact ⟨⟨rngZ, hl⟩, stepSt_tk s _⟩
  · cases he

theorem NGood.between {s : ByteArray} {f : St → Res} (h : NGood f) : NGoodT (betweenRes s f) := by
  intro l st t st' hl _ he
  unfold betweenRes at he
  split at he
  · split at he
    · rename_i h1; split at he
      · split at he
        · rename_i h2; injection he with h3 h4; subst h3; subst h4
          have a := h _ _ _ (stepSt_tk s _) h1
          have b := h _ _ _ (stepSt_tk s _) h2
          exact ⟨⟨rngZ, hl, a.1, b.1⟩, b.2⟩
        · cases he
      · cases he
    · cases he
  · cases he

theorem NGood.keyword {s : ByteArray} {f : St → Res} (h : NGood f) (bare : Bool) : NGoodT (keywordRes s f (inRes s) (likeRes s) bare) := by
  intro l st t st' hl hs he
  unfold keywordRes at he
  split at he
  · exact num_in _ _ _ _ hl hs he
  split at he
  · exact num_like _ _ _ _ hl hs he
  · exact h.between _ _ _ _ hl hs he

theorem NGood.test {s : ByteArray} {f : St → Res} (h : NGood f) : NGood (testRes s f (inRes s) (likeRes s)) := by
  intro st t st' hs he
  unfold testRes at he
  split at he
  · rename_i hr
    obtain ⟨hl, hs1⟩ := h _ _ _ hs hr
    unfold tailRes at he
    split at he
    · exact h.join _ _ _ _ hl he
    split at he
    · split at he
      · exact num_isNull _ _ _ _ hl hs1 he
      · injection he with h1 h2; subst h1; subst h2; exact ⟨hl, hs1⟩
    split at he
    · split at he
      · rename_i hk; injection he with h1 h2; subst h1; subst h2
        have := h.keyword _ _ _ _ _ hl (stepSt_tk s _) hk
        exact ⟨⟨rngZ, this.1⟩, this.2⟩
      · cases he
    split at he
    · exact h.keyword _ _ _ _ _ hl hs1 he
    · injection he with h1 h2; subst h1; subst h2; exact ⟨hl, hs1⟩
  · cases he

theorem NGood.denied {s : ByteArray} {fD fT : St → Res} (hD : NGood fD) (hT : NGood fT) : NGood (deniedRes s fD fT) := by
  intro st t st' hs he
  unfold deniedRes at he
  split at he
  · exact hD.sign 5 _ _ _ hs he
  · exact hT _ _ _ hs he

structure NGood3 (L : L3) : Prop where
  S : NGood L.S
  D : NGood L.D
  E : NGood L.E

theorem up3_num {s : ByteArray} {L : L3} (h : NGood3 L) : NGood3 (up3 s L) := by
  have hS := NGood.signed (s := s) h.S h.E
  have hD := NGood.denied (s := s) h.D (NGood.test (s := s) ((hS.row (s := s) (ks := [24, 25])).row (s := s) (ks := [22, 23])))
  exact ⟨hS, hD, (hD.row (s := s) (ks := [5])).row (s := s) (ks := [6])⟩

theorem lvl_num (s : ByteArray) : ∀ d, NGood3 (lvl s d) := by
  intro d
  induction d with
  | zero => exact up3_num ⟨(fun _ _ _ _ h => by cases h), (fun _ _ _ _ h => by cases h), (fun _ _ _ _ h => by cases h)⟩
  | succ d ih => exact up3_num ih
end

section
/-- Which ends can be reached: of one piece. -/
def nextB (p : Pc) (t : List UInt8) (e : Nat → Bool) : Nat → Bool
  | 0 => p.kind == 2 && e 0
  | j + 1 => if p.kind == 2 then e (j + 1) || nextB p t e j else if p.kind == 1 then e j else e j && t.getD j 0 == p.c

def fitB' (ps : List Pc) (t : List UInt8) (e : Nat → Bool) : Bool := match ps with
  | [] => e t.length
  | p :: r => fitB' r t (nextB p t e)

def fitsB (pat esc t : List UInt8) : Bool := match cutL esc pat with
  | none => false
  | some ps => fitB' ps t fun j => j == 0

def likeV (x : V) (pat esc : List UInt8) : V := if x.kind == 3 then bV (fitsB pat esc x.str) else nV
def amongV (x : V) (ts : List (List UInt8)) : V := ts.foldl (fun f t => orV f (eqV x (tV t))) (bV false)

def joinN (p : Pay) (x y z : V) : V :=
  if p.op = 20 then andV (leV y x) (leV x z) else if p.op = 21 then amongV x p.texts else if p.op = 22 then likeV x p.str p.esc else joinV p.op x y

def ofN (ps : List Pr) (p : Pay) (s : List V) : V :=
  if p.op = 0 then findV ps p.str else if p.op = 1 then iV p.num else if p.op = 2 then tV p.str else if p.op = 3 then bV true else if p.op = 4 then bV false
  else joinN p (s.getD 0 nV) (s.getD 1 nV) (s.getD 2 nV)

def ofA (ps : List Pr) : Ast → V
  | .leaf p => ofN ps p []
  | .un p x => ofN ps p [ofA ps x]
  | .bin p x y => ofN ps p [ofA ps x, ofA ps y]
  | .tri p x y z => ofN ps p [ofA ps x, ofA ps y, ofA ps z]

theorem ofA_eq (ps : List Pr) (t : Ast) : ofA ps t = ofN ps (payA t) ((sidesA t).map (ofA ps)) := by cases t <;> rfl

/-- Values' numbers fit. -/
theorem rng_b (b : Bool) : Rng (bV b).num := by cases b <;> exact ⟨by decide, by decide⟩
theorem rng_n : Rng nV.num := ⟨by decide, by decide⟩
theorem rng_fit {n : Int} (h : fitB n = true) : Rng (iV n).num := by
  simp [fitB] at h; exact h
theorem rng_not (x : V) : Rng (notV x).num := by unfold notV; split; exact rng_b _; exact rng_n
theorem rng_and (x y : V) : Rng (andV x y).num := by unfold andV; split; exact rng_b _; split; exact rng_b _; exact rng_n
theorem rng_or (x y : V) : Rng (orV x y).num := by unfold orV; split; exact rng_b _; split; exact rng_b _; exact rng_n
theorem rng_eq (x y : V) : Rng (eqV x y).num := by unfold eqV; split; exact rng_n; exact rng_b _
theorem rng_less (x y : V) : Rng (lessV x y).num := by unfold lessV; split; exact rng_b _; exact rng_n
theorem rng_le (x y : V) : Rng (leV x y).num := by unfold leV; split; exact rng_b _; exact rng_n
theorem rng_add (x y : V) : Rng (addV x y).num := by
  unfold addV; split
  · rename_i h; simp only [Bool.and_eq_true] at h; exact rng_fit h.2
  · exact rng_n
theorem rng_sub (x y : V) : Rng (subV x y).num := by
  unfold subV; split
  · rename_i h; simp only [Bool.and_eq_true] at h; exact rng_fit h.2
  · exact rng_n
theorem rng_mul (x y : V) : Rng (mulV x y).num := by
  unfold mulV; split
  · rename_i h; simp only [Bool.and_eq_true] at h; exact rng_fit h.2
  · exact rng_n
theorem rng_div (x y : V) : Rng (divV x y).num := by
  unfold divV; split
  · rename_i h; simp only [Bool.and_eq_true] at h; exact rng_fit h.2
  · exact rng_n
theorem rng_ite {c : Prop} [Decidable c] {a b : V} (ha : Rng a.num) (hb : Rng b.num) : Rng (if c then a else b).num := by
  split
  · exact ha
  · exact hb
theorem rng_join (op : Int) (x y : V) : Rng (joinV op x y).num := by
  unfold joinV
  exact rng_ite (rng_not _) (rng_ite (rng_and _ _) (rng_ite (rng_or _ _) (rng_ite (rng_eq _ _) (rng_ite (rng_not _) (rng_ite (rng_less _ _) (rng_ite (rng_less _ _) (rng_ite (rng_le _ _) (rng_ite (rng_le _ _) (rng_ite (rng_add _ _) (rng_ite (rng_add _ _) (rng_ite (rng_sub _ _) (rng_ite (rng_sub _ _) (rng_ite (rng_mul _ _) (rng_ite (rng_div _ _) (rng_b _)))))))))))))))
theorem rng_among (x : V) (ts : List (List UInt8)) : ∀ f : V, Rng f.num → Rng (ts.foldl (fun f t => orV f (eqV x (tV t))) f).num := by
  induction ts with
  | nil => intro f h; exact h
  | cons t r ih => intro f _; exact ih _ (rng_or _ _)
theorem rng_joinN (p : Pay) (x y z : V) : Rng (joinN p x y z).num := by
  unfold joinN
  split
  · exact rng_and _ _
  split
  · exact rng_among x _ _ (rng_b _)
  split
  · unfold likeV; split; exact rng_b _; exact rng_n
  · exact rng_join _ _ _

def EvRng (ps : List Pr) : Prop := ∀ p ∈ ps, Rng p.val.num

theorem rng_find {ps : List Pr} (h : EvRng ps) (n : List UInt8) : Rng (findV ps n).num := by
  unfold findV
  split
  · rename_i p hp; exact h p (List.mem_of_find?_eq_some hp)
  · exact rng_n

theorem rng_of {ps : List Pr} (h : EvRng ps) {p : Pay} (hp : Rng p.num) (s : List V) : Rng (ofN ps p s).num := by
  unfold ofN
  split
  · exact rng_find h _
  split
  · exact hp
  split
  · exact rngZ
  split
  · exact rng_b _
  split
  · exact rng_b _
  · exact rng_joinN _ _ _ _

theorem rng_ofA {ps : List Pr} (h : EvRng ps) : ∀ t, NumA t → Rng (ofA ps t).num := by
  intro t
  cases t with
  | leaf p => intro hn; exact rng_of h hn _
  | un p x => intro hn; exact rng_of h hn.1 _
  | bin p x y => intro hn; exact rng_of h hn.1 _
  | tri p x y z => intro hn; exact rng_of h hn.1 _

/-- An event as an argument. -/
def EvArg (w : World) (ev : Value) (ps : List Pr) : Prop :=
  ps.length ≤ 8 ∧ ((ps = [] ∧ ∃ a cap, ev = .slice a 0 cap) ∨ ∃ b off cap, ev = .slice (some ⟨b, off, none⟩) ps.length cap ∧ EvAt w b off ps ∧ b < w.heap.size)

theorem EvArg.below {w w' : World} {ev : Value} {ps : List Pr} (h : EvArg w ev ps) (hb : Below w.heap.size w w') : EvArg w' ev ps := by
  refine ⟨h.1, ?_⟩
  rcases h.2 with h | ⟨b, off, cap, rfl, he, hlt⟩
  · exact .inl h
  · exact .inr ⟨b, off, cap, rfl, he.below hb hlt, Nat.lt_of_lt_of_le hlt hb.size⟩

theorem EvArg.slice {w : World} {ev : Value} {ps : List Pr} (h : EvArg w ev ps) : ∃ a n c, ev = .slice a n c := by
  rcases h.2 with ⟨_, a, cap, rfl⟩ | ⟨b, off, cap, rfl, _⟩
  · exact ⟨_, _, _, rfl⟩
  · exact ⟨_, _, _, rfl⟩

theorem find_arg {w : World} {ev : Value} {ps : List Pr} (h : EvArg w ev ps) (s : ByteArray) :
    Calls Tryz.prog 61 #[ev, .string s] w fun e w' => e = .returned (vV (findV ps s.data.toList)) ∧ Below w.heap.size w w' := by
  rcases h.2 with ⟨rfl, a, cap, rfl⟩ | ⟨b, off, cap, rfl, he, hlt⟩
  · exact find_empty a cap s w
  · exact find_any b off cap ps s w h.1 he hlt
end

end Go.Proofs.YtfkcaldjphakpaaGreatDoor
