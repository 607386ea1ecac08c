/- Quoted texts and patterns, as lists of bytes. Reading a list of tokens, places left out; it goes as reading a text goes. Reading a list of tokens goes as reading a text goes: rows, signs, groups. Reading a list of tokens goes as reading a text goes: the rest. Reading a list of tokens goes as reading a text goes: tests, and all levels. The strings of what is read are short, its texts few. from: the ends that one more piece can reach. Fits. -/
import Derived.Test.YtfkcaldjphakpaaGreatDoorA10
import Derived.Test.YtfkcaldjphakpaaGreatDoorA01
import Derived.Test.YtfkcaldjphakpaaGreatDoorA09
import Derived.Deep.QuietTactic
import Derived.BigQuiet
import Derived.Deep.OwnRows
import Derived.Deep.RegionHeld3
namespace Go.Proofs.YtfkcaldjphakpaaGreatDoor
open Go.RowKit

section
/-- A text as it stands between its quotes. -/
def dblL : List UInt8 → List UInt8
  | [] => []
  | c :: r => if c == 39 then 39 :: 39 :: dblL r else c :: dblL r
theorem dblL_len (a : List UInt8) : (dblL a).length ≤ 2 * a.length := by
  induction a with
  | nil => exact Nat.le_refl _
  | cons c r ih => rw [dblL]; split <;> simp <;> omega
theorem quotF_end (r : List UInt8) (h : ∀ c, r.head? = some c → (c == 39) = false) : quotF (39 :: r) = some ([], 1) := by
  cases r with
  | nil => rfl
  | cons d t => rw [quotF, if_pos (by decide), if_neg (by rw [h d rfl]; decide)]

theorem quotF_dbl (r : List UInt8) (h : ∀ c, r.head? = some c → (c == 39) = false) (s : List UInt8) : quotF (dblL s ++ 39 :: r) = some (s, (dblL s).length + 1) := by
  induction s with
  | nil => exact quotF_end r h
  | cons c t ih =>
    rw [dblL]
    by_cases hc : (c == 39) = true
    · rw [if_pos hc]
      show quotF (39 :: 39 :: (dblL t ++ 39 :: r)) = _
      rw [quotF, if_pos (by decide), if_pos (by decide), ih, eq_of_beq hc]
      rfl
    · rw [if_neg hc]
      cases hd : dblL t ++ 39 :: r with
      | nil => simp at hd
      | cons d u =>
        show quotF (c :: (dblL t ++ 39 :: r)) = _
        rw [hd, quotF, if_neg hc, ← hd, ih]
        rfl
end

section
/-- A term without its places. -/
def noPl (p : Pay) : Pay := { p with place := 0 }
def erase : Ast → Ast
  | .leaf p => .leaf (noPl p)
  | .un p x => .un (noPl p) (erase x)
  | .bin p x y => .bin (noPl p) (erase x) (erase y)
  | .tri p x y z => .tri (noPl p) (erase x) (erase y) (erase z)

theorem opA_erase (t : Ast) : opA (erase t) = opA t := by cases t <;> rfl

/-- The tokens that are left, and how many things are open. -/
structure TS where
  toks : List Tk
  op : Nat

inductive TRes where
  | ok (t : Ast) (ts : TS)
  | err (en : Int)

def hd (L : List Tk) : Tk := match L with
  | [] => plainTk 0
  | k :: _ => k
def TS.tk (ts : TS) : Tk := hd ts.toks
def TS.next (ts : TS) : TS := ⟨ts.toks.tail, ts.op⟩

def tJoin (f : TS → TRes) (ts : TS) (l : Ast) : TRes := match f ts.next with
  | .ok r ts' => .ok (.bin ⟨opOf ts.tk.kind, 0, 0, [], [], []⟩ l r) ts'
  | .err en => .err en
def tLoop (f : TS → TRes) (ks : List Int) : Nat → Ast → TS → TRes
  | 0, l, ts => .ok l ts
  | n + 1, l, ts => if ks.contains ts.tk.kind then (match tJoin f ts l with
      | .ok l' ts' => tLoop f ks n l' ts'
      | .err en => .err en) else .ok l ts
def tRow (f : TS → TRes) (ks : List Int) (ts : TS) : TRes := match f ts with
  | .ok l ts' => tLoop f ks (ts'.toks.length + 1) l ts'
  | .err en => .err en
def tIn (ts : TS) : TS := ⟨ts.toks.tail, ts.op + 1⟩
def tSign (f : TS → TRes) (o : Int) (ts : TS) : TRes := if ts.op = 12 then .err 3 else match f (tIn ts) with
  | .ok x ts' => .ok (.un ⟨o, 0, 0, [], [], []⟩ x) ⟨ts'.toks, ts.op⟩
  | .err en => .err en
def tGroup (f : TS → TRes) (ts : TS) : TRes := if ts.op = 12 then .err 3 else match f (tIn ts) with
  | .ok t ts' => if ts'.tk.kind = 27 then .ok t ⟨ts'.toks.tail, ts.op⟩ else .err 2
  | .err en => .err en
def tLeaf (o : Int) (num : Int) (str : List UInt8) : Ast := .leaf ⟨o, 0, num, str, [], []⟩
def tSigned (fS fE : TS → TRes) (ts : TS) : TRes :=
  if ts.tk.kind = 22 then tSign fS 14 ts else if ts.tk.kind = 23 then tSign fS 15 ts else if ts.tk.kind = 26 then tGroup fE ts
  else if ts.tk.kind = 2 then .ok (tLeaf 0 0 ts.tk.str) ts.next
  else if ts.tk.kind = 3 then .ok (tLeaf 1 ts.tk.num []) ts.next
  else if ts.tk.kind = 4 then .ok (tLeaf 2 0 ts.tk.str) ts.next
  else if ts.tk.kind = 8 then .ok (tLeaf 3 0 []) ts.next
  else if ts.tk.kind = 9 then .ok (tLeaf 4 0 []) ts.next else .err 2
def tNull (l : Ast) : Ast := .un ⟨23, 0, 0, [], [], []⟩ l
def tIsNull (l : Ast) (ts : TS) : TRes :=
  if ts.next.tk.kind = 7 then (if ts.next.next.tk.kind = 15 then .ok (.un ⟨5, 0, 0, [], [], []⟩ (tNull l)) ts.next.next.next else .err 2)
  else if ts.next.tk.kind = 15 then .ok (tNull l) ts.next.next else .err 2
def tBetween (f : TS → TRes) (l : Ast) (ts : TS) : TRes := if ts.tk.kind = 10 then (match f ts.next with
    | .ok lo ts1 => if ts1.tk.kind = 5 then (match f ts1.next with
        | .ok hi ts2 => .ok (.tri ⟨20, 0, 0, [], [], []⟩ l lo hi) ts2
        | .err en => .err en) else .err 2
    | .err en => .err en) else .err 2
def tInLoop (l : Ast) : Nat → List (List UInt8) → TS → TRes
  | 0, _, _ => .err 0
  | n + 1, xs, ts => if ts.tk.kind = 28 then (if ts.next.tk.kind = 4 then tInLoop l n (xs ++ [ts.next.tk.str]) ts.next.next else .err 2)
      else if ts.tk.kind = 27 then .ok (.un ⟨21, 0, 0, [], [], xs⟩ l) ts.next else .err 2
def tInRes (l : Ast) (ts : TS) : TRes :=
  if ts.next.tk.kind = 26 then (if ts.next.next.tk.kind = 4 then tInLoop l (ts.toks.length + 1) [ts.next.next.tk.str] ts.next.next.next else .err 2) else .err 2
def tLike (l : Ast) (ts : TS) : TRes :=
  if ts.next.tk.kind = 4 then
    (if ts.next.next.tk.kind = 13 then
      (if ts.next.next.next.tk.kind = 4 ∧ ts.next.next.next.tk.str.length = 1 ∧ (cutL ts.next.next.next.tk.str ts.next.tk.str).isSome = true
        then .ok (.un ⟨22, 0, 0, ts.next.tk.str, ts.next.next.next.tk.str, []⟩ l) ts.next.next.next.next else .err 2)
    else .ok (.un ⟨22, 0, 0, ts.next.tk.str, [], []⟩ l) ts.next.next)
  else .err 2
def tKeyword (f : TS → TRes) (bare : Bool) (l : Ast) (ts : TS) : TRes :=
  if ts.tk.kind = 11 ∧ bare = true then tInRes l ts else if ts.tk.kind = 12 ∧ bare = true then tLike l ts else tBetween f l ts
def tTail (f : TS → TRes) (bare : Bool) (l : Ast) (ts : TS) : TRes :=
  if ts.tk.kind = 16 ∨ ts.tk.kind = 17 ∨ ts.tk.kind = 18 ∨ ts.tk.kind = 19 ∨ ts.tk.kind = 20 ∨ ts.tk.kind = 21 then tJoin f ts l
  else if ts.tk.kind = 14 then (if bare = true then tIsNull l ts else .ok l ts)
  else if ts.tk.kind = 7 then (match tKeyword f bare l ts.next with
    | .ok t ts' => .ok (.un ⟨5, 0, 0, [], [], []⟩ t) ts'
    | .err en => .err en)
  else if ts.tk.kind = 10 ∨ ts.tk.kind = 11 ∨ ts.tk.kind = 12 then tKeyword f bare l ts
  else .ok l ts
def tTest (f : TS → TRes) (ts : TS) : TRes := match f ts with
  | .ok l ts' => tTail f (ts.tk.kind == 2 && opA l == 0) l ts'
  | .err en => .err en
def tDenied (fD fT : TS → TRes) (ts : TS) : TRes := if ts.tk.kind = 7 then tSign fD 5 ts else fT ts

structure T3 where
  S : TS → TRes
  D : TS → TRes
  E : TS → TRes
def tUp (L : T3) : T3 :=
  ⟨tSigned L.S L.E, tDenied L.D (tTest (tRow (tRow (tSigned L.S L.E) [24, 25]) [22, 23])), tRow (tRow (tDenied L.D (tTest (tRow (tRow (tSigned L.S L.E) [24, 25]) [22, 23]))) [5]) [6]⟩
def tLvl : Nat → T3
  | 0 => tUp ⟨fun _ => .err 0, fun _ => .err 0, fun _ => .err 0⟩
  | d + 1 => tUp (tLvl d)

/-- The tokens of a text from the reader's on. -/
inductive Str (s : ByteArray) : St → List Tk → Prop where
  | nil {st : St} (h : st.tk = plainTk 0) : Str s st []
  | cons {st : St} {L : List Tk} (h : st.tk.kind ≠ 0) (r : Str s (stepSt s st) L) : Str s st (st.tk :: L)

theorem Str.tk {s : ByteArray} {st : St} {L : List Tk} (h : Str s st L) : hd L = st.tk := by
  cases h with
  | nil h => exact h.symm
  | cons _ _ => rfl
theorem Str.next {s : ByteArray} {st : St} {L : List Tk} (h : Str s st L) (hk : st.tk.kind ≠ 0) : Str s (stepSt s st) L.tail := by
  cases h with
  | nil h => rw [h] at hk; exact absurd rfl hk
  | cons _ r => exact r
theorem Str.withOp {s : ByteArray} {st : St} {L : List Tk} (h : Str s st L) (n : Nat) : Str s { st with op := n } L := by
  induction h generalizing n with
  | nil h => exact .nil h
  | cons h r ih =>
    rename_i st L
    exact .cons (st := { st with op := n }) h (ih n)
theorem Str.len {s : ByteArray} {st : St} {L : List Tk} (h : Str s st L) : Fine s st → L.length ≤ s.size - st.place := by
  induction h with
  | nil h => intro _; simp
  | cons h r ih =>
    rename_i st L
    intro hf
    have h1 := ih hf.next
    have h2 := hf.lt h
    have h3 := hf.next.place
    simp only [List.length_cons]
    omega

def SimR (s : ByteArray) : Res → TRes → Prop
  | .ok t st, .ok t' ts => erase t = t' ∧ Str s st ts.toks ∧ st.op = ts.op ∧ Fine s st
  | .err en _, .err en' => en = en'
  | _, _ => False
def Sim (s : ByteArray) (f : St → Res) (f' : TS → TRes) : Prop := ∀ st ts, Fine s st → Str s st ts.toks → st.op = ts.op → SimR s (f st) (f' ts)
end

section
theorem SimR.cases {s : ByteArray} {r : Res} {r' : TRes} (h : SimR s r r') : (∃ t st ts, r = .ok t st ∧ r' = .ok (erase t) ts ∧ Str s st ts.toks ∧ st.op = ts.op ∧ Fine s st) ∨ ∃ en pl, r = .err en pl ∧ r' = .err en := by
  cases r with
  | ok t st =>
    cases r' with
    | ok t' ts => obtain ⟨rfl, h2, h3, h4⟩ := h; exact .inl ⟨t, st, ts, rfl, rfl, h2, h3, h4⟩
    | err en => exact h.elim
  | err en pl =>
    cases r' with
    | ok t' ts => exact h.elim
    | err en' => obtain rfl : en = en' := h; exact .inr ⟨en, pl, rfl, rfl⟩

theorem kind_eq {s : ByteArray} {st : St} {ts : TS} (h : Str s st ts.toks) : ts.tk = st.tk := h.tk

theorem Sim.join {s : ByteArray} {f : St → Res} {f' : TS → TRes} (h : Sim s f f') (st : St) (ts : TS) (l : Ast) (hf : Fine s st) (hs : Str s st ts.toks) (ho : st.op = ts.op) (hk : st.tk.kind ≠ 0) : SimR s (joinRes s f st l) (tJoin f' ts (erase l)) := by
  have := h (stepSt s st) ts.next hf.next (hs.next hk) ho
  unfold joinRes tJoin
  rw [kind_eq hs]
  rcases this.cases with ⟨t, st2, ts2, h1, h2, h3, h4, h5⟩ | ⟨en, pl, h1, h2⟩
  · rw [h1, h2]; exact ⟨rfl, h3, h4, h5⟩
  · rw [h1, h2]; rfl

/-- No more is left than there was. -/
def Shr (f : TS → TRes) : Prop := ∀ ts t ts', f ts = .ok t ts' → ts'.toks.length ≤ ts.toks.length
def ShrT (g : Ast → TS → TRes) : Prop := ∀ l ts t ts', g l ts = .ok t ts' → ts'.toks.length ≤ ts.toks.length

theorem tail_le (L : List Tk) : L.tail.length ≤ L.length := by rw [List.length_tail]; omega
theorem next_le (ts : TS) : ts.next.toks.length ≤ ts.toks.length := tail_le _

theorem Shr.join {f : TS → TRes} (h : Shr f) (ts : TS) (l t : Ast) (ts' : TS) (he : tJoin f ts l = .ok t ts') : ts'.toks.length ≤ ts.next.toks.length := by
  unfold tJoin at he
  split at he
  · rename_i hr; injection he with _ h2; subst h2; exact h _ _ _ hr
  · cases he
theorem Shr.loop {f : TS → TRes} (h : Shr f) (ks : List Int) : ∀ n l ts t ts', tLoop f ks n l ts = .ok t ts' → ts'.toks.length ≤ ts.toks.length := by
  intro n
  induction n with
  | zero => intro l ts t ts' he; rw [tLoop] at he; injection he with _ h2; subst h2; exact Nat.le_refl _
  | succ n ih =>
    intro l ts t ts' he
    rw [tLoop] at he
    split at he
    · split at he
      · rename_i hj; exact Nat.le_trans (ih _ _ _ _ he) (Nat.le_trans (h.join _ _ _ _ hj) (next_le _))
      · cases he
    · injection he with _ h2; subst h2; exact Nat.le_refl _
theorem Shr.row {f : TS → TRes} (h : Shr f) (ks : List Int) : Shr (tRow f ks) := by
  intro ts t ts' he
  unfold tRow at he
  split at he
  · rename_i hr; exact Nat.le_trans (h.loop ks _ _ _ _ _ he) (h _ _ _ hr)
  · cases he
theorem Shr.sign {f : TS → TRes} (h : Shr f) (o : Int) : Shr (tSign f o) := by
  intro ts t ts' he
  unfold tSign at he
  split at he
  · cases he
  · split at he
    · rename_i hr
      have h3 := h _ _ _ hr
      injection he with _ h2; subst h2; exact Nat.le_trans h3 (tail_le ts.toks)
    · cases he
theorem Shr.group {f : TS → TRes} (h : Shr f) : Shr (tGroup f) := by
  intro ts t ts' he
  unfold tGroup at he
  split at he
  · cases he
  · split at he
    · rename_i hr; split at he
      · have h3 := h _ _ _ hr
        injection he with _ h2; subst h2; exact Nat.le_trans (tail_le _) (Nat.le_trans h3 (tail_le ts.toks))
      · cases he
    · cases he
theorem Shr.signed {fS fE : TS → TRes} (hS : Shr fS) (hE : Shr fE) : Shr (tSigned fS fE) := by
  intro ts t ts' he
  unfold tSigned at he
  split at he
  · exact hS.sign 14 _ _ _ he
  split at he
  · exact hS.sign 15 _ _ _ he
  split at he
  · exact hE.group _ _ _ he
  split at he
  · injection he with _ h2; subst h2; exact next_le _
  split at he
  · injection he with _ h2; subst h2; exact next_le _
  split at he
  · injection he with _ h2; subst h2; exact next_le _
  split at he
  · injection he with _ h2; subst h2; exact next_le _
  split at he
  · injection he with _ h2; subst h2; exact next_le _
  · cases he
theorem shr_isNull : ShrT tIsNull := by
  intro l ts t ts' he
  unfold tIsNull at he
  split at he
  · split at he
    · injection he with _ h2; subst h2; exact Nat.le_trans (next_le _) (Nat.le_trans (next_le _) (next_le _))
    · cases he
  · split at he
    · injection he with _ h2; subst h2; exact Nat.le_trans (next_le _) (next_le _)
    · cases he
theorem shr_inLoop (l : Ast) : ∀ n xs ts t ts', tInLoop l n xs ts = .ok t ts' → ts'.toks.length ≤ ts.toks.length := by
  intro n
  induction n with
  | zero => intro xs ts t ts' he; rw [tInLoop] at he; cases he
  | succ n ih =>
    intro xs ts t ts' he
    rw [tInLoop] at he
    split at he
    · split at he
      · exact Nat.le_trans (ih _ _ _ _ he) (Nat.le_trans (next_le _) (next_le _))
      · cases he
    · split at he
      · injection he with _ h2; subst h2; exact next_le _
      · cases he
theorem shr_in : ShrT tInRes := by
  intro l ts t ts' he
  unfold tInRes at he
  split at he
  · split at he
    · exact Nat.le_trans (shr_inLoop l _ _ _ _ _ he) (Nat.le_trans (next_le _) (Nat.le_trans (next_le _) (next_le _)))
    · cases he
  · cases he
theorem shr_like : ShrT tLike := by
  intro l ts t ts' he
  unfold tLike at he
  split at he
  · split at he
    · split at he
      · injection he with _ h2; subst h2; exact Nat.le_trans (next_le _) (Nat.le_trans (next_le _) (Nat.le_trans (next_le _) (next_le _)))
      · cases he
    · injection he with _ h2; subst h2; exact Nat.le_trans (next_le _) (next_le _)
  · cases he
theorem Shr.between {f : TS → TRes} (h : Shr f) : ShrT (tBetween f) := by
  intro l ts t ts' he
  unfold tBetween at he
  split at he
  · split at he
    · rename_i h1; split at he
      · split at he
        · rename_i h2; injection he with _ h3; subst h3
          exact Nat.le_trans (h _ _ _ h2) (Nat.le_trans (next_le _) (Nat.le_trans (h _ _ _ h1) (next_le _)))
        · cases he
      · cases he
    · cases he
  · cases he
theorem Shr.keyword {f : TS → TRes} (h : Shr f) (bare : Bool) : ShrT (tKeyword f bare) := by
  intro l ts t ts' he
  unfold tKeyword at he
  split at he
  · exact shr_in _ _ _ _ he
  split at he
  · exact shr_like _ _ _ _ he
  · exact h.between _ _ _ _ he
theorem Shr.test {f : TS → TRes} (h : Shr f) : Shr (tTest f) := by
  intro ts t ts' he
  unfold tTest at he
  split at he
  · rename_i hr
    refine Nat.le_trans ?_ (h _ _ _ hr)
    unfold tTail at he
    split at he
    · exact Nat.le_trans (h.join _ _ _ _ he) (next_le _)
    split at he
    · split at he
      · exact shr_isNull _ _ _ _ he
      · injection he with _ h2; subst h2; exact Nat.le_refl _
    split at he
    · split at he
      · rename_i hk; injection he with _ h2; subst h2; exact Nat.le_trans (h.keyword _ _ _ _ _ hk) (next_le _)
      · cases he
    split at he
    · exact h.keyword _ _ _ _ _ he
    · injection he with _ h2; subst h2; exact Nat.le_refl _
  · cases he
theorem Shr.denied {fD fT : TS → TRes} (hD : Shr fD) (hT : Shr fT) : Shr (tDenied fD fT) := by
  intro ts t ts' he
  unfold tDenied at he
  split at he
  · exact hD.sign 5 _ _ _ he
  · exact hT _ _ _ he
end

section
theorem Str.tail_lt {s : ByteArray} {st : St} {L : List Tk} (h : Str s st L) (hk : st.tk.kind ≠ 0) : L.tail.length < L.length := by
  cases h with
  | nil h => rw [h] at hk; exact absurd rfl hk
  | cons _ _ => simp

theorem Sim.loop {s : ByteArray} {f : St → Res} {f' : TS → TRes} (h : Sim s f f') (hf' : Shr f') (ks : List Int) (hk0 : ks.contains 0 = false) : ∀ n n' l st ts, ts.toks.length < n → ts.toks.length < n' → Fine s st → Str s st ts.toks → st.op = ts.op → SimR s (rowLoop s f ks n l st) (tLoop f' ks n' (erase l) ts) := by
  intro n
  induction n with
  | zero => intro n' l st ts h1; omega
  | succ n ih =>
    intro n' l st ts h1 h2 hfi hs ho
    obtain ⟨m, rfl⟩ : ∃ m, n' = m + 1 := ⟨n' - 1, by omega⟩
    rw [rowLoop, tLoop, kind_eq hs]
    by_cases hc : ks.contains st.tk.kind = true
    · have hk : st.tk.kind ≠ 0 := fun e => by rw [e, hk0] at hc; cases hc
      rw [if_pos hc, if_pos hc]
      have hlen : ts.next.toks.length < ts.toks.length := hs.tail_lt hk
      rcases (h.join st ts l hfi hs ho hk).cases with ⟨t, st2, ts2, e1, e2, e3, e4, e5⟩ | ⟨en, pl, e1, e2⟩
      · have hl := hf'.join _ _ _ _ e2
        rw [e1, e2]
        exact ih m t st2 ts2 (by omega) (by omega) e5 e3 e4
      · rw [e1, e2]; rfl
    · rw [if_neg hc, if_neg hc]
      exact ⟨rfl, hs, ho, hfi⟩

theorem Sim.row {s : ByteArray} {f : St → Res} {f' : TS → TRes} (h : Sim s f f') (hf' : Shr f') (ks : List Int) (hk0 : ks.contains 0 = false) : Sim s (rowRes s f ks) (tRow f' ks) := by
  intro st ts hfi hs ho
  unfold rowRes tRow
  rcases (h st ts hfi hs ho).cases with ⟨t, st2, ts2, e1, e2, e3, e4, e5⟩ | ⟨en, pl, e1, e2⟩
  · rw [e1, e2]
    have hl := e3.len e5
    exact h.loop hf' ks hk0 _ _ t st2 ts2 (by omega) (by omega) e5 e3 e4
  · rw [e1, e2]; rfl

theorem Sim.sign {s : ByteArray} {f : St → Res} {f' : TS → TRes} (h : Sim s f f') (o : Int) (st : St) (ts : TS) (hfi : Fine s st) (hs : Str s st ts.toks) (ho : st.op = ts.op) (hk : st.tk.kind ≠ 0) : SimR s (signRes s f o st) (tSign f' o ts) := by
  unfold signRes tSign
  rw [ho]
  split
  · rfl
  · rcases (h (inSt s st) (tIn ts) (hfi.next.op _) ((hs.next hk).withOp _) (by show st.op + 1 = ts.op + 1; rw [ho])).cases with ⟨t, st2, ts2, e1, e2, e3, e4, e5⟩ | ⟨en, pl, e1, e2⟩
    · rw [e1, e2]; exact ⟨rfl, e3.withOp _, rfl, e5.op _⟩
    · rw [e1, e2]; rfl

theorem Sim.group {s : ByteArray} {f : St → Res} {f' : TS → TRes} (h : Sim s f f') (st : St) (ts : TS) (hfi : Fine s st) (hs : Str s st ts.toks) (ho : st.op = ts.op) (hk : st.tk.kind ≠ 0) : SimR s (groupRes s f st) (tGroup f' ts) := by
  unfold groupRes tGroup
  rw [ho]
  split
  · rfl
  · rcases (h (inSt s st) (tIn ts) (hfi.next.op _) ((hs.next hk).withOp _) (by show st.op + 1 = ts.op + 1; rw [ho])).cases with ⟨t, st2, ts2, e1, e2, e3, e4, e5⟩ | ⟨en, pl, e1, e2⟩
    · rw [e1, e2]
      show SimR s (if st2.tk.kind = 27 then _ else _) (if ts2.tk.kind = 27 then _ else _)
      rw [kind_eq e3]
      by_cases h27 : st2.tk.kind = 27
      · rw [if_pos h27, if_pos h27]
        exact ⟨rfl, (e3.next (by rw [h27]; decide)).withOp _, rfl, e5.next.op _⟩
      · rw [if_neg h27, if_neg h27]; rfl
    · rw [e1, e2]; rfl

theorem Sim.signed {s : ByteArray} {fS fE : St → Res} {fS' fE' : TS → TRes} (hS : Sim s fS fS') (hE : Sim s fE fE') : Sim s (signedRes s fS fE) (tSigned fS' fE') := by
  intro st ts hfi hs ho
  unfold signedRes tSigned
  rw [kind_eq hs]
  by_cases h22 : st.tk.kind = 22
  · rw [if_pos h22, if_pos h22]; exact hS.sign 14 st ts hfi hs ho (by rw [h22]; decide)
  rw [if_neg h22, if_neg h22]
  by_cases h23 : st.tk.kind = 23
  · rw [if_pos h23, if_pos h23]; exact hS.sign 15 st ts hfi hs ho (by rw [h23]; decide)
  rw [if_neg h23, if_neg h23]
  by_cases h26 : st.tk.kind = 26
  · rw [if_pos h26, if_pos h26]; exact hE.group st ts hfi hs ho (by rw [h26]; decide)
  rw [if_neg h26, if_neg h26]
  by_cases h2 : st.tk.kind = 2
  · rw [if_pos h2, if_pos h2]; exact ⟨rfl, hs.next (by rw [h2]; decide), ho, hfi.next⟩
  rw [if_neg h2, if_neg h2]
  by_cases h3 : st.tk.kind = 3
  · rw [if_pos h3, if_pos h3]; exact ⟨rfl, hs.next (by rw [h3]; decide), ho, hfi.next⟩
  rw [if_neg h3, if_neg h3]
  by_cases h4 : st.tk.kind = 4
  · rw [if_pos h4, if_pos h4]; exact ⟨rfl, hs.next (by rw [h4]; decide), ho, hfi.next⟩
  rw [if_neg h4, if_neg h4]
  by_cases h8 : st.tk.kind = 8
  · rw [if_pos h8, if_pos h8]; exact ⟨rfl, hs.next (by rw [h8]; decide), ho, hfi.next⟩
  rw [if_neg h8, if_neg h8]
  by_cases h9 : st.tk.kind = 9
  · rw [if_pos h9, if_pos h9]; exact ⟨rfl, hs.next (by rw [h9]; decide), ho, hfi.next⟩
  rw [if_neg h9, if_neg h9]
  rfl

theorem Sim.denied {s : ByteArray} {fD fT : St → Res} {fD' fT' : TS → TRes} (hD : Sim s fD fD') (hT : Sim s fT fT') : Sim s (deniedRes s fD fT) (tDenied fD' fT') := by
  intro st ts hfi hs ho
  unfold deniedRes tDenied
  rw [kind_eq hs]
  by_cases h7 : st.tk.kind = 7
  · rw [if_pos h7, if_pos h7]; exact hD.sign 5 st ts hfi hs ho (by rw [h7]; decide)
  · rw [if_neg h7, if_neg h7]; exact hT st ts hfi hs ho
end

section
def SimT (s : ByteArray) (k : Int) (g : Ast → St → Res) (g' : Ast → TS → TRes) : Prop := ∀ l st ts, Fine s st → Str s st ts.toks → st.op = ts.op → st.tk.kind = k → SimR s (g l st) (g' (erase l) ts)

/-- One token on. -/
theorem go1 {s : ByteArray} {st : St} {ts : TS} (hfi : Fine s st) (hs : Str s st ts.toks) (ho : st.op = ts.op) (hk : st.tk.kind ≠ 0) : Fine s (stepSt s st) ∧ Str s (stepSt s st) ts.next.toks ∧ (stepSt s st).op = ts.next.op := ⟨hfi.next, hs.next hk, ho⟩

theorem sim_isNull (s : ByteArray) : SimT s 14 (isNullRes s) tIsNull := by
  intro l st ts hfi hs ho hk
  obtain ⟨f1, s1, o1⟩ := go1 hfi hs ho (by rw [hk]; decide)
  unfold isNullRes tIsNull
  rw [kind_eq s1]
  by_cases h7 : (stepSt s st).tk.kind = 7
  · rw [if_pos h7, if_pos h7]
    obtain ⟨f2, s2, o2⟩ := go1 f1 s1 o1 (by rw [h7]; decide)
    rw [kind_eq s2]
    by_cases h15 : (stepSt s (stepSt s st)).tk.kind = 15
    · rw [if_pos h15, if_pos h15]
      obtain ⟨f3, s3, o3⟩ := go1 f2 s2 o2 (by rw [h15]; decide)
      exact ⟨rfl, s3, o3, f3⟩
    · rw [if_neg h15, if_neg h15]; rfl
  · rw [if_neg h7, if_neg h7]
    by_cases h15 : (stepSt s st).tk.kind = 15
    · rw [if_pos h15, if_pos h15]
      obtain ⟨f2, s2, o2⟩ := go1 f1 s1 o1 (by rw [h15]; decide)
      exact ⟨rfl, s2, o2, f2⟩
    · rw [if_neg h15, if_neg h15]; rfl

theorem Sim.between {s : ByteArray} {f : St → Res} {f' : TS → TRes} (h : Sim s f f') : ∀ l st ts, Fine s st → Str s st ts.toks → st.op = ts.op → SimR s (betweenRes s f l st) (tBetween f' (erase l) ts) := by
  intro l st ts hfi hs ho
  unfold betweenRes tBetween
  rw [kind_eq hs]
  by_cases h10 : st.tk.kind = 10
  · rw [if_pos h10, if_pos h10]
    obtain ⟨f1, s1, o1⟩ := go1 hfi hs ho (by rw [h10]; decide)
    rcases (h _ _ f1 s1 o1).cases with ⟨t, st2, ts2, e1, e2, e3, e4, e5⟩ | ⟨en, pl, e1, e2⟩
    · rw [e1, e2]
      show SimR s (if st2.tk.kind = 5 then _ else _) (if ts2.tk.kind = 5 then _ else _)
      rw [kind_eq e3]
      by_cases h5 : st2.tk.kind = 5
      · rw [if_pos h5, if_pos h5]
        obtain ⟨f3, s3, o3⟩ := go1 e5 e3 e4 (by rw [h5]; decide)
        rcases (h _ _ f3 s3 o3).cases with ⟨t3, st3, ts3, g1, g2, g3, g4, g5⟩ | ⟨en, pl, g1, g2⟩
        · rw [g1, g2]; exact ⟨rfl, g3, g4, g5⟩
        · rw [g1, g2]; rfl
      · rw [if_neg h5, if_neg h5]; rfl
    · rw [e1, e2]; rfl
  · rw [if_neg h10, if_neg h10]; rfl

theorem sim_inLoop (s : ByteArray) (l : Ast) (pl : Nat) : ∀ n n' xs st ts, ts.toks.length < n → ts.toks.length < n' → Fine s st → Str s st ts.toks → st.op = ts.op → SimR s (inLoop s l pl n xs st) (tInLoop (erase l) n' xs ts) := by
  intro n
  induction n with
  | zero => intro n' xs st ts h1; omega
  | succ n ih =>
    intro n' xs st ts h1 h2 hfi hs ho
    obtain ⟨m, rfl⟩ : ∃ m, n' = m + 1 := ⟨n' - 1, by omega⟩
    rw [inLoop, tInLoop, kind_eq hs]
    by_cases h28 : st.tk.kind = 28
    · rw [if_pos h28, if_pos h28]
      have hk : st.tk.kind ≠ 0 := by rw [h28]; decide
      obtain ⟨f1, s1, o1⟩ := go1 hfi hs ho hk
      have t1 : ts.next.toks.length < ts.toks.length := hs.tail_lt hk
      rw [kind_eq s1]
      by_cases h4 : (stepSt s st).tk.kind = 4
      · rw [if_pos h4, if_pos h4]
        obtain ⟨f2, s2, o2⟩ := go1 f1 s1 o1 (by rw [h4]; decide)
        have t2 := next_le ts.next
        exact ih m _ _ _ (by omega) (by omega) f2 s2 o2
      · rw [if_neg h4, if_neg h4]; rfl
    · rw [if_neg h28, if_neg h28]
      by_cases h27 : st.tk.kind = 27
      · rw [if_pos h27, if_pos h27]
        obtain ⟨f1, s1, o1⟩ := go1 hfi hs ho (by rw [h27]; decide)
        exact ⟨rfl, s1, o1, f1⟩
      · rw [if_neg h27, if_neg h27]; rfl

theorem sim_in (s : ByteArray) : SimT s 11 (inRes s) tInRes := by
  intro l st ts hfi hs ho hk
  obtain ⟨f1, s1, o1⟩ := go1 hfi hs ho (by rw [hk]; decide)
  unfold inRes tInRes
  rw [kind_eq s1]
  by_cases h26 : (stepSt s st).tk.kind = 26
  · rw [if_pos h26, if_pos h26]
    obtain ⟨f2, s2, o2⟩ := go1 f1 s1 o1 (by rw [h26]; decide)
    rw [kind_eq s2]
    by_cases h4 : (stepSt s (stepSt s st)).tk.kind = 4
    · rw [if_pos h4, if_pos h4]
      obtain ⟨f3, s3, o3⟩ := go1 f2 s2 o2 (by rw [h4]; decide)
      have hl := s3.len f3
      have l1 := next_le ts
      have l2 := next_le ts.next
      have l3 := next_le ts.next.next
      exact sim_inLoop s l st.place _ _ _ _ _ (by omega) (by omega) f3 s3 o3
    · rw [if_neg h4, if_neg h4]; rfl
  · rw [if_neg h26, if_neg h26]; rfl

theorem sim_like (s : ByteArray) : SimT s 12 (likeRes s) tLike := by
  intro l st ts hfi hs ho hk
  obtain ⟨f1, s1, o1⟩ := go1 hfi hs ho (by rw [hk]; decide)
  unfold likeRes tLike
  rw [kind_eq s1]
  by_cases h4 : (stepSt s st).tk.kind = 4
  · rw [if_pos h4, if_pos h4]
    obtain ⟨f2, s2, o2⟩ := go1 f1 s1 o1 (by rw [h4]; decide)
    rw [kind_eq s2]
    by_cases h13 : (stepSt s (stepSt s st)).tk.kind = 13
    · rw [if_pos h13, if_pos h13]
      obtain ⟨f3, s3, o3⟩ := go1 f2 s2 o2 (by rw [h13]; decide)
      rw [kind_eq s3]
      unfold escRes
      by_cases g4 : (stepSt s (stepSt s (stepSt s st))).tk.kind = 4
      · rw [if_pos g4]
        by_cases g1 : (stepSt s (stepSt s (stepSt s st))).tk.str.length = 1
        · rw [if_pos g1]
          by_cases g2 : (cutL (stepSt s (stepSt s (stepSt s st))).tk.str (stepSt s st).tk.str).isSome = true
          · rw [if_pos g2, if_pos ⟨g4, g1, g2⟩]
            obtain ⟨f4, s4, o4⟩ := go1 f3 s3 o3 (by rw [g4]; decide)
            exact ⟨rfl, s4, o4, f4⟩
          · rw [if_neg g2, if_neg (fun h => g2 h.2.2)]; rfl
        · rw [if_neg g1, if_neg (fun h => g1 h.2.1)]; rfl
      · rw [if_neg g4, if_neg (fun h => g4 h.1)]; rfl
    · rw [if_neg h13, if_neg h13]
      exact ⟨rfl, s2, o2, f2⟩
  · rw [if_neg h4, if_neg h4]; rfl

theorem Sim.keyword {s : ByteArray} {f : St → Res} {f' : TS → TRes} (h : Sim s f f') (bare : Bool) (l : Ast) (st : St) (ts : TS) (hfi : Fine s st) (hs : Str s st ts.toks) (ho : st.op = ts.op) : SimR s (keywordRes s f (inRes s) (likeRes s) bare l st) (tKeyword f' bare (erase l) ts) := by
  unfold keywordRes tKeyword
  rw [kind_eq hs]
  by_cases h11 : st.tk.kind = 11 ∧ bare = true
  · rw [if_pos h11, if_pos h11]; exact sim_in s l st ts hfi hs ho h11.1
  rw [if_neg h11, if_neg h11]
  by_cases h12 : st.tk.kind = 12 ∧ bare = true
  · rw [if_pos h12, if_pos h12]; exact sim_like s l st ts hfi hs ho h12.1
  rw [if_neg h12, if_neg h12]
  exact h.between l st ts hfi hs ho

theorem Sim.tail {s : ByteArray} {f : St → Res} {f' : TS → TRes} (h : Sim s f f') (bare : Bool) (l : Ast) (st : St) (ts : TS) (hfi : Fine s st) (hs : Str s st ts.toks) (ho : st.op = ts.op) : SimR s (tailRes s f (inRes s) (likeRes s) bare l st) (tTail f' bare (erase l) ts) := by
  unfold tailRes tTail
  rw [kind_eq hs]
  by_cases h16 : st.tk.kind = 16 ∨ st.tk.kind = 17 ∨ st.tk.kind = 18 ∨ st.tk.kind = 19 ∨ st.tk.kind = 20 ∨ st.tk.kind = 21
  · rw [if_pos h16, if_pos h16]; exact h.join st ts l hfi hs ho (by omega)
  rw [if_neg h16, if_neg h16]
  by_cases h14 : st.tk.kind = 14
  · rw [if_pos h14, if_pos h14]
    cases bare
    · exact ⟨rfl, hs, ho, hfi⟩
    · exact sim_isNull s l st ts hfi hs ho h14
  rw [if_neg h14, if_neg h14]
  by_cases h7 : st.tk.kind = 7
  · rw [if_pos h7, if_pos h7]
    obtain ⟨f1, s1, o1⟩ := go1 hfi hs ho (by rw [h7]; decide)
    rcases (h.keyword bare l _ _ f1 s1 o1).cases with ⟨t, st2, ts2, e1, e2, e3, e4, e5⟩ | ⟨en, pl, e1, e2⟩
    · rw [e1, e2]; exact ⟨rfl, e3, e4, e5⟩
    · rw [e1, e2]; rfl
  rw [if_neg h7, if_neg h7]
  by_cases h10 : st.tk.kind = 10 ∨ st.tk.kind = 11 ∨ st.tk.kind = 12
  · rw [if_pos h10, if_pos h10]; exact h.keyword bare l st ts hfi hs ho
  · rw [if_neg h10, if_neg h10]; exact ⟨rfl, hs, ho, hfi⟩

theorem Sim.test {s : ByteArray} {f : St → Res} {f' : TS → TRes} (h : Sim s f f') : Sim s (testRes s f (inRes s) (likeRes s)) (tTest f') := by
  intro st ts hfi hs ho
  unfold testRes tTest
  rcases (h st ts hfi hs ho).cases with ⟨t, st2, ts2, e1, e2, e3, e4, e5⟩ | ⟨en, pl, e1, e2⟩
  · rw [e1, e2]
    show SimR s (tailRes s f (inRes s) (likeRes s) (bareB st t) t st2) (tTail f' (ts.tk.kind == 2 && opA (erase t) == 0) (erase t) ts2)
    rw [kind_eq hs, opA_erase]
    exact h.tail _ t st2 ts2 e5 e3 e4
  · rw [e1, e2]; rfl

structure Sim3 (s : ByteArray) (L : L3) (L' : T3) : Prop where
  S : Sim s L.S L'.S
  D : Sim s L.D L'.D
  E : Sim s L.E L'.E
  s' : Shr L'.S
  d' : Shr L'.D
  e' : Shr L'.E

theorem sim_up {s : ByteArray} {L : L3} {L' : T3} (h : Sim3 s L L') : Sim3 s (up3 s L) (tUp L') := by
  have hS := Sim.signed h.S h.E
  have zS := Shr.signed h.s' h.e'
  have hP := hS.row zS [24, 25] rfl
  have zP := zS.row [24, 25]
  have hU := hP.row zP [22, 23] rfl
  have zU := zP.row [22, 23]
  have hT := hU.test
  have zT := zU.test
  have hD := Sim.denied h.D hT
  have zD := Shr.denied h.d' zT
  have hB := hD.row zD [5] rfl
  have zB := zD.row [5]
  exact ⟨hS, hD, hB.row zB [6] rfl, zS, zD, zB.row [6]⟩

theorem sim_lvl (s : ByteArray) : ∀ d, Sim3 s (lvl s d) (tLvl d) := by
  intro d
  induction d with
  | zero => exact sim_up ⟨(fun _ _ _ _ _ => rfl), (fun _ _ _ _ _ => rfl), (fun _ _ _ _ _ => rfl), (fun _ _ _ h => by cases h), (fun _ _ _ h => by cases h), (fun _ _ _ h => by cases h)⟩
  | succ d ih => exact sim_up ih
end

section
def TkLn (st : St) : Prop := st.tk.str.length ≤ 200
theorem stepSt_ln {s : ByteArray} (hs : s.size ≤ 200) (st : St) : TkLn (stepSt s st) := Nat.le_trans (stepSt_len s st) hs

def Bp (p : Pay) : Prop := p.str.length ≤ 200 ∧ p.texts.length ≤ 1000
def BndA : Ast → Prop
  | .leaf p => Bp p
  | .un p x => Bp p ∧ BndA x
  | .bin p x y => Bp p ∧ BndA x ∧ BndA y
  | .tri p x y z => Bp p ∧ BndA x ∧ BndA y ∧ BndA z

theorem bp0 (op pl num : Int) : Bp ⟨op, pl, num, [], [], []⟩ := ⟨by simp, by simp⟩
theorem bp1 {op pl num : Int} {s : List UInt8} (h : s.length ≤ 200) : Bp ⟨op, pl, num, s, [], []⟩ := ⟨h, by simp⟩

def BGood (f : St → Res) : Prop := ∀ st t st', TkLn st → f st = .ok t st' → BndA t ∧ TkLn st'
def BGoodT (g : Ast → St → Res) : Prop := ∀ l st t st', BndA l → TkLn st → g l st = .ok t st' → BndA t ∧ TkLn st'

theorem BGood.join {s : ByteArray} (H : s.size ≤ 200) {f : St → Res} (h : BGood f) : ∀ st l t st', BndA l → joinRes s f st l = .ok t st' → BndA t ∧ TkLn st' := by
  intro st l t st' hl he
  unfold joinRes at he
  split at he
  · rename_i r st2 hr; injection he with h1 h2; subst h1; subst h2
    have := h _ _ _ (stepSt_ln H st) hr
    exact ⟨⟨(bp0 _ _ _), hl, this.1⟩, this.2⟩
  · cases he

theorem BGood.loop {s : ByteArray} (H : s.size ≤ 200) {f : St → Res} {ks : List Int} (h : BGood f) : ∀ n l st t st', BndA l → TkLn st → rowLoop s f ks n l st = .ok t st' → BndA t ∧ TkLn st' := by
  intro n
  induction n with
  | zero => intro l st t st' hl hs he; rw [rowLoop] at he; injection he with h1 h2; subst h1; subst h2; exact ⟨hl, hs⟩
  | succ n ih =>
    intro l st t st' hl hs he
    rw [rowLoop] at he
    split at he
    · split at he
      · rename_i hj; have := h.join H _ _ _ _ hl hj; exact ih _ _ _ _ this.1 this.2 he
      · cases he
    · injection he with h1 h2; subst h1; subst h2; exact ⟨hl, hs⟩

theorem BGood.row {s : ByteArray} (H : s.size ≤ 200) {f : St → Res} {ks : List Int} (h : BGood f) : BGood (rowRes s f ks) := by
  intro st t st' hs he
  unfold rowRes at he
  split at he
  · rename_i hr; have := h _ _ _ hs hr; exact h.loop H _ _ _ _ _ this.1 this.2 he
  · cases he

theorem BGood.sign {s : ByteArray} (H : s.size ≤ 200) {f : St → Res} (h : BGood f) (o : Int) : BGood (signRes s f o) := by
  intro st t st' _ he
  unfold signRes at he
  split at he
  · cases he
  · split at he
    · rename_i hr; injection he with h1 h2; subst h1; subst h2
      have := h (inSt s st) _ _ (stepSt_ln H st) hr
      exact ⟨⟨(bp0 _ _ _), this.1⟩, this.2⟩
    · cases he

theorem BGood.group {s : ByteArray} (H : s.size ≤ 200) {f : St → Res} (h : BGood f) : BGood (groupRes s f) := by
  intro st t st' _ he
  unfold groupRes at he
  split at he
  · cases he
  · split at he
    · rename_i hr; split at he
      · injection he with h1 h2; subst h1; subst h2
        exact ⟨(h (inSt s st) _ _ (stepSt_ln H st) hr).1, stepSt_ln H _⟩
      · cases he
    · cases he

theorem BGood.signed {s : ByteArray} (H : s.size ≤ 200) {fS fE : St → Res} (hS : BGood fS) (hE : BGood fE) : BGood (signedRes s fS fE) := by
  intro st t st' hs he
  unfold signedRes at he
  split at he
  · exact hS.sign H 14 _ _ _ hs he
  split at he
  · exact hS.sign H 15 _ _ _ hs he
  split at he
  · exact hE.group H _ _ _ hs he
  split at he
  · injection he with h1 h2; subst h1; subst h2; exact ⟨bp1 hs, stepSt_ln H st⟩
  split at he
  · injection he with h1 h2; subst h1; subst h2; exact ⟨(bp0 _ _ _), stepSt_ln H st⟩
  split at he
  · injection he with h1 h2; subst h1; subst h2; exact ⟨bp1 hs, stepSt_ln H st⟩
  split at he
  · injection he with h1 h2; subst h1; subst h2; exact ⟨(bp0 _ _ _), stepSt_ln H st⟩
  split at he
  · injection he with h1 h2; subst h1; subst h2; exact ⟨(bp0 _ _ _), stepSt_ln H st⟩
  · cases he

theorem bnd_isNull {s : ByteArray} (H : s.size ≤ 200) : BGoodT (isNullRes s) := by
  intro l st t st' hl _ he
  unfold isNullRes at he
  split at he
  · split at he
    · injection he with h1 h2; subst h1; subst h2; exact ⟨⟨(bp0 _ _ _), (bp0 _ _ _), hl⟩, stepSt_ln H _⟩
    · cases he
  · split at he
    · injection he with h1 h2; subst h1; subst h2; exact ⟨⟨(bp0 _ _ _), hl⟩, stepSt_ln H _⟩
    · cases he

theorem bnd_inLoop {s : ByteArray} (H : s.size ≤ 200) {l : Ast} {pl : Nat} (hl : BndA l) : ∀ n ts st t st', ts.length + n ≤ 1000 → inLoop s l pl n ts st = .ok t st' → BndA t ∧ TkLn st' := by
  intro n
  induction n with
  | zero => intro ts st t st' _ he; rw [inLoop] at he; cases he
  | succ n ih =>
    intro ts st t st' hn he
    rw [inLoop] at he
    split at he
    · split at he
      · exact ih _ _ _ _ (by simp; omega) he
      · cases he
    · split at he
      · injection he with h1 h2; subst h1; subst h2; exact ⟨⟨⟨by simp, by show ts.length ≤ 1000; omega⟩, hl⟩, stepSt_ln H _⟩
      · cases he

theorem bnd_in {s : ByteArray} (H : s.size ≤ 200) : BGoodT (inRes s) := by
  intro l st t st' hl _ he
  unfold inRes at he
  split at he
  · split at he
    · exact bnd_inLoop H hl _ _ _ _ _ (by simp; omega) he
    · cases he
  · cases he

theorem bnd_like {s : ByteArray} (H : s.size ≤ 200) : BGoodT (likeRes s) := by
  intro l st t st' hl _ he
  unfold likeRes at he
  split at he
  · split at he
    · split at he
      · rename_i hk; injection he with h1 h2; subst h1; subst h2; rw [(escRes_ok hk).2]; exact ⟨⟨⟨stepSt_ln H _, by simp⟩, hl⟩, stepSt_ln H _⟩
      · cases he
    · injection he with h1 h2; subst h1; subst h2; exact ⟨⟨⟨stepSt_ln H _, by simp⟩, hl⟩, stepSt_ln H _⟩
  · cases he

theorem BGood.between {s : ByteArray} (H : s.size ≤ 200) {f : St → Res} (h : BGood f) : BGoodT (betweenRes s f) := by
  intro l st t st' hl _ he
  unfold betweenRes at he
  split at he
  · split at he
    · rename_i h1; split at he
      · split at he
        · rename_i h2; injection he with h3 h4; subst h3; subst h4
          have a := h _ _ _ (stepSt_ln H _) h1
          have b := h _ _ _ (stepSt_ln H _) h2
          exact ⟨⟨(bp0 _ _ _), hl, a.1, b.1⟩, b.2⟩
        · cases he
      · cases he
    · cases he
  · cases he

theorem BGood.keyword {s : ByteArray} (H : s.size ≤ 200) {f : St → Res} (h : BGood f) (bare : Bool) : BGoodT (keywordRes s f (inRes s) (likeRes s) bare) := by
  intro l st t st' hl hs he
  unfold keywordRes at he
  split at he
  · exact bnd_in H _ _ _ _ hl hs he
  split at he
  · exact bnd_like H _ _ _ _ hl hs he
  · exact h.between H _ _ _ _ hl hs he

theorem BGood.test {s : ByteArray} (H : s.size ≤ 200) {f : St → Res} (h : BGood f) : BGood (testRes s f (inRes s) (likeRes s)) := by
  intro st t st' hs he
  unfold testRes at he
  split at he
  · rename_i hr
    obtain ⟨hl, hs1⟩ := h _ _ _ hs hr
    unfold tailRes at he
    split at he
    · exact h.join H _ _ _ _ hl he
    split at he
    · split at he
      · exact bnd_isNull H _ _ _ _ hl hs1 he
      · injection he with h1 h2; subst h1; subst h2; exact ⟨hl, hs1⟩
    split at he
    · split at he
      · rename_i hk; injection he with h1 h2; subst h1; subst h2
        have := h.keyword H _ _ _ _ _ hl (stepSt_ln H _) hk
        exact ⟨⟨(bp0 _ _ _), this.1⟩, this.2⟩
      · cases he
    split at he
    · exact h.keyword H _ _ _ _ _ hl hs1 he
    · injection he with h1 h2; subst h1; subst h2; exact ⟨hl, hs1⟩
  · cases he

theorem BGood.denied {s : ByteArray} (H : s.size ≤ 200) {fD fT : St → Res} (hD : BGood fD) (hT : BGood fT) : BGood (deniedRes s fD fT) := by
  intro st t st' hs he
  unfold deniedRes at he
  split at he
  · exact hD.sign H 5 _ _ _ hs he
  · exact hT _ _ _ hs he

structure BGood3 (L : L3) : Prop where
  S : BGood L.S
  D : BGood L.D
  E : BGood L.E

theorem up3_bnd {s : ByteArray} (H : s.size ≤ 200) {L : L3} (h : BGood3 L) : BGood3 (up3 s L) := by
  have hS := BGood.signed (s := s) H h.S h.E
  have hD := BGood.denied (s := s) H h.D (BGood.test (s := s) H ((hS.row (s := s) H (ks := [24, 25])).row (s := s) H (ks := [22, 23])))
  exact ⟨hS, hD, (hD.row (s := s) H (ks := [5])).row (s := s) H (ks := [6])⟩

theorem lvl_bnd (s : ByteArray) (H : s.size ≤ 200) : ∀ d, BGood3 (lvl s d) := by
  intro d
  induction d with
  | zero => exact up3_bnd H ⟨(fun _ _ _ _ h => by cases h), (fun _ _ _ _ h => by cases h), (fun _ _ _ _ h => by cases h)⟩
  | succ d ih => exact up3_bnd H ih
end

section
theorem info_bool : (Tryz.prog.info? 4).map (fun i => (i.zero, i.size, i.bytes)) = some (some (.bool false), 1, 1) := by kernel_rfl

/-- Bools lie in a row. -/
def BoolsAt (w : World) (b n : Nat) (e : Nat → Bool) : Prop := ∀ j, j ≤ n → w.cell? ⟨b, j, none⟩ = some (.bool (e j))

/-- What the row of next holds behind k rounds. -/
def nextRow (p : Pc) (t : List UInt8) (e : Nat → Bool) (k : Nat) : Nat → Value := fun j => .bool (if j ≤ k then nextB p t e j else false)

structure FromAt (w W : World) (p : Pc) (t : ByteArray) (e : Nat → Bool) (m k : Nat) : Prop where
  row : W.rowIs (w.heap.size + 1) 4 m (nextRow p t.data.toList e k)
  c0 : W.cell? ⟨w.heap.size, 0, none⟩ = some (.int .i64 p.kind)
  c1 : W.cell? ⟨w.heap.size, 1, none⟩ = some (.int .u8 p.c.toNat)
  lt : w.heap.size + 1 < W.heap.size
  below : Below w.heap.size w W

theorem getD_at (t : ByteArray) (k : Nat) (h : k < t.size) : t.data.toList.getD k 0 = t[k] := by
  rw [List.getD_eq_getElem?_getD, List.getElem?_eq_getElem (by rw [data_len]; exact h), data_getElem t k h]; rfl

theorem FromAt.drew {w W : World} {p : Pc} {t : ByteArray} {e : Nat → Bool} {m k : Nat} (h : FromAt w W p t e m k) : FromAt w W.drew p t e m k := ⟨h.row.drew, h.c0, h.c1, h.lt, h.below.drew⟩

theorem FromAt.step {w W : World} {p : Pc} {t : ByteArray} {e : Nat → Bool} {m k : Nat} (h : FromAt w W p t e m k) (v : Bool) (hv : nextB p t.data.toList e (k + 1) = v) : FromAt w (W.setCell ⟨w.heap.size + 1, k + 1, none⟩ (.bool v)) p t e m (k + 1) := by
  refine ⟨(h.row.set (k + 1) (.bool v)).congr fun i _ => ?_, ?_, ?_, by simpa using h.lt, h.below.setCell (by show w.heap.size ≤ w.heap.size + 1; omega) _⟩
  · unfold nextRow
    by_cases hi : i = k + 1
    · subst hi; simp [hv]
    · rw [if_neg hi]
      by_cases hl : i ≤ k
      · rw [if_pos hl, if_pos (by omega)]
      · rw [if_neg hl, if_neg (by omega)]
  · simp [go_sem, h.c0]
  · simp [go_sem, h.c1]

theorem from_start1 (w : World) (p : Pc) (t : ByteArray) (e : Nat → Bool) (m : Nat) (hk : (p.kind == 2) = true) : FromAt w ((w.alloc (.cells #[.int .i64 p.kind, .int .u8 p.c.toNat] 262)).alloc (.cells ((madeCells #[.bool false] m).setIfInBounds 0 (.bool (e 0))) 4)) p t e m 0 := by
  have hz : ((madeCells #[.bool false] m).setIfInBounds 0 (Value.bool (e 0))).size = m := by rw [Array.size_setIfInBounds]; exact size_madeCells _ _
  have hr := World.rowIs_alloc (w.alloc (.cells #[.int .i64 p.kind, .int .u8 p.c.toNat] 262)) ((madeCells #[.bool false] m).setIfInBounds 0 (.bool (e 0))) 4 (nextRow p t.data.toList e 0) (fun i hi => by
    rw [hz] at hi
    rw [Array.getElem?_setIfInBounds]
    by_cases h0 : i = 0
    · subst h0
      rw [if_pos rfl, if_pos (by rw [size_madeCells _ _]; exact hi), nextRow, if_pos (Nat.le_refl _), nextB, hk]; rfl
    · rw [if_neg (fun h => h0 h.symm), nextRow, if_neg (by omega)]
      simp [madeCells, hi, Nat.mod_one])
  rw [hz, show (w.alloc (.cells #[.int .i64 p.kind, .int .u8 p.c.toNat] 262)).heap.size = w.heap.size + 1 by simp] at hr
  refine ⟨hr, ?_, ?_, by simp, below2 _ _ _⟩
  · rw [World.cell?_alloc_past _ _ _ (by simp), World.cell?_alloc_at _ _ _ _ rfl]; rfl
  · rw [World.cell?_alloc_past _ _ _ (by simp), World.cell?_alloc_at _ _ _ _ rfl]; rfl

theorem from_start0 (w : World) (p : Pc) (t : ByteArray) (e : Nat → Bool) (m : Nat) (hk : (p.kind == 2) = false) : FromAt w ((w.alloc (.cells #[.int .i64 p.kind, .int .u8 p.c.toNat] 262)).alloc (.cells (madeCells #[.bool false] m) 4)) p t e m 0 := by
  have hr := World.rowIs_made (w.alloc (.cells #[.int .i64 p.kind, .int .u8 p.c.toNat] 262)) (.bool false) m 4
  rw [show (w.alloc (.cells #[.int .i64 p.kind, .int .u8 p.c.toNat] 262)).heap.size = w.heap.size + 1 by simp] at hr
  refine ⟨hr.congr fun i _ => ?_, ?_, ?_, by simp, below2 _ _ _⟩
  · unfold nextRow
    split
    · rename_i h; obtain rfl : i = 0 := by omega
      rw [nextB, hk]; rfl
    · rfl
  · rw [World.cell?_alloc_past _ _ _ (by simp), World.cell?_alloc_at _ _ _ _ rfl]; rfl
  · rw [World.cell?_alloc_past _ _ _ (by simp), World.cell?_alloc_at _ _ _ _ rfl]; rfl

set_option maxHeartbeats 2000000 in
set_option maxRecDepth 100000 in
theorem from_any (p : Pc) (e : Nat → Bool) (eb cap : Nat) (t : ByteArray) (ht : t.size ≤ 1000) (w : World) (he : BoolsAt w eb t.size e) (hlt : eb < w.heap.size) :
    Calls Tryz.prog 204 #[pcV p, .slice (some ⟨eb, 0, none⟩) (t.size + 1) cap, .string t] w fun en w' => ∃ nb, en = .returned (.slice (some ⟨nb, 0, none⟩) (t.size + 1) (t.size + 1)) ∧ w.heap.size ≤ nb ∧ nb < w'.heap.size ∧ BoolsAt w' nb t.size (nextB p t.data.toList e) ∧ Below w.heap.size w w' := by
  obtain ⟨m, hm⟩ : ∃ m, t.size + 1 = m := ⟨_, rfl⟩
  have hmk := run_make_row' (P := Tryz.prog) 259 4 (.bool false) 1 Tryz.underlying259 info_bool rfl .i64 .i64 m (by omega) (by omega)
  rw [hm]
  have hm0 : 0 < m := by omega
  have HE := hide he
  have e0 := he 0 (Nat.zero_le _)
  have l1 : eb < w.heap.size + 1 := by omega
  have d0 : ¬ w.heap.size + 1 = eb := by omega
  have d1 : ¬ eb = w.heap.size + 1 := by omega
  have ROW0 := hide (World.rowIs_made (w.alloc (.cells #[.int .i64 p.kind, .int .u8 p.c.toNat] 262)) (.bool false) m 4)
  have hrc := (unhide ROW0).cell (i := 0) hm0
  have hrf := (unhide ROW0).frozen 0
  rw [show (w.alloc (.cells #[.int .i64 p.kind, .int .u8 p.c.toNat] 262)).heap.size = w.heap.size + 1 by simp] at hrc hrf ROW0
  clear he
  cases hk2 : (p.kind == 2)
  · have ST : Hid (FromAt w ((w.alloc (.cells #[.int .i64 p.kind, .int .u8 p.c.toNat] 262)).alloc (.cells (madeCells #[.bool false] m) 4)) p t e m 0) := hide (from_start0 w p t e m hk2)
    conv => arg 3; simp only [pcV]
    go_enter Tryz.func204, Tryz.ntmps204
    go_wp2_with fail
    clear hrc hrf e0 ROW0
    go_loopw [22] (fun i wr => ∃ k : Nat, k ≤ t.size ∧ i = .int .i64 k ∧ Hid (FromAt w wr p t e m k)) (fun i _ => t.size - (intOf i).toNat)
    case atStart => exact ⟨0, Nat.zero_le _, rfl, ST⟩
    case round =>
      obtain ⟨k, hk, rfl, hF⟩ := hrel
      have fc0 := (unhide hF).c0
      have fc1 := (unhide hF).c1
      have hz := (unhide hF).lt
      by_cases hlt : k < t.size
      · have ek := ((unhide hF).below.cell (p := ⟨eb, k, none⟩) (by assumption)).trans (unhide HE k (by omega))
        have rk := (unhide hF).row.cell (i := k + 1) (by omega)
        have rf := (unhide hF).row.frozen (k + 1)
        have hkm : k + 1 < m := by omega
        have hkm' : k < m := by omega
        have hi0 : (0 : Int) ≤ (k : Int) + 1 := by omega
        have hi1 : (k : Int) + 1 < (m : Int) := by omega
        have hi2 : (0 : Int) ≤ (k : Int) := by omega
        have hi3 : (k : Int) < (m : Int) := by omega
        have hi4 : (k : Int) < (t.size : Int) := by omega
        have hwr : IntKind.i64.wrap ((k : Int) + 1) = (k : Int) + 1 := IntWalk.i64_in _ (by omega)
        cases hk1 : (p.kind == 1)
        · cases hek : e k
          · rw [hek] at ek
            go_wp2_with fail
            go_region
            all_goals
              go_wp2_with fail
              go_roundw
              case rel => exact ⟨k + 1, by omega, by go_num, hide ((unhide hF).drew.step _ (by rw [nextB, hk2, hk1, hek]; simp))⟩
              case measure => simp [intOf]; omega
          · rw [hek] at ek
            cases hx : (t[k] == p.c)
            all_goals
              have hx' := (u8_beq t[k] p.c).trans hx
              go_wp2_with fail
              go_region_held3 (fun W => W.cell? ⟨eb, k, none⟩ = some (.bool true) ∧ W.cell? ⟨w.heap.size, 1, none⟩ = some (.int .u8 p.c.toNat)) (go_keep) (fail)
              go_wp2_with fail
              go_roundw
              case rel => exact ⟨k + 1, by omega, by go_num, hide ((unhide hF).drew.step _ (by rw [nextB, hk2, hk1, hek, getD_at t k hlt, hx]; simp))⟩
              case measure => simp [intOf]; omega
        · obtain ⟨bk, hbk⟩ : ∃ b, e k = b := ⟨_, rfl⟩
          rw [hbk] at ek
          go_wp2_with fail
          go_roundw
          case rel => exact ⟨k + 1, by omega, by go_num, hide ((unhide hF).step _ (by rw [nextB, hk2, hk1, hbk]; simp))⟩
          case measure => simp [intOf]; omega
      · go_wp2_with fail
        go_ret
        obtain rfl : k = t.size := by omega
        exact ⟨_, rfl, by omega, hz, fun j hj => by have := (unhide hF).row.cell (i := j) (by omega); rw [this, nextRow, if_pos hj], (unhide hF).below⟩
  · have ST : Hid (FromAt w ((w.alloc (.cells #[.int .i64 p.kind, .int .u8 p.c.toNat] 262)).alloc (.cells ((madeCells #[.bool false] m).setIfInBounds 0 (.bool (e 0))) 4)) p t e m 0) := hide (from_start1 w p t e m hk2)
    conv => arg 3; simp only [pcV]
    go_enter Tryz.func204, Tryz.ntmps204
    go_wp2_with fail
    clear hrc hrf e0 ROW0
    go_loopw [22] (fun i wr => ∃ k : Nat, k ≤ t.size ∧ i = .int .i64 k ∧ Hid (FromAt w wr p t e m k)) (fun i _ => t.size - (intOf i).toNat)
    case atStart => exact ⟨0, Nat.zero_le _, rfl, ST⟩
    case round =>
      obtain ⟨k, hk, rfl, hF⟩ := hrel
      have fc0 := (unhide hF).c0
      have hz := (unhide hF).lt
      by_cases hlt : k < t.size
      · have ek := ((unhide hF).below.cell (p := ⟨eb, k + 1, none⟩) (by assumption)).trans (unhide HE (k + 1) (by omega))
        have rk := (unhide hF).row.cell (i := k + 1) (by omega)
        have rf := (unhide hF).row.frozen (k + 1)
        have rk0 : wr.cell? ⟨w.heap.size + 1, k, none⟩ = some (.bool (nextB p t.data.toList e k)) := by have := (unhide hF).row.cell (i := k) (by omega); rw [this, nextRow, if_pos (Nat.le_refl _)]
        obtain ⟨nk, hnk⟩ : ∃ b, nextB p t.data.toList e k = b := ⟨_, rfl⟩
        rw [hnk] at rk0
        have HNK := hide hnk
        clear hnk
        have hkm : k + 1 < m := by omega
        have hkm' : k < m := by omega
        have hi0 : (0 : Int) ≤ (k : Int) + 1 := by omega
        have hi1 : (k : Int) + 1 < (m : Int) := by omega
        cases hek : e (k + 1)
        all_goals
          rw [hek] at ek
          go_wp2_with fail
          go_roundw
          case rel => exact ⟨k + 1, by omega, by go_num, hide ((unhide hF).step _ (by rw [nextB, hk2, hek, unhide HNK]; simp))⟩
          case measure => simp [intOf]; omega
      · go_wp2_with fail
        go_ret
        obtain rfl : k = t.size := by omega
        exact ⟨_, rfl, by omega, hz, fun j hj => by have := (unhide hF).row.cell (i := j) (by omega); rw [this, nextRow, if_pos hj], (unhide hF).below⟩
end

section
theorem pcCells_at (ps : List Pc) : ∀ (k : Nat) (p : Pc), ps[k]? = some p → (pcCells ps)[k * 2]? = some (.int .i64 p.kind) ∧ (pcCells ps)[k * 2 + 1]? = some (.int .u8 p.c.toNat) := by
  induction ps with
  | nil => intro k p h; simp at h
  | cons q r ih =>
    intro k p h
    have hc : pcCells (q :: r) = .int .i64 q.kind :: .int .u8 q.c.toNat :: pcCells r := rfl
    rw [hc]
    cases k with
    | zero => simp at h; subst h; exact ⟨rfl, rfl⟩
    | succ k =>
      have := ih k p (by simpa using h)
      rw [show (k + 1) * 2 = k * 2 + 1 + 1 by omega]
      exact ⟨by simpa using this.1, by simpa using this.2⟩

theorem fit_more {ps : List Pc} {k : Nat} {p : Pc} {t : List UInt8} {e : Nat → Bool} (h : ps[k]? = some p) : fitB' (ps.drop k) t e = fitB' (ps.drop (k + 1)) t (nextB p t e) := by
  obtain ⟨hk, he⟩ := List.getElem?_eq_some_iff.1 h
  rw [List.drop_eq_getElem_cons hk, he, fitB']
theorem fit_end {ps : List Pc} {k : Nat} {t : List UInt8} {e : Nat → Bool} (h : ps.length ≤ k) : fitB' (ps.drop k) t e = e t.length := by
  rw [List.drop_of_length_le h, fitB']

theorem cutL_len (e : List UInt8) : (p : List UInt8) → ∀ ps, cutL e p = some ps → ps.length ≤ p.length
  | [], ps, h => by rw [cutL] at h; injection h with h; subst h; simp
  | [c], ps, h => by
    simp only [cutL] at h
    split at h
    · cases h
    · injection h with h; subst h; simp
  | c :: d :: t, ps, h => by
    simp only [cutL] at h
    split at h
    · cases hq : cutL e t with
      | none => rw [hq] at h; cases h
      | some q => rw [hq] at h; injection h with h; subst h; have := cutL_len e t q hq; simp; omega
    · cases hq : cutL e (d :: t) with
      | none => rw [hq] at h; cases h
      | some q => rw [hq] at h; injection h with h; subst h; have := cutL_len e (d :: t) q hq; simp at this ⊢; omega

theorem ownsRow_at {base e size n : Nat} {w : World} {v : Value} {xs : List Value} (h : w.ownsRow base e size v n xs) : ∃ a c, v = .slice a n c ∧ ∀ (j : Nat) (u : Value), xs[j]? = some u → ∃ g, a = some ⟨g, 0, none⟩ ∧ w.cell? ⟨g, j, none⟩ = some u ∧ g < w.heap.size ∧ base ≤ g := by
  have h0 := h
  rcases h.2 with ⟨rfl, hn⟩ | ⟨g, cap, cur, rfl, hb, hg, _⟩
  · refine ⟨none, 0, by rw [hn], fun j u hu => ?_⟩
    have := h.1; rw [hn, Nat.zero_mul] at this
    rw [List.eq_nil_of_length_eq_zero this] at hu; simp at hu
  · refine ⟨some ⟨g, 0, none⟩, cap, rfl, fun j u hu => ⟨g, rfl, ?_, (Array.getElem?_eq_some_iff.1 hg).1, hb⟩⟩
    have := h0.cells (g := g) rfl j u hu
    have hadd : (⟨g, 0, none⟩ : Addr).add j = ⟨g, j, none⟩ := by unfold Addr.add; split <;> simp_all
    rwa [hadd] at this

theorem fits_start (w : World) (m : Nat) : ∀ j, j < m → (w.alloc (.cells ((madeCells #[.bool false] m).setIfInBounds 0 (.bool true)) 4)).cell? ⟨w.heap.size, j, none⟩ = some (.bool (j == 0)) := by
  have hz : ((madeCells #[.bool false] m).setIfInBounds 0 (Value.bool true)).size = m := by rw [Array.size_setIfInBounds]; exact size_madeCells _ _
  have hr := World.rowIs_alloc w ((madeCells #[.bool false] m).setIfInBounds 0 (.bool true)) 4 (fun j => .bool (j == 0)) (fun i hi => by
    rw [hz] at hi
    rw [Array.getElem?_setIfInBounds]
    by_cases h0 : i = 0
    · subst h0
      rw [if_pos rfl, if_pos (by rw [size_madeCells _ _]; exact hi)]; rfl
    · rw [if_neg (fun h => h0 h.symm)]
      simp [madeCells, hi, Nat.mod_one, h0])
  intro j hj
  exact hr.cell (by rw [hz]; exact hj)

theorem BoolsAt.below {w w' : World} {b n : Nat} {e : Nat → Bool} (h : BoolsAt w b n e) (hb : Below w.heap.size w w') (hlt : b < w.heap.size) : BoolsAt w' b n e := fun j hj => (hb.cell (p := ⟨b, j, none⟩) hlt).trans (h j hj)

set_option maxHeartbeats 2000000 in
set_option maxRecDepth 100000 in
theorem fits_any (pat esc t : ByteArray) (hp : pat.size ≤ 200) (ht : t.size ≤ 1000) (w : World) :
    Calls Tryz.prog 156 #[.string pat, .string esc, .string t] w fun en w' => en = .returned (.bool (fitsB pat.data.toList esc.data.toList t.data.toList)) ∧ Below w.heap.size w w' := by
  have CUT := hide (cut_any pat esc hp w)
  unfold fitsB
  cases hc : cutL esc.data.toList pat.data.toList with
  | none =>
    rw [hc] at CUT
    clear hc
    go_enter Tryz.func156, Tryz.ntmps156
    go_wp2_with (go_at_call 203; refine (unhide CUT).mono ?_; rintro en w1 ⟨hb1, h1⟩; subst h1)
    go_ret
    exact ⟨rfl, hb1⟩
  | some ps =>
    rw [hc] at CUT
    have hpl := cutL_len _ _ _ hc
    rw [data_len] at hpl
    clear hc
    obtain ⟨m, hm⟩ : ∃ m, t.size + 1 = m := ⟨_, rfl⟩
    have hmk := run_make_row' (P := Tryz.prog) 259 4 (.bool false) 1 Tryz.underlying259 info_bool rfl .i64 .i64 m (by omega) (by omega)
    have hm0 : 0 < m := by omega
    have hmi : (t.size : Int) + 1 = (m : Int) := by omega
    obtain ⟨R, hR⟩ : ∃ r, fitB' ps t.data.toList (fun j => j == 0) = r := ⟨_, rfl⟩
    show Calls _ _ _ _ (fun en w' => en = .returned (.bool (fitB' ps t.data.toList fun j => j == 0)) ∧ Below w.heap.size w w')
    rw [hR]
    have HR := hide hR
    clear hR
    obtain ⟨n, hn⟩ : ∃ n, ps.length = n := ⟨_, rfl⟩
    rw [hn] at hpl
    have HN := hide hn
    go_enter Tryz.func156, Tryz.ntmps156
    go_wp2_with (go_at_call 203; refine (unhide CUT).mono ?_; rintro en w1 ⟨hb1, v1, rfl, hown⟩; obtain ⟨va, vc, rfl, hat⟩ := ownsRow_at hown; rw [unhide HN]; have hz1 := hb1.size; have hrc := (World.rowIs_made w1 (.bool false) m 4).cell (i := 0) hm0; have hrf := (World.rowIs_made w1 (.bool false) m 4).frozen 0)
    have HAT := hide hat
    have ST := hide (fits_start w1 m)
    have hb1 := hide hb1
    clear hown hrc hrf hat hn
    go_loopw [9, 28] (fun s9 i wr => ∃ (k eb : Nat) (f : Nat → Bool), k ≤ n ∧ i = .int .i64 k ∧ s9 = .slice (some ⟨eb, 0, none⟩) m m ∧ Hid (BoolsAt wr eb t.size f) ∧ eb < wr.heap.size ∧ Hid (R = fitB' (ps.drop k) t.data.toList f) ∧ Hid (Below w1.heap.size w1 wr)) (fun _ i _ => n - (intOf i).toNat)
    case atStart => exact ⟨0, w1.heap.size, fun j => j == 0, Nat.zero_le _, rfl, rfl, hide (fun j hj => unhide ST j (by omega)), by simp, hide (by rw [List.drop_zero, unhide HR]), hide ((Below.refl _ _).alloc (Nat.le_refl _) _)⟩
    case round =>
      obtain ⟨k, eb, f, hk, rfl, rfl, hf, heb, hh, hbel⟩ := hrel
      have hzr := (unhide hbel).size
      by_cases hlt : k < n
      · obtain ⟨p, hpk⟩ : ∃ p, ps[k]? = some p := ⟨_, List.getElem?_eq_getElem (by rw [unhide HN]; exact hlt)⟩
        obtain ⟨q0, q1⟩ := pcCells_at ps k p hpk
        obtain ⟨g, rfl, hc0, hg, _⟩ := unhide HAT _ _ q0
        obtain ⟨g', hgg, hc1, _, _⟩ := unhide HAT _ _ q1
        obtain rfl : g = g' := by simpa using hgg
        have d0 := ((unhide hbel).cell (p := ⟨g, k * 2, none⟩) hg).trans hc0
        have d1 := ((unhide hbel).cell (p := ⟨g, k * 2 + 1, none⟩) hg).trans hc1
        have HH : Hid (R = fitB' (ps.drop (k + 1)) t.data.toList (nextB p t.data.toList f)) := hide (by rw [unhide hh, fit_more hpk])
        have FR := hide (fun w2 (h : BoolsAt w2 eb t.size f) (hl : eb < w2.heap.size) => from_any p f eb m t ht w2 h hl)
        rw [hm] at FR
        clear hh hpk q0 q1 hgg hc0 hc1
        go_wp2_with (go_at_call 204; refine (unhide FR _ ((unhide hf).below ((Below.refl _ _).alloc (Nat.le_refl _) _) heb) (by simp; omega)).mono ?_; rintro en w2 ⟨nb, rfl, hnb, hnl, hbs, hb2⟩)
        go_roundw
        case rel => exact ⟨k + 1, nb, _, by omega, by go_num, rfl, hide hbs, hnl, HH, hide ((unhide hbel).trans ((below_step hb2).mono (by omega)))⟩
        case measure => simp [intOf]; omega
      · have HH : Hid (R = f t.size) := hide (by rw [unhide hh, fit_end (by rw [unhide HN]; omega), data_len])
        have hfl := unhide hf t.size (Nat.le_refl _)
        have htm : t.size < m := by omega
        clear hh
        go_wp2_with fail
        go_ret
        exact ⟨by rw [unhide HH]; rfl, below_any (unhide hb1) (unhide hbel)⟩
end

end Go.Proofs.YtfkcaldjphakpaaGreatDoor
