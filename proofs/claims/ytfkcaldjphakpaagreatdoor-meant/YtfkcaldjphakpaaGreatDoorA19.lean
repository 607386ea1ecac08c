/- Cores: terms of the one form, their texts, and how they lie in memory. A text that has these tokens reads so. digits of any int; the token that digits are. The texts of Ranges, by their tokens. is, truth, sum. What is read of tokens is read of them too where a closing parenthesis follows, some things open more, or it is too deep. The escapes and the texts of what is read are short. -/
import Derived.Test.YtfkcaldjphakpaaGreatDoorA12
import Derived.Test.YtfkcaldjphakpaaGreatDoorA11
import Derived.Lib.AppendIntMem
import Derived.Lib.ItoaNum
import Derived.Lib.SlicesCompact
import Derived.Test.YtfkcaldjphakpaaGreatDoorA14
import Derived.Test.YtfkcaldjphakpaaGreatDoorA10
import Derived.Test.YtfkcaldjphakpaaGreatDoorA23
import Derived.Test.YtfkcaldjphakpaaGreatDoorQOf2
import Derived.Test.YtfkcaldjphakpaaGreatDoorShelf
namespace Go.Proofs.YtfkcaldjphakpaaGreatDoor
open Go.RowKit

section
/-- What contracts of the library lean on: the error, the longest needle, the powers of ten. -/
structure LibOk (w : World) : Prop where
  err : ErrOk w
  max : 4 < w.heap.size ∧ ∃ m, w.cell? ⟨4, 0, none⟩ = some (.int .i64 m)
  pow : Lib.TabIs Tryz.prog w "internal/strconv.uint64pow10" .u64 Lib.pow10Tab

theorem LibOk.below {w w' : World} {B : Nat} (h : LibOk w) (hb : Below B w w') (hB : w.heap.size ≤ B) : LibOk w' := by
  obtain ⟨hz, m, hm⟩ := h.max
  exact ⟨h.err.below hb hB, ⟨Nat.lt_of_lt_of_le hz (by have := hb.size; omega), m, (hb.cell (p := ⟨4, 0, none⟩) (Nat.lt_of_lt_of_le hz hB)).trans hm⟩, (Lib.tabBelow_of_tabIs h.pow) w' (hb.mono hB)⟩
theorem LibOk.alloc {w : World} (h : LibOk w) (o : Obj) : LibOk (w.alloc o) := h.below ((Below.refl _ _).alloc (Nat.le_refl _) o) (Nat.le_refl _)

/-- What a term of a core bears. -/
structure CP where
  op : Int
  num : Int
  str : List UInt8
  esc : List UInt8
inductive Co where
  | leaf (p : CP)
  | un (p : CP) (x : Co)
  | bin (p : CP) (x y : Co)

/-- A text between its quotes. -/
def qL (s : List UInt8) : List UInt8 := 39 :: (dblL s ++ [39])
def signL (op : Int) : List UInt8 :=
  if op == 6 then [65, 78, 68] else if op == 7 then [79, 82] else if op == 8 then [61] else if op == 10 then [60] else if op == 11 then [60, 61]
  else if op == 16 then [43] else if op == 17 then [45] else if op == 18 then [42] else [47]
def escT (e : List UInt8) : List UInt8 := if e.isEmpty then [] else [32, 69, 83, 67, 65, 80, 69, 32] ++ qL e
def spellN (p : CP) (l r : List UInt8) : List UInt8 :=
  if p.op == 0 then p.str else if p.op == 1 then Lib.itoa p.num else if p.op == 2 then qL p.str else if p.op == 3 then [84, 82, 85, 69] else if p.op == 4 then [70, 65, 76, 83, 69]
  else if p.op == 5 then [40, 78, 79, 84, 32] ++ l ++ [41] else if p.op == 23 then [40] ++ l ++ [32, 73, 83, 32, 78, 85, 76, 76, 41]
  else if p.op == 22 then [40] ++ l ++ [32, 76, 73, 75, 69, 32] ++ qL p.str ++ escT p.esc ++ [41]
  else [40] ++ l ++ [32] ++ signL p.op ++ [32] ++ r ++ [41]
def spell : Co → List UInt8
  | .leaf p => spellN p [] []
  | .un p x => spellN p (spell x) []
  | .bin p x y => spellN p (spell x) (spell y)

def opC : Co → Int
  | .leaf p => p.op
  | .un p _ => p.op
  | .bin p _ _ => p.op
def plainP' (op : Int) : CP := ⟨op, 0, [], []⟩

def eitherB (op : Int) : Bool := op == 6 || op == 7 || op == 8 || op == 16 || op == 18
def pairC (op : Int) (x y : Co) : Co := if eitherB op && Op.bytesLess (spell y) (spell x) then .bin (plainP' op) y x else .bin (plainP' op) x y
def notC : Co → Co
  | .leaf p => if p.op == 3 then .leaf (plainP' 4) else if p.op == 4 then .leaf (plainP' 3) else .un (plainP' 5) (.leaf p)
  | .un p x => if p.op == 5 && opC x != 0 then x else .un (plainP' 5) (.un p x)
  | .bin p x y => if p.op == 6 then pairC 7 (notC x) (notC y) else if p.op == 7 then pairC 6 (notC x) (notC y)
      else if p.op == 10 then pairC 11 y x else if p.op == 11 then pairC 10 y x else .un (plainP' 5) (.bin p x y)
def textC (s : List UInt8) : Co := .leaf ⟨2, 0, s, []⟩
def numC (n : Int) : Co := .leaf ⟨1, n, [], []⟩
def orAll (x : Co) : Co → List (List UInt8) → Co
  | f, [] => f
  | f, t :: r => orAll x (pairC 7 f (pairC 8 x (textC t))) r
def sortT (ts : List (List UInt8)) : List (List UInt8) := Lib.compact (ts.mergeSort fun x y => decide (x ≤ y))
def amongC (x : Co) (ts : List (List UInt8)) : Co := match sortT ts with
  | [] => x
  | t :: r => orAll x (pairC 8 x (textC t)) r
def cpOf (p : Pay) : CP := ⟨p.op, p.num, p.str, p.esc⟩
def coreA : Ast → Co
  | .leaf p => .leaf (cpOf p)
  | .un p x => if p.op == 14 then pairC 16 (numC 0) (coreA x) else if p.op == 15 then pairC 17 (numC 0) (coreA x) else if p.op == 5 then notC (coreA x)
      else if p.op == 21 then amongC (coreA x) p.texts else .un (cpOf p) (coreA x)
  | .bin p x y => if p.op == 12 then pairC 10 (coreA y) (coreA x) else if p.op == 13 then pairC 11 (coreA y) (coreA x) else if p.op == 9 then notC (pairC 8 (coreA x) (coreA y)) else pairC p.op (coreA x) (coreA y)
  | .tri _ x y z => pairC 6 (pairC 11 (coreA y) (coreA x)) (pairC 11 (coreA x) (coreA z))

/-- A core's own block. -/
structure CellsC (B E : Nat) (w : World) (b : Nat) (p : CP) (l r : Value) (t : List UInt8) : Prop where
  lo : B ≤ b
  hi : b < E
  within : b < w.heap.size
  c0 : w.cell? ⟨b, 0, none⟩ = some (.int .i64 p.op)
  c1 : w.cell? ⟨b, 1, none⟩ = some l
  c2 : w.cell? ⟨b, 2, none⟩ = some r
  c3 : w.cell? ⟨b, 3, none⟩ = some (.int .i64 p.num)
  c4 : w.cell? ⟨b, 4, none⟩ = some (.string (BS p.str))
  c5 : w.cell? ⟨b, 5, none⟩ = some (.string (BS p.esc))
  c6 : w.cell? ⟨b, 6, none⟩ = some (.string (BS t))
def nilP : Value := .pointer none
def at0 (b : Nat) : Value := .pointer (some ⟨b, 0, none⟩)
def CoAt (B E : Nat) (w : World) (v : Value) : Co → Prop
  | .leaf p => ∃ b, v = at0 b ∧ CellsC B E w b p nilP nilP (spell (.leaf p))
  | .un p x => ∃ b vx, v = at0 b ∧ CellsC B E w b p vx nilP (spell (.un p x)) ∧ CoAt B E w vx x
  | .bin p x y => ∃ b vx vy, v = at0 b ∧ CellsC B E w b p vx vy (spell (.bin p x y)) ∧ CoAt B E w vx x ∧ CoAt B E w vy y

theorem CellsC.keep {B E E' : Nat} {w w' : World} {b : Nat} {p : CP} {l r : Value} {t : List UInt8} (h : CellsC B E w b p l r t) (hE : E ≤ E') (hk : ∀ k, B ≤ k → k < E → w'.heap[k]? = w.heap[k]?) (hz : w.heap.size ≤ w'.heap.size) : CellsC B E' w' b p l r t := by
  have hc : ∀ j, w'.cell? ⟨b, j, none⟩ = w.cell? ⟨b, j, none⟩ := fun j => World.cell?_of_block (w := w) (w' := w') (a := ⟨b, j, none⟩) (hk b h.lo h.hi)
  exact ⟨h.lo, Nat.lt_of_lt_of_le h.hi hE, Nat.lt_of_lt_of_le h.within hz, (hc 0).trans h.c0, (hc 1).trans h.c1, (hc 2).trans h.c2, (hc 3).trans h.c3, (hc 4).trans h.c4, (hc 5).trans h.c5, (hc 6).trans h.c6⟩
theorem CoAt.keep {B E E' : Nat} {w w' : World} (hE : E ≤ E') (hk : ∀ k, B ≤ k → k < E → w'.heap[k]? = w.heap[k]?) (hz : w.heap.size ≤ w'.heap.size) : ∀ {c : Co} {v : Value}, CoAt B E w v c → CoAt B E' w' v c := by
  intro c
  induction c with
  | leaf p => rintro v ⟨b, rfl, h⟩; exact ⟨b, rfl, h.keep hE hk hz⟩
  | un p x ih => rintro v ⟨b, vx, rfl, h, hx⟩; exact ⟨b, vx, rfl, h.keep hE hk hz, ih hx⟩
  | bin p x y ihx ihy => rintro v ⟨b, vx, vy, rfl, h, hx, hy⟩; exact ⟨b, vx, vy, rfl, h.keep hE hk hz, ihx hx, ihy hy⟩
theorem CoAt.below {B : Nat} {w w' : World} (hb : Below w.heap.size w w') {c : Co} {v : Value} (h : CoAt B w.heap.size w v c) : CoAt B w'.heap.size w' v c :=
  h.keep hb.size (fun k _ hk => hb.block k hk) hb.size
theorem CoAt.head {B E : Nat} {w : World} {v : Value} {c : Co} (h : CoAt B E w v c) : ∃ b p l r, v = at0 b ∧ p.op = opC c ∧ CellsC B E w b p l r (spell c) := by
  cases c with
  | leaf p => obtain ⟨b, rfl, h⟩ := h; exact ⟨b, p, _, _, rfl, rfl, h⟩
  | un p x => obtain ⟨b, vx, rfl, h, _⟩ := h; exact ⟨b, p, _, _, rfl, rfl, h⟩
  | bin p x y => obtain ⟨b, vx, vy, rfl, h, _⟩ := h; exact ⟨b, p, _, _, rfl, rfl, h⟩

/-- A side's text: what spelling asks of it. -/
def TextAt (w : World) (v : Value) (t : List UInt8) : Prop := ∃ b, v = at0 b ∧ b < w.heap.size ∧ w.cell? ⟨b, 6, none⟩ = some (.string (BS t))
theorem CoAt.text {B E : Nat} {w : World} {v : Value} {c : Co} (h : CoAt B E w v c) : TextAt w v (spell c) := by
  obtain ⟨b, p, l, r, rfl, _, h⟩ := h.head
  exact ⟨b, rfl, h.within, h.c6⟩
end

section
/-- The tokens of bytes. -/
inductive Lx : List UInt8 → List Tk → Prop where
  | nil {r : List UInt8} (h : nextTk r 0 = plainTk 0) : Lx r []
  | cons {r : List UInt8} {k : Tk} {L : List Tk} (e : nextTk r 0 = k) (h : k.kind ≠ 0) (t : Lx (r.drop (nextTo r 0)) L) : Lx r (k :: L)

theorem nextAt_drop (l : List UInt8) (k : Nat) : nextAt l k = k + nextAt (l.drop k) 0 := by
  unfold nextAt; rw [List.drop_zero, Nat.zero_add]
theorem nextTk_drop (l : List UInt8) (k : Nat) : nextTk l k = nextTk (l.drop k) 0 := by
  unfold nextTk
  rw [nextAt_drop l k, ← List.drop_drop, List.length_drop]
  by_cases h : k + nextAt (l.drop k) 0 < l.length
  · rw [if_pos h, if_pos (by omega)]
  · rw [if_neg h, if_neg (by omega)]
theorem nextTo_drop (l : List UInt8) (k : Nat) (hk : k ≤ l.length) : nextTo l k = k + nextTo (l.drop k) 0 := by
  unfold nextTo
  rw [nextAt_drop l k, ← List.drop_drop, List.length_drop]
  by_cases h : k + nextAt (l.drop k) 0 < l.length
  · rw [if_pos h, if_pos (by omega)]; omega
  · rw [if_neg h, if_neg (by omega)]; omega

theorem str_of_lx {s : ByteArray} {r : List UInt8} {L : List Tk} (h : Lx r L) : ∀ st : St, st.after ≤ s.size → s.data.toList.drop st.after = r → Str s (stepSt s st) L := by
  induction h with
  | nil h =>
    intro st _ hr
    refine .nil ?_
    show nextTk s.data.toList st.after = _
    rw [nextTk_drop, hr, h]
  | cons e h t ih =>
    intro st ha hr
    rename_i r k L
    have hk : (stepSt s st).tk = k := by
      show nextTk s.data.toList st.after = _
      rw [nextTk_drop, hr, e]
    rw [← hk]
    refine .cons (by rw [hk]; exact h) (ih _ (stepSt_fine s st ha).after ?_)
    show s.data.toList.drop (nextTo s.data.toList st.after) = _
    rw [nextTo_drop _ _ (by rw [data_len]; exact ha), ← List.drop_drop, hr]

/-- Classes know no places, but for faults. -/
inductive CRel : CRes → CRes → Prop where
  | ok (c : Int) : CRel (.ok c) (.ok c)
  | err (p q : Int) : CRel (.err p) (.err q)

inductive CRels : List CRes → List CRes → Prop where
  | nil : CRels [] []
  | cons {a b : CRes} {r r' : List CRes} (h : CRel a b) (t : CRels r r') : CRels (a :: r) (b :: r')

theorem dem_rel (want p q : Int) : ∀ rs rs' : List CRes, CRels rs rs' → ∀ fit, (dem want p rs fit).isNone = (dem want q rs' fit).isNone := by
  intro rs rs' h
  induction h with
  | nil => intro fit; cases fit <;> rfl
  | cons h _ ih =>
    intro fit
    cases h with
    | ok c => exact ih _
    | err a b => rfl
theorem demR_rel (want p q c : Int) {rs rs' : List CRes} (h : CRels rs rs') : CRel (demR want p c rs) (demR want q c rs') := by
  have := dem_rel want p q rs rs' h true
  unfold demR
  cases h1 : dem want p rs true <;> cases h2 : dem want q rs' true <;> rw [h1, h2] at this
  · exact .ok _
  · cases this
  · cases this
  · exact .err _ _
theorem alike_rel (p q : Int) {a a' b b' : CRes} (ha : CRel a a') (hb : CRel b b') : CRel (alikeR p a b) (alikeR q a' b') := by
  cases ha with
  | err x y => exact .err _ _
  | ok c =>
    cases hb with
    | err x y => exact .err _ _
    | ok d =>
      show CRel (if (c != d && c != 0 && d != 0) = true then CRes.err p else CRes.ok 3) (if (c != d && c != 0 && d != 0) = true then CRes.err q else CRes.ok 3)
      by_cases h : (c != d && c != 0 && d != 0) = true
      · rw [if_pos h, if_pos h]; exact .err _ _
      · rw [if_neg h, if_neg h]; exact .ok _
theorem clsOf_rel (op p q : Int) {rs rs' : List CRes} (h : CRels rs rs') : CRel (clsOf op p rs) (clsOf op q rs') := by
  unfold clsOf
  by_cases c0 : (op == 0) = true
  · rw [if_pos c0, if_pos c0]; exact .ok _
  rw [if_neg c0, if_neg c0]
  by_cases c1 : (op == 1) = true
  · rw [if_pos c1, if_pos c1]; exact .ok _
  rw [if_neg c1, if_neg c1]
  by_cases c2 : (op == 2) = true
  · rw [if_pos c2, if_pos c2]; exact .ok _
  rw [if_neg c2, if_neg c2]
  by_cases c3 : (op == 5 || op == 6 || op == 7) = true
  · rw [if_pos c3, if_pos c3]; exact demR_rel _ _ _ _ h
  rw [if_neg c3, if_neg c3]
  by_cases c4 : (op == 10 || op == 11 || op == 12 || op == 13 || op == 20) = true
  · rw [if_pos c4, if_pos c4]; exact demR_rel _ _ _ _ h
  rw [if_neg c4, if_neg c4]
  by_cases c5 : (op == 14 || op == 15 || op == 16 || op == 17 || op == 18 || op == 19) = true
  · rw [if_pos c5, if_pos c5]; exact demR_rel _ _ _ _ h
  rw [if_neg c5, if_neg c5]
  by_cases c6 : (op == 8 || op == 9) = true
  · rw [if_pos c6, if_pos c6]
    cases h with
    | nil => exact .ok _
    | cons ha t1 =>
      cases t1 with
      | nil => exact .ok _
      | cons hb t2 =>
        cases t2 with
        | nil => exact alike_rel p q ha hb
        | cons _ _ => exact .ok _
  rw [if_neg c6, if_neg c6]
  exact .ok _

theorem cls_erase (t : Ast) : CRel (clsA t) (clsA (erase t)) := by
  induction t with
  | leaf p => exact clsOf_rel _ _ _ .nil
  | un p x ih => exact clsOf_rel _ _ _ (.cons ih .nil)
  | bin p x y ihx ihy => exact clsOf_rel _ _ _ (.cons ihx (.cons ihy .nil))
  | tri p x y z ihx ihy ihz => exact clsOf_rel _ _ _ (.cons ihx (.cons ihy (.cons ihz .nil)))

theorem chk_erase {t : Ast} (h : chkR (clsA (erase t)) = none) : chkR (clsA t) = none := by
  have hr := cls_erase t
  cases h1 : clsA t with
  | ok c =>
    rw [h1] at hr
    cases h2 : clsA (erase t) with
    | ok d => rw [h2] at hr h; cases hr; exact h
    | err q => rw [h2] at hr; cases hr
  | err p =>
    rw [h1] at hr
    cases h2 : clsA (erase t) with
    | ok d => rw [h2] at hr; cases hr
    | err q => rw [h2] at h; cases h

theorem of_erase (ps : List Pr) (t : Ast) : ofA ps (erase t) = ofA ps t := by
  induction t with
  | leaf p => rfl
  | un p x ih => show ofN ps (noPl p) [ofA ps (erase x)] = _; rw [ih]; rfl
  | bin p x y ihx ihy => show ofN ps (noPl p) [ofA ps (erase x), ofA ps (erase y)] = _; rw [ihx, ihy]; rfl
  | tri p x y z ihx ihy ihz => show ofN ps (noPl p) [ofA ps (erase x), ofA ps (erase y), ofA ps (erase z)] = _; rw [ihx, ihy, ihz]; rfl

/-- A text of these tokens is the selector that reading them gives, places aside. -/
theorem read_of_tokens (s : ByteArray) (hs : s.size ≤ 200) (L : List Tk) (hL : Lx s.data.toList L) (t' : Ast) (h : (tLvl 12).E ⟨L, 0⟩ = .ok t' ⟨[], 0⟩) (hc : chkR (clsA t') = none) :
    ∃ t, readR s = .ok t ∧ erase t = t' ∧ NumA t ∧ BndA t := by
  have hst : Str s (stepSt s st0) L := str_of_lx hL st0 (Nat.zero_le _) (List.drop_zero)
  have hfi := stepSt_fine s st0 (Nat.zero_le _)
  have hsim := (sim_lvl s 12).E (stepSt s st0) ⟨L, 0⟩ hfi hst rfl
  rcases hsim.cases with ⟨t, st, ts, e1, e2, e3, e4, e5⟩ | ⟨en, pl, e1, e2⟩
  · rw [h] at e2
    injection e2 with g1 g2
    subst g2
    have hk : st.tk.kind = 0 := by
      cases e3 with
      | nil h => rw [h]; rfl
    refine ⟨t, ?_, g1.symm, ((lvl_num s 12).E _ _ _ (stepSt_tk s st0) e1).1, ((lvl_bnd s hs 12).E _ _ _ (stepSt_ln hs st0) e1).1⟩
    rw [readR, if_pos hs, e1]
    show endR t st = _
    rw [endR, if_pos hk, chk_erase (by rw [← g1]; exact hc)]
  · rw [h] at e2; cases e2
end

section
theorem dig_dig (n : Nat) : digU (dig n) = true := by
  unfold digU digB
  rw [dig_nat]
  simp
  omega

theorem digN_dig (n : Nat) : ∀ c ∈ digN n, digU c = true := by
  induction n using Nat.strongRecOn with
  | ind n ih =>
    intro c hc
    by_cases h : n < 10
    · rw [digN_small h] at hc; simp at hc; subst hc; exact dig_dig n
    · rw [digN_more h, List.mem_append] at hc
      rcases hc with hc | hc
      · exact ih (n / 10) (by omega) c hc
      · simp at hc; subst hc; exact dig_dig n

theorem digN_ne (n : Nat) : digN n ≠ [] := by
  by_cases h : n < 10
  · rw [digN_small h]; simp
  · rw [digN_more h]; simp

theorem runLen_all_then (p : UInt8 → Bool) : ∀ (l r : List UInt8), (∀ c ∈ l, p c = true) → (∀ c, r.head? = some c → p c = false) → runLen p (l ++ r) = l.length := by
  intro l
  induction l with
  | nil =>
    intro r _ h
    cases r with
    | nil => rfl
    | cons c t => simp [runLen, h c rfl]
  | cons c t ih =>
    intro r h1 h2
    have := ih r (fun x hx => h1 x (by simp [hx])) h2
    simp [runLen, h1 c (by simp), this]

theorem decVal_snoc (l : List UInt8) (c : UInt8) : ∀ k, decVal k (l ++ [c]) = decVal k l * 10 + (c.toNat - 48) := by
  induction l with
  | nil => intro k; rfl
  | cons d t ih =>
    intro k
    show decVal (k * 10 + (d.toNat - 48)) (t ++ [c]) = decVal (k * 10 + (d.toNat - 48)) t * 10 + (c.toNat - 48)
    rw [ih]

theorem decVal_dig (n : Nat) : decVal 0 (digN n) = n := by
  induction n using Nat.strongRecOn with
  | ind n ih =>
    by_cases h : n < 10
    · rw [digN_small h]
      show 0 * 10 + ((dig n).toNat - 48) = n
      rw [dig_nat]; omega
    · rw [digN_more h, decVal_snoc, ih (n / 10) (by omega), dig_nat]; omega

/-- Digits, and no digit behind them, are a number. -/
theorem tk_digits (n : Nat) (hn : n ≤ 9223372036854775807) (r : List UInt8) (hr : ∀ c, r.head? = some c → digU c = false) : nextTk (digN n ++ r) 0 = ⟨3, n, []⟩ ∧ nextTo (digN n ++ r) 0 = (digN n).length := by
  obtain ⟨c, t, hc⟩ : ∃ c t, digN n = c :: t := by
    cases h : digN n with
    | nil => exact absurd h (digN_ne n)
    | cons c t => exact ⟨c, t, rfl⟩
  have hd : digU c = true := digN_dig n c (by rw [hc]; simp)
  have hsp : spU c = false := by
    unfold digU digB at hd
    unfold spU spB
    simp at hd ⊢
    omega
  have hbg : begU c = false := by
    unfold digU digB at hd
    unfold begU begB
    simp at hd ⊢
    omega
  have hrun := runLen_all_then digU (digN n) r (digN_dig n) hr
  have hat : nextAt (digN n ++ r) 0 = 0 := by
    unfold nextAt; rw [List.drop_zero, hc]; simp [runLen, hsp]
  have hlen : 0 < (digN n ++ r).length := by rw [hc]; simp
  constructor
  · unfold nextTk
    rw [hat, if_pos hlen, List.drop_zero]
    have : firstTk (digN n ++ r) = numTk (digN n ++ r) := by
      conv => lhs; rw [hc]
      show (if begU c then _ else if digU c then _ else _) = _
      rw [hbg, hd, hc]; rfl
    rw [this]
    unfold numTk
    rw [hrun, List.take_left, decVal_dig, if_pos (by omega)]
  · unfold nextTo
    rw [hat, if_pos hlen, List.drop_zero, Nat.zero_add]
    have : firstS (digN n ++ r) = runLen digU (digN n ++ r) := by
      conv => lhs; rw [hc]
      show (if begU c then _ else if digU c then _ else _) = _
      rw [hbg, hd, hc]; rfl
    rw [this, hrun]

theorem lx_digits {n : Nat} (hn : n ≤ 9223372036854775807) {r : List UInt8} (hr : ∀ c, r.head? = some c → digU c = false) {L : List Tk} (h : Lx r L) : Lx (digN n ++ r) (⟨3, n, []⟩ :: L) := by
  obtain ⟨h1, h2⟩ := tk_digits n hn r hr
  refine .cons h1 (show (3 : Int) ≠ 0 by decide) ?_
  rw [h2, List.drop_left]
  exact h
end

section
theorem lx_space {r : List UInt8} {L : List Tk} (h : Lx r L) : Lx (32 :: r) L := by
  have ha : nextAt (32 :: r) 0 = nextAt r 0 + 1 := by unfold nextAt; simp [runLen, show spU 32 = true from rfl]
  have hk : nextTk (32 :: r) 0 = nextTk r 0 := by
    unfold nextTk
    rw [ha]
    by_cases hl : nextAt r 0 < r.length
    · rw [if_pos hl, if_pos (by simp; omega)]; rfl
    · rw [if_neg hl, if_neg (by simp; omega)]
  have ht : nextTo (32 :: r) 0 = nextTo r 0 + 1 := by
    unfold nextTo
    rw [ha]
    by_cases hl : nextAt r 0 < r.length
    · rw [if_pos hl, if_pos (by simp; omega), List.drop_succ_cons]; omega
    · rw [if_neg hl, if_neg (by simp; omega)]; simp
  cases h with
  | nil h => exact .nil (hk.trans h)
  | cons e h t => exact .cons (hk.trans e) h (by rw [ht, List.drop_succ_cons]; exact t)

theorem lx_end : Lx [] [] := .nil rfl
end

section
set_option maxHeartbeats 400000 in
theorem truth_any (b : Bool) (w : World) :
    Calls Tryz.prog 18 #[.bool b] w fun e w' => e = .returned (vV (bV b)) ∧ Below w.heap.size w w' := by
  cases b
  all_goals
    go_enter Tryz.func18, Tryz.ntmps18
    go_wp2_with fail
    refine bodyPost_ret (by simp [results, Tryz.results18, go_sem] <;> rfl) rfl ⟨rfl, ?_⟩
    exact below2 _ _ _

set_option maxHeartbeats 400000 in
theorem is_any (s : ByteArray) (ev : Value) (r want : V) (hev : ∃ a n c, ev = .slice a n c) (w : World) (hEV : ∀ w1, Below w.heap.size w w1 → w.heap.size < w1.heap.size → Calls Tryz.prog 23 #[.string s, ev] w1 fun e w' => e = .returned (.tuple #[vV r, .int .i64 0, .int .i64 0]) ∧ Below w1.heap.size w1 w') :
    Calls Tryz.prog 17 #[.string s, ev, vV want] w fun e w' => e = .returned (.bool (decide (r = want))) ∧ Below w.heap.size w w' := by
  have he := fun w => eql_v r want w
  have EV := hide hEV
  obtain ⟨a, n, c, rfl⟩ := hev
  obtain ⟨d, hd⟩ : ∃ d, decide (r = want) = d := ⟨_, rfl⟩
  rw [hd] at he ⊢
  clear hEV hd
  simp only [vV] at he
  conv => arg 3; simp only [vV]
  go_enter Tryz.func17, Tryz.ntmps17
  go_wp2_with (go_at_call 23; refine (unhide EV _ ((Below.refl _ _).alloc (Nat.le_refl _) _) (by simp)).mono ?_; rintro e w1 ⟨rfl, hb1⟩; have hz1 : w.heap.size < w1.heap.size := (by have := hb1.size; simp at this; omega); have g0 : w1.cell? ⟨w.heap.size, 0, none⟩ = some (.int .i64 want.kind) := ((bcell hb1).1 _ 0 (by simp)).trans (by simp); have g1 : w1.cell? ⟨w.heap.size, 1, none⟩ = some (.int .i64 want.num) := ((bcell hb1).1 _ 1 (by simp)).trans (by simp); have g2 : w1.cell? ⟨w.heap.size, 2, none⟩ = some (.string (BS want.str)) := ((bcell hb1).1 _ 2 (by simp)).trans (by simp); have hB1 := hide (below_step hb1); clear hb1; simp only [vV])
  go_ret
  exact ⟨rfl, below_alloc (unhide hB1) _⟩
end

section
/-- Tokens that begin with a closing parenthesis. -/
def Clo (X : List Tk) : Prop := (hd X).kind = 27

def sh (X : List Tk) (k : Nat) (ts : TS) : TS := ⟨ts.toks ++ X, ts.op + k⟩

def ExtR (X : List Tk) (k o : Nat) (r r' : TRes) : Prop := ∀ t ts, r = .ok t ts → ts.op = o ∧ (r' = .err 3 ∨ r' = .ok t (sh X k ts))
def Ext (X : List Tk) (k o : Nat) (f f' : TS → TRes) : Prop := ∀ ts, ts.op = o → ExtR X k o (f ts) (f' (sh X k ts))

theorem ExtR.err {X : List Tk} {k o : Nat} {en : Int} {r : TRes} : ExtR X k o (.err en) r := by
  intro t ts h; cases h
theorem ExtR.deep {X : List Tk} {k o : Nat} {r : TRes} (h : ∀ t ts, r = .ok t ts → ts.op = o) : ExtR X k o r (.err 3) := fun t ts he => ⟨h t ts he, .inl rfl⟩
theorem ExtR.ok {X : List Tk} {k o : Nat} {t : Ast} {ts : TS} (h : ts.op = o) : ExtR X k o (.ok t ts) (.ok t (sh X k ts)) := by
  intro t' ts' he
  injection he with h1 h2
  subst h1 h2
  exact ⟨h, .inr rfl⟩

theorem ExtR.cases {X : List Tk} {k o : Nat} {r r' : TRes} (h : ExtR X k o r r') : (∃ en, r = .err en) ∨ (∃ t ts, r = .ok t ts ∧ ts.op = o ∧ r' = .err 3) ∨ ∃ t ts, r = .ok t ts ∧ ts.op = o ∧ r' = .ok t (sh X k ts) := by
  cases hr : r with
  | err en => exact .inl ⟨en, rfl⟩
  | ok t ts =>
    obtain ⟨h1, h2 | h2⟩ := h t ts hr
    · exact .inr (.inl ⟨t, ts, rfl, h1, h2⟩)
    · exact .inr (.inr ⟨t, ts, rfl, h1, h2⟩)

theorem ne_of_kind {ts : TS} {c : Int} (hc : c ≠ 0) (h : ts.tk.kind = c) : ts.toks ≠ [] := by
  intro e
  unfold TS.tk at h
  rw [e] at h
  exact hc h.symm
theorem sh_tk {X : List Tk} {k : Nat} {ts : TS} (h : ts.toks ≠ []) : (sh X k ts).tk = ts.tk := by
  unfold sh TS.tk
  cases ht : ts.toks with
  | nil => exact absurd ht h
  | cons a r => rfl
theorem sh_next {X : List Tk} {k : Nat} {ts : TS} (h : ts.toks ≠ []) : (sh X k ts).next = sh X k ts.next := by
  unfold sh TS.next
  cases ht : ts.toks with
  | nil => exact absurd ht h
  | cons a r => rfl
theorem sh_in {X : List Tk} {k : Nat} {ts : TS} (h : ts.toks ≠ []) : tIn (sh X k ts) = sh X k (tIn ts) := by
  unfold sh tIn
  cases ht : ts.toks with
  | nil => exact absurd ht h
  | cons a r =>
    show TS.mk (r ++ X) (ts.op + k + 1) = TS.mk (r ++ X) (ts.op + 1 + k)
    rw [Nat.add_right_comm]
theorem sh_end {X : List Tk} (hX : Clo X) {k : Nat} {ts : TS} (h : ts.toks = []) : (sh X k ts).tk.kind = 27 := by
  unfold sh TS.tk
  rw [h]
  exact hX
theorem sh_kind {X : List Tk} (hX : Clo X) {k : Nat} {ts : TS} {c : Int} (h0 : c ≠ 0) (h27 : c ≠ 27) : (sh X k ts).tk.kind = c ↔ ts.tk.kind = c := by
  by_cases h : ts.toks = []
  · have h1 := sh_end hX (k := k) h
    have h2 : ts.tk.kind = 0 := by unfold TS.tk; rw [h]; rfl
    rw [h1, h2]
    exact ⟨fun e => absurd e.symm h27, fun e => absurd e.symm h0⟩
  · rw [sh_tk h]
theorem sh_str {X : List Tk} {k : Nat} {ts : TS} {c : Int} (hc : c ≠ 0) (h : ts.tk.kind = c) : (sh X k ts).tk = ts.tk ∧ (sh X k ts).next = sh X k ts.next := ⟨sh_tk (ne_of_kind hc h), sh_next (ne_of_kind hc h)⟩
theorem sh_contains {X : List Tk} (hX : Clo X) {k : Nat} {ts : TS} {ks : List Int} (h0 : ks.contains 0 = false) (h27 : ks.contains 27 = false) : ks.contains (sh X k ts).tk.kind = ks.contains ts.tk.kind := by
  by_cases h : ts.toks = []
  · have h1 := sh_end hX (k := k) h
    have h2 : ts.tk.kind = 0 := by unfold TS.tk; rw [h]; rfl
    rw [h1, h2, h0, h27]
  · rw [sh_tk h]

section
variable {X : List Tk} {k o : Nat} {f f' : TS → TRes}

theorem Ext.join (h : Ext X k o f f') (ts : TS) (l : Ast) (ho : ts.op = o) (hne : ts.toks ≠ []) : ExtR X k o (tJoin f ts l) (tJoin f' (sh X k ts) l) := by
  unfold tJoin
  rw [sh_next hne, sh_tk hne]
  rcases (h ts.next ho).cases with ⟨en, e⟩ | ⟨t, ts', e, eo, e'⟩ | ⟨t, ts', e, eo, e'⟩
  · rw [e]; exact ExtR.err
  · rw [e, e']; exact ExtR.deep (fun t ts h => by injection h with _ h2; rw [← h2]; exact eo)
  · rw [e, e']; exact ExtR.ok eo

theorem Ext.loop (hX : Clo X) (h : Ext X k o f f') (hs : Shr f) (ks : List Int) (h0 : ks.contains 0 = false) (h27 : ks.contains 27 = false) : ∀ n n' l ts, ts.op = o → ts.toks.length < n → ts.toks.length + X.length < n' → ExtR X k o (tLoop f ks n l ts) (tLoop f' ks n' l (sh X k ts)) := by
  intro n
  induction n with
  | zero => intro n' l ts _ h1; omega
  | succ n ih =>
    intro n' l ts ho h1 h2
    obtain ⟨m, rfl⟩ : ∃ m, n' = m + 1 := ⟨n' - 1, by omega⟩
    rw [tLoop, tLoop, sh_contains hX h0 h27]
    by_cases hc : ks.contains ts.tk.kind = true
    · have hne : ts.toks ≠ [] := by
        intro e
        have : ts.tk.kind = 0 := by unfold TS.tk; rw [e]; rfl
        rw [this, h0] at hc
        cases hc
      rw [if_pos hc, if_pos hc]
      have hlt : ts.next.toks.length < ts.toks.length := by
        cases ht : ts.toks with
        | nil => exact absurd ht hne
        | cons a r => show (ts.toks.tail).length < _; rw [ht]; simp
      rcases (h.join ts l ho hne).cases with ⟨en, e⟩ | ⟨t, ts', e, eo, e'⟩ | ⟨t, ts', e, eo, e'⟩
      · rw [e]; exact ExtR.err
      · rw [e, e']
        have hl := hs.join _ _ _ _ e
        refine ExtR.deep (fun t2 ts2 he => ?_)
        obtain ⟨hh, _⟩ := ih (ts'.toks.length + X.length + 1) t ts' eo (by omega) (by omega) t2 ts2 he
        exact hh
      · rw [e, e']
        have hl := hs.join _ _ _ _ e
        exact ih m t ts' eo (by omega) (by omega)
    · rw [if_neg hc, if_neg hc]
      exact ExtR.ok ho

theorem Ext.row (hX : Clo X) (h : Ext X k o f f') (hs : Shr f) (ks : List Int) (h0 : ks.contains 0 = false) (h27 : ks.contains 27 = false) : Ext X k o (tRow f ks) (tRow f' ks) := by
  intro ts ho
  unfold tRow
  rcases (h ts ho).cases with ⟨en, e⟩ | ⟨t, ts', e, eo, e'⟩ | ⟨t, ts', e, eo, e'⟩
  · rw [e]; exact ExtR.err
  · rw [e, e']
    refine ExtR.deep (fun t2 ts2 he => ?_)
    exact (h.loop hX hs ks h0 h27 _ (ts'.toks.length + X.length + 1) t ts' eo (Nat.lt_succ_self _) (Nat.lt_succ_self _) t2 ts2 he).1
  · rw [e, e']
    exact h.loop hX hs ks h0 h27 _ _ t ts' eo (Nat.lt_succ_self _) (by show _ < (ts'.toks ++ X).length + 1; rw [List.length_append]; omega)

theorem Ext.sign (hk : o + k ≤ 12) (h : o + k < 12 → Ext X k (o + 1) f f') (n : Int) (ts : TS) (ho : ts.op = o) (hne : ts.toks ≠ []) : ExtR X k o (tSign f n ts) (tSign f' n (sh X k ts)) := by
  unfold tSign
  show ExtR X k o _ (if ts.op + k = 12 then _ else _)
  by_cases h12 : ts.op + k = 12
  · rw [if_pos h12]
    refine ExtR.deep (fun t2 ts2 he => ?_)
    split at he
    · cases he
    · split at he
      · injection he with _ h2; rw [← h2]; exact ho
      · cases he
  · rw [if_neg h12, if_neg (by omega), sh_in hne]
    rcases (h (by omega) (tIn ts) (by show ts.op + 1 = _; omega)).cases with ⟨en, e⟩ | ⟨t, ts', e, eo, e'⟩ | ⟨t, ts', e, eo, e'⟩
    · rw [e]; exact ExtR.err
    · rw [e, e']; exact ExtR.deep (fun t ts h => by injection h with _ h2; rw [← h2]; exact ho)
    · rw [e, e']; exact ExtR.ok ho

theorem Ext.group (hk : o + k ≤ 12) (h : o + k < 12 → Ext X k (o + 1) f f') (ts : TS) (ho : ts.op = o) (hne : ts.toks ≠ []) : ExtR X k o (tGroup f ts) (tGroup f' (sh X k ts)) := by
  unfold tGroup
  show ExtR X k o _ (if ts.op + k = 12 then _ else _)
  by_cases h12 : ts.op + k = 12
  · rw [if_pos h12]
    refine ExtR.deep (fun t2 ts2 he => ?_)
    split at he
    · cases he
    · split at he
      · split at he
        · injection he with _ h2; rw [← h2]; exact ho
        · cases he
      · cases he
  · rw [if_neg h12, if_neg (by omega), sh_in hne]
    rcases (h (by omega) (tIn ts) (by show ts.op + 1 = _; omega)).cases with ⟨en, e⟩ | ⟨t, ts', e, eo, e'⟩ | ⟨t, ts', e, eo, e'⟩
    · rw [e]; exact ExtR.err
    · rw [e, e']
      refine ExtR.deep (fun t2 ts2 he => ?_)
      simp only at he
      split at he
      · injection he with _ h2; rw [← h2]; exact ho
      · cases he
    · rw [e, e']
      show ExtR X k o (if ts'.tk.kind = 27 then _ else _) (if (sh X k ts').tk.kind = 27 then _ else _)
      by_cases h27 : ts'.tk.kind = 27
      · have hne' := ne_of_kind (by decide) h27
        rw [if_pos h27, if_pos (by rw [sh_tk hne']; exact h27)]
        have : (⟨(sh X k ts').toks.tail, (sh X k ts).op⟩ : TS) = sh X k ⟨ts'.toks.tail, ts.op⟩ := by
          unfold sh
          cases ht : ts'.toks with
          | nil => exact absurd ht hne'
          | cons a r => rfl
        rw [this]
        exact ExtR.ok ho
      · rw [if_neg h27]; exact ExtR.err

theorem Ext.signed (hX : Clo X) {g g' : TS → TRes} (hk : o + k ≤ 12) (hS : o + k < 12 → Ext X k (o + 1) f f') (hE : o + k < 12 → Ext X k (o + 1) g g') : Ext X k o (tSigned f g) (tSigned f' g') := by
  intro ts ho
  unfold tSigned
  by_cases h22 : ts.tk.kind = 22
  · rw [if_pos h22, if_pos ((sh_kind hX (by decide) (by decide)).2 h22)]
    exact Ext.sign hk hS 14 ts ho (ne_of_kind (by decide) h22)
  rw [if_neg h22, if_neg (fun e => h22 ((sh_kind hX (by decide) (by decide)).1 e))]
  by_cases h23 : ts.tk.kind = 23
  · rw [if_pos h23, if_pos ((sh_kind hX (by decide) (by decide)).2 h23)]
    exact Ext.sign hk hS 15 ts ho (ne_of_kind (by decide) h23)
  rw [if_neg h23, if_neg (fun e => h23 ((sh_kind hX (by decide) (by decide)).1 e))]
  by_cases h26 : ts.tk.kind = 26
  · rw [if_pos h26, if_pos ((sh_kind hX (by decide) (by decide)).2 h26)]
    exact Ext.group hk hE ts ho (ne_of_kind (by decide) h26)
  rw [if_neg h26, if_neg (fun e => h26 ((sh_kind hX (by decide) (by decide)).1 e))]
  by_cases h2 : ts.tk.kind = 2
  · rw [if_pos h2, if_pos ((sh_kind hX (by decide) (by decide)).2 h2), (sh_str (by decide) h2).1, (sh_str (by decide) h2).2]
    exact ExtR.ok ho
  rw [if_neg h2, if_neg (fun e => h2 ((sh_kind hX (by decide) (by decide)).1 e))]
  by_cases h3 : ts.tk.kind = 3
  · rw [if_pos h3, if_pos ((sh_kind hX (by decide) (by decide)).2 h3), (sh_str (by decide) h3).1, (sh_str (by decide) h3).2]
    exact ExtR.ok ho
  rw [if_neg h3, if_neg (fun e => h3 ((sh_kind hX (by decide) (by decide)).1 e))]
  by_cases h4 : ts.tk.kind = 4
  · rw [if_pos h4, if_pos ((sh_kind hX (by decide) (by decide)).2 h4), (sh_str (by decide) h4).1, (sh_str (by decide) h4).2]
    exact ExtR.ok ho
  rw [if_neg h4, if_neg (fun e => h4 ((sh_kind hX (by decide) (by decide)).1 e))]
  by_cases h8 : ts.tk.kind = 8
  · rw [if_pos h8, if_pos ((sh_kind hX (by decide) (by decide)).2 h8), (sh_str (by decide) h8).2]
    exact ExtR.ok ho
  rw [if_neg h8, if_neg (fun e => h8 ((sh_kind hX (by decide) (by decide)).1 e))]
  by_cases h9 : ts.tk.kind = 9
  · rw [if_pos h9, if_pos ((sh_kind hX (by decide) (by decide)).2 h9), (sh_str (by decide) h9).2]
    exact ExtR.ok ho
  rw [if_neg h9]
  exact ExtR.err

theorem ext_isNull (hX : Clo X) (l : Ast) (ts : TS) (ho : ts.op = o) (hne : ts.toks ≠ []) : ExtR X k o (tIsNull l ts) (tIsNull l (sh X k ts)) := by
  unfold tIsNull
  rw [sh_next hne]
  by_cases h7 : ts.next.tk.kind = 7
  · rw [if_pos h7, if_pos ((sh_kind hX (by decide) (by decide)).2 h7), (sh_str (by decide) h7).2]
    by_cases h15 : ts.next.next.tk.kind = 15
    · rw [if_pos h15, if_pos ((sh_kind hX (by decide) (by decide)).2 h15), (sh_str (by decide) h15).2]
      exact ExtR.ok ho
    · rw [if_neg h15]; exact ExtR.err
  · rw [if_neg h7, if_neg (fun e => h7 ((sh_kind hX (by decide) (by decide)).1 e))]
    by_cases h15 : ts.next.tk.kind = 15
    · rw [if_pos h15, if_pos ((sh_kind hX (by decide) (by decide)).2 h15), (sh_str (by decide) h15).2]
      exact ExtR.ok ho
    · rw [if_neg h15]; exact ExtR.err

theorem Ext.between (hX : Clo X) (h : Ext X k o f f') (l : Ast) (ts : TS) (ho : ts.op = o) : ExtR X k o (tBetween f l ts) (tBetween f' l (sh X k ts)) := by
  unfold tBetween
  by_cases h10 : ts.tk.kind = 10
  · rw [if_pos h10, if_pos ((sh_kind hX (by decide) (by decide)).2 h10), (sh_str (by decide) h10).2]
    rcases (h ts.next ho).cases with ⟨en, e⟩ | ⟨t, ts', e, eo, e'⟩ | ⟨t, ts', e, eo, e'⟩
    · rw [e]; exact ExtR.err
    · rw [e, e']
      refine ExtR.deep (fun t2 ts2 he => ?_)
      simp only at he
      split at he
      · split at he
        · rename_i hf
          injection he with _ h2
          rw [← h2]
          exact (h ts'.next eo _ _ hf).1
        · cases he
      · cases he
    · rw [e, e']
      show ExtR X k o (if ts'.tk.kind = 5 then _ else _) (if (sh X k ts').tk.kind = 5 then _ else _)
      by_cases h5 : ts'.tk.kind = 5
      · rw [if_pos h5, if_pos ((sh_kind hX (by decide) (by decide)).2 h5), (sh_str (by decide) h5).2]
        rcases (h ts'.next eo).cases with ⟨en, e⟩ | ⟨t, ts', e, eo, e'⟩ | ⟨t, ts', e, eo, e'⟩
        · rw [e]; exact ExtR.err
        · rw [e, e']; exact ExtR.deep (fun t ts h => by injection h with _ h2; rw [← h2]; exact eo)
        · rw [e, e']; exact ExtR.ok eo
      · rw [if_neg h5]; exact ExtR.err
  · rw [if_neg h10]; exact ExtR.err

theorem ext_inLoop (hX : Clo X) (l : Ast) : ∀ n n' xs ts, ts.op = o → ts.toks.length < n → ts.toks.length + X.length < n' → ExtR X k o (tInLoop l n xs ts) (tInLoop l n' xs (sh X k ts)) := by
  intro n
  induction n with
  | zero => intro n' xs ts _ h1; omega
  | succ n ih =>
    intro n' xs ts ho h1 h2
    obtain ⟨m, rfl⟩ : ∃ m, n' = m + 1 := ⟨n' - 1, by omega⟩
    rw [tInLoop, tInLoop]
    by_cases h28 : ts.tk.kind = 28
    · rw [if_pos h28, if_pos ((sh_kind hX (by decide) (by decide)).2 h28), (sh_str (by decide) h28).2]
      have hne := ne_of_kind (by decide) h28
      have hlt : ts.next.toks.length < ts.toks.length := by
        cases ht : ts.toks with
        | nil => exact absurd ht hne
        | cons a r => show (ts.toks.tail).length < _; rw [ht]; simp
      by_cases h4 : ts.next.tk.kind = 4
      · rw [if_pos h4, if_pos ((sh_kind hX (by decide) (by decide)).2 h4), (sh_str (by decide) h4).2, (sh_str (by decide) h4).1]
        have := next_le ts.next
        exact ih m _ ts.next.next ho (by omega) (by omega)
      · rw [if_neg h4]; exact ExtR.err
    · rw [if_neg h28, if_neg (fun e => h28 ((sh_kind hX (by decide) (by decide)).1 e))]
      by_cases h27 : ts.tk.kind = 27
      · rw [if_pos h27, if_pos (by rw [(sh_str (by decide) h27).1]; exact h27), (sh_str (by decide) h27).2]
        exact ExtR.ok ho
      · rw [if_neg h27]; exact ExtR.err

theorem ext_in (hX : Clo X) (l : Ast) (ts : TS) (ho : ts.op = o) (hne : ts.toks ≠ []) : ExtR X k o (tInRes l ts) (tInRes l (sh X k ts)) := by
  unfold tInRes
  rw [sh_next hne]
  by_cases h26 : ts.next.tk.kind = 26
  · rw [if_pos h26, if_pos ((sh_kind hX (by decide) (by decide)).2 h26), (sh_str (by decide) h26).2]
    by_cases h4 : ts.next.next.tk.kind = 4
    · rw [if_pos h4, if_pos ((sh_kind hX (by decide) (by decide)).2 h4), (sh_str (by decide) h4).2, (sh_str (by decide) h4).1]
      have l1 := next_le ts
      have l2 := next_le ts.next
      have l3 := next_le ts.next.next
      have hl : (sh X k ts).toks.length = ts.toks.length + X.length := by show (ts.toks ++ X).length = _; rw [List.length_append]
      exact ext_inLoop hX l _ _ _ ts.next.next.next ho (by omega) (by rw [hl]; omega)
    · rw [if_neg h4]; exact ExtR.err
  · rw [if_neg h26]; exact ExtR.err

theorem ext_like (hX : Clo X) (l : Ast) (ts : TS) (ho : ts.op = o) (hne : ts.toks ≠ []) : ExtR X k o (tLike l ts) (tLike l (sh X k ts)) := by
  unfold tLike
  rw [sh_next hne]
  by_cases h4 : ts.next.tk.kind = 4
  · rw [if_pos h4, if_pos ((sh_kind hX (by decide) (by decide)).2 h4), (sh_str (by decide) h4).2, (sh_str (by decide) h4).1]
    by_cases h13 : ts.next.next.tk.kind = 13
    · rw [if_pos h13, if_pos ((sh_kind hX (by decide) (by decide)).2 h13), (sh_str (by decide) h13).2]
      by_cases g : ts.next.next.next.tk.kind = 4 ∧ ts.next.next.next.tk.str.length = 1 ∧ (cutL ts.next.next.next.tk.str ts.next.tk.str).isSome = true
      · rw [if_pos g, (sh_str (by decide) g.1).1, if_pos g, (sh_str (by decide) g.1).2]
        exact ExtR.ok ho
      · rw [if_neg g]; exact ExtR.err
    · rw [if_neg h13, if_neg (fun e => h13 ((sh_kind hX (by decide) (by decide)).1 e))]
      exact ExtR.ok ho
  · rw [if_neg h4]; exact ExtR.err

theorem Ext.keyword (hX : Clo X) (h : Ext X k o f f') (bare : Bool) (l : Ast) (ts : TS) (ho : ts.op = o) : ExtR X k o (tKeyword f bare l ts) (tKeyword f' bare l (sh X k ts)) := by
  unfold tKeyword
  by_cases h11 : ts.tk.kind = 11 ∧ bare = true
  · rw [if_pos h11, if_pos ⟨(sh_kind hX (by decide) (by decide)).2 h11.1, h11.2⟩]
    exact ext_in hX l ts ho (ne_of_kind (by decide) h11.1)
  rw [if_neg h11, if_neg (show ¬ ((sh X k ts).tk.kind = 11 ∧ bare = true) from fun e => h11 ⟨(sh_kind hX (by decide) (by decide)).1 e.1, e.2⟩)]
  by_cases h12 : ts.tk.kind = 12 ∧ bare = true
  · rw [if_pos h12, if_pos ⟨(sh_kind hX (by decide) (by decide)).2 h12.1, h12.2⟩]
    exact ext_like hX l ts ho (ne_of_kind (by decide) h12.1)
  rw [if_neg h12, if_neg (show ¬ ((sh X k ts).tk.kind = 12 ∧ bare = true) from fun e => h12 ⟨(sh_kind hX (by decide) (by decide)).1 e.1, e.2⟩)]
  exact h.between hX l ts ho

theorem Ext.tail (hX : Clo X) (h : Ext X k o f f') (bare : Bool) (l : Ast) (ts : TS) (ho : ts.op = o) : ExtR X k o (tTail f bare l ts) (tTail f' bare l (sh X k ts)) := by
  have hk : ∀ c : Int, c ≠ 0 → c ≠ 27 → ((sh X k ts).tk.kind = c ↔ ts.tk.kind = c) := fun c a b => sh_kind hX a b
  have h6 : ((sh X k ts).tk.kind = 16 ∨ (sh X k ts).tk.kind = 17 ∨ (sh X k ts).tk.kind = 18 ∨ (sh X k ts).tk.kind = 19 ∨ (sh X k ts).tk.kind = 20 ∨ (sh X k ts).tk.kind = 21) ↔ (ts.tk.kind = 16 ∨ ts.tk.kind = 17 ∨ ts.tk.kind = 18 ∨ ts.tk.kind = 19 ∨ ts.tk.kind = 20 ∨ ts.tk.kind = 21) := by
    rw [hk 16 (by decide) (by decide), hk 17 (by decide) (by decide), hk 18 (by decide) (by decide), hk 19 (by decide) (by decide), hk 20 (by decide) (by decide), hk 21 (by decide) (by decide)]
  have h3 : ((sh X k ts).tk.kind = 10 ∨ (sh X k ts).tk.kind = 11 ∨ (sh X k ts).tk.kind = 12) ↔ (ts.tk.kind = 10 ∨ ts.tk.kind = 11 ∨ ts.tk.kind = 12) := by
    rw [hk 10 (by decide) (by decide), hk 11 (by decide) (by decide), hk 12 (by decide) (by decide)]
  unfold tTail
  by_cases h16 : ts.tk.kind = 16 ∨ ts.tk.kind = 17 ∨ ts.tk.kind = 18 ∨ ts.tk.kind = 19 ∨ ts.tk.kind = 20 ∨ ts.tk.kind = 21
  · rw [if_pos h16, if_pos (h6.2 h16)]
    refine h.join ts l ho ?_
    rcases h16 with e | e | e | e | e | e <;> exact ne_of_kind (by decide) e
  rw [if_neg h16, if_neg (fun e => h16 (h6.1 e))]
  by_cases h14 : ts.tk.kind = 14
  · rw [if_pos h14, if_pos ((hk 14 (by decide) (by decide)).2 h14)]
    cases bare
    · exact ExtR.ok ho
    · exact ext_isNull hX l ts ho (ne_of_kind (by decide) h14)
  rw [if_neg h14, if_neg (fun e => h14 ((hk 14 (by decide) (by decide)).1 e))]
  by_cases h7 : ts.tk.kind = 7
  · rw [if_pos h7, if_pos ((hk 7 (by decide) (by decide)).2 h7), (sh_str (by decide) h7).2]
    rcases (h.keyword hX bare l ts.next ho).cases with ⟨en, e⟩ | ⟨t, ts', e, eo, e'⟩ | ⟨t, ts', e, eo, e'⟩
    · rw [e]; exact ExtR.err
    · rw [e, e']; exact ExtR.deep (fun t ts h => by injection h with _ h2; rw [← h2]; exact eo)
    · rw [e, e']; exact ExtR.ok eo
  rw [if_neg h7, if_neg (fun e => h7 ((hk 7 (by decide) (by decide)).1 e))]
  by_cases h10 : ts.tk.kind = 10 ∨ ts.tk.kind = 11 ∨ ts.tk.kind = 12
  · rw [if_pos h10, if_pos (h3.2 h10)]; exact h.keyword hX bare l ts ho
  · rw [if_neg h10, if_neg (fun e => h10 (h3.1 e))]; exact ExtR.ok ho

theorem Ext.test (hX : Clo X) (h : Ext X k o f f') (hf : ∀ ts t ts', f ts = .ok t ts' → ts.toks ≠ []) : Ext X k o (tTest f) (tTest f') := by
  intro ts ho
  unfold tTest
  rcases (h ts ho).cases with ⟨en, e⟩ | ⟨t, ts', e, eo, e'⟩ | ⟨t, ts', e, eo, e'⟩
  · rw [e]; exact ExtR.err
  · rw [e, e']
    refine ExtR.deep (fun t2 ts2 he => ?_)
    exact (h.tail hX _ t ts' eo t2 ts2 he).1
  · rw [e, e', sh_tk (hf _ _ _ e)]
    exact h.tail hX _ t ts' eo

theorem Ext.denied (hX : Clo X) {g g' : TS → TRes} (hk : o + k ≤ 12) (hD : o + k < 12 → Ext X k (o + 1) f f') (hT : Ext X k o g g') : Ext X k o (tDenied f g) (tDenied f' g') := by
  intro ts ho
  unfold tDenied
  by_cases h7 : ts.tk.kind = 7
  · rw [if_pos h7, if_pos ((sh_kind hX (by decide) (by decide)).2 h7)]
    exact Ext.sign hk hD 5 ts ho (ne_of_kind (by decide) h7)
  · rw [if_neg h7, if_neg (fun e => h7 ((sh_kind hX (by decide) (by decide)).1 e))]
    exact hT ts ho
end

/-- Something is read of something alone. -/
def Some' (f : TS → TRes) : Prop := ∀ ts t ts', f ts = .ok t ts' → ts.toks ≠ []
theorem some_signed (f g : TS → TRes) : Some' (tSigned f g) := by
  intro ts t ts' he e
  unfold tSigned at he
  have h0 : ts.tk.kind = 0 := by unfold TS.tk; rw [e]; rfl
  rw [h0] at he
  cases he
theorem Some'.row {f : TS → TRes} (h : Some' f) (ks : List Int) : Some' (tRow f ks) := by
  intro ts t ts' he
  unfold tRow at he
  split at he
  · rename_i hf; exact h _ _ _ hf
  · cases he

structure Ext3 (X : List Tk) (k o : Nat) (L L' : T3) : Prop where
  S : Ext X k o L.S L'.S
  D : Ext X k o L.D L'.D
  E : Ext X k o L.E L'.E
structure Shr3 (L : T3) : Prop where
  S : Shr L.S
  D : Shr L.D
  E : Shr L.E

theorem ext_up {X : List Tk} (hX : Clo X) {k o : Nat} (hk : o + k ≤ 12) {L L' : T3} (hs : Shr3 L) (h : o + k < 12 → Ext3 X k (o + 1) L L') : Ext3 X k o (tUp L) (tUp L') := by
  have hS := Ext.signed hX hk (fun e => (h e).S) (fun e => (h e).E)
  have zS := Shr.signed hs.S hs.E
  have hP := hS.row hX zS [24, 25] rfl rfl
  have zP := zS.row [24, 25]
  have hU := hP.row hX zP [22, 23] rfl rfl
  have zU := zP.row [22, 23]
  have hT := hU.test hX (((some_signed _ _).row _).row _)
  have zT := zU.test
  have hD := Ext.denied hX hk (fun e => (h e).D) hT
  have zD := Shr.denied hs.D zT
  have hB := hD.row hX zD [5] rfl rfl
  have zB := zD.row [5]
  exact ⟨hS, hD, hB.row hX zB [6] rfl rfl⟩

theorem shr_lvl (d : Nat) : Shr3 (tLvl d) := ⟨(sim_lvl ⟨#[]⟩ d).s', (sim_lvl ⟨#[]⟩ d).d', (sim_lvl ⟨#[]⟩ d).e'⟩
theorem lvl_up (d : Nat) : ∃ L, tLvl d = tUp L ∧ Shr3 L := by
  cases d with
  | zero => exact ⟨_, rfl, ⟨(fun _ _ _ h => by cases h), (fun _ _ _ h => by cases h), (fun _ _ _ h => by cases h)⟩⟩
  | succ d => exact ⟨_, rfl, shr_lvl d⟩

theorem ext_lvl {X : List Tk} (hX : Clo X) (k : Nat) : ∀ d o, o + k + d = 12 → Ext3 X k o (tLvl (d + k)) (tLvl d) := by
  intro d
  induction d with
  | zero =>
    intro o h
    obtain ⟨L, e, z⟩ := lvl_up (0 + k)
    rw [e]
    exact ext_up hX (by omega) z (fun e => absurd e (by omega))
  | succ d ih =>
    intro o h
    rw [show d + 1 + k = (d + k) + 1 by omega]
    exact ext_up hX (by omega) (shr_lvl _) (fun e => ih (o + 1) (by omega))
end

section
def Bq (p : Pay) : Prop := p.esc.length ≤ 1 ∧ ∀ x ∈ p.texts, x.length ≤ 200
def BqA : Ast → Prop
  | .leaf p => Bq p
  | .un p x => Bq p ∧ BqA x
  | .bin p x y => Bq p ∧ BqA x ∧ BqA y
  | .tri p x y z => Bq p ∧ BqA x ∧ BqA y ∧ BqA z

theorem bq0 (op pl num : Int) : Bq ⟨op, pl, num, [], [], []⟩ := ⟨by simp, by simp⟩
theorem bq1 {op pl num : Int} {s : List UInt8} : Bq ⟨op, pl, num, s, [], []⟩ := ⟨by simp, by simp⟩

def QGood (f : St → Res) : Prop := ∀ st t st', TkLn st → f st = .ok t st' → BqA t ∧ TkLn st'
def QGoodT (g : Ast → St → Res) : Prop := ∀ l st t st', BqA l → TkLn st → g l st = .ok t st' → BqA t ∧ TkLn st'

theorem QGood.join {s : ByteArray} (H : s.size ≤ 200) {f : St → Res} (h : QGood f) : ∀ st l t st', BqA l → joinRes s f st l = .ok t st' → BqA t ∧ TkLn st' := by
  intro st l t st' hl he
  unfold joinRes at he
  split at he
  · rename_i r st2 hr; injection he with h1 h2; subst h1; subst h2
    have := h _ _ _ (stepSt_ln H st) hr
    exact ⟨⟨(bq0 _ _ _), hl, this.1⟩, this.2⟩
  · cases he

theorem QGood.loop {s : ByteArray} (H : s.size ≤ 200) {f : St → Res} {ks : List Int} (h : QGood f) : ∀ n l st t st', BqA l → TkLn st → rowLoop s f ks n l st = .ok t st' → BqA t ∧ TkLn st' := by
  intro n
  induction n with
  | zero => intro l st t st' hl hs he; rw [rowLoop] at he; injection he with h1 h2; subst h1; subst h2; exact ⟨hl, hs⟩
  | succ n ih =>
    intro l st t st' hl hs he
    rw [rowLoop] at he
    split at he
    · split at he
      · rename_i hj; have := h.join H _ _ _ _ hl hj; exact ih _ _ _ _ this.1 this.2 he
      · cases he
    · injection he with h1 h2; subst h1; subst h2; exact ⟨hl, hs⟩

theorem QGood.row {s : ByteArray} (H : s.size ≤ 200) {f : St → Res} {ks : List Int} (h : QGood f) : QGood (rowRes s f ks) := by
  intro st t st' hs he
  unfold rowRes at he
  split at he
  · rename_i hr; have := h _ _ _ hs hr; exact h.loop H _ _ _ _ _ this.1 this.2 he
  · cases he

theorem QGood.sign {s : ByteArray} (H : s.size ≤ 200) {f : St → Res} (h : QGood f) (o : Int) : QGood (signRes s f o) := by
  intro st t st' _ he
  unfold signRes at he
  split at he
  · cases he
  · split at he
    · rename_i hr; injection he with h1 h2; subst h1; subst h2
      have := h (inSt s st) _ _ (stepSt_ln H st) hr
      exact ⟨⟨(bq0 _ _ _), this.1⟩, this.2⟩
    · cases he

theorem QGood.group {s : ByteArray} (H : s.size ≤ 200) {f : St → Res} (h : QGood f) : QGood (groupRes s f) := by
  intro st t st' _ he
  unfold groupRes at he
  split at he
  · cases he
  · split at he
    · rename_i hr; split at he
      · injection he with h1 h2; subst h1; subst h2
        exact ⟨(h (inSt s st) _ _ (stepSt_ln H st) hr).1, stepSt_ln H _⟩
      · cases he
    · cases he

theorem QGood.signed {s : ByteArray} (H : s.size ≤ 200) {fS fE : St → Res} (hS : QGood fS) (hE : QGood fE) : QGood (signedRes s fS fE) := by
  intro st t st' hs he
  unfold signedRes at he
  split at he
  · exact hS.sign H 14 _ _ _ hs he
  split at he
  · exact hS.sign H 15 _ _ _ hs he
  split at he
  · exact hE.group H _ _ _ hs he
  split at he
  · injection he with h1 h2; subst h1; subst h2; exact ⟨bq1, stepSt_ln H st⟩
  split at he
  · injection he with h1 h2; subst h1; subst h2; exact ⟨(bq0 _ _ _), stepSt_ln H st⟩
  split at he
  · injection he with h1 h2; subst h1; subst h2; exact ⟨bq1, stepSt_ln H st⟩
  split at he
  · injection he with h1 h2; subst h1; subst h2; exact ⟨(bq0 _ _ _), stepSt_ln H st⟩
  split at he
  · injection he with h1 h2; subst h1; subst h2; exact ⟨(bq0 _ _ _), stepSt_ln H st⟩
  · cases he

theorem bq_isNull {s : ByteArray} (H : s.size ≤ 200) : QGoodT (isNullRes s) := by
  intro l st t st' hl _ he
  unfold isNullRes at he
  split at he
  · split at he
    · injection he with h1 h2; subst h1; subst h2; exact ⟨⟨(bq0 _ _ _), (bq0 _ _ _), hl⟩, stepSt_ln H _⟩
    · cases he
  · split at he
    · injection he with h1 h2; subst h1; subst h2; exact ⟨⟨(bq0 _ _ _), hl⟩, stepSt_ln H _⟩
    · cases he

theorem bq_inLoop {s : ByteArray} (H : s.size ≤ 200) {l : Ast} {pl : Nat} (hl : BqA l) : ∀ n ts st t st', (∀ x ∈ ts, x.length ≤ 200) → inLoop s l pl n ts st = .ok t st' → BqA t ∧ TkLn st' := by
  intro n
  induction n with
  | zero => intro ts st t st' _ he; rw [inLoop] at he; cases he
  | succ n ih =>
    intro ts st t st' hn he
    rw [inLoop] at he
    split at he
    · split at he
      · refine ih _ _ _ _ (fun x hx => ?_) he
        rcases List.mem_append.1 hx with hx | hx
        · exact hn x hx
        · simp at hx; subst hx; exact stepSt_ln H st
      · cases he
    · split at he
      · injection he with h1 h2; subst h1; subst h2; exact ⟨⟨⟨by simp, hn⟩, hl⟩, stepSt_ln H _⟩
      · cases he

theorem bq_in {s : ByteArray} (H : s.size ≤ 200) : QGoodT (inRes s) := by
  intro l st t st' hl _ he
  unfold inRes at he
  split at he
  · split at he
    · exact bq_inLoop H hl _ _ _ _ _ (fun x hx => by simp at hx; subst hx; exact stepSt_ln H _) he
    · cases he
  · cases he

theorem escRes_len {s : ByteArray} {ft : Tk} {fp : Nat} {st : St} {str : List UInt8} {st' : St} (h : escRes s ft fp st = .ok str st') : str.length ≤ 1 := by
  unfold escRes at h
  split at h
  · split at h
    · rename_i h1
      split at h
      · injection h with e1 _; subst e1; omega
      · cases h
    · cases h
  · cases h

theorem bq_like {s : ByteArray} (H : s.size ≤ 200) : QGoodT (likeRes s) := by
  intro l st t st' hl _ he
  unfold likeRes at he
  split at he
  · split at he
    · split at he
      · rename_i hk; injection he with h1 h2; subst h1; subst h2; rw [(escRes_ok hk).2]; exact ⟨⟨⟨escRes_len hk, by simp⟩, hl⟩, stepSt_ln H _⟩
      · cases he
    · injection he with h1 h2; subst h1; subst h2; exact ⟨⟨⟨by simp, by simp⟩, hl⟩, stepSt_ln H _⟩
  · cases he

theorem QGood.between {s : ByteArray} (H : s.size ≤ 200) {f : St → Res} (h : QGood f) : QGoodT (betweenRes s f) := by
  intro l st t st' hl _ he
  unfold betweenRes at he
  split at he
  · split at he
    · rename_i h1; split at he
      · split at he
        · rename_i h2; injection he with h3 h4; subst h3; subst h4
          have a := h _ _ _ (stepSt_ln H _) h1
          have b := h _ _ _ (stepSt_ln H _) h2
          exact ⟨⟨(bq0 _ _ _), hl, a.1, b.1⟩, b.2⟩
        · cases he
      · cases he
    · cases he
  · cases he

theorem QGood.keyword {s : ByteArray} (H : s.size ≤ 200) {f : St → Res} (h : QGood f) (bare : Bool) : QGoodT (keywordRes s f (inRes s) (likeRes s) bare) := by
  intro l st t st' hl hs he
  unfold keywordRes at he
  split at he
  · exact bq_in H _ _ _ _ hl hs he
  split at he
  · exact bq_like H _ _ _ _ hl hs he
  · exact h.between H _ _ _ _ hl hs he

theorem QGood.test {s : ByteArray} (H : s.size ≤ 200) {f : St → Res} (h : QGood f) : QGood (testRes s f (inRes s) (likeRes s)) := by
  intro st t st' hs he
  unfold testRes at he
  split at he
  · rename_i hr
    obtain ⟨hl, hs1⟩ := h _ _ _ hs hr
    unfold tailRes at he
    split at he
    · exact h.join H _ _ _ _ hl he
    split at he
    · split at he
      · exact bq_isNull H _ _ _ _ hl hs1 he
      · injection he with h1 h2; subst h1; subst h2; exact ⟨hl, hs1⟩
    split at he
    · split at he
      · rename_i hk; injection he with h1 h2; subst h1; subst h2
        have := h.keyword H _ _ _ _ _ hl (stepSt_ln H _) hk
        exact ⟨⟨(bq0 _ _ _), this.1⟩, this.2⟩
      · cases he
    split at he
    · exact h.keyword H _ _ _ _ _ hl hs1 he
    · injection he with h1 h2; subst h1; subst h2; exact ⟨hl, hs1⟩
  · cases he

theorem QGood.denied {s : ByteArray} (H : s.size ≤ 200) {fD fT : St → Res} (hD : QGood fD) (hT : QGood fT) : QGood (deniedRes s fD fT) := by
  intro st t st' hs he
  unfold deniedRes at he
  split at he
  · exact hD.sign H 5 _ _ _ hs he
  · exact hT _ _ _ hs he

structure QGood3 (L : L3) : Prop where
  S : QGood L.S
  D : QGood L.D
  E : QGood L.E

theorem up3_bq {s : ByteArray} (H : s.size ≤ 200) {L : L3} (h : QGood3 L) : QGood3 (up3 s L) := by
  have hS := QGood.signed (s := s) H h.S h.E
  have hD := QGood.denied (s := s) H h.D (QGood.test (s := s) H ((hS.row (s := s) H (ks := [24, 25])).row (s := s) H (ks := [22, 23])))
  exact ⟨hS, hD, (hD.row (s := s) H (ks := [5])).row (s := s) H (ks := [6])⟩

theorem lvl_bq (s : ByteArray) (H : s.size ≤ 200) : ∀ d, QGood3 (lvl s d) := by
  intro d
  induction d with
  | zero => exact up3_bq H ⟨(fun _ _ _ _ h => by cases h), (fun _ _ _ _ h => by cases h), (fun _ _ _ _ h => by cases h)⟩
  | succ d ih => exact up3_bq H ih
end

end Go.Proofs.YtfkcaldjphakpaaGreatDoor
