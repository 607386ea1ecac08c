/- Cores: terms of the one form, their texts, and how they lie in memory. Fits. join: BETWEEN. A text that has these tokens reads so. The texts of Ranges, by their tokens. -/
import Derived.Test.YtfkcaldjphakpabGreatDoorN17
import Derived.Lib.AppendIntMem
import Derived.Lib.ItoaNum
import Derived.Lib.SlicesCompact
import Derived.Test.YtfkcaldjphakpabGreatDoorN13
import Derived.Test.YtfkcaldjphakpabGreatDoorYOf2
import Derived.Deep.RegionHeld3
import Derived.Test.YtfkcaldjphakpabGreatDoorN12
import Derived.Test.YtfkcaldjphakpabGreatDoorN26
namespace Go.Proofs.YtfkcaldjphakpabGreatDoor
open Go.RowKit

section
/-- What contracts of the library lean on: the error, the longest needle, the powers of ten. -/
structure LibOk (w : World) : Prop where
  err : ErrOk w
  max : 4 < w.heap.size ∧ ∃ m, w.cell? ⟨4, 0, none⟩ = some (.int .i64 m)
  pow : Lib.TabIs Tryz.prog w "internal/strconv.uint64pow10" .u64 Lib.pow10Tab

theorem LibOk.below {w w' : World} {B : Nat} (h : LibOk w) (hb : Below B w w') (hB : w.heap.size ≤ B) : LibOk w' := by
  obtain ⟨hz, m, hm⟩ := h.max
  exact ⟨h.err.below hb hB, ⟨Nat.lt_of_lt_of_le hz (by have := hb.size; omega), m, (hb.cell (p := ⟨4, 0, none⟩) (Nat.lt_of_lt_of_le hz hB)).trans hm⟩, (Lib.tabBelow_of_tabIs h.pow) w' (hb.mono hB)⟩
theorem LibOk.alloc {w : World} (h : LibOk w) (o : Obj) : LibOk (w.alloc o) := h.below ((Below.refl _ _).alloc (Nat.le_refl _) o) (Nat.le_refl _)

/-- What a term of a core bears. -/
structure CP where
  op : Int
  num : Int
  str : List UInt8
  esc : List UInt8
inductive Co where
  | leaf (p : CP)
  | un (p : CP) (x : Co)
  | bin (p : CP) (x y : Co)

/-- A text between its quotes. -/
def qL (s : List UInt8) : List UInt8 := 39 :: (dblL s ++ [39])
def signL (op : Int) : List UInt8 :=
  if op == 6 then [65, 78, 68] else if op == 7 then [79, 82] else if op == 8 then [61] else if op == 10 then [60] else if op == 11 then [60, 61]
  else if op == 16 then [43] else if op == 17 then [45] else if op == 18 then [42] else [47]
def escT (e : List UInt8) : List UInt8 := if e.isEmpty then [] else [32, 69, 83, 67, 65, 80, 69, 32] ++ qL e
def spellN (p : CP) (l r : List UInt8) : List UInt8 :=
  if p.op == 0 then p.str else if p.op == 1 then Lib.itoa p.num else if p.op == 2 then qL p.str else if p.op == 3 then [84, 82, 85, 69] else if p.op == 4 then [70, 65, 76, 83, 69]
  else if p.op == 5 then [40, 78, 79, 84, 32] ++ l ++ [41] else if p.op == 23 then [40] ++ l ++ [32, 73, 83, 32, 78, 85, 76, 76, 41]
  else if p.op == 22 then [40] ++ l ++ [32, 76, 73, 75, 69, 32] ++ qL p.str ++ escT p.esc ++ [41]
  else [40] ++ l ++ [32] ++ signL p.op ++ [32] ++ r ++ [41]
def spell : Co → List UInt8
  | .leaf p => spellN p [] []
  | .un p x => spellN p (spell x) []
  | .bin p x y => spellN p (spell x) (spell y)

def opC : Co → Int
  | .leaf p => p.op
  | .un p _ => p.op
  | .bin p _ _ => p.op
def plainP' (op : Int) : CP := ⟨op, 0, [], []⟩

def eitherB (op : Int) : Bool := op == 6 || op == 7 || op == 8 || op == 16 || op == 18
def pairC (op : Int) (x y : Co) : Co := if eitherB op && Op.bytesLess (spell y) (spell x) then .bin (plainP' op) y x else .bin (plainP' op) x y
def notC : Co → Co
  | .leaf p => if p.op == 3 then .leaf (plainP' 4) else if p.op == 4 then .leaf (plainP' 3) else .un (plainP' 5) (.leaf p)
  | .un p x => if p.op == 5 && opC x != 0 then x else .un (plainP' 5) (.un p x)
  | .bin p x y => if p.op == 6 then pairC 7 (notC x) (notC y) else if p.op == 7 then pairC 6 (notC x) (notC y)
      else if p.op == 10 then pairC 11 y x else if p.op == 11 then pairC 10 y x else .un (plainP' 5) (.bin p x y)
def textC (s : List UInt8) : Co := .leaf ⟨2, 0, s, []⟩
def numC (n : Int) : Co := .leaf ⟨1, n, [], []⟩
def orAll (x : Co) : Co → List (List UInt8) → Co
  | f, [] => f
  | f, t :: r => orAll x (pairC 7 f (pairC 8 x (textC t))) r
def sortT (ts : List (List UInt8)) : List (List UInt8) := Lib.compact (ts.mergeSort fun x y => decide (x ≤ y))
def amongC (x : Co) (ts : List (List UInt8)) : Co := match sortT ts with
  | [] => x
  | t :: r => orAll x (pairC 8 x (textC t)) r
def cpOf (p : Pay) : CP := ⟨p.op, p.num, p.str, p.esc⟩
def coreA : Ast → Co
  | .leaf p => .leaf (cpOf p)
  | .un p x => if p.op == 14 then pairC 16 (numC 0) (coreA x) else if p.op == 15 then pairC 17 (numC 0) (coreA x) else if p.op == 5 then notC (coreA x)
      else if p.op == 21 then amongC (coreA x) p.texts else .un (cpOf p) (coreA x)
  | .bin p x y => if p.op == 12 then pairC 10 (coreA y) (coreA x) else if p.op == 13 then pairC 11 (coreA y) (coreA x) else if p.op == 9 then notC (pairC 8 (coreA x) (coreA y)) else pairC p.op (coreA x) (coreA y)
  | .tri _ x y z => pairC 6 (pairC 11 (coreA y) (coreA x)) (pairC 11 (coreA x) (coreA z))

/-- A core's own block. -/
structure CellsC (B E : Nat) (w : World) (b : Nat) (p : CP) (l r : Value) (t : List UInt8) : Prop where
  lo : B ≤ b
  hi : b < E
  within : b < w.heap.size
  c0 : w.cell? ⟨b, 0, none⟩ = some (.int .i64 p.op)
  c1 : w.cell? ⟨b, 1, none⟩ = some l
  c2 : w.cell? ⟨b, 2, none⟩ = some r
  c3 : w.cell? ⟨b, 3, none⟩ = some (.int .i64 p.num)
  c4 : w.cell? ⟨b, 4, none⟩ = some (.string (BS p.str))
  c5 : w.cell? ⟨b, 5, none⟩ = some (.string (BS p.esc))
  c6 : w.cell? ⟨b, 6, none⟩ = some (.string (BS t))
def nilP : Value := .pointer none
def at0 (b : Nat) : Value := .pointer (some ⟨b, 0, none⟩)
def CoAt (B E : Nat) (w : World) (v : Value) : Co → Prop
  | .leaf p => ∃ b, v = at0 b ∧ CellsC B E w b p nilP nilP (spell (.leaf p))
  | .un p x => ∃ b vx, v = at0 b ∧ CellsC B E w b p vx nilP (spell (.un p x)) ∧ CoAt B E w vx x
  | .bin p x y => ∃ b vx vy, v = at0 b ∧ CellsC B E w b p vx vy (spell (.bin p x y)) ∧ CoAt B E w vx x ∧ CoAt B E w vy y

theorem CellsC.keep {B E E' : Nat} {w w' : World} {b : Nat} {p : CP} {l r : Value} {t : List UInt8} (h : CellsC B E w b p l r t) (hE : E ≤ E') (hk : ∀ k, B ≤ k → k < E → w'.heap[k]? = w.heap[k]?) (hz : w.heap.size ≤ w'.heap.size) : CellsC B E' w' b p l r t := by
  have hc : ∀ j, w'.cell? ⟨b, j, none⟩ = w.cell? ⟨b, j, none⟩ := fun j => World.cell?_of_block (w := w) (w' := w') (a := ⟨b, j, none⟩) (hk b h.lo h.hi)
  exact ⟨h.lo, Nat.lt_of_lt_of_le h.hi hE, Nat.lt_of_lt_of_le h.within hz, (hc 0).trans h.c0, (hc 1).trans h.c1, (hc 2).trans h.c2, (hc 3).trans h.c3, (hc 4).trans h.c4, (hc 5).trans h.c5, (hc 6).trans h.c6⟩
theorem CoAt.keep {B E E' : Nat} {w w' : World} (hE : E ≤ E') (hk : ∀ k, B ≤ k → k < E → w'.heap[k]? = w.heap[k]?) (hz : w.heap.size ≤ w'.heap.size) : ∀ {c : Co} {v : Value}, CoAt B E w v c → CoAt B E' w' v c := by
  intro c
  induction c with
  | leaf p => rintro v ⟨b, rfl, h⟩; exact ⟨b, rfl, h.keep hE hk hz⟩
  | un p x ih => rintro v ⟨b, vx, rfl, h, hx⟩; exact ⟨b, vx, rfl, h.keep hE hk hz, ih hx⟩
  | bin p x y ihx ihy => rintro v ⟨b, vx, vy, rfl, h, hx, hy⟩; exact ⟨b, vx, vy, rfl, h.keep hE hk hz, ihx hx, ihy hy⟩
theorem CoAt.below {B : Nat} {w w' : World} (hb : Below w.heap.size w w') {c : Co} {v : Value} (h : CoAt B w.heap.size w v c) : CoAt B w'.heap.size w' v c :=
  h.keep hb.size (fun k _ hk => hb.block k hk) hb.size
theorem CoAt.head {B E : Nat} {w : World} {v : Value} {c : Co} (h : CoAt B E w v c) : ∃ b p l r, v = at0 b ∧ p.op = opC c ∧ CellsC B E w b p l r (spell c) := by
  cases c with
  | leaf p => obtain ⟨b, rfl, h⟩ := h; exact ⟨b, p, _, _, rfl, rfl, h⟩
  | un p x => obtain ⟨b, vx, rfl, h, _⟩ := h; exact ⟨b, p, _, _, rfl, rfl, h⟩
  | bin p x y => obtain ⟨b, vx, vy, rfl, h, _⟩ := h; exact ⟨b, p, _, _, rfl, rfl, h⟩

/-- A side's text: what spelling asks of it. -/
def TextAt (w : World) (v : Value) (t : List UInt8) : Prop := ∃ b, v = at0 b ∧ b < w.heap.size ∧ w.cell? ⟨b, 6, none⟩ = some (.string (BS t))
theorem CoAt.text {B E : Nat} {w : World} {v : Value} {c : Co} (h : CoAt B E w v c) : TextAt w v (spell c) := by
  obtain ⟨b, p, l, r, rfl, _, h⟩ := h.head
  exact ⟨b, rfl, h.within, h.c6⟩
end

section
theorem BoolsAt.below {w w' : World} {b n : Nat} {e : Nat → Bool} (h : BoolsAt w b n e) (hb : Below w.heap.size w w') (hlt : b < w.heap.size) : BoolsAt w' b n e := fun j hj => (hb.cell (p := ⟨b, j, none⟩) hlt).trans (h j hj)
end

section
structure JoinAt (w W : World) (x y z : V) : Prop where
  x0 : W.cell? ⟨w.heap.size, 0, none⟩ = some (.int .i64 x.kind)
  x1 : W.cell? ⟨w.heap.size, 1, none⟩ = some (.int .i64 x.num)
  x2 : W.cell? ⟨w.heap.size, 2, none⟩ = some (.string (BS x.str))
  y0 : W.cell? ⟨w.heap.size + 1, 0, none⟩ = some (.int .i64 y.kind)
  y1 : W.cell? ⟨w.heap.size + 1, 1, none⟩ = some (.int .i64 y.num)
  y2 : W.cell? ⟨w.heap.size + 1, 2, none⟩ = some (.string (BS y.str))
  z0 : W.cell? ⟨w.heap.size + 2, 0, none⟩ = some (.int .i64 z.kind)
  z1 : W.cell? ⟨w.heap.size + 2, 1, none⟩ = some (.int .i64 z.num)
  z2 : W.cell? ⟨w.heap.size + 2, 2, none⟩ = some (.string (BS z.str))
  r0 : W.cell? ⟨w.heap.size + 3, 0, none⟩ = some (.int .i64 0)
  r1 : W.cell? ⟨w.heap.size + 3, 1, none⟩ = some (.int .i64 0)
  r2 : W.cell? ⟨w.heap.size + 3, 2, none⟩ = some (.string ⟨#[]⟩)
  fz : ∀ j, W.frozen? ⟨w.heap.size + 3, j, none⟩ = false
  lt : w.heap.size + 3 < W.heap.size
  below : Below w.heap.size w W

theorem JoinAt.next {w W W' : World} {x y z : V} (h : JoinAt w W x y z) (hb : Below W.heap.size W W') : JoinAt w W' x y z := by
  obtain ⟨hc, hf⟩ := bcell hb
  have hl := h.lt
  exact ⟨(hc _ 0 (by omega)).trans h.x0, (hc _ 1 (by omega)).trans h.x1, (hc _ 2 (by omega)).trans h.x2, (hc _ 0 (by omega)).trans h.y0, (hc _ 1 (by omega)).trans h.y1, (hc _ 2 (by omega)).trans h.y2, (hc _ 0 (by omega)).trans h.z0, (hc _ 1 (by omega)).trans h.z1, (hc _ 2 (by omega)).trans h.z2, (hc _ 0 (by omega)).trans h.r0, (hc _ 1 (by omega)).trans h.r1, (hc _ 2 (by omega)).trans h.r2, fun j => (hf _ j (by omega)).trans (h.fz j), Nat.lt_of_lt_of_le hl hb.size, below_any h.below hb⟩

theorem JoinAt.drew {w W : World} {x y z : V} (h : JoinAt w W x y z) : JoinAt w W.drew x y z := h.next ((Below.refl _ _).drew)
end

section
/-- The tokens of bytes. -/
inductive Lx : List UInt8 → List Tk → Prop where
  | nil {r : List UInt8} (h : nextTk r 0 = plainTk 0) : Lx r []
  | cons {r : List UInt8} {k : Tk} {L : List Tk} (e : nextTk r 0 = k) (h : k.kind ≠ 0) (t : Lx (r.drop (nextTo r 0)) L) : Lx r (k :: L)

theorem nextAt_drop (l : List UInt8) (k : Nat) : nextAt l k = k + nextAt (l.drop k) 0 := by
  unfold nextAt; rw [List.drop_zero, Nat.zero_add]
theorem nextTk_drop (l : List UInt8) (k : Nat) : nextTk l k = nextTk (l.drop k) 0 := by
  unfold nextTk
  rw [nextAt_drop l k, ← List.drop_drop, List.length_drop]
  by_cases h : k + nextAt (l.drop k) 0 < l.length
  · rw [if_pos h, if_pos (by omega)]
  · rw [if_neg h, if_neg (by omega)]
theorem nextTo_drop (l : List UInt8) (k : Nat) (hk : k ≤ l.length) : nextTo l k = k + nextTo (l.drop k) 0 := by
  unfold nextTo
  rw [nextAt_drop l k, ← List.drop_drop, List.length_drop]
  by_cases h : k + nextAt (l.drop k) 0 < l.length
  · rw [if_pos h, if_pos (by omega)]; omega
  · rw [if_neg h, if_neg (by omega)]; omega

theorem str_of_lx {s : ByteArray} {r : List UInt8} {L : List Tk} (h : Lx r L) : ∀ st : St, st.after ≤ s.size → s.data.toList.drop st.after = r → Str s (stepSt s st) L := by
  induction h with
  | nil h =>
    intro st _ hr
    refine .nil ?_
    show nextTk s.data.toList st.after = _
    rw [nextTk_drop, hr, h]
  | cons e h t ih =>
    intro st ha hr
    rename_i r k L
    have hk : (stepSt s st).tk = k := by
      show nextTk s.data.toList st.after = _
      rw [nextTk_drop, hr, e]
    rw [← hk]
    refine .cons (by rw [hk]; exact h) (ih _ (stepSt_fine s st ha).after ?_)
    show s.data.toList.drop (nextTo s.data.toList st.after) = _
    rw [nextTo_drop _ _ (by rw [data_len]; exact ha), ← List.drop_drop, hr]

/-- Classes know no places, but for faults. -/
inductive CRel : CRes → CRes → Prop where
  | ok (c : Int) : CRel (.ok c) (.ok c)
  | err (p q : Int) : CRel (.err p) (.err q)

inductive CRels : List CRes → List CRes → Prop where
  | nil : CRels [] []
  | cons {a b : CRes} {r r' : List CRes} (h : CRel a b) (t : CRels r r') : CRels (a :: r) (b :: r')

theorem dem_rel (want p q : Int) : ∀ rs rs' : List CRes, CRels rs rs' → ∀ fit, (dem want p rs fit).isNone = (dem want q rs' fit).isNone := by
  intro rs rs' h
  induction h with
  | nil => intro fit; cases fit <;> rfl
  | cons h _ ih =>
    intro fit
    cases h with
    | ok c => exact ih _
    | err a b => rfl
theorem demR_rel (want p q c : Int) {rs rs' : List CRes} (h : CRels rs rs') : CRel (demR want p c rs) (demR want q c rs') := by
  have := dem_rel want p q rs rs' h true
  unfold demR
  cases h1 : dem want p rs true <;> cases h2 : dem want q rs' true <;> rw [h1, h2] at this
  · exact .ok _
  · cases this
  · cases this
  · exact .err _ _
theorem alike_rel (p q : Int) {a a' b b' : CRes} (ha : CRel a a') (hb : CRel b b') : CRel (alikeR p a b) (alikeR q a' b') := by
  cases ha with
  | err x y => exact .err _ _
  | ok c =>
    cases hb with
    | err x y => exact .err _ _
    | ok d =>
      show CRel (if (c != d && c != 0 && d != 0) = true then CRes.err p else CRes.ok 3) (if (c != d && c != 0 && d != 0) = true then CRes.err q else CRes.ok 3)
      by_cases h : (c != d && c != 0 && d != 0) = true
      · rw [if_pos h, if_pos h]; exact .err _ _
      · rw [if_neg h, if_neg h]; exact .ok _
theorem clsOf_rel (op p q : Int) {rs rs' : List CRes} (h : CRels rs rs') : CRel (clsOf op p rs) (clsOf op q rs') := by
  unfold clsOf
  by_cases c0 : (op == 0) = true
  · rw [if_pos c0, if_pos c0]; exact .ok _
  rw [if_neg c0, if_neg c0]
  by_cases c1 : (op == 1) = true
  · rw [if_pos c1, if_pos c1]; exact .ok _
  rw [if_neg c1, if_neg c1]
  by_cases c2 : (op == 2) = true
  · rw [if_pos c2, if_pos c2]; exact .ok _
  rw [if_neg c2, if_neg c2]
  by_cases c3 : (op == 5 || op == 6 || op == 7) = true
  · rw [if_pos c3, if_pos c3]; exact demR_rel _ _ _ _ h
  rw [if_neg c3, if_neg c3]
  by_cases c4 : (op == 10 || op == 11 || op == 12 || op == 13 || op == 20) = true
  · rw [if_pos c4, if_pos c4]; exact demR_rel _ _ _ _ h
  rw [if_neg c4, if_neg c4]
  by_cases c5 : (op == 14 || op == 15 || op == 16 || op == 17 || op == 18 || op == 19) = true
  · rw [if_pos c5, if_pos c5]; exact demR_rel _ _ _ _ h
  rw [if_neg c5, if_neg c5]
  by_cases c6 : (op == 8 || op == 9) = true
  · rw [if_pos c6, if_pos c6]
    cases h with
    | nil => exact .ok _
    | cons ha t1 =>
      cases t1 with
      | nil => exact .ok _
      | cons hb t2 =>
        cases t2 with
        | nil => exact alike_rel p q ha hb
        | cons _ _ => exact .ok _
  rw [if_neg c6, if_neg c6]
  exact .ok _

theorem cls_erase (t : Ast) : CRel (clsA t) (clsA (erase t)) := by
  induction t with
  | leaf p => exact clsOf_rel _ _ _ .nil
  | un p x ih => exact clsOf_rel _ _ _ (.cons ih .nil)
  | bin p x y ihx ihy => exact clsOf_rel _ _ _ (.cons ihx (.cons ihy .nil))
  | tri p x y z ihx ihy ihz => exact clsOf_rel _ _ _ (.cons ihx (.cons ihy (.cons ihz .nil)))
end

section
theorem lx_end : Lx [] [] := .nil rfl
end

end Go.Proofs.YtfkcaldjphakpabGreatDoor
