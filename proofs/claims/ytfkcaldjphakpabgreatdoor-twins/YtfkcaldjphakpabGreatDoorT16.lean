/- Cores: terms of the one form, their texts, and how they lie in memory. A text that has these tokens reads so. The texts of Ranges, by their tokens. is, truth, sum. -/
import Derived.Test.YtfkcaldjphakpabGreatDoorT15
import Derived.Lib.AppendIntMem
import Derived.Lib.ItoaNum
import Derived.Lib.SlicesCompact
import Derived.Test.YtfkcaldjphakpabGreatDoorT11
import Derived.Test.YtfkcaldjphakpabGreatDoorT33
import Derived.Test.YtfkcaldjphakpabGreatDoorT12
import Derived.Test.YtfkcaldjphakpabGreatDoorShelf
namespace Go.Proofs.YtfkcaldjphakpabGreatDoor
open Go.RowKit
section
structure LibOk (w : World) : Prop where
  err : ErrOk w
  max : 4 < w.heap.size ∧ ∃ m, w.cell? ⟨4, 0, none⟩ = some (.int .i64 m)
  pow : Lib.TabIs Tryz.prog w "internal/strconv.uint64pow10" .u64 Lib.pow10Tab
theorem LibOk.below {w w' : World} {B : Nat} (h : LibOk w) (hb : Below B w w') (hB : w.heap.size ≤ B) : LibOk w' := by
  obtain ⟨hz, m, hm⟩ := h.max
  exact ⟨h.err.below hb hB, ⟨Nat.lt_of_lt_of_le hz (by have := hb.size; omega), m, (hb.cell (p := ⟨4, 0, none⟩) (Nat.lt_of_lt_of_le hz hB)).trans hm⟩, (Lib.tabBelow_of_tabIs h.pow) w' (hb.mono hB)⟩
theorem LibOk.alloc {w : World} (h : LibOk w) (o : Obj) : LibOk (w.alloc o) := h.below ((Below.refl _ _).alloc (Nat.le_refl _) o) (Nat.le_refl _)
structure CP where
  op : Int
  num : Int
  str : List UInt8
  esc : List UInt8
inductive Co where
  | leaf (p : CP)
  | un (p : CP) (x : Co)
  | bin (p : CP) (x y : Co)
def qL (s : List UInt8) : List UInt8 := 39 :: (jy8 s ++ [39])
def qk3 (op : Int) : List UInt8 :=
  if op == 6 then [65, 78, 68] else if op == 7 then [79, 82] else if op == 8 then [61] else if op == 10 then [60] else if op == 11 then [60, 61]
  else if op == 16 then [43] else if op == 17 then [45] else if op == 18 then [42] else [47]
def escT (e : List UInt8) : List UInt8 := if e.isEmpty then [] else [32, 69, 83, 67, 65, 80, 69, 32] ++ qL e
def y6 (p : CP) (l r : List UInt8) : List UInt8 :=
  if p.op == 0 then p.str else if p.op == 1 then Lib.itoa p.num else if p.op == 2 then qL p.str else if p.op == 3 then [84, 82, 85, 69] else if p.op == 4 then [70, 65, 76, 83, 69]
  else if p.op == 5 then [40, 78, 79, 84, 32] ++ l ++ [41] else if p.op == 23 then [40] ++ l ++ [32, 73, 83, 32, 78, 85, 76, 76, 41]
  else if p.op == 22 then [40] ++ l ++ [32, 76, 73, 75, 69, 32] ++ qL p.str ++ escT p.esc ++ [41]
  else [40] ++ l ++ [32] ++ qk3 p.op ++ [32] ++ r ++ [41]
def z8 : Co → List UInt8
  | .leaf p => y6 p [] []
  | .un p x => y6 p (z8 x) []
  | .bin p x y => y6 p (z8 x) (z8 y)
def opC : Co → Int
  | .leaf p => p.op
  | .un p _ => p.op
  | .bin p _ _ => p.op
def qb0 (op : Int) : CP := ⟨op, 0, [], []⟩
def vt1 (op : Int) : Bool := op == 6 || op == 7 || op == 8 || op == 16 || op == 18
def z7 (op : Int) (x y : Co) : Co := if vt1 op && Op.bytesLess (z8 y) (z8 x) then .bin (qb0 op) y x else .bin (qb0 op) x y
def qh2 : Co → Co
  | .leaf p => if p.op == 3 then .leaf (qb0 4) else if p.op == 4 then .leaf (qb0 3) else .un (qb0 5) (.leaf p)
  | .un p x => if p.op == 5 && opC x != 0 then x else .un (qb0 5) (.un p x)
  | .bin p x y => if p.op == 6 then z7 7 (qh2 x) (qh2 y) else if p.op == 7 then z7 6 (qh2 x) (qh2 y)
      else if p.op == 10 then z7 11 y x else if p.op == 11 then z7 10 y x else .un (qb0 5) (.bin p x y)
def qp2 (s : List UInt8) : Co := .leaf ⟨2, 0, s, []⟩
def vn6 (n : Int) : Co := .leaf ⟨1, n, [], []⟩
def qw2 (x : Co) : Co → List (List UInt8) → Co
  | f, [] => f
  | f, t :: r => qw2 x (z7 7 f (z7 8 x (qp2 t))) r
def qq9 (ts : List (List UInt8)) : List (List UInt8) := Lib.compact (ts.mergeSort fun x y => decide (x ≤ y))
def qu7 (x : Co) (ts : List (List UInt8)) : Co := match qq9 ts with
  | [] => x
  | t :: r => qw2 x (z7 8 x (qp2 t)) r
def qz9 (p : Pay) : CP := ⟨p.op, p.num, p.str, p.esc⟩
def j6 : Ast → Co
  | .leaf p => .leaf (qz9 p)
  | .un p x => if p.op == 14 then z7 16 (vn6 0) (j6 x) else if p.op == 15 then z7 17 (vn6 0) (j6 x) else if p.op == 5 then qh2 (j6 x)
      else if p.op == 21 then qu7 (j6 x) p.texts else .un (qz9 p) (j6 x)
  | .bin p x y => if p.op == 12 then z7 10 (j6 y) (j6 x) else if p.op == 13 then z7 11 (j6 y) (j6 x) else if p.op == 9 then qh2 (z7 8 (j6 x) (j6 y)) else z7 p.op (j6 x) (j6 y)
  | .tri _ x y z => z7 6 (z7 11 (j6 y) (j6 x)) (z7 11 (j6 x) (j6 z))
structure CellsC (B E : Nat) (w : World) (b : Nat) (p : CP) (l r : Value) (t : List UInt8) : Prop where
  lo : B ≤ b
  hi : b < E
  within : b < w.heap.size
  c0 : w.cell? ⟨b, 0, none⟩ = some (.int .i64 p.op)
  c1 : w.cell? ⟨b, 1, none⟩ = some l
  c2 : w.cell? ⟨b, 2, none⟩ = some r
  c3 : w.cell? ⟨b, 3, none⟩ = some (.int .i64 p.num)
  c4 : w.cell? ⟨b, 4, none⟩ = some (.string (BS p.str))
  c5 : w.cell? ⟨b, 5, none⟩ = some (.string (BS p.esc))
  c6 : w.cell? ⟨b, 6, none⟩ = some (.string (BS t))
def nilP : Value := .pointer none
def at0 (b : Nat) : Value := .pointer (some ⟨b, 0, none⟩)
def CoAt (B E : Nat) (w : World) (v : Value) : Co → Prop
  | .leaf p => ∃ b, v = at0 b ∧ CellsC B E w b p nilP nilP (z8 (.leaf p))
  | .un p x => ∃ b vx, v = at0 b ∧ CellsC B E w b p vx nilP (z8 (.un p x)) ∧ CoAt B E w vx x
  | .bin p x y => ∃ b vx vy, v = at0 b ∧ CellsC B E w b p vx vy (z8 (.bin p x y)) ∧ CoAt B E w vx x ∧ CoAt B E w vy y
theorem CellsC.keep {B E E' : Nat} {w w' : World} {b : Nat} {p : CP} {l r : Value} {t : List UInt8} (h : CellsC B E w b p l r t) (hE : E ≤ E') (hk : ∀ k, B ≤ k → k < E → w'.heap[k]? = w.heap[k]?) (hz : w.heap.size ≤ w'.heap.size) : CellsC B E' w' b p l r t := by
  have hc : ∀ j, w'.cell? ⟨b, j, none⟩ = w.cell? ⟨b, j, none⟩ := fun j => World.cell?_of_block (w := w) (w' := w') (a := ⟨b, j, none⟩) (hk b h.lo h.hi)
  exact ⟨h.lo, Nat.lt_of_lt_of_le h.hi hE, Nat.lt_of_lt_of_le h.within hz, (hc 0).trans h.c0, (hc 1).trans h.c1, (hc 2).trans h.c2, (hc 3).trans h.c3, (hc 4).trans h.c4, (hc 5).trans h.c5, (hc 6).trans h.c6⟩
theorem CoAt.keep {B E E' : Nat} {w w' : World} (hE : E ≤ E') (hk : ∀ k, B ≤ k → k < E → w'.heap[k]? = w.heap[k]?) (hz : w.heap.size ≤ w'.heap.size) : ∀ {c : Co} {v : Value}, CoAt B E w v c → CoAt B E' w' v c := by
  intro c
  induction c with
  | leaf p => rintro v ⟨b, rfl, h⟩; exact ⟨b, rfl, h.keep hE hk hz⟩
  | un p x ih => rintro v ⟨b, vx, rfl, h, hx⟩; exact ⟨b, vx, rfl, h.keep hE hk hz, ih hx⟩
  | bin p x y ihx ihy => rintro v ⟨b, vx, vy, rfl, h, hx, hy⟩; exact ⟨b, vx, vy, rfl, h.keep hE hk hz, ihx hx, ihy hy⟩
theorem CoAt.below {B : Nat} {w w' : World} (hb : Below w.heap.size w w') {c : Co} {v : Value} (h : CoAt B w.heap.size w v c) : CoAt B w'.heap.size w' v c :=
  h.keep hb.size (fun k _ hk => hb.block k hk) hb.size
theorem CoAt.head {B E : Nat} {w : World} {v : Value} {c : Co} (h : CoAt B E w v c) : ∃ b p l r, v = at0 b ∧ p.op = opC c ∧ CellsC B E w b p l r (z8 c) := by
  cases c with
  | leaf p => obtain ⟨b, rfl, h⟩ := h; exact ⟨b, p, _, _, rfl, rfl, h⟩
  | un p x => obtain ⟨b, vx, rfl, h, _⟩ := h; exact ⟨b, p, _, _, rfl, rfl, h⟩
  | bin p x y => obtain ⟨b, vx, vy, rfl, h, _⟩ := h; exact ⟨b, p, _, _, rfl, rfl, h⟩
def TextAt (w : World) (v : Value) (t : List UInt8) : Prop := ∃ b, v = at0 b ∧ b < w.heap.size ∧ w.cell? ⟨b, 6, none⟩ = some (.string (BS t))
theorem CoAt.text {B E : Nat} {w : World} {v : Value} {c : Co} (h : CoAt B E w v c) : TextAt w v (z8 c) := by
  obtain ⟨b, p, l, r, rfl, _, h⟩ := h.head
  exact ⟨b, rfl, h.within, h.c6⟩
end
section
inductive Lx : List UInt8 → List Tk → Prop where
  | nil {r : List UInt8} (h : qh9 r 0 = qd5 0) : Lx r []
  | cons {r : List UInt8} {k : Tk} {L : List Tk} (e : qh9 r 0 = k) (h : k.kind ≠ 0) (t : Lx (r.drop (qk0 r 0)) L) : Lx r (k :: L)
theorem vj0 (l : List UInt8) (k : Nat) : qf2 l k = k + qf2 (l.drop k) 0 := by
  unfold qf2; rw [List.drop_zero, Nat.zero_add]
theorem vj1 (l : List UInt8) (k : Nat) : qh9 l k = qh9 (l.drop k) 0 := by
  unfold qh9
  rw [vj0 l k, ← List.drop_drop, List.length_drop]
  by_cases h : k + qf2 (l.drop k) 0 < l.length
  · rw [if_pos h, if_pos (by omega)]
  · rw [if_neg h, if_neg (by omega)]
theorem jh1 (l : List UInt8) (k : Nat) (hk : k ≤ l.length) : qk0 l k = k + qk0 (l.drop k) 0 := by
  unfold qk0
  rw [vj0 l k, ← List.drop_drop, List.length_drop]
  by_cases h : k + qf2 (l.drop k) 0 < l.length
  · rw [if_pos h, if_pos (by omega)]; omega
  · rw [if_neg h, if_neg (by omega)]; omega
theorem jb0 {s : ByteArray} {r : List UInt8} {L : List Tk} (h : Lx r L) : ∀ st : St, st.after ≤ s.size → s.data.toList.drop st.after = r → Str s (v8 s st) L := by
  induction h with
  | nil h =>
    intro st _ hr
    refine .nil ?_
    show qh9 s.data.toList st.after = _
    rw [vj1, hr, h]
  | cons e h t ih =>
    intro st ha hr
    rename_i r k L
    have hk : (v8 s st).tk = k := by
      show qh9 s.data.toList st.after = _
      rw [vj1, hr, e]
    rw [← hk]
    refine .cons (by rw [hk]; exact h) (ih _ (qk4 s st ha).after ?_)
    show s.data.toList.drop (qk0 s.data.toList st.after) = _
    rw [jh1 _ _ (by rw [qa9]; exact ha), ← List.drop_drop, hr]
inductive CRel : CRes → CRes → Prop where
  | ok (c : Int) : CRel (.ok c) (.ok c)
  | err (p q : Int) : CRel (.err p) (.err q)
inductive CRels : List CRes → List CRes → Prop where
  | nil : CRels [] []
  | cons {a b : CRes} {r r' : List CRes} (h : CRel a b) (t : CRels r r') : CRels (a :: r) (b :: r')
theorem dem_rel (want p q : Int) : ∀ rs rs' : List CRes, CRels rs rs' → ∀ fit, (dem want p rs fit).isNone = (dem want q rs' fit).isNone := by
  intro rs rs' h
  induction h with
  | nil => intro fit; cases fit <;> rfl
  | cons h _ ih =>
    intro fit
    cases h with
    | ok c => exact ih _
    | err a b => rfl
theorem vs9 (want p q c : Int) {rs rs' : List CRes} (h : CRels rs rs') : CRel (ve5 want p c rs) (ve5 want q c rs') := by
  have := dem_rel want p q rs rs' h true
  unfold ve5
  cases h1 : dem want p rs true <;> cases h2 : dem want q rs' true <;> rw [h1, h2] at this
  · exact .ok _
  · cases this
  · cases this
  · exact .err _ _
theorem alike_rel (p q : Int) {a a' b b' : CRes} (ha : CRel a a') (hb : CRel b b') : CRel (qj4 p a b) (qj4 q a' b') := by
  cases ha with
  | err x y => exact .err _ _
  | ok c =>
    cases hb with
    | err x y => exact .err _ _
    | ok d =>
      show CRel (if (c != d && c != 0 && d != 0) = true then CRes.err p else CRes.ok 3) (if (c != d && c != 0 && d != 0) = true then CRes.err q else CRes.ok 3)
      by_cases h : (c != d && c != 0 && d != 0) = true
      · rw [if_pos h, if_pos h]; exact .err _ _
      · rw [if_neg h, if_neg h]; exact .ok _
theorem va2 (op p q : Int) {rs rs' : List CRes} (h : CRels rs rs') : CRel (qr7 op p rs) (qr7 op q rs') := by
  unfold qr7
  by_cases c0 : (op == 0) = true
  · rw [if_pos c0, if_pos c0]; exact .ok _
  rw [if_neg c0, if_neg c0]
  by_cases c1 : (op == 1) = true
  · rw [if_pos c1, if_pos c1]; exact .ok _
  rw [if_neg c1, if_neg c1]
  by_cases c2 : (op == 2) = true
  · rw [if_pos c2, if_pos c2]; exact .ok _
  rw [if_neg c2, if_neg c2]
  by_cases c3 : (op == 5 || op == 6 || op == 7) = true
  · rw [if_pos c3, if_pos c3]; exact vs9 _ _ _ _ h
  rw [if_neg c3, if_neg c3]
  by_cases c4 : (op == 10 || op == 11 || op == 12 || op == 13 || op == 20) = true
  · rw [if_pos c4, if_pos c4]; exact vs9 _ _ _ _ h
  rw [if_neg c4, if_neg c4]
  by_cases c5 : (op == 14 || op == 15 || op == 16 || op == 17 || op == 18 || op == 19) = true
  · rw [if_pos c5, if_pos c5]; exact vs9 _ _ _ _ h
  rw [if_neg c5, if_neg c5]
  by_cases c6 : (op == 8 || op == 9) = true
  · rw [if_pos c6, if_pos c6]
    cases h with
    | nil => exact .ok _
    | cons ha t1 =>
      cases t1 with
      | nil => exact .ok _
      | cons hb t2 =>
        cases t2 with
        | nil => exact alike_rel p q ha hb
        | cons _ _ => exact .ok _
  rw [if_neg c6, if_neg c6]
  exact .ok _
theorem cls_erase (t : Ast) : CRel (qa1 t) (qa1 (qi5 t)) := by
  induction t with
  | leaf p => exact va2 _ _ _ .nil
  | un p x ih => exact va2 _ _ _ (.cons ih .nil)
  | bin p x y ihx ihy => exact va2 _ _ _ (.cons ihx (.cons ihy .nil))
  | tri p x y z ihx ihy ihz => exact va2 _ _ _ (.cons ihx (.cons ihy (.cons ihz .nil)))
end
section
theorem lx_end : Lx [] [] := .nil rfl
end
section
set_option maxHeartbeats 400000 in
theorem jb5 (b : Bool) (w : World) :
    Calls Tryz.prog 82 #[.bool b] w fun e w' => e = .returned (vV (bV b)) ∧ Below w.heap.size w w' := by
  cases b
  all_goals
    go_enter Tryz.func82, Tryz.ntmps82
    go_wp2_with fail
    refine bodyPost_ret (by simp [results, Tryz.results82, go_sem] <;> rfl) rfl ⟨rfl, ?_⟩
    exact qg3 _ _ _
set_option maxHeartbeats 400000 in
theorem is_any (s : ByteArray) (ev : Value) (r want : V) (hev : ∃ a n c, ev = .slice a n c) (w : World) (hEV : ∀ w1, Below w.heap.size w w1 → w.heap.size < w1.heap.size → Calls Tryz.prog 112 #[.string s, ev] w1 fun e w' => e = .returned (.tuple #[vV r, .int .i64 0, .int .i64 0]) ∧ Below w1.heap.size w1 w') :
    Calls Tryz.prog 81 #[.string s, ev, vV want] w fun e w' => e = .returned (.bool (decide (r = want))) ∧ Below w.heap.size w w' := by
  have he := fun w => vh9 r want w
  have EV := v6 hEV
  obtain ⟨a, n, c, rfl⟩ := hev
  obtain ⟨d, hd⟩ : ∃ d, decide (r = want) = d := ⟨_, rfl⟩
  rw [hd] at he ⊢
  clear hEV hd
  simp only [vV] at he
  conv => arg 3; simp only [vV]
  go_enter Tryz.func81, Tryz.ntmps81
  go_wp2_with (go_at_call 112; refine (q9 EV _ ((Below.refl _ _).alloc (Nat.le_refl _) _) (by simp)).mono ?_; rintro e w1 ⟨rfl, hb1⟩; have hz1 : w.heap.size < w1.heap.size := (by have := hb1.size; simp at this; omega); have g0 : w1.cell? ⟨w.heap.size, 0, none⟩ = some (.int .i64 want.kind) := ((j5 hb1).1 _ 0 (by simp)).trans (by simp); have g1 : w1.cell? ⟨w.heap.size, 1, none⟩ = some (.int .i64 want.num) := ((j5 hb1).1 _ 1 (by simp)).trans (by simp); have g2 : w1.cell? ⟨w.heap.size, 2, none⟩ = some (.string (BS want.str)) := ((j5 hb1).1 _ 2 (by simp)).trans (by simp); have hB1 := v6 (qc1 hb1); clear hb1; simp only [vV])
  go_ret
  exact ⟨rfl, z9 (q9 hB1) _⟩
end
end Go.Proofs.YtfkcaldjphakpabGreatDoor
