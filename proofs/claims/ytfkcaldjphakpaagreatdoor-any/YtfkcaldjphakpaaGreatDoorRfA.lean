/- Read's deferred function. What Read says of a text. Reading a list of tokens, places left out; it goes as reading a text goes. Reading a list of tokens goes as reading a text goes: rows, signs, groups. Reading a list of tokens goes as reading a text goes: the rest. Reading a list of tokens goes as reading a text goes: tests, and all levels. A text that has these tokens reads so. -/
import Derived.Test.YtfkcaldjphakpaaGreatDoorClA
import Derived.Defers
import Derived.Recover
import Derived.Laws.Pointers
namespace Go.Proofs.YtfkcaldjphakpaaGreatDoor
open Go.RowKit

section
set_option maxHeartbeats 1000000 in
theorem catch_idle (p0 p1 p2 : Addr) (w : World) :
    CallsD Tryz.prog 53 #[.pointer (some p0), .pointer (some p1), .pointer (some p2)] .returning w fun e u' w' => e = .returned (.tuple #[]) ∧ u' = .returning ∧ w' = w := by
  refine callsD_of_wpS Tryz.func53 rfl fun c₀ cs hu => ?_
  apply wpS_seq
  apply wpS_region
  simp [wpOpsS, go_sem, recoverD, hu, Tryz.ntmps53, Exit.thenS]
  refine wpS_of_wp ?_
  rw [show (#[Value.pointer (some p0), Value.pointer (some p1), Value.pointer (some p2)] ++ (Array.replicate 13 undef).setIfInBounds 3 Value.nilIface) = #[Value.pointer (some p0), Value.pointer (some p1), Value.pointer (some p2), undef, undef, undef, Value.nilIface, undef, undef, undef, undef, undef, undef, undef, undef, undef] from rfl]
  go_wp2_with fail
  refine ⟨rfl, .returning, ?_, _, results_none rfl _ _ _, rfl, rfl, rfl⟩
  cases c₀
  simp_all

theorem as_fault (v : Value) (w : World) : (Instr.typeAssert (.iface 88 v) 20 88 true).run Tryz.prog w = .ok (.tuple #[v, .bool true]) w := by kernel_rfl
theorem eq_fault (v : Value) (w : World) : (binOp .eql 20 (.iface 88 v) .nilIface).run Tryz.prog w = .ok (.bool false) w := by kernel_rfl

set_option maxHeartbeats 1000000 in
theorem catch_panicking (B : Nat) (x0 x1 x2 : Value) (en pl : Int) (older : List PanicEntry) (w : World) (hB : B + 2 < w.heap.size) (h0 : w.cell? ⟨B, 0, none⟩ = some x0) (h1 : w.cell? ⟨B + 1, 0, none⟩ = some x1) (h2 : w.cell? ⟨B + 2, 0, none⟩ = some x2)
    (f0 : w.frozen? ⟨B, 0, none⟩ = false) (f1 : w.frozen? ⟨B + 1, 0, none⟩ = false) (f2 : w.frozen? ⟨B + 2, 0, none⟩ = false) :
    CallsD Tryz.prog 53 #[.pointer (some ⟨B, 0, none⟩), .pointer (some ⟨B + 1, 0, none⟩), .pointer (some ⟨B + 2, 0, none⟩)] (.panicking ({ v := .iface 88 (.agg #[.int .i64 en, .int .i64 pl]), recovered := false } :: older)) w fun e u' w' =>
      e = .returned (.tuple #[]) ∧ u' = .panicking ({ v := .iface 88 (.agg #[.int .i64 en, .int .i64 pl]), recovered := true } :: older) ∧
      w'.cell? ⟨B, 0, none⟩ = some (.pointer none) ∧ w'.cell? ⟨B + 1, 0, none⟩ = some (.int .i64 en) ∧ w'.cell? ⟨B + 2, 0, none⟩ = some (.int .i64 pl) ∧ Below B w w' := by
  refine callsD_of_wpS Tryz.func53 rfl fun c₀ cs hu => ?_
  apply wpS_seq
  apply wpS_region
  simp [wpOpsS, go_sem, recoverD, hu, Tryz.ntmps53, Exit.thenS]
  refine wpS_of_wp ?_
  rw [show (#[Value.pointer (some ⟨B, 0, none⟩), Value.pointer (some ⟨B + 1, 0, none⟩), Value.pointer (some ⟨B + 2, 0, none⟩)] ++ (Array.replicate 13 undef).setIfInBounds 3 (.iface 88 (.agg #[.int .i64 en, .int .i64 pl]))) = #[Value.pointer (some ⟨B, 0, none⟩), Value.pointer (some ⟨B + 1, 0, none⟩), Value.pointer (some ⟨B + 2, 0, none⟩), undef, undef, undef, .iface 88 (.agg #[.int .i64 en, .int .i64 pl]), undef, undef, undef, undef, undef, undef, undef, undef, undef] from rfl]
  have ha := as_fault
  have hq := eq_fault
  have n0 : B < w.heap.size := by omega
  have n1 : B + 1 < w.heap.size := by omega
  have m0 : ¬ w.heap.size = B := by omega
  have m1 : ¬ w.heap.size = B + 1 := by omega
  have m2 : ¬ w.heap.size = B + 2 := by omega
  go_wp2_with fail
  go_region
  all_goals refine ⟨rfl, .panicking ({ v := .iface 88 (.agg #[.int .i64 en, .int .i64 pl]), recovered := true } :: older), ?_, _, results_none rfl _ _ _, rfl, rfl, ?_, ?_, ?_, ?_⟩
  · cases c₀
    simp_all
  · rw [World.cell?_drew, World.cell?_alloc_past _ _ _ (by simp; omega)]; simp [go_sem, h0]
  · rw [World.cell?_drew, World.cell?_alloc_past _ _ _ (by simp; omega)]; simp [go_sem, h1]
  · rw [World.cell?_drew, World.cell?_alloc_past _ _ _ (by simp; omega)]; simp [go_sem, h2]
  · exact (((((Below.refl B w).setCell (Nat.le_refl _) _).setCell (by simp) _).setCell (by simp) _).alloc (by simp; omega) _).drew
end

section
/-- All blocks behind one are as they were. -/
structure Above (lo : Nat) (w w' : World) : Prop where
  size : w.heap.size ≤ w'.heap.size
  block : ∀ k, lo < k → k < w.heap.size → w'.heap[k]? = w.heap[k]?

theorem Kept.above {rb : Nat} {w w' : World} (h : Kept rb w w') : Above rb w w' := ⟨h.size, fun k h1 h2 => h.block k h2 (by omega)⟩
theorem Above.trans {lo : Nat} {a b c : World} (h : Above lo a b) (k : Above lo b c) : Above lo a c := ⟨Nat.le_trans h.size k.size, fun i h1 h2 => (k.block i h1 (Nat.lt_of_lt_of_le h2 h.size)).trans (h.block i h1 h2)⟩
theorem Above.setCell {lo : Nat} {a w : World} (h : Above lo a w) {p : Addr} (hp : p.block ≤ lo) (u : Value) : Above lo a (w.setCell p u) := by
  refine ⟨by rw [size_setCell]; exact h.size, fun k h1 h2 => ?_⟩
  rw [Below.heap_setCell w p u k (by omega)]; exact h.block k h1 h2
theorem Above.cell {lo : Nat} {w w' : World} (h : Above lo w w') {g : Nat} (h1 : lo < g) (h2 : g < w.heap.size) (j : Nat) : w'.cell? ⟨g, j, none⟩ = w.cell? ⟨g, j, none⟩ :=
  World.cell?_of_block (w := w) (w' := w') (a := ⟨g, j, none⟩) (h.block g h1 h2)

theorem TextsAt.keptA {lo : Nat} {w w' : World} (hk : Above lo w w') {v : Value} {ts : List (List UInt8)} (h : TextsAt lo w v ts) : TextsAt lo w' v ts := by
  rcases h with h | ⟨g, cap, hv, hg, hg2, hc⟩
  · exact .inl h
  · exact .inr ⟨g, cap, hv, hg, Nat.lt_of_lt_of_le hg2 hk.size, fun j t ht => (hk.cell hg hg2 j).trans (hc j t ht)⟩

theorem NodeAt.keptA {lo : Nat} {w w' : World} (hk : Above lo w w') {b : Nat} {p : Pay} {sides : Value} (h : NodeAt lo w b p sides) : NodeAt lo w' b p sides := by
  obtain ⟨h1, h2, c0, c1, c2, c3, c4, c5, tv, c6, ht⟩ := h
  have hc := fun j => hk.cell h1 h2 j
  exact ⟨h1, Nat.lt_of_lt_of_le h2 hk.size, (hc 0).trans c0, (hc 1).trans c1, (hc 2).trans c2, (hc 3).trans c3, (hc 4).trans c4, (hc 5).trans c5, tv, (hc 6).trans c6, ht.keptA hk⟩

theorem IsNode.above {lo : Nat} {w w' : World} (hk : Above lo w w') : ∀ {t : Ast} {v : Value}, IsNode lo w v t → IsNode lo w' v t := by
  have hc := fun g j (h1 : lo < g) (h2 : g < w.heap.size) => hk.cell h1 h2 j
  intro t
  induction t with
  | leaf p => rintro v ⟨b, rfl, h⟩; exact ⟨b, rfl, h.keptA hk⟩
  | un p x ih =>
    rintro v ⟨b, g, v1, rfl, h, h1, h2, e1, n1⟩
    exact ⟨b, g, v1, rfl, h.keptA hk, h1, Nat.lt_of_lt_of_le h2 hk.size, (hc g 0 h1 h2).trans e1, ih n1⟩
  | bin p x y ihx ihy =>
    rintro v ⟨b, g, v1, v2, rfl, h, h1, h2, e1, e2, n1, n2⟩
    exact ⟨b, g, v1, v2, rfl, h.keptA hk, h1, Nat.lt_of_lt_of_le h2 hk.size, (hc g 0 h1 h2).trans e1, (hc g 1 h1 h2).trans e2, ihx n1, ihy n2⟩
  | tri p x y z ihx ihy ihz =>
    rintro v ⟨b, g, v1, v2, v3, rfl, h, h1, h2, e1, e2, e3, n1, n2, n3⟩
    exact ⟨b, g, v1, v2, v3, rfl, h.keptA hk, h1, Nat.lt_of_lt_of_le h2 hk.size, (hc g 0 h1 h2).trans e1, (hc g 1 h1 h2).trans e2, (hc g 2 h1 h2).trans e3, ihx n1, ihy n2, ihz n3⟩

/-- What a text is: a term, or an error and its place. -/
inductive RRes where
  | ok (t : Ast)
  | err (en pl : Int)

def st0 : St := ⟨⟨0, 0, []⟩, 0, 0, 0⟩

def endR (t : Ast) (st : St) : RRes := if st.tk.kind = 0 then (match chkR (clsA t) with
  | none => .ok t
  | some q => .err 4 q) else .err 2 st.place

def readR (s : ByteArray) : RRes := if s.size ≤ 200 then (match (lvl s 12).E (stepSt s st0) with
  | .err en pl => .err en pl
  | .ok t st => endR t st) else .err 1 0

def ReadEnds (w : World) (r : RRes) (e : Ending) (w' : World) : Prop := Below w.heap.size w w' ∧ match r with
  | .ok t => ∃ v, e = .returned (.tuple #[v, .int .i64 0, .int .i64 0]) ∧ IsNode (w.heap.size + 3) w' v t
  | .err en pl => e = .returned (.tuple #[.pointer none, .int .i64 en, .int .i64 pl])

theorem Kept.below {rb B : Nat} {a w w' : World} (h : Kept rb w w') (hb : Below B a w) (hB : B ≤ rb) (hz : B ≤ w.heap.size) : Below B a w' :=
  ⟨h.os.trans hb.os, h.tape.trans hb.tape, h.output.trans hb.output, Nat.le_trans hb.size h.size, fun k hk => (h.block k (by omega) (by omega)).trans (hb.block k hk)⟩

/-- The world in which the reader begins. -/
def begun (w : World) (s : ByteArray) : World := (((w.alloc (.cells #[.pointer none] 67)).alloc (.cells #[.int .i64 0] 41)).alloc (.cells #[.int .i64 0] 3)).alloc (.cells #[.string s, .int .i64 0, .int .i64 0, .int .i64 0, .string ⟨#[]⟩, .int .i64 0, .int .i64 0] 93)

theorem begun_size (w : World) (s : ByteArray) : (begun w s).heap.size = w.heap.size + 4 := by simp [begun]

theorem begun_below (w : World) (s : ByteArray) : Below w.heap.size w (begun w s) := (below3 w _ _ _).alloc (by simp; omega) _

theorem begun_cells (w : World) (s : ByteArray) : (begun w s).cell? ⟨w.heap.size, 0, none⟩ = some (.pointer none) ∧ (begun w s).cell? ⟨w.heap.size + 1, 0, none⟩ = some (.int .i64 0) ∧ (begun w s).cell? ⟨w.heap.size + 2, 0, none⟩ = some (.int .i64 0) ∧
    (begun w s).frozen? ⟨w.heap.size, 0, none⟩ = false ∧ (begun w s).frozen? ⟨w.heap.size + 1, 0, none⟩ = false ∧ (begun w s).frozen? ⟨w.heap.size + 2, 0, none⟩ = false := by
  unfold begun
  refine ⟨?_, ?_, ?_, ?_, ?_, ?_⟩
  · rw [World.cell?_alloc_past _ _ _ (by simp <;> omega), World.cell?_alloc_past _ _ _ (by simp <;> omega), World.cell?_alloc_past _ _ _ (by simp), World.cell?_alloc_at _ _ _ _ rfl]; rfl
  · rw [World.cell?_alloc_past _ _ _ (by simp <;> omega), World.cell?_alloc_past _ _ _ (by simp), World.cell?_alloc_at _ _ _ _ (by simp)]; rfl
  · rw [World.cell?_alloc_past _ _ _ (by simp), World.cell?_alloc_at _ _ _ _ (by simp)]; rfl
  · rw [World.frozen?_alloc_past _ _ _ (by simp <;> omega), World.frozen?_alloc_past _ _ _ (by simp <;> omega), World.frozen?_alloc_past _ _ _ (by simp), World.frozen?_alloc_at _ _ _ _ rfl]
  · rw [World.frozen?_alloc_past _ _ _ (by simp <;> omega), World.frozen?_alloc_past _ _ _ (by simp), World.frozen?_alloc_at _ _ _ _ (by simp)]
  · rw [World.frozen?_alloc_past _ _ _ (by simp), World.frozen?_alloc_at _ _ _ _ (by simp)]

theorem rd_new (w : World) (s : ByteArray) : RdAt (w.alloc (.cells #[.string s, .int .i64 0, .int .i64 0, .int .i64 0, .string ⟨#[]⟩, .int .i64 0, .int .i64 0] 93)) w.heap.size s st0 :=
  ⟨by simp, by simp [st0], by simp [st0], by simp [st0], by simp [st0, BS], by simp [st0], by simp [st0], fun j => by simp⟩

theorem begun_rd (w : World) (s : ByteArray) : RdAt (begun w s) (w.heap.size + 3) s st0 := by
  have hs : w.heap.size + 3 = (((w.alloc (.cells #[.pointer none] 67)).alloc (.cells #[.int .i64 0] 41)).alloc (.cells #[.int .i64 0] 3)).heap.size := by simp
  rw [hs]
  exact rd_new _ s

theorem begun_err (w : World) (s : ByteArray) (h : ErrOk w) : ErrOk (begun w s) := (((h.alloc _).alloc _).alloc _).alloc _

theorem begun_ready (w : World) (s : ByteArray) (h : ErrOk w) (hs : s.size ≤ 200) : Ready (w.heap.size + 3) s (begun w s) st0 :=
  ⟨begun_rd w s, by rw [begun_size]; omega, begun_err w s h, by have := h.1; omega, ⟨Nat.zero_le _, Nat.zero_le _, fun h => absurd rfl h⟩, by omega⟩
end

section
/-- A term without its places. -/
def noPl (p : Pay) : Pay := { p with place := 0 }
def erase : Ast → Ast
  | .leaf p => .leaf (noPl p)
  | .un p x => .un (noPl p) (erase x)
  | .bin p x y => .bin (noPl p) (erase x) (erase y)
  | .tri p x y z => .tri (noPl p) (erase x) (erase y) (erase z)

theorem opA_erase (t : Ast) : opA (erase t) = opA t := by cases t <;> rfl

/-- The tokens that are left, and how many things are open. -/
structure TS where
  toks : List Tk
  op : Nat

inductive TRes where
  | ok (t : Ast) (ts : TS)
  | err (en : Int)

def hd (L : List Tk) : Tk := match L with
  | [] => plainTk 0
  | k :: _ => k
def TS.tk (ts : TS) : Tk := hd ts.toks
def TS.next (ts : TS) : TS := ⟨ts.toks.tail, ts.op⟩

def tJoin (f : TS → TRes) (ts : TS) (l : Ast) : TRes := match f ts.next with
  | .ok r ts' => .ok (.bin ⟨opOf ts.tk.kind, 0, 0, [], [], []⟩ l r) ts'
  | .err en => .err en
def tLoop (f : TS → TRes) (ks : List Int) : Nat → Ast → TS → TRes
  | 0, l, ts => .ok l ts
  | n + 1, l, ts => if ks.contains ts.tk.kind then (match tJoin f ts l with
      | .ok l' ts' => tLoop f ks n l' ts'
      | .err en => .err en) else .ok l ts
def tRow (f : TS → TRes) (ks : List Int) (ts : TS) : TRes := match f ts with
  | .ok l ts' => tLoop f ks (ts'.toks.length + 1) l ts'
  | .err en => .err en
def tIn (ts : TS) : TS := ⟨ts.toks.tail, ts.op + 1⟩
def tSign (f : TS → TRes) (o : Int) (ts : TS) : TRes := if ts.op = 12 then .err 3 else match f (tIn ts) with
  | .ok x ts' => .ok (.un ⟨o, 0, 0, [], [], []⟩ x) ⟨ts'.toks, ts.op⟩
  | .err en => .err en
def tGroup (f : TS → TRes) (ts : TS) : TRes := if ts.op = 12 then .err 3 else match f (tIn ts) with
  | .ok t ts' => if ts'.tk.kind = 27 then .ok t ⟨ts'.toks.tail, ts.op⟩ else .err 2
  | .err en => .err en
def tLeaf (o : Int) (num : Int) (str : List UInt8) : Ast := .leaf ⟨o, 0, num, str, [], []⟩
def tSigned (fS fE : TS → TRes) (ts : TS) : TRes :=
  if ts.tk.kind = 22 then tSign fS 14 ts else if ts.tk.kind = 23 then tSign fS 15 ts else if ts.tk.kind = 26 then tGroup fE ts
  else if ts.tk.kind = 2 then .ok (tLeaf 0 0 ts.tk.str) ts.next
  else if ts.tk.kind = 3 then .ok (tLeaf 1 ts.tk.num []) ts.next
  else if ts.tk.kind = 4 then .ok (tLeaf 2 0 ts.tk.str) ts.next
  else if ts.tk.kind = 8 then .ok (tLeaf 3 0 []) ts.next
  else if ts.tk.kind = 9 then .ok (tLeaf 4 0 []) ts.next else .err 2
def tNull (l : Ast) : Ast := .un ⟨23, 0, 0, [], [], []⟩ l
def tIsNull (l : Ast) (ts : TS) : TRes :=
  if ts.next.tk.kind = 7 then (if ts.next.next.tk.kind = 15 then .ok (.un ⟨5, 0, 0, [], [], []⟩ (tNull l)) ts.next.next.next else .err 2)
  else if ts.next.tk.kind = 15 then .ok (tNull l) ts.next.next else .err 2
def tBetween (f : TS → TRes) (l : Ast) (ts : TS) : TRes := if ts.tk.kind = 10 then (match f ts.next with
    | .ok lo ts1 => if ts1.tk.kind = 5 then (match f ts1.next with
        | .ok hi ts2 => .ok (.tri ⟨20, 0, 0, [], [], []⟩ l lo hi) ts2
        | .err en => .err en) else .err 2
    | .err en => .err en) else .err 2
def tInLoop (l : Ast) : Nat → List (List UInt8) → TS → TRes
  | 0, _, _ => .err 0
  | n + 1, xs, ts => if ts.tk.kind = 28 then (if ts.next.tk.kind = 4 then tInLoop l n (xs ++ [ts.next.tk.str]) ts.next.next else .err 2)
      else if ts.tk.kind = 27 then .ok (.un ⟨21, 0, 0, [], [], xs⟩ l) ts.next else .err 2
def tInRes (l : Ast) (ts : TS) : TRes :=
  if ts.next.tk.kind = 26 then (if ts.next.next.tk.kind = 4 then tInLoop l (ts.toks.length + 1) [ts.next.next.tk.str] ts.next.next.next else .err 2) else .err 2
def tLike (l : Ast) (ts : TS) : TRes :=
  if ts.next.tk.kind = 4 then
    (if ts.next.next.tk.kind = 13 then
      (if ts.next.next.next.tk.kind = 4 ∧ ts.next.next.next.tk.str.length = 1 ∧ (cutL ts.next.next.next.tk.str ts.next.tk.str).isSome = true
        then .ok (.un ⟨22, 0, 0, ts.next.tk.str, ts.next.next.next.tk.str, []⟩ l) ts.next.next.next.next else .err 2)
    else .ok (.un ⟨22, 0, 0, ts.next.tk.str, [], []⟩ l) ts.next.next)
  else .err 2
def tKeyword (f : TS → TRes) (bare : Bool) (l : Ast) (ts : TS) : TRes :=
  if ts.tk.kind = 11 ∧ bare = true then tInRes l ts else if ts.tk.kind = 12 ∧ bare = true then tLike l ts else tBetween f l ts
def tTail (f : TS → TRes) (bare : Bool) (l : Ast) (ts : TS) : TRes :=
  if ts.tk.kind = 16 ∨ ts.tk.kind = 17 ∨ ts.tk.kind = 18 ∨ ts.tk.kind = 19 ∨ ts.tk.kind = 20 ∨ ts.tk.kind = 21 then tJoin f ts l
  else if ts.tk.kind = 14 then (if bare = true then tIsNull l ts else .ok l ts)
  else if ts.tk.kind = 7 then (match tKeyword f bare l ts.next with
    | .ok t ts' => .ok (.un ⟨5, 0, 0, [], [], []⟩ t) ts'
    | .err en => .err en)
  else if ts.tk.kind = 10 ∨ ts.tk.kind = 11 ∨ ts.tk.kind = 12 then tKeyword f bare l ts
  else .ok l ts
def tTest (f : TS → TRes) (ts : TS) : TRes := match f ts with
  | .ok l ts' => tTail f (ts.tk.kind == 2 && opA l == 0) l ts'
  | .err en => .err en
def tDenied (fD fT : TS → TRes) (ts : TS) : TRes := if ts.tk.kind = 7 then tSign fD 5 ts else fT ts

structure T3 where
  S : TS → TRes
  D : TS → TRes
  E : TS → TRes
def tUp (L : T3) : T3 :=
  ⟨tSigned L.S L.E, tDenied L.D (tTest (tRow (tRow (tSigned L.S L.E) [24, 25]) [22, 23])), tRow (tRow (tDenied L.D (tTest (tRow (tRow (tSigned L.S L.E) [24, 25]) [22, 23]))) [5]) [6]⟩
def tLvl : Nat → T3
  | 0 => tUp ⟨fun _ => .err 0, fun _ => .err 0, fun _ => .err 0⟩
  | d + 1 => tUp (tLvl d)

/-- The tokens of a text from the reader's on. -/
inductive Str (s : ByteArray) : St → List Tk → Prop where
  | nil {st : St} (h : st.tk = plainTk 0) : Str s st []
  | cons {st : St} {L : List Tk} (h : st.tk.kind ≠ 0) (r : Str s (stepSt s st) L) : Str s st (st.tk :: L)

theorem Str.tk {s : ByteArray} {st : St} {L : List Tk} (h : Str s st L) : hd L = st.tk := by
  cases h with
  | nil h => exact h.symm
  | cons _ _ => rfl
theorem Str.next {s : ByteArray} {st : St} {L : List Tk} (h : Str s st L) (hk : st.tk.kind ≠ 0) : Str s (stepSt s st) L.tail := by
  cases h with
  | nil h => rw [h] at hk; exact absurd rfl hk
  | cons _ r => exact r
theorem Str.withOp {s : ByteArray} {st : St} {L : List Tk} (h : Str s st L) (n : Nat) : Str s { st with op := n } L := by
  induction h generalizing n with
  | nil h => exact .nil h
  | cons h r ih =>
    rename_i st L
    exact .cons (st := { st with op := n }) h (ih n)
theorem Str.len {s : ByteArray} {st : St} {L : List Tk} (h : Str s st L) : Fine s st → L.length ≤ s.size - st.place := by
  induction h with
  | nil h => intro _; simp
  | cons h r ih =>
    rename_i st L
    intro hf
    have h1 := ih hf.next
    have h2 := hf.lt h
    have h3 := hf.next.place
    simp only [List.length_cons]
    omega

def SimR (s : ByteArray) : Res → TRes → Prop
  | .ok t st, .ok t' ts => erase t = t' ∧ Str s st ts.toks ∧ st.op = ts.op ∧ Fine s st
  | .err en _, .err en' => en = en'
  | _, _ => False
def Sim (s : ByteArray) (f : St → Res) (f' : TS → TRes) : Prop := ∀ st ts, Fine s st → Str s st ts.toks → st.op = ts.op → SimR s (f st) (f' ts)
end

section
theorem SimR.cases {s : ByteArray} {r : Res} {r' : TRes} (h : SimR s r r') : (∃ t st ts, r = .ok t st ∧ r' = .ok (erase t) ts ∧ Str s st ts.toks ∧ st.op = ts.op ∧ Fine s st) ∨ ∃ en pl, r = .err en pl ∧ r' = .err en := by
  cases r with
  | ok t st =>
    cases r' with
    | ok t' ts => obtain ⟨rfl, h2, h3, h4⟩ := h; exact .inl ⟨t, st, ts, rfl, rfl, h2, h3, h4⟩
    | err en => exact h.elim
  | err en pl =>
    cases r' with
    | ok t' ts => exact h.elim
    | err en' => obtain rfl : en = en' := h; exact .inr ⟨en, pl, rfl, rfl⟩

theorem kind_eq {s : ByteArray} {st : St} {ts : TS} (h : Str s st ts.toks) : ts.tk = st.tk := h.tk

theorem Sim.join {s : ByteArray} {f : St → Res} {f' : TS → TRes} (h : Sim s f f') (st : St) (ts : TS) (l : Ast) (hf : Fine s st) (hs : Str s st ts.toks) (ho : st.op = ts.op) (hk : st.tk.kind ≠ 0) : SimR s (joinRes s f st l) (tJoin f' ts (erase l)) := by
  have := h (stepSt s st) ts.next hf.next (hs.next hk) ho
  unfold joinRes tJoin
  rw [kind_eq hs]
  rcases this.cases with ⟨t, st2, ts2, h1, h2, h3, h4, h5⟩ | ⟨en, pl, h1, h2⟩
  · rw [h1, h2]; exact ⟨rfl, h3, h4, h5⟩
  · rw [h1, h2]; rfl

/-- No more is left than there was. -/
def Shr (f : TS → TRes) : Prop := ∀ ts t ts', f ts = .ok t ts' → ts'.toks.length ≤ ts.toks.length
def ShrT (g : Ast → TS → TRes) : Prop := ∀ l ts t ts', g l ts = .ok t ts' → ts'.toks.length ≤ ts.toks.length

theorem tail_le (L : List Tk) : L.tail.length ≤ L.length := by rw [List.length_tail]; omega
theorem next_le (ts : TS) : ts.next.toks.length ≤ ts.toks.length := tail_le _

theorem Shr.join {f : TS → TRes} (h : Shr f) (ts : TS) (l t : Ast) (ts' : TS) (he : tJoin f ts l = .ok t ts') : ts'.toks.length ≤ ts.next.toks.length := by
  unfold tJoin at he
  split at he
  · rename_i hr; injection he with _ h2; subst h2; exact h _ _ _ hr
  · cases he
theorem Shr.loop {f : TS → TRes} (h : Shr f) (ks : List Int) : ∀ n l ts t ts', tLoop f ks n l ts = .ok t ts' → ts'.toks.length ≤ ts.toks.length := by
  intro n
  induction n with
  | zero => intro l ts t ts' he; rw [tLoop] at he; injection he with _ h2; subst h2; exact Nat.le_refl _
  | succ n ih =>
    intro l ts t ts' he
    rw [tLoop] at he
    split at he
    · split at he
      · rename_i hj; exact Nat.le_trans (ih _ _ _ _ he) (Nat.le_trans (h.join _ _ _ _ hj) (next_le _))
      · cases he
    · injection he with _ h2; subst h2; exact Nat.le_refl _
theorem Shr.row {f : TS → TRes} (h : Shr f) (ks : List Int) : Shr (tRow f ks) := by
  intro ts t ts' he
  unfold tRow at he
  split at he
  · rename_i hr; exact Nat.le_trans (h.loop ks _ _ _ _ _ he) (h _ _ _ hr)
  · cases he
theorem Shr.sign {f : TS → TRes} (h : Shr f) (o : Int) : Shr (tSign f o) := by
  intro ts t ts' he
  unfold tSign at he
  split at he
  · cases he
  · split at he
    · rename_i hr
      have h3 := h _ _ _ hr
      injection he with _ h2; subst h2; exact Nat.le_trans h3 (tail_le ts.toks)
    · cases he
theorem Shr.group {f : TS → TRes} (h : Shr f) : Shr (tGroup f) := by
  intro ts t ts' he
  unfold tGroup at he
  split at he
  · cases he
  · split at he
    · rename_i hr; split at he
      · have h3 := h _ _ _ hr
        injection he with _ h2; subst h2; exact Nat.le_trans (tail_le _) (Nat.le_trans h3 (tail_le ts.toks))
      · cases he
    · cases he
theorem Shr.signed {fS fE : TS → TRes} (hS : Shr fS) (hE : Shr fE) : Shr (tSigned fS fE) := by
  intro ts t ts' he
  unfold tSigned at he
  split at he
  · exact hS.sign 14 _ _ _ he
  split at he
  · exact hS.sign 15 _ _ _ he
  split at he
  · exact hE.group _ _ _ he
  split at he
  · injection he with _ h2; subst h2; exact next_le _
  split at he
  · injection he with _ h2; subst h2; exact next_le _
  split at he
  · injection he with _ h2; subst h2; exact next_le _
  split at he
  · injection he with _ h2; subst h2; exact next_le _
  split at he
  · injection he with _ h2; subst h2; exact next_le _
  · cases he
theorem shr_isNull : ShrT tIsNull := by
  intro l ts t ts' he
  unfold tIsNull at he
  split at he
  · split at he
    · injection he with _ h2; subst h2; exact Nat.le_trans (next_le _) (Nat.le_trans (next_le _) (next_le _))
    · cases he
  · split at he
    · injection he with _ h2; subst h2; exact Nat.le_trans (next_le _) (next_le _)
    · cases he
theorem shr_inLoop (l : Ast) : ∀ n xs ts t ts', tInLoop l n xs ts = .ok t ts' → ts'.toks.length ≤ ts.toks.length := by
  intro n
  induction n with
  | zero => intro xs ts t ts' he; rw [tInLoop] at he; cases he
  | succ n ih =>
    intro xs ts t ts' he
    rw [tInLoop] at he
    split at he
    · split at he
      · exact Nat.le_trans (ih _ _ _ _ he) (Nat.le_trans (next_le _) (next_le _))
      · cases he
    · split at he
      · injection he with _ h2; subst h2; exact next_le _
      · cases he
theorem shr_in : ShrT tInRes := by
  intro l ts t ts' he
  unfold tInRes at he
  split at he
  · split at he
    · exact Nat.le_trans (shr_inLoop l _ _ _ _ _ he) (Nat.le_trans (next_le _) (Nat.le_trans (next_le _) (next_le _)))
    · cases he
  · cases he
theorem shr_like : ShrT tLike := by
  intro l ts t ts' he
  unfold tLike at he
  split at he
  · split at he
    · split at he
      · injection he with _ h2; subst h2; exact Nat.le_trans (next_le _) (Nat.le_trans (next_le _) (Nat.le_trans (next_le _) (next_le _)))
      · cases he
    · injection he with _ h2; subst h2; exact Nat.le_trans (next_le _) (next_le _)
  · cases he
theorem Shr.between {f : TS → TRes} (h : Shr f) : ShrT (tBetween f) := by
  intro l ts t ts' he
  unfold tBetween at he
  split at he
  · split at he
    · rename_i h1; split at he
      · split at he
        · rename_i h2; injection he with _ h3; subst h3
          exact Nat.le_trans (h _ _ _ h2) (Nat.le_trans (next_le _) (Nat.le_trans (h _ _ _ h1) (next_le _)))
        · cases he
      · cases he
    · cases he
  · cases he
theorem Shr.keyword {f : TS → TRes} (h : Shr f) (bare : Bool) : ShrT (tKeyword f bare) := by
  intro l ts t ts' he
  unfold tKeyword at he
  split at he
  · exact shr_in _ _ _ _ he
  split at he
  · exact shr_like _ _ _ _ he
  · exact h.between _ _ _ _ he
theorem Shr.test {f : TS → TRes} (h : Shr f) : Shr (tTest f) := by
  intro ts t ts' he
  unfold tTest at he
  split at he
  · rename_i hr
    refine Nat.le_trans ?_ (h _ _ _ hr)
    unfold tTail at he
    split at he
    · exact Nat.le_trans (h.join _ _ _ _ he) (next_le _)
    split at he
    · split at he
      · exact shr_isNull _ _ _ _ he
      · injection he with _ h2; subst h2; exact Nat.le_refl _
    split at he
    · split at he
      · rename_i hk; injection he with _ h2; subst h2; exact Nat.le_trans (h.keyword _ _ _ _ _ hk) (next_le _)
      · cases he
    split at he
    · exact h.keyword _ _ _ _ _ he
    · injection he with _ h2; subst h2; exact Nat.le_refl _
  · cases he
theorem Shr.denied {fD fT : TS → TRes} (hD : Shr fD) (hT : Shr fT) : Shr (tDenied fD fT) := by
  intro ts t ts' he
  unfold tDenied at he
  split at he
  · exact hD.sign 5 _ _ _ he
  · exact hT _ _ _ he
end

section
theorem Str.tail_lt {s : ByteArray} {st : St} {L : List Tk} (h : Str s st L) (hk : st.tk.kind ≠ 0) : L.tail.length < L.length := by
  cases h with
  | nil h => rw [h] at hk; exact absurd rfl hk
  | cons _ _ => simp

theorem Sim.loop {s : ByteArray} {f : St → Res} {f' : TS → TRes} (h : Sim s f f') (hf' : Shr f') (ks : List Int) (hk0 : ks.contains 0 = false) : ∀ n n' l st ts, ts.toks.length < n → ts.toks.length < n' → Fine s st → Str s st ts.toks → st.op = ts.op → SimR s (rowLoop s f ks n l st) (tLoop f' ks n' (erase l) ts) := by
  intro n
  induction n with
  | zero => intro n' l st ts h1; omega
  | succ n ih =>
    intro n' l st ts h1 h2 hfi hs ho
    obtain ⟨m, rfl⟩ : ∃ m, n' = m + 1 := ⟨n' - 1, by omega⟩
    rw [rowLoop, tLoop, kind_eq hs]
    by_cases hc : ks.contains st.tk.kind = true
    · have hk : st.tk.kind ≠ 0 := fun e => by rw [e, hk0] at hc; cases hc
      rw [if_pos hc, if_pos hc]
      have hlen : ts.next.toks.length < ts.toks.length := hs.tail_lt hk
      rcases (h.join st ts l hfi hs ho hk).cases with ⟨t, st2, ts2, e1, e2, e3, e4, e5⟩ | ⟨en, pl, e1, e2⟩
      · have hl := hf'.join _ _ _ _ e2
        rw [e1, e2]
        exact ih m t st2 ts2 (by omega) (by omega) e5 e3 e4
      · rw [e1, e2]; rfl
    · rw [if_neg hc, if_neg hc]
      exact ⟨rfl, hs, ho, hfi⟩

theorem Sim.row {s : ByteArray} {f : St → Res} {f' : TS → TRes} (h : Sim s f f') (hf' : Shr f') (ks : List Int) (hk0 : ks.contains 0 = false) : Sim s (rowRes s f ks) (tRow f' ks) := by
  intro st ts hfi hs ho
  unfold rowRes tRow
  rcases (h st ts hfi hs ho).cases with ⟨t, st2, ts2, e1, e2, e3, e4, e5⟩ | ⟨en, pl, e1, e2⟩
  · rw [e1, e2]
    have hl := e3.len e5
    exact h.loop hf' ks hk0 _ _ t st2 ts2 (by omega) (by omega) e5 e3 e4
  · rw [e1, e2]; rfl

theorem Sim.sign {s : ByteArray} {f : St → Res} {f' : TS → TRes} (h : Sim s f f') (o : Int) (st : St) (ts : TS) (hfi : Fine s st) (hs : Str s st ts.toks) (ho : st.op = ts.op) (hk : st.tk.kind ≠ 0) : SimR s (signRes s f o st) (tSign f' o ts) := by
  unfold signRes tSign
  rw [ho]
  split
  · rfl
  · rcases (h (inSt s st) (tIn ts) (hfi.next.op _) ((hs.next hk).withOp _) (by show st.op + 1 = ts.op + 1; rw [ho])).cases with ⟨t, st2, ts2, e1, e2, e3, e4, e5⟩ | ⟨en, pl, e1, e2⟩
    · rw [e1, e2]; exact ⟨rfl, e3.withOp _, rfl, e5.op _⟩
    · rw [e1, e2]; rfl

theorem Sim.group {s : ByteArray} {f : St → Res} {f' : TS → TRes} (h : Sim s f f') (st : St) (ts : TS) (hfi : Fine s st) (hs : Str s st ts.toks) (ho : st.op = ts.op) (hk : st.tk.kind ≠ 0) : SimR s (groupRes s f st) (tGroup f' ts) := by
  unfold groupRes tGroup
  rw [ho]
  split
  · rfl
  · rcases (h (inSt s st) (tIn ts) (hfi.next.op _) ((hs.next hk).withOp _) (by show st.op + 1 = ts.op + 1; rw [ho])).cases with ⟨t, st2, ts2, e1, e2, e3, e4, e5⟩ | ⟨en, pl, e1, e2⟩
    · rw [e1, e2]
      show SimR s (if st2.tk.kind = 27 then _ else _) (if ts2.tk.kind = 27 then _ else _)
      rw [kind_eq e3]
      by_cases h27 : st2.tk.kind = 27
      · rw [if_pos h27, if_pos h27]
        exact ⟨rfl, (e3.next (by rw [h27]; decide)).withOp _, rfl, e5.next.op _⟩
      · rw [if_neg h27, if_neg h27]; rfl
    · rw [e1, e2]; rfl

theorem Sim.signed {s : ByteArray} {fS fE : St → Res} {fS' fE' : TS → TRes} (hS : Sim s fS fS') (hE : Sim s fE fE') : Sim s (signedRes s fS fE) (tSigned fS' fE') := by
  intro st ts hfi hs ho
  unfold signedRes tSigned
  rw [kind_eq hs]
  by_cases h22 : st.tk.kind = 22
  · rw [if_pos h22, if_pos h22]; exact hS.sign 14 st ts hfi hs ho (by rw [h22]; decide)
  rw [if_neg h22, if_neg h22]
  by_cases h23 : st.tk.kind = 23
  · rw [if_pos h23, if_pos h23]; exact hS.sign 15 st ts hfi hs ho (by rw [h23]; decide)
  rw [if_neg h23, if_neg h23]
  by_cases h26 : st.tk.kind = 26
  · rw [if_pos h26, if_pos h26]; exact hE.group st ts hfi hs ho (by rw [h26]; decide)
  rw [if_neg h26, if_neg h26]
  by_cases h2 : st.tk.kind = 2
  · rw [if_pos h2, if_pos h2]; exact ⟨rfl, hs.next (by rw [h2]; decide), ho, hfi.next⟩
  rw [if_neg h2, if_neg h2]
  by_cases h3 : st.tk.kind = 3
  · rw [if_pos h3, if_pos h3]; exact ⟨rfl, hs.next (by rw [h3]; decide), ho, hfi.next⟩
  rw [if_neg h3, if_neg h3]
  by_cases h4 : st.tk.kind = 4
  · rw [if_pos h4, if_pos h4]; exact ⟨rfl, hs.next (by rw [h4]; decide), ho, hfi.next⟩
  rw [if_neg h4, if_neg h4]
  by_cases h8 : st.tk.kind = 8
  · rw [if_pos h8, if_pos h8]; exact ⟨rfl, hs.next (by rw [h8]; decide), ho, hfi.next⟩
  rw [if_neg h8, if_neg h8]
  by_cases h9 : st.tk.kind = 9
  · rw [if_pos h9, if_pos h9]; exact ⟨rfl, hs.next (by rw [h9]; decide), ho, hfi.next⟩
  rw [if_neg h9, if_neg h9]
  rfl

theorem Sim.denied {s : ByteArray} {fD fT : St → Res} {fD' fT' : TS → TRes} (hD : Sim s fD fD') (hT : Sim s fT fT') : Sim s (deniedRes s fD fT) (tDenied fD' fT') := by
  intro st ts hfi hs ho
  unfold deniedRes tDenied
  rw [kind_eq hs]
  by_cases h7 : st.tk.kind = 7
  · rw [if_pos h7, if_pos h7]; exact hD.sign 5 st ts hfi hs ho (by rw [h7]; decide)
  · rw [if_neg h7, if_neg h7]; exact hT st ts hfi hs ho
end

section
def SimT (s : ByteArray) (k : Int) (g : Ast → St → Res) (g' : Ast → TS → TRes) : Prop := ∀ l st ts, Fine s st → Str s st ts.toks → st.op = ts.op → st.tk.kind = k → SimR s (g l st) (g' (erase l) ts)

/-- One token on. -/
theorem go1 {s : ByteArray} {st : St} {ts : TS} (hfi : Fine s st) (hs : Str s st ts.toks) (ho : st.op = ts.op) (hk : st.tk.kind ≠ 0) : Fine s (stepSt s st) ∧ Str s (stepSt s st) ts.next.toks ∧ (stepSt s st).op = ts.next.op := ⟨hfi.next, hs.next hk, ho⟩

theorem sim_isNull (s : ByteArray) : SimT s 14 (isNullRes s) tIsNull := by
  intro l st ts hfi hs ho hk
  obtain ⟨f1, s1, o1⟩ := go1 hfi hs ho (by rw [hk]; decide)
  unfold isNullRes tIsNull
  rw [kind_eq s1]
  by_cases h7 : (stepSt s st).tk.kind = 7
  · rw [if_pos h7, if_pos h7]
    obtain ⟨f2, s2, o2⟩ := go1 f1 s1 o1 (by rw [h7]; decide)
    rw [kind_eq s2]
    by_cases h15 : (stepSt s (stepSt s st)).tk.kind = 15
    · rw [if_pos h15, if_pos h15]
      obtain ⟨f3, s3, o3⟩ := go1 f2 s2 o2 (by rw [h15]; decide)
      exact ⟨rfl, s3, o3, f3⟩
    · rw [if_neg h15, if_neg h15]; rfl
  · rw [if_neg h7, if_neg h7]
    by_cases h15 : (stepSt s st).tk.kind = 15
    · rw [if_pos h15, if_pos h15]
      obtain ⟨f2, s2, o2⟩ := go1 f1 s1 o1 (by rw [h15]; decide)
      exact ⟨rfl, s2, o2, f2⟩
    · rw [if_neg h15, if_neg h15]; rfl

theorem Sim.between {s : ByteArray} {f : St → Res} {f' : TS → TRes} (h : Sim s f f') : ∀ l st ts, Fine s st → Str s st ts.toks → st.op = ts.op → SimR s (betweenRes s f l st) (tBetween f' (erase l) ts) := by
  intro l st ts hfi hs ho
  unfold betweenRes tBetween
  rw [kind_eq hs]
  by_cases h10 : st.tk.kind = 10
  · rw [if_pos h10, if_pos h10]
    obtain ⟨f1, s1, o1⟩ := go1 hfi hs ho (by rw [h10]; decide)
    rcases (h _ _ f1 s1 o1).cases with ⟨t, st2, ts2, e1, e2, e3, e4, e5⟩ | ⟨en, pl, e1, e2⟩
    · rw [e1, e2]
      show SimR s (if st2.tk.kind = 5 then _ else _) (if ts2.tk.kind = 5 then _ else _)
      rw [kind_eq e3]
      by_cases h5 : st2.tk.kind = 5
      · rw [if_pos h5, if_pos h5]
        obtain ⟨f3, s3, o3⟩ := go1 e5 e3 e4 (by rw [h5]; decide)
        rcases (h _ _ f3 s3 o3).cases with ⟨t3, st3, ts3, g1, g2, g3, g4, g5⟩ | ⟨en, pl, g1, g2⟩
        · rw [g1, g2]; exact ⟨rfl, g3, g4, g5⟩
        · rw [g1, g2]; rfl
      · rw [if_neg h5, if_neg h5]; rfl
    · rw [e1, e2]; rfl
  · rw [if_neg h10, if_neg h10]; rfl

theorem sim_inLoop (s : ByteArray) (l : Ast) (pl : Nat) : ∀ n n' xs st ts, ts.toks.length < n → ts.toks.length < n' → Fine s st → Str s st ts.toks → st.op = ts.op → SimR s (inLoop s l pl n xs st) (tInLoop (erase l) n' xs ts) := by
  intro n
  induction n with
  | zero => intro n' xs st ts h1; omega
  | succ n ih =>
    intro n' xs st ts h1 h2 hfi hs ho
    obtain ⟨m, rfl⟩ : ∃ m, n' = m + 1 := ⟨n' - 1, by omega⟩
    rw [inLoop, tInLoop, kind_eq hs]
    by_cases h28 : st.tk.kind = 28
    · rw [if_pos h28, if_pos h28]
      have hk : st.tk.kind ≠ 0 := by rw [h28]; decide
      obtain ⟨f1, s1, o1⟩ := go1 hfi hs ho hk
      have t1 : ts.next.toks.length < ts.toks.length := hs.tail_lt hk
      rw [kind_eq s1]
      by_cases h4 : (stepSt s st).tk.kind = 4
      · rw [if_pos h4, if_pos h4]
        obtain ⟨f2, s2, o2⟩ := go1 f1 s1 o1 (by rw [h4]; decide)
        have t2 := next_le ts.next
        exact ih m _ _ _ (by omega) (by omega) f2 s2 o2
      · rw [if_neg h4, if_neg h4]; rfl
    · rw [if_neg h28, if_neg h28]
      by_cases h27 : st.tk.kind = 27
      · rw [if_pos h27, if_pos h27]
        obtain ⟨f1, s1, o1⟩ := go1 hfi hs ho (by rw [h27]; decide)
        exact ⟨rfl, s1, o1, f1⟩
      · rw [if_neg h27, if_neg h27]; rfl

theorem sim_in (s : ByteArray) : SimT s 11 (inRes s) tInRes := by
  intro l st ts hfi hs ho hk
  obtain ⟨f1, s1, o1⟩ := go1 hfi hs ho (by rw [hk]; decide)
  unfold inRes tInRes
  rw [kind_eq s1]
  by_cases h26 : (stepSt s st).tk.kind = 26
  · rw [if_pos h26, if_pos h26]
    obtain ⟨f2, s2, o2⟩ := go1 f1 s1 o1 (by rw [h26]; decide)
    rw [kind_eq s2]
    by_cases h4 : (stepSt s (stepSt s st)).tk.kind = 4
    · rw [if_pos h4, if_pos h4]
      obtain ⟨f3, s3, o3⟩ := go1 f2 s2 o2 (by rw [h4]; decide)
      have hl := s3.len f3
      have l1 := next_le ts
      have l2 := next_le ts.next
      have l3 := next_le ts.next.next
      exact sim_inLoop s l st.place _ _ _ _ _ (by omega) (by omega) f3 s3 o3
    · rw [if_neg h4, if_neg h4]; rfl
  · rw [if_neg h26, if_neg h26]; rfl

theorem sim_like (s : ByteArray) : SimT s 12 (likeRes s) tLike := by
  intro l st ts hfi hs ho hk
  obtain ⟨f1, s1, o1⟩ := go1 hfi hs ho (by rw [hk]; decide)
  unfold likeRes tLike
  rw [kind_eq s1]
  by_cases h4 : (stepSt s st).tk.kind = 4
  · rw [if_pos h4, if_pos h4]
    obtain ⟨f2, s2, o2⟩ := go1 f1 s1 o1 (by rw [h4]; decide)
    rw [kind_eq s2]
    by_cases h13 : (stepSt s (stepSt s st)).tk.kind = 13
    · rw [if_pos h13, if_pos h13]
      obtain ⟨f3, s3, o3⟩ := go1 f2 s2 o2 (by rw [h13]; decide)
      rw [kind_eq s3]
      unfold escRes
      by_cases g4 : (stepSt s (stepSt s (stepSt s st))).tk.kind = 4
      · rw [if_pos g4]
        by_cases g1 : (stepSt s (stepSt s (stepSt s st))).tk.str.length = 1
        · rw [if_pos g1]
          by_cases g2 : (cutL (stepSt s (stepSt s (stepSt s st))).tk.str (stepSt s st).tk.str).isSome = true
          · rw [if_pos g2, if_pos ⟨g4, g1, g2⟩]
            obtain ⟨f4, s4, o4⟩ := go1 f3 s3 o3 (by rw [g4]; decide)
            exact ⟨rfl, s4, o4, f4⟩
          · rw [if_neg g2, if_neg (fun h => g2 h.2.2)]; rfl
        · rw [if_neg g1, if_neg (fun h => g1 h.2.1)]; rfl
      · rw [if_neg g4, if_neg (fun h => g4 h.1)]; rfl
    · rw [if_neg h13, if_neg h13]
      exact ⟨rfl, s2, o2, f2⟩
  · rw [if_neg h4, if_neg h4]; rfl

theorem Sim.keyword {s : ByteArray} {f : St → Res} {f' : TS → TRes} (h : Sim s f f') (bare : Bool) (l : Ast) (st : St) (ts : TS) (hfi : Fine s st) (hs : Str s st ts.toks) (ho : st.op = ts.op) : SimR s (keywordRes s f (inRes s) (likeRes s) bare l st) (tKeyword f' bare (erase l) ts) := by
  unfold keywordRes tKeyword
  rw [kind_eq hs]
  by_cases h11 : st.tk.kind = 11 ∧ bare = true
  · rw [if_pos h11, if_pos h11]; exact sim_in s l st ts hfi hs ho h11.1
  rw [if_neg h11, if_neg h11]
  by_cases h12 : st.tk.kind = 12 ∧ bare = true
  · rw [if_pos h12, if_pos h12]; exact sim_like s l st ts hfi hs ho h12.1
  rw [if_neg h12, if_neg h12]
  exact h.between l st ts hfi hs ho

theorem Sim.tail {s : ByteArray} {f : St → Res} {f' : TS → TRes} (h : Sim s f f') (bare : Bool) (l : Ast) (st : St) (ts : TS) (hfi : Fine s st) (hs : Str s st ts.toks) (ho : st.op = ts.op) : SimR s (tailRes s f (inRes s) (likeRes s) bare l st) (tTail f' bare (erase l) ts) := by
  unfold tailRes tTail
  rw [kind_eq hs]
  by_cases h16 : st.tk.kind = 16 ∨ st.tk.kind = 17 ∨ st.tk.kind = 18 ∨ st.tk.kind = 19 ∨ st.tk.kind = 20 ∨ st.tk.kind = 21
  · rw [if_pos h16, if_pos h16]; exact h.join st ts l hfi hs ho (by omega)
  rw [if_neg h16, if_neg h16]
  by_cases h14 : st.tk.kind = 14
  · rw [if_pos h14, if_pos h14]
    cases bare
    · exact ⟨rfl, hs, ho, hfi⟩
    · exact sim_isNull s l st ts hfi hs ho h14
  rw [if_neg h14, if_neg h14]
  by_cases h7 : st.tk.kind = 7
  · rw [if_pos h7, if_pos h7]
    obtain ⟨f1, s1, o1⟩ := go1 hfi hs ho (by rw [h7]; decide)
    rcases (h.keyword bare l _ _ f1 s1 o1).cases with ⟨t, st2, ts2, e1, e2, e3, e4, e5⟩ | ⟨en, pl, e1, e2⟩
    · rw [e1, e2]; exact ⟨rfl, e3, e4, e5⟩
    · rw [e1, e2]; rfl
  rw [if_neg h7, if_neg h7]
  by_cases h10 : st.tk.kind = 10 ∨ st.tk.kind = 11 ∨ st.tk.kind = 12
  · rw [if_pos h10, if_pos h10]; exact h.keyword bare l st ts hfi hs ho
  · rw [if_neg h10, if_neg h10]; exact ⟨rfl, hs, ho, hfi⟩

theorem Sim.test {s : ByteArray} {f : St → Res} {f' : TS → TRes} (h : Sim s f f') : Sim s (testRes s f (inRes s) (likeRes s)) (tTest f') := by
  intro st ts hfi hs ho
  unfold testRes tTest
  rcases (h st ts hfi hs ho).cases with ⟨t, st2, ts2, e1, e2, e3, e4, e5⟩ | ⟨en, pl, e1, e2⟩
  · rw [e1, e2]
    show SimR s (tailRes s f (inRes s) (likeRes s) (bareB st t) t st2) (tTail f' (ts.tk.kind == 2 && opA (erase t) == 0) (erase t) ts2)
    rw [kind_eq hs, opA_erase]
    exact h.tail _ t st2 ts2 e5 e3 e4
  · rw [e1, e2]; rfl

structure Sim3 (s : ByteArray) (L : L3) (L' : T3) : Prop where
  S : Sim s L.S L'.S
  D : Sim s L.D L'.D
  E : Sim s L.E L'.E
  s' : Shr L'.S
  d' : Shr L'.D
  e' : Shr L'.E

theorem sim_up {s : ByteArray} {L : L3} {L' : T3} (h : Sim3 s L L') : Sim3 s (up3 s L) (tUp L') := by
  have hS := Sim.signed h.S h.E
  have zS := Shr.signed h.s' h.e'
  have hP := hS.row zS [24, 25] rfl
  have zP := zS.row [24, 25]
  have hU := hP.row zP [22, 23] rfl
  have zU := zP.row [22, 23]
  have hT := hU.test
  have zT := zU.test
  have hD := Sim.denied h.D hT
  have zD := Shr.denied h.d' zT
  have hB := hD.row zD [5] rfl
  have zB := zD.row [5]
  exact ⟨hS, hD, hB.row zB [6] rfl, zS, zD, zB.row [6]⟩

theorem sim_lvl (s : ByteArray) : ∀ d, Sim3 s (lvl s d) (tLvl d) := by
  intro d
  induction d with
  | zero => exact sim_up ⟨(fun _ _ _ _ _ => rfl), (fun _ _ _ _ _ => rfl), (fun _ _ _ _ _ => rfl), (fun _ _ _ h => by cases h), (fun _ _ _ h => by cases h), (fun _ _ _ h => by cases h)⟩
  | succ d ih => exact sim_up ih
end

section
/-- The tokens of bytes. -/
inductive Lx : List UInt8 → List Tk → Prop where
  | nil {r : List UInt8} (h : nextTk r 0 = plainTk 0) : Lx r []
  | cons {r : List UInt8} {k : Tk} {L : List Tk} (e : nextTk r 0 = k) (h : k.kind ≠ 0) (t : Lx (r.drop (nextTo r 0)) L) : Lx r (k :: L)

theorem nextAt_drop (l : List UInt8) (k : Nat) : nextAt l k = k + nextAt (l.drop k) 0 := by
  unfold nextAt; rw [List.drop_zero, Nat.zero_add]
theorem nextTk_drop (l : List UInt8) (k : Nat) : nextTk l k = nextTk (l.drop k) 0 := by
  unfold nextTk
  rw [nextAt_drop l k, ← List.drop_drop, List.length_drop]
  by_cases h : k + nextAt (l.drop k) 0 < l.length
  · rw [if_pos h, if_pos (by omega)]
  · rw [if_neg h, if_neg (by omega)]
theorem nextTo_drop (l : List UInt8) (k : Nat) (hk : k ≤ l.length) : nextTo l k = k + nextTo (l.drop k) 0 := by
  unfold nextTo
  rw [nextAt_drop l k, ← List.drop_drop, List.length_drop]
  by_cases h : k + nextAt (l.drop k) 0 < l.length
  · rw [if_pos h, if_pos (by omega)]; omega
  · rw [if_neg h, if_neg (by omega)]; omega

theorem str_of_lx {s : ByteArray} {r : List UInt8} {L : List Tk} (h : Lx r L) : ∀ st : St, st.after ≤ s.size → s.data.toList.drop st.after = r → Str s (stepSt s st) L := by
  induction h with
  | nil h =>
    intro st _ hr
    refine .nil ?_
    show nextTk s.data.toList st.after = _
    rw [nextTk_drop, hr, h]
  | cons e h t ih =>
    intro st ha hr
    rename_i r k L
    have hk : (stepSt s st).tk = k := by
      show nextTk s.data.toList st.after = _
      rw [nextTk_drop, hr, e]
    rw [← hk]
    refine .cons (by rw [hk]; exact h) (ih _ (stepSt_fine s st ha).after ?_)
    show s.data.toList.drop (nextTo s.data.toList st.after) = _
    rw [nextTo_drop _ _ (by rw [data_len]; exact ha), ← List.drop_drop, hr]

/-- Classes know no places, but for faults. -/
inductive CRel : CRes → CRes → Prop where
  | ok (c : Int) : CRel (.ok c) (.ok c)
  | err (p q : Int) : CRel (.err p) (.err q)

inductive CRels : List CRes → List CRes → Prop where
  | nil : CRels [] []
  | cons {a b : CRes} {r r' : List CRes} (h : CRel a b) (t : CRels r r') : CRels (a :: r) (b :: r')

theorem dem_rel (want p q : Int) : ∀ rs rs' : List CRes, CRels rs rs' → ∀ fit, (dem want p rs fit).isNone = (dem want q rs' fit).isNone := by
  intro rs rs' h
  induction h with
  | nil => intro fit; cases fit <;> rfl
  | cons h _ ih =>
    intro fit
    cases h with
    | ok c => exact ih _
    | err a b => rfl
theorem demR_rel (want p q c : Int) {rs rs' : List CRes} (h : CRels rs rs') : CRel (demR want p c rs) (demR want q c rs') := by
  have := dem_rel want p q rs rs' h true
  unfold demR
  cases h1 : dem want p rs true <;> cases h2 : dem want q rs' true <;> rw [h1, h2] at this
  · exact .ok _
  · cases this
  · cases this
  · exact .err _ _
theorem alike_rel (p q : Int) {a a' b b' : CRes} (ha : CRel a a') (hb : CRel b b') : CRel (alikeR p a b) (alikeR q a' b') := by
  cases ha with
  | err x y => exact .err _ _
  | ok c =>
    cases hb with
    | err x y => exact .err _ _
    | ok d =>
      show CRel (if (c != d && c != 0 && d != 0) = true then CRes.err p else CRes.ok 3) (if (c != d && c != 0 && d != 0) = true then CRes.err q else CRes.ok 3)
      by_cases h : (c != d && c != 0 && d != 0) = true
      · rw [if_pos h, if_pos h]; exact .err _ _
      · rw [if_neg h, if_neg h]; exact .ok _
theorem clsOf_rel (op p q : Int) {rs rs' : List CRes} (h : CRels rs rs') : CRel (clsOf op p rs) (clsOf op q rs') := by
  unfold clsOf
  by_cases c0 : (op == 0) = true
  · rw [if_pos c0, if_pos c0]; exact .ok _
  rw [if_neg c0, if_neg c0]
  by_cases c1 : (op == 1) = true
  · rw [if_pos c1, if_pos c1]; exact .ok _
  rw [if_neg c1, if_neg c1]
  by_cases c2 : (op == 2) = true
  · rw [if_pos c2, if_pos c2]; exact .ok _
  rw [if_neg c2, if_neg c2]
  by_cases c3 : (op == 5 || op == 6 || op == 7) = true
  · rw [if_pos c3, if_pos c3]; exact demR_rel _ _ _ _ h
  rw [if_neg c3, if_neg c3]
  by_cases c4 : (op == 10 || op == 11 || op == 12 || op == 13 || op == 20) = true
  · rw [if_pos c4, if_pos c4]; exact demR_rel _ _ _ _ h
  rw [if_neg c4, if_neg c4]
  by_cases c5 : (op == 14 || op == 15 || op == 16 || op == 17 || op == 18 || op == 19) = true
  · rw [if_pos c5, if_pos c5]; exact demR_rel _ _ _ _ h
  rw [if_neg c5, if_neg c5]
  by_cases c6 : (op == 8 || op == 9) = true
  · rw [if_pos c6, if_pos c6]
    cases h with
    | nil => exact .ok _
    | cons ha t1 =>
      cases t1 with
      | nil => exact .ok _
      | cons hb t2 =>
        cases t2 with
        | nil => exact alike_rel p q ha hb
        | cons _ _ => exact .ok _
  rw [if_neg c6, if_neg c6]
  exact .ok _

theorem cls_erase (t : Ast) : CRel (clsA t) (clsA (erase t)) := by
  induction t with
  | leaf p => exact clsOf_rel _ _ _ .nil
  | un p x ih => exact clsOf_rel _ _ _ (.cons ih .nil)
  | bin p x y ihx ihy => exact clsOf_rel _ _ _ (.cons ihx (.cons ihy .nil))
  | tri p x y z ihx ihy ihz => exact clsOf_rel _ _ _ (.cons ihx (.cons ihy (.cons ihz .nil)))

theorem chk_erase {t : Ast} (h : chkR (clsA (erase t)) = none) : chkR (clsA t) = none := by
  have hr := cls_erase t
  cases h1 : clsA t with
  | ok c =>
    rw [h1] at hr
    cases h2 : clsA (erase t) with
    | ok d => rw [h2] at hr h; cases hr; exact h
    | err q => rw [h2] at hr; cases hr
  | err p =>
    rw [h1] at hr
    cases h2 : clsA (erase t) with
    | ok d => rw [h2] at hr; cases hr
    | err q => rw [h2] at h; cases h

theorem of_erase (ps : List Pr) (t : Ast) : ofA ps (erase t) = ofA ps t := by
  induction t with
  | leaf p => rfl
  | un p x ih => show ofN ps (noPl p) [ofA ps (erase x)] = _; rw [ih]; rfl
  | bin p x y ihx ihy => show ofN ps (noPl p) [ofA ps (erase x), ofA ps (erase y)] = _; rw [ihx, ihy]; rfl
  | tri p x y z ihx ihy ihz => show ofN ps (noPl p) [ofA ps (erase x), ofA ps (erase y), ofA ps (erase z)] = _; rw [ihx, ihy, ihz]; rfl

/-- A text of these tokens is the selector that reading them gives, places aside. -/
theorem read_of_tokens (s : ByteArray) (hs : s.size ≤ 200) (L : List Tk) (hL : Lx s.data.toList L) (t' : Ast) (h : (tLvl 12).E ⟨L, 0⟩ = .ok t' ⟨[], 0⟩) (hc : chkR (clsA t') = none) :
    ∃ t, readR s = .ok t ∧ erase t = t' ∧ NumA t ∧ BndA t := by
  have hst : Str s (stepSt s st0) L := str_of_lx hL st0 (Nat.zero_le _) (List.drop_zero)
  have hfi := stepSt_fine s st0 (Nat.zero_le _)
  have hsim := (sim_lvl s 12).E (stepSt s st0) ⟨L, 0⟩ hfi hst rfl
  rcases hsim.cases with ⟨t, st, ts, e1, e2, e3, e4, e5⟩ | ⟨en, pl, e1, e2⟩
  · rw [h] at e2
    injection e2 with g1 g2
    subst g2
    have hk : st.tk.kind = 0 := by
      cases e3 with
      | nil h => rw [h]; rfl
    refine ⟨t, ?_, g1.symm, ((lvl_num s 12).E _ _ _ (stepSt_tk s st0) e1).1, ((lvl_bnd s hs 12).E _ _ _ (stepSt_ln hs st0) e1).1⟩
    rw [readR, if_pos hs, e1]
    show endR t st = _
    rw [endR, if_pos hk, chk_erase (by rw [← g1]; exact hc)]
  · rw [h] at e2; cases e2
end

end Go.Proofs.YtfkcaldjphakpaaGreatDoor
