/- from: the ends that one more piece can reach. The reader of programs: its state in memory; fail, take, next, upTo. The reader of programs: number. The reader of programs: text. The reader of programs: term. Programs in memory: the row of terms and the row of roots, as they grow. What is true of bytes that are a program: places lie below, numbers and texts are small. What program.Read keeps in memory while it reads. -/
import Derived.Test.YtfkcaldjphakpabGreatDoorN11
import Derived.Test.YtfkcaldjphakpabGreatDoorN12
import Derived.Deep.QuietTactic
import Derived.BigQuiet
import Derived.Deep.OwnRows
import Derived.Deep.RegionHeld3
import Derived.Test.YtfkcaldjphakpabGreatDoorN04
import Derived.Test.YtfkcaldjphakpabGreatDoorN26
import Derived.Test.YtfkcaldjphakpabGreatDoorN08
import Derived.Deep.AppendLies
namespace Go.Proofs.YtfkcaldjphakpabGreatDoor
open Go.RowKit

section
/-- Bools lie in a row. -/
def BoolsAt (w : World) (b n : Nat) (e : Nat → Bool) : Prop := ∀ j, j ≤ n → w.cell? ⟨b, j, none⟩ = some (.bool (e j))

/-- What the row of next holds behind k rounds. -/
def nextRow (p : Pc) (t : List UInt8) (e : Nat → Bool) (k : Nat) : Nat → Value := fun j => .bool (if j ≤ k then nextB p t e j else false)

structure FromAt (w W : World) (p : Pc) (t : ByteArray) (e : Nat → Bool) (m k : Nat) : Prop where
  row : W.rowIs (w.heap.size + 1) 4 m (nextRow p t.data.toList e k)
  c0 : W.cell? ⟨w.heap.size, 0, none⟩ = some (.int .i64 p.kind)
  c1 : W.cell? ⟨w.heap.size, 1, none⟩ = some (.int .u8 p.c.toNat)
  lt : w.heap.size + 1 < W.heap.size
  below : Below w.heap.size w W

theorem FromAt.drew {w W : World} {p : Pc} {t : ByteArray} {e : Nat → Bool} {m k : Nat} (h : FromAt w W p t e m k) : FromAt w W.drew p t e m k := ⟨h.row.drew, h.c0, h.c1, h.lt, h.below.drew⟩

theorem FromAt.step {w W : World} {p : Pc} {t : ByteArray} {e : Nat → Bool} {m k : Nat} (h : FromAt w W p t e m k) (v : Bool) (hv : nextB p t.data.toList e (k + 1) = v) : FromAt w (W.setCell ⟨w.heap.size + 1, k + 1, none⟩ (.bool v)) p t e m (k + 1) := by
  refine ⟨(h.row.set (k + 1) (.bool v)).congr fun i _ => ?_, ?_, ?_, by simpa using h.lt, h.below.setCell (by show w.heap.size ≤ w.heap.size + 1; omega) _⟩
  · unfold nextRow
    by_cases hi : i = k + 1
    · subst hi; simp [hv]
    · rw [if_neg hi]
      by_cases hl : i ≤ k
      · rw [if_pos hl, if_pos (by omega)]
      · rw [if_neg hl, if_neg (by omega)]
  · simp [go_sem, h.c0]
  · simp [go_sem, h.c1]
end

section
/-- The reader of a program: the bytes that are left, and whether a fault was found. -/
structure Ps where
  rest : List UInt8
  bad : Bool

/-- A row of bytes in memory, in a block below lo. -/
def BytesAt (w : World) (lo : Nat) (v : Value) (l : List UInt8) : Prop :=
  ∃ a c, v = .slice a l.length c ∧ l.length ≤ c ∧ ∀ (i : Nat) (x : UInt8), l[i]? = some x → ∃ b o, a = some ⟨b, o, none⟩ ∧ b < lo ∧ w.cell? ⟨b, o + i, none⟩ = some (.int .u8 (x.toNat : Int))

theorem BytesAt.kept {w w' : World} {rb : Nat} {v : Value} {l : List UInt8} (h : BytesAt w rb v l) (hl : rb < w.heap.size) (hk : Kept rb w w') : BytesAt w' rb v l := by
  obtain ⟨a, c, hv, hc, hx⟩ := h
  refine ⟨a, c, hv, hc, fun i x hi => ?_⟩
  obtain ⟨b, o, ha, hb, hcell⟩ := hx i x hi
  exact ⟨b, o, ha, hb, ((kcell hk).1 b (o + i) (by omega) (by omega)).trans hcell⟩

theorem BytesAt.mono {w : World} {lo hi : Nat} {v : Value} {l : List UInt8} (h : BytesAt w lo v l) (hl : lo ≤ hi) : BytesAt w hi v l := by
  obtain ⟨a, c, hv, hc, hx⟩ := h
  refine ⟨a, c, hv, hc, fun i x hi => ?_⟩
  obtain ⟨b, o, ha, hb, hcell⟩ := hx i x hi
  exact ⟨b, o, ha, by omega, hcell⟩

theorem BytesAt.over {w : World} {rb : Nat} {a : Option Addr} {c m : Nat} {l : List UInt8} (h : BytesAt w rb (.slice a m c) l) (n : Nat) (hn : n ≤ l.length) : BytesAt w rb (.slice (if c = n then a else a.map (fun x => x.add n)) (m - n) (c - n)) (l.drop n) := by
  obtain ⟨a', c', hv, hc, hx⟩ := h
  simp at hv
  obtain ⟨rfl, rfl, rfl⟩ := hv
  refine ⟨if c = n then a else a.map (fun x => x.add n), c - n, ?_, ?_, fun i x hi => ?_⟩
  · rw [List.length_drop]
  · rw [List.length_drop]; omega
  · have hi' : l[n + i]? = some x := by rw [List.getElem?_drop] at hi; exact hi
    have hlt := (List.getElem?_eq_some_iff.1 hi').1
    obtain ⟨b, o, rfl, hb, hcell⟩ := hx (n + i) x hi'
    refine ⟨b, o + n, ?_, hb, ?_⟩
    · rw [if_neg (by omega)]; simp [Addr.add]
    · rw [Nat.add_assoc]; exact hcell

/-- The reader lies in a block of its own. -/
structure PsAt (w : World) (rb : Nat) (s : Ps) : Prop where
  lt : rb < w.heap.size
  c0 : ∃ v, w.cell? ⟨rb, 0, none⟩ = some v ∧ BytesAt w rb v s.rest
  c1 : w.cell? ⟨rb, 1, none⟩ = some (.bool s.bad)
  fz : ∀ j, w.frozen? ⟨rb, j, none⟩ = false

theorem BytesAt.nil (w : World) (rb : Nat) : BytesAt w rb (.slice none 0 0) [] := ⟨none, 0, rfl, Nat.le_refl _, fun i x hi => by simp at hi⟩

def failS : Ps := ⟨[], true⟩
def Ps.take (s : Ps) (n : Nat) : List UInt8 × Ps := if n ≤ s.rest.length then (s.rest.take n, ⟨s.rest.drop n, s.bad⟩) else (List.replicate n 0, failS)
def Ps.next (s : Ps) : UInt8 × Ps := ((s.take 1).1.headD 0, (s.take 1).2)
def Ps.upTo (s : Ps) (most : Int) : Nat × Ps := if most < (s.next.1.toNat : Int) then (0, failS) else (s.next.1.toNat, s.next.2)

/-- Another world in which the reader's block and all below it are as they were. -/
theorem PsAt.same {w w' : World} {rb : Nat} {s : Ps} (h : PsAt w rb s) (hz : rb < w'.heap.size) (hb : ∀ k, k ≤ rb → w'.heap[k]? = w.heap[k]?) : PsAt w' rb s := by
  obtain ⟨hl, ⟨v0, c0, a, c, rfl, hc, hx⟩, c1, fz⟩ := h
  have hc' : ∀ b j, b ≤ rb → w'.cell? ⟨b, j, none⟩ = w.cell? ⟨b, j, none⟩ := fun b j hk => World.cell?_of_block (w := w) (w' := w') (a := ⟨b, j, none⟩) (hb b hk)
  have hf' : ∀ b j, b ≤ rb → w'.frozen? ⟨b, j, none⟩ = w.frozen? ⟨b, j, none⟩ := fun b j hk => World.frozen?_of_block (w := w) (w' := w') (a := ⟨b, j, none⟩) (hb b hk)
  refine ⟨hz, ⟨_, (hc' rb 0 (Nat.le_refl _)).trans c0, a, c, rfl, hc, fun i x hi => ?_⟩, (hc' rb 1 (Nat.le_refl _)).trans c1, fun j => (hf' rb j (Nat.le_refl _)).trans (fz j)⟩
  obtain ⟨b, o, ha, hbl, hcell⟩ := hx i x hi
  exact ⟨b, o, ha, hbl, (hc' b _ (by omega)).trans hcell⟩
theorem PsAt.alloc {w : World} {rb : Nat} {s : Ps} (h : PsAt w rb s) (o : Obj) : PsAt (w.alloc o) rb s :=
  h.same (by have := h.lt; simp; omega) fun k hk => ((Below.refl w.heap.size w).alloc (Nat.le_refl _) o).block k (by have := h.lt; omega)
theorem PsAt.later {w : World} {rb : Nat} {s : Ps} (h : PsAt w rb s) {p : Addr} (hp : rb < p.block) (u : Value) : PsAt (w.setCell p u) rb s :=
  h.same (by have := h.lt; simp; omega) fun k hk => Below.heap_setCell w p u k (by omega)

theorem PsAt.set {w : World} {rb : Nat} {s : Ps} (h : PsAt w rb s) {v : Value} {l : List UInt8} (hv : BytesAt w rb v l) : PsAt (w.setCell ⟨rb, 0, none⟩ v) rb ⟨l, s.bad⟩ := by
  obtain ⟨hl, ⟨v0, c0, _⟩, c1, fz⟩ := h
  exact ⟨by simp; exact hl, ⟨v, by simp [go_sem, c0], hv.kept hl ((Kept.refl rb w).setCell 0 v)⟩, by simp [go_sem, c1], fun j => by simp [go_sem, fz]⟩

theorem info_byte : (Tryz.prog.info? 5).map (fun i => (i.zero, i.size, i.bytes)) = some (some (.int .u8 0), 1, 1) := by kernel_rfl

theorem Ps.take_length (s : Ps) (n : Nat) : (s.take n).1.length = n := by
  rw [Ps.take]
  split
  · rw [List.length_take]; omega
  · exact List.length_replicate ..
end

section
def numS (m : Int) (k : Nat) (x : UInt8) : Int := bits .or .i64 m (wrap64 ((x.toNat : Int) * 2 ^ (8 * k)))
/-- The number that the first k of eight bytes are. -/
def numK (l : List UInt8) : Nat → Int
  | 0 => 0
  | k + 1 => numS (numK l k) k (l.getD k 0)
end

section
def Ps.number (s : Ps) : Int × Ps := (numK (s.take 8).1 8, (s.take 8).2)
def Ps.text (s : Ps) (most : Int) : List UInt8 × Ps := (s.upTo most).2.take (s.upTo most).1
end

section
structure Tm where
  op : Nat
  left : Nat
  right : Nat
  num : Int
  str : List UInt8
  esc : List UInt8

def Tm.bare (op : Nat) : Tm := ⟨op, 0, 0, 0, [], []⟩
def tmCells (t : Tm) : List Value := [.int .i64 t.op, .int .i64 t.left, .int .i64 t.right, .int .i64 t.num, .string (BS t.str), .string (BS t.esc)]
def tmV (t : Tm) : Value := .agg #[.int .i64 t.op, .int .i64 t.left, .int .i64 t.right, .int .i64 t.num, .string (BS t.str), .string (BS t.esc)]

def isPair (op : Nat) : Bool := op == 6 || op == 7 || op == 8 || op == 10 || op == 11 || op == 16 || op == 17 || op == 18 || op == 19

/-- The rest of a term, when its operator is known. -/
def Ps.body (s : Ps) (pl : Nat) (op : Nat) : Tm × Ps :=
  if op = 3 ∨ op = 4 then (.bare op, s)
  else if op = 1 then (⟨op, 0, 0, s.number.1, [], []⟩, s.number.2)
  else if op = 22 then (⟨op, (s.upTo ((pl : Int) - 1)).1, 0, 0, (((s.upTo ((pl : Int) - 1)).2.text 1).2.text 200).1, ((s.upTo ((pl : Int) - 1)).2.text 1).1⟩, (((s.upTo ((pl : Int) - 1)).2.text 1).2.text 200).2)
  else if op = 0 ∨ op = 2 then (⟨op, 0, 0, 0, (s.text 200).1, []⟩, (s.text 200).2)
  else if isPair op then (⟨op, ((s.upTo ((pl : Int) - 1)).2.upTo ((pl : Int) - 1)).1, (s.upTo ((pl : Int) - 1)).1, 0, [], []⟩, ((s.upTo ((pl : Int) - 1)).2.upTo ((pl : Int) - 1)).2)
  else if op = 5 ∨ op = 23 then (⟨op, (s.upTo ((pl : Int) - 1)).1, 0, 0, [], []⟩, (s.upTo ((pl : Int) - 1)).2)
  else (.bare op, failS)
def Ps.term (s : Ps) (pl : Nat) : Tm × Ps := s.next.2.body pl s.next.1.toNat

/-- A term in a block of its own. -/
structure TmAt (w : World) (b : Nat) (t : Tm) : Prop where
  lt : b < w.heap.size
  c0 : w.cell? ⟨b, 0, none⟩ = some (.int .i64 t.op)
  c1 : w.cell? ⟨b, 1, none⟩ = some (.int .i64 t.left)
  c2 : w.cell? ⟨b, 2, none⟩ = some (.int .i64 t.right)
  c3 : w.cell? ⟨b, 3, none⟩ = some (.int .i64 t.num)
  c4 : w.cell? ⟨b, 4, none⟩ = some (.string (BS t.str))
  c5 : w.cell? ⟨b, 5, none⟩ = some (.string (BS t.esc))
  fz : ∀ j, w.frozen? ⟨b, j, none⟩ = false

theorem TmAt.same {w w' : World} {b : Nat} {t : Tm} (h : TmAt w b t) (hz : b < w'.heap.size) (hb : w'.heap[b]? = w.heap[b]?) : TmAt w' b t := by
  have hc : ∀ j, w'.cell? ⟨b, j, none⟩ = w.cell? ⟨b, j, none⟩ := fun j => World.cell?_of_block (w := w) (w' := w') (a := ⟨b, j, none⟩) hb
  have hf : ∀ j, w'.frozen? ⟨b, j, none⟩ = w.frozen? ⟨b, j, none⟩ := fun j => World.frozen?_of_block (w := w) (w' := w') (a := ⟨b, j, none⟩) hb
  exact ⟨hz, (hc 0).trans h.c0, (hc 1).trans h.c1, (hc 2).trans h.c2, (hc 3).trans h.c3, (hc 4).trans h.c4, (hc 5).trans h.c5, fun j => (hf j).trans (h.fz j)⟩
theorem TmAt.kept {w w' : World} {b rb : Nat} {t : Tm} (h : TmAt w b t) (hk : Kept rb w w') (hn : ¬ b = rb) : TmAt w' b t :=
  h.same (Nat.lt_of_lt_of_le h.lt hk.size) (hk.block b h.lt hn)
theorem TmAt.alloc {w : World} {b : Nat} {t : Tm} (h : TmAt w b t) (o : Obj) : TmAt (w.alloc o) b t :=
  h.same (by have := h.lt; simp; omega) (((Below.refl w.heap.size w).alloc (Nat.le_refl _) o).block b h.lt)
theorem TmAt.other {w : World} {b : Nat} {t : Tm} (h : TmAt w b t) {p : Addr} (hp : ¬ p.block = b) (u : Value) : TmAt (w.setCell p u) b t :=
  h.same (by have := h.lt; simp; omega) (Below.heap_setCell w p u b (by omega))
theorem TmAt.new (w : World) (n : Nat) (ty : TypeId) : TmAt (w.alloc (.cells #[.int .i64 n, .int .i64 0, .int .i64 0, .int .i64 0, .string ⟨#[]⟩, .string ⟨#[]⟩] ty)) w.heap.size (.bare n) := by
  refine ⟨by simp, ?_, ?_, ?_, ?_, ?_, ?_, fun j => ?_⟩ <;> simp [go_sem, Tm.bare] <;> rfl
theorem TmAt.full {w : World} {b : Nat} {t0 : Tm} (h : TmAt w b t0) (t : Tm) {v0 v1 v2 v3 v4 v5 : Value} (h0 : v0 = .int .i64 t.op) (h1 : v1 = .int .i64 t.left) (h2 : v2 = .int .i64 t.right) (h3 : v3 = .int .i64 t.num) (h4 : v4 = .string (BS t.str)) (h5 : v5 = .string (BS t.esc)) :
    TmAt ((((((w.setCell ⟨b, 0, none⟩ v0).setCell ⟨b, 1, none⟩ v1).setCell ⟨b, 2, none⟩ v2).setCell ⟨b, 3, none⟩ v3).setCell ⟨b, 4, none⟩ v4).setCell ⟨b, 5, none⟩ v5) b t := by
  subst h0 h1 h2 h3 h4 h5
  obtain ⟨hl, c0, c1, c2, c3, c4, c5, fz⟩ := h
  exact ⟨by simp; omega, by simp [go_sem, c0], by simp [go_sem, c1], by simp [go_sem, c2], by simp [go_sem, c3], by simp [go_sem, c4], by simp [go_sem, c5], fun j => by simp [go_sem, fz]⟩
end

section
def tmsCells (ts : List Tm) : List Value := ts.flatMap tmCells
def intCells (l : List Nat) : List Value := l.map fun n : Nat => .int .i64 (n : Int)

theorem info_term : (Tryz.prog.info? 142).map (fun i => (i.zero, i.size, i.bytes)) = some (some (.agg #[.int .i64 0, .int .i64 0, .int .i64 0, .int .i64 0, .string ⟨#[]⟩, .string ⟨#[]⟩]), 6, 64) := by kernel_rfl
theorem info_intg : (Tryz.prog.info? 3).map (fun i => (i.zero, i.size, i.bytes)) = some (some (.int .i64 0), 1, 8) := by kernel_rfl

/-- A row of terms that the program owns, from block base on. -/
def TsAt (w : World) (base : Nat) (v : Value) (ts : List Tm) : Prop := w.ownsRow base 142 6 v ts.length (tmsCells ts)
def IsAt (w : World) (base : Nat) (v : Value) (l : List Nat) : Prop := w.ownsRow base 3 1 v l.length (intCells l)

theorem TsAt.nil (w : World) (base : Nat) : TsAt w base (.slice none 0 0) [] := ⟨rfl, .inl ⟨rfl, rfl⟩⟩
theorem IsAt.nil (w : World) (base : Nat) : IsAt w base (.slice none 0 0) [] := ⟨rfl, .inl ⟨rfl, rfl⟩⟩

theorem ownsRow_same {base e size n : Nat} {w w' : World} {v : Value} {xs : List Value} (h : w.ownsRow base e size v n xs) (hk : ∀ g, v.ownBlock = some g → w'.heap[g]? = w.heap[g]?) : w'.ownsRow base e size v n xs := by
  refine ⟨h.1, ?_⟩
  rcases h.2 with hn | ⟨g, cap, cur, rfl, hbg, hgg, rest⟩
  · exact .inl hn
  · exact .inr ⟨g, cap, cur, rfl, hbg, (hk g rfl).trans hgg, rest⟩
theorem tmsCells_get {ts : List Tm} {i : Nat} {t : Tm} (h : ts[i]? = some t) {j : Nat} {u : Value} (hj : (tmCells t)[j]? = some u) : (tmsCells ts)[i * 6 + j]? = some u := by
  have hj6 : j < 6 := by have := (List.getElem?_eq_some_iff.1 hj).1; simpa [tmCells] using this
  induction ts generalizing i with
  | nil => simp at h
  | cons t' ts ih =>
    rw [tmsCells, List.flatMap_cons, ← tmsCells]
    cases i with
    | zero =>
      simp at h
      subst h
      rw [List.getElem?_append_left (by show _ < 6; omega), Nat.zero_mul, Nat.zero_add]
      exact hj
    | succ i =>
      rw [List.getElem?_append_right (by show 6 ≤ _; omega), show (i + 1) * 6 + j - (tmCells t').length = i * 6 + j by show _ - 6 = _; omega]
      exact ih (by simpa using h)
end

section
/-- A term that may stand at a place. -/
structure FitsT (pl : Nat) (t : Tm) : Prop where
  op : t.op ≤ 23
  num : Rng t.num
  str : t.str.length ≤ 200
  esc : t.esc.length ≤ 1
  sides : 5 ≤ t.op → t.left < pl ∧ t.right < pl

/-- A program that may be run. -/
structure Prg (ts : List Tm) (rs : List Nat) : Prop where
  terms : ts.length ≤ 80
  roots : rs.length ≤ 8
  fits : ∀ i t, ts[i]? = some t → FitsT i t
  below : ∀ r ∈ rs, r < ts.length
end

section
theorem below_kept {rb : Nat} {a w w' : World} (h : Below a.heap.size a w) (hk : Kept rb w w') (hr : a.heap.size ≤ rb) : Below a.heap.size a w' :=
  ⟨hk.os.trans h.os, hk.tape.trans h.tape, hk.output.trans h.output, Nat.le_trans h.size hk.size, fun k hlt => (hk.block k (by have := h.size; omega) (by omega)).trans (h.block k hlt)⟩

/-- The reader, the program that is being read, and its two rows. -/
structure RdL (w wr : World) (rb pb : Nat) (s : Ps) (ts : List Tm) (tv : Value) (rs : List Nat) (rv : Value) : Prop where
  ps : PsAt wr rb s
  c0 : wr.cell? ⟨pb, 0, none⟩ = some tv
  c1 : wr.cell? ⟨pb, 1, none⟩ = some rv
  fz : ∀ j, wr.frozen? ⟨pb, j, none⟩ = false
  lo : rb < pb
  lt : pb < wr.heap.size
  ats : TsAt wr (pb + 1) tv ts
  ars : IsAt wr (pb + 1) rv rs
  ne : ∀ g, tv.ownBlock = some g → rv.ownBlock ≠ some g
  old : w.heap.size ≤ rb
  bel : Below w.heap.size w wr

theorem RdL.kept {w wr w1 : World} {rb pb : Nat} {s s1 : Ps} {ts : List Tm} {tv : Value} {rs : List Nat} {rv : Value} (h : RdL w wr rb pb s ts tv rs rv) (hk : Kept rb wr w1) (hp : PsAt w1 rb s1) : RdL w w1 rb pb s1 ts tv rs rv := by
  have hlo := h.lo
  obtain ⟨hc, hf⟩ := kcell hk
  exact ⟨hp, (hc pb 0 h.lt (by omega)).trans h.c0, (hc pb 1 h.lt (by omega)).trans h.c1, fun j => (hf pb j h.lt (by omega)).trans (h.fz j), hlo, Nat.lt_of_lt_of_le h.lt hk.size,
    ownsRow_keptR h.ats hk (by omega), ownsRow_keptR h.ars hk (by omega), h.ne, h.old, below_kept h.bel hk h.old⟩
theorem RdL.alloc {w wr : World} {rb pb : Nat} {s : Ps} {ts : List Tm} {tv : Value} {rs : List Nat} {rv : Value} (h : RdL w wr rb pb s ts tv rs rv) (o : Obj) : RdL w (wr.alloc o) rb pb s ts tv rs rv :=
  h.kept ((Kept.refl rb wr).alloc o) (h.ps.alloc o)
theorem PsAt.drew {w : World} {rb : Nat} {s : Ps} (h : PsAt w rb s) : PsAt w.drew rb s := h.same h.lt fun _ _ => rfl
theorem Kept.drew' {rb : Nat} {w w1 : World} (h : Kept rb w.drew w1) : Kept rb w w1 := ⟨h.os, h.tape, h.output, h.size, h.block⟩

/-- Behind an append the program's own block is as it was. -/
theorem RdL.far {w W w2 : World} {rb pb : Nat} {s : Ps} {ts : List Tm} {tv : Value} {rs : List Nat} {rv : Value} (h : RdL w W rb pb s ts tv rs rv) {row : Option Nat} (hg : W.grownBy w2 row) (hr : row = tv.ownBlock ∨ row = rv.ownBlock) :
    w2.cell? ⟨pb, 0, none⟩ = some tv ∧ w2.cell? ⟨pb, 1, none⟩ = some rv ∧ (∀ j, w2.frozen? ⟨pb, j, none⟩ = false) ∧ pb < w2.heap.size := by
  have hrow : ∀ k, row = some k → pb + 1 ≤ k := fun k hk => by
    rcases hr with rfl | rfl
    · exact (h.ats.lt k hk).1
    · exact (h.ars.lt k hk).1
  have hb : w2.heap[pb]? = W.heap[pb]? := hg.block pb h.lt (fun e => by have := hrow pb e.symm; omega)
  exact ⟨(World.cell?_of_block (w := W) (w' := w2) (a := ⟨pb, 0, none⟩) hb).trans h.c0, (World.cell?_of_block (w := W) (w' := w2) (a := ⟨pb, 1, none⟩) hb).trans h.c1, fun j => (World.frozen?_of_block (w := W) (w' := w2) (a := ⟨pb, j, none⟩) hb).trans (h.fz j), Nat.lt_of_lt_of_le h.lt hg.size⟩

/-- An append, kept whole for the walk. -/
def appSem (ats : Array TypeId) (ty : TypeId) (args : Array Value) : Sem Value := Builtin.append_ ats ty args
theorem app_fold (ats : Array TypeId) (ty : TypeId) (args : Array Value) : Builtin.append_ ats ty args = appSem ats ty args := rfl

/-- A program in memory, to be read: its two rows, below block hi. -/
structure ProgAt (w : World) (pb o : Nat) (ts : List Tm) (rs : List Nat) : Prop where
  lt : pb < w.heap.size
  c0 : ∃ tv base, w.cell? ⟨pb, o, none⟩ = some tv ∧ TsAt w base tv ts
  c1 : ∃ rv base, w.cell? ⟨pb, o + 1, none⟩ = some rv ∧ IsAt w base rv rs

theorem ProgAt.below {w w' : World} {pb o : Nat} {ts : List Tm} {rs : List Nat} (h : ProgAt w pb o ts rs) (hb : Below w.heap.size w w') : ProgAt w' pb o ts rs := by
  obtain ⟨hl, ⟨tv, b0, h0, h0'⟩, rv, b1, h1, h1'⟩ := h
  exact ⟨Nat.lt_of_lt_of_le hl hb.size, ⟨tv, b0, (hb.cell hl).trans h0, ownsRow_below h0' hb (Nat.le_refl _)⟩, rv, b1, (hb.cell hl).trans h1, ownsRow_below h1' hb (Nat.le_refl _)⟩

theorem RdL.prog {w wr : World} {rb pb : Nat} {s : Ps} {ts : List Tm} {tv : Value} {rs : List Nat} {rv : Value} (h : RdL w wr rb pb s ts tv rs rv) : ProgAt wr pb 0 ts rs :=
  ⟨h.lt, ⟨tv, _, h.c0, h.ats⟩, rv, _, h.c1, h.ars⟩
end

end Go.Proofs.YtfkcaldjphakpabGreatDoor
