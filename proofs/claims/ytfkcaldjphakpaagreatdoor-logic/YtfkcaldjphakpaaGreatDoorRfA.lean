/- Read's deferred function. What Read says of a text. -/
import Derived.Test.YtfkcaldjphakpaaGreatDoorLvA
import Derived.Defers
import Derived.Recover
import Derived.Laws.Pointers
import Derived.Test.YtfkcaldjphakpaaGreatDoorClA
namespace Go.Proofs.YtfkcaldjphakpaaGreatDoor
open Go.RowKit

section
set_option maxHeartbeats 1000000 in
theorem catch_idle (p0 p1 p2 : Addr) (w : World) :
    CallsD Tryz.prog 53 #[.pointer (some p0), .pointer (some p1), .pointer (some p2)] .returning w fun e u' w' => e = .returned (.tuple #[]) ∧ u' = .returning ∧ w' = w := by
  refine callsD_of_wpS Tryz.func53 rfl fun c₀ cs hu => ?_
  apply wpS_seq
  apply wpS_region
  simp [wpOpsS, go_sem, recoverD, hu, Tryz.ntmps53, Exit.thenS]
  refine wpS_of_wp ?_
  rw [show (#[Value.pointer (some p0), Value.pointer (some p1), Value.pointer (some p2)] ++ (Array.replicate 13 undef).setIfInBounds 3 Value.nilIface) = #[Value.pointer (some p0), Value.pointer (some p1), Value.pointer (some p2), undef, undef, undef, Value.nilIface, undef, undef, undef, undef, undef, undef, undef, undef, undef] from rfl]
  go_wp2_with fail
  refine ⟨rfl, .returning, ?_, _, results_none rfl _ _ _, rfl, rfl, rfl⟩
  cases c₀
  simp_all

theorem as_fault (v : Value) (w : World) : (Instr.typeAssert (.iface 88 v) 20 88 true).run Tryz.prog w = .ok (.tuple #[v, .bool true]) w := by kernel_rfl
theorem eq_fault (v : Value) (w : World) : (binOp .eql 20 (.iface 88 v) .nilIface).run Tryz.prog w = .ok (.bool false) w := by kernel_rfl

set_option maxHeartbeats 1000000 in
theorem catch_panicking (B : Nat) (x0 x1 x2 : Value) (en pl : Int) (older : List PanicEntry) (w : World) (hB : B + 2 < w.heap.size) (h0 : w.cell? ⟨B, 0, none⟩ = some x0) (h1 : w.cell? ⟨B + 1, 0, none⟩ = some x1) (h2 : w.cell? ⟨B + 2, 0, none⟩ = some x2)
    (f0 : w.frozen? ⟨B, 0, none⟩ = false) (f1 : w.frozen? ⟨B + 1, 0, none⟩ = false) (f2 : w.frozen? ⟨B + 2, 0, none⟩ = false) :
    CallsD Tryz.prog 53 #[.pointer (some ⟨B, 0, none⟩), .pointer (some ⟨B + 1, 0, none⟩), .pointer (some ⟨B + 2, 0, none⟩)] (.panicking ({ v := .iface 88 (.agg #[.int .i64 en, .int .i64 pl]), recovered := false } :: older)) w fun e u' w' =>
      e = .returned (.tuple #[]) ∧ u' = .panicking ({ v := .iface 88 (.agg #[.int .i64 en, .int .i64 pl]), recovered := true } :: older) ∧
      w'.cell? ⟨B, 0, none⟩ = some (.pointer none) ∧ w'.cell? ⟨B + 1, 0, none⟩ = some (.int .i64 en) ∧ w'.cell? ⟨B + 2, 0, none⟩ = some (.int .i64 pl) ∧ Below B w w' := by
  refine callsD_of_wpS Tryz.func53 rfl fun c₀ cs hu => ?_
  apply wpS_seq
  apply wpS_region
  simp [wpOpsS, go_sem, recoverD, hu, Tryz.ntmps53, Exit.thenS]
  refine wpS_of_wp ?_
  rw [show (#[Value.pointer (some ⟨B, 0, none⟩), Value.pointer (some ⟨B + 1, 0, none⟩), Value.pointer (some ⟨B + 2, 0, none⟩)] ++ (Array.replicate 13 undef).setIfInBounds 3 (.iface 88 (.agg #[.int .i64 en, .int .i64 pl]))) = #[Value.pointer (some ⟨B, 0, none⟩), Value.pointer (some ⟨B + 1, 0, none⟩), Value.pointer (some ⟨B + 2, 0, none⟩), undef, undef, undef, .iface 88 (.agg #[.int .i64 en, .int .i64 pl]), undef, undef, undef, undef, undef, undef, undef, undef, undef] from rfl]
  have ha := as_fault
  have hq := eq_fault
  have n0 : B < w.heap.size := by omega
  have n1 : B + 1 < w.heap.size := by omega
  have m0 : ¬ w.heap.size = B := by omega
  have m1 : ¬ w.heap.size = B + 1 := by omega
  have m2 : ¬ w.heap.size = B + 2 := by omega
  go_wp2_with fail
  go_region
  all_goals refine ⟨rfl, .panicking ({ v := .iface 88 (.agg #[.int .i64 en, .int .i64 pl]), recovered := true } :: older), ?_, _, results_none rfl _ _ _, rfl, rfl, ?_, ?_, ?_, ?_⟩
  · cases c₀
    simp_all
  · rw [World.cell?_drew, World.cell?_alloc_past _ _ _ (by simp; omega)]; simp [go_sem, h0]
  · rw [World.cell?_drew, World.cell?_alloc_past _ _ _ (by simp; omega)]; simp [go_sem, h1]
  · rw [World.cell?_drew, World.cell?_alloc_past _ _ _ (by simp; omega)]; simp [go_sem, h2]
  · exact (((((Below.refl B w).setCell (Nat.le_refl _) _).setCell (by simp) _).setCell (by simp) _).alloc (by simp; omega) _).drew
end

section
/-- All blocks behind one are as they were. -/
structure Above (lo : Nat) (w w' : World) : Prop where
  size : w.heap.size ≤ w'.heap.size
  block : ∀ k, lo < k → k < w.heap.size → w'.heap[k]? = w.heap[k]?

theorem Kept.above {rb : Nat} {w w' : World} (h : Kept rb w w') : Above rb w w' := ⟨h.size, fun k h1 h2 => h.block k h2 (by omega)⟩
theorem Above.trans {lo : Nat} {a b c : World} (h : Above lo a b) (k : Above lo b c) : Above lo a c := ⟨Nat.le_trans h.size k.size, fun i h1 h2 => (k.block i h1 (Nat.lt_of_lt_of_le h2 h.size)).trans (h.block i h1 h2)⟩
theorem Above.setCell {lo : Nat} {a w : World} (h : Above lo a w) {p : Addr} (hp : p.block ≤ lo) (u : Value) : Above lo a (w.setCell p u) := by
  refine ⟨by rw [size_setCell]; exact h.size, fun k h1 h2 => ?_⟩
  rw [Below.heap_setCell w p u k (by omega)]; exact h.block k h1 h2
theorem Above.cell {lo : Nat} {w w' : World} (h : Above lo w w') {g : Nat} (h1 : lo < g) (h2 : g < w.heap.size) (j : Nat) : w'.cell? ⟨g, j, none⟩ = w.cell? ⟨g, j, none⟩ :=
  World.cell?_of_block (w := w) (w' := w') (a := ⟨g, j, none⟩) (h.block g h1 h2)

theorem TextsAt.keptA {lo : Nat} {w w' : World} (hk : Above lo w w') {v : Value} {ts : List (List UInt8)} (h : TextsAt lo w v ts) : TextsAt lo w' v ts := by
  rcases h with h | ⟨g, cap, hv, hg, hg2, hc⟩
  · exact .inl h
  · exact .inr ⟨g, cap, hv, hg, Nat.lt_of_lt_of_le hg2 hk.size, fun j t ht => (hk.cell hg hg2 j).trans (hc j t ht)⟩

theorem NodeAt.keptA {lo : Nat} {w w' : World} (hk : Above lo w w') {b : Nat} {p : Pay} {sides : Value} (h : NodeAt lo w b p sides) : NodeAt lo w' b p sides := by
  obtain ⟨h1, h2, c0, c1, c2, c3, c4, c5, tv, c6, ht⟩ := h
  have hc := fun j => hk.cell h1 h2 j
  exact ⟨h1, Nat.lt_of_lt_of_le h2 hk.size, (hc 0).trans c0, (hc 1).trans c1, (hc 2).trans c2, (hc 3).trans c3, (hc 4).trans c4, (hc 5).trans c5, tv, (hc 6).trans c6, ht.keptA hk⟩

theorem IsNode.above {lo : Nat} {w w' : World} (hk : Above lo w w') : ∀ {t : Ast} {v : Value}, IsNode lo w v t → IsNode lo w' v t := by
  have hc := fun g j (h1 : lo < g) (h2 : g < w.heap.size) => hk.cell h1 h2 j
  intro t
  induction t with
  | leaf p => rintro v ⟨b, rfl, h⟩; exact ⟨b, rfl, h.keptA hk⟩
  | un p x ih =>
    rintro v ⟨b, g, v1, rfl, h, h1, h2, e1, n1⟩
    exact ⟨b, g, v1, rfl, h.keptA hk, h1, Nat.lt_of_lt_of_le h2 hk.size, (hc g 0 h1 h2).trans e1, ih n1⟩
  | bin p x y ihx ihy =>
    rintro v ⟨b, g, v1, v2, rfl, h, h1, h2, e1, e2, n1, n2⟩
    exact ⟨b, g, v1, v2, rfl, h.keptA hk, h1, Nat.lt_of_lt_of_le h2 hk.size, (hc g 0 h1 h2).trans e1, (hc g 1 h1 h2).trans e2, ihx n1, ihy n2⟩
  | tri p x y z ihx ihy ihz =>
    rintro v ⟨b, g, v1, v2, v3, rfl, h, h1, h2, e1, e2, e3, n1, n2, n3⟩
    exact ⟨b, g, v1, v2, v3, rfl, h.keptA hk, h1, Nat.lt_of_lt_of_le h2 hk.size, (hc g 0 h1 h2).trans e1, (hc g 1 h1 h2).trans e2, (hc g 2 h1 h2).trans e3, ihx n1, ihy n2, ihz n3⟩

/-- What a text is: a term, or an error and its place. -/
inductive RRes where
  | ok (t : Ast)
  | err (en pl : Int)

def st0 : St := ⟨⟨0, 0, []⟩, 0, 0, 0⟩

def endR (t : Ast) (st : St) : RRes := if st.tk.kind = 0 then (match chkR (clsA t) with
  | none => .ok t
  | some q => .err 4 q) else .err 2 st.place

def readR (s : ByteArray) : RRes := if s.size ≤ 200 then (match (lvl s 12).E (stepSt s st0) with
  | .err en pl => .err en pl
  | .ok t st => endR t st) else .err 1 0

def ReadEnds (w : World) (r : RRes) (e : Ending) (w' : World) : Prop := Below w.heap.size w w' ∧ match r with
  | .ok t => ∃ v, e = .returned (.tuple #[v, .int .i64 0, .int .i64 0]) ∧ IsNode (w.heap.size + 3) w' v t
  | .err en pl => e = .returned (.tuple #[.pointer none, .int .i64 en, .int .i64 pl])

theorem Kept.below {rb B : Nat} {a w w' : World} (h : Kept rb w w') (hb : Below B a w) (hB : B ≤ rb) (hz : B ≤ w.heap.size) : Below B a w' :=
  ⟨h.os.trans hb.os, h.tape.trans hb.tape, h.output.trans hb.output, Nat.le_trans hb.size h.size, fun k hk => (h.block k (by omega) (by omega)).trans (hb.block k hk)⟩

/-- The world in which the reader begins. -/
def begun (w : World) (s : ByteArray) : World := (((w.alloc (.cells #[.pointer none] 67)).alloc (.cells #[.int .i64 0] 41)).alloc (.cells #[.int .i64 0] 3)).alloc (.cells #[.string s, .int .i64 0, .int .i64 0, .int .i64 0, .string ⟨#[]⟩, .int .i64 0, .int .i64 0] 93)

theorem begun_size (w : World) (s : ByteArray) : (begun w s).heap.size = w.heap.size + 4 := by simp [begun]

theorem begun_below (w : World) (s : ByteArray) : Below w.heap.size w (begun w s) := (below3 w _ _ _).alloc (by simp; omega) _

theorem begun_cells (w : World) (s : ByteArray) : (begun w s).cell? ⟨w.heap.size, 0, none⟩ = some (.pointer none) ∧ (begun w s).cell? ⟨w.heap.size + 1, 0, none⟩ = some (.int .i64 0) ∧ (begun w s).cell? ⟨w.heap.size + 2, 0, none⟩ = some (.int .i64 0) ∧
    (begun w s).frozen? ⟨w.heap.size, 0, none⟩ = false ∧ (begun w s).frozen? ⟨w.heap.size + 1, 0, none⟩ = false ∧ (begun w s).frozen? ⟨w.heap.size + 2, 0, none⟩ = false := by
  unfold begun
  refine ⟨?_, ?_, ?_, ?_, ?_, ?_⟩
  · rw [World.cell?_alloc_past _ _ _ (by simp <;> omega), World.cell?_alloc_past _ _ _ (by simp <;> omega), World.cell?_alloc_past _ _ _ (by simp), World.cell?_alloc_at _ _ _ _ rfl]; rfl
  · rw [World.cell?_alloc_past _ _ _ (by simp <;> omega), World.cell?_alloc_past _ _ _ (by simp), World.cell?_alloc_at _ _ _ _ (by simp)]; rfl
  · rw [World.cell?_alloc_past _ _ _ (by simp), World.cell?_alloc_at _ _ _ _ (by simp)]; rfl
  · rw [World.frozen?_alloc_past _ _ _ (by simp <;> omega), World.frozen?_alloc_past _ _ _ (by simp <;> omega), World.frozen?_alloc_past _ _ _ (by simp), World.frozen?_alloc_at _ _ _ _ rfl]
  · rw [World.frozen?_alloc_past _ _ _ (by simp <;> omega), World.frozen?_alloc_past _ _ _ (by simp), World.frozen?_alloc_at _ _ _ _ (by simp)]
  · rw [World.frozen?_alloc_past _ _ _ (by simp), World.frozen?_alloc_at _ _ _ _ (by simp)]

theorem rd_new (w : World) (s : ByteArray) : RdAt (w.alloc (.cells #[.string s, .int .i64 0, .int .i64 0, .int .i64 0, .string ⟨#[]⟩, .int .i64 0, .int .i64 0] 93)) w.heap.size s st0 :=
  ⟨by simp, by simp [st0], by simp [st0], by simp [st0], by simp [st0, BS], by simp [st0], by simp [st0], fun j => by simp⟩

theorem begun_rd (w : World) (s : ByteArray) : RdAt (begun w s) (w.heap.size + 3) s st0 := by
  have hs : w.heap.size + 3 = (((w.alloc (.cells #[.pointer none] 67)).alloc (.cells #[.int .i64 0] 41)).alloc (.cells #[.int .i64 0] 3)).heap.size := by simp
  rw [hs]
  exact rd_new _ s

theorem begun_err (w : World) (s : ByteArray) (h : ErrOk w) : ErrOk (begun w s) := (((h.alloc _).alloc _).alloc _).alloc _

theorem begun_ready (w : World) (s : ByteArray) (h : ErrOk w) (hs : s.size ≤ 200) : Ready (w.heap.size + 3) s (begun w s) st0 :=
  ⟨begun_rd w s, by rw [begun_size]; omega, begun_err w s h, by have := h.1; omega, ⟨Nat.zero_le _, Nat.zero_le _, fun h => absurd rfl h⟩, by omega⟩
end

end Go.Proofs.YtfkcaldjphakpaaGreatDoor
