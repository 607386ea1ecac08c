/- Read's deferred function. What Read says of a text. class, checkClasses. All of Join but for the signs. -/
import Derived.Test.YtfkcaldjphakpaaGreatDoorA10
import Derived.Defers
import Derived.Recover
import Derived.Laws.Pointers
import Derived.Test.YtfkcaldjphakpaaGreatDoorA13
import Derived.Test.YtfkcaldjphakpaaGreatDoorQCl3
import Derived.Test.YtfkcaldjphakpaaGreatDoorA15
namespace Go.Proofs.YtfkcaldjphakpaaGreatDoor
open Go.RowKit

section
set_option maxHeartbeats 1000000 in
theorem catch_idle (p0 p1 p2 : Addr) (w : World) :
    CallsD Tryz.prog 53 #[.pointer (some p0), .pointer (some p1), .pointer (some p2)] .returning w fun e u' w' => e = .returned (.tuple #[]) ∧ u' = .returning ∧ w' = w := by
  refine callsD_of_wpS Tryz.func53 rfl fun c₀ cs hu => ?_
  apply wpS_seq
  apply wpS_region
  simp [wpOpsS, go_sem, recoverD, hu, Tryz.ntmps53, Exit.thenS]
  refine wpS_of_wp ?_
  rw [show (#[Value.pointer (some p0), Value.pointer (some p1), Value.pointer (some p2)] ++ (Array.replicate 13 undef).setIfInBounds 3 Value.nilIface) = #[Value.pointer (some p0), Value.pointer (some p1), Value.pointer (some p2), undef, undef, undef, Value.nilIface, undef, undef, undef, undef, undef, undef, undef, undef, undef] from rfl]
  go_wp2_with fail
  refine ⟨rfl, .returning, ?_, _, results_none rfl _ _ _, rfl, rfl, rfl⟩
  cases c₀
  simp_all

theorem as_fault (v : Value) (w : World) : (Instr.typeAssert (.iface 88 v) 20 88 true).run Tryz.prog w = .ok (.tuple #[v, .bool true]) w := by kernel_rfl
theorem eq_fault (v : Value) (w : World) : (binOp .eql 20 (.iface 88 v) .nilIface).run Tryz.prog w = .ok (.bool false) w := by kernel_rfl

set_option maxHeartbeats 1000000 in
theorem catch_panicking (B : Nat) (x0 x1 x2 : Value) (en pl : Int) (older : List PanicEntry) (w : World) (hB : B + 2 < w.heap.size) (h0 : w.cell? ⟨B, 0, none⟩ = some x0) (h1 : w.cell? ⟨B + 1, 0, none⟩ = some x1) (h2 : w.cell? ⟨B + 2, 0, none⟩ = some x2)
    (f0 : w.frozen? ⟨B, 0, none⟩ = false) (f1 : w.frozen? ⟨B + 1, 0, none⟩ = false) (f2 : w.frozen? ⟨B + 2, 0, none⟩ = false) :
    CallsD Tryz.prog 53 #[.pointer (some ⟨B, 0, none⟩), .pointer (some ⟨B + 1, 0, none⟩), .pointer (some ⟨B + 2, 0, none⟩)] (.panicking ({ v := .iface 88 (.agg #[.int .i64 en, .int .i64 pl]), recovered := false } :: older)) w fun e u' w' =>
      e = .returned (.tuple #[]) ∧ u' = .panicking ({ v := .iface 88 (.agg #[.int .i64 en, .int .i64 pl]), recovered := true } :: older) ∧
      w'.cell? ⟨B, 0, none⟩ = some (.pointer none) ∧ w'.cell? ⟨B + 1, 0, none⟩ = some (.int .i64 en) ∧ w'.cell? ⟨B + 2, 0, none⟩ = some (.int .i64 pl) ∧ Below B w w' := by
  refine callsD_of_wpS Tryz.func53 rfl fun c₀ cs hu => ?_
  apply wpS_seq
  apply wpS_region
  simp [wpOpsS, go_sem, recoverD, hu, Tryz.ntmps53, Exit.thenS]
  refine wpS_of_wp ?_
  rw [show (#[Value.pointer (some ⟨B, 0, none⟩), Value.pointer (some ⟨B + 1, 0, none⟩), Value.pointer (some ⟨B + 2, 0, none⟩)] ++ (Array.replicate 13 undef).setIfInBounds 3 (.iface 88 (.agg #[.int .i64 en, .int .i64 pl]))) = #[Value.pointer (some ⟨B, 0, none⟩), Value.pointer (some ⟨B + 1, 0, none⟩), Value.pointer (some ⟨B + 2, 0, none⟩), undef, undef, undef, .iface 88 (.agg #[.int .i64 en, .int .i64 pl]), undef, undef, undef, undef, undef, undef, undef, undef, undef] from rfl]
  have ha := as_fault
  have hq := eq_fault
  have n0 : B < w.heap.size := by omega
  have n1 : B + 1 < w.heap.size := by omega
  have m0 : ¬ w.heap.size = B := by omega
  have m1 : ¬ w.heap.size = B + 1 := by omega
  have m2 : ¬ w.heap.size = B + 2 := by omega
  go_wp2_with fail
  go_region
  all_goals refine ⟨rfl, .panicking ({ v := .iface 88 (.agg #[.int .i64 en, .int .i64 pl]), recovered := true } :: older), ?_, _, results_none rfl _ _ _, rfl, rfl, ?_, ?_, ?_, ?_⟩
  · cases c₀
    simp_all
  · rw [World.cell?_drew, World.cell?_alloc_past _ _ _ (by simp; omega)]; simp [go_sem, h0]
  · rw [World.cell?_drew, World.cell?_alloc_past _ _ _ (by simp; omega)]; simp [go_sem, h1]
  · rw [World.cell?_drew, World.cell?_alloc_past _ _ _ (by simp; omega)]; simp [go_sem, h2]
  · exact (((((Below.refl B w).setCell (Nat.le_refl _) _).setCell (by simp) _).setCell (by simp) _).alloc (by simp; omega) _).drew
end

section
/-- All blocks behind one are as they were. -/
structure Above (lo : Nat) (w w' : World) : Prop where
  size : w.heap.size ≤ w'.heap.size
  block : ∀ k, lo < k → k < w.heap.size → w'.heap[k]? = w.heap[k]?

theorem Kept.above {rb : Nat} {w w' : World} (h : Kept rb w w') : Above rb w w' := ⟨h.size, fun k h1 h2 => h.block k h2 (by omega)⟩
theorem Above.trans {lo : Nat} {a b c : World} (h : Above lo a b) (k : Above lo b c) : Above lo a c := ⟨Nat.le_trans h.size k.size, fun i h1 h2 => (k.block i h1 (Nat.lt_of_lt_of_le h2 h.size)).trans (h.block i h1 h2)⟩
theorem Above.setCell {lo : Nat} {a w : World} (h : Above lo a w) {p : Addr} (hp : p.block ≤ lo) (u : Value) : Above lo a (w.setCell p u) := by
  refine ⟨by rw [size_setCell]; exact h.size, fun k h1 h2 => ?_⟩
  rw [Below.heap_setCell w p u k (by omega)]; exact h.block k h1 h2
theorem Above.cell {lo : Nat} {w w' : World} (h : Above lo w w') {g : Nat} (h1 : lo < g) (h2 : g < w.heap.size) (j : Nat) : w'.cell? ⟨g, j, none⟩ = w.cell? ⟨g, j, none⟩ :=
  World.cell?_of_block (w := w) (w' := w') (a := ⟨g, j, none⟩) (h.block g h1 h2)

theorem TextsAt.keptA {lo : Nat} {w w' : World} (hk : Above lo w w') {v : Value} {ts : List (List UInt8)} (h : TextsAt lo w v ts) : TextsAt lo w' v ts := by
  rcases h with h | ⟨g, cap, hv, hg, hg2, hc⟩
  · exact .inl h
  · exact .inr ⟨g, cap, hv, hg, Nat.lt_of_lt_of_le hg2 hk.size, fun j t ht => (hk.cell hg hg2 j).trans (hc j t ht)⟩

theorem NodeAt.keptA {lo : Nat} {w w' : World} (hk : Above lo w w') {b : Nat} {p : Pay} {sides : Value} (h : NodeAt lo w b p sides) : NodeAt lo w' b p sides := by
  obtain ⟨h1, h2, c0, c1, c2, c3, c4, c5, tv, c6, ht⟩ := h
  have hc := fun j => hk.cell h1 h2 j
  exact ⟨h1, Nat.lt_of_lt_of_le h2 hk.size, (hc 0).trans c0, (hc 1).trans c1, (hc 2).trans c2, (hc 3).trans c3, (hc 4).trans c4, (hc 5).trans c5, tv, (hc 6).trans c6, ht.keptA hk⟩

theorem IsNode.above {lo : Nat} {w w' : World} (hk : Above lo w w') : ∀ {t : Ast} {v : Value}, IsNode lo w v t → IsNode lo w' v t := by
  have hc := fun g j (h1 : lo < g) (h2 : g < w.heap.size) => hk.cell h1 h2 j
  intro t
  induction t with
  | leaf p => rintro v ⟨b, rfl, h⟩; exact ⟨b, rfl, h.keptA hk⟩
  | un p x ih =>
    rintro v ⟨b, g, v1, rfl, h, h1, h2, e1, n1⟩
    exact ⟨b, g, v1, rfl, h.keptA hk, h1, Nat.lt_of_lt_of_le h2 hk.size, (hc g 0 h1 h2).trans e1, ih n1⟩
  | bin p x y ihx ihy =>
    rintro v ⟨b, g, v1, v2, rfl, h, h1, h2, e1, e2, n1, n2⟩
    exact ⟨b, g, v1, v2, rfl, h.keptA hk, h1, Nat.lt_of_lt_of_le h2 hk.size, (hc g 0 h1 h2).trans e1, (hc g 1 h1 h2).trans e2, ihx n1, ihy n2⟩
  | tri p x y z ihx ihy ihz =>
    rintro v ⟨b, g, v1, v2, v3, rfl, h, h1, h2, e1, e2, e3, n1, n2, n3⟩
    exact ⟨b, g, v1, v2, v3, rfl, h.keptA hk, h1, Nat.lt_of_lt_of_le h2 hk.size, (hc g 0 h1 h2).trans e1, (hc g 1 h1 h2).trans e2, (hc g 2 h1 h2).trans e3, ihx n1, ihy n2, ihz n3⟩

/-- What a text is: a term, or an error and its place. -/
inductive RRes where
  | ok (t : Ast)
  | err (en pl : Int)

def st0 : St := ⟨⟨0, 0, []⟩, 0, 0, 0⟩

def endR (t : Ast) (st : St) : RRes := if st.tk.kind = 0 then (match chkR (clsA t) with
  | none => .ok t
  | some q => .err 4 q) else .err 2 st.place

def readR (s : ByteArray) : RRes := if s.size ≤ 200 then (match (lvl s 12).E (stepSt s st0) with
  | .err en pl => .err en pl
  | .ok t st => endR t st) else .err 1 0

def ReadEnds (w : World) (r : RRes) (e : Ending) (w' : World) : Prop := Below w.heap.size w w' ∧ match r with
  | .ok t => ∃ v, e = .returned (.tuple #[v, .int .i64 0, .int .i64 0]) ∧ IsNode (w.heap.size + 3) w' v t
  | .err en pl => e = .returned (.tuple #[.pointer none, .int .i64 en, .int .i64 pl])

theorem Kept.below {rb B : Nat} {a w w' : World} (h : Kept rb w w') (hb : Below B a w) (hB : B ≤ rb) (hz : B ≤ w.heap.size) : Below B a w' :=
  ⟨h.os.trans hb.os, h.tape.trans hb.tape, h.output.trans hb.output, Nat.le_trans hb.size h.size, fun k hk => (h.block k (by omega) (by omega)).trans (hb.block k hk)⟩

/-- The world in which the reader begins. -/
def begun (w : World) (s : ByteArray) : World := (((w.alloc (.cells #[.pointer none] 67)).alloc (.cells #[.int .i64 0] 41)).alloc (.cells #[.int .i64 0] 3)).alloc (.cells #[.string s, .int .i64 0, .int .i64 0, .int .i64 0, .string ⟨#[]⟩, .int .i64 0, .int .i64 0] 93)

theorem begun_size (w : World) (s : ByteArray) : (begun w s).heap.size = w.heap.size + 4 := by simp [begun]

theorem begun_below (w : World) (s : ByteArray) : Below w.heap.size w (begun w s) := (below3 w _ _ _).alloc (by simp; omega) _

theorem begun_cells (w : World) (s : ByteArray) : (begun w s).cell? ⟨w.heap.size, 0, none⟩ = some (.pointer none) ∧ (begun w s).cell? ⟨w.heap.size + 1, 0, none⟩ = some (.int .i64 0) ∧ (begun w s).cell? ⟨w.heap.size + 2, 0, none⟩ = some (.int .i64 0) ∧
    (begun w s).frozen? ⟨w.heap.size, 0, none⟩ = false ∧ (begun w s).frozen? ⟨w.heap.size + 1, 0, none⟩ = false ∧ (begun w s).frozen? ⟨w.heap.size + 2, 0, none⟩ = false := by
  unfold begun
  refine ⟨?_, ?_, ?_, ?_, ?_, ?_⟩
  · rw [World.cell?_alloc_past _ _ _ (by simp <;> omega), World.cell?_alloc_past _ _ _ (by simp <;> omega), World.cell?_alloc_past _ _ _ (by simp), World.cell?_alloc_at _ _ _ _ rfl]; rfl
  · rw [World.cell?_alloc_past _ _ _ (by simp <;> omega), World.cell?_alloc_past _ _ _ (by simp), World.cell?_alloc_at _ _ _ _ (by simp)]; rfl
  · rw [World.cell?_alloc_past _ _ _ (by simp), World.cell?_alloc_at _ _ _ _ (by simp)]; rfl
  · rw [World.frozen?_alloc_past _ _ _ (by simp <;> omega), World.frozen?_alloc_past _ _ _ (by simp <;> omega), World.frozen?_alloc_past _ _ _ (by simp), World.frozen?_alloc_at _ _ _ _ rfl]
  · rw [World.frozen?_alloc_past _ _ _ (by simp <;> omega), World.frozen?_alloc_past _ _ _ (by simp), World.frozen?_alloc_at _ _ _ _ (by simp)]
  · rw [World.frozen?_alloc_past _ _ _ (by simp), World.frozen?_alloc_at _ _ _ _ (by simp)]

theorem rd_new (w : World) (s : ByteArray) : RdAt (w.alloc (.cells #[.string s, .int .i64 0, .int .i64 0, .int .i64 0, .string ⟨#[]⟩, .int .i64 0, .int .i64 0] 93)) w.heap.size s st0 :=
  ⟨by simp, by simp [st0], by simp [st0], by simp [st0], by simp [st0, BS], by simp [st0], by simp [st0], fun j => by simp⟩

theorem begun_rd (w : World) (s : ByteArray) : RdAt (begun w s) (w.heap.size + 3) s st0 := by
  have hs : w.heap.size + 3 = (((w.alloc (.cells #[.pointer none] 67)).alloc (.cells #[.int .i64 0] 41)).alloc (.cells #[.int .i64 0] 3)).heap.size := by simp
  rw [hs]
  exact rd_new _ s

theorem begun_err (w : World) (s : ByteArray) (h : ErrOk w) : ErrOk (begun w s) := (((h.alloc _).alloc _).alloc _).alloc _

theorem begun_ready (w : World) (s : ByteArray) (h : ErrOk w) (hs : s.size ≤ 200) : Ready (w.heap.size + 3) s (begun w s) st0 :=
  ⟨begun_rd w s, by rw [begun_size]; omega, begun_err w s h, by have := h.1; omega, ⟨Nat.zero_le _, Nat.zero_le _, fun h => absurd rfl h⟩, by omega⟩
end

section
theorem clsOf_none {op pl want c : Int} {rs : List CRes} (h : clsOf op pl rs = demR want pl c rs) (hq : dem want pl rs true = none) : clsOf op pl rs = .ok c := by
  rw [h, demR, hq]
theorem clsOf_some {op pl want c q : Int} {rs : List CRes} (h : clsOf op pl rs = demR want pl c rs) (hq : dem want pl rs true = some q) : clsOf op pl rs = .err q := by
  rw [h, demR, hq]

set_option maxHeartbeats 400000 in
theorem class_0 (lo : Nat) (t : Ast) (ho : (payA t).op = 0) : ClsOk lo t := by
  intro w v h
  have hc : clsA t = .ok 0 := by rw [clsA_eq, ho]; rfl
  rw [hc]
  obtain ⟨b, sv, rfl, hnode, _⟩ := h.parts
  have c0 := hnode.c0
  rw [ho] at c0
  clear hnode h hc ho
  go_enter Tryz.func104, Tryz.ntmps104
  go_wp2_with fail
  go_ret
  exact ⟨Below.refl _ _, rfl⟩

set_option maxHeartbeats 400000 in
theorem class_1 (lo : Nat) (t : Ast) (ho : (payA t).op = 1) : ClsOk lo t := by
  intro w v h
  have hc : clsA t = .ok 1 := by rw [clsA_eq, ho]; rfl
  rw [hc]
  obtain ⟨b, sv, rfl, hnode, _⟩ := h.parts
  have c0 := hnode.c0
  rw [ho] at c0
  clear hnode h hc ho
  go_enter Tryz.func104, Tryz.ntmps104
  go_wp2_with fail
  go_ret
  exact ⟨Below.refl _ _, rfl⟩

set_option maxHeartbeats 400000 in
theorem class_2 (lo : Nat) (t : Ast) (ho : (payA t).op = 2) : ClsOk lo t := by
  intro w v h
  have hc : clsA t = .ok 2 := by rw [clsA_eq, ho]; rfl
  rw [hc]
  obtain ⟨b, sv, rfl, hnode, _⟩ := h.parts
  have c0 := hnode.c0
  rw [ho] at c0
  clear hnode h hc ho
  go_enter Tryz.func104, Tryz.ntmps104
  go_wp2_with fail
  go_ret
  exact ⟨Below.refl _ _, rfl⟩

set_option maxHeartbeats 400000 in
theorem class_5 (lo : Nat) (t : Ast) (hcls : ∀ x ∈ sidesA t, ClsOk lo x) (ho : (payA t).op = 5) : ClsOk lo t := by
  intro w v h
  have DEM := hide (demand_any lo t hcls 3 w v h)
  obtain ⟨b, sv, rfl, hnode, _⟩ := h.parts
  have c0 := hnode.c0
  rw [ho] at c0
  cases hd : dem 3 (payA t).place ((sidesA t).map clsA) true with
  | none =>
    have hc : clsA t = .ok 3 := by rw [clsA_eq, ho]; exact clsOf_none (c := 3) rfl hd
    rw [hc]
    rw [hd] at DEM
    clear hnode h hc ho hd hcls
    go_enter Tryz.func104, Tryz.ntmps104
    go_wp2_with (go_at_call 148; refine (unhide DEM).mono ?_; rintro e w1 ⟨hb1, h1⟩; subst h1)
    go_ret
    exact ⟨hb1, rfl⟩
  | some q =>
    have hc : clsA t = .err q := by rw [clsA_eq, ho]; exact clsOf_some (c := 3) rfl hd
    rw [hc]
    rw [hd] at DEM
    clear hnode h hc ho hd hcls
    go_enter Tryz.func104, Tryz.ntmps104
    go_wp2_with (go_at_call 148; refine (unhide DEM).mono ?_; rintro e w1 ⟨hb1, h1⟩; subst h1; simp only [gaveUp])
    exact ⟨rfl, hb1, rfl⟩

set_option maxHeartbeats 400000 in
theorem class_6 (lo : Nat) (t : Ast) (hcls : ∀ x ∈ sidesA t, ClsOk lo x) (ho : (payA t).op = 6) : ClsOk lo t := by
  intro w v h
  have DEM := hide (demand_any lo t hcls 3 w v h)
  obtain ⟨b, sv, rfl, hnode, _⟩ := h.parts
  have c0 := hnode.c0
  rw [ho] at c0
  cases hd : dem 3 (payA t).place ((sidesA t).map clsA) true with
  | none =>
    have hc : clsA t = .ok 3 := by rw [clsA_eq, ho]; exact clsOf_none (c := 3) rfl hd
    rw [hc]
    rw [hd] at DEM
    clear hnode h hc ho hd hcls
    go_enter Tryz.func104, Tryz.ntmps104
    go_wp2_with (go_at_call 148; refine (unhide DEM).mono ?_; rintro e w1 ⟨hb1, h1⟩; subst h1)
    go_ret
    exact ⟨hb1, rfl⟩
  | some q =>
    have hc : clsA t = .err q := by rw [clsA_eq, ho]; exact clsOf_some (c := 3) rfl hd
    rw [hc]
    rw [hd] at DEM
    clear hnode h hc ho hd hcls
    go_enter Tryz.func104, Tryz.ntmps104
    go_wp2_with (go_at_call 148; refine (unhide DEM).mono ?_; rintro e w1 ⟨hb1, h1⟩; subst h1; simp only [gaveUp])
    exact ⟨rfl, hb1, rfl⟩

set_option maxHeartbeats 400000 in
theorem class_7 (lo : Nat) (t : Ast) (hcls : ∀ x ∈ sidesA t, ClsOk lo x) (ho : (payA t).op = 7) : ClsOk lo t := by
  intro w v h
  have DEM := hide (demand_any lo t hcls 3 w v h)
  obtain ⟨b, sv, rfl, hnode, _⟩ := h.parts
  have c0 := hnode.c0
  rw [ho] at c0
  cases hd : dem 3 (payA t).place ((sidesA t).map clsA) true with
  | none =>
    have hc : clsA t = .ok 3 := by rw [clsA_eq, ho]; exact clsOf_none (c := 3) rfl hd
    rw [hc]
    rw [hd] at DEM
    clear hnode h hc ho hd hcls
    go_enter Tryz.func104, Tryz.ntmps104
    go_wp2_with (go_at_call 148; refine (unhide DEM).mono ?_; rintro e w1 ⟨hb1, h1⟩; subst h1)
    go_ret
    exact ⟨hb1, rfl⟩
  | some q =>
    have hc : clsA t = .err q := by rw [clsA_eq, ho]; exact clsOf_some (c := 3) rfl hd
    rw [hc]
    rw [hd] at DEM
    clear hnode h hc ho hd hcls
    go_enter Tryz.func104, Tryz.ntmps104
    go_wp2_with (go_at_call 148; refine (unhide DEM).mono ?_; rintro e w1 ⟨hb1, h1⟩; subst h1; simp only [gaveUp])
    exact ⟨rfl, hb1, rfl⟩

set_option maxHeartbeats 400000 in
theorem class_10 (lo : Nat) (t : Ast) (hcls : ∀ x ∈ sidesA t, ClsOk lo x) (ho : (payA t).op = 10) : ClsOk lo t := by
  intro w v h
  have DEM := hide (demand_any lo t hcls 1 w v h)
  obtain ⟨b, sv, rfl, hnode, _⟩ := h.parts
  have c0 := hnode.c0
  rw [ho] at c0
  cases hd : dem 1 (payA t).place ((sidesA t).map clsA) true with
  | none =>
    have hc : clsA t = .ok 3 := by rw [clsA_eq, ho]; exact clsOf_none (c := 3) rfl hd
    rw [hc]
    rw [hd] at DEM
    clear hnode h hc ho hd hcls
    go_enter Tryz.func104, Tryz.ntmps104
    go_wp2_with (go_at_call 148; refine (unhide DEM).mono ?_; rintro e w1 ⟨hb1, h1⟩; subst h1)
    go_ret
    exact ⟨hb1, rfl⟩
  | some q =>
    have hc : clsA t = .err q := by rw [clsA_eq, ho]; exact clsOf_some (c := 3) rfl hd
    rw [hc]
    rw [hd] at DEM
    clear hnode h hc ho hd hcls
    go_enter Tryz.func104, Tryz.ntmps104
    go_wp2_with (go_at_call 148; refine (unhide DEM).mono ?_; rintro e w1 ⟨hb1, h1⟩; subst h1; simp only [gaveUp])
    exact ⟨rfl, hb1, rfl⟩

set_option maxHeartbeats 400000 in
theorem class_11 (lo : Nat) (t : Ast) (hcls : ∀ x ∈ sidesA t, ClsOk lo x) (ho : (payA t).op = 11) : ClsOk lo t := by
  intro w v h
  have DEM := hide (demand_any lo t hcls 1 w v h)
  obtain ⟨b, sv, rfl, hnode, _⟩ := h.parts
  have c0 := hnode.c0
  rw [ho] at c0
  cases hd : dem 1 (payA t).place ((sidesA t).map clsA) true with
  | none =>
    have hc : clsA t = .ok 3 := by rw [clsA_eq, ho]; exact clsOf_none (c := 3) rfl hd
    rw [hc]
    rw [hd] at DEM
    clear hnode h hc ho hd hcls
    go_enter Tryz.func104, Tryz.ntmps104
    go_wp2_with (go_at_call 148; refine (unhide DEM).mono ?_; rintro e w1 ⟨hb1, h1⟩; subst h1)
    go_ret
    exact ⟨hb1, rfl⟩
  | some q =>
    have hc : clsA t = .err q := by rw [clsA_eq, ho]; exact clsOf_some (c := 3) rfl hd
    rw [hc]
    rw [hd] at DEM
    clear hnode h hc ho hd hcls
    go_enter Tryz.func104, Tryz.ntmps104
    go_wp2_with (go_at_call 148; refine (unhide DEM).mono ?_; rintro e w1 ⟨hb1, h1⟩; subst h1; simp only [gaveUp])
    exact ⟨rfl, hb1, rfl⟩

set_option maxHeartbeats 400000 in
theorem class_12 (lo : Nat) (t : Ast) (hcls : ∀ x ∈ sidesA t, ClsOk lo x) (ho : (payA t).op = 12) : ClsOk lo t := by
  intro w v h
  have DEM := hide (demand_any lo t hcls 1 w v h)
  obtain ⟨b, sv, rfl, hnode, _⟩ := h.parts
  have c0 := hnode.c0
  rw [ho] at c0
  cases hd : dem 1 (payA t).place ((sidesA t).map clsA) true with
  | none =>
    have hc : clsA t = .ok 3 := by rw [clsA_eq, ho]; exact clsOf_none (c := 3) rfl hd
    rw [hc]
    rw [hd] at DEM
    clear hnode h hc ho hd hcls
    go_enter Tryz.func104, Tryz.ntmps104
    go_wp2_with (go_at_call 148; refine (unhide DEM).mono ?_; rintro e w1 ⟨hb1, h1⟩; subst h1)
    go_ret
    exact ⟨hb1, rfl⟩
  | some q =>
    have hc : clsA t = .err q := by rw [clsA_eq, ho]; exact clsOf_some (c := 3) rfl hd
    rw [hc]
    rw [hd] at DEM
    clear hnode h hc ho hd hcls
    go_enter Tryz.func104, Tryz.ntmps104
    go_wp2_with (go_at_call 148; refine (unhide DEM).mono ?_; rintro e w1 ⟨hb1, h1⟩; subst h1; simp only [gaveUp])
    exact ⟨rfl, hb1, rfl⟩

set_option maxHeartbeats 400000 in
theorem class_13 (lo : Nat) (t : Ast) (hcls : ∀ x ∈ sidesA t, ClsOk lo x) (ho : (payA t).op = 13) : ClsOk lo t := by
  intro w v h
  have DEM := hide (demand_any lo t hcls 1 w v h)
  obtain ⟨b, sv, rfl, hnode, _⟩ := h.parts
  have c0 := hnode.c0
  rw [ho] at c0
  cases hd : dem 1 (payA t).place ((sidesA t).map clsA) true with
  | none =>
    have hc : clsA t = .ok 3 := by rw [clsA_eq, ho]; exact clsOf_none (c := 3) rfl hd
    rw [hc]
    rw [hd] at DEM
    clear hnode h hc ho hd hcls
    go_enter Tryz.func104, Tryz.ntmps104
    go_wp2_with (go_at_call 148; refine (unhide DEM).mono ?_; rintro e w1 ⟨hb1, h1⟩; subst h1)
    go_ret
    exact ⟨hb1, rfl⟩
  | some q =>
    have hc : clsA t = .err q := by rw [clsA_eq, ho]; exact clsOf_some (c := 3) rfl hd
    rw [hc]
    rw [hd] at DEM
    clear hnode h hc ho hd hcls
    go_enter Tryz.func104, Tryz.ntmps104
    go_wp2_with (go_at_call 148; refine (unhide DEM).mono ?_; rintro e w1 ⟨hb1, h1⟩; subst h1; simp only [gaveUp])
    exact ⟨rfl, hb1, rfl⟩

set_option maxHeartbeats 400000 in
theorem class_20 (lo : Nat) (t : Ast) (hcls : ∀ x ∈ sidesA t, ClsOk lo x) (ho : (payA t).op = 20) : ClsOk lo t := by
  intro w v h
  have DEM := hide (demand_any lo t hcls 1 w v h)
  obtain ⟨b, sv, rfl, hnode, _⟩ := h.parts
  have c0 := hnode.c0
  rw [ho] at c0
  cases hd : dem 1 (payA t).place ((sidesA t).map clsA) true with
  | none =>
    have hc : clsA t = .ok 3 := by rw [clsA_eq, ho]; exact clsOf_none (c := 3) rfl hd
    rw [hc]
    rw [hd] at DEM
    clear hnode h hc ho hd hcls
    go_enter Tryz.func104, Tryz.ntmps104
    go_wp2_with (go_at_call 148; refine (unhide DEM).mono ?_; rintro e w1 ⟨hb1, h1⟩; subst h1)
    go_ret
    exact ⟨hb1, rfl⟩
  | some q =>
    have hc : clsA t = .err q := by rw [clsA_eq, ho]; exact clsOf_some (c := 3) rfl hd
    rw [hc]
    rw [hd] at DEM
    clear hnode h hc ho hd hcls
    go_enter Tryz.func104, Tryz.ntmps104
    go_wp2_with (go_at_call 148; refine (unhide DEM).mono ?_; rintro e w1 ⟨hb1, h1⟩; subst h1; simp only [gaveUp])
    exact ⟨rfl, hb1, rfl⟩

set_option maxHeartbeats 400000 in
theorem class_14 (lo : Nat) (t : Ast) (hcls : ∀ x ∈ sidesA t, ClsOk lo x) (ho : (payA t).op = 14) : ClsOk lo t := by
  intro w v h
  have DEM := hide (demand_any lo t hcls 1 w v h)
  obtain ⟨b, sv, rfl, hnode, _⟩ := h.parts
  have c0 := hnode.c0
  rw [ho] at c0
  cases hd : dem 1 (payA t).place ((sidesA t).map clsA) true with
  | none =>
    have hc : clsA t = .ok 1 := by rw [clsA_eq, ho]; exact clsOf_none (c := 1) rfl hd
    rw [hc]
    rw [hd] at DEM
    clear hnode h hc ho hd hcls
    go_enter Tryz.func104, Tryz.ntmps104
    go_wp2_with (go_at_call 148; refine (unhide DEM).mono ?_; rintro e w1 ⟨hb1, h1⟩; subst h1)
    go_ret
    exact ⟨hb1, rfl⟩
  | some q =>
    have hc : clsA t = .err q := by rw [clsA_eq, ho]; exact clsOf_some (c := 1) rfl hd
    rw [hc]
    rw [hd] at DEM
    clear hnode h hc ho hd hcls
    go_enter Tryz.func104, Tryz.ntmps104
    go_wp2_with (go_at_call 148; refine (unhide DEM).mono ?_; rintro e w1 ⟨hb1, h1⟩; subst h1; simp only [gaveUp])
    exact ⟨rfl, hb1, rfl⟩

set_option maxHeartbeats 400000 in
theorem class_15 (lo : Nat) (t : Ast) (hcls : ∀ x ∈ sidesA t, ClsOk lo x) (ho : (payA t).op = 15) : ClsOk lo t := by
  intro w v h
  have DEM := hide (demand_any lo t hcls 1 w v h)
  obtain ⟨b, sv, rfl, hnode, _⟩ := h.parts
  have c0 := hnode.c0
  rw [ho] at c0
  cases hd : dem 1 (payA t).place ((sidesA t).map clsA) true with
  | none =>
    have hc : clsA t = .ok 1 := by rw [clsA_eq, ho]; exact clsOf_none (c := 1) rfl hd
    rw [hc]
    rw [hd] at DEM
    clear hnode h hc ho hd hcls
    go_enter Tryz.func104, Tryz.ntmps104
    go_wp2_with (go_at_call 148; refine (unhide DEM).mono ?_; rintro e w1 ⟨hb1, h1⟩; subst h1)
    go_ret
    exact ⟨hb1, rfl⟩
  | some q =>
    have hc : clsA t = .err q := by rw [clsA_eq, ho]; exact clsOf_some (c := 1) rfl hd
    rw [hc]
    rw [hd] at DEM
    clear hnode h hc ho hd hcls
    go_enter Tryz.func104, Tryz.ntmps104
    go_wp2_with (go_at_call 148; refine (unhide DEM).mono ?_; rintro e w1 ⟨hb1, h1⟩; subst h1; simp only [gaveUp])
    exact ⟨rfl, hb1, rfl⟩

set_option maxHeartbeats 400000 in
theorem class_16 (lo : Nat) (t : Ast) (hcls : ∀ x ∈ sidesA t, ClsOk lo x) (ho : (payA t).op = 16) : ClsOk lo t := by
  intro w v h
  have DEM := hide (demand_any lo t hcls 1 w v h)
  obtain ⟨b, sv, rfl, hnode, _⟩ := h.parts
  have c0 := hnode.c0
  rw [ho] at c0
  cases hd : dem 1 (payA t).place ((sidesA t).map clsA) true with
  | none =>
    have hc : clsA t = .ok 1 := by rw [clsA_eq, ho]; exact clsOf_none (c := 1) rfl hd
    rw [hc]
    rw [hd] at DEM
    clear hnode h hc ho hd hcls
    go_enter Tryz.func104, Tryz.ntmps104
    go_wp2_with (go_at_call 148; refine (unhide DEM).mono ?_; rintro e w1 ⟨hb1, h1⟩; subst h1)
    go_ret
    exact ⟨hb1, rfl⟩
  | some q =>
    have hc : clsA t = .err q := by rw [clsA_eq, ho]; exact clsOf_some (c := 1) rfl hd
    rw [hc]
    rw [hd] at DEM
    clear hnode h hc ho hd hcls
    go_enter Tryz.func104, Tryz.ntmps104
    go_wp2_with (go_at_call 148; refine (unhide DEM).mono ?_; rintro e w1 ⟨hb1, h1⟩; subst h1; simp only [gaveUp])
    exact ⟨rfl, hb1, rfl⟩

set_option maxHeartbeats 400000 in
theorem class_17 (lo : Nat) (t : Ast) (hcls : ∀ x ∈ sidesA t, ClsOk lo x) (ho : (payA t).op = 17) : ClsOk lo t := by
  intro w v h
  have DEM := hide (demand_any lo t hcls 1 w v h)
  obtain ⟨b, sv, rfl, hnode, _⟩ := h.parts
  have c0 := hnode.c0
  rw [ho] at c0
  cases hd : dem 1 (payA t).place ((sidesA t).map clsA) true with
  | none =>
    have hc : clsA t = .ok 1 := by rw [clsA_eq, ho]; exact clsOf_none (c := 1) rfl hd
    rw [hc]
    rw [hd] at DEM
    clear hnode h hc ho hd hcls
    go_enter Tryz.func104, Tryz.ntmps104
    go_wp2_with (go_at_call 148; refine (unhide DEM).mono ?_; rintro e w1 ⟨hb1, h1⟩; subst h1)
    go_ret
    exact ⟨hb1, rfl⟩
  | some q =>
    have hc : clsA t = .err q := by rw [clsA_eq, ho]; exact clsOf_some (c := 1) rfl hd
    rw [hc]
    rw [hd] at DEM
    clear hnode h hc ho hd hcls
    go_enter Tryz.func104, Tryz.ntmps104
    go_wp2_with (go_at_call 148; refine (unhide DEM).mono ?_; rintro e w1 ⟨hb1, h1⟩; subst h1; simp only [gaveUp])
    exact ⟨rfl, hb1, rfl⟩

set_option maxHeartbeats 400000 in
theorem class_18 (lo : Nat) (t : Ast) (hcls : ∀ x ∈ sidesA t, ClsOk lo x) (ho : (payA t).op = 18) : ClsOk lo t := by
  intro w v h
  have DEM := hide (demand_any lo t hcls 1 w v h)
  obtain ⟨b, sv, rfl, hnode, _⟩ := h.parts
  have c0 := hnode.c0
  rw [ho] at c0
  cases hd : dem 1 (payA t).place ((sidesA t).map clsA) true with
  | none =>
    have hc : clsA t = .ok 1 := by rw [clsA_eq, ho]; exact clsOf_none (c := 1) rfl hd
    rw [hc]
    rw [hd] at DEM
    clear hnode h hc ho hd hcls
    go_enter Tryz.func104, Tryz.ntmps104
    go_wp2_with (go_at_call 148; refine (unhide DEM).mono ?_; rintro e w1 ⟨hb1, h1⟩; subst h1)
    go_ret
    exact ⟨hb1, rfl⟩
  | some q =>
    have hc : clsA t = .err q := by rw [clsA_eq, ho]; exact clsOf_some (c := 1) rfl hd
    rw [hc]
    rw [hd] at DEM
    clear hnode h hc ho hd hcls
    go_enter Tryz.func104, Tryz.ntmps104
    go_wp2_with (go_at_call 148; refine (unhide DEM).mono ?_; rintro e w1 ⟨hb1, h1⟩; subst h1; simp only [gaveUp])
    exact ⟨rfl, hb1, rfl⟩

set_option maxHeartbeats 400000 in
theorem class_19 (lo : Nat) (t : Ast) (hcls : ∀ x ∈ sidesA t, ClsOk lo x) (ho : (payA t).op = 19) : ClsOk lo t := by
  intro w v h
  have DEM := hide (demand_any lo t hcls 1 w v h)
  obtain ⟨b, sv, rfl, hnode, _⟩ := h.parts
  have c0 := hnode.c0
  rw [ho] at c0
  cases hd : dem 1 (payA t).place ((sidesA t).map clsA) true with
  | none =>
    have hc : clsA t = .ok 1 := by rw [clsA_eq, ho]; exact clsOf_none (c := 1) rfl hd
    rw [hc]
    rw [hd] at DEM
    clear hnode h hc ho hd hcls
    go_enter Tryz.func104, Tryz.ntmps104
    go_wp2_with (go_at_call 148; refine (unhide DEM).mono ?_; rintro e w1 ⟨hb1, h1⟩; subst h1)
    go_ret
    exact ⟨hb1, rfl⟩
  | some q =>
    have hc : clsA t = .err q := by rw [clsA_eq, ho]; exact clsOf_some (c := 1) rfl hd
    rw [hc]
    rw [hd] at DEM
    clear hnode h hc ho hd hcls
    go_enter Tryz.func104, Tryz.ntmps104
    go_wp2_with (go_at_call 148; refine (unhide DEM).mono ?_; rintro e w1 ⟨hb1, h1⟩; subst h1; simp only [gaveUp])
    exact ⟨rfl, hb1, rfl⟩

set_option maxHeartbeats 400000 in
theorem class_8 (lo : Nat) (p : Pay) (x y : Ast) (hx : ClsOk lo x) (hy : ClsOk lo y) (ho : p.op = 8) : ClsOk lo (.bin p x y) := by
  intro w v h
  have ALI := hide (alike_any lo p x y hx hy w v h)
  obtain ⟨b, sv, rfl, hnode, _⟩ := h.parts
  have c0 : w.cell? ⟨b, 0, none⟩ = some (.int .i64 p.op) := hnode.c0
  rw [ho] at c0
  have hc : clsA (.bin p x y) = alikeR p.place (clsA x) (clsA y) := by rw [clsA, ho]; rfl
  rw [hc]
  have h3 : ∀ c, alikeR p.place (clsA x) (clsA y) = .ok c → c = 3 := by
    intro c h
    unfold alikeR at h
    split at h
    · cases h
    · cases h
    · split at h
      · cases h
      · injection h with h; exact h.symm
  obtain ⟨r, hr⟩ : ∃ r, alikeR p.place (clsA x) (clsA y) = r := ⟨_, rfl⟩
  rw [hr] at ALI h3 ⊢
  clear hnode h hc ho hr hx hy
  cases r with
  | ok c =>
    obtain rfl := h3 c rfl
    clear h3
    go_enter Tryz.func104, Tryz.ntmps104
    go_wp2_with (go_at_call 149; refine (unhide ALI).mono ?_; rintro e w1 ⟨hb1, h1⟩; subst h1)
    go_ret
    exact ⟨hb1, rfl⟩
  | err q =>
    clear h3
    go_enter Tryz.func104, Tryz.ntmps104
    go_wp2_with (go_at_call 149; refine (unhide ALI).mono ?_; rintro e w1 ⟨hb1, h1⟩; subst h1; simp only [gaveUp])
    exact ⟨rfl, hb1, rfl⟩

set_option maxHeartbeats 400000 in
theorem class_9 (lo : Nat) (p : Pay) (x y : Ast) (hx : ClsOk lo x) (hy : ClsOk lo y) (ho : p.op = 9) : ClsOk lo (.bin p x y) := by
  intro w v h
  have ALI := hide (alike_any lo p x y hx hy w v h)
  obtain ⟨b, sv, rfl, hnode, _⟩ := h.parts
  have c0 : w.cell? ⟨b, 0, none⟩ = some (.int .i64 p.op) := hnode.c0
  rw [ho] at c0
  have hc : clsA (.bin p x y) = alikeR p.place (clsA x) (clsA y) := by rw [clsA, ho]; rfl
  rw [hc]
  have h3 : ∀ c, alikeR p.place (clsA x) (clsA y) = .ok c → c = 3 := by
    intro c h
    unfold alikeR at h
    split at h
    · cases h
    · cases h
    · split at h
      · cases h
      · injection h with h; exact h.symm
  obtain ⟨r, hr⟩ : ∃ r, alikeR p.place (clsA x) (clsA y) = r := ⟨_, rfl⟩
  rw [hr] at ALI h3 ⊢
  clear hnode h hc ho hr hx hy
  cases r with
  | ok c =>
    obtain rfl := h3 c rfl
    clear h3
    go_enter Tryz.func104, Tryz.ntmps104
    go_wp2_with (go_at_call 149; refine (unhide ALI).mono ?_; rintro e w1 ⟨hb1, h1⟩; subst h1)
    go_ret
    exact ⟨hb1, rfl⟩
  | err q =>
    clear h3
    go_enter Tryz.func104, Tryz.ntmps104
    go_wp2_with (go_at_call 149; refine (unhide ALI).mono ?_; rintro e w1 ⟨hb1, h1⟩; subst h1; simp only [gaveUp])
    exact ⟨rfl, hb1, rfl⟩

set_option maxHeartbeats 400000 in
theorem class_none (lo : Nat) (t : Ast) (h0 : ¬ (payA t).op = 0) (h1 : ¬ (payA t).op = 1) (h2 : ¬ (payA t).op = 2) (h5 : ¬ (payA t).op = 5) (h6 : ¬ (payA t).op = 6) (h7 : ¬ (payA t).op = 7) (h10 : ¬ (payA t).op = 10) (h11 : ¬ (payA t).op = 11) (h12 : ¬ (payA t).op = 12) (h13 : ¬ (payA t).op = 13) (h20 : ¬ (payA t).op = 20) (h14 : ¬ (payA t).op = 14) (h15 : ¬ (payA t).op = 15) (h16 : ¬ (payA t).op = 16) (h17 : ¬ (payA t).op = 17) (h18 : ¬ (payA t).op = 18) (h19 : ¬ (payA t).op = 19) (h8 : ¬ (payA t).op = 8) (h9 : ¬ (payA t).op = 9) : ClsOk lo t := by
  intro w v h
  have e0 : ((payA t).op == 0) = false := beq_eq_false_iff_ne.2 h0
  have e1 : ((payA t).op == 1) = false := beq_eq_false_iff_ne.2 h1
  have e2 : ((payA t).op == 2) = false := beq_eq_false_iff_ne.2 h2
  have e5 : ((payA t).op == 5) = false := beq_eq_false_iff_ne.2 h5
  have e6 : ((payA t).op == 6) = false := beq_eq_false_iff_ne.2 h6
  have e7 : ((payA t).op == 7) = false := beq_eq_false_iff_ne.2 h7
  have e10 : ((payA t).op == 10) = false := beq_eq_false_iff_ne.2 h10
  have e11 : ((payA t).op == 11) = false := beq_eq_false_iff_ne.2 h11
  have e12 : ((payA t).op == 12) = false := beq_eq_false_iff_ne.2 h12
  have e13 : ((payA t).op == 13) = false := beq_eq_false_iff_ne.2 h13
  have e20 : ((payA t).op == 20) = false := beq_eq_false_iff_ne.2 h20
  have e14 : ((payA t).op == 14) = false := beq_eq_false_iff_ne.2 h14
  have e15 : ((payA t).op == 15) = false := beq_eq_false_iff_ne.2 h15
  have e16 : ((payA t).op == 16) = false := beq_eq_false_iff_ne.2 h16
  have e17 : ((payA t).op == 17) = false := beq_eq_false_iff_ne.2 h17
  have e18 : ((payA t).op == 18) = false := beq_eq_false_iff_ne.2 h18
  have e19 : ((payA t).op == 19) = false := beq_eq_false_iff_ne.2 h19
  have e8 : ((payA t).op == 8) = false := beq_eq_false_iff_ne.2 h8
  have e9 : ((payA t).op == 9) = false := beq_eq_false_iff_ne.2 h9
  have hc : clsA t = .ok 3 := by rw [clsA_eq]; simp only [clsOf, e0, e1, e2, e5, e6, e7, e10, e11, e12, e13, e20, e14, e15, e16, e17, e18, e19, e8, e9, Bool.or_self, Bool.false_eq_true, if_false]
  rw [hc]
  obtain ⟨b, sv, rfl, hnode, _⟩ := h.parts
  have c0 := hnode.c0
  clear hnode h hc h0 h1 h2 h5 h6 h7 h10 h11 h12 h13 h20 h14 h15 h16 h17 h18 h19 h8 h9
  go_enter Tryz.func104, Tryz.ntmps104
  go_wp2_with fail
  go_ret
  exact ⟨Below.refl _ _, rfl⟩

theorem class_step (lo : Nat) (t : Ast) (hwf : WfA t) (hcls : ∀ x ∈ sidesA t, ClsOk lo x) : ClsOk lo t := by
  by_cases h0 : (payA t).op = 0
  · exact class_0 lo t h0
  by_cases h1 : (payA t).op = 1
  · exact class_1 lo t h1
  by_cases h2 : (payA t).op = 2
  · exact class_2 lo t h2
  by_cases h5 : (payA t).op = 5
  · exact class_5 lo t hcls h5
  by_cases h6 : (payA t).op = 6
  · exact class_6 lo t hcls h6
  by_cases h7 : (payA t).op = 7
  · exact class_7 lo t hcls h7
  by_cases h10 : (payA t).op = 10
  · exact class_10 lo t hcls h10
  by_cases h11 : (payA t).op = 11
  · exact class_11 lo t hcls h11
  by_cases h12 : (payA t).op = 12
  · exact class_12 lo t hcls h12
  by_cases h13 : (payA t).op = 13
  · exact class_13 lo t hcls h13
  by_cases h20 : (payA t).op = 20
  · exact class_20 lo t hcls h20
  by_cases h14 : (payA t).op = 14
  · exact class_14 lo t hcls h14
  by_cases h15 : (payA t).op = 15
  · exact class_15 lo t hcls h15
  by_cases h16 : (payA t).op = 16
  · exact class_16 lo t hcls h16
  by_cases h17 : (payA t).op = 17
  · exact class_17 lo t hcls h17
  by_cases h18 : (payA t).op = 18
  · exact class_18 lo t hcls h18
  by_cases h19 : (payA t).op = 19
  · exact class_19 lo t hcls h19
  by_cases h8 : (payA t).op = 8
  · cases t with
    | leaf p => exact absurd h8 hwf.1
    | un p x => exact absurd h8 hwf.1.1
    | bin p x y => exact class_8 lo p x y (hcls x (by simp [sidesA])) (hcls y (by simp [sidesA])) h8
    | tri p x y z => exact absurd h8 hwf.1.1
  by_cases h9 : (payA t).op = 9
  · cases t with
    | leaf p => exact absurd h9 hwf.2
    | un p x => exact absurd h9 hwf.1.2
    | bin p x y => exact class_9 lo p x y (hcls x (by simp [sidesA])) (hcls y (by simp [sidesA])) h9
    | tri p x y z => exact absurd h9 hwf.1.2
  exact class_none lo t h0 h1 h2 h5 h6 h7 h10 h11 h12 h13 h20 h14 h15 h16 h17 h18 h19 h8 h9

theorem class_all (lo : Nat) : ∀ t, WfA t → ClsOk lo t := by
  intro t
  induction t with
  | leaf p => intro h; exact class_step lo _ h (fun x hx => by simp [sidesA] at hx)
  | un p x ih => intro h; exact class_step lo _ h (fun y hy => by simp [sidesA] at hy; subst hy; exact ih h.2)
  | bin p x y ihx ihy => intro h; exact class_step lo _ h (fun z hz => by simp [sidesA] at hz; rcases hz with rfl | rfl; exact ihx h.1; exact ihy h.2)
  | tri p x y z ihx ihy ihz => intro h; exact class_step lo _ h (fun u hu => by simp [sidesA] at hu; rcases hu with rfl | rfl | rfl; exact ihx h.2.1; exact ihy h.2.2.1; exact ihz h.2.2.2)

set_option maxHeartbeats 400000 in
theorem check_any (lo : Nat) (t : Ast) (hwf : WfA t) (w : World) (v : Value) (h : IsNode lo w v t) :
    Calls Tryz.prog 57 #[v] w (DemEnds w (chkR (clsA t))) := by
  have CLS := hide (class_all lo t hwf w v h)
  obtain ⟨b, rfl⟩ := h.ptr
  clear h hwf
  cases hc : clsA t with
  | err q =>
    rw [hc] at CLS
    clear hc
    go_enter Tryz.func57, Tryz.ntmps57
    go_wp2_with (go_at_call 104; refine (unhide CLS).mono ?_; rintro e w1 ⟨hb1, h1⟩; subst h1; simp only [gaveUp])
    exact ⟨rfl, hb1, rfl⟩
  | ok c =>
    rw [hc] at CLS
    clear hc
    cases h1 : (c != 3) <;> cases h2 : (c != 0)
    all_goals
      rw [chkR, h1, h2]
      simp only [Bool.and_true, Bool.and_false, Bool.and_self, Bool.false_eq_true, if_false, if_true]
      go_enter Tryz.func57, Tryz.ntmps57
      go_wp2_with (go_at_call 104; refine (unhide CLS).mono ?_; rintro e w1 ⟨hb1, h1⟩; subst h1)
      first | exact ⟨rfl, hb1, rfl⟩ | (go_end0; exact ⟨hb1, rfl⟩)
end

section
theorem join_all (op : Int) (h14 : ¬ op = 14) (h15 : ¬ op = 15) (x y : V) (hx : Rng x.num) (hy : Rng y.num) : JoinOk op x y (joinV op x y) := by
  by_cases h5 : op = 5
  · subst h5; exact join_5 x y
  by_cases h6 : op = 6
  · subst h6; exact join_6 x y
  by_cases h7 : op = 7
  · subst h7; exact join_7 x y
  by_cases h8 : op = 8
  · subst h8; exact join_8 x y
  by_cases h9 : op = 9
  · subst h9; exact join_9 x y
  by_cases h12 : op = 12
  · subst h12; exact join_12 x y
  by_cases h10 : op = 10
  · subst h10; exact join_10 x y
  by_cases h13 : op = 13
  · subst h13; exact join_13 x y
  by_cases h11 : op = 11
  · subst h11; exact join_11 x y
  by_cases h16 : op = 16
  · subst h16; exact join_16 x y hx hy
  by_cases h17 : op = 17
  · subst h17; exact join_17 x y hx hy
  by_cases h18 : op = 18
  · subst h18; exact join_18 x y hx hy
  by_cases h19 : op = 19
  · subst h19; exact join_19 x y hx
  have hr : joinV op x y = bV (x.kind == 0) := by
    rw [joinV, if_neg h5, if_neg h6, if_neg h7, if_neg h8, if_neg h9, if_neg h12, if_neg h10, if_neg h13, if_neg h11, if_neg h14, if_neg h16, if_neg h15, if_neg h17, if_neg h18, if_neg h19]
  rw [hr]
  exact join_none op x y h5 h6 h7 h8 h9 h12 h10 h13 h11 h14 h16 h15 h17 h18 h19
end

end Go.Proofs.YtfkcaldjphakpaaGreatDoor
