/- Read's deferred function. What Read says of a text. class, checkClasses. Reading a list of tokens, places left out; it goes as reading a text goes. Reading a list of tokens goes as reading a text goes: rows, signs, groups. Reading a list of tokens goes as reading a text goes: the rest. Reading a list of tokens goes as reading a text goes: tests, and all levels. All of Join but for the signs. -/
import Derived.Test.YtfkcaldjphakpabGreatDoorP11
import Derived.Defers
import Derived.Recover
import Derived.Laws.Pointers
import Derived.Test.YtfkcaldjphakpabGreatDoorP14
import Derived.Test.YtfkcaldjphakpabGreatDoorZCl3
namespace Go.Proofs.YtfkcaldjphakpabGreatDoor
open Go.RowKit
section
set_option maxHeartbeats 1000000 in
theorem jw9 (p0 p1 p2 : Addr) (w : World) :
    CallsD Tryz.prog 54 #[.pointer (some p0), .pointer (some p1), .pointer (some p2)] .returning w fun e u' w' => e = .returned (.tuple #[]) ∧ u' = .returning ∧ w' = w := by
  refine callsD_of_wpS Tryz.func54 rfl fun c₀ cs hu => ?_
  apply wpS_seq
  apply wpS_region
  simp [wpOpsS, go_sem, recoverD, hu, Tryz.ntmps54, Exit.thenS]
  refine wpS_of_wp ?_
  rw [show (#[Value.pointer (some p0), Value.pointer (some p1), Value.pointer (some p2)] ++ (Array.replicate 13 undef).setIfInBounds 3 Value.nilIface) = #[Value.pointer (some p0), Value.pointer (some p1), Value.pointer (some p2), undef, undef, undef, Value.nilIface, undef, undef, undef, undef, undef, undef, undef, undef, undef] from rfl]
  go_wp2_with fail
  refine ⟨rfl, .returning, ?_, _, results_none rfl _ _ _, rfl, rfl, rfl⟩
  cases c₀
  simp_all
theorem as_fault (v : Value) (w : World) : (Instr.typeAssert (.iface 124 v) 20 124 true).run Tryz.prog w = .ok (.tuple #[v, .bool true]) w := by kernel_rfl
theorem eq_fault (v : Value) (w : World) : (binOp .eql 20 (.iface 124 v) .nilIface).run Tryz.prog w = .ok (.bool false) w := by kernel_rfl
set_option maxHeartbeats 1000000 in
theorem qq9 (B : Nat) (x0 x1 x2 : Value) (en pl : Int) (older : List PanicEntry) (w : World) (hB : B + 2 < w.heap.size) (h0 : w.cell? ⟨B, 0, none⟩ = some x0) (h1 : w.cell? ⟨B + 1, 0, none⟩ = some x1) (h2 : w.cell? ⟨B + 2, 0, none⟩ = some x2)
    (f0 : w.frozen? ⟨B, 0, none⟩ = false) (f1 : w.frozen? ⟨B + 1, 0, none⟩ = false) (f2 : w.frozen? ⟨B + 2, 0, none⟩ = false) :
    CallsD Tryz.prog 54 #[.pointer (some ⟨B, 0, none⟩), .pointer (some ⟨B + 1, 0, none⟩), .pointer (some ⟨B + 2, 0, none⟩)] (.panicking ({ v := .iface 124 (.agg #[.int .i64 en, .int .i64 pl]), recovered := false } :: older)) w fun e u' w' =>
      e = .returned (.tuple #[]) ∧ u' = .panicking ({ v := .iface 124 (.agg #[.int .i64 en, .int .i64 pl]), recovered := true } :: older) ∧
      w'.cell? ⟨B, 0, none⟩ = some (.pointer none) ∧ w'.cell? ⟨B + 1, 0, none⟩ = some (.int .i64 en) ∧ w'.cell? ⟨B + 2, 0, none⟩ = some (.int .i64 pl) ∧ Below B w w' := by
  refine callsD_of_wpS Tryz.func54 rfl fun c₀ cs hu => ?_
  apply wpS_seq
  apply wpS_region
  simp [wpOpsS, go_sem, recoverD, hu, Tryz.ntmps54, Exit.thenS]
  refine wpS_of_wp ?_
  rw [show (#[Value.pointer (some ⟨B, 0, none⟩), Value.pointer (some ⟨B + 1, 0, none⟩), Value.pointer (some ⟨B + 2, 0, none⟩)] ++ (Array.replicate 13 undef).setIfInBounds 3 (.iface 124 (.agg #[.int .i64 en, .int .i64 pl]))) = #[Value.pointer (some ⟨B, 0, none⟩), Value.pointer (some ⟨B + 1, 0, none⟩), Value.pointer (some ⟨B + 2, 0, none⟩), undef, undef, undef, .iface 124 (.agg #[.int .i64 en, .int .i64 pl]), undef, undef, undef, undef, undef, undef, undef, undef, undef] from rfl]
  have ha := as_fault
  have hq := eq_fault
  have n0 : B < w.heap.size := by omega
  have n1 : B + 1 < w.heap.size := by omega
  have m0 : ¬ w.heap.size = B := by omega
  have m1 : ¬ w.heap.size = B + 1 := by omega
  have m2 : ¬ w.heap.size = B + 2 := by omega
  go_wp2_with fail
  go_region
  all_goals refine ⟨rfl, .panicking ({ v := .iface 124 (.agg #[.int .i64 en, .int .i64 pl]), recovered := true } :: older), ?_, _, results_none rfl _ _ _, rfl, rfl, ?_, ?_, ?_, ?_⟩
  · cases c₀
    simp_all
  · rw [World.cell?_drew, World.cell?_alloc_past _ _ _ (by simp; omega)]; simp [go_sem, h0]
  · rw [World.cell?_drew, World.cell?_alloc_past _ _ _ (by simp; omega)]; simp [go_sem, h1]
  · rw [World.cell?_drew, World.cell?_alloc_past _ _ _ (by simp; omega)]; simp [go_sem, h2]
  · exact (((((Below.refl B w).setCell (Nat.le_refl _) _).setCell (by simp) _).setCell (by simp) _).alloc (by simp; omega) _).drew
end
section
structure Above (lo : Nat) (w w' : World) : Prop where
  size : w.heap.size ≤ w'.heap.size
  block : ∀ k, lo < k → k < w.heap.size → w'.heap[k]? = w.heap[k]?
theorem Kept.above {rb : Nat} {w w' : World} (h : Kept rb w w') : Above rb w w' := ⟨h.size, fun k h1 h2 => h.block k h2 (by omega)⟩
theorem Above.trans {lo : Nat} {a b c : World} (h : Above lo a b) (k : Above lo b c) : Above lo a c := ⟨Nat.le_trans h.size k.size, fun i h1 h2 => (k.block i h1 (Nat.lt_of_lt_of_le h2 h.size)).trans (h.block i h1 h2)⟩
theorem Above.setCell {lo : Nat} {a w : World} (h : Above lo a w) {p : Addr} (hp : p.block ≤ lo) (u : Value) : Above lo a (w.setCell p u) := by
  refine ⟨by rw [y4]; exact h.size, fun k h1 h2 => ?_⟩
  rw [Below.heap_setCell w p u k (by omega)]; exact h.block k h1 h2
theorem Above.cell {lo : Nat} {w w' : World} (h : Above lo w w') {g : Nat} (h1 : lo < g) (h2 : g < w.heap.size) (j : Nat) : w'.cell? ⟨g, j, none⟩ = w.cell? ⟨g, j, none⟩ :=
  World.cell?_of_block (w := w) (w' := w') (a := ⟨g, j, none⟩) (h.block g h1 h2)
theorem TextsAt.keptA {lo : Nat} {w w' : World} (hk : Above lo w w') {v : Value} {ts : List (List UInt8)} (h : TextsAt lo w v ts) : TextsAt lo w' v ts := by
  rcases h with h | ⟨g, cap, hv, hg, hg2, hc⟩
  · exact .inl h
  · exact .inr ⟨g, cap, hv, hg, Nat.lt_of_lt_of_le hg2 hk.size, fun j t ht => (hk.cell hg hg2 j).trans (hc j t ht)⟩
theorem NodeAt.keptA {lo : Nat} {w w' : World} (hk : Above lo w w') {b : Nat} {p : Pay} {sides : Value} (h : NodeAt lo w b p sides) : NodeAt lo w' b p sides := by
  obtain ⟨h1, h2, c0, c1, c2, c3, c4, c5, tv, c6, ht⟩ := h
  have hc := fun j => hk.cell h1 h2 j
  exact ⟨h1, Nat.lt_of_lt_of_le h2 hk.size, (hc 0).trans c0, (hc 1).trans c1, (hc 2).trans c2, (hc 3).trans c3, (hc 4).trans c4, (hc 5).trans c5, tv, (hc 6).trans c6, ht.keptA hk⟩
theorem IsNode.above {lo : Nat} {w w' : World} (hk : Above lo w w') : ∀ {t : Ast} {v : Value}, IsNode lo w v t → IsNode lo w' v t := by
  have hc := fun g j (h1 : lo < g) (h2 : g < w.heap.size) => hk.cell h1 h2 j
  intro t
  induction t with
  | leaf p => rintro v ⟨b, rfl, h⟩; exact ⟨b, rfl, h.keptA hk⟩
  | un p x ih =>
    rintro v ⟨b, g, v1, rfl, h, h1, h2, e1, n1⟩
    exact ⟨b, g, v1, rfl, h.keptA hk, h1, Nat.lt_of_lt_of_le h2 hk.size, (hc g 0 h1 h2).trans e1, ih n1⟩
  | bin p x y ihx ihy =>
    rintro v ⟨b, g, v1, v2, rfl, h, h1, h2, e1, e2, n1, n2⟩
    exact ⟨b, g, v1, v2, rfl, h.keptA hk, h1, Nat.lt_of_lt_of_le h2 hk.size, (hc g 0 h1 h2).trans e1, (hc g 1 h1 h2).trans e2, ihx n1, ihy n2⟩
  | tri p x y z ihx ihy ihz =>
    rintro v ⟨b, g, v1, v2, v3, rfl, h, h1, h2, e1, e2, e3, n1, n2, n3⟩
    exact ⟨b, g, v1, v2, v3, rfl, h.keptA hk, h1, Nat.lt_of_lt_of_le h2 hk.size, (hc g 0 h1 h2).trans e1, (hc g 1 h1 h2).trans e2, (hc g 2 h1 h2).trans e3, ihx n1, ihy n2, ihz n3⟩
inductive RRes where
  | ok (t : Ast)
  | err (en pl : Int)
def st0 : St := ⟨⟨0, 0, []⟩, 0, 0, 0⟩
def jy3 (t : Ast) (st : St) : RRes := if st.tk.kind = 0 then (match js9 (qa1 t) with
  | none => .ok t
  | some q => .err 4 q) else .err 2 st.place
def qh5 (s : ByteArray) : RRes := if s.size ≤ 200 then (match (lvl s 12).E (v8 s st0) with
  | .err en pl => .err en pl
  | .ok t st => jy3 t st) else .err 1 0
def qt6 (w : World) (r : RRes) (e : Ending) (w' : World) : Prop := Below w.heap.size w w' ∧ match r with
  | .ok t => ∃ v, e = .returned (.tuple #[v, .int .i64 0, .int .i64 0]) ∧ IsNode (w.heap.size + 3) w' v t
  | .err en pl => e = .returned (.tuple #[.pointer none, .int .i64 en, .int .i64 pl])
theorem Kept.below {rb B : Nat} {a w w' : World} (h : Kept rb w w') (hb : Below B a w) (hB : B ≤ rb) (hz : B ≤ w.heap.size) : Below B a w' :=
  ⟨h.os.trans hb.os, h.tape.trans hb.tape, h.output.trans hb.output, Nat.le_trans hb.size h.size, fun k hk => (h.block k (by omega) (by omega)).trans (hb.block k hk)⟩
def begun (w : World) (s : ByteArray) : World := (((w.alloc (.cells #[.pointer none] 74)).alloc (.cells #[.int .i64 0] 33)).alloc (.cells #[.int .i64 0] 3)).alloc (.cells #[.string s, .int .i64 0, .int .i64 0, .int .i64 0, .string ⟨#[]⟩, .int .i64 0, .int .i64 0] 129)
theorem qh3 (w : World) (s : ByteArray) : (begun w s).heap.size = w.heap.size + 4 := by simp [begun]
theorem jg6 (w : World) (s : ByteArray) : Below w.heap.size w (begun w s) := (qb5 w _ _ _).alloc (by simp; omega) _
theorem jh1 (w : World) (s : ByteArray) : (begun w s).cell? ⟨w.heap.size, 0, none⟩ = some (.pointer none) ∧ (begun w s).cell? ⟨w.heap.size + 1, 0, none⟩ = some (.int .i64 0) ∧ (begun w s).cell? ⟨w.heap.size + 2, 0, none⟩ = some (.int .i64 0) ∧
    (begun w s).frozen? ⟨w.heap.size, 0, none⟩ = false ∧ (begun w s).frozen? ⟨w.heap.size + 1, 0, none⟩ = false ∧ (begun w s).frozen? ⟨w.heap.size + 2, 0, none⟩ = false := by
  unfold begun
  refine ⟨?_, ?_, ?_, ?_, ?_, ?_⟩
  · rw [World.cell?_alloc_past _ _ _ (by simp <;> omega), World.cell?_alloc_past _ _ _ (by simp <;> omega), World.cell?_alloc_past _ _ _ (by simp), World.cell?_alloc_at _ _ _ _ rfl]; rfl
  · rw [World.cell?_alloc_past _ _ _ (by simp <;> omega), World.cell?_alloc_past _ _ _ (by simp), World.cell?_alloc_at _ _ _ _ (by simp)]; rfl
  · rw [World.cell?_alloc_past _ _ _ (by simp), World.cell?_alloc_at _ _ _ _ (by simp)]; rfl
  · rw [World.frozen?_alloc_past _ _ _ (by simp <;> omega), World.frozen?_alloc_past _ _ _ (by simp <;> omega), World.frozen?_alloc_past _ _ _ (by simp), World.frozen?_alloc_at _ _ _ _ rfl]
  · rw [World.frozen?_alloc_past _ _ _ (by simp <;> omega), World.frozen?_alloc_past _ _ _ (by simp), World.frozen?_alloc_at _ _ _ _ (by simp)]
  · rw [World.frozen?_alloc_past _ _ _ (by simp), World.frozen?_alloc_at _ _ _ _ (by simp)]
theorem rd_new (w : World) (s : ByteArray) : RdAt (w.alloc (.cells #[.string s, .int .i64 0, .int .i64 0, .int .i64 0, .string ⟨#[]⟩, .int .i64 0, .int .i64 0] 129)) w.heap.size s st0 :=
  ⟨by simp, by simp [st0], by simp [st0], by simp [st0], by simp [st0, BS], by simp [st0], by simp [st0], fun j => by simp⟩
theorem begun_rd (w : World) (s : ByteArray) : RdAt (begun w s) (w.heap.size + 3) s st0 := by
  have hs : w.heap.size + 3 = (((w.alloc (.cells #[.pointer none] 74)).alloc (.cells #[.int .i64 0] 33)).alloc (.cells #[.int .i64 0] 3)).heap.size := by simp
  rw [hs]
  exact rd_new _ s
theorem jd4 (w : World) (s : ByteArray) (h : ErrOk w) : ErrOk (begun w s) := (((h.alloc _).alloc _).alloc _).alloc _
theorem jh6 (w : World) (s : ByteArray) (h : ErrOk w) (hs : s.size ≤ 200) : Ready (w.heap.size + 3) s (begun w s) st0 :=
  ⟨begun_rd w s, by rw [qh3]; omega, jd4 w s h, by have := h.1; omega, ⟨Nat.zero_le _, Nat.zero_le _, fun h => absurd rfl h⟩, by omega⟩
end
section
theorem qd3 {op pl want c : Int} {rs : List CRes} (h : qs2 op pl rs = vg2 want pl c rs) (hq : dem want pl rs true = none) : qs2 op pl rs = .ok c := by
  rw [h, vg2, hq]
theorem qd4 {op pl want c q : Int} {rs : List CRes} (h : qs2 op pl rs = vg2 want pl c rs) (hq : dem want pl rs true = some q) : qs2 op pl rs = .err q := by
  rw [h, vg2, hq]
set_option maxHeartbeats 400000 in
theorem class_0 (lo : Nat) (t : Ast) (ho : (y9 t).op = 0) : qf3 lo t := by
  intro w v h
  have hc : qa1 t = .ok 0 := by rw [qb7, ho]; rfl
  rw [hc]
  obtain ⟨b, sv, rfl, hnode, _⟩ := h.parts
  have c0 := hnode.c0
  rw [ho] at c0
  clear hnode h hc ho
  go_enter Tryz.func88, Tryz.ntmps88
  go_wp2_with fail
  go_ret
  exact ⟨Below.refl _ _, rfl⟩
set_option maxHeartbeats 400000 in
theorem class_1 (lo : Nat) (t : Ast) (ho : (y9 t).op = 1) : qf3 lo t := by
  intro w v h
  have hc : qa1 t = .ok 1 := by rw [qb7, ho]; rfl
  rw [hc]
  obtain ⟨b, sv, rfl, hnode, _⟩ := h.parts
  have c0 := hnode.c0
  rw [ho] at c0
  clear hnode h hc ho
  go_enter Tryz.func88, Tryz.ntmps88
  go_wp2_with fail
  go_ret
  exact ⟨Below.refl _ _, rfl⟩
set_option maxHeartbeats 400000 in
theorem class_2 (lo : Nat) (t : Ast) (ho : (y9 t).op = 2) : qf3 lo t := by
  intro w v h
  have hc : qa1 t = .ok 2 := by rw [qb7, ho]; rfl
  rw [hc]
  obtain ⟨b, sv, rfl, hnode, _⟩ := h.parts
  have c0 := hnode.c0
  rw [ho] at c0
  clear hnode h hc ho
  go_enter Tryz.func88, Tryz.ntmps88
  go_wp2_with fail
  go_ret
  exact ⟨Below.refl _ _, rfl⟩
set_option maxHeartbeats 400000 in
theorem class_5 (lo : Nat) (t : Ast) (hcls : ∀ x ∈ j3 t, qf3 lo x) (ho : (y9 t).op = 5) : qf3 lo t := by
  intro w v h
  have DEM := v6 (qd2 lo t hcls 3 w v h)
  obtain ⟨b, sv, rfl, hnode, _⟩ := h.parts
  have c0 := hnode.c0
  rw [ho] at c0
  cases hd : dem 3 (y9 t).place ((j3 t).map qa1) true with
  | none =>
    have hc : qa1 t = .ok 3 := by rw [qb7, ho]; exact qd3 (c := 3) rfl hd
    rw [hc]
    rw [hd] at DEM
    clear hnode h hc ho hd hcls
    go_enter Tryz.func88, Tryz.ntmps88
    go_wp2_with (go_at_call 135; refine (q9 DEM).mono ?_; rintro e w1 ⟨hb1, h1⟩; subst h1)
    go_ret
    exact ⟨hb1, rfl⟩
  | some q =>
    have hc : qa1 t = .err q := by rw [qb7, ho]; exact qd4 (c := 3) rfl hd
    rw [hc]
    rw [hd] at DEM
    clear hnode h hc ho hd hcls
    go_enter Tryz.func88, Tryz.ntmps88
    go_wp2_with (go_at_call 135; refine (q9 DEM).mono ?_; rintro e w1 ⟨hb1, h1⟩; subst h1; simp only [x4])
    exact ⟨rfl, hb1, rfl⟩
set_option maxHeartbeats 400000 in
theorem class_6 (lo : Nat) (t : Ast) (hcls : ∀ x ∈ j3 t, qf3 lo x) (ho : (y9 t).op = 6) : qf3 lo t := by
  intro w v h
  have DEM := v6 (qd2 lo t hcls 3 w v h)
  obtain ⟨b, sv, rfl, hnode, _⟩ := h.parts
  have c0 := hnode.c0
  rw [ho] at c0
  cases hd : dem 3 (y9 t).place ((j3 t).map qa1) true with
  | none =>
    have hc : qa1 t = .ok 3 := by rw [qb7, ho]; exact qd3 (c := 3) rfl hd
    rw [hc]
    rw [hd] at DEM
    clear hnode h hc ho hd hcls
    go_enter Tryz.func88, Tryz.ntmps88
    go_wp2_with (go_at_call 135; refine (q9 DEM).mono ?_; rintro e w1 ⟨hb1, h1⟩; subst h1)
    go_ret
    exact ⟨hb1, rfl⟩
  | some q =>
    have hc : qa1 t = .err q := by rw [qb7, ho]; exact qd4 (c := 3) rfl hd
    rw [hc]
    rw [hd] at DEM
    clear hnode h hc ho hd hcls
    go_enter Tryz.func88, Tryz.ntmps88
    go_wp2_with (go_at_call 135; refine (q9 DEM).mono ?_; rintro e w1 ⟨hb1, h1⟩; subst h1; simp only [x4])
    exact ⟨rfl, hb1, rfl⟩
set_option maxHeartbeats 400000 in
theorem class_7 (lo : Nat) (t : Ast) (hcls : ∀ x ∈ j3 t, qf3 lo x) (ho : (y9 t).op = 7) : qf3 lo t := by
  intro w v h
  have DEM := v6 (qd2 lo t hcls 3 w v h)
  obtain ⟨b, sv, rfl, hnode, _⟩ := h.parts
  have c0 := hnode.c0
  rw [ho] at c0
  cases hd : dem 3 (y9 t).place ((j3 t).map qa1) true with
  | none =>
    have hc : qa1 t = .ok 3 := by rw [qb7, ho]; exact qd3 (c := 3) rfl hd
    rw [hc]
    rw [hd] at DEM
    clear hnode h hc ho hd hcls
    go_enter Tryz.func88, Tryz.ntmps88
    go_wp2_with (go_at_call 135; refine (q9 DEM).mono ?_; rintro e w1 ⟨hb1, h1⟩; subst h1)
    go_ret
    exact ⟨hb1, rfl⟩
  | some q =>
    have hc : qa1 t = .err q := by rw [qb7, ho]; exact qd4 (c := 3) rfl hd
    rw [hc]
    rw [hd] at DEM
    clear hnode h hc ho hd hcls
    go_enter Tryz.func88, Tryz.ntmps88
    go_wp2_with (go_at_call 135; refine (q9 DEM).mono ?_; rintro e w1 ⟨hb1, h1⟩; subst h1; simp only [x4])
    exact ⟨rfl, hb1, rfl⟩
set_option maxHeartbeats 400000 in
theorem class_10 (lo : Nat) (t : Ast) (hcls : ∀ x ∈ j3 t, qf3 lo x) (ho : (y9 t).op = 10) : qf3 lo t := by
  intro w v h
  have DEM := v6 (qd2 lo t hcls 1 w v h)
  obtain ⟨b, sv, rfl, hnode, _⟩ := h.parts
  have c0 := hnode.c0
  rw [ho] at c0
  cases hd : dem 1 (y9 t).place ((j3 t).map qa1) true with
  | none =>
    have hc : qa1 t = .ok 3 := by rw [qb7, ho]; exact qd3 (c := 3) rfl hd
    rw [hc]
    rw [hd] at DEM
    clear hnode h hc ho hd hcls
    go_enter Tryz.func88, Tryz.ntmps88
    go_wp2_with (go_at_call 135; refine (q9 DEM).mono ?_; rintro e w1 ⟨hb1, h1⟩; subst h1)
    go_ret
    exact ⟨hb1, rfl⟩
  | some q =>
    have hc : qa1 t = .err q := by rw [qb7, ho]; exact qd4 (c := 3) rfl hd
    rw [hc]
    rw [hd] at DEM
    clear hnode h hc ho hd hcls
    go_enter Tryz.func88, Tryz.ntmps88
    go_wp2_with (go_at_call 135; refine (q9 DEM).mono ?_; rintro e w1 ⟨hb1, h1⟩; subst h1; simp only [x4])
    exact ⟨rfl, hb1, rfl⟩
set_option maxHeartbeats 400000 in
theorem class_11 (lo : Nat) (t : Ast) (hcls : ∀ x ∈ j3 t, qf3 lo x) (ho : (y9 t).op = 11) : qf3 lo t := by
  intro w v h
  have DEM := v6 (qd2 lo t hcls 1 w v h)
  obtain ⟨b, sv, rfl, hnode, _⟩ := h.parts
  have c0 := hnode.c0
  rw [ho] at c0
  cases hd : dem 1 (y9 t).place ((j3 t).map qa1) true with
  | none =>
    have hc : qa1 t = .ok 3 := by rw [qb7, ho]; exact qd3 (c := 3) rfl hd
    rw [hc]
    rw [hd] at DEM
    clear hnode h hc ho hd hcls
    go_enter Tryz.func88, Tryz.ntmps88
    go_wp2_with (go_at_call 135; refine (q9 DEM).mono ?_; rintro e w1 ⟨hb1, h1⟩; subst h1)
    go_ret
    exact ⟨hb1, rfl⟩
  | some q =>
    have hc : qa1 t = .err q := by rw [qb7, ho]; exact qd4 (c := 3) rfl hd
    rw [hc]
    rw [hd] at DEM
    clear hnode h hc ho hd hcls
    go_enter Tryz.func88, Tryz.ntmps88
    go_wp2_with (go_at_call 135; refine (q9 DEM).mono ?_; rintro e w1 ⟨hb1, h1⟩; subst h1; simp only [x4])
    exact ⟨rfl, hb1, rfl⟩
set_option maxHeartbeats 400000 in
theorem class_12 (lo : Nat) (t : Ast) (hcls : ∀ x ∈ j3 t, qf3 lo x) (ho : (y9 t).op = 12) : qf3 lo t := by
  intro w v h
  have DEM := v6 (qd2 lo t hcls 1 w v h)
  obtain ⟨b, sv, rfl, hnode, _⟩ := h.parts
  have c0 := hnode.c0
  rw [ho] at c0
  cases hd : dem 1 (y9 t).place ((j3 t).map qa1) true with
  | none =>
    have hc : qa1 t = .ok 3 := by rw [qb7, ho]; exact qd3 (c := 3) rfl hd
    rw [hc]
    rw [hd] at DEM
    clear hnode h hc ho hd hcls
    go_enter Tryz.func88, Tryz.ntmps88
    go_wp2_with (go_at_call 135; refine (q9 DEM).mono ?_; rintro e w1 ⟨hb1, h1⟩; subst h1)
    go_ret
    exact ⟨hb1, rfl⟩
  | some q =>
    have hc : qa1 t = .err q := by rw [qb7, ho]; exact qd4 (c := 3) rfl hd
    rw [hc]
    rw [hd] at DEM
    clear hnode h hc ho hd hcls
    go_enter Tryz.func88, Tryz.ntmps88
    go_wp2_with (go_at_call 135; refine (q9 DEM).mono ?_; rintro e w1 ⟨hb1, h1⟩; subst h1; simp only [x4])
    exact ⟨rfl, hb1, rfl⟩
set_option maxHeartbeats 400000 in
theorem class_13 (lo : Nat) (t : Ast) (hcls : ∀ x ∈ j3 t, qf3 lo x) (ho : (y9 t).op = 13) : qf3 lo t := by
  intro w v h
  have DEM := v6 (qd2 lo t hcls 1 w v h)
  obtain ⟨b, sv, rfl, hnode, _⟩ := h.parts
  have c0 := hnode.c0
  rw [ho] at c0
  cases hd : dem 1 (y9 t).place ((j3 t).map qa1) true with
  | none =>
    have hc : qa1 t = .ok 3 := by rw [qb7, ho]; exact qd3 (c := 3) rfl hd
    rw [hc]
    rw [hd] at DEM
    clear hnode h hc ho hd hcls
    go_enter Tryz.func88, Tryz.ntmps88
    go_wp2_with (go_at_call 135; refine (q9 DEM).mono ?_; rintro e w1 ⟨hb1, h1⟩; subst h1)
    go_ret
    exact ⟨hb1, rfl⟩
  | some q =>
    have hc : qa1 t = .err q := by rw [qb7, ho]; exact qd4 (c := 3) rfl hd
    rw [hc]
    rw [hd] at DEM
    clear hnode h hc ho hd hcls
    go_enter Tryz.func88, Tryz.ntmps88
    go_wp2_with (go_at_call 135; refine (q9 DEM).mono ?_; rintro e w1 ⟨hb1, h1⟩; subst h1; simp only [x4])
    exact ⟨rfl, hb1, rfl⟩
set_option maxHeartbeats 400000 in
theorem class_20 (lo : Nat) (t : Ast) (hcls : ∀ x ∈ j3 t, qf3 lo x) (ho : (y9 t).op = 20) : qf3 lo t := by
  intro w v h
  have DEM := v6 (qd2 lo t hcls 1 w v h)
  obtain ⟨b, sv, rfl, hnode, _⟩ := h.parts
  have c0 := hnode.c0
  rw [ho] at c0
  cases hd : dem 1 (y9 t).place ((j3 t).map qa1) true with
  | none =>
    have hc : qa1 t = .ok 3 := by rw [qb7, ho]; exact qd3 (c := 3) rfl hd
    rw [hc]
    rw [hd] at DEM
    clear hnode h hc ho hd hcls
    go_enter Tryz.func88, Tryz.ntmps88
    go_wp2_with (go_at_call 135; refine (q9 DEM).mono ?_; rintro e w1 ⟨hb1, h1⟩; subst h1)
    go_ret
    exact ⟨hb1, rfl⟩
  | some q =>
    have hc : qa1 t = .err q := by rw [qb7, ho]; exact qd4 (c := 3) rfl hd
    rw [hc]
    rw [hd] at DEM
    clear hnode h hc ho hd hcls
    go_enter Tryz.func88, Tryz.ntmps88
    go_wp2_with (go_at_call 135; refine (q9 DEM).mono ?_; rintro e w1 ⟨hb1, h1⟩; subst h1; simp only [x4])
    exact ⟨rfl, hb1, rfl⟩
set_option maxHeartbeats 400000 in
theorem class_14 (lo : Nat) (t : Ast) (hcls : ∀ x ∈ j3 t, qf3 lo x) (ho : (y9 t).op = 14) : qf3 lo t := by
  intro w v h
  have DEM := v6 (qd2 lo t hcls 1 w v h)
  obtain ⟨b, sv, rfl, hnode, _⟩ := h.parts
  have c0 := hnode.c0
  rw [ho] at c0
  cases hd : dem 1 (y9 t).place ((j3 t).map qa1) true with
  | none =>
    have hc : qa1 t = .ok 1 := by rw [qb7, ho]; exact qd3 (c := 1) rfl hd
    rw [hc]
    rw [hd] at DEM
    clear hnode h hc ho hd hcls
    go_enter Tryz.func88, Tryz.ntmps88
    go_wp2_with (go_at_call 135; refine (q9 DEM).mono ?_; rintro e w1 ⟨hb1, h1⟩; subst h1)
    go_ret
    exact ⟨hb1, rfl⟩
  | some q =>
    have hc : qa1 t = .err q := by rw [qb7, ho]; exact qd4 (c := 1) rfl hd
    rw [hc]
    rw [hd] at DEM
    clear hnode h hc ho hd hcls
    go_enter Tryz.func88, Tryz.ntmps88
    go_wp2_with (go_at_call 135; refine (q9 DEM).mono ?_; rintro e w1 ⟨hb1, h1⟩; subst h1; simp only [x4])
    exact ⟨rfl, hb1, rfl⟩
set_option maxHeartbeats 400000 in
theorem class_15 (lo : Nat) (t : Ast) (hcls : ∀ x ∈ j3 t, qf3 lo x) (ho : (y9 t).op = 15) : qf3 lo t := by
  intro w v h
  have DEM := v6 (qd2 lo t hcls 1 w v h)
  obtain ⟨b, sv, rfl, hnode, _⟩ := h.parts
  have c0 := hnode.c0
  rw [ho] at c0
  cases hd : dem 1 (y9 t).place ((j3 t).map qa1) true with
  | none =>
    have hc : qa1 t = .ok 1 := by rw [qb7, ho]; exact qd3 (c := 1) rfl hd
    rw [hc]
    rw [hd] at DEM
    clear hnode h hc ho hd hcls
    go_enter Tryz.func88, Tryz.ntmps88
    go_wp2_with (go_at_call 135; refine (q9 DEM).mono ?_; rintro e w1 ⟨hb1, h1⟩; subst h1)
    go_ret
    exact ⟨hb1, rfl⟩
  | some q =>
    have hc : qa1 t = .err q := by rw [qb7, ho]; exact qd4 (c := 1) rfl hd
    rw [hc]
    rw [hd] at DEM
    clear hnode h hc ho hd hcls
    go_enter Tryz.func88, Tryz.ntmps88
    go_wp2_with (go_at_call 135; refine (q9 DEM).mono ?_; rintro e w1 ⟨hb1, h1⟩; subst h1; simp only [x4])
    exact ⟨rfl, hb1, rfl⟩
set_option maxHeartbeats 400000 in
theorem class_16 (lo : Nat) (t : Ast) (hcls : ∀ x ∈ j3 t, qf3 lo x) (ho : (y9 t).op = 16) : qf3 lo t := by
  intro w v h
  have DEM := v6 (qd2 lo t hcls 1 w v h)
  obtain ⟨b, sv, rfl, hnode, _⟩ := h.parts
  have c0 := hnode.c0
  rw [ho] at c0
  cases hd : dem 1 (y9 t).place ((j3 t).map qa1) true with
  | none =>
    have hc : qa1 t = .ok 1 := by rw [qb7, ho]; exact qd3 (c := 1) rfl hd
    rw [hc]
    rw [hd] at DEM
    clear hnode h hc ho hd hcls
    go_enter Tryz.func88, Tryz.ntmps88
    go_wp2_with (go_at_call 135; refine (q9 DEM).mono ?_; rintro e w1 ⟨hb1, h1⟩; subst h1)
    go_ret
    exact ⟨hb1, rfl⟩
  | some q =>
    have hc : qa1 t = .err q := by rw [qb7, ho]; exact qd4 (c := 1) rfl hd
    rw [hc]
    rw [hd] at DEM
    clear hnode h hc ho hd hcls
    go_enter Tryz.func88, Tryz.ntmps88
    go_wp2_with (go_at_call 135; refine (q9 DEM).mono ?_; rintro e w1 ⟨hb1, h1⟩; subst h1; simp only [x4])
    exact ⟨rfl, hb1, rfl⟩
set_option maxHeartbeats 400000 in
theorem class_17 (lo : Nat) (t : Ast) (hcls : ∀ x ∈ j3 t, qf3 lo x) (ho : (y9 t).op = 17) : qf3 lo t := by
  intro w v h
  have DEM := v6 (qd2 lo t hcls 1 w v h)
  obtain ⟨b, sv, rfl, hnode, _⟩ := h.parts
  have c0 := hnode.c0
  rw [ho] at c0
  cases hd : dem 1 (y9 t).place ((j3 t).map qa1) true with
  | none =>
    have hc : qa1 t = .ok 1 := by rw [qb7, ho]; exact qd3 (c := 1) rfl hd
    rw [hc]
    rw [hd] at DEM
    clear hnode h hc ho hd hcls
    go_enter Tryz.func88, Tryz.ntmps88
    go_wp2_with (go_at_call 135; refine (q9 DEM).mono ?_; rintro e w1 ⟨hb1, h1⟩; subst h1)
    go_ret
    exact ⟨hb1, rfl⟩
  | some q =>
    have hc : qa1 t = .err q := by rw [qb7, ho]; exact qd4 (c := 1) rfl hd
    rw [hc]
    rw [hd] at DEM
    clear hnode h hc ho hd hcls
    go_enter Tryz.func88, Tryz.ntmps88
    go_wp2_with (go_at_call 135; refine (q9 DEM).mono ?_; rintro e w1 ⟨hb1, h1⟩; subst h1; simp only [x4])
    exact ⟨rfl, hb1, rfl⟩
set_option maxHeartbeats 400000 in
theorem class_18 (lo : Nat) (t : Ast) (hcls : ∀ x ∈ j3 t, qf3 lo x) (ho : (y9 t).op = 18) : qf3 lo t := by
  intro w v h
  have DEM := v6 (qd2 lo t hcls 1 w v h)
  obtain ⟨b, sv, rfl, hnode, _⟩ := h.parts
  have c0 := hnode.c0
  rw [ho] at c0
  cases hd : dem 1 (y9 t).place ((j3 t).map qa1) true with
  | none =>
    have hc : qa1 t = .ok 1 := by rw [qb7, ho]; exact qd3 (c := 1) rfl hd
    rw [hc]
    rw [hd] at DEM
    clear hnode h hc ho hd hcls
    go_enter Tryz.func88, Tryz.ntmps88
    go_wp2_with (go_at_call 135; refine (q9 DEM).mono ?_; rintro e w1 ⟨hb1, h1⟩; subst h1)
    go_ret
    exact ⟨hb1, rfl⟩
  | some q =>
    have hc : qa1 t = .err q := by rw [qb7, ho]; exact qd4 (c := 1) rfl hd
    rw [hc]
    rw [hd] at DEM
    clear hnode h hc ho hd hcls
    go_enter Tryz.func88, Tryz.ntmps88
    go_wp2_with (go_at_call 135; refine (q9 DEM).mono ?_; rintro e w1 ⟨hb1, h1⟩; subst h1; simp only [x4])
    exact ⟨rfl, hb1, rfl⟩
set_option maxHeartbeats 400000 in
theorem class_19 (lo : Nat) (t : Ast) (hcls : ∀ x ∈ j3 t, qf3 lo x) (ho : (y9 t).op = 19) : qf3 lo t := by
  intro w v h
  have DEM := v6 (qd2 lo t hcls 1 w v h)
  obtain ⟨b, sv, rfl, hnode, _⟩ := h.parts
  have c0 := hnode.c0
  rw [ho] at c0
  cases hd : dem 1 (y9 t).place ((j3 t).map qa1) true with
  | none =>
    have hc : qa1 t = .ok 1 := by rw [qb7, ho]; exact qd3 (c := 1) rfl hd
    rw [hc]
    rw [hd] at DEM
    clear hnode h hc ho hd hcls
    go_enter Tryz.func88, Tryz.ntmps88
    go_wp2_with (go_at_call 135; refine (q9 DEM).mono ?_; rintro e w1 ⟨hb1, h1⟩; subst h1)
    go_ret
    exact ⟨hb1, rfl⟩
  | some q =>
    have hc : qa1 t = .err q := by rw [qb7, ho]; exact qd4 (c := 1) rfl hd
    rw [hc]
    rw [hd] at DEM
    clear hnode h hc ho hd hcls
    go_enter Tryz.func88, Tryz.ntmps88
    go_wp2_with (go_at_call 135; refine (q9 DEM).mono ?_; rintro e w1 ⟨hb1, h1⟩; subst h1; simp only [x4])
    exact ⟨rfl, hb1, rfl⟩
set_option maxHeartbeats 400000 in
theorem class_8 (lo : Nat) (p : Pay) (x y : Ast) (hx : qf3 lo x) (hy : qf3 lo y) (ho : p.op = 8) : qf3 lo (.bin p x y) := by
  intro w v h
  have ALI := v6 (vz9 lo p x y hx hy w v h)
  obtain ⟨b, sv, rfl, hnode, _⟩ := h.parts
  have c0 : w.cell? ⟨b, 0, none⟩ = some (.int .i64 p.op) := hnode.c0
  rw [ho] at c0
  have hc : qa1 (.bin p x y) = qk0 p.place (qa1 x) (qa1 y) := by rw [qa1, ho]; rfl
  rw [hc]
  have h3 : ∀ c, qk0 p.place (qa1 x) (qa1 y) = .ok c → c = 3 := by
    intro c h
    unfold qk0 at h
    split at h
    · cases h
    · cases h
    · split at h
      · cases h
      · injection h with h; exact h.symm
  obtain ⟨r, hr⟩ : ∃ r, qk0 p.place (qa1 x) (qa1 y) = r := ⟨_, rfl⟩
  rw [hr] at ALI h3 ⊢
  clear hnode h hc ho hr hx hy
  cases r with
  | ok c =>
    obtain rfl := h3 c rfl
    clear h3
    go_enter Tryz.func88, Tryz.ntmps88
    go_wp2_with (go_at_call 136; refine (q9 ALI).mono ?_; rintro e w1 ⟨hb1, h1⟩; subst h1)
    go_ret
    exact ⟨hb1, rfl⟩
  | err q =>
    clear h3
    go_enter Tryz.func88, Tryz.ntmps88
    go_wp2_with (go_at_call 136; refine (q9 ALI).mono ?_; rintro e w1 ⟨hb1, h1⟩; subst h1; simp only [x4])
    exact ⟨rfl, hb1, rfl⟩
set_option maxHeartbeats 400000 in
theorem class_9 (lo : Nat) (p : Pay) (x y : Ast) (hx : qf3 lo x) (hy : qf3 lo y) (ho : p.op = 9) : qf3 lo (.bin p x y) := by
  intro w v h
  have ALI := v6 (vz9 lo p x y hx hy w v h)
  obtain ⟨b, sv, rfl, hnode, _⟩ := h.parts
  have c0 : w.cell? ⟨b, 0, none⟩ = some (.int .i64 p.op) := hnode.c0
  rw [ho] at c0
  have hc : qa1 (.bin p x y) = qk0 p.place (qa1 x) (qa1 y) := by rw [qa1, ho]; rfl
  rw [hc]
  have h3 : ∀ c, qk0 p.place (qa1 x) (qa1 y) = .ok c → c = 3 := by
    intro c h
    unfold qk0 at h
    split at h
    · cases h
    · cases h
    · split at h
      · cases h
      · injection h with h; exact h.symm
  obtain ⟨r, hr⟩ : ∃ r, qk0 p.place (qa1 x) (qa1 y) = r := ⟨_, rfl⟩
  rw [hr] at ALI h3 ⊢
  clear hnode h hc ho hr hx hy
  cases r with
  | ok c =>
    obtain rfl := h3 c rfl
    clear h3
    go_enter Tryz.func88, Tryz.ntmps88
    go_wp2_with (go_at_call 136; refine (q9 ALI).mono ?_; rintro e w1 ⟨hb1, h1⟩; subst h1)
    go_ret
    exact ⟨hb1, rfl⟩
  | err q =>
    clear h3
    go_enter Tryz.func88, Tryz.ntmps88
    go_wp2_with (go_at_call 136; refine (q9 ALI).mono ?_; rintro e w1 ⟨hb1, h1⟩; subst h1; simp only [x4])
    exact ⟨rfl, hb1, rfl⟩
set_option maxHeartbeats 400000 in
theorem jy0 (lo : Nat) (t : Ast) (h0 : ¬ (y9 t).op = 0) (h1 : ¬ (y9 t).op = 1) (h2 : ¬ (y9 t).op = 2) (h5 : ¬ (y9 t).op = 5) (h6 : ¬ (y9 t).op = 6) (h7 : ¬ (y9 t).op = 7) (h10 : ¬ (y9 t).op = 10) (h11 : ¬ (y9 t).op = 11) (h12 : ¬ (y9 t).op = 12) (h13 : ¬ (y9 t).op = 13) (h20 : ¬ (y9 t).op = 20) (h14 : ¬ (y9 t).op = 14) (h15 : ¬ (y9 t).op = 15) (h16 : ¬ (y9 t).op = 16) (h17 : ¬ (y9 t).op = 17) (h18 : ¬ (y9 t).op = 18) (h19 : ¬ (y9 t).op = 19) (h8 : ¬ (y9 t).op = 8) (h9 : ¬ (y9 t).op = 9) : qf3 lo t := by
  intro w v h
  have e0 : ((y9 t).op == 0) = false := beq_eq_false_iff_ne.2 h0
  have e1 : ((y9 t).op == 1) = false := beq_eq_false_iff_ne.2 h1
  have e2 : ((y9 t).op == 2) = false := beq_eq_false_iff_ne.2 h2
  have e5 : ((y9 t).op == 5) = false := beq_eq_false_iff_ne.2 h5
  have e6 : ((y9 t).op == 6) = false := beq_eq_false_iff_ne.2 h6
  have e7 : ((y9 t).op == 7) = false := beq_eq_false_iff_ne.2 h7
  have e10 : ((y9 t).op == 10) = false := beq_eq_false_iff_ne.2 h10
  have e11 : ((y9 t).op == 11) = false := beq_eq_false_iff_ne.2 h11
  have e12 : ((y9 t).op == 12) = false := beq_eq_false_iff_ne.2 h12
  have e13 : ((y9 t).op == 13) = false := beq_eq_false_iff_ne.2 h13
  have e20 : ((y9 t).op == 20) = false := beq_eq_false_iff_ne.2 h20
  have e14 : ((y9 t).op == 14) = false := beq_eq_false_iff_ne.2 h14
  have e15 : ((y9 t).op == 15) = false := beq_eq_false_iff_ne.2 h15
  have e16 : ((y9 t).op == 16) = false := beq_eq_false_iff_ne.2 h16
  have e17 : ((y9 t).op == 17) = false := beq_eq_false_iff_ne.2 h17
  have e18 : ((y9 t).op == 18) = false := beq_eq_false_iff_ne.2 h18
  have e19 : ((y9 t).op == 19) = false := beq_eq_false_iff_ne.2 h19
  have e8 : ((y9 t).op == 8) = false := beq_eq_false_iff_ne.2 h8
  have e9 : ((y9 t).op == 9) = false := beq_eq_false_iff_ne.2 h9
  have hc : qa1 t = .ok 3 := by rw [qb7]; simp only [qs2, e0, e1, e2, e5, e6, e7, e10, e11, e12, e13, e20, e14, e15, e16, e17, e18, e19, e8, e9, Bool.or_self, Bool.false_eq_true, if_false]
  rw [hc]
  obtain ⟨b, sv, rfl, hnode, _⟩ := h.parts
  have c0 := hnode.c0
  clear hnode h hc h0 h1 h2 h5 h6 h7 h10 h11 h12 h13 h20 h14 h15 h16 h17 h18 h19 h8 h9
  go_enter Tryz.func88, Tryz.ntmps88
  go_wp2_with fail
  go_ret
  exact ⟨Below.refl _ _, rfl⟩
theorem qy1 (lo : Nat) (t : Ast) (hwf : WfA t) (hcls : ∀ x ∈ j3 t, qf3 lo x) : qf3 lo t := by
  by_cases h0 : (y9 t).op = 0
  · exact class_0 lo t h0
  by_cases h1 : (y9 t).op = 1
  · exact class_1 lo t h1
  by_cases h2 : (y9 t).op = 2
  · exact class_2 lo t h2
  by_cases h5 : (y9 t).op = 5
  · exact class_5 lo t hcls h5
  by_cases h6 : (y9 t).op = 6
  · exact class_6 lo t hcls h6
  by_cases h7 : (y9 t).op = 7
  · exact class_7 lo t hcls h7
  by_cases h10 : (y9 t).op = 10
  · exact class_10 lo t hcls h10
  by_cases h11 : (y9 t).op = 11
  · exact class_11 lo t hcls h11
  by_cases h12 : (y9 t).op = 12
  · exact class_12 lo t hcls h12
  by_cases h13 : (y9 t).op = 13
  · exact class_13 lo t hcls h13
  by_cases h20 : (y9 t).op = 20
  · exact class_20 lo t hcls h20
  by_cases h14 : (y9 t).op = 14
  · exact class_14 lo t hcls h14
  by_cases h15 : (y9 t).op = 15
  · exact class_15 lo t hcls h15
  by_cases h16 : (y9 t).op = 16
  · exact class_16 lo t hcls h16
  by_cases h17 : (y9 t).op = 17
  · exact class_17 lo t hcls h17
  by_cases h18 : (y9 t).op = 18
  · exact class_18 lo t hcls h18
  by_cases h19 : (y9 t).op = 19
  · exact class_19 lo t hcls h19
  by_cases h8 : (y9 t).op = 8
  · cases t with
    | leaf p => exact absurd h8 hwf.1
    | un p x => exact absurd h8 hwf.1.1
    | bin p x y => exact class_8 lo p x y (hcls x (by simp [j3])) (hcls y (by simp [j3])) h8
    | tri p x y z => exact absurd h8 hwf.1.1
  by_cases h9 : (y9 t).op = 9
  · cases t with
    | leaf p => exact absurd h9 hwf.2
    | un p x => exact absurd h9 hwf.1.2
    | bin p x y => exact class_9 lo p x y (hcls x (by simp [j3])) (hcls y (by simp [j3])) h9
    | tri p x y z => exact absurd h9 hwf.1.2
  exact jy0 lo t h0 h1 h2 h5 h6 h7 h10 h11 h12 h13 h20 h14 h15 h16 h17 h18 h19 h8 h9
theorem class_all (lo : Nat) : ∀ t, WfA t → qf3 lo t := by
  intro t
  induction t with
  | leaf p => intro h; exact qy1 lo _ h (fun x hx => by simp [j3] at hx)
  | un p x ih => intro h; exact qy1 lo _ h (fun y hy => by simp [j3] at hy; subst hy; exact ih h.2)
  | bin p x y ihx ihy => intro h; exact qy1 lo _ h (fun z hz => by simp [j3] at hz; rcases hz with rfl | rfl; exact ihx h.1; exact ihy h.2)
  | tri p x y z ihx ihy ihz => intro h; exact qy1 lo _ h (fun u hu => by simp [j3] at hu; rcases hu with rfl | rfl | rfl; exact ihx h.2.1; exact ihy h.2.2.1; exact ihz h.2.2.2)
set_option maxHeartbeats 400000 in
theorem check_any (lo : Nat) (t : Ast) (hwf : WfA t) (w : World) (v : Value) (h : IsNode lo w v t) :
    Calls Tryz.prog 58 #[v] w (DemEnds w (js9 (qa1 t))) := by
  have CLS := v6 (class_all lo t hwf w v h)
  obtain ⟨b, rfl⟩ := h.ptr
  clear h hwf
  cases hc : qa1 t with
  | err q =>
    rw [hc] at CLS
    clear hc
    go_enter Tryz.func58, Tryz.ntmps58
    go_wp2_with (go_at_call 88; refine (q9 CLS).mono ?_; rintro e w1 ⟨hb1, h1⟩; subst h1; simp only [x4])
    exact ⟨rfl, hb1, rfl⟩
  | ok c =>
    rw [hc] at CLS
    clear hc
    cases h1 : (c != 3) <;> cases h2 : (c != 0)
    all_goals
      rw [js9, h1, h2]
      simp only [Bool.and_true, Bool.and_false, Bool.and_self, Bool.false_eq_true, if_false, if_true]
      go_enter Tryz.func58, Tryz.ntmps58
      go_wp2_with (go_at_call 88; refine (q9 CLS).mono ?_; rintro e w1 ⟨hb1, h1⟩; subst h1)
      first | exact ⟨rfl, hb1, rfl⟩ | (go_end0; exact ⟨hb1, rfl⟩)
end
section
def noPl (p : Pay) : Pay := { p with place := 0 }
def qf9 : Ast → Ast
  | .leaf p => .leaf (noPl p)
  | .un p x => .un (noPl p) (qf9 x)
  | .bin p x y => .bin (noPl p) (qf9 x) (qf9 y)
  | .tri p x y z => .tri (noPl p) (qf9 x) (qf9 y) (qf9 z)
theorem jc6 (t : Ast) : opA (qf9 t) = opA t := by cases t <;> rfl
structure TS where
  toks : List Tk
  op : Nat
inductive TRes where
  | ok (t : Ast) (ts : TS)
  | err (en : Int)
def hd (L : List Tk) : Tk := match L with
  | [] => z7 0
  | k :: _ => k
def TS.tk (ts : TS) : Tk := hd ts.toks
def TS.next (ts : TS) : TS := ⟨ts.toks.tail, ts.op⟩
def qx7 (f : TS → TRes) (ts : TS) (l : Ast) : TRes := match f ts.next with
  | .ok r ts' => .ok (.bin ⟨jp7 ts.tk.kind, 0, 0, [], [], []⟩ l r) ts'
  | .err en => .err en
def qq4 (f : TS → TRes) (ks : List Int) : Nat → Ast → TS → TRes
  | 0, l, ts => .ok l ts
  | n + 1, l, ts => if ks.contains ts.tk.kind then (match qx7 f ts l with
      | .ok l' ts' => qq4 f ks n l' ts'
      | .err en => .err en) else .ok l ts
def qz2 (f : TS → TRes) (ks : List Int) (ts : TS) : TRes := match f ts with
  | .ok l ts' => qq4 f ks (ts'.toks.length + 1) l ts'
  | .err en => .err en
def tIn (ts : TS) : TS := ⟨ts.toks.tail, ts.op + 1⟩
def qw5 (f : TS → TRes) (o : Int) (ts : TS) : TRes := if ts.op = 12 then .err 3 else match f (tIn ts) with
  | .ok x ts' => .ok (.un ⟨o, 0, 0, [], [], []⟩ x) ⟨ts'.toks, ts.op⟩
  | .err en => .err en
def qj9 (f : TS → TRes) (ts : TS) : TRes := if ts.op = 12 then .err 3 else match f (tIn ts) with
  | .ok t ts' => if ts'.tk.kind = 27 then .ok t ⟨ts'.toks.tail, ts.op⟩ else .err 2
  | .err en => .err en
def jk3 (o : Int) (num : Int) (str : List UInt8) : Ast := .leaf ⟨o, 0, num, str, [], []⟩
def qd9 (fS fE : TS → TRes) (ts : TS) : TRes :=
  if ts.tk.kind = 22 then qw5 fS 14 ts else if ts.tk.kind = 23 then qw5 fS 15 ts else if ts.tk.kind = 26 then qj9 fE ts
  else if ts.tk.kind = 2 then .ok (jk3 0 0 ts.tk.str) ts.next
  else if ts.tk.kind = 3 then .ok (jk3 1 ts.tk.num []) ts.next
  else if ts.tk.kind = 4 then .ok (jk3 2 0 ts.tk.str) ts.next
  else if ts.tk.kind = 8 then .ok (jk3 3 0 []) ts.next
  else if ts.tk.kind = 9 then .ok (jk3 4 0 []) ts.next else .err 2
def tNull (l : Ast) : Ast := .un ⟨23, 0, 0, [], [], []⟩ l
def tIsNull (l : Ast) (ts : TS) : TRes :=
  if ts.next.tk.kind = 7 then (if ts.next.next.tk.kind = 15 then .ok (.un ⟨5, 0, 0, [], [], []⟩ (tNull l)) ts.next.next.next else .err 2)
  else if ts.next.tk.kind = 15 then .ok (tNull l) ts.next.next else .err 2
def qh0 (f : TS → TRes) (l : Ast) (ts : TS) : TRes := if ts.tk.kind = 10 then (match f ts.next with
    | .ok lo ts1 => if ts1.tk.kind = 5 then (match f ts1.next with
        | .ok hi ts2 => .ok (.tri ⟨20, 0, 0, [], [], []⟩ l lo hi) ts2
        | .err en => .err en) else .err 2
    | .err en => .err en) else .err 2
def qg1 (l : Ast) : Nat → List (List UInt8) → TS → TRes
  | 0, _, _ => .err 0
  | n + 1, xs, ts => if ts.tk.kind = 28 then (if ts.next.tk.kind = 4 then qg1 l n (xs ++ [ts.next.tk.str]) ts.next.next else .err 2)
      else if ts.tk.kind = 27 then .ok (.un ⟨21, 0, 0, [], [], xs⟩ l) ts.next else .err 2
def tInRes (l : Ast) (ts : TS) : TRes :=
  if ts.next.tk.kind = 26 then (if ts.next.next.tk.kind = 4 then qg1 l (ts.toks.length + 1) [ts.next.next.tk.str] ts.next.next.next else .err 2) else .err 2
def tLike (l : Ast) (ts : TS) : TRes :=
  if ts.next.tk.kind = 4 then
    (if ts.next.next.tk.kind = 13 then
      (if ts.next.next.next.tk.kind = 4 ∧ ts.next.next.next.tk.str.length = 1 ∧ (qw1 ts.next.next.next.tk.str ts.next.tk.str).isSome = true
        then .ok (.un ⟨22, 0, 0, ts.next.tk.str, ts.next.next.next.tk.str, []⟩ l) ts.next.next.next.next else .err 2)
    else .ok (.un ⟨22, 0, 0, ts.next.tk.str, [], []⟩ l) ts.next.next)
  else .err 2
def qf5 (f : TS → TRes) (bare : Bool) (l : Ast) (ts : TS) : TRes :=
  if ts.tk.kind = 11 ∧ bare = true then tInRes l ts else if ts.tk.kind = 12 ∧ bare = true then tLike l ts else qh0 f l ts
def qy5 (f : TS → TRes) (bare : Bool) (l : Ast) (ts : TS) : TRes :=
  if ts.tk.kind = 16 ∨ ts.tk.kind = 17 ∨ ts.tk.kind = 18 ∨ ts.tk.kind = 19 ∨ ts.tk.kind = 20 ∨ ts.tk.kind = 21 then qx7 f ts l
  else if ts.tk.kind = 14 then (if bare = true then tIsNull l ts else .ok l ts)
  else if ts.tk.kind = 7 then (match qf5 f bare l ts.next with
    | .ok t ts' => .ok (.un ⟨5, 0, 0, [], [], []⟩ t) ts'
    | .err en => .err en)
  else if ts.tk.kind = 10 ∨ ts.tk.kind = 11 ∨ ts.tk.kind = 12 then qf5 f bare l ts
  else .ok l ts
def qx2 (f : TS → TRes) (ts : TS) : TRes := match f ts with
  | .ok l ts' => qy5 f (ts.tk.kind == 2 && opA l == 0) l ts'
  | .err en => .err en
def qg6 (fD fT : TS → TRes) (ts : TS) : TRes := if ts.tk.kind = 7 then qw5 fD 5 ts else fT ts
structure T3 where
  S : TS → TRes
  D : TS → TRes
  E : TS → TRes
def tUp (L : T3) : T3 :=
  ⟨qd9 L.S L.E, qg6 L.D (qx2 (qz2 (qz2 (qd9 L.S L.E) [24, 25]) [22, 23])), qz2 (qz2 (qg6 L.D (qx2 (qz2 (qz2 (qd9 L.S L.E) [24, 25]) [22, 23]))) [5]) [6]⟩
def vd6 : Nat → T3
  | 0 => tUp ⟨fun _ => .err 0, fun _ => .err 0, fun _ => .err 0⟩
  | d + 1 => tUp (vd6 d)
inductive Str (s : ByteArray) : St → List Tk → Prop where
  | nil {st : St} (h : st.tk = z7 0) : Str s st []
  | cons {st : St} {L : List Tk} (h : st.tk.kind ≠ 0) (r : Str s (v8 s st) L) : Str s st (st.tk :: L)
theorem Str.tk {s : ByteArray} {st : St} {L : List Tk} (h : Str s st L) : hd L = st.tk := by
  cases h with
  | nil h => exact h.symm
  | cons _ _ => rfl
theorem Str.next {s : ByteArray} {st : St} {L : List Tk} (h : Str s st L) (hk : st.tk.kind ≠ 0) : Str s (v8 s st) L.tail := by
  cases h with
  | nil h => rw [h] at hk; exact absurd rfl hk
  | cons _ r => exact r
theorem Str.withOp {s : ByteArray} {st : St} {L : List Tk} (h : Str s st L) (n : Nat) : Str s { st with op := n } L := by
  induction h generalizing n with
  | nil h => exact .nil h
  | cons h r ih =>
    rename_i st L
    exact .cons (st := { st with op := n }) h (ih n)
theorem Str.len {s : ByteArray} {st : St} {L : List Tk} (h : Str s st L) : Fine s st → L.length ≤ s.size - st.place := by
  induction h with
  | nil h => intro _; simp
  | cons h r ih =>
    rename_i st L
    intro hf
    have h1 := ih hf.next
    have h2 := hf.lt h
    have h3 := hf.next.place
    simp only [List.length_cons]
    omega
def SimR (s : ByteArray) : Res → TRes → Prop
  | .ok t st, .ok t' ts => qf9 t = t' ∧ Str s st ts.toks ∧ st.op = ts.op ∧ Fine s st
  | .err en _, .err en' => en = en'
  | _, _ => False
def Sim (s : ByteArray) (f : St → Res) (f' : TS → TRes) : Prop := ∀ st ts, Fine s st → Str s st ts.toks → st.op = ts.op → SimR s (f st) (f' ts)
end
section
theorem SimR.cases {s : ByteArray} {r : Res} {r' : TRes} (h : SimR s r r') : (∃ t st ts, r = .ok t st ∧ r' = .ok (qf9 t) ts ∧ Str s st ts.toks ∧ st.op = ts.op ∧ Fine s st) ∨ ∃ en pl, r = .err en pl ∧ r' = .err en := by
  cases r with
  | ok t st =>
    cases r' with
    | ok t' ts => obtain ⟨rfl, h2, h3, h4⟩ := h; exact .inl ⟨t, st, ts, rfl, rfl, h2, h3, h4⟩
    | err en => exact h.elim
  | err en pl =>
    cases r' with
    | ok t' ts => exact h.elim
    | err en' => obtain rfl : en = en' := h; exact .inr ⟨en, pl, rfl, rfl⟩
theorem qg8 {s : ByteArray} {st : St} {ts : TS} (h : Str s st ts.toks) : ts.tk = st.tk := h.tk
theorem Sim.join {s : ByteArray} {f : St → Res} {f' : TS → TRes} (h : Sim s f f') (st : St) (ts : TS) (l : Ast) (hf : Fine s st) (hs : Str s st ts.toks) (ho : st.op = ts.op) (hk : st.tk.kind ≠ 0) : SimR s (qb6 s f st l) (qx7 f' ts (qf9 l)) := by
  have := h (v8 s st) ts.next hf.next (hs.next hk) ho
  unfold qb6 qx7
  rw [qg8 hs]
  rcases this.cases with ⟨t, st2, ts2, h1, h2, h3, h4, h5⟩ | ⟨en, pl, h1, h2⟩
  · rw [h1, h2]; exact ⟨rfl, h3, h4, h5⟩
  · rw [h1, h2]; rfl
def Shr (f : TS → TRes) : Prop := ∀ ts t ts', f ts = .ok t ts' → ts'.toks.length ≤ ts.toks.length
def ShrT (g : Ast → TS → TRes) : Prop := ∀ l ts t ts', g l ts = .ok t ts' → ts'.toks.length ≤ ts.toks.length
theorem vf1 (L : List Tk) : L.tail.length ≤ L.length := by rw [List.length_tail]; omega
theorem y5 (ts : TS) : ts.next.toks.length ≤ ts.toks.length := vf1 _
theorem Shr.join {f : TS → TRes} (h : Shr f) (ts : TS) (l t : Ast) (ts' : TS) (he : qx7 f ts l = .ok t ts') : ts'.toks.length ≤ ts.next.toks.length := by
  unfold qx7 at he
  split at he
  · rename_i hr; injection he with _ h2; subst h2; exact h _ _ _ hr
  · cases he
theorem Shr.loop {f : TS → TRes} (h : Shr f) (ks : List Int) : ∀ n l ts t ts', qq4 f ks n l ts = .ok t ts' → ts'.toks.length ≤ ts.toks.length := by
  intro n
  induction n with
  | zero => intro l ts t ts' he; rw [qq4] at he; injection he with _ h2; subst h2; exact Nat.le_refl _
  | succ n ih =>
    intro l ts t ts' he
    rw [qq4] at he
    split at he
    · split at he
      · rename_i hj; exact Nat.le_trans (ih _ _ _ _ he) (Nat.le_trans (h.join _ _ _ _ hj) (y5 _))
      · cases he
    · injection he with _ h2; subst h2; exact Nat.le_refl _
theorem Shr.row {f : TS → TRes} (h : Shr f) (ks : List Int) : Shr (qz2 f ks) := by
  intro ts t ts' he
  unfold qz2 at he
  split at he
  · rename_i hr; exact Nat.le_trans (h.loop ks _ _ _ _ _ he) (h _ _ _ hr)
  · cases he
theorem Shr.sign {f : TS → TRes} (h : Shr f) (o : Int) : Shr (qw5 f o) := by
  intro ts t ts' he
  unfold qw5 at he
  split at he
  · cases he
  · split at he
    · rename_i hr
      have h3 := h _ _ _ hr
      injection he with _ h2; subst h2; exact Nat.le_trans h3 (vf1 ts.toks)
    · cases he
theorem Shr.group {f : TS → TRes} (h : Shr f) : Shr (qj9 f) := by
  intro ts t ts' he
  unfold qj9 at he
  split at he
  · cases he
  · split at he
    · rename_i hr; split at he
      · have h3 := h _ _ _ hr
        injection he with _ h2; subst h2; exact Nat.le_trans (vf1 _) (Nat.le_trans h3 (vf1 ts.toks))
      · cases he
    · cases he
theorem Shr.signed {fS fE : TS → TRes} (hS : Shr fS) (hE : Shr fE) : Shr (qd9 fS fE) := by
  intro ts t ts' he
  unfold qd9 at he
  split at he
  · exact hS.sign 14 _ _ _ he
  split at he
  · exact hS.sign 15 _ _ _ he
  split at he
  · exact hE.group _ _ _ he
  split at he
  · injection he with _ h2; subst h2; exact y5 _
  split at he
  · injection he with _ h2; subst h2; exact y5 _
  split at he
  · injection he with _ h2; subst h2; exact y5 _
  split at he
  · injection he with _ h2; subst h2; exact y5 _
  split at he
  · injection he with _ h2; subst h2; exact y5 _
  · cases he
theorem za2 : ShrT tIsNull := by
  intro l ts t ts' he
  unfold tIsNull at he
  split at he
  · split at he
    · injection he with _ h2; subst h2; exact Nat.le_trans (y5 _) (Nat.le_trans (y5 _) (y5 _))
    · cases he
  · split at he
    · injection he with _ h2; subst h2; exact Nat.le_trans (y5 _) (y5 _)
    · cases he
theorem jy8 (l : Ast) : ∀ n xs ts t ts', qg1 l n xs ts = .ok t ts' → ts'.toks.length ≤ ts.toks.length := by
  intro n
  induction n with
  | zero => intro xs ts t ts' he; rw [qg1] at he; cases he
  | succ n ih =>
    intro xs ts t ts' he
    rw [qg1] at he
    split at he
    · split at he
      · exact Nat.le_trans (ih _ _ _ _ he) (Nat.le_trans (y5 _) (y5 _))
      · cases he
    · split at he
      · injection he with _ h2; subst h2; exact y5 _
      · cases he
theorem shr_in : ShrT tInRes := by
  intro l ts t ts' he
  unfold tInRes at he
  split at he
  · split at he
    · exact Nat.le_trans (jy8 l _ _ _ _ _ he) (Nat.le_trans (y5 _) (Nat.le_trans (y5 _) (y5 _)))
    · cases he
  · cases he
theorem shr_like : ShrT tLike := by
  intro l ts t ts' he
  unfold tLike at he
  split at he
  · split at he
    · split at he
      · injection he with _ h2; subst h2; exact Nat.le_trans (y5 _) (Nat.le_trans (y5 _) (Nat.le_trans (y5 _) (y5 _)))
      · cases he
    · injection he with _ h2; subst h2; exact Nat.le_trans (y5 _) (y5 _)
  · cases he
theorem Shr.between {f : TS → TRes} (h : Shr f) : ShrT (qh0 f) := by
  intro l ts t ts' he
  unfold qh0 at he
  split at he
  · split at he
    · rename_i h1; split at he
      · split at he
        · rename_i h2; injection he with _ h3; subst h3
          exact Nat.le_trans (h _ _ _ h2) (Nat.le_trans (y5 _) (Nat.le_trans (h _ _ _ h1) (y5 _)))
        · cases he
      · cases he
    · cases he
  · cases he
theorem Shr.keyword {f : TS → TRes} (h : Shr f) (bare : Bool) : ShrT (qf5 f bare) := by
  intro l ts t ts' he
  unfold qf5 at he
  split at he
  · exact shr_in _ _ _ _ he
  split at he
  · exact shr_like _ _ _ _ he
  · exact h.between _ _ _ _ he
theorem Shr.test {f : TS → TRes} (h : Shr f) : Shr (qx2 f) := by
  intro ts t ts' he
  unfold qx2 at he
  split at he
  · rename_i hr
    refine Nat.le_trans ?_ (h _ _ _ hr)
    unfold qy5 at he
    split at he
    · exact Nat.le_trans (h.join _ _ _ _ he) (y5 _)
    split at he
    · split at he
      · exact za2 _ _ _ _ he
      · injection he with _ h2; subst h2; exact Nat.le_refl _
    split at he
    · split at he
      · rename_i hk; injection he with _ h2; subst h2; exact Nat.le_trans (h.keyword _ _ _ _ _ hk) (y5 _)
      · cases he
    split at he
    · exact h.keyword _ _ _ _ _ he
    · injection he with _ h2; subst h2; exact Nat.le_refl _
  · cases he
theorem Shr.denied {fD fT : TS → TRes} (hD : Shr fD) (hT : Shr fT) : Shr (qg6 fD fT) := by
  intro ts t ts' he
  unfold qg6 at he
  split at he
  · exact hD.sign 5 _ _ _ he
  · exact hT _ _ _ he
end
section
theorem Str.tail_lt {s : ByteArray} {st : St} {L : List Tk} (h : Str s st L) (hk : st.tk.kind ≠ 0) : L.tail.length < L.length := by
  cases h with
  | nil h => rw [h] at hk; exact absurd rfl hk
  | cons _ _ => simp
theorem Sim.loop {s : ByteArray} {f : St → Res} {f' : TS → TRes} (h : Sim s f f') (hf' : Shr f') (ks : List Int) (hk0 : ks.contains 0 = false) : ∀ n n' l st ts, ts.toks.length < n → ts.toks.length < n' → Fine s st → Str s st ts.toks → st.op = ts.op → SimR s (qa6 s f ks n l st) (qq4 f' ks n' (qf9 l) ts) := by
  intro n
  induction n with
  | zero => intro n' l st ts h1; omega
  | succ n ih =>
    intro n' l st ts h1 h2 hfi hs ho
    obtain ⟨m, rfl⟩ : ∃ m, n' = m + 1 := ⟨n' - 1, by omega⟩
    rw [qa6, qq4, qg8 hs]
    by_cases hc : ks.contains st.tk.kind = true
    · have hk : st.tk.kind ≠ 0 := fun e => by rw [e, hk0] at hc; cases hc
      rw [if_pos hc, if_pos hc]
      have hlen : ts.next.toks.length < ts.toks.length := hs.tail_lt hk
      rcases (h.join st ts l hfi hs ho hk).cases with ⟨t, st2, ts2, e1, e2, e3, e4, e5⟩ | ⟨en, pl, e1, e2⟩
      · have hl := hf'.join _ _ _ _ e2
        rw [e1, e2]
        exact ih m t st2 ts2 (by omega) (by omega) e5 e3 e4
      · rw [e1, e2]; rfl
    · rw [if_neg hc, if_neg hc]
      exact ⟨rfl, hs, ho, hfi⟩
theorem Sim.row {s : ByteArray} {f : St → Res} {f' : TS → TRes} (h : Sim s f f') (hf' : Shr f') (ks : List Int) (hk0 : ks.contains 0 = false) : Sim s (qg4 s f ks) (qz2 f' ks) := by
  intro st ts hfi hs ho
  unfold qg4 qz2
  rcases (h st ts hfi hs ho).cases with ⟨t, st2, ts2, e1, e2, e3, e4, e5⟩ | ⟨en, pl, e1, e2⟩
  · rw [e1, e2]
    have hl := e3.len e5
    exact h.loop hf' ks hk0 _ _ t st2 ts2 (by omega) (by omega) e5 e3 e4
  · rw [e1, e2]; rfl
theorem Sim.sign {s : ByteArray} {f : St → Res} {f' : TS → TRes} (h : Sim s f f') (o : Int) (st : St) (ts : TS) (hfi : Fine s st) (hs : Str s st ts.toks) (ho : st.op = ts.op) (hk : st.tk.kind ≠ 0) : SimR s (qg5 s f o st) (qw5 f' o ts) := by
  unfold qg5 qw5
  rw [ho]
  split
  · rfl
  · rcases (h (qz3 s st) (tIn ts) (hfi.next.op _) ((hs.next hk).withOp _) (by show st.op + 1 = ts.op + 1; rw [ho])).cases with ⟨t, st2, ts2, e1, e2, e3, e4, e5⟩ | ⟨en, pl, e1, e2⟩
    · rw [e1, e2]; exact ⟨rfl, e3.withOp _, rfl, e5.op _⟩
    · rw [e1, e2]; rfl
theorem Sim.group {s : ByteArray} {f : St → Res} {f' : TS → TRes} (h : Sim s f f') (st : St) (ts : TS) (hfi : Fine s st) (hs : Str s st ts.toks) (ho : st.op = ts.op) (hk : st.tk.kind ≠ 0) : SimR s (qh6 s f st) (qj9 f' ts) := by
  unfold qh6 qj9
  rw [ho]
  split
  · rfl
  · rcases (h (qz3 s st) (tIn ts) (hfi.next.op _) ((hs.next hk).withOp _) (by show st.op + 1 = ts.op + 1; rw [ho])).cases with ⟨t, st2, ts2, e1, e2, e3, e4, e5⟩ | ⟨en, pl, e1, e2⟩
    · rw [e1, e2]
      show SimR s (if st2.tk.kind = 27 then _ else _) (if ts2.tk.kind = 27 then _ else _)
      rw [qg8 e3]
      by_cases h27 : st2.tk.kind = 27
      · rw [if_pos h27, if_pos h27]
        exact ⟨rfl, (e3.next (by rw [h27]; decide)).withOp _, rfl, e5.next.op _⟩
      · rw [if_neg h27, if_neg h27]; rfl
    · rw [e1, e2]; rfl
theorem Sim.signed {s : ByteArray} {fS fE : St → Res} {fS' fE' : TS → TRes} (hS : Sim s fS fS') (hE : Sim s fE fE') : Sim s (qb0 s fS fE) (qd9 fS' fE') := by
  intro st ts hfi hs ho
  unfold qb0 qd9
  rw [qg8 hs]
  by_cases h22 : st.tk.kind = 22
  · rw [if_pos h22, if_pos h22]; exact hS.sign 14 st ts hfi hs ho (by rw [h22]; decide)
  rw [if_neg h22, if_neg h22]
  by_cases h23 : st.tk.kind = 23
  · rw [if_pos h23, if_pos h23]; exact hS.sign 15 st ts hfi hs ho (by rw [h23]; decide)
  rw [if_neg h23, if_neg h23]
  by_cases h26 : st.tk.kind = 26
  · rw [if_pos h26, if_pos h26]; exact hE.group st ts hfi hs ho (by rw [h26]; decide)
  rw [if_neg h26, if_neg h26]
  by_cases h2 : st.tk.kind = 2
  · rw [if_pos h2, if_pos h2]; exact ⟨rfl, hs.next (by rw [h2]; decide), ho, hfi.next⟩
  rw [if_neg h2, if_neg h2]
  by_cases h3 : st.tk.kind = 3
  · rw [if_pos h3, if_pos h3]; exact ⟨rfl, hs.next (by rw [h3]; decide), ho, hfi.next⟩
  rw [if_neg h3, if_neg h3]
  by_cases h4 : st.tk.kind = 4
  · rw [if_pos h4, if_pos h4]; exact ⟨rfl, hs.next (by rw [h4]; decide), ho, hfi.next⟩
  rw [if_neg h4, if_neg h4]
  by_cases h8 : st.tk.kind = 8
  · rw [if_pos h8, if_pos h8]; exact ⟨rfl, hs.next (by rw [h8]; decide), ho, hfi.next⟩
  rw [if_neg h8, if_neg h8]
  by_cases h9 : st.tk.kind = 9
  · rw [if_pos h9, if_pos h9]; exact ⟨rfl, hs.next (by rw [h9]; decide), ho, hfi.next⟩
  rw [if_neg h9, if_neg h9]
  rfl
theorem Sim.denied {s : ByteArray} {fD fT : St → Res} {fD' fT' : TS → TRes} (hD : Sim s fD fD') (hT : Sim s fT fT') : Sim s (qe6 s fD fT) (qg6 fD' fT') := by
  intro st ts hfi hs ho
  unfold qe6 qg6
  rw [qg8 hs]
  by_cases h7 : st.tk.kind = 7
  · rw [if_pos h7, if_pos h7]; exact hD.sign 5 st ts hfi hs ho (by rw [h7]; decide)
  · rw [if_neg h7, if_neg h7]; exact hT st ts hfi hs ho
end
section
def SimT (s : ByteArray) (k : Int) (g : Ast → St → Res) (g' : Ast → TS → TRes) : Prop := ∀ l st ts, Fine s st → Str s st ts.toks → st.op = ts.op → st.tk.kind = k → SimR s (g l st) (g' (qf9 l) ts)
theorem go1 {s : ByteArray} {st : St} {ts : TS} (hfi : Fine s st) (hs : Str s st ts.toks) (ho : st.op = ts.op) (hk : st.tk.kind ≠ 0) : Fine s (v8 s st) ∧ Str s (v8 s st) ts.next.toks ∧ (v8 s st).op = ts.next.op := ⟨hfi.next, hs.next hk, ho⟩
theorem jx7 (s : ByteArray) : SimT s 14 (qc9 s) tIsNull := by
  intro l st ts hfi hs ho hk
  obtain ⟨f1, s1, o1⟩ := go1 hfi hs ho (by rw [hk]; decide)
  unfold qc9 tIsNull
  rw [qg8 s1]
  by_cases h7 : (v8 s st).tk.kind = 7
  · rw [if_pos h7, if_pos h7]
    obtain ⟨f2, s2, o2⟩ := go1 f1 s1 o1 (by rw [h7]; decide)
    rw [qg8 s2]
    by_cases h15 : (v8 s (v8 s st)).tk.kind = 15
    · rw [if_pos h15, if_pos h15]
      obtain ⟨f3, s3, o3⟩ := go1 f2 s2 o2 (by rw [h15]; decide)
      exact ⟨rfl, s3, o3, f3⟩
    · rw [if_neg h15, if_neg h15]; rfl
  · rw [if_neg h7, if_neg h7]
    by_cases h15 : (v8 s st).tk.kind = 15
    · rw [if_pos h15, if_pos h15]
      obtain ⟨f2, s2, o2⟩ := go1 f1 s1 o1 (by rw [h15]; decide)
      exact ⟨rfl, s2, o2, f2⟩
    · rw [if_neg h15, if_neg h15]; rfl
theorem Sim.between {s : ByteArray} {f : St → Res} {f' : TS → TRes} (h : Sim s f f') : ∀ l st ts, Fine s st → Str s st ts.toks → st.op = ts.op → SimR s (qd5 s f l st) (qh0 f' (qf9 l) ts) := by
  intro l st ts hfi hs ho
  unfold qd5 qh0
  rw [qg8 hs]
  by_cases h10 : st.tk.kind = 10
  · rw [if_pos h10, if_pos h10]
    obtain ⟨f1, s1, o1⟩ := go1 hfi hs ho (by rw [h10]; decide)
    rcases (h _ _ f1 s1 o1).cases with ⟨t, st2, ts2, e1, e2, e3, e4, e5⟩ | ⟨en, pl, e1, e2⟩
    · rw [e1, e2]
      show SimR s (if st2.tk.kind = 5 then _ else _) (if ts2.tk.kind = 5 then _ else _)
      rw [qg8 e3]
      by_cases h5 : st2.tk.kind = 5
      · rw [if_pos h5, if_pos h5]
        obtain ⟨f3, s3, o3⟩ := go1 e5 e3 e4 (by rw [h5]; decide)
        rcases (h _ _ f3 s3 o3).cases with ⟨t3, st3, ts3, g1, g2, g3, g4, g5⟩ | ⟨en, pl, g1, g2⟩
        · rw [g1, g2]; exact ⟨rfl, g3, g4, g5⟩
        · rw [g1, g2]; rfl
      · rw [if_neg h5, if_neg h5]; rfl
    · rw [e1, e2]; rfl
  · rw [if_neg h10, if_neg h10]; rfl
theorem jx8 (s : ByteArray) (l : Ast) (pl : Nat) : ∀ n n' xs st ts, ts.toks.length < n → ts.toks.length < n' → Fine s st → Str s st ts.toks → st.op = ts.op → SimR s (qf7 s l pl n xs st) (qg1 (qf9 l) n' xs ts) := by
  intro n
  induction n with
  | zero => intro n' xs st ts h1; omega
  | succ n ih =>
    intro n' xs st ts h1 h2 hfi hs ho
    obtain ⟨m, rfl⟩ : ∃ m, n' = m + 1 := ⟨n' - 1, by omega⟩
    rw [qf7, qg1, qg8 hs]
    by_cases h28 : st.tk.kind = 28
    · rw [if_pos h28, if_pos h28]
      have hk : st.tk.kind ≠ 0 := by rw [h28]; decide
      obtain ⟨f1, s1, o1⟩ := go1 hfi hs ho hk
      have t1 : ts.next.toks.length < ts.toks.length := hs.tail_lt hk
      rw [qg8 s1]
      by_cases h4 : (v8 s st).tk.kind = 4
      · rw [if_pos h4, if_pos h4]
        obtain ⟨f2, s2, o2⟩ := go1 f1 s1 o1 (by rw [h4]; decide)
        have t2 := y5 ts.next
        exact ih m _ _ _ (by omega) (by omega) f2 s2 o2
      · rw [if_neg h4, if_neg h4]; rfl
    · rw [if_neg h28, if_neg h28]
      by_cases h27 : st.tk.kind = 27
      · rw [if_pos h27, if_pos h27]
        obtain ⟨f1, s1, o1⟩ := go1 hfi hs ho (by rw [h27]; decide)
        exact ⟨rfl, s1, o1, f1⟩
      · rw [if_neg h27, if_neg h27]; rfl
theorem sim_in (s : ByteArray) : SimT s 11 (qm8 s) tInRes := by
  intro l st ts hfi hs ho hk
  obtain ⟨f1, s1, o1⟩ := go1 hfi hs ho (by rw [hk]; decide)
  unfold qm8 tInRes
  rw [qg8 s1]
  by_cases h26 : (v8 s st).tk.kind = 26
  · rw [if_pos h26, if_pos h26]
    obtain ⟨f2, s2, o2⟩ := go1 f1 s1 o1 (by rw [h26]; decide)
    rw [qg8 s2]
    by_cases h4 : (v8 s (v8 s st)).tk.kind = 4
    · rw [if_pos h4, if_pos h4]
      obtain ⟨f3, s3, o3⟩ := go1 f2 s2 o2 (by rw [h4]; decide)
      have hl := s3.len f3
      have l1 := y5 ts
      have l2 := y5 ts.next
      have l3 := y5 ts.next.next
      exact jx8 s l st.place _ _ _ _ _ (by omega) (by omega) f3 s3 o3
    · rw [if_neg h4, if_neg h4]; rfl
  · rw [if_neg h26, if_neg h26]; rfl
theorem sim_like (s : ByteArray) : SimT s 12 (qd8 s) tLike := by
  intro l st ts hfi hs ho hk
  obtain ⟨f1, s1, o1⟩ := go1 hfi hs ho (by rw [hk]; decide)
  unfold qd8 tLike
  rw [qg8 s1]
  by_cases h4 : (v8 s st).tk.kind = 4
  · rw [if_pos h4, if_pos h4]
    obtain ⟨f2, s2, o2⟩ := go1 f1 s1 o1 (by rw [h4]; decide)
    rw [qg8 s2]
    by_cases h13 : (v8 s (v8 s st)).tk.kind = 13
    · rw [if_pos h13, if_pos h13]
      obtain ⟨f3, s3, o3⟩ := go1 f2 s2 o2 (by rw [h13]; decide)
      rw [qg8 s3]
      unfold qz4
      by_cases g4 : (v8 s (v8 s (v8 s st))).tk.kind = 4
      · rw [if_pos g4]
        by_cases g1 : (v8 s (v8 s (v8 s st))).tk.str.length = 1
        · rw [if_pos g1]
          by_cases g2 : (qw1 (v8 s (v8 s (v8 s st))).tk.str (v8 s st).tk.str).isSome = true
          · rw [if_pos g2, if_pos ⟨g4, g1, g2⟩]
            obtain ⟨f4, s4, o4⟩ := go1 f3 s3 o3 (by rw [g4]; decide)
            exact ⟨rfl, s4, o4, f4⟩
          · rw [if_neg g2, if_neg (fun h => g2 h.2.2)]; rfl
        · rw [if_neg g1, if_neg (fun h => g1 h.2.1)]; rfl
      · rw [if_neg g4, if_neg (fun h => g4 h.1)]; rfl
    · rw [if_neg h13, if_neg h13]
      exact ⟨rfl, s2, o2, f2⟩
  · rw [if_neg h4, if_neg h4]; rfl
theorem Sim.keyword {s : ByteArray} {f : St → Res} {f' : TS → TRes} (h : Sim s f f') (bare : Bool) (l : Ast) (st : St) (ts : TS) (hfi : Fine s st) (hs : Str s st ts.toks) (ho : st.op = ts.op) : SimR s (y6 s f (qm8 s) (qd8 s) bare l st) (qf5 f' bare (qf9 l) ts) := by
  unfold y6 qf5
  rw [qg8 hs]
  by_cases h11 : st.tk.kind = 11 ∧ bare = true
  · rw [if_pos h11, if_pos h11]; exact sim_in s l st ts hfi hs ho h11.1
  rw [if_neg h11, if_neg h11]
  by_cases h12 : st.tk.kind = 12 ∧ bare = true
  · rw [if_pos h12, if_pos h12]; exact sim_like s l st ts hfi hs ho h12.1
  rw [if_neg h12, if_neg h12]
  exact h.between l st ts hfi hs ho
theorem Sim.tail {s : ByteArray} {f : St → Res} {f' : TS → TRes} (h : Sim s f f') (bare : Bool) (l : Ast) (st : St) (ts : TS) (hfi : Fine s st) (hs : Str s st ts.toks) (ho : st.op = ts.op) : SimR s (x7 s f (qm8 s) (qd8 s) bare l st) (qy5 f' bare (qf9 l) ts) := by
  unfold x7 qy5
  rw [qg8 hs]
  by_cases h16 : st.tk.kind = 16 ∨ st.tk.kind = 17 ∨ st.tk.kind = 18 ∨ st.tk.kind = 19 ∨ st.tk.kind = 20 ∨ st.tk.kind = 21
  · rw [if_pos h16, if_pos h16]; exact h.join st ts l hfi hs ho (by omega)
  rw [if_neg h16, if_neg h16]
  by_cases h14 : st.tk.kind = 14
  · rw [if_pos h14, if_pos h14]
    cases bare
    · exact ⟨rfl, hs, ho, hfi⟩
    · exact jx7 s l st ts hfi hs ho h14
  rw [if_neg h14, if_neg h14]
  by_cases h7 : st.tk.kind = 7
  · rw [if_pos h7, if_pos h7]
    obtain ⟨f1, s1, o1⟩ := go1 hfi hs ho (by rw [h7]; decide)
    rcases (h.keyword bare l _ _ f1 s1 o1).cases with ⟨t, st2, ts2, e1, e2, e3, e4, e5⟩ | ⟨en, pl, e1, e2⟩
    · rw [e1, e2]; exact ⟨rfl, e3, e4, e5⟩
    · rw [e1, e2]; rfl
  rw [if_neg h7, if_neg h7]
  by_cases h10 : st.tk.kind = 10 ∨ st.tk.kind = 11 ∨ st.tk.kind = 12
  · rw [if_pos h10, if_pos h10]; exact h.keyword bare l st ts hfi hs ho
  · rw [if_neg h10, if_neg h10]; exact ⟨rfl, hs, ho, hfi⟩
theorem Sim.test {s : ByteArray} {f : St → Res} {f' : TS → TRes} (h : Sim s f f') : Sim s (qi8 s f (qm8 s) (qd8 s)) (qx2 f') := by
  intro st ts hfi hs ho
  unfold qi8 qx2
  rcases (h st ts hfi hs ho).cases with ⟨t, st2, ts2, e1, e2, e3, e4, e5⟩ | ⟨en, pl, e1, e2⟩
  · rw [e1, e2]
    show SimR s (x7 s f (qm8 s) (qd8 s) (qt1 st t) t st2) (qy5 f' (ts.tk.kind == 2 && opA (qf9 t) == 0) (qf9 t) ts2)
    rw [qg8 hs, jc6]
    exact h.tail _ t st2 ts2 e5 e3 e4
  · rw [e1, e2]; rfl
structure Sim3 (s : ByteArray) (L : L3) (L' : T3) : Prop where
  S : Sim s L.S L'.S
  D : Sim s L.D L'.D
  E : Sim s L.E L'.E
  s' : Shr L'.S
  d' : Shr L'.D
  e' : Shr L'.E
theorem sim_up {s : ByteArray} {L : L3} {L' : T3} (h : Sim3 s L L') : Sim3 s (up3 s L) (tUp L') := by
  have hS := Sim.signed h.S h.E
  have zS := Shr.signed h.s' h.e'
  have hP := hS.row zS [24, 25] rfl
  have zP := zS.row [24, 25]
  have hU := hP.row zP [22, 23] rfl
  have zU := zP.row [22, 23]
  have hT := hU.test
  have zT := zU.test
  have hD := Sim.denied h.D hT
  have zD := Shr.denied h.d' zT
  have hB := hD.row zD [5] rfl
  have zB := zD.row [5]
  exact ⟨hS, hD, hB.row zB [6] rfl, zS, zD, zB.row [6]⟩
theorem va5 (s : ByteArray) : ∀ d, Sim3 s (lvl s d) (vd6 d) := by
  intro d
  induction d with
  | zero => exact sim_up ⟨(fun _ _ _ _ _ => rfl), (fun _ _ _ _ _ => rfl), (fun _ _ _ _ _ => rfl), (fun _ _ _ h => by cases h), (fun _ _ _ h => by cases h), (fun _ _ _ h => by cases h)⟩
  | succ d ih => exact sim_up ih
end
section
theorem join_all (op : Int) (h14 : ¬ op = 14) (h15 : ¬ op = 15) (x y : V) (hx : Rng x.num) (hy : Rng y.num) : qk5 op x y (qz8 op x y) := by
  by_cases h5 : op = 5
  · subst h5; exact join_5 x y
  by_cases h6 : op = 6
  · subst h6; exact join_6 x y
  by_cases h7 : op = 7
  · subst h7; exact join_7 x y
  by_cases h8 : op = 8
  · subst h8; exact join_8 x y
  by_cases h9 : op = 9
  · subst h9; exact join_9 x y
  by_cases h12 : op = 12
  · subst h12; exact join_12 x y
  by_cases h10 : op = 10
  · subst h10; exact join_10 x y
  by_cases h13 : op = 13
  · subst h13; exact join_13 x y
  by_cases h11 : op = 11
  · subst h11; exact join_11 x y
  by_cases h16 : op = 16
  · subst h16; exact join_16 x y hx hy
  by_cases h17 : op = 17
  · subst h17; exact join_17 x y hx hy
  by_cases h18 : op = 18
  · subst h18; exact join_18 x y hx hy
  by_cases h19 : op = 19
  · subst h19; exact join_19 x y hx
  have hr : qz8 op x y = bV (x.kind == 0) := by
    rw [qz8, if_neg h5, if_neg h6, if_neg h7, if_neg h8, if_neg h9, if_neg h12, if_neg h10, if_neg h13, if_neg h11, if_neg h14, if_neg h16, if_neg h15, if_neg h17, if_neg h18, if_neg h19]
  rw [hr]
  exact join_none op x y h5 h6 h7 h8 h9 h12 h10 h13 h11 h14 h16 h15 h17 h18 h19
end
end Go.Proofs.YtfkcaldjphakpabGreatDoor
