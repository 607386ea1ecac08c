/- Read's deferred function. What Read says of a text. Read. Quoted texts and patterns, as lists of bytes. Reading a list of tokens goes as reading a text goes: rows, signs, groups. Reading a list of tokens goes as reading a text goes: the rest. Reading a list of tokens goes as reading a text goes: tests, and all levels. The strings of what is read are short, its texts few. All of Join but for the signs. Op.Join: operator 14. Op.Join: operator 15. -/
import Derived.Test.YtfkcaldjphakpabGreatDoorT11
import Derived.Defers
import Derived.Recover
import Derived.Laws.Pointers
import Derived.Test.YtfkcaldjphakpabGreatDoorT13
import Derived.Test.YtfkcaldjphakpabGreatDoorT02
import Derived.Test.YtfkcaldjphakpabGreatDoorT14
import Derived.Test.YtfkcaldjphakpabGreatDoorT33
import Derived.Deep.RegionWith
namespace Go.Proofs.YtfkcaldjphakpabGreatDoor
open Go.RowKit
section
set_option maxHeartbeats 1000000 in
theorem jq9 (p0 p1 p2 : Addr) (w : World) :
    CallsD Tryz.prog 54 #[.pointer (some p0), .pointer (some p1), .pointer (some p2)] .returning w fun e u' w' => e = .returned (.tuple #[]) ∧ u' = .returning ∧ w' = w := by
  refine callsD_of_wpS Tryz.func54 rfl fun c₀ cs hu => ?_
  apply wpS_seq
  apply wpS_region
  simp [wpOpsS, go_sem, recoverD, hu, Tryz.ntmps54, Exit.thenS]
  refine wpS_of_wp ?_
  rw [show (#[Value.pointer (some p0), Value.pointer (some p1), Value.pointer (some p2)] ++ (Array.replicate 13 undef).setIfInBounds 3 Value.nilIface) = #[Value.pointer (some p0), Value.pointer (some p1), Value.pointer (some p2), undef, undef, undef, Value.nilIface, undef, undef, undef, undef, undef, undef, undef, undef, undef] from rfl]
  go_wp2_with fail
  refine ⟨rfl, .returning, ?_, _, results_none rfl _ _ _, rfl, rfl, rfl⟩
  cases c₀
  simp_all
theorem as_fault (v : Value) (w : World) : (Instr.typeAssert (.iface 124 v) 20 124 true).run Tryz.prog w = .ok (.tuple #[v, .bool true]) w := by kernel_rfl
theorem eq_fault (v : Value) (w : World) : (binOp .eql 20 (.iface 124 v) .nilIface).run Tryz.prog w = .ok (.bool false) w := by kernel_rfl
set_option maxHeartbeats 1000000 in
theorem qq1 (B : Nat) (x0 x1 x2 : Value) (en pl : Int) (older : List PanicEntry) (w : World) (hB : B + 2 < w.heap.size) (h0 : w.cell? ⟨B, 0, none⟩ = some x0) (h1 : w.cell? ⟨B + 1, 0, none⟩ = some x1) (h2 : w.cell? ⟨B + 2, 0, none⟩ = some x2)
    (f0 : w.frozen? ⟨B, 0, none⟩ = false) (f1 : w.frozen? ⟨B + 1, 0, none⟩ = false) (f2 : w.frozen? ⟨B + 2, 0, none⟩ = false) :
    CallsD Tryz.prog 54 #[.pointer (some ⟨B, 0, none⟩), .pointer (some ⟨B + 1, 0, none⟩), .pointer (some ⟨B + 2, 0, none⟩)] (.panicking ({ v := .iface 124 (.agg #[.int .i64 en, .int .i64 pl]), recovered := false } :: older)) w fun e u' w' =>
      e = .returned (.tuple #[]) ∧ u' = .panicking ({ v := .iface 124 (.agg #[.int .i64 en, .int .i64 pl]), recovered := true } :: older) ∧
      w'.cell? ⟨B, 0, none⟩ = some (.pointer none) ∧ w'.cell? ⟨B + 1, 0, none⟩ = some (.int .i64 en) ∧ w'.cell? ⟨B + 2, 0, none⟩ = some (.int .i64 pl) ∧ Below B w w' := by
  refine callsD_of_wpS Tryz.func54 rfl fun c₀ cs hu => ?_
  apply wpS_seq
  apply wpS_region
  simp [wpOpsS, go_sem, recoverD, hu, Tryz.ntmps54, Exit.thenS]
  refine wpS_of_wp ?_
  rw [show (#[Value.pointer (some ⟨B, 0, none⟩), Value.pointer (some ⟨B + 1, 0, none⟩), Value.pointer (some ⟨B + 2, 0, none⟩)] ++ (Array.replicate 13 undef).setIfInBounds 3 (.iface 124 (.agg #[.int .i64 en, .int .i64 pl]))) = #[Value.pointer (some ⟨B, 0, none⟩), Value.pointer (some ⟨B + 1, 0, none⟩), Value.pointer (some ⟨B + 2, 0, none⟩), undef, undef, undef, .iface 124 (.agg #[.int .i64 en, .int .i64 pl]), undef, undef, undef, undef, undef, undef, undef, undef, undef] from rfl]
  have ha := as_fault
  have hq := eq_fault
  have n0 : B < w.heap.size := by omega
  have n1 : B + 1 < w.heap.size := by omega
  have m0 : ¬ w.heap.size = B := by omega
  have m1 : ¬ w.heap.size = B + 1 := by omega
  have m2 : ¬ w.heap.size = B + 2 := by omega
  go_wp2_with fail
  go_region
  all_goals refine ⟨rfl, .panicking ({ v := .iface 124 (.agg #[.int .i64 en, .int .i64 pl]), recovered := true } :: older), ?_, _, results_none rfl _ _ _, rfl, rfl, ?_, ?_, ?_, ?_⟩
  · cases c₀
    simp_all
  · rw [World.cell?_drew, World.cell?_alloc_past _ _ _ (by simp; omega)]; simp [go_sem, h0]
  · rw [World.cell?_drew, World.cell?_alloc_past _ _ _ (by simp; omega)]; simp [go_sem, h1]
  · rw [World.cell?_drew, World.cell?_alloc_past _ _ _ (by simp; omega)]; simp [go_sem, h2]
  · exact (((((Below.refl B w).setCell (Nat.le_refl _) _).setCell (by simp) _).setCell (by simp) _).alloc (by simp; omega) _).drew
end
section
structure Above (lo : Nat) (w w' : World) : Prop where
  size : w.heap.size ≤ w'.heap.size
  block : ∀ k, lo < k → k < w.heap.size → w'.heap[k]? = w.heap[k]?
theorem Kept.above {rb : Nat} {w w' : World} (h : Kept rb w w') : Above rb w w' := ⟨h.size, fun k h1 h2 => h.block k h2 (by omega)⟩
theorem Above.trans {lo : Nat} {a b c : World} (h : Above lo a b) (k : Above lo b c) : Above lo a c := ⟨Nat.le_trans h.size k.size, fun i h1 h2 => (k.block i h1 (Nat.lt_of_lt_of_le h2 h.size)).trans (h.block i h1 h2)⟩
theorem Above.setCell {lo : Nat} {a w : World} (h : Above lo a w) {p : Addr} (hp : p.block ≤ lo) (u : Value) : Above lo a (w.setCell p u) := by
  refine ⟨by rw [x8]; exact h.size, fun k h1 h2 => ?_⟩
  rw [Below.heap_setCell w p u k (by omega)]; exact h.block k h1 h2
theorem Above.cell {lo : Nat} {w w' : World} (h : Above lo w w') {g : Nat} (h1 : lo < g) (h2 : g < w.heap.size) (j : Nat) : w'.cell? ⟨g, j, none⟩ = w.cell? ⟨g, j, none⟩ :=
  World.cell?_of_block (w := w) (w' := w') (a := ⟨g, j, none⟩) (h.block g h1 h2)
theorem TextsAt.keptA {lo : Nat} {w w' : World} (hk : Above lo w w') {v : Value} {ts : List (List UInt8)} (h : TextsAt lo w v ts) : TextsAt lo w' v ts := by
  rcases h with h | ⟨g, cap, hv, hg, hg2, hc⟩
  · exact .inl h
  · exact .inr ⟨g, cap, hv, hg, Nat.lt_of_lt_of_le hg2 hk.size, fun j t ht => (hk.cell hg hg2 j).trans (hc j t ht)⟩
theorem NodeAt.keptA {lo : Nat} {w w' : World} (hk : Above lo w w') {b : Nat} {p : Pay} {sides : Value} (h : NodeAt lo w b p sides) : NodeAt lo w' b p sides := by
  obtain ⟨h1, h2, c0, c1, c2, c3, c4, c5, tv, c6, ht⟩ := h
  have hc := fun j => hk.cell h1 h2 j
  exact ⟨h1, Nat.lt_of_lt_of_le h2 hk.size, (hc 0).trans c0, (hc 1).trans c1, (hc 2).trans c2, (hc 3).trans c3, (hc 4).trans c4, (hc 5).trans c5, tv, (hc 6).trans c6, ht.keptA hk⟩
theorem IsNode.above {lo : Nat} {w w' : World} (hk : Above lo w w') : ∀ {t : Ast} {v : Value}, IsNode lo w v t → IsNode lo w' v t := by
  have hc := fun g j (h1 : lo < g) (h2 : g < w.heap.size) => hk.cell h1 h2 j
  intro t
  induction t with
  | leaf p => rintro v ⟨b, rfl, h⟩; exact ⟨b, rfl, h.keptA hk⟩
  | un p x ih =>
    rintro v ⟨b, g, v1, rfl, h, h1, h2, e1, n1⟩
    exact ⟨b, g, v1, rfl, h.keptA hk, h1, Nat.lt_of_lt_of_le h2 hk.size, (hc g 0 h1 h2).trans e1, ih n1⟩
  | bin p x y ihx ihy =>
    rintro v ⟨b, g, v1, v2, rfl, h, h1, h2, e1, e2, n1, n2⟩
    exact ⟨b, g, v1, v2, rfl, h.keptA hk, h1, Nat.lt_of_lt_of_le h2 hk.size, (hc g 0 h1 h2).trans e1, (hc g 1 h1 h2).trans e2, ihx n1, ihy n2⟩
  | tri p x y z ihx ihy ihz =>
    rintro v ⟨b, g, v1, v2, v3, rfl, h, h1, h2, e1, e2, e3, n1, n2, n3⟩
    exact ⟨b, g, v1, v2, v3, rfl, h.keptA hk, h1, Nat.lt_of_lt_of_le h2 hk.size, (hc g 0 h1 h2).trans e1, (hc g 1 h1 h2).trans e2, (hc g 2 h1 h2).trans e3, ihx n1, ihy n2, ihz n3⟩
inductive RRes where
  | ok (t : Ast)
  | err (en pl : Int)
def st0 : St := ⟨⟨0, 0, []⟩, 0, 0, 0⟩
def endR (t : Ast) (st : St) : RRes := if st.tk.kind = 0 then (match chkR (qa1 t) with
  | none => .ok t
  | some q => .err 4 q) else .err 2 st.place
def qm5 (s : ByteArray) : RRes := if s.size ≤ 200 then (match (lvl s 12).E (v8 s st0) with
  | .err en pl => .err en pl
  | .ok t st => endR t st) else .err 1 0
def qt2 (w : World) (r : RRes) (e : Ending) (w' : World) : Prop := Below w.heap.size w w' ∧ match r with
  | .ok t => ∃ v, e = .returned (.tuple #[v, .int .i64 0, .int .i64 0]) ∧ IsNode (w.heap.size + 3) w' v t
  | .err en pl => e = .returned (.tuple #[.pointer none, .int .i64 en, .int .i64 pl])
theorem Kept.below {rb B : Nat} {a w w' : World} (h : Kept rb w w') (hb : Below B a w) (hB : B ≤ rb) (hz : B ≤ w.heap.size) : Below B a w' :=
  ⟨h.os.trans hb.os, h.tape.trans hb.tape, h.output.trans hb.output, Nat.le_trans hb.size h.size, fun k hk => (h.block k (by omega) (by omega)).trans (hb.block k hk)⟩
def begun (w : World) (s : ByteArray) : World := (((w.alloc (.cells #[.pointer none] 74)).alloc (.cells #[.int .i64 0] 33)).alloc (.cells #[.int .i64 0] 3)).alloc (.cells #[.string s, .int .i64 0, .int .i64 0, .int .i64 0, .string ⟨#[]⟩, .int .i64 0, .int .i64 0] 129)
theorem qg4 (w : World) (s : ByteArray) : (begun w s).heap.size = w.heap.size + 4 := by simp [begun]
theorem jc6 (w : World) (s : ByteArray) : Below w.heap.size w (begun w s) := (qb2 w _ _ _).alloc (by simp; omega) _
theorem jc7 (w : World) (s : ByteArray) : (begun w s).cell? ⟨w.heap.size, 0, none⟩ = some (.pointer none) ∧ (begun w s).cell? ⟨w.heap.size + 1, 0, none⟩ = some (.int .i64 0) ∧ (begun w s).cell? ⟨w.heap.size + 2, 0, none⟩ = some (.int .i64 0) ∧
    (begun w s).frozen? ⟨w.heap.size, 0, none⟩ = false ∧ (begun w s).frozen? ⟨w.heap.size + 1, 0, none⟩ = false ∧ (begun w s).frozen? ⟨w.heap.size + 2, 0, none⟩ = false := by
  unfold begun
  refine ⟨?_, ?_, ?_, ?_, ?_, ?_⟩
  · rw [World.cell?_alloc_past _ _ _ (by simp <;> omega), World.cell?_alloc_past _ _ _ (by simp <;> omega), World.cell?_alloc_past _ _ _ (by simp), World.cell?_alloc_at _ _ _ _ rfl]; rfl
  · rw [World.cell?_alloc_past _ _ _ (by simp <;> omega), World.cell?_alloc_past _ _ _ (by simp), World.cell?_alloc_at _ _ _ _ (by simp)]; rfl
  · rw [World.cell?_alloc_past _ _ _ (by simp), World.cell?_alloc_at _ _ _ _ (by simp)]; rfl
  · rw [World.frozen?_alloc_past _ _ _ (by simp <;> omega), World.frozen?_alloc_past _ _ _ (by simp <;> omega), World.frozen?_alloc_past _ _ _ (by simp), World.frozen?_alloc_at _ _ _ _ rfl]
  · rw [World.frozen?_alloc_past _ _ _ (by simp <;> omega), World.frozen?_alloc_past _ _ _ (by simp), World.frozen?_alloc_at _ _ _ _ (by simp)]
  · rw [World.frozen?_alloc_past _ _ _ (by simp), World.frozen?_alloc_at _ _ _ _ (by simp)]
theorem rd_new (w : World) (s : ByteArray) : RdAt (w.alloc (.cells #[.string s, .int .i64 0, .int .i64 0, .int .i64 0, .string ⟨#[]⟩, .int .i64 0, .int .i64 0] 129)) w.heap.size s st0 :=
  ⟨by simp, by simp [st0], by simp [st0], by simp [st0], by simp [st0, BS], by simp [st0], by simp [st0], fun j => by simp⟩
theorem begun_rd (w : World) (s : ByteArray) : RdAt (begun w s) (w.heap.size + 3) s st0 := by
  have hs : w.heap.size + 3 = (((w.alloc (.cells #[.pointer none] 74)).alloc (.cells #[.int .i64 0] 33)).alloc (.cells #[.int .i64 0] 3)).heap.size := by simp
  rw [hs]
  exact rd_new _ s
theorem vx4 (w : World) (s : ByteArray) (h : ErrOk w) : ErrOk (begun w s) := (((h.alloc _).alloc _).alloc _).alloc _
theorem jc8 (w : World) (s : ByteArray) (h : ErrOk w) (hs : s.size ≤ 200) : Ready (w.heap.size + 3) s (begun w s) st0 :=
  ⟨begun_rd w s, by rw [qg4]; omega, vx4 w s h, by have := h.1; omega, ⟨Nat.zero_le _, Nat.zero_le _, fun h => absurd rfl h⟩, by omega⟩
end
section
theorem ErrOk.set {w : World} (h : ErrOk w) {p : Addr} (hp : 3 < p.block) (u : Value) : ErrOk (w.setCell p u) := by
  obtain ⟨h1, ev, h2, h3⟩ := h
  refine ⟨by rw [x8]; exact h1, ev, ?_, h3⟩
  rw [World.cell?_of_block (w := w) (w' := w.setCell p u) (Below.heap_setCell w p u _ (by show 3 ≠ p.block; omega))]; exact h2
set_option maxHeartbeats 2000000 in
set_option maxRecDepth 100000 in
theorem qr1 (s : ByteArray) (w : World) (hE : ErrOk w) (hsz : s.size ≤ 140737488355328) :
    Calls Tryz.prog 31 #[.string s] w (qt2 w (qm5 s)) := by
  have hmf : ∀ (fn : Fn) (first cap : Array Value) (w : World), (Instr.makeFunc fn first cap).run Tryz.prog w = .ok (.func fn first cap) w := fun _ _ _ _ => rfl
  by_cases hs : s.size ≤ 200
  · rw [qm5, if_pos hs]
    have hs1 : s.size ≤ 140737488355328 := hsz
    have hb : decide ((200 : Int) < (s.size : Int)) = false := decide_eq_false (by omega)
    have RDY := v6 (jc8 w s hE hs)
    have BC := v6 (jc7 w s)
    have BB := v6 (jc6 w s)
    have BZ := qg4 w s
    have EI := v6 (lvl_reads (w.heap.size + 3) s hs 12 0 rfl).E
    have HF1 := v6 (qk4 s st0 (Nat.zero_le _))
    have GOOD := v6 (lvl_good s 12).E
    have ERR2 : Hid (∀ w2 u, Kept (w.heap.size + 3) (begun w s) w2 → ErrOk (w2.setCell ⟨w.heap.size, 0, none⟩ u)) := v6 fun w2 u hk => ((vx4 w s hE).kept hk (by have := hE.1; omega)).set hE.1 u
    clear hE hsz
    cases hres : (lvl s 12).E (v8 s st0) with
    | err en pl =>
      have HRES := v6 hres
      clear hres
      go_enter_defers Tryz.func31, Tryz.ntmps31
      go_wp2_with (first | (go_at_call 55; refine (qb6 (w.heap.size + 3) s st0 (begun w s) hs1 (Nat.zero_le _) (q9 RDY).at' (q9 RDY).lt (q9 RDY).err).mono ?_; rintro e w1 ⟨rfl, hr1, hk1⟩; have hz1 := hk1.size; rw [qg4] at hz1; obtain ⟨kc, kf⟩ := x4 hk1; rw [qg4] at kc kf; have a0 : w1.cell? ⟨w.heap.size, 0, none⟩ = some (.pointer none) := (kc _ 0 (by omega) (by omega)).trans (q9 BC).1; have a1 : w1.cell? ⟨w.heap.size + 1, 0, none⟩ = some (.int .i64 0) := (kc _ 0 (by omega) (by omega)).trans (q9 BC).2.1; have a2 : w1.cell? ⟨w.heap.size + 2, 0, none⟩ = some (.int .i64 0) := (kc _ 0 (by omega) (by omega)).trans (q9 BC).2.2.1; have b0 : w1.frozen? ⟨w.heap.size, 0, none⟩ = false := (kf _ 0 (by omega) (by omega)).trans (q9 BC).2.2.2.1; have b1 : w1.frozen? ⟨w.heap.size + 1, 0, none⟩ = false := (kf _ 0 (by omega) (by omega)).trans (q9 BC).2.2.2.2.1; have b2 : w1.frozen? ⟨w.heap.size + 2, 0, none⟩ = false := (kf _ 0 (by omega) (by omega)).trans (q9 BC).2.2.2.2.2; have hR1 := v6 ((q9 RDY).kept hk1 hr1 (q9 HF1)); have hK1 := v6 hk1; clear hr1 hk1 kc kf) | (go_at_call 56; refine (q9 EI w1 (v8 s st0) (q9 hR1) rfl).mono ?_; rintro e w2 ⟨hk2, h2⟩; rw [q9 HRES] at h2; subst h2; have hz2 := hk2.size; obtain ⟨kc, kf⟩ := x4 hk2; have c0 : w2.cell? ⟨w.heap.size, 0, none⟩ = some (.pointer none) := (kc _ 0 (by omega) (by omega)).trans a0; have c1 : w2.cell? ⟨w.heap.size + 1, 0, none⟩ = some (.int .i64 0) := (kc _ 0 (by omega) (by omega)).trans a1; have c2 : w2.cell? ⟨w.heap.size + 2, 0, none⟩ = some (.int .i64 0) := (kc _ 0 (by omega) (by omega)).trans a2; have d0 : w2.frozen? ⟨w.heap.size, 0, none⟩ = false := (kf _ 0 (by omega) (by omega)).trans b0; have d1 : w2.frozen? ⟨w.heap.size + 1, 0, none⟩ = false := (kf _ 0 (by omega) (by omega)).trans b1; have d2 : w2.frozen? ⟨w.heap.size + 2, 0, none⟩ = false := (kf _ 0 (by omega) (by omega)).trans b2; have hK2 := v6 ((q9 hK1).trans hk2); clear hk2 kc kf a0 a1 a2 b0 b1 b2; simp only [x3]))
      refine leaves_cons (f := 54) (args := #[.pointer (some ⟨w.heap.size, 0, none⟩), .pointer (some ⟨w.heap.size + 1, 0, none⟩), .pointer (some ⟨w.heap.size + 2, 0, none⟩)]) (by simp) (by simp [go_sem]) ?_
      refine (qq1 w.heap.size (.pointer none) (.int .i64 0) (.int .i64 0) _ _ [] w2 (by omega) c0 c1 c2 d0 d1 d2).mono ?_
      rintro e u' w9 ⟨rfl, rfl, k0, k1, k2, hb9⟩
      have HB := v6 (((q9 hK2).below (q9 BB) (by omega) (by omega)).trans hb9)
      simp [Leaves, settle, results, Tryz.results31, go_sem, k0, k1, k2]
      exact ⟨q9 HB, rfl⟩
    | ok t st2 =>
      have CHK := v6 (check_any (w.heap.size + 3) t (q9 GOOD _ _ _ hres))
      have HRES := v6 hres
      clear hres
      show Calls Tryz.prog _ _ _ (qt2 w (endR t st2))
      unfold endR
      by_cases hk : st2.tk.kind = 0
      · rw [if_pos hk]
        have HK := v6 hk
        clear hk
        cases hch : chkR (qa1 t) with
        | none =>
          have HCH := v6 hch
          clear hch
          go_enter_defers Tryz.func31, Tryz.ntmps31
          go_wp2_with (first | (go_at_call 55; refine (qb6 (w.heap.size + 3) s st0 (begun w s) hs1 (Nat.zero_le _) (q9 RDY).at' (q9 RDY).lt (q9 RDY).err).mono ?_; rintro e w1 ⟨rfl, hr1, hk1⟩; have hz1 := hk1.size; rw [qg4] at hz1; obtain ⟨kc, kf⟩ := x4 hk1; rw [qg4] at kc kf; have a0 : w1.cell? ⟨w.heap.size, 0, none⟩ = some (.pointer none) := (kc _ 0 (by omega) (by omega)).trans (q9 BC).1; have a1 : w1.cell? ⟨w.heap.size + 1, 0, none⟩ = some (.int .i64 0) := (kc _ 0 (by omega) (by omega)).trans (q9 BC).2.1; have a2 : w1.cell? ⟨w.heap.size + 2, 0, none⟩ = some (.int .i64 0) := (kc _ 0 (by omega) (by omega)).trans (q9 BC).2.2.1; have b0 : w1.frozen? ⟨w.heap.size, 0, none⟩ = false := (kf _ 0 (by omega) (by omega)).trans (q9 BC).2.2.2.1; have b1 : w1.frozen? ⟨w.heap.size + 1, 0, none⟩ = false := (kf _ 0 (by omega) (by omega)).trans (q9 BC).2.2.2.2.1; have b2 : w1.frozen? ⟨w.heap.size + 2, 0, none⟩ = false := (kf _ 0 (by omega) (by omega)).trans (q9 BC).2.2.2.2.2; have hR1 := v6 ((q9 RDY).kept hk1 hr1 (q9 HF1)); have hK1 := v6 hk1; clear hr1 hk1 kc kf) | (go_at_call 56; refine (q9 EI w1 (v8 s st0) (q9 hR1) rfl).mono ?_; rintro e w2 ⟨hk2, h2⟩; rw [q9 HRES] at h2; obtain ⟨v2, rfl, hn2, hr2, hf2, ho2, hp2⟩ := h2; obtain ⟨vb, rfl⟩ := hn2.ptr; have hn2 := v6 hn2; have hr2 := v6 hr2; have hf2 := v6 hf2; have hz2 := hk2.size; obtain ⟨kc, kf⟩ := x4 hk2; have c0 : w2.cell? ⟨w.heap.size, 0, none⟩ = some (.pointer none) := (kc _ 0 (by omega) (by omega)).trans a0; have c1 : w2.cell? ⟨w.heap.size + 1, 0, none⟩ = some (.int .i64 0) := (kc _ 0 (by omega) (by omega)).trans a1; have c2 : w2.cell? ⟨w.heap.size + 2, 0, none⟩ = some (.int .i64 0) := (kc _ 0 (by omega) (by omega)).trans a2; have d0 : w2.frozen? ⟨w.heap.size, 0, none⟩ = false := (kf _ 0 (by omega) (by omega)).trans b0; have d1 : w2.frozen? ⟨w.heap.size + 1, 0, none⟩ = false := (kf _ 0 (by omega) (by omega)).trans b1; have d2 : w2.frozen? ⟨w.heap.size + 2, 0, none⟩ = false := (kf _ 0 (by omega) (by omega)).trans b2; have hK2 := v6 ((q9 hK1).trans hk2); clear hk2 kc kf a0 a1 a2 b0 b1 b2) | (go_at_call 57; refine (qb1 (w.heap.size + 3) s st2 0 (w2.setCell ⟨w.heap.size, 0, none⟩ (.pointer (some ⟨vb, 0, none⟩))) hs1 (q9 hf2).after ((q9 hr2).setOther (by show ¬ w.heap.size = w.heap.size + 3; omega) _) (by rw [x8]; omega) (q9 ERR2 _ _ (q9 hK2)) (q9 HK)).mono ?_; rintro e w3 ⟨rfl, hr3, hk3⟩; clear hr3; have hz3 : w2.heap.size ≤ w3.heap.size := (by have := hk3.size; rw [x8] at this; exact this); obtain ⟨kc, kf⟩ := x4 hk3; rw [x8] at kc kf; have g0 : w3.cell? ⟨w.heap.size, 0, none⟩ = some (.pointer (some ⟨vb, 0, none⟩)) := (kc _ 0 (by omega) (by omega)).trans (by simp [go_sem, c0]); have g1 : w3.cell? ⟨w.heap.size + 1, 0, none⟩ = some (.int .i64 0) := (kc _ 0 (by omega) (by omega)).trans (by simp [go_sem, c1]); have g2 : w3.cell? ⟨w.heap.size + 2, 0, none⟩ = some (.int .i64 0) := (kc _ 0 (by omega) (by omega)).trans (by simp [go_sem, c2]); have i0 : w3.frozen? ⟨w.heap.size, 0, none⟩ = false := (kf _ 0 (by omega) (by omega)).trans (by simp [go_sem, d0]); have i1 : w3.frozen? ⟨w.heap.size + 1, 0, none⟩ = false := (kf _ 0 (by omega) (by omega)).trans (by simp [go_sem, d1]); have i2 : w3.frozen? ⟨w.heap.size + 2, 0, none⟩ = false := (kf _ 0 (by omega) (by omega)).trans (by simp [go_sem, d2]); have hK3 := v6 hk3; clear hk3 kc kf c0 c1 c2 d0 d1 d2; simp only [tkV]) | (go_at_call 58; refine (q9 CHK w3 (.pointer (some ⟨vb, 0, none⟩)) ((q9 hn2).above (((Above.mk (Nat.le_refl _) (fun _ _ _ => rfl)).setCell (p := ⟨w.heap.size, 0, none⟩) (by show w.heap.size ≤ w.heap.size + 3; omega) (.pointer (some ⟨vb, 0, none⟩))).trans (q9 hK3).above))).mono ?_; rintro e w4 ⟨hb4, h4⟩; rw [q9 HCH] at h4; subst h4; have hz4 := hb4.size; obtain ⟨bc, bf⟩ := j5 hb4; have j0 : w4.cell? ⟨w.heap.size, 0, none⟩ = some (.pointer (some ⟨vb, 0, none⟩)) := (bc _ 0 (by omega)).trans g0; have j1 : w4.cell? ⟨w.heap.size + 1, 0, none⟩ = some (.int .i64 0) := (bc _ 0 (by omega)).trans g1; have j2 : w4.cell? ⟨w.heap.size + 2, 0, none⟩ = some (.int .i64 0) := (bc _ 0 (by omega)).trans g2; have l0 : w4.frozen? ⟨w.heap.size, 0, none⟩ = false := (bf _ 0 (by omega)).trans i0; have l1 : w4.frozen? ⟨w.heap.size + 1, 0, none⟩ = false := (bf _ 0 (by omega)).trans i1; have l2 : w4.frozen? ⟨w.heap.size + 2, 0, none⟩ = false := (bf _ 0 (by omega)).trans i2; have hb4 := v6 hb4; clear bc bf g0 g1 g2 i0 i1 i2))
          refine leaves_cons (f := 54) (args := #[.pointer (some ⟨w.heap.size, 0, none⟩), .pointer (some ⟨w.heap.size + 1, 0, none⟩), .pointer (some ⟨w.heap.size + 2, 0, none⟩)]) (by simp) (by simp [go_sem]) ?_
          refine (jq9 _ _ _ _).mono ?_
          rintro e u' w9 ⟨rfl, rfl, rfl⟩
          simp [Leaves, settle, results, Tryz.results31, go_sem, j0, j1, j2]
          have A2 : Above (w.heap.size + 3) w2 w4 := (((Above.mk (Nat.le_refl _) (fun _ _ _ => rfl)).setCell (p := ⟨w.heap.size, 0, none⟩) (by show w.heap.size ≤ w.heap.size + 3; omega) (.pointer (some ⟨vb, 0, none⟩))).trans (q9 hK3).above).trans (Kept.of_below (q9 hb4)).above
          have B4 : Below w.heap.size w w4 := ((q9 hK3).below (((q9 hK2).below (q9 BB) (by omega) (by omega)).setCell (by show w.heap.size ≤ w.heap.size; omega) _) (by omega) (by rw [x8]; omega)).trans ((q9 hb4).mono (by omega))
          exact ⟨((B4.setCell (by show w.heap.size ≤ w.heap.size; omega) _).setCell (by show w.heap.size ≤ w.heap.size + 1; omega) _).setCell (by show w.heap.size ≤ w.heap.size + 1 + 1; omega) _, _, rfl, (q9 hn2).above (((A2.setCell (by show w.heap.size ≤ w.heap.size + 3; omega) _).setCell (by show w.heap.size + 1 ≤ w.heap.size + 3; omega) _).setCell (by show w.heap.size + 1 + 1 ≤ w.heap.size + 3; omega) _)⟩
        | some q =>
          have HCH := v6 hch
          clear hch
          go_enter_defers Tryz.func31, Tryz.ntmps31
          go_wp2_with (first | (go_at_call 55; refine (qb6 (w.heap.size + 3) s st0 (begun w s) hs1 (Nat.zero_le _) (q9 RDY).at' (q9 RDY).lt (q9 RDY).err).mono ?_; rintro e w1 ⟨rfl, hr1, hk1⟩; have hz1 := hk1.size; rw [qg4] at hz1; obtain ⟨kc, kf⟩ := x4 hk1; rw [qg4] at kc kf; have a0 : w1.cell? ⟨w.heap.size, 0, none⟩ = some (.pointer none) := (kc _ 0 (by omega) (by omega)).trans (q9 BC).1; have a1 : w1.cell? ⟨w.heap.size + 1, 0, none⟩ = some (.int .i64 0) := (kc _ 0 (by omega) (by omega)).trans (q9 BC).2.1; have a2 : w1.cell? ⟨w.heap.size + 2, 0, none⟩ = some (.int .i64 0) := (kc _ 0 (by omega) (by omega)).trans (q9 BC).2.2.1; have b0 : w1.frozen? ⟨w.heap.size, 0, none⟩ = false := (kf _ 0 (by omega) (by omega)).trans (q9 BC).2.2.2.1; have b1 : w1.frozen? ⟨w.heap.size + 1, 0, none⟩ = false := (kf _ 0 (by omega) (by omega)).trans (q9 BC).2.2.2.2.1; have b2 : w1.frozen? ⟨w.heap.size + 2, 0, none⟩ = false := (kf _ 0 (by omega) (by omega)).trans (q9 BC).2.2.2.2.2; have hR1 := v6 ((q9 RDY).kept hk1 hr1 (q9 HF1)); have hK1 := v6 hk1; clear hr1 hk1 kc kf) | (go_at_call 56; refine (q9 EI w1 (v8 s st0) (q9 hR1) rfl).mono ?_; rintro e w2 ⟨hk2, h2⟩; rw [q9 HRES] at h2; obtain ⟨v2, rfl, hn2, hr2, hf2, ho2, hp2⟩ := h2; obtain ⟨vb, rfl⟩ := hn2.ptr; have hn2 := v6 hn2; have hr2 := v6 hr2; have hf2 := v6 hf2; have hz2 := hk2.size; obtain ⟨kc, kf⟩ := x4 hk2; have c0 : w2.cell? ⟨w.heap.size, 0, none⟩ = some (.pointer none) := (kc _ 0 (by omega) (by omega)).trans a0; have c1 : w2.cell? ⟨w.heap.size + 1, 0, none⟩ = some (.int .i64 0) := (kc _ 0 (by omega) (by omega)).trans a1; have c2 : w2.cell? ⟨w.heap.size + 2, 0, none⟩ = some (.int .i64 0) := (kc _ 0 (by omega) (by omega)).trans a2; have d0 : w2.frozen? ⟨w.heap.size, 0, none⟩ = false := (kf _ 0 (by omega) (by omega)).trans b0; have d1 : w2.frozen? ⟨w.heap.size + 1, 0, none⟩ = false := (kf _ 0 (by omega) (by omega)).trans b1; have d2 : w2.frozen? ⟨w.heap.size + 2, 0, none⟩ = false := (kf _ 0 (by omega) (by omega)).trans b2; have hK2 := v6 ((q9 hK1).trans hk2); clear hk2 kc kf a0 a1 a2 b0 b1 b2) | (go_at_call 57; refine (qb1 (w.heap.size + 3) s st2 0 (w2.setCell ⟨w.heap.size, 0, none⟩ (.pointer (some ⟨vb, 0, none⟩))) hs1 (q9 hf2).after ((q9 hr2).setOther (by show ¬ w.heap.size = w.heap.size + 3; omega) _) (by rw [x8]; omega) (q9 ERR2 _ _ (q9 hK2)) (q9 HK)).mono ?_; rintro e w3 ⟨rfl, hr3, hk3⟩; clear hr3; have hz3 : w2.heap.size ≤ w3.heap.size := (by have := hk3.size; rw [x8] at this; exact this); obtain ⟨kc, kf⟩ := x4 hk3; rw [x8] at kc kf; have g0 : w3.cell? ⟨w.heap.size, 0, none⟩ = some (.pointer (some ⟨vb, 0, none⟩)) := (kc _ 0 (by omega) (by omega)).trans (by simp [go_sem, c0]); have g1 : w3.cell? ⟨w.heap.size + 1, 0, none⟩ = some (.int .i64 0) := (kc _ 0 (by omega) (by omega)).trans (by simp [go_sem, c1]); have g2 : w3.cell? ⟨w.heap.size + 2, 0, none⟩ = some (.int .i64 0) := (kc _ 0 (by omega) (by omega)).trans (by simp [go_sem, c2]); have i0 : w3.frozen? ⟨w.heap.size, 0, none⟩ = false := (kf _ 0 (by omega) (by omega)).trans (by simp [go_sem, d0]); have i1 : w3.frozen? ⟨w.heap.size + 1, 0, none⟩ = false := (kf _ 0 (by omega) (by omega)).trans (by simp [go_sem, d1]); have i2 : w3.frozen? ⟨w.heap.size + 2, 0, none⟩ = false := (kf _ 0 (by omega) (by omega)).trans (by simp [go_sem, d2]); have hK3 := v6 hk3; clear hk3 kc kf c0 c1 c2 d0 d1 d2; simp only [tkV]) | (go_at_call 58; refine (q9 CHK w3 (.pointer (some ⟨vb, 0, none⟩)) ((q9 hn2).above (((Above.mk (Nat.le_refl _) (fun _ _ _ => rfl)).setCell (p := ⟨w.heap.size, 0, none⟩) (by show w.heap.size ≤ w.heap.size + 3; omega) (.pointer (some ⟨vb, 0, none⟩))).trans (q9 hK3).above))).mono ?_; rintro e w4 ⟨hb4, h4⟩; rw [q9 HCH] at h4; subst h4; have hz4 := hb4.size; obtain ⟨bc, bf⟩ := j5 hb4; have j0 : w4.cell? ⟨w.heap.size, 0, none⟩ = some (.pointer (some ⟨vb, 0, none⟩)) := (bc _ 0 (by omega)).trans g0; have j1 : w4.cell? ⟨w.heap.size + 1, 0, none⟩ = some (.int .i64 0) := (bc _ 0 (by omega)).trans g1; have j2 : w4.cell? ⟨w.heap.size + 2, 0, none⟩ = some (.int .i64 0) := (bc _ 0 (by omega)).trans g2; have l0 : w4.frozen? ⟨w.heap.size, 0, none⟩ = false := (bf _ 0 (by omega)).trans i0; have l1 : w4.frozen? ⟨w.heap.size + 1, 0, none⟩ = false := (bf _ 0 (by omega)).trans i1; have l2 : w4.frozen? ⟨w.heap.size + 2, 0, none⟩ = false := (bf _ 0 (by omega)).trans i2; have hb4 := v6 hb4; clear bc bf g0 g1 g2 i0 i1 i2; simp only [x3]))
          refine leaves_cons (f := 54) (args := #[.pointer (some ⟨w.heap.size, 0, none⟩), .pointer (some ⟨w.heap.size + 1, 0, none⟩), .pointer (some ⟨w.heap.size + 2, 0, none⟩)]) (by simp) (by simp [go_sem]) ?_
          refine (qq1 w.heap.size (.pointer (some ⟨vb, 0, none⟩)) (.int .i64 0) (.int .i64 0) _ _ [] w4 (by omega) j0 j1 j2 l0 l1 l2).mono ?_
          rintro e u' w9 ⟨rfl, rfl, k0, k1, k2, hb9⟩
          have HB := v6 ((((q9 hK3).below (((q9 hK2).below (q9 BB) (by omega) (by omega)).setCell (by show w.heap.size ≤ w.heap.size; omega) _) (by omega) (by rw [x8]; omega)).trans ((q9 hb4).mono (by omega))).trans hb9)
          simp [Leaves, settle, results, Tryz.results31, go_sem, k0, k1, k2]
          exact ⟨q9 HB, rfl⟩
      · rw [if_neg hk]
        have HK := v6 hk
        clear hk
        go_enter_defers Tryz.func31, Tryz.ntmps31
        go_wp2_with (first | (go_at_call 55; refine (qb6 (w.heap.size + 3) s st0 (begun w s) hs1 (Nat.zero_le _) (q9 RDY).at' (q9 RDY).lt (q9 RDY).err).mono ?_; rintro e w1 ⟨rfl, hr1, hk1⟩; have hz1 := hk1.size; rw [qg4] at hz1; obtain ⟨kc, kf⟩ := x4 hk1; rw [qg4] at kc kf; have a0 : w1.cell? ⟨w.heap.size, 0, none⟩ = some (.pointer none) := (kc _ 0 (by omega) (by omega)).trans (q9 BC).1; have a1 : w1.cell? ⟨w.heap.size + 1, 0, none⟩ = some (.int .i64 0) := (kc _ 0 (by omega) (by omega)).trans (q9 BC).2.1; have a2 : w1.cell? ⟨w.heap.size + 2, 0, none⟩ = some (.int .i64 0) := (kc _ 0 (by omega) (by omega)).trans (q9 BC).2.2.1; have b0 : w1.frozen? ⟨w.heap.size, 0, none⟩ = false := (kf _ 0 (by omega) (by omega)).trans (q9 BC).2.2.2.1; have b1 : w1.frozen? ⟨w.heap.size + 1, 0, none⟩ = false := (kf _ 0 (by omega) (by omega)).trans (q9 BC).2.2.2.2.1; have b2 : w1.frozen? ⟨w.heap.size + 2, 0, none⟩ = false := (kf _ 0 (by omega) (by omega)).trans (q9 BC).2.2.2.2.2; have hR1 := v6 ((q9 RDY).kept hk1 hr1 (q9 HF1)); have hK1 := v6 hk1; clear hr1 hk1 kc kf) | (go_at_call 56; refine (q9 EI w1 (v8 s st0) (q9 hR1) rfl).mono ?_; rintro e w2 ⟨hk2, h2⟩; rw [q9 HRES] at h2; obtain ⟨v2, rfl, hn2, hr2, hf2, ho2, hp2⟩ := h2; obtain ⟨vb, rfl⟩ := hn2.ptr; have hn2 := v6 hn2; have hr2 := v6 hr2; have hf2 := v6 hf2; have hz2 := hk2.size; obtain ⟨kc, kf⟩ := x4 hk2; have c0 : w2.cell? ⟨w.heap.size, 0, none⟩ = some (.pointer none) := (kc _ 0 (by omega) (by omega)).trans a0; have c1 : w2.cell? ⟨w.heap.size + 1, 0, none⟩ = some (.int .i64 0) := (kc _ 0 (by omega) (by omega)).trans a1; have c2 : w2.cell? ⟨w.heap.size + 2, 0, none⟩ = some (.int .i64 0) := (kc _ 0 (by omega) (by omega)).trans a2; have d0 : w2.frozen? ⟨w.heap.size, 0, none⟩ = false := (kf _ 0 (by omega) (by omega)).trans b0; have d1 : w2.frozen? ⟨w.heap.size + 1, 0, none⟩ = false := (kf _ 0 (by omega) (by omega)).trans b1; have d2 : w2.frozen? ⟨w.heap.size + 2, 0, none⟩ = false := (kf _ 0 (by omega) (by omega)).trans b2; have hK2 := v6 ((q9 hK1).trans hk2); clear hk2 kc kf a0 a1 a2 b0 b1 b2) | (go_at_call 57; refine (qk5 (w.heap.size + 3) s st2 0 (w2.setCell ⟨w.heap.size, 0, none⟩ (.pointer (some ⟨vb, 0, none⟩))) ((q9 hr2).setOther (by show ¬ w.heap.size = w.heap.size + 3; omega) _) (by rw [x8]; omega) (q9 HK)).mono ?_; rintro e w3 ⟨rfl, hk3⟩; have hz3 : w2.heap.size ≤ w3.heap.size := (by have := hk3.size; rw [x8] at this; exact this); obtain ⟨kc, kf⟩ := x4 hk3; rw [x8] at kc kf; have g0 : w3.cell? ⟨w.heap.size, 0, none⟩ = some (.pointer (some ⟨vb, 0, none⟩)) := (kc _ 0 (by omega) (by omega)).trans (by simp [go_sem, c0]); have g1 : w3.cell? ⟨w.heap.size + 1, 0, none⟩ = some (.int .i64 0) := (kc _ 0 (by omega) (by omega)).trans (by simp [go_sem, c1]); have g2 : w3.cell? ⟨w.heap.size + 2, 0, none⟩ = some (.int .i64 0) := (kc _ 0 (by omega) (by omega)).trans (by simp [go_sem, c2]); have i0 : w3.frozen? ⟨w.heap.size, 0, none⟩ = false := (kf _ 0 (by omega) (by omega)).trans (by simp [go_sem, d0]); have i1 : w3.frozen? ⟨w.heap.size + 1, 0, none⟩ = false := (kf _ 0 (by omega) (by omega)).trans (by simp [go_sem, d1]); have i2 : w3.frozen? ⟨w.heap.size + 2, 0, none⟩ = false := (kf _ 0 (by omega) (by omega)).trans (by simp [go_sem, d2]); have hK3 := v6 hk3; clear hk3 kc kf c0 c1 c2 d0 d1 d2; simp only [x3]))
        refine leaves_cons (f := 54) (args := #[.pointer (some ⟨w.heap.size, 0, none⟩), .pointer (some ⟨w.heap.size + 1, 0, none⟩), .pointer (some ⟨w.heap.size + 2, 0, none⟩)]) (by simp) (by simp [go_sem]) ?_
        refine (qq1 w.heap.size (.pointer (some ⟨vb, 0, none⟩)) (.int .i64 0) (.int .i64 0) _ _ [] w3 (by omega) g0 g1 g2 i0 i1 i2).mono ?_
        rintro e u' w9 ⟨rfl, rfl, k0, k1, k2, hb9⟩
        have HB := v6 (((q9 hK3).below (((q9 hK2).below (q9 BB) (by omega) (by omega)).setCell (by show w.heap.size ≤ w.heap.size; omega) _) (by omega) (by rw [x8]; omega)).trans hb9)
        simp [Leaves, settle, results, Tryz.results31, go_sem, k0, k1, k2]
        exact ⟨q9 HB, rfl⟩
  · rw [qm5, if_neg hs]
    have hb : decide ((200 : Int) < (s.size : Int)) = true := decide_eq_true (by omega)
    clear hE hsz hs
    go_enter_defers Tryz.func31, Tryz.ntmps31
    go_wp2_with fail
    have q0 : (((w.alloc (.cells #[.pointer none] 74)).alloc (.cells #[.int .i64 1] 33)).alloc (.cells #[.int .i64 0] 3)).cell? ⟨w.heap.size, 0, none⟩ = some (.pointer none) := by
      rw [World.cell?_alloc_past _ _ _ (by simp <;> omega), World.cell?_alloc_past _ _ _ (by simp), World.cell?_alloc_at _ _ _ _ rfl]; rfl
    have q1 : (((w.alloc (.cells #[.pointer none] 74)).alloc (.cells #[.int .i64 1] 33)).alloc (.cells #[.int .i64 0] 3)).cell? ⟨w.heap.size + 1, 0, none⟩ = some (.int .i64 1) := by
      rw [World.cell?_alloc_past _ _ _ (by simp), World.cell?_alloc_at _ _ _ _ (by simp)]; rfl
    have q2 : (((w.alloc (.cells #[.pointer none] 74)).alloc (.cells #[.int .i64 1] 33)).alloc (.cells #[.int .i64 0] 3)).cell? ⟨w.heap.size + 1 + 1, 0, none⟩ = some (.int .i64 0) := by
      rw [World.cell?_alloc_at _ _ _ _ (by simp)]; rfl
    simp [bodyPostD, Leaves, results, Tryz.results31, go_sem, q0, q1, q2]
    exact ⟨qb2 _ _ _ _, rfl⟩
end
section
def jy8 : List UInt8 → List UInt8
  | [] => []
  | c :: r => if c == 39 then 39 :: 39 :: jy8 r else c :: jy8 r
theorem jk6 (a : List UInt8) : (jy8 a).length ≤ 2 * a.length := by
  induction a with
  | nil => exact Nat.le_refl _
  | cons c r ih => rw [jy8]; split <;> simp <;> omega
end
section
theorem SimR.cases {s : ByteArray} {r : Res} {r' : TRes} (h : SimR s r r') : (∃ t st ts, r = .ok t st ∧ r' = .ok (qi5 t) ts ∧ Str s st ts.toks ∧ st.op = ts.op ∧ Fine s st) ∨ ∃ en pl, r = .err en pl ∧ r' = .err en := by
  cases r with
  | ok t st =>
    cases r' with
    | ok t' ts => obtain ⟨rfl, h2, h3, h4⟩ := h; exact .inl ⟨t, st, ts, rfl, rfl, h2, h3, h4⟩
    | err en => exact h.elim
  | err en pl =>
    cases r' with
    | ok t' ts => exact h.elim
    | err en' => obtain rfl : en = en' := h; exact .inr ⟨en, pl, rfl, rfl⟩
theorem qf8 {s : ByteArray} {st : St} {ts : TS} (h : Str s st ts.toks) : ts.tk = st.tk := h.tk
theorem Sim.join {s : ByteArray} {f : St → Res} {f' : TS → TRes} (h : Sim s f f') (st : St) (ts : TS) (l : Ast) (hf : Fine s st) (hs : Str s st ts.toks) (ho : st.op = ts.op) (hk : st.tk.kind ≠ 0) : SimR s (qb3 s f st l) (qw6 f' ts (qi5 l)) := by
  have := h (v8 s st) ts.next hf.next (hs.next hk) ho
  unfold qb3 qw6
  rw [qf8 hs]
  rcases this.cases with ⟨t, st2, ts2, h1, h2, h3, h4, h5⟩ | ⟨en, pl, h1, h2⟩
  · rw [h1, h2]; exact ⟨rfl, h3, h4, h5⟩
  · rw [h1, h2]; rfl
def Shr (f : TS → TRes) : Prop := ∀ ts t ts', f ts = .ok t ts' → ts'.toks.length ≤ ts.toks.length
def ShrT (g : Ast → TS → TRes) : Prop := ∀ l ts t ts', g l ts = .ok t ts' → ts'.toks.length ≤ ts.toks.length
theorem ve2 (L : List Tk) : L.tail.length ≤ L.length := by rw [List.length_tail]; omega
theorem x9 (ts : TS) : ts.next.toks.length ≤ ts.toks.length := ve2 _
theorem Shr.join {f : TS → TRes} (h : Shr f) (ts : TS) (l t : Ast) (ts' : TS) (he : qw6 f ts l = .ok t ts') : ts'.toks.length ≤ ts.next.toks.length := by
  unfold qw6 at he
  split at he
  · rename_i hr; injection he with _ h2; subst h2; exact h _ _ _ hr
  · cases he
theorem Shr.loop {f : TS → TRes} (h : Shr f) (ks : List Int) : ∀ n l ts t ts', qs2 f ks n l ts = .ok t ts' → ts'.toks.length ≤ ts.toks.length := by
  intro n
  induction n with
  | zero => intro l ts t ts' he; rw [qs2] at he; injection he with _ h2; subst h2; exact Nat.le_refl _
  | succ n ih =>
    intro l ts t ts' he
    rw [qs2] at he
    split at he
    · split at he
      · rename_i hj; exact Nat.le_trans (ih _ _ _ _ he) (Nat.le_trans (h.join _ _ _ _ hj) (x9 _))
      · cases he
    · injection he with _ h2; subst h2; exact Nat.le_refl _
theorem Shr.row {f : TS → TRes} (h : Shr f) (ks : List Int) : Shr (vp1 f ks) := by
  intro ts t ts' he
  unfold vp1 at he
  split at he
  · rename_i hr; exact Nat.le_trans (h.loop ks _ _ _ _ _ he) (h _ _ _ hr)
  · cases he
theorem Shr.sign {f : TS → TRes} (h : Shr f) (o : Int) : Shr (qw7 f o) := by
  intro ts t ts' he
  unfold qw7 at he
  split at he
  · cases he
  · split at he
    · rename_i hr
      have h3 := h _ _ _ hr
      injection he with _ h2; subst h2; exact Nat.le_trans h3 (ve2 ts.toks)
    · cases he
theorem Shr.group {f : TS → TRes} (h : Shr f) : Shr (qq7 f) := by
  intro ts t ts' he
  unfold qq7 at he
  split at he
  · cases he
  · split at he
    · rename_i hr; split at he
      · have h3 := h _ _ _ hr
        injection he with _ h2; subst h2; exact Nat.le_trans (ve2 _) (Nat.le_trans h3 (ve2 ts.toks))
      · cases he
    · cases he
theorem Shr.signed {fS fE : TS → TRes} (hS : Shr fS) (hE : Shr fE) : Shr (qg8 fS fE) := by
  intro ts t ts' he
  unfold qg8 at he
  split at he
  · exact hS.sign 14 _ _ _ he
  split at he
  · exact hS.sign 15 _ _ _ he
  split at he
  · exact hE.group _ _ _ he
  split at he
  · injection he with _ h2; subst h2; exact x9 _
  split at he
  · injection he with _ h2; subst h2; exact x9 _
  split at he
  · injection he with _ h2; subst h2; exact x9 _
  split at he
  · injection he with _ h2; subst h2; exact x9 _
  split at he
  · injection he with _ h2; subst h2; exact x9 _
  · cases he
theorem jx3 : ShrT tIsNull := by
  intro l ts t ts' he
  unfold tIsNull at he
  split at he
  · split at he
    · injection he with _ h2; subst h2; exact Nat.le_trans (x9 _) (Nat.le_trans (x9 _) (x9 _))
    · cases he
  · split at he
    · injection he with _ h2; subst h2; exact Nat.le_trans (x9 _) (x9 _)
    · cases he
theorem jx2 (l : Ast) : ∀ n xs ts t ts', qf4 l n xs ts = .ok t ts' → ts'.toks.length ≤ ts.toks.length := by
  intro n
  induction n with
  | zero => intro xs ts t ts' he; rw [qf4] at he; cases he
  | succ n ih =>
    intro xs ts t ts' he
    rw [qf4] at he
    split at he
    · split at he
      · exact Nat.le_trans (ih _ _ _ _ he) (Nat.le_trans (x9 _) (x9 _))
      · cases he
    · split at he
      · injection he with _ h2; subst h2; exact x9 _
      · cases he
theorem shr_in : ShrT tInRes := by
  intro l ts t ts' he
  unfold tInRes at he
  split at he
  · split at he
    · exact Nat.le_trans (jx2 l _ _ _ _ _ he) (Nat.le_trans (x9 _) (Nat.le_trans (x9 _) (x9 _)))
    · cases he
  · cases he
theorem shr_like : ShrT tLike := by
  intro l ts t ts' he
  unfold tLike at he
  split at he
  · split at he
    · split at he
      · injection he with _ h2; subst h2; exact Nat.le_trans (x9 _) (Nat.le_trans (x9 _) (Nat.le_trans (x9 _) (x9 _)))
      · cases he
    · injection he with _ h2; subst h2; exact Nat.le_trans (x9 _) (x9 _)
  · cases he
theorem Shr.between {f : TS → TRes} (h : Shr f) : ShrT (qg1 f) := by
  intro l ts t ts' he
  unfold qg1 at he
  split at he
  · split at he
    · rename_i h1; split at he
      · split at he
        · rename_i h2; injection he with _ h3; subst h3
          exact Nat.le_trans (h _ _ _ h2) (Nat.le_trans (x9 _) (Nat.le_trans (h _ _ _ h1) (x9 _)))
        · cases he
      · cases he
    · cases he
  · cases he
theorem Shr.keyword {f : TS → TRes} (h : Shr f) (bare : Bool) : ShrT (qe7 f bare) := by
  intro l ts t ts' he
  unfold qe7 at he
  split at he
  · exact shr_in _ _ _ _ he
  split at he
  · exact shr_like _ _ _ _ he
  · exact h.between _ _ _ _ he
theorem Shr.test {f : TS → TRes} (h : Shr f) : Shr (qz8 f) := by
  intro ts t ts' he
  unfold qz8 at he
  split at he
  · rename_i hr
    refine Nat.le_trans ?_ (h _ _ _ hr)
    unfold vc0 at he
    split at he
    · exact Nat.le_trans (h.join _ _ _ _ he) (x9 _)
    split at he
    · split at he
      · exact jx3 _ _ _ _ he
      · injection he with _ h2; subst h2; exact Nat.le_refl _
    split at he
    · split at he
      · rename_i hk; injection he with _ h2; subst h2; exact Nat.le_trans (h.keyword _ _ _ _ _ hk) (x9 _)
      · cases he
    split at he
    · exact h.keyword _ _ _ _ _ he
    · injection he with _ h2; subst h2; exact Nat.le_refl _
  · cases he
theorem Shr.denied {fD fT : TS → TRes} (hD : Shr fD) (hT : Shr fT) : Shr (qi8 fD fT) := by
  intro ts t ts' he
  unfold qi8 at he
  split at he
  · exact hD.sign 5 _ _ _ he
  · exact hT _ _ _ he
end
section
theorem Str.tail_lt {s : ByteArray} {st : St} {L : List Tk} (h : Str s st L) (hk : st.tk.kind ≠ 0) : L.tail.length < L.length := by
  cases h with
  | nil h => rw [h] at hk; exact absurd rfl hk
  | cons _ _ => simp
theorem Sim.loop {s : ByteArray} {f : St → Res} {f' : TS → TRes} (h : Sim s f f') (hf' : Shr f') (ks : List Int) (hk0 : ks.contains 0 = false) : ∀ n n' l st ts, ts.toks.length < n → ts.toks.length < n' → Fine s st → Str s st ts.toks → st.op = ts.op → SimR s (qa4 s f ks n l st) (qs2 f' ks n' (qi5 l) ts) := by
  intro n
  induction n with
  | zero => intro n' l st ts h1; omega
  | succ n ih =>
    intro n' l st ts h1 h2 hfi hs ho
    obtain ⟨m, rfl⟩ : ∃ m, n' = m + 1 := ⟨n' - 1, by omega⟩
    rw [qa4, qs2, qf8 hs]
    by_cases hc : ks.contains st.tk.kind = true
    · have hk : st.tk.kind ≠ 0 := fun e => by rw [e, hk0] at hc; cases hc
      rw [if_pos hc, if_pos hc]
      have hlen : ts.next.toks.length < ts.toks.length := hs.tail_lt hk
      rcases (h.join st ts l hfi hs ho hk).cases with ⟨t, st2, ts2, e1, e2, e3, e4, e5⟩ | ⟨en, pl, e1, e2⟩
      · have hl := hf'.join _ _ _ _ e2
        rw [e1, e2]
        exact ih m t st2 ts2 (by omega) (by omega) e5 e3 e4
      · rw [e1, e2]; rfl
    · rw [if_neg hc, if_neg hc]
      exact ⟨rfl, hs, ho, hfi⟩
theorem Sim.row {s : ByteArray} {f : St → Res} {f' : TS → TRes} (h : Sim s f f') (hf' : Shr f') (ks : List Int) (hk0 : ks.contains 0 = false) : Sim s (qf7 s f ks) (vp1 f' ks) := by
  intro st ts hfi hs ho
  unfold qf7 vp1
  rcases (h st ts hfi hs ho).cases with ⟨t, st2, ts2, e1, e2, e3, e4, e5⟩ | ⟨en, pl, e1, e2⟩
  · rw [e1, e2]
    have hl := e3.len e5
    exact h.loop hf' ks hk0 _ _ t st2 ts2 (by omega) (by omega) e5 e3 e4
  · rw [e1, e2]; rfl
theorem Sim.sign {s : ByteArray} {f : St → Res} {f' : TS → TRes} (h : Sim s f f') (o : Int) (st : St) (ts : TS) (hfi : Fine s st) (hs : Str s st ts.toks) (ho : st.op = ts.op) (hk : st.tk.kind ≠ 0) : SimR s (qg0 s f o st) (qw7 f' o ts) := by
  unfold qg0 qw7
  rw [ho]
  split
  · rfl
  · rcases (h (qy7 s st) (tIn ts) (hfi.next.op _) ((hs.next hk).withOp _) (by show st.op + 1 = ts.op + 1; rw [ho])).cases with ⟨t, st2, ts2, e1, e2, e3, e4, e5⟩ | ⟨en, pl, e1, e2⟩
    · rw [e1, e2]; exact ⟨rfl, e3.withOp _, rfl, e5.op _⟩
    · rw [e1, e2]; rfl
theorem Sim.group {s : ByteArray} {f : St → Res} {f' : TS → TRes} (h : Sim s f f') (st : St) (ts : TS) (hfi : Fine s st) (hs : Str s st ts.toks) (ho : st.op = ts.op) (hk : st.tk.kind ≠ 0) : SimR s (qg9 s f st) (qq7 f' ts) := by
  unfold qg9 qq7
  rw [ho]
  split
  · rfl
  · rcases (h (qy7 s st) (tIn ts) (hfi.next.op _) ((hs.next hk).withOp _) (by show st.op + 1 = ts.op + 1; rw [ho])).cases with ⟨t, st2, ts2, e1, e2, e3, e4, e5⟩ | ⟨en, pl, e1, e2⟩
    · rw [e1, e2]
      show SimR s (if st2.tk.kind = 27 then _ else _) (if ts2.tk.kind = 27 then _ else _)
      rw [qf8 e3]
      by_cases h27 : st2.tk.kind = 27
      · rw [if_pos h27, if_pos h27]
        exact ⟨rfl, (e3.next (by rw [h27]; decide)).withOp _, rfl, e5.next.op _⟩
      · rw [if_neg h27, if_neg h27]; rfl
    · rw [e1, e2]; rfl
theorem Sim.signed {s : ByteArray} {fS fE : St → Res} {fS' fE' : TS → TRes} (hS : Sim s fS fS') (hE : Sim s fE fE') : Sim s (qa7 s fS fE) (qg8 fS' fE') := by
  intro st ts hfi hs ho
  unfold qa7 qg8
  rw [qf8 hs]
  by_cases h22 : st.tk.kind = 22
  · rw [if_pos h22, if_pos h22]; exact hS.sign 14 st ts hfi hs ho (by rw [h22]; decide)
  rw [if_neg h22, if_neg h22]
  by_cases h23 : st.tk.kind = 23
  · rw [if_pos h23, if_pos h23]; exact hS.sign 15 st ts hfi hs ho (by rw [h23]; decide)
  rw [if_neg h23, if_neg h23]
  by_cases h26 : st.tk.kind = 26
  · rw [if_pos h26, if_pos h26]; exact hE.group st ts hfi hs ho (by rw [h26]; decide)
  rw [if_neg h26, if_neg h26]
  by_cases h2 : st.tk.kind = 2
  · rw [if_pos h2, if_pos h2]; exact ⟨rfl, hs.next (by rw [h2]; decide), ho, hfi.next⟩
  rw [if_neg h2, if_neg h2]
  by_cases h3 : st.tk.kind = 3
  · rw [if_pos h3, if_pos h3]; exact ⟨rfl, hs.next (by rw [h3]; decide), ho, hfi.next⟩
  rw [if_neg h3, if_neg h3]
  by_cases h4 : st.tk.kind = 4
  · rw [if_pos h4, if_pos h4]; exact ⟨rfl, hs.next (by rw [h4]; decide), ho, hfi.next⟩
  rw [if_neg h4, if_neg h4]
  by_cases h8 : st.tk.kind = 8
  · rw [if_pos h8, if_pos h8]; exact ⟨rfl, hs.next (by rw [h8]; decide), ho, hfi.next⟩
  rw [if_neg h8, if_neg h8]
  by_cases h9 : st.tk.kind = 9
  · rw [if_pos h9, if_pos h9]; exact ⟨rfl, hs.next (by rw [h9]; decide), ho, hfi.next⟩
  rw [if_neg h9, if_neg h9]
  rfl
theorem Sim.denied {s : ByteArray} {fD fT : St → Res} {fD' fT' : TS → TRes} (hD : Sim s fD fD') (hT : Sim s fT fT') : Sim s (qe0 s fD fT) (qi8 fD' fT') := by
  intro st ts hfi hs ho
  unfold qe0 qi8
  rw [qf8 hs]
  by_cases h7 : st.tk.kind = 7
  · rw [if_pos h7, if_pos h7]; exact hD.sign 5 st ts hfi hs ho (by rw [h7]; decide)
  · rw [if_neg h7, if_neg h7]; exact hT st ts hfi hs ho
end
section
def SimT (s : ByteArray) (k : Int) (g : Ast → St → Res) (g' : Ast → TS → TRes) : Prop := ∀ l st ts, Fine s st → Str s st ts.toks → st.op = ts.op → st.tk.kind = k → SimR s (g l st) (g' (qi5 l) ts)
theorem go1 {s : ByteArray} {st : St} {ts : TS} (hfi : Fine s st) (hs : Str s st ts.toks) (ho : st.op = ts.op) (hk : st.tk.kind ≠ 0) : Fine s (v8 s st) ∧ Str s (v8 s st) ts.next.toks ∧ (v8 s st).op = ts.next.op := ⟨hfi.next, hs.next hk, ho⟩
theorem jx5 (s : ByteArray) : SimT s 14 (qc4 s) tIsNull := by
  intro l st ts hfi hs ho hk
  obtain ⟨f1, s1, o1⟩ := go1 hfi hs ho (by rw [hk]; decide)
  unfold qc4 tIsNull
  rw [qf8 s1]
  by_cases h7 : (v8 s st).tk.kind = 7
  · rw [if_pos h7, if_pos h7]
    obtain ⟨f2, s2, o2⟩ := go1 f1 s1 o1 (by rw [h7]; decide)
    rw [qf8 s2]
    by_cases h15 : (v8 s (v8 s st)).tk.kind = 15
    · rw [if_pos h15, if_pos h15]
      obtain ⟨f3, s3, o3⟩ := go1 f2 s2 o2 (by rw [h15]; decide)
      exact ⟨rfl, s3, o3, f3⟩
    · rw [if_neg h15, if_neg h15]; rfl
  · rw [if_neg h7, if_neg h7]
    by_cases h15 : (v8 s st).tk.kind = 15
    · rw [if_pos h15, if_pos h15]
      obtain ⟨f2, s2, o2⟩ := go1 f1 s1 o1 (by rw [h15]; decide)
      exact ⟨rfl, s2, o2, f2⟩
    · rw [if_neg h15, if_neg h15]; rfl
theorem Sim.between {s : ByteArray} {f : St → Res} {f' : TS → TRes} (h : Sim s f f') : ∀ l st ts, Fine s st → Str s st ts.toks → st.op = ts.op → SimR s (qc9 s f l st) (qg1 f' (qi5 l) ts) := by
  intro l st ts hfi hs ho
  unfold qc9 qg1
  rw [qf8 hs]
  by_cases h10 : st.tk.kind = 10
  · rw [if_pos h10, if_pos h10]
    obtain ⟨f1, s1, o1⟩ := go1 hfi hs ho (by rw [h10]; decide)
    rcases (h _ _ f1 s1 o1).cases with ⟨t, st2, ts2, e1, e2, e3, e4, e5⟩ | ⟨en, pl, e1, e2⟩
    · rw [e1, e2]
      show SimR s (if st2.tk.kind = 5 then _ else _) (if ts2.tk.kind = 5 then _ else _)
      rw [qf8 e3]
      by_cases h5 : st2.tk.kind = 5
      · rw [if_pos h5, if_pos h5]
        obtain ⟨f3, s3, o3⟩ := go1 e5 e3 e4 (by rw [h5]; decide)
        rcases (h _ _ f3 s3 o3).cases with ⟨t3, st3, ts3, g1, g2, g3, g4, g5⟩ | ⟨en, pl, g1, g2⟩
        · rw [g1, g2]; exact ⟨rfl, g3, g4, g5⟩
        · rw [g1, g2]; rfl
      · rw [if_neg h5, if_neg h5]; rfl
    · rw [e1, e2]; rfl
  · rw [if_neg h10, if_neg h10]; rfl
theorem jx4 (s : ByteArray) (l : Ast) (pl : Nat) : ∀ n n' xs st ts, ts.toks.length < n → ts.toks.length < n' → Fine s st → Str s st ts.toks → st.op = ts.op → SimR s (qf0 s l pl n xs st) (qf4 (qi5 l) n' xs ts) := by
  intro n
  induction n with
  | zero => intro n' xs st ts h1; omega
  | succ n ih =>
    intro n' xs st ts h1 h2 hfi hs ho
    obtain ⟨m, rfl⟩ : ∃ m, n' = m + 1 := ⟨n' - 1, by omega⟩
    rw [qf0, qf4, qf8 hs]
    by_cases h28 : st.tk.kind = 28
    · rw [if_pos h28, if_pos h28]
      have hk : st.tk.kind ≠ 0 := by rw [h28]; decide
      obtain ⟨f1, s1, o1⟩ := go1 hfi hs ho hk
      have t1 : ts.next.toks.length < ts.toks.length := hs.tail_lt hk
      rw [qf8 s1]
      by_cases h4 : (v8 s st).tk.kind = 4
      · rw [if_pos h4, if_pos h4]
        obtain ⟨f2, s2, o2⟩ := go1 f1 s1 o1 (by rw [h4]; decide)
        have t2 := x9 ts.next
        exact ih m _ _ _ (by omega) (by omega) f2 s2 o2
      · rw [if_neg h4, if_neg h4]; rfl
    · rw [if_neg h28, if_neg h28]
      by_cases h27 : st.tk.kind = 27
      · rw [if_pos h27, if_pos h27]
        obtain ⟨f1, s1, o1⟩ := go1 hfi hs ho (by rw [h27]; decide)
        exact ⟨rfl, s1, o1, f1⟩
      · rw [if_neg h27, if_neg h27]; rfl
theorem sim_in (s : ByteArray) : SimT s 11 (qm4 s) tInRes := by
  intro l st ts hfi hs ho hk
  obtain ⟨f1, s1, o1⟩ := go1 hfi hs ho (by rw [hk]; decide)
  unfold qm4 tInRes
  rw [qf8 s1]
  by_cases h26 : (v8 s st).tk.kind = 26
  · rw [if_pos h26, if_pos h26]
    obtain ⟨f2, s2, o2⟩ := go1 f1 s1 o1 (by rw [h26]; decide)
    rw [qf8 s2]
    by_cases h4 : (v8 s (v8 s st)).tk.kind = 4
    · rw [if_pos h4, if_pos h4]
      obtain ⟨f3, s3, o3⟩ := go1 f2 s2 o2 (by rw [h4]; decide)
      have hl := s3.len f3
      have l1 := x9 ts
      have l2 := x9 ts.next
      have l3 := x9 ts.next.next
      exact jx4 s l st.place _ _ _ _ _ (by omega) (by omega) f3 s3 o3
    · rw [if_neg h4, if_neg h4]; rfl
  · rw [if_neg h26, if_neg h26]; rfl
theorem sim_like (s : ByteArray) : SimT s 12 (qd4 s) tLike := by
  intro l st ts hfi hs ho hk
  obtain ⟨f1, s1, o1⟩ := go1 hfi hs ho (by rw [hk]; decide)
  unfold qd4 tLike
  rw [qf8 s1]
  by_cases h4 : (v8 s st).tk.kind = 4
  · rw [if_pos h4, if_pos h4]
    obtain ⟨f2, s2, o2⟩ := go1 f1 s1 o1 (by rw [h4]; decide)
    rw [qf8 s2]
    by_cases h13 : (v8 s (v8 s st)).tk.kind = 13
    · rw [if_pos h13, if_pos h13]
      obtain ⟨f3, s3, o3⟩ := go1 f2 s2 o2 (by rw [h13]; decide)
      rw [qf8 s3]
      unfold qy4
      by_cases g4 : (v8 s (v8 s (v8 s st))).tk.kind = 4
      · rw [if_pos g4]
        by_cases g1 : (v8 s (v8 s (v8 s st))).tk.str.length = 1
        · rw [if_pos g1]
          by_cases g2 : (qv4 (v8 s (v8 s (v8 s st))).tk.str (v8 s st).tk.str).isSome = true
          · rw [if_pos g2, if_pos ⟨g4, g1, g2⟩]
            obtain ⟨f4, s4, o4⟩ := go1 f3 s3 o3 (by rw [g4]; decide)
            exact ⟨rfl, s4, o4, f4⟩
          · rw [if_neg g2, if_neg (fun h => g2 h.2.2)]; rfl
        · rw [if_neg g1, if_neg (fun h => g1 h.2.1)]; rfl
      · rw [if_neg g4, if_neg (fun h => g4 h.1)]; rfl
    · rw [if_neg h13, if_neg h13]
      exact ⟨rfl, s2, o2, f2⟩
  · rw [if_neg h4, if_neg h4]; rfl
theorem Sim.keyword {s : ByteArray} {f : St → Res} {f' : TS → TRes} (h : Sim s f f') (bare : Bool) (l : Ast) (st : St) (ts : TS) (hfi : Fine s st) (hs : Str s st ts.toks) (ho : st.op = ts.op) : SimR s (y4 s f (qm4 s) (qd4 s) bare l st) (qe7 f' bare (qi5 l) ts) := by
  unfold y4 qe7
  rw [qf8 hs]
  by_cases h11 : st.tk.kind = 11 ∧ bare = true
  · rw [if_pos h11, if_pos h11]; exact sim_in s l st ts hfi hs ho h11.1
  rw [if_neg h11, if_neg h11]
  by_cases h12 : st.tk.kind = 12 ∧ bare = true
  · rw [if_pos h12, if_pos h12]; exact sim_like s l st ts hfi hs ho h12.1
  rw [if_neg h12, if_neg h12]
  exact h.between l st ts hfi hs ho
theorem Sim.tail {s : ByteArray} {f : St → Res} {f' : TS → TRes} (h : Sim s f f') (bare : Bool) (l : Ast) (st : St) (ts : TS) (hfi : Fine s st) (hs : Str s st ts.toks) (ho : st.op = ts.op) : SimR s (x5 s f (qm4 s) (qd4 s) bare l st) (vc0 f' bare (qi5 l) ts) := by
  unfold x5 vc0
  rw [qf8 hs]
  by_cases h16 : st.tk.kind = 16 ∨ st.tk.kind = 17 ∨ st.tk.kind = 18 ∨ st.tk.kind = 19 ∨ st.tk.kind = 20 ∨ st.tk.kind = 21
  · rw [if_pos h16, if_pos h16]; exact h.join st ts l hfi hs ho (by omega)
  rw [if_neg h16, if_neg h16]
  by_cases h14 : st.tk.kind = 14
  · rw [if_pos h14, if_pos h14]
    cases bare
    · exact ⟨rfl, hs, ho, hfi⟩
    · exact jx5 s l st ts hfi hs ho h14
  rw [if_neg h14, if_neg h14]
  by_cases h7 : st.tk.kind = 7
  · rw [if_pos h7, if_pos h7]
    obtain ⟨f1, s1, o1⟩ := go1 hfi hs ho (by rw [h7]; decide)
    rcases (h.keyword bare l _ _ f1 s1 o1).cases with ⟨t, st2, ts2, e1, e2, e3, e4, e5⟩ | ⟨en, pl, e1, e2⟩
    · rw [e1, e2]; exact ⟨rfl, e3, e4, e5⟩
    · rw [e1, e2]; rfl
  rw [if_neg h7, if_neg h7]
  by_cases h10 : st.tk.kind = 10 ∨ st.tk.kind = 11 ∨ st.tk.kind = 12
  · rw [if_pos h10, if_pos h10]; exact h.keyword bare l st ts hfi hs ho
  · rw [if_neg h10, if_neg h10]; exact ⟨rfl, hs, ho, hfi⟩
theorem Sim.test {s : ByteArray} {f : St → Res} {f' : TS → TRes} (h : Sim s f f') : Sim s (qi2 s f (qm4 s) (qd4 s)) (qz8 f') := by
  intro st ts hfi hs ho
  unfold qi2 qz8
  rcases (h st ts hfi hs ho).cases with ⟨t, st2, ts2, e1, e2, e3, e4, e5⟩ | ⟨en, pl, e1, e2⟩
  · rw [e1, e2]
    show SimR s (x5 s f (qm4 s) (qd4 s) (qs4 st t) t st2) (vc0 f' (ts.tk.kind == 2 && opA (qi5 t) == 0) (qi5 t) ts2)
    rw [qf8 hs, vz5]
    exact h.tail _ t st2 ts2 e5 e3 e4
  · rw [e1, e2]; rfl
structure Sim3 (s : ByteArray) (L : L3) (L' : T3) : Prop where
  S : Sim s L.S L'.S
  D : Sim s L.D L'.D
  E : Sim s L.E L'.E
  s' : Shr L'.S
  d' : Shr L'.D
  e' : Shr L'.E
theorem sim_up {s : ByteArray} {L : L3} {L' : T3} (h : Sim3 s L L') : Sim3 s (up3 s L) (tUp L') := by
  have hS := Sim.signed h.S h.E
  have zS := Shr.signed h.s' h.e'
  have hP := hS.row zS [24, 25] rfl
  have zP := zS.row [24, 25]
  have hU := hP.row zP [22, 23] rfl
  have zU := zP.row [22, 23]
  have hT := hU.test
  have zT := zU.test
  have hD := Sim.denied h.D hT
  have zD := Shr.denied h.d' zT
  have hB := hD.row zD [5] rfl
  have zB := zD.row [5]
  exact ⟨hS, hD, hB.row zB [6] rfl, zS, zD, zB.row [6]⟩
theorem vk5 (s : ByteArray) : ∀ d, Sim3 s (lvl s d) (tLvl d) := by
  intro d
  induction d with
  | zero => exact sim_up ⟨(fun _ _ _ _ _ => rfl), (fun _ _ _ _ _ => rfl), (fun _ _ _ _ _ => rfl), (fun _ _ _ h => by cases h), (fun _ _ _ h => by cases h), (fun _ _ _ h => by cases h)⟩
  | succ d ih => exact sim_up ih
end
section
def vw9 (st : St) : Prop := st.tk.str.length ≤ 200
theorem j8 {s : ByteArray} (hs : s.size ≤ 200) (st : St) : vw9 (v8 s st) := Nat.le_trans (vr3 s st) hs
def Bp (p : Pay) : Prop := p.str.length ≤ 200 ∧ p.texts.length ≤ 1000
def vf2 : Ast → Prop
  | .leaf p => Bp p
  | .un p x => Bp p ∧ vf2 x
  | .bin p x y => Bp p ∧ vf2 x ∧ vf2 y
  | .tri p x y z => Bp p ∧ vf2 x ∧ vf2 y ∧ vf2 z
theorem bp0 (op pl num : Int) : Bp ⟨op, pl, num, [], [], []⟩ := ⟨by simp, by simp⟩
theorem bp1 {op pl num : Int} {s : List UInt8} (h : s.length ≤ 200) : Bp ⟨op, pl, num, s, [], []⟩ := ⟨h, by simp⟩
def BGood (f : St → Res) : Prop := ∀ st t st', vw9 st → f st = .ok t st' → vf2 t ∧ vw9 st'
def vw3 (g : Ast → St → Res) : Prop := ∀ l st t st', vf2 l → vw9 st → g l st = .ok t st' → vf2 t ∧ vw9 st'
theorem BGood.join {s : ByteArray} (H : s.size ≤ 200) {f : St → Res} (h : BGood f) : ∀ st l t st', vf2 l → qb3 s f st l = .ok t st' → vf2 t ∧ vw9 st' := by
  intro st l t st' hl he
  unfold qb3 at he
  split at he
  · rename_i r st2 hr; injection he with h1 h2; subst h1; subst h2
    have := h _ _ _ (j8 H st) hr
    exact ⟨⟨(bp0 _ _ _), hl, this.1⟩, this.2⟩
  · cases he
theorem BGood.loop {s : ByteArray} (H : s.size ≤ 200) {f : St → Res} {ks : List Int} (h : BGood f) : ∀ n l st t st', vf2 l → vw9 st → qa4 s f ks n l st = .ok t st' → vf2 t ∧ vw9 st' := by
  intro n
  induction n with
  | zero => intro l st t st' hl hs he; rw [qa4] at he; injection he with h1 h2; subst h1; subst h2; exact ⟨hl, hs⟩
  | succ n ih =>
    intro l st t st' hl hs he
    rw [qa4] at he
    split at he
    · split at he
      · rename_i hj; have := h.join H _ _ _ _ hl hj; exact ih _ _ _ _ this.1 this.2 he
      · cases he
    · injection he with h1 h2; subst h1; subst h2; exact ⟨hl, hs⟩
theorem BGood.row {s : ByteArray} (H : s.size ≤ 200) {f : St → Res} {ks : List Int} (h : BGood f) : BGood (qf7 s f ks) := by
  intro st t st' hs he
  unfold qf7 at he
  split at he
  · rename_i hr; have := h _ _ _ hs hr; exact h.loop H _ _ _ _ _ this.1 this.2 he
  · cases he
theorem BGood.sign {s : ByteArray} (H : s.size ≤ 200) {f : St → Res} (h : BGood f) (o : Int) : BGood (qg0 s f o) := by
  intro st t st' _ he
  unfold qg0 at he
  split at he
  · cases he
  · split at he
    · rename_i hr; injection he with h1 h2; subst h1; subst h2
      have := h (qy7 s st) _ _ (j8 H st) hr
      exact ⟨⟨(bp0 _ _ _), this.1⟩, this.2⟩
    · cases he
theorem BGood.group {s : ByteArray} (H : s.size ≤ 200) {f : St → Res} (h : BGood f) : BGood (qg9 s f) := by
  intro st t st' _ he
  unfold qg9 at he
  split at he
  · cases he
  · split at he
    · rename_i hr; split at he
      · injection he with h1 h2; subst h1; subst h2
        exact ⟨(h (qy7 s st) _ _ (j8 H st) hr).1, j8 H _⟩
      · cases he
    · cases he
theorem BGood.signed {s : ByteArray} (H : s.size ≤ 200) {fS fE : St → Res} (hS : BGood fS) (hE : BGood fE) : BGood (qa7 s fS fE) := by
  intro st t st' hs he
  unfold qa7 at he
  split at he
  · exact hS.sign H 14 _ _ _ hs he
  split at he
  · exact hS.sign H 15 _ _ _ hs he
  split at he
  · exact hE.group H _ _ _ hs he
  split at he
  · injection he with h1 h2; subst h1; subst h2; exact ⟨bp1 hs, j8 H st⟩
  split at he
  · injection he with h1 h2; subst h1; subst h2; exact ⟨(bp0 _ _ _), j8 H st⟩
  split at he
  · injection he with h1 h2; subst h1; subst h2; exact ⟨bp1 hs, j8 H st⟩
  split at he
  · injection he with h1 h2; subst h1; subst h2; exact ⟨(bp0 _ _ _), j8 H st⟩
  split at he
  · injection he with h1 h2; subst h1; subst h2; exact ⟨(bp0 _ _ _), j8 H st⟩
  · cases he
theorem jq7 {s : ByteArray} (H : s.size ≤ 200) : vw3 (qc4 s) := by
  intro l st t st' hl _ he
  unfold qc4 at he
  split at he
  · split at he
    · injection he with h1 h2; subst h1; subst h2; exact ⟨⟨(bp0 _ _ _), (bp0 _ _ _), hl⟩, j8 H _⟩
    · cases he
  · split at he
    · injection he with h1 h2; subst h1; subst h2; exact ⟨⟨(bp0 _ _ _), hl⟩, j8 H _⟩
    · cases he
theorem jq6 {s : ByteArray} (H : s.size ≤ 200) {l : Ast} {pl : Nat} (hl : vf2 l) : ∀ n ts st t st', ts.length + n ≤ 1000 → qf0 s l pl n ts st = .ok t st' → vf2 t ∧ vw9 st' := by
  intro n
  induction n with
  | zero => intro ts st t st' _ he; rw [qf0] at he; cases he
  | succ n ih =>
    intro ts st t st' hn he
    rw [qf0] at he
    split at he
    · split at he
      · exact ih _ _ _ _ (by simp; omega) he
      · cases he
    · split at he
      · injection he with h1 h2; subst h1; subst h2; exact ⟨⟨⟨by simp, by show ts.length ≤ 1000; omega⟩, hl⟩, j8 H _⟩
      · cases he
theorem bnd_in {s : ByteArray} (H : s.size ≤ 200) : vw3 (qm4 s) := by
  intro l st t st' hl _ he
  unfold qm4 at he
  split at he
  · split at he
    · exact jq6 H hl _ _ _ _ _ (by simp; omega) he
    · cases he
  · cases he
theorem bnd_like {s : ByteArray} (H : s.size ≤ 200) : vw3 (qd4 s) := by
  intro l st t st' hl _ he
  unfold qd4 at he
  split at he
  · split at he
    · split at he
      · rename_i hk; injection he with h1 h2; subst h1; subst h2; rw [(va3 hk).2]; exact ⟨⟨⟨j8 H _, by simp⟩, hl⟩, j8 H _⟩
      · cases he
    · injection he with h1 h2; subst h1; subst h2; exact ⟨⟨⟨j8 H _, by simp⟩, hl⟩, j8 H _⟩
  · cases he
theorem BGood.between {s : ByteArray} (H : s.size ≤ 200) {f : St → Res} (h : BGood f) : vw3 (qc9 s f) := by
  intro l st t st' hl _ he
  unfold qc9 at he
  split at he
  · split at he
    · rename_i h1; split at he
      · split at he
        · rename_i h2; injection he with h3 h4; subst h3; subst h4
          have a := h _ _ _ (j8 H _) h1
          have b := h _ _ _ (j8 H _) h2
          exact ⟨⟨(bp0 _ _ _), hl, a.1, b.1⟩, b.2⟩
        · cases he
      · cases he
    · cases he
  · cases he
theorem BGood.keyword {s : ByteArray} (H : s.size ≤ 200) {f : St → Res} (h : BGood f) (bare : Bool) : vw3 (y4 s f (qm4 s) (qd4 s) bare) := by
  intro l st t st' hl hs he
  unfold y4 at he
  split at he
  · exact bnd_in H _ _ _ _ hl hs he
  split at he
  · exact bnd_like H _ _ _ _ hl hs he
  · exact h.between H _ _ _ _ hl hs he
theorem BGood.test {s : ByteArray} (H : s.size ≤ 200) {f : St → Res} (h : BGood f) : BGood (qi2 s f (qm4 s) (qd4 s)) := by
  intro st t st' hs he
  unfold qi2 at he
  split at he
  · rename_i hr
    obtain ⟨hl, hs1⟩ := h _ _ _ hs hr
    unfold x5 at he
    split at he
    · exact h.join H _ _ _ _ hl he
    split at he
    · split at he
      · exact jq7 H _ _ _ _ hl hs1 he
      · injection he with h1 h2; subst h1; subst h2; exact ⟨hl, hs1⟩
    split at he
    · split at he
      · rename_i hk; injection he with h1 h2; subst h1; subst h2
        have := h.keyword H _ _ _ _ _ hl (j8 H _) hk
        exact ⟨⟨(bp0 _ _ _), this.1⟩, this.2⟩
      · cases he
    split at he
    · exact h.keyword H _ _ _ _ _ hl hs1 he
    · injection he with h1 h2; subst h1; subst h2; exact ⟨hl, hs1⟩
  · cases he
theorem BGood.denied {s : ByteArray} (H : s.size ≤ 200) {fD fT : St → Res} (hD : BGood fD) (hT : BGood fT) : BGood (qe0 s fD fT) := by
  intro st t st' hs he
  unfold qe0 at he
  split at he
  · exact hD.sign H 5 _ _ _ hs he
  · exact hT _ _ _ hs he
structure BGood3 (L : L3) : Prop where
  S : BGood L.S
  D : BGood L.D
  E : BGood L.E
theorem up3_bnd {s : ByteArray} (H : s.size ≤ 200) {L : L3} (h : BGood3 L) : BGood3 (up3 s L) := by
  have hS := BGood.signed (s := s) H h.S h.E
  have hD := BGood.denied (s := s) H h.D (BGood.test (s := s) H ((hS.row (s := s) H (ks := [24, 25])).row (s := s) H (ks := [22, 23])))
  exact ⟨hS, hD, (hD.row (s := s) H (ks := [5])).row (s := s) H (ks := [6])⟩
theorem lvl_bnd (s : ByteArray) (H : s.size ≤ 200) : ∀ d, BGood3 (lvl s d) := by
  intro d
  induction d with
  | zero => exact up3_bnd H ⟨(fun _ _ _ _ h => by cases h), (fun _ _ _ _ h => by cases h), (fun _ _ _ _ h => by cases h)⟩
  | succ d ih => exact up3_bnd H ih
end
section
theorem join_all (op : Int) (h14 : ¬ op = 14) (h15 : ¬ op = 15) (x y : V) (hx : Rng x.num) (hy : Rng y.num) : qj2 op x y (qz2 op x y) := by
  by_cases h5 : op = 5
  · subst h5; exact join_5 x y
  by_cases h6 : op = 6
  · subst h6; exact join_6 x y
  by_cases h7 : op = 7
  · subst h7; exact join_7 x y
  by_cases h8 : op = 8
  · subst h8; exact join_8 x y
  by_cases h9 : op = 9
  · subst h9; exact join_9 x y
  by_cases h12 : op = 12
  · subst h12; exact join_12 x y
  by_cases h10 : op = 10
  · subst h10; exact join_10 x y
  by_cases h13 : op = 13
  · subst h13; exact join_13 x y
  by_cases h11 : op = 11
  · subst h11; exact join_11 x y
  by_cases h16 : op = 16
  · subst h16; exact join_16 x y hx hy
  by_cases h17 : op = 17
  · subst h17; exact join_17 x y hx hy
  by_cases h18 : op = 18
  · subst h18; exact join_18 x y hx hy
  by_cases h19 : op = 19
  · subst h19; exact join_19 x y hx
  have hr : qz2 op x y = bV (x.kind == 0) := by
    rw [qz2, if_neg h5, if_neg h6, if_neg h7, if_neg h8, if_neg h9, if_neg h12, if_neg h10, if_neg h13, if_neg h11, if_neg h14, if_neg h16, if_neg h15, if_neg h17, if_neg h18, if_neg h19]
  rw [hr]
  exact join_none op x y h5 h6 h7 h8 h9 h12 h10 h13 h11 h14 h16 h15 h17 h18 h19
end
section
set_option maxHeartbeats 1000000 in
set_option maxRecDepth 100000 in
theorem join_14 (x y : V) (hx : Rng x.num) : qj2 14 x y (addV (iV 0) x) := by
  intro w
  have CON := v6 (fun w => jq0 (iV 0) x rng0 hx w)
  obtain ⟨r, hr⟩ : ∃ r, addV (iV 0) x = r := ⟨_, rfl⟩
  rw [hr] at CON ⊢
  clear hr hx
  conv => arg 3; simp only [vV]
  go_enter Tryz.func106, Tryz.ntmps106
  repeat ((fail_if_success (with_reducible refine wp_exit ?_)); go_step)
  with_reducible refine wp_exit ?_
  repeat (first | (with_reducible refine qd7 ?_) | (with_reducible refine qa2 ?_) | ((with_reducible refine y5 ?hne ?_); (case hne => rfl)))
  with_reducible refine qa3 ?_
  go_wp2_with fail
  go_region_with (go_at_call 103; refine (qp4 0 _).mono ?_; rintro e w0 ⟨rfl, hb0⟩; obtain ⟨hc0, hf0⟩ := j5 hb0; have hz0 : w.heap.size + 2 < w0.heap.size := (by have := hb0.size; simp at this; omega); simp only [vV])
  all_goals (repeat (first | (with_reducible refine qy6 ?_) | (with_reducible refine qa3 ?_)))
  all_goals
    generalize hW2 : World.setCell _ _ _ = W2
    have SG := v6 (vr1 w w0 W2 x y hb0 hW2)
    obtain ⟨a0, a1, a2, b0, b1, b2, r0, r1, r2, fz, lt, bel⟩ := q9 SG
    clear hW2 hb0 hc0 hf0
    go_wp2_with (go_at_call 154; refine (q9 CON _).mono ?_; rintro e w1 ⟨rfl, hb1⟩; have s0 : w1.cell? ⟨w.heap.size + 2, 0, none⟩ = some (.int .i64 0) := ((j5 hb1).1 _ 0 lt).trans r0; have s1 : w1.cell? ⟨w.heap.size + 2, 1, none⟩ = some (.int .i64 0) := ((j5 hb1).1 _ 1 lt).trans r1; have s2 : w1.cell? ⟨w.heap.size + 2, 2, none⟩ = some (.string ⟨#[]⟩) := ((j5 hb1).1 _ 2 lt).trans r2; have f1 : ∀ j, w1.frozen? ⟨w.heap.size + 2, j, none⟩ = false := (fun j => ((j5 hb1).2 _ j lt).trans (fz j)); have hB1 := v6 (v7 bel hb1); clear hb1; simp only [vV])
    refine bodyPost_ret (by simp [results, Tryz.results106, go_sem, s0, s1, s2] <;> rfl) rfl ⟨rfl, ?_⟩
    exact (((q9 hB1).setCell (by simp; omega) _).setCell (by simp; omega) _).setCell (by simp; omega) _
end
section
set_option maxHeartbeats 1000000 in
set_option maxRecDepth 100000 in
theorem join_15 (x y : V) (hx : Rng x.num) : qj2 15 x y (subV (iV 0) x) := by
  intro w
  have CON := v6 (fun w => vc3 (iV 0) x rng0 hx w)
  obtain ⟨r, hr⟩ : ∃ r, subV (iV 0) x = r := ⟨_, rfl⟩
  rw [hr] at CON ⊢
  clear hr hx
  conv => arg 3; simp only [vV]
  go_enter Tryz.func106, Tryz.ntmps106
  repeat ((fail_if_success (with_reducible refine wp_exit ?_)); go_step)
  with_reducible refine wp_exit ?_
  repeat (first | (with_reducible refine qd7 ?_) | (with_reducible refine qa2 ?_) | ((with_reducible refine y5 ?hne ?_); (case hne => rfl)))
  with_reducible refine qa3 ?_
  go_wp2_with fail
  go_region_with (go_at_call 103; refine (qp4 0 _).mono ?_; rintro e w0 ⟨rfl, hb0⟩; obtain ⟨hc0, hf0⟩ := j5 hb0; have hz0 : w.heap.size + 2 < w0.heap.size := (by have := hb0.size; simp at this; omega); simp only [vV])
  all_goals (repeat (first | (with_reducible refine qy6 ?_) | (with_reducible refine qa3 ?_)))
  all_goals
    generalize hW2 : World.setCell _ _ _ = W2
    have SG := v6 (vr1 w w0 W2 x y hb0 hW2)
    obtain ⟨a0, a1, a2, b0, b1, b2, r0, r1, r2, fz, lt, bel⟩ := q9 SG
    clear hW2 hb0 hc0 hf0
    go_wp2_with (go_at_call 155; refine (q9 CON _).mono ?_; rintro e w1 ⟨rfl, hb1⟩; have s0 : w1.cell? ⟨w.heap.size + 2, 0, none⟩ = some (.int .i64 0) := ((j5 hb1).1 _ 0 lt).trans r0; have s1 : w1.cell? ⟨w.heap.size + 2, 1, none⟩ = some (.int .i64 0) := ((j5 hb1).1 _ 1 lt).trans r1; have s2 : w1.cell? ⟨w.heap.size + 2, 2, none⟩ = some (.string ⟨#[]⟩) := ((j5 hb1).1 _ 2 lt).trans r2; have f1 : ∀ j, w1.frozen? ⟨w.heap.size + 2, j, none⟩ = false := (fun j => ((j5 hb1).2 _ j lt).trans (fz j)); have hB1 := v6 (v7 bel hb1); clear hb1; simp only [vV])
    refine bodyPost_ret (by simp [results, Tryz.results106, go_sem, s0, s1, s2] <;> rfl) rfl ⟨rfl, ?_⟩
    exact (((q9 hB1).setCell (by simp; omega) _).setCell (by simp; omega) _).setCell (by simp; omega) _
end
end Go.Proofs.YtfkcaldjphakpabGreatDoor
