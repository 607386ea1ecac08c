/- The reader of programs: term, whatever its operator. Programs in memory: the row of terms and the row of roots, as they grow. What program.Read keeps in memory while it reads. Messages and their order; a heap in memory: above, Before, before, swap. A heap in memory: rise. -/
import Derived.Test.YtfkcaldjphakpabGreatDoorT21
import Derived.Test.YtfkcaldjphakpabGreatDoorT10
import Derived.Test.YtfkcaldjphakpabGreatDoorT09
import Derived.Deep.AppendLies
import Derived.Deep.RegionHeld3
import Derived.Deep.RegionWith
namespace Go.Proofs.YtfkcaldjphakpabGreatDoor
open Go.RowKit
section
def vw8 (s : Ps) (pl : Nat) : Prop := ∀ (rb : Nat) (w : World), PsAt w rb s → Calls Tryz.prog 68 #[.pointer (some ⟨rb, 0, none⟩), .int .i64 pl] w (qx3 rb w (s.term pl))
theorem jb2 (s : Ps) (pl : Nat) (hpl : pl ≤ 255) (ho : s.next.1.toNat = 0 ∨ s.next.1.toNat = 1 ∨ s.next.1.toNat = 10) : vw8 s pl := by
  intro rb w h
  rw [Ps.term]
  rcases ho with ho | ho | ho
  · rw [ho]; exact pterm_0 rb s pl w h hpl ho
  · rw [ho]; exact pterm_1 rb s pl w h hpl ho
  · rw [ho]; exact pterm_10 rb s pl w h hpl ho
end
section
def qd8 (s : Ps) : Nat → List Tm × Ps
  | 0 => ([], s)
  | k + 1 => ((qd8 s k).1 ++ [((qd8 s k).2.term k).1], ((qd8 s k).2.term k).2)
def qh5 (m : Int) (s : Ps) : Nat → List Nat × Ps
  | 0 => ([], s)
  | k + 1 => ((qh5 m s k).1 ++ [((qh5 m s k).2.upTo m).1], ((qh5 m s k).2.upTo m).2)
theorem qu5 (s : Ps) (k : Nat) : (qd8 s k).1.length = k := by
  induction k with
  | zero => rfl
  | succ k ih => rw [qd8, List.length_append, ih]; rfl
theorem vb3 (m : Int) (s : Ps) (k : Nat) : (qh5 m s k).1.length = k := by
  induction k with
  | zero => rfl
  | succ k ih => rw [qh5, List.length_append, ih]; rfl
def vk0 (code : List UInt8) : Nat × Ps := Ps.upTo ⟨code, false⟩ 80
def vb2 (code : List UInt8) : Nat × Ps := (vk0 code).2.upTo 8
def readT (code : List UInt8) : List Tm × Ps := qd8 (vb2 code).2 (vk0 code).1
def jw2 (code : List UInt8) : List Nat × Ps := qh5 (((vk0 code).1 : Int) - 1) (readT code).2 (vb2 code).1
def qu1 (code : List UInt8) : List Tm × List Nat × Bool := ((readT code).1, (jw2 code).1, !(jw2 code).2.bad && ((jw2 code).2.rest.length == 0))
def qk6 (ts : List Tm) : List Value := ts.flatMap qq8
def qj5 (l : List Nat) : List Value := l.map fun n : Nat => .int .i64 (n : Int)
theorem vi1 : (Tryz.prog.info? 142).map (fun i => (i.zero, i.size, i.bytes)) = some (some (.agg #[.int .i64 0, .int .i64 0, .int .i64 0, .int .i64 0, .string ⟨#[]⟩, .string ⟨#[]⟩]), 6, 64) := by kernel_rfl
theorem qs5 : (Tryz.prog.info? 3).map (fun i => (i.zero, i.size, i.bytes)) = some (some (.int .i64 0), 1, 8) := by kernel_rfl
def TsAt (w : World) (base : Nat) (v : Value) (ts : List Tm) : Prop := w.ownsRow base 142 6 v ts.length (qk6 ts)
def IsAt (w : World) (base : Nat) (v : Value) (l : List Nat) : Prop := w.ownsRow base 3 1 v l.length (qj5 l)
theorem TsAt.nil (w : World) (base : Nat) : TsAt w base (.slice none 0 0) [] := ⟨rfl, .inl ⟨rfl, rfl⟩⟩
theorem IsAt.nil (w : World) (base : Nat) : IsAt w base (.slice none 0 0) [] := ⟨rfl, .inl ⟨rfl, rfl⟩⟩
theorem v9 {base e size n : Nat} {w w' : World} {v : Value} {xs : List Value} (h : w.ownsRow base e size v n xs) (hk : ∀ g, v.ownBlock = some g → w'.heap[g]? = w.heap[g]?) : w'.ownsRow base e size v n xs := by
  refine ⟨h.1, ?_⟩
  rcases h.2 with hn | ⟨g, cap, cur, rfl, hbg, hgg, rest⟩
  · exact .inl hn
  · exact .inr ⟨g, cap, cur, rfl, hbg, (hk g rfl).trans hgg, rest⟩
theorem jb3 {ts : List Tm} {i : Nat} {t : Tm} (h : ts[i]? = some t) {j : Nat} {u : Value} (hj : (qq8 t)[j]? = some u) : (qk6 ts)[i * 6 + j]? = some u := by
  have hj6 : j < 6 := by have := (List.getElem?_eq_some_iff.1 hj).1; simpa [qq8] using this
  induction ts generalizing i with
  | nil => simp at h
  | cons t' ts ih =>
    rw [qk6, List.flatMap_cons, ← qk6]
    cases i with
    | zero =>
      simp at h
      subst h
      rw [List.getElem?_append_left (by show _ < 6; omega), Nat.zero_mul, Nat.zero_add]
      exact hj
    | succ i =>
      rw [List.getElem?_append_right (by show 6 ≤ _; omega), show (i + 1) * 6 + j - (qq8 t').length = i * 6 + j by show _ - 6 = _; omega]
      exact ih (by simpa using h)
end
section
theorem vc9 {rb : Nat} {a w w' : World} (h : Below a.heap.size a w) (hk : Kept rb w w') (hr : a.heap.size ≤ rb) : Below a.heap.size a w' :=
  ⟨hk.os.trans h.os, hk.tape.trans h.tape, hk.output.trans h.output, Nat.le_trans h.size hk.size, fun k hlt => (hk.block k (by have := h.size; omega) (by omega)).trans (h.block k hlt)⟩
structure RdL (w wr : World) (rb pb : Nat) (s : Ps) (ts : List Tm) (tv : Value) (rs : List Nat) (rv : Value) : Prop where
  ps : PsAt wr rb s
  c0 : wr.cell? ⟨pb, 0, none⟩ = some tv
  c1 : wr.cell? ⟨pb, 1, none⟩ = some rv
  fz : ∀ j, wr.frozen? ⟨pb, j, none⟩ = false
  lo : rb < pb
  lt : pb < wr.heap.size
  ats : TsAt wr (pb + 1) tv ts
  ars : IsAt wr (pb + 1) rv rs
  ne : ∀ g, tv.ownBlock = some g → rv.ownBlock ≠ some g
  old : w.heap.size ≤ rb
  bel : Below w.heap.size w wr
theorem RdL.kept {w wr w1 : World} {rb pb : Nat} {s s1 : Ps} {ts : List Tm} {tv : Value} {rs : List Nat} {rv : Value} (h : RdL w wr rb pb s ts tv rs rv) (hk : Kept rb wr w1) (hp : PsAt w1 rb s1) : RdL w w1 rb pb s1 ts tv rs rv := by
  have hlo := h.lo
  obtain ⟨hc, hf⟩ := x4 hk
  exact ⟨hp, (hc pb 0 h.lt (by omega)).trans h.c0, (hc pb 1 h.lt (by omega)).trans h.c1, fun j => (hf pb j h.lt (by omega)).trans (h.fz j), hlo, Nat.lt_of_lt_of_le h.lt hk.size,
    qu0 h.ats hk (by omega), qu0 h.ars hk (by omega), h.ne, h.old, vc9 h.bel hk h.old⟩
theorem RdL.alloc {w wr : World} {rb pb : Nat} {s : Ps} {ts : List Tm} {tv : Value} {rs : List Nat} {rv : Value} (h : RdL w wr rb pb s ts tv rs rv) (o : Obj) : RdL w (wr.alloc o) rb pb s ts tv rs rv :=
  h.kept ((Kept.refl rb wr).alloc o) (h.ps.alloc o)
theorem PsAt.drew {w : World} {rb : Nat} {s : Ps} (h : PsAt w rb s) : PsAt w.drew rb s := h.same h.lt fun _ _ => rfl
theorem Kept.drew' {rb : Nat} {w w1 : World} (h : Kept rb w.drew w1) : Kept rb w w1 := ⟨h.os, h.tape, h.output, h.size, h.block⟩
theorem RdL.addT {w W w2 : World} {rb pb : Nat} {s : Ps} {ts : List Tm} {tv : Value} {rs : List Nat} {rv : Value} (h : RdL w W rb pb s ts tv rs rv) {t : Tm} {g cap H : Nat}
    (hown : w2.ownsRow (pb + 1) 142 6 (.slice (some ⟨g, 0, none⟩) (ts.length + 1) cap) (ts.length + 1) (qk6 ts ++ qq8 t)) (hgrow : W.grownBy w2 tv.ownBlock) (hat : tv.ownBlock = some g ∨ g = H) (hH : W.heap.size = H) :
    RdL w (w2.setCell ⟨pb, 0, none⟩ (.slice (some ⟨g, 0, none⟩) (ts.length + 1) cap)) rb pb s (ts ++ [t]) (.slice (some ⟨g, 0, none⟩) (ts.length + 1) cap) rs rv := by
  have hlo := h.lo
  have hlt := h.lt
  have hrow : ∀ k, tv.ownBlock = some k → pb + 1 ≤ k := fun k hk => (h.ats.lt k hk).1
  have hz := hgrow.size
  have hb : ∀ k, k ≤ pb → w2.heap[k]? = W.heap[k]? := fun k hk => hgrow.block k (by omega) (fun e => by have := hrow k e.symm; omega)
  have hb' : ∀ k, k < pb → (w2.setCell ⟨pb, 0, none⟩ (.slice (some ⟨g, 0, none⟩) (ts.length + 1) cap)).heap[k]? = W.heap[k]? := fun k hk => (Below.heap_setCell w2 ⟨pb, 0, none⟩ _ k (by show k ≠ pb; omega)).trans (hb k (by omega))
  have c0 : w2.cell? ⟨pb, 0, none⟩ = some tv := (World.cell?_of_block (w := W) (w' := w2) (a := ⟨pb, 0, none⟩) (hb pb (Nat.le_refl _))).trans h.c0
  have c1 : w2.cell? ⟨pb, 1, none⟩ = some rv := (World.cell?_of_block (w := W) (w' := w2) (a := ⟨pb, 1, none⟩) (hb pb (Nat.le_refl _))).trans h.c1
  have fz : ∀ j, w2.frozen? ⟨pb, j, none⟩ = false := fun j => (World.frozen?_of_block (w := W) (w' := w2) (a := ⟨pb, j, none⟩) (hb pb (Nat.le_refl _))).trans (h.fz j)
  refine ⟨h.ps.same (by simp; omega) fun k hk => hb' k (by omega), by simp [go_sem, c0], by simp [go_sem, c1], fun j => by simp [go_sem, fz], hlo, by simp; omega, ?_, ?_, ?_, h.old, ?_⟩
  · show World.ownsRow _ _ _ _ _ _ _
    rw [List.length_append, List.length_singleton, qk6, List.flatMap_append, List.flatMap_singleton]
    exact ownsRow_setCell_below hown (by show pb < pb + 1; omega) _
  · refine v9 h.ars fun g' hg' => ?_
    have hl := h.ars.lt g' hg'
    rw [Below.heap_setCell w2 ⟨pb, 0, none⟩ _ g' (by show g' ≠ pb; omega)]
    exact hgrow.block g' hl.2 (fun e => h.ne g' e.symm hg')
  · intro g0 hg0 hr
    have he : g = g0 := by simpa [Value.ownBlock] using hg0
    subst he
    rcases hat with hat | hat
    · exact h.ne g hat hr
    · have := (h.ars.lt g hr).2
      omega
  · exact ⟨(hgrow.os.trans h.bel.os), (hgrow.tape.trans h.bel.tape), (hgrow.output.trans h.bel.output), by have := h.bel.size; simp; omega, fun k hk => (hb' k (by have := h.old; omega)).trans (h.bel.block k hk)⟩
theorem RdL.addR {w W w2 : World} {rb pb : Nat} {s : Ps} {ts : List Tm} {tv : Value} {rs : List Nat} {rv : Value} (h : RdL w W rb pb s ts tv rs rv) {t : Nat} {g cap H : Nat}
    (hown : w2.ownsRow (pb + 1) 3 1 (.slice (some ⟨g, 0, none⟩) (rs.length + 1) cap) (rs.length + 1) (qj5 rs ++ [.int .i64 t])) (hgrow : W.grownBy w2 rv.ownBlock) (hat : rv.ownBlock = some g ∨ g = H) (hH : W.heap.size = H) :
    RdL w (w2.setCell ⟨pb, 1, none⟩ (.slice (some ⟨g, 0, none⟩) (rs.length + 1) cap)) rb pb s ts tv (rs ++ [t]) (.slice (some ⟨g, 0, none⟩) (rs.length + 1) cap) := by
  have hlo := h.lo
  have hlt := h.lt
  have hrow : ∀ k, rv.ownBlock = some k → pb + 1 ≤ k := fun k hk => (h.ars.lt k hk).1
  have hz := hgrow.size
  have hb : ∀ k, k ≤ pb → w2.heap[k]? = W.heap[k]? := fun k hk => hgrow.block k (by omega) (fun e => by have := hrow k e.symm; omega)
  have hb' : ∀ k, k < pb → (w2.setCell ⟨pb, 1, none⟩ (.slice (some ⟨g, 0, none⟩) (rs.length + 1) cap)).heap[k]? = W.heap[k]? := fun k hk => (Below.heap_setCell w2 ⟨pb, 1, none⟩ _ k (by show k ≠ pb; omega)).trans (hb k (by omega))
  have c0 : w2.cell? ⟨pb, 0, none⟩ = some tv := (World.cell?_of_block (w := W) (w' := w2) (a := ⟨pb, 0, none⟩) (hb pb (Nat.le_refl _))).trans h.c0
  have c1 : w2.cell? ⟨pb, 1, none⟩ = some rv := (World.cell?_of_block (w := W) (w' := w2) (a := ⟨pb, 1, none⟩) (hb pb (Nat.le_refl _))).trans h.c1
  have fz : ∀ j, w2.frozen? ⟨pb, j, none⟩ = false := fun j => (World.frozen?_of_block (w := W) (w' := w2) (a := ⟨pb, j, none⟩) (hb pb (Nat.le_refl _))).trans (h.fz j)
  refine ⟨h.ps.same (by simp; omega) fun k hk => hb' k (by omega), by simp [go_sem, c0], by simp [go_sem, c1], fun j => by simp [go_sem, fz], hlo, by simp; omega, ?_, ?_, ?_, h.old, ?_⟩
  · refine v9 h.ats fun g' hg' => ?_
    have hl := h.ats.lt g' hg'
    rw [Below.heap_setCell w2 ⟨pb, 1, none⟩ _ g' (by show g' ≠ pb; omega)]
    exact hgrow.block g' hl.2 (fun e => h.ne g' hg' e.symm)
  · show World.ownsRow _ _ _ _ _ _ _
    rw [List.length_append, List.length_singleton, qj5, List.map_append]
    exact ownsRow_setCell_below hown (by show pb < pb + 1; omega) _
  · intro g0 hg0 hr
    have he : g = g0 := by simpa [Value.ownBlock] using hr
    subst he
    rcases hat with hat | hat
    · exact h.ne g hg0 hat
    · have := (h.ats.lt g hg0).2
      omega
  · exact ⟨(hgrow.os.trans h.bel.os), (hgrow.tape.trans h.bel.tape), (hgrow.output.trans h.bel.output), by have := h.bel.size; simp; omega, fun k hk => (hb' k (by have := h.old; omega)).trans (h.bel.block k hk)⟩
theorem RdL.far {w W w2 : World} {rb pb : Nat} {s : Ps} {ts : List Tm} {tv : Value} {rs : List Nat} {rv : Value} (h : RdL w W rb pb s ts tv rs rv) {row : Option Nat} (hg : W.grownBy w2 row) (hr : row = tv.ownBlock ∨ row = rv.ownBlock) :
    w2.cell? ⟨pb, 0, none⟩ = some tv ∧ w2.cell? ⟨pb, 1, none⟩ = some rv ∧ (∀ j, w2.frozen? ⟨pb, j, none⟩ = false) ∧ pb < w2.heap.size := by
  have hrow : ∀ k, row = some k → pb + 1 ≤ k := fun k hk => by
    rcases hr with rfl | rfl
    · exact (h.ats.lt k hk).1
    · exact (h.ars.lt k hk).1
  have hb : w2.heap[pb]? = W.heap[pb]? := hg.block pb h.lt (fun e => by have := hrow pb e.symm; omega)
  exact ⟨(World.cell?_of_block (w := W) (w' := w2) (a := ⟨pb, 0, none⟩) hb).trans h.c0, (World.cell?_of_block (w := W) (w' := w2) (a := ⟨pb, 1, none⟩) hb).trans h.c1, fun j => (World.frozen?_of_block (w := W) (w' := w2) (a := ⟨pb, j, none⟩) hb).trans (h.fz j), Nat.lt_of_lt_of_le h.lt hg.size⟩
def qm1 (ats : Array TypeId) (ty : TypeId) (args : Array Value) : Sem Value := Builtin.append_ ats ty args
theorem qc8 (ats : Array TypeId) (ty : TypeId) (args : Array Value) : Builtin.append_ ats ty args = qm1 ats ty args := rfl
theorem RdL.appT {w W : World} {rb pb : Nat} {s : Ps} {ts : List Tm} {tv : Value} {rs : List Nat} {rv : Value} (h : RdL w W rb pb s ts tv rs rv) (t : Tm) (hn : ts.length ≤ 1000) (ty : TypeId) :
    ∃ g cap w5, (qm1 #[63, 63] ty #[tv, .slice (some ⟨W.heap.size, 0, none⟩) 1 1]).run Tryz.prog (W.alloc (.cells #[.int .i64 t.op, .int .i64 t.left, .int .i64 t.right, .int .i64 t.num, .string (BS t.str), .string (BS t.esc)] 142)) = .ok (.slice (some ⟨g, 0, none⟩) (ts.length + 1) cap) w5 ∧
      w5.cell? ⟨pb, 0, none⟩ = some tv ∧ (∀ j, w5.frozen? ⟨pb, j, none⟩ = false) ∧ pb < w5.heap.size ∧
      Hid (RdL w (w5.setCell ⟨pb, 0, none⟩ (.slice (some ⟨g, 0, none⟩) (ts.length + 1) cap)) rb pb s (ts ++ [t]) (.slice (some ⟨g, 0, none⟩) (ts.length + 1) cap) rs rv) := by
  obtain ⟨i0, hi, hz0, hz1, hz2⟩ := info_parts vi1
  have ha := h.alloc (.cells #[.int .i64 t.op, .int .i64 t.left, .int .i64 t.right, .int .i64 t.num, .string (BS t.str), .string (BS t.esc)] 142)
  have hlt := h.lt
  obtain ⟨g, cap, w5, hr, hown, hgrow, hat, _⟩ := run_append_lies (P := Tryz.prog) (W.alloc (.cells #[.int .i64 t.op, .int .i64 t.left, .int .i64 t.right, .int .i64 t.num, .string (BS t.str), .string (BS t.esc)] 142)) 63 ty (pb + 1) 142 i0 _ 6 64 Tryz.underlying63 hi hz0 hz1 hz2 rfl (by omega) tv ts.length (qk6 ts) ha.ats
    ⟨W.heap.size, 0, none⟩ 1 1 (qq8 t) rfl (World.news_of_block (cs := #[.int .i64 t.op, .int .i64 t.left, .int .i64 t.right, .int .i64 t.num, .string (BS t.str), .string (BS t.esc)]) (t := 142) (fr := (0, 0)) (heap_alloc_new W _)) (by simp [qq8, Value.oneCell']) (by omega) (by unfold maxLen; omega) (by omega) (by simp; omega) _ rfl
  obtain ⟨c5, _, f5, lt5⟩ := ha.far hgrow (.inl rfl)
  exact ⟨g, cap, w5, hr, c5, f5, lt5, v6 (ha.addT hown hgrow hat rfl)⟩
theorem RdL.appR {w W : World} {rb pb : Nat} {s : Ps} {ts : List Tm} {tv : Value} {rs : List Nat} {rv : Value} (h : RdL w W rb pb s ts tv rs rv) (r : Nat) (hn : rs.length ≤ 1000) (ty : TypeId) :
    ∃ g cap w5, (qm1 #[29, 29] ty #[rv, .slice (some ⟨W.heap.size, 0, none⟩) 1 1]).run Tryz.prog (W.alloc (.cells #[.int .i64 r] 3)) = .ok (.slice (some ⟨g, 0, none⟩) (rs.length + 1) cap) w5 ∧
      w5.cell? ⟨pb, 1, none⟩ = some rv ∧ (∀ j, w5.frozen? ⟨pb, j, none⟩ = false) ∧ pb < w5.heap.size ∧
      Hid (RdL w (w5.setCell ⟨pb, 1, none⟩ (.slice (some ⟨g, 0, none⟩) (rs.length + 1) cap)) rb pb s ts tv (rs ++ [r]) (.slice (some ⟨g, 0, none⟩) (rs.length + 1) cap)) := by
  obtain ⟨i0, hi, hz0, hz1, hz2⟩ := info_parts qs5
  have ha := h.alloc (.cells #[.int .i64 r] 3)
  have hlt := h.lt
  obtain ⟨g, cap, w5, hr, hown, hgrow, hat, _⟩ := run_append_lies (P := Tryz.prog) (W.alloc (.cells #[.int .i64 r] 3)) 29 ty (pb + 1) 3 i0 _ 1 8 Tryz.underlying29 hi hz0 hz1 hz2 rfl (by omega) rv rs.length (qj5 rs) ha.ars
    ⟨W.heap.size, 0, none⟩ 1 1 [.int .i64 r] rfl (World.news_of_block (cs := #[.int .i64 r]) (t := 3) (fr := (0, 0)) (heap_alloc_new W _)) (by simp [Value.oneCell']) (by omega) (by unfold maxLen; omega) (by omega) (by simp; omega) _ rfl
  obtain ⟨_, c5, f5, lt5⟩ := ha.far hgrow (.inr rfl)
  exact ⟨g, cap, w5, hr, c5, f5, lt5, v6 (ha.addR hown hgrow hat rfl)⟩
structure ProgAt (w : World) (pb o : Nat) (ts : List Tm) (rs : List Nat) : Prop where
  lt : pb < w.heap.size
  c0 : ∃ tv base, w.cell? ⟨pb, o, none⟩ = some tv ∧ TsAt w base tv ts
  c1 : ∃ rv base, w.cell? ⟨pb, o + 1, none⟩ = some rv ∧ IsAt w base rv rs
theorem ProgAt.below {w w' : World} {pb o : Nat} {ts : List Tm} {rs : List Nat} (h : ProgAt w pb o ts rs) (hb : Below w.heap.size w w') : ProgAt w' pb o ts rs := by
  obtain ⟨hl, ⟨tv, b0, h0, h0'⟩, rv, b1, h1, h1'⟩ := h
  exact ⟨Nat.lt_of_lt_of_le hl hb.size, ⟨tv, b0, (hb.cell hl).trans h0, qe6 h0' hb (Nat.le_refl _)⟩, rv, b1, (hb.cell hl).trans h1, qe6 h1' hb (Nat.le_refl _)⟩
theorem RdL.prog {w wr : World} {rb pb : Nat} {s : Ps} {ts : List Tm} {tv : Value} {rs : List Nat} {rv : Value} (h : RdL w wr rb pb s ts tv rs rv) : ProgAt wr pb 0 ts rs :=
  ⟨h.lt, ⟨tv, _, h.c0, h.ats⟩, rv, _, h.c1, h.ars⟩
end
section
structure Mg where
  pri : Int
  num : Int
def bef (x y : Mg) : Bool := if x.pri != y.pri then decide (y.pri < x.pri) else decide (x.num < y.num)
def mgV (x : Mg) : Value := .agg #[.int .i64 x.pri, .int .i64 x.num]
set_option maxHeartbeats 400000 in
theorem before_mg (x y : Mg) (w : World) : Calls Tryz.prog 159 #[mgV x, mgV y] w fun e w' => e = .returned (.bool (bef x y)) ∧ Below w.heap.size w w' := by
  unfold mgV
  by_cases h : x.pri = y.pri
  · have hb : bef x y = decide (x.num < y.num) := by simp [bef, h]
    have hd : (x.pri != y.pri) = false := by simp [h]
    rw [hb]
    go_enter Tryz.func159, Tryz.ntmps159
    go_wp2_with fail
    go_ret
    exact ⟨rfl, qg3 w _ _⟩
  · have hb : bef x y = decide (y.pri < x.pri) := by simp [bef, h]
    have hd : (x.pri != y.pri) = true := by simp [h]
    have hg : decide (x.pri > y.pri) = decide (y.pri < x.pri) := rfl
    rw [hb]
    go_enter Tryz.func159, Tryz.ntmps159
    go_wp2_with fail
    go_ret
    exact ⟨rfl, qg3 w _ _⟩
set_option maxHeartbeats 400000 in
theorem above_any (k : Nat) (hk : k ≤ 1000) (w : World) : Calls Tryz.prog 108 #[.int .i64 ((k + 1 : Nat) : Int)] w fun e w' => e = .returned (.int .i64 ((k / 2 : Nat) : Int)) ∧ w' = w := by
  have h1 : (((k + 1 : Nat) : Int) - 1) = (k : Int) := by omega
  go_enter Tryz.func108, Tryz.ntmps108
  go_wp2_with fail
  go_ret
  exact ⟨rfl, rfl⟩
def MgBlk (w : World) (g cap : Nat) : Prop := cap ≤ maxLen ∧ ∃ cur : Array Value, w.heap[g]? = some (.cells cur 102 (0, 0)) ∧ cur.size = cap * 2
theorem MgBlk.same {w w' : World} {g cap : Nat} (h : MgBlk w g cap) (hb : w'.heap[g]? = w.heap[g]?) : MgBlk w' g cap := by
  obtain ⟨hm, cur, h1, h2⟩ := h
  exact ⟨hm, cur, hb.trans h1, h2⟩
theorem MgBlk.set {w : World} {g cap : Nat} (h : MgBlk w g cap) (o : Nat) (v : Value) : MgBlk (w.setCell ⟨g, o, none⟩ v) g cap := by
  obtain ⟨hm, cur, h1, h2⟩ := h
  refine ⟨hm, cur.setIfInBounds o v, ?_, by simpa using h2⟩
  simp [World.setCell, Array.getElem?_modify, h1]
structure HpAt (w : World) (hb ho g cap : Nat) (ms : List Mg) : Prop where
  c : w.cell? ⟨hb, ho, none⟩ = some (.slice (some ⟨g, 0, none⟩) ms.length cap)
  fz : w.frozen? ⟨hb, ho, none⟩ = false
  ne : g ≠ hb
  lt : hb < w.heap.size
  glt : g < w.heap.size
  pri : ∀ (i : Nat) (m : Mg), ms[i]? = some m → w.cell? ⟨g, i * 2, none⟩ = some (.int .i64 m.pri) ∧ w.cell? ⟨g, i * 2 + 1, none⟩ = some (.int .i64 m.num)
  gfz : ∀ j, w.frozen? ⟨g, j, none⟩ = false
  blk : MgBlk w g cap
  room : ms.length ≤ cap
theorem HpAt.below {w w' : World} {hb ho g cap : Nat} {ms : List Mg} (h : HpAt w hb ho g cap ms) (hB : Below w.heap.size w w') : HpAt w' hb ho g cap ms := by
  obtain ⟨hc, hf⟩ := j5 hB
  exact ⟨(hc hb ho h.lt).trans h.c, (hf hb ho h.lt).trans h.fz, h.ne, Nat.lt_of_lt_of_le h.lt hB.size, Nat.lt_of_lt_of_le h.glt hB.size, fun i m hm => ⟨(hc g _ h.glt).trans (h.pri i m hm).1, (hc g _ h.glt).trans (h.pri i m hm).2⟩, fun j => (hf g j h.glt).trans (h.gfz j), h.blk.same (hB.block g h.glt), h.room⟩
theorem HpAt.swap {w : World} {hb ho g cap : Nat} {ms : List Mg} (h : HpAt w hb ho g cap ms) {i j : Nat} {x y : Mg} (hx : ms[i]? = some x) (hy : ms[j]? = some y) (hij : i ≠ j) :
    HpAt ((((w.setCell ⟨g, i * 2, none⟩ (.int .i64 y.pri)).setCell ⟨g, i * 2 + 1, none⟩ (.int .i64 y.num)).setCell ⟨g, j * 2, none⟩ (.int .i64 x.pri)).setCell ⟨g, j * 2 + 1, none⟩ (.int .i64 x.num)) hb ho g cap ((ms.set i y).set j x) := by
  obtain ⟨c, fz, ne, lt, glt, cells, gfz, blk, room⟩ := h
  obtain ⟨x0, x1⟩ := cells i x hx
  obtain ⟨y0, y1⟩ := cells j y hy
  have hi : i < ms.length := (List.getElem?_eq_some_iff.1 hx).1
  have hj : j < ms.length := (List.getElem?_eq_some_iff.1 hy).1
  have ne' : ¬ hb = g := fun e => ne e.symm
  refine ⟨by simp [go_sem, c], by simp [go_sem, fz], ne, by simpa using lt, by simpa using glt, fun k m hm => ?_, fun j => by simp [go_sem, gfz], (((blk.set _ _).set _ _).set _ _).set _ _, by simpa using room⟩
  by_cases hkj : k = j
  · subst hkj
    rw [List.getElem?_set_self (by simpa using hj)] at hm
    simp at hm
    subst hm
    constructor <;> simp [go_sem, y0, y1]
  · rw [List.getElem?_set_ne (fun e => hkj e.symm)] at hm
    by_cases hki : k = i
    · subst hki
      rw [List.getElem?_set_self hi] at hm
      simp at hm
      subst hm
      constructor <;> simp [go_sem, x0, x1]
    · rw [List.getElem?_set_ne (fun e => hki e.symm)] at hm
      obtain ⟨m0, m1⟩ := cells k m hm
      constructor <;> simp [go_sem, m0, m1]
set_option maxHeartbeats 800000 in
theorem jp2 (hb ho g cap : Nat) (ms : List Mg) (i j : Nat) (x y : Mg) (hx : ms[i]? = some x) (hy : ms[j]? = some y) (hij : i ≠ j) (w : World) (h : HpAt w hb ho g cap ms) :
    Calls Tryz.prog 109 #[.pointer (some ⟨hb, ho, none⟩), .int .i64 i, .int .i64 j] w fun e w' => e = .returned (.tuple #[]) ∧ HpAt w' hb ho g cap ((ms.set i y).set j x) ∧ Kept g w w' := by
  have HS := v6 ((h.below (Below.refl _ _).drew).swap hx hy hij)
  obtain ⟨c, fz, ne, lt, glt, cells, gfz, blk, room⟩ := h
  obtain ⟨x0, x1⟩ := cells i x hx
  obtain ⟨y0, y1⟩ := cells j y hy
  have hi : i < ms.length := (List.getElem?_eq_some_iff.1 hx).1
  have hj : j < ms.length := (List.getElem?_eq_some_iff.1 hy).1
  obtain ⟨n, hn⟩ : ∃ n, ms.length = n := ⟨_, rfl⟩
  rw [hn] at c hi hj
  have i0 : (0 : Int) ≤ (i : Int) := by omega
  have i1 : (i : Int) < (n : Int) := by omega
  have j0 : (0 : Int) ≤ (j : Int) := by omega
  have j1 : (j : Int) < (n : Int) := by omega
  have d0 : ¬ i * 2 = j * 2 := by omega
  have d1 : ¬ i * 2 + 1 = j * 2 := by omega
  have d2 : ¬ i * 2 = j * 2 + 1 := by omega
  have d3 : ¬ j * 2 = i * 2 := by omega
  have d4 : ¬ j * 2 = i * 2 + 1 := by omega
  have d5 : ¬ i = j := hij
  have d6 : ¬ j = i := fun e => hij e.symm
  have HK : Hid (Kept g w ((((w.setCell ⟨g, i * 2, none⟩ (.int .i64 y.pri)).setCell ⟨g, i * 2 + 1, none⟩ (.int .i64 y.num)).setCell ⟨g, j * 2, none⟩ (.int .i64 x.pri)).setCell ⟨g, j * 2 + 1, none⟩ (.int .i64 x.num)).drew) := v6 (((((Kept.refl g w).setCell _ _).setCell _ _).setCell _ _).setCell _ _).drew
  clear cells hx hy hn hij blk room
  go_enter Tryz.func109, Tryz.ntmps109
  go_region
  all_goals go_wp2_with fail
  all_goals exact bodyPost_end (results_none rfl _ _ _) rfl ⟨rfl, q9 HS, q9 HK⟩
def BS5 (hb ho g n cap i j : Nat) (x y : Mg) (w' : World) : Prop := w'.cell? ⟨hb, ho, none⟩ = some (.slice (some ⟨g, 0, none⟩) n cap) ∧ w'.cell? ⟨g, i * 2, none⟩ = some (.int .i64 x.pri) ∧ w'.cell? ⟨g, i * 2 + 1, none⟩ = some (.int .i64 x.num) ∧ w'.cell? ⟨g, j * 2, none⟩ = some (.int .i64 y.pri) ∧ w'.cell? ⟨g, j * 2 + 1, none⟩ = some (.int .i64 y.num)
theorem HpAt.bs5 {w : World} {hb ho g cap : Nat} {ms : List Mg} (h : HpAt w hb ho g cap ms) {i j : Nat} {x y : Mg} (hx : ms[i]? = some x) (hy : ms[j]? = some y) : BS5 hb ho g ms.length cap i j x y w :=
  ⟨h.c, (h.pri i x hx).1, (h.pri i x hx).2, (h.pri j y hy).1, (h.pri j y hy).2⟩
set_option maxHeartbeats 800000 in
theorem vp5 (hb ho g cap : Nat) (ms : List Mg) (i j : Nat) (x y : Mg) (hx : ms[i]? = some x) (hy : ms[j]? = some y) (w : World) (h : HpAt w hb ho g cap ms) :
    Calls Tryz.prog 107 #[.pointer (some ⟨hb, ho, none⟩), .int .i64 i, .int .i64 j] w fun e w' => e = .returned (.bool (bef x y)) ∧ Below w.heap.size w w' := by
  have hi : i < ms.length := (List.getElem?_eq_some_iff.1 hx).1
  have hj : j < ms.length := (List.getElem?_eq_some_iff.1 hy).1
  have s0 := (h.below (Below.refl _ _).drew).bs5 hx hy
  have SB : Hid (∀ w', Below w.heap.size w w' → BS5 hb ho g ms.length cap i j x y w') := v6 fun w' hB => (h.below hB).bs5 hx hy
  obtain ⟨n, hn⟩ : ∃ n, ms.length = n := ⟨_, rfl⟩
  rw [hn] at s0 SB hi hj
  have i0 : (0 : Int) ≤ (i : Int) := by omega
  have i1 : (i : Int) < (n : Int) := by omega
  have j0 : (0 : Int) ≤ (j : Int) := by omega
  have j1 : (j : Int) < (n : Int) := by omega
  unfold BS5 at s0
  have BM := v6 (fun w => before_mg x y w)
  unfold mgV at BM
  clear h hx hy hn
  go_enter Tryz.func107, Tryz.ntmps107
  go_wp2_with fail
  go_region_held3 (fun w' => w'.cell? ⟨hb, ho, none⟩ = some (.slice (some ⟨g, 0, none⟩) n cap) ∧ w'.cell? ⟨g, i * 2, none⟩ = some (.int .i64 x.pri) ∧ w'.cell? ⟨g, i * 2 + 1, none⟩ = some (.int .i64 x.num) ∧ w'.cell? ⟨g, j * 2, none⟩ = some (.int .i64 y.pri) ∧ w'.cell? ⟨g, j * 2 + 1, none⟩ = some (.int .i64 y.num)) (with_reducible assumption) ((go_at_call 159; refine (q9 BM _).mono ?_; rintro e w1 ⟨rfl, hb1⟩; have B1 := v6 (v7 (Below.refl _ w).drew hb1); have s1 := q9 SB w1 (q9 B1); unfold BS5 at s1; clear hb1))
  all_goals go_wp2_with fail
  all_goals go_ret
  all_goals exact ⟨rfl, q9 B1⟩
end
section
def vf7 : Nat → List Mg → Nat → List Mg
  | 0, ms, _ => ms
  | _ + 1, ms, 0 => ms
  | n + 1, ms, k + 1 => match ms[k + 1]?, ms[k / 2]? with
    | some x, some y => if bef x y then vf7 n ((ms.set (k + 1) y).set (k / 2) x) (k / 2) else ms
    | _, _ => ms
def ji2 (ms : List Mg) (k : Nat) : List Mg := vf7 (k + 1) ms k
theorem jw5 (n : Nat) (ms : List Mg) : vf7 n ms 0 = ms := by cases n <;> rfl
theorem jw4 {n : Nat} {ms : List Mg} {k : Nat} {x y : Mg} (hx : ms[k + 1]? = some x) (hy : ms[k / 2]? = some y) (hb : bef x y = false) : vf7 n ms (k + 1) = ms := by
  cases n with
  | zero => rfl
  | succ n => rw [vf7, hx, hy]; simp [hb]
theorem riseF_go {n : Nat} {ms : List Mg} {k : Nat} {x y : Mg} (hx : ms[k + 1]? = some x) (hy : ms[k / 2]? = some y) (hb : bef x y = true) : vf7 (n + 1) ms (k + 1) = vf7 n ((ms.set (k + 1) y).set (k / 2) x) (k / 2) := by
  rw [vf7, hx, hy]; simp [hb]
set_option maxHeartbeats 1000000 in
set_option maxRecDepth 100000 in
theorem rise_any (hb ho g cap : Nat) (ms : List Mg) (k : Nat) (hk : k < ms.length) (hn : ms.length ≤ 100) (w : World) (h : HpAt w hb ho g cap ms) :
    Calls Tryz.prog 71 #[.pointer (some ⟨hb, ho, none⟩), .int .i64 k] w fun e w' => e = .returned (.tuple #[]) ∧ HpAt w' hb ho g cap (ji2 ms k) ∧ Kept g w w' := by
  obtain ⟨R, hR⟩ : ∃ R, ji2 ms k = R := ⟨_, rfl⟩
  rw [hR]
  have HR : Hid (R = vf7 (k + 1) ms k) := v6 hR.symm
  have H0 := v6 h
  have HK0 : Hid (k < ms.length) := v6 hk
  have HN0 : Hid (ms.length ≤ 100) := v6 hn
  clear hR h hk hn
  go_enter Tryz.func71, Tryz.ntmps71
  go_wp2_with fail
  go_loopw [1] (fun i wr => ∃ (j n : Nat) (ms' : List Mg), i = .int .i64 j ∧ Hid (R = vf7 n ms' j) ∧ Hid (j < ms'.length) ∧ Hid (j < n) ∧ Hid (ms'.length ≤ 100) ∧ Hid (HpAt wr hb ho g cap ms') ∧ Hid (Kept g w wr)) (fun i _ => (intOf i).toNat)
  case atStart => exact ⟨k, k + 1, ms, rfl, HR, HK0, v6 (Nat.lt_succ_self _), HN0, H0, v6 (Kept.refl _ _)⟩
  case round =>
    obtain ⟨j, n, ms', rfl, HR', HJ, HJN, HN, HH, HK⟩ := hrel
    cases j with
    | zero =>
      go_wp2_with fail
      exact bodyPost_end (results_none rfl _ _ _) rfl ⟨rfl, by rw [q9 HR', jw5]; exact q9 HH, q9 HK⟩
    | succ j =>
      obtain ⟨x, hx⟩ : ∃ x, ms'[j + 1]? = some x := ⟨_, List.getElem?_eq_getElem (q9 HJ)⟩
      obtain ⟨y, hy⟩ : ∃ y, ms'[j / 2]? = some y := ⟨_, List.getElem?_eq_getElem (by have := q9 HJ; omega)⟩
      have hj : j ≤ 1000 := by have := q9 HJ; have := q9 HN; omega
      have AB := v6 (fun w => above_any j hj w)
      have BE := v6 (fun w1 (hB : Below wr.heap.size wr w1) => vp5 hb ho g cap ms' (j + 1) (j / 2) x y hx hy w1 ((q9 HH).below hB))
      have hd0 : decide (((j + 1 : Nat) : Int) > 0) = true := decide_eq_true (by omega)
      cases hbef : bef x y with
      | false =>
        rw [hbef] at BE
        have hS := v6 (jw4 (n := n) hx hy hbef)
        clear hx hy
        go_wp2_with (first | (go_at_call 107; refine (q9 BE _ (Below.refl _ _)).mono ?_; rintro e w2 ⟨rfl, hb2⟩; have B2 := v6 hb2; clear hb2) | (go_at_call 108; refine (q9 AB _).mono ?_; rintro e w1 ⟨rfl, rfl⟩))
        exact bodyPost_end (results_none rfl _ _ _) rfl ⟨rfl, by rw [q9 HR', q9 hS]; exact (q9 HH).below (q9 B2), (q9 HK).trans (Kept.of_below (q9 B2))⟩
      | true =>
        rw [hbef] at BE
        obtain ⟨n', rfl⟩ : ∃ n', n = n' + 1 := ⟨n - 1, by have := q9 HJN; omega⟩
        have hS := v6 (riseF_go (n := n') hx hy hbef)
        have SW := v6 (fun w1 (hB : Below wr.heap.size wr w1) => jp2 hb ho g cap ms' (j + 1) (j / 2) x y hx hy (by omega) w1 ((q9 HH).below hB))
        have hlen : Hid (((ms'.set (j + 1) y).set (j / 2) x).length = ms'.length) := v6 (by simp)
        clear hx hy
        go_wp2_with (first | (go_at_call 109; refine (q9 SW _ (q9 B2)).mono ?_; rintro e w3 ⟨rfl, hh3, hk3⟩; have H3 := v6 hh3; have K3 := v6 (((q9 HK).trans (Kept.of_below (q9 B2))).trans hk3); clear hh3 hk3) | (go_at_call 107; refine (q9 BE _ (Below.refl _ _)).mono ?_; rintro e w2 ⟨rfl, hb2⟩; have B2 := v6 hb2; clear hb2) | (go_at_call 108; refine (q9 AB _).mono ?_; rintro e w1 ⟨rfl, rfl⟩))
        exact ⟨⟨j / 2, n', _, rfl, v6 (by rw [q9 HR', q9 hS]), v6 (by have := q9 HJ; rw [q9 hlen]; omega), v6 (by have := q9 HJN; omega), v6 (by rw [q9 hlen]; exact q9 HN), H3, K3⟩, by simp [intOf]; omega⟩
end
end Go.Proofs.YtfkcaldjphakpabGreatDoor
