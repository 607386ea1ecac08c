/- join: BETWEEN. join: what needs nothing but Join. The reader of programs: its state in memory; fail, take, next, upTo. The reader of programs: number. -/
import Derived.Test.YtfkcaldjphakpabGreatDoorT12
import Derived.Deep.RegionHeld3
import Derived.Deep.RegionWith
import Derived.Test.YtfkcaldjphakpabGreatDoorT03
namespace Go.Proofs.YtfkcaldjphakpabGreatDoor
open Go.RowKit
section
structure JoinAt (w W : World) (x y z : V) : Prop where
  x0 : W.cell? ⟨w.heap.size, 0, none⟩ = some (.int .i64 x.kind)
  x1 : W.cell? ⟨w.heap.size, 1, none⟩ = some (.int .i64 x.num)
  x2 : W.cell? ⟨w.heap.size, 2, none⟩ = some (.string (BS x.str))
  y0 : W.cell? ⟨w.heap.size + 1, 0, none⟩ = some (.int .i64 y.kind)
  y1 : W.cell? ⟨w.heap.size + 1, 1, none⟩ = some (.int .i64 y.num)
  y2 : W.cell? ⟨w.heap.size + 1, 2, none⟩ = some (.string (BS y.str))
  z0 : W.cell? ⟨w.heap.size + 2, 0, none⟩ = some (.int .i64 z.kind)
  z1 : W.cell? ⟨w.heap.size + 2, 1, none⟩ = some (.int .i64 z.num)
  z2 : W.cell? ⟨w.heap.size + 2, 2, none⟩ = some (.string (BS z.str))
  r0 : W.cell? ⟨w.heap.size + 3, 0, none⟩ = some (.int .i64 0)
  r1 : W.cell? ⟨w.heap.size + 3, 1, none⟩ = some (.int .i64 0)
  r2 : W.cell? ⟨w.heap.size + 3, 2, none⟩ = some (.string ⟨#[]⟩)
  fz : ∀ j, W.frozen? ⟨w.heap.size + 3, j, none⟩ = false
  lt : w.heap.size + 3 < W.heap.size
  below : Below w.heap.size w W
theorem vd3 (w : World) (x y z : V) : JoinAt w ((((w.alloc (.cells #[.int .i64 x.kind, .int .i64 x.num, .string (BS x.str)] 118)).alloc (.cells #[.int .i64 y.kind, .int .i64 y.num, .string (BS y.str)] 118)).alloc (.cells #[.int .i64 z.kind, .int .i64 z.num, .string (BS z.str)] 118)).alloc (.cells #[.int .i64 0, .int .i64 0, .string ⟨#[]⟩] 118)) x y z := ⟨by rw [World.cell?_alloc_past _ _ _ (by simp <;> omega), World.cell?_alloc_past _ _ _ (by simp <;> omega), World.cell?_alloc_past _ _ _ (by simp), World.cell?_alloc_at _ _ _ _ rfl]; rfl, by rw [World.cell?_alloc_past _ _ _ (by simp <;> omega), World.cell?_alloc_past _ _ _ (by simp <;> omega), World.cell?_alloc_past _ _ _ (by simp), World.cell?_alloc_at _ _ _ _ rfl]; rfl, by rw [World.cell?_alloc_past _ _ _ (by simp <;> omega), World.cell?_alloc_past _ _ _ (by simp <;> omega), World.cell?_alloc_past _ _ _ (by simp), World.cell?_alloc_at _ _ _ _ rfl]; rfl, by rw [World.cell?_alloc_past _ _ _ (by simp <;> omega), World.cell?_alloc_past _ _ _ (by simp), World.cell?_alloc_at _ _ _ _ (by simp)]; rfl, by rw [World.cell?_alloc_past _ _ _ (by simp <;> omega), World.cell?_alloc_past _ _ _ (by simp), World.cell?_alloc_at _ _ _ _ (by simp)]; rfl, by rw [World.cell?_alloc_past _ _ _ (by simp <;> omega), World.cell?_alloc_past _ _ _ (by simp), World.cell?_alloc_at _ _ _ _ (by simp)]; rfl, by rw [World.cell?_alloc_past _ _ _ (by simp), World.cell?_alloc_at _ _ _ _ (by simp)]; rfl, by rw [World.cell?_alloc_past _ _ _ (by simp), World.cell?_alloc_at _ _ _ _ (by simp)]; rfl, by rw [World.cell?_alloc_past _ _ _ (by simp), World.cell?_alloc_at _ _ _ _ (by simp)]; rfl, by rw [World.cell?_alloc_at _ _ _ _ (by simp)]; rfl, by rw [World.cell?_alloc_at _ _ _ _ (by simp)]; rfl, by rw [World.cell?_alloc_at _ _ _ _ (by simp)]; rfl, fun j => by rw [World.frozen?_alloc_at _ _ _ _ (by simp)], by simp, (qb2 w _ _ _).alloc (by simp; omega) _⟩
theorem JoinAt.next {w W W' : World} {x y z : V} (h : JoinAt w W x y z) (hb : Below W.heap.size W W') : JoinAt w W' x y z := by
  obtain ⟨hc, hf⟩ := j5 hb
  have hl := h.lt
  exact ⟨(hc _ 0 (by omega)).trans h.x0, (hc _ 1 (by omega)).trans h.x1, (hc _ 2 (by omega)).trans h.x2, (hc _ 0 (by omega)).trans h.y0, (hc _ 1 (by omega)).trans h.y1, (hc _ 2 (by omega)).trans h.y2, (hc _ 0 (by omega)).trans h.z0, (hc _ 1 (by omega)).trans h.z1, (hc _ 2 (by omega)).trans h.z2, (hc _ 0 (by omega)).trans h.r0, (hc _ 1 (by omega)).trans h.r1, (hc _ 2 (by omega)).trans h.r2, fun j => (hf _ j (by omega)).trans (h.fz j), Nat.lt_of_lt_of_le hl hb.size, v7 h.below hb⟩
theorem JoinAt.drew {w W : World} {x y z : V} (h : JoinAt w W x y z) : JoinAt w W.drew x y z := h.next ((Below.refl _ _).drew)
set_option maxHeartbeats 2000000 in
set_option maxRecDepth 100000 in
theorem joinN_20 (lo : Nat) (t : Ast) (h20 : (y7 t).op = 20) : vg9 lo t := by
  intro w b x y z _ _ _ _ h
  have hr : qs6 (y7 t) x y z = andV (leV y x) (leV x z) := by rw [qs6, if_pos h20]
  rw [hr]
  obtain ⟨b', sv, hb, hnode, _⟩ := h.parts
  obtain rfl : b = b' := by simpa using hb
  have c0 := hnode.c0
  have hbw := hnode.within
  have m1 : b < w.heap.size + 1 := by omega
  have m2 : b < w.heap.size + 1 + 1 := by omega
  have m3 : b < w.heap.size + 1 + 1 + 1 := by omega
  rw [h20] at c0
  have d0 : ¬ w.heap.size + 1 + 1 + 1 = w.heap.size := by omega
  have d1 : ¬ w.heap.size + 1 + 1 + 1 = w.heap.size + 1 := by omega
  have d2 : ¬ w.heap.size = w.heap.size + 1 + 1 + 1 := by omega
  have d3 : ¬ w.heap.size + 1 = w.heap.size + 1 + 1 + 1 := by omega
  have d4 : ¬ w.heap.size + 1 + 1 = w.heap.size := by omega
  have d5 : ¬ w.heap.size = w.heap.size + 1 + 1 := by omega
  have JA0 := v6 (vd3 w x y z).drew
  clear hr hnode hb h h20
  conv => arg 3; simp only [vV]
  go_enter Tryz.func199, Tryz.ntmps199
  go_wp2_with fail
  obtain ⟨x0_0, x1_0, x2_0, y0_0, y1_0, y2_0, z0_0, z1_0, z2_0, r0_0, r1_0, r2_0, fz_0, lt_0, bel_0⟩ := q9 JA0
  go_region_held3 (fun W => W.cell? ⟨w.heap.size, 0, none⟩ = some (.int .i64 x.kind) ∧ W.cell? ⟨w.heap.size, 1, none⟩ = some (.int .i64 x.num) ∧ W.cell? ⟨w.heap.size, 2, none⟩ = some (.string (BS x.str)) ∧ W.cell? ⟨w.heap.size + 1, 0, none⟩ = some (.int .i64 y.kind) ∧ W.cell? ⟨w.heap.size + 1, 1, none⟩ = some (.int .i64 y.num) ∧ W.cell? ⟨w.heap.size + 1, 2, none⟩ = some (.string (BS y.str)) ∧ W.cell? ⟨w.heap.size + 2, 0, none⟩ = some (.int .i64 z.kind) ∧ W.cell? ⟨w.heap.size + 2, 1, none⟩ = some (.int .i64 z.num) ∧ W.cell? ⟨w.heap.size + 2, 2, none⟩ = some (.string (BS z.str))) (go_keep) (first | (go_at_call_of 153 (Value.agg #[Value.int IntKind.i64 y.kind, Value.int IntKind.i64 y.num, Value.string (BS y.str)]); refine (qk7 y x _).mono ?_; rintro e w1 ⟨rfl, hb1⟩; have JA1 := v6 ((q9 JA0).next hb1); obtain ⟨x0_1, x1_1, x2_1, y0_1, y1_1, y2_1, z0_1, z1_1, z2_1, r0_1, r1_1, r2_1, fz_1, lt_1, bel_1⟩ := q9 JA1; clear hb1) | (go_at_call_of 153 (Value.agg #[Value.int IntKind.i64 z.kind, Value.int IntKind.i64 z.num, Value.string (BS z.str)]); refine (qk7 x z _).mono ?_; rintro e w2 ⟨rfl, hb2⟩; have JA2 := v6 ((q9 JA1).next hb2); obtain ⟨x0_2, x1_2, x2_2, y0_2, y1_2, y2_2, z0_2, z1_2, z2_2, r0_2, r1_2, r2_2, fz_2, lt_2, bel_2⟩ := q9 JA2; clear hb2) | (go_at_call 149; refine (jq1 (leV y x) (leV x z) _).mono ?_; rintro e w3 ⟨rfl, hb3⟩; have JA3 := v6 ((q9 JA2).next hb3); obtain ⟨x0_3, x1_3, x2_3, y0_3, y1_3, y2_3, z0_3, z1_3, z2_3, r0_3, r1_3, r2_3, fz_3, lt_3, bel_3⟩ := q9 JA3; clear hb3; simp only [vV]))
  go_wp2_with fail
  refine bodyPost_ret (by simp [results, Tryz.results199, go_sem, r0_3, r1_3, r2_3] <;> rfl) rfl ⟨rfl, ?_⟩
  exact ((bel_3.setCell (by simp; omega) _).setCell (by simp; omega) _).setCell (by simp; omega) _
end
section
set_option maxHeartbeats 1000000 in
set_option maxRecDepth 100000 in
theorem ju1 (lo : Nat) (t : Ast) (h20 : ¬ (y7 t).op = 20) (h21 : ¬ (y7 t).op = 21) (h22 : ¬ (y7 t).op = 22) (hJ : ∀ x y, Rng x.num → Rng y.num → qj2 (y7 t).op x y (qz2 (y7 t).op x y)) : vg9 lo t := by
  intro w b x y z hx hy _ _ h
  have hr : qs6 (y7 t) x y z = qz2 (y7 t).op x y := by rw [qs6, if_neg h20, if_neg h21, if_neg h22]
  rw [hr]
  have CON := v6 (hJ x y hx hy)
  obtain ⟨b', sv, hb, hnode, _⟩ := h.parts
  obtain rfl : b = b' := by simpa using hb
  have c0 := hnode.c0
  have hbw := hnode.within
  have m1 : b < w.heap.size + 1 := by omega
  have m2 : b < w.heap.size + 1 + 1 := by omega
  have m3 : b < w.heap.size + 1 + 1 + 1 := by omega
  obtain ⟨op, hop⟩ : ∃ op, (y7 t).op = op := ⟨_, rfl⟩
  rw [hop] at c0 h20 h21 h22 CON ⊢
  have e20 : (op == 20) = false := beq_eq_false_iff_ne.2 h20
  have e21 : (op == 21) = false := beq_eq_false_iff_ne.2 h21
  have e22 : (op == 22) = false := beq_eq_false_iff_ne.2 h22
  obtain ⟨r, hr'⟩ : ∃ r, qz2 op x y = r := ⟨_, rfl⟩
  rw [hr'] at CON ⊢
  clear hr hr' hnode hb h hx hy h20 h21 h22 hop hJ
  conv => arg 3; simp only [vV]
  go_enter Tryz.func199, Tryz.ntmps199
  go_wp2_with fail
  go_region_with (go_at_call 106; refine (q9 CON _).mono ?_; rintro e w1 ⟨rfl, hb1'⟩; have hb1 : Below w.heap.size w w1 := v7 (((qb2 _ _ _ _).alloc (by simp; omega) _).drew) hb1'; obtain ⟨hc1, hf1⟩ := j5 hb1'; have hz1 : w.heap.size + 3 < w1.heap.size := (by have := hb1'.size; simp at this; omega); simp only [vV])
  all_goals go_wp2_with fail
  all_goals refine bodyPost_ret (by simp [results, Tryz.results199, go_sem, hc1] <;> rfl) rfl ⟨rfl, ?_⟩
  all_goals exact ((hb1.setCell (by simp; omega) _).setCell (by simp; omega) _).setCell (by simp; omega) _
end
section
structure Ps where
  rest : List UInt8
  bad : Bool
def BytesAt (w : World) (lo : Nat) (v : Value) (l : List UInt8) : Prop :=
  ∃ a c, v = .slice a l.length c ∧ l.length ≤ c ∧ ∀ (i : Nat) (x : UInt8), l[i]? = some x → ∃ b o, a = some ⟨b, o, none⟩ ∧ b < lo ∧ w.cell? ⟨b, o + i, none⟩ = some (.int .u8 (x.toNat : Int))
theorem BytesAt.kept {w w' : World} {rb : Nat} {v : Value} {l : List UInt8} (h : BytesAt w rb v l) (hl : rb < w.heap.size) (hk : Kept rb w w') : BytesAt w' rb v l := by
  obtain ⟨a, c, hv, hc, hx⟩ := h
  refine ⟨a, c, hv, hc, fun i x hi => ?_⟩
  obtain ⟨b, o, ha, hb, hcell⟩ := hx i x hi
  exact ⟨b, o, ha, hb, ((x4 hk).1 b (o + i) (by omega) (by omega)).trans hcell⟩
theorem BytesAt.mono {w : World} {lo hi : Nat} {v : Value} {l : List UInt8} (h : BytesAt w lo v l) (hl : lo ≤ hi) : BytesAt w hi v l := by
  obtain ⟨a, c, hv, hc, hx⟩ := h
  refine ⟨a, c, hv, hc, fun i x hi => ?_⟩
  obtain ⟨b, o, ha, hb, hcell⟩ := hx i x hi
  exact ⟨b, o, ha, by omega, hcell⟩
theorem BytesAt.upto {w : World} {rb : Nat} {a : Option Addr} {c m : Nat} {l : List UInt8} (h : BytesAt w rb (.slice a m c) l) (n : Nat) (hn : n ≤ l.length) : BytesAt w rb (.slice a n c) (l.take n) := by
  obtain ⟨a', c', hv, hc, hx⟩ := h
  simp at hv
  obtain ⟨rfl, rfl, rfl⟩ := hv
  refine ⟨a, c, ?_, ?_, fun i x hi => ?_⟩
  · rw [List.length_take, Nat.min_eq_left hn]
  · rw [List.length_take]; omega
  · rw [List.getElem?_take] at hi
    split at hi
    · exact hx i x hi
    · simp at hi
theorem BytesAt.over {w : World} {rb : Nat} {a : Option Addr} {c m : Nat} {l : List UInt8} (h : BytesAt w rb (.slice a m c) l) (n : Nat) (hn : n ≤ l.length) : BytesAt w rb (.slice (if c = n then a else a.map (fun x => x.add n)) (m - n) (c - n)) (l.drop n) := by
  obtain ⟨a', c', hv, hc, hx⟩ := h
  simp at hv
  obtain ⟨rfl, rfl, rfl⟩ := hv
  refine ⟨if c = n then a else a.map (fun x => x.add n), c - n, ?_, ?_, fun i x hi => ?_⟩
  · rw [List.length_drop]
  · rw [List.length_drop]; omega
  · have hi' : l[n + i]? = some x := by rw [List.getElem?_drop] at hi; exact hi
    have hlt := (List.getElem?_eq_some_iff.1 hi').1
    obtain ⟨b, o, rfl, hb, hcell⟩ := hx (n + i) x hi'
    refine ⟨b, o + n, ?_, hb, ?_⟩
    · rw [if_neg (by omega)]; simp [Addr.add]
    · rw [Nat.add_assoc]; exact hcell
structure PsAt (w : World) (rb : Nat) (s : Ps) : Prop where
  lt : rb < w.heap.size
  c0 : ∃ v, w.cell? ⟨rb, 0, none⟩ = some v ∧ BytesAt w rb v s.rest
  c1 : w.cell? ⟨rb, 1, none⟩ = some (.bool s.bad)
  fz : ∀ j, w.frozen? ⟨rb, j, none⟩ = false
theorem BytesAt.nil (w : World) (rb : Nat) : BytesAt w rb (.slice none 0 0) [] := ⟨none, 0, rfl, Nat.le_refl _, fun i x hi => by simp at hi⟩
def failS : Ps := ⟨[], true⟩
def Ps.take (s : Ps) (n : Nat) : List UInt8 × Ps := if n ≤ s.rest.length then (s.rest.take n, ⟨s.rest.drop n, s.bad⟩) else (List.replicate n 0, failS)
def Ps.next (s : Ps) : UInt8 × Ps := ((s.take 1).1.headD 0, (s.take 1).2)
def Ps.upTo (s : Ps) (most : Int) : Nat × Ps := if most < (s.next.1.toNat : Int) then (0, failS) else (s.next.1.toNat, s.next.2)
theorem PsAt.same {w w' : World} {rb : Nat} {s : Ps} (h : PsAt w rb s) (hz : rb < w'.heap.size) (hb : ∀ k, k ≤ rb → w'.heap[k]? = w.heap[k]?) : PsAt w' rb s := by
  obtain ⟨hl, ⟨v0, c0, a, c, rfl, hc, hx⟩, c1, fz⟩ := h
  have hc' : ∀ b j, b ≤ rb → w'.cell? ⟨b, j, none⟩ = w.cell? ⟨b, j, none⟩ := fun b j hk => World.cell?_of_block (w := w) (w' := w') (a := ⟨b, j, none⟩) (hb b hk)
  have hf' : ∀ b j, b ≤ rb → w'.frozen? ⟨b, j, none⟩ = w.frozen? ⟨b, j, none⟩ := fun b j hk => World.frozen?_of_block (w := w) (w' := w') (a := ⟨b, j, none⟩) (hb b hk)
  refine ⟨hz, ⟨_, (hc' rb 0 (Nat.le_refl _)).trans c0, a, c, rfl, hc, fun i x hi => ?_⟩, (hc' rb 1 (Nat.le_refl _)).trans c1, fun j => (hf' rb j (Nat.le_refl _)).trans (fz j)⟩
  obtain ⟨b, o, ha, hbl, hcell⟩ := hx i x hi
  exact ⟨b, o, ha, hbl, (hc' b _ (by omega)).trans hcell⟩
theorem PsAt.alloc {w : World} {rb : Nat} {s : Ps} (h : PsAt w rb s) (o : Obj) : PsAt (w.alloc o) rb s :=
  h.same (by have := h.lt; simp; omega) fun k hk => ((Below.refl w.heap.size w).alloc (Nat.le_refl _) o).block k (by have := h.lt; omega)
theorem PsAt.later {w : World} {rb : Nat} {s : Ps} (h : PsAt w rb s) {p : Addr} (hp : rb < p.block) (u : Value) : PsAt (w.setCell p u) rb s :=
  h.same (by have := h.lt; simp; omega) fun k hk => Below.heap_setCell w p u k (by omega)
theorem PsAt.set {w : World} {rb : Nat} {s : Ps} (h : PsAt w rb s) {v : Value} {l : List UInt8} (hv : BytesAt w rb v l) : PsAt (w.setCell ⟨rb, 0, none⟩ v) rb ⟨l, s.bad⟩ := by
  obtain ⟨hl, ⟨v0, c0, _⟩, c1, fz⟩ := h
  exact ⟨by simp; exact hl, ⟨v, by simp [go_sem, c0], hv.kept hl ((Kept.refl rb w).setCell 0 v)⟩, by simp [go_sem, c1], fun j => by simp [go_sem, fz]⟩
theorem PsAt.fails {w : World} {rb : Nat} {s : Ps} (h : PsAt w rb s) : PsAt ((w.setCell ⟨rb, 0, none⟩ (.slice none 0 0)).setCell ⟨rb, 1, none⟩ (.bool true)) rb failS := by
  obtain ⟨hl, ⟨v0, c0, _⟩, c1, fz⟩ := h
  exact ⟨by simp; exact hl, ⟨.slice none 0 0, by simp [go_sem, c0], BytesAt.nil _ _⟩, by simp [go_sem, c1, failS], fun j => by simp [go_sem, fz]⟩
set_option maxHeartbeats 400000 in
theorem vz8 (rb : Nat) (s : Ps) (w : World) (h : PsAt w rb s) :
    Calls Tryz.prog 99 #[.pointer (some ⟨rb, 0, none⟩)] w fun e w' => e = .returned (.tuple #[]) ∧ PsAt w' rb failS ∧ Kept rb w w' := by
  have H := v6 h
  obtain ⟨hl, ⟨v0, c0, hv0⟩, c1, fz⟩ := h
  clear hv0
  go_enter Tryz.func99, Tryz.ntmps99
  go_wp2_with fail
  refine bodyPost_end (results_none rfl _ _ _) rfl ⟨rfl, (q9 H).fails, ?_⟩
  exact ((Kept.refl rb w).setCell 0 _).setCell 1 _
set_option maxHeartbeats 400000 in
theorem take_fits (rb : Nat) (s : Ps) (n : Nat) (w : World) (h : PsAt w rb s) (hn : n ≤ s.rest.length) :
    Calls Tryz.prog 145 #[.pointer (some ⟨rb, 0, none⟩), .int .i64 n] w fun e w' => ∃ v, e = .returned v ∧ BytesAt w' w'.heap.size v (s.rest.take n) ∧ PsAt w' rb ⟨s.rest.drop n, s.bad⟩ ∧ Kept rb w w' := by
  have H := v6 h
  obtain ⟨hl, ⟨v0, c0, hv0⟩, c1, fz⟩ := h
  obtain ⟨a, c, rfl, hc, hx⟩ : ∃ a c, v0 = .slice a s.rest.length c ∧ s.rest.length ≤ c ∧ Hid (BytesAt w rb v0 s.rest) := by
    obtain ⟨a, c, h1, h2, _⟩ := id hv0
    exact ⟨a, c, h1, h2, v6 hv0⟩
  have hn' : decide ((n : Int) > (s.rest.length : Int)) = false := by simp; omega
  have hn2 : (n : Int) ≤ (c : Int) := by omega
  have hn3 : (n : Int) ≤ (s.rest.length : Int) := by omega
  have hn4 : (0 : Int) ≤ (n : Int) := by omega
  clear hv0
  have hk : ∀ u, Kept rb w (w.setCell ⟨rb, 0, none⟩ u) := fun u => (Kept.refl rb w).setCell 0 u
  have ho := (q9 hx).over n hn
  by_cases hcn : c = n
  · rw [if_pos hcn] at ho
    subst hcn
    rw [Nat.sub_self, show s.rest.length - c = 0 by omega] at ho
    have ho := v6 ho
    go_enter Tryz.func145, Tryz.ntmps145
    go_wp2_with fail
    go_ret
    exact ⟨_, rfl, (((q9 hx).upto _ hn).kept hl (hk _)).mono (by simp; omega), (q9 H).set (q9 ho), hk _⟩
  · rw [if_neg hcn] at ho
    have ho := v6 ho
    go_enter Tryz.func145, Tryz.ntmps145
    go_wp2_with fail
    go_ret
    exact ⟨_, rfl, (((q9 hx).upto n hn).kept hl (hk _)).mono (by simp; omega), (q9 H).set (q9 ho), hk _⟩
theorem va4 : (Tryz.prog.info? 5).map (fun i => (i.zero, i.size, i.bytes)) = some (some (.int .u8 0), 1, 1) := by kernel_rfl
set_option maxHeartbeats 400000 in
theorem jx8 (rb : Nat) (s : Ps) (n : Nat) (w : World) (h : PsAt w rb s) (hn : s.rest.length < n) (hz : n ≤ 255) :
    Calls Tryz.prog 145 #[.pointer (some ⟨rb, 0, none⟩), .int .i64 n] w fun e w' => ∃ v, e = .returned v ∧ BytesAt w' w'.heap.size v (List.replicate n 0) ∧ PsAt w' rb failS ∧ Kept rb w w' := by
  have H := v6 h
  obtain ⟨hl, ⟨v0, c0, hv0⟩, c1, fz⟩ := h
  obtain ⟨a, c, rfl, hc⟩ : ∃ a c, v0 = .slice a s.rest.length c ∧ s.rest.length ≤ c := by
    obtain ⟨a, c, h1, h2, _⟩ := id hv0
    exact ⟨a, c, h1, h2⟩
  have hn' : decide ((n : Int) > (s.rest.length : Int)) = true := by simp; omega
  clear hv0
  have hmk := run_make_row' (P := Tryz.prog) 36 5 (.int .u8 0) 1 Tryz.underlying36 va4 rfl .i64 .i64 n (by omega) (by omega)
  go_enter Tryz.func145, Tryz.ntmps145
  go_wp2_with (go_at_call 99; refine (vz8 rb s _ (q9 H)).mono ?_; rintro e w1 ⟨rfl, hr1, hk1⟩; have hr1 := v6 hr1)
  go_ret
  have hz1 := hk1.size
  refine ⟨_, rfl, ⟨some ⟨w1.heap.size, 0, none⟩, n, ?_, ?_, fun i x hi => ?_⟩, (q9 hr1).alloc _, hk1.alloc _⟩
  · rw [List.length_replicate]
    rfl
  · rw [List.length_replicate]; exact Nat.le_refl _
  · obtain ⟨hi1, hi2⟩ := List.getElem?_eq_some_iff.1 hi
    simp at hi1 hi2
    refine ⟨w1.heap.size, 0, rfl, by simp, ?_⟩
    subst hi2
    rw [Nat.zero_add]
    exact (World.rowIs_made w1 (.int .u8 0) n 5).cell hi1
theorem vj4 (rb : Nat) (s : Ps) (n : Nat) (w : World) (h : PsAt w rb s) (hz : n ≤ 255) :
    Calls Tryz.prog 145 #[.pointer (some ⟨rb, 0, none⟩), .int .i64 n] w fun e w' => ∃ v, e = .returned v ∧ BytesAt w' w'.heap.size v (s.take n).1 ∧ PsAt w' rb (s.take n).2 ∧ Kept rb w w' := by
  by_cases hn : n ≤ s.rest.length
  · rw [Ps.take, if_pos hn]; exact take_fits rb s n w h hn
  · rw [Ps.take, if_neg hn]; exact jx8 rb s n w h (by omega) hz
theorem Ps.take_length (s : Ps) (n : Nat) : (s.take n).1.length = n := by
  rw [Ps.take]
  split
  · rw [List.length_take]; omega
  · exact List.length_replicate ..
set_option maxHeartbeats 400000 in
theorem vb1 (rb : Nat) (s : Ps) (w : World) (h : PsAt w rb s) :
    Calls Tryz.prog 98 #[.pointer (some ⟨rb, 0, none⟩)] w fun e w' => e = .returned (.int .u8 (s.next.1.toNat : Int)) ∧ PsAt w' rb s.next.2 ∧ Kept rb w w' := by
  have T : Hid _ := v6 (vj4 rb s 1 w h (by decide))
  have hlen := s.take_length 1
  obtain ⟨x, hx⟩ : ∃ x, (s.take 1).1 = [x] := by
    match hl : (s.take 1).1 with
    | [] => rw [hl] at hlen; simp at hlen
    | [x] => exact ⟨x, rfl⟩
    | _ :: _ :: _ => rw [hl] at hlen; simp at hlen
  have hn1 : s.next.1 = x := by rw [Ps.next, hx]; rfl
  have hn2 : s.next.2 = (s.take 1).2 := rfl
  rw [hn1, hn2]
  rw [hx] at T
  clear h hlen hx hn1 hn2
  go_enter Tryz.func98, Tryz.ntmps98
  go_wp2_with (go_at_call 145; refine (q9 T).mono ?_; rintro e w1 ⟨v, rfl, ⟨a, c, rfl, hc, hcell⟩, hr1, hk1⟩; obtain ⟨b, o, rfl, hbl, hcl⟩ := hcell 0 x rfl; have hr1 := v6 hr1; simp only [List.length_singleton, Nat.add_zero] at hcl hc ⊢)
  go_ret
  exact ⟨rfl, q9 hr1, hk1⟩
set_option maxHeartbeats 400000 in
theorem qs9 (rb : Nat) (s : Ps) (m : Int) (w : World) (h : PsAt w rb s) :
    Calls Tryz.prog 67 #[.pointer (some ⟨rb, 0, none⟩), .int .i64 m] w fun e w' => e = .returned (.int .i64 ((s.upTo m).1 : Int)) ∧ PsAt w' rb (s.upTo m).2 ∧ Kept rb w w' := by
  have T : Hid _ := v6 (vb1 rb s w h)
  obtain ⟨x, hx⟩ : ∃ x, s.next.1 = x := ⟨_, rfl⟩
  rw [hx] at T
  have hx0 : (0 : Int) ≤ (x.toNat : Int) := by omega
  have hx1 : (x.toNat : Int) < 256 := by have := x.toNat_lt; omega
  clear h
  by_cases hm : m < (x.toNat : Int)
  · have hd : decide ((x.toNat : Int) > m) = true := by simpa using hm
    rw [Ps.upTo, hx, if_pos hm]
    clear hm hx
    go_enter Tryz.func67, Tryz.ntmps67
    go_wp2_with (first | (go_at_call 98; refine (q9 T).mono ?_; rintro e w1 ⟨rfl, hr1, hk1⟩; have hr1 := v6 hr1) | (go_at_call 99; refine (vz8 rb _ _ (q9 hr1)).mono ?_; rintro e w2 ⟨rfl, hr2, hk2⟩; have hr2 := v6 hr2))
    go_ret
    exact ⟨rfl, q9 hr2, hk1.trans hk2⟩
  · have hd : decide ((x.toNat : Int) > m) = false := by simpa using hm
    rw [Ps.upTo, hx, if_neg hm]
    clear hm hx
    go_enter Tryz.func67, Tryz.ntmps67
    go_wp2_with (go_at_call 98; refine (q9 T).mono ?_; rintro e w1 ⟨rfl, hr1, hk1⟩; have hr1 := v6 hr1)
    go_ret
    exact ⟨rfl, q9 hr1, hk1⟩
end
section
def numS (m : Int) (k : Nat) (x : UInt8) : Int := bits .or .i64 m (wrap64 ((x.toNat : Int) * 2 ^ (8 * k)))
def numK (l : List UInt8) : Nat → Int
  | 0 => 0
  | k + 1 => numS (numK l k) k (l.getD k 0)
set_option maxHeartbeats 400000 in
theorem jh6 (rb : Nat) (s : Ps) (w : World) (h : PsAt w rb s) :
    Calls Tryz.prog 100 #[.pointer (some ⟨rb, 0, none⟩)] w fun e w' => e = .returned (.int .i64 (numK (s.take 8).1 8)) ∧ PsAt w' rb (s.take 8).2 ∧ Kept rb w w' := by
  have T : Hid _ := v6 (vj4 rb s 8 w h (by decide))
  have hlen := s.take_length 8
  obtain ⟨l, hl⟩ : ∃ l, (s.take 8).1 = l := ⟨_, rfl⟩
  rw [hl] at T hlen ⊢
  clear h hl
  obtain ⟨N, hN⟩ : ∃ N, N = l.length := ⟨_, rfl⟩
  have hN8 : Hid (N = 8) := v6 (by omega)
  have hNl : Hid (N = l.length) := v6 hN
  clear hlen
  go_enter Tryz.func100, Tryz.ntmps100
  go_wp2_with (go_at_call 145; refine (q9 T).mono ?_; rintro e w1 ⟨v, rfl, ⟨a, c, rfl, hc, hcell⟩, hr1, hk1⟩; obtain ⟨b, o, rfl, hbl, hcl⟩ := hcell 0 (l[0]'(by have := q9 hN8; omega)) (List.getElem?_eq_getElem _); have hr1 := v6 hr1; rw [← hN] at hc ⊢; have HC : Hid _ := v6 hcell; clear hcell hcl hN)
  go_loop [3, 9] (fun n i => ∃ (k : Nat) (m : Int), k ≤ N ∧ i = .int .i64 k ∧ n = .int .i64 m ∧ Hid (m = numK l k)) (fun _ i => N - (intOf i).toNat)
  case atStart => exact ⟨0, 0, by omega, rfl, rfl, v6 rfl⟩
  case round =>
    obtain ⟨k, m, hk, rfl, rfl, hm⟩ := hrel
    by_cases hk8 : k < N
    · have hkl : k < l.length := by have := q9 hNl; omega
      have hk64 : k < 8 := by have := q9 hN8; omega
      obtain ⟨b', o', hbo, _, hcl⟩ := q9 HC k l[k] (List.getElem?_eq_getElem _)
      simp at hbo
      obtain ⟨rfl, rfl⟩ := hbo
      obtain ⟨x, hx⟩ : ∃ x, l[k] = x := ⟨_, rfl⟩
      rw [hx] at hcl
      have hx0 : (0 : Int) ≤ (x.toNat : Int) := by omega
      have hx1 : (x.toNat : Int) < 256 := by have := x.toNat_lt; omega
      have hS : Hid (numS m k x = numK l (k + 1)) := v6 (by rw [numK, q9 hm, List.getD_eq_getElem?_getD, List.getElem?_eq_getElem hkl, hx]; rfl)
      clear hx hm hkl hNl
      go_wp2_with fail
      case roundEnd => exact ⟨⟨k + 1, _, by omega, rfl, rfl, v6 (q9 hS)⟩, by simp [intOf]; omega⟩
    · have : k = N := by omega
      subst this
      go_wp2_with fail
      go_ret
      refine ⟨?_, q9 hr1, hk1⟩
      rw [← q9 hN8, ← q9 hm]
      rfl
end
end Go.Proofs.YtfkcaldjphakpabGreatDoor
