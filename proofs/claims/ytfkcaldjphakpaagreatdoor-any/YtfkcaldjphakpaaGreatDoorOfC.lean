/- join: what needs nothing but Join. join: BETWEEN. among. value.Like; join: IN and LIKE. join: IN and LIKE. Of, of every term that is read. -/
import Derived.Test.YtfkcaldjphakpaaGreatDoorOfB
import Derived.Deep.RegionWith
import Derived.Deep.RegionHeld3
import Derived.Test.YtfkcaldjphakpaaGreatDoorPatB
import Derived.Test.YtfkcaldjphakpaaGreatDoorJnB
import Derived.Test.YtfkcaldjphakpaaGreatDoorJnC
import Derived.Test.YtfkcaldjphakpaaGreatDoorClA
namespace Go.Proofs.YtfkcaldjphakpaaGreatDoor
open Go.RowKit

section
set_option maxHeartbeats 1000000 in
set_option maxRecDepth 100000 in
theorem joinN_else (lo : Nat) (t : Ast) (h20 : ¬ (payA t).op = 20) (h21 : ¬ (payA t).op = 21) (h22 : ¬ (payA t).op = 22) (hJ : ∀ x y, Rng x.num → Rng y.num → JoinOk (payA t).op x y (joinV (payA t).op x y)) : JoinNOk lo t := by
  intro w b x y z hx hy _ _ h
  have hr : joinN (payA t) x y z = joinV (payA t).op x y := by rw [joinN, if_neg h20, if_neg h21, if_neg h22]
  rw [hr]
  have CON := hide (hJ x y hx hy)
  obtain ⟨b', sv, hb, hnode, _⟩ := h.parts
  obtain rfl : b = b' := by simpa using hb
  have c0 := hnode.c0
  have hbw := hnode.within
  have m1 : b < w.heap.size + 1 := by omega
  have m2 : b < w.heap.size + 1 + 1 := by omega
  have m3 : b < w.heap.size + 1 + 1 + 1 := by omega
  obtain ⟨op, hop⟩ : ∃ op, (payA t).op = op := ⟨_, rfl⟩
  rw [hop] at c0 h20 h21 h22 CON ⊢
  have e20 : (op == 20) = false := beq_eq_false_iff_ne.2 h20
  have e21 : (op == 21) = false := beq_eq_false_iff_ne.2 h21
  have e22 : (op == 22) = false := beq_eq_false_iff_ne.2 h22
  obtain ⟨r, hr'⟩ : ∃ r, joinV op x y = r := ⟨_, rfl⟩
  rw [hr'] at CON ⊢
  clear hr hr' hnode hb h hx hy h20 h21 h22 hop hJ
  conv => arg 3; simp only [vV]
  go_enter Tryz.func65, Tryz.ntmps65
  go_wp2_with fail
  go_region_with (go_at_call 110; refine (unhide CON _).mono ?_; rintro e w1 ⟨rfl, hb1'⟩; have hb1 : Below w.heap.size w w1 := below_any (((below3 _ _ _ _).alloc (by simp; omega) _).drew) hb1'; obtain ⟨hc1, hf1⟩ := bcell hb1'; have hz1 : w.heap.size + 3 < w1.heap.size := (by have := hb1'.size; simp at this; omega); simp only [vV])
  all_goals go_wp2_with fail
  all_goals refine bodyPost_ret (by simp [results, Tryz.results65, go_sem, hc1] <;> rfl) rfl ⟨rfl, ?_⟩
  all_goals exact ((hb1.setCell (by simp; omega) _).setCell (by simp; omega) _).setCell (by simp; omega) _
end

section
structure JoinAt (w W : World) (x y z : V) : Prop where
  x0 : W.cell? ⟨w.heap.size, 0, none⟩ = some (.int .i64 x.kind)
  x1 : W.cell? ⟨w.heap.size, 1, none⟩ = some (.int .i64 x.num)
  x2 : W.cell? ⟨w.heap.size, 2, none⟩ = some (.string (BS x.str))
  y0 : W.cell? ⟨w.heap.size + 1, 0, none⟩ = some (.int .i64 y.kind)
  y1 : W.cell? ⟨w.heap.size + 1, 1, none⟩ = some (.int .i64 y.num)
  y2 : W.cell? ⟨w.heap.size + 1, 2, none⟩ = some (.string (BS y.str))
  z0 : W.cell? ⟨w.heap.size + 2, 0, none⟩ = some (.int .i64 z.kind)
  z1 : W.cell? ⟨w.heap.size + 2, 1, none⟩ = some (.int .i64 z.num)
  z2 : W.cell? ⟨w.heap.size + 2, 2, none⟩ = some (.string (BS z.str))
  r0 : W.cell? ⟨w.heap.size + 3, 0, none⟩ = some (.int .i64 0)
  r1 : W.cell? ⟨w.heap.size + 3, 1, none⟩ = some (.int .i64 0)
  r2 : W.cell? ⟨w.heap.size + 3, 2, none⟩ = some (.string ⟨#[]⟩)
  fz : ∀ j, W.frozen? ⟨w.heap.size + 3, j, none⟩ = false
  lt : w.heap.size + 3 < W.heap.size
  below : Below w.heap.size w W

theorem join_start (w : World) (x y z : V) : JoinAt w ((((w.alloc (.cells #[.int .i64 x.kind, .int .i64 x.num, .string (BS x.str)] 26)).alloc (.cells #[.int .i64 y.kind, .int .i64 y.num, .string (BS y.str)] 26)).alloc (.cells #[.int .i64 z.kind, .int .i64 z.num, .string (BS z.str)] 26)).alloc (.cells #[.int .i64 0, .int .i64 0, .string ⟨#[]⟩] 26)) x y z := ⟨by rw [World.cell?_alloc_past _ _ _ (by simp <;> omega), World.cell?_alloc_past _ _ _ (by simp <;> omega), World.cell?_alloc_past _ _ _ (by simp), World.cell?_alloc_at _ _ _ _ rfl]; rfl, by rw [World.cell?_alloc_past _ _ _ (by simp <;> omega), World.cell?_alloc_past _ _ _ (by simp <;> omega), World.cell?_alloc_past _ _ _ (by simp), World.cell?_alloc_at _ _ _ _ rfl]; rfl, by rw [World.cell?_alloc_past _ _ _ (by simp <;> omega), World.cell?_alloc_past _ _ _ (by simp <;> omega), World.cell?_alloc_past _ _ _ (by simp), World.cell?_alloc_at _ _ _ _ rfl]; rfl, by rw [World.cell?_alloc_past _ _ _ (by simp <;> omega), World.cell?_alloc_past _ _ _ (by simp), World.cell?_alloc_at _ _ _ _ (by simp)]; rfl, by rw [World.cell?_alloc_past _ _ _ (by simp <;> omega), World.cell?_alloc_past _ _ _ (by simp), World.cell?_alloc_at _ _ _ _ (by simp)]; rfl, by rw [World.cell?_alloc_past _ _ _ (by simp <;> omega), World.cell?_alloc_past _ _ _ (by simp), World.cell?_alloc_at _ _ _ _ (by simp)]; rfl, by rw [World.cell?_alloc_past _ _ _ (by simp), World.cell?_alloc_at _ _ _ _ (by simp)]; rfl, by rw [World.cell?_alloc_past _ _ _ (by simp), World.cell?_alloc_at _ _ _ _ (by simp)]; rfl, by rw [World.cell?_alloc_past _ _ _ (by simp), World.cell?_alloc_at _ _ _ _ (by simp)]; rfl, by rw [World.cell?_alloc_at _ _ _ _ (by simp)]; rfl, by rw [World.cell?_alloc_at _ _ _ _ (by simp)]; rfl, by rw [World.cell?_alloc_at _ _ _ _ (by simp)]; rfl, fun j => by rw [World.frozen?_alloc_at _ _ _ _ (by simp)], by simp, (below3 w _ _ _).alloc (by simp; omega) _⟩

theorem JoinAt.next {w W W' : World} {x y z : V} (h : JoinAt w W x y z) (hb : Below W.heap.size W W') : JoinAt w W' x y z := by
  obtain ⟨hc, hf⟩ := bcell hb
  have hl := h.lt
  exact ⟨(hc _ 0 (by omega)).trans h.x0, (hc _ 1 (by omega)).trans h.x1, (hc _ 2 (by omega)).trans h.x2, (hc _ 0 (by omega)).trans h.y0, (hc _ 1 (by omega)).trans h.y1, (hc _ 2 (by omega)).trans h.y2, (hc _ 0 (by omega)).trans h.z0, (hc _ 1 (by omega)).trans h.z1, (hc _ 2 (by omega)).trans h.z2, (hc _ 0 (by omega)).trans h.r0, (hc _ 1 (by omega)).trans h.r1, (hc _ 2 (by omega)).trans h.r2, fun j => (hf _ j (by omega)).trans (h.fz j), Nat.lt_of_lt_of_le hl hb.size, below_any h.below hb⟩

theorem JoinAt.drew {w W : World} {x y z : V} (h : JoinAt w W x y z) : JoinAt w W.drew x y z := h.next ((Below.refl _ _).drew)

set_option maxHeartbeats 2000000 in
set_option maxRecDepth 100000 in
theorem joinN_20 (lo : Nat) (t : Ast) (h20 : (payA t).op = 20) : JoinNOk lo t := by
  intro w b x y z _ _ _ _ h
  have hr : joinN (payA t) x y z = andV (leV y x) (leV x z) := by rw [joinN, if_pos h20]
  rw [hr]
  obtain ⟨b', sv, hb, hnode, _⟩ := h.parts
  obtain rfl : b = b' := by simpa using hb
  have c0 := hnode.c0
  have hbw := hnode.within
  have m1 : b < w.heap.size + 1 := by omega
  have m2 : b < w.heap.size + 1 + 1 := by omega
  have m3 : b < w.heap.size + 1 + 1 + 1 := by omega
  rw [h20] at c0
  have d0 : ¬ w.heap.size + 1 + 1 + 1 = w.heap.size := by omega
  have d1 : ¬ w.heap.size + 1 + 1 + 1 = w.heap.size + 1 := by omega
  have d2 : ¬ w.heap.size = w.heap.size + 1 + 1 + 1 := by omega
  have d3 : ¬ w.heap.size + 1 = w.heap.size + 1 + 1 + 1 := by omega
  have d4 : ¬ w.heap.size + 1 + 1 = w.heap.size := by omega
  have d5 : ¬ w.heap.size = w.heap.size + 1 + 1 := by omega
  have JA0 := hide (join_start w x y z).drew
  clear hr hnode hb h h20
  conv => arg 3; simp only [vV]
  go_enter Tryz.func65, Tryz.ntmps65
  go_wp2_with fail
  obtain ⟨x0_0, x1_0, x2_0, y0_0, y1_0, y2_0, z0_0, z1_0, z2_0, r0_0, r1_0, r2_0, fz_0, lt_0, bel_0⟩ := unhide JA0
  go_region_held3 (fun W => W.cell? ⟨w.heap.size, 0, none⟩ = some (.int .i64 x.kind) ∧ W.cell? ⟨w.heap.size, 1, none⟩ = some (.int .i64 x.num) ∧ W.cell? ⟨w.heap.size, 2, none⟩ = some (.string (BS x.str)) ∧ W.cell? ⟨w.heap.size + 1, 0, none⟩ = some (.int .i64 y.kind) ∧ W.cell? ⟨w.heap.size + 1, 1, none⟩ = some (.int .i64 y.num) ∧ W.cell? ⟨w.heap.size + 1, 2, none⟩ = some (.string (BS y.str)) ∧ W.cell? ⟨w.heap.size + 2, 0, none⟩ = some (.int .i64 z.kind) ∧ W.cell? ⟨w.heap.size + 2, 1, none⟩ = some (.int .i64 z.num) ∧ W.cell? ⟨w.heap.size + 2, 2, none⟩ = some (.string (BS z.str))) (go_keep) (first | (go_at_call_of 107 (Value.agg #[Value.int IntKind.i64 y.kind, Value.int IntKind.i64 y.num, Value.string (BS y.str)]); refine (vLessEqual_any y x _).mono ?_; rintro e w1 ⟨rfl, hb1⟩; have JA1 := hide ((unhide JA0).next hb1); obtain ⟨x0_1, x1_1, x2_1, y0_1, y1_1, y2_1, z0_1, z1_1, z2_1, r0_1, r1_1, r2_1, fz_1, lt_1, bel_1⟩ := unhide JA1; clear hb1) | (go_at_call_of 107 (Value.agg #[Value.int IntKind.i64 z.kind, Value.int IntKind.i64 z.num, Value.string (BS z.str)]); refine (vLessEqual_any x z _).mono ?_; rintro e w2 ⟨rfl, hb2⟩; have JA2 := hide ((unhide JA1).next hb2); obtain ⟨x0_2, x1_2, x2_2, y0_2, y1_2, y2_2, z0_2, z1_2, z2_2, r0_2, r1_2, r2_2, fz_2, lt_2, bel_2⟩ := unhide JA2; clear hb2) | (go_at_call 106; refine (vAnd_any (leV y x) (leV x z) _).mono ?_; rintro e w3 ⟨rfl, hb3⟩; have JA3 := hide ((unhide JA2).next hb3); obtain ⟨x0_3, x1_3, x2_3, y0_3, y1_3, y2_3, z0_3, z1_3, z2_3, r0_3, r1_3, r2_3, fz_3, lt_3, bel_3⟩ := unhide JA3; clear hb3; simp only [vV]))
  go_wp2_with fail
  refine bodyPost_ret (by simp [results, Tryz.results65, go_sem, r0_3, r1_3, r2_3] <;> rfl) rfl ⟨rfl, ?_⟩
  exact ((bel_3.setCell (by simp; omega) _).setCell (by simp; omega) _).setCell (by simp; omega) _
end

section
structure AmAt (w W : World) (F : Nat) (x f : V) : Prop where
  x0 : W.cell? ⟨w.heap.size, 0, none⟩ = some (.int .i64 x.kind)
  x1 : W.cell? ⟨w.heap.size, 1, none⟩ = some (.int .i64 x.num)
  x2 : W.cell? ⟨w.heap.size, 2, none⟩ = some (.string (BS x.str))
  r0 : W.cell? ⟨w.heap.size + 1, 0, none⟩ = some (.int .i64 0)
  r1 : W.cell? ⟨w.heap.size + 1, 1, none⟩ = some (.int .i64 0)
  r2 : W.cell? ⟨w.heap.size + 1, 2, none⟩ = some (.string ⟨#[]⟩)
  f0 : W.cell? ⟨F, 0, none⟩ = some (.int .i64 f.kind)
  f1 : W.cell? ⟨F, 1, none⟩ = some (.int .i64 f.num)
  f2 : W.cell? ⟨F, 2, none⟩ = some (.string (BS f.str))
  fr : ∀ j, W.frozen? ⟨w.heap.size + 1, j, none⟩ = false
  ff : ∀ j, W.frozen? ⟨F, j, none⟩ = false
  ge : w.heap.size + 1 < F
  lt : F < W.heap.size
  below : Below w.heap.size w W

theorem AmAt.next {w W W' : World} {F : Nat} {x f : V} (h : AmAt w W F x f) (hb : Below W.heap.size W W') : AmAt w W' F x f := by
  obtain ⟨hc, hf⟩ := bcell hb
  have hl := h.lt
  have hg := h.ge
  exact ⟨(hc _ 0 (by omega)).trans h.x0, (hc _ 1 (by omega)).trans h.x1, (hc _ 2 (by omega)).trans h.x2, (hc _ 0 (by omega)).trans h.r0, (hc _ 1 (by omega)).trans h.r1, (hc _ 2 (by omega)).trans h.r2, (hc _ 0 (by omega)).trans h.f0, (hc _ 1 (by omega)).trans h.f1, (hc _ 2 (by omega)).trans h.f2, fun j => (hf _ j (by omega)).trans (h.fr j), fun j => (hf _ j (by omega)).trans (h.ff j), hg, Nat.lt_of_lt_of_le hl hb.size, below_any h.below hb⟩

theorem AmAt.drew {w W : World} {F : Nat} {x f : V} (h : AmAt w W F x f) : AmAt w W.drew F x f := h.next ((Below.refl _ _).drew)

theorem TextsAt.any {lo : Nat} {w : World} {v : Value} {ts : List (List UInt8)} (h : TextsAt lo w v ts) : ∃ a c, v = .slice a ts.length c ∧ ∀ (j : Nat) (t : List UInt8), ts[j]? = some t → ∃ g, a = some ⟨g, 0, none⟩ ∧ g < w.heap.size ∧ w.cell? ⟨g, j, none⟩ = some (.string (BS t)) := by
  rcases h with ⟨rfl, rfl⟩ | ⟨g, c, rfl, _, h2, h3⟩
  · exact ⟨none, 0, rfl, fun j t hj => by simp at hj⟩
  · exact ⟨_, c, rfl, fun j t hj => ⟨g, rfl, h2, h3 j t hj⟩⟩

theorem AmAt.store {w W : World} {F : Nat} {x f : V} (h : AmAt w W F x f) (f' : V) : AmAt w (((W.setCell ⟨F, 0, none⟩ (.int .i64 f'.kind)).setCell ⟨F, 1, none⟩ (.int .i64 f'.num)).setCell ⟨F, 2, none⟩ (.string (BS f'.str))) F x f' := by
  have hg := h.ge
  have d0 : ¬ F = w.heap.size := by omega
  have d1 : ¬ F = w.heap.size + 1 := by omega
  have d2 : ¬ w.heap.size = F := by omega
  have d3 : ¬ w.heap.size + 1 = F := by omega
  refine ⟨?_, ?_, ?_, ?_, ?_, ?_, ?_, ?_, ?_, fun j => ?_, fun j => ?_, hg, by simpa using h.lt, ((h.below.setCell (by show w.heap.size ≤ F; omega) _).setCell (by show w.heap.size ≤ F; omega) _).setCell (by show w.heap.size ≤ F; omega) _⟩
  · simp [go_sem, h.x0]
  · simp [go_sem, h.x1]
  · simp [go_sem, h.x2]
  · simp [go_sem, h.r0]
  · simp [go_sem, h.r1]
  · simp [go_sem, h.r2]
  · simp [go_sem, h.f0]
  · simp [go_sem, h.f1]
  · simp [go_sem, h.f2]
  · simp [go_sem, h.fr]
  · simp [go_sem, h.ff]

theorem am_start (w w0 : World) (x : V) (hb : Below ((w.alloc (.cells #[.int .i64 x.kind, .int .i64 x.num, .string (BS x.str)] 26)).alloc (.cells #[.int .i64 0, .int .i64 0, .string ⟨#[]⟩] 26)).heap.size ((w.alloc (.cells #[.int .i64 x.kind, .int .i64 x.num, .string (BS x.str)] 26)).alloc (.cells #[.int .i64 0, .int .i64 0, .string ⟨#[]⟩] 26)) w0) :
    AmAt w (w0.alloc (.cells #[.int .i64 (bV false).kind, .int .i64 (bV false).num, .string (BS (bV false).str)] 26)) w0.heap.size x (bV false) := by
  obtain ⟨hc, hf⟩ := bcell hb
  have hz := hb.size
  simp at hz
  refine ⟨?_, ?_, ?_, ?_, ?_, ?_, ?_, ?_, ?_, fun j => ?_, fun j => ?_, by omega, by simp, below_alloc (below_any (below2 w _ _) hb) _⟩
  · rw [World.cell?_alloc_past _ _ _ (by omega), hc _ 0 (by simp; omega), World.cell?_alloc_past _ _ _ (by simp), World.cell?_alloc_at _ _ _ _ rfl]; rfl
  · rw [World.cell?_alloc_past _ _ _ (by omega), hc _ 1 (by simp; omega), World.cell?_alloc_past _ _ _ (by simp), World.cell?_alloc_at _ _ _ _ rfl]; rfl
  · rw [World.cell?_alloc_past _ _ _ (by omega), hc _ 2 (by simp; omega), World.cell?_alloc_past _ _ _ (by simp), World.cell?_alloc_at _ _ _ _ rfl]; rfl
  · rw [World.cell?_alloc_past _ _ _ (by omega), hc _ 0 (by simp), World.cell?_alloc_at _ _ _ _ (by simp)]; rfl
  · rw [World.cell?_alloc_past _ _ _ (by omega), hc _ 1 (by simp), World.cell?_alloc_at _ _ _ _ (by simp)]; rfl
  · rw [World.cell?_alloc_past _ _ _ (by omega), hc _ 2 (by simp), World.cell?_alloc_at _ _ _ _ (by simp)]; rfl
  · rw [World.cell?_alloc_at _ _ _ _ rfl]; rfl
  · rw [World.cell?_alloc_at _ _ _ _ rfl]; rfl
  · rw [World.cell?_alloc_at _ _ _ _ rfl]; rfl
  · rw [World.frozen?_alloc_past _ _ _ (by omega), hf _ j (by simp), World.frozen?_alloc_at _ _ _ _ (by simp)]
  · rw [World.frozen?_alloc_at _ _ _ _ rfl]

def amStep (x f : V) (t : List UInt8) : V := orV f (eqV x (tV t))

theorem am_more {x f : V} {ts : List (List UInt8)} {k : Nat} {t : List UInt8} (h : ts[k]? = some t) : (ts.drop k).foldl (amStep x) f = (ts.drop (k + 1)).foldl (amStep x) (orV f (eqV x (tV t))) := by
  obtain ⟨hk, he⟩ := List.getElem?_eq_some_iff.1 h
  rw [List.drop_eq_getElem_cons hk, he]; rfl
theorem am_end {x f : V} {ts : List (List UInt8)} {k : Nat} (h : ts.length ≤ k) : (ts.drop k).foldl (amStep x) f = f := by
  rw [List.drop_of_length_le h]; rfl

set_option maxHeartbeats 2000000 in
set_option maxRecDepth 100000 in
theorem among_any (lo : Nat) (t : Ast) (hts : (payA t).texts.length ≤ 1000) (w : World) (b : Nat) (x : V) (h : IsNode lo w (.pointer (some ⟨b, 0, none⟩)) t) :
    Calls Tryz.prog 108 #[.pointer (some ⟨b, 0, none⟩), vV x] w fun e w' => e = .returned (vV (amongV x (payA t).texts)) ∧ Below w.heap.size w w' := by
  obtain ⟨b', sv, hb, hnode, _⟩ := h.parts
  obtain rfl : b = b' := by simpa using hb
  obtain ⟨tv, c6, htx⟩ := hnode.c6
  have hbw := hnode.within
  obtain ⟨ta, tc, rfl, htxt⟩ := htx.any
  obtain ⟨R, hR⟩ : ∃ r, amongV x (payA t).texts = r := ⟨_, rfl⟩
  rw [hR]
  have HR : Hid ((payA t).texts.foldl (amStep x) (bV false) = R) := hide hR
  obtain ⟨ts, hts'⟩ : ∃ l, (payA t).texts = l := ⟨_, rfl⟩
  rw [hts'] at hts HR c6 htxt
  obtain ⟨n, hn⟩ : ∃ n, ts.length = n := ⟨_, rfl⟩
  rw [hn] at hts c6
  have HN := hide hn
  have HT := hide htxt
  clear hR hts' hnode htx hb h hn htxt
  conv => arg 3; simp only [vV]
  have m1 : b < w.heap.size + 1 := by omega
  have m2 : b < w.heap.size + 1 + 1 := by omega
  go_enter Tryz.func108, Tryz.ntmps108
  go_wp2_with (go_at_call 64; refine (vBool_any false _).mono ?_; rintro e w0 ⟨rfl, hb0⟩; have c6' : w0.cell? ⟨b, 6, none⟩ = some (.slice ta n tc) := ((bcell hb0).1 _ 6 (by simp; omega)).trans (by rw [World.cell?_alloc_past _ _ _ (by simp; omega), World.cell?_alloc_past _ _ _ (by omega)]; exact c6); have hz0 : w.heap.size + 1 < w0.heap.size := (by have := hb0.size; simp at this; omega); have hbz : b < w0.heap.size := (by omega); have AM : Hid (AmAt w (w0.alloc (.cells #[.int .i64 (bV false).kind, .int .i64 (bV false).num, .string (BS (bV false).str)] 26)) w0.heap.size x (bV false)) := hide (am_start w w0 x hb0); clear hb0; simp only [vV])
  go_loopw [14] (fun i wr => ∃ (k : Nat) (f : V), k ≤ n ∧ i = .int .i64 k ∧ Hid (R = (ts.drop k).foldl (amStep x) f) ∧ Hid (AmAt w wr w0.heap.size x f)) (fun i _ => n - (intOf i).toNat)
  case atStart => exact ⟨0, bV false, Nat.zero_le _, rfl, hide (by rw [List.drop_zero, unhide HR]), AM⟩
  case round =>
    obtain ⟨k, f, hk, rfl, hh, hAM⟩ := hrel
    by_cases hlt : k < n
    · obtain ⟨s, hs⟩ : ∃ s, ts[k]? = some s := ⟨_, List.getElem?_eq_getElem (by rw [unhide HN]; exact hlt)⟩
      obtain ⟨g, rfl, hg2, hcs⟩ := unhide HT k s hs
      have dg := ((unhide hAM).below.cell (p := ⟨g, k, none⟩) hg2).trans hcs
      have HH : Hid (R = (ts.drop (k + 1)).foldl (amStep x) (orV f (eqV x (tV s)))) := hide (by rw [unhide hh, am_more hs])
      have AM0 := hide (unhide hAM).drew
      clear hh hs hcs AM hAM
      go_wp2_with fail
      obtain ⟨x0_0, x1_0, x2_0, r0_0, r1_0, r2_0, f0_0, f1_0, f2_0, fr_0, ff_0, ge_0, lt_0, bel_0⟩ := unhide AM0
      go_region_with (first | (go_at_call 63; refine (vText_any (BS s) _).mono ?_; rw [BS_data]; rintro e w1 ⟨rfl, hb1⟩; have AM1 := hide ((unhide AM0).next hb1); obtain ⟨x0_1, x1_1, x2_1, r0_1, r1_1, r2_1, f0_1, f1_1, f2_1, fr_1, ff_1, ge_1, lt_1, bel_1⟩ := unhide AM1; clear hb1) | (go_at_call 155; refine (vEqual_any x (tV s) _).mono ?_; rintro e w2 ⟨rfl, hb2⟩; have AM2 := hide ((unhide AM1).next hb2); obtain ⟨x0_2, x1_2, x2_2, r0_2, r1_2, r2_2, f0_2, f1_2, f2_2, fr_2, ff_2, ge_2, lt_2, bel_2⟩ := unhide AM2; clear hb2) | (go_at_call 154; refine (vOr_any f (eqV x (tV s)) _).mono ?_; rintro e w3 ⟨rfl, hb3⟩; have AM3 := hide ((unhide AM2).next hb3); obtain ⟨x0_3, x1_3, x2_3, r0_3, r1_3, r2_3, f0_3, f1_3, f2_3, fr_3, ff_3, ge_3, lt_3, bel_3⟩ := unhide AM3; clear hb3; simp only [vV]))
      all_goals
        go_wp2_with fail
        go_roundw
        case rel => exact ⟨k + 1, _, by omega, by go_num, HH, hide ((unhide AM3).store _)⟩
        case measure => simp [intOf]; omega
    · have HH : Hid (R = f) := hide (by rw [unhide hh, am_end (by rw [unhide HN]; omega)])
      have AM0 := hAM
      clear hh AM hAM
      obtain ⟨x0_0, x1_0, x2_0, r0_0, r1_0, r2_0, f0_0, f1_0, f2_0, fr_0, ff_0, ge_0, lt_0, bel_0⟩ := unhide AM0
      go_wp2_with fail
      refine bodyPost_ret (by simp [results, Tryz.results108, go_sem, r0_0, r1_0, r2_0] <;> rfl) rfl ⟨?_, ?_⟩
      · rw [unhide HH]; rfl
      · exact ((bel_0.setCell (by simp) _).setCell (by simp) _).setCell (by simp) _
end

section
set_option maxHeartbeats 1000000 in
theorem vLike_any (x : V) (pat esc : ByteArray) (hp : pat.size ≤ 200) (hx : x.str.length ≤ 1000) (w : World) :
    Calls Tryz.prog 109 #[vV x, .string pat, .string esc] w fun e w' => e = .returned (vV (likeV x pat.data.toList esc.data.toList)) ∧ Below w.heap.size w w' := by
  unfold likeV
  have FIT := hide (fun w => fits_any pat esc (BS x.str) hp (by rw [BS_size]; exact hx) w)
  cases hk : (x.kind == 3)
  · have hk' : (x.kind != 3) = true := by simp only [bne, hk]; rfl
    simp only [Bool.false_eq_true, if_false]
    conv => arg 3; simp only [vV]
    go_enter Tryz.func109, Tryz.ntmps109
    go_wp2_with (go_at_call 152; refine (vnull_any _).mono ?_; rintro e w' ⟨rfl, hb⟩; obtain ⟨hc, hf⟩ := bcell hb; simp only [vV])
    refine bodyPost_ret (by simp [results, Tryz.results109, go_sem, hc] <;> rfl) rfl ⟨rfl, ?_⟩
    exact ((((below_any (below2 _ _ _) hb).setCell (by simp) _).setCell (by simp) _).setCell (by simp) _)
  · have hk' : (x.kind != 3) = false := by simp only [bne, hk]; rfl
    simp only [if_true]
    obtain ⟨r, hr⟩ : ∃ r, fitsB pat.data.toList esc.data.toList x.str = r := ⟨_, rfl⟩
    have HR : Hid (fitsB pat.data.toList esc.data.toList (BS x.str).data.toList = r) := hide (by rw [BS_data]; exact hr)
    rw [hr]
    clear hr
    conv => arg 3; simp only [vV]
    go_enter Tryz.func109, Tryz.ntmps109
    go_wp2_with (first | (go_at_call 156; refine (unhide FIT _).mono ?_; rw [unhide HR]; rintro e w1 ⟨rfl, hb1⟩; have hz1 : w.heap.size + 1 < w1.heap.size := (by have := hb1.size; simp at this; omega); have g0 : w1.cell? ⟨w.heap.size + 1, 0, none⟩ = some (.int .i64 0) := ((bcell hb1).1 _ 0 (by simp)).trans (by simp); have g1 : w1.cell? ⟨w.heap.size + 1, 1, none⟩ = some (.int .i64 0) := ((bcell hb1).1 _ 1 (by simp)).trans (by simp); have g2 : w1.cell? ⟨w.heap.size + 1, 2, none⟩ = some (.string ⟨#[]⟩) := ((bcell hb1).1 _ 2 (by simp)).trans (by simp); have z1 : ∀ j, w1.frozen? ⟨w.heap.size + 1, j, none⟩ = false := (fun j => ((bcell hb1).2 _ j (by simp)).trans (by simp)); have hB1 := hide (below_any (below2 _ _ _) hb1); clear hb1) | (go_at_call 64; refine (vBool_any r _).mono ?_; rintro e w2 ⟨rfl, hb2⟩; have k0 : w2.cell? ⟨w.heap.size + 1, 0, none⟩ = some (.int .i64 0) := ((bcell hb2).1 _ 0 hz1).trans g0; have k1 : w2.cell? ⟨w.heap.size + 1, 1, none⟩ = some (.int .i64 0) := ((bcell hb2).1 _ 1 hz1).trans g1; have k2 : w2.cell? ⟨w.heap.size + 1, 2, none⟩ = some (.string ⟨#[]⟩) := ((bcell hb2).1 _ 2 hz1).trans g2; have z2 : ∀ j, w2.frozen? ⟨w.heap.size + 1, j, none⟩ = false := (fun j => ((bcell hb2).2 _ j hz1).trans (z1 j)); have hB2 := hide (below_any (unhide hB1) hb2); clear hb2; simp only [vV]))
    refine bodyPost_ret (by simp [results, Tryz.results109, go_sem, k0, k1, k2] <;> rfl) rfl ⟨rfl, ?_⟩
    exact (((unhide hB2).setCell (by simp) _).setCell (by simp) _).setCell (by simp) _
end

section
set_option maxHeartbeats 1000000 in
set_option maxRecDepth 100000 in
theorem joinN_21 (lo : Nat) (t : Ast) (h21 : (payA t).op = 21) (hB : (payA t).texts.length ≤ 1000) : JoinNOk lo t := by
  intro w b x y z _ _ _ _ h
  have hr : joinN (payA t) x y z = amongV x (payA t).texts := by rw [joinN, if_neg (by rw [h21]; decide), if_pos h21]
  rw [hr]
  have AMO := hide (fun w1 (h1 : IsNode lo w1 (.pointer (some ⟨b, 0, none⟩)) t) => among_any lo t hB w1 b x h1)
  have HND := hide h
  obtain ⟨b', sv, hb, hnode, _⟩ := h.parts
  obtain rfl : b = b' := by simpa using hb
  have c0 := hnode.c0
  have c4 := hnode.c4
  have c5 := hnode.c5
  have hbw := hnode.within
  have m1 : b < w.heap.size + 1 := by omega
  have m2 : b < w.heap.size + 1 + 1 := by omega
  have m3 : b < w.heap.size + 1 + 1 + 1 := by omega
  have d0 : ¬ w.heap.size + 1 + 1 + 1 = w.heap.size := by omega
  rw [h21] at c0
  have JA0 := hide (join_start w x y z)
  obtain ⟨r, hr'⟩ : ∃ r, amongV x (payA t).texts = r := ⟨_, rfl⟩
  rw [hr'] at AMO ⊢
  clear hr hr' hnode hb h h21 c4 c5
  conv => arg 3; simp only [vV]
  go_enter Tryz.func65, Tryz.ntmps65
  go_wp2_with (go_at_call 108; refine (unhide AMO _ ((unhide HND).kept (Kept.of_below ((below3 _ _ _ _).alloc (by simp; omega) _)))).mono ?_; rintro e w1 ⟨rfl, hb1⟩; have JA1 := hide ((unhide JA0).next hb1); obtain ⟨x0_1, x1_1, x2_1, y0_1, y1_1, y2_1, z0_1, z1_1, z2_1, r0_1, r1_1, r2_1, fz_1, lt_1, bel_1⟩ := unhide JA1; clear hb1; simp only [vV])
  refine bodyPost_ret (by simp [results, Tryz.results65, go_sem, r0_1, r1_1, r2_1] <;> rfl) rfl ⟨rfl, ?_⟩
  exact ((bel_1.setCell (by simp; omega) _).setCell (by simp; omega) _).setCell (by simp; omega) _

set_option maxHeartbeats 1000000 in
set_option maxRecDepth 100000 in
theorem joinN_22 (lo : Nat) (t : Ast) (h22 : (payA t).op = 22) (hB : (payA t).str.length ≤ 200) : JoinNOk lo t := by
  intro w b x y z _ _ _ hx h
  have hr : joinN (payA t) x y z = likeV x (payA t).str (payA t).esc := by rw [joinN, if_neg (by rw [h22]; decide), if_neg (by rw [h22]; decide), if_pos h22]
  rw [hr]
  have LIK := hide (fun w1 => vLike_any x (BS (payA t).str) (BS (payA t).esc) (by rw [BS_size]; exact hB) hx w1)
  simp only [BS_data] at LIK
  obtain ⟨b', sv, hb, hnode, _⟩ := h.parts
  obtain rfl : b = b' := by simpa using hb
  have c0 := hnode.c0
  have c4 := hnode.c4
  have c5 := hnode.c5
  have hbw := hnode.within
  have m1 : b < w.heap.size + 1 := by omega
  have m2 : b < w.heap.size + 1 + 1 := by omega
  have m3 : b < w.heap.size + 1 + 1 + 1 := by omega
  have d0 : ¬ w.heap.size + 1 + 1 + 1 = w.heap.size := by omega
  rw [h22] at c0
  have JA0 := hide (join_start w x y z).drew
  obtain ⟨r, hr'⟩ : ∃ r, likeV x (payA t).str (payA t).esc = r := ⟨_, rfl⟩
  rw [hr'] at LIK ⊢
  clear hr hr' hnode hb h h22
  conv => arg 3; simp only [vV]
  go_enter Tryz.func65, Tryz.ntmps65
  go_wp2_with fail
  go_region_with (go_at_call 109; refine (unhide LIK _).mono ?_; rintro e w1 ⟨rfl, hb1⟩; have JA1 := hide ((unhide JA0).next hb1); obtain ⟨x0_1, x1_1, x2_1, y0_1, y1_1, y2_1, z0_1, z1_1, z2_1, r0_1, r1_1, r2_1, fz_1, lt_1, bel_1⟩ := unhide JA1; clear hb1; simp only [vV])
  all_goals go_wp2_with fail
  all_goals
    refine bodyPost_ret (by simp [results, Tryz.results65, go_sem, r0_1, r1_1, r2_1] <;> rfl) rfl ⟨rfl, ?_⟩
    exact ((bel_1.setCell (by simp; omega) _).setCell (by simp; omega) _).setCell (by simp; omega) _
end

section
theorem join_every (op : Int) (x y : V) (hx : Rng x.num) (hy : Rng y.num) : JoinOk op x y (joinV op x y) := by
  by_cases h14 : op = 14
  · subst h14; exact join_14 x y hx
  by_cases h15 : op = 15
  · subst h15; exact join_15 x y hx
  exact join_all op h14 h15 x y hx hy

/-- Short texts. -/
def Sh (v : V) : Prop := v.str.length ≤ 1000
theorem sh_b (b : Bool) : Sh (bV b) := Nat.zero_le _
theorem sh_n : Sh nV := Nat.zero_le _
theorem sh_i (n : Int) : Sh (iV n) := Nat.zero_le _
theorem sh_ite {c : Prop} [Decidable c] {a b : V} (ha : Sh a) (hb : Sh b) : Sh (if c then a else b) := by
  split
  · exact ha
  · exact hb
theorem sh_join (op : Int) (x y : V) : Sh (joinV op x y) := by
  unfold joinV
  refine sh_ite (sh_ite (sh_b _) sh_n) (sh_ite (sh_ite (sh_b _) (sh_ite (sh_b _) sh_n)) (sh_ite (sh_ite (sh_b _) (sh_ite (sh_b _) sh_n)) (sh_ite (sh_ite sh_n (sh_b _)) (sh_ite (sh_ite (sh_b _) sh_n) (sh_ite (sh_ite (sh_b _) sh_n) (sh_ite (sh_ite (sh_b _) sh_n) (sh_ite (sh_ite (sh_b _) sh_n) (sh_ite (sh_ite (sh_b _) sh_n) (sh_ite (sh_ite (sh_i _) sh_n) (sh_ite (sh_ite (sh_i _) sh_n) (sh_ite (sh_ite (sh_i _) sh_n) (sh_ite (sh_ite (sh_i _) sh_n) (sh_ite (sh_ite (sh_i _) sh_n) (sh_ite (sh_ite (sh_i _) sh_n) (sh_b _)))))))))))))))
theorem sh_or (x y : V) : Sh (orV x y) := sh_ite (sh_b _) (sh_ite (sh_b _) sh_n)
theorem sh_among (x : V) (ts : List (List UInt8)) : ∀ f : V, Sh f → Sh (ts.foldl (fun f t => orV f (eqV x (tV t))) f) := by
  induction ts with
  | nil => intro f h; exact h
  | cons t r ih => intro f _; exact ih _ (sh_or _ _)
theorem sh_joinN (p : Pay) (x y z : V) : Sh (joinN p x y z) := by
  unfold joinN
  refine sh_ite (sh_ite (sh_b _) (sh_ite (sh_b _) sh_n)) (sh_ite (sh_among x _ _ (sh_b _)) (sh_ite (sh_ite (sh_b _) sh_n) (sh_join _ _ _)))

def EvSh (ps : List Pr) : Prop := ∀ p ∈ ps, Sh p.val

theorem sh_of {ps : List Pr} (h : EvSh ps) {p : Pay} (hp : p.str.length ≤ 200) (s : List V) : Sh (ofN ps p s) := by
  unfold ofN
  refine sh_ite ?_ (sh_ite (sh_i _) (sh_ite ?_ (sh_ite (sh_b _) (sh_ite (sh_b _) (sh_joinN _ _ _ _)))))
  · unfold findV
    split
    · rename_i q hq; exact h q (List.mem_of_find?_eq_some hq)
    · exact sh_n
  · show p.str.length ≤ 1000
    omega

theorem sh_ofA {ps : List Pr} (h : EvSh ps) : ∀ t, BndA t → Sh (ofA ps t) := by
  intro t
  cases t with
  | leaf p => intro hn; exact sh_of h hn.1 _
  | un p x => intro hn; exact sh_of h hn.1.1 _
  | bin p x y => intro hn; exact sh_of h hn.1.1 _
  | tri p x y z => intro hn; exact sh_of h hn.1.1 _

theorem of_one' (lo : Nat) (ps : List Pr) (ev : Value) (t : Ast) (hp : Bp (payA t)) (hsub : ∀ x ∈ sidesA t, OfOk lo ps ev x) (hrng : ∀ x ∈ sidesA t, Rng (ofA ps x).num) (hlen : ∀ x ∈ sidesA t, (ofA ps x).str.length ≤ 1000) : OfOk lo ps ev t := by
  by_cases h0 : (payA t).op = 0
  · exact of_0 lo ps ev t h0
  by_cases h1 : (payA t).op = 1
  · exact of_1 lo ps ev t h1
  by_cases h2 : (payA t).op = 2
  · exact of_2 lo ps ev t h2
  by_cases h3 : (payA t).op = 3
  · exact of_3 lo ps ev t h3
  by_cases h4 : (payA t).op = 4
  · exact of_4 lo ps ev t h4
  refine of_step lo ps ev t hsub hrng hlen ?_ h0 h1 h2 h3 h4
  by_cases h20 : (payA t).op = 20
  · exact joinN_20 lo t h20
  by_cases h21 : (payA t).op = 21
  · exact joinN_21 lo t h21 hp.2
  by_cases h22 : (payA t).op = 22
  · exact joinN_22 lo t h22 hp.1
  exact joinN_else lo t h20 h21 h22 (fun x y hx hy => join_every _ x y hx hy)

theorem of_every (lo : Nat) (ps : List Pr) (ev : Value) (hev : EvRng ps) (hsh : EvSh ps) : ∀ t, BndA t → NumA t → OfOk lo ps ev t := by
  intro t
  induction t with
  | leaf p => intro hs hn; exact of_one' lo ps ev _ hs (fun x hx => by simp [sidesA] at hx) (fun x hx => by simp [sidesA] at hx) (fun x hx => by simp [sidesA] at hx)
  | un p x ih =>
    intro hs hn
    refine of_one' lo ps ev _ hs.1 (fun u hu => ?_) (fun u hu => ?_) (fun u hu => ?_)
    · simp [sidesA] at hu; subst hu; exact ih hs.2 hn.2
    · simp [sidesA] at hu; subst hu; exact rng_ofA hev _ hn.2
    · simp [sidesA] at hu; subst hu; exact sh_ofA hsh _ hs.2
  | bin p x y ihx ihy =>
    intro hs hn
    refine of_one' lo ps ev _ hs.1 (fun u hu => ?_) (fun u hu => ?_) (fun u hu => ?_)
    · simp [sidesA] at hu
      rcases hu with rfl | rfl
      · exact ihx hs.2.1 hn.2.1
      · exact ihy hs.2.2 hn.2.2
    · simp [sidesA] at hu
      rcases hu with rfl | rfl
      · exact rng_ofA hev _ hn.2.1
      · exact rng_ofA hev _ hn.2.2
    · simp [sidesA] at hu
      rcases hu with rfl | rfl
      · exact sh_ofA hsh _ hs.2.1
      · exact sh_ofA hsh _ hs.2.2
  | tri p x y z ihx ihy ihz =>
    intro hs hn
    refine of_one' lo ps ev _ hs.1 (fun u hu => ?_) (fun u hu => ?_) (fun u hu => ?_)
    · simp [sidesA] at hu
      rcases hu with rfl | rfl | rfl
      · exact ihx hs.2.1 hn.2.1
      · exact ihy hs.2.2.1 hn.2.2.1
      · exact ihz hs.2.2.2 hn.2.2.2
    · simp [sidesA] at hu
      rcases hu with rfl | rfl | rfl
      · exact rng_ofA hev _ hn.2.1
      · exact rng_ofA hev _ hn.2.2.1
      · exact rng_ofA hev _ hn.2.2.2
    · simp [sidesA] at hu
      rcases hu with rfl | rfl | rfl
      · exact sh_ofA hsh _ hs.2.1
      · exact sh_ofA hsh _ hs.2.2.1
      · exact sh_ofA hsh _ hs.2.2.2
end

end Go.Proofs.YtfkcaldjphakpaaGreatDoor
