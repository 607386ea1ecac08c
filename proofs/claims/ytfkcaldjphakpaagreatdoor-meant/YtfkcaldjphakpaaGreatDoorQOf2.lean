/- Of, over what join says. -/
import Derived.Test.YtfkcaldjphakpaaGreatDoorA10
namespace Go.Proofs.YtfkcaldjphakpaaGreatDoor
open Go.RowKit

def OfOk (lo : Nat) (ps : List Pr) (ev : Value) (t : Ast) : Prop := ∀ (w : World) (v : Value), IsNode lo w v t → EvArg w ev ps → Calls Tryz.prog 38 #[v, ev] w fun e w' => e = .returned (vV (ofA ps t)) ∧ Below w.heap.size w w'

def JoinNOk (lo : Nat) (t : Ast) : Prop := ∀ (w : World) (b : Nat) (x y z : V), Rng x.num → Rng y.num → Rng z.num → x.str.length ≤ 1000 → IsNode lo w (.pointer (some ⟨b, 0, none⟩)) t →
  Calls Tryz.prog 65 #[.pointer (some ⟨b, 0, none⟩), vV x, vV y, vV z] w fun e w' => e = .returned (vV (joinN (payA t) x y z)) ∧ Below w.heap.size w w'

set_option maxHeartbeats 400000 in
theorem of_0 (lo : Nat) (ps : List Pr) (ev : Value) (t : Ast) (ho : (payA t).op = 0) : OfOk lo ps ev t := by
  intro w v h hev
  have hr : ofA ps t = findV ps (payA t).str := by rw [ofA_eq, ofN, ho]; rfl
  rw [hr]
  have CON := hide (fun w1 (h : EvArg w1 ev ps) => find_arg h (BS (payA t).str))
  obtain ⟨b, sv, rfl, hnode, _⟩ := h.parts
  have c0 := hnode.c0
  rw [ho] at c0
  have c3 := hnode.c3
  have c4 := hnode.c4
  have hbw := hnode.within
  have HE := hide hev
  obtain ⟨ea, en, ec, rfl⟩ := hev.slice
  clear hnode h hr ho hev
  go_enter Tryz.func38, Tryz.ntmps38
  go_wp2_with (go_at_call 61; refine (unhide CON _ ((unhide HE).below ((Below.refl _ _).alloc (Nat.le_refl _) _))).mono ?_; rintro e w1 ⟨rfl, hb1⟩; obtain ⟨hc1, hf1⟩ := bcell hb1; have hz1 : w.heap.size < w1.heap.size := (by have := hb1.size; simp at this; omega); simp only [vV])
  refine bodyPost_ret (by simp [results, Tryz.results38, go_sem, hc1] <;> rfl) rfl ⟨rfl, ?_⟩
  exact (((below_any ((Below.refl _ _).alloc (Nat.le_refl _) _) hb1).setCell (by simp) _).setCell (by simp) _).setCell (by simp) _

set_option maxHeartbeats 400000 in
theorem of_1 (lo : Nat) (ps : List Pr) (ev : Value) (t : Ast) (ho : (payA t).op = 1) : OfOk lo ps ev t := by
  intro w v h hev
  have hr : ofA ps t = iV (payA t).num := by rw [ofA_eq, ofN, ho]; rfl
  rw [hr]
  have CON := hide (fun w1 => vInt_any (payA t).num w1)
  obtain ⟨b, sv, rfl, hnode, _⟩ := h.parts
  have c0 := hnode.c0
  rw [ho] at c0
  have c3 := hnode.c3
  have c4 := hnode.c4
  have hbw := hnode.within
  have HE := hide hev
  obtain ⟨ea, en, ec, rfl⟩ := hev.slice
  clear hnode h hr ho hev
  go_enter Tryz.func38, Tryz.ntmps38
  go_wp2_with (go_at_call 62; refine (unhide CON _).mono ?_; rintro e w1 ⟨rfl, hb1⟩; obtain ⟨hc1, hf1⟩ := bcell hb1; have hz1 : w.heap.size < w1.heap.size := (by have := hb1.size; simp at this; omega); simp only [vV])
  refine bodyPost_ret (by simp [results, Tryz.results38, go_sem, hc1] <;> rfl) rfl ⟨rfl, ?_⟩
  exact (((below_any ((Below.refl _ _).alloc (Nat.le_refl _) _) hb1).setCell (by simp) _).setCell (by simp) _).setCell (by simp) _

set_option maxHeartbeats 400000 in
theorem of_2 (lo : Nat) (ps : List Pr) (ev : Value) (t : Ast) (ho : (payA t).op = 2) : OfOk lo ps ev t := by
  intro w v h hev
  have hr : ofA ps t = tV (payA t).str := by rw [ofA_eq, ofN, ho]; rfl
  rw [hr]
  have CON := hide (fun w1 => vText_any (BS (payA t).str) w1)
  obtain ⟨b, sv, rfl, hnode, _⟩ := h.parts
  have c0 := hnode.c0
  rw [ho] at c0
  have c3 := hnode.c3
  have c4 := hnode.c4
  have hbw := hnode.within
  have HE := hide hev
  obtain ⟨ea, en, ec, rfl⟩ := hev.slice
  clear hnode h hr ho hev
  go_enter Tryz.func38, Tryz.ntmps38
  go_wp2_with (go_at_call 63; refine (unhide CON _).mono ?_; rintro e w1 ⟨rfl, hb1⟩; obtain ⟨hc1, hf1⟩ := bcell hb1; have hz1 : w.heap.size < w1.heap.size := (by have := hb1.size; simp at this; omega); simp only [vV])
  refine bodyPost_ret (by simp [results, Tryz.results38, go_sem, hc1] <;> rfl) rfl ⟨rfl, ?_⟩
  exact (((below_any ((Below.refl _ _).alloc (Nat.le_refl _) _) hb1).setCell (by simp) _).setCell (by simp) _).setCell (by simp) _

set_option maxHeartbeats 400000 in
theorem of_3 (lo : Nat) (ps : List Pr) (ev : Value) (t : Ast) (ho : (payA t).op = 3) : OfOk lo ps ev t := by
  intro w v h hev
  have hr : ofA ps t = bV true := by rw [ofA_eq, ofN, ho]; rfl
  rw [hr]
  have CON := hide (fun w1 => vBool_any true w1)
  obtain ⟨b, sv, rfl, hnode, _⟩ := h.parts
  have c0 := hnode.c0
  rw [ho] at c0
  have c3 := hnode.c3
  have c4 := hnode.c4
  have hbw := hnode.within
  have HE := hide hev
  obtain ⟨ea, en, ec, rfl⟩ := hev.slice
  clear hnode h hr ho hev
  go_enter Tryz.func38, Tryz.ntmps38
  go_wp2_with (go_at_call 64; refine (unhide CON _).mono ?_; rintro e w1 ⟨rfl, hb1⟩; obtain ⟨hc1, hf1⟩ := bcell hb1; have hz1 : w.heap.size < w1.heap.size := (by have := hb1.size; simp at this; omega); simp only [vV])
  refine bodyPost_ret (by simp [results, Tryz.results38, go_sem, hc1] <;> rfl) rfl ⟨rfl, ?_⟩
  exact (((below_any ((Below.refl _ _).alloc (Nat.le_refl _) _) hb1).setCell (by simp) _).setCell (by simp) _).setCell (by simp) _

set_option maxHeartbeats 400000 in
theorem of_4 (lo : Nat) (ps : List Pr) (ev : Value) (t : Ast) (ho : (payA t).op = 4) : OfOk lo ps ev t := by
  intro w v h hev
  have hr : ofA ps t = bV false := by rw [ofA_eq, ofN, ho]; rfl
  rw [hr]
  have CON := hide (fun w1 => vBool_any false w1)
  obtain ⟨b, sv, rfl, hnode, _⟩ := h.parts
  have c0 := hnode.c0
  rw [ho] at c0
  have c3 := hnode.c3
  have c4 := hnode.c4
  have hbw := hnode.within
  have HE := hide hev
  obtain ⟨ea, en, ec, rfl⟩ := hev.slice
  clear hnode h hr ho hev
  go_enter Tryz.func38, Tryz.ntmps38
  go_wp2_with (go_at_call 64; refine (unhide CON _).mono ?_; rintro e w1 ⟨rfl, hb1⟩; obtain ⟨hc1, hf1⟩ := bcell hb1; have hz1 : w.heap.size < w1.heap.size := (by have := hb1.size; simp at this; omega); simp only [vV])
  refine bodyPost_ret (by simp [results, Tryz.results38, go_sem, hc1] <;> rfl) rfl ⟨rfl, ?_⟩
  exact (((below_any ((Below.refl _ _).alloc (Nat.le_refl _) _) hb1).setCell (by simp) _).setCell (by simp) _).setCell (by simp) _

/-- What the loop has worked out so far. -/
def OfAt (ps : List Pr) (t : Ast) (k : Nat) (x0 x1 x2 : V) : Prop :=
  x0 = (if 0 < k then ((sidesA t).map (ofA ps)).getD 0 nV else nV) ∧ x1 = (if 1 < k then ((sidesA t).map (ofA ps)).getD 1 nV else nV) ∧ x2 = (if 2 < k then ((sidesA t).map (ofA ps)).getD 2 nV else nV)

theorem getD_ge (l : List V) (n : Nat) (h : l.length ≤ n) : l.getD n nV = nV := by rw [List.getD_eq_getElem?_getD, List.getElem?_eq_none h]; rfl

theorem OfAt.done {ps : List Pr} {t : Ast} {x0 x1 x2 : V} (h : OfAt ps t (sidesA t).length x0 x1 x2) : joinN (payA t) x0 x1 x2 = joinN (payA t) (((sidesA t).map (ofA ps)).getD 0 nV) (((sidesA t).map (ofA ps)).getD 1 nV) (((sidesA t).map (ofA ps)).getD 2 nV) := by
  obtain ⟨rfl, rfl, rfl⟩ := h
  have hz : ∀ i, (if i < (sidesA t).length then ((sidesA t).map (ofA ps)).getD i nV else nV) = ((sidesA t).map (ofA ps)).getD i nV := by
    intro i
    split
    · rfl
    · rw [getD_ge]; rw [List.length_map]; omega
  rw [hz, hz, hz]

theorem OfAt.step0 {ps : List Pr} {t x : Ast} {x0 x1 x2 : V} (h : OfAt ps t 0 x0 x1 x2) (hx : (sidesA t)[0]? = some x) : OfAt ps t 1 (ofA ps x) x1 x2 := by
  obtain ⟨_, h1, h2⟩ := h
  exact ⟨by simp [List.getD_eq_getElem?_getD, hx], by simpa using h1, by simpa using h2⟩
theorem OfAt.step1 {ps : List Pr} {t x : Ast} {x0 x1 x2 : V} (h : OfAt ps t 1 x0 x1 x2) (hx : (sidesA t)[1]? = some x) : OfAt ps t 2 x0 (ofA ps x) x2 := by
  obtain ⟨h0, _, h2⟩ := h
  exact ⟨by simpa using h0, by simp [List.getD_eq_getElem?_getD, hx], by simpa using h2⟩
theorem OfAt.step2 {ps : List Pr} {t x : Ast} {x0 x1 x2 : V} (h : OfAt ps t 2 x0 x1 x2) (hx : (sidesA t)[2]? = some x) : OfAt ps t 3 x0 x1 (ofA ps x) := by
  obtain ⟨h0, h1, _⟩ := h
  exact ⟨by simpa using h0, by simpa using h1, by simp [List.getD_eq_getElem?_getD, hx]⟩

theorem OfAt.rng {ps : List Pr} {t : Ast} {k : Nat} {x0 x1 x2 : V} (h : OfAt ps t k x0 x1 x2) (hr : ∀ x ∈ sidesA t, Rng (ofA ps x).num) : Rng x0.num ∧ Rng x1.num ∧ Rng x2.num := by
  have hz : ∀ i, Rng (((sidesA t).map (ofA ps)).getD i nV).num := by
    intro i
    rw [List.getD_eq_getElem?_getD, List.getElem?_map]
    cases hx : (sidesA t)[i]? with
    | none => exact rng_n
    | some x => exact hr x (List.mem_of_getElem? hx)
  obtain ⟨rfl, rfl, rfl⟩ := h
  refine ⟨?_, ?_, ?_⟩ <;> split <;> first | exact hz _ | exact rng_n

theorem OfAt.len {ps : List Pr} {t : Ast} {k : Nat} {x0 x1 x2 : V} (h : OfAt ps t k x0 x1 x2) (hr : ∀ x ∈ sidesA t, (ofA ps x).str.length ≤ 1000) : x0.str.length ≤ 1000 := by
  obtain ⟨rfl, _, _⟩ := h
  split
  · rw [List.getD_eq_getElem?_getD, List.getElem?_map]
    cases hx : (sidesA t)[0]? with
    | none => simp [nV]
    | some x => exact hr x (List.mem_of_getElem? hx)
  · simp [nV]

set_option maxHeartbeats 2000000 in
set_option maxRecDepth 100000 in
theorem of_step (lo : Nat) (ps : List Pr) (ev : Value) (t : Ast) (hsub : ∀ x ∈ sidesA t, OfOk lo ps ev x) (hrng : ∀ x ∈ sidesA t, Rng (ofA ps x).num) (hlen : ∀ x ∈ sidesA t, (ofA ps x).str.length ≤ 1000) (hj : JoinNOk lo t) (h0 : ¬ (payA t).op = 0) (h1 : ¬ (payA t).op = 1) (h2 : ¬ (payA t).op = 2) (h3 : ¬ (payA t).op = 3) (h4 : ¬ (payA t).op = 4) : OfOk lo ps ev t := by
  intro w v h hev
  have e0 : ((payA t).op == 0) = false := beq_eq_false_iff_ne.2 h0
  have e1 : ((payA t).op == 1) = false := beq_eq_false_iff_ne.2 h1
  have e2 : ((payA t).op == 2) = false := beq_eq_false_iff_ne.2 h2
  have e3 : ((payA t).op == 3) = false := beq_eq_false_iff_ne.2 h3
  have e4 : ((payA t).op == 4) = false := beq_eq_false_iff_ne.2 h4
  have hr : ofA ps t = joinN (payA t) (((sidesA t).map (ofA ps)).getD 0 nV) (((sidesA t).map (ofA ps)).getD 1 nV) (((sidesA t).map (ofA ps)).getD 2 nV) := by
    rw [ofA_eq, ofN, if_neg h0, if_neg h1, if_neg h2, if_neg h3, if_neg h4]
  rw [hr]
  obtain ⟨r, hr'⟩ : ∃ r, joinN (payA t) (((sidesA t).map (ofA ps)).getD 0 nV) (((sidesA t).map (ofA ps)).getD 1 nV) (((sidesA t).map (ofA ps)).getD 2 nV) = r := ⟨_, rfl⟩
  rw [hr']
  have HR : Hid (joinN (payA t) (((sidesA t).map (ofA ps)).getD 0 nV) (((sidesA t).map (ofA ps)).getD 1 nV) (((sidesA t).map (ofA ps)).getD 2 nV) = r) := hide hr'
  have HNODE := hide h
  obtain ⟨b, sv, rfl, hnode, hsides⟩ := h.parts
  obtain ⟨a, rfl, hside⟩ := hsides.any
  have hn3 := sides_len t
  have c0 := hnode.c0
  have c2 := hnode.c2
  have hbw := hnode.within
  obtain ⟨n, hn⟩ : ∃ n, (sidesA t).length = n := ⟨_, rfl⟩
  rw [hn] at c2 hn3
  have HN := hide hn
  have HS := hide hside
  have HSUB := hide hsub
  have HRNG := hide hrng
  have HLEN := hide hlen
  have HJ := hide hj
  have HE := hide hev
  obtain ⟨ea, en, ec, rfl⟩ := hev.slice
  clear hr hr' hsides h hn hside hsub hrng hlen hj hev hnode h0 h1 h2 h3 h4
  go_enter Tryz.func38, Tryz.ntmps38
  go_wp2_with fail
  go_loopw [48] (fun i wr => ∃ (k : Nat) (x0 x1 x2 : V), k ≤ n ∧ i = .int .i64 k ∧ Hid (OfAt ps t k x0 x1 x2) ∧ wr.cell? ⟨w.heap.size + 1, 0, none⟩ = some (.int .i64 x0.kind) ∧ wr.cell? ⟨w.heap.size + 1, 1, none⟩ = some (.int .i64 x0.num) ∧ wr.cell? ⟨w.heap.size + 1, 2, none⟩ = some (.string (BS x0.str)) ∧ wr.cell? ⟨w.heap.size + 1, 3, none⟩ = some (.int .i64 x1.kind) ∧ wr.cell? ⟨w.heap.size + 1, 4, none⟩ = some (.int .i64 x1.num) ∧ wr.cell? ⟨w.heap.size + 1, 5, none⟩ = some (.string (BS x1.str)) ∧ wr.cell? ⟨w.heap.size + 1, 6, none⟩ = some (.int .i64 x2.kind) ∧ wr.cell? ⟨w.heap.size + 1, 7, none⟩ = some (.int .i64 x2.num) ∧ wr.cell? ⟨w.heap.size + 1, 8, none⟩ = some (.string (BS x2.str)) ∧ wr.cell? ⟨w.heap.size, 0, none⟩ = some (.int .i64 0) ∧ wr.cell? ⟨w.heap.size, 1, none⟩ = some (.int .i64 0) ∧ wr.cell? ⟨w.heap.size, 2, none⟩ = some (.string ⟨#[]⟩) ∧ (∀ j, wr.frozen? ⟨w.heap.size + 1, j, none⟩ = false) ∧ (∀ j, wr.frozen? ⟨w.heap.size, j, none⟩ = false) ∧ w.heap.size + 1 < wr.heap.size ∧ Hid (Below w.heap.size w wr)) (fun i _ => n - (intOf i).toNat)
  case atStart => exact ⟨0, nV, nV, nV, Nat.zero_le _, rfl, hide ⟨rfl, rfl, rfl⟩, by simp [nV], by simp [nV], by simp [nV, BS], by simp [nV], by simp [nV], by simp [nV, BS], by simp [nV], by simp [nV], by simp [nV, BS], by rw [World.cell?_alloc_past _ _ _ (by simp), World.cell?_alloc_at _ _ _ _ rfl]; rfl, by rw [World.cell?_alloc_past _ _ _ (by simp), World.cell?_alloc_at _ _ _ _ rfl]; rfl, by rw [World.cell?_alloc_past _ _ _ (by simp), World.cell?_alloc_at _ _ _ _ rfl]; rfl, fun j => by simp, fun j => by rw [World.frozen?_alloc_past _ _ _ (by simp), World.frozen?_alloc_at _ _ _ _ rfl], by simp, hide (below2 _ _ _)⟩
  case round =>
    obtain ⟨k, x0, x1, x2, hk, rfl, hat, a0, a1, a2, a3, a4, a5, a6, a7, a8, r0, r1, r2, fz, fr, hzr, hbel⟩ := hrel
    by_cases hlt : k < n
    · obtain ⟨x, hx⟩ : ∃ x, (sidesA t)[k]? = some x := ⟨_, List.getElem?_eq_getElem (by rw [unhide HN]; exact hlt)⟩
      obtain ⟨g, bx, rfl, hg1, hg2, hcx, hnx⟩ := unhide HS k x hx
      have dx := ((unhide hbel).cell (p := ⟨g, k, none⟩) hg2).trans hcx
      have HNX := hide (hnx.kept (Kept.of_below (unhide hbel)))
      have CX := hide (unhide HSUB x (List.mem_of_getElem? hx))
      have HEV := hide ((unhide HE).below (unhide hbel))
      have HX := hide hx
      clear hx hnx hcx
      rcases (show k = 0 ∨ k = 1 ∨ k = 2 by omega) with rfl | rfl | rfl
      · go_wp2_with (go_at_call 38; refine (unhide CX _ _ (unhide HNX) (unhide HEV)).mono ?_; rintro e w1 ⟨rfl, hb1⟩; obtain ⟨hc1, hf1⟩ := bcell hb1; have hz1 : w.heap.size + 1 < w1.heap.size := (by have := hb1.size; omega); have q0 : w1.cell? ⟨w.heap.size + 1, 0, none⟩ = some (.int .i64 x0.kind) := (hc1 _ 0 (by omega)).trans a0; have q1 : w1.cell? ⟨w.heap.size + 1, 1, none⟩ = some (.int .i64 x0.num) := (hc1 _ 1 (by omega)).trans a1; have q2 : w1.cell? ⟨w.heap.size + 1, 2, none⟩ = some (.string (BS x0.str)) := (hc1 _ 2 (by omega)).trans a2; have q3 : w1.cell? ⟨w.heap.size + 1, 3, none⟩ = some (.int .i64 x1.kind) := (hc1 _ 3 (by omega)).trans a3; have q4 : w1.cell? ⟨w.heap.size + 1, 4, none⟩ = some (.int .i64 x1.num) := (hc1 _ 4 (by omega)).trans a4; have q5 : w1.cell? ⟨w.heap.size + 1, 5, none⟩ = some (.string (BS x1.str)) := (hc1 _ 5 (by omega)).trans a5; have q6 : w1.cell? ⟨w.heap.size + 1, 6, none⟩ = some (.int .i64 x2.kind) := (hc1 _ 6 (by omega)).trans a6; have q7 : w1.cell? ⟨w.heap.size + 1, 7, none⟩ = some (.int .i64 x2.num) := (hc1 _ 7 (by omega)).trans a7; have q8 : w1.cell? ⟨w.heap.size + 1, 8, none⟩ = some (.string (BS x2.str)) := (hc1 _ 8 (by omega)).trans a8; have s0 : w1.cell? ⟨w.heap.size, 0, none⟩ = some (.int .i64 0) := (hc1 _ 0 (by omega)).trans r0; have s1 : w1.cell? ⟨w.heap.size, 1, none⟩ = some (.int .i64 0) := (hc1 _ 1 (by omega)).trans r1; have s2 : w1.cell? ⟨w.heap.size, 2, none⟩ = some (.string ⟨#[]⟩) := (hc1 _ 2 (by omega)).trans r2; have f1 : ∀ j, w1.frozen? ⟨w.heap.size + 1, j, none⟩ = false := (fun j => (hf1 _ j (by omega)).trans (fz j)); have f0 : ∀ j, w1.frozen? ⟨w.heap.size, j, none⟩ = false := (fun j => (hf1 _ j (by omega)).trans (fr j)); have hb1 := hide hb1; clear hc1 hf1; simp only [vV])
        go_roundw
        case rel => exact ⟨1, _, x1, x2, by omega, by go_num, hide (OfAt.step0 (unhide hat) (unhide HX)), by simp [go_sem, q0], by simp [go_sem, q1], by simp [go_sem, q2], by simp [go_sem, q3], by simp [go_sem, q4], by simp [go_sem, q5], by simp [go_sem, q6], by simp [go_sem, q7], by simp [go_sem, q8], by simp [go_sem, s0], by simp [go_sem, s1], by simp [go_sem, s2], fun j => by simp [go_sem, f1], fun j => by simp [go_sem, f0], by simpa using hz1, hide ((((below_any (unhide hbel) (unhide hb1)).setCell (by simp) _).setCell (by simp) _).setCell (by simp) _)⟩
        case measure => simp [intOf]; omega
      · go_wp2_with (go_at_call 38; refine (unhide CX _ _ (unhide HNX) (unhide HEV)).mono ?_; rintro e w1 ⟨rfl, hb1⟩; obtain ⟨hc1, hf1⟩ := bcell hb1; have hz1 : w.heap.size + 1 < w1.heap.size := (by have := hb1.size; omega); have q0 : w1.cell? ⟨w.heap.size + 1, 0, none⟩ = some (.int .i64 x0.kind) := (hc1 _ 0 (by omega)).trans a0; have q1 : w1.cell? ⟨w.heap.size + 1, 1, none⟩ = some (.int .i64 x0.num) := (hc1 _ 1 (by omega)).trans a1; have q2 : w1.cell? ⟨w.heap.size + 1, 2, none⟩ = some (.string (BS x0.str)) := (hc1 _ 2 (by omega)).trans a2; have q3 : w1.cell? ⟨w.heap.size + 1, 3, none⟩ = some (.int .i64 x1.kind) := (hc1 _ 3 (by omega)).trans a3; have q4 : w1.cell? ⟨w.heap.size + 1, 4, none⟩ = some (.int .i64 x1.num) := (hc1 _ 4 (by omega)).trans a4; have q5 : w1.cell? ⟨w.heap.size + 1, 5, none⟩ = some (.string (BS x1.str)) := (hc1 _ 5 (by omega)).trans a5; have q6 : w1.cell? ⟨w.heap.size + 1, 6, none⟩ = some (.int .i64 x2.kind) := (hc1 _ 6 (by omega)).trans a6; have q7 : w1.cell? ⟨w.heap.size + 1, 7, none⟩ = some (.int .i64 x2.num) := (hc1 _ 7 (by omega)).trans a7; have q8 : w1.cell? ⟨w.heap.size + 1, 8, none⟩ = some (.string (BS x2.str)) := (hc1 _ 8 (by omega)).trans a8; have s0 : w1.cell? ⟨w.heap.size, 0, none⟩ = some (.int .i64 0) := (hc1 _ 0 (by omega)).trans r0; have s1 : w1.cell? ⟨w.heap.size, 1, none⟩ = some (.int .i64 0) := (hc1 _ 1 (by omega)).trans r1; have s2 : w1.cell? ⟨w.heap.size, 2, none⟩ = some (.string ⟨#[]⟩) := (hc1 _ 2 (by omega)).trans r2; have f1 : ∀ j, w1.frozen? ⟨w.heap.size + 1, j, none⟩ = false := (fun j => (hf1 _ j (by omega)).trans (fz j)); have f0 : ∀ j, w1.frozen? ⟨w.heap.size, j, none⟩ = false := (fun j => (hf1 _ j (by omega)).trans (fr j)); have hb1 := hide hb1; clear hc1 hf1; simp only [vV])
        go_roundw
        case rel => exact ⟨2, x0, _, x2, by omega, by go_num, hide (OfAt.step1 (unhide hat) (unhide HX)), by simp [go_sem, q0], by simp [go_sem, q1], by simp [go_sem, q2], by simp [go_sem, q3], by simp [go_sem, q4], by simp [go_sem, q5], by simp [go_sem, q6], by simp [go_sem, q7], by simp [go_sem, q8], by simp [go_sem, s0], by simp [go_sem, s1], by simp [go_sem, s2], fun j => by simp [go_sem, f1], fun j => by simp [go_sem, f0], by simpa using hz1, hide ((((below_any (unhide hbel) (unhide hb1)).setCell (by simp) _).setCell (by simp) _).setCell (by simp) _)⟩
        case measure => simp [intOf]; omega
      · go_wp2_with (go_at_call 38; refine (unhide CX _ _ (unhide HNX) (unhide HEV)).mono ?_; rintro e w1 ⟨rfl, hb1⟩; obtain ⟨hc1, hf1⟩ := bcell hb1; have hz1 : w.heap.size + 1 < w1.heap.size := (by have := hb1.size; omega); have q0 : w1.cell? ⟨w.heap.size + 1, 0, none⟩ = some (.int .i64 x0.kind) := (hc1 _ 0 (by omega)).trans a0; have q1 : w1.cell? ⟨w.heap.size + 1, 1, none⟩ = some (.int .i64 x0.num) := (hc1 _ 1 (by omega)).trans a1; have q2 : w1.cell? ⟨w.heap.size + 1, 2, none⟩ = some (.string (BS x0.str)) := (hc1 _ 2 (by omega)).trans a2; have q3 : w1.cell? ⟨w.heap.size + 1, 3, none⟩ = some (.int .i64 x1.kind) := (hc1 _ 3 (by omega)).trans a3; have q4 : w1.cell? ⟨w.heap.size + 1, 4, none⟩ = some (.int .i64 x1.num) := (hc1 _ 4 (by omega)).trans a4; have q5 : w1.cell? ⟨w.heap.size + 1, 5, none⟩ = some (.string (BS x1.str)) := (hc1 _ 5 (by omega)).trans a5; have q6 : w1.cell? ⟨w.heap.size + 1, 6, none⟩ = some (.int .i64 x2.kind) := (hc1 _ 6 (by omega)).trans a6; have q7 : w1.cell? ⟨w.heap.size + 1, 7, none⟩ = some (.int .i64 x2.num) := (hc1 _ 7 (by omega)).trans a7; have q8 : w1.cell? ⟨w.heap.size + 1, 8, none⟩ = some (.string (BS x2.str)) := (hc1 _ 8 (by omega)).trans a8; have s0 : w1.cell? ⟨w.heap.size, 0, none⟩ = some (.int .i64 0) := (hc1 _ 0 (by omega)).trans r0; have s1 : w1.cell? ⟨w.heap.size, 1, none⟩ = some (.int .i64 0) := (hc1 _ 1 (by omega)).trans r1; have s2 : w1.cell? ⟨w.heap.size, 2, none⟩ = some (.string ⟨#[]⟩) := (hc1 _ 2 (by omega)).trans r2; have f1 : ∀ j, w1.frozen? ⟨w.heap.size + 1, j, none⟩ = false := (fun j => (hf1 _ j (by omega)).trans (fz j)); have f0 : ∀ j, w1.frozen? ⟨w.heap.size, j, none⟩ = false := (fun j => (hf1 _ j (by omega)).trans (fr j)); have hb1 := hide hb1; clear hc1 hf1; simp only [vV])
        go_roundw
        case rel => exact ⟨3, x0, x1, _, by omega, by go_num, hide (OfAt.step2 (unhide hat) (unhide HX)), by simp [go_sem, q0], by simp [go_sem, q1], by simp [go_sem, q2], by simp [go_sem, q3], by simp [go_sem, q4], by simp [go_sem, q5], by simp [go_sem, q6], by simp [go_sem, q7], by simp [go_sem, q8], by simp [go_sem, s0], by simp [go_sem, s1], by simp [go_sem, s2], fun j => by simp [go_sem, f1], fun j => by simp [go_sem, f0], by simpa using hz1, hide ((((below_any (unhide hbel) (unhide hb1)).setCell (by simp) _).setCell (by simp) _).setCell (by simp) _)⟩
        case measure => simp [intOf]; omega
    · have hkn : k = (sidesA t).length := by have := unhide HN; omega
      have HDONE : Hid (joinN (payA t) x0 x1 x2 = r) := hide (by rw [OfAt.done (by rw [← hkn]; exact unhide hat)]; exact unhide HR)
      have HRN := hide ((unhide hat).rng (unhide HRNG))
      have HLN := hide ((unhide hat).len (unhide HLEN))
      have HJN := hide (unhide HJ wr b x0 x1 x2 (unhide HRN).1 (unhide HRN).2.1 (unhide HRN).2.2 (unhide HLN) ((unhide HNODE).kept (Kept.of_below (unhide hbel))))
      clear hkn hat
      go_wp2_with (go_at_call 65; refine (unhide HJN).mono ?_; rw [unhide HDONE]; rintro e w1 ⟨rfl, hb1⟩; obtain ⟨hc1, hf1⟩ := bcell hb1; have hz1 : w.heap.size + 1 < w1.heap.size := (by have := hb1.size; omega); have s0 : w1.cell? ⟨w.heap.size, 0, none⟩ = some (.int .i64 0) := (hc1 _ 0 (by omega)).trans r0; have s1 : w1.cell? ⟨w.heap.size, 1, none⟩ = some (.int .i64 0) := (hc1 _ 1 (by omega)).trans r1; have s2 : w1.cell? ⟨w.heap.size, 2, none⟩ = some (.string ⟨#[]⟩) := (hc1 _ 2 (by omega)).trans r2; have f1 : ∀ j, w1.frozen? ⟨w.heap.size, j, none⟩ = false := (fun j => (hf1 _ j (by omega)).trans (fr j)); simp only [vV])
      refine bodyPost_ret (by simp [results, Tryz.results38, go_sem, s0, s1, s2] <;> rfl) rfl ⟨rfl, ?_⟩
      exact (((below_any (unhide hbel) hb1).setCell (by simp) _).setCell (by simp) _).setCell (by simp) _

end Go.Proofs.YtfkcaldjphakpaaGreatDoor
