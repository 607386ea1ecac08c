/- not, operator by operator. -/
import Derived.Test.YtfkcaldjphakpaaGreatDoorA18
namespace Go.Proofs.YtfkcaldjphakpaaGreatDoor
open Go.RowKit

set_option maxHeartbeats 1000000 in
theorem not_leaf3 (p : CP) (ho : p.op = 3) : NotOk (.leaf p) := by
  intro B w v hB hL h
  have hv : notC (.leaf p) = .leaf (plainP' 4) := by unfold notC; rw [ho]; rfl
  rw [hv]
  clear hv
  have S := hide (spelled_leaf (plainP' 4) rfl (show Rng 0 from ⟨by decide, by decide⟩) (Nat.zero_le _) (Nat.zero_le _) hB hL)
  replace S : Hid (Calls Tryz.prog 115 #[.agg #[.int .i64 4, .pointer none, .pointer none, .int .i64 0, .string ⟨#[]⟩, .string ⟨#[]⟩, .string ⟨#[]⟩]] w fun e w' => ∃ b, e = .returned (.pointer (some ⟨b, 0, none⟩)) ∧ CoAt B w'.heap.size w' (.pointer (some ⟨b, 0, none⟩)) (.leaf (plainP' 4)) ∧ Below w.heap.size w w') := S
  obtain ⟨b, rfl, hc⟩ := h
  have c0 := hc.c0
  unfold at0
  have e3 : (p.op == 3) = true := by rw [ho]; rfl
  clear hc hL hB ho
  go_enter Tryz.func113, Tryz.ntmps113
  go_wp2_with (go_at_call 115; refine (unhide S).mono ?_; rintro e w1 ⟨b1, rfl, hc1, hb1⟩)
  go_ret
  exact ⟨b1, rfl, hc1, hb1⟩

set_option maxHeartbeats 1000000 in
theorem not_leaf4 (p : CP) (ho : p.op = 4) : NotOk (.leaf p) := by
  intro B w v hB hL h
  have hv : notC (.leaf p) = .leaf (plainP' 3) := by unfold notC; rw [ho]; rfl
  rw [hv]
  clear hv
  have S := hide (spelled_leaf (plainP' 3) rfl (show Rng 0 from ⟨by decide, by decide⟩) (Nat.zero_le _) (Nat.zero_le _) hB hL)
  replace S : Hid (Calls Tryz.prog 115 #[.agg #[.int .i64 3, .pointer none, .pointer none, .int .i64 0, .string ⟨#[]⟩, .string ⟨#[]⟩, .string ⟨#[]⟩]] w fun e w' => ∃ b, e = .returned (.pointer (some ⟨b, 0, none⟩)) ∧ CoAt B w'.heap.size w' (.pointer (some ⟨b, 0, none⟩)) (.leaf (plainP' 3)) ∧ Below w.heap.size w w') := S
  obtain ⟨b, rfl, hc⟩ := h
  have c0 := hc.c0
  unfold at0
  have e3 : (p.op == 3) = false := by rw [ho]; rfl
  have e4 : (p.op == 4) = true := by rw [ho]; rfl
  clear hc hL hB ho
  go_enter Tryz.func113, Tryz.ntmps113
  go_wp2_with (go_at_call 115; refine (unhide S).mono ?_; rintro e w1 ⟨b1, rfl, hc1, hb1⟩)
  go_ret
  exact ⟨b1, rfl, hc1, hb1⟩

/-- NOT is put ahead. -/
theorem not_wrap (c : Co) (p : CP) (hz : (spell c).length ≤ 1000000000) (hv : notC c = .un (plainP' 5) c) 
    (hop : ∀ B E w v, CoAt B E w v c → ∃ b l r, v = at0 b ∧ CellsC B E w b p l r (spell c)) (h3 : ¬ p.op = 3) (h4 : ¬ p.op = 4) (h6 : ¬ p.op = 6) (h7 : ¬ p.op = 7) (h10 : ¬ p.op = 10) (h11 : ¬ p.op = 11) (h5 : ¬ p.op = 5) : NotOk c := by
  intro B w v hB hL h
  rw [hv]
  obtain ⟨b, l, r, rfl, hc⟩ := hop _ _ _ _ h
  have S : Hid (Calls Tryz.prog 115 #[.agg #[.int .i64 5, .pointer (some ⟨b, 0, none⟩), .pointer none, .int .i64 0, .string ⟨#[]⟩, .string ⟨#[]⟩, .string ⟨#[]⟩]] w fun e w' => ∃ b, e = .returned (.pointer (some ⟨b, 0, none⟩)) ∧ CoAt B w'.heap.size w' (.pointer (some ⟨b, 0, none⟩)) (.un (plainP' 5) c) ∧ Below w.heap.size w w') :=
    hide (spelled_one (plainP' 5) rfl (show Rng 0 from ⟨by decide, by decide⟩) (Nat.zero_le _) (Nat.zero_le _) hB hL h hz)
  have c0 := hc.c0
  unfold at0
  have e3 : (p.op == 3) = false := beq_eq_false_iff_ne.2 h3
  have e4 : (p.op == 4) = false := beq_eq_false_iff_ne.2 h4
  have e6 : (p.op == 6) = false := beq_eq_false_iff_ne.2 h6
  have e7 : (p.op == 7) = false := beq_eq_false_iff_ne.2 h7
  have e10 : (p.op == 10) = false := beq_eq_false_iff_ne.2 h10
  have e11 : (p.op == 11) = false := beq_eq_false_iff_ne.2 h11
  have e5 : (p.op == 5) = false := beq_eq_false_iff_ne.2 h5
  clear hc hL hB h hop hv hz h3 h4 h6 h7 h10 h11 h5
  go_enter Tryz.func113, Tryz.ntmps113
  go_wp2_with (go_at_call 115; refine (unhide S).mono ?_; rintro e w1 ⟨b1, rfl, hc1, hb1⟩)
  go_ret
  exact ⟨b1, rfl, hc1, hb1⟩

set_option maxHeartbeats 1000000 in
theorem not_un5 (p : CP) (x : Co) (ho : p.op = 5) (hx0 : ¬ opC x = 0) : NotOk (.un p x) := by
  intro B w v hB hL h
  have hv : notC (.un p x) = x := by unfold notC; rw [ho, if_pos]; rw [Bool.and_eq_true]; exact ⟨rfl, by simpa using hx0⟩
  rw [hv]
  obtain ⟨b, vx, rfl, hc, hx⟩ := h
  obtain ⟨bx, px, lx, rx, rfl, hop, hcx⟩ := hx.head
  have c0 := hc.c0
  have c1 := hc.c1
  have x0 := hcx.c0
  rw [hop] at x0
  have ex : (opC x != 0) = true := by simpa using hx0
  unfold at0 at c1 hx ⊢
  have HX := hide hx
  have e3 : (p.op == 3) = false := by rw [ho]; rfl
  have e4 : (p.op == 4) = false := by rw [ho]; rfl
  have e6 : (p.op == 6) = false := by rw [ho]; rfl
  have e7 : (p.op == 7) = false := by rw [ho]; rfl
  have e10 : (p.op == 10) = false := by rw [ho]; rfl
  have e11 : (p.op == 11) = false := by rw [ho]; rfl
  have e5 : (p.op == 5) = true := by rw [ho]; rfl
  clear hc hL hB ho hx0 hv hx hop hcx
  go_enter Tryz.func113, Tryz.ntmps113
  go_wp2_with fail
  go_ret
  exact ⟨bx, rfl, unhide HX, Below.refl _ _⟩

set_option maxHeartbeats 1000000 in
theorem not_un50 (p : CP) (x : Co) (ho : p.op = 5) (hx0 : opC x = 0) (hz : (spell (.un p x)).length ≤ 1000000000) : NotOk (.un p x) := by
  intro B w v hB hL h
  have hv : notC (.un p x) = .un (plainP' 5) (.un p x) := by unfold notC; rw [hx0, if_neg]; rw [Bool.and_eq_true]; rintro ⟨_, h⟩; cases h
  rw [hv]
  have H := h
  obtain ⟨b, vx, rfl, hc, hx⟩ := h
  have S : Hid (Calls Tryz.prog 115 #[.agg #[.int .i64 5, .pointer (some ⟨b, 0, none⟩), .pointer none, .int .i64 0, .string ⟨#[]⟩, .string ⟨#[]⟩, .string ⟨#[]⟩]] w fun e w' => ∃ b, e = .returned (.pointer (some ⟨b, 0, none⟩)) ∧ CoAt B w'.heap.size w' (.pointer (some ⟨b, 0, none⟩)) (.un (plainP' 5) (.un p x)) ∧ Below w.heap.size w w') :=
    hide (spelled_one (plainP' 5) rfl (show Rng 0 from ⟨by decide, by decide⟩) (Nat.zero_le _) (Nat.zero_le _) hB hL H hz)
  obtain ⟨bx, px, lx, rx, rfl, hop, hcx⟩ := hx.head
  have c0 := hc.c0
  have c1 := hc.c1
  have x0 := hcx.c0
  rw [hop, hx0] at x0
  unfold at0 at c1 ⊢
  have e3 : (p.op == 3) = false := by rw [ho]; rfl
  have e4 : (p.op == 4) = false := by rw [ho]; rfl
  have e6 : (p.op == 6) = false := by rw [ho]; rfl
  have e7 : (p.op == 7) = false := by rw [ho]; rfl
  have e10 : (p.op == 10) = false := by rw [ho]; rfl
  have e11 : (p.op == 11) = false := by rw [ho]; rfl
  have e5 : (p.op == 5) = true := by rw [ho]; rfl
  clear hc hL hB ho hx0 hv hx hop hcx H hz
  go_enter Tryz.func113, Tryz.ntmps113
  go_wp2_with (go_at_call 115; refine (unhide S).mono ?_; rintro e w1 ⟨b1, rfl, hc1, hb1⟩)
  go_ret
  exact ⟨b1, rfl, hc1, hb1⟩

set_option maxHeartbeats 1000000 in
set_option maxRecDepth 100000 in
theorem not_bin6 (p : CP) (x y : Co) (ho : p.op = 6) (hx : NotOk x) (hy : NotOk y) (zx : (spell (notC x)).length ≤ 1000000000) (zy : (spell (notC y)).length ≤ 1000000000) : NotOk (.bin p x y) := by
  intro B w v hB hL h
  have hv : notC (.bin p x y) = pairC 7 (notC x) (notC y) := by rw [notC, ho]; rfl
  rw [hv]
  obtain ⟨b, vx, vy, rfl, hc, cx, cy⟩ := h
  obtain ⟨bx, rfl⟩ := cx.ptr
  obtain ⟨by', rfl⟩ := cy.ptr
  have c0 := hc.c0
  have c1 := hc.c1
  have c2 := hc.c2
  have hbw := hc.within
  have NX : Hid (∀ w1, Below w.heap.size w w1 → Calls Tryz.prog 113 #[.pointer (some ⟨bx, 0, none⟩)] w1 fun e w' => ∃ b, e = .returned (.pointer (some ⟨b, 0, none⟩)) ∧ CoAt B w'.heap.size w' (.pointer (some ⟨b, 0, none⟩)) (notC x) ∧ Below w1.heap.size w1 w') :=
    hide (fun w1 hb => hx B w1 _ (Nat.le_trans hB hb.size) (hL.below hb (Nat.le_refl _)) (cx.below hb))
  have NY : Hid (∀ w1, Below w.heap.size w w1 → Calls Tryz.prog 113 #[.pointer (some ⟨by', 0, none⟩)] w1 fun e w' => ∃ b, e = .returned (.pointer (some ⟨b, 0, none⟩)) ∧ CoAt B w'.heap.size w' (.pointer (some ⟨b, 0, none⟩)) (notC y) ∧ Below w1.heap.size w1 w') :=
    hide (fun w1 hb => hy B w1 _ (Nat.le_trans hB hb.size) (hL.below hb (Nat.le_refl _)) (cy.below hb))
  have PR : Hid (∀ w1 v1 v2, Below w.heap.size w w1 → CoAt B w1.heap.size w1 v1 (notC x) → CoAt B w1.heap.size w1 v2 (notC y) → Calls Tryz.prog 111 #[.int .i64 7, v1, v2] w1 fun e w' => ∃ b, e = .returned (.pointer (some ⟨b, 0, none⟩)) ∧ CoAt B w'.heap.size w' (.pointer (some ⟨b, 0, none⟩)) (pairC 7 (notC x) (notC y)) ∧ Below w1.heap.size w1 w') :=
    hide (fun w1 v1 v2 hb h1 h2 => pair_any 7 (Nat.le_trans hB hb.size) (hL.below hb (Nat.le_refl _)) h1 h2 zx zy)
  have HB : Hid (Below w.heap.size w w.drew) := hide (Below.refl _ _).drew
  unfold at0 at c1 c2 ⊢
  have e3 : (p.op == 3) = false := by rw [ho]; rfl
  have e4 : (p.op == 4) = false := by rw [ho]; rfl
  have e6 : (p.op == 6) = true := by rw [ho]; rfl
  clear hc hL hB ho hv hx hy zx zy cx cy
  go_enter Tryz.func113, Tryz.ntmps113
  go_wp2_with fail
  go_region_held3 (fun W => W.cell? ⟨b, 1, none⟩ = some (.pointer (some ⟨bx, 0, none⟩)) ∧ W.cell? ⟨b, 2, none⟩ = some (.pointer (some ⟨by', 0, none⟩))) (go_keep) (first | (go_at_call_of 113 (Value.pointer (some { block := bx, off := 0 })); refine (unhide NX _ (unhide HB)).mono ?_; rintro e w1 ⟨b1, rfl, k1, hb1⟩; have HB1 := hide (below_any (unhide HB) hb1); have d1 := ((unhide HB1).cell (p := ⟨b, 1, none⟩) hbw).trans c1; have d2 := ((unhide HB1).cell (p := ⟨b, 2, none⟩) hbw).trans c2; have K1 := hide k1; clear k1 hb1) | (go_at_call_of 113 (Value.pointer (some { block := by', off := 0 })); refine (unhide NY _ (unhide HB1)).mono ?_; rintro e w2 ⟨b2, rfl, k2, hb2⟩; have HB2 := hide (below_any (unhide HB1) hb2); have d3 := ((unhide HB2).cell (p := ⟨b, 1, none⟩) hbw).trans c1; have d4 := ((unhide HB2).cell (p := ⟨b, 2, none⟩) hbw).trans c2; have K1' := hide ((unhide K1).below hb2); have K2 := hide k2; clear k2 hb2) | (go_at_call 111; refine (unhide PR _ _ _ (unhide HB2) (unhide K1') (unhide K2)).mono ?_; rintro e w3 ⟨b3, rfl, k3, hb3⟩; have HB3 := hide (below_any (unhide HB2) hb3); have d5 := ((unhide HB3).cell (p := ⟨b, 1, none⟩) hbw).trans c1; have d6 := ((unhide HB3).cell (p := ⟨b, 2, none⟩) hbw).trans c2; have K3 := hide k3; clear k3 hb3))
  all_goals (go_wp2_with fail; go_ret; exact ⟨b3, rfl, unhide K3, unhide HB3⟩)

set_option maxHeartbeats 1000000 in
set_option maxRecDepth 100000 in
theorem not_bin7 (p : CP) (x y : Co) (ho : p.op = 7) (hx : NotOk x) (hy : NotOk y) (zx : (spell (notC x)).length ≤ 1000000000) (zy : (spell (notC y)).length ≤ 1000000000) : NotOk (.bin p x y) := by
  intro B w v hB hL h
  have hv : notC (.bin p x y) = pairC 6 (notC x) (notC y) := by rw [notC, ho]; rfl
  rw [hv]
  obtain ⟨b, vx, vy, rfl, hc, cx, cy⟩ := h
  obtain ⟨bx, rfl⟩ := cx.ptr
  obtain ⟨by', rfl⟩ := cy.ptr
  have c0 := hc.c0
  have c1 := hc.c1
  have c2 := hc.c2
  have hbw := hc.within
  have NX : Hid (∀ w1, Below w.heap.size w w1 → Calls Tryz.prog 113 #[.pointer (some ⟨bx, 0, none⟩)] w1 fun e w' => ∃ b, e = .returned (.pointer (some ⟨b, 0, none⟩)) ∧ CoAt B w'.heap.size w' (.pointer (some ⟨b, 0, none⟩)) (notC x) ∧ Below w1.heap.size w1 w') :=
    hide (fun w1 hb => hx B w1 _ (Nat.le_trans hB hb.size) (hL.below hb (Nat.le_refl _)) (cx.below hb))
  have NY : Hid (∀ w1, Below w.heap.size w w1 → Calls Tryz.prog 113 #[.pointer (some ⟨by', 0, none⟩)] w1 fun e w' => ∃ b, e = .returned (.pointer (some ⟨b, 0, none⟩)) ∧ CoAt B w'.heap.size w' (.pointer (some ⟨b, 0, none⟩)) (notC y) ∧ Below w1.heap.size w1 w') :=
    hide (fun w1 hb => hy B w1 _ (Nat.le_trans hB hb.size) (hL.below hb (Nat.le_refl _)) (cy.below hb))
  have PR : Hid (∀ w1 v1 v2, Below w.heap.size w w1 → CoAt B w1.heap.size w1 v1 (notC x) → CoAt B w1.heap.size w1 v2 (notC y) → Calls Tryz.prog 111 #[.int .i64 6, v1, v2] w1 fun e w' => ∃ b, e = .returned (.pointer (some ⟨b, 0, none⟩)) ∧ CoAt B w'.heap.size w' (.pointer (some ⟨b, 0, none⟩)) (pairC 6 (notC x) (notC y)) ∧ Below w1.heap.size w1 w') :=
    hide (fun w1 v1 v2 hb h1 h2 => pair_any 6 (Nat.le_trans hB hb.size) (hL.below hb (Nat.le_refl _)) h1 h2 zx zy)
  have HB : Hid (Below w.heap.size w w.drew) := hide (Below.refl _ _).drew
  unfold at0 at c1 c2 ⊢
  have e3 : (p.op == 3) = false := by rw [ho]; rfl
  have e4 : (p.op == 4) = false := by rw [ho]; rfl
  have e6 : (p.op == 6) = false := by rw [ho]; rfl
  have e7 : (p.op == 7) = true := by rw [ho]; rfl
  clear hc hL hB ho hv hx hy zx zy cx cy
  go_enter Tryz.func113, Tryz.ntmps113
  go_wp2_with fail
  go_region_held3 (fun W => W.cell? ⟨b, 1, none⟩ = some (.pointer (some ⟨bx, 0, none⟩)) ∧ W.cell? ⟨b, 2, none⟩ = some (.pointer (some ⟨by', 0, none⟩))) (go_keep) (first | (go_at_call_of 113 (Value.pointer (some { block := bx, off := 0 })); refine (unhide NX _ (unhide HB)).mono ?_; rintro e w1 ⟨b1, rfl, k1, hb1⟩; have HB1 := hide (below_any (unhide HB) hb1); have d1 := ((unhide HB1).cell (p := ⟨b, 1, none⟩) hbw).trans c1; have d2 := ((unhide HB1).cell (p := ⟨b, 2, none⟩) hbw).trans c2; have K1 := hide k1; clear k1 hb1) | (go_at_call_of 113 (Value.pointer (some { block := by', off := 0 })); refine (unhide NY _ (unhide HB1)).mono ?_; rintro e w2 ⟨b2, rfl, k2, hb2⟩; have HB2 := hide (below_any (unhide HB1) hb2); have d3 := ((unhide HB2).cell (p := ⟨b, 1, none⟩) hbw).trans c1; have d4 := ((unhide HB2).cell (p := ⟨b, 2, none⟩) hbw).trans c2; have K1' := hide ((unhide K1).below hb2); have K2 := hide k2; clear k2 hb2) | (go_at_call 111; refine (unhide PR _ _ _ (unhide HB2) (unhide K1') (unhide K2)).mono ?_; rintro e w3 ⟨b3, rfl, k3, hb3⟩; have HB3 := hide (below_any (unhide HB2) hb3); have d5 := ((unhide HB3).cell (p := ⟨b, 1, none⟩) hbw).trans c1; have d6 := ((unhide HB3).cell (p := ⟨b, 2, none⟩) hbw).trans c2; have K3 := hide k3; clear k3 hb3))
  all_goals (go_wp2_with fail; go_ret; exact ⟨b3, rfl, unhide K3, unhide HB3⟩)

set_option maxHeartbeats 1000000 in
set_option maxRecDepth 100000 in
theorem not_bin10 (p : CP) (x y : Co) (ho : p.op = 10) (zx : (spell x).length ≤ 1000000000) (zy : (spell y).length ≤ 1000000000) : NotOk (.bin p x y) := by
  intro B w v hB hL h
  have hv : notC (.bin p x y) = pairC 11 y x := by rw [notC, ho]; rfl
  rw [hv]
  obtain ⟨b, vx, vy, rfl, hc, cx, cy⟩ := h
  obtain ⟨bx, rfl⟩ := cx.ptr
  obtain ⟨by', rfl⟩ := cy.ptr
  have c0 := hc.c0
  have c1 := hc.c1
  have c2 := hc.c2
  have hbw := hc.within
  have PR : Hid (∀ w1, Below w.heap.size w w1 → Calls Tryz.prog 111 #[.int .i64 11, .pointer (some ⟨by', 0, none⟩), .pointer (some ⟨bx, 0, none⟩)] w1 fun e w' => ∃ b, e = .returned (.pointer (some ⟨b, 0, none⟩)) ∧ CoAt B w'.heap.size w' (.pointer (some ⟨b, 0, none⟩)) (pairC 11 y x) ∧ Below w1.heap.size w1 w') :=
    hide (fun w1 hb => pair_any 11 (Nat.le_trans hB hb.size) (hL.below hb (Nat.le_refl _)) (cy.below hb) (cx.below hb) zy zx)
  have HB : Hid (Below w.heap.size w w.drew) := hide (Below.refl _ _).drew
  unfold at0 at c1 c2 ⊢
  have e3 : (p.op == 3) = false := by rw [ho]; rfl
  have e4 : (p.op == 4) = false := by rw [ho]; rfl
  have e6 : (p.op == 6) = false := by rw [ho]; rfl
  have e7 : (p.op == 7) = false := by rw [ho]; rfl
  have e10 : (p.op == 10) = true := by rw [ho]; rfl
  clear hc hL hB ho hv zx zy cx cy
  go_enter Tryz.func113, Tryz.ntmps113
  go_wp2_with fail
  go_region_held3 (fun W => W.cell? ⟨b, 1, none⟩ = some (.pointer (some ⟨bx, 0, none⟩)) ∧ W.cell? ⟨b, 2, none⟩ = some (.pointer (some ⟨by', 0, none⟩))) (go_keep) (first | (go_at_call 111; refine (unhide PR _ (unhide HB)).mono ?_; rintro e w3 ⟨b3, rfl, k3, hb3⟩; have HB3 := hide (below_any (unhide HB) hb3); have d5 := ((unhide HB3).cell (p := ⟨b, 1, none⟩) hbw).trans c1; have d6 := ((unhide HB3).cell (p := ⟨b, 2, none⟩) hbw).trans c2; have K3 := hide k3; clear k3 hb3))
  all_goals (go_wp2_with fail; go_ret; exact ⟨b3, rfl, unhide K3, unhide HB3⟩)

set_option maxHeartbeats 1000000 in
set_option maxRecDepth 100000 in
theorem not_bin11 (p : CP) (x y : Co) (ho : p.op = 11) (zx : (spell x).length ≤ 1000000000) (zy : (spell y).length ≤ 1000000000) : NotOk (.bin p x y) := by
  intro B w v hB hL h
  have hv : notC (.bin p x y) = pairC 10 y x := by rw [notC, ho]; rfl
  rw [hv]
  obtain ⟨b, vx, vy, rfl, hc, cx, cy⟩ := h
  obtain ⟨bx, rfl⟩ := cx.ptr
  obtain ⟨by', rfl⟩ := cy.ptr
  have c0 := hc.c0
  have c1 := hc.c1
  have c2 := hc.c2
  have hbw := hc.within
  have PR : Hid (∀ w1, Below w.heap.size w w1 → Calls Tryz.prog 111 #[.int .i64 10, .pointer (some ⟨by', 0, none⟩), .pointer (some ⟨bx, 0, none⟩)] w1 fun e w' => ∃ b, e = .returned (.pointer (some ⟨b, 0, none⟩)) ∧ CoAt B w'.heap.size w' (.pointer (some ⟨b, 0, none⟩)) (pairC 10 y x) ∧ Below w1.heap.size w1 w') :=
    hide (fun w1 hb => pair_any 10 (Nat.le_trans hB hb.size) (hL.below hb (Nat.le_refl _)) (cy.below hb) (cx.below hb) zy zx)
  have HB : Hid (Below w.heap.size w w.drew) := hide (Below.refl _ _).drew
  unfold at0 at c1 c2 ⊢
  have e3 : (p.op == 3) = false := by rw [ho]; rfl
  have e4 : (p.op == 4) = false := by rw [ho]; rfl
  have e6 : (p.op == 6) = false := by rw [ho]; rfl
  have e7 : (p.op == 7) = false := by rw [ho]; rfl
  have e10 : (p.op == 10) = false := by rw [ho]; rfl
  have e11 : (p.op == 11) = true := by rw [ho]; rfl
  clear hc hL hB ho hv zx zy cx cy
  go_enter Tryz.func113, Tryz.ntmps113
  go_wp2_with fail
  go_region_held3 (fun W => W.cell? ⟨b, 1, none⟩ = some (.pointer (some ⟨bx, 0, none⟩)) ∧ W.cell? ⟨b, 2, none⟩ = some (.pointer (some ⟨by', 0, none⟩))) (go_keep) (first | (go_at_call 111; refine (unhide PR _ (unhide HB)).mono ?_; rintro e w3 ⟨b3, rfl, k3, hb3⟩; have HB3 := hide (below_any (unhide HB) hb3); have d5 := ((unhide HB3).cell (p := ⟨b, 1, none⟩) hbw).trans c1; have d6 := ((unhide HB3).cell (p := ⟨b, 2, none⟩) hbw).trans c2; have K3 := hide k3; clear k3 hb3))
  all_goals (go_wp2_with fail; go_ret; exact ⟨b3, rfl, unhide K3, unhide HB3⟩)

theorem not_every : ∀ c, WfC c → (spell c).length + 7 * uC c ≤ 1000000000 → NotOk c := by
  intro c
  induction c with
  | leaf p =>
    intro hw hz
    by_cases h3 : p.op = 3
    · exact not_leaf3 p h3
    by_cases h4 : p.op = 4
    · exact not_leaf4 p h4
    have hl : p.op = 0 ∨ p.op = 1 ∨ p.op = 2 := by
      have : leafB p.op = true := hw
      unfold leafB at this
      simp only [Bool.or_eq_true, beq_iff_eq] at this
      omega
    refine not_wrap _ p (by omega) ?_ (fun B E w v h => by obtain ⟨b, rfl, hc⟩ := h; exact ⟨b, _, _, rfl, hc⟩) h3 h4 (by omega) (by omega) (by omega) (by omega) (by omega)
    unfold notC
    rw [if_neg (by simpa using h3), if_neg (by simpa using h4)]
  | un p x ih =>
    intro hw hz
    have hu : p.op = 5 ∨ p.op = 22 ∨ p.op = 23 := by
      have : unB p.op = true := hw.1
      unfold unB at this
      simp only [Bool.or_eq_true, beq_iff_eq] at this
      omega
    by_cases h5 : p.op = 5
    · by_cases hx0 : opC x = 0
      · exact not_un50 p x h5 hx0 (by omega)
      · exact not_un5 p x h5 hx0
    refine not_wrap _ p (by omega) ?_ (fun B E w v h => by obtain ⟨b, vx, rfl, hc, _⟩ := h; exact ⟨b, _, _, rfl, hc⟩) (by omega) (by omega) (by omega) (by omega) (by omega) (by omega) h5
    unfold notC
    rw [if_neg]
    rw [Bool.and_eq_true]
    rintro ⟨h, _⟩
    exact h5 (eq_of_beq h)
  | bin p x y ihx ihy =>
    intro hw hz
    have hs := spell_bin_len hw.1 x y
    have lx := spell_not_len x hw.2.1
    have ly := spell_not_len y hw.2.2
    have hu : uC (.bin p x y) = if (p.op == 6 || p.op == 7) = true then uC x + uC y else 1 := rfl
    by_cases h6 : p.op = 6
    · rw [h6] at hu
      have hu : uC (.bin p x y) = uC x + uC y := hu
      exact not_bin6 p x y h6 (ihx hw.2.1 (by omega)) (ihy hw.2.2 (by omega)) (by omega) (by omega)
    by_cases h7 : p.op = 7
    · rw [h7] at hu
      have hu : uC (.bin p x y) = uC x + uC y := hu
      exact not_bin7 p x y h7 (ihx hw.2.1 (by omega)) (ihy hw.2.2 (by omega)) (by omega) (by omega)
    by_cases h10 : p.op = 10
    · exact not_bin10 p x y h10 (by omega) (by omega)
    by_cases h11 : p.op = 11
    · exact not_bin11 p x y h11 (by omega) (by omega)
    have hb := hw.1
    unfold binB leafB unB at hb
    simp only [Bool.and_eq_true, Bool.not_eq_true', Bool.or_eq_false_iff, beq_eq_false_iff_ne] at hb
    obtain ⟨⟨⟨⟨⟨_, _⟩, _⟩, h3⟩, h4⟩, ⟨h5, _⟩, _⟩ := hb
    refine not_wrap _ p (by omega) ?_ (fun B E w v h => by obtain ⟨b, vx, vy, rfl, hc, _⟩ := h; exact ⟨b, _, _, rfl, hc⟩) h3 h4 h6 h7 h10 h11 h5
    unfold notC
    rw [if_neg (by simpa using h6), if_neg (by simpa using h7), if_neg (by simpa using h10), if_neg (by simpa using h11)]

end Go.Proofs.YtfkcaldjphakpaaGreatDoor
