/- number, join. join, whatever the term. core.Of. Texts in a slice: Values, Collect, Sorted, Compact, one behind the other. -/
import Derived.Test.YtfkcaldjphakpaaGreatDoorQCo7
import Derived.Test.YtfkcaldjphakpaaGreatDoorA20
import Derived.Test.YtfkcaldjphakpaaGreatDoorA08
import Derived.Test.YtfkcaldjphakpaaGreatDoorA23
import Derived.Test.YtfkcaldjphakpaaGreatDoorA25
import Derived.Test.YtfkcaldjphakpaaGreatDoorShelf3
import Derived.Sort.OwnSorted
namespace Go.Proofs.YtfkcaldjphakpaaGreatDoor
open Go.RowKit

section
/-- How the functions of package core end: with a core. -/
def Ends (B : Nat) (w : World) (c : Co) (e : Ending) (w' : World) : Prop := ∃ b, e = .returned (.pointer (some ⟨b, 0, none⟩)) ∧ CoAt B w'.heap.size w' (.pointer (some ⟨b, 0, none⟩)) c ∧ Below w.heap.size w w'

set_option maxHeartbeats 400000 in
theorem cnumber_any (n : Int) (hn : Rng n) {B : Nat} {w : World} (hB : B ≤ w.heap.size) (hL : LibOk w) : Calls Tryz.prog 112 #[.int .i64 n] w (Ends B w (numC n)) := by
  have S : Hid (Calls Tryz.prog 115 #[.agg #[.int .i64 1, .pointer none, .pointer none, .int .i64 n, .string ⟨#[]⟩, .string ⟨#[]⟩, .string ⟨#[]⟩]] w (Ends B w (numC n))) := hide (spelled_leaf ⟨1, n, [], []⟩ rfl hn (Nat.zero_le _) (Nat.zero_le _) hB hL)
  clear hB hL hn
  go_enter Tryz.func112, Tryz.ntmps112
  go_wp2_with (go_at_call 115; refine (unhide S).mono ?_; rintro e w1 ⟨b1, rfl, hc1, hb1⟩)
  go_ret
  exact ⟨b1, rfl, hc1, hb1⟩

/-- A core is short enough to go on with. -/
def Lm (c : Co) : Prop := (spell c).length ≤ 200000000 ∧ uC c ≤ 1000 ∧ WfC c
theorem Gd.lm {t : Ast} (h : Gd t) (hn : ndA t ≤ 200) : Lm (coreA t) := by
  have h1 := h.len
  have h2 := h.un
  have : ndA t * ndA t ≤ 200 * 200 := Nat.mul_le_mul hn hn
  exact ⟨by omega, by omega, h.wf⟩

set_option maxHeartbeats 1000000 in
theorem cjoin_14 (lo : Nat) (p : Pay) (sv : Value) {B : Nat} {w : World} {b : Nat} (hB : B ≤ w.heap.size) (hL : LibOk w) (hN : NodeAt lo w b p sv) (ho : p.op = 14) {x : Co} {vx : Value} (hx : CoAt B w.heap.size w vx x) (zx : Lm x) :
    Calls Tryz.prog 67 #[.pointer (some ⟨b, 0, none⟩), vx, .pointer none, .pointer none] w (Ends B w (pairC 16 (numC 0) x)) := by
  obtain ⟨bx, rfl⟩ := hx.ptr
  have c0 := hN.c0
  have NB : Hid (Calls Tryz.prog 112 #[.int .i64 0] w (Ends B w (numC 0))) := hide (cnumber_any 0 ⟨by decide, by decide⟩ hB hL)
  have PR : Hid (∀ w1 v1, Below w.heap.size w w1 → CoAt B w1.heap.size w1 v1 (numC 0) → Calls Tryz.prog 111 #[.int .i64 16, v1, .pointer (some ⟨bx, 0, none⟩)] w1 (Ends B w1 (pairC 16 (numC 0) x))) :=
    hide (fun w1 v1 hb h1 => pair_any 16 (Nat.le_trans hB hb.size) (hL.below hb (Nat.le_refl _)) h1 (hx.below hb) (Nat.le_trans num0_len (by decide)) (Nat.le_trans zx.1 (by decide)))
  have e14 : (p.op == 14) = true := by rw [ho]; rfl
  clear hN hB hL hx zx ho
  go_enter Tryz.func67, Tryz.ntmps67
  go_wp2_with (first | (go_at_call 112; refine (unhide NB).mono ?_; rintro e w1 ⟨b1, rfl, k1, hb1⟩; have HB1 := hide hb1; have K1 := hide k1; clear hb1 k1) | (go_at_call 111; refine (unhide PR _ _ (unhide HB1) (unhide K1)).mono ?_; rintro e w2 ⟨b2, rfl, k2, hb2⟩; have HB2 := hide (below_any (unhide HB1) hb2); have K2 := hide k2; clear hb2 k2))
  go_ret
  exact ⟨b2, rfl, unhide K2, unhide HB2⟩

set_option maxHeartbeats 1000000 in
theorem cjoin_15 (lo : Nat) (p : Pay) (sv : Value) {B : Nat} {w : World} {b : Nat} (hB : B ≤ w.heap.size) (hL : LibOk w) (hN : NodeAt lo w b p sv) (ho : p.op = 15) {x : Co} {vx : Value} (hx : CoAt B w.heap.size w vx x) (zx : Lm x) :
    Calls Tryz.prog 67 #[.pointer (some ⟨b, 0, none⟩), vx, .pointer none, .pointer none] w (Ends B w (pairC 17 (numC 0) x)) := by
  obtain ⟨bx, rfl⟩ := hx.ptr
  have c0 := hN.c0
  have NB : Hid (Calls Tryz.prog 112 #[.int .i64 0] w (Ends B w (numC 0))) := hide (cnumber_any 0 ⟨by decide, by decide⟩ hB hL)
  have PR : Hid (∀ w1 v1, Below w.heap.size w w1 → CoAt B w1.heap.size w1 v1 (numC 0) → Calls Tryz.prog 111 #[.int .i64 17, v1, .pointer (some ⟨bx, 0, none⟩)] w1 (Ends B w1 (pairC 17 (numC 0) x))) :=
    hide (fun w1 v1 hb h1 => pair_any 17 (Nat.le_trans hB hb.size) (hL.below hb (Nat.le_refl _)) h1 (hx.below hb) (Nat.le_trans num0_len (by decide)) (Nat.le_trans zx.1 (by decide)))
  have e14 : (p.op == 14) = false := by rw [ho]; rfl
  have e15 : (p.op == 15) = true := by rw [ho]; rfl
  clear hN hB hL hx zx ho
  go_enter Tryz.func67, Tryz.ntmps67
  go_wp2_with (first | (go_at_call 112; refine (unhide NB).mono ?_; rintro e w1 ⟨b1, rfl, k1, hb1⟩; have HB1 := hide hb1; have K1 := hide k1; clear hb1 k1) | (go_at_call 111; refine (unhide PR _ _ (unhide HB1) (unhide K1)).mono ?_; rintro e w2 ⟨b2, rfl, k2, hb2⟩; have HB2 := hide (below_any (unhide HB1) hb2); have K2 := hide k2; clear hb2 k2))
  go_ret
  exact ⟨b2, rfl, unhide K2, unhide HB2⟩

set_option maxHeartbeats 1000000 in
theorem cjoin_12 (lo : Nat) (p : Pay) (sv : Value) {B : Nat} {w : World} {b : Nat} (hB : B ≤ w.heap.size) (hL : LibOk w) (hN : NodeAt lo w b p sv) (ho : p.op = 12) {x y : Co} {vx vy : Value} (hx : CoAt B w.heap.size w vx x) (hy : CoAt B w.heap.size w vy y) (zx : Lm x) (zy : Lm y) :
    Calls Tryz.prog 67 #[.pointer (some ⟨b, 0, none⟩), vx, vy, .pointer none] w (Ends B w (pairC 10 y x)) := by
  obtain ⟨bx, rfl⟩ := hx.ptr
  obtain ⟨by', rfl⟩ := hy.ptr
  have c0 := hN.c0
  have PR : Hid (Calls Tryz.prog 111 #[.int .i64 10, .pointer (some ⟨by', 0, none⟩), .pointer (some ⟨bx, 0, none⟩)] w (Ends B w (pairC 10 y x))) :=
    hide (pair_any 10 hB hL hy hx (Nat.le_trans zy.1 (by decide)) (Nat.le_trans zx.1 (by decide)))
  have e14 : (p.op == 14) = false := by rw [ho]; rfl
  have e15 : (p.op == 15) = false := by rw [ho]; rfl
  have e12 : (p.op == 12) = true := by rw [ho]; rfl
  clear hN hB hL hx hy zx zy ho
  go_enter Tryz.func67, Tryz.ntmps67
  go_wp2_with (go_at_call 111; refine (unhide PR).mono ?_; rintro e w2 ⟨b2, rfl, k2, hb2⟩)
  go_ret
  exact ⟨b2, rfl, k2, hb2⟩

set_option maxHeartbeats 1000000 in
theorem cjoin_13 (lo : Nat) (p : Pay) (sv : Value) {B : Nat} {w : World} {b : Nat} (hB : B ≤ w.heap.size) (hL : LibOk w) (hN : NodeAt lo w b p sv) (ho : p.op = 13) {x y : Co} {vx vy : Value} (hx : CoAt B w.heap.size w vx x) (hy : CoAt B w.heap.size w vy y) (zx : Lm x) (zy : Lm y) :
    Calls Tryz.prog 67 #[.pointer (some ⟨b, 0, none⟩), vx, vy, .pointer none] w (Ends B w (pairC 11 y x)) := by
  obtain ⟨bx, rfl⟩ := hx.ptr
  obtain ⟨by', rfl⟩ := hy.ptr
  have c0 := hN.c0
  have PR : Hid (Calls Tryz.prog 111 #[.int .i64 11, .pointer (some ⟨by', 0, none⟩), .pointer (some ⟨bx, 0, none⟩)] w (Ends B w (pairC 11 y x))) :=
    hide (pair_any 11 hB hL hy hx (Nat.le_trans zy.1 (by decide)) (Nat.le_trans zx.1 (by decide)))
  have e14 : (p.op == 14) = false := by rw [ho]; rfl
  have e15 : (p.op == 15) = false := by rw [ho]; rfl
  have e12 : (p.op == 12) = false := by rw [ho]; rfl
  have e13 : (p.op == 13) = true := by rw [ho]; rfl
  clear hN hB hL hx hy zx zy ho
  go_enter Tryz.func67, Tryz.ntmps67
  go_wp2_with (go_at_call 111; refine (unhide PR).mono ?_; rintro e w2 ⟨b2, rfl, k2, hb2⟩)
  go_ret
  exact ⟨b2, rfl, k2, hb2⟩

set_option maxHeartbeats 1000000 in
theorem cjoin_9 (lo : Nat) (p : Pay) (sv : Value) {B : Nat} {w : World} {b : Nat} (hB : B ≤ w.heap.size) (hL : LibOk w) (hN : NodeAt lo w b p sv) (ho : p.op = 9) {x y : Co} {vx vy : Value} (hx : CoAt B w.heap.size w vx x) (hy : CoAt B w.heap.size w vy y) (zx : Lm x) (zy : Lm y) :
    Calls Tryz.prog 67 #[.pointer (some ⟨b, 0, none⟩), vx, vy, .pointer none] w (Ends B w (notC (pairC 8 x y))) := by
  obtain ⟨bx, rfl⟩ := hx.ptr
  obtain ⟨by', rfl⟩ := hy.ptr
  have c0 := hN.c0
  have z1 := zx.1
  have z2 := zy.1
  have PR : Hid (Calls Tryz.prog 111 #[.int .i64 8, .pointer (some ⟨bx, 0, none⟩), .pointer (some ⟨by', 0, none⟩)] w (Ends B w (pairC 8 x y))) :=
    hide (pair_any 8 hB hL hx hy (Nat.le_trans zx.1 (by decide)) (Nat.le_trans zy.1 (by decide)))
  have NT : Hid (∀ w1 v1, Below w.heap.size w w1 → CoAt B w1.heap.size w1 v1 (pairC 8 x y) → Calls Tryz.prog 113 #[v1] w1 (Ends B w1 (notC (pairC 8 x y)))) :=
    hide (fun w1 v1 hb h1 => not_every _ (wfC_pair rfl zx.2.2 zy.2.2) (by rw [spell_pair 8 rfl rfl, uC_pair]; have e8 : (signL 8).length = 1 := rfl; show _ + 7 * 1 ≤ _; omega) B w1 v1 (Nat.le_trans hB hb.size) (hL.below hb (Nat.le_refl _)) h1)
  have e14 : (p.op == 14) = false := by rw [ho]; rfl
  have e15 : (p.op == 15) = false := by rw [ho]; rfl
  have e12 : (p.op == 12) = false := by rw [ho]; rfl
  have e13 : (p.op == 13) = false := by rw [ho]; rfl
  have e9 : (p.op == 9) = true := by rw [ho]; rfl
  clear hN hB hL hx hy zx zy ho z1 z2
  go_enter Tryz.func67, Tryz.ntmps67
  go_wp2_with (first | (go_at_call 111; refine (unhide PR).mono ?_; rintro e w1 ⟨b1, rfl, k1, hb1⟩; have HB1 := hide hb1; have K1 := hide k1; clear hb1 k1) | (go_at_call 113; refine (unhide NT _ _ (unhide HB1) (unhide K1)).mono ?_; rintro e w2 ⟨b2, rfl, k2, hb2⟩; have HB2 := hide (below_any (unhide HB1) hb2); have K2 := hide k2; clear hb2 k2))
  go_ret
  exact ⟨b2, rfl, unhide K2, unhide HB2⟩

set_option maxHeartbeats 1000000 in
theorem cjoin_5 (lo : Nat) (p : Pay) (sv : Value) {B : Nat} {w : World} {b : Nat} (hB : B ≤ w.heap.size) (hL : LibOk w) (hN : NodeAt lo w b p sv) (ho : p.op = 5) {x : Co} {vx : Value} (hx : CoAt B w.heap.size w vx x) (zx : Lm x) :
    Calls Tryz.prog 67 #[.pointer (some ⟨b, 0, none⟩), vx, .pointer none, .pointer none] w (Ends B w (notC x)) := by
  obtain ⟨bx, rfl⟩ := hx.ptr
  have c0 := hN.c0
  have z1 := zx.1
  have z2 := zx.2.1
  have NT : Hid (Calls Tryz.prog 113 #[.pointer (some ⟨bx, 0, none⟩)] w (Ends B w (notC x))) := hide (not_every x zx.2.2 (by omega) B w _ hB hL hx)
  have e14 : (p.op == 14) = false := by rw [ho]; rfl
  have e15 : (p.op == 15) = false := by rw [ho]; rfl
  have e12 : (p.op == 12) = false := by rw [ho]; rfl
  have e13 : (p.op == 13) = false := by rw [ho]; rfl
  have e9 : (p.op == 9) = false := by rw [ho]; rfl
  have e5 : (p.op == 5) = true := by rw [ho]; rfl
  clear hN hB hL hx zx ho z1 z2
  go_enter Tryz.func67, Tryz.ntmps67
  go_wp2_with (go_at_call 113; refine (unhide NT).mono ?_; rintro e w2 ⟨b2, rfl, k2, hb2⟩)
  go_ret
  exact ⟨b2, rfl, k2, hb2⟩

set_option maxHeartbeats 1000000 in
theorem cjoin_20 (lo : Nat) (p : Pay) (sv : Value) {B : Nat} {w : World} {b : Nat} (hB : B ≤ w.heap.size) (hL : LibOk w) (hN : NodeAt lo w b p sv) (ho : p.op = 20) {x y z : Co} {vx vy vz : Value} (hx : CoAt B w.heap.size w vx x) (hy : CoAt B w.heap.size w vy y) (hz : CoAt B w.heap.size w vz z) (zx : Lm x) (zy : Lm y) (zz : Lm z) :
    Calls Tryz.prog 67 #[.pointer (some ⟨b, 0, none⟩), vx, vy, vz] w (Ends B w (pairC 6 (pairC 11 y x) (pairC 11 x z))) := by
  obtain ⟨bx, rfl⟩ := hx.ptr
  obtain ⟨by', rfl⟩ := hy.ptr
  obtain ⟨bz, rfl⟩ := hz.ptr
  have c0 := hN.c0
  have z1 := zx.1
  have z2 := zy.1
  have z3 := zz.1
  have P1 : Hid (Calls Tryz.prog 111 #[.int .i64 11, .pointer (some ⟨by', 0, none⟩), .pointer (some ⟨bx, 0, none⟩)] w (Ends B w (pairC 11 y x))) :=
    hide (pair_any 11 hB hL hy hx (by omega) (by omega))
  have P2 : Hid (∀ w1, Below w.heap.size w w1 → Calls Tryz.prog 111 #[.int .i64 11, .pointer (some ⟨bx, 0, none⟩), .pointer (some ⟨bz, 0, none⟩)] w1 (Ends B w1 (pairC 11 x z))) :=
    hide (fun w1 hb => pair_any 11 (Nat.le_trans hB hb.size) (hL.below hb (Nat.le_refl _)) (hx.below hb) (hz.below hb) (by omega) (by omega))
  have e11 : (signL 11).length = 2 := rfl
  have P3 : Hid (∀ w1 v1 v2, Below w.heap.size w w1 → CoAt B w1.heap.size w1 v1 (pairC 11 y x) → CoAt B w1.heap.size w1 v2 (pairC 11 x z) → Calls Tryz.prog 111 #[.int .i64 6, v1, v2] w1 (Ends B w1 (pairC 6 (pairC 11 y x) (pairC 11 x z)))) :=
    hide (fun w1 v1 v2 hb h1 h2 => pair_any 6 (Nat.le_trans hB hb.size) (hL.below hb (Nat.le_refl _)) h1 h2 (by rw [spell_pair 11 rfl rfl]; omega) (by rw [spell_pair 11 rfl rfl]; omega))
  have e14 : (p.op == 14) = false := by rw [ho]; rfl
  have e15 : (p.op == 15) = false := by rw [ho]; rfl
  have e12 : (p.op == 12) = false := by rw [ho]; rfl
  have e13 : (p.op == 13) = false := by rw [ho]; rfl
  have e9 : (p.op == 9) = false := by rw [ho]; rfl
  have e5 : (p.op == 5) = false := by rw [ho]; rfl
  have e20 : (p.op == 20) = true := by rw [ho]; rfl
  clear hN hB hL hx hy hz zx zy zz ho z1 z2 z3 e11
  go_enter Tryz.func67, Tryz.ntmps67
  go_wp2_with fail
  refine (unhide P1).mono ?_
  rintro e w1 ⟨b1, rfl, k1, hb1⟩
  have HB1 := hide hb1
  have K1 := hide k1
  clear hb1 k1
  go_wp2_with fail
  refine (unhide P2 _ (unhide HB1)).mono ?_
  rintro e w2 ⟨b2, rfl, k2, hb2⟩
  have HB2 := hide (below_any (unhide HB1) hb2)
  have K1' := hide ((unhide K1).below hb2)
  have K2 := hide k2
  clear hb2 k2
  go_wp2_with fail
  refine (unhide P3 _ _ _ (unhide HB2) (unhide K1') (unhide K2)).mono ?_
  rintro e w3 ⟨b3, rfl, k3, hb3⟩
  have HB3 := hide (below_any (unhide HB2) hb3)
  have K3 := hide k3
  clear hb3 k3
  go_wp2_with fail
  go_ret
  exact ⟨b3, rfl, unhide K3, unhide HB3⟩

set_option maxHeartbeats 1000000 in
theorem cjoin_two (lo : Nat) (p : Pay) (sv : Value) {B : Nat} {w : World} {b : Nat} (hB : B ≤ w.heap.size) (hL : LibOk w) (hN : NodeAt lo w b p sv) (h14 : ¬ p.op = 14) (h15 : ¬ p.op = 15) (h12 : ¬ p.op = 12) (h13 : ¬ p.op = 13) (h9 : ¬ p.op = 9) (h5 : ¬ p.op = 5) (h20 : ¬ p.op = 20) (h21 : ¬ p.op = 21) {x y : Co} {vx vy : Value} (hx : CoAt B w.heap.size w vx x) (hy : CoAt B w.heap.size w vy y) (zx : Lm x) (zy : Lm y) :
    Calls Tryz.prog 67 #[.pointer (some ⟨b, 0, none⟩), vx, vy, .pointer none] w (Ends B w (pairC p.op x y)) := by
  obtain ⟨bx, rfl⟩ := hx.ptr
  obtain ⟨by', rfl⟩ := hy.ptr
  have c0 := hN.c0
  have PR : Hid (Calls Tryz.prog 111 #[.int .i64 p.op, .pointer (some ⟨bx, 0, none⟩), .pointer (some ⟨by', 0, none⟩)] w (Ends B w (pairC p.op x y))) :=
    hide (pair_any p.op hB hL hx hy (Nat.le_trans zx.1 (by decide)) (Nat.le_trans zy.1 (by decide)))
  have e14 : (p.op == 14) = false := beq_eq_false_iff_ne.2 h14
  have e15 : (p.op == 15) = false := beq_eq_false_iff_ne.2 h15
  have e12 : (p.op == 12) = false := beq_eq_false_iff_ne.2 h12
  have e13 : (p.op == 13) = false := beq_eq_false_iff_ne.2 h13
  have e9 : (p.op == 9) = false := beq_eq_false_iff_ne.2 h9
  have e5 : (p.op == 5) = false := beq_eq_false_iff_ne.2 h5
  have e20 : (p.op == 20) = false := beq_eq_false_iff_ne.2 h20
  have e21 : (p.op == 21) = false := beq_eq_false_iff_ne.2 h21
  clear hN hB hL hx hy zx zy h14 h15 h12 h13 h9 h5 h20 h21
  go_enter Tryz.func67, Tryz.ntmps67
  go_wp2_with (go_at_call 111; refine (unhide PR).mono ?_; rintro e w2 ⟨b2, rfl, k2, hb2⟩)
  go_ret
  exact ⟨b2, rfl, k2, hb2⟩

set_option maxHeartbeats 1000000 in
set_option maxRecDepth 100000 in
/-- What is left over is spelled as it is. -/
theorem cjoin_rest (lo : Nat) (p : Pay) (sv : Value) {B : Nat} {w : World} {b : Nat} (hN : NodeAt lo w b p sv) (h14 : ¬ p.op = 14) (h15 : ¬ p.op = 15) (h12 : ¬ p.op = 12) (h13 : ¬ p.op = 13) (h9 : ¬ p.op = 9) (h5 : ¬ p.op = 5) (h20 : ¬ p.op = 20) (h21 : ¬ p.op = 21) (c : Co) (la : Option Addr)
    (hS : ∀ w1, Below w.heap.size w w1 → Calls Tryz.prog 115 #[.agg #[.int .i64 p.op, .pointer la, .pointer none, .int .i64 p.num, .string (BS p.str), .string (BS p.esc), .string ⟨#[]⟩]] w1 (Ends B w1 c)) :
    Calls Tryz.prog 67 #[.pointer (some ⟨b, 0, none⟩), .pointer la, .pointer none, .pointer none] w (Ends B w c) := by
  have c0 := hN.c0
  have c3 := hN.c3
  have c4 := hN.c4
  have c5 := hN.c5
  have hbw := hN.within
  have S := hide hS
  have HB : Hid (Below w.heap.size w w.drew) := hide (Below.refl _ _).drew
  have e14 : (p.op == 14) = false := beq_eq_false_iff_ne.2 h14
  have e15 : (p.op == 15) = false := beq_eq_false_iff_ne.2 h15
  have e12 : (p.op == 12) = false := beq_eq_false_iff_ne.2 h12
  have e13 : (p.op == 13) = false := beq_eq_false_iff_ne.2 h13
  have e9 : (p.op == 9) = false := beq_eq_false_iff_ne.2 h9
  have e5 : (p.op == 5) = false := beq_eq_false_iff_ne.2 h5
  have e20 : (p.op == 20) = false := beq_eq_false_iff_ne.2 h20
  have e21 : (p.op == 21) = false := beq_eq_false_iff_ne.2 h21
  clear hN hS h14 h15 h12 h13 h9 h5 h20 h21
  go_enter Tryz.func67, Tryz.ntmps67
  go_wp2_with fail
  go_region_held3 (fun W => W.cell? ⟨b, 0, none⟩ = some (.int .i64 p.op) ∧ W.cell? ⟨b, 3, none⟩ = some (.int .i64 p.num) ∧ W.cell? ⟨b, 4, none⟩ = some (.string (BS p.str)) ∧ W.cell? ⟨b, 5, none⟩ = some (.string (BS p.esc))) (go_keep) (first | (go_at_call 115; refine (unhide S _ (unhide HB)).mono ?_; rintro e w3 ⟨b3, rfl, k3, hb3⟩; have HB3 := hide (below_any (unhide HB) hb3); have d0 := ((unhide HB3).cell (p := ⟨b, 0, none⟩) hbw).trans c0; have d3 := ((unhide HB3).cell (p := ⟨b, 3, none⟩) hbw).trans c3; have d4 := ((unhide HB3).cell (p := ⟨b, 4, none⟩) hbw).trans c4; have d5 := ((unhide HB3).cell (p := ⟨b, 5, none⟩) hbw).trans c5; have K3 := hide k3; clear k3 hb3))
  all_goals (go_wp2_with fail; go_ret; exact ⟨b3, rfl, unhide K3, unhide HB3⟩)
end

section
/-- The contract of among. -/
def AmongOk : Prop := ∀ (lo B : Nat) (w : World) (x : Co) (vx tv : Value) (ts : List (List UInt8)), B ≤ w.heap.size → LibOk w → CoAt B w.heap.size w vx x → TextsAt lo w tv ts → ts ≠ [] → ts.length ≤ 200 → (∀ t ∈ ts, t.length ≤ 200) → (spell x).length ≤ 402 →
  Calls Tryz.prog 114 #[vx, tv] w (Ends B w (amongC x ts))

def HasIn : Ast → Prop
  | .leaf _ => False
  | .un p x => p.op = 21 ∨ HasIn x
  | .bin _ x y => HasIn x ∨ HasIn y
  | .tri _ x y z => HasIn x ∨ HasIn y ∨ HasIn z

set_option maxHeartbeats 1000000 in
theorem cjoin_21 (hA : AmongOk) (lo : Nat) (p : Pay) (sv : Value) {B : Nat} {w : World} {b : Nat} (hB : B ≤ w.heap.size) (hL : LibOk w) (hN : NodeAt lo w b p sv) (ho : p.op = 21) {x : Co} {vx : Value} (hx : CoAt B w.heap.size w vx x) (hne : p.texts ≠ []) (hz : p.texts.length ≤ 200) (ht : ∀ t ∈ p.texts, t.length ≤ 200) (zx : (spell x).length ≤ 402) :
    Calls Tryz.prog 67 #[.pointer (some ⟨b, 0, none⟩), vx, .pointer none, .pointer none] w (Ends B w (amongC x p.texts)) := by
  obtain ⟨bx, rfl⟩ := hx.ptr
  have c0 := hN.c0
  obtain ⟨tv, c6, htv⟩ := hN.c6
  have AM : Hid (Calls Tryz.prog 114 #[.pointer (some ⟨bx, 0, none⟩), tv] w (Ends B w (amongC x p.texts))) := hide (hA lo B w x _ tv _ hB hL hx htv hne hz ht zx)
  obtain ⟨ta, tn, tc, rfl⟩ : ∃ a n c, tv = .slice a n c := by
    rcases htv with ⟨_, rfl⟩ | ⟨g, cap, rfl, _⟩
    · exact ⟨_, _, _, rfl⟩
    · exact ⟨_, _, _, rfl⟩
  have e14 : (p.op == 14) = false := by rw [ho]; rfl
  have e15 : (p.op == 15) = false := by rw [ho]; rfl
  have e12 : (p.op == 12) = false := by rw [ho]; rfl
  have e13 : (p.op == 13) = false := by rw [ho]; rfl
  have e9 : (p.op == 9) = false := by rw [ho]; rfl
  have e5 : (p.op == 5) = false := by rw [ho]; rfl
  have e20 : (p.op == 20) = false := by rw [ho]; rfl
  have e21 : (p.op == 21) = true := by rw [ho]; rfl
  clear hN hB hL hx zx ho hne hz ht htv hA
  go_enter Tryz.func67, Tryz.ntmps67
  go_wp2_with (go_at_call 114; refine (unhide AM).mono ?_; rintro e w2 ⟨b2, rfl, k2, hb2⟩)
  go_ret
  exact ⟨b2, rfl, k2, hb2⟩

/-- All that is known of a selector's term. -/
structure Ok (t : Ast) : Prop where
  gd : GdA t
  nd : ndA t ≤ 200
  sh : ShA t
  num : NumA t
  bnd : BndA t
  bq : BqA t
theorem ok_of_read {s : ByteArray} {t : Ast} (h : readR s = .ok t) : Ok t := by
  obtain ⟨a, b, c, d, e, f⟩ := gd_of_read h
  exact ⟨a, b, c, d, e, f⟩
theorem Ok.side {t x : Ast} (h : Ok t) (hx : x ∈ sidesA t) : Ok x := by
  obtain ⟨g, n, s, u, b, q⟩ := h
  cases t with
  | leaf p => simp [sidesA] at hx
  | un p y =>
    simp [sidesA] at hx; subst hx
    have : ndA (.un p x) = 1 + p.texts.length + ndA x := rfl
    exact ⟨g.2, by omega, s.2.2.2, u.2, b.2, q.2⟩
  | bin p y z =>
    have : ndA (.bin p y z) = 1 + ndA y + ndA z := rfl
    simp [sidesA] at hx
    rcases hx with rfl | rfl
    · exact ⟨g.2.1, by omega, s.2.1, u.2.1, b.2.1, q.2.1⟩
    · exact ⟨g.2.2, by omega, s.2.2, u.2.2, b.2.2, q.2.2⟩
  | tri p y z v =>
    have : ndA (.tri p y z v) = 1 + ndA y + ndA z + ndA v := rfl
    simp [sidesA] at hx
    rcases hx with rfl | rfl | rfl
    · exact ⟨g.2.1, by omega, s.2.1, u.2.1, b.2.1, q.2.1⟩
    · exact ⟨g.2.2.1, by omega, s.2.2.1, u.2.2.1, b.2.2.1, q.2.2.1⟩
    · exact ⟨g.2.2.2, by omega, s.2.2.2, u.2.2.2, b.2.2.2, q.2.2.2⟩
theorem Ok.lm {t : Ast} (h : Ok t) : Lm (coreA t) := h.gd.gd.lm h.nd

/-- A side's core, or nil where there is none. -/
def SideIs (B : Nat) (w : World) (t : Ast) (j : Nat) (v : Value) : Prop := match (sidesA t)[j]? with
  | some x => CoAt B w.heap.size w v (coreA x)
  | none => v = .pointer none

theorem cjoin_all (t : Ast) (hA : HasIn t → AmongOk) (hok : Ok t) (lo : Nat) (sv : Value) {B : Nat} {w : World} {b : Nat} (hB : B ≤ w.heap.size) (hL : LibOk w) (hN : NodeAt lo w b (payA t) sv) {v0 v1 v2 : Value} (h0 : SideIs B w t 0 v0) (h1 : SideIs B w t 1 v1) (h2 : SideIs B w t 2 v2) :
    Calls Tryz.prog 67 #[.pointer (some ⟨b, 0, none⟩), v0, v1, v2] w (Ends B w (coreA t)) := by
  cases t with
  | leaf p =>
    have h0 : v0 = .pointer none := h0
    have h1 : v1 = .pointer none := h1
    have h2 : v2 = .pointer none := h2
    subst h0 h1 h2
    have hs : 0 ≤ p.op ∧ p.op ≤ 4 := hok.sh
    exact cjoin_rest lo p sv hN (by omega) (by omega) (by omega) (by omega) (by omega) (by omega) (by omega) (by omega) (.leaf (cpOf p)) none
      (fun w1 hb => spelled_leaf (cpOf p) (by unfold leafB cpOf; simp only [Bool.or_eq_true, beq_iff_eq]; omega) hok.num (Nat.le_trans hok.bnd.1 (by decide)) (Nat.le_trans hok.bq.1 (by decide)) (Nat.le_trans hB hb.size) (hL.below hb (Nat.le_refl _)))
  | un p x =>
    have h0 : CoAt B w.heap.size w v0 (coreA x) := h0
    have h1 : v1 = .pointer none := h1
    have h2 : v2 = .pointer none := h2
    subst h1 h2
    have hx := hok.side (x := x) (by simp [sidesA])
    have zx := hx.lm
    have hnd : 1 + p.texts.length + ndA x ≤ 200 := hok.nd
    rcases hok.sh.1 with e | e | e | e | e | e
    · rw [show coreA (.un p x) = notC (coreA x) by rw [coreA, e]; rfl]
      exact cjoin_5 lo p sv hB hL hN e h0 zx
    · rw [show coreA (.un p x) = pairC 16 (numC 0) (coreA x) by rw [coreA, e]; rfl]
      exact cjoin_14 lo p sv hB hL hN e h0 zx
    · rw [show coreA (.un p x) = pairC 17 (numC 0) (coreA x) by rw [coreA, e]; rfl]
      exact cjoin_15 lo p sv hB hL hN e h0 zx
    · rw [show coreA (.un p x) = amongC (coreA x) p.texts by rw [coreA, e]; rfl]
      obtain ⟨q, rfl, hq0⟩ := leaf_of_name hok.sh.2.2.2 (hok.sh.2.2.1 (by omega))
      exact cjoin_21 (hA (.inl e)) lo p sv hB hL hN e h0 (hok.sh.2.1 e) (by omega) hok.bq.1.2 (leaf_len (cpOf q) hok.bnd.2.1 hok.num.2 (by unfold leafB; simp [cpOf, hq0]))
    all_goals
      obtain ⟨bx, rfl⟩ := h0.ptr
      rw [show coreA (.un p x) = .un (cpOf p) (coreA x) by rw [coreA, e]; rfl]
      exact cjoin_rest lo p sv hN (by omega) (by omega) (by omega) (by omega) (by omega) (by omega) (by omega) (by omega) (.un (cpOf p) (coreA x)) (some ⟨bx, 0, none⟩)
        (fun w1 hb => spelled_one (cpOf p) (by unfold unB; simp [cpOf, e]) hok.num.1 (Nat.le_trans hok.bnd.1.1 (by decide)) (Nat.le_trans hok.bq.1.1 (by decide)) (Nat.le_trans hB hb.size) (hL.below hb (Nat.le_refl _)) (h0.below hb) (Nat.le_trans zx.1 (by decide)))
  | bin p x y =>
    have h0 : CoAt B w.heap.size w v0 (coreA x) := h0
    have h1 : CoAt B w.heap.size w v1 (coreA y) := h1
    have h2 : v2 = .pointer none := h2
    subst h2
    have zx := (hok.side (x := x) (by simp [sidesA])).lm
    have zy := (hok.side (x := y) (by simp [sidesA])).lm
    by_cases h12 : p.op = 12
    · rw [show coreA (.bin p x y) = pairC 10 (coreA y) (coreA x) by rw [coreA, h12]; rfl]
      exact cjoin_12 lo p sv hB hL hN h12 h0 h1 zx zy
    by_cases h13 : p.op = 13
    · rw [show coreA (.bin p x y) = pairC 11 (coreA y) (coreA x) by rw [coreA, h13]; rfl]
      exact cjoin_13 lo p sv hB hL hN h13 h0 h1 zx zy
    by_cases h9 : p.op = 9
    · rw [show coreA (.bin p x y) = notC (pairC 8 (coreA x) (coreA y)) by rw [coreA, h9]; rfl]
      exact cjoin_9 lo p sv hB hL hN h9 h0 h1 zx zy
    rw [show coreA (.bin p x y) = pairC p.op (coreA x) (coreA y) by rw [coreA, if_neg (by simpa using h12), if_neg (by simpa using h13), if_neg (by simpa using h9)]]
    have := hok.sh.1
    exact cjoin_two lo p sv hB hL hN (by omega) (by omega) h12 h13 h9 (by omega) (by omega) (by omega) h0 h1 zx zy
  | tri p x y z =>
    have h0 : CoAt B w.heap.size w v0 (coreA x) := h0
    have h1 : CoAt B w.heap.size w v1 (coreA y) := h1
    have h2 : CoAt B w.heap.size w v2 (coreA z) := h2
    exact cjoin_20 lo p sv hB hL hN hok.sh.1 h0 h1 h2 (hok.side (x := x) (by simp [sidesA])).lm (hok.side (x := y) (by simp [sidesA])).lm (hok.side (x := z) (by simp [sidesA])).lm
end

section
/-- The contract of Of, at one term. -/
def CofOk (lo : Nat) (t : Ast) : Prop := ∀ (B : Nat) (w : World) (v : Value), B ≤ w.heap.size → LibOk w → IsNode lo w v t → Calls Tryz.prog 40 #[v] w (Ends B w (coreA t))

theorem CellsC.lower {B B' E : Nat} {w : World} {b : Nat} {p : CP} {l r : Value} {t : List UInt8} (h : CellsC B' E w b p l r t) (hB : B ≤ B') : CellsC B E w b p l r t :=
  ⟨Nat.le_trans hB h.lo, h.hi, h.within, h.c0, h.c1, h.c2, h.c3, h.c4, h.c5, h.c6⟩
theorem CoAt.lower {B B' E : Nat} {w : World} (hB : B ≤ B') : ∀ {c : Co} {v : Value}, CoAt B' E w v c → CoAt B E w v c := by
  intro c
  induction c with
  | leaf p => rintro v ⟨b, rfl, h⟩; exact ⟨b, rfl, h.lower hB⟩
  | un p x ih => rintro v ⟨b, vx, rfl, h, hx⟩; exact ⟨b, vx, rfl, h.lower hB, ih hx⟩
  | bin p x y ihx ihy => rintro v ⟨b, vx, vy, rfl, h, hx, hy⟩; exact ⟨b, vx, vy, rfl, h.lower hB, ihx hx, ihy hy⟩
theorem CoAt.set {B : Nat} {w : World} {c : Co} {v : Value} (h : CoAt B w.heap.size w v c) {p : Addr} (hp : p.block < B) (u : Value) : CoAt B (w.setCell p u).heap.size (w.setCell p u) v c := by
  have hz := size_setCell w p u
  exact h.keep (by rw [hz]; exact Nat.le_refl _) (fun k hk _ => Below.heap_setCell w p u k (by omega)) (by rw [hz]; exact Nat.le_refl _)

def SideK (B : Nat) (w : World) (t : Ast) (k j : Nat) (v : Value) : Prop := (j < k ∧ SideIs B w t j v) ∨ (¬ j < k ∧ v = .pointer none)
theorem SideIs.set {B : Nat} {w w1 : World} {t : Ast} {j : Nat} {v : Value} (h : SideIs B w t j v) (hb : Below w.heap.size w w1) {p : Addr} (hp : p.block < B) (u : Value) : SideIs B (w1.setCell p u) t j v := by
  unfold SideIs at h ⊢
  cases hx : (sidesA t)[j]? with
  | none => rw [hx] at h; exact h
  | some x => rw [hx] at h; exact (h.below hb).set hp u
theorem SideK.old {B : Nat} {w w1 : World} {t : Ast} {k j : Nat} {v : Value} (h : SideK B w t k j v) (hj : j ≠ k) (hb : Below w.heap.size w w1) {p : Addr} (hp : p.block < B) (u : Value) : SideK B (w1.setCell p u) t (k + 1) j v := by
  rcases h with ⟨h1, h2⟩ | ⟨h1, h2⟩
  · exact .inl ⟨by omega, h2.set hb hp u⟩
  · exact .inr ⟨by omega, h2⟩
theorem SideK.new {B : Nat} {w1 : World} {t x : Ast} {k : Nat} {v : Value} (hx : (sidesA t)[k]? = some x) (h : CoAt B w1.heap.size w1 v (coreA x)) {p : Addr} (hp : p.block < B) (u : Value) : SideK B (w1.setCell p u) t (k + 1) k v := by
  refine .inl ⟨by omega, ?_⟩
  unfold SideIs
  rw [hx]
  exact h.set hp u
theorem SideK.done {B : Nat} {w : World} {t : Ast} {j : Nat} {v : Value} (h : SideK B w t (sidesA t).length j v) : SideIs B w t j v := by
  rcases h with ⟨_, h2⟩ | ⟨h1, h2⟩
  · exact h2
  · unfold SideIs
    rw [List.getElem?_eq_none (by omega)]
    exact h2

set_option maxHeartbeats 2000000 in
set_option maxRecDepth 100000 in
theorem cof_step (lo : Nat) (t : Ast) (hA : HasIn t → AmongOk) (hok : Ok t) (hsub : ∀ x ∈ sidesA t, CofOk lo x) : CofOk lo t := by
  intro B w v hB hL h
  suffices hs : Calls Tryz.prog 40 #[v] w (Ends (w.heap.size + 1) w (coreA t)) by
    refine hs.mono ?_
    rintro e w' ⟨b, rfl, hc, hb⟩
    exact ⟨b, rfl, hc.lower (by omega), hb⟩
  have HNODE := hide h
  obtain ⟨b, sv, rfl, hnode, hsides⟩ := h.parts
  obtain ⟨a, rfl, hside⟩ := hsides.any
  have hn3 := sides_len t
  have c2 := hnode.c2
  have hbw := hnode.within
  obtain ⟨n, hn⟩ : ∃ n, (sidesA t).length = n := ⟨_, rfl⟩
  rw [hn] at c2 hn3
  have HN := hide hn
  have HS := hide hside
  have HSUB := hide hsub
  have HND := hide hnode
  have HL := hide hL
  have JN : Hid (∀ wr v0 v1 v2, Below w.heap.size w wr → w.heap.size < wr.heap.size → SideIs (w.heap.size + 1) wr t 0 v0 → SideIs (w.heap.size + 1) wr t 1 v1 → SideIs (w.heap.size + 1) wr t 2 v2 → Calls Tryz.prog 67 #[.pointer (some ⟨b, 0, none⟩), v0, v1, v2] wr (Ends (w.heap.size + 1) wr (coreA t))) :=
    hide (fun wr v0 v1 v2 hb hz h0 h1 h2 => cjoin_all t hA hok lo _ (by omega) (hL.below hb (Nat.le_refl _)) (hnode.kept (Kept.of_below hb)) h0 h1 h2)
  clear hsides h hn hside hsub hnode hA hok hL hB
  go_enter Tryz.func40, Tryz.ntmps40
  go_wp2_with fail
  go_loopw [11] (fun i wr => ∃ (k : Nat) (v0 v1 v2 : Value), k ≤ n ∧ i = .int .i64 k ∧ Hid (SideK (w.heap.size + 1) wr t k 0 v0 ∧ SideK (w.heap.size + 1) wr t k 1 v1 ∧ SideK (w.heap.size + 1) wr t k 2 v2) ∧ wr.cell? ⟨w.heap.size, 0, none⟩ = some v0 ∧ wr.cell? ⟨w.heap.size, 1, none⟩ = some v1 ∧ wr.cell? ⟨w.heap.size, 2, none⟩ = some v2 ∧ (∀ j, wr.frozen? ⟨w.heap.size, j, none⟩ = false) ∧ w.heap.size < wr.heap.size ∧ Hid (Below w.heap.size w wr)) (fun i _ => n - (intOf i).toNat)
  case atStart => exact ⟨0, .pointer none, .pointer none, .pointer none, Nat.zero_le _, rfl, hide ⟨.inr ⟨by omega, rfl⟩, .inr ⟨by omega, rfl⟩, .inr ⟨by omega, rfl⟩⟩, by simp, by simp, by simp, fun j => by simp, by simp, hide ((Below.refl _ _).alloc (Nat.le_refl _) _)⟩
  case round =>
    obtain ⟨k, v0, v1, v2, hk, rfl, hat, a0, a1, a2, fz, hzr, hbel⟩ := hrel
    by_cases hlt : k < n
    · obtain ⟨x, hx⟩ : ∃ x, (sidesA t)[k]? = some x := ⟨_, List.getElem?_eq_getElem (by rw [unhide HN]; exact hlt)⟩
      obtain ⟨g, bx, rfl, hg1, hg2, hcx, hnx⟩ := unhide HS k x hx
      have dx := ((unhide hbel).cell (p := ⟨g, k, none⟩) hg2).trans hcx
      have CX := hide (unhide HSUB x (List.mem_of_getElem? hx) (w.heap.size + 1) wr _ (by omega) ((unhide HL).below (unhide hbel) (Nat.le_refl _)) (hnx.kept (Kept.of_below (unhide hbel))))
      have HX := hide hx
      clear hx hnx hcx
      rcases (show k = 0 ∨ k = 1 ∨ k = 2 by omega) with rfl | rfl | rfl
      · go_wp2_with (go_at_call 40; refine (unhide CX).mono ?_; rintro e w1 ⟨b1, rfl, k1, hb1⟩; obtain ⟨hc1, hf1⟩ := bcell hb1; have hz1 : w.heap.size < w1.heap.size := (by have := hb1.size; omega); have q0 : w1.cell? ⟨w.heap.size, 0, none⟩ = some v0 := (hc1 _ 0 hzr).trans a0; have q1 : w1.cell? ⟨w.heap.size, 1, none⟩ = some v1 := (hc1 _ 1 hzr).trans a1; have q2 : w1.cell? ⟨w.heap.size, 2, none⟩ = some v2 := (hc1 _ 2 hzr).trans a2; have f1 : ∀ j, w1.frozen? ⟨w.heap.size, j, none⟩ = false := (fun j => (hf1 _ j hzr).trans (fz j)); have HB1 := hide hb1; have K1 := hide k1; clear hc1 hf1 hb1 k1)
        go_roundw
        case rel => exact ⟨1, _, v1, v2, by omega, by go_num, hide ⟨SideK.new (unhide HX) (unhide K1) (by simp) _, (unhide hat).2.1.old (by decide) (unhide HB1) (by simp) _, (unhide hat).2.2.old (by decide) (unhide HB1) (by simp) _⟩, by simp [go_sem, q0], by simp [go_sem, q1], by simp [go_sem, q2], fun j => by simp [go_sem, f1], by simpa using hz1, hide ((below_any (unhide hbel) (unhide HB1)).setCell (by simp) _)⟩
        case measure => simp [intOf]; omega
      · go_wp2_with (go_at_call 40; refine (unhide CX).mono ?_; rintro e w1 ⟨b1, rfl, k1, hb1⟩; obtain ⟨hc1, hf1⟩ := bcell hb1; have hz1 : w.heap.size < w1.heap.size := (by have := hb1.size; omega); have q0 : w1.cell? ⟨w.heap.size, 0, none⟩ = some v0 := (hc1 _ 0 hzr).trans a0; have q1 : w1.cell? ⟨w.heap.size, 1, none⟩ = some v1 := (hc1 _ 1 hzr).trans a1; have q2 : w1.cell? ⟨w.heap.size, 2, none⟩ = some v2 := (hc1 _ 2 hzr).trans a2; have f1 : ∀ j, w1.frozen? ⟨w.heap.size, j, none⟩ = false := (fun j => (hf1 _ j hzr).trans (fz j)); have HB1 := hide hb1; have K1 := hide k1; clear hc1 hf1 hb1 k1)
        go_roundw
        case rel => exact ⟨2, v0, _, v2, by omega, by go_num, hide ⟨(unhide hat).1.old (by decide) (unhide HB1) (by simp) _, SideK.new (unhide HX) (unhide K1) (by simp) _, (unhide hat).2.2.old (by decide) (unhide HB1) (by simp) _⟩, by simp [go_sem, q0], by simp [go_sem, q1], by simp [go_sem, q2], fun j => by simp [go_sem, f1], by simpa using hz1, hide ((below_any (unhide hbel) (unhide HB1)).setCell (by simp) _)⟩
        case measure => simp [intOf]; omega
      · go_wp2_with (go_at_call 40; refine (unhide CX).mono ?_; rintro e w1 ⟨b1, rfl, k1, hb1⟩; obtain ⟨hc1, hf1⟩ := bcell hb1; have hz1 : w.heap.size < w1.heap.size := (by have := hb1.size; omega); have q0 : w1.cell? ⟨w.heap.size, 0, none⟩ = some v0 := (hc1 _ 0 hzr).trans a0; have q1 : w1.cell? ⟨w.heap.size, 1, none⟩ = some v1 := (hc1 _ 1 hzr).trans a1; have q2 : w1.cell? ⟨w.heap.size, 2, none⟩ = some v2 := (hc1 _ 2 hzr).trans a2; have f1 : ∀ j, w1.frozen? ⟨w.heap.size, j, none⟩ = false := (fun j => (hf1 _ j hzr).trans (fz j)); have HB1 := hide hb1; have K1 := hide k1; clear hc1 hf1 hb1 k1)
        go_roundw
        case rel => exact ⟨3, v0, v1, _, by omega, by go_num, hide ⟨(unhide hat).1.old (by decide) (unhide HB1) (by simp) _, (unhide hat).2.1.old (by decide) (unhide HB1) (by simp) _, SideK.new (unhide HX) (unhide K1) (by simp) _⟩, by simp [go_sem, q0], by simp [go_sem, q1], by simp [go_sem, q2], fun j => by simp [go_sem, f1], by simpa using hz1, hide ((below_any (unhide hbel) (unhide HB1)).setCell (by simp) _)⟩
        case measure => simp [intOf]; omega
    · have hkn : k = (sidesA t).length := by have := unhide HN; omega
      have HD := hide (hkn ▸ unhide hat)
      have HJ := hide (unhide JN wr v0 v1 v2 (unhide hbel) hzr (unhide HD).1.done (unhide HD).2.1.done (unhide HD).2.2.done)
      clear hkn hat HD
      go_wp2_with (go_at_call 67; refine (unhide HJ).mono ?_; rintro e w1 ⟨b1, rfl, k1, hb1⟩; have HB1 := hide (below_any (unhide hbel) hb1); have K1 := hide k1; clear hb1 k1)
      go_ret
      exact ⟨b1, rfl, unhide K1, unhide HB1⟩

theorem cof_every (lo : Nat) : ∀ t, (HasIn t → AmongOk) → Ok t → CofOk lo t := by
  intro t
  induction t with
  | leaf p => intro hA hok; exact cof_step lo _ hA hok (fun x hx => by simp [sidesA] at hx)
  | un p x ih =>
    intro hA hok
    refine cof_step lo _ hA hok (fun y hy => ?_)
    have hy' := hy
    simp [sidesA] at hy
    subst hy
    exact ih (fun h => hA (.inr h)) (hok.side hy')
  | bin p x y ihx ihy =>
    intro hA hok
    refine cof_step lo _ hA hok (fun z hz => ?_)
    have hz' := hz
    simp [sidesA] at hz
    rcases hz with rfl | rfl
    · exact ihx (fun h => hA (.inl h)) (hok.side hz')
    · exact ihy (fun h => hA (.inr h)) (hok.side hz')
  | tri p x y z ihx ihy ihz =>
    intro hA hok
    refine cof_step lo _ hA hok (fun u hu => ?_)
    have hu' := hu
    simp [sidesA] at hu
    rcases hu with rfl | rfl | rfl
    · exact ihx (fun h => hA (.inl h)) (hok.side hu')
    · exact ihy (fun h => hA (.inr (.inl h))) (hok.side hu')
    · exact ihz (fun h => hA (.inr (.inr h))) (hok.side hu')
end

section
open Go.RowKit Go.Sort Go.Shelf

def tCells (ts : List (List UInt8)) : List Value := ts.map encStr
/-- A row of texts that the program owns. -/
def TxRow (w : World) (base : Nat) (v : Value) (ts : List (List UInt8)) : Prop := w.ownsRow base 9 1 v ts.length (tCells ts)

set_option maxHeartbeats 1000000 in
theorem values_any (a : Option Addr) (n cap : Nat) (w : World) : Calls Tryz.prog 167 #[.slice a n cap] w fun e w' => e = .returned (.func (.func 208) #[] #[.pointer (some ⟨w.heap.size, 0, none⟩)]) ∧ w' = w.alloc (.cells #[.slice a n cap] 62) := by
  have hmf : ∀ (fn : Fn) (first cap : Array Value) (w : World), (Instr.makeFunc fn first cap).run Tryz.prog w = .ok (.func fn first cap) w := fun _ _ _ _ => rfl
  go_enter Tryz.func167, Tryz.ntmps167
  go_wp2_with fail
  go_ret
  exact ⟨rfl, rfl⟩

set_option maxHeartbeats 1000000 in
theorem collect_any (Bs b cap : Nat) (ts : List (List UInt8)) (hne : ts ≠ []) (hlen : ts.length ≤ 1000) (w : World) (hb : b < w.heap.size) (hBs : Bs < w.heap.size)
    (hc : w.cell? ⟨Bs, 0, none⟩ = some (.slice (some ⟨b, 0, none⟩) ts.length cap)) (hcs : ∀ j, j < ts.length → w.cell? ⟨b, j, none⟩ = some (.string (BS (ts[j]?.getD [])))) :
    Calls Tryz.prog 206 #[.func (.func 208) #[] #[.pointer (some ⟨Bs, 0, none⟩)]] w fun e w' => ∃ g c, e = .returned (.slice (some ⟨g, 0, none⟩) ts.length c) ∧ TxRow w' w.heap.size (.slice (some ⟨g, 0, none⟩) ts.length c) ts ∧ Below w.heap.size w w' := by
  have A : Hid (Calls Tryz.prog 251 #[.slice none 0 0, .func (.func 208) #[] #[.pointer (some ⟨Bs, 0, none⟩)]] w fun e w' => ∃ g c, e = .returned (.slice (some ⟨g, 0, none⟩) ts.length c) ∧ TxRow w' w.heap.size (.slice (some ⟨g, 0, none⟩) ts.length c) ts ∧ Below w.heap.size w w') := hide (((callsIn_wide (n := 5)).1 (appendSeq_in 5 (by omega) Bs b cap ts hlen w hb hBs hc hcs)).mono (by
    rintro e w' ⟨v, rfl, h1, h2⟩
    rcases row_forms h1 with ⟨_, h0⟩ | ⟨g, c, rfl⟩
    · exact absurd (List.eq_nil_of_length_eq_zero h0) hne
    · exact ⟨g, c, rfl, h1, h2⟩))
  clear hc hcs
  go_enter Tryz.func206, Tryz.ntmps206
  go_wp2_with (go_at_call 251; refine (unhide A).mono ?_; rintro e w1 ⟨g, c, rfl, h1, h2⟩; have H1 := hide h1; have H2 := hide h2; clear h1 h2)
  go_ret
  exact ⟨g, c, rfl, unhide H1, unhide H2⟩

/-- The texts in their order, as Sorted lays them. -/
def ordT (ts : List (List UInt8)) : List (List UInt8) := ts.mergeSort fun x y => decide (x ≤ y)
theorem ordT_length (ts : List (List UInt8)) : (ordT ts).length = ts.length := List.length_mergeSort ts

set_option maxHeartbeats 1000000 in
theorem sorted_any (Bs b cap : Nat) (ts : List (List UInt8)) (hne : ts ≠ []) (hlen : ts.length ≤ 1000) (w : World) (hb : b < w.heap.size) (hBs : Bs < w.heap.size)
    (hc : w.cell? ⟨Bs, 0, none⟩ = some (.slice (some ⟨b, 0, none⟩) ts.length cap)) (hcs : ∀ j, j < ts.length → w.cell? ⟨b, j, none⟩ = some (.string (BS (ts[j]?.getD [])))) :
    Calls Tryz.prog 166 #[.func (.func 208) #[] #[.pointer (some ⟨Bs, 0, none⟩)]] w fun e w' => ∃ g c, e = .returned (.slice (some ⟨g, 0, none⟩) ts.length c) ∧ TxRow w' w.heap.size (.slice (some ⟨g, 0, none⟩) ts.length c) (ordT ts) ∧ Below w.heap.size w w' := by
  have CO := hide (collect_any Bs b cap ts hne hlen w hb hBs hc hcs)
  have SO : Hid (∀ g c w1, TxRow w1 w.heap.size (.slice (some ⟨g, 0, none⟩) ts.length c) ts → Below w.heap.size w w1 → Calls Tryz.prog 207 #[.slice (some ⟨g, 0, none⟩) ts.length c] w1 fun e w' => e = .returned (.tuple #[]) ∧ Hid (TxRow w' w.heap.size (.slice (some ⟨g, 0, none⟩) ts.length c) (ordT ts) ∧ Below w.heap.size w w')) := hide (by
    intro g c w1 h1 h2
    obtain ⟨hbg, hnc, hcm, cur, hcur, hcs', hct⟩ := ownsRow_cur h1
    rw [Nat.mul_one] at hct
    have hH : Holds encStr w1 g 0 ts.toArray := holds_of_block hcur hct
    refine (Tryz.slices_Sort_string g 0 c ts w1 hH (Array.getElem?_eq_some_iff.1 hcur).1 (by omega)).mono ?_
    rintro e w' ⟨rfl, k, os, rfl⟩
    refine ⟨rfl, hide ⟨?_, ?_⟩⟩
    · have := ownsRow_sorted (n := k) (os := os) (ordT_length ts) hbg hcur hnc hcm hcs'
      show World.ownsRow _ _ _ _ _ _ _
      rw [ordT_length]
      exact this
    · exact h2.grown (grownBy_sorted _) h2.size (fun j hj => by cases hj; exact hbg))
  obtain ⟨n, hn⟩ : ∃ n, ts.length = n := ⟨_, rfl⟩
  rw [hn] at CO SO ⊢
  clear hc hcs hn hlen
  go_enter Tryz.func166, Tryz.ntmps166
  go_wp2_with (first | (go_at_call 206; refine (unhide CO).mono ?_; rintro e w1 ⟨g, c, rfl, h1, h2⟩; have H1 := hide h1; have H2 := hide h2; clear h1 h2) | (go_at_call 207; refine (unhide SO g c w1 (unhide H1) (unhide H2)).mono ?_; rintro e w2 ⟨rfl, H3⟩))
  go_ret
  exact ⟨g, c, rfl, (unhide H3).1, (unhide H3).2⟩

theorem compact_texts (g c : Nat) (zs : List (List UInt8)) (base : Nat) (w : World) (h : TxRow w base (.slice (some ⟨g, 0, none⟩) zs.length c) zs) (hlen : zs.length ≤ 1000) :
    Calls Tryz.prog 165 #[.slice (some ⟨g, 0, none⟩) zs.length c] w fun e w' => e = .returned (.slice (some ⟨g, 0, none⟩) (Lib.compact zs).length c) ∧ Hid ((∀ j t, (Lib.compact zs)[j]? = some t → w'.cell? ⟨g, j, none⟩ = some (.string (BS t))) ∧ base ≤ g ∧ g < w'.heap.size ∧ w.grownBy w' (some g)) := by
  obtain ⟨hbg, hnc, hcm, cur, hcur, hcs', hct⟩ := ownsRow_cur h
  rw [Nat.mul_one] at hct
  have hH : Holds encStr w g 0 zs.toArray := holds_of_block hcur hct
  refine (Tryz.slices_Compact_string g 0 c zs w hH (by omega) hnc).mono ?_
  rintro e w' ⟨rfl, q, rfl⟩
  have hcl : (Lib.compact zs).length ≤ zs.length := compact_len zs
  obtain ⟨ws, hws⟩ : ∃ ws, Lib.compact zs ++ List.replicate (zs.length - (Lib.compact zs).length) [] = ws := ⟨_, rfl⟩
  have hwl : ws.length = zs.length := by rw [← hws]; simp; omega
  have hg0 : grow (putRow encStr (Sort.ahead w q) g 0 ws.toArray) #[] = putRow encStr (Sort.ahead w q) g 0 ws.toArray := by simp [grow]; rfl
  have ho := ownsRow_sorted (n := q) (os := #[]) hwl hbg hcur hnc hcm hcs'
  have hgr := grownBy_sorted (w := w) (g := g) (n := q) (os := #[]) ws.toArray
  rw [hg0] at ho hgr
  rw [hws]
  refine ⟨rfl, hide ⟨fun j t hj => ?_, hbg, ?_, hgr⟩⟩
  · have hjl := (List.getElem?_eq_some_iff.1 hj).1
    have hj2 : ws[j]? = some t := by rw [← hws, List.getElem?_append_left hjl]; exact hj
    have := World.ownsRow.cells ho (g := g) rfl j (encStr t) (by rw [List.getElem?_map, hj2]; rfl)
    rwa [addr_off, Nat.zero_add] at this
  · have := hgr.size
    have := (Array.getElem?_eq_some_iff.1 hcur).1
    omega
end

end Go.Proofs.YtfkcaldjphakpaaGreatDoor
