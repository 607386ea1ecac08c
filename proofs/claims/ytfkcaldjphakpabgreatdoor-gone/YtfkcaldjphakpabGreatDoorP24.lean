/- number, join. join, whatever the term. core.Of. Compile of selectors that are all read, and together have no more terms than there may be. -/
import Derived.Test.YtfkcaldjphakpabGreatDoorZCo7
import Derived.Test.YtfkcaldjphakpabGreatDoorP26
import Derived.Test.YtfkcaldjphakpabGreatDoorP10
import Derived.Test.YtfkcaldjphakpabGreatDoorP21
import Derived.Test.YtfkcaldjphakpabGreatDoorP23
namespace Go.Proofs.YtfkcaldjphakpabGreatDoor
open Go.RowKit
section
def qw8 (B : Nat) (w : World) (c : Co) (e : Ending) (w' : World) : Prop := ∃ b, e = .returned (.pointer (some ⟨b, 0, none⟩)) ∧ CoAt B w'.heap.size w' (.pointer (some ⟨b, 0, none⟩)) c ∧ Below w.heap.size w w'
set_option maxHeartbeats 400000 in
theorem vi1 (n : Int) (hn : Rng n) {B : Nat} {w : World} (hB : B ≤ w.heap.size) (hL : LibOk w) : Calls Tryz.prog 91 #[.int .i64 n] w (qw8 B w (vp6 n)) := by
  have S : Hid (Calls Tryz.prog 94 #[.agg #[.int .i64 1, .pointer none, .pointer none, .int .i64 n, .string ⟨#[]⟩, .string ⟨#[]⟩, .string ⟨#[]⟩]] w (qw8 B w (vp6 n))) := v6 (qn6 ⟨1, n, [], []⟩ rfl hn (Nat.zero_le _) (Nat.zero_le _) hB hL)
  clear hB hL hn
  go_enter Tryz.func91, Tryz.ntmps91
  go_wp2_with (go_at_call 94; refine (q9 S).mono ?_; rintro e w1 ⟨b1, rfl, hc1, hb1⟩)
  go_ret
  exact ⟨b1, rfl, hc1, hb1⟩
def Lm (c : Co) : Prop := (z9 c).length ≤ 200000000 ∧ uC c ≤ 1000 ∧ WfC c
theorem Gd.lm {t : Ast} (h : Gd t) (hn : ndA t ≤ 200) : Lm (j4 t) := by
  have h1 := h.len
  have h2 := h.un
  have : ndA t * ndA t ≤ 200 * 200 := Nat.mul_le_mul hn hn
  exact ⟨by omega, by omega, h.wf⟩
set_option maxHeartbeats 1000000 in
theorem cjoin_14 (lo : Nat) (p : Pay) (sv : Value) {B : Nat} {w : World} {b : Nat} (hB : B ≤ w.heap.size) (hL : LibOk w) (hN : NodeAt lo w b p sv) (ho : p.op = 14) {x : Co} {vx : Value} (hx : CoAt B w.heap.size w vx x) (zx : Lm x) :
    Calls Tryz.prog 61 #[.pointer (some ⟨b, 0, none⟩), vx, .pointer none, .pointer none] w (qw8 B w (z8 16 (vp6 0) x)) := by
  obtain ⟨bx, rfl⟩ := hx.ptr
  have c0 := hN.c0
  have NB : Hid (Calls Tryz.prog 91 #[.int .i64 0] w (qw8 B w (vp6 0))) := v6 (vi1 0 ⟨by decide, by decide⟩ hB hL)
  have PR : Hid (∀ w1 v1, Below w.heap.size w w1 → CoAt B w1.heap.size w1 v1 (vp6 0) → Calls Tryz.prog 90 #[.int .i64 16, v1, .pointer (some ⟨bx, 0, none⟩)] w1 (qw8 B w1 (z8 16 (vp6 0) x))) :=
    v6 (fun w1 v1 hb h1 => qg9 16 (Nat.le_trans hB hb.size) (hL.below hb (Nat.le_refl _)) h1 (hx.below hb) (Nat.le_trans vh4 (by decide)) (Nat.le_trans zx.1 (by decide)))
  have e14 : (p.op == 14) = true := by rw [ho]; rfl
  clear hN hB hL hx zx ho
  go_enter Tryz.func61, Tryz.ntmps61
  go_wp2_with (first | (go_at_call 91; refine (q9 NB).mono ?_; rintro e w1 ⟨b1, rfl, k1, hb1⟩; have HB1 := v6 hb1; have K1 := v6 k1; clear hb1 k1) | (go_at_call 90; refine (q9 PR _ _ (q9 HB1) (q9 K1)).mono ?_; rintro e w2 ⟨b2, rfl, k2, hb2⟩; have HB2 := v6 (v7 (q9 HB1) hb2); have K2 := v6 k2; clear hb2 k2))
  go_ret
  exact ⟨b2, rfl, q9 K2, q9 HB2⟩
set_option maxHeartbeats 1000000 in
theorem cjoin_15 (lo : Nat) (p : Pay) (sv : Value) {B : Nat} {w : World} {b : Nat} (hB : B ≤ w.heap.size) (hL : LibOk w) (hN : NodeAt lo w b p sv) (ho : p.op = 15) {x : Co} {vx : Value} (hx : CoAt B w.heap.size w vx x) (zx : Lm x) :
    Calls Tryz.prog 61 #[.pointer (some ⟨b, 0, none⟩), vx, .pointer none, .pointer none] w (qw8 B w (z8 17 (vp6 0) x)) := by
  obtain ⟨bx, rfl⟩ := hx.ptr
  have c0 := hN.c0
  have NB : Hid (Calls Tryz.prog 91 #[.int .i64 0] w (qw8 B w (vp6 0))) := v6 (vi1 0 ⟨by decide, by decide⟩ hB hL)
  have PR : Hid (∀ w1 v1, Below w.heap.size w w1 → CoAt B w1.heap.size w1 v1 (vp6 0) → Calls Tryz.prog 90 #[.int .i64 17, v1, .pointer (some ⟨bx, 0, none⟩)] w1 (qw8 B w1 (z8 17 (vp6 0) x))) :=
    v6 (fun w1 v1 hb h1 => qg9 17 (Nat.le_trans hB hb.size) (hL.below hb (Nat.le_refl _)) h1 (hx.below hb) (Nat.le_trans vh4 (by decide)) (Nat.le_trans zx.1 (by decide)))
  have e14 : (p.op == 14) = false := by rw [ho]; rfl
  have e15 : (p.op == 15) = true := by rw [ho]; rfl
  clear hN hB hL hx zx ho
  go_enter Tryz.func61, Tryz.ntmps61
  go_wp2_with (first | (go_at_call 91; refine (q9 NB).mono ?_; rintro e w1 ⟨b1, rfl, k1, hb1⟩; have HB1 := v6 hb1; have K1 := v6 k1; clear hb1 k1) | (go_at_call 90; refine (q9 PR _ _ (q9 HB1) (q9 K1)).mono ?_; rintro e w2 ⟨b2, rfl, k2, hb2⟩; have HB2 := v6 (v7 (q9 HB1) hb2); have K2 := v6 k2; clear hb2 k2))
  go_ret
  exact ⟨b2, rfl, q9 K2, q9 HB2⟩
set_option maxHeartbeats 1000000 in
theorem cjoin_12 (lo : Nat) (p : Pay) (sv : Value) {B : Nat} {w : World} {b : Nat} (hB : B ≤ w.heap.size) (hL : LibOk w) (hN : NodeAt lo w b p sv) (ho : p.op = 12) {x y : Co} {vx vy : Value} (hx : CoAt B w.heap.size w vx x) (hy : CoAt B w.heap.size w vy y) (zx : Lm x) (zy : Lm y) :
    Calls Tryz.prog 61 #[.pointer (some ⟨b, 0, none⟩), vx, vy, .pointer none] w (qw8 B w (z8 10 y x)) := by
  obtain ⟨bx, rfl⟩ := hx.ptr
  obtain ⟨by', rfl⟩ := hy.ptr
  have c0 := hN.c0
  have PR : Hid (Calls Tryz.prog 90 #[.int .i64 10, .pointer (some ⟨by', 0, none⟩), .pointer (some ⟨bx, 0, none⟩)] w (qw8 B w (z8 10 y x))) :=
    v6 (qg9 10 hB hL hy hx (Nat.le_trans zy.1 (by decide)) (Nat.le_trans zx.1 (by decide)))
  have e14 : (p.op == 14) = false := by rw [ho]; rfl
  have e15 : (p.op == 15) = false := by rw [ho]; rfl
  have e12 : (p.op == 12) = true := by rw [ho]; rfl
  clear hN hB hL hx hy zx zy ho
  go_enter Tryz.func61, Tryz.ntmps61
  go_wp2_with (go_at_call 90; refine (q9 PR).mono ?_; rintro e w2 ⟨b2, rfl, k2, hb2⟩)
  go_ret
  exact ⟨b2, rfl, k2, hb2⟩
set_option maxHeartbeats 1000000 in
theorem cjoin_13 (lo : Nat) (p : Pay) (sv : Value) {B : Nat} {w : World} {b : Nat} (hB : B ≤ w.heap.size) (hL : LibOk w) (hN : NodeAt lo w b p sv) (ho : p.op = 13) {x y : Co} {vx vy : Value} (hx : CoAt B w.heap.size w vx x) (hy : CoAt B w.heap.size w vy y) (zx : Lm x) (zy : Lm y) :
    Calls Tryz.prog 61 #[.pointer (some ⟨b, 0, none⟩), vx, vy, .pointer none] w (qw8 B w (z8 11 y x)) := by
  obtain ⟨bx, rfl⟩ := hx.ptr
  obtain ⟨by', rfl⟩ := hy.ptr
  have c0 := hN.c0
  have PR : Hid (Calls Tryz.prog 90 #[.int .i64 11, .pointer (some ⟨by', 0, none⟩), .pointer (some ⟨bx, 0, none⟩)] w (qw8 B w (z8 11 y x))) :=
    v6 (qg9 11 hB hL hy hx (Nat.le_trans zy.1 (by decide)) (Nat.le_trans zx.1 (by decide)))
  have e14 : (p.op == 14) = false := by rw [ho]; rfl
  have e15 : (p.op == 15) = false := by rw [ho]; rfl
  have e12 : (p.op == 12) = false := by rw [ho]; rfl
  have e13 : (p.op == 13) = true := by rw [ho]; rfl
  clear hN hB hL hx hy zx zy ho
  go_enter Tryz.func61, Tryz.ntmps61
  go_wp2_with (go_at_call 90; refine (q9 PR).mono ?_; rintro e w2 ⟨b2, rfl, k2, hb2⟩)
  go_ret
  exact ⟨b2, rfl, k2, hb2⟩
set_option maxHeartbeats 1000000 in
theorem cjoin_9 (lo : Nat) (p : Pay) (sv : Value) {B : Nat} {w : World} {b : Nat} (hB : B ≤ w.heap.size) (hL : LibOk w) (hN : NodeAt lo w b p sv) (ho : p.op = 9) {x y : Co} {vx vy : Value} (hx : CoAt B w.heap.size w vx x) (hy : CoAt B w.heap.size w vy y) (zx : Lm x) (zy : Lm y) :
    Calls Tryz.prog 61 #[.pointer (some ⟨b, 0, none⟩), vx, vy, .pointer none] w (qw8 B w (qh8 (z8 8 x y))) := by
  obtain ⟨bx, rfl⟩ := hx.ptr
  obtain ⟨by', rfl⟩ := hy.ptr
  have c0 := hN.c0
  have z1 := zx.1
  have z2 := zy.1
  have PR : Hid (Calls Tryz.prog 90 #[.int .i64 8, .pointer (some ⟨bx, 0, none⟩), .pointer (some ⟨by', 0, none⟩)] w (qw8 B w (z8 8 x y))) :=
    v6 (qg9 8 hB hL hx hy (Nat.le_trans zx.1 (by decide)) (Nat.le_trans zy.1 (by decide)))
  have NT : Hid (∀ w1 v1, Below w.heap.size w w1 → CoAt B w1.heap.size w1 v1 (z8 8 x y) → Calls Tryz.prog 92 #[v1] w1 (qw8 B w1 (qh8 (z8 8 x y)))) :=
    v6 (fun w1 v1 hb h1 => vy2 _ (qg7 rfl zx.2.2 zy.2.2) (by rw [qa0 8 rfl rfl, qj5]; have e8 : (qk8 8).length = 1 := rfl; show _ + 7 * 1 ≤ _; omega) B w1 v1 (Nat.le_trans hB hb.size) (hL.below hb (Nat.le_refl _)) h1)
  have e14 : (p.op == 14) = false := by rw [ho]; rfl
  have e15 : (p.op == 15) = false := by rw [ho]; rfl
  have e12 : (p.op == 12) = false := by rw [ho]; rfl
  have e13 : (p.op == 13) = false := by rw [ho]; rfl
  have e9 : (p.op == 9) = true := by rw [ho]; rfl
  clear hN hB hL hx hy zx zy ho z1 z2
  go_enter Tryz.func61, Tryz.ntmps61
  go_wp2_with (first | (go_at_call 90; refine (q9 PR).mono ?_; rintro e w1 ⟨b1, rfl, k1, hb1⟩; have HB1 := v6 hb1; have K1 := v6 k1; clear hb1 k1) | (go_at_call 92; refine (q9 NT _ _ (q9 HB1) (q9 K1)).mono ?_; rintro e w2 ⟨b2, rfl, k2, hb2⟩; have HB2 := v6 (v7 (q9 HB1) hb2); have K2 := v6 k2; clear hb2 k2))
  go_ret
  exact ⟨b2, rfl, q9 K2, q9 HB2⟩
set_option maxHeartbeats 1000000 in
theorem cjoin_5 (lo : Nat) (p : Pay) (sv : Value) {B : Nat} {w : World} {b : Nat} (hB : B ≤ w.heap.size) (hL : LibOk w) (hN : NodeAt lo w b p sv) (ho : p.op = 5) {x : Co} {vx : Value} (hx : CoAt B w.heap.size w vx x) (zx : Lm x) :
    Calls Tryz.prog 61 #[.pointer (some ⟨b, 0, none⟩), vx, .pointer none, .pointer none] w (qw8 B w (qh8 x)) := by
  obtain ⟨bx, rfl⟩ := hx.ptr
  have c0 := hN.c0
  have z1 := zx.1
  have z2 := zx.2.1
  have NT : Hid (Calls Tryz.prog 92 #[.pointer (some ⟨bx, 0, none⟩)] w (qw8 B w (qh8 x))) := v6 (vy2 x zx.2.2 (by omega) B w _ hB hL hx)
  have e14 : (p.op == 14) = false := by rw [ho]; rfl
  have e15 : (p.op == 15) = false := by rw [ho]; rfl
  have e12 : (p.op == 12) = false := by rw [ho]; rfl
  have e13 : (p.op == 13) = false := by rw [ho]; rfl
  have e9 : (p.op == 9) = false := by rw [ho]; rfl
  have e5 : (p.op == 5) = true := by rw [ho]; rfl
  clear hN hB hL hx zx ho z1 z2
  go_enter Tryz.func61, Tryz.ntmps61
  go_wp2_with (go_at_call 92; refine (q9 NT).mono ?_; rintro e w2 ⟨b2, rfl, k2, hb2⟩)
  go_ret
  exact ⟨b2, rfl, k2, hb2⟩
set_option maxHeartbeats 1000000 in
theorem cjoin_20 (lo : Nat) (p : Pay) (sv : Value) {B : Nat} {w : World} {b : Nat} (hB : B ≤ w.heap.size) (hL : LibOk w) (hN : NodeAt lo w b p sv) (ho : p.op = 20) {x y z : Co} {vx vy vz : Value} (hx : CoAt B w.heap.size w vx x) (hy : CoAt B w.heap.size w vy y) (hz : CoAt B w.heap.size w vz z) (zx : Lm x) (zy : Lm y) (zz : Lm z) :
    Calls Tryz.prog 61 #[.pointer (some ⟨b, 0, none⟩), vx, vy, vz] w (qw8 B w (z8 6 (z8 11 y x) (z8 11 x z))) := by
  obtain ⟨bx, rfl⟩ := hx.ptr
  obtain ⟨by', rfl⟩ := hy.ptr
  obtain ⟨bz, rfl⟩ := hz.ptr
  have c0 := hN.c0
  have z1 := zx.1
  have z2 := zy.1
  have z3 := zz.1
  have P1 : Hid (Calls Tryz.prog 90 #[.int .i64 11, .pointer (some ⟨by', 0, none⟩), .pointer (some ⟨bx, 0, none⟩)] w (qw8 B w (z8 11 y x))) :=
    v6 (qg9 11 hB hL hy hx (by omega) (by omega))
  have P2 : Hid (∀ w1, Below w.heap.size w w1 → Calls Tryz.prog 90 #[.int .i64 11, .pointer (some ⟨bx, 0, none⟩), .pointer (some ⟨bz, 0, none⟩)] w1 (qw8 B w1 (z8 11 x z))) :=
    v6 (fun w1 hb => qg9 11 (Nat.le_trans hB hb.size) (hL.below hb (Nat.le_refl _)) (hx.below hb) (hz.below hb) (by omega) (by omega))
  have e11 : (qk8 11).length = 2 := rfl
  have P3 : Hid (∀ w1 v1 v2, Below w.heap.size w w1 → CoAt B w1.heap.size w1 v1 (z8 11 y x) → CoAt B w1.heap.size w1 v2 (z8 11 x z) → Calls Tryz.prog 90 #[.int .i64 6, v1, v2] w1 (qw8 B w1 (z8 6 (z8 11 y x) (z8 11 x z)))) :=
    v6 (fun w1 v1 v2 hb h1 h2 => qg9 6 (Nat.le_trans hB hb.size) (hL.below hb (Nat.le_refl _)) h1 h2 (by rw [qa0 11 rfl rfl]; omega) (by rw [qa0 11 rfl rfl]; omega))
  have e14 : (p.op == 14) = false := by rw [ho]; rfl
  have e15 : (p.op == 15) = false := by rw [ho]; rfl
  have e12 : (p.op == 12) = false := by rw [ho]; rfl
  have e13 : (p.op == 13) = false := by rw [ho]; rfl
  have e9 : (p.op == 9) = false := by rw [ho]; rfl
  have e5 : (p.op == 5) = false := by rw [ho]; rfl
  have e20 : (p.op == 20) = true := by rw [ho]; rfl
  clear hN hB hL hx hy hz zx zy zz ho z1 z2 z3 e11
  go_enter Tryz.func61, Tryz.ntmps61
  go_wp2_with fail
  refine (q9 P1).mono ?_
  rintro e w1 ⟨b1, rfl, k1, hb1⟩
  have HB1 := v6 hb1
  have K1 := v6 k1
  clear hb1 k1
  go_wp2_with fail
  refine (q9 P2 _ (q9 HB1)).mono ?_
  rintro e w2 ⟨b2, rfl, k2, hb2⟩
  have HB2 := v6 (v7 (q9 HB1) hb2)
  have K1' := v6 ((q9 K1).below hb2)
  have K2 := v6 k2
  clear hb2 k2
  go_wp2_with fail
  refine (q9 P3 _ _ _ (q9 HB2) (q9 K1') (q9 K2)).mono ?_
  rintro e w3 ⟨b3, rfl, k3, hb3⟩
  have HB3 := v6 (v7 (q9 HB2) hb3)
  have K3 := v6 k3
  clear hb3 k3
  go_wp2_with fail
  go_ret
  exact ⟨b3, rfl, q9 K3, q9 HB3⟩
set_option maxHeartbeats 1000000 in
theorem cjoin_two (lo : Nat) (p : Pay) (sv : Value) {B : Nat} {w : World} {b : Nat} (hB : B ≤ w.heap.size) (hL : LibOk w) (hN : NodeAt lo w b p sv) (h14 : ¬ p.op = 14) (h15 : ¬ p.op = 15) (h12 : ¬ p.op = 12) (h13 : ¬ p.op = 13) (h9 : ¬ p.op = 9) (h5 : ¬ p.op = 5) (h20 : ¬ p.op = 20) (h21 : ¬ p.op = 21) {x y : Co} {vx vy : Value} (hx : CoAt B w.heap.size w vx x) (hy : CoAt B w.heap.size w vy y) (zx : Lm x) (zy : Lm y) :
    Calls Tryz.prog 61 #[.pointer (some ⟨b, 0, none⟩), vx, vy, .pointer none] w (qw8 B w (z8 p.op x y)) := by
  obtain ⟨bx, rfl⟩ := hx.ptr
  obtain ⟨by', rfl⟩ := hy.ptr
  have c0 := hN.c0
  have PR : Hid (Calls Tryz.prog 90 #[.int .i64 p.op, .pointer (some ⟨bx, 0, none⟩), .pointer (some ⟨by', 0, none⟩)] w (qw8 B w (z8 p.op x y))) :=
    v6 (qg9 p.op hB hL hx hy (Nat.le_trans zx.1 (by decide)) (Nat.le_trans zy.1 (by decide)))
  have e14 : (p.op == 14) = false := beq_eq_false_iff_ne.2 h14
  have e15 : (p.op == 15) = false := beq_eq_false_iff_ne.2 h15
  have e12 : (p.op == 12) = false := beq_eq_false_iff_ne.2 h12
  have e13 : (p.op == 13) = false := beq_eq_false_iff_ne.2 h13
  have e9 : (p.op == 9) = false := beq_eq_false_iff_ne.2 h9
  have e5 : (p.op == 5) = false := beq_eq_false_iff_ne.2 h5
  have e20 : (p.op == 20) = false := beq_eq_false_iff_ne.2 h20
  have e21 : (p.op == 21) = false := beq_eq_false_iff_ne.2 h21
  clear hN hB hL hx hy zx zy h14 h15 h12 h13 h9 h5 h20 h21
  go_enter Tryz.func61, Tryz.ntmps61
  go_wp2_with (go_at_call 90; refine (q9 PR).mono ?_; rintro e w2 ⟨b2, rfl, k2, hb2⟩)
  go_ret
  exact ⟨b2, rfl, k2, hb2⟩
set_option maxHeartbeats 1000000 in
set_option maxRecDepth 100000 in
theorem vr5 (lo : Nat) (p : Pay) (sv : Value) {B : Nat} {w : World} {b : Nat} (hN : NodeAt lo w b p sv) (h14 : ¬ p.op = 14) (h15 : ¬ p.op = 15) (h12 : ¬ p.op = 12) (h13 : ¬ p.op = 13) (h9 : ¬ p.op = 9) (h5 : ¬ p.op = 5) (h20 : ¬ p.op = 20) (h21 : ¬ p.op = 21) (c : Co) (la : Option Addr)
    (hS : ∀ w1, Below w.heap.size w w1 → Calls Tryz.prog 94 #[.agg #[.int .i64 p.op, .pointer la, .pointer none, .int .i64 p.num, .string (BS p.str), .string (BS p.esc), .string ⟨#[]⟩]] w1 (qw8 B w1 c)) :
    Calls Tryz.prog 61 #[.pointer (some ⟨b, 0, none⟩), .pointer la, .pointer none, .pointer none] w (qw8 B w c) := by
  have c0 := hN.c0
  have c3 := hN.c3
  have c4 := hN.c4
  have c5 := hN.c5
  have hbw := hN.within
  have S := v6 hS
  have HB : Hid (Below w.heap.size w w.drew) := v6 (Below.refl _ _).drew
  have e14 : (p.op == 14) = false := beq_eq_false_iff_ne.2 h14
  have e15 : (p.op == 15) = false := beq_eq_false_iff_ne.2 h15
  have e12 : (p.op == 12) = false := beq_eq_false_iff_ne.2 h12
  have e13 : (p.op == 13) = false := beq_eq_false_iff_ne.2 h13
  have e9 : (p.op == 9) = false := beq_eq_false_iff_ne.2 h9
  have e5 : (p.op == 5) = false := beq_eq_false_iff_ne.2 h5
  have e20 : (p.op == 20) = false := beq_eq_false_iff_ne.2 h20
  have e21 : (p.op == 21) = false := beq_eq_false_iff_ne.2 h21
  clear hN hS h14 h15 h12 h13 h9 h5 h20 h21
  go_enter Tryz.func61, Tryz.ntmps61
  go_wp2_with fail
  go_region_held3 (fun W => W.cell? ⟨b, 0, none⟩ = some (.int .i64 p.op) ∧ W.cell? ⟨b, 3, none⟩ = some (.int .i64 p.num) ∧ W.cell? ⟨b, 4, none⟩ = some (.string (BS p.str)) ∧ W.cell? ⟨b, 5, none⟩ = some (.string (BS p.esc))) (go_keep) (first | (go_at_call 94; refine (q9 S _ (q9 HB)).mono ?_; rintro e w3 ⟨b3, rfl, k3, hb3⟩; have HB3 := v6 (v7 (q9 HB) hb3); have d0 := ((q9 HB3).cell (p := ⟨b, 0, none⟩) hbw).trans c0; have d3 := ((q9 HB3).cell (p := ⟨b, 3, none⟩) hbw).trans c3; have d4 := ((q9 HB3).cell (p := ⟨b, 4, none⟩) hbw).trans c4; have d5 := ((q9 HB3).cell (p := ⟨b, 5, none⟩) hbw).trans c5; have K3 := v6 k3; clear k3 hb3))
  all_goals (go_wp2_with fail; go_ret; exact ⟨b3, rfl, q9 K3, q9 HB3⟩)
end
section
def ve6 : Prop := ∀ (lo B : Nat) (w : World) (x : Co) (vx tv : Value) (ts : List (List UInt8)), B ≤ w.heap.size → LibOk w → CoAt B w.heap.size w vx x → TextsAt lo w tv ts → ts ≠ [] → ts.length ≤ 200 → (∀ t ∈ ts, t.length ≤ 200) → (z9 x).length ≤ 402 →
  Calls Tryz.prog 93 #[vx, tv] w (qw8 B w (qv8 x ts))
def vh1 : Ast → Prop
  | .leaf _ => False
  | .un p x => p.op = 21 ∨ vh1 x
  | .bin _ x y => vh1 x ∨ vh1 y
  | .tri _ x y z => vh1 x ∨ vh1 y ∨ vh1 z
set_option maxHeartbeats 1000000 in
theorem cjoin_21 (hA : ve6) (lo : Nat) (p : Pay) (sv : Value) {B : Nat} {w : World} {b : Nat} (hB : B ≤ w.heap.size) (hL : LibOk w) (hN : NodeAt lo w b p sv) (ho : p.op = 21) {x : Co} {vx : Value} (hx : CoAt B w.heap.size w vx x) (hne : p.texts ≠ []) (hz : p.texts.length ≤ 200) (ht : ∀ t ∈ p.texts, t.length ≤ 200) (zx : (z9 x).length ≤ 402) :
    Calls Tryz.prog 61 #[.pointer (some ⟨b, 0, none⟩), vx, .pointer none, .pointer none] w (qw8 B w (qv8 x p.texts)) := by
  obtain ⟨bx, rfl⟩ := hx.ptr
  have c0 := hN.c0
  obtain ⟨tv, c6, htv⟩ := hN.c6
  have AM : Hid (Calls Tryz.prog 93 #[.pointer (some ⟨bx, 0, none⟩), tv] w (qw8 B w (qv8 x p.texts))) := v6 (hA lo B w x _ tv _ hB hL hx htv hne hz ht zx)
  obtain ⟨ta, tn, tc, rfl⟩ : ∃ a n c, tv = .slice a n c := by
    rcases htv with ⟨_, rfl⟩ | ⟨g, cap, rfl, _⟩
    · exact ⟨_, _, _, rfl⟩
    · exact ⟨_, _, _, rfl⟩
  have e14 : (p.op == 14) = false := by rw [ho]; rfl
  have e15 : (p.op == 15) = false := by rw [ho]; rfl
  have e12 : (p.op == 12) = false := by rw [ho]; rfl
  have e13 : (p.op == 13) = false := by rw [ho]; rfl
  have e9 : (p.op == 9) = false := by rw [ho]; rfl
  have e5 : (p.op == 5) = false := by rw [ho]; rfl
  have e20 : (p.op == 20) = false := by rw [ho]; rfl
  have e21 : (p.op == 21) = true := by rw [ho]; rfl
  clear hN hB hL hx zx ho hne hz ht htv hA
  go_enter Tryz.func61, Tryz.ntmps61
  go_wp2_with (go_at_call 93; refine (q9 AM).mono ?_; rintro e w2 ⟨b2, rfl, k2, hb2⟩)
  go_ret
  exact ⟨b2, rfl, k2, hb2⟩
structure Ok (t : Ast) : Prop where
  gd : GdA t
  nd : ndA t ≤ 200
  sh : ShA t
  num : ve4 t
  bnd : vd8 t
  bq : BqA t
theorem vf6 {s : ByteArray} {t : Ast} (h : qh5 s = .ok t) : Ok t := by
  obtain ⟨a, b, c, d, e, f⟩ := vs6 h
  exact ⟨a, b, c, d, e, f⟩
theorem Ok.side {t x : Ast} (h : Ok t) (hx : x ∈ j3 t) : Ok x := by
  obtain ⟨g, n, s, u, b, q⟩ := h
  cases t with
  | leaf p => simp [j3] at hx
  | un p y =>
    simp [j3] at hx; subst hx
    have : ndA (.un p x) = 1 + p.texts.length + ndA x := rfl
    exact ⟨g.2, by omega, s.2.2.2, u.2, b.2, q.2⟩
  | bin p y z =>
    have : ndA (.bin p y z) = 1 + ndA y + ndA z := rfl
    simp [j3] at hx
    rcases hx with rfl | rfl
    · exact ⟨g.2.1, by omega, s.2.1, u.2.1, b.2.1, q.2.1⟩
    · exact ⟨g.2.2, by omega, s.2.2, u.2.2, b.2.2, q.2.2⟩
  | tri p y z v =>
    have : ndA (.tri p y z v) = 1 + ndA y + ndA z + ndA v := rfl
    simp [j3] at hx
    rcases hx with rfl | rfl | rfl
    · exact ⟨g.2.1, by omega, s.2.1, u.2.1, b.2.1, q.2.1⟩
    · exact ⟨g.2.2.1, by omega, s.2.2.1, u.2.2.1, b.2.2.1, q.2.2.1⟩
    · exact ⟨g.2.2.2, by omega, s.2.2.2, u.2.2.2, b.2.2.2, q.2.2.2⟩
theorem Ok.lm {t : Ast} (h : Ok t) : Lm (j4 t) := h.gd.gd.lm h.nd
def SideIs (B : Nat) (w : World) (t : Ast) (j : Nat) (v : Value) : Prop := match (j3 t)[j]? with
  | some x => CoAt B w.heap.size w v (j4 x)
  | none => v = .pointer none
theorem cjoin_all (t : Ast) (hA : vh1 t → ve6) (hok : Ok t) (lo : Nat) (sv : Value) {B : Nat} {w : World} {b : Nat} (hB : B ≤ w.heap.size) (hL : LibOk w) (hN : NodeAt lo w b (y9 t) sv) {v0 v1 v2 : Value} (h0 : SideIs B w t 0 v0) (h1 : SideIs B w t 1 v1) (h2 : SideIs B w t 2 v2) :
    Calls Tryz.prog 61 #[.pointer (some ⟨b, 0, none⟩), v0, v1, v2] w (qw8 B w (j4 t)) := by
  cases t with
  | leaf p =>
    have h0 : v0 = .pointer none := h0
    have h1 : v1 = .pointer none := h1
    have h2 : v2 = .pointer none := h2
    subst h0 h1 h2
    have hs : 0 ≤ p.op ∧ p.op ≤ 4 := hok.sh
    exact vr5 lo p sv hN (by omega) (by omega) (by omega) (by omega) (by omega) (by omega) (by omega) (by omega) (.leaf (va7 p)) none
      (fun w1 hb => qn6 (va7 p) (by unfold qi9 va7; simp only [Bool.or_eq_true, beq_iff_eq]; omega) hok.num (Nat.le_trans hok.bnd.1 (by decide)) (Nat.le_trans hok.bq.1 (by decide)) (Nat.le_trans hB hb.size) (hL.below hb (Nat.le_refl _)))
  | un p x =>
    have h0 : CoAt B w.heap.size w v0 (j4 x) := h0
    have h1 : v1 = .pointer none := h1
    have h2 : v2 = .pointer none := h2
    subst h1 h2
    have hx := hok.side (x := x) (by simp [j3])
    have zx := hx.lm
    have hnd : 1 + p.texts.length + ndA x ≤ 200 := hok.nd
    rcases hok.sh.1 with e | e | e | e | e | e
    · rw [show j4 (.un p x) = qh8 (j4 x) by rw [j4, e]; rfl]
      exact cjoin_5 lo p sv hB hL hN e h0 zx
    · rw [show j4 (.un p x) = z8 16 (vp6 0) (j4 x) by rw [j4, e]; rfl]
      exact cjoin_14 lo p sv hB hL hN e h0 zx
    · rw [show j4 (.un p x) = z8 17 (vp6 0) (j4 x) by rw [j4, e]; rfl]
      exact cjoin_15 lo p sv hB hL hN e h0 zx
    · rw [show j4 (.un p x) = qv8 (j4 x) p.texts by rw [j4, e]; rfl]
      obtain ⟨q, rfl, hq0⟩ := qw9 hok.sh.2.2.2 (hok.sh.2.2.1 (by omega))
      exact cjoin_21 (hA (.inl e)) lo p sv hB hL hN e h0 (hok.sh.2.1 e) (by omega) hok.bq.1.2 (vh3 (va7 q) hok.bnd.2.1 hok.num.2 (by unfold qi9; simp [va7, hq0]))
    all_goals
      obtain ⟨bx, rfl⟩ := h0.ptr
      rw [show j4 (.un p x) = .un (va7 p) (j4 x) by rw [j4, e]; rfl]
      exact vr5 lo p sv hN (by omega) (by omega) (by omega) (by omega) (by omega) (by omega) (by omega) (by omega) (.un (va7 p) (j4 x)) (some ⟨bx, 0, none⟩)
        (fun w1 hb => va1 (va7 p) (by unfold unB; simp [va7, e]) hok.num.1 (Nat.le_trans hok.bnd.1.1 (by decide)) (Nat.le_trans hok.bq.1.1 (by decide)) (Nat.le_trans hB hb.size) (hL.below hb (Nat.le_refl _)) (h0.below hb) (Nat.le_trans zx.1 (by decide)))
  | bin p x y =>
    have h0 : CoAt B w.heap.size w v0 (j4 x) := h0
    have h1 : CoAt B w.heap.size w v1 (j4 y) := h1
    have h2 : v2 = .pointer none := h2
    subst h2
    have zx := (hok.side (x := x) (by simp [j3])).lm
    have zy := (hok.side (x := y) (by simp [j3])).lm
    by_cases h12 : p.op = 12
    · rw [show j4 (.bin p x y) = z8 10 (j4 y) (j4 x) by rw [j4, h12]; rfl]
      exact cjoin_12 lo p sv hB hL hN h12 h0 h1 zx zy
    by_cases h13 : p.op = 13
    · rw [show j4 (.bin p x y) = z8 11 (j4 y) (j4 x) by rw [j4, h13]; rfl]
      exact cjoin_13 lo p sv hB hL hN h13 h0 h1 zx zy
    by_cases h9 : p.op = 9
    · rw [show j4 (.bin p x y) = qh8 (z8 8 (j4 x) (j4 y)) by rw [j4, h9]; rfl]
      exact cjoin_9 lo p sv hB hL hN h9 h0 h1 zx zy
    rw [show j4 (.bin p x y) = z8 p.op (j4 x) (j4 y) by rw [j4, if_neg (by simpa using h12), if_neg (by simpa using h13), if_neg (by simpa using h9)]]
    have := hok.sh.1
    exact cjoin_two lo p sv hB hL hN (by omega) (by omega) h12 h13 h9 (by omega) (by omega) (by omega) h0 h1 zx zy
  | tri p x y z =>
    have h0 : CoAt B w.heap.size w v0 (j4 x) := h0
    have h1 : CoAt B w.heap.size w v1 (j4 y) := h1
    have h2 : CoAt B w.heap.size w v2 (j4 z) := h2
    exact cjoin_20 lo p sv hB hL hN hok.sh.1 h0 h1 h2 (hok.side (x := x) (by simp [j3])).lm (hok.side (x := y) (by simp [j3])).lm (hok.side (x := z) (by simp [j3])).lm
end
section
def CofOk (lo : Nat) (t : Ast) : Prop := ∀ (B : Nat) (w : World) (v : Value), B ≤ w.heap.size → LibOk w → IsNode lo w v t → Calls Tryz.prog 34 #[v] w (qw8 B w (j4 t))
theorem CellsC.lower {B B' E : Nat} {w : World} {b : Nat} {p : CP} {l r : Value} {t : List UInt8} (h : CellsC B' E w b p l r t) (hB : B ≤ B') : CellsC B E w b p l r t :=
  ⟨Nat.le_trans hB h.lo, h.hi, h.within, h.c0, h.c1, h.c2, h.c3, h.c4, h.c5, h.c6⟩
theorem CoAt.lower {B B' E : Nat} {w : World} (hB : B ≤ B') : ∀ {c : Co} {v : Value}, CoAt B' E w v c → CoAt B E w v c := by
  intro c
  induction c with
  | leaf p => rintro v ⟨b, rfl, h⟩; exact ⟨b, rfl, h.lower hB⟩
  | un p x ih => rintro v ⟨b, vx, rfl, h, hx⟩; exact ⟨b, vx, rfl, h.lower hB, ih hx⟩
  | bin p x y ihx ihy => rintro v ⟨b, vx, vy, rfl, h, hx, hy⟩; exact ⟨b, vx, vy, rfl, h.lower hB, ihx hx, ihy hy⟩
theorem CoAt.set {B : Nat} {w : World} {c : Co} {v : Value} (h : CoAt B w.heap.size w v c) {p : Addr} (hp : p.block < B) (u : Value) : CoAt B (w.setCell p u).heap.size (w.setCell p u) v c := by
  have hz := y4 w p u
  exact h.keep (by rw [hz]; exact Nat.le_refl _) (fun k hk _ => Below.heap_setCell w p u k (by omega)) (by rw [hz]; exact Nat.le_refl _)
def SideK (B : Nat) (w : World) (t : Ast) (k j : Nat) (v : Value) : Prop := (j < k ∧ SideIs B w t j v) ∨ (¬ j < k ∧ v = .pointer none)
theorem SideIs.set {B : Nat} {w w1 : World} {t : Ast} {j : Nat} {v : Value} (h : SideIs B w t j v) (hb : Below w.heap.size w w1) {p : Addr} (hp : p.block < B) (u : Value) : SideIs B (w1.setCell p u) t j v := by
  unfold SideIs at h ⊢
  cases hx : (j3 t)[j]? with
  | none => rw [hx] at h; exact h
  | some x => rw [hx] at h; exact (h.below hb).set hp u
theorem SideK.old {B : Nat} {w w1 : World} {t : Ast} {k j : Nat} {v : Value} (h : SideK B w t k j v) (hj : j ≠ k) (hb : Below w.heap.size w w1) {p : Addr} (hp : p.block < B) (u : Value) : SideK B (w1.setCell p u) t (k + 1) j v := by
  rcases h with ⟨h1, h2⟩ | ⟨h1, h2⟩
  · exact .inl ⟨by omega, h2.set hb hp u⟩
  · exact .inr ⟨by omega, h2⟩
theorem SideK.new {B : Nat} {w1 : World} {t x : Ast} {k : Nat} {v : Value} (hx : (j3 t)[k]? = some x) (h : CoAt B w1.heap.size w1 v (j4 x)) {p : Addr} (hp : p.block < B) (u : Value) : SideK B (w1.setCell p u) t (k + 1) k v := by
  refine .inl ⟨by omega, ?_⟩
  unfold SideIs
  rw [hx]
  exact h.set hp u
theorem SideK.done {B : Nat} {w : World} {t : Ast} {j : Nat} {v : Value} (h : SideK B w t (j3 t).length j v) : SideIs B w t j v := by
  rcases h with ⟨_, h2⟩ | ⟨h1, h2⟩
  · exact h2
  · unfold SideIs
    rw [List.getElem?_eq_none (by omega)]
    exact h2
set_option maxHeartbeats 2000000 in
set_option maxRecDepth 100000 in
theorem vh5 (lo : Nat) (t : Ast) (hA : vh1 t → ve6) (hok : Ok t) (hsub : ∀ x ∈ j3 t, CofOk lo x) : CofOk lo t := by
  intro B w v hB hL h
  suffices hs : Calls Tryz.prog 34 #[v] w (qw8 (w.heap.size + 1) w (j4 t)) by
    refine hs.mono ?_
    rintro e w' ⟨b, rfl, hc, hb⟩
    exact ⟨b, rfl, hc.lower (by omega), hb⟩
  have HNODE := v6 h
  obtain ⟨b, sv, rfl, hnode, hsides⟩ := h.parts
  obtain ⟨a, rfl, hside⟩ := hsides.any
  have hn3 := vi9 t
  have c2 := hnode.c2
  have hbw := hnode.within
  obtain ⟨n, hn⟩ : ∃ n, (j3 t).length = n := ⟨_, rfl⟩
  rw [hn] at c2 hn3
  have HN := v6 hn
  have HS := v6 hside
  have HSUB := v6 hsub
  have HND := v6 hnode
  have HL := v6 hL
  have JN : Hid (∀ wr v0 v1 v2, Below w.heap.size w wr → w.heap.size < wr.heap.size → SideIs (w.heap.size + 1) wr t 0 v0 → SideIs (w.heap.size + 1) wr t 1 v1 → SideIs (w.heap.size + 1) wr t 2 v2 → Calls Tryz.prog 61 #[.pointer (some ⟨b, 0, none⟩), v0, v1, v2] wr (qw8 (w.heap.size + 1) wr (j4 t))) :=
    v6 (fun wr v0 v1 v2 hb hz h0 h1 h2 => cjoin_all t hA hok lo _ (by omega) (hL.below hb (Nat.le_refl _)) (hnode.kept (Kept.of_below hb)) h0 h1 h2)
  clear hsides h hn hside hsub hnode hA hok hL hB
  go_enter Tryz.func34, Tryz.ntmps34
  go_wp2_with fail
  go_loopw [11] (fun i wr => ∃ (k : Nat) (v0 v1 v2 : Value), k ≤ n ∧ i = .int .i64 k ∧ Hid (SideK (w.heap.size + 1) wr t k 0 v0 ∧ SideK (w.heap.size + 1) wr t k 1 v1 ∧ SideK (w.heap.size + 1) wr t k 2 v2) ∧ wr.cell? ⟨w.heap.size, 0, none⟩ = some v0 ∧ wr.cell? ⟨w.heap.size, 1, none⟩ = some v1 ∧ wr.cell? ⟨w.heap.size, 2, none⟩ = some v2 ∧ (∀ j, wr.frozen? ⟨w.heap.size, j, none⟩ = false) ∧ w.heap.size < wr.heap.size ∧ Hid (Below w.heap.size w wr)) (fun i _ => n - (intOf i).toNat)
  case atStart => exact ⟨0, .pointer none, .pointer none, .pointer none, Nat.zero_le _, rfl, v6 ⟨.inr ⟨by omega, rfl⟩, .inr ⟨by omega, rfl⟩, .inr ⟨by omega, rfl⟩⟩, by simp, by simp, by simp, fun j => by simp, by simp, v6 ((Below.refl _ _).alloc (Nat.le_refl _) _)⟩
  case round =>
    obtain ⟨k, v0, v1, v2, hk, rfl, hat, a0, a1, a2, fz, hzr, hbel⟩ := hrel
    by_cases hlt : k < n
    · obtain ⟨x, hx⟩ : ∃ x, (j3 t)[k]? = some x := ⟨_, List.getElem?_eq_getElem (by rw [q9 HN]; exact hlt)⟩
      obtain ⟨g, bx, rfl, hg1, hg2, hcx, hnx⟩ := q9 HS k x hx
      have dx := ((q9 hbel).cell (p := ⟨g, k, none⟩) hg2).trans hcx
      have CX := v6 (q9 HSUB x (List.mem_of_getElem? hx) (w.heap.size + 1) wr _ (by omega) ((q9 HL).below (q9 hbel) (Nat.le_refl _)) (hnx.kept (Kept.of_below (q9 hbel))))
      have HX := v6 hx
      clear hx hnx hcx
      rcases (show k = 0 ∨ k = 1 ∨ k = 2 by omega) with rfl | rfl | rfl
      · go_wp2_with (go_at_call 34; refine (q9 CX).mono ?_; rintro e w1 ⟨b1, rfl, k1, hb1⟩; obtain ⟨hc1, hf1⟩ := j6 hb1; have hz1 : w.heap.size < w1.heap.size := (by have := hb1.size; omega); have q0 : w1.cell? ⟨w.heap.size, 0, none⟩ = some v0 := (hc1 _ 0 hzr).trans a0; have q1 : w1.cell? ⟨w.heap.size, 1, none⟩ = some v1 := (hc1 _ 1 hzr).trans a1; have q2 : w1.cell? ⟨w.heap.size, 2, none⟩ = some v2 := (hc1 _ 2 hzr).trans a2; have f1 : ∀ j, w1.frozen? ⟨w.heap.size, j, none⟩ = false := (fun j => (hf1 _ j hzr).trans (fz j)); have HB1 := v6 hb1; have K1 := v6 k1; clear hc1 hf1 hb1 k1)
        go_roundw
        case rel => exact ⟨1, _, v1, v2, by omega, by go_num, v6 ⟨SideK.new (q9 HX) (q9 K1) (by simp) _, (q9 hat).2.1.old (by decide) (q9 HB1) (by simp) _, (q9 hat).2.2.old (by decide) (q9 HB1) (by simp) _⟩, by simp [go_sem, q0], by simp [go_sem, q1], by simp [go_sem, q2], fun j => by simp [go_sem, f1], by simpa using hz1, v6 ((v7 (q9 hbel) (q9 HB1)).setCell (by simp) _)⟩
        case measure => simp [intOf]; omega
      · go_wp2_with (go_at_call 34; refine (q9 CX).mono ?_; rintro e w1 ⟨b1, rfl, k1, hb1⟩; obtain ⟨hc1, hf1⟩ := j6 hb1; have hz1 : w.heap.size < w1.heap.size := (by have := hb1.size; omega); have q0 : w1.cell? ⟨w.heap.size, 0, none⟩ = some v0 := (hc1 _ 0 hzr).trans a0; have q1 : w1.cell? ⟨w.heap.size, 1, none⟩ = some v1 := (hc1 _ 1 hzr).trans a1; have q2 : w1.cell? ⟨w.heap.size, 2, none⟩ = some v2 := (hc1 _ 2 hzr).trans a2; have f1 : ∀ j, w1.frozen? ⟨w.heap.size, j, none⟩ = false := (fun j => (hf1 _ j hzr).trans (fz j)); have HB1 := v6 hb1; have K1 := v6 k1; clear hc1 hf1 hb1 k1)
        go_roundw
        case rel => exact ⟨2, v0, _, v2, by omega, by go_num, v6 ⟨(q9 hat).1.old (by decide) (q9 HB1) (by simp) _, SideK.new (q9 HX) (q9 K1) (by simp) _, (q9 hat).2.2.old (by decide) (q9 HB1) (by simp) _⟩, by simp [go_sem, q0], by simp [go_sem, q1], by simp [go_sem, q2], fun j => by simp [go_sem, f1], by simpa using hz1, v6 ((v7 (q9 hbel) (q9 HB1)).setCell (by simp) _)⟩
        case measure => simp [intOf]; omega
      · go_wp2_with (go_at_call 34; refine (q9 CX).mono ?_; rintro e w1 ⟨b1, rfl, k1, hb1⟩; obtain ⟨hc1, hf1⟩ := j6 hb1; have hz1 : w.heap.size < w1.heap.size := (by have := hb1.size; omega); have q0 : w1.cell? ⟨w.heap.size, 0, none⟩ = some v0 := (hc1 _ 0 hzr).trans a0; have q1 : w1.cell? ⟨w.heap.size, 1, none⟩ = some v1 := (hc1 _ 1 hzr).trans a1; have q2 : w1.cell? ⟨w.heap.size, 2, none⟩ = some v2 := (hc1 _ 2 hzr).trans a2; have f1 : ∀ j, w1.frozen? ⟨w.heap.size, j, none⟩ = false := (fun j => (hf1 _ j hzr).trans (fz j)); have HB1 := v6 hb1; have K1 := v6 k1; clear hc1 hf1 hb1 k1)
        go_roundw
        case rel => exact ⟨3, v0, v1, _, by omega, by go_num, v6 ⟨(q9 hat).1.old (by decide) (q9 HB1) (by simp) _, (q9 hat).2.1.old (by decide) (q9 HB1) (by simp) _, SideK.new (q9 HX) (q9 K1) (by simp) _⟩, by simp [go_sem, q0], by simp [go_sem, q1], by simp [go_sem, q2], fun j => by simp [go_sem, f1], by simpa using hz1, v6 ((v7 (q9 hbel) (q9 HB1)).setCell (by simp) _)⟩
        case measure => simp [intOf]; omega
    · have hkn : k = (j3 t).length := by have := q9 HN; omega
      have HD := v6 (hkn ▸ q9 hat)
      have HJ := v6 (q9 JN wr v0 v1 v2 (q9 hbel) hzr (q9 HD).1.done (q9 HD).2.1.done (q9 HD).2.2.done)
      clear hkn hat HD
      go_wp2_with (go_at_call 61; refine (q9 HJ).mono ?_; rintro e w1 ⟨b1, rfl, k1, hb1⟩; have HB1 := v6 (v7 (q9 hbel) hb1); have K1 := v6 k1; clear hb1 k1)
      go_ret
      exact ⟨b1, rfl, q9 K1, q9 HB1⟩
theorem vk2 (lo : Nat) : ∀ t, (vh1 t → ve6) → Ok t → CofOk lo t := by
  intro t
  induction t with
  | leaf p => intro hA hok; exact vh5 lo _ hA hok (fun x hx => by simp [j3] at hx)
  | un p x ih =>
    intro hA hok
    refine vh5 lo _ hA hok (fun y hy => ?_)
    have hy' := hy
    simp [j3] at hy
    subst hy
    exact ih (fun h => hA (.inr h)) (hok.side hy')
  | bin p x y ihx ihy =>
    intro hA hok
    refine vh5 lo _ hA hok (fun z hz => ?_)
    have hz' := hz
    simp [j3] at hz
    rcases hz with rfl | rfl
    · exact ihx (fun h => hA (.inl h)) (hok.side hz')
    · exact ihy (fun h => hA (.inr h)) (hok.side hz')
  | tri p x y z ihx ihy ihz =>
    intro hA hok
    refine vh5 lo _ hA hok (fun u hu => ?_)
    have hu' := hu
    simp [j3] at hu
    rcases hu with rfl | rfl | rfl
    · exact ihx (fun h => hA (.inl h)) (hok.side hu')
    · exact ihy (fun h => hA (.inr (.inl h))) (hok.side hu')
    · exact ihz (fun h => hA (.inr (.inr h))) (hok.side hu')
end
section
def qh7 (cs : List Co) : Nat → List Tm × List Nat
  | 0 => ([], [])
  | k + 1 => ((j9 (qh7 cs k).1 (cs.getD k (.leaf ⟨3, 0, [], []⟩))).1, (qh7 cs k).2 ++ [(j9 (qh7 cs k).1 (cs.getD k (.leaf ⟨3, 0, [], []⟩))).2])
theorem qq3 (cs : List Co) (k : Nat) : (qh7 cs k).2.length = k ∧ ∀ r ∈ (qh7 cs k).2, r < (qh7 cs k).1.length := by
  induction k with
  | zero => exact ⟨rfl, fun r hr => by simp [qh7] at hr⟩
  | succ k ih =>
    have hp := qm0 (qh7 cs k).1 (cs.getD k (.leaf ⟨3, 0, [], []⟩))
    refine ⟨by rw [qh7, List.length_append, ih.1]; rfl, fun r hr => ?_⟩
    rw [qh7, List.mem_append] at hr
    rw [qh7]
    rcases hr with hr | hr
    · have := ih.2 r hr
      show r < (j9 (qh7 cs k).1 (cs.getD k (.leaf ⟨3, 0, [], []⟩))).1.length
      omega
    · simp at hr
      subst hr
      exact hp.2.2
def TxOk (s : List UInt8) (c : Co) : Prop := ∃ t, qh5 (BS s) = .ok t ∧ j4 t = c ∧ (vh1 t → ve6) ∧ vg5 c ∧ qs5 c ≤ 250000000 ∧ s.length ≤ 140737488355328
theorem MkAt.prog {W : World} {mb mp : Nat} {ts : List Tm} {rs : List Nat} {tv rv : Value} (h : MkAt W mb mp ts rs tv rv) : ProgAt W mb 0 ts rs := ⟨h.lt, ⟨tv, _, h.c0, h.ats⟩, rv, _, h.c1, h.ars⟩
theorem jn7 {w W W' : World} {mb mp : Nat} {ts : List Tm} {rs : List Nat} {tv rv tv' rv' : Value} (hb : Below w.heap.size w W) (hm : MkAt W mb mp ts rs tv rv) (hk : MkKept mb mp tv rv tv' rv' W W') (hp : w.heap.size ≤ mp) : Below w.heap.size w W' := by
  have hlo := hm.lo
  refine ⟨hk.os.trans hb.os, hk.tape.trans hb.tape, hk.output.trans hb.output, Nat.le_trans hb.size hk.size, fun k hlt => (hk.block k (by have := hb.size; omega) (fun ho => ?_)).trans (hb.block k hlt)⟩
  rcases ho with rfl | rfl | ho | ho
  · omega
  · omega
  · have := (hm.ats.lt k ho).1; omega
  · have := (hm.ars.lt k ho).1; omega
theorem add_ends (c : Co) (hg : vg5 c) (B mb mp : Nat) (W : World) (v : Value) (ts : List Tm) (rs : List Nat) (tv rv : Value) (hm : MkAt W mb mp ts rs tv rv) (hs : CoAt B W.heap.size W v c) (ho : Out B W.heap.size mb mp tv rv) (hn : ts.length + qs5 c ≤ 2500000000) (hr : rs.length ≤ 1000) :
    Calls Tryz.prog 38 #[.pointer (some ⟨mb, 0, none⟩), v] W fun e w' => ∃ tv' rv', e = .returned (.tuple #[]) ∧ MkAt w' mb mp (j9 ts c).1 (rs ++ [(j9 ts c).2]) tv' rv' ∧ MkKept mb mp tv rv tv' rv' W w' :=
  jp5 c hg B W.heap.size mb mp W v ts rs tv rv hm hs (Nat.le_refl _) ho hn hr _ fun _ tv' rv' h1 h2 => ⟨tv', rv', rfl, h1, h2⟩
set_option maxHeartbeats 2000000 in
set_option maxRecDepth 100000 in
theorem jz4 (ss : List (List UInt8)) (cs : List Co) (hlen : cs.length = ss.length) (h8 : ss.length ≤ 8) (htx : ∀ (k : Nat) (s : List UInt8) (c : Co), ss[k]? = some s → cs[k]? = some c → TxOk s c) (h80 : ∀ k, k ≤ ss.length → (qh7 cs k).1.length ≤ 80)
    (hw : ∀ t ∈ (qh7 cs ss.length).1, SmallT t ∧ jh9 t) (a : Option Addr) (cap : Nat) (w : World) (hL : LibOk w) (hss : ∀ (k : Nat) (s : List UInt8), ss[k]? = some s → ∃ sb so, a = some ⟨sb, so, none⟩ ∧ sb < w.heap.size ∧ w.cell? ⟨sb, so + k, none⟩ = some (.string (BS s)))
    (Q : Ending → World → Prop) (hQ : ∀ v w', OB w' w.heap.size v (jq6 (qh7 cs ss.length).1 (qh7 cs ss.length).2) → Below w.heap.size w w' → Q (.returned (.tuple #[v, .int .i64 0, .int .i64 0])) w') :
    Calls Tryz.prog 13 #[.slice a ss.length cap] w Q := by
  have HQ := v6 hQ
  have HL := v6 hL
  have HSS := v6 hss
  have HTX := v6 htx
  have H80 := v6 h80
  have HW := v6 hw
  have HLEN := v6 hlen
  have NM := v6 (vf7 w)
  clear hQ hL hss htx h80 hw hlen
  obtain ⟨n, hn⟩ : ∃ n, ss.length = n := ⟨_, rfl⟩
  rw [hn] at HQ H80 HW HLEN h8 ⊢
  have HN := v6 hn
  clear hn
  have hd8 : decide ((n : Int) > 8) = false := decide_eq_false (by omega)
  go_enter Tryz.func13, Tryz.ntmps13
  go_wp2_with (go_at_call 37; refine (q9 NM).mono ?_; rintro e w1 ⟨rfl, hm1, hb1⟩; have M1 := v6 hm1; have B1 := v6 hb1; clear hm1 hb1)
  go_loopw [17] (fun i wr => ∃ (k : Nat) (tv rv : Value), k ≤ n ∧ i = .int .i64 k ∧ Hid (MkAt wr (w.heap.size + 1) w.heap.size (qh7 cs k).1 (qh7 cs k).2 tv rv) ∧ Hid (Below w.heap.size w wr)) (fun i _ => n - (intOf i).toNat)
  case atStart => exact ⟨0, _, _, Nat.zero_le _, rfl, M1, B1⟩
  case round =>
    obtain ⟨k, tv, rv, hk, rfl, MK, HB⟩ := hrel
    by_cases hlt : k < n
    · obtain ⟨s, hs⟩ : ∃ s, ss[k]? = some s := ⟨_, List.getElem?_eq_getElem (by have := q9 HN; omega)⟩
      obtain ⟨c, hc⟩ : ∃ c, cs[k]? = some c := ⟨_, List.getElem?_eq_getElem (by have := q9 HLEN; omega)⟩
      obtain ⟨sb, so, rfl, sblt, s0⟩ := q9 HSS k s hs
      obtain ⟨t, hrd, hcore, hin, hgood, hsize, hslen⟩ := q9 HTX k s c hs hc
      have hbz := (q9 HB).size
      have d0 : wr.cell? ⟨sb, so + k, none⟩ = some (.string (BS s)) := ((q9 HB).cell (p := ⟨sb, so + k, none⟩) sblt).trans s0
      have hk0 : (0 : Int) ≤ (k : Int) := by omega
      have hk1 : (k : Int) < (n : Int) := by omega
      have RD : Hid (Calls Tryz.prog 31 #[.string (BS s)] wr (qt6 wr (.ok t))) := v6 (hrd ▸ qr7 (BS s) wr ((q9 HL).below (q9 HB) (Nat.le_refl _)).err (by rw [qc1]; exact hslen))
      have CO : Hid (∀ (lo : Nat) (U : World) (v : Value), Below wr.heap.size wr U → IsNode lo U v t → Calls Tryz.prog 34 #[v] U (qw8 wr.heap.size U c)) := v6 fun lo U v hU hn => hcore ▸ vk2 lo t hin (vf6 hrd) wr.heap.size U v hU.size ((q9 HL).below (v7 (q9 HB) hU) (Nat.le_refl _)) hn
      have hS : Hid (qh7 cs (k + 1) = ((j9 (qh7 cs k).1 c).1, (qh7 cs k).2 ++ [(j9 (qh7 cs k).1 c).2])) := v6 (by rw [qh7, List.getD_eq_getElem?_getD, hc]; rfl)
      have hle := q9 H80 k hk
      have hrl := (qq3 cs k).1
      have AD : Hid (∀ (U : World) (v : Value), Below wr.heap.size wr U → CoAt wr.heap.size U.heap.size U v c → Calls Tryz.prog 38 #[.pointer (some ⟨w.heap.size + 1, 0, none⟩), v] U fun e w' => ∃ tv' rv', e = .returned (.tuple #[]) ∧ MkAt w' (w.heap.size + 1) w.heap.size (qh7 cs (k + 1)).1 (qh7 cs (k + 1)).2 tv' rv' ∧ Below w.heap.size w w') := v6 (by
        intro U v hU hcU
        have hmU := (q9 MK).below hU
        refine (add_ends c hgood wr.heap.size _ _ U v _ _ tv rv hmU hcU (fun j hj => .inl ((q9 MK).own_lt hj)) (by omega) (by omega)).mono ?_
        rintro e w' ⟨tv', rv', rfl, h1, h2⟩
        rw [q9 hS]
        exact ⟨tv', rv', rfl, h1, jn7 (v7 (q9 HB) hU) hmU h2 (Nat.le_refl _)⟩)
      have hle2 := q9 H80 (k + 1) (by omega)
      have hd80 : decide (((qh7 cs (k + 1)).1.length : Int) > 80) = false := decide_eq_false (by omega)
      obtain ⟨R, hR⟩ : ∃ R, qh7 cs (k + 1) = R := ⟨_, rfl⟩
      rw [hR] at AD hd80
      have HR := v6 hR
      clear hS hle hrl hle2 hR hs hc hrd hcore hin hgood hsize hslen
      go_wp2_with (first | (go_at_call 31; refine (q9 RD).mono ?_; rintro e w2 ⟨hb2, v2, rfl, hn2⟩; obtain ⟨vb, rfl⟩ := hn2.ptr; have N2 := v6 hn2; have B2 := v6 hb2; clear hn2 hb2) | (go_at_call 34; refine (q9 CO _ _ _ (q9 B2) (q9 N2)).mono ?_; rintro e w3 ⟨b3, rfl, hc3, hb3⟩; have C3 := v6 hc3; have B3 := v6 (v7 (q9 B2) hb3); clear hc3 hb3) | (go_at_call 38; refine (q9 AD _ _ (q9 B3) (q9 C3)).mono ?_; rintro e w4 ⟨tv4, rv4, rfl, hm4, hb4⟩; have M4 := v6 hm4; have B4 := v6 hb4; obtain ⟨a4, c4, rfl⟩ := hm4.ats.form; have e4 := hm4.c0; clear hm4 hb4) | (go_at_call 36; refine (vb8 _ 0 _ _ _ _ e4).mono ?_; rintro e w5 ⟨rfl, rfl⟩))
      exact ⟨⟨k + 1, _, _, by omega, rfl, by rw [q9 HR]; exact M4, B4⟩, by simp [intOf]; omega⟩
    · have : k = n := by omega
      subst this
      have hP := (q9 MK).prog
      have hroots := qq3 cs k
      have hle := q9 H80 k (Nat.le_refl _)
      have BY := v6 (jv0 (w.heap.size + 1) 0 _ _ wr hP (by omega) (by omega) (fun t ht => (q9 HW t ht).1) (fun t ht => (q9 HW t ht).2) (fun r hr => by have := hroots.2 r hr; omega) _ (fun e w' h => h))
      clear hP hroots hle
      go_wp2_with (go_at_call 39; refine (q9 BY).mono ?_; rintro e w2 ⟨v2, rfl, ho2, hb2⟩; have O2 := v6 ho2; have B2 := v6 hb2; obtain ⟨a2, c2, rfl⟩ := ho2.form; clear ho2 hb2)
      refine bodyPost_ret (by simp [results, Tryz.results13, go_sem] <;> rfl) rfl ?_
      exact q9 HQ _ _ (by
        have h := q9 O2
        refine ⟨h.1, ?_⟩
        rcases h.2 with hn | ⟨g, cap, cur, hv, hbg, rest⟩
        · exact .inl hn
        · exact .inr ⟨g, cap, cur, hv, Nat.le_trans (q9 HB).size hbg, rest⟩) ((q9 HB).trans ((q9 B2).mono (q9 HB).size))
end
end Go.Proofs.YtfkcaldjphakpabGreatDoor
