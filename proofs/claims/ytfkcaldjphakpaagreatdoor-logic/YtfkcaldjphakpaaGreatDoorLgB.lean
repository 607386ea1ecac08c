/- or, of package sievekeep. small, is of any text and list, reads. What the walk through Logic leans on. What selectors made of two others are. -/
import Derived.Test.YtfkcaldjphakpaaGreatDoorLgA
import Derived.Test.YtfkcaldjphakpaaGreatDoorEeB
import Derived.Test.YtfkcaldjphakpaaGreatDoorRgA
namespace Go.Proofs.YtfkcaldjphakpaaGreatDoor
open Go.RowKit

section
theorem blk3 {W w1 : World} (hb : Below W.heap.size W w1) {b : Nat} (h : b < W.heap.size) {p q r : Value} (h0 : W.cell? ⟨b, 0, none⟩ = some p) (h1 : W.cell? ⟨b, 1, none⟩ = some q) (h2 : W.cell? ⟨b, 2, none⟩ = some r) :
    w1.cell? ⟨b, 0, none⟩ = some p ∧ w1.cell? ⟨b, 1, none⟩ = some q ∧ w1.cell? ⟨b, 2, none⟩ = some r ∧ b < w1.heap.size :=
  ⟨((bcell hb).1 b 0 h).trans h0, ((bcell hb).1 b 1 h).trans h1, ((bcell hb).1 b 2 h).trans h2, Nat.lt_of_lt_of_le h hb.size⟩
theorem blkA (w : World) (o : Obj) {b : Nat} (h : b < w.heap.size) {p q r : Value} (h0 : w.cell? ⟨b, 0, none⟩ = some p) (h1 : w.cell? ⟨b, 1, none⟩ = some q) (h2 : w.cell? ⟨b, 2, none⟩ = some r) :
    (w.alloc o).cell? ⟨b, 0, none⟩ = some p ∧ (w.alloc o).cell? ⟨b, 1, none⟩ = some q ∧ (w.alloc o).cell? ⟨b, 2, none⟩ = some r ∧ b < (w.alloc o).heap.size :=
  ⟨by rw [World.cell?_alloc_past _ _ _ h]; exact h0, by rw [World.cell?_alloc_past _ _ _ h]; exact h1, by rw [World.cell?_alloc_past _ _ _ h]; exact h2, by simp; omega⟩
theorem blkN (w : World) (v : V) : (w.alloc (.cells #[.int .i64 v.kind, .int .i64 v.num, .string (BS v.str)] 26)).cell? ⟨w.heap.size, 0, none⟩ = some (.int .i64 v.kind) ∧ (w.alloc (.cells #[.int .i64 v.kind, .int .i64 v.num, .string (BS v.str)] 26)).cell? ⟨w.heap.size, 1, none⟩ = some (.int .i64 v.num) ∧ (w.alloc (.cells #[.int .i64 v.kind, .int .i64 v.num, .string (BS v.str)] 26)).cell? ⟨w.heap.size, 2, none⟩ = some (.string (BS v.str)) ∧ w.heap.size < (w.alloc (.cells #[.int .i64 v.kind, .int .i64 v.num, .string (BS v.str)] 26)).heap.size := by
  refine ⟨?_, ?_, ?_, ?_⟩ <;> simp

set_option maxHeartbeats 1000000 in
theorem kOr_any (x y : V) (w : World) :
    Calls Tryz.prog 26 #[vV x, vV y] w fun e w' => e = .returned (vV (kOr x y)) ∧ Below w.heap.size w w' := by
  unfold kOr
  generalize hnx : notV x = nx
  generalize hny : notV y = ny
  generalize hna : kAnd nx ny = na
  generalize hnr : notV na = nr
  have HX : ∀ w, Calls Tryz.prog 27 #[vV x] w fun e w' => e = .returned (vV nx) ∧ Below w.heap.size w w' := fun w => hnx ▸ kNot_any x w
  have HY : ∀ w, Calls Tryz.prog 27 #[vV y] w fun e w' => e = .returned (vV ny) ∧ Below w.heap.size w w' := fun w => hny ▸ kNot_any y w
  have HA : ∀ w, Calls Tryz.prog 25 #[vV nx, vV ny] w fun e w' => e = .returned (vV na) ∧ Below w.heap.size w w' := fun w => hna ▸ kAnd_any nx ny w
  have HR : ∀ w, Calls Tryz.prog 27 #[vV na] w fun e w' => e = .returned (vV nr) ∧ Below w.heap.size w w' := fun w => hnr ▸ kNot_any na w
  simp only [vV] at HX HY HA HR
  have HX := hide HX
  have HY := hide HY
  have HA := hide HA
  have HR := hide HR
  clear hnx hny hna hnr
  have HB := hide (below3 w (.cells #[.int .i64 x.kind, .int .i64 x.num, .string (BS x.str)] 26) (.cells #[.int .i64 y.kind, .int .i64 y.num, .string (BS y.str)] 26) (.cells #[.int .i64 0, .int .i64 0, .string ⟨#[]⟩] 26))
  conv => arg 3; simp only [vV]
  go_enter Tryz.func26, Tryz.ntmps26
  go_wp2_with fail
  refine (unhide HX _).mono ?_
  rintro e w1 ⟨rfl, hb1⟩
  obtain ⟨y0, y1, y2, yz⟩ := blk3 hb1 (b := w.heap.size + 1) (by simp) (p := .int .i64 y.kind) (q := .int .i64 y.num) (r := .string (BS y.str)) (by rw [World.cell?_alloc_past _ _ _ (by simp)]; simp) (by rw [World.cell?_alloc_past _ _ _ (by simp)]; simp) (by rw [World.cell?_alloc_past _ _ _ (by simp)]; simp)
  obtain ⟨r0, r1, r2, rz⟩ := blk3 hb1 (b := w.heap.size + 2) (by simp) (p := .int .i64 0) (q := .int .i64 0) (r := .string ⟨#[]⟩) (by rw [World.cell?_alloc_at _ _ _ _ (by simp)]; rfl) (by rw [World.cell?_alloc_at _ _ _ _ (by simp)]; rfl) (by rw [World.cell?_alloc_at _ _ _ _ (by simp)]; rfl)
  have rf : ∀ j, w1.frozen? ⟨w.heap.size + 2, j, none⟩ = false := fun j => ((bcell hb1).2 _ j (by simp)).trans (by rw [World.frozen?_alloc_at _ _ _ _ (by simp)])
  replace HB := hide (below_any (unhide HB) hb1)
  clear hb1
  go_wp2_with fail
  refine (unhide HY _).mono ?_
  rintro e w2 ⟨rfl, hb2⟩
  obtain ⟨n0, n1, n2, nz⟩ := blkN w1 nx
  obtain ⟨n0, n1, n2, nz⟩ := blk3 hb2 nz n0 n1 n2
  obtain ⟨r0, r1, r2, rz'⟩ := blkA w1 (.cells #[.int .i64 nx.kind, .int .i64 nx.num, .string (BS nx.str)] 26) rz r0 r1 r2
  obtain ⟨r0, r1, r2, rz''⟩ := blk3 hb2 rz' r0 r1 r2
  have rf : ∀ j, w2.frozen? ⟨w.heap.size + 2, j, none⟩ = false := fun j => ((bcell hb2).2 _ j rz').trans (by rw [World.frozen?_alloc_past _ _ _ rz]; exact rf j)
  replace HB := hide (below_any (below_alloc (unhide HB) _) hb2)
  clear hb2 y0 y1 y2 yz rz'
  go_wp2_with fail
  refine (unhide HA _).mono ?_
  rintro e w3 ⟨rfl, hb3⟩
  obtain ⟨r0, r1, r2, rz'⟩ := blkA w2 (.cells #[.int .i64 ny.kind, .int .i64 ny.num, .string (BS ny.str)] 26) rz'' r0 r1 r2
  obtain ⟨r0, r1, r2, rz3⟩ := blk3 hb3 rz' r0 r1 r2
  have rf : ∀ j, w3.frozen? ⟨w.heap.size + 2, j, none⟩ = false := fun j => ((bcell hb3).2 _ j rz').trans (by rw [World.frozen?_alloc_past _ _ _ rz'']; exact rf j)
  replace HB := hide (below_any (below_alloc (unhide HB) _) hb3)
  clear hb3 n0 n1 n2 nz rz' rz'' rz
  go_wp2_with fail
  refine (unhide HR _).mono ?_
  rintro e w4 ⟨rfl, hb4⟩
  obtain ⟨r0, r1, r2, rz'⟩ := blkA w3 (.cells #[.int .i64 na.kind, .int .i64 na.num, .string (BS na.str)] 26) rz3 r0 r1 r2
  obtain ⟨r0, r1, r2, rz4⟩ := blk3 hb4 rz' r0 r1 r2
  have rf : ∀ j, w4.frozen? ⟨w.heap.size + 2, j, none⟩ = false := fun j => ((bcell hb4).2 _ j rz').trans (by rw [World.frozen?_alloc_past _ _ _ rz3]; exact rf j)
  replace HB := hide (below_any (below_alloc (unhide HB) _) hb4)
  clear hb4 rz' rz3
  go_wp2_with fail
  refine bodyPost_ret (by simp [results, Tryz.results26, go_sem, r0, r1, r2] <;> rfl) rfl ⟨rfl, ?_⟩
  exact (((unhide HB).setCell (by first | omega | (simp <;> omega)) _).setCell (by first | omega | (simp <;> omega)) _).setCell (by first | omega | (simp <;> omega)) _
end

section
def evs : List Pr := [⟨[97], iV 5⟩]
def eventedS (w : World) : World := w.alloc (.cells #[.string ⟨#[97]⟩, .int .i64 2, .int .i64 5, .string ⟨#[]⟩] 28)

set_option maxHeartbeats 400000 in
theorem small_any (w : World) :
    Calls Tryz.prog 35 #[] w fun e w' => e = .returned (.slice (some ⟨w.heap.size, 0, none⟩) 1 1) ∧ w' = eventedS w := by
  go_enter Tryz.func35, Tryz.ntmps35
  go_wp2_with fail
  go_ret
  exact ⟨rfl, rfl⟩

theorem eventedS_at (w : World) : EvAt (eventedS w) w.heap.size 0 evs := by
  intro k p hk
  unfold eventedS
  match k, hk with
  | 0, hk =>
    have : p = ⟨[97], iV 5⟩ := by simpa [evs] using hk.symm
    subst this
    refine ⟨?_, ?_, ?_, ?_⟩
    all_goals (rw [World.cell?_alloc_at _ _ _ _ rfl]; rfl)
  | k + 1, hk => simp [evs] at hk
theorem evs_good : EvGood evs := by
  refine ⟨fun p hp => ?_, fun p hp => ?_, by simp [evs]⟩
  · simp [evs] at hp; subst hp; exact ⟨by decide, by decide⟩
  · simp [evs] at hp; subst hp; exact ⟨by decide, by decide⟩
theorem evs_in {w w1 : World} (hb : Below (eventedS w).heap.size (eventedS w) w1) : EvIn w1 (.slice (some ⟨w.heap.size, 0, none⟩) 1 1) evs := by
  have hz : (eventedS w).heap.size = w.heap.size + 1 := by simp [eventedS]
  exact .inr ⟨w.heap.size, 0, 1, rfl, by simp [evs], (eventedS_at w).below hb (by omega), by have := hb.size; omega⟩

theorem is_in (s : ByteArray) (hs : s.size ≤ 140737488355328) (ps : List Pr) (ev : Value) (want : V) (w : World) (hE : ErrOk w) (hev : EvIn w ev ps) (hg : EvGood ps) (hr : evalR s ps = ⟨want, 0, 0⟩) :
    Calls Tryz.prog 17 #[.string s, ev, vV want] w fun e w' => e = .returned (.bool true) ∧ Below w.heap.size w w' := by
  refine (is_any s ev want want hev.slice w (fun w1 hb _ => ?_)).mono ?_
  · have := eval_any s hs ps ev w1 (hE.below hb (Nat.le_refl _)) (hev.below hb) hg
    rw [hr] at this
    exact this
  · rintro e w' ⟨rfl, h⟩
    exact ⟨by simp, h⟩

def textR1 : ByteArray := ⟨#[97, 32, 43, 32, 49, 32, 61, 32, 54, 32, 65, 78, 68, 32, 78, 79, 84, 32, 98, 32, 73, 83, 32, 78, 85, 76, 76, 32, 79, 82, 32, 97, 32, 62, 32, 52]⟩
def textR2 : ByteArray := ⟨#[97, 32, 60, 32, 53]⟩
set_option maxRecDepth 100000 in
theorem evalR1 : evalR textR1 evs = ⟨bV true, 0, 0⟩ := by kernel_rfl
set_option maxRecDepth 100000 in
theorem evalR2 : evalR textR2 evs = ⟨bV false, 0, 0⟩ := by kernel_rfl

set_option maxHeartbeats 1000000 in
theorem reads_any (w : World) (hE : ErrOk w) :
    Calls Tryz.prog 22 #[] w fun e w' => e = .returned (.bool true) ∧ Below w.heap.size w w' := by
  have hz : (eventedS w).heap.size = w.heap.size + 1 := by simp [eventedS]
  have hE0 : ErrOk (eventedS w) := hE.alloc _
  have I1 : Hid (∀ w1, Below (eventedS w).heap.size (eventedS w) w1 → Calls Tryz.prog 17 #[.string textR1, .slice (some ⟨w.heap.size, 0, none⟩) 1 1, vV (bV true)] w1 fun e w' => e = .returned (.bool true) ∧ Below w1.heap.size w1 w') :=
    hide (fun w1 hb => is_in textR1 (by decide) evs _ _ w1 (hE0.below hb (Nat.le_refl _)) (evs_in hb) evs_good evalR1)
  have I2 : Hid (∀ w1, Below (eventedS w).heap.size (eventedS w) w1 → Calls Tryz.prog 17 #[.string textR2, .slice (some ⟨w.heap.size, 0, none⟩) 1 1, vV (bV false)] w1 fun e w' => e = .returned (.bool true) ∧ Below w1.heap.size w1 w') :=
    hide (fun w1 hb => is_in textR2 (by decide) evs _ _ w1 (hE0.below hb (Nat.le_refl _)) (evs_in hb) evs_good evalR2)
  have HB : Hid (Below (eventedS w).heap.size (eventedS w) (eventedS w)) := hide (Below.refl _ _)
  have BW : Hid (∀ w1, Below (eventedS w).heap.size (eventedS w) w1 → Below w.heap.size w w1) := hide (fun w1 h => below_any ((Below.refl _ _).alloc (Nat.le_refl _) _) h)
  clear hE hE0 hz
  go_enter Tryz.func22, Tryz.ntmps22
  go_wp2_with fail
  refine (small_any _).mono ?_
  rintro e w1 ⟨rfl, rfl⟩
  go_wp2_with fail
  refine (truth_any _ _).mono ?_
  rintro e w1 ⟨rfl, hb⟩
  replace HB := hide (below_any (unhide HB) hb)
  clear hb
  go_wp2_with fail
  refine (unhide I1 _ (unhide HB)).mono ?_
  rintro e w2 ⟨rfl, hb⟩
  replace HB := hide (below_any (unhide HB) hb)
  clear hb
  go_wp2_with fail
  refine (truth_any _ _).mono ?_
  rintro e w3 ⟨rfl, hb⟩
  replace HB := hide (below_any (unhide HB) hb)
  clear hb
  go_wp2_with fail
  refine (unhide I2 _ (unhide HB)).mono ?_
  rintro e w4 ⟨rfl, hb⟩
  replace HB := hide (below_any (unhide HB) hb)
  clear hb
  go_wp2_with fail
  go_ret
  exact ⟨rfl, unhide BW _ (unhide HB)⟩
end

section
/-- A value lies in a block. -/
def Vat (W : World) (b : Nat) (v : V) : Prop := W.cell? ⟨b, 0, none⟩ = some (.int .i64 v.kind) ∧ W.cell? ⟨b, 1, none⟩ = some (.int .i64 v.num) ∧ W.cell? ⟨b, 2, none⟩ = some (.string (BS v.str)) ∧ b < W.heap.size
theorem Vat.below {W w1 : World} {b : Nat} {v : V} (h : Vat W b v) (hb : Below W.heap.size W w1) : Vat w1 b v := blk3 hb h.2.2.2 h.1 h.2.1 h.2.2.1
theorem Vat.alloc {W : World} {b : Nat} {v : V} (h : Vat W b v) (o : Obj) : Vat (W.alloc o) b v := blkA W o h.2.2.2 h.1 h.2.1 h.2.2.1
theorem Vat.drew {W : World} {b : Nat} {v : V} (h : Vat W b v) : Vat W.drew b v := h
theorem Vat.step {W w1 : World} {b : Nat} {v : V} (h : Vat W b v) (hb : Below W.heap.size W w1) (x : V) : Vat (w1.alloc (.cells #[.int .i64 x.kind, .int .i64 x.num, .string (BS x.str)] 26)) b v := (h.below hb).alloc _
theorem vat_new (w : World) (v : V) : Vat (w.alloc (.cells #[.int .i64 v.kind, .int .i64 v.num, .string (BS v.str)] 26)) w.heap.size v := blkN w v

def VatAll (W : World) (v : V) (bv : Nat) (u : V) (bu : Nat) (x : V) (bx : Nat) (y : V) (by' : Nat) (z : V) (bz : Nat) : Prop := Vat W bv v ∧ Vat W bu u ∧ Vat W bx x ∧ Vat W by' y ∧ Vat W bz z
theorem VatAll.below {W w1 : World} {v u x y z : V} {bv bu bx by' bz : Nat} (h : VatAll W v bv u bu x bx y by' z bz) (hb : Below W.heap.size W w1) : VatAll w1 v bv u bu x bx y by' z bz :=
  ⟨h.1.below hb, h.2.1.below hb, h.2.2.1.below hb, h.2.2.2.1.below hb, h.2.2.2.2.below hb⟩
theorem VatAll.drew {W : World} {v u x y z : V} {bv bu bx by' bz : Nat} (h : VatAll W v bv u bu x bx y by' z bz) : VatAll W.drew v bv u bu x bx y by' z bz := h
end

section
set_option maxHeartbeats 1000000 in
set_option maxRecDepth 100000 in
theorem read_long (s : ByteArray) (w : World) (hs : ¬ s.size ≤ 200) :
    Calls Tryz.prog 36 #[.string s] w fun e w' => Below w.heap.size w w' ∧ e = .returned (.tuple #[.pointer none, .int .i64 1, .int .i64 0]) := by
  have hb : decide ((200 : Int) < (s.size : Int)) = true := decide_eq_true (by omega)
  clear hs
  go_enter_defers Tryz.func36, Tryz.ntmps36
  go_wp2_with fail
  have q0 : (((w.alloc (.cells #[.pointer none] 67)).alloc (.cells #[.int .i64 1] 41)).alloc (.cells #[.int .i64 0] 3)).cell? ⟨w.heap.size, 0, none⟩ = some (.pointer none) := by
    rw [World.cell?_alloc_past _ _ _ (by simp <;> omega), World.cell?_alloc_past _ _ _ (by simp), World.cell?_alloc_at _ _ _ _ rfl]; rfl
  have q1 : (((w.alloc (.cells #[.pointer none] 67)).alloc (.cells #[.int .i64 1] 41)).alloc (.cells #[.int .i64 0] 3)).cell? ⟨w.heap.size + 1, 0, none⟩ = some (.int .i64 1) := by
    rw [World.cell?_alloc_past _ _ _ (by simp), World.cell?_alloc_at _ _ _ _ (by simp)]; rfl
  have q2 : (((w.alloc (.cells #[.pointer none] 67)).alloc (.cells #[.int .i64 1] 41)).alloc (.cells #[.int .i64 0] 3)).cell? ⟨w.heap.size + 1 + 1, 0, none⟩ = some (.int .i64 0) := by
    rw [World.cell?_alloc_at _ _ _ _ (by simp)]; rfl
  simp [bodyPostD, Leaves, results, Tryz.results36, go_sem, q0, q1, q2]
  exact below3 _ _ _ _

set_option maxHeartbeats 1000000 in
set_option maxRecDepth 100000 in
theorem eval_long (s : ByteArray) (hs : ¬ s.size ≤ 200) (ev : Value) (w : World) (hev : ∃ a n c, ev = .slice a n c) :
    Calls Tryz.prog 23 #[.string s, ev] w fun e w' => e = .returned (.tuple #[vV nV, .int .i64 1, .int .i64 0]) ∧ Below w.heap.size w w' := by
  have RD := hide (read_long s (w.alloc (.cells #[.int .i64 0, .int .i64 0, .string ⟨#[]⟩] 26)) hs)
  have hbl := (Below.refl w.heap.size w).alloc (Nat.le_refl _) (.cells #[.int .i64 0, .int .i64 0, .string ⟨#[]⟩] 26)
  obtain ⟨a, n, c, rfl⟩ := hev
  clear hs
  go_enter Tryz.func23, Tryz.ntmps23
  go_wp2_with (first | (go_at_call 36; refine (unhide RD).mono ?_; rintro e w1 ⟨hb1, rfl⟩; have hz1 : w.heap.size < w1.heap.size := (by have := hb1.size; simp at this; omega); have g0 : w1.cell? ⟨w.heap.size, 0, none⟩ = some (.int .i64 0) := ((bcell hb1).1 _ 0 (by simp)).trans (by simp); have g1 : w1.cell? ⟨w.heap.size, 1, none⟩ = some (.int .i64 0) := ((bcell hb1).1 _ 1 (by simp)).trans (by simp); have g2 : w1.cell? ⟨w.heap.size, 2, none⟩ = some (.string ⟨#[]⟩) := ((bcell hb1).1 _ 2 (by simp)).trans (by simp); have z0 : ∀ j, w1.frozen? ⟨w.heap.size, j, none⟩ = false := (fun j => ((bcell hb1).2 _ j (by simp)).trans (by simp)); have hB1 := hide (below_any hbl hb1); clear hb1))
  refine bodyPost_ret (by simp [results, Tryz.results23, go_sem, g0, g1, g2] <;> rfl) rfl ⟨rfl, ?_⟩
  exact (((unhide hB1).setCell (by simp) _).setCell (by simp) _).setCell (by simp) _

theorem evalR_long (s : ByteArray) (ps : List Pr) (hs : ¬ s.size ≤ 200) : evalR s ps = ⟨nV, 1, 0⟩ := by
  unfold evalR readR
  rw [if_neg hs]

/-- Eval, of a text of any length. -/
theorem eval_all (s : ByteArray) (ps : List Pr) (ev : Value) (w : World) (hE : ErrOk w) (hev : EvIn w ev ps) (hg : EvGood ps) :
    Calls Tryz.prog 23 #[.string s, ev] w fun e w' => e = .returned (.tuple #[vV (evalR s ps).val, .int .i64 (evalR s ps).errno, .int .i64 (evalR s ps).place]) ∧ Below w.heap.size w w' := by
  by_cases hs : s.size ≤ 200
  · exact eval_any s (by omega) ps ev w hE hev hg
  · rw [evalR_long s ps hs]
    exact eval_long s hs ev w hev.slice

theorem evalR_zero {s : ByteArray} {ps : List Pr} (h : (evalR s ps).errno = 0) : ∃ t, readR s = .ok t ∧ evOk ps = true ∧ (evalR s ps).val = ofA ps t := by
  unfold evalR at h ⊢
  cases hr : readR s with
  | err en pl =>
    rw [hr] at h
    have h : en = 0 := h
    rcases read_err_pos hr with e | e | e | e <;> rw [e] at h <;> cases h
  | ok t =>
    rw [hr] at h
    cases ho : evOk ps with
    | true => exact ⟨t, rfl, rfl, rfl⟩
    | false =>
      rw [ho] at h
      have h : (7 : Int) = 0 := h
      cases h

/-- A bool is true or false. -/
def WfB (v : V) : Prop := v.kind = 1 → v = bV true ∨ v = bV false
theorem wfb_b (b : Bool) : WfB (bV b) := by intro _; cases b; exact .inr rfl; exact .inl rfl
theorem wfb_n : WfB nV := by intro h; cases h
theorem wfb_i (n : Int) : WfB (iV n) := by intro h; cases h
theorem wfb_t (s : List UInt8) : WfB (tV s) := by intro h; cases h
theorem wfb_ite {c : Prop} [Decidable c] {a b : V} (ha : WfB a) (hb : WfB b) : WfB (if c then a else b) := by
  by_cases h : c
  · rw [if_pos h]; exact ha
  · rw [if_neg h]; exact hb
theorem wfb_not (x : V) : WfB (notV x) := wfb_ite (wfb_b _) wfb_n
theorem wfb_or (x y : V) : WfB (orV x y) := wfb_ite (wfb_b _) (wfb_ite (wfb_b _) wfb_n)
theorem wfb_and (x y : V) : WfB (andV x y) := wfb_ite (wfb_b _) (wfb_ite (wfb_b _) wfb_n)
theorem wfb_eq (x y : V) : WfB (eqV x y) := wfb_ite wfb_n (wfb_b _)
theorem wfb_less (x y : V) : WfB (lessV x y) := wfb_ite (wfb_b _) wfb_n
theorem wfb_le (x y : V) : WfB (leV x y) := wfb_ite (wfb_b _) wfb_n
theorem wfb_add (x y : V) : WfB (addV x y) := by unfold addV; repeat' (first | exact wfb_n | exact wfb_i _ | refine wfb_ite ?_ ?_)
theorem wfb_sub (x y : V) : WfB (subV x y) := by unfold subV; repeat' (first | exact wfb_n | exact wfb_i _ | refine wfb_ite ?_ ?_)
theorem wfb_mul (x y : V) : WfB (mulV x y) := by unfold mulV; repeat' (first | exact wfb_n | exact wfb_i _ | refine wfb_ite ?_ ?_)
theorem wfb_div (x y : V) : WfB (divV x y) := by unfold divV; repeat' (first | exact wfb_n | exact wfb_i _ | refine wfb_ite ?_ ?_)
theorem wfb_join (op : Int) (x y : V) : WfB (joinV op x y) := by
  unfold joinV
  repeat' (first | exact wfb_not _ | exact wfb_and _ _ | exact wfb_or _ _ | exact wfb_eq _ _ | exact wfb_less _ _ | exact wfb_le _ _ | exact wfb_add _ _ | exact wfb_sub _ _ | exact wfb_mul _ _ | exact wfb_div _ _ | exact wfb_b _ | refine wfb_ite ?_ ?_)
theorem wfb_among (x : V) (ts : List (List UInt8)) : WfB (amongV x ts) := by
  unfold amongV
  suffices h : ∀ f : V, WfB f → WfB (ts.foldl (fun f t => orV f (eqV x (tV t))) f) from h _ (wfb_b _)
  induction ts with
  | nil => intro f h; exact h
  | cons t r ih => intro f _; exact ih _ (wfb_or _ _)
theorem wfb_like (x : V) (p e : List UInt8) : WfB (likeV x p e) := wfb_ite (wfb_b _) wfb_n

theorem valOk_wfb {v : V} (h : valOk v = true) : WfB v := by
  intro hk
  unfold valOk at h
  rw [hk] at h
  simp at h
  obtain ⟨h1, h2⟩ := h
  obtain ⟨k, n, s⟩ := v
  simp at hk h1 h2
  subst hk h2
  rcases h1 with rfl | rfl
  · exact .inr rfl
  · exact .inl rfl
theorem wfb_find {ps : List Pr} (h : evOk ps = true) (n : List UInt8) : WfB (findV ps n) := by
  unfold findV
  split
  · rename_i p hp
    exact valOk_wfb (evOk_at h (List.mem_of_find?_eq_some hp)).2
  · exact wfb_n
theorem wfb_of {ps : List Pr} (h : evOk ps = true) (p : Pay) (s : List V) : WfB (ofN ps p s) := by
  unfold ofN joinN
  repeat' (first | exact wfb_find h _ | exact wfb_i _ | exact wfb_t _ | exact wfb_b _ | exact wfb_and _ _ | exact wfb_among _ _ | exact wfb_like _ _ _ | exact wfb_join _ _ _ | refine wfb_ite ?_ ?_)
theorem wfb_ofA {ps : List Pr} (h : evOk ps = true) (t : Ast) : WfB (ofA ps t) := by
  rw [ofA_eq]; exact wfb_of h _ _

theorem kAnd_eq {x y : V} (hx : WfB x) (hy : WfB y) : kAnd x y = andV x y := by
  unfold kAnd andV
  by_cases hf : (decide (x = bV false) || decide (y = bV false)) = true
  · rw [if_pos hf, if_pos hf]
  rw [if_neg hf, if_neg hf]
  simp only [Bool.or_eq_true, decide_eq_true_eq, not_or] at hf
  by_cases hk : (x.kind == 1 && y.kind == 1) = true
  · rw [if_pos hk]
    simp only [Bool.and_eq_true, beq_iff_eq] at hk
    have h1 := (hx hk.1).resolve_right hf.1
    have h2 := (hy hk.2).resolve_right hf.2
    rw [if_pos (by rw [h1, h2]; decide)]
  · rw [if_neg hk, if_neg]
    intro h
    apply hk
    simp only [Bool.and_eq_true, decide_eq_true_eq] at h
    rw [h.1, h.2]
    rfl
theorem not_cases (x : V) (hx : WfB x) : (x = bV true ∧ notV x = bV false) ∨ (x = bV false ∧ notV x = bV true) ∨ (x ≠ bV true ∧ x ≠ bV false ∧ notV x = nV) := by
  by_cases hk : x.kind = 1
  · rcases hx hk with h | h
    · exact .inl ⟨h, by rw [h]; rfl⟩
    · exact .inr (.inl ⟨h, by rw [h]; rfl⟩)
  · refine .inr (.inr ⟨fun e => hk (by rw [e]; rfl), fun e => hk (by rw [e]; rfl), ?_⟩)
    unfold notV
    rw [if_neg (by simpa using hk)]
theorem kOr_eq {x y : V} (hx : WfB x) (hy : WfB y) : kOr x y = orV x y := by
  unfold kOr
  rw [kAnd_eq (wfb_not x) (wfb_not y)]
  unfold orV
  rcases not_cases x hx with ⟨h1, e1⟩ | ⟨h1, e1⟩ | ⟨h1, h1', e1⟩ <;> rcases not_cases y hy with ⟨h2, e2⟩ | ⟨h2, e2⟩ | ⟨h2, h2', e2⟩ <;> rw [e1, e2]
  · rw [h1, h2]; rfl
  · rw [h1, h2]; rfl
  · rw [h1, decide_eq_true rfl, Bool.true_or, if_pos rfl]; rfl
  · rw [h1, h2]; rfl
  · rw [h1, h2]; rfl
  · rw [h1, decide_eq_false h2, decide_eq_false h2']; rfl
  · rw [h2, decide_eq_true (rfl : bV true = bV true), Bool.or_true, if_pos rfl]; rfl
  · rw [h2, decide_eq_false h1, decide_eq_false h1']; rfl
  · rw [decide_eq_false h1, decide_eq_false h2, decide_eq_false h1', Bool.or_false, if_neg (by decide), Bool.false_and, if_neg (by decide)]; rfl

/-- What a text says that may be too big. -/
def BigR (s : ByteArray) (ps : List Pr) (v : V) : Prop := ((evalR s ps).errno == 0) = false ∧ bigB (evalR s ps).errno = true ∨ ((evalR s ps).errno == 0) = true ∧ v = (evalR s ps).val
theorem bigR_of {s : ByteArray} {t' : Ast} (h : Big s t') {ps : List Pr} (hok : evOk ps = true) : BigR s ps (ofA ps t') := by
  unfold BigR evalR
  rcases h with ⟨_, h⟩ | ⟨pl, h⟩ | ⟨t, h, he, _⟩
  · rw [h]; exact .inl ⟨rfl, rfl⟩
  · rw [h]; exact .inl ⟨rfl, rfl⟩
  · rw [h, ← he, of_erase]
    exact .inr ⟨by rw [hok]; rfl, by rw [hok]; rfl⟩
end

end Go.Proofs.YtfkcaldjphakpaaGreatDoor
