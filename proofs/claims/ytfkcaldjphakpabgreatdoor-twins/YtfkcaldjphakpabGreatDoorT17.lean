/- Contracts of spell and spelled. spelled, number, pair. pair. not. -/
import Derived.Test.YtfkcaldjphakpabGreatDoorT18
import Derived.Deep.RegionHeld3
import Derived.Lib.ItoaLen
import Derived.Deep.QuietTactic
import Derived.BigQuiet
namespace Go.Proofs.YtfkcaldjphakpabGreatDoor
open Go.RowKit
section
theorem escT_len (e : List UInt8) : (escT e).length ≤ 2 * e.length + 10 := by
  have := vj7 e
  unfold escT
  split
  · simp
  · simp
    omega
theorem jq5 (w : World) (k : Nat) (os : Array Obj) : Below w.heap.size w (Sort.grow (w.drewN k) os) :=
  ⟨rfl, rfl, rfl, by first | (simp [Sort.grow]; done) | (simp [Sort.grow]; omega), fun i hi => by
    show ((w.drewN k).heap ++ os)[i]? = _
    rw [Array.getElem?_append_left (by show i < w.heap.size; omega)]
    rfl⟩
structure SpA (w : World) (b : Nat) (p : CP) (l r : Value) : Prop where
  lib : LibOk w
  lt : b < w.heap.size
  c0 : w.cell? ⟨b, 0, none⟩ = some (.int .i64 p.op)
  c1 : w.cell? ⟨b, 1, none⟩ = some l
  c2 : w.cell? ⟨b, 2, none⟩ = some r
  c3 : w.cell? ⟨b, 3, none⟩ = some (.int .i64 p.num)
  c4 : w.cell? ⟨b, 4, none⟩ = some (.string (BS p.str))
  c5 : w.cell? ⟨b, 5, none⟩ = some (.string (BS p.esc))
  rng : Rng p.num
  s4 : p.str.length ≤ 1000000000
  s5 : p.esc.length ≤ 1000000000
set_option maxHeartbeats 1000000 in
theorem spell_0 (w : World) (b : Nat) (p : CP) (l r : Value) (h : SpA w b p l r) (lt rt : List UInt8) (ho : p.op = 0) :
    Calls Tryz.prog 142 #[at0 b] w fun e w' => e = .returned (.string (BS (y6 p lt rt))) ∧ Below w.heap.size w w' := by
  have e0 : (p.op == 0) = true := by rw [ho]; rfl
  have c0 := h.c0
  have hv : y6 p lt rt = p.str := by
    unfold y6
    rw [e0]
    rfl
  rw [hv]
  clear hv
  unfold at0
  have c4 := h.c4
  clear h ho
  go_enter Tryz.func142, Tryz.ntmps142
  go_wp2_with fail
  go_ret
  exact ⟨rfl, Below.refl _ _⟩
set_option maxHeartbeats 1000000 in
theorem spell_1 (w : World) (b : Nat) (p : CP) (l r : Value) (h : SpA w b p l r) (lt rt : List UInt8) (ho : p.op = 1) :
    Calls Tryz.prog 142 #[at0 b] w fun e w' => e = .returned (.string (BS (y6 p lt rt))) ∧ Below w.heap.size w w' := by
  have e0 : (p.op == 0) = false := by rw [ho]; rfl
  have e1 : (p.op == 1) = true := by rw [ho]; rfl
  have c0 := h.c0
  have hv : y6 p lt rt = Lib.itoa p.num := by
    unfold y6
    rw [e0, e1]
    rfl
  rw [hv]
  clear hv
  unfold at0
  have c3 := h.c3
  have HF := v6 (Tryz.strconv_FormatInt_10 p.num h.rng.1 h.rng.2 w h.lib.pow)
  clear h ho
  go_enter Tryz.func142, Tryz.ntmps142
  go_wp2_with (go_at_call 189; refine (q9 HF).mono ?_; rintro e w1 ⟨rfl, k, os, rfl⟩)
  go_ret
  exact ⟨rfl, jq5 w k os⟩
set_option maxHeartbeats 1000000 in
theorem spell_2 (w : World) (b : Nat) (p : CP) (l r : Value) (h : SpA w b p l r) (lt rt : List UInt8) (ho : p.op = 2) :
    Calls Tryz.prog 142 #[at0 b] w fun e w' => e = .returned (.string (BS (y6 p lt rt))) ∧ Below w.heap.size w w' := by
  have e0 : (p.op == 0) = false := by rw [ho]; rfl
  have e1 : (p.op == 1) = false := by rw [ho]; rfl
  have e2 : (p.op == 2) = true := by rw [ho]; rfl
  have c0 := h.c0
  have hv : y6 p lt rt = qL p.str := by
    unfold y6
    rw [e0, e1, e2]
    rfl
  rw [hv]
  clear hv
  unfold at0
  have c4 := h.c4
  have HF := v6 (qz1 p.str h.s4 w h.lib)
  clear h ho
  go_enter Tryz.func142, Tryz.ntmps142
  go_wp2_with (go_at_call 190; refine (q9 HF).mono ?_; rintro e w1 ⟨rfl, hb1⟩)
  go_ret
  exact ⟨rfl, hb1⟩
set_option maxHeartbeats 1000000 in
theorem spell_3 (w : World) (b : Nat) (p : CP) (l r : Value) (h : SpA w b p l r) (lt rt : List UInt8) (ho : p.op = 3) :
    Calls Tryz.prog 142 #[at0 b] w fun e w' => e = .returned (.string (BS (y6 p lt rt))) ∧ Below w.heap.size w w' := by
  have e0 : (p.op == 0) = false := by rw [ho]; rfl
  have e1 : (p.op == 1) = false := by rw [ho]; rfl
  have e2 : (p.op == 2) = false := by rw [ho]; rfl
  have e3 : (p.op == 3) = true := by rw [ho]; rfl
  have c0 := h.c0
  have hv : y6 p lt rt = [84, 82, 85, 69] := by
    unfold y6
    rw [e0, e1, e2, e3]
    rfl
  rw [hv]
  clear hv
  unfold at0
  clear h ho
  go_enter Tryz.func142, Tryz.ntmps142
  go_wp2_with fail
  go_ret
  exact ⟨rfl, Below.refl _ _⟩
set_option maxHeartbeats 1000000 in
theorem spell_4 (w : World) (b : Nat) (p : CP) (l r : Value) (h : SpA w b p l r) (lt rt : List UInt8) (ho : p.op = 4) :
    Calls Tryz.prog 142 #[at0 b] w fun e w' => e = .returned (.string (BS (y6 p lt rt))) ∧ Below w.heap.size w w' := by
  have e0 : (p.op == 0) = false := by rw [ho]; rfl
  have e1 : (p.op == 1) = false := by rw [ho]; rfl
  have e2 : (p.op == 2) = false := by rw [ho]; rfl
  have e3 : (p.op == 3) = false := by rw [ho]; rfl
  have e4 : (p.op == 4) = true := by rw [ho]; rfl
  have c0 := h.c0
  have hv : y6 p lt rt = [70, 65, 76, 83, 69] := by
    unfold y6
    rw [e0, e1, e2, e3, e4]
    rfl
  rw [hv]
  clear hv
  unfold at0
  clear h ho
  go_enter Tryz.func142, Tryz.ntmps142
  go_wp2_with fail
  go_ret
  exact ⟨rfl, Below.refl _ _⟩
set_option maxHeartbeats 1000000 in
theorem spell_5 (w : World) (b : Nat) (p : CP) (l r : Value) (h : SpA w b p l r) (lt rt : List UInt8) (hl : TextAt w l lt) (zl : lt.length ≤ 1000000000) (ho : p.op = 5) :
    Calls Tryz.prog 142 #[at0 b] w fun e w' => e = .returned (.string (BS (y6 p lt rt))) ∧ Below w.heap.size w w' := by
  have e0 : (p.op == 0) = false := by rw [ho]; rfl
  have e1 : (p.op == 1) = false := by rw [ho]; rfl
  have e2 : (p.op == 2) = false := by rw [ho]; rfl
  have e3 : (p.op == 3) = false := by rw [ho]; rfl
  have e4 : (p.op == 4) = false := by rw [ho]; rfl
  have e5 : (p.op == 5) = true := by rw [ho]; rfl
  have c0 := h.c0
  have hv : y6 p lt rt = [40, 78, 79, 84, 32] ++ lt ++ [41] := by
    unfold y6
    rw [e0, e1, e2, e3, e4, e5]
    rfl
  rw [hv]
  clear hv
  unfold at0
  obtain ⟨lb, rfl, hlb, lc⟩ := hl
  unfold at0 at h
  have c1 := h.c1
  obtain ⟨R1, e101, z1, a1⟩ := qg6 ⟨#[40, 78, 79, 84, 32]⟩ (BS lt) 5 1000000000 (Nat.le_refl _) (by rw [qc0]; omega) (by decide)
  obtain ⟨R2, e102, z2, a2⟩ := qg6 R1 ⟨#[41]⟩ 1000000005 1 z1 (Nat.le_refl _) (by decide)
  have HR : Hid (R2 = BS ([40, 78, 79, 84, 32] ++ lt ++ [41])) := v6 (by
    rw [e102, e101, show (⟨#[40, 78, 79, 84, 32]⟩ : ByteArray) = BS [40, 78, 79, 84, 32] from rfl, show (⟨#[41]⟩ : ByteArray) = BS [41] from rfl, qj7, qj7])
  clear e101 z1 e102 z2
  clear h ho
  go_enter Tryz.func142, Tryz.ntmps142
  go_wp2_with fail
  go_ret
  exact ⟨by rw [q9 HR]; rfl, Below.refl _ _⟩
set_option maxHeartbeats 1000000 in
theorem spell_23 (w : World) (b : Nat) (p : CP) (l r : Value) (h : SpA w b p l r) (lt rt : List UInt8) (hl : TextAt w l lt) (zl : lt.length ≤ 1000000000) (ho : p.op = 23) :
    Calls Tryz.prog 142 #[at0 b] w fun e w' => e = .returned (.string (BS (y6 p lt rt))) ∧ Below w.heap.size w w' := by
  have e0 : (p.op == 0) = false := by rw [ho]; rfl
  have e1 : (p.op == 1) = false := by rw [ho]; rfl
  have e2 : (p.op == 2) = false := by rw [ho]; rfl
  have e3 : (p.op == 3) = false := by rw [ho]; rfl
  have e4 : (p.op == 4) = false := by rw [ho]; rfl
  have e5 : (p.op == 5) = false := by rw [ho]; rfl
  have e23 : (p.op == 23) = true := by rw [ho]; rfl
  have c0 := h.c0
  have hv : y6 p lt rt = [40] ++ lt ++ [32, 73, 83, 32, 78, 85, 76, 76, 41] := by
    unfold y6
    rw [e0, e1, e2, e3, e4, e5, e23]
    rfl
  rw [hv]
  clear hv
  unfold at0
  obtain ⟨lb, rfl, hlb, lc⟩ := hl
  unfold at0 at h
  have c1 := h.c1
  obtain ⟨R1, e101, z1, a1⟩ := qg6 ⟨#[40]⟩ (BS lt) 1 1000000000 (Nat.le_refl _) (by rw [qc0]; omega) (by decide)
  obtain ⟨R2, e102, z2, a2⟩ := qg6 R1 ⟨#[32, 73, 83, 32, 78, 85, 76, 76, 41]⟩ 1000000001 9 z1 (Nat.le_refl _) (by decide)
  have HR : Hid (R2 = BS ([40] ++ lt ++ [32, 73, 83, 32, 78, 85, 76, 76, 41])) := v6 (by
    rw [e102, e101, show (⟨#[40]⟩ : ByteArray) = BS [40] from rfl, show (⟨#[32, 73, 83, 32, 78, 85, 76, 76, 41]⟩ : ByteArray) = BS [32, 73, 83, 32, 78, 85, 76, 76, 41] from rfl, qj7, qj7])
  clear e101 z1 e102 z2
  clear h ho
  go_enter Tryz.func142, Tryz.ntmps142
  go_wp2_with fail
  go_ret
  exact ⟨by rw [q9 HR]; rfl, Below.refl _ _⟩
set_option maxHeartbeats 1000000 in
theorem spell_22 (w : World) (b : Nat) (p : CP) (l r : Value) (h : SpA w b p l r) (lt rt : List UInt8) (hl : TextAt w l lt) (zl : lt.length ≤ 1000000000) (ho : p.op = 22) :
    Calls Tryz.prog 142 #[at0 b] w fun e w' => e = .returned (.string (BS (y6 p lt rt))) ∧ Below w.heap.size w w' := by
  have e0 : (p.op == 0) = false := by rw [ho]; rfl
  have e1 : (p.op == 1) = false := by rw [ho]; rfl
  have e2 : (p.op == 2) = false := by rw [ho]; rfl
  have e3 : (p.op == 3) = false := by rw [ho]; rfl
  have e4 : (p.op == 4) = false := by rw [ho]; rfl
  have e5 : (p.op == 5) = false := by rw [ho]; rfl
  have e23 : (p.op == 23) = false := by rw [ho]; rfl
  have e22 : (p.op == 22) = true := by rw [ho]; rfl
  have c0 := h.c0
  have hv : y6 p lt rt = [40] ++ lt ++ [32, 76, 73, 75, 69, 32] ++ qL p.str ++ escT p.esc ++ [41] := by
    unfold y6
    rw [e0, e1, e2, e3, e4, e5, e23, e22]
    rfl
  rw [hv]
  clear hv
  unfold at0
  obtain ⟨lb, rfl, hlb, lc⟩ := hl
  unfold at0 at h
  have c1 := h.c1
  have c4 := h.c4
  have c5 := h.c5
  have hblt := h.lt
  have hq := vj7 p.str
  have s4 := h.s4
  have s5 := h.s5
  have hqe := escT_len p.esc
  obtain ⟨R1, e101, z1, a1⟩ := qg6 ⟨#[40]⟩ (BS lt) 1 1000000000 (Nat.le_refl _) (by rw [qc0]; omega) (by decide)
  obtain ⟨R2, e102, z2, a2⟩ := qg6 R1 ⟨#[32, 76, 73, 75, 69, 32]⟩ 1000000001 6 z1 (Nat.le_refl _) (by decide)
  obtain ⟨R3, e103, z3, a3⟩ := qg6 R2 (BS (qL p.str)) 1000000007 2000000002 z2 (by rw [qc0]; omega) (by decide)
  obtain ⟨R4, e104, z4, a4⟩ := qg6 R3 (BS (escT p.esc)) 3000000009 2000000010 z3 (by rw [qc0]; omega) (by decide)
  obtain ⟨R5, e105, z5, a5⟩ := qg6 R4 ⟨#[41]⟩ 5000000019 1 z4 (Nat.le_refl _) (by decide)
  have HR : Hid (R5 = BS ([40] ++ lt ++ [32, 76, 73, 75, 69, 32] ++ qL p.str ++ escT p.esc ++ [41])) := v6 (by
    rw [e105, e104, e103, e102, e101, show (⟨#[40]⟩ : ByteArray) = BS [40] from rfl, show (⟨#[32, 76, 73, 75, 69, 32]⟩ : ByteArray) = BS [32, 76, 73, 75, 69, 32] from rfl, show (⟨#[41]⟩ : ByteArray) = BS [41] from rfl, qj7, qj7, qj7, qj7, qj7])
  clear e101 z1 e102 z2 e103 z3 e104 z4 e105 z5
  have HQ : Hid (∀ w1, Below w.heap.size w w1 → Calls Tryz.prog 190 #[.string (BS p.str)] w1 fun e w' => e = .returned (.string (BS (qL p.str))) ∧ Below w1.heap.size w1 w') := v6 (fun w1 hb => qz1 p.str s4 w1 (h.lib.below hb (Nat.le_refl _)))
  have HS : Hid (∀ w1, Below w.heap.size w w1 → Calls Tryz.prog 191 #[.pointer (some ⟨b, 0, none⟩)] w1 fun e w' => e = .returned (.string (BS (escT p.esc))) ∧ Below w1.heap.size w1 w') := v6 (fun w1 hb => vm0 b p.esc s5 w1 (h.lib.below hb (Nat.le_refl _)) ((hb.cell (p := ⟨b, 5, none⟩) hblt).trans c5))
  have HB : Hid (Below w.heap.size w w.drew) := v6 (Below.refl _ _).drew
  clear h ho hq s4 s5 hqe c5
  go_enter Tryz.func142, Tryz.ntmps142
  go_wp2_with fail
  go_region_held3 (fun W => W.cell? ⟨b, 1, none⟩ = some (.pointer (some ⟨lb, 0, none⟩)) ∧ W.cell? ⟨lb, 6, none⟩ = some (.string (BS lt)) ∧ W.cell? ⟨b, 4, none⟩ = some (.string (BS p.str))) (go_keep) (first | (go_at_call 190; refine (q9 HQ _ (q9 HB)).mono ?_; rintro e w1 ⟨rfl, hb1⟩; replace HB := v6 (v7 (q9 HB) hb1); obtain ⟨hc1, hf1⟩ := j5 (q9 HB); have d1 := (hc1 b 1 hblt).trans c1; have d2 := (hc1 lb 6 hlb).trans lc; have d3 := (hc1 b 4 hblt).trans c4; clear hc1 hf1 hb1) | (go_at_call 191; refine (q9 HS _ (q9 HB)).mono ?_; rintro e w1 ⟨rfl, hb1⟩; replace HB := v6 (v7 (q9 HB) hb1); obtain ⟨hc1, hf1⟩ := j5 (q9 HB); have d1 := (hc1 b 1 hblt).trans c1; have d2 := (hc1 lb 6 hlb).trans lc; have d3 := (hc1 b 4 hblt).trans c4; clear hc1 hf1 hb1))
  all_goals (go_wp2_with fail; go_ret; exact ⟨by rw [q9 HR]; rfl, q9 HB⟩)
set_option maxHeartbeats 1000000 in
theorem spell_bin (w : World) (b : Nat) (p : CP) (l r : Value) (h : SpA w b p l r) (lt rt : List UInt8) (hl : TextAt w l lt) (zl : lt.length ≤ 1000000000) (hr : TextAt w r rt) (zr : rt.length ≤ 1000000000) (h0 : ¬ p.op = 0) (h1 : ¬ p.op = 1) (h2 : ¬ p.op = 2) (h3 : ¬ p.op = 3) (h4 : ¬ p.op = 4) (h5 : ¬ p.op = 5) (h23 : ¬ p.op = 23) (h22 : ¬ p.op = 22) :
    Calls Tryz.prog 142 #[at0 b] w fun e w' => e = .returned (.string (BS (y6 p lt rt))) ∧ Below w.heap.size w w' := by
  have e0 : (p.op == 0) = false := beq_eq_false_iff_ne.2 h0
  have e1 : (p.op == 1) = false := beq_eq_false_iff_ne.2 h1
  have e2 : (p.op == 2) = false := beq_eq_false_iff_ne.2 h2
  have e3 : (p.op == 3) = false := beq_eq_false_iff_ne.2 h3
  have e4 : (p.op == 4) = false := beq_eq_false_iff_ne.2 h4
  have e5 : (p.op == 5) = false := beq_eq_false_iff_ne.2 h5
  have e23 : (p.op == 23) = false := beq_eq_false_iff_ne.2 h23
  have e22 : (p.op == 22) = false := beq_eq_false_iff_ne.2 h22
  have c0 := h.c0
  have hv : y6 p lt rt = [40] ++ lt ++ [32] ++ qk3 p.op ++ [32] ++ rt ++ [41] := by
    unfold y6
    rw [e0, e1, e2, e3, e4, e5, e23, e22]
    rfl
  rw [hv]
  clear hv
  unfold at0
  obtain ⟨lb, rfl, hlb, lc⟩ := hl
  obtain ⟨rb, rfl, hrb, rc⟩ := hr
  unfold at0 at h
  have c1 := h.c1
  have c2 := h.c2
  have hsg := vb9 p.op
  obtain ⟨R1, e101, z1, a1⟩ := qg6 ⟨#[40]⟩ (BS lt) 1 1000000000 (Nat.le_refl _) (by rw [qc0]; omega) (by decide)
  obtain ⟨R2, e102, z2, a2⟩ := qg6 R1 ⟨#[32]⟩ 1000000001 1 z1 (Nat.le_refl _) (by decide)
  obtain ⟨R3, e103, z3, a3⟩ := qg6 R2 (BS (qk3 p.op)) 1000000002 1000 z2 (by rw [qc0]; omega) (by decide)
  obtain ⟨R4, e104, z4, a4⟩ := qg6 R3 ⟨#[32]⟩ 1000001002 1 z3 (Nat.le_refl _) (by decide)
  obtain ⟨R5, e105, z5, a5⟩ := qg6 R4 (BS rt) 1000001003 1000000000 z4 (by rw [qc0]; omega) (by decide)
  obtain ⟨R6, e106, z6, a6⟩ := qg6 R5 ⟨#[41]⟩ 2000001003 1 z5 (Nat.le_refl _) (by decide)
  have HR : Hid (R6 = BS ([40] ++ lt ++ [32] ++ qk3 p.op ++ [32] ++ rt ++ [41])) := v6 (by
    rw [e106, e105, e104, e103, e102, e101, show (⟨#[40]⟩ : ByteArray) = BS [40] from rfl, show (⟨#[32]⟩ : ByteArray) = BS [32] from rfl, show (⟨#[41]⟩ : ByteArray) = BS [41] from rfl, qj7, qj7, qj7, qj7, qj7, qj7])
  clear e101 z1 e102 z2 e103 z3 e104 z4 e105 z5 e106 z6
  clear h hsg zl zr h0 h1 h2 h3 h4 h5 h23 h22
  go_enter Tryz.func142, Tryz.ntmps142
  go_wp2_with fail
  go_region_held3 (fun W => W.cell? ⟨b, 0, none⟩ = some (.int .i64 p.op) ∧ W.cell? ⟨b, 1, none⟩ = some (.pointer (some ⟨lb, 0, none⟩)) ∧ W.cell? ⟨lb, 6, none⟩ = some (.string (BS lt)) ∧ W.cell? ⟨b, 2, none⟩ = some (.pointer (some ⟨rb, 0, none⟩)) ∧ W.cell? ⟨rb, 6, none⟩ = some (.string (BS rt))) (go_keep) (first | (go_at_call 192; refine (csign_any _ _).mono ?_; rintro e w1 ⟨rfl, hw1⟩; subst w1))
  all_goals (go_wp2_with fail; go_ret; exact ⟨by rw [q9 HR]; rfl, (Below.refl _ _).drew⟩)
end
section
def unB (op : Int) : Bool := op == 5 || op == 22 || op == 23
def qi3 (op : Int) : Bool := op == 0 || op == 1 || op == 2 || op == 3 || op == 4
theorem spell_any (w : World) (b : Nat) (p : CP) (l r : Value) (h : SpA w b p l r) (lt rt : List UInt8) (zl : lt.length ≤ 1000000000) (zr : rt.length ≤ 1000000000)
    (hl : qi3 p.op = false → TextAt w l lt) (hr : qi3 p.op = false → unB p.op = false → TextAt w r rt) :
    Calls Tryz.prog 142 #[at0 b] w fun e w' => e = .returned (.string (BS (y6 p lt rt))) ∧ Below w.heap.size w w' := by
  by_cases h0 : p.op = 0
  · exact spell_0 w b p l r h lt rt h0
  by_cases h1 : p.op = 1
  · exact spell_1 w b p l r h lt rt h1
  by_cases h2 : p.op = 2
  · exact spell_2 w b p l r h lt rt h2
  by_cases h3 : p.op = 3
  · exact spell_3 w b p l r h lt rt h3
  by_cases h4 : p.op = 4
  · exact spell_4 w b p l r h lt rt h4
  have hL := hl (by unfold qi3; simp [h0, h1, h2, h3, h4])
  by_cases h5 : p.op = 5
  · exact spell_5 w b p l r h lt rt hL zl h5
  by_cases h23 : p.op = 23
  · exact spell_23 w b p l r h lt rt hL zl h23
  by_cases h22 : p.op = 22
  · exact spell_22 w b p l r h lt rt hL zl h22
  exact spell_bin w b p l r h lt rt hL zl (hr (by unfold qi3; simp [h0, h1, h2, h3, h4]) (by unfold unB; simp [h5, h22, h23])) zr h0 h1 h2 h3 h4 h5 h23 h22
def coV (p : CP) (l r : Value) : Value := .agg #[.int .i64 p.op, l, r, .int .i64 p.num, .string (BS p.str), .string (BS p.esc), .string ⟨#[]⟩]
theorem TextAt.below {w w' : World} {v : Value} {t : List UInt8} (h : TextAt w v t) (hb : Below w.heap.size w w') : TextAt w' v t := by
  obtain ⟨b, rfl, h1, h2⟩ := h
  exact ⟨b, rfl, Nat.lt_of_lt_of_le h1 hb.size, (hb.cell (p := ⟨b, 6, none⟩) h1).trans h2⟩
set_option maxHeartbeats 1000000 in
theorem qz6 (w : World) (hL : LibOk w) (p : CP) (l r : Value) (lt rt : List UInt8) (hn : Rng p.num) (h4 : p.str.length ≤ 1000000000) (h5 : p.esc.length ≤ 1000000000) (zl : lt.length ≤ 1000000000) (zr : rt.length ≤ 1000000000)
    (hlp : ∃ a, l = .pointer a) (hrp : ∃ a, r = .pointer a)
    (hl : qi3 p.op = false → TextAt w l lt) (hr : qi3 p.op = false → unB p.op = false → TextAt w r rt) :
    Calls Tryz.prog 94 #[coV p l r] w fun e w' => e = .returned (at0 w.heap.size) ∧ CellsC w.heap.size w'.heap.size w' w.heap.size p l r (y6 p lt rt) ∧ Below w.heap.size w w' := by
  have hbl : Below w.heap.size w (w.alloc (.cells #[.int .i64 p.op, l, r, .int .i64 p.num, .string (BS p.str), .string (BS p.esc), .string ⟨#[]⟩] 108)) := (Below.refl _ _).alloc (Nat.le_refl _) _
  have HS := v6 (spell_any (w.alloc (.cells #[.int .i64 p.op, l, r, .int .i64 p.num, .string (BS p.str), .string (BS p.esc), .string ⟨#[]⟩] 108)) w.heap.size p l r
    ⟨hL.alloc _, by simp, by simp, by simp, by simp, by simp, by simp, by simp, hn, h4, h5⟩ lt rt zl zr (fun h => (hl h).below hbl) (fun h h' => (hr h h').below hbl))
  obtain ⟨la, rfl⟩ := hlp
  obtain ⟨ra, rfl⟩ := hrp
  generalize ht : y6 p lt rt = t
  rw [ht] at HS
  unfold at0 at HS
  clear hL hn h4 h5 zl zr hl hr ht
  unfold at0 coV
  go_enter Tryz.func94, Tryz.ntmps94
  go_wp2_with (go_at_call 142; refine (q9 HS).mono ?_; rintro e w1 ⟨rfl, hb1⟩; have hz1 : w.heap.size < w1.heap.size := (by have := hb1.size; simp at this; omega); have g0 : w1.cell? ⟨w.heap.size, 0, none⟩ = some (.int .i64 p.op) := ((j5 hb1).1 _ 0 (by simp)).trans (by simp); have g1 : w1.cell? ⟨w.heap.size, 1, none⟩ = some (.pointer la) := ((j5 hb1).1 _ 1 (by simp)).trans (by simp); have g2 : w1.cell? ⟨w.heap.size, 2, none⟩ = some (.pointer ra) := ((j5 hb1).1 _ 2 (by simp)).trans (by simp); have g3 : w1.cell? ⟨w.heap.size, 3, none⟩ = some (.int .i64 p.num) := ((j5 hb1).1 _ 3 (by simp)).trans (by simp); have g4 : w1.cell? ⟨w.heap.size, 4, none⟩ = some (.string (BS p.str)) := ((j5 hb1).1 _ 4 (by simp)).trans (by simp); have g5 : w1.cell? ⟨w.heap.size, 5, none⟩ = some (.string (BS p.esc)) := ((j5 hb1).1 _ 5 (by simp)).trans (by simp); have g6 : w1.cell? ⟨w.heap.size, 6, none⟩ = some (.string ⟨#[]⟩) := ((j5 hb1).1 _ 6 (by simp)).trans (by simp); have z0 : ∀ j, w1.frozen? ⟨w.heap.size, j, none⟩ = false := (fun j => ((j5 hb1).2 _ j (by simp)).trans (by simp)); have hB1 := v6 (v7 hbl hb1); clear hb1)
  go_ret
  refine ⟨rfl, ⟨Nat.le_refl _, by simpa using hz1, by simpa using hz1, by simp [go_sem, g0], by simp [go_sem, g1], by simp [go_sem, g2], by simp [go_sem, g3], by simp [go_sem, g4], by simp [go_sem, g5], by simp [go_sem, g6]⟩, ?_⟩
  exact (q9 hB1).setCell (by simp) _
end
section
theorem LibOk.drew {w : World} (h : LibOk w) : LibOk w.drew := h.below (Below.refl _ _).drew (Nat.le_refl _)
theorem vr2 {op : Int} (h1 : qi3 op = false) (h2 : unB op = false) (l r : List UInt8) : y6 (qb0 op) l r = [40] ++ l ++ [32] ++ qk3 op ++ [32] ++ r ++ [41] := by
  unfold qi3 at h1
  unfold unB at h2
  simp only [Bool.or_eq_false_iff] at h1 h2
  obtain ⟨⟨⟨⟨a, b⟩, c⟩, d⟩, e⟩ := h1
  obtain ⟨⟨f, g⟩, i⟩ := h2
  simp only [y6, qb0, a, b, c, d, e, f, g, i]
  rfl
theorem CoAt.two {B : Nat} {w0 w' : World} {op : Int} {x y : Co} {vx vy : Value} (hB : B ≤ w0.heap.size) (hc : CellsC w0.heap.size w'.heap.size w' w0.heap.size (qb0 op) vx vy (y6 (qb0 op) (z8 x) (z8 y))) (hb : Below w0.heap.size w0 w') (hx : CoAt B w0.heap.size w0 vx x) (hy : CoAt B w0.heap.size w0 vy y) :
    CoAt B w'.heap.size w' (at0 w0.heap.size) (.bin (qb0 op) x y) :=
  ⟨w0.heap.size, vx, vy, rfl, ⟨hB, hc.hi, hc.within, hc.c0, hc.c1, hc.c2, hc.c3, hc.c4, hc.c5, hc.c6⟩, hx.below hb, hy.below hb⟩
theorem CoAt.ptr {B E : Nat} {w : World} {v : Value} {c : Co} (h : CoAt B E w v c) : ∃ b, v = .pointer (some ⟨b, 0, none⟩) := by
  obtain ⟨b, _, _, _, rfl, _⟩ := h.head
  exact ⟨b, rfl⟩
theorem vm1 (op : Int) {B : Nat} {w : World} (hB : B ≤ w.heap.size) (hL : LibOk w) {x y : Co} {bx by' : Nat} (hx : CoAt B w.heap.size w (.pointer (some ⟨bx, 0, none⟩)) x) (hy : CoAt B w.heap.size w (.pointer (some ⟨by', 0, none⟩)) y) (zx : (z8 x).length ≤ 1000000000) (zy : (z8 y).length ≤ 1000000000) :
    Calls Tryz.prog 94 #[.agg #[.int .i64 op, .pointer (some ⟨bx, 0, none⟩), .pointer (some ⟨by', 0, none⟩), .int .i64 0, .string ⟨#[]⟩, .string ⟨#[]⟩, .string ⟨#[]⟩]] w fun e w' => ∃ b, e = .returned (.pointer (some ⟨b, 0, none⟩)) ∧ CoAt B w'.heap.size w' (.pointer (some ⟨b, 0, none⟩)) (.bin (qb0 op) x y) ∧ Below w.heap.size w w' := by
  have h := qz6 w hL (qb0 op) (.pointer (some ⟨bx, 0, none⟩)) (.pointer (some ⟨by', 0, none⟩)) (z8 x) (z8 y) (show Rng 0 from ⟨by decide, by decide⟩) (Nat.zero_le _) (Nat.zero_le _) zx zy ⟨_, rfl⟩ ⟨_, rfl⟩ (fun _ => hx.text) (fun _ _ => hy.text)
  refine Calls.mono (show Calls Tryz.prog 94 #[.agg #[.int .i64 op, .pointer (some ⟨bx, 0, none⟩), .pointer (some ⟨by', 0, none⟩), .int .i64 0, .string ⟨#[]⟩, .string ⟨#[]⟩, .string ⟨#[]⟩]] w _ from h) ?_
  rintro e w' ⟨rfl, hc, hb⟩
  exact ⟨w.heap.size, rfl, CoAt.two hB hc hb hx hy, hb⟩
set_option maxHeartbeats 1000000 in
set_option maxRecDepth 100000 in
theorem qf9 (op : Int) {B : Nat} {w : World} (hB : B ≤ w.heap.size) (hL : LibOk w) {x y : Co} {vx vy : Value} (hx : CoAt B w.heap.size w vx x) (hy : CoAt B w.heap.size w vy y) (zx : (z8 x).length ≤ 1000000000) (zy : (z8 y).length ≤ 1000000000) :
    Calls Tryz.prog 90 #[.int .i64 op, vx, vy] w fun e w' => ∃ b, e = .returned (.pointer (some ⟨b, 0, none⟩)) ∧ CoAt B w'.heap.size w' (.pointer (some ⟨b, 0, none⟩)) (z7 op x y) ∧ Below w.heap.size w w' := by
  obtain ⟨bx, rfl⟩ := hx.ptr
  obtain ⟨by', rfl⟩ := hy.ptr
  obtain ⟨bx', ex, hxl, cx⟩ := hx.text
  obtain ⟨by2, ey, hyl, cy⟩ := hy.text
  obtain rfl : bx' = bx := by injection ex with ex; injection ex with ex; injection ex with ex; exact ex.symm
  obtain rfl : by2 = by' := by injection ey with ey; injection ey with ey; injection ey with ey; exact ey.symm
  have S1 : Hid (∀ w1, Below w.heap.size w w1 → Calls Tryz.prog 94 #[.agg #[.int .i64 op, .pointer (some ⟨bx', 0, none⟩), .pointer (some ⟨by2, 0, none⟩), .int .i64 0, .string ⟨#[]⟩, .string ⟨#[]⟩, .string ⟨#[]⟩]] w1 fun e w' => ∃ b, e = .returned (.pointer (some ⟨b, 0, none⟩)) ∧ CoAt B w'.heap.size w' (.pointer (some ⟨b, 0, none⟩)) (.bin (qb0 op) x y) ∧ Below w1.heap.size w1 w') :=
    v6 (fun w1 hb => vm1 op (Nat.le_trans hB hb.size) (hL.below hb (Nat.le_refl _)) (hx.below hb) (hy.below hb) zx zy)
  have S2 : Hid (∀ w1, Below w.heap.size w w1 → Calls Tryz.prog 94 #[.agg #[.int .i64 op, .pointer (some ⟨by2, 0, none⟩), .pointer (some ⟨bx', 0, none⟩), .int .i64 0, .string ⟨#[]⟩, .string ⟨#[]⟩, .string ⟨#[]⟩]] w1 fun e w' => ∃ b, e = .returned (.pointer (some ⟨b, 0, none⟩)) ∧ CoAt B w'.heap.size w' (.pointer (some ⟨b, 0, none⟩)) (.bin (qb0 op) y x) ∧ Below w1.heap.size w1 w') :=
    v6 (fun w1 hb => vm1 op (Nat.le_trans hB hb.size) (hL.below hb (Nat.le_refl _)) (hy.below hb) (hx.below hb) zy zx)
  have hlt : Op.bytesLess (BS (z8 y)).toList (BS (z8 x)).toList = Op.bytesLess (z8 y) (z8 x) := by rw [qm0, qm0]
  have DN : Hid (∀ n, Below w.heap.size w (w.drewN n)) := v6 (fun n => ⟨rfl, rfl, rfl, Nat.le_refl _, fun _ _ => rfl⟩)
  unfold z7
  generalize Op.bytesLess (z8 y) (z8 x) = lt at *
  clear hx hy zx zy hL hB ex ey
  cases he : vt1 op with
  | false =>
    rw [Bool.false_and, if_neg (by decide)]
    have TE : Hid (∀ w, Calls Tryz.prog 138 #[.int .i64 op] w fun e w' => e = .returned (.bool false) ∧ w' = w) := v6 (fun w => he ▸ qw8 op w)
    clear he
    go_enter Tryz.func90, Tryz.ntmps90
    go_wp2_with fail
    go_quiet ((go_at_call 138; exact Calls.quiet_of_same (q9 TE _)))
    go_wp2_with (go_at_call 94; refine (q9 S1 _ (q9 DN _)).mono ?_; rintro e w2 ⟨b, rfl, hc, hb⟩)
    go_ret
    exact ⟨b, rfl, hc, v7 (q9 DN _) hb⟩
  | true =>
    rw [Bool.true_and]
    have TE : Hid (∀ w, Calls Tryz.prog 138 #[.int .i64 op] w fun e w' => e = .returned (.bool true) ∧ w' = w) := v6 (fun w => he ▸ qw8 op w)
    clear he
    cases lt with
    | false =>
      rw [if_neg (by decide)]
      go_enter Tryz.func90, Tryz.ntmps90
      go_wp2_with fail
      go_quiet ((go_at_call 138; exact Calls.quiet_of_same (q9 TE _)))
      go_wp2_with (go_at_call 94; refine (q9 S1 _ (q9 DN _)).mono ?_; rintro e w2 ⟨b, rfl, hc, hb⟩)
      go_ret
      exact ⟨b, rfl, hc, v7 (q9 DN _) hb⟩
    | true =>
      rw [if_pos rfl]
      go_enter Tryz.func90, Tryz.ntmps90
      go_wp2_with fail
      go_quiet ((go_at_call 138; exact Calls.quiet_of_same (q9 TE _)))
      go_wp2_with (go_at_call 94; refine (q9 S2 _ (q9 DN _)).mono ?_; rintro e w2 ⟨b, rfl, hc, hb⟩)
      go_ret
      exact ⟨b, rfl, hc, v7 (q9 DN _) hb⟩
end
section
def uC : Co → Nat
  | .leaf _ => 1
  | .un _ x => uC x
  | .bin p x y => if p.op == 6 || p.op == 7 then uC x + uC y else 1
theorem uC_pos : ∀ c, 1 ≤ uC c := by
  intro c
  induction c with
  | leaf p => exact Nat.le_refl _
  | un p x ih => exact ih
  | bin p x y ihx ihy => unfold uC; split <;> omega
theorem qi9 (op : Int) (x y : Co) : uC (z7 op x y) = if op == 6 || op == 7 then uC x + uC y else 1 := by
  unfold z7
  split
  · show (if (op == 6 || op == 7) = true then uC y + uC x else 1) = _
    rw [Nat.add_comm]
  · rfl
theorem uC_not : ∀ c, uC (qh2 c) = uC c := by
  intro c
  induction c with
  | leaf p => unfold qh2; split; rfl; split <;> rfl
  | un p x ih => unfold qh2; split <;> rfl
  | bin p x y ihx ihy =>
    unfold qh2
    by_cases h6 : (p.op == 6) = true
    · rw [if_pos h6, qi9, ihx, ihy]
      show (if ((7 : Int) == 6 || (7 : Int) == 7) = true then _ else _) = if (p.op == 6 || p.op == 7) = true then _ else _
      rw [h6]; rfl
    rw [if_neg h6]
    by_cases h7 : (p.op == 7) = true
    · rw [if_pos h7, qi9, ihx, ihy]
      show (if ((6 : Int) == 6 || (6 : Int) == 7) = true then _ else _) = if (p.op == 6 || p.op == 7) = true then _ else _
      rw [h7, Bool.or_true]; rfl
    rw [if_neg h7]
    have hu : uC (.bin p x y) = 1 := by
      show (if (p.op == 6 || p.op == 7) = true then _ else _) = 1
      rw [if_neg]
      rw [Bool.eq_false_iff.2 h6, Bool.eq_false_iff.2 h7]; decide
    by_cases h10 : (p.op == 10) = true
    · rw [if_pos h10, qi9, hu]; rfl
    rw [if_neg h10]
    by_cases h11 : (p.op == 11) = true
    · rw [if_pos h11, qi9, hu]; rfl
    rw [if_neg h11]
    rfl
theorem y8 (op : Int) (h1 : qi3 op = false) (h2 : unB op = false) (x y : Co) : (z8 (z7 op x y)).length = (z8 x).length + (z8 y).length + 4 + (qk3 op).length := by
  unfold z7
  split
  · show (y6 (qb0 op) (z8 y) (z8 x)).length = _
    rw [vr2 h1 h2]; simp; omega
  · show (y6 (qb0 op) (z8 x) (z8 y)).length = _
    rw [vr2 h1 h2]; simp; omega
def binB (op : Int) : Bool := !qi3 op && !unB op
theorem qu4 {p : CP} (h : binB p.op = true) (x y : Co) : (z8 (.bin p x y)).length = (z8 x).length + (z8 y).length + 4 + (qk3 p.op).length := by
  show (y6 p (z8 x) (z8 y)).length = _
  unfold binB qi3 unB at h
  simp only [Bool.and_eq_true, Bool.not_eq_true', Bool.or_eq_false_iff] at h
  obtain ⟨⟨⟨⟨⟨a, b⟩, c⟩, d⟩, e⟩, ⟨f, g⟩, i⟩ := h
  simp only [y6, a, b, c, d, e, f, g, i]
  simp
  omega
def WfC : Co → Prop
  | .leaf p => qi3 p.op = true
  | .un p x => unB p.op = true ∧ WfC x
  | .bin p x y => binB p.op = true ∧ WfC x ∧ WfC y
theorem qg2 {op : Int} (h : binB op = true) {x y : Co} (hx : WfC x) (hy : WfC y) : WfC (z7 op x y) := by
  unfold z7
  split
  · exact ⟨h, hy, hx⟩
  · exact ⟨h, hx, hy⟩
theorem wfC_not : ∀ c, WfC c → WfC (qh2 c) := by
  intro c
  induction c with
  | leaf p => intro h; unfold qh2; split; exact rfl; split; exact rfl; exact ⟨rfl, h⟩
  | un p x ih => intro h; unfold qh2; split; exact h.2; exact ⟨rfl, h⟩
  | bin p x y ihx ihy =>
    intro h
    unfold qh2
    split
    · exact qg2 rfl (ihx h.2.1) (ihy h.2.2)
    split
    · exact qg2 rfl (ihx h.2.1) (ihy h.2.2)
    split
    · exact qg2 rfl h.2.2 h.2.1
    split
    · exact qg2 rfl h.2.2 h.2.1
    · exact ⟨rfl, h⟩
theorem ve1 (c : Co) : (z8 (.un (qb0 5) c)).length = (z8 c).length + 6 := by
  show (y6 (qb0 5) (z8 c) []).length = _
  simp [y6, qb0]
theorem qp1 : ∀ c, WfC c → (z8 (qh2 c)).length + 1 ≤ (z8 c).length + 7 * uC c := by
  intro c
  induction c with
  | leaf p =>
    intro _
    unfold qh2
    split
    · rename_i h; have : (z8 (.leaf p)).length = 4 := by show (y6 p [] []).length = 4; rw [y6, eq_of_beq h]; rfl
      show 5 + 1 ≤ _ + 7 * 1; omega
    split
    · show 4 + 1 ≤ _ + 7 * 1; omega
    · rw [ve1]; show _ ≤ _ + 7 * 1; omega
  | un p x ih =>
    intro hw
    have hp := uC_pos x
    unfold qh2
    split
    · rename_i h
      simp only [Bool.and_eq_true, beq_iff_eq] at h
      have : (z8 (.un p x)).length = (z8 x).length + 6 := by show (y6 p (z8 x) []).length = _; simp [y6, h.1]
      show _ ≤ _ + 7 * uC x; omega
    · rw [ve1]; show _ ≤ _ + 7 * uC x; omega
  | bin p x y ihx ihy =>
    intro hw
    have hx := ihx hw.2.1
    have hy := ihy hw.2.2
    have hs := qu4 hw.1 x y
    have hsg := vb9 p.op
    unfold qh2
    by_cases h6 : (p.op == 6) = true
    · rw [if_pos h6, y8 7 rfl rfl, hs]
      have : uC (.bin p x y) = uC x + uC y := by show (if (p.op == 6 || p.op == 7) = true then _ else _) = _; rw [h6]; rfl
      rw [this]
      have : (qk3 p.op).length = 3 := by rw [eq_of_beq h6]; rfl
      show _ + _ + 4 + 2 + 1 ≤ _; omega
    rw [if_neg h6]
    by_cases h7 : (p.op == 7) = true
    · rw [if_pos h7, y8 6 rfl rfl, hs]
      have : uC (.bin p x y) = uC x + uC y := by show (if (p.op == 6 || p.op == 7) = true then _ else _) = _; rw [h7, Bool.or_true]; rfl
      rw [this]
      have : (qk3 p.op).length = 2 := by rw [eq_of_beq h7]; rfl
      show _ + _ + 4 + 3 + 1 ≤ _; omega
    rw [if_neg h7]
    have hu : uC (.bin p x y) = 1 := by
      show (if (p.op == 6 || p.op == 7) = true then _ else _) = 1
      rw [if_neg]
      rw [Bool.eq_false_iff.2 h6, Bool.eq_false_iff.2 h7]; decide
    rw [hu]
    by_cases h10 : (p.op == 10) = true
    · rw [if_pos h10, y8 11 rfl rfl, hs]
      show _ + _ + 4 + 2 + 1 ≤ _; omega
    rw [if_neg h10]
    by_cases h11 : (p.op == 11) = true
    · rw [if_pos h11, y8 10 rfl rfl, hs]
      show _ + _ + 4 + 1 + 1 ≤ _; omega
    rw [if_neg h11, ve1]; omega
def va0 (c : Co) : Prop := ∀ (B : Nat) (w : World) (v : Value), B ≤ w.heap.size → LibOk w → CoAt B w.heap.size w v c →
  Calls Tryz.prog 92 #[v] w fun e w' => ∃ b, e = .returned (.pointer (some ⟨b, 0, none⟩)) ∧ CoAt B w'.heap.size w' (.pointer (some ⟨b, 0, none⟩)) (qh2 c) ∧ Below w.heap.size w w'
theorem qm7 (p : CP) (hp : qi3 p.op = true) (hn : Rng p.num) (h4 : p.str.length ≤ 1000000000) (h5 : p.esc.length ≤ 1000000000) {B : Nat} {w : World} (hB : B ≤ w.heap.size) (hL : LibOk w) :
    Calls Tryz.prog 94 #[.agg #[.int .i64 p.op, .pointer none, .pointer none, .int .i64 p.num, .string (BS p.str), .string (BS p.esc), .string ⟨#[]⟩]] w fun e w' => ∃ b, e = .returned (.pointer (some ⟨b, 0, none⟩)) ∧ CoAt B w'.heap.size w' (.pointer (some ⟨b, 0, none⟩)) (.leaf p) ∧ Below w.heap.size w w' := by
  refine Calls.mono (show Calls Tryz.prog 94 #[.agg #[.int .i64 p.op, .pointer none, .pointer none, .int .i64 p.num, .string (BS p.str), .string (BS p.esc), .string ⟨#[]⟩]] w _ from qz6 w hL p (.pointer none) (.pointer none) [] [] hn h4 h5 (Nat.zero_le _) (Nat.zero_le _) ⟨_, rfl⟩ ⟨_, rfl⟩ (fun h => by rw [hp] at h; cases h) (fun h => by rw [hp] at h; cases h)) ?_
  rintro e w' ⟨rfl, hc, hb⟩
  exact ⟨w.heap.size, rfl, ⟨w.heap.size, rfl, ⟨hB, hc.hi, hc.within, hc.c0, hc.c1, hc.c2, hc.c3, hc.c4, hc.c5, hc.c6⟩⟩, hb⟩
theorem qz7 (p : CP) (hp : unB p.op = true) (hn : Rng p.num) (h4 : p.str.length ≤ 1000000000) (h5 : p.esc.length ≤ 1000000000) {B : Nat} {w : World} (hB : B ≤ w.heap.size) (hL : LibOk w) {x : Co} {bx : Nat} (hx : CoAt B w.heap.size w (.pointer (some ⟨bx, 0, none⟩)) x) (zx : (z8 x).length ≤ 1000000000) :
    Calls Tryz.prog 94 #[.agg #[.int .i64 p.op, .pointer (some ⟨bx, 0, none⟩), .pointer none, .int .i64 p.num, .string (BS p.str), .string (BS p.esc), .string ⟨#[]⟩]] w fun e w' => ∃ b, e = .returned (.pointer (some ⟨b, 0, none⟩)) ∧ CoAt B w'.heap.size w' (.pointer (some ⟨b, 0, none⟩)) (.un p x) ∧ Below w.heap.size w w' := by
  refine Calls.mono (show Calls Tryz.prog 94 #[.agg #[.int .i64 p.op, .pointer (some ⟨bx, 0, none⟩), .pointer none, .int .i64 p.num, .string (BS p.str), .string (BS p.esc), .string ⟨#[]⟩]] w _ from qz6 w hL p (.pointer (some ⟨bx, 0, none⟩)) (.pointer none) (z8 x) [] hn h4 h5 zx (Nat.zero_le _) ⟨_, rfl⟩ ⟨_, rfl⟩ (fun _ => hx.text) (fun _ h => by rw [hp] at h; cases h)) ?_
  rintro e w' ⟨rfl, hc, hb⟩
  exact ⟨w.heap.size, rfl, ⟨w.heap.size, _, rfl, ⟨hB, hc.hi, hc.within, hc.c0, hc.c1, hc.c2, hc.c3, hc.c4, hc.c5, hc.c6⟩, hx.below hb⟩, hb⟩
end
end Go.Proofs.YtfkcaldjphakpabGreatDoor
