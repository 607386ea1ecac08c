/- Contracts of spell and spelled. spelled, number, pair. -/
import Derived.Test.YtfkcaldjphakpaaGreatDoorQCo2
import Derived.Deep.RegionHeld3
import Derived.Lib.ItoaLen
namespace Go.Proofs.YtfkcaldjphakpaaGreatDoor
open Go.RowKit

section
theorem escT_len (e : List UInt8) : (escT e).length ≤ 2 * e.length + 10 := by
  have := qL_len e
  unfold escT
  split
  · simp
  · simp
    omega
theorem below_grow (w : World) (k : Nat) (os : Array Obj) : Below w.heap.size w (Sort.grow (w.drewN k) os) :=
  ⟨rfl, rfl, rfl, by first | (simp [Sort.grow]; done) | (simp [Sort.grow]; omega), fun i hi => by
    show ((w.drewN k).heap ++ os)[i]? = _
    rw [Array.getElem?_append_left (by show i < w.heap.size; omega)]
    rfl⟩

/-- What spelling asks: the block, and its sides' texts. -/
structure SpA (w : World) (b : Nat) (p : CP) (l r : Value) : Prop where
  lib : LibOk w
  lt : b < w.heap.size
  c0 : w.cell? ⟨b, 0, none⟩ = some (.int .i64 p.op)
  c1 : w.cell? ⟨b, 1, none⟩ = some l
  c2 : w.cell? ⟨b, 2, none⟩ = some r
  c3 : w.cell? ⟨b, 3, none⟩ = some (.int .i64 p.num)
  c4 : w.cell? ⟨b, 4, none⟩ = some (.string (BS p.str))
  c5 : w.cell? ⟨b, 5, none⟩ = some (.string (BS p.esc))
  rng : Rng p.num
  s4 : p.str.length ≤ 1000000000
  s5 : p.esc.length ≤ 1000000000

set_option maxHeartbeats 1000000 in
theorem spell_0 (w : World) (b : Nat) (p : CP) (l r : Value) (h : SpA w b p l r) (lt rt : List UInt8) (ho : p.op = 0) :
    Calls Tryz.prog 168 #[at0 b] w fun e w' => e = .returned (.string (BS (spellN p lt rt))) ∧ Below w.heap.size w w' := by
  have e0 : (p.op == 0) = true := by rw [ho]; rfl
  have c0 := h.c0
  have hv : spellN p lt rt = p.str := by
    unfold spellN
    rw [e0]
    rfl
  rw [hv]
  clear hv
  unfold at0
  have c4 := h.c4
  clear h ho
  go_enter Tryz.func168, Tryz.ntmps168
  go_wp2_with fail
  go_ret
  exact ⟨rfl, Below.refl _ _⟩

set_option maxHeartbeats 1000000 in
theorem spell_1 (w : World) (b : Nat) (p : CP) (l r : Value) (h : SpA w b p l r) (lt rt : List UInt8) (ho : p.op = 1) :
    Calls Tryz.prog 168 #[at0 b] w fun e w' => e = .returned (.string (BS (spellN p lt rt))) ∧ Below w.heap.size w w' := by
  have e0 : (p.op == 0) = false := by rw [ho]; rfl
  have e1 : (p.op == 1) = true := by rw [ho]; rfl
  have c0 := h.c0
  have hv : spellN p lt rt = Lib.itoa p.num := by
    unfold spellN
    rw [e0, e1]
    rfl
  rw [hv]
  clear hv
  unfold at0
  have c3 := h.c3
  have HF := hide (Tryz.strconv_FormatInt_10 p.num h.rng.1 h.rng.2 w h.lib.pow)
  clear h ho
  go_enter Tryz.func168, Tryz.ntmps168
  go_wp2_with (go_at_call 209; refine (unhide HF).mono ?_; rintro e w1 ⟨rfl, k, os, rfl⟩)
  go_ret
  exact ⟨rfl, below_grow w k os⟩

set_option maxHeartbeats 1000000 in
theorem spell_2 (w : World) (b : Nat) (p : CP) (l r : Value) (h : SpA w b p l r) (lt rt : List UInt8) (ho : p.op = 2) :
    Calls Tryz.prog 168 #[at0 b] w fun e w' => e = .returned (.string (BS (spellN p lt rt))) ∧ Below w.heap.size w w' := by
  have e0 : (p.op == 0) = false := by rw [ho]; rfl
  have e1 : (p.op == 1) = false := by rw [ho]; rfl
  have e2 : (p.op == 2) = true := by rw [ho]; rfl
  have c0 := h.c0
  have hv : spellN p lt rt = qL p.str := by
    unfold spellN
    rw [e0, e1, e2]
    rfl
  rw [hv]
  clear hv
  unfold at0
  have c4 := h.c4
  have HF := hide (cquoted_any p.str h.s4 w h.lib)
  clear h ho
  go_enter Tryz.func168, Tryz.ntmps168
  go_wp2_with (go_at_call 210; refine (unhide HF).mono ?_; rintro e w1 ⟨rfl, hb1⟩)
  go_ret
  exact ⟨rfl, hb1⟩

set_option maxHeartbeats 1000000 in
theorem spell_3 (w : World) (b : Nat) (p : CP) (l r : Value) (h : SpA w b p l r) (lt rt : List UInt8) (ho : p.op = 3) :
    Calls Tryz.prog 168 #[at0 b] w fun e w' => e = .returned (.string (BS (spellN p lt rt))) ∧ Below w.heap.size w w' := by
  have e0 : (p.op == 0) = false := by rw [ho]; rfl
  have e1 : (p.op == 1) = false := by rw [ho]; rfl
  have e2 : (p.op == 2) = false := by rw [ho]; rfl
  have e3 : (p.op == 3) = true := by rw [ho]; rfl
  have c0 := h.c0
  have hv : spellN p lt rt = [84, 82, 85, 69] := by
    unfold spellN
    rw [e0, e1, e2, e3]
    rfl
  rw [hv]
  clear hv
  unfold at0
  clear h ho
  go_enter Tryz.func168, Tryz.ntmps168
  go_wp2_with fail
  go_ret
  exact ⟨rfl, Below.refl _ _⟩

set_option maxHeartbeats 1000000 in
theorem spell_4 (w : World) (b : Nat) (p : CP) (l r : Value) (h : SpA w b p l r) (lt rt : List UInt8) (ho : p.op = 4) :
    Calls Tryz.prog 168 #[at0 b] w fun e w' => e = .returned (.string (BS (spellN p lt rt))) ∧ Below w.heap.size w w' := by
  have e0 : (p.op == 0) = false := by rw [ho]; rfl
  have e1 : (p.op == 1) = false := by rw [ho]; rfl
  have e2 : (p.op == 2) = false := by rw [ho]; rfl
  have e3 : (p.op == 3) = false := by rw [ho]; rfl
  have e4 : (p.op == 4) = true := by rw [ho]; rfl
  have c0 := h.c0
  have hv : spellN p lt rt = [70, 65, 76, 83, 69] := by
    unfold spellN
    rw [e0, e1, e2, e3, e4]
    rfl
  rw [hv]
  clear hv
  unfold at0
  clear h ho
  go_enter Tryz.func168, Tryz.ntmps168
  go_wp2_with fail
  go_ret
  exact ⟨rfl, Below.refl _ _⟩

set_option maxHeartbeats 1000000 in
theorem spell_5 (w : World) (b : Nat) (p : CP) (l r : Value) (h : SpA w b p l r) (lt rt : List UInt8) (hl : TextAt w l lt) (zl : lt.length ≤ 1000000000) (ho : p.op = 5) :
    Calls Tryz.prog 168 #[at0 b] w fun e w' => e = .returned (.string (BS (spellN p lt rt))) ∧ Below w.heap.size w w' := by
  have e0 : (p.op == 0) = false := by rw [ho]; rfl
  have e1 : (p.op == 1) = false := by rw [ho]; rfl
  have e2 : (p.op == 2) = false := by rw [ho]; rfl
  have e3 : (p.op == 3) = false := by rw [ho]; rfl
  have e4 : (p.op == 4) = false := by rw [ho]; rfl
  have e5 : (p.op == 5) = true := by rw [ho]; rfl
  have c0 := h.c0
  have hv : spellN p lt rt = [40, 78, 79, 84, 32] ++ lt ++ [41] := by
    unfold spellN
    rw [e0, e1, e2, e3, e4, e5]
    rfl
  rw [hv]
  clear hv
  unfold at0
  obtain ⟨lb, rfl, hlb, lc⟩ := hl
  unfold at0 at h
  have c1 := h.c1
  obtain ⟨R1, e101, z1, a1⟩ := add_any ⟨#[40, 78, 79, 84, 32]⟩ (BS lt) 5 1000000000 (Nat.le_refl _) (by rw [BS_size]; omega) (by decide)
  obtain ⟨R2, e102, z2, a2⟩ := add_any R1 ⟨#[41]⟩ 1000000005 1 z1 (Nat.le_refl _) (by decide)
  have HR : Hid (R2 = BS ([40, 78, 79, 84, 32] ++ lt ++ [41])) := hide (by
    rw [e102, e101, show (⟨#[40, 78, 79, 84, 32]⟩ : ByteArray) = BS [40, 78, 79, 84, 32] from rfl, show (⟨#[41]⟩ : ByteArray) = BS [41] from rfl, BS_add, BS_add])
  clear e101 z1 e102 z2
  clear h ho
  go_enter Tryz.func168, Tryz.ntmps168
  go_wp2_with fail
  go_ret
  exact ⟨by rw [unhide HR]; rfl, Below.refl _ _⟩

set_option maxHeartbeats 1000000 in
theorem spell_23 (w : World) (b : Nat) (p : CP) (l r : Value) (h : SpA w b p l r) (lt rt : List UInt8) (hl : TextAt w l lt) (zl : lt.length ≤ 1000000000) (ho : p.op = 23) :
    Calls Tryz.prog 168 #[at0 b] w fun e w' => e = .returned (.string (BS (spellN p lt rt))) ∧ Below w.heap.size w w' := by
  have e0 : (p.op == 0) = false := by rw [ho]; rfl
  have e1 : (p.op == 1) = false := by rw [ho]; rfl
  have e2 : (p.op == 2) = false := by rw [ho]; rfl
  have e3 : (p.op == 3) = false := by rw [ho]; rfl
  have e4 : (p.op == 4) = false := by rw [ho]; rfl
  have e5 : (p.op == 5) = false := by rw [ho]; rfl
  have e23 : (p.op == 23) = true := by rw [ho]; rfl
  have c0 := h.c0
  have hv : spellN p lt rt = [40] ++ lt ++ [32, 73, 83, 32, 78, 85, 76, 76, 41] := by
    unfold spellN
    rw [e0, e1, e2, e3, e4, e5, e23]
    rfl
  rw [hv]
  clear hv
  unfold at0
  obtain ⟨lb, rfl, hlb, lc⟩ := hl
  unfold at0 at h
  have c1 := h.c1
  obtain ⟨R1, e101, z1, a1⟩ := add_any ⟨#[40]⟩ (BS lt) 1 1000000000 (Nat.le_refl _) (by rw [BS_size]; omega) (by decide)
  obtain ⟨R2, e102, z2, a2⟩ := add_any R1 ⟨#[32, 73, 83, 32, 78, 85, 76, 76, 41]⟩ 1000000001 9 z1 (Nat.le_refl _) (by decide)
  have HR : Hid (R2 = BS ([40] ++ lt ++ [32, 73, 83, 32, 78, 85, 76, 76, 41])) := hide (by
    rw [e102, e101, show (⟨#[40]⟩ : ByteArray) = BS [40] from rfl, show (⟨#[32, 73, 83, 32, 78, 85, 76, 76, 41]⟩ : ByteArray) = BS [32, 73, 83, 32, 78, 85, 76, 76, 41] from rfl, BS_add, BS_add])
  clear e101 z1 e102 z2
  clear h ho
  go_enter Tryz.func168, Tryz.ntmps168
  go_wp2_with fail
  go_ret
  exact ⟨by rw [unhide HR]; rfl, Below.refl _ _⟩

set_option maxHeartbeats 1000000 in
theorem spell_22 (w : World) (b : Nat) (p : CP) (l r : Value) (h : SpA w b p l r) (lt rt : List UInt8) (hl : TextAt w l lt) (zl : lt.length ≤ 1000000000) (ho : p.op = 22) :
    Calls Tryz.prog 168 #[at0 b] w fun e w' => e = .returned (.string (BS (spellN p lt rt))) ∧ Below w.heap.size w w' := by
  have e0 : (p.op == 0) = false := by rw [ho]; rfl
  have e1 : (p.op == 1) = false := by rw [ho]; rfl
  have e2 : (p.op == 2) = false := by rw [ho]; rfl
  have e3 : (p.op == 3) = false := by rw [ho]; rfl
  have e4 : (p.op == 4) = false := by rw [ho]; rfl
  have e5 : (p.op == 5) = false := by rw [ho]; rfl
  have e23 : (p.op == 23) = false := by rw [ho]; rfl
  have e22 : (p.op == 22) = true := by rw [ho]; rfl
  have c0 := h.c0
  have hv : spellN p lt rt = [40] ++ lt ++ [32, 76, 73, 75, 69, 32] ++ qL p.str ++ escT p.esc ++ [41] := by
    unfold spellN
    rw [e0, e1, e2, e3, e4, e5, e23, e22]
    rfl
  rw [hv]
  clear hv
  unfold at0
  obtain ⟨lb, rfl, hlb, lc⟩ := hl
  unfold at0 at h
  have c1 := h.c1
  have c4 := h.c4
  have c5 := h.c5
  have hblt := h.lt
  have hq := qL_len p.str
  have s4 := h.s4
  have s5 := h.s5
  have hqe := escT_len p.esc
  obtain ⟨R1, e101, z1, a1⟩ := add_any ⟨#[40]⟩ (BS lt) 1 1000000000 (Nat.le_refl _) (by rw [BS_size]; omega) (by decide)
  obtain ⟨R2, e102, z2, a2⟩ := add_any R1 ⟨#[32, 76, 73, 75, 69, 32]⟩ 1000000001 6 z1 (Nat.le_refl _) (by decide)
  obtain ⟨R3, e103, z3, a3⟩ := add_any R2 (BS (qL p.str)) 1000000007 2000000002 z2 (by rw [BS_size]; omega) (by decide)
  obtain ⟨R4, e104, z4, a4⟩ := add_any R3 (BS (escT p.esc)) 3000000009 2000000010 z3 (by rw [BS_size]; omega) (by decide)
  obtain ⟨R5, e105, z5, a5⟩ := add_any R4 ⟨#[41]⟩ 5000000019 1 z4 (Nat.le_refl _) (by decide)
  have HR : Hid (R5 = BS ([40] ++ lt ++ [32, 76, 73, 75, 69, 32] ++ qL p.str ++ escT p.esc ++ [41])) := hide (by
    rw [e105, e104, e103, e102, e101, show (⟨#[40]⟩ : ByteArray) = BS [40] from rfl, show (⟨#[32, 76, 73, 75, 69, 32]⟩ : ByteArray) = BS [32, 76, 73, 75, 69, 32] from rfl, show (⟨#[41]⟩ : ByteArray) = BS [41] from rfl, BS_add, BS_add, BS_add, BS_add, BS_add])
  clear e101 z1 e102 z2 e103 z3 e104 z4 e105 z5
  have HQ : Hid (∀ w1, Below w.heap.size w w1 → Calls Tryz.prog 210 #[.string (BS p.str)] w1 fun e w' => e = .returned (.string (BS (qL p.str))) ∧ Below w1.heap.size w1 w') := hide (fun w1 hb => cquoted_any p.str s4 w1 (h.lib.below hb (Nat.le_refl _)))
  have HS : Hid (∀ w1, Below w.heap.size w w1 → Calls Tryz.prog 211 #[.pointer (some ⟨b, 0, none⟩)] w1 fun e w' => e = .returned (.string (BS (escT p.esc))) ∧ Below w1.heap.size w1 w') := hide (fun w1 hb => spellEscape_any b p.esc s5 w1 (h.lib.below hb (Nat.le_refl _)) ((hb.cell (p := ⟨b, 5, none⟩) hblt).trans c5))
  have HB : Hid (Below w.heap.size w w.drew) := hide (Below.refl _ _).drew
  clear h ho hq s4 s5 hqe c5
  go_enter Tryz.func168, Tryz.ntmps168
  go_wp2_with fail
  go_region_held3 (fun W => W.cell? ⟨b, 1, none⟩ = some (.pointer (some ⟨lb, 0, none⟩)) ∧ W.cell? ⟨lb, 6, none⟩ = some (.string (BS lt)) ∧ W.cell? ⟨b, 4, none⟩ = some (.string (BS p.str))) (go_keep) (first | (go_at_call 210; refine (unhide HQ _ (unhide HB)).mono ?_; rintro e w1 ⟨rfl, hb1⟩; replace HB := hide (below_any (unhide HB) hb1); obtain ⟨hc1, hf1⟩ := bcell (unhide HB); have d1 := (hc1 b 1 hblt).trans c1; have d2 := (hc1 lb 6 hlb).trans lc; have d3 := (hc1 b 4 hblt).trans c4; clear hc1 hf1 hb1) | (go_at_call 211; refine (unhide HS _ (unhide HB)).mono ?_; rintro e w1 ⟨rfl, hb1⟩; replace HB := hide (below_any (unhide HB) hb1); obtain ⟨hc1, hf1⟩ := bcell (unhide HB); have d1 := (hc1 b 1 hblt).trans c1; have d2 := (hc1 lb 6 hlb).trans lc; have d3 := (hc1 b 4 hblt).trans c4; clear hc1 hf1 hb1))
  all_goals (go_wp2_with fail; go_ret; exact ⟨by rw [unhide HR]; rfl, unhide HB⟩)

set_option maxHeartbeats 1000000 in
theorem spell_bin (w : World) (b : Nat) (p : CP) (l r : Value) (h : SpA w b p l r) (lt rt : List UInt8) (hl : TextAt w l lt) (zl : lt.length ≤ 1000000000) (hr : TextAt w r rt) (zr : rt.length ≤ 1000000000) (h0 : ¬ p.op = 0) (h1 : ¬ p.op = 1) (h2 : ¬ p.op = 2) (h3 : ¬ p.op = 3) (h4 : ¬ p.op = 4) (h5 : ¬ p.op = 5) (h23 : ¬ p.op = 23) (h22 : ¬ p.op = 22) :
    Calls Tryz.prog 168 #[at0 b] w fun e w' => e = .returned (.string (BS (spellN p lt rt))) ∧ Below w.heap.size w w' := by
  have e0 : (p.op == 0) = false := beq_eq_false_iff_ne.2 h0
  have e1 : (p.op == 1) = false := beq_eq_false_iff_ne.2 h1
  have e2 : (p.op == 2) = false := beq_eq_false_iff_ne.2 h2
  have e3 : (p.op == 3) = false := beq_eq_false_iff_ne.2 h3
  have e4 : (p.op == 4) = false := beq_eq_false_iff_ne.2 h4
  have e5 : (p.op == 5) = false := beq_eq_false_iff_ne.2 h5
  have e23 : (p.op == 23) = false := beq_eq_false_iff_ne.2 h23
  have e22 : (p.op == 22) = false := beq_eq_false_iff_ne.2 h22
  have c0 := h.c0
  have hv : spellN p lt rt = [40] ++ lt ++ [32] ++ signL p.op ++ [32] ++ rt ++ [41] := by
    unfold spellN
    rw [e0, e1, e2, e3, e4, e5, e23, e22]
    rfl
  rw [hv]
  clear hv
  unfold at0
  obtain ⟨lb, rfl, hlb, lc⟩ := hl
  obtain ⟨rb, rfl, hrb, rc⟩ := hr
  unfold at0 at h
  have c1 := h.c1
  have c2 := h.c2
  have hsg := signL_len p.op
  obtain ⟨R1, e101, z1, a1⟩ := add_any ⟨#[40]⟩ (BS lt) 1 1000000000 (Nat.le_refl _) (by rw [BS_size]; omega) (by decide)
  obtain ⟨R2, e102, z2, a2⟩ := add_any R1 ⟨#[32]⟩ 1000000001 1 z1 (Nat.le_refl _) (by decide)
  obtain ⟨R3, e103, z3, a3⟩ := add_any R2 (BS (signL p.op)) 1000000002 1000 z2 (by rw [BS_size]; omega) (by decide)
  obtain ⟨R4, e104, z4, a4⟩ := add_any R3 ⟨#[32]⟩ 1000001002 1 z3 (Nat.le_refl _) (by decide)
  obtain ⟨R5, e105, z5, a5⟩ := add_any R4 (BS rt) 1000001003 1000000000 z4 (by rw [BS_size]; omega) (by decide)
  obtain ⟨R6, e106, z6, a6⟩ := add_any R5 ⟨#[41]⟩ 2000001003 1 z5 (Nat.le_refl _) (by decide)
  have HR : Hid (R6 = BS ([40] ++ lt ++ [32] ++ signL p.op ++ [32] ++ rt ++ [41])) := hide (by
    rw [e106, e105, e104, e103, e102, e101, show (⟨#[40]⟩ : ByteArray) = BS [40] from rfl, show (⟨#[32]⟩ : ByteArray) = BS [32] from rfl, show (⟨#[41]⟩ : ByteArray) = BS [41] from rfl, BS_add, BS_add, BS_add, BS_add, BS_add, BS_add])
  clear e101 z1 e102 z2 e103 z3 e104 z4 e105 z5 e106 z6
  clear h hsg zl zr h0 h1 h2 h3 h4 h5 h23 h22
  go_enter Tryz.func168, Tryz.ntmps168
  go_wp2_with fail
  go_region_held3 (fun W => W.cell? ⟨b, 0, none⟩ = some (.int .i64 p.op) ∧ W.cell? ⟨b, 1, none⟩ = some (.pointer (some ⟨lb, 0, none⟩)) ∧ W.cell? ⟨lb, 6, none⟩ = some (.string (BS lt)) ∧ W.cell? ⟨b, 2, none⟩ = some (.pointer (some ⟨rb, 0, none⟩)) ∧ W.cell? ⟨rb, 6, none⟩ = some (.string (BS rt))) (go_keep) (first | (go_at_call 212; refine (csign_any _ _).mono ?_; rintro e w1 ⟨rfl, hw1⟩; subst w1))
  all_goals (go_wp2_with fail; go_ret; exact ⟨by rw [unhide HR]; rfl, (Below.refl _ _).drew⟩)
end

section
/-- Spelling, whatever the operator: a side's text is asked for where the operator has that side. -/
def unB (op : Int) : Bool := op == 5 || op == 22 || op == 23
def leafB (op : Int) : Bool := op == 0 || op == 1 || op == 2 || op == 3 || op == 4
theorem spell_any (w : World) (b : Nat) (p : CP) (l r : Value) (h : SpA w b p l r) (lt rt : List UInt8) (zl : lt.length ≤ 1000000000) (zr : rt.length ≤ 1000000000)
    (hl : leafB p.op = false → TextAt w l lt) (hr : leafB p.op = false → unB p.op = false → TextAt w r rt) :
    Calls Tryz.prog 168 #[at0 b] w fun e w' => e = .returned (.string (BS (spellN p lt rt))) ∧ Below w.heap.size w w' := by
  by_cases h0 : p.op = 0
  · exact spell_0 w b p l r h lt rt h0
  by_cases h1 : p.op = 1
  · exact spell_1 w b p l r h lt rt h1
  by_cases h2 : p.op = 2
  · exact spell_2 w b p l r h lt rt h2
  by_cases h3 : p.op = 3
  · exact spell_3 w b p l r h lt rt h3
  by_cases h4 : p.op = 4
  · exact spell_4 w b p l r h lt rt h4
  have hL := hl (by unfold leafB; simp [h0, h1, h2, h3, h4])
  by_cases h5 : p.op = 5
  · exact spell_5 w b p l r h lt rt hL zl h5
  by_cases h23 : p.op = 23
  · exact spell_23 w b p l r h lt rt hL zl h23
  by_cases h22 : p.op = 22
  · exact spell_22 w b p l r h lt rt hL zl h22
  exact spell_bin w b p l r h lt rt hL zl (hr (by unfold leafB; simp [h0, h1, h2, h3, h4]) (by unfold unB; simp [h5, h22, h23])) zr h0 h1 h2 h3 h4 h5 h23 h22

/-- What is handed to spelled. -/
def coV (p : CP) (l r : Value) : Value := .agg #[.int .i64 p.op, l, r, .int .i64 p.num, .string (BS p.str), .string (BS p.esc), .string ⟨#[]⟩]

theorem TextAt.below {w w' : World} {v : Value} {t : List UInt8} (h : TextAt w v t) (hb : Below w.heap.size w w') : TextAt w' v t := by
  obtain ⟨b, rfl, h1, h2⟩ := h
  exact ⟨b, rfl, Nat.lt_of_lt_of_le h1 hb.size, (hb.cell (p := ⟨b, 6, none⟩) h1).trans h2⟩

set_option maxHeartbeats 1000000 in
theorem spelled_any (w : World) (hL : LibOk w) (p : CP) (l r : Value) (lt rt : List UInt8) (hn : Rng p.num) (h4 : p.str.length ≤ 1000000000) (h5 : p.esc.length ≤ 1000000000) (zl : lt.length ≤ 1000000000) (zr : rt.length ≤ 1000000000)
    (hlp : ∃ a, l = .pointer a) (hrp : ∃ a, r = .pointer a)
    (hl : leafB p.op = false → TextAt w l lt) (hr : leafB p.op = false → unB p.op = false → TextAt w r rt) :
    Calls Tryz.prog 115 #[coV p l r] w fun e w' => e = .returned (at0 w.heap.size) ∧ CellsC w.heap.size w'.heap.size w' w.heap.size p l r (spellN p lt rt) ∧ Below w.heap.size w w' := by
  have hbl : Below w.heap.size w (w.alloc (.cells #[.int .i64 p.op, l, r, .int .i64 p.num, .string (BS p.str), .string (BS p.esc), .string ⟨#[]⟩] 75)) := (Below.refl _ _).alloc (Nat.le_refl _) _
  have HS := hide (spell_any (w.alloc (.cells #[.int .i64 p.op, l, r, .int .i64 p.num, .string (BS p.str), .string (BS p.esc), .string ⟨#[]⟩] 75)) w.heap.size p l r
    ⟨hL.alloc _, by simp, by simp, by simp, by simp, by simp, by simp, by simp, hn, h4, h5⟩ lt rt zl zr (fun h => (hl h).below hbl) (fun h h' => (hr h h').below hbl))
  obtain ⟨la, rfl⟩ := hlp
  obtain ⟨ra, rfl⟩ := hrp
  generalize ht : spellN p lt rt = t
  rw [ht] at HS
  unfold at0 at HS
  clear hL hn h4 h5 zl zr hl hr ht
  unfold at0 coV
  go_enter Tryz.func115, Tryz.ntmps115
  go_wp2_with (go_at_call 168; refine (unhide HS).mono ?_; rintro e w1 ⟨rfl, hb1⟩; have hz1 : w.heap.size < w1.heap.size := (by have := hb1.size; simp at this; omega); have g0 : w1.cell? ⟨w.heap.size, 0, none⟩ = some (.int .i64 p.op) := ((bcell hb1).1 _ 0 (by simp)).trans (by simp); have g1 : w1.cell? ⟨w.heap.size, 1, none⟩ = some (.pointer la) := ((bcell hb1).1 _ 1 (by simp)).trans (by simp); have g2 : w1.cell? ⟨w.heap.size, 2, none⟩ = some (.pointer ra) := ((bcell hb1).1 _ 2 (by simp)).trans (by simp); have g3 : w1.cell? ⟨w.heap.size, 3, none⟩ = some (.int .i64 p.num) := ((bcell hb1).1 _ 3 (by simp)).trans (by simp); have g4 : w1.cell? ⟨w.heap.size, 4, none⟩ = some (.string (BS p.str)) := ((bcell hb1).1 _ 4 (by simp)).trans (by simp); have g5 : w1.cell? ⟨w.heap.size, 5, none⟩ = some (.string (BS p.esc)) := ((bcell hb1).1 _ 5 (by simp)).trans (by simp); have g6 : w1.cell? ⟨w.heap.size, 6, none⟩ = some (.string ⟨#[]⟩) := ((bcell hb1).1 _ 6 (by simp)).trans (by simp); have z0 : ∀ j, w1.frozen? ⟨w.heap.size, j, none⟩ = false := (fun j => ((bcell hb1).2 _ j (by simp)).trans (by simp)); have hB1 := hide (below_any hbl hb1); clear hb1)
  go_ret
  refine ⟨rfl, ⟨Nat.le_refl _, by simpa using hz1, by simpa using hz1, by simp [go_sem, g0], by simp [go_sem, g1], by simp [go_sem, g2], by simp [go_sem, g3], by simp [go_sem, g4], by simp [go_sem, g5], by simp [go_sem, g6]⟩, ?_⟩
  exact (unhide hB1).setCell (by simp) _
end

end Go.Proofs.YtfkcaldjphakpaaGreatDoor
