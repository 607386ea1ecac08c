/- pair. not. not, operator by operator. How long the texts of a selector's cores are at most. Every core of a selector is short enough. number, join. join, whatever the term. core.Of. -/
import Derived.Test.YtfkcaldjphakpabGreatDoorM21
import Derived.Deep.QuietTactic
import Derived.BigQuiet
import Derived.Deep.RegionHeld3
import Derived.Test.YtfkcaldjphakpabGreatDoorM33
import Derived.Test.YtfkcaldjphakpabGreatDoorM16
namespace Go.Proofs.YtfkcaldjphakpabGreatDoor
open Go.RowKit

section
theorem LibOk.drew {w : World} (h : LibOk w) : LibOk w.drew := h.below (Below.refl _ _).drew (Nat.le_refl _)

theorem spellN_bin {op : Int} (h1 : leafB op = false) (h2 : unB op = false) (l r : List UInt8) : spellN (plainP' op) l r = [40] ++ l ++ [32] ++ signL op ++ [32] ++ r ++ [41] := by
  unfold leafB at h1
  unfold unB at h2
  simp only [Bool.or_eq_false_iff] at h1 h2
  obtain ⟨⟨⟨⟨a, b⟩, c⟩, d⟩, e⟩ := h1
  obtain ⟨⟨f, g⟩, i⟩ := h2
  simp only [spellN, plainP', a, b, c, d, e, f, g, i]
  rfl

/-- A new core of two sides. -/
theorem CoAt.two {B : Nat} {w0 w' : World} {op : Int} {x y : Co} {vx vy : Value} (hB : B ≤ w0.heap.size) (hc : CellsC w0.heap.size w'.heap.size w' w0.heap.size (plainP' op) vx vy (spellN (plainP' op) (spell x) (spell y))) (hb : Below w0.heap.size w0 w') (hx : CoAt B w0.heap.size w0 vx x) (hy : CoAt B w0.heap.size w0 vy y) :
    CoAt B w'.heap.size w' (at0 w0.heap.size) (.bin (plainP' op) x y) :=
  ⟨w0.heap.size, vx, vy, rfl, ⟨hB, hc.hi, hc.within, hc.c0, hc.c1, hc.c2, hc.c3, hc.c4, hc.c5, hc.c6⟩, hx.below hb, hy.below hb⟩

theorem CoAt.ptr {B E : Nat} {w : World} {v : Value} {c : Co} (h : CoAt B E w v c) : ∃ b, v = .pointer (some ⟨b, 0, none⟩) := by
  obtain ⟨b, _, _, _, rfl, _⟩ := h.head
  exact ⟨b, rfl⟩

/-- The contract of spelled at two sides. -/
theorem spelled_two (op : Int) {B : Nat} {w : World} (hB : B ≤ w.heap.size) (hL : LibOk w) {x y : Co} {bx by' : Nat} (hx : CoAt B w.heap.size w (.pointer (some ⟨bx, 0, none⟩)) x) (hy : CoAt B w.heap.size w (.pointer (some ⟨by', 0, none⟩)) y) (zx : (spell x).length ≤ 1000000000) (zy : (spell y).length ≤ 1000000000) :
    Calls Tryz.prog 94 #[.agg #[.int .i64 op, .pointer (some ⟨bx, 0, none⟩), .pointer (some ⟨by', 0, none⟩), .int .i64 0, .string ⟨#[]⟩, .string ⟨#[]⟩, .string ⟨#[]⟩]] w fun e w' => ∃ b, e = .returned (.pointer (some ⟨b, 0, none⟩)) ∧ CoAt B w'.heap.size w' (.pointer (some ⟨b, 0, none⟩)) (.bin (plainP' op) x y) ∧ Below w.heap.size w w' := by
  have h := spelled_any w hL (plainP' op) (.pointer (some ⟨bx, 0, none⟩)) (.pointer (some ⟨by', 0, none⟩)) (spell x) (spell y) (show Rng 0 from ⟨by decide, by decide⟩) (Nat.zero_le _) (Nat.zero_le _) zx zy ⟨_, rfl⟩ ⟨_, rfl⟩ (fun _ => hx.text) (fun _ _ => hy.text)
  refine Calls.mono (show Calls Tryz.prog 94 #[.agg #[.int .i64 op, .pointer (some ⟨bx, 0, none⟩), .pointer (some ⟨by', 0, none⟩), .int .i64 0, .string ⟨#[]⟩, .string ⟨#[]⟩, .string ⟨#[]⟩]] w _ from h) ?_
  rintro e w' ⟨rfl, hc, hb⟩
  exact ⟨w.heap.size, rfl, CoAt.two hB hc hb hx hy, hb⟩

set_option maxHeartbeats 1000000 in
set_option maxRecDepth 100000 in
theorem pair_any (op : Int) {B : Nat} {w : World} (hB : B ≤ w.heap.size) (hL : LibOk w) {x y : Co} {vx vy : Value} (hx : CoAt B w.heap.size w vx x) (hy : CoAt B w.heap.size w vy y) (zx : (spell x).length ≤ 1000000000) (zy : (spell y).length ≤ 1000000000) :
    Calls Tryz.prog 90 #[.int .i64 op, vx, vy] w fun e w' => ∃ b, e = .returned (.pointer (some ⟨b, 0, none⟩)) ∧ CoAt B w'.heap.size w' (.pointer (some ⟨b, 0, none⟩)) (pairC op x y) ∧ Below w.heap.size w w' := by
  obtain ⟨bx, rfl⟩ := hx.ptr
  obtain ⟨by', rfl⟩ := hy.ptr
  obtain ⟨bx', ex, hxl, cx⟩ := hx.text
  obtain ⟨by2, ey, hyl, cy⟩ := hy.text
  obtain rfl : bx' = bx := by injection ex with ex; injection ex with ex; injection ex with ex; exact ex.symm
  obtain rfl : by2 = by' := by injection ey with ey; injection ey with ey; injection ey with ey; exact ey.symm
  have S1 : Hid (∀ w1, Below w.heap.size w w1 → Calls Tryz.prog 94 #[.agg #[.int .i64 op, .pointer (some ⟨bx', 0, none⟩), .pointer (some ⟨by2, 0, none⟩), .int .i64 0, .string ⟨#[]⟩, .string ⟨#[]⟩, .string ⟨#[]⟩]] w1 fun e w' => ∃ b, e = .returned (.pointer (some ⟨b, 0, none⟩)) ∧ CoAt B w'.heap.size w' (.pointer (some ⟨b, 0, none⟩)) (.bin (plainP' op) x y) ∧ Below w1.heap.size w1 w') :=
    hide (fun w1 hb => spelled_two op (Nat.le_trans hB hb.size) (hL.below hb (Nat.le_refl _)) (hx.below hb) (hy.below hb) zx zy)
  have S2 : Hid (∀ w1, Below w.heap.size w w1 → Calls Tryz.prog 94 #[.agg #[.int .i64 op, .pointer (some ⟨by2, 0, none⟩), .pointer (some ⟨bx', 0, none⟩), .int .i64 0, .string ⟨#[]⟩, .string ⟨#[]⟩, .string ⟨#[]⟩]] w1 fun e w' => ∃ b, e = .returned (.pointer (some ⟨b, 0, none⟩)) ∧ CoAt B w'.heap.size w' (.pointer (some ⟨b, 0, none⟩)) (.bin (plainP' op) y x) ∧ Below w1.heap.size w1 w') :=
    hide (fun w1 hb => spelled_two op (Nat.le_trans hB hb.size) (hL.below hb (Nat.le_refl _)) (hy.below hb) (hx.below hb) zy zx)
  have hlt : Op.bytesLess (BS (spell y)).toList (BS (spell x)).toList = Op.bytesLess (spell y) (spell x) := by rw [BS_toList, BS_toList]
  have DN : Hid (∀ n, Below w.heap.size w (w.drewN n)) := hide (fun n => ⟨rfl, rfl, rfl, Nat.le_refl _, fun _ _ => rfl⟩)
  unfold pairC
  generalize Op.bytesLess (spell y) (spell x) = lt at *
  clear hx hy zx zy hL hB ex ey
  cases he : eitherB op with
  | false =>
    rw [Bool.false_and, if_neg (by decide)]
    have TE : Hid (∀ w, Calls Tryz.prog 138 #[.int .i64 op] w fun e w' => e = .returned (.bool false) ∧ w' = w) := hide (fun w => he ▸ takesEither_any op w)
    clear he
    go_enter Tryz.func90, Tryz.ntmps90
    go_wp2_with fail
    go_quiet ((go_at_call 138; exact Calls.quiet_of_same (unhide TE _)))
    go_wp2_with (go_at_call 94; refine (unhide S1 _ (unhide DN _)).mono ?_; rintro e w2 ⟨b, rfl, hc, hb⟩)
    go_ret
    exact ⟨b, rfl, hc, below_any (unhide DN _) hb⟩
  | true =>
    rw [Bool.true_and]
    have TE : Hid (∀ w, Calls Tryz.prog 138 #[.int .i64 op] w fun e w' => e = .returned (.bool true) ∧ w' = w) := hide (fun w => he ▸ takesEither_any op w)
    clear he
    cases lt with
    | false =>
      rw [if_neg (by decide)]
      go_enter Tryz.func90, Tryz.ntmps90
      go_wp2_with fail
      go_quiet ((go_at_call 138; exact Calls.quiet_of_same (unhide TE _)))
      go_wp2_with (go_at_call 94; refine (unhide S1 _ (unhide DN _)).mono ?_; rintro e w2 ⟨b, rfl, hc, hb⟩)
      go_ret
      exact ⟨b, rfl, hc, below_any (unhide DN _) hb⟩
    | true =>
      rw [if_pos rfl]
      go_enter Tryz.func90, Tryz.ntmps90
      go_wp2_with fail
      go_quiet ((go_at_call 138; exact Calls.quiet_of_same (unhide TE _)))
      go_wp2_with (go_at_call 94; refine (unhide S2 _ (unhide DN _)).mono ?_; rintro e w2 ⟨b, rfl, hc, hb⟩)
      go_ret
      exact ⟨b, rfl, hc, below_any (unhide DN _) hb⟩
end

section
/-- How many tests stand under AND and OR. -/
def uC : Co → Nat
  | .leaf _ => 1
  | .un _ x => uC x
  | .bin p x y => if p.op == 6 || p.op == 7 then uC x + uC y else 1
theorem uC_pos : ∀ c, 1 ≤ uC c := by
  intro c
  induction c with
  | leaf p => exact Nat.le_refl _
  | un p x ih => exact ih
  | bin p x y ihx ihy => unfold uC; split <;> omega
theorem uC_pair (op : Int) (x y : Co) : uC (pairC op x y) = if op == 6 || op == 7 then uC x + uC y else 1 := by
  unfold pairC
  split
  · show (if (op == 6 || op == 7) = true then uC y + uC x else 1) = _
    rw [Nat.add_comm]
  · rfl
theorem uC_not : ∀ c, uC (notC c) = uC c := by
  intro c
  induction c with
  | leaf p => unfold notC; split; rfl; split <;> rfl
  | un p x ih => unfold notC; split <;> rfl
  | bin p x y ihx ihy =>
    unfold notC
    by_cases h6 : (p.op == 6) = true
    · rw [if_pos h6, uC_pair, ihx, ihy]
      show (if ((7 : Int) == 6 || (7 : Int) == 7) = true then _ else _) = if (p.op == 6 || p.op == 7) = true then _ else _
      rw [h6]; rfl
    rw [if_neg h6]
    by_cases h7 : (p.op == 7) = true
    · rw [if_pos h7, uC_pair, ihx, ihy]
      show (if ((6 : Int) == 6 || (6 : Int) == 7) = true then _ else _) = if (p.op == 6 || p.op == 7) = true then _ else _
      rw [h7, Bool.or_true]; rfl
    rw [if_neg h7]
    have hu : uC (.bin p x y) = 1 := by
      show (if (p.op == 6 || p.op == 7) = true then _ else _) = 1
      rw [if_neg]
      rw [Bool.eq_false_iff.2 h6, Bool.eq_false_iff.2 h7]; decide
    by_cases h10 : (p.op == 10) = true
    · rw [if_pos h10, uC_pair, hu]; rfl
    rw [if_neg h10]
    by_cases h11 : (p.op == 11) = true
    · rw [if_pos h11, uC_pair, hu]; rfl
    rw [if_neg h11]
    rfl

theorem spell_pair (op : Int) (h1 : leafB op = false) (h2 : unB op = false) (x y : Co) : (spell (pairC op x y)).length = (spell x).length + (spell y).length + 4 + (signL op).length := by
  unfold pairC
  split
  · show (spellN (plainP' op) (spell y) (spell x)).length = _
    rw [spellN_bin h1 h2]; simp; omega
  · show (spellN (plainP' op) (spell x) (spell y)).length = _
    rw [spellN_bin h1 h2]; simp; omega
/-- The operators of terms with two sides. -/
def binB (op : Int) : Bool := !leafB op && !unB op
theorem spell_bin_len {p : CP} (h : binB p.op = true) (x y : Co) : (spell (.bin p x y)).length = (spell x).length + (spell y).length + 4 + (signL p.op).length := by
  show (spellN p (spell x) (spell y)).length = _
  unfold binB leafB unB at h
  simp only [Bool.and_eq_true, Bool.not_eq_true', Bool.or_eq_false_iff] at h
  obtain ⟨⟨⟨⟨⟨a, b⟩, c⟩, d⟩, e⟩, ⟨f, g⟩, i⟩ := h
  simp only [spellN, a, b, c, d, e, f, g, i]
  simp
  omega
/-- Cores of the right shapes. -/
def WfC : Co → Prop
  | .leaf p => leafB p.op = true
  | .un p x => unB p.op = true ∧ WfC x
  | .bin p x y => binB p.op = true ∧ WfC x ∧ WfC y
theorem wfC_pair {op : Int} (h : binB op = true) {x y : Co} (hx : WfC x) (hy : WfC y) : WfC (pairC op x y) := by
  unfold pairC
  split
  · exact ⟨h, hy, hx⟩
  · exact ⟨h, hx, hy⟩
theorem wfC_not : ∀ c, WfC c → WfC (notC c) := by
  intro c
  induction c with
  | leaf p => intro h; unfold notC; split; exact rfl; split; exact rfl; exact ⟨rfl, h⟩
  | un p x ih => intro h; unfold notC; split; exact h.2; exact ⟨rfl, h⟩
  | bin p x y ihx ihy =>
    intro h
    unfold notC
    split
    · exact wfC_pair rfl (ihx h.2.1) (ihy h.2.2)
    split
    · exact wfC_pair rfl (ihx h.2.1) (ihy h.2.2)
    split
    · exact wfC_pair rfl h.2.2 h.2.1
    split
    · exact wfC_pair rfl h.2.2 h.2.1
    · exact ⟨rfl, h⟩
theorem spell_not5 (c : Co) : (spell (.un (plainP' 5) c)).length = (spell c).length + 6 := by
  show (spellN (plainP' 5) (spell c) []).length = _
  simp [spellN, plainP']
theorem spell_not_len : ∀ c, WfC c → (spell (notC c)).length + 1 ≤ (spell c).length + 7 * uC c := by
  intro c
  induction c with
  | leaf p =>
    intro _
    unfold notC
    split
    · rename_i h; have : (spell (.leaf p)).length = 4 := by show (spellN p [] []).length = 4; rw [spellN, eq_of_beq h]; rfl
      show 5 + 1 ≤ _ + 7 * 1; omega
    split
    · show 4 + 1 ≤ _ + 7 * 1; omega
    · rw [spell_not5]; show _ ≤ _ + 7 * 1; omega
  | un p x ih =>
    intro hw
    have hp := uC_pos x
    unfold notC
    split
    · rename_i h
      simp only [Bool.and_eq_true, beq_iff_eq] at h
      have : (spell (.un p x)).length = (spell x).length + 6 := by show (spellN p (spell x) []).length = _; simp [spellN, h.1]
      show _ ≤ _ + 7 * uC x; omega
    · rw [spell_not5]; show _ ≤ _ + 7 * uC x; omega
  | bin p x y ihx ihy =>
    intro hw
    have hx := ihx hw.2.1
    have hy := ihy hw.2.2
    have hs := spell_bin_len hw.1 x y
    have hsg := signL_len p.op
    unfold notC
    by_cases h6 : (p.op == 6) = true
    · rw [if_pos h6, spell_pair 7 rfl rfl, hs]
      have : uC (.bin p x y) = uC x + uC y := by show (if (p.op == 6 || p.op == 7) = true then _ else _) = _; rw [h6]; rfl
      rw [this]
      have : (signL p.op).length = 3 := by rw [eq_of_beq h6]; rfl
      show _ + _ + 4 + 2 + 1 ≤ _; omega
    rw [if_neg h6]
    by_cases h7 : (p.op == 7) = true
    · rw [if_pos h7, spell_pair 6 rfl rfl, hs]
      have : uC (.bin p x y) = uC x + uC y := by show (if (p.op == 6 || p.op == 7) = true then _ else _) = _; rw [h7, Bool.or_true]; rfl
      rw [this]
      have : (signL p.op).length = 2 := by rw [eq_of_beq h7]; rfl
      show _ + _ + 4 + 3 + 1 ≤ _; omega
    rw [if_neg h7]
    have hu : uC (.bin p x y) = 1 := by
      show (if (p.op == 6 || p.op == 7) = true then _ else _) = 1
      rw [if_neg]
      rw [Bool.eq_false_iff.2 h6, Bool.eq_false_iff.2 h7]; decide
    rw [hu]
    by_cases h10 : (p.op == 10) = true
    · rw [if_pos h10, spell_pair 11 rfl rfl, hs]
      show _ + _ + 4 + 2 + 1 ≤ _; omega
    rw [if_neg h10]
    by_cases h11 : (p.op == 11) = true
    · rw [if_pos h11, spell_pair 10 rfl rfl, hs]
      show _ + _ + 4 + 1 + 1 ≤ _; omega
    rw [if_neg h11, spell_not5]; omega

/-- The contract of not, at one core. -/
def NotOk (c : Co) : Prop := ∀ (B : Nat) (w : World) (v : Value), B ≤ w.heap.size → LibOk w → CoAt B w.heap.size w v c →
  Calls Tryz.prog 92 #[v] w fun e w' => ∃ b, e = .returned (.pointer (some ⟨b, 0, none⟩)) ∧ CoAt B w'.heap.size w' (.pointer (some ⟨b, 0, none⟩)) (notC c) ∧ Below w.heap.size w w'

/-- The contract of spelled without sides, and with one. -/
theorem spelled_leaf (p : CP) (hp : leafB p.op = true) (hn : Rng p.num) (h4 : p.str.length ≤ 1000000000) (h5 : p.esc.length ≤ 1000000000) {B : Nat} {w : World} (hB : B ≤ w.heap.size) (hL : LibOk w) :
    Calls Tryz.prog 94 #[.agg #[.int .i64 p.op, .pointer none, .pointer none, .int .i64 p.num, .string (BS p.str), .string (BS p.esc), .string ⟨#[]⟩]] w fun e w' => ∃ b, e = .returned (.pointer (some ⟨b, 0, none⟩)) ∧ CoAt B w'.heap.size w' (.pointer (some ⟨b, 0, none⟩)) (.leaf p) ∧ Below w.heap.size w w' := by
  refine Calls.mono (show Calls Tryz.prog 94 #[.agg #[.int .i64 p.op, .pointer none, .pointer none, .int .i64 p.num, .string (BS p.str), .string (BS p.esc), .string ⟨#[]⟩]] w _ from spelled_any w hL p (.pointer none) (.pointer none) [] [] hn h4 h5 (Nat.zero_le _) (Nat.zero_le _) ⟨_, rfl⟩ ⟨_, rfl⟩ (fun h => by rw [hp] at h; cases h) (fun h => by rw [hp] at h; cases h)) ?_
  rintro e w' ⟨rfl, hc, hb⟩
  exact ⟨w.heap.size, rfl, ⟨w.heap.size, rfl, ⟨hB, hc.hi, hc.within, hc.c0, hc.c1, hc.c2, hc.c3, hc.c4, hc.c5, hc.c6⟩⟩, hb⟩
theorem spelled_one (p : CP) (hp : unB p.op = true) (hn : Rng p.num) (h4 : p.str.length ≤ 1000000000) (h5 : p.esc.length ≤ 1000000000) {B : Nat} {w : World} (hB : B ≤ w.heap.size) (hL : LibOk w) {x : Co} {bx : Nat} (hx : CoAt B w.heap.size w (.pointer (some ⟨bx, 0, none⟩)) x) (zx : (spell x).length ≤ 1000000000) :
    Calls Tryz.prog 94 #[.agg #[.int .i64 p.op, .pointer (some ⟨bx, 0, none⟩), .pointer none, .int .i64 p.num, .string (BS p.str), .string (BS p.esc), .string ⟨#[]⟩]] w fun e w' => ∃ b, e = .returned (.pointer (some ⟨b, 0, none⟩)) ∧ CoAt B w'.heap.size w' (.pointer (some ⟨b, 0, none⟩)) (.un p x) ∧ Below w.heap.size w w' := by
  refine Calls.mono (show Calls Tryz.prog 94 #[.agg #[.int .i64 p.op, .pointer (some ⟨bx, 0, none⟩), .pointer none, .int .i64 p.num, .string (BS p.str), .string (BS p.esc), .string ⟨#[]⟩]] w _ from spelled_any w hL p (.pointer (some ⟨bx, 0, none⟩)) (.pointer none) (spell x) [] hn h4 h5 zx (Nat.zero_le _) ⟨_, rfl⟩ ⟨_, rfl⟩ (fun _ => hx.text) (fun _ h => by rw [hp] at h; cases h)) ?_
  rintro e w' ⟨rfl, hc, hb⟩
  exact ⟨w.heap.size, rfl, ⟨w.heap.size, _, rfl, ⟨hB, hc.hi, hc.within, hc.c0, hc.c1, hc.c2, hc.c3, hc.c4, hc.c5, hc.c6⟩, hx.below hb⟩, hb⟩
end

section
set_option maxHeartbeats 1000000 in
theorem not_leaf3 (p : CP) (ho : p.op = 3) : NotOk (.leaf p) := by
  intro B w v hB hL h
  have hv : notC (.leaf p) = .leaf (plainP' 4) := by unfold notC; rw [ho]; rfl
  rw [hv]
  clear hv
  have S := hide (spelled_leaf (plainP' 4) rfl (show Rng 0 from ⟨by decide, by decide⟩) (Nat.zero_le _) (Nat.zero_le _) hB hL)
  replace S : Hid (Calls Tryz.prog 94 #[.agg #[.int .i64 4, .pointer none, .pointer none, .int .i64 0, .string ⟨#[]⟩, .string ⟨#[]⟩, .string ⟨#[]⟩]] w fun e w' => ∃ b, e = .returned (.pointer (some ⟨b, 0, none⟩)) ∧ CoAt B w'.heap.size w' (.pointer (some ⟨b, 0, none⟩)) (.leaf (plainP' 4)) ∧ Below w.heap.size w w') := S
  obtain ⟨b, rfl, hc⟩ := h
  have c0 := hc.c0
  unfold at0
  have e3 : (p.op == 3) = true := by rw [ho]; rfl
  clear hc hL hB ho
  go_enter Tryz.func92, Tryz.ntmps92
  go_wp2_with (go_at_call 94; refine (unhide S).mono ?_; rintro e w1 ⟨b1, rfl, hc1, hb1⟩)
  go_ret
  exact ⟨b1, rfl, hc1, hb1⟩

set_option maxHeartbeats 1000000 in
theorem not_leaf4 (p : CP) (ho : p.op = 4) : NotOk (.leaf p) := by
  intro B w v hB hL h
  have hv : notC (.leaf p) = .leaf (plainP' 3) := by unfold notC; rw [ho]; rfl
  rw [hv]
  clear hv
  have S := hide (spelled_leaf (plainP' 3) rfl (show Rng 0 from ⟨by decide, by decide⟩) (Nat.zero_le _) (Nat.zero_le _) hB hL)
  replace S : Hid (Calls Tryz.prog 94 #[.agg #[.int .i64 3, .pointer none, .pointer none, .int .i64 0, .string ⟨#[]⟩, .string ⟨#[]⟩, .string ⟨#[]⟩]] w fun e w' => ∃ b, e = .returned (.pointer (some ⟨b, 0, none⟩)) ∧ CoAt B w'.heap.size w' (.pointer (some ⟨b, 0, none⟩)) (.leaf (plainP' 3)) ∧ Below w.heap.size w w') := S
  obtain ⟨b, rfl, hc⟩ := h
  have c0 := hc.c0
  unfold at0
  have e3 : (p.op == 3) = false := by rw [ho]; rfl
  have e4 : (p.op == 4) = true := by rw [ho]; rfl
  clear hc hL hB ho
  go_enter Tryz.func92, Tryz.ntmps92
  go_wp2_with (go_at_call 94; refine (unhide S).mono ?_; rintro e w1 ⟨b1, rfl, hc1, hb1⟩)
  go_ret
  exact ⟨b1, rfl, hc1, hb1⟩

/-- NOT is put ahead. -/
theorem not_wrap (c : Co) (p : CP) (hz : (spell c).length ≤ 1000000000) (hv : notC c = .un (plainP' 5) c) 
    (hop : ∀ B E w v, CoAt B E w v c → ∃ b l r, v = at0 b ∧ CellsC B E w b p l r (spell c)) (h3 : ¬ p.op = 3) (h4 : ¬ p.op = 4) (h6 : ¬ p.op = 6) (h7 : ¬ p.op = 7) (h10 : ¬ p.op = 10) (h11 : ¬ p.op = 11) (h5 : ¬ p.op = 5) : NotOk c := by
  intro B w v hB hL h
  rw [hv]
  obtain ⟨b, l, r, rfl, hc⟩ := hop _ _ _ _ h
  have S : Hid (Calls Tryz.prog 94 #[.agg #[.int .i64 5, .pointer (some ⟨b, 0, none⟩), .pointer none, .int .i64 0, .string ⟨#[]⟩, .string ⟨#[]⟩, .string ⟨#[]⟩]] w fun e w' => ∃ b, e = .returned (.pointer (some ⟨b, 0, none⟩)) ∧ CoAt B w'.heap.size w' (.pointer (some ⟨b, 0, none⟩)) (.un (plainP' 5) c) ∧ Below w.heap.size w w') :=
    hide (spelled_one (plainP' 5) rfl (show Rng 0 from ⟨by decide, by decide⟩) (Nat.zero_le _) (Nat.zero_le _) hB hL h hz)
  have c0 := hc.c0
  unfold at0
  have e3 : (p.op == 3) = false := beq_eq_false_iff_ne.2 h3
  have e4 : (p.op == 4) = false := beq_eq_false_iff_ne.2 h4
  have e6 : (p.op == 6) = false := beq_eq_false_iff_ne.2 h6
  have e7 : (p.op == 7) = false := beq_eq_false_iff_ne.2 h7
  have e10 : (p.op == 10) = false := beq_eq_false_iff_ne.2 h10
  have e11 : (p.op == 11) = false := beq_eq_false_iff_ne.2 h11
  have e5 : (p.op == 5) = false := beq_eq_false_iff_ne.2 h5
  clear hc hL hB h hop hv hz h3 h4 h6 h7 h10 h11 h5
  go_enter Tryz.func92, Tryz.ntmps92
  go_wp2_with (go_at_call 94; refine (unhide S).mono ?_; rintro e w1 ⟨b1, rfl, hc1, hb1⟩)
  go_ret
  exact ⟨b1, rfl, hc1, hb1⟩

set_option maxHeartbeats 1000000 in
theorem not_un5 (p : CP) (x : Co) (ho : p.op = 5) (hx0 : ¬ opC x = 0) : NotOk (.un p x) := by
  intro B w v hB hL h
  have hv : notC (.un p x) = x := by unfold notC; rw [ho, if_pos]; rw [Bool.and_eq_true]; exact ⟨rfl, by simpa using hx0⟩
  rw [hv]
  obtain ⟨b, vx, rfl, hc, hx⟩ := h
  obtain ⟨bx, px, lx, rx, rfl, hop, hcx⟩ := hx.head
  have c0 := hc.c0
  have c1 := hc.c1
  have x0 := hcx.c0
  rw [hop] at x0
  have ex : (opC x != 0) = true := by simpa using hx0
  unfold at0 at c1 hx ⊢
  have HX := hide hx
  have e3 : (p.op == 3) = false := by rw [ho]; rfl
  have e4 : (p.op == 4) = false := by rw [ho]; rfl
  have e6 : (p.op == 6) = false := by rw [ho]; rfl
  have e7 : (p.op == 7) = false := by rw [ho]; rfl
  have e10 : (p.op == 10) = false := by rw [ho]; rfl
  have e11 : (p.op == 11) = false := by rw [ho]; rfl
  have e5 : (p.op == 5) = true := by rw [ho]; rfl
  clear hc hL hB ho hx0 hv hx hop hcx
  go_enter Tryz.func92, Tryz.ntmps92
  go_wp2_with fail
  go_ret
  exact ⟨bx, rfl, unhide HX, Below.refl _ _⟩

set_option maxHeartbeats 1000000 in
theorem not_un50 (p : CP) (x : Co) (ho : p.op = 5) (hx0 : opC x = 0) (hz : (spell (.un p x)).length ≤ 1000000000) : NotOk (.un p x) := by
  intro B w v hB hL h
  have hv : notC (.un p x) = .un (plainP' 5) (.un p x) := by unfold notC; rw [hx0, if_neg]; rw [Bool.and_eq_true]; rintro ⟨_, h⟩; cases h
  rw [hv]
  have H := h
  obtain ⟨b, vx, rfl, hc, hx⟩ := h
  have S : Hid (Calls Tryz.prog 94 #[.agg #[.int .i64 5, .pointer (some ⟨b, 0, none⟩), .pointer none, .int .i64 0, .string ⟨#[]⟩, .string ⟨#[]⟩, .string ⟨#[]⟩]] w fun e w' => ∃ b, e = .returned (.pointer (some ⟨b, 0, none⟩)) ∧ CoAt B w'.heap.size w' (.pointer (some ⟨b, 0, none⟩)) (.un (plainP' 5) (.un p x)) ∧ Below w.heap.size w w') :=
    hide (spelled_one (plainP' 5) rfl (show Rng 0 from ⟨by decide, by decide⟩) (Nat.zero_le _) (Nat.zero_le _) hB hL H hz)
  obtain ⟨bx, px, lx, rx, rfl, hop, hcx⟩ := hx.head
  have c0 := hc.c0
  have c1 := hc.c1
  have x0 := hcx.c0
  rw [hop, hx0] at x0
  unfold at0 at c1 ⊢
  have e3 : (p.op == 3) = false := by rw [ho]; rfl
  have e4 : (p.op == 4) = false := by rw [ho]; rfl
  have e6 : (p.op == 6) = false := by rw [ho]; rfl
  have e7 : (p.op == 7) = false := by rw [ho]; rfl
  have e10 : (p.op == 10) = false := by rw [ho]; rfl
  have e11 : (p.op == 11) = false := by rw [ho]; rfl
  have e5 : (p.op == 5) = true := by rw [ho]; rfl
  clear hc hL hB ho hx0 hv hx hop hcx H hz
  go_enter Tryz.func92, Tryz.ntmps92
  go_wp2_with (go_at_call 94; refine (unhide S).mono ?_; rintro e w1 ⟨b1, rfl, hc1, hb1⟩)
  go_ret
  exact ⟨b1, rfl, hc1, hb1⟩

set_option maxHeartbeats 1000000 in
set_option maxRecDepth 100000 in
theorem not_bin6 (p : CP) (x y : Co) (ho : p.op = 6) (hx : NotOk x) (hy : NotOk y) (zx : (spell (notC x)).length ≤ 1000000000) (zy : (spell (notC y)).length ≤ 1000000000) : NotOk (.bin p x y) := by
  intro B w v hB hL h
  have hv : notC (.bin p x y) = pairC 7 (notC x) (notC y) := by rw [notC, ho]; rfl
  rw [hv]
  obtain ⟨b, vx, vy, rfl, hc, cx, cy⟩ := h
  obtain ⟨bx, rfl⟩ := cx.ptr
  obtain ⟨by', rfl⟩ := cy.ptr
  have c0 := hc.c0
  have c1 := hc.c1
  have c2 := hc.c2
  have hbw := hc.within
  have NX : Hid (∀ w1, Below w.heap.size w w1 → Calls Tryz.prog 92 #[.pointer (some ⟨bx, 0, none⟩)] w1 fun e w' => ∃ b, e = .returned (.pointer (some ⟨b, 0, none⟩)) ∧ CoAt B w'.heap.size w' (.pointer (some ⟨b, 0, none⟩)) (notC x) ∧ Below w1.heap.size w1 w') :=
    hide (fun w1 hb => hx B w1 _ (Nat.le_trans hB hb.size) (hL.below hb (Nat.le_refl _)) (cx.below hb))
  have NY : Hid (∀ w1, Below w.heap.size w w1 → Calls Tryz.prog 92 #[.pointer (some ⟨by', 0, none⟩)] w1 fun e w' => ∃ b, e = .returned (.pointer (some ⟨b, 0, none⟩)) ∧ CoAt B w'.heap.size w' (.pointer (some ⟨b, 0, none⟩)) (notC y) ∧ Below w1.heap.size w1 w') :=
    hide (fun w1 hb => hy B w1 _ (Nat.le_trans hB hb.size) (hL.below hb (Nat.le_refl _)) (cy.below hb))
  have PR : Hid (∀ w1 v1 v2, Below w.heap.size w w1 → CoAt B w1.heap.size w1 v1 (notC x) → CoAt B w1.heap.size w1 v2 (notC y) → Calls Tryz.prog 90 #[.int .i64 7, v1, v2] w1 fun e w' => ∃ b, e = .returned (.pointer (some ⟨b, 0, none⟩)) ∧ CoAt B w'.heap.size w' (.pointer (some ⟨b, 0, none⟩)) (pairC 7 (notC x) (notC y)) ∧ Below w1.heap.size w1 w') :=
    hide (fun w1 v1 v2 hb h1 h2 => pair_any 7 (Nat.le_trans hB hb.size) (hL.below hb (Nat.le_refl _)) h1 h2 zx zy)
  have HB : Hid (Below w.heap.size w w.drew) := hide (Below.refl _ _).drew
  unfold at0 at c1 c2 ⊢
  have e3 : (p.op == 3) = false := by rw [ho]; rfl
  have e4 : (p.op == 4) = false := by rw [ho]; rfl
  have e6 : (p.op == 6) = true := by rw [ho]; rfl
  clear hc hL hB ho hv hx hy zx zy cx cy
  go_enter Tryz.func92, Tryz.ntmps92
  go_wp2_with fail
  go_region_held3 (fun W => W.cell? ⟨b, 1, none⟩ = some (.pointer (some ⟨bx, 0, none⟩)) ∧ W.cell? ⟨b, 2, none⟩ = some (.pointer (some ⟨by', 0, none⟩))) (go_keep) (first | (go_at_call_of 92 (Value.pointer (some { block := bx, off := 0 })); refine (unhide NX _ (unhide HB)).mono ?_; rintro e w1 ⟨b1, rfl, k1, hb1⟩; have HB1 := hide (below_any (unhide HB) hb1); have d1 := ((unhide HB1).cell (p := ⟨b, 1, none⟩) hbw).trans c1; have d2 := ((unhide HB1).cell (p := ⟨b, 2, none⟩) hbw).trans c2; have K1 := hide k1; clear k1 hb1) | (go_at_call_of 92 (Value.pointer (some { block := by', off := 0 })); refine (unhide NY _ (unhide HB1)).mono ?_; rintro e w2 ⟨b2, rfl, k2, hb2⟩; have HB2 := hide (below_any (unhide HB1) hb2); have d3 := ((unhide HB2).cell (p := ⟨b, 1, none⟩) hbw).trans c1; have d4 := ((unhide HB2).cell (p := ⟨b, 2, none⟩) hbw).trans c2; have K1' := hide ((unhide K1).below hb2); have K2 := hide k2; clear k2 hb2) | (go_at_call 90; refine (unhide PR _ _ _ (unhide HB2) (unhide K1') (unhide K2)).mono ?_; rintro e w3 ⟨b3, rfl, k3, hb3⟩; have HB3 := hide (below_any (unhide HB2) hb3); have d5 := ((unhide HB3).cell (p := ⟨b, 1, none⟩) hbw).trans c1; have d6 := ((unhide HB3).cell (p := ⟨b, 2, none⟩) hbw).trans c2; have K3 := hide k3; clear k3 hb3))
  all_goals (go_wp2_with fail; go_ret; exact ⟨b3, rfl, unhide K3, unhide HB3⟩)

set_option maxHeartbeats 1000000 in
set_option maxRecDepth 100000 in
theorem not_bin7 (p : CP) (x y : Co) (ho : p.op = 7) (hx : NotOk x) (hy : NotOk y) (zx : (spell (notC x)).length ≤ 1000000000) (zy : (spell (notC y)).length ≤ 1000000000) : NotOk (.bin p x y) := by
  intro B w v hB hL h
  have hv : notC (.bin p x y) = pairC 6 (notC x) (notC y) := by rw [notC, ho]; rfl
  rw [hv]
  obtain ⟨b, vx, vy, rfl, hc, cx, cy⟩ := h
  obtain ⟨bx, rfl⟩ := cx.ptr
  obtain ⟨by', rfl⟩ := cy.ptr
  have c0 := hc.c0
  have c1 := hc.c1
  have c2 := hc.c2
  have hbw := hc.within
  have NX : Hid (∀ w1, Below w.heap.size w w1 → Calls Tryz.prog 92 #[.pointer (some ⟨bx, 0, none⟩)] w1 fun e w' => ∃ b, e = .returned (.pointer (some ⟨b, 0, none⟩)) ∧ CoAt B w'.heap.size w' (.pointer (some ⟨b, 0, none⟩)) (notC x) ∧ Below w1.heap.size w1 w') :=
    hide (fun w1 hb => hx B w1 _ (Nat.le_trans hB hb.size) (hL.below hb (Nat.le_refl _)) (cx.below hb))
  have NY : Hid (∀ w1, Below w.heap.size w w1 → Calls Tryz.prog 92 #[.pointer (some ⟨by', 0, none⟩)] w1 fun e w' => ∃ b, e = .returned (.pointer (some ⟨b, 0, none⟩)) ∧ CoAt B w'.heap.size w' (.pointer (some ⟨b, 0, none⟩)) (notC y) ∧ Below w1.heap.size w1 w') :=
    hide (fun w1 hb => hy B w1 _ (Nat.le_trans hB hb.size) (hL.below hb (Nat.le_refl _)) (cy.below hb))
  have PR : Hid (∀ w1 v1 v2, Below w.heap.size w w1 → CoAt B w1.heap.size w1 v1 (notC x) → CoAt B w1.heap.size w1 v2 (notC y) → Calls Tryz.prog 90 #[.int .i64 6, v1, v2] w1 fun e w' => ∃ b, e = .returned (.pointer (some ⟨b, 0, none⟩)) ∧ CoAt B w'.heap.size w' (.pointer (some ⟨b, 0, none⟩)) (pairC 6 (notC x) (notC y)) ∧ Below w1.heap.size w1 w') :=
    hide (fun w1 v1 v2 hb h1 h2 => pair_any 6 (Nat.le_trans hB hb.size) (hL.below hb (Nat.le_refl _)) h1 h2 zx zy)
  have HB : Hid (Below w.heap.size w w.drew) := hide (Below.refl _ _).drew
  unfold at0 at c1 c2 ⊢
  have e3 : (p.op == 3) = false := by rw [ho]; rfl
  have e4 : (p.op == 4) = false := by rw [ho]; rfl
  have e6 : (p.op == 6) = false := by rw [ho]; rfl
  have e7 : (p.op == 7) = true := by rw [ho]; rfl
  clear hc hL hB ho hv hx hy zx zy cx cy
  go_enter Tryz.func92, Tryz.ntmps92
  go_wp2_with fail
  go_region_held3 (fun W => W.cell? ⟨b, 1, none⟩ = some (.pointer (some ⟨bx, 0, none⟩)) ∧ W.cell? ⟨b, 2, none⟩ = some (.pointer (some ⟨by', 0, none⟩))) (go_keep) (first | (go_at_call_of 92 (Value.pointer (some { block := bx, off := 0 })); refine (unhide NX _ (unhide HB)).mono ?_; rintro e w1 ⟨b1, rfl, k1, hb1⟩; have HB1 := hide (below_any (unhide HB) hb1); have d1 := ((unhide HB1).cell (p := ⟨b, 1, none⟩) hbw).trans c1; have d2 := ((unhide HB1).cell (p := ⟨b, 2, none⟩) hbw).trans c2; have K1 := hide k1; clear k1 hb1) | (go_at_call_of 92 (Value.pointer (some { block := by', off := 0 })); refine (unhide NY _ (unhide HB1)).mono ?_; rintro e w2 ⟨b2, rfl, k2, hb2⟩; have HB2 := hide (below_any (unhide HB1) hb2); have d3 := ((unhide HB2).cell (p := ⟨b, 1, none⟩) hbw).trans c1; have d4 := ((unhide HB2).cell (p := ⟨b, 2, none⟩) hbw).trans c2; have K1' := hide ((unhide K1).below hb2); have K2 := hide k2; clear k2 hb2) | (go_at_call 90; refine (unhide PR _ _ _ (unhide HB2) (unhide K1') (unhide K2)).mono ?_; rintro e w3 ⟨b3, rfl, k3, hb3⟩; have HB3 := hide (below_any (unhide HB2) hb3); have d5 := ((unhide HB3).cell (p := ⟨b, 1, none⟩) hbw).trans c1; have d6 := ((unhide HB3).cell (p := ⟨b, 2, none⟩) hbw).trans c2; have K3 := hide k3; clear k3 hb3))
  all_goals (go_wp2_with fail; go_ret; exact ⟨b3, rfl, unhide K3, unhide HB3⟩)

set_option maxHeartbeats 1000000 in
set_option maxRecDepth 100000 in
theorem not_bin10 (p : CP) (x y : Co) (ho : p.op = 10) (zx : (spell x).length ≤ 1000000000) (zy : (spell y).length ≤ 1000000000) : NotOk (.bin p x y) := by
  intro B w v hB hL h
  have hv : notC (.bin p x y) = pairC 11 y x := by rw [notC, ho]; rfl
  rw [hv]
  obtain ⟨b, vx, vy, rfl, hc, cx, cy⟩ := h
  obtain ⟨bx, rfl⟩ := cx.ptr
  obtain ⟨by', rfl⟩ := cy.ptr
  have c0 := hc.c0
  have c1 := hc.c1
  have c2 := hc.c2
  have hbw := hc.within
  have PR : Hid (∀ w1, Below w.heap.size w w1 → Calls Tryz.prog 90 #[.int .i64 11, .pointer (some ⟨by', 0, none⟩), .pointer (some ⟨bx, 0, none⟩)] w1 fun e w' => ∃ b, e = .returned (.pointer (some ⟨b, 0, none⟩)) ∧ CoAt B w'.heap.size w' (.pointer (some ⟨b, 0, none⟩)) (pairC 11 y x) ∧ Below w1.heap.size w1 w') :=
    hide (fun w1 hb => pair_any 11 (Nat.le_trans hB hb.size) (hL.below hb (Nat.le_refl _)) (cy.below hb) (cx.below hb) zy zx)
  have HB : Hid (Below w.heap.size w w.drew) := hide (Below.refl _ _).drew
  unfold at0 at c1 c2 ⊢
  have e3 : (p.op == 3) = false := by rw [ho]; rfl
  have e4 : (p.op == 4) = false := by rw [ho]; rfl
  have e6 : (p.op == 6) = false := by rw [ho]; rfl
  have e7 : (p.op == 7) = false := by rw [ho]; rfl
  have e10 : (p.op == 10) = true := by rw [ho]; rfl
  clear hc hL hB ho hv zx zy cx cy
  go_enter Tryz.func92, Tryz.ntmps92
  go_wp2_with fail
  go_region_held3 (fun W => W.cell? ⟨b, 1, none⟩ = some (.pointer (some ⟨bx, 0, none⟩)) ∧ W.cell? ⟨b, 2, none⟩ = some (.pointer (some ⟨by', 0, none⟩))) (go_keep) (first | (go_at_call 90; refine (unhide PR _ (unhide HB)).mono ?_; rintro e w3 ⟨b3, rfl, k3, hb3⟩; have HB3 := hide (below_any (unhide HB) hb3); have d5 := ((unhide HB3).cell (p := ⟨b, 1, none⟩) hbw).trans c1; have d6 := ((unhide HB3).cell (p := ⟨b, 2, none⟩) hbw).trans c2; have K3 := hide k3; clear k3 hb3))
  all_goals (go_wp2_with fail; go_ret; exact ⟨b3, rfl, unhide K3, unhide HB3⟩)

set_option maxHeartbeats 1000000 in
set_option maxRecDepth 100000 in
theorem not_bin11 (p : CP) (x y : Co) (ho : p.op = 11) (zx : (spell x).length ≤ 1000000000) (zy : (spell y).length ≤ 1000000000) : NotOk (.bin p x y) := by
  intro B w v hB hL h
  have hv : notC (.bin p x y) = pairC 10 y x := by rw [notC, ho]; rfl
  rw [hv]
  obtain ⟨b, vx, vy, rfl, hc, cx, cy⟩ := h
  obtain ⟨bx, rfl⟩ := cx.ptr
  obtain ⟨by', rfl⟩ := cy.ptr
  have c0 := hc.c0
  have c1 := hc.c1
  have c2 := hc.c2
  have hbw := hc.within
  have PR : Hid (∀ w1, Below w.heap.size w w1 → Calls Tryz.prog 90 #[.int .i64 10, .pointer (some ⟨by', 0, none⟩), .pointer (some ⟨bx, 0, none⟩)] w1 fun e w' => ∃ b, e = .returned (.pointer (some ⟨b, 0, none⟩)) ∧ CoAt B w'.heap.size w' (.pointer (some ⟨b, 0, none⟩)) (pairC 10 y x) ∧ Below w1.heap.size w1 w') :=
    hide (fun w1 hb => pair_any 10 (Nat.le_trans hB hb.size) (hL.below hb (Nat.le_refl _)) (cy.below hb) (cx.below hb) zy zx)
  have HB : Hid (Below w.heap.size w w.drew) := hide (Below.refl _ _).drew
  unfold at0 at c1 c2 ⊢
  have e3 : (p.op == 3) = false := by rw [ho]; rfl
  have e4 : (p.op == 4) = false := by rw [ho]; rfl
  have e6 : (p.op == 6) = false := by rw [ho]; rfl
  have e7 : (p.op == 7) = false := by rw [ho]; rfl
  have e10 : (p.op == 10) = false := by rw [ho]; rfl
  have e11 : (p.op == 11) = true := by rw [ho]; rfl
  clear hc hL hB ho hv zx zy cx cy
  go_enter Tryz.func92, Tryz.ntmps92
  go_wp2_with fail
  go_region_held3 (fun W => W.cell? ⟨b, 1, none⟩ = some (.pointer (some ⟨bx, 0, none⟩)) ∧ W.cell? ⟨b, 2, none⟩ = some (.pointer (some ⟨by', 0, none⟩))) (go_keep) (first | (go_at_call 90; refine (unhide PR _ (unhide HB)).mono ?_; rintro e w3 ⟨b3, rfl, k3, hb3⟩; have HB3 := hide (below_any (unhide HB) hb3); have d5 := ((unhide HB3).cell (p := ⟨b, 1, none⟩) hbw).trans c1; have d6 := ((unhide HB3).cell (p := ⟨b, 2, none⟩) hbw).trans c2; have K3 := hide k3; clear k3 hb3))
  all_goals (go_wp2_with fail; go_ret; exact ⟨b3, rfl, unhide K3, unhide HB3⟩)

theorem not_every : ∀ c, WfC c → (spell c).length + 7 * uC c ≤ 1000000000 → NotOk c := by
  intro c
  induction c with
  | leaf p =>
    intro hw hz
    by_cases h3 : p.op = 3
    · exact not_leaf3 p h3
    by_cases h4 : p.op = 4
    · exact not_leaf4 p h4
    have hl : p.op = 0 ∨ p.op = 1 ∨ p.op = 2 := by
      have : leafB p.op = true := hw
      unfold leafB at this
      simp only [Bool.or_eq_true, beq_iff_eq] at this
      omega
    refine not_wrap _ p (by omega) ?_ (fun B E w v h => by obtain ⟨b, rfl, hc⟩ := h; exact ⟨b, _, _, rfl, hc⟩) h3 h4 (by omega) (by omega) (by omega) (by omega) (by omega)
    unfold notC
    rw [if_neg (by simpa using h3), if_neg (by simpa using h4)]
  | un p x ih =>
    intro hw hz
    have hu : p.op = 5 ∨ p.op = 22 ∨ p.op = 23 := by
      have : unB p.op = true := hw.1
      unfold unB at this
      simp only [Bool.or_eq_true, beq_iff_eq] at this
      omega
    by_cases h5 : p.op = 5
    · by_cases hx0 : opC x = 0
      · exact not_un50 p x h5 hx0 (by omega)
      · exact not_un5 p x h5 hx0
    refine not_wrap _ p (by omega) ?_ (fun B E w v h => by obtain ⟨b, vx, rfl, hc, _⟩ := h; exact ⟨b, _, _, rfl, hc⟩) (by omega) (by omega) (by omega) (by omega) (by omega) (by omega) h5
    unfold notC
    rw [if_neg]
    rw [Bool.and_eq_true]
    rintro ⟨h, _⟩
    exact h5 (eq_of_beq h)
  | bin p x y ihx ihy =>
    intro hw hz
    have hs := spell_bin_len hw.1 x y
    have lx := spell_not_len x hw.2.1
    have ly := spell_not_len y hw.2.2
    have hu : uC (.bin p x y) = if (p.op == 6 || p.op == 7) = true then uC x + uC y else 1 := rfl
    by_cases h6 : p.op = 6
    · rw [h6] at hu
      have hu : uC (.bin p x y) = uC x + uC y := hu
      exact not_bin6 p x y h6 (ihx hw.2.1 (by omega)) (ihy hw.2.2 (by omega)) (by omega) (by omega)
    by_cases h7 : p.op = 7
    · rw [h7] at hu
      have hu : uC (.bin p x y) = uC x + uC y := hu
      exact not_bin7 p x y h7 (ihx hw.2.1 (by omega)) (ihy hw.2.2 (by omega)) (by omega) (by omega)
    by_cases h10 : p.op = 10
    · exact not_bin10 p x y h10 (by omega) (by omega)
    by_cases h11 : p.op = 11
    · exact not_bin11 p x y h11 (by omega) (by omega)
    have hb := hw.1
    unfold binB leafB unB at hb
    simp only [Bool.and_eq_true, Bool.not_eq_true', Bool.or_eq_false_iff, beq_eq_false_iff_ne] at hb
    obtain ⟨⟨⟨⟨⟨_, _⟩, _⟩, h3⟩, h4⟩, ⟨h5, _⟩, _⟩ := hb
    refine not_wrap _ p (by omega) ?_ (fun B E w v h => by obtain ⟨b, vx, vy, rfl, hc, _⟩ := h; exact ⟨b, _, _, rfl, hc⟩) h3 h4 h6 h7 h10 h11 h5
    unfold notC
    rw [if_neg (by simpa using h6), if_neg (by simpa using h7), if_neg (by simpa using h10), if_neg (by simpa using h11)]
end

section
theorem dem_true {want pl : Int} : ∀ {rs : List CRes} {fit : Bool}, dem want pl rs fit = none → fit = true := by
  intro rs
  induction rs with
  | nil => intro fit h; cases fit; cases h; rfl
  | cons r t ih =>
    intro fit h
    cases r with
    | err q => cases h
    | ok c =>
      have := ih (fit := fit && (c == want || c == 0)) h
      rw [Bool.and_eq_true] at this
      exact this.1
theorem dem_none {want pl : Int} : ∀ {rs : List CRes} {fit : Bool}, dem want pl rs fit = none → ∀ r ∈ rs, ∃ c, r = .ok c ∧ (c = want ∨ c = 0) := by
  intro rs
  induction rs with
  | nil => intro fit _ r hr; cases hr
  | cons r t ih =>
    intro fit h
    cases r with
    | err q => cases h
    | ok c =>
      have h' : dem want pl t (fit && (c == want || c == 0)) = none := h
      have hf := dem_true h'
      rw [Bool.and_eq_true, Bool.or_eq_true, beq_iff_eq, beq_iff_eq] at hf
      intro r hr
      rcases List.mem_cons.1 hr with rfl | hr
      · exact ⟨c, rfl, hf.2⟩
      · exact ih h' r hr
theorem demR_ok {want pl c d : Int} {rs : List CRes} (h : demR want pl c rs = .ok d) : ∀ r ∈ rs, ∃ c, r = .ok c ∧ (c = want ∨ c = 0) := by
  unfold demR at h
  split at h
  · rename_i hd; exact dem_none hd
  · cases h
theorem alike_ok {pl c : Int} {a b : CRes} (h : alikeR pl a b = .ok c) : (∃ c, a = .ok c) ∧ ∃ c, b = .ok c := by
  cases a with
  | err q => cases h
  | ok x =>
    cases b with
    | err q => cases h
    | ok y => exact ⟨⟨x, rfl⟩, ⟨y, rfl⟩⟩

/-- Sums, products, signs, names and numbers. -/
def ArA : Ast → Prop
  | .leaf p => p.op = 0 ∨ p.op = 1
  | .un p x => (p.op = 14 ∨ p.op = 15) ∧ ArA x
  | .bin p x y => 16 ≤ p.op ∧ p.op ≤ 19 ∧ ArA x ∧ ArA y
  | .tri _ _ _ _ => False
theorem ar_of_cls : ∀ t c, ShA t → clsA t = .ok c → (c = 1 ∨ c = 0) → ArA t := by
  intro t
  induction t with
  | leaf p =>
    intro c hs hc h
    have hc : clsOf p.op p.place [] = .ok c := hc
    have hs : 0 ≤ p.op ∧ p.op ≤ 4 := hs
    rcases (show p.op = 0 ∨ p.op = 1 ∨ p.op = 2 ∨ p.op = 3 ∨ p.op = 4 by omega) with e | e | e | e | e
    · exact .inl e
    · exact .inr e
    all_goals (rw [e] at hc; injection hc with hc; omega)
  | un p x ih =>
    intro c hs hc h
    have hc : clsOf p.op p.place [clsA x] = .ok c := hc
    rcases hs.1 with e | e | e | e | e | e
    · rw [e] at hc
      have hc : demR 3 p.place 3 [clsA x] = .ok c := hc
      exfalso
      unfold demR at hc
      split at hc
      · injection hc with hc; omega
      · cases hc
    · rw [e] at hc
      obtain ⟨d, h1, h2⟩ := demR_ok (show demR 1 p.place 1 [clsA x] = .ok c from hc) (clsA x) (by simp)
      exact ⟨.inl e, ih d hs.2.2.2 h1 h2⟩
    · rw [e] at hc
      obtain ⟨d, h1, h2⟩ := demR_ok (show demR 1 p.place 1 [clsA x] = .ok c from hc) (clsA x) (by simp)
      exact ⟨.inr e, ih d hs.2.2.2 h1 h2⟩
    all_goals (rw [e] at hc; injection hc with hc; omega)
  | bin p x y ihx ihy =>
    intro c hs hc h
    have hc : clsOf p.op p.place [clsA x, clsA y] = .ok c := hc
    have d3 : ∀ w, demR w p.place 3 [clsA x, clsA y] = .ok c → False := fun w hc => by
      unfold demR at hc
      split at hc
      · injection hc with hc; omega
      · cases hc
    have a3 : alikeR p.place (clsA x) (clsA y) = .ok c → False := fun hc => by
      obtain ⟨⟨a, ea⟩, b, eb⟩ := alike_ok hc
      rw [ea, eb] at hc
      have hc : (if (a != b && a != 0 && b != 0) = true then CRes.err p.place else CRes.ok 3) = .ok c := hc
      split at hc
      · cases hc
      · injection hc with hc; omega
    have d1 : demR 1 p.place 1 [clsA x, clsA y] = .ok c → ArA x ∧ ArA y := fun hc => by
      obtain ⟨d, h1, h2⟩ := demR_ok hc (clsA x) (by simp)
      obtain ⟨e, h3, h4⟩ := demR_ok hc (clsA y) (by simp)
      exact ⟨ihx d hs.2.1 h1 h2, ihy e hs.2.2 h3 h4⟩
    rcases (show p.op = 6 ∨ p.op = 7 ∨ p.op = 8 ∨ p.op = 9 ∨ p.op = 10 ∨ p.op = 11 ∨ p.op = 12 ∨ p.op = 13 ∨ p.op = 16 ∨ p.op = 17 ∨ p.op = 18 ∨ p.op = 19 by have := hs.1; omega) with e | e | e | e | e | e | e | e | e | e | e | e
    · rw [e] at hc; exact absurd hc (d3 3)
    · rw [e] at hc; exact absurd hc (d3 3)
    · rw [e] at hc; exact absurd hc a3
    · rw [e] at hc; exact absurd hc a3
    · rw [e] at hc; exact absurd hc (d3 1)
    · rw [e] at hc; exact absurd hc (d3 1)
    · rw [e] at hc; exact absurd hc (d3 1)
    · rw [e] at hc; exact absurd hc (d3 1)
    all_goals (rw [e] at hc; exact ⟨by omega, by omega, (d1 hc).1, (d1 hc).2⟩)
  | tri p x y z ihx ihy ihz =>
    intro c hs hc h
    have hc : clsOf p.op p.place [clsA x, clsA y, clsA z] = .ok c := hc
    rw [hs.1] at hc
    have hc : demR 1 p.place 3 [clsA x, clsA y, clsA z] = .ok c := hc
    exfalso
    unfold demR at hc
    split at hc
    · injection hc with hc; omega
    · cases hc

theorem leaf_len (p : CP) (hs : p.str.length ≤ 200) (hn : Rng p.num) (ho : leafB p.op = true) : (spell (.leaf p)).length ≤ 402 := by
  show (spellN p [] []).length ≤ 402
  have hq := qL_len p.str
  have hi := Lib.itoa_length_le p.num hn.1 hn.2
  unfold leafB at ho
  simp only [Bool.or_eq_true, beq_iff_eq] at ho
  unfold spellN
  rcases ho with (((e | e) | e) | e) | e
  · rw [e]; show p.str.length ≤ 402; omega
  · rw [e]; show (Lib.itoa p.num).length ≤ 402; omega
  · rw [e]; show (qL p.str).length ≤ 402; omega
  · rw [e]; show 4 ≤ 402; omega
  · rw [e]; show 5 ≤ 402; omega

theorem num0_len : (spell (numC 0)).length ≤ 21 := Lib.itoa_length_le 0 (by decide) (by decide)
theorem ar_len : ∀ t, ArA t → BndA t → NumA t → (spell (coreA t)).length ≤ 500 * ndA t := by
  intro t
  induction t with
  | leaf p =>
    intro ha hb hn
    have := leaf_len (cpOf p) hb.1 hn (by unfold leafB; rcases ha with e | e <;> simp [cpOf, e])
    show (spell (.leaf (cpOf p))).length ≤ 500 * 1
    omega
  | un p x ih =>
    intro ha hb hn
    have h := ih ha.2 hb.2 hn.2
    have hz : (spell (numC 0)).length ≤ 21 := num0_len
    have hnd : ndA (.un p x) = 1 + p.texts.length + ndA x := rfl
    rcases ha.1 with e | e
    · have : coreA (.un p x) = pairC 16 (numC 0) (coreA x) := by rw [coreA, e]; rfl
      rw [this, spell_pair 16 rfl rfl, hnd]
      have : (signL 16).length = 1 := rfl
      omega
    · have : coreA (.un p x) = pairC 17 (numC 0) (coreA x) := by rw [coreA, e]; rfl
      rw [this, spell_pair 17 rfl rfl, hnd]
      have : (signL 17).length = 1 := rfl
      omega
  | bin p x y ihx ihy =>
    intro ha hb hn
    obtain ⟨h1, h2, ax, ay⟩ := ha
    have hx := ihx ax hb.2.1 hn.2.1
    have hy := ihy ay hb.2.2 hn.2.2
    have hnd : ndA (.bin p x y) = 1 + ndA x + ndA y := rfl
    have hsg := signL_len p.op
    have : coreA (.bin p x y) = pairC p.op (coreA x) (coreA y) := by
      rw [coreA, if_neg (by simp; omega), if_neg (by simp; omega), if_neg (by simp; omega)]
    rw [this, spell_pair p.op (by unfold leafB; simp; omega) (by unfold unB; simp; omega), hnd]
    omega
  | tri p x y z ihx ihy ihz => intro ha; exact absurd ha id
end

section
theorem mem_compact {zs : List (List UInt8)} {x : List UInt8} (h : x ∈ Lib.compact zs) : x ∈ zs := by
  unfold Lib.compact Lib.compactUpTo at h
  obtain ⟨i, hi, rfl⟩ := List.mem_map.1 h
  have hi := List.mem_range.1 (List.mem_filter.1 hi).1
  have : zs.toArray[i]! = zs[i] := by simp [hi]
  rw [this]
  exact List.getElem_mem _
theorem compact_len (zs : List (List UInt8)) : (Lib.compact zs).length ≤ zs.length := by
  unfold Lib.compact Lib.compactUpTo
  rw [List.length_map]
  exact Nat.le_trans (List.length_filter_le _ _) (by rw [List.length_range]; exact Nat.le_refl _)
theorem compact_ne {zs : List (List UInt8)} (h : zs ≠ []) : Lib.compact zs ≠ [] := by
  cases zs with
  | nil => exact absurd rfl h
  | cons a r =>
    intro e
    unfold Lib.compact Lib.compactUpTo at e
    rw [List.map_eq_nil_iff] at e
    have : 0 ∈ (List.range (a :: r).length).filter (Lib.keeps (a :: r).toArray) := List.mem_filter.2 ⟨List.mem_range.2 (by simp), Lib.keeps_lt_one _ 0 (by decide)⟩
    rw [e] at this
    cases this
theorem sortT_mem {ts : List (List UInt8)} {x : List UInt8} (h : x ∈ sortT ts) : x ∈ ts := by
  unfold sortT at h
  exact (List.mem_mergeSort).1 (mem_compact h)
theorem sortT_len (ts : List (List UInt8)) : (sortT ts).length ≤ ts.length := by
  unfold sortT
  exact Nat.le_trans (compact_len _) (by rw [List.length_mergeSort]; exact Nat.le_refl _)
theorem sortT_ne {ts : List (List UInt8)} (h : ts ≠ []) : sortT ts ≠ [] := by
  unfold sortT
  refine compact_ne (fun e => h ?_)
  have := congrArg List.length e
  rw [List.length_mergeSort] at this
  exact List.eq_nil_of_length_eq_zero this

theorem textC_len (t : List UInt8) (h : t.length ≤ 200) : (spell (textC t)).length ≤ 402 := by
  show (qL t).length ≤ 402
  have := qL_len t
  omega
theorem orAll_len (x : Co) : ∀ (r : List (List UInt8)) (f : Co), (∀ t ∈ r, t.length ≤ 200) → (spell (orAll x f r)).length ≤ (spell f).length + r.length * ((spell x).length + 420) := by
  intro r
  induction r with
  | nil => intro f _; show (spell f).length ≤ _; omega
  | cons t r ih =>
    intro f h
    have h1 := ih (pairC 7 f (pairC 8 x (textC t))) (fun u hu => h u (List.mem_cons_of_mem _ hu))
    rw [spell_pair 7 rfl rfl, spell_pair 8 rfl rfl] at h1
    have h2 := textC_len t (h t List.mem_cons_self)
    have e7 : (signL 7).length = 2 := rfl
    have e8 : (signL 8).length = 1 := rfl
    show (spell (orAll x (pairC 7 f (pairC 8 x (textC t))) r)).length ≤ _
    rw [List.length_cons, Nat.succ_mul]
    omega
theorem orAll_u (x : Co) : ∀ (r : List (List UInt8)) (f : Co), uC (orAll x f r) = uC f + r.length := by
  intro r
  induction r with
  | nil => intro f; rfl
  | cons t r ih =>
    intro f
    show uC (orAll x (pairC 7 f (pairC 8 x (textC t))) r) = _
    rw [ih, uC_pair, uC_pair]
    show uC f + 1 + r.length = _
    rw [List.length_cons]; omega
theorem orAll_wf {x : Co} (hx : WfC x) : ∀ (r : List (List UInt8)) (f : Co), WfC f → WfC (orAll x f r) := by
  intro r
  induction r with
  | nil => intro f h; exact h
  | cons t r ih => intro f h; exact ih _ (wfC_pair rfl h (wfC_pair rfl hx rfl))

theorem leaf_of_name {x : Ast} (hs : ShA x) (h : opA x = 0) : ∃ q, x = .leaf q ∧ q.op = 0 := by
  cases x with
  | leaf q => exact ⟨q, rfl, h⟩
  | un p y => have := hs.1; have h : p.op = 0 := h; omega
  | bin p y z => have := hs.1; have h : p.op = 0 := h; omega
  | tri p y z u => have := hs.1; have h : p.op = 0 := h; omega

theorem sq_add (a b : Nat) (k : Nat) (hk : k ≤ 3000) : 3000 * (a * a) + 3000 * (b * b) + k ≤ 3000 * ((1 + a + b) * (1 + a + b)) := by
  have : (1 + a + b) * (1 + a + b) = a * a + b * b + 2 * (a * b) + 2 * a + 2 * b + 1 := by
    simp only [Nat.add_mul, Nat.mul_add, Nat.one_mul, Nat.mul_one]
    have := Nat.mul_comm b a
    omega
  rw [this]
  omega
theorem sq_one (a m : Nat) (k : Nat) (hk : k ≤ 3000 + 6000 * a) : 3000 * (a * a) + k ≤ 3000 * ((1 + m + a) * (1 + m + a)) := by
  have h1 : (1 + a) * (1 + a) ≤ (1 + m + a) * (1 + m + a) := Nat.mul_le_mul (by omega) (by omega)
  have h2 : (1 + a) * (1 + a) = a * a + 2 * a + 1 := by
    simp only [Nat.add_mul, Nat.mul_add, Nat.one_mul, Nat.mul_one]
    omega
  omega

/-- What is said of each core. -/
structure Gd (t : Ast) : Prop where
  len : (spell (coreA t)).length ≤ 3000 * (ndA t * ndA t)
  un : uC (coreA t) ≤ ndA t
  wf : WfC (coreA t)

theorem nd_pos : ∀ t, 1 ≤ ndA t := by
  intro t
  cases t <;> (unfold ndA; omega)

/-- The cores of all terms in it. -/
def GdA : Ast → Prop
  | .leaf p => Gd (.leaf p)
  | .un p x => Gd (.un p x) ∧ GdA x
  | .bin p x y => Gd (.bin p x y) ∧ GdA x ∧ GdA y
  | .tri p x y z => Gd (.tri p x y z) ∧ GdA x ∧ GdA y ∧ GdA z
theorem GdA.gd {t : Ast} (h : GdA t) : Gd t := by
  cases t with
  | leaf p => exact h
  | un p x => exact h.1
  | bin p x y => exact h.1
  | tri p x y z => exact h.1

theorem gd_leaf (p : Pay) (hs : ShA (.leaf p)) (hb : BndA (.leaf p)) (hn : NumA (.leaf p)) : Gd (.leaf p) := by
  have hl : leafB (cpOf p).op = true := by
    have hs : 0 ≤ p.op ∧ p.op ≤ 4 := hs
    unfold leafB cpOf
    simp only [Bool.or_eq_true, beq_iff_eq]
    omega
  refine ⟨?_, Nat.le_refl _, hl⟩
  have := leaf_len (cpOf p) hb.1 hn hl
  show (spell (.leaf (cpOf p))).length ≤ 3000 * (1 * 1)
  omega

theorem gd_pair {op : Int} (hop : binB op = true) {p : Pay} {x y : Ast} (hx : Gd x) (hy : Gd y) (u v : Co) (hu : (u = coreA x ∧ v = coreA y) ∨ (u = coreA y ∧ v = coreA x)) (he : coreA (.bin p x y) = pairC op u v) : Gd (.bin p x y) := by
  have h12 : leafB op = false ∧ unB op = false := by
    unfold binB at hop
    simpa using hop
  have hl : (spell u).length + (spell v).length = (spell (coreA x)).length + (spell (coreA y)).length := by rcases hu with ⟨rfl, rfl⟩ | ⟨rfl, rfl⟩ <;> omega
  have hc : uC u + uC v = uC (coreA x) + uC (coreA y) := by rcases hu with ⟨rfl, rfl⟩ | ⟨rfl, rfl⟩ <;> omega
  have hw : WfC u ∧ WfC v := by
    rcases hu with ⟨rfl, rfl⟩ | ⟨rfl, rfl⟩
    · exact ⟨hx.wf, hy.wf⟩
    · exact ⟨hy.wf, hx.wf⟩
  have hsg := signL_len op
  have h1 := hx.len
  have h2 := hy.len
  have h3 := hx.un
  have h4 := hy.un
  have hnd : ndA (.bin p x y) = 1 + ndA x + ndA y := rfl
  refine ⟨?_, ?_, ?_⟩
  · rw [he, spell_pair op h12.1 h12.2, hnd]
    have := sq_add (ndA x) (ndA y) 7 (by decide)
    omega
  · rw [he, uC_pair, hnd]
    split <;> omega
  · rw [he]; exact wfC_pair hop hw.1 hw.2

theorem gd_every : ∀ t, ShA t → BndA t → NumA t → BqA t → (∃ c, clsA t = .ok c) → GdA t := by
  intro t
  induction t with
  | leaf p => intro hs hb hn _ _; exact gd_leaf p hs hb hn
  | un p x ih =>
    intro hs hb hn hq hc
    obtain ⟨c, hc⟩ := hc
    have hc : clsOf p.op p.place [clsA x] = .ok c := hc
    have hcx : ∃ d, clsA x = .ok d := by
      rcases hs.1 with e | e | e | e | e | e
      · rw [e] at hc
        obtain ⟨d, h1, _⟩ := demR_ok (show demR 3 p.place 3 [clsA x] = .ok c from hc) (clsA x) (by simp)
        exact ⟨d, h1⟩
      · rw [e] at hc
        obtain ⟨d, h1, _⟩ := demR_ok (show demR 1 p.place 1 [clsA x] = .ok c from hc) (clsA x) (by simp)
        exact ⟨d, h1⟩
      · rw [e] at hc
        obtain ⟨d, h1, _⟩ := demR_ok (show demR 1 p.place 1 [clsA x] = .ok c from hc) (clsA x) (by simp)
        exact ⟨d, h1⟩
      all_goals
        obtain ⟨q, rfl, hq0⟩ := leaf_of_name hs.2.2.2 (hs.2.2.1 (by omega))
        exact ⟨0, by show clsOf q.op q.place [] = .ok 0; rw [hq0]; rfl⟩
    have hx := ih hs.2.2.2 hb.2 hn.2 hq.2 hcx
    refine ⟨?_, hx⟩
    have gx := hx.gd
    have h1 := gx.len
    have h2 := gx.un
    have h3 := nd_pos x
    have hnd : ndA (.un p x) = 1 + p.texts.length + ndA x := rfl
    have hz := num0_len
    rcases hs.1 with e | e | e | e | e | e
    · have he : coreA (.un p x) = notC (coreA x) := by rw [coreA, e]; rfl
      have hl := spell_not_len (coreA x) gx.wf
      refine ⟨?_, by rw [he, uC_not, hnd]; omega, by rw [he]; exact wfC_not _ gx.wf⟩
      rw [he, hnd]
      have := sq_one (ndA x) p.texts.length (7 * ndA x) (by omega)
      omega
    · have he : coreA (.un p x) = pairC 16 (numC 0) (coreA x) := by rw [coreA, e]; rfl
      have e16 : (signL 16).length = 1 := rfl
      refine ⟨?_, by rw [he, uC_pair, hnd]; show 1 ≤ _; omega, by rw [he]; exact wfC_pair rfl rfl gx.wf⟩
      rw [he, spell_pair 16 rfl rfl, hnd]
      have := sq_one (ndA x) p.texts.length 30 (by omega)
      omega
    · have he : coreA (.un p x) = pairC 17 (numC 0) (coreA x) := by rw [coreA, e]; rfl
      have e17 : (signL 17).length = 1 := rfl
      refine ⟨?_, by rw [he, uC_pair, hnd]; show 1 ≤ _; omega, by rw [he]; exact wfC_pair rfl rfl gx.wf⟩
      rw [he, spell_pair 17 rfl rfl, hnd]
      have := sq_one (ndA x) p.texts.length 30 (by omega)
      omega
    · have he : coreA (.un p x) = amongC (coreA x) p.texts := by rw [coreA, e]; rfl
      have hne := sortT_ne (hs.2.1 e)
      have hsl := sortT_len p.texts
      have hm : ∀ u ∈ sortT p.texts, u.length ≤ 200 := fun u hu => hq.1.2 u (sortT_mem hu)
      obtain ⟨q, rfl, hq0⟩ := leaf_of_name hs.2.2.2 (hs.2.2.1 (by omega))
      have hlx : (spell (coreA (.leaf q))).length ≤ 402 := leaf_len (cpOf q) hb.2.1 hn.2 (by unfold leafB; simp [cpOf, hq0])
      cases hsort : sortT p.texts with
      | nil => exact absurd hsort hne
      | cons u r =>
        rw [hsort] at hm hsl
        have he2 : coreA (.un p (.leaf q)) = orAll (coreA (.leaf q)) (pairC 8 (coreA (.leaf q)) (textC u)) r := by rw [he, amongC, hsort]
        have hol := orAll_len (coreA (.leaf q)) r (pairC 8 (coreA (.leaf q)) (textC u)) (fun y hy => hm y (List.mem_cons_of_mem _ hy))
        rw [spell_pair 8 rfl rfl] at hol
        have htl := textC_len u (hm u List.mem_cons_self)
        have e8 : (signL 8).length = 1 := rfl
        rw [List.length_cons] at hsl
        refine ⟨?_, ?_, ?_⟩
        · rw [he2, hnd]
          have hmul : r.length * ((spell (coreA (.leaf q))).length + 420) ≤ r.length * 822 := Nat.mul_le_mul_left _ (by omega)
          have hsq : (1 + p.texts.length + ndA (.leaf q)) * 1 ≤ (1 + p.texts.length + ndA (.leaf q)) * (1 + p.texts.length + ndA (.leaf q)) := Nat.mul_le_mul_left _ (by omega)
          omega
        · rw [he2, orAll_u, uC_pair, hnd]
          show 1 + _ ≤ _
          omega
        · rw [he2]
          exact orAll_wf gx.wf _ _ (wfC_pair rfl gx.wf rfl)
    · have he : coreA (.un p x) = .un (cpOf p) (coreA x) := by rw [coreA, e]; rfl
      have hl : (spell (.un (cpOf p) (coreA x))).length ≤ (spell (coreA x)).length + 830 := by
        show (spellN (cpOf p) (spell (coreA x)) []).length ≤ _
        have a := qL_len p.str
        have b := qL_len p.esc
        have c1 := hb.1.1
        have c2 := hq.1.1
        have d : (escT p.esc).length ≤ 8 + (qL p.esc).length := by unfold escT; split <;> simp <;> omega
        rw [spellN]
        simp only [cpOf, e]
        simp
        omega
      refine ⟨?_, by rw [he, hnd]; show uC (coreA x) ≤ _; omega, by rw [he]; exact ⟨by unfold unB; simp [cpOf, e], gx.wf⟩⟩
      rw [he, hnd]
      have := sq_one (ndA x) p.texts.length 830 (by omega)
      omega
    · have he : coreA (.un p x) = .un (cpOf p) (coreA x) := by rw [coreA, e]; rfl
      have hl : (spell (.un (cpOf p) (coreA x))).length = (spell (coreA x)).length + 10 := by
        show (spellN (cpOf p) (spell (coreA x)) []).length = _
        rw [spellN]
        simp only [cpOf, e]
        simp
      refine ⟨?_, by rw [he, hnd]; show uC (coreA x) ≤ _; omega, by rw [he]; exact ⟨by unfold unB; simp [cpOf, e], gx.wf⟩⟩
      rw [he, hnd]
      have := sq_one (ndA x) p.texts.length 10 (by omega)
      omega
  | bin p x y ihx ihy =>
    intro hs hb hn hq hc
    obtain ⟨c, hc⟩ := hc
    have hc : clsOf p.op p.place [clsA x, clsA y] = .ok c := hc
    have hcs : (∃ d, clsA x = .ok d) ∧ ∃ d, clsA y = .ok d := by
      have dm : ∀ w k, demR w p.place k [clsA x, clsA y] = .ok c → (∃ d, clsA x = .ok d) ∧ ∃ d, clsA y = .ok d := fun w k h => by
        obtain ⟨d, h1, _⟩ := demR_ok h (clsA x) (by simp)
        obtain ⟨e, h3, _⟩ := demR_ok h (clsA y) (by simp)
        exact ⟨⟨d, h1⟩, ⟨e, h3⟩⟩
      rcases (show p.op = 6 ∨ p.op = 7 ∨ p.op = 8 ∨ p.op = 9 ∨ p.op = 10 ∨ p.op = 11 ∨ p.op = 12 ∨ p.op = 13 ∨ p.op = 16 ∨ p.op = 17 ∨ p.op = 18 ∨ p.op = 19 by have := hs.1; omega) with e | e | e | e | e | e | e | e | e | e | e | e <;> rw [e] at hc
      · exact dm 3 3 hc
      · exact dm 3 3 hc
      · exact alike_ok (show alikeR p.place (clsA x) (clsA y) = .ok c from hc)
      · exact alike_ok (show alikeR p.place (clsA x) (clsA y) = .ok c from hc)
      · exact dm 1 3 hc
      · exact dm 1 3 hc
      · exact dm 1 3 hc
      · exact dm 1 3 hc
      · exact dm 1 1 hc
      · exact dm 1 1 hc
      · exact dm 1 1 hc
      · exact dm 1 1 hc
    have hx := ihx hs.2.1 hb.2.1 hn.2.1 hq.2.1 hcs.1
    have hy := ihy hs.2.2 hb.2.2 hn.2.2 hq.2.2 hcs.2
    refine ⟨?_, hx, hy⟩
    have gx := hx.gd
    have gy := hy.gd
    by_cases h12 : p.op = 12
    · exact gd_pair (op := 10) rfl gx gy (coreA y) (coreA x) (.inr ⟨rfl, rfl⟩) (by rw [coreA, h12]; rfl)
    by_cases h13 : p.op = 13
    · exact gd_pair (op := 11) rfl gx gy (coreA y) (coreA x) (.inr ⟨rfl, rfl⟩) (by rw [coreA, h13]; rfl)
    by_cases h9 : p.op = 9
    · have he : coreA (.bin p x y) = notC (pairC 8 (coreA x) (coreA y)) := by rw [coreA, h9]; rfl
      have hw : WfC (pairC 8 (coreA x) (coreA y)) := wfC_pair rfl gx.wf gy.wf
      have hl := spell_not_len _ hw
      have hu : uC (pairC 8 (coreA x) (coreA y)) = 1 := by rw [uC_pair]; rfl
      rw [hu, spell_pair 8 rfl rfl] at hl
      have e8 : (signL 8).length = 1 := rfl
      have h1 := gx.len
      have h2 := gy.len
      have hnd : ndA (.bin p x y) = 1 + ndA x + ndA y := rfl
      refine ⟨?_, by rw [he, uC_not, hu, hnd]; omega, by rw [he]; exact wfC_not _ hw⟩
      rw [he, hnd]
      have := sq_add (ndA x) (ndA y) 20 (by decide)
      omega
    · refine gd_pair (op := p.op) ?_ gx gy (coreA x) (coreA y) (.inl ⟨rfl, rfl⟩) (by rw [coreA, if_neg (by simpa using h12), if_neg (by simpa using h13), if_neg (by simpa using h9)])
      have := hs.1
      unfold binB leafB unB
      simp only [Bool.and_eq_true, Bool.not_eq_true', Bool.or_eq_false_iff, beq_eq_false_iff_ne]
      omega
  | tri p x y z ihx ihy ihz =>
    intro hs hb hn hq hc
    obtain ⟨c, hc⟩ := hc
    have hc : clsOf p.op p.place [clsA x, clsA y, clsA z] = .ok c := hc
    rw [hs.1] at hc
    have hc : demR 1 p.place 3 [clsA x, clsA y, clsA z] = .ok c := hc
    obtain ⟨d1, x1, x2⟩ := demR_ok hc (clsA x) (by simp)
    obtain ⟨d2, y1, y2⟩ := demR_ok hc (clsA y) (by simp)
    obtain ⟨d3, z1, z2⟩ := demR_ok hc (clsA z) (by simp)
    have hx := ihx hs.2.1 hb.2.1 hn.2.1 hq.2.1 ⟨_, x1⟩
    have hy := ihy hs.2.2.1 hb.2.2.1 hn.2.2.1 hq.2.2.1 ⟨_, y1⟩
    have hz := ihz hs.2.2.2 hb.2.2.2 hn.2.2.2 hq.2.2.2 ⟨_, z1⟩
    refine ⟨?_, hx, hy, hz⟩
    have ax := ar_len x (ar_of_cls x d1 hs.2.1 x1 x2) hb.2.1 hn.2.1
    have ay := ar_len y (ar_of_cls y d2 hs.2.2.1 y1 y2) hb.2.2.1 hn.2.2.1
    have az := ar_len z (ar_of_cls z d3 hs.2.2.2 z1 z2) hb.2.2.2 hn.2.2.2
    have gx := hx.gd.wf
    have gy := hy.gd.wf
    have gz := hz.gd.wf
    have he : coreA (.tri p x y z) = pairC 6 (pairC 11 (coreA y) (coreA x)) (pairC 11 (coreA x) (coreA z)) := rfl
    have hnd : ndA (.tri p x y z) = 1 + ndA x + ndA y + ndA z := rfl
    have px := nd_pos x
    refine ⟨?_, by rw [he, uC_pair, uC_pair, uC_pair, hnd]; show 1 + 1 ≤ _; omega, by rw [he]; exact wfC_pair rfl (wfC_pair rfl gy gx) (wfC_pair rfl gx gz)⟩
    rw [he, spell_pair 6 rfl rfl, spell_pair 11 rfl rfl, spell_pair 11 rfl rfl, hnd]
    have e6 : (signL 6).length = 3 := rfl
    have e11 : (signL 11).length = 2 := rfl
    have hsq : (1 + ndA x + ndA y + ndA z) * 1 ≤ (1 + ndA x + ndA y + ndA z) * (1 + ndA x + ndA y + ndA z) := Nat.mul_le_mul_left _ (by omega)
    omega

/-- The cores of a selector. -/
theorem gd_of_read {s : ByteArray} {t : Ast} (h : readR s = .ok t) : GdA t ∧ ndA t ≤ 200 ∧ ShA t ∧ NumA t ∧ BndA t ∧ BqA t := by
  have hsh := shape_of_read h
  have hcls : ∃ c, clsA t = .ok c ∧ NumA t ∧ BndA t ∧ BqA t := by
    unfold readR at h
    by_cases hs : s.size ≤ 200
    · rw [if_pos hs] at h
      cases he : (lvl s 12).E (stepSt s st0) with
      | err en pl => rw [he] at h; cases h
      | ok t1 st =>
        rw [he] at h
        change endR t1 st = _ at h
        unfold endR at h
        split at h
        · split at h
          · rename_i hk
            injection h with h
            subst h
            cases hc : clsA t1 with
            | err q => rw [hc] at hk; cases hk
            | ok c => exact ⟨c, rfl, ((lvl_num s 12).E _ _ _ (stepSt_tk s st0) he).1, ((lvl_bnd s hs 12).E _ _ _ (stepSt_ln hs st0) he).1, ((lvl_bq s hs 12).E _ _ _ (stepSt_ln hs st0) he).1⟩
          · cases h
        · cases h
    · rw [if_neg hs] at h; cases h
  obtain ⟨c, hc, hn, hb, hq⟩ := hcls
  exact ⟨gd_every t hsh.1 hb hn hq ⟨c, hc⟩, hsh.2, hsh.1, hn, hb, hq⟩
end

section
/-- How the functions of package core end: with a core. -/
def Ends (B : Nat) (w : World) (c : Co) (e : Ending) (w' : World) : Prop := ∃ b, e = .returned (.pointer (some ⟨b, 0, none⟩)) ∧ CoAt B w'.heap.size w' (.pointer (some ⟨b, 0, none⟩)) c ∧ Below w.heap.size w w'

set_option maxHeartbeats 400000 in
theorem cnumber_any (n : Int) (hn : Rng n) {B : Nat} {w : World} (hB : B ≤ w.heap.size) (hL : LibOk w) : Calls Tryz.prog 91 #[.int .i64 n] w (Ends B w (numC n)) := by
  have S : Hid (Calls Tryz.prog 94 #[.agg #[.int .i64 1, .pointer none, .pointer none, .int .i64 n, .string ⟨#[]⟩, .string ⟨#[]⟩, .string ⟨#[]⟩]] w (Ends B w (numC n))) := hide (spelled_leaf ⟨1, n, [], []⟩ rfl hn (Nat.zero_le _) (Nat.zero_le _) hB hL)
  clear hB hL hn
  go_enter Tryz.func91, Tryz.ntmps91
  go_wp2_with (go_at_call 94; refine (unhide S).mono ?_; rintro e w1 ⟨b1, rfl, hc1, hb1⟩)
  go_ret
  exact ⟨b1, rfl, hc1, hb1⟩

/-- A core is short enough to go on with. -/
def Lm (c : Co) : Prop := (spell c).length ≤ 200000000 ∧ uC c ≤ 1000 ∧ WfC c
theorem Gd.lm {t : Ast} (h : Gd t) (hn : ndA t ≤ 200) : Lm (coreA t) := by
  have h1 := h.len
  have h2 := h.un
  have : ndA t * ndA t ≤ 200 * 200 := Nat.mul_le_mul hn hn
  exact ⟨by omega, by omega, h.wf⟩

set_option maxHeartbeats 1000000 in
theorem cjoin_14 (lo : Nat) (p : Pay) (sv : Value) {B : Nat} {w : World} {b : Nat} (hB : B ≤ w.heap.size) (hL : LibOk w) (hN : NodeAt lo w b p sv) (ho : p.op = 14) {x : Co} {vx : Value} (hx : CoAt B w.heap.size w vx x) (zx : Lm x) :
    Calls Tryz.prog 61 #[.pointer (some ⟨b, 0, none⟩), vx, .pointer none, .pointer none] w (Ends B w (pairC 16 (numC 0) x)) := by
  obtain ⟨bx, rfl⟩ := hx.ptr
  have c0 := hN.c0
  have NB : Hid (Calls Tryz.prog 91 #[.int .i64 0] w (Ends B w (numC 0))) := hide (cnumber_any 0 ⟨by decide, by decide⟩ hB hL)
  have PR : Hid (∀ w1 v1, Below w.heap.size w w1 → CoAt B w1.heap.size w1 v1 (numC 0) → Calls Tryz.prog 90 #[.int .i64 16, v1, .pointer (some ⟨bx, 0, none⟩)] w1 (Ends B w1 (pairC 16 (numC 0) x))) :=
    hide (fun w1 v1 hb h1 => pair_any 16 (Nat.le_trans hB hb.size) (hL.below hb (Nat.le_refl _)) h1 (hx.below hb) (Nat.le_trans num0_len (by decide)) (Nat.le_trans zx.1 (by decide)))
  have e14 : (p.op == 14) = true := by rw [ho]; rfl
  clear hN hB hL hx zx ho
  go_enter Tryz.func61, Tryz.ntmps61
  go_wp2_with (first | (go_at_call 91; refine (unhide NB).mono ?_; rintro e w1 ⟨b1, rfl, k1, hb1⟩; have HB1 := hide hb1; have K1 := hide k1; clear hb1 k1) | (go_at_call 90; refine (unhide PR _ _ (unhide HB1) (unhide K1)).mono ?_; rintro e w2 ⟨b2, rfl, k2, hb2⟩; have HB2 := hide (below_any (unhide HB1) hb2); have K2 := hide k2; clear hb2 k2))
  go_ret
  exact ⟨b2, rfl, unhide K2, unhide HB2⟩

set_option maxHeartbeats 1000000 in
theorem cjoin_15 (lo : Nat) (p : Pay) (sv : Value) {B : Nat} {w : World} {b : Nat} (hB : B ≤ w.heap.size) (hL : LibOk w) (hN : NodeAt lo w b p sv) (ho : p.op = 15) {x : Co} {vx : Value} (hx : CoAt B w.heap.size w vx x) (zx : Lm x) :
    Calls Tryz.prog 61 #[.pointer (some ⟨b, 0, none⟩), vx, .pointer none, .pointer none] w (Ends B w (pairC 17 (numC 0) x)) := by
  obtain ⟨bx, rfl⟩ := hx.ptr
  have c0 := hN.c0
  have NB : Hid (Calls Tryz.prog 91 #[.int .i64 0] w (Ends B w (numC 0))) := hide (cnumber_any 0 ⟨by decide, by decide⟩ hB hL)
  have PR : Hid (∀ w1 v1, Below w.heap.size w w1 → CoAt B w1.heap.size w1 v1 (numC 0) → Calls Tryz.prog 90 #[.int .i64 17, v1, .pointer (some ⟨bx, 0, none⟩)] w1 (Ends B w1 (pairC 17 (numC 0) x))) :=
    hide (fun w1 v1 hb h1 => pair_any 17 (Nat.le_trans hB hb.size) (hL.below hb (Nat.le_refl _)) h1 (hx.below hb) (Nat.le_trans num0_len (by decide)) (Nat.le_trans zx.1 (by decide)))
  have e14 : (p.op == 14) = false := by rw [ho]; rfl
  have e15 : (p.op == 15) = true := by rw [ho]; rfl
  clear hN hB hL hx zx ho
  go_enter Tryz.func61, Tryz.ntmps61
  go_wp2_with (first | (go_at_call 91; refine (unhide NB).mono ?_; rintro e w1 ⟨b1, rfl, k1, hb1⟩; have HB1 := hide hb1; have K1 := hide k1; clear hb1 k1) | (go_at_call 90; refine (unhide PR _ _ (unhide HB1) (unhide K1)).mono ?_; rintro e w2 ⟨b2, rfl, k2, hb2⟩; have HB2 := hide (below_any (unhide HB1) hb2); have K2 := hide k2; clear hb2 k2))
  go_ret
  exact ⟨b2, rfl, unhide K2, unhide HB2⟩

set_option maxHeartbeats 1000000 in
theorem cjoin_12 (lo : Nat) (p : Pay) (sv : Value) {B : Nat} {w : World} {b : Nat} (hB : B ≤ w.heap.size) (hL : LibOk w) (hN : NodeAt lo w b p sv) (ho : p.op = 12) {x y : Co} {vx vy : Value} (hx : CoAt B w.heap.size w vx x) (hy : CoAt B w.heap.size w vy y) (zx : Lm x) (zy : Lm y) :
    Calls Tryz.prog 61 #[.pointer (some ⟨b, 0, none⟩), vx, vy, .pointer none] w (Ends B w (pairC 10 y x)) := by
  obtain ⟨bx, rfl⟩ := hx.ptr
  obtain ⟨by', rfl⟩ := hy.ptr
  have c0 := hN.c0
  have PR : Hid (Calls Tryz.prog 90 #[.int .i64 10, .pointer (some ⟨by', 0, none⟩), .pointer (some ⟨bx, 0, none⟩)] w (Ends B w (pairC 10 y x))) :=
    hide (pair_any 10 hB hL hy hx (Nat.le_trans zy.1 (by decide)) (Nat.le_trans zx.1 (by decide)))
  have e14 : (p.op == 14) = false := by rw [ho]; rfl
  have e15 : (p.op == 15) = false := by rw [ho]; rfl
  have e12 : (p.op == 12) = true := by rw [ho]; rfl
  clear hN hB hL hx hy zx zy ho
  go_enter Tryz.func61, Tryz.ntmps61
  go_wp2_with (go_at_call 90; refine (unhide PR).mono ?_; rintro e w2 ⟨b2, rfl, k2, hb2⟩)
  go_ret
  exact ⟨b2, rfl, k2, hb2⟩

set_option maxHeartbeats 1000000 in
theorem cjoin_13 (lo : Nat) (p : Pay) (sv : Value) {B : Nat} {w : World} {b : Nat} (hB : B ≤ w.heap.size) (hL : LibOk w) (hN : NodeAt lo w b p sv) (ho : p.op = 13) {x y : Co} {vx vy : Value} (hx : CoAt B w.heap.size w vx x) (hy : CoAt B w.heap.size w vy y) (zx : Lm x) (zy : Lm y) :
    Calls Tryz.prog 61 #[.pointer (some ⟨b, 0, none⟩), vx, vy, .pointer none] w (Ends B w (pairC 11 y x)) := by
  obtain ⟨bx, rfl⟩ := hx.ptr
  obtain ⟨by', rfl⟩ := hy.ptr
  have c0 := hN.c0
  have PR : Hid (Calls Tryz.prog 90 #[.int .i64 11, .pointer (some ⟨by', 0, none⟩), .pointer (some ⟨bx, 0, none⟩)] w (Ends B w (pairC 11 y x))) :=
    hide (pair_any 11 hB hL hy hx (Nat.le_trans zy.1 (by decide)) (Nat.le_trans zx.1 (by decide)))
  have e14 : (p.op == 14) = false := by rw [ho]; rfl
  have e15 : (p.op == 15) = false := by rw [ho]; rfl
  have e12 : (p.op == 12) = false := by rw [ho]; rfl
  have e13 : (p.op == 13) = true := by rw [ho]; rfl
  clear hN hB hL hx hy zx zy ho
  go_enter Tryz.func61, Tryz.ntmps61
  go_wp2_with (go_at_call 90; refine (unhide PR).mono ?_; rintro e w2 ⟨b2, rfl, k2, hb2⟩)
  go_ret
  exact ⟨b2, rfl, k2, hb2⟩

set_option maxHeartbeats 1000000 in
theorem cjoin_9 (lo : Nat) (p : Pay) (sv : Value) {B : Nat} {w : World} {b : Nat} (hB : B ≤ w.heap.size) (hL : LibOk w) (hN : NodeAt lo w b p sv) (ho : p.op = 9) {x y : Co} {vx vy : Value} (hx : CoAt B w.heap.size w vx x) (hy : CoAt B w.heap.size w vy y) (zx : Lm x) (zy : Lm y) :
    Calls Tryz.prog 61 #[.pointer (some ⟨b, 0, none⟩), vx, vy, .pointer none] w (Ends B w (notC (pairC 8 x y))) := by
  obtain ⟨bx, rfl⟩ := hx.ptr
  obtain ⟨by', rfl⟩ := hy.ptr
  have c0 := hN.c0
  have z1 := zx.1
  have z2 := zy.1
  have PR : Hid (Calls Tryz.prog 90 #[.int .i64 8, .pointer (some ⟨bx, 0, none⟩), .pointer (some ⟨by', 0, none⟩)] w (Ends B w (pairC 8 x y))) :=
    hide (pair_any 8 hB hL hx hy (Nat.le_trans zx.1 (by decide)) (Nat.le_trans zy.1 (by decide)))
  have NT : Hid (∀ w1 v1, Below w.heap.size w w1 → CoAt B w1.heap.size w1 v1 (pairC 8 x y) → Calls Tryz.prog 92 #[v1] w1 (Ends B w1 (notC (pairC 8 x y)))) :=
    hide (fun w1 v1 hb h1 => not_every _ (wfC_pair rfl zx.2.2 zy.2.2) (by rw [spell_pair 8 rfl rfl, uC_pair]; have e8 : (signL 8).length = 1 := rfl; show _ + 7 * 1 ≤ _; omega) B w1 v1 (Nat.le_trans hB hb.size) (hL.below hb (Nat.le_refl _)) h1)
  have e14 : (p.op == 14) = false := by rw [ho]; rfl
  have e15 : (p.op == 15) = false := by rw [ho]; rfl
  have e12 : (p.op == 12) = false := by rw [ho]; rfl
  have e13 : (p.op == 13) = false := by rw [ho]; rfl
  have e9 : (p.op == 9) = true := by rw [ho]; rfl
  clear hN hB hL hx hy zx zy ho z1 z2
  go_enter Tryz.func61, Tryz.ntmps61
  go_wp2_with (first | (go_at_call 90; refine (unhide PR).mono ?_; rintro e w1 ⟨b1, rfl, k1, hb1⟩; have HB1 := hide hb1; have K1 := hide k1; clear hb1 k1) | (go_at_call 92; refine (unhide NT _ _ (unhide HB1) (unhide K1)).mono ?_; rintro e w2 ⟨b2, rfl, k2, hb2⟩; have HB2 := hide (below_any (unhide HB1) hb2); have K2 := hide k2; clear hb2 k2))
  go_ret
  exact ⟨b2, rfl, unhide K2, unhide HB2⟩

set_option maxHeartbeats 1000000 in
theorem cjoin_5 (lo : Nat) (p : Pay) (sv : Value) {B : Nat} {w : World} {b : Nat} (hB : B ≤ w.heap.size) (hL : LibOk w) (hN : NodeAt lo w b p sv) (ho : p.op = 5) {x : Co} {vx : Value} (hx : CoAt B w.heap.size w vx x) (zx : Lm x) :
    Calls Tryz.prog 61 #[.pointer (some ⟨b, 0, none⟩), vx, .pointer none, .pointer none] w (Ends B w (notC x)) := by
  obtain ⟨bx, rfl⟩ := hx.ptr
  have c0 := hN.c0
  have z1 := zx.1
  have z2 := zx.2.1
  have NT : Hid (Calls Tryz.prog 92 #[.pointer (some ⟨bx, 0, none⟩)] w (Ends B w (notC x))) := hide (not_every x zx.2.2 (by omega) B w _ hB hL hx)
  have e14 : (p.op == 14) = false := by rw [ho]; rfl
  have e15 : (p.op == 15) = false := by rw [ho]; rfl
  have e12 : (p.op == 12) = false := by rw [ho]; rfl
  have e13 : (p.op == 13) = false := by rw [ho]; rfl
  have e9 : (p.op == 9) = false := by rw [ho]; rfl
  have e5 : (p.op == 5) = true := by rw [ho]; rfl
  clear hN hB hL hx zx ho z1 z2
  go_enter Tryz.func61, Tryz.ntmps61
  go_wp2_with (go_at_call 92; refine (unhide NT).mono ?_; rintro e w2 ⟨b2, rfl, k2, hb2⟩)
  go_ret
  exact ⟨b2, rfl, k2, hb2⟩

set_option maxHeartbeats 1000000 in
theorem cjoin_20 (lo : Nat) (p : Pay) (sv : Value) {B : Nat} {w : World} {b : Nat} (hB : B ≤ w.heap.size) (hL : LibOk w) (hN : NodeAt lo w b p sv) (ho : p.op = 20) {x y z : Co} {vx vy vz : Value} (hx : CoAt B w.heap.size w vx x) (hy : CoAt B w.heap.size w vy y) (hz : CoAt B w.heap.size w vz z) (zx : Lm x) (zy : Lm y) (zz : Lm z) :
    Calls Tryz.prog 61 #[.pointer (some ⟨b, 0, none⟩), vx, vy, vz] w (Ends B w (pairC 6 (pairC 11 y x) (pairC 11 x z))) := by
  obtain ⟨bx, rfl⟩ := hx.ptr
  obtain ⟨by', rfl⟩ := hy.ptr
  obtain ⟨bz, rfl⟩ := hz.ptr
  have c0 := hN.c0
  have z1 := zx.1
  have z2 := zy.1
  have z3 := zz.1
  have P1 : Hid (Calls Tryz.prog 90 #[.int .i64 11, .pointer (some ⟨by', 0, none⟩), .pointer (some ⟨bx, 0, none⟩)] w (Ends B w (pairC 11 y x))) :=
    hide (pair_any 11 hB hL hy hx (by omega) (by omega))
  have P2 : Hid (∀ w1, Below w.heap.size w w1 → Calls Tryz.prog 90 #[.int .i64 11, .pointer (some ⟨bx, 0, none⟩), .pointer (some ⟨bz, 0, none⟩)] w1 (Ends B w1 (pairC 11 x z))) :=
    hide (fun w1 hb => pair_any 11 (Nat.le_trans hB hb.size) (hL.below hb (Nat.le_refl _)) (hx.below hb) (hz.below hb) (by omega) (by omega))
  have e11 : (signL 11).length = 2 := rfl
  have P3 : Hid (∀ w1 v1 v2, Below w.heap.size w w1 → CoAt B w1.heap.size w1 v1 (pairC 11 y x) → CoAt B w1.heap.size w1 v2 (pairC 11 x z) → Calls Tryz.prog 90 #[.int .i64 6, v1, v2] w1 (Ends B w1 (pairC 6 (pairC 11 y x) (pairC 11 x z)))) :=
    hide (fun w1 v1 v2 hb h1 h2 => pair_any 6 (Nat.le_trans hB hb.size) (hL.below hb (Nat.le_refl _)) h1 h2 (by rw [spell_pair 11 rfl rfl]; omega) (by rw [spell_pair 11 rfl rfl]; omega))
  have e14 : (p.op == 14) = false := by rw [ho]; rfl
  have e15 : (p.op == 15) = false := by rw [ho]; rfl
  have e12 : (p.op == 12) = false := by rw [ho]; rfl
  have e13 : (p.op == 13) = false := by rw [ho]; rfl
  have e9 : (p.op == 9) = false := by rw [ho]; rfl
  have e5 : (p.op == 5) = false := by rw [ho]; rfl
  have e20 : (p.op == 20) = true := by rw [ho]; rfl
  clear hN hB hL hx hy hz zx zy zz ho z1 z2 z3 e11
  go_enter Tryz.func61, Tryz.ntmps61
  go_wp2_with fail
  refine (unhide P1).mono ?_
  rintro e w1 ⟨b1, rfl, k1, hb1⟩
  have HB1 := hide hb1
  have K1 := hide k1
  clear hb1 k1
  go_wp2_with fail
  refine (unhide P2 _ (unhide HB1)).mono ?_
  rintro e w2 ⟨b2, rfl, k2, hb2⟩
  have HB2 := hide (below_any (unhide HB1) hb2)
  have K1' := hide ((unhide K1).below hb2)
  have K2 := hide k2
  clear hb2 k2
  go_wp2_with fail
  refine (unhide P3 _ _ _ (unhide HB2) (unhide K1') (unhide K2)).mono ?_
  rintro e w3 ⟨b3, rfl, k3, hb3⟩
  have HB3 := hide (below_any (unhide HB2) hb3)
  have K3 := hide k3
  clear hb3 k3
  go_wp2_with fail
  go_ret
  exact ⟨b3, rfl, unhide K3, unhide HB3⟩

set_option maxHeartbeats 1000000 in
theorem cjoin_two (lo : Nat) (p : Pay) (sv : Value) {B : Nat} {w : World} {b : Nat} (hB : B ≤ w.heap.size) (hL : LibOk w) (hN : NodeAt lo w b p sv) (h14 : ¬ p.op = 14) (h15 : ¬ p.op = 15) (h12 : ¬ p.op = 12) (h13 : ¬ p.op = 13) (h9 : ¬ p.op = 9) (h5 : ¬ p.op = 5) (h20 : ¬ p.op = 20) (h21 : ¬ p.op = 21) {x y : Co} {vx vy : Value} (hx : CoAt B w.heap.size w vx x) (hy : CoAt B w.heap.size w vy y) (zx : Lm x) (zy : Lm y) :
    Calls Tryz.prog 61 #[.pointer (some ⟨b, 0, none⟩), vx, vy, .pointer none] w (Ends B w (pairC p.op x y)) := by
  obtain ⟨bx, rfl⟩ := hx.ptr
  obtain ⟨by', rfl⟩ := hy.ptr
  have c0 := hN.c0
  have PR : Hid (Calls Tryz.prog 90 #[.int .i64 p.op, .pointer (some ⟨bx, 0, none⟩), .pointer (some ⟨by', 0, none⟩)] w (Ends B w (pairC p.op x y))) :=
    hide (pair_any p.op hB hL hx hy (Nat.le_trans zx.1 (by decide)) (Nat.le_trans zy.1 (by decide)))
  have e14 : (p.op == 14) = false := beq_eq_false_iff_ne.2 h14
  have e15 : (p.op == 15) = false := beq_eq_false_iff_ne.2 h15
  have e12 : (p.op == 12) = false := beq_eq_false_iff_ne.2 h12
  have e13 : (p.op == 13) = false := beq_eq_false_iff_ne.2 h13
  have e9 : (p.op == 9) = false := beq_eq_false_iff_ne.2 h9
  have e5 : (p.op == 5) = false := beq_eq_false_iff_ne.2 h5
  have e20 : (p.op == 20) = false := beq_eq_false_iff_ne.2 h20
  have e21 : (p.op == 21) = false := beq_eq_false_iff_ne.2 h21
  clear hN hB hL hx hy zx zy h14 h15 h12 h13 h9 h5 h20 h21
  go_enter Tryz.func61, Tryz.ntmps61
  go_wp2_with (go_at_call 90; refine (unhide PR).mono ?_; rintro e w2 ⟨b2, rfl, k2, hb2⟩)
  go_ret
  exact ⟨b2, rfl, k2, hb2⟩

set_option maxHeartbeats 1000000 in
set_option maxRecDepth 100000 in
/-- What is left over is spelled as it is. -/
theorem cjoin_rest (lo : Nat) (p : Pay) (sv : Value) {B : Nat} {w : World} {b : Nat} (hN : NodeAt lo w b p sv) (h14 : ¬ p.op = 14) (h15 : ¬ p.op = 15) (h12 : ¬ p.op = 12) (h13 : ¬ p.op = 13) (h9 : ¬ p.op = 9) (h5 : ¬ p.op = 5) (h20 : ¬ p.op = 20) (h21 : ¬ p.op = 21) (c : Co) (la : Option Addr)
    (hS : ∀ w1, Below w.heap.size w w1 → Calls Tryz.prog 94 #[.agg #[.int .i64 p.op, .pointer la, .pointer none, .int .i64 p.num, .string (BS p.str), .string (BS p.esc), .string ⟨#[]⟩]] w1 (Ends B w1 c)) :
    Calls Tryz.prog 61 #[.pointer (some ⟨b, 0, none⟩), .pointer la, .pointer none, .pointer none] w (Ends B w c) := by
  have c0 := hN.c0
  have c3 := hN.c3
  have c4 := hN.c4
  have c5 := hN.c5
  have hbw := hN.within
  have S := hide hS
  have HB : Hid (Below w.heap.size w w.drew) := hide (Below.refl _ _).drew
  have e14 : (p.op == 14) = false := beq_eq_false_iff_ne.2 h14
  have e15 : (p.op == 15) = false := beq_eq_false_iff_ne.2 h15
  have e12 : (p.op == 12) = false := beq_eq_false_iff_ne.2 h12
  have e13 : (p.op == 13) = false := beq_eq_false_iff_ne.2 h13
  have e9 : (p.op == 9) = false := beq_eq_false_iff_ne.2 h9
  have e5 : (p.op == 5) = false := beq_eq_false_iff_ne.2 h5
  have e20 : (p.op == 20) = false := beq_eq_false_iff_ne.2 h20
  have e21 : (p.op == 21) = false := beq_eq_false_iff_ne.2 h21
  clear hN hS h14 h15 h12 h13 h9 h5 h20 h21
  go_enter Tryz.func61, Tryz.ntmps61
  go_wp2_with fail
  go_region_held3 (fun W => W.cell? ⟨b, 0, none⟩ = some (.int .i64 p.op) ∧ W.cell? ⟨b, 3, none⟩ = some (.int .i64 p.num) ∧ W.cell? ⟨b, 4, none⟩ = some (.string (BS p.str)) ∧ W.cell? ⟨b, 5, none⟩ = some (.string (BS p.esc))) (go_keep) (first | (go_at_call 94; refine (unhide S _ (unhide HB)).mono ?_; rintro e w3 ⟨b3, rfl, k3, hb3⟩; have HB3 := hide (below_any (unhide HB) hb3); have d0 := ((unhide HB3).cell (p := ⟨b, 0, none⟩) hbw).trans c0; have d3 := ((unhide HB3).cell (p := ⟨b, 3, none⟩) hbw).trans c3; have d4 := ((unhide HB3).cell (p := ⟨b, 4, none⟩) hbw).trans c4; have d5 := ((unhide HB3).cell (p := ⟨b, 5, none⟩) hbw).trans c5; have K3 := hide k3; clear k3 hb3))
  all_goals (go_wp2_with fail; go_ret; exact ⟨b3, rfl, unhide K3, unhide HB3⟩)
end

section
/-- The contract of among. -/
def AmongOk : Prop := ∀ (lo B : Nat) (w : World) (x : Co) (vx tv : Value) (ts : List (List UInt8)), B ≤ w.heap.size → LibOk w → CoAt B w.heap.size w vx x → TextsAt lo w tv ts → ts ≠ [] → ts.length ≤ 200 → (∀ t ∈ ts, t.length ≤ 200) → (spell x).length ≤ 402 →
  Calls Tryz.prog 93 #[vx, tv] w (Ends B w (amongC x ts))

def HasIn : Ast → Prop
  | .leaf _ => False
  | .un p x => p.op = 21 ∨ HasIn x
  | .bin _ x y => HasIn x ∨ HasIn y
  | .tri _ x y z => HasIn x ∨ HasIn y ∨ HasIn z

set_option maxHeartbeats 1000000 in
theorem cjoin_21 (hA : AmongOk) (lo : Nat) (p : Pay) (sv : Value) {B : Nat} {w : World} {b : Nat} (hB : B ≤ w.heap.size) (hL : LibOk w) (hN : NodeAt lo w b p sv) (ho : p.op = 21) {x : Co} {vx : Value} (hx : CoAt B w.heap.size w vx x) (hne : p.texts ≠ []) (hz : p.texts.length ≤ 200) (ht : ∀ t ∈ p.texts, t.length ≤ 200) (zx : (spell x).length ≤ 402) :
    Calls Tryz.prog 61 #[.pointer (some ⟨b, 0, none⟩), vx, .pointer none, .pointer none] w (Ends B w (amongC x p.texts)) := by
  obtain ⟨bx, rfl⟩ := hx.ptr
  have c0 := hN.c0
  obtain ⟨tv, c6, htv⟩ := hN.c6
  have AM : Hid (Calls Tryz.prog 93 #[.pointer (some ⟨bx, 0, none⟩), tv] w (Ends B w (amongC x p.texts))) := hide (hA lo B w x _ tv _ hB hL hx htv hne hz ht zx)
  obtain ⟨ta, tn, tc, rfl⟩ : ∃ a n c, tv = .slice a n c := by
    rcases htv with ⟨_, rfl⟩ | ⟨g, cap, rfl, _⟩
    · exact ⟨_, _, _, rfl⟩
    · exact ⟨_, _, _, rfl⟩
  have e14 : (p.op == 14) = false := by rw [ho]; rfl
  have e15 : (p.op == 15) = false := by rw [ho]; rfl
  have e12 : (p.op == 12) = false := by rw [ho]; rfl
  have e13 : (p.op == 13) = false := by rw [ho]; rfl
  have e9 : (p.op == 9) = false := by rw [ho]; rfl
  have e5 : (p.op == 5) = false := by rw [ho]; rfl
  have e20 : (p.op == 20) = false := by rw [ho]; rfl
  have e21 : (p.op == 21) = true := by rw [ho]; rfl
  clear hN hB hL hx zx ho hne hz ht htv hA
  go_enter Tryz.func61, Tryz.ntmps61
  go_wp2_with (go_at_call 93; refine (unhide AM).mono ?_; rintro e w2 ⟨b2, rfl, k2, hb2⟩)
  go_ret
  exact ⟨b2, rfl, k2, hb2⟩

/-- All that is known of a selector's term. -/
structure Ok (t : Ast) : Prop where
  gd : GdA t
  nd : ndA t ≤ 200
  sh : ShA t
  num : NumA t
  bnd : BndA t
  bq : BqA t
theorem ok_of_read {s : ByteArray} {t : Ast} (h : readR s = .ok t) : Ok t := by
  obtain ⟨a, b, c, d, e, f⟩ := gd_of_read h
  exact ⟨a, b, c, d, e, f⟩
theorem Ok.side {t x : Ast} (h : Ok t) (hx : x ∈ sidesA t) : Ok x := by
  obtain ⟨g, n, s, u, b, q⟩ := h
  cases t with
  | leaf p => simp [sidesA] at hx
  | un p y =>
    simp [sidesA] at hx; subst hx
    have : ndA (.un p x) = 1 + p.texts.length + ndA x := rfl
    exact ⟨g.2, by omega, s.2.2.2, u.2, b.2, q.2⟩
  | bin p y z =>
    have : ndA (.bin p y z) = 1 + ndA y + ndA z := rfl
    simp [sidesA] at hx
    rcases hx with rfl | rfl
    · exact ⟨g.2.1, by omega, s.2.1, u.2.1, b.2.1, q.2.1⟩
    · exact ⟨g.2.2, by omega, s.2.2, u.2.2, b.2.2, q.2.2⟩
  | tri p y z v =>
    have : ndA (.tri p y z v) = 1 + ndA y + ndA z + ndA v := rfl
    simp [sidesA] at hx
    rcases hx with rfl | rfl | rfl
    · exact ⟨g.2.1, by omega, s.2.1, u.2.1, b.2.1, q.2.1⟩
    · exact ⟨g.2.2.1, by omega, s.2.2.1, u.2.2.1, b.2.2.1, q.2.2.1⟩
    · exact ⟨g.2.2.2, by omega, s.2.2.2, u.2.2.2, b.2.2.2, q.2.2.2⟩
theorem Ok.lm {t : Ast} (h : Ok t) : Lm (coreA t) := h.gd.gd.lm h.nd

/-- A side's core, or nil where there is none. -/
def SideIs (B : Nat) (w : World) (t : Ast) (j : Nat) (v : Value) : Prop := match (sidesA t)[j]? with
  | some x => CoAt B w.heap.size w v (coreA x)
  | none => v = .pointer none

theorem cjoin_all (t : Ast) (hA : HasIn t → AmongOk) (hok : Ok t) (lo : Nat) (sv : Value) {B : Nat} {w : World} {b : Nat} (hB : B ≤ w.heap.size) (hL : LibOk w) (hN : NodeAt lo w b (payA t) sv) {v0 v1 v2 : Value} (h0 : SideIs B w t 0 v0) (h1 : SideIs B w t 1 v1) (h2 : SideIs B w t 2 v2) :
    Calls Tryz.prog 61 #[.pointer (some ⟨b, 0, none⟩), v0, v1, v2] w (Ends B w (coreA t)) := by
  cases t with
  | leaf p =>
    have h0 : v0 = .pointer none := h0
    have h1 : v1 = .pointer none := h1
    have h2 : v2 = .pointer none := h2
    subst h0 h1 h2
    have hs : 0 ≤ p.op ∧ p.op ≤ 4 := hok.sh
    exact cjoin_rest lo p sv hN (by omega) (by omega) (by omega) (by omega) (by omega) (by omega) (by omega) (by omega) (.leaf (cpOf p)) none
      (fun w1 hb => spelled_leaf (cpOf p) (by unfold leafB cpOf; simp only [Bool.or_eq_true, beq_iff_eq]; omega) hok.num (Nat.le_trans hok.bnd.1 (by decide)) (Nat.le_trans hok.bq.1 (by decide)) (Nat.le_trans hB hb.size) (hL.below hb (Nat.le_refl _)))
  | un p x =>
    have h0 : CoAt B w.heap.size w v0 (coreA x) := h0
    have h1 : v1 = .pointer none := h1
    have h2 : v2 = .pointer none := h2
    subst h1 h2
    have hx := hok.side (x := x) (by simp [sidesA])
    have zx := hx.lm
    have hnd : 1 + p.texts.length + ndA x ≤ 200 := hok.nd
    rcases hok.sh.1 with e | e | e | e | e | e
    · rw [show coreA (.un p x) = notC (coreA x) by rw [coreA, e]; rfl]
      exact cjoin_5 lo p sv hB hL hN e h0 zx
    · rw [show coreA (.un p x) = pairC 16 (numC 0) (coreA x) by rw [coreA, e]; rfl]
      exact cjoin_14 lo p sv hB hL hN e h0 zx
    · rw [show coreA (.un p x) = pairC 17 (numC 0) (coreA x) by rw [coreA, e]; rfl]
      exact cjoin_15 lo p sv hB hL hN e h0 zx
    · rw [show coreA (.un p x) = amongC (coreA x) p.texts by rw [coreA, e]; rfl]
      obtain ⟨q, rfl, hq0⟩ := leaf_of_name hok.sh.2.2.2 (hok.sh.2.2.1 (by omega))
      exact cjoin_21 (hA (.inl e)) lo p sv hB hL hN e h0 (hok.sh.2.1 e) (by omega) hok.bq.1.2 (leaf_len (cpOf q) hok.bnd.2.1 hok.num.2 (by unfold leafB; simp [cpOf, hq0]))
    all_goals
      obtain ⟨bx, rfl⟩ := h0.ptr
      rw [show coreA (.un p x) = .un (cpOf p) (coreA x) by rw [coreA, e]; rfl]
      exact cjoin_rest lo p sv hN (by omega) (by omega) (by omega) (by omega) (by omega) (by omega) (by omega) (by omega) (.un (cpOf p) (coreA x)) (some ⟨bx, 0, none⟩)
        (fun w1 hb => spelled_one (cpOf p) (by unfold unB; simp [cpOf, e]) hok.num.1 (Nat.le_trans hok.bnd.1.1 (by decide)) (Nat.le_trans hok.bq.1.1 (by decide)) (Nat.le_trans hB hb.size) (hL.below hb (Nat.le_refl _)) (h0.below hb) (Nat.le_trans zx.1 (by decide)))
  | bin p x y =>
    have h0 : CoAt B w.heap.size w v0 (coreA x) := h0
    have h1 : CoAt B w.heap.size w v1 (coreA y) := h1
    have h2 : v2 = .pointer none := h2
    subst h2
    have zx := (hok.side (x := x) (by simp [sidesA])).lm
    have zy := (hok.side (x := y) (by simp [sidesA])).lm
    by_cases h12 : p.op = 12
    · rw [show coreA (.bin p x y) = pairC 10 (coreA y) (coreA x) by rw [coreA, h12]; rfl]
      exact cjoin_12 lo p sv hB hL hN h12 h0 h1 zx zy
    by_cases h13 : p.op = 13
    · rw [show coreA (.bin p x y) = pairC 11 (coreA y) (coreA x) by rw [coreA, h13]; rfl]
      exact cjoin_13 lo p sv hB hL hN h13 h0 h1 zx zy
    by_cases h9 : p.op = 9
    · rw [show coreA (.bin p x y) = notC (pairC 8 (coreA x) (coreA y)) by rw [coreA, h9]; rfl]
      exact cjoin_9 lo p sv hB hL hN h9 h0 h1 zx zy
    rw [show coreA (.bin p x y) = pairC p.op (coreA x) (coreA y) by rw [coreA, if_neg (by simpa using h12), if_neg (by simpa using h13), if_neg (by simpa using h9)]]
    have := hok.sh.1
    exact cjoin_two lo p sv hB hL hN (by omega) (by omega) h12 h13 h9 (by omega) (by omega) (by omega) h0 h1 zx zy
  | tri p x y z =>
    have h0 : CoAt B w.heap.size w v0 (coreA x) := h0
    have h1 : CoAt B w.heap.size w v1 (coreA y) := h1
    have h2 : CoAt B w.heap.size w v2 (coreA z) := h2
    exact cjoin_20 lo p sv hB hL hN hok.sh.1 h0 h1 h2 (hok.side (x := x) (by simp [sidesA])).lm (hok.side (x := y) (by simp [sidesA])).lm (hok.side (x := z) (by simp [sidesA])).lm
end

section
/-- The contract of Of, at one term. -/
def CofOk (lo : Nat) (t : Ast) : Prop := ∀ (B : Nat) (w : World) (v : Value), B ≤ w.heap.size → LibOk w → IsNode lo w v t → Calls Tryz.prog 34 #[v] w (Ends B w (coreA t))

theorem CellsC.lower {B B' E : Nat} {w : World} {b : Nat} {p : CP} {l r : Value} {t : List UInt8} (h : CellsC B' E w b p l r t) (hB : B ≤ B') : CellsC B E w b p l r t :=
  ⟨Nat.le_trans hB h.lo, h.hi, h.within, h.c0, h.c1, h.c2, h.c3, h.c4, h.c5, h.c6⟩
theorem CoAt.lower {B B' E : Nat} {w : World} (hB : B ≤ B') : ∀ {c : Co} {v : Value}, CoAt B' E w v c → CoAt B E w v c := by
  intro c
  induction c with
  | leaf p => rintro v ⟨b, rfl, h⟩; exact ⟨b, rfl, h.lower hB⟩
  | un p x ih => rintro v ⟨b, vx, rfl, h, hx⟩; exact ⟨b, vx, rfl, h.lower hB, ih hx⟩
  | bin p x y ihx ihy => rintro v ⟨b, vx, vy, rfl, h, hx, hy⟩; exact ⟨b, vx, vy, rfl, h.lower hB, ihx hx, ihy hy⟩
theorem CoAt.set {B : Nat} {w : World} {c : Co} {v : Value} (h : CoAt B w.heap.size w v c) {p : Addr} (hp : p.block < B) (u : Value) : CoAt B (w.setCell p u).heap.size (w.setCell p u) v c := by
  have hz := size_setCell w p u
  exact h.keep (by rw [hz]; exact Nat.le_refl _) (fun k hk _ => Below.heap_setCell w p u k (by omega)) (by rw [hz]; exact Nat.le_refl _)

def SideK (B : Nat) (w : World) (t : Ast) (k j : Nat) (v : Value) : Prop := (j < k ∧ SideIs B w t j v) ∨ (¬ j < k ∧ v = .pointer none)
theorem SideIs.set {B : Nat} {w w1 : World} {t : Ast} {j : Nat} {v : Value} (h : SideIs B w t j v) (hb : Below w.heap.size w w1) {p : Addr} (hp : p.block < B) (u : Value) : SideIs B (w1.setCell p u) t j v := by
  unfold SideIs at h ⊢
  cases hx : (sidesA t)[j]? with
  | none => rw [hx] at h; exact h
  | some x => rw [hx] at h; exact (h.below hb).set hp u
theorem SideK.old {B : Nat} {w w1 : World} {t : Ast} {k j : Nat} {v : Value} (h : SideK B w t k j v) (hj : j ≠ k) (hb : Below w.heap.size w w1) {p : Addr} (hp : p.block < B) (u : Value) : SideK B (w1.setCell p u) t (k + 1) j v := by
  rcases h with ⟨h1, h2⟩ | ⟨h1, h2⟩
  · exact .inl ⟨by omega, h2.set hb hp u⟩
  · exact .inr ⟨by omega, h2⟩
theorem SideK.new {B : Nat} {w1 : World} {t x : Ast} {k : Nat} {v : Value} (hx : (sidesA t)[k]? = some x) (h : CoAt B w1.heap.size w1 v (coreA x)) {p : Addr} (hp : p.block < B) (u : Value) : SideK B (w1.setCell p u) t (k + 1) k v := by
  refine .inl ⟨by omega, ?_⟩
  unfold SideIs
  rw [hx]
  exact h.set hp u
theorem SideK.done {B : Nat} {w : World} {t : Ast} {j : Nat} {v : Value} (h : SideK B w t (sidesA t).length j v) : SideIs B w t j v := by
  rcases h with ⟨_, h2⟩ | ⟨h1, h2⟩
  · exact h2
  · unfold SideIs
    rw [List.getElem?_eq_none (by omega)]
    exact h2

set_option maxHeartbeats 2000000 in
set_option maxRecDepth 100000 in
theorem cof_step (lo : Nat) (t : Ast) (hA : HasIn t → AmongOk) (hok : Ok t) (hsub : ∀ x ∈ sidesA t, CofOk lo x) : CofOk lo t := by
  intro B w v hB hL h
  suffices hs : Calls Tryz.prog 34 #[v] w (Ends (w.heap.size + 1) w (coreA t)) by
    refine hs.mono ?_
    rintro e w' ⟨b, rfl, hc, hb⟩
    exact ⟨b, rfl, hc.lower (by omega), hb⟩
  have HNODE := hide h
  obtain ⟨b, sv, rfl, hnode, hsides⟩ := h.parts
  obtain ⟨a, rfl, hside⟩ := hsides.any
  have hn3 := sides_len t
  have c2 := hnode.c2
  have hbw := hnode.within
  obtain ⟨n, hn⟩ : ∃ n, (sidesA t).length = n := ⟨_, rfl⟩
  rw [hn] at c2 hn3
  have HN := hide hn
  have HS := hide hside
  have HSUB := hide hsub
  have HND := hide hnode
  have HL := hide hL
  have JN : Hid (∀ wr v0 v1 v2, Below w.heap.size w wr → w.heap.size < wr.heap.size → SideIs (w.heap.size + 1) wr t 0 v0 → SideIs (w.heap.size + 1) wr t 1 v1 → SideIs (w.heap.size + 1) wr t 2 v2 → Calls Tryz.prog 61 #[.pointer (some ⟨b, 0, none⟩), v0, v1, v2] wr (Ends (w.heap.size + 1) wr (coreA t))) :=
    hide (fun wr v0 v1 v2 hb hz h0 h1 h2 => cjoin_all t hA hok lo _ (by omega) (hL.below hb (Nat.le_refl _)) (hnode.kept (Kept.of_below hb)) h0 h1 h2)
  clear hsides h hn hside hsub hnode hA hok hL hB
  go_enter Tryz.func34, Tryz.ntmps34
  go_wp2_with fail
  go_loopw [11] (fun i wr => ∃ (k : Nat) (v0 v1 v2 : Value), k ≤ n ∧ i = .int .i64 k ∧ Hid (SideK (w.heap.size + 1) wr t k 0 v0 ∧ SideK (w.heap.size + 1) wr t k 1 v1 ∧ SideK (w.heap.size + 1) wr t k 2 v2) ∧ wr.cell? ⟨w.heap.size, 0, none⟩ = some v0 ∧ wr.cell? ⟨w.heap.size, 1, none⟩ = some v1 ∧ wr.cell? ⟨w.heap.size, 2, none⟩ = some v2 ∧ (∀ j, wr.frozen? ⟨w.heap.size, j, none⟩ = false) ∧ w.heap.size < wr.heap.size ∧ Hid (Below w.heap.size w wr)) (fun i _ => n - (intOf i).toNat)
  case atStart => exact ⟨0, .pointer none, .pointer none, .pointer none, Nat.zero_le _, rfl, hide ⟨.inr ⟨by omega, rfl⟩, .inr ⟨by omega, rfl⟩, .inr ⟨by omega, rfl⟩⟩, by simp, by simp, by simp, fun j => by simp, by simp, hide ((Below.refl _ _).alloc (Nat.le_refl _) _)⟩
  case round =>
    obtain ⟨k, v0, v1, v2, hk, rfl, hat, a0, a1, a2, fz, hzr, hbel⟩ := hrel
    by_cases hlt : k < n
    · obtain ⟨x, hx⟩ : ∃ x, (sidesA t)[k]? = some x := ⟨_, List.getElem?_eq_getElem (by rw [unhide HN]; exact hlt)⟩
      obtain ⟨g, bx, rfl, hg1, hg2, hcx, hnx⟩ := unhide HS k x hx
      have dx := ((unhide hbel).cell (p := ⟨g, k, none⟩) hg2).trans hcx
      have CX := hide (unhide HSUB x (List.mem_of_getElem? hx) (w.heap.size + 1) wr _ (by omega) ((unhide HL).below (unhide hbel) (Nat.le_refl _)) (hnx.kept (Kept.of_below (unhide hbel))))
      have HX := hide hx
      clear hx hnx hcx
      rcases (show k = 0 ∨ k = 1 ∨ k = 2 by omega) with rfl | rfl | rfl
      · go_wp2_with (go_at_call 34; refine (unhide CX).mono ?_; rintro e w1 ⟨b1, rfl, k1, hb1⟩; obtain ⟨hc1, hf1⟩ := bcell hb1; have hz1 : w.heap.size < w1.heap.size := (by have := hb1.size; omega); have q0 : w1.cell? ⟨w.heap.size, 0, none⟩ = some v0 := (hc1 _ 0 hzr).trans a0; have q1 : w1.cell? ⟨w.heap.size, 1, none⟩ = some v1 := (hc1 _ 1 hzr).trans a1; have q2 : w1.cell? ⟨w.heap.size, 2, none⟩ = some v2 := (hc1 _ 2 hzr).trans a2; have f1 : ∀ j, w1.frozen? ⟨w.heap.size, j, none⟩ = false := (fun j => (hf1 _ j hzr).trans (fz j)); have HB1 := hide hb1; have K1 := hide k1; clear hc1 hf1 hb1 k1)
        go_roundw
        case rel => exact ⟨1, _, v1, v2, by omega, by go_num, hide ⟨SideK.new (unhide HX) (unhide K1) (by simp) _, (unhide hat).2.1.old (by decide) (unhide HB1) (by simp) _, (unhide hat).2.2.old (by decide) (unhide HB1) (by simp) _⟩, by simp [go_sem, q0], by simp [go_sem, q1], by simp [go_sem, q2], fun j => by simp [go_sem, f1], by simpa using hz1, hide ((below_any (unhide hbel) (unhide HB1)).setCell (by simp) _)⟩
        case measure => simp [intOf]; omega
      · go_wp2_with (go_at_call 34; refine (unhide CX).mono ?_; rintro e w1 ⟨b1, rfl, k1, hb1⟩; obtain ⟨hc1, hf1⟩ := bcell hb1; have hz1 : w.heap.size < w1.heap.size := (by have := hb1.size; omega); have q0 : w1.cell? ⟨w.heap.size, 0, none⟩ = some v0 := (hc1 _ 0 hzr).trans a0; have q1 : w1.cell? ⟨w.heap.size, 1, none⟩ = some v1 := (hc1 _ 1 hzr).trans a1; have q2 : w1.cell? ⟨w.heap.size, 2, none⟩ = some v2 := (hc1 _ 2 hzr).trans a2; have f1 : ∀ j, w1.frozen? ⟨w.heap.size, j, none⟩ = false := (fun j => (hf1 _ j hzr).trans (fz j)); have HB1 := hide hb1; have K1 := hide k1; clear hc1 hf1 hb1 k1)
        go_roundw
        case rel => exact ⟨2, v0, _, v2, by omega, by go_num, hide ⟨(unhide hat).1.old (by decide) (unhide HB1) (by simp) _, SideK.new (unhide HX) (unhide K1) (by simp) _, (unhide hat).2.2.old (by decide) (unhide HB1) (by simp) _⟩, by simp [go_sem, q0], by simp [go_sem, q1], by simp [go_sem, q2], fun j => by simp [go_sem, f1], by simpa using hz1, hide ((below_any (unhide hbel) (unhide HB1)).setCell (by simp) _)⟩
        case measure => simp [intOf]; omega
      · go_wp2_with (go_at_call 34; refine (unhide CX).mono ?_; rintro e w1 ⟨b1, rfl, k1, hb1⟩; obtain ⟨hc1, hf1⟩ := bcell hb1; have hz1 : w.heap.size < w1.heap.size := (by have := hb1.size; omega); have q0 : w1.cell? ⟨w.heap.size, 0, none⟩ = some v0 := (hc1 _ 0 hzr).trans a0; have q1 : w1.cell? ⟨w.heap.size, 1, none⟩ = some v1 := (hc1 _ 1 hzr).trans a1; have q2 : w1.cell? ⟨w.heap.size, 2, none⟩ = some v2 := (hc1 _ 2 hzr).trans a2; have f1 : ∀ j, w1.frozen? ⟨w.heap.size, j, none⟩ = false := (fun j => (hf1 _ j hzr).trans (fz j)); have HB1 := hide hb1; have K1 := hide k1; clear hc1 hf1 hb1 k1)
        go_roundw
        case rel => exact ⟨3, v0, v1, _, by omega, by go_num, hide ⟨(unhide hat).1.old (by decide) (unhide HB1) (by simp) _, (unhide hat).2.1.old (by decide) (unhide HB1) (by simp) _, SideK.new (unhide HX) (unhide K1) (by simp) _⟩, by simp [go_sem, q0], by simp [go_sem, q1], by simp [go_sem, q2], fun j => by simp [go_sem, f1], by simpa using hz1, hide ((below_any (unhide hbel) (unhide HB1)).setCell (by simp) _)⟩
        case measure => simp [intOf]; omega
    · have hkn : k = (sidesA t).length := by have := unhide HN; omega
      have HD := hide (hkn ▸ unhide hat)
      have HJ := hide (unhide JN wr v0 v1 v2 (unhide hbel) hzr (unhide HD).1.done (unhide HD).2.1.done (unhide HD).2.2.done)
      clear hkn hat HD
      go_wp2_with (go_at_call 61; refine (unhide HJ).mono ?_; rintro e w1 ⟨b1, rfl, k1, hb1⟩; have HB1 := hide (below_any (unhide hbel) hb1); have K1 := hide k1; clear hb1 k1)
      go_ret
      exact ⟨b1, rfl, unhide K1, unhide HB1⟩

theorem cof_every (lo : Nat) : ∀ t, (HasIn t → AmongOk) → Ok t → CofOk lo t := by
  intro t
  induction t with
  | leaf p => intro hA hok; exact cof_step lo _ hA hok (fun x hx => by simp [sidesA] at hx)
  | un p x ih =>
    intro hA hok
    refine cof_step lo _ hA hok (fun y hy => ?_)
    have hy' := hy
    simp [sidesA] at hy
    subst hy
    exact ih (fun h => hA (.inr h)) (hok.side hy')
  | bin p x y ihx ihy =>
    intro hA hok
    refine cof_step lo _ hA hok (fun z hz => ?_)
    have hz' := hz
    simp [sidesA] at hz
    rcases hz with rfl | rfl
    · exact ihx (fun h => hA (.inl h)) (hok.side hz')
    · exact ihy (fun h => hA (.inr h)) (hok.side hz')
  | tri p x y z ihx ihy ihz =>
    intro hA hok
    refine cof_step lo _ hA hok (fun u hu => ?_)
    have hu' := hu
    simp [sidesA] at hu
    rcases hu with rfl | rfl | rfl
    · exact ihx (fun h => hA (.inl h)) (hok.side hu')
    · exact ihy (fun h => hA (.inr (.inl h))) (hok.side hu')
    · exact ihz (fun h => hA (.inr (.inr h))) (hok.side hu')
end

end Go.Proofs.YtfkcaldjphakpabGreatDoor
