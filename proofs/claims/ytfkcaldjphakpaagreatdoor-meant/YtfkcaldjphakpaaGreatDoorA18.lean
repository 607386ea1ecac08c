/- pair. not. -/
import Derived.Test.YtfkcaldjphakpaaGreatDoorA17
import Derived.Deep.QuietTactic
import Derived.BigQuiet
import Derived.Deep.RegionHeld3
namespace Go.Proofs.YtfkcaldjphakpaaGreatDoor
open Go.RowKit

section
theorem LibOk.drew {w : World} (h : LibOk w) : LibOk w.drew := h.below (Below.refl _ _).drew (Nat.le_refl _)

theorem spellN_bin {op : Int} (h1 : leafB op = false) (h2 : unB op = false) (l r : List UInt8) : spellN (plainP' op) l r = [40] ++ l ++ [32] ++ signL op ++ [32] ++ r ++ [41] := by
  unfold leafB at h1
  unfold unB at h2
  simp only [Bool.or_eq_false_iff] at h1 h2
  obtain ⟨⟨⟨⟨a, b⟩, c⟩, d⟩, e⟩ := h1
  obtain ⟨⟨f, g⟩, i⟩ := h2
  simp only [spellN, plainP', a, b, c, d, e, f, g, i]
  rfl

/-- A new core of two sides. -/
theorem CoAt.two {B : Nat} {w0 w' : World} {op : Int} {x y : Co} {vx vy : Value} (hB : B ≤ w0.heap.size) (hc : CellsC w0.heap.size w'.heap.size w' w0.heap.size (plainP' op) vx vy (spellN (plainP' op) (spell x) (spell y))) (hb : Below w0.heap.size w0 w') (hx : CoAt B w0.heap.size w0 vx x) (hy : CoAt B w0.heap.size w0 vy y) :
    CoAt B w'.heap.size w' (at0 w0.heap.size) (.bin (plainP' op) x y) :=
  ⟨w0.heap.size, vx, vy, rfl, ⟨hB, hc.hi, hc.within, hc.c0, hc.c1, hc.c2, hc.c3, hc.c4, hc.c5, hc.c6⟩, hx.below hb, hy.below hb⟩

theorem CoAt.ptr {B E : Nat} {w : World} {v : Value} {c : Co} (h : CoAt B E w v c) : ∃ b, v = .pointer (some ⟨b, 0, none⟩) := by
  obtain ⟨b, _, _, _, rfl, _⟩ := h.head
  exact ⟨b, rfl⟩

/-- The contract of spelled at two sides. -/
theorem spelled_two (op : Int) {B : Nat} {w : World} (hB : B ≤ w.heap.size) (hL : LibOk w) {x y : Co} {bx by' : Nat} (hx : CoAt B w.heap.size w (.pointer (some ⟨bx, 0, none⟩)) x) (hy : CoAt B w.heap.size w (.pointer (some ⟨by', 0, none⟩)) y) (zx : (spell x).length ≤ 1000000000) (zy : (spell y).length ≤ 1000000000) :
    Calls Tryz.prog 115 #[.agg #[.int .i64 op, .pointer (some ⟨bx, 0, none⟩), .pointer (some ⟨by', 0, none⟩), .int .i64 0, .string ⟨#[]⟩, .string ⟨#[]⟩, .string ⟨#[]⟩]] w fun e w' => ∃ b, e = .returned (.pointer (some ⟨b, 0, none⟩)) ∧ CoAt B w'.heap.size w' (.pointer (some ⟨b, 0, none⟩)) (.bin (plainP' op) x y) ∧ Below w.heap.size w w' := by
  have h := spelled_any w hL (plainP' op) (.pointer (some ⟨bx, 0, none⟩)) (.pointer (some ⟨by', 0, none⟩)) (spell x) (spell y) (show Rng 0 from ⟨by decide, by decide⟩) (Nat.zero_le _) (Nat.zero_le _) zx zy ⟨_, rfl⟩ ⟨_, rfl⟩ (fun _ => hx.text) (fun _ _ => hy.text)
  refine Calls.mono (show Calls Tryz.prog 115 #[.agg #[.int .i64 op, .pointer (some ⟨bx, 0, none⟩), .pointer (some ⟨by', 0, none⟩), .int .i64 0, .string ⟨#[]⟩, .string ⟨#[]⟩, .string ⟨#[]⟩]] w _ from h) ?_
  rintro e w' ⟨rfl, hc, hb⟩
  exact ⟨w.heap.size, rfl, CoAt.two hB hc hb hx hy, hb⟩

set_option maxHeartbeats 1000000 in
set_option maxRecDepth 100000 in
theorem pair_any (op : Int) {B : Nat} {w : World} (hB : B ≤ w.heap.size) (hL : LibOk w) {x y : Co} {vx vy : Value} (hx : CoAt B w.heap.size w vx x) (hy : CoAt B w.heap.size w vy y) (zx : (spell x).length ≤ 1000000000) (zy : (spell y).length ≤ 1000000000) :
    Calls Tryz.prog 111 #[.int .i64 op, vx, vy] w fun e w' => ∃ b, e = .returned (.pointer (some ⟨b, 0, none⟩)) ∧ CoAt B w'.heap.size w' (.pointer (some ⟨b, 0, none⟩)) (pairC op x y) ∧ Below w.heap.size w w' := by
  obtain ⟨bx, rfl⟩ := hx.ptr
  obtain ⟨by', rfl⟩ := hy.ptr
  obtain ⟨bx', ex, hxl, cx⟩ := hx.text
  obtain ⟨by2, ey, hyl, cy⟩ := hy.text
  obtain rfl : bx' = bx := by injection ex with ex; injection ex with ex; injection ex with ex; exact ex.symm
  obtain rfl : by2 = by' := by injection ey with ey; injection ey with ey; injection ey with ey; exact ey.symm
  have S1 : Hid (∀ w1, Below w.heap.size w w1 → Calls Tryz.prog 115 #[.agg #[.int .i64 op, .pointer (some ⟨bx', 0, none⟩), .pointer (some ⟨by2, 0, none⟩), .int .i64 0, .string ⟨#[]⟩, .string ⟨#[]⟩, .string ⟨#[]⟩]] w1 fun e w' => ∃ b, e = .returned (.pointer (some ⟨b, 0, none⟩)) ∧ CoAt B w'.heap.size w' (.pointer (some ⟨b, 0, none⟩)) (.bin (plainP' op) x y) ∧ Below w1.heap.size w1 w') :=
    hide (fun w1 hb => spelled_two op (Nat.le_trans hB hb.size) (hL.below hb (Nat.le_refl _)) (hx.below hb) (hy.below hb) zx zy)
  have S2 : Hid (∀ w1, Below w.heap.size w w1 → Calls Tryz.prog 115 #[.agg #[.int .i64 op, .pointer (some ⟨by2, 0, none⟩), .pointer (some ⟨bx', 0, none⟩), .int .i64 0, .string ⟨#[]⟩, .string ⟨#[]⟩, .string ⟨#[]⟩]] w1 fun e w' => ∃ b, e = .returned (.pointer (some ⟨b, 0, none⟩)) ∧ CoAt B w'.heap.size w' (.pointer (some ⟨b, 0, none⟩)) (.bin (plainP' op) y x) ∧ Below w1.heap.size w1 w') :=
    hide (fun w1 hb => spelled_two op (Nat.le_trans hB hb.size) (hL.below hb (Nat.le_refl _)) (hy.below hb) (hx.below hb) zy zx)
  have hlt : Op.bytesLess (BS (spell y)).toList (BS (spell x)).toList = Op.bytesLess (spell y) (spell x) := by rw [BS_toList, BS_toList]
  have DN : Hid (∀ n, Below w.heap.size w (w.drewN n)) := hide (fun n => ⟨rfl, rfl, rfl, Nat.le_refl _, fun _ _ => rfl⟩)
  unfold pairC
  generalize Op.bytesLess (spell y) (spell x) = lt at *
  clear hx hy zx zy hL hB ex ey
  cases he : eitherB op with
  | false =>
    rw [Bool.false_and, if_neg (by decide)]
    have TE : Hid (∀ w, Calls Tryz.prog 164 #[.int .i64 op] w fun e w' => e = .returned (.bool false) ∧ w' = w) := hide (fun w => he ▸ takesEither_any op w)
    clear he
    go_enter Tryz.func111, Tryz.ntmps111
    go_wp2_with fail
    go_quiet ((go_at_call 164; exact Calls.quiet_of_same (unhide TE _)))
    go_wp2_with (go_at_call 115; refine (unhide S1 _ (unhide DN _)).mono ?_; rintro e w2 ⟨b, rfl, hc, hb⟩)
    go_ret
    exact ⟨b, rfl, hc, below_any (unhide DN _) hb⟩
  | true =>
    rw [Bool.true_and]
    have TE : Hid (∀ w, Calls Tryz.prog 164 #[.int .i64 op] w fun e w' => e = .returned (.bool true) ∧ w' = w) := hide (fun w => he ▸ takesEither_any op w)
    clear he
    cases lt with
    | false =>
      rw [if_neg (by decide)]
      go_enter Tryz.func111, Tryz.ntmps111
      go_wp2_with fail
      go_quiet ((go_at_call 164; exact Calls.quiet_of_same (unhide TE _)))
      go_wp2_with (go_at_call 115; refine (unhide S1 _ (unhide DN _)).mono ?_; rintro e w2 ⟨b, rfl, hc, hb⟩)
      go_ret
      exact ⟨b, rfl, hc, below_any (unhide DN _) hb⟩
    | true =>
      rw [if_pos rfl]
      go_enter Tryz.func111, Tryz.ntmps111
      go_wp2_with fail
      go_quiet ((go_at_call 164; exact Calls.quiet_of_same (unhide TE _)))
      go_wp2_with (go_at_call 115; refine (unhide S2 _ (unhide DN _)).mono ?_; rintro e w2 ⟨b, rfl, hc, hb⟩)
      go_ret
      exact ⟨b, rfl, hc, below_any (unhide DN _) hb⟩
end

section
/-- How many tests stand under AND and OR. -/
def uC : Co → Nat
  | .leaf _ => 1
  | .un _ x => uC x
  | .bin p x y => if p.op == 6 || p.op == 7 then uC x + uC y else 1
theorem uC_pos : ∀ c, 1 ≤ uC c := by
  intro c
  induction c with
  | leaf p => exact Nat.le_refl _
  | un p x ih => exact ih
  | bin p x y ihx ihy => unfold uC; split <;> omega
theorem uC_pair (op : Int) (x y : Co) : uC (pairC op x y) = if op == 6 || op == 7 then uC x + uC y else 1 := by
  unfold pairC
  split
  · show (if (op == 6 || op == 7) = true then uC y + uC x else 1) = _
    rw [Nat.add_comm]
  · rfl
theorem uC_not : ∀ c, uC (notC c) = uC c := by
  intro c
  induction c with
  | leaf p => unfold notC; split; rfl; split <;> rfl
  | un p x ih => unfold notC; split <;> rfl
  | bin p x y ihx ihy =>
    unfold notC
    by_cases h6 : (p.op == 6) = true
    · rw [if_pos h6, uC_pair, ihx, ihy]
      show (if ((7 : Int) == 6 || (7 : Int) == 7) = true then _ else _) = if (p.op == 6 || p.op == 7) = true then _ else _
      rw [h6]; rfl
    rw [if_neg h6]
    by_cases h7 : (p.op == 7) = true
    · rw [if_pos h7, uC_pair, ihx, ihy]
      show (if ((6 : Int) == 6 || (6 : Int) == 7) = true then _ else _) = if (p.op == 6 || p.op == 7) = true then _ else _
      rw [h7, Bool.or_true]; rfl
    rw [if_neg h7]
    have hu : uC (.bin p x y) = 1 := by
      show (if (p.op == 6 || p.op == 7) = true then _ else _) = 1
      rw [if_neg]
      rw [Bool.eq_false_iff.2 h6, Bool.eq_false_iff.2 h7]; decide
    by_cases h10 : (p.op == 10) = true
    · rw [if_pos h10, uC_pair, hu]; rfl
    rw [if_neg h10]
    by_cases h11 : (p.op == 11) = true
    · rw [if_pos h11, uC_pair, hu]; rfl
    rw [if_neg h11]
    rfl

theorem spell_pair (op : Int) (h1 : leafB op = false) (h2 : unB op = false) (x y : Co) : (spell (pairC op x y)).length = (spell x).length + (spell y).length + 4 + (signL op).length := by
  unfold pairC
  split
  · show (spellN (plainP' op) (spell y) (spell x)).length = _
    rw [spellN_bin h1 h2]; simp; omega
  · show (spellN (plainP' op) (spell x) (spell y)).length = _
    rw [spellN_bin h1 h2]; simp; omega
/-- The operators of terms with two sides. -/
def binB (op : Int) : Bool := !leafB op && !unB op
theorem spell_bin_len {p : CP} (h : binB p.op = true) (x y : Co) : (spell (.bin p x y)).length = (spell x).length + (spell y).length + 4 + (signL p.op).length := by
  show (spellN p (spell x) (spell y)).length = _
  unfold binB leafB unB at h
  simp only [Bool.and_eq_true, Bool.not_eq_true', Bool.or_eq_false_iff] at h
  obtain ⟨⟨⟨⟨⟨a, b⟩, c⟩, d⟩, e⟩, ⟨f, g⟩, i⟩ := h
  simp only [spellN, a, b, c, d, e, f, g, i]
  simp
  omega
/-- Cores of the right shapes. -/
def WfC : Co → Prop
  | .leaf p => leafB p.op = true
  | .un p x => unB p.op = true ∧ WfC x
  | .bin p x y => binB p.op = true ∧ WfC x ∧ WfC y
theorem wfC_pair {op : Int} (h : binB op = true) {x y : Co} (hx : WfC x) (hy : WfC y) : WfC (pairC op x y) := by
  unfold pairC
  split
  · exact ⟨h, hy, hx⟩
  · exact ⟨h, hx, hy⟩
theorem wfC_not : ∀ c, WfC c → WfC (notC c) := by
  intro c
  induction c with
  | leaf p => intro h; unfold notC; split; exact rfl; split; exact rfl; exact ⟨rfl, h⟩
  | un p x ih => intro h; unfold notC; split; exact h.2; exact ⟨rfl, h⟩
  | bin p x y ihx ihy =>
    intro h
    unfold notC
    split
    · exact wfC_pair rfl (ihx h.2.1) (ihy h.2.2)
    split
    · exact wfC_pair rfl (ihx h.2.1) (ihy h.2.2)
    split
    · exact wfC_pair rfl h.2.2 h.2.1
    split
    · exact wfC_pair rfl h.2.2 h.2.1
    · exact ⟨rfl, h⟩
theorem spell_not5 (c : Co) : (spell (.un (plainP' 5) c)).length = (spell c).length + 6 := by
  show (spellN (plainP' 5) (spell c) []).length = _
  simp [spellN, plainP']
theorem spell_not_len : ∀ c, WfC c → (spell (notC c)).length + 1 ≤ (spell c).length + 7 * uC c := by
  intro c
  induction c with
  | leaf p =>
    intro _
    unfold notC
    split
    · rename_i h; have : (spell (.leaf p)).length = 4 := by show (spellN p [] []).length = 4; rw [spellN, eq_of_beq h]; rfl
      show 5 + 1 ≤ _ + 7 * 1; omega
    split
    · show 4 + 1 ≤ _ + 7 * 1; omega
    · rw [spell_not5]; show _ ≤ _ + 7 * 1; omega
  | un p x ih =>
    intro hw
    have hp := uC_pos x
    unfold notC
    split
    · rename_i h
      simp only [Bool.and_eq_true, beq_iff_eq] at h
      have : (spell (.un p x)).length = (spell x).length + 6 := by show (spellN p (spell x) []).length = _; simp [spellN, h.1]
      show _ ≤ _ + 7 * uC x; omega
    · rw [spell_not5]; show _ ≤ _ + 7 * uC x; omega
  | bin p x y ihx ihy =>
    intro hw
    have hx := ihx hw.2.1
    have hy := ihy hw.2.2
    have hs := spell_bin_len hw.1 x y
    have hsg := signL_len p.op
    unfold notC
    by_cases h6 : (p.op == 6) = true
    · rw [if_pos h6, spell_pair 7 rfl rfl, hs]
      have : uC (.bin p x y) = uC x + uC y := by show (if (p.op == 6 || p.op == 7) = true then _ else _) = _; rw [h6]; rfl
      rw [this]
      have : (signL p.op).length = 3 := by rw [eq_of_beq h6]; rfl
      show _ + _ + 4 + 2 + 1 ≤ _; omega
    rw [if_neg h6]
    by_cases h7 : (p.op == 7) = true
    · rw [if_pos h7, spell_pair 6 rfl rfl, hs]
      have : uC (.bin p x y) = uC x + uC y := by show (if (p.op == 6 || p.op == 7) = true then _ else _) = _; rw [h7, Bool.or_true]; rfl
      rw [this]
      have : (signL p.op).length = 2 := by rw [eq_of_beq h7]; rfl
      show _ + _ + 4 + 3 + 1 ≤ _; omega
    rw [if_neg h7]
    have hu : uC (.bin p x y) = 1 := by
      show (if (p.op == 6 || p.op == 7) = true then _ else _) = 1
      rw [if_neg]
      rw [Bool.eq_false_iff.2 h6, Bool.eq_false_iff.2 h7]; decide
    rw [hu]
    by_cases h10 : (p.op == 10) = true
    · rw [if_pos h10, spell_pair 11 rfl rfl, hs]
      show _ + _ + 4 + 2 + 1 ≤ _; omega
    rw [if_neg h10]
    by_cases h11 : (p.op == 11) = true
    · rw [if_pos h11, spell_pair 10 rfl rfl, hs]
      show _ + _ + 4 + 1 + 1 ≤ _; omega
    rw [if_neg h11, spell_not5]; omega

/-- The contract of not, at one core. -/
def NotOk (c : Co) : Prop := ∀ (B : Nat) (w : World) (v : Value), B ≤ w.heap.size → LibOk w → CoAt B w.heap.size w v c →
  Calls Tryz.prog 113 #[v] w fun e w' => ∃ b, e = .returned (.pointer (some ⟨b, 0, none⟩)) ∧ CoAt B w'.heap.size w' (.pointer (some ⟨b, 0, none⟩)) (notC c) ∧ Below w.heap.size w w'

/-- The contract of spelled without sides, and with one. -/
theorem spelled_leaf (p : CP) (hp : leafB p.op = true) (hn : Rng p.num) (h4 : p.str.length ≤ 1000000000) (h5 : p.esc.length ≤ 1000000000) {B : Nat} {w : World} (hB : B ≤ w.heap.size) (hL : LibOk w) :
    Calls Tryz.prog 115 #[.agg #[.int .i64 p.op, .pointer none, .pointer none, .int .i64 p.num, .string (BS p.str), .string (BS p.esc), .string ⟨#[]⟩]] w fun e w' => ∃ b, e = .returned (.pointer (some ⟨b, 0, none⟩)) ∧ CoAt B w'.heap.size w' (.pointer (some ⟨b, 0, none⟩)) (.leaf p) ∧ Below w.heap.size w w' := by
  refine Calls.mono (show Calls Tryz.prog 115 #[.agg #[.int .i64 p.op, .pointer none, .pointer none, .int .i64 p.num, .string (BS p.str), .string (BS p.esc), .string ⟨#[]⟩]] w _ from spelled_any w hL p (.pointer none) (.pointer none) [] [] hn h4 h5 (Nat.zero_le _) (Nat.zero_le _) ⟨_, rfl⟩ ⟨_, rfl⟩ (fun h => by rw [hp] at h; cases h) (fun h => by rw [hp] at h; cases h)) ?_
  rintro e w' ⟨rfl, hc, hb⟩
  exact ⟨w.heap.size, rfl, ⟨w.heap.size, rfl, ⟨hB, hc.hi, hc.within, hc.c0, hc.c1, hc.c2, hc.c3, hc.c4, hc.c5, hc.c6⟩⟩, hb⟩
theorem spelled_one (p : CP) (hp : unB p.op = true) (hn : Rng p.num) (h4 : p.str.length ≤ 1000000000) (h5 : p.esc.length ≤ 1000000000) {B : Nat} {w : World} (hB : B ≤ w.heap.size) (hL : LibOk w) {x : Co} {bx : Nat} (hx : CoAt B w.heap.size w (.pointer (some ⟨bx, 0, none⟩)) x) (zx : (spell x).length ≤ 1000000000) :
    Calls Tryz.prog 115 #[.agg #[.int .i64 p.op, .pointer (some ⟨bx, 0, none⟩), .pointer none, .int .i64 p.num, .string (BS p.str), .string (BS p.esc), .string ⟨#[]⟩]] w fun e w' => ∃ b, e = .returned (.pointer (some ⟨b, 0, none⟩)) ∧ CoAt B w'.heap.size w' (.pointer (some ⟨b, 0, none⟩)) (.un p x) ∧ Below w.heap.size w w' := by
  refine Calls.mono (show Calls Tryz.prog 115 #[.agg #[.int .i64 p.op, .pointer (some ⟨bx, 0, none⟩), .pointer none, .int .i64 p.num, .string (BS p.str), .string (BS p.esc), .string ⟨#[]⟩]] w _ from spelled_any w hL p (.pointer (some ⟨bx, 0, none⟩)) (.pointer none) (spell x) [] hn h4 h5 zx (Nat.zero_le _) ⟨_, rfl⟩ ⟨_, rfl⟩ (fun _ => hx.text) (fun _ h => by rw [hp] at h; cases h)) ?_
  rintro e w' ⟨rfl, hc, hb⟩
  exact ⟨w.heap.size, rfl, ⟨w.heap.size, _, rfl, ⟨hB, hc.hi, hc.within, hc.c0, hc.c1, hc.c2, hc.c3, hc.c4, hc.c5, hc.c6⟩, hx.below hb⟩, hb⟩
end

end Go.Proofs.YtfkcaldjphakpaaGreatDoor
