/- The other texts of Ranges, by their tokens. What the texts of Ranges are read as, and what that is of an event. What the texts of Ranges are of the event that holds v alone. Strings that are put together. -/
import Derived.Test.YtfkcaldjphakpaaGreatDoorDgA
import Derived.Test.YtfkcaldjphakpaaGreatDoorOfC
import Derived.Test.YtfkcaldjphakpaaGreatDoorEeA
namespace Go.Proofs.YtfkcaldjphakpaaGreatDoor
open Go.RowKit

section
theorem digZ_cons (a : Int) : ∃ c t, digZ a = c :: t ∧ (c == 61) = false ∧ (c == 62) = false := by
  unfold digZ
  by_cases h0 : a < 0
  · rw [if_pos h0]; exact ⟨45, _, rfl, rfl, rfl⟩
  · rw [if_neg h0]
    cases h : digN a.toNat with
    | nil => exact absurd h (digN_ne _)
    | cons c t =>
      have hd : digU c = true := digN_dig _ c (by rw [h]; simp)
      have hz : 48 ≤ c.toNat ∧ c.toNat ≤ 57 := by unfold digU digB at hd; simp at hd; omega
      refine ⟨c, t, rfl, ?_, ?_⟩
      · apply beq_eq_false_iff_ne.2; intro e; rw [e] at hz; revert hz; decide
      · apply beq_eq_false_iff_ne.2; intro e; rw [e] at hz; revert hz; decide

/-- v not between a and b -/
theorem lx_text2 {a b : Int} (ha : Rng a) (hma : ¬ a = -9223372036854775808) (hb : Rng b) (hmb : ¬ b = -9223372036854775808) :
    Lx ([118, 32, 110, 111, 116, 32, 98, 101, 116, 119, 101, 101, 110, 32] ++ (digZ a ++ ([32, 97, 110, 100, 32] ++ (digZ b ++ [])))) (⟨2, 0, [118]⟩ :: ⟨7, 0, []⟩ :: ⟨10, 0, []⟩ :: (numToks a ++ (⟨5, 0, []⟩ :: (numToks b ++ [])))) := by
  have h1 := lx_num hb hmb (r := []) (fun c h => by cases h) lx_end
  have h2 : Lx ([32, 97, 110, 100, 32] ++ (digZ b ++ [])) (⟨5, 0, []⟩ :: (numToks b ++ [])) :=
    lx_space (.cons (k := ⟨5, 0, []⟩) rfl (show (5 : Int) ≠ 0 by decide) (lx_space h1))
  have h3 := lx_num ha hma (r := [32, 97, 110, 100, 32] ++ (digZ b ++ [])) (fun c h => by simp at h; subst h; rfl) h2
  exact .cons (k := ⟨2, 0, [118]⟩) rfl (show (2 : Int) ≠ 0 by decide) (lx_space (.cons (k := ⟨7, 0, []⟩) rfl (show (7 : Int) ≠ 0 by decide) (lx_space (.cons (k := ⟨10, 0, []⟩) rfl (show (10 : Int) ≠ 0 by decide) (lx_space h3)))))

theorem lx_less {r : List UInt8} {L : List Tk} {c : UInt8} {t : List UInt8} (hr : r = c :: t) (h1 : (c == 61) = false) (h2 : (c == 62) = false) (h : Lx r L) : Lx (60 :: r) (⟨18, 0, []⟩ :: L) := by
  subst hr
  have hS : markS (60 :: c :: t) = 1 := by
    show (if (60 : UInt8) == 60 && c == 62 || ((60 : UInt8) == 60 || (60 : UInt8) == 62) && c == 61 then 2 else 1) = 1
    rw [h1, h2]; rfl
  have hT : markT (60 :: c :: t) = 18 := by
    unfold markT
    rw [hS]
    have : ((60 :: c :: t).take 2 == [60, 62]) = false := by
      show ((60 : UInt8) == 60 && (c == 62 && true)) = false
      rw [h2]; rfl
    rw [this]; rfl
  have hm : nextTk (60 :: c :: t) 0 = ⟨18, 0, []⟩ ∧ nextTo (60 :: c :: t) 0 = 1 := by
    constructor
    · show plainTk (markT (60 :: c :: t)) = _
      rw [hT]; rfl
    · show 0 + markS (60 :: c :: t) = 1
      rw [hS]
  exact .cons hm.1 (show (18 : Int) ≠ 0 by decide) (by rw [hm.2]; exact h)
theorem lx_more {r : List UInt8} {L : List Tk} {c : UInt8} {t : List UInt8} (hr : r = c :: t) (h1 : (c == 61) = false) (h : Lx r L) : Lx (62 :: r) (⟨20, 0, []⟩ :: L) := by
  subst hr
  have hS : markS (62 :: c :: t) = 1 := by
    show (if (62 : UInt8) == 60 && c == 62 || ((62 : UInt8) == 60 || (62 : UInt8) == 62) && c == 61 then 2 else 1) = 1
    rw [h1]; rfl
  have hT : markT (62 :: c :: t) = 20 := by
    unfold markT
    rw [hS]
    have : ((62 :: c :: t).take 2 == [60, 62]) = false := rfl
    rw [this]; rfl
  have hm : nextTk (62 :: c :: t) 0 = ⟨20, 0, []⟩ ∧ nextTo (62 :: c :: t) 0 = 1 := by
    constructor
    · show plainTk (markT (62 :: c :: t)) = _
      rw [hT]; rfl
    · show 0 + markS (62 :: c :: t) = 1
      rw [hS]
  exact .cons hm.1 (show (20 : Int) ≠ 0 by decide) (by rw [hm.2]; exact h)

/-- v<a Or v>b -/
theorem lx_text3 {a b : Int} (ha : Rng a) (hma : ¬ a = -9223372036854775808) (hb : Rng b) (hmb : ¬ b = -9223372036854775808) :
    Lx ([118, 60] ++ (digZ a ++ ([32, 79, 114, 32, 118, 62] ++ (digZ b ++ [])))) (⟨2, 0, [118]⟩ :: ⟨18, 0, []⟩ :: (numToks a ++ (⟨6, 0, []⟩ :: ⟨2, 0, [118]⟩ :: ⟨20, 0, []⟩ :: (numToks b ++ [])))) := by
  have h1 := lx_num hb hmb (r := []) (fun c h => by cases h) lx_end
  obtain ⟨cb, tb, eb, eb1, _⟩ := digZ_cons b
  obtain ⟨ca, ta, ea, ea1, ea2⟩ := digZ_cons a
  have h2 : Lx ([32, 79, 114, 32, 118, 62] ++ (digZ b ++ [])) (⟨6, 0, []⟩ :: ⟨2, 0, [118]⟩ :: ⟨20, 0, []⟩ :: (numToks b ++ [])) :=
    lx_space (.cons (k := ⟨6, 0, []⟩) rfl (show (6 : Int) ≠ 0 by decide) (lx_space (.cons (k := ⟨2, 0, [118]⟩) rfl (show (2 : Int) ≠ 0 by decide) (lx_more (by rw [eb]; rfl) eb1 h1))))
  have h3 := lx_num ha hma (r := [32, 79, 114, 32, 118, 62] ++ (digZ b ++ [])) (fun c h => by simp at h; subst h; rfl) h2
  exact .cons (k := ⟨2, 0, [118]⟩) rfl (show (2 : Int) ≠ 0 by decide) (lx_less (by rw [ea]; rfl) ea1 ea2 h3)

/-- (v <> a) -/
theorem lx_text4 {a : Int} (ha : Rng a) (hma : ¬ a = -9223372036854775808) :
    Lx ([40, 118, 32, 60, 62, 32] ++ (digZ a ++ [41])) (⟨26, 0, []⟩ :: ⟨2, 0, [118]⟩ :: ⟨17, 0, []⟩ :: (numToks a ++ [⟨27, 0, []⟩])) := by
  have h3 := lx_num ha hma (r := [41]) (fun c h => by simp at h; subst h; rfl) (.cons (k := ⟨27, 0, []⟩) rfl (show (27 : Int) ≠ 0 by decide) lx_end)
  have h4 : Lx ([118, 32, 60, 62, 32] ++ (digZ a ++ [41])) (⟨2, 0, [118]⟩ :: ⟨17, 0, []⟩ :: (numToks a ++ [⟨27, 0, []⟩])) :=
    .cons (k := ⟨2, 0, [118]⟩) rfl (show (2 : Int) ≠ 0 by decide) (lx_space (.cons (k := ⟨17, 0, []⟩) rfl (show (17 : Int) ≠ 0 by decide) (lx_space h3)))
  exact .cons (k := ⟨26, 0, []⟩) rfl (show (26 : Int) ≠ 0 by decide) h4

/-- v = b -/
theorem lx_text5 {b : Int} (hb : Rng b) (hmb : ¬ b = -9223372036854775808) :
    Lx ([118, 32, 61, 32] ++ (digZ b ++ [])) (⟨2, 0, [118]⟩ :: ⟨16, 0, []⟩ :: (numToks b ++ [])) := by
  have h1 := lx_num hb hmb (r := []) (fun c h => by cases h) lx_end
  exact .cons (k := ⟨2, 0, [118]⟩) rfl (show (2 : Int) ≠ 0 by decide) (lx_space (.cons (k := ⟨16, 0, []⟩) rfl (show (16 : Int) ≠ 0 by decide) (lx_space h1)))

/-- v <= a AND b >= v -/
theorem lx_text6 {a b : Int} (ha : Rng a) (hma : ¬ a = -9223372036854775808) (hb : Rng b) (hmb : ¬ b = -9223372036854775808) :
    Lx ([118, 32, 60, 61, 32] ++ (digZ a ++ ([32, 65, 78, 68, 32] ++ (digZ b ++ [32, 62, 61, 32, 118])))) (⟨2, 0, [118]⟩ :: ⟨19, 0, []⟩ :: (numToks a ++ (⟨5, 0, []⟩ :: (numToks b ++ [⟨21, 0, []⟩, ⟨2, 0, [118]⟩])))) := by
  have h0 : Lx [32, 62, 61, 32, 118] [⟨21, 0, []⟩, ⟨2, 0, [118]⟩] := lx_space (.cons (k := ⟨21, 0, []⟩) rfl (show (21 : Int) ≠ 0 by decide) (lx_space (.cons (k := ⟨2, 0, [118]⟩) rfl (show (2 : Int) ≠ 0 by decide) lx_end)))
  have h1 := lx_num hb hmb (r := [32, 62, 61, 32, 118]) (fun c h => by simp at h; subst h; rfl) h0
  have h2 : Lx ([32, 65, 78, 68, 32] ++ (digZ b ++ [32, 62, 61, 32, 118])) (⟨5, 0, []⟩ :: (numToks b ++ [⟨21, 0, []⟩, ⟨2, 0, [118]⟩])) :=
    lx_space (.cons (k := ⟨5, 0, []⟩) rfl (show (5 : Int) ≠ 0 by decide) (lx_space h1))
  have h3 := lx_num ha hma (r := [32, 65, 78, 68, 32] ++ (digZ b ++ [32, 62, 61, 32, 118])) (fun c h => by simp at h; subst h; rfl) h2
  exact .cons (k := ⟨2, 0, [118]⟩) rfl (show (2 : Int) ≠ 0 by decide) (lx_space (.cons (k := ⟨19, 0, []⟩) rfl (show (19 : Int) ≠ 0 by decide) (lx_space h3)))

/-- w BETWEEN a AND b -/
theorem lx_text7 {a b : Int} (ha : Rng a) (hma : ¬ a = -9223372036854775808) (hb : Rng b) (hmb : ¬ b = -9223372036854775808) :
    Lx ([119, 32, 66, 69, 84, 87, 69, 69, 78, 32] ++ (digZ a ++ ([32, 65, 78, 68, 32] ++ (digZ b ++ [])))) (⟨2, 0, [119]⟩ :: ⟨10, 0, []⟩ :: (numToks a ++ (⟨5, 0, []⟩ :: (numToks b ++ [])))) := by
  have h1 := lx_num hb hmb (r := []) (fun c h => by cases h) lx_end
  have h2 : Lx ([32, 65, 78, 68, 32] ++ (digZ b ++ [])) (⟨5, 0, []⟩ :: (numToks b ++ [])) :=
    lx_space (.cons (k := ⟨5, 0, []⟩) rfl (show (5 : Int) ≠ 0 by decide) (lx_space h1))
  have h3 := lx_num ha hma (r := [32, 65, 78, 68, 32] ++ (digZ b ++ [])) (fun c h => by simp at h; subst h; rfl) h2
  exact .cons (k := ⟨2, 0, [119]⟩) rfl (show (2 : Int) ≠ 0 by decide) (lx_space (.cons (k := ⟨10, 0, []⟩) rfl (show (10 : Int) ≠ 0 by decide) (lx_space h3)))
end

section
theorem digZ_len {a : Int} (ha : Rng a) : (digZ a).length ≤ 20 := by
  unfold Rng at ha
  unfold digZ
  by_cases h0 : a < 0
  · rw [if_pos h0]
    have := digN_len 18 (-a).toNat (by omega)
    simp; omega
  · rw [if_neg h0]
    have := digN_len 18 a.toNat (by omega)
    omega

set_option maxRecDepth 1000000 in
theorem parse_1 (a b : Int) : (tLvl 12).E ⟨⟨2, 0, [118]⟩ :: ⟨10, 0, []⟩ :: (numToks a ++ (⟨5, 0, []⟩ :: (numToks b ++ []))), 0⟩ = .ok (.tri ⟨20, 0, 0, [], [], []⟩ (tLeaf 0 0 [118]) (numAst a) (numAst b)) ⟨[], 0⟩ := by
  unfold numToks numAst
  by_cases ha : a < 0 <;> by_cases hb : b < 0
  · rw [if_pos ha, if_pos ha, if_pos hb, if_pos hb]; kernel_rfl
  · rw [if_pos ha, if_pos ha, if_neg hb, if_neg hb]; kernel_rfl
  · rw [if_neg ha, if_neg ha, if_pos hb, if_pos hb]; kernel_rfl
  · rw [if_neg ha, if_neg ha, if_neg hb, if_neg hb]; kernel_rfl
theorem chk_1 (a b : Int) : chkR (clsA (.tri ⟨20, 0, 0, [], [], []⟩ (tLeaf 0 0 [118]) (numAst a) (numAst b))) = none := by
  unfold numAst
  by_cases ha : a < 0 <;> by_cases hb : b < 0
  · rw [if_pos ha, if_pos hb]; rfl
  · rw [if_pos ha, if_neg hb]; rfl
  · rw [if_neg ha, if_pos hb]; rfl
  · rw [if_neg ha, if_neg hb]; rfl
theorem readg_1 (a b : Int) (ha : Rng a) (hma : ¬ a = -9223372036854775808) (hb : Rng b) (hmb : ¬ b = -9223372036854775808) : ∃ t, readR (BS ([118, 32, 66, 69, 84, 87, 69, 69, 78, 32] ++ (digZ a ++ ([32, 65, 78, 68, 32] ++ (digZ b ++ []))))) = .ok t ∧ erase t = .tri ⟨20, 0, 0, [], [], []⟩ (tLeaf 0 0 [118]) (numAst a) (numAst b) ∧ NumA t ∧ BndA t := by
  have la := digZ_len ha; have lb := digZ_len hb
  exact read_of_tokens _ (by rw [BS_size]; simp; omega) _ (by rw [BS_data]; exact lx_between ha hma hb hmb) _ (parse_1 a b) (chk_1 a b)

set_option maxRecDepth 1000000 in
theorem parse_2 (a b : Int) : (tLvl 12).E ⟨⟨2, 0, [118]⟩ :: ⟨7, 0, []⟩ :: ⟨10, 0, []⟩ :: (numToks a ++ (⟨5, 0, []⟩ :: (numToks b ++ []))), 0⟩ = .ok (.un ⟨5, 0, 0, [], [], []⟩ (.tri ⟨20, 0, 0, [], [], []⟩ (tLeaf 0 0 [118]) (numAst a) (numAst b))) ⟨[], 0⟩ := by
  unfold numToks numAst
  by_cases ha : a < 0 <;> by_cases hb : b < 0
  · rw [if_pos ha, if_pos ha, if_pos hb, if_pos hb]; kernel_rfl
  · rw [if_pos ha, if_pos ha, if_neg hb, if_neg hb]; kernel_rfl
  · rw [if_neg ha, if_neg ha, if_pos hb, if_pos hb]; kernel_rfl
  · rw [if_neg ha, if_neg ha, if_neg hb, if_neg hb]; kernel_rfl
theorem chk_2 (a b : Int) : chkR (clsA (.un ⟨5, 0, 0, [], [], []⟩ (.tri ⟨20, 0, 0, [], [], []⟩ (tLeaf 0 0 [118]) (numAst a) (numAst b)))) = none := by
  unfold numAst
  by_cases ha : a < 0 <;> by_cases hb : b < 0
  · rw [if_pos ha, if_pos hb]; rfl
  · rw [if_pos ha, if_neg hb]; rfl
  · rw [if_neg ha, if_pos hb]; rfl
  · rw [if_neg ha, if_neg hb]; rfl
theorem readg_2 (a b : Int) (ha : Rng a) (hma : ¬ a = -9223372036854775808) (hb : Rng b) (hmb : ¬ b = -9223372036854775808) : ∃ t, readR (BS ([118, 32, 110, 111, 116, 32, 98, 101, 116, 119, 101, 101, 110, 32] ++ (digZ a ++ ([32, 97, 110, 100, 32] ++ (digZ b ++ []))))) = .ok t ∧ erase t = .un ⟨5, 0, 0, [], [], []⟩ (.tri ⟨20, 0, 0, [], [], []⟩ (tLeaf 0 0 [118]) (numAst a) (numAst b)) ∧ NumA t ∧ BndA t := by
  have la := digZ_len ha; have lb := digZ_len hb
  exact read_of_tokens _ (by rw [BS_size]; simp; omega) _ (by rw [BS_data]; exact lx_text2 ha hma hb hmb) _ (parse_2 a b) (chk_2 a b)

set_option maxRecDepth 1000000 in
theorem parse_3 (a b : Int) : (tLvl 12).E ⟨⟨2, 0, [118]⟩ :: ⟨18, 0, []⟩ :: (numToks a ++ (⟨6, 0, []⟩ :: ⟨2, 0, [118]⟩ :: ⟨20, 0, []⟩ :: (numToks b ++ []))), 0⟩ = .ok (.bin ⟨7, 0, 0, [], [], []⟩ (.bin ⟨10, 0, 0, [], [], []⟩ (tLeaf 0 0 [118]) (numAst a)) (.bin ⟨12, 0, 0, [], [], []⟩ (tLeaf 0 0 [118]) (numAst b))) ⟨[], 0⟩ := by
  unfold numToks numAst
  by_cases ha : a < 0 <;> by_cases hb : b < 0
  · rw [if_pos ha, if_pos ha, if_pos hb, if_pos hb]; kernel_rfl
  · rw [if_pos ha, if_pos ha, if_neg hb, if_neg hb]; kernel_rfl
  · rw [if_neg ha, if_neg ha, if_pos hb, if_pos hb]; kernel_rfl
  · rw [if_neg ha, if_neg ha, if_neg hb, if_neg hb]; kernel_rfl
theorem chk_3 (a b : Int) : chkR (clsA (.bin ⟨7, 0, 0, [], [], []⟩ (.bin ⟨10, 0, 0, [], [], []⟩ (tLeaf 0 0 [118]) (numAst a)) (.bin ⟨12, 0, 0, [], [], []⟩ (tLeaf 0 0 [118]) (numAst b)))) = none := by
  unfold numAst
  by_cases ha : a < 0 <;> by_cases hb : b < 0
  · rw [if_pos ha, if_pos hb]; rfl
  · rw [if_pos ha, if_neg hb]; rfl
  · rw [if_neg ha, if_pos hb]; rfl
  · rw [if_neg ha, if_neg hb]; rfl
theorem readg_3 (a b : Int) (ha : Rng a) (hma : ¬ a = -9223372036854775808) (hb : Rng b) (hmb : ¬ b = -9223372036854775808) : ∃ t, readR (BS ([118, 60] ++ (digZ a ++ ([32, 79, 114, 32, 118, 62] ++ (digZ b ++ []))))) = .ok t ∧ erase t = .bin ⟨7, 0, 0, [], [], []⟩ (.bin ⟨10, 0, 0, [], [], []⟩ (tLeaf 0 0 [118]) (numAst a)) (.bin ⟨12, 0, 0, [], [], []⟩ (tLeaf 0 0 [118]) (numAst b)) ∧ NumA t ∧ BndA t := by
  have la := digZ_len ha; have lb := digZ_len hb
  exact read_of_tokens _ (by rw [BS_size]; simp; omega) _ (by rw [BS_data]; exact lx_text3 ha hma hb hmb) _ (parse_3 a b) (chk_3 a b)

set_option maxRecDepth 1000000 in
theorem parse_4 (a : Int) : (tLvl 12).E ⟨⟨26, 0, []⟩ :: ⟨2, 0, [118]⟩ :: ⟨17, 0, []⟩ :: (numToks a ++ [⟨27, 0, []⟩]), 0⟩ = .ok (.bin ⟨9, 0, 0, [], [], []⟩ (tLeaf 0 0 [118]) (numAst a)) ⟨[], 0⟩ := by
  unfold numToks numAst
  by_cases ha : a < 0
  · rw [if_pos ha, if_pos ha]; kernel_rfl
  · rw [if_neg ha, if_neg ha]; kernel_rfl
theorem chk_4 (a : Int) : chkR (clsA (.bin ⟨9, 0, 0, [], [], []⟩ (tLeaf 0 0 [118]) (numAst a))) = none := by
  unfold numAst
  by_cases ha : a < 0
  · rw [if_pos ha]; rfl
  · rw [if_neg ha]; rfl
theorem readg_4 (a : Int) (ha : Rng a) (hma : ¬ a = -9223372036854775808) : ∃ t, readR (BS ([40, 118, 32, 60, 62, 32] ++ (digZ a ++ [41]))) = .ok t ∧ erase t = .bin ⟨9, 0, 0, [], [], []⟩ (tLeaf 0 0 [118]) (numAst a) ∧ NumA t ∧ BndA t := by
  have la := digZ_len ha
  exact read_of_tokens _ (by rw [BS_size]; simp; omega) _ (by rw [BS_data]; exact lx_text4 ha hma) _ (parse_4 a) (chk_4 a)

set_option maxRecDepth 1000000 in
theorem parse_5 (b : Int) : (tLvl 12).E ⟨⟨2, 0, [118]⟩ :: ⟨16, 0, []⟩ :: (numToks b ++ []), 0⟩ = .ok (.bin ⟨8, 0, 0, [], [], []⟩ (tLeaf 0 0 [118]) (numAst b)) ⟨[], 0⟩ := by
  unfold numToks numAst
  by_cases hb : b < 0
  · rw [if_pos hb, if_pos hb]; kernel_rfl
  · rw [if_neg hb, if_neg hb]; kernel_rfl
theorem chk_5 (b : Int) : chkR (clsA (.bin ⟨8, 0, 0, [], [], []⟩ (tLeaf 0 0 [118]) (numAst b))) = none := by
  unfold numAst
  by_cases hb : b < 0
  · rw [if_pos hb]; rfl
  · rw [if_neg hb]; rfl
theorem readg_5 (b : Int) (hb : Rng b) (hmb : ¬ b = -9223372036854775808) : ∃ t, readR (BS ([118, 32, 61, 32] ++ (digZ b ++ []))) = .ok t ∧ erase t = .bin ⟨8, 0, 0, [], [], []⟩ (tLeaf 0 0 [118]) (numAst b) ∧ NumA t ∧ BndA t := by
  have lb := digZ_len hb
  exact read_of_tokens _ (by rw [BS_size]; simp; omega) _ (by rw [BS_data]; exact lx_text5 hb hmb) _ (parse_5 b) (chk_5 b)

set_option maxRecDepth 1000000 in
theorem parse_6 (a b : Int) : (tLvl 12).E ⟨⟨2, 0, [118]⟩ :: ⟨19, 0, []⟩ :: (numToks a ++ (⟨5, 0, []⟩ :: (numToks b ++ [⟨21, 0, []⟩, ⟨2, 0, [118]⟩]))), 0⟩ = .ok (.bin ⟨6, 0, 0, [], [], []⟩ (.bin ⟨11, 0, 0, [], [], []⟩ (tLeaf 0 0 [118]) (numAst a)) (.bin ⟨13, 0, 0, [], [], []⟩ (numAst b) (tLeaf 0 0 [118]))) ⟨[], 0⟩ := by
  unfold numToks numAst
  by_cases ha : a < 0 <;> by_cases hb : b < 0
  · rw [if_pos ha, if_pos ha, if_pos hb, if_pos hb]; kernel_rfl
  · rw [if_pos ha, if_pos ha, if_neg hb, if_neg hb]; kernel_rfl
  · rw [if_neg ha, if_neg ha, if_pos hb, if_pos hb]; kernel_rfl
  · rw [if_neg ha, if_neg ha, if_neg hb, if_neg hb]; kernel_rfl
theorem chk_6 (a b : Int) : chkR (clsA (.bin ⟨6, 0, 0, [], [], []⟩ (.bin ⟨11, 0, 0, [], [], []⟩ (tLeaf 0 0 [118]) (numAst a)) (.bin ⟨13, 0, 0, [], [], []⟩ (numAst b) (tLeaf 0 0 [118])))) = none := by
  unfold numAst
  by_cases ha : a < 0 <;> by_cases hb : b < 0
  · rw [if_pos ha, if_pos hb]; rfl
  · rw [if_pos ha, if_neg hb]; rfl
  · rw [if_neg ha, if_pos hb]; rfl
  · rw [if_neg ha, if_neg hb]; rfl
theorem readg_6 (a b : Int) (ha : Rng a) (hma : ¬ a = -9223372036854775808) (hb : Rng b) (hmb : ¬ b = -9223372036854775808) : ∃ t, readR (BS ([118, 32, 60, 61, 32] ++ (digZ a ++ ([32, 65, 78, 68, 32] ++ (digZ b ++ [32, 62, 61, 32, 118]))))) = .ok t ∧ erase t = .bin ⟨6, 0, 0, [], [], []⟩ (.bin ⟨11, 0, 0, [], [], []⟩ (tLeaf 0 0 [118]) (numAst a)) (.bin ⟨13, 0, 0, [], [], []⟩ (numAst b) (tLeaf 0 0 [118])) ∧ NumA t ∧ BndA t := by
  have la := digZ_len ha; have lb := digZ_len hb
  exact read_of_tokens _ (by rw [BS_size]; simp; omega) _ (by rw [BS_data]; exact lx_text6 ha hma hb hmb) _ (parse_6 a b) (chk_6 a b)

set_option maxRecDepth 1000000 in
theorem parse_7 (a b : Int) : (tLvl 12).E ⟨⟨2, 0, [119]⟩ :: ⟨10, 0, []⟩ :: (numToks a ++ (⟨5, 0, []⟩ :: (numToks b ++ []))), 0⟩ = .ok (.tri ⟨20, 0, 0, [], [], []⟩ (tLeaf 0 0 [119]) (numAst a) (numAst b)) ⟨[], 0⟩ := by
  unfold numToks numAst
  by_cases ha : a < 0 <;> by_cases hb : b < 0
  · rw [if_pos ha, if_pos ha, if_pos hb, if_pos hb]; kernel_rfl
  · rw [if_pos ha, if_pos ha, if_neg hb, if_neg hb]; kernel_rfl
  · rw [if_neg ha, if_neg ha, if_pos hb, if_pos hb]; kernel_rfl
  · rw [if_neg ha, if_neg ha, if_neg hb, if_neg hb]; kernel_rfl
theorem chk_7 (a b : Int) : chkR (clsA (.tri ⟨20, 0, 0, [], [], []⟩ (tLeaf 0 0 [119]) (numAst a) (numAst b))) = none := by
  unfold numAst
  by_cases ha : a < 0 <;> by_cases hb : b < 0
  · rw [if_pos ha, if_pos hb]; rfl
  · rw [if_pos ha, if_neg hb]; rfl
  · rw [if_neg ha, if_pos hb]; rfl
  · rw [if_neg ha, if_neg hb]; rfl
theorem readg_7 (a b : Int) (ha : Rng a) (hma : ¬ a = -9223372036854775808) (hb : Rng b) (hmb : ¬ b = -9223372036854775808) : ∃ t, readR (BS ([119, 32, 66, 69, 84, 87, 69, 69, 78, 32] ++ (digZ a ++ ([32, 65, 78, 68, 32] ++ (digZ b ++ []))))) = .ok t ∧ erase t = .tri ⟨20, 0, 0, [], [], []⟩ (tLeaf 0 0 [119]) (numAst a) (numAst b) ∧ NumA t ∧ BndA t := by
  have la := digZ_len ha; have lb := digZ_len hb
  exact read_of_tokens _ (by rw [BS_size]; simp; omega) _ (by rw [BS_data]; exact lx_text7 ha hma hb hmb) _ (parse_7 a b) (chk_7 a b)
end

section
/-- The event of Ranges. -/
def evv (x : Int) : List Pr := [⟨[118], iV x⟩]

theorem of_v (x : Int) : ofA (evv x) (tLeaf 0 0 [118]) = iV x := rfl
theorem of_w (x : Int) : ofA (evv x) (tLeaf 0 0 [119]) = nV := rfl
theorem of_num (x : Int) {a : Int} (ha : Rng a) : ofA (evv x) (numAst a) = iV a := by
  unfold Rng at ha
  unfold numAst
  by_cases h : a < 0
  · rw [if_pos h]
    show subV (iV 0) (iV (-a)) = iV a
    have h0 : (0 : Int) - -a = a := by omega
    have hs : subV (iV 0) (iV (-a)) = if fitB (0 - -a) then iV (0 - -a) else nV := rfl
    rw [hs, h0, if_pos (by simp [fitB]; omega)]
  · rw [if_neg h]; rfl

theorem less_ii (a b : Int) : lessV (iV a) (iV b) = bV (decide (a < b)) := rfl
theorem le_ii (a b : Int) : leV (iV a) (iV b) = bV (decide (a ≤ b)) := rfl
theorem eq_ii (a b : Int) : eqV (iV a) (iV b) = bV (decide (a = b)) := by
  have h : eqV (iV a) (iV b) = bV (decide (iV a = iV b)) := rfl
  rw [h]
  congr 1
  simp [iV]
theorem and_bb (p q : Bool) : andV (bV p) (bV q) = bV (p && q) := by cases p <;> cases q <;> rfl
theorem or_bb (p q : Bool) : orV (bV p) (bV q) = bV (p || q) := by cases p <;> cases q <;> rfl
theorem not_b (p : Bool) : notV (bV p) = bV (!p) := by cases p <;> rfl

theorem valg_1 (x a b : Int) (ha : Rng a) (hb : Rng b) : ofA (evv x) (.tri ⟨20, 0, 0, [], [], []⟩ (tLeaf 0 0 [118]) (numAst a) (numAst b)) = bV (decide (a ≤ x) && decide (x ≤ b)) := by
  show andV (leV (ofA (evv x) (numAst a)) (iV x)) (leV (iV x) (ofA (evv x) (numAst b))) = _
  rw [of_num x ha, of_num x hb, le_ii, le_ii, and_bb]
theorem valg_2 (x a b : Int) (ha : Rng a) (hb : Rng b) : ofA (evv x) (.un ⟨5, 0, 0, [], [], []⟩ (.tri ⟨20, 0, 0, [], [], []⟩ (tLeaf 0 0 [118]) (numAst a) (numAst b))) = bV (!(decide (a ≤ x) && decide (x ≤ b))) := by
  show notV (ofA (evv x) (.tri ⟨20, 0, 0, [], [], []⟩ (tLeaf 0 0 [118]) (numAst a) (numAst b))) = _
  rw [valg_1 x a b ha hb, not_b]
theorem valg_3 (x a b : Int) (ha : Rng a) (hb : Rng b) : ofA (evv x) (.bin ⟨7, 0, 0, [], [], []⟩ (.bin ⟨10, 0, 0, [], [], []⟩ (tLeaf 0 0 [118]) (numAst a)) (.bin ⟨12, 0, 0, [], [], []⟩ (tLeaf 0 0 [118]) (numAst b))) = bV (decide (x < a) || decide (b < x)) := by
  show orV (lessV (iV x) (ofA (evv x) (numAst a))) (lessV (ofA (evv x) (numAst b)) (iV x)) = _
  rw [of_num x ha, of_num x hb, less_ii, less_ii, or_bb]
theorem valg_4 (x a : Int) (ha : Rng a) : ofA (evv x) (.bin ⟨9, 0, 0, [], [], []⟩ (tLeaf 0 0 [118]) (numAst a)) = bV (!decide (x = a)) := by
  show notV (eqV (iV x) (ofA (evv x) (numAst a))) = _
  rw [of_num x ha, eq_ii, not_b]
theorem valg_5 (x b : Int) (hb : Rng b) : ofA (evv x) (.bin ⟨8, 0, 0, [], [], []⟩ (tLeaf 0 0 [118]) (numAst b)) = bV (decide (x = b)) := by
  show eqV (iV x) (ofA (evv x) (numAst b)) = _
  rw [of_num x hb, eq_ii]
theorem valg_6 (x a b : Int) (ha : Rng a) (hb : Rng b) : ofA (evv x) (.bin ⟨6, 0, 0, [], [], []⟩ (.bin ⟨11, 0, 0, [], [], []⟩ (tLeaf 0 0 [118]) (numAst a)) (.bin ⟨13, 0, 0, [], [], []⟩ (numAst b) (tLeaf 0 0 [118]))) = bV (decide (x ≤ a) && decide (x ≤ b)) := by
  show andV (leV (iV x) (ofA (evv x) (numAst a))) (leV (iV x) (ofA (evv x) (numAst b))) = _
  rw [of_num x ha, of_num x hb, le_ii, le_ii, and_bb]
theorem valg_7 (x a b : Int) (ha : Rng a) (hb : Rng b) : ofA (evv x) (.tri ⟨20, 0, 0, [], [], []⟩ (tLeaf 0 0 [119]) (numAst a) (numAst b)) = nV := by
  show andV (leV (ofA (evv x) (numAst a)) nV) (leV nV (ofA (evv x) (numAst b))) = _
  rw [of_num x ha, of_num x hb]
  rfl

/-- The world that holds the event of Ranges. -/
def eventedV (w : World) (x : Int) : World := w.alloc (.cells #[.string ⟨#[118]⟩, .int .i64 2, .int .i64 x, .string ⟨#[]⟩] 28)

theorem eventedV_at (w : World) (x : Int) : EvAt (eventedV w x) w.heap.size 0 (evv x) := by
  intro k p hk
  unfold eventedV
  match k, hk with
  | 0, hk =>
    obtain rfl : (⟨[118], iV x⟩ : Pr) = p := by simpa [evv] using hk
    refine ⟨?_, ?_, ?_, ?_⟩ <;> simp [iV, BS]
  | k + 1, hk => simp [evv] at hk

theorem evv_ok (x : Int) : evOk (evv x) = true := by kernel_rfl
theorem evv_short (x : Int) : Short (evv x) := by
  intro p hp
  simp [evv] at hp
  subst hp
  simp [iV]
theorem evv_rng {x : Int} (hx : Rng x) : EvRng (evv x) := by
  intro p hp
  simp [evv] at hp
  subst hp
  exact hx
theorem evv_sh (x : Int) : EvSh (evv x) := by
  intro p hp
  simp [evv] at hp
  subst hp
  exact sh_i _

/-- is, of a text that is read and of the event of Ranges, whatever came since. -/
theorem is_v (w : World) (hE : ErrOk w) (x : Int) (hx : Rng x) (s : ByteArray) (hs : s.size ≤ 140737488355328) (want : V) (hl : want.str.length ≤ 281474976710656) (u : Ast) (hrd : ∃ t, readR s = .ok t ∧ erase t = u ∧ NumA t ∧ BndA t) (hv : ofA (evv x) u = want)
    (w1 : World) (hb : Below (w.heap.size + 1) (eventedV w x) w1) :
    Calls Tryz.prog 17 #[.string s, .slice (some ⟨w.heap.size, 0, none⟩) 1 1, vV want] w1 fun e w' => e = .returned (.bool true) ∧ Below w1.heap.size w1 w' := by
  have hz : (eventedV w x).heap.size = w.heap.size + 1 := by simp [eventedV]
  have hz1 := hb.size
  have hE0 : ErrOk (eventedV w x) := hE.alloc _
  obtain ⟨t, hrt, het, hN, hB⟩ := hrd
  have hv' : ofA (evv x) t = want := by rw [← of_erase, het]; exact hv
  refine (is_any s (.slice (some ⟨w.heap.size, 0, none⟩) 1 1) want want ⟨_, _, _, rfl⟩ w1 (fun w2 hb2 hlt => ?_)).mono ?_
  · have hb3 : Below (w.heap.size + 1) (eventedV w x) w2 := hb.trans (hb2.mono (by omega))
    have := eval_ok s hs t hrt (evv x) w.heap.size 0 1 w2 (hE0.below hb3 (by omega)) (by simp [evv]) (by simp [evv]) (evv_short x) ((eventedV_at w x).belowB hb3 (by omega)) (by have := hb2.size; omega) (evv_ok x) (fun lo => of_every lo (evv x) _ (evv_rng hx) (evv_sh x) t hB hN) (by rw [hv']; exact hl)
    rw [hv'] at this
    exact this
  · rintro e w' ⟨rfl, h⟩
    exact ⟨by simp, h⟩
end

section
theorem add_run (s t : ByteArray) (m n : Nat) (hs : s.size ≤ m) (ht : t.size ≤ n) (h : m + n ≤ 1000) : ∃ r, r = s ++ t ∧ r.size ≤ m + n ∧ ∀ w : World, (Op.stringOp .add s t).run Tryz.prog w = .ok (.string r) w :=
  ⟨s ++ t, rfl, by rw [ByteArray.size_append]; omega, fun w => run_string_add_sum (P := Tryz.prog) (w := w) _ _ (by omega)⟩
end

end Go.Proofs.YtfkcaldjphakpaaGreatDoor
