/- digits. digits of any int; the token that digits are. The texts of Ranges, by their tokens. -/
import Derived.Test.YtfkcaldjphakpaaGreatDoorLexB
import Derived.Laws.IdiomStrings
import Derived.Laws.Concat
import Derived.Test.YtfkcaldjphakpaaGreatDoorTpA
namespace Go.Proofs.YtfkcaldjphakpaaGreatDoor
open Go.RowKit

section
/-- A number in base ten. -/
def dig (n : Nat) : UInt8 := UInt8.ofNat (48 + n % 10)
def digN (n : Nat) : List UInt8 := if n < 10 then [dig n] else digN (n / 10) ++ [dig n]
termination_by n

theorem digN_small {n : Nat} (h : n < 10) : digN n = [dig n] := by rw [digN, if_pos h]
theorem digN_more {n : Nat} (h : ¬ n < 10) : digN n = digN (n / 10) ++ [dig n] := by rw [digN, if_neg h]

theorem dig_nat (n : Nat) : (dig n).toNat = 48 + n % 10 := by
  unfold dig
  rw [UInt8.toNat_ofNat']
  omega

theorem digN_len : ∀ (k n : Nat), n < 10 ^ (k + 1) → (digN n).length ≤ k + 1 := by
  intro k
  induction k with
  | zero => intro n h; rw [digN_small (by simpa using h)]; simp
  | succ k ih =>
    intro n h
    by_cases h10 : n < 10
    · rw [digN_small h10]; simp
    · rw [digN_more h10, List.length_append]
      have := ih (n / 10) (by rw [Nat.pow_succ] at h; omega)
      simp; omega

theorem BS_add (a b : List UInt8) : BS a ++ BS b = BS (a ++ b) := by
  apply ByteArray.ext
  show (BS a ++ BS b).data = _
  rw [ByteArray.data_append]
  simp [BS]

theorem conv_dig (n : Nat) (w : World) : (convert 51 9 (.slice (some ⟨w.heap.size, 0, none⟩) 1 1)).run Tryz.prog (w.alloc (.cells #[.int .u8 (48 + (n : Int) % 10)] 5)) = .ok (.string (BS [dig n])) (w.alloc (.cells #[.int .u8 (48 + (n : Int) % 10)] 5)) := by
  refine run_convert_bytes_back (P := Tryz.prog) _ 51 9 5 ⟨w.heap.size, 0, none⟩ 1 [dig n] Tryz.underlying51 Tryz.underlying5 Tryz.underlying9 ?_
  intro j hj
  obtain rfl : j = 0 := by simp at hj; omega
  show (w.alloc _).cell? ⟨w.heap.size, 0, none⟩ = some (.int .u8 ((dig n).toNat : Int))
  rw [World.cell?_alloc_at _ _ _ _ rfl, dig_nat]
  show some (Value.int .u8 (48 + (n : Int) % 10)) = _
  congr 2

set_option maxHeartbeats 1000000 in
set_option maxRecDepth 100000 in
theorem digits_nat (n : Nat) : n ≤ 9223372036854775807 → ∀ w : World,
    Calls Tryz.prog 16 #[.int .i64 n] w fun e w' => e = .returned (.string (BS (digN n))) ∧ Below w.heap.size w w' := by
  induction n using Nat.strongRecOn with
  | ind n ih =>
  intro hn w
  have hcv := conv_dig n
  by_cases h10 : n < 10
  · rw [digN_small h10]
    clear ih
    go_enter Tryz.func16, Tryz.ntmps16
    go_wp2_with fail
    go_ret
    exact ⟨rfl, (Below.refl _ _).alloc (Nat.le_refl _) _⟩
  · rw [digN_more h10]
    have IH := ih (n / 10) (by omega) (by omega)
    rw [show ((n / 10 : Nat) : Int) = (n : Int) / 10 by omega] at IH
    have HI := hide IH
    have hl := digN_len 18 (n / 10) (by omega)
    have hadd : ∀ w : World, (Op.stringOp .add (BS (digN (n / 10))) (BS [dig n])).run Tryz.prog w = .ok (.string (BS (digN (n / 10) ++ [dig n]))) w := fun w => by rw [← BS_add]; exact run_string_add_sum (P := Tryz.prog) (w := w) _ _ (by rw [BS_size, BS_size]; simp; omega)
    clear ih IH
    go_enter Tryz.func16, Tryz.ntmps16
    go_wp2_with (go_at_call 16; refine (unhide HI _).mono ?_; rintro e w1 ⟨rfl, hb1⟩)
    go_ret
    exact ⟨rfl, below_step hb1⟩
end

section
def digZ (a : Int) : List UInt8 := if a < 0 then 45 :: digN (-a).toNat else digN a.toNat

set_option maxHeartbeats 1000000 in
set_option maxRecDepth 100000 in
theorem digits_any (a : Int) (ha : Rng a) (hm : ¬ a = -9223372036854775808) (w : World) :
    Calls Tryz.prog 16 #[.int .i64 a] w fun e w' => e = .returned (.string (BS (digZ a))) ∧ Below w.heap.size w w' := by
  unfold Rng at ha
  unfold digZ
  by_cases h0 : a < 0
  · rw [if_pos h0]
    obtain ⟨n, hn⟩ : ∃ n : Nat, (-a).toNat = n := ⟨_, rfl⟩
    have e : -a = (n : Int) := by omega
    rw [hn]
    have HI := hide (digits_nat n (by omega))
    rw [← e] at HI
    have hl := digN_len 18 n (by omega)
    have hadd : ∀ w : World, (Op.stringOp .add ⟨#[45]⟩ (BS (digN n))).run Tryz.prog w = .ok (.string (BS (45 :: digN n))) w := fun w => by
      rw [show (45 :: digN n) = [45] ++ digN n from rfl, ← BS_add]; exact run_string_add_sum (P := Tryz.prog) (w := w) _ _ (by rw [BS_size]; show 1 + _ ≤ _; omega)
    clear hn e
    go_enter Tryz.func16, Tryz.ntmps16
    go_wp2_with (go_at_call 16; refine (unhide HI _).mono ?_; rintro e w1 ⟨rfl, hb1⟩)
    go_ret
    exact ⟨rfl, hb1⟩
  · rw [if_neg h0]
    have := digits_nat a.toNat (by omega) w
    rw [show ((a.toNat : Nat) : Int) = a by omega] at this
    exact this

theorem dig_dig (n : Nat) : digU (dig n) = true := by
  unfold digU digB
  rw [dig_nat]
  simp
  omega

theorem digN_dig (n : Nat) : ∀ c ∈ digN n, digU c = true := by
  induction n using Nat.strongRecOn with
  | ind n ih =>
    intro c hc
    by_cases h : n < 10
    · rw [digN_small h] at hc; simp at hc; subst hc; exact dig_dig n
    · rw [digN_more h, List.mem_append] at hc
      rcases hc with hc | hc
      · exact ih (n / 10) (by omega) c hc
      · simp at hc; subst hc; exact dig_dig n

theorem digN_ne (n : Nat) : digN n ≠ [] := by
  by_cases h : n < 10
  · rw [digN_small h]; simp
  · rw [digN_more h]; simp

theorem runLen_all_then (p : UInt8 → Bool) : ∀ (l r : List UInt8), (∀ c ∈ l, p c = true) → (∀ c, r.head? = some c → p c = false) → runLen p (l ++ r) = l.length := by
  intro l
  induction l with
  | nil =>
    intro r _ h
    cases r with
    | nil => rfl
    | cons c t => simp [runLen, h c rfl]
  | cons c t ih =>
    intro r h1 h2
    have := ih r (fun x hx => h1 x (by simp [hx])) h2
    simp [runLen, h1 c (by simp), this]

theorem decVal_snoc (l : List UInt8) (c : UInt8) : ∀ k, decVal k (l ++ [c]) = decVal k l * 10 + (c.toNat - 48) := by
  induction l with
  | nil => intro k; rfl
  | cons d t ih =>
    intro k
    show decVal (k * 10 + (d.toNat - 48)) (t ++ [c]) = decVal (k * 10 + (d.toNat - 48)) t * 10 + (c.toNat - 48)
    rw [ih]

theorem decVal_dig (n : Nat) : decVal 0 (digN n) = n := by
  induction n using Nat.strongRecOn with
  | ind n ih =>
    by_cases h : n < 10
    · rw [digN_small h]
      show 0 * 10 + ((dig n).toNat - 48) = n
      rw [dig_nat]; omega
    · rw [digN_more h, decVal_snoc, ih (n / 10) (by omega), dig_nat]; omega

/-- Digits, and no digit behind them, are a number. -/
theorem tk_digits (n : Nat) (hn : n ≤ 9223372036854775807) (r : List UInt8) (hr : ∀ c, r.head? = some c → digU c = false) : nextTk (digN n ++ r) 0 = ⟨3, n, []⟩ ∧ nextTo (digN n ++ r) 0 = (digN n).length := by
  obtain ⟨c, t, hc⟩ : ∃ c t, digN n = c :: t := by
    cases h : digN n with
    | nil => exact absurd h (digN_ne n)
    | cons c t => exact ⟨c, t, rfl⟩
  have hd : digU c = true := digN_dig n c (by rw [hc]; simp)
  have hsp : spU c = false := by
    unfold digU digB at hd
    unfold spU spB
    simp at hd ⊢
    omega
  have hbg : begU c = false := by
    unfold digU digB at hd
    unfold begU begB
    simp at hd ⊢
    omega
  have hrun := runLen_all_then digU (digN n) r (digN_dig n) hr
  have hat : nextAt (digN n ++ r) 0 = 0 := by
    unfold nextAt; rw [List.drop_zero, hc]; simp [runLen, hsp]
  have hlen : 0 < (digN n ++ r).length := by rw [hc]; simp
  constructor
  · unfold nextTk
    rw [hat, if_pos hlen, List.drop_zero]
    have : firstTk (digN n ++ r) = numTk (digN n ++ r) := by
      conv => lhs; rw [hc]
      show (if begU c then _ else if digU c then _ else _) = _
      rw [hbg, hd, hc]; rfl
    rw [this]
    unfold numTk
    rw [hrun, List.take_left, decVal_dig, if_pos (by omega)]
  · unfold nextTo
    rw [hat, if_pos hlen, List.drop_zero, Nat.zero_add]
    have : firstS (digN n ++ r) = runLen digU (digN n ++ r) := by
      conv => lhs; rw [hc]
      show (if begU c then _ else if digU c then _ else _) = _
      rw [hbg, hd, hc]; rfl
    rw [this, hrun]

theorem lx_digits {n : Nat} (hn : n ≤ 9223372036854775807) {r : List UInt8} (hr : ∀ c, r.head? = some c → digU c = false) {L : List Tk} (h : Lx r L) : Lx (digN n ++ r) (⟨3, n, []⟩ :: L) := by
  obtain ⟨h1, h2⟩ := tk_digits n hn r hr
  refine .cons h1 (show (3 : Int) ≠ 0 by decide) ?_
  rw [h2, List.drop_left]
  exact h
end

section
theorem lx_space {r : List UInt8} {L : List Tk} (h : Lx r L) : Lx (32 :: r) L := by
  have ha : nextAt (32 :: r) 0 = nextAt r 0 + 1 := by unfold nextAt; simp [runLen, show spU 32 = true from rfl]
  have hk : nextTk (32 :: r) 0 = nextTk r 0 := by
    unfold nextTk
    rw [ha]
    by_cases hl : nextAt r 0 < r.length
    · rw [if_pos hl, if_pos (by simp; omega)]; rfl
    · rw [if_neg hl, if_neg (by simp; omega)]
  have ht : nextTo (32 :: r) 0 = nextTo r 0 + 1 := by
    unfold nextTo
    rw [ha]
    by_cases hl : nextAt r 0 < r.length
    · rw [if_pos hl, if_pos (by simp; omega), List.drop_succ_cons]; omega
    · rw [if_neg hl, if_neg (by simp; omega)]; simp
  cases h with
  | nil h => exact .nil (hk.trans h)
  | cons e h t => exact .cons (hk.trans e) h (by rw [ht, List.drop_succ_cons]; exact t)

def numToks (a : Int) : List Tk := if a < 0 then [⟨23, 0, []⟩, ⟨3, -a, []⟩] else [⟨3, a, []⟩]

theorem lx_num {a : Int} (ha : Rng a) (hm : ¬ a = -9223372036854775808) {r : List UInt8} (hr : ∀ c, r.head? = some c → digU c = false) {L : List Tk} (h : Lx r L) : Lx (digZ a ++ r) (numToks a ++ L) := by
  unfold Rng at ha
  unfold digZ numToks
  by_cases h0 : a < 0
  · rw [if_pos h0, if_pos h0]
    have hd := lx_digits (n := (-a).toNat) (by omega) hr h
    rw [show (((-a).toNat : Nat) : Int) = -a by omega] at hd
    obtain ⟨c, t, hc⟩ : ∃ c t, digN (-a).toNat = c :: t := by
      cases h : digN (-a).toNat with
      | nil => exact absurd h (digN_ne _)
      | cons c t => exact ⟨c, t, rfl⟩
    rw [hc] at hd ⊢
    exact .cons (k := ⟨23, 0, []⟩) rfl (show (23 : Int) ≠ 0 by decide) hd
  · rw [if_neg h0, if_neg h0]
    have hd := lx_digits (n := a.toNat) (by omega) hr h
    rw [show ((a.toNat : Nat) : Int) = a by omega] at hd
    exact hd

theorem lx_end : Lx [] [] := .nil rfl

/-- v BETWEEN a AND b -/
theorem lx_between {a b : Int} (ha : Rng a) (hma : ¬ a = -9223372036854775808) (hb : Rng b) (hmb : ¬ b = -9223372036854775808) :
    Lx ([118, 32, 66, 69, 84, 87, 69, 69, 78, 32] ++ (digZ a ++ ([32, 65, 78, 68, 32] ++ (digZ b ++ [])))) (⟨2, 0, [118]⟩ :: ⟨10, 0, []⟩ :: (numToks a ++ (⟨5, 0, []⟩ :: (numToks b ++ [])))) := by
  have h1 := lx_num hb hmb (r := []) (fun c h => by cases h) lx_end
  have h2 : Lx ([32, 65, 78, 68, 32] ++ (digZ b ++ [])) (⟨5, 0, []⟩ :: (numToks b ++ [])) :=
    lx_space (.cons (k := ⟨5, 0, []⟩) rfl (show (5 : Int) ≠ 0 by decide) (lx_space h1))
  have h3 := lx_num ha hma (r := [32, 65, 78, 68, 32] ++ (digZ b ++ [])) (fun c h => by simp at h; subst h; rfl) h2
  exact .cons (k := ⟨2, 0, [118]⟩) rfl (show (2 : Int) ≠ 0 by decide) (lx_space (.cons (k := ⟨10, 0, []⟩) rfl (show (10 : Int) ≠ 0 by decide) (lx_space h3)))

def numAst (a : Int) : Ast := if a < 0 then .un ⟨15, 0, 0, [], [], []⟩ (tLeaf 1 (-a) []) else tLeaf 1 a []

set_option maxRecDepth 1000000 in
theorem parse_between (a b : Int) : (tLvl 12).E ⟨⟨2, 0, [118]⟩ :: ⟨10, 0, []⟩ :: (numToks a ++ (⟨5, 0, []⟩ :: (numToks b ++ []))), 0⟩ = .ok (.tri ⟨20, 0, 0, [], [], []⟩ (tLeaf 0 0 [118]) (numAst a) (numAst b)) ⟨[], 0⟩ := by
  unfold numToks numAst
  by_cases ha : a < 0 <;> by_cases hb : b < 0
  · rw [if_pos ha, if_pos ha, if_pos hb, if_pos hb]; kernel_rfl
  · rw [if_pos ha, if_pos ha, if_neg hb, if_neg hb]; kernel_rfl
  · rw [if_neg ha, if_neg ha, if_pos hb, if_pos hb]; kernel_rfl
  · rw [if_neg ha, if_neg ha, if_neg hb, if_neg hb]; kernel_rfl
end

end Go.Proofs.YtfkcaldjphakpaaGreatDoor
