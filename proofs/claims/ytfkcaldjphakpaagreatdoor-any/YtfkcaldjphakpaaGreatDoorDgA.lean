/- digits. digits of any int; the token that digits are. The texts of Ranges, by their tokens. The reader of programs: its state in memory; fail, take, next, upTo. The reader of programs: number. The reader of programs: text. The reader of programs: term. -/
import Derived.Test.YtfkcaldjphakpaaGreatDoorLexB
import Derived.Laws.IdiomStrings
import Derived.Laws.Concat
import Derived.Test.YtfkcaldjphakpaaGreatDoorRfA
import Derived.Test.YtfkcaldjphakpaaGreatDoorPatB
import Derived.Test.YtfkcaldjphakpaaGreatDoorRdA
namespace Go.Proofs.YtfkcaldjphakpaaGreatDoor
open Go.RowKit

section
/-- A number in base ten. -/
def dig (n : Nat) : UInt8 := UInt8.ofNat (48 + n % 10)
def digN (n : Nat) : List UInt8 := if n < 10 then [dig n] else digN (n / 10) ++ [dig n]
termination_by n

theorem digN_small {n : Nat} (h : n < 10) : digN n = [dig n] := by rw [digN, if_pos h]
theorem digN_more {n : Nat} (h : ¬ n < 10) : digN n = digN (n / 10) ++ [dig n] := by rw [digN, if_neg h]

theorem dig_nat (n : Nat) : (dig n).toNat = 48 + n % 10 := by
  unfold dig
  rw [UInt8.toNat_ofNat']
  omega

theorem digN_len : ∀ (k n : Nat), n < 10 ^ (k + 1) → (digN n).length ≤ k + 1 := by
  intro k
  induction k with
  | zero => intro n h; rw [digN_small (by simpa using h)]; simp
  | succ k ih =>
    intro n h
    by_cases h10 : n < 10
    · rw [digN_small h10]; simp
    · rw [digN_more h10, List.length_append]
      have := ih (n / 10) (by rw [Nat.pow_succ] at h; omega)
      simp; omega

theorem BS_add (a b : List UInt8) : BS a ++ BS b = BS (a ++ b) := by
  apply ByteArray.ext
  show (BS a ++ BS b).data = _
  rw [ByteArray.data_append]
  simp [BS]

theorem conv_dig (n : Nat) (w : World) : (convert 51 9 (.slice (some ⟨w.heap.size, 0, none⟩) 1 1)).run Tryz.prog (w.alloc (.cells #[.int .u8 (48 + (n : Int) % 10)] 5)) = .ok (.string (BS [dig n])) (w.alloc (.cells #[.int .u8 (48 + (n : Int) % 10)] 5)) := by
  refine run_convert_bytes_back (P := Tryz.prog) _ 51 9 5 ⟨w.heap.size, 0, none⟩ 1 [dig n] Tryz.underlying51 Tryz.underlying5 Tryz.underlying9 ?_
  intro j hj
  obtain rfl : j = 0 := by simp at hj; omega
  show (w.alloc _).cell? ⟨w.heap.size, 0, none⟩ = some (.int .u8 ((dig n).toNat : Int))
  rw [World.cell?_alloc_at _ _ _ _ rfl, dig_nat]
  show some (Value.int .u8 (48 + (n : Int) % 10)) = _
  congr 2

set_option maxHeartbeats 1000000 in
set_option maxRecDepth 100000 in
theorem digits_nat (n : Nat) : n ≤ 9223372036854775807 → ∀ w : World,
    Calls Tryz.prog 16 #[.int .i64 n] w fun e w' => e = .returned (.string (BS (digN n))) ∧ Below w.heap.size w w' := by
  induction n using Nat.strongRecOn with
  | ind n ih =>
  intro hn w
  have hcv := conv_dig n
  by_cases h10 : n < 10
  · rw [digN_small h10]
    clear ih
    go_enter Tryz.func16, Tryz.ntmps16
    go_wp2_with fail
    go_ret
    exact ⟨rfl, (Below.refl _ _).alloc (Nat.le_refl _) _⟩
  · rw [digN_more h10]
    have IH := ih (n / 10) (by omega) (by omega)
    rw [show ((n / 10 : Nat) : Int) = (n : Int) / 10 by omega] at IH
    have HI := hide IH
    have hl := digN_len 18 (n / 10) (by omega)
    have hadd : ∀ w : World, (Op.stringOp .add (BS (digN (n / 10))) (BS [dig n])).run Tryz.prog w = .ok (.string (BS (digN (n / 10) ++ [dig n]))) w := fun w => by rw [← BS_add]; exact run_string_add_sum (P := Tryz.prog) (w := w) _ _ (by rw [BS_size, BS_size]; simp; omega)
    clear ih IH
    go_enter Tryz.func16, Tryz.ntmps16
    go_wp2_with (go_at_call 16; refine (unhide HI _).mono ?_; rintro e w1 ⟨rfl, hb1⟩)
    go_ret
    exact ⟨rfl, below_step hb1⟩
end

section
def digZ (a : Int) : List UInt8 := if a < 0 then 45 :: digN (-a).toNat else digN a.toNat

set_option maxHeartbeats 1000000 in
set_option maxRecDepth 100000 in
theorem digits_any (a : Int) (ha : Rng a) (hm : ¬ a = -9223372036854775808) (w : World) :
    Calls Tryz.prog 16 #[.int .i64 a] w fun e w' => e = .returned (.string (BS (digZ a))) ∧ Below w.heap.size w w' := by
  unfold Rng at ha
  unfold digZ
  by_cases h0 : a < 0
  · rw [if_pos h0]
    obtain ⟨n, hn⟩ : ∃ n : Nat, (-a).toNat = n := ⟨_, rfl⟩
    have e : -a = (n : Int) := by omega
    rw [hn]
    have HI := hide (digits_nat n (by omega))
    rw [← e] at HI
    have hl := digN_len 18 n (by omega)
    have hadd : ∀ w : World, (Op.stringOp .add ⟨#[45]⟩ (BS (digN n))).run Tryz.prog w = .ok (.string (BS (45 :: digN n))) w := fun w => by
      rw [show (45 :: digN n) = [45] ++ digN n from rfl, ← BS_add]; exact run_string_add_sum (P := Tryz.prog) (w := w) _ _ (by rw [BS_size]; show 1 + _ ≤ _; omega)
    clear hn e
    go_enter Tryz.func16, Tryz.ntmps16
    go_wp2_with (go_at_call 16; refine (unhide HI _).mono ?_; rintro e w1 ⟨rfl, hb1⟩)
    go_ret
    exact ⟨rfl, hb1⟩
  · rw [if_neg h0]
    have := digits_nat a.toNat (by omega) w
    rw [show ((a.toNat : Nat) : Int) = a by omega] at this
    exact this

theorem dig_dig (n : Nat) : digU (dig n) = true := by
  unfold digU digB
  rw [dig_nat]
  simp
  omega

theorem digN_dig (n : Nat) : ∀ c ∈ digN n, digU c = true := by
  induction n using Nat.strongRecOn with
  | ind n ih =>
    intro c hc
    by_cases h : n < 10
    · rw [digN_small h] at hc; simp at hc; subst hc; exact dig_dig n
    · rw [digN_more h, List.mem_append] at hc
      rcases hc with hc | hc
      · exact ih (n / 10) (by omega) c hc
      · simp at hc; subst hc; exact dig_dig n

theorem digN_ne (n : Nat) : digN n ≠ [] := by
  by_cases h : n < 10
  · rw [digN_small h]; simp
  · rw [digN_more h]; simp

theorem runLen_all_then (p : UInt8 → Bool) : ∀ (l r : List UInt8), (∀ c ∈ l, p c = true) → (∀ c, r.head? = some c → p c = false) → runLen p (l ++ r) = l.length := by
  intro l
  induction l with
  | nil =>
    intro r _ h
    cases r with
    | nil => rfl
    | cons c t => simp [runLen, h c rfl]
  | cons c t ih =>
    intro r h1 h2
    have := ih r (fun x hx => h1 x (by simp [hx])) h2
    simp [runLen, h1 c (by simp), this]

theorem decVal_snoc (l : List UInt8) (c : UInt8) : ∀ k, decVal k (l ++ [c]) = decVal k l * 10 + (c.toNat - 48) := by
  induction l with
  | nil => intro k; rfl
  | cons d t ih =>
    intro k
    show decVal (k * 10 + (d.toNat - 48)) (t ++ [c]) = decVal (k * 10 + (d.toNat - 48)) t * 10 + (c.toNat - 48)
    rw [ih]

theorem decVal_dig (n : Nat) : decVal 0 (digN n) = n := by
  induction n using Nat.strongRecOn with
  | ind n ih =>
    by_cases h : n < 10
    · rw [digN_small h]
      show 0 * 10 + ((dig n).toNat - 48) = n
      rw [dig_nat]; omega
    · rw [digN_more h, decVal_snoc, ih (n / 10) (by omega), dig_nat]; omega

/-- Digits, and no digit behind them, are a number. -/
theorem tk_digits (n : Nat) (hn : n ≤ 9223372036854775807) (r : List UInt8) (hr : ∀ c, r.head? = some c → digU c = false) : nextTk (digN n ++ r) 0 = ⟨3, n, []⟩ ∧ nextTo (digN n ++ r) 0 = (digN n).length := by
  obtain ⟨c, t, hc⟩ : ∃ c t, digN n = c :: t := by
    cases h : digN n with
    | nil => exact absurd h (digN_ne n)
    | cons c t => exact ⟨c, t, rfl⟩
  have hd : digU c = true := digN_dig n c (by rw [hc]; simp)
  have hsp : spU c = false := by
    unfold digU digB at hd
    unfold spU spB
    simp at hd ⊢
    omega
  have hbg : begU c = false := by
    unfold digU digB at hd
    unfold begU begB
    simp at hd ⊢
    omega
  have hrun := runLen_all_then digU (digN n) r (digN_dig n) hr
  have hat : nextAt (digN n ++ r) 0 = 0 := by
    unfold nextAt; rw [List.drop_zero, hc]; simp [runLen, hsp]
  have hlen : 0 < (digN n ++ r).length := by rw [hc]; simp
  constructor
  · unfold nextTk
    rw [hat, if_pos hlen, List.drop_zero]
    have : firstTk (digN n ++ r) = numTk (digN n ++ r) := by
      conv => lhs; rw [hc]
      show (if begU c then _ else if digU c then _ else _) = _
      rw [hbg, hd, hc]; rfl
    rw [this]
    unfold numTk
    rw [hrun, List.take_left, decVal_dig, if_pos (by omega)]
  · unfold nextTo
    rw [hat, if_pos hlen, List.drop_zero, Nat.zero_add]
    have : firstS (digN n ++ r) = runLen digU (digN n ++ r) := by
      conv => lhs; rw [hc]
      show (if begU c then _ else if digU c then _ else _) = _
      rw [hbg, hd, hc]; rfl
    rw [this, hrun]

theorem lx_digits {n : Nat} (hn : n ≤ 9223372036854775807) {r : List UInt8} (hr : ∀ c, r.head? = some c → digU c = false) {L : List Tk} (h : Lx r L) : Lx (digN n ++ r) (⟨3, n, []⟩ :: L) := by
  obtain ⟨h1, h2⟩ := tk_digits n hn r hr
  refine .cons h1 (show (3 : Int) ≠ 0 by decide) ?_
  rw [h2, List.drop_left]
  exact h
end

section
theorem lx_space {r : List UInt8} {L : List Tk} (h : Lx r L) : Lx (32 :: r) L := by
  have ha : nextAt (32 :: r) 0 = nextAt r 0 + 1 := by unfold nextAt; simp [runLen, show spU 32 = true from rfl]
  have hk : nextTk (32 :: r) 0 = nextTk r 0 := by
    unfold nextTk
    rw [ha]
    by_cases hl : nextAt r 0 < r.length
    · rw [if_pos hl, if_pos (by simp; omega)]; rfl
    · rw [if_neg hl, if_neg (by simp; omega)]
  have ht : nextTo (32 :: r) 0 = nextTo r 0 + 1 := by
    unfold nextTo
    rw [ha]
    by_cases hl : nextAt r 0 < r.length
    · rw [if_pos hl, if_pos (by simp; omega), List.drop_succ_cons]; omega
    · rw [if_neg hl, if_neg (by simp; omega)]; simp
  cases h with
  | nil h => exact .nil (hk.trans h)
  | cons e h t => exact .cons (hk.trans e) h (by rw [ht, List.drop_succ_cons]; exact t)

def numToks (a : Int) : List Tk := if a < 0 then [⟨23, 0, []⟩, ⟨3, -a, []⟩] else [⟨3, a, []⟩]

theorem lx_num {a : Int} (ha : Rng a) (hm : ¬ a = -9223372036854775808) {r : List UInt8} (hr : ∀ c, r.head? = some c → digU c = false) {L : List Tk} (h : Lx r L) : Lx (digZ a ++ r) (numToks a ++ L) := by
  unfold Rng at ha
  unfold digZ numToks
  by_cases h0 : a < 0
  · rw [if_pos h0, if_pos h0]
    have hd := lx_digits (n := (-a).toNat) (by omega) hr h
    rw [show (((-a).toNat : Nat) : Int) = -a by omega] at hd
    obtain ⟨c, t, hc⟩ : ∃ c t, digN (-a).toNat = c :: t := by
      cases h : digN (-a).toNat with
      | nil => exact absurd h (digN_ne _)
      | cons c t => exact ⟨c, t, rfl⟩
    rw [hc] at hd ⊢
    exact .cons (k := ⟨23, 0, []⟩) rfl (show (23 : Int) ≠ 0 by decide) hd
  · rw [if_neg h0, if_neg h0]
    have hd := lx_digits (n := a.toNat) (by omega) hr h
    rw [show ((a.toNat : Nat) : Int) = a by omega] at hd
    exact hd

theorem lx_end : Lx [] [] := .nil rfl

/-- v BETWEEN a AND b -/
theorem lx_between {a b : Int} (ha : Rng a) (hma : ¬ a = -9223372036854775808) (hb : Rng b) (hmb : ¬ b = -9223372036854775808) :
    Lx ([118, 32, 66, 69, 84, 87, 69, 69, 78, 32] ++ (digZ a ++ ([32, 65, 78, 68, 32] ++ (digZ b ++ [])))) (⟨2, 0, [118]⟩ :: ⟨10, 0, []⟩ :: (numToks a ++ (⟨5, 0, []⟩ :: (numToks b ++ [])))) := by
  have h1 := lx_num hb hmb (r := []) (fun c h => by cases h) lx_end
  have h2 : Lx ([32, 65, 78, 68, 32] ++ (digZ b ++ [])) (⟨5, 0, []⟩ :: (numToks b ++ [])) :=
    lx_space (.cons (k := ⟨5, 0, []⟩) rfl (show (5 : Int) ≠ 0 by decide) (lx_space h1))
  have h3 := lx_num ha hma (r := [32, 65, 78, 68, 32] ++ (digZ b ++ [])) (fun c h => by simp at h; subst h; rfl) h2
  exact .cons (k := ⟨2, 0, [118]⟩) rfl (show (2 : Int) ≠ 0 by decide) (lx_space (.cons (k := ⟨10, 0, []⟩) rfl (show (10 : Int) ≠ 0 by decide) (lx_space h3)))

def numAst (a : Int) : Ast := if a < 0 then .un ⟨15, 0, 0, [], [], []⟩ (tLeaf 1 (-a) []) else tLeaf 1 a []

set_option maxRecDepth 1000000 in
theorem parse_between (a b : Int) : (tLvl 12).E ⟨⟨2, 0, [118]⟩ :: ⟨10, 0, []⟩ :: (numToks a ++ (⟨5, 0, []⟩ :: (numToks b ++ []))), 0⟩ = .ok (.tri ⟨20, 0, 0, [], [], []⟩ (tLeaf 0 0 [118]) (numAst a) (numAst b)) ⟨[], 0⟩ := by
  unfold numToks numAst
  by_cases ha : a < 0 <;> by_cases hb : b < 0
  · rw [if_pos ha, if_pos ha, if_pos hb, if_pos hb]; kernel_rfl
  · rw [if_pos ha, if_pos ha, if_neg hb, if_neg hb]; kernel_rfl
  · rw [if_neg ha, if_neg ha, if_pos hb, if_pos hb]; kernel_rfl
  · rw [if_neg ha, if_neg ha, if_neg hb, if_neg hb]; kernel_rfl
end

section
/-- The reader of a program: the bytes that are left, and whether a fault was found. -/
structure Ps where
  rest : List UInt8
  bad : Bool

/-- A row of bytes in memory, in a block below lo. -/
def BytesAt (w : World) (lo : Nat) (v : Value) (l : List UInt8) : Prop :=
  ∃ a c, v = .slice a l.length c ∧ l.length ≤ c ∧ ∀ (i : Nat) (x : UInt8), l[i]? = some x → ∃ b o, a = some ⟨b, o, none⟩ ∧ b < lo ∧ w.cell? ⟨b, o + i, none⟩ = some (.int .u8 (x.toNat : Int))

theorem BytesAt.kept {w w' : World} {rb : Nat} {v : Value} {l : List UInt8} (h : BytesAt w rb v l) (hl : rb < w.heap.size) (hk : Kept rb w w') : BytesAt w' rb v l := by
  obtain ⟨a, c, hv, hc, hx⟩ := h
  refine ⟨a, c, hv, hc, fun i x hi => ?_⟩
  obtain ⟨b, o, ha, hb, hcell⟩ := hx i x hi
  exact ⟨b, o, ha, hb, ((kcell hk).1 b (o + i) (by omega) (by omega)).trans hcell⟩

theorem BytesAt.mono {w : World} {lo hi : Nat} {v : Value} {l : List UInt8} (h : BytesAt w lo v l) (hl : lo ≤ hi) : BytesAt w hi v l := by
  obtain ⟨a, c, hv, hc, hx⟩ := h
  refine ⟨a, c, hv, hc, fun i x hi => ?_⟩
  obtain ⟨b, o, ha, hb, hcell⟩ := hx i x hi
  exact ⟨b, o, ha, by omega, hcell⟩

theorem BytesAt.upto {w : World} {rb : Nat} {a : Option Addr} {c m : Nat} {l : List UInt8} (h : BytesAt w rb (.slice a m c) l) (n : Nat) (hn : n ≤ l.length) : BytesAt w rb (.slice a n c) (l.take n) := by
  obtain ⟨a', c', hv, hc, hx⟩ := h
  simp at hv
  obtain ⟨rfl, rfl, rfl⟩ := hv
  refine ⟨a, c, ?_, ?_, fun i x hi => ?_⟩
  · rw [List.length_take, Nat.min_eq_left hn]
  · rw [List.length_take]; omega
  · rw [List.getElem?_take] at hi
    split at hi
    · exact hx i x hi
    · simp at hi

theorem BytesAt.over {w : World} {rb : Nat} {a : Option Addr} {c m : Nat} {l : List UInt8} (h : BytesAt w rb (.slice a m c) l) (n : Nat) (hn : n ≤ l.length) : BytesAt w rb (.slice (if c = n then a else a.map (fun x => x.add n)) (m - n) (c - n)) (l.drop n) := by
  obtain ⟨a', c', hv, hc, hx⟩ := h
  simp at hv
  obtain ⟨rfl, rfl, rfl⟩ := hv
  refine ⟨if c = n then a else a.map (fun x => x.add n), c - n, ?_, ?_, fun i x hi => ?_⟩
  · rw [List.length_drop]
  · rw [List.length_drop]; omega
  · have hi' : l[n + i]? = some x := by rw [List.getElem?_drop] at hi; exact hi
    have hlt := (List.getElem?_eq_some_iff.1 hi').1
    obtain ⟨b, o, rfl, hb, hcell⟩ := hx (n + i) x hi'
    refine ⟨b, o + n, ?_, hb, ?_⟩
    · rw [if_neg (by omega)]; simp [Addr.add]
    · rw [Nat.add_assoc]; exact hcell

/-- The reader lies in a block of its own. -/
structure PsAt (w : World) (rb : Nat) (s : Ps) : Prop where
  lt : rb < w.heap.size
  c0 : ∃ v, w.cell? ⟨rb, 0, none⟩ = some v ∧ BytesAt w rb v s.rest
  c1 : w.cell? ⟨rb, 1, none⟩ = some (.bool s.bad)
  fz : ∀ j, w.frozen? ⟨rb, j, none⟩ = false

theorem BytesAt.nil (w : World) (rb : Nat) : BytesAt w rb (.slice none 0 0) [] := ⟨none, 0, rfl, Nat.le_refl _, fun i x hi => by simp at hi⟩

def failS : Ps := ⟨[], true⟩
def Ps.take (s : Ps) (n : Nat) : List UInt8 × Ps := if n ≤ s.rest.length then (s.rest.take n, ⟨s.rest.drop n, s.bad⟩) else (List.replicate n 0, failS)
def Ps.next (s : Ps) : UInt8 × Ps := ((s.take 1).1.headD 0, (s.take 1).2)
def Ps.upTo (s : Ps) (most : Int) : Nat × Ps := if most < (s.next.1.toNat : Int) then (0, failS) else (s.next.1.toNat, s.next.2)

/-- Another world in which the reader's block and all below it are as they were. -/
theorem PsAt.same {w w' : World} {rb : Nat} {s : Ps} (h : PsAt w rb s) (hz : rb < w'.heap.size) (hb : ∀ k, k ≤ rb → w'.heap[k]? = w.heap[k]?) : PsAt w' rb s := by
  obtain ⟨hl, ⟨v0, c0, a, c, rfl, hc, hx⟩, c1, fz⟩ := h
  have hc' : ∀ b j, b ≤ rb → w'.cell? ⟨b, j, none⟩ = w.cell? ⟨b, j, none⟩ := fun b j hk => World.cell?_of_block (w := w) (w' := w') (a := ⟨b, j, none⟩) (hb b hk)
  have hf' : ∀ b j, b ≤ rb → w'.frozen? ⟨b, j, none⟩ = w.frozen? ⟨b, j, none⟩ := fun b j hk => World.frozen?_of_block (w := w) (w' := w') (a := ⟨b, j, none⟩) (hb b hk)
  refine ⟨hz, ⟨_, (hc' rb 0 (Nat.le_refl _)).trans c0, a, c, rfl, hc, fun i x hi => ?_⟩, (hc' rb 1 (Nat.le_refl _)).trans c1, fun j => (hf' rb j (Nat.le_refl _)).trans (fz j)⟩
  obtain ⟨b, o, ha, hbl, hcell⟩ := hx i x hi
  exact ⟨b, o, ha, hbl, (hc' b _ (by omega)).trans hcell⟩
theorem PsAt.alloc {w : World} {rb : Nat} {s : Ps} (h : PsAt w rb s) (o : Obj) : PsAt (w.alloc o) rb s :=
  h.same (by have := h.lt; simp; omega) fun k hk => ((Below.refl w.heap.size w).alloc (Nat.le_refl _) o).block k (by have := h.lt; omega)
theorem PsAt.later {w : World} {rb : Nat} {s : Ps} (h : PsAt w rb s) {p : Addr} (hp : rb < p.block) (u : Value) : PsAt (w.setCell p u) rb s :=
  h.same (by have := h.lt; simp; omega) fun k hk => Below.heap_setCell w p u k (by omega)

theorem PsAt.set {w : World} {rb : Nat} {s : Ps} (h : PsAt w rb s) {v : Value} {l : List UInt8} (hv : BytesAt w rb v l) : PsAt (w.setCell ⟨rb, 0, none⟩ v) rb ⟨l, s.bad⟩ := by
  obtain ⟨hl, ⟨v0, c0, _⟩, c1, fz⟩ := h
  exact ⟨by simp; exact hl, ⟨v, by simp [go_sem, c0], hv.kept hl ((Kept.refl rb w).setCell 0 v)⟩, by simp [go_sem, c1], fun j => by simp [go_sem, fz]⟩

theorem PsAt.fails {w : World} {rb : Nat} {s : Ps} (h : PsAt w rb s) : PsAt ((w.setCell ⟨rb, 0, none⟩ (.slice none 0 0)).setCell ⟨rb, 1, none⟩ (.bool true)) rb failS := by
  obtain ⟨hl, ⟨v0, c0, _⟩, c1, fz⟩ := h
  exact ⟨by simp; exact hl, ⟨.slice none 0 0, by simp [go_sem, c0], BytesAt.nil _ _⟩, by simp [go_sem, c1, failS], fun j => by simp [go_sem, fz]⟩

set_option maxHeartbeats 400000 in
theorem pfail_any (rb : Nat) (s : Ps) (w : World) (h : PsAt w rb s) :
    Calls Tryz.prog 119 #[.pointer (some ⟨rb, 0, none⟩)] w fun e w' => e = .returned (.tuple #[]) ∧ PsAt w' rb failS ∧ Kept rb w w' := by
  have H := hide h
  obtain ⟨hl, ⟨v0, c0, hv0⟩, c1, fz⟩ := h
  clear hv0
  go_enter Tryz.func119, Tryz.ntmps119
  go_wp2_with fail
  refine bodyPost_end (results_none rfl _ _ _) rfl ⟨rfl, (unhide H).fails, ?_⟩
  exact ((Kept.refl rb w).setCell 0 _).setCell 1 _

set_option maxHeartbeats 400000 in
theorem take_fits (rb : Nat) (s : Ps) (n : Nat) (w : World) (h : PsAt w rb s) (hn : n ≤ s.rest.length) :
    Calls Tryz.prog 171 #[.pointer (some ⟨rb, 0, none⟩), .int .i64 n] w fun e w' => ∃ v, e = .returned v ∧ BytesAt w' w'.heap.size v (s.rest.take n) ∧ PsAt w' rb ⟨s.rest.drop n, s.bad⟩ ∧ Kept rb w w' := by
  have H := hide h
  obtain ⟨hl, ⟨v0, c0, hv0⟩, c1, fz⟩ := h
  obtain ⟨a, c, rfl, hc, hx⟩ : ∃ a c, v0 = .slice a s.rest.length c ∧ s.rest.length ≤ c ∧ Hid (BytesAt w rb v0 s.rest) := by
    obtain ⟨a, c, h1, h2, _⟩ := id hv0
    exact ⟨a, c, h1, h2, hide hv0⟩
  have hn' : decide ((n : Int) > (s.rest.length : Int)) = false := by simp; omega
  have hn2 : (n : Int) ≤ (c : Int) := by omega
  have hn3 : (n : Int) ≤ (s.rest.length : Int) := by omega
  have hn4 : (0 : Int) ≤ (n : Int) := by omega
  clear hv0
  have hk : ∀ u, Kept rb w (w.setCell ⟨rb, 0, none⟩ u) := fun u => (Kept.refl rb w).setCell 0 u
  have ho := (unhide hx).over n hn
  by_cases hcn : c = n
  · rw [if_pos hcn] at ho
    subst hcn
    rw [Nat.sub_self, show s.rest.length - c = 0 by omega] at ho
    have ho := hide ho
    go_enter Tryz.func171, Tryz.ntmps171
    go_wp2_with fail
    go_ret
    exact ⟨_, rfl, (((unhide hx).upto _ hn).kept hl (hk _)).mono (by simp; omega), (unhide H).set (unhide ho), hk _⟩
  · rw [if_neg hcn] at ho
    have ho := hide ho
    go_enter Tryz.func171, Tryz.ntmps171
    go_wp2_with fail
    go_ret
    exact ⟨_, rfl, (((unhide hx).upto n hn).kept hl (hk _)).mono (by simp; omega), (unhide H).set (unhide ho), hk _⟩

theorem info_byte : (Tryz.prog.info? 5).map (fun i => (i.zero, i.size, i.bytes)) = some (some (.int .u8 0), 1, 1) := by kernel_rfl

set_option maxHeartbeats 400000 in
theorem take_lacks (rb : Nat) (s : Ps) (n : Nat) (w : World) (h : PsAt w rb s) (hn : s.rest.length < n) (hz : n ≤ 255) :
    Calls Tryz.prog 171 #[.pointer (some ⟨rb, 0, none⟩), .int .i64 n] w fun e w' => ∃ v, e = .returned v ∧ BytesAt w' w'.heap.size v (List.replicate n 0) ∧ PsAt w' rb failS ∧ Kept rb w w' := by
  have H := hide h
  obtain ⟨hl, ⟨v0, c0, hv0⟩, c1, fz⟩ := h
  obtain ⟨a, c, rfl, hc⟩ : ∃ a c, v0 = .slice a s.rest.length c ∧ s.rest.length ≤ c := by
    obtain ⟨a, c, h1, h2, _⟩ := id hv0
    exact ⟨a, c, h1, h2⟩
  have hn' : decide ((n : Int) > (s.rest.length : Int)) = true := by simp; omega
  clear hv0
  have hmk := run_make_row' (P := Tryz.prog) 51 5 (.int .u8 0) 1 Tryz.underlying51 info_byte rfl .i64 .i64 n (by omega) (by omega)
  go_enter Tryz.func171, Tryz.ntmps171
  go_wp2_with (go_at_call 119; refine (pfail_any rb s _ (unhide H)).mono ?_; rintro e w1 ⟨rfl, hr1, hk1⟩; have hr1 := hide hr1)
  go_ret
  have hz1 := hk1.size
  refine ⟨_, rfl, ⟨some ⟨w1.heap.size, 0, none⟩, n, ?_, ?_, fun i x hi => ?_⟩, (unhide hr1).alloc _, hk1.alloc _⟩
  · rw [List.length_replicate]
    rfl
  · rw [List.length_replicate]; exact Nat.le_refl _
  · obtain ⟨hi1, hi2⟩ := List.getElem?_eq_some_iff.1 hi
    simp at hi1 hi2
    refine ⟨w1.heap.size, 0, rfl, by simp, ?_⟩
    subst hi2
    rw [Nat.zero_add]
    exact (World.rowIs_made w1 (.int .u8 0) n 5).cell hi1

theorem ptake_any (rb : Nat) (s : Ps) (n : Nat) (w : World) (h : PsAt w rb s) (hz : n ≤ 255) :
    Calls Tryz.prog 171 #[.pointer (some ⟨rb, 0, none⟩), .int .i64 n] w fun e w' => ∃ v, e = .returned v ∧ BytesAt w' w'.heap.size v (s.take n).1 ∧ PsAt w' rb (s.take n).2 ∧ Kept rb w w' := by
  by_cases hn : n ≤ s.rest.length
  · rw [Ps.take, if_pos hn]; exact take_fits rb s n w h hn
  · rw [Ps.take, if_neg hn]; exact take_lacks rb s n w h (by omega) hz

theorem Ps.take_length (s : Ps) (n : Nat) : (s.take n).1.length = n := by
  rw [Ps.take]
  split
  · rw [List.length_take]; omega
  · exact List.length_replicate ..

set_option maxHeartbeats 400000 in
theorem pnext_any (rb : Nat) (s : Ps) (w : World) (h : PsAt w rb s) :
    Calls Tryz.prog 118 #[.pointer (some ⟨rb, 0, none⟩)] w fun e w' => e = .returned (.int .u8 (s.next.1.toNat : Int)) ∧ PsAt w' rb s.next.2 ∧ Kept rb w w' := by
  have T : Hid _ := hide (ptake_any rb s 1 w h (by decide))
  have hlen := s.take_length 1
  obtain ⟨x, hx⟩ : ∃ x, (s.take 1).1 = [x] := by
    match hl : (s.take 1).1 with
    | [] => rw [hl] at hlen; simp at hlen
    | [x] => exact ⟨x, rfl⟩
    | _ :: _ :: _ => rw [hl] at hlen; simp at hlen
  have hn1 : s.next.1 = x := by rw [Ps.next, hx]; rfl
  have hn2 : s.next.2 = (s.take 1).2 := rfl
  rw [hn1, hn2]
  rw [hx] at T
  clear h hlen hx hn1 hn2
  go_enter Tryz.func118, Tryz.ntmps118
  go_wp2_with (go_at_call 171; refine (unhide T).mono ?_; rintro e w1 ⟨v, rfl, ⟨a, c, rfl, hc, hcell⟩, hr1, hk1⟩; obtain ⟨b, o, rfl, hbl, hcl⟩ := hcell 0 x rfl; have hr1 := hide hr1; simp only [List.length_singleton, Nat.add_zero] at hcl hc ⊢)
  go_ret
  exact ⟨rfl, unhide hr1, hk1⟩

set_option maxHeartbeats 400000 in
theorem pupTo_any (rb : Nat) (s : Ps) (m : Int) (w : World) (h : PsAt w rb s) :
    Calls Tryz.prog 72 #[.pointer (some ⟨rb, 0, none⟩), .int .i64 m] w fun e w' => e = .returned (.int .i64 ((s.upTo m).1 : Int)) ∧ PsAt w' rb (s.upTo m).2 ∧ Kept rb w w' := by
  have T : Hid _ := hide (pnext_any rb s w h)
  obtain ⟨x, hx⟩ : ∃ x, s.next.1 = x := ⟨_, rfl⟩
  rw [hx] at T
  have hx0 : (0 : Int) ≤ (x.toNat : Int) := by omega
  have hx1 : (x.toNat : Int) < 256 := by have := x.toNat_lt; omega
  clear h
  by_cases hm : m < (x.toNat : Int)
  · have hd : decide ((x.toNat : Int) > m) = true := by simpa using hm
    rw [Ps.upTo, hx, if_pos hm]
    clear hm hx
    go_enter Tryz.func72, Tryz.ntmps72
    go_wp2_with (first | (go_at_call 118; refine (unhide T).mono ?_; rintro e w1 ⟨rfl, hr1, hk1⟩; have hr1 := hide hr1) | (go_at_call 119; refine (pfail_any rb _ _ (unhide hr1)).mono ?_; rintro e w2 ⟨rfl, hr2, hk2⟩; have hr2 := hide hr2))
    go_ret
    exact ⟨rfl, unhide hr2, hk1.trans hk2⟩
  · have hd : decide ((x.toNat : Int) > m) = false := by simpa using hm
    rw [Ps.upTo, hx, if_neg hm]
    clear hm hx
    go_enter Tryz.func72, Tryz.ntmps72
    go_wp2_with (go_at_call 118; refine (unhide T).mono ?_; rintro e w1 ⟨rfl, hr1, hk1⟩; have hr1 := hide hr1)
    go_ret
    exact ⟨rfl, unhide hr1, hk1⟩
end

section
def numS (m : Int) (k : Nat) (x : UInt8) : Int := bits .or .i64 m (wrap64 ((x.toNat : Int) * 2 ^ (8 * k)))
/-- The number that the first k of eight bytes are. -/
def numK (l : List UInt8) : Nat → Int
  | 0 => 0
  | k + 1 => numS (numK l k) k (l.getD k 0)

set_option maxHeartbeats 400000 in
theorem pnumber_any (rb : Nat) (s : Ps) (w : World) (h : PsAt w rb s) :
    Calls Tryz.prog 120 #[.pointer (some ⟨rb, 0, none⟩)] w fun e w' => e = .returned (.int .i64 (numK (s.take 8).1 8)) ∧ PsAt w' rb (s.take 8).2 ∧ Kept rb w w' := by
  have T : Hid _ := hide (ptake_any rb s 8 w h (by decide))
  have hlen := s.take_length 8
  obtain ⟨l, hl⟩ : ∃ l, (s.take 8).1 = l := ⟨_, rfl⟩
  rw [hl] at T hlen ⊢
  clear h hl
  obtain ⟨N, hN⟩ : ∃ N, N = l.length := ⟨_, rfl⟩
  have hN8 : Hid (N = 8) := hide (by omega)
  have hNl : Hid (N = l.length) := hide hN
  clear hlen
  go_enter Tryz.func120, Tryz.ntmps120
  go_wp2_with (go_at_call 171; refine (unhide T).mono ?_; rintro e w1 ⟨v, rfl, ⟨a, c, rfl, hc, hcell⟩, hr1, hk1⟩; obtain ⟨b, o, rfl, hbl, hcl⟩ := hcell 0 (l[0]'(by have := unhide hN8; omega)) (List.getElem?_eq_getElem _); have hr1 := hide hr1; rw [← hN] at hc ⊢; have HC : Hid _ := hide hcell; clear hcell hcl hN)
  go_loop [3, 9] (fun n i => ∃ (k : Nat) (m : Int), k ≤ N ∧ i = .int .i64 k ∧ n = .int .i64 m ∧ Hid (m = numK l k)) (fun _ i => N - (intOf i).toNat)
  case atStart => exact ⟨0, 0, by omega, rfl, rfl, hide rfl⟩
  case round =>
    obtain ⟨k, m, hk, rfl, rfl, hm⟩ := hrel
    by_cases hk8 : k < N
    · have hkl : k < l.length := by have := unhide hNl; omega
      have hk64 : k < 8 := by have := unhide hN8; omega
      obtain ⟨b', o', hbo, _, hcl⟩ := unhide HC k l[k] (List.getElem?_eq_getElem _)
      simp at hbo
      obtain ⟨rfl, rfl⟩ := hbo
      obtain ⟨x, hx⟩ : ∃ x, l[k] = x := ⟨_, rfl⟩
      rw [hx] at hcl
      have hx0 : (0 : Int) ≤ (x.toNat : Int) := by omega
      have hx1 : (x.toNat : Int) < 256 := by have := x.toNat_lt; omega
      have hS : Hid (numS m k x = numK l (k + 1)) := hide (by rw [numK, unhide hm, List.getD_eq_getElem?_getD, List.getElem?_eq_getElem hkl, hx]; rfl)
      clear hx hm hkl hNl
      go_wp2_with fail
      case roundEnd => exact ⟨⟨k + 1, _, by omega, rfl, rfl, hide (unhide hS)⟩, by simp [intOf]; omega⟩
    · have : k = N := by omega
      subst this
      go_wp2_with fail
      go_ret
      refine ⟨?_, unhide hr1, hk1⟩
      rw [← unhide hN8, ← unhide hm]
      rfl
end

section
def Ps.number (s : Ps) : Int × Ps := (numK (s.take 8).1 8, (s.take 8).2)
def Ps.text (s : Ps) (most : Int) : List UInt8 × Ps := (s.upTo most).2.take (s.upTo most).1

theorem Ps.upTo_le (s : Ps) (m : Int) : (s.upTo m).1 ≤ 255 := by
  rw [Ps.upTo]
  have := s.next.1.toNat_lt
  split
  · exact Nat.zero_le _
  · show s.next.1.toNat ≤ 255
    omega

theorem conv_bytes {w : World} {rb : Nat} {v : Value} {l : List UInt8} (h : BytesAt w rb v l) : (convert 51 9 v).run Tryz.prog w = .ok (.string (BS l)) w := by
  obtain ⟨a, c, rfl, hc, hx⟩ := h
  cases l with
  | nil =>
    cases a with
    | none => rw [show ([] : List UInt8).length = 0 from rfl, run_convert_bytes_string w 51 9 5 none 0 c Tryz.underlying51 Tryz.underlying5 Tryz.underlying9]; rfl
    | some a => exact run_convert_bytes_back (P := Tryz.prog) _ 51 9 5 a c [] Tryz.underlying51 Tryz.underlying5 Tryz.underlying9 (fun j hj => by simp at hj)
  | cons x l =>
    obtain ⟨b, o, rfl, _⟩ := hx 0 x rfl
    refine run_convert_bytes_back (P := Tryz.prog) _ 51 9 5 ⟨b, o, none⟩ c (x :: l) Tryz.underlying51 Tryz.underlying5 Tryz.underlying9 (fun j hj => ?_)
    obtain ⟨b', o', hbo, _, hcl⟩ := hx j _ (List.getElem?_eq_getElem hj)
    simp at hbo
    obtain ⟨rfl, rfl⟩ := hbo
    have ha : (⟨b, o, none⟩ : Addr).add j = ⟨b, o + j, none⟩ := by cases j <;> simp [Addr.add]
    rw [ha]; exact hcl

set_option maxHeartbeats 400000 in
theorem ptext_any (rb : Nat) (s : Ps) (m : Int) (w : World) (h : PsAt w rb s) :
    Calls Tryz.prog 121 #[.pointer (some ⟨rb, 0, none⟩), .int .i64 m] w fun e w' => e = .returned (.string (BS (s.text m).1)) ∧ PsAt w' rb (s.text m).2 ∧ Kept rb w w' := by
  have T : Hid _ := hide (pupTo_any rb s m w h)
  have hle : Hid _ := hide (s.upTo_le m)
  rw [Ps.text]
  obtain ⟨p, hp⟩ : ∃ p, s.upTo m = p := ⟨_, rfl⟩
  rw [hp] at T hle ⊢
  obtain ⟨n, s1⟩ := p
  obtain ⟨q, hq⟩ : ∃ q, s1.take n = q := ⟨_, rfl⟩
  have T2 : Hid (∀ w1, PsAt w1 rb s1 → Calls Tryz.prog 171 #[.pointer (some ⟨rb, 0, none⟩), .int .i64 n] w1 fun e w' => ∃ v, e = .returned v ∧ BytesAt w' w'.heap.size v q.1 ∧ PsAt w' rb q.2 ∧ Kept rb w1 w') := hide (by rw [← hq]; exact fun w1 h1 => ptake_any rb s1 n w1 h1 (unhide hle))
  clear h hp hle
  show Calls _ _ _ _ fun e w' => e = .returned (.string (BS (s1.take n).1)) ∧ PsAt w' rb (s1.take n).2 ∧ Kept rb w w'
  rw [hq]
  clear hq
  go_enter Tryz.func121, Tryz.ntmps121
  go_wp2_with (first | (go_at_call 72; refine (unhide T).mono ?_; rintro e w1 ⟨rfl, hr1, hk1⟩; have hr1 := hide hr1) | (go_at_call 171; refine (unhide T2 _ (unhide hr1)).mono ?_; rintro e w2 ⟨v, rfl, hb2, hr2, hk2⟩; have hr2 := hide hr2; have hcv := conv_bytes hb2; obtain ⟨a, c, rfl, hb2⟩ := hb2; clear hb2))
  go_ret
  exact ⟨rfl, unhide hr2, hk1.trans hk2⟩
end

section
structure Tm where
  op : Nat
  left : Nat
  right : Nat
  num : Int
  str : List UInt8
  esc : List UInt8

def Tm.bare (op : Nat) : Tm := ⟨op, 0, 0, 0, [], []⟩
def tmCells (t : Tm) : List Value := [.int .i64 t.op, .int .i64 t.left, .int .i64 t.right, .int .i64 t.num, .string (BS t.str), .string (BS t.esc)]
def tmV (t : Tm) : Value := .agg #[.int .i64 t.op, .int .i64 t.left, .int .i64 t.right, .int .i64 t.num, .string (BS t.str), .string (BS t.esc)]

def isPair (op : Nat) : Bool := op == 6 || op == 7 || op == 8 || op == 10 || op == 11 || op == 16 || op == 17 || op == 18 || op == 19

/-- The rest of a term, when its operator is known. -/
def Ps.body (s : Ps) (pl : Nat) (op : Nat) : Tm × Ps :=
  if op = 3 ∨ op = 4 then (.bare op, s)
  else if op = 1 then (⟨op, 0, 0, s.number.1, [], []⟩, s.number.2)
  else if op = 22 then (⟨op, (s.upTo ((pl : Int) - 1)).1, 0, 0, (((s.upTo ((pl : Int) - 1)).2.text 1).2.text 200).1, ((s.upTo ((pl : Int) - 1)).2.text 1).1⟩, (((s.upTo ((pl : Int) - 1)).2.text 1).2.text 200).2)
  else if op = 0 ∨ op = 2 then (⟨op, 0, 0, 0, (s.text 200).1, []⟩, (s.text 200).2)
  else if isPair op then (⟨op, ((s.upTo ((pl : Int) - 1)).2.upTo ((pl : Int) - 1)).1, (s.upTo ((pl : Int) - 1)).1, 0, [], []⟩, ((s.upTo ((pl : Int) - 1)).2.upTo ((pl : Int) - 1)).2)
  else if op = 5 ∨ op = 23 then (⟨op, (s.upTo ((pl : Int) - 1)).1, 0, 0, [], []⟩, (s.upTo ((pl : Int) - 1)).2)
  else (.bare op, failS)
def Ps.term (s : Ps) (pl : Nat) : Tm × Ps := s.next.2.body pl s.next.1.toNat

/-- A term in a block of its own. -/
structure TmAt (w : World) (b : Nat) (t : Tm) : Prop where
  lt : b < w.heap.size
  c0 : w.cell? ⟨b, 0, none⟩ = some (.int .i64 t.op)
  c1 : w.cell? ⟨b, 1, none⟩ = some (.int .i64 t.left)
  c2 : w.cell? ⟨b, 2, none⟩ = some (.int .i64 t.right)
  c3 : w.cell? ⟨b, 3, none⟩ = some (.int .i64 t.num)
  c4 : w.cell? ⟨b, 4, none⟩ = some (.string (BS t.str))
  c5 : w.cell? ⟨b, 5, none⟩ = some (.string (BS t.esc))
  fz : ∀ j, w.frozen? ⟨b, j, none⟩ = false

theorem TmAt.same {w w' : World} {b : Nat} {t : Tm} (h : TmAt w b t) (hz : b < w'.heap.size) (hb : w'.heap[b]? = w.heap[b]?) : TmAt w' b t := by
  have hc : ∀ j, w'.cell? ⟨b, j, none⟩ = w.cell? ⟨b, j, none⟩ := fun j => World.cell?_of_block (w := w) (w' := w') (a := ⟨b, j, none⟩) hb
  have hf : ∀ j, w'.frozen? ⟨b, j, none⟩ = w.frozen? ⟨b, j, none⟩ := fun j => World.frozen?_of_block (w := w) (w' := w') (a := ⟨b, j, none⟩) hb
  exact ⟨hz, (hc 0).trans h.c0, (hc 1).trans h.c1, (hc 2).trans h.c2, (hc 3).trans h.c3, (hc 4).trans h.c4, (hc 5).trans h.c5, fun j => (hf j).trans (h.fz j)⟩
theorem TmAt.kept {w w' : World} {b rb : Nat} {t : Tm} (h : TmAt w b t) (hk : Kept rb w w') (hn : ¬ b = rb) : TmAt w' b t :=
  h.same (Nat.lt_of_lt_of_le h.lt hk.size) (hk.block b h.lt hn)
theorem TmAt.alloc {w : World} {b : Nat} {t : Tm} (h : TmAt w b t) (o : Obj) : TmAt (w.alloc o) b t :=
  h.same (by have := h.lt; simp; omega) (((Below.refl w.heap.size w).alloc (Nat.le_refl _) o).block b h.lt)
theorem TmAt.other {w : World} {b : Nat} {t : Tm} (h : TmAt w b t) {p : Addr} (hp : ¬ p.block = b) (u : Value) : TmAt (w.setCell p u) b t :=
  h.same (by have := h.lt; simp; omega) (Below.heap_setCell w p u b (by omega))
theorem TmAt.new (w : World) (n : Nat) (ty : TypeId) : TmAt (w.alloc (.cells #[.int .i64 n, .int .i64 0, .int .i64 0, .int .i64 0, .string ⟨#[]⟩, .string ⟨#[]⟩] ty)) w.heap.size (.bare n) := by
  refine ⟨by simp, ?_, ?_, ?_, ?_, ?_, ?_, fun j => ?_⟩ <;> simp [go_sem, Tm.bare] <;> rfl
theorem TmAt.left' {w : World} {b : Nat} {t : Tm} (h : TmAt w b t) (n : Nat) : TmAt (w.setCell ⟨b, 1, none⟩ (.int .i64 n)) b { t with left := n } := by
  obtain ⟨hl, c0, c1, c2, c3, c4, c5, fz⟩ := h
  exact ⟨by simp; omega, by simp [go_sem, c0], by simp [go_sem, c1], by simp [go_sem, c2], by simp [go_sem, c3], by simp [go_sem, c4], by simp [go_sem, c5], fun j => by simp [go_sem, fz]⟩
theorem TmAt.right' {w : World} {b : Nat} {t : Tm} (h : TmAt w b t) (n : Nat) : TmAt (w.setCell ⟨b, 2, none⟩ (.int .i64 n)) b { t with right := n } := by
  obtain ⟨hl, c0, c1, c2, c3, c4, c5, fz⟩ := h
  exact ⟨by simp; omega, by simp [go_sem, c0], by simp [go_sem, c1], by simp [go_sem, c2], by simp [go_sem, c3], by simp [go_sem, c4], by simp [go_sem, c5], fun j => by simp [go_sem, fz]⟩
theorem TmAt.esc' {w : World} {b : Nat} {t : Tm} (h : TmAt w b t) (l : List UInt8) : TmAt (w.setCell ⟨b, 5, none⟩ (.string (BS l))) b { t with esc := l } := by
  obtain ⟨hl, c0, c1, c2, c3, c4, c5, fz⟩ := h
  exact ⟨by simp; omega, by simp [go_sem, c0], by simp [go_sem, c1], by simp [go_sem, c2], by simp [go_sem, c3], by simp [go_sem, c4], by simp [go_sem, c5], fun j => by simp [go_sem, fz]⟩

def TermEnds (rb : Nat) (w : World) (r : Tm × Ps) (e : Ending) (w' : World) : Prop := e = .returned (tmV r.1) ∧ PsAt w' rb r.2 ∧ Kept rb w w'

theorem TmAt.full {w : World} {b : Nat} {t0 : Tm} (h : TmAt w b t0) (t : Tm) {v0 v1 v2 v3 v4 v5 : Value} (h0 : v0 = .int .i64 t.op) (h1 : v1 = .int .i64 t.left) (h2 : v2 = .int .i64 t.right) (h3 : v3 = .int .i64 t.num) (h4 : v4 = .string (BS t.str)) (h5 : v5 = .string (BS t.esc)) :
    TmAt ((((((w.setCell ⟨b, 0, none⟩ v0).setCell ⟨b, 1, none⟩ v1).setCell ⟨b, 2, none⟩ v2).setCell ⟨b, 3, none⟩ v3).setCell ⟨b, 4, none⟩ v4).setCell ⟨b, 5, none⟩ v5) b t := by
  subst h0 h1 h2 h3 h4 h5
  obtain ⟨hl, c0, c1, c2, c3, c4, c5, fz⟩ := h
  exact ⟨by simp; omega, by simp [go_sem, c0], by simp [go_sem, c1], by simp [go_sem, c2], by simp [go_sem, c3], by simp [go_sem, c4], by simp [go_sem, c5], fun j => by simp [go_sem, fz]⟩

theorem results_tm {W : World} {A : Nat} {t : Tm} (h : TmAt W A t) (a : Array Value) (ha : a.getD 4 undef = .pointer (some ⟨A, 0, none⟩)) : (results Tryz.f73 a).run Tryz.prog W = .ok (tmV t) W := by
  obtain ⟨hl, c0, c1, c2, c3, c4, c5, fz⟩ := h
  have ha' : a[4]?.getD undef = .pointer (some ⟨A, 0, none⟩) := by simpa using ha
  simp [results, Tryz.results73, go_sem, ha', c0, c1, c2, c3, c4, c5, tmV]

/-- A term's end: six stores into the result's block, and the reading of it. -/
theorem term_ends {rb A : Nat} {w W : World} {t0 : Tm} {r : Tm × Ps} {a : Act} {v0 v1 v2 v3 v4 v5 : Value} (hA : TmAt W A t0) (hP : PsAt W rb r.2) (hK : Kept rb w W) (hrA : rb < A) (hwA : w.heap.size ≤ A) (ha : a.tmps.getD 4 undef = .pointer (some ⟨A, 0, none⟩)) (hd : a.defers = [])
    (h0 : v0 = .int .i64 r.1.op) (h1 : v1 = .int .i64 r.1.left) (h2 : v2 = .int .i64 r.1.right) (h3 : v3 = .int .i64 r.1.num) (h4 : v4 = .string (BS r.1.str)) (h5 : v5 = .string (BS r.1.esc)) :
    bodyPost Tryz.prog Tryz.f73 (TermEnds rb w r) Exit.ret a ((((((W.setCell ⟨A, 0, none⟩ v0).setCell ⟨A, 1, none⟩ v1).setCell ⟨A, 2, none⟩ v2).setCell ⟨A, 3, none⟩ v3).setCell ⟨A, 4, none⟩ v4).setCell ⟨A, 5, none⟩ v5) :=
  bodyPost_ret (results_tm (hA.full r.1 h0 h1 h2 h3 h4 h5) _ ha) hd ⟨rfl, ((((((hP.later hrA _).later hrA _).later hrA _).later hrA _).later hrA _).later hrA _), ((((((hK.later hwA _).later hwA _).later hwA _).later hwA _).later hwA _).later hwA _)⟩
theorem term_ends' {rb A : Nat} {w W : World} {t0 : Tm} {r : Tm × Ps} {a : Act} {v0 v1 v2 v3 v4 v5 : Value} {o : Obj} (hA : TmAt W A t0) (hP : PsAt W rb r.2) (hK : Kept rb w W) (hrA : rb < A) (hwA : w.heap.size ≤ A) (ha : a.tmps.getD 4 undef = .pointer (some ⟨A, 0, none⟩)) (hd : a.defers = [])
    (h0 : v0 = .int .i64 r.1.op) (h1 : v1 = .int .i64 r.1.left) (h2 : v2 = .int .i64 r.1.right) (h3 : v3 = .int .i64 r.1.num) (h4 : v4 = .string (BS r.1.str)) (h5 : v5 = .string (BS r.1.esc)) :
    bodyPost Tryz.prog Tryz.f73 (TermEnds rb w r) Exit.ret a (((((((W.setCell ⟨A, 0, none⟩ v0).setCell ⟨A, 1, none⟩ v1).setCell ⟨A, 2, none⟩ v2).setCell ⟨A, 3, none⟩ v3).setCell ⟨A, 4, none⟩ v4).setCell ⟨A, 5, none⟩ v5).alloc o) :=
  bodyPost_ret (results_tm ((hA.full r.1 h0 h1 h2 h3 h4 h5).alloc o) _ ha) hd ⟨rfl, ((((((hP.later hrA _).later hrA _).later hrA _).later hrA _).later hrA _).later hrA _).alloc o, ((((((hK.later hwA _).later hwA _).later hwA _).later hwA _).later hwA _).later hwA _).alloc o⟩
end

end Go.Proofs.YtfkcaldjphakpaaGreatDoor
