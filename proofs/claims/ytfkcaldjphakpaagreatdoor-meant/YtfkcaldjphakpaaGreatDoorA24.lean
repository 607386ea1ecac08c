/- The operators of a core's pairs. A core as a term again: its class, its core, and what it is of an event. A core is of every event what the term is. A core's text, by its tokens. A core's text, read again. What a canonical text is read as, and what it is of an event. Eval of any text and any list of properties. small, is of any text and list, reads. What the walk through Logic leans on. A list of properties as an argument of a law. -/
import Derived.Test.YtfkcaldjphakpaaGreatDoorA20
import Derived.Test.YtfkcaldjphakpaaGreatDoorA10
import Derived.Test.YtfkcaldjphakpaaGreatDoorA23
import Derived.Test.YtfkcaldjphakpaaGreatDoorA25
import Derived.Test.YtfkcaldjphakpaaGreatDoorA19
import Derived.Test.YtfkcaldjphakpaaGreatDoorA16
import Derived.WalkKit
import Derived.ProofKit
import Derived.Deep.Slices
import Derived.Deep.Strs
import Derived.SizedLaws
import Derived.WideKeyArgs
import Derived.Laws.Rows
namespace Go.Proofs.YtfkcaldjphakpaaGreatDoor
open Go.RowKit

section
def BinP (op : Int) : Prop := op = 6 ∨ op = 7 ∨ op = 8 ∨ op = 10 ∨ op = 11 ∨ 16 ≤ op ∧ op ≤ 19
/-- A core's pairs have the operators of pairs. -/
def BinsC : Co → Prop
  | .leaf _ => True
  | .un _ x => BinsC x
  | .bin p x y => BinP p.op ∧ BinsC x ∧ BinsC y
theorem bins_pair {op : Int} (ho : BinP op) {x y : Co} (hx : BinsC x) (hy : BinsC y) : BinsC (pairC op x y) := by
  unfold pairC
  split
  · exact ⟨ho, hy, hx⟩
  · exact ⟨ho, hx, hy⟩
theorem bins_not : ∀ {c : Co}, BinsC c → BinsC (notC c) := by
  intro c
  induction c with
  | leaf p =>
    intro h
    unfold notC
    split
    · trivial
    · split <;> trivial
  | un p x ih =>
    intro h
    unfold notC
    split <;> exact h
  | bin p x y ihx ihy =>
    intro h
    unfold notC
    split
    · exact bins_pair (by unfold BinP; omega) (ihx h.2.1) (ihy h.2.2)
    · split
      · exact bins_pair (by unfold BinP; omega) (ihx h.2.1) (ihy h.2.2)
      · split
        · exact bins_pair (by unfold BinP; omega) h.2.2 h.2.1
        · split
          · exact bins_pair (by unfold BinP; omega) h.2.2 h.2.1
          · exact h
theorem bins_orAll {x : Co} (hx : BinsC x) : ∀ (r : List (List UInt8)) (f : Co), BinsC f → BinsC (orAll x f r) := by
  intro r
  induction r with
  | nil => intro f hf; exact hf
  | cons t r ih => intro f hf; exact ih _ (bins_pair (by unfold BinP; omega) hf (bins_pair (by unfold BinP; omega) hx trivial))
theorem bins_among {x : Co} (hx : BinsC x) (ts : List (List UInt8)) : BinsC (amongC x ts) := by
  unfold amongC
  cases sortT ts with
  | nil => exact hx
  | cons t r => exact bins_orAll hx r _ (bins_pair (by unfold BinP; omega) hx trivial)
theorem bins_core : ∀ t, ShA t → BinsC (coreA t) := by
  intro t
  induction t with
  | leaf p => intro _; trivial
  | un p x ih =>
    intro h0
    have hx := ih h0.2.2.2
    rw [coreA]
    split
    · exact bins_pair (by unfold BinP; omega) trivial hx
    · split
      · exact bins_pair (by unfold BinP; omega) trivial hx
      · split
        · exact bins_not hx
        · split
          · exact bins_among hx _
          · exact hx
  | bin p x y ihx ihy =>
    intro h0
    have hx := ihx h0.2.1
    have hy := ihy h0.2.2
    rw [coreA]
    split
    · exact bins_pair (by unfold BinP; omega) hy hx
    · split
      · exact bins_pair (by unfold BinP; omega) hy hx
      · split
        · exact bins_not (bins_pair (by unfold BinP; omega) hx hy)
        · rename_i h1 h2 h3
          simp only [beq_iff_eq] at h1 h2 h3
          exact bins_pair (by have := h0.1; unfold BinP; omega) hx hy
  | tri p x y z ihx ihy ihz =>
    intro h0
    exact bins_pair (by unfold BinP; omega) (bins_pair (by unfold BinP; omega) (ihy h0.2.2.1) (ihx h0.2.1)) (bins_pair (by unfold BinP; omega) (ihx h0.2.1) (ihz h0.2.2.2))
end

section
def embP (p : CP) : Pay := ⟨p.op, 0, p.num, p.str, p.esc, []⟩
/-- The term that a core's text is read as, but for the places. -/
def emb : Co → Ast
  | .leaf p => .leaf (embP p)
  | .un p x => .un (embP p) (emb x)
  | .bin p x y => .bin (embP p) (emb x) (emb y)

theorem core_bin {op : Int} (ho : BinP op) (u v : Ast) : coreA (.bin (embP (plainP' op)) u v) = pairC op (coreA u) (coreA v) := by
  have h12 : (op == 12) = false := by unfold BinP at ho; simp; omega
  have h13 : (op == 13) = false := by unfold BinP at ho; simp; omega
  have h9 : (op == 9) = false := by unfold BinP at ho; simp; omega
  simp [coreA, embP, plainP', h12, h13, h9]
theorem core_not (u : Ast) : coreA (.un (embP (plainP' 5)) u) = notC (coreA u) := by simp [coreA, embP, plainP']
theorem less_asymm {x y : List UInt8} (h : Op.bytesLess x y = true) : Op.bytesLess y x = false := by
  induction x generalizing y with
  | nil => cases y <;> simp [Op.bytesLess] at h ⊢
  | cons a x ih =>
    cases y with
    | nil => simp [Op.bytesLess] at h
    | cons b y =>
      simp only [Op.bytesLess, Bool.or_eq_true, Bool.and_eq_true, decide_eq_true_eq, beq_iff_eq, Bool.or_eq_false_iff, Bool.and_eq_false_iff, decide_eq_false_iff_not] at h ⊢
      rcases h with h | ⟨rfl, h⟩
      · exact ⟨fun e => UInt8.lt_irrefl _ (UInt8.lt_trans h e), .inl (by simp; rintro rfl; exact UInt8.lt_irrefl _ h)⟩
      · exact ⟨UInt8.lt_irrefl _, .inr (ih h)⟩

/-- A core whose text's core it is, and all its parts. -/
def FX : Co → Prop
  | .leaf _ => True
  | .un p x => FX x ∧ coreA (emb (.un p x)) = .un p x
  | .bin p x y => FX x ∧ FX y ∧ coreA (emb (.bin p x y)) = .bin p x y
theorem FX.eq {c : Co} (h : FX c) : coreA (emb c) = c := by
  cases c with
  | leaf p => rfl
  | un p x => exact h.2
  | bin p x y => exact h.2.2
theorem pair_pair (op : Int) (x y : Co) : (∃ a b, pairC op x y = .bin (plainP' op) a b ∧ pairC op a b = .bin (plainP' op) a b ∧ (a = x ∧ b = y ∨ a = y ∧ b = x)) := by
  by_cases h : (eitherB op && Op.bytesLess (spell y) (spell x)) = true
  · refine ⟨y, x, by unfold pairC; rw [if_pos h], ?_, .inr ⟨rfl, rfl⟩⟩
    simp only [Bool.and_eq_true] at h
    unfold pairC
    rw [if_neg (by rw [less_asymm h.2]; simp)]
  · exact ⟨x, y, by unfold pairC; rw [if_neg h], by unfold pairC; rw [if_neg h], .inl ⟨rfl, rfl⟩⟩
theorem fx_pair {op : Int} (ho : BinP op) {x y : Co} (hx : FX x) (hy : FX y) : FX (pairC op x y) := by
  obtain ⟨a, b, e, e2, h⟩ := pair_pair op x y
  rw [e]
  have key : ∀ {a b : Co}, FX a → FX b → pairC op a b = .bin (plainP' op) a b → FX (.bin (plainP' op) a b) := fun {a b} ha hb e => ⟨ha, hb, by show coreA (.bin (embP (plainP' op)) (emb a) (emb b)) = _; rw [core_bin ho, ha.eq, hb.eq, e]⟩
  rcases h with ⟨rfl, rfl⟩ | ⟨rfl, rfl⟩
  · exact key hx hy e2
  · exact key hy hx e2
theorem fx_un5 {c : Co} (h : FX c) (e : notC c = .un (plainP' 5) c) : FX (.un (plainP' 5) c) := ⟨h, by show coreA (.un (embP (plainP' 5)) (emb c)) = _; rw [core_not, h.eq, e]⟩
theorem fx_not : ∀ {c : Co}, FX c → FX (notC c) := by
  intro c
  induction c with
  | leaf p =>
    intro h
    by_cases h3 : (p.op == 3) = true
    · have e : notC (.leaf p) = .leaf (plainP' 4) := by unfold notC; rw [if_pos h3]
      rw [e]; trivial
    · by_cases h4 : (p.op == 4) = true
      · have e : notC (.leaf p) = .leaf (plainP' 3) := by unfold notC; rw [if_neg h3, if_pos h4]
        rw [e]; trivial
      · have e : notC (.leaf p) = .un (plainP' 5) (.leaf p) := by unfold notC; rw [if_neg h3, if_neg h4]
        rw [e]
        exact fx_un5 h e
  | un p x ih =>
    intro h
    by_cases h5 : (p.op == 5 && opC x != 0) = true
    · have e : notC (.un p x) = x := by unfold notC; rw [if_pos h5]
      rw [e]
      exact h.1
    · have e : notC (.un p x) = .un (plainP' 5) (.un p x) := by unfold notC; rw [if_neg h5]
      rw [e]
      exact fx_un5 h e
  | bin p x y ihx ihy =>
    intro h
    by_cases h6 : (p.op == 6) = true
    · have e : notC (.bin p x y) = pairC 7 (notC x) (notC y) := by rw [notC, if_pos h6]
      rw [e]
      exact fx_pair (by unfold BinP; omega) (ihx h.1) (ihy h.2.1)
    · by_cases h7 : (p.op == 7) = true
      · have e : notC (.bin p x y) = pairC 6 (notC x) (notC y) := by rw [notC, if_neg h6, if_pos h7]
        rw [e]
        exact fx_pair (by unfold BinP; omega) (ihx h.1) (ihy h.2.1)
      · by_cases h10 : (p.op == 10) = true
        · have e : notC (.bin p x y) = pairC 11 y x := by rw [notC, if_neg h6, if_neg h7, if_pos h10]
          rw [e]
          exact fx_pair (by unfold BinP; omega) h.2.1 h.1
        · by_cases h11 : (p.op == 11) = true
          · have e : notC (.bin p x y) = pairC 10 y x := by rw [notC, if_neg h6, if_neg h7, if_neg h10, if_pos h11]
            rw [e]
            exact fx_pair (by unfold BinP; omega) h.2.1 h.1
          · have e : notC (.bin p x y) = .un (plainP' 5) (.bin p x y) := by rw [notC, if_neg h6, if_neg h7, if_neg h10, if_neg h11]
            rw [e]
            exact fx_un5 h e
theorem fx_orAll {x : Co} (hx : FX x) : ∀ (r : List (List UInt8)) (f : Co), FX f → FX (orAll x f r) := by
  intro r
  induction r with
  | nil => intro f hf; exact hf
  | cons t r ih => intro f hf; exact ih _ (fx_pair (by unfold BinP; omega) hf (fx_pair (by unfold BinP; omega) hx trivial))
theorem fx_among {x : Co} (hx : FX x) (ts : List (List UInt8)) : FX (amongC x ts) := by
  unfold amongC
  cases sortT ts with
  | nil => exact hx
  | cons t r => exact fx_orAll hx r _ (fx_pair (by unfold BinP; omega) hx trivial)
theorem fx_core : ∀ t, ShA t → FX (coreA t) := by
  intro t
  induction t with
  | leaf p => intro _; trivial
  | un p x ih =>
    intro h0
    have hx := ih h0.2.2.2
    have ho := h0.1
    by_cases h14 : p.op = 14
    · simp [coreA, h14]; exact fx_pair (by unfold BinP; omega) trivial hx
    by_cases h15 : p.op = 15
    · simp [coreA, h15]; exact fx_pair (by unfold BinP; omega) trivial hx
    by_cases h5 : p.op = 5
    · simp [coreA, h5]; exact fx_not hx
    by_cases h21 : p.op = 21
    · simp [coreA, h21]; exact fx_among hx _
    simp [coreA, h14, h15, h5, h21]
    refine ⟨hx, ?_⟩
    show coreA (.un (embP (cpOf p)) (emb (coreA x))) = _
    simp [coreA, embP, cpOf, h14, h15, h5, h21, hx.eq]
  | bin p x y ihx ihy =>
    intro h0
    have hx := ihx h0.2.1
    have hy := ihy h0.2.2
    have ho := h0.1
    by_cases h12 : p.op = 12
    · simp [coreA, h12]; exact fx_pair (by unfold BinP; omega) hy hx
    by_cases h13 : p.op = 13
    · simp [coreA, h13]; exact fx_pair (by unfold BinP; omega) hy hx
    by_cases h9 : p.op = 9
    · simp [coreA, h9]; exact fx_not (fx_pair (by unfold BinP; omega) hx hy)
    simp [coreA, h12, h13, h9]
    exact fx_pair (by unfold BinP; omega) hx hy
  | tri p x y z ihx ihy ihz =>
    intro h0
    exact fx_pair (by unfold BinP; omega) (fx_pair (by unfold BinP; omega) (ihy h0.2.2.1) (ihx h0.2.1)) (fx_pair (by unfold BinP; omega) (ihx h0.2.1) (ihz h0.2.2.2))

/-- Classes of a core. -/
def ClC (c : Co) (k : Int) : Prop := clsA (emb c) = .ok k
theorem dem_two {want pl a b : Int} (ha : a = want ∨ a = 0) (hb : b = want ∨ b = 0) : dem want pl [.ok a, .ok b] true = none := by
  have e1 : (a == want || a == 0) = true := by simpa using ha
  have e2 : (b == want || b == 0) = true := by simpa using hb
  simp [dem, e1, e2]
theorem clc_logic {op : Int} (ho : op = 6 ∨ op = 7) {x y : Co} {a b : Int} (hx : ClC x a) (hy : ClC y b) (ha : a = 3 ∨ a = 0) (hb : b = 3 ∨ b = 0) : ClC (pairC op x y) 3 := by
  obtain ⟨u, v, e, _, h⟩ := pair_pair op x y
  have key : ∀ {u v : Co} {a b : Int}, ClC u a → ClC v b → (a = 3 ∨ a = 0) → (b = 3 ∨ b = 0) → ClC (.bin (plainP' op) u v) 3 := by
    intro u v a b hu hv ha hb
    show clsOf op 0 [clsA (emb u), clsA (emb v)] = .ok 3
    rw [show clsA (emb u) = .ok a from hu, show clsA (emb v) = .ok b from hv]
    rcases ho with rfl | rfl <;> simp [clsOf, demR, dem_two ha hb]
  rw [e]
  rcases h with ⟨rfl, rfl⟩ | ⟨rfl, rfl⟩
  · exact key hx hy ha hb
  · exact key hy hx hb ha
theorem clc_less {op : Int} (ho : op = 10 ∨ op = 11) {x y : Co} {a b : Int} (hx : ClC x a) (hy : ClC y b) (ha : a = 1 ∨ a = 0) (hb : b = 1 ∨ b = 0) : ClC (pairC op x y) 3 := by
  obtain ⟨u, v, e, _, h⟩ := pair_pair op x y
  have key : ∀ {u v : Co} {a b : Int}, ClC u a → ClC v b → (a = 1 ∨ a = 0) → (b = 1 ∨ b = 0) → ClC (.bin (plainP' op) u v) 3 := by
    intro u v a b hu hv ha hb
    show clsOf op 0 [clsA (emb u), clsA (emb v)] = .ok 3
    rw [show clsA (emb u) = .ok a from hu, show clsA (emb v) = .ok b from hv]
    rcases ho with rfl | rfl <;> simp [clsOf, demR, dem_two ha hb]
  rw [e]
  rcases h with ⟨rfl, rfl⟩ | ⟨rfl, rfl⟩
  · exact key hx hy ha hb
  · exact key hy hx hb ha
theorem clc_sum {op : Int} (ho : 16 ≤ op ∧ op ≤ 19) {x y : Co} {a b : Int} (hx : ClC x a) (hy : ClC y b) (ha : a = 1 ∨ a = 0) (hb : b = 1 ∨ b = 0) : ClC (pairC op x y) 1 := by
  obtain ⟨u, v, e, _, h⟩ := pair_pair op x y
  have key : ∀ {u v : Co} {a b : Int}, ClC u a → ClC v b → (a = 1 ∨ a = 0) → (b = 1 ∨ b = 0) → ClC (.bin (plainP' op) u v) 1 := by
    intro u v a b hu hv ha hb
    show clsOf op 0 [clsA (emb u), clsA (emb v)] = .ok 1
    rw [show clsA (emb u) = .ok a from hu, show clsA (emb v) = .ok b from hv]
    have : op = 16 ∨ op = 17 ∨ op = 18 ∨ op = 19 := by omega
    rcases this with rfl | rfl | rfl | rfl <;> simp [clsOf, demR, dem_two ha hb]
  rw [e]
  rcases h with ⟨rfl, rfl⟩ | ⟨rfl, rfl⟩
  · exact key hx hy ha hb
  · exact key hy hx hb ha
theorem clc_eq {x y : Co} {a b : Int} (hx : ClC x a) (hy : ClC y b) (hab : a = b ∨ a = 0 ∨ b = 0) : ClC (pairC 8 x y) 3 := by
  obtain ⟨u, v, e, _, h⟩ := pair_pair 8 x y
  have key : ∀ {u v : Co} {a b : Int}, ClC u a → ClC v b → (a = b ∨ a = 0 ∨ b = 0) → ClC (.bin (plainP' 8) u v) 3 := by
    intro u v a b hu hv hab
    show clsOf 8 0 [clsA (emb u), clsA (emb v)] = .ok 3
    rw [show clsA (emb u) = .ok a from hu, show clsA (emb v) = .ok b from hv]
    have : (a != b && a != 0 && b != 0) = false := by
      rcases hab with rfl | rfl | rfl <;> simp
    simp [clsOf, alikeR, this]
  rw [e]
  rcases h with ⟨rfl, rfl⟩ | ⟨rfl, rfl⟩
  · exact key hx hy hab
  · exact key hy hx (by rcases hab with h | h | h <;> simp [h])
theorem clc_un5 {c : Co} {k : Int} (h : ClC c k) (hk : k = 3 ∨ k = 0) : ClC (.un (plainP' 5) c) 3 := by
  show clsOf 5 0 [clsA (emb c)] = .ok 3
  rw [show clsA (emb c) = .ok k from h]
  have e1 : (k == 3 || k == 0) = true := by simpa using hk
  simp [clsOf, demR, dem, e1]
/-- The sides of a term whose class is right. -/
theorem clc_side {p : CP} {x y : Co} {k want : Int} (h : ClC (.bin p x y) k) (hw : (p.op = 6 ∨ p.op = 7) ∧ want = 3 ∨ (p.op = 10 ∨ p.op = 11) ∧ want = 1) : (∃ a, ClC x a ∧ (a = want ∨ a = 0)) ∧ ∃ b, ClC y b ∧ (b = want ∨ b = 0) := by
  have h' : clsOf p.op 0 [clsA (emb x), clsA (emb y)] = .ok k := h
  have hd : ∃ c, demR want 0 c [clsA (emb x), clsA (emb y)] = .ok k := by
    rcases hw with ⟨ho, rfl⟩ | ⟨ho, rfl⟩
    · rcases ho with ho | ho <;> (rw [ho] at h'; exact ⟨3, by simpa [clsOf] using h'⟩)
    · rcases ho with ho | ho <;> (rw [ho] at h'; exact ⟨3, by simpa [clsOf] using h'⟩)
  obtain ⟨c, hd⟩ := hd
  have := demR_ok hd
  obtain ⟨a, e1, h1⟩ := this (clsA (emb x)) (by simp)
  obtain ⟨b, e2, h2⟩ := this (clsA (emb y)) (by simp)
  exact ⟨⟨a, e1, h1⟩, b, e2, h2⟩
theorem demR_val {want pl c k : Int} {rs : List CRes} (h : demR want pl c rs = .ok k) : k = c := by
  unfold demR at h
  split at h
  · injection h with h; exact h.symm
  · cases h
theorem clsOf_op {op pl k : Int} {rs : List CRes} (h : clsOf op pl rs = .ok k) (h0 : op ≠ 0) : k ≠ 0 := by
  unfold clsOf at h
  simp only [beq_eq_false_iff_ne.2 h0] at h
  repeat' split at h
  all_goals first
    | contradiction
    | (injection h with h; omega)
    | (have := demR_val h; omega)
    | (rename_i a b; unfold alikeR at h; split at h; cases h; cases h; split at h; cases h; injection h with h; omega)
    | skip
theorem clc_not : ∀ {c : Co} {k : Int}, ClC c k → (k = 3 ∨ k = 0) → ClC (notC c) 3 := by
  intro c
  induction c with
  | leaf p =>
    intro k h hk
    unfold notC
    split
    · rfl
    · split
      · rfl
      · exact clc_un5 h hk
  | un p x ih =>
    intro k h hk
    unfold notC
    split
    · rename_i h5
      simp only [Bool.and_eq_true, beq_iff_eq, bne_iff_ne] at h5
      have h' : clsOf p.op 0 [clsA (emb x)] = .ok k := h
      rw [h5.1] at h'
      have hd : demR 3 0 3 [clsA (emb x)] = .ok k := by simpa [clsOf] using h'
      obtain ⟨a, e1, h1⟩ := demR_ok hd _ (List.mem_cons_self ..)
      have ha : a ≠ 0 := by
        have : clsOf (payA (emb x)).op (payA (emb x)).place ((sidesA (emb x)).map clsA) = .ok a := by rw [← clsA_eq]; exact e1
        refine clsOf_op this ?_
        have : (payA (emb x)).op = opC x := by cases x <;> rfl
        rw [this]
        exact h5.2
      rcases h1 with rfl | h1
      · exact e1
      · exact absurd h1 ha
    · exact clc_un5 h hk
  | bin p x y ihx ihy =>
    intro k h hk
    unfold notC
    split
    · rename_i ho
      obtain ⟨⟨a, ha, ha'⟩, b, hb, hb'⟩ := clc_side h (.inl ⟨.inl (by simpa using ho), rfl⟩)
      exact clc_logic (.inr rfl) (ihx ha ha') (ihy hb hb') (.inl rfl) (.inl rfl)
    · split
      · rename_i ho
        obtain ⟨⟨a, ha, ha'⟩, b, hb, hb'⟩ := clc_side h (.inl ⟨.inr (by simpa using ho), rfl⟩)
        exact clc_logic (.inl rfl) (ihx ha ha') (ihy hb hb') (.inl rfl) (.inl rfl)
      · split
        · rename_i ho
          obtain ⟨⟨a, ha, ha'⟩, b, hb, hb'⟩ := clc_side h (.inr ⟨.inl (by simpa using ho), rfl⟩)
          exact clc_less (.inr rfl) hb ha hb' ha'
        · split
          · rename_i ho
            obtain ⟨⟨a, ha, ha'⟩, b, hb, hb'⟩ := clc_side h (.inr ⟨.inr (by simpa using ho), rfl⟩)
            exact clc_less (.inl rfl) hb ha hb' ha'
          · exact clc_un5 h hk
end

section
/-- A value as values are; a truth or unknown. -/
def PV (v : V) : Prop := v = nV ∨ (∃ b, v = bV b) ∨ (∃ n, v = iV n) ∨ ∃ s, v = tV s
def BN (v : V) : Prop := v = nV ∨ ∃ b, v = bV b
theorem BN.pv {v : V} (h : BN v) : PV v := by rcases h with h | h; exact .inl h; exact .inr (.inl h)
theorem bn_b (b : Bool) : BN (bV b) := .inr ⟨b, rfl⟩
theorem bn_ite {c : Prop} [Decidable c] {a b : V} (ha : BN a) (hb : BN b) : BN (if c then a else b) := by split; exact ha; exact hb
theorem pv_ite {c : Prop} [Decidable c] {a b : V} (ha : PV a) (hb : PV b) : PV (if c then a else b) := by split; exact ha; exact hb
theorem bn_n : BN nV := .inl rfl
theorem pv_i (n : Int) : PV (iV n) := .inr (.inr (.inl ⟨n, rfl⟩))
theorem bn_not (x : V) : BN (notV x) := bn_ite (bn_b _) bn_n
theorem bn_and (x y : V) : BN (andV x y) := bn_ite (bn_b _) (bn_ite (bn_b _) bn_n)
theorem bn_or (x y : V) : BN (orV x y) := bn_ite (bn_b _) (bn_ite (bn_b _) bn_n)
theorem bn_eq (x y : V) : BN (eqV x y) := bn_ite bn_n (bn_b _)
theorem bn_less (x y : V) : BN (lessV x y) := bn_ite (bn_b _) bn_n
theorem bn_le (x y : V) : BN (leV x y) := bn_ite (bn_b _) bn_n
theorem bn_like (x : V) (p e : List UInt8) : BN (likeV x p e) := bn_ite (bn_b _) bn_n
theorem bn_fold (x : V) : ∀ (ts : List (List UInt8)) (f : V), BN f → BN (ts.foldl (fun f t => orV f (eqV x (tV t))) f) := by
  intro ts
  induction ts with
  | nil => intro f h; exact h
  | cons t r ih => intro f _; exact ih _ (bn_or _ _)
theorem pv_join (op : Int) (x y : V) : PV (joinV op x y) := by
  have a : ∀ u v, PV (addV u v) := fun u v => pv_ite (pv_i _) bn_n.pv
  have s : ∀ u v, PV (subV u v) := fun u v => pv_ite (pv_i _) bn_n.pv
  have m : ∀ u v, PV (mulV u v) := fun u v => pv_ite (pv_i _) bn_n.pv
  have d : ∀ u v, PV (divV u v) := fun u v => pv_ite (pv_i _) bn_n.pv
  unfold joinV
  exact pv_ite (bn_not _).pv (pv_ite (bn_and _ _).pv (pv_ite (bn_or _ _).pv (pv_ite (bn_eq _ _).pv (pv_ite (bn_not _).pv (pv_ite (bn_less _ _).pv (pv_ite (bn_less _ _).pv (pv_ite (bn_le _ _).pv (pv_ite (bn_le _ _).pv (pv_ite (a _ _) (pv_ite (a _ _) (pv_ite (s _ _) (pv_ite (s _ _) (pv_ite (m _ _) (pv_ite (d _ _) (bn_b _).pv))))))))))))))
theorem pv_val {v : V} (h : valOk v = true) : PV v := by
  obtain ⟨k, n, s⟩ := v
  unfold valOk at h
  simp only at h
  by_cases h0 : k = 0
  · subst h0; simp at h; obtain ⟨rfl, rfl⟩ := h; exact .inl rfl
  by_cases h1 : k = 1
  · subst h1
    simp at h
    obtain ⟨h, rfl⟩ := h
    rcases h with rfl | rfl
    · exact .inr (.inl ⟨false, rfl⟩)
    · exact .inr (.inl ⟨true, rfl⟩)
  by_cases h2 : k = 2
  · subst h2; simp at h; subst h; exact .inr (.inr (.inl ⟨n, rfl⟩))
  by_cases h3 : k = 3
  · subst h3; simp at h; obtain ⟨rfl, _⟩ := h; exact .inr (.inr (.inr ⟨s, rfl⟩))
  simp [h0, h1, h2, h3] at h
theorem pv_find {ps : List Pr} (h : evOk ps = true) (n : List UInt8) : PV (findV ps n) := by
  unfold findV
  split
  · rename_i p hp
    have hm := List.mem_of_find?_eq_some hp
    obtain ⟨k, hk⟩ := List.getElem?_of_mem hm
    have hl := (List.getElem?_eq_some_iff.1 hk).1
    unfold evOk at h
    simp only [Bool.and_eq_true] at h
    have := List.all_eq_true.1 h.2 k (List.mem_range.2 hl)
    unfold okAt at this
    rw [hk] at this
    simp only [Bool.and_eq_true] at this
    exact pv_val this.1.2
  · exact bn_n.pv
theorem pv_ofN {ps : List Pr} (h : evOk ps = true) (p : Pay) (s : List V) : PV (ofN ps p s) := by
  unfold ofN joinN
  exact pv_ite (pv_find h _) (pv_ite (pv_i _) (pv_ite (.inr (.inr (.inr ⟨_, rfl⟩))) (pv_ite (bn_b _).pv (pv_ite (bn_b _).pv (pv_ite (bn_and _ _).pv (pv_ite (bn_fold _ _ _ (bn_b _)).pv (pv_ite (bn_like _ _ _).pv (pv_join _ _ _))))))))
theorem pv_of {ps : List Pr} (h : evOk ps = true) (t : Ast) : PV (ofA ps t) := by rw [ofA_eq]; exact pv_ofN h _ _

theorem not_notV {v : V} (h : BN v) : notV (notV v) = v := by
  rcases h with rfl | ⟨b, rfl⟩
  · rfl
  · cases b <;> rfl
theorem not_andV {x y : V} (hx : PV x) (hy : PV y) : notV (andV x y) = orV (notV x) (notV y) := by
  rcases hx with rfl | ⟨b, rfl⟩ | ⟨n, rfl⟩ | ⟨s, rfl⟩ <;> rcases hy with rfl | ⟨c, rfl⟩ | ⟨m, rfl⟩ | ⟨u, rfl⟩ <;> (try cases b) <;> (try cases c) <;> simp [andV, orV, notV, nV, bV, iV, tV]
theorem not_orV {x y : V} (hx : PV x) (hy : PV y) : notV (orV x y) = andV (notV x) (notV y) := by
  rcases hx with rfl | ⟨b, rfl⟩ | ⟨n, rfl⟩ | ⟨s, rfl⟩ <;> rcases hy with rfl | ⟨c, rfl⟩ | ⟨m, rfl⟩ | ⟨u, rfl⟩ <;> (try cases b) <;> (try cases c) <;> simp [andV, orV, notV, nV, bV, iV, tV]
theorem ints_comm (x y : V) : intsB x y = intsB y x := by unfold intsB; exact Bool.and_comm _ _
theorem not_lessV (x y : V) : notV (lessV x y) = leV y x := by
  unfold lessV leV
  rw [ints_comm y x]
  split
  · by_cases h : x.num < y.num
    · rw [decide_eq_true h, decide_eq_false (show ¬ y.num ≤ x.num by omega)]; rfl
    · rw [decide_eq_false h, decide_eq_true (show y.num ≤ x.num by omega)]; rfl
  · rfl
theorem not_leV (x y : V) : notV (leV x y) = lessV y x := by
  rw [← not_lessV]
  exact not_notV (bn_less _ _)
theorem and_comm' (x y : V) : andV x y = andV y x := by unfold andV; rw [Bool.or_comm, Bool.and_comm]
theorem or_comm' (x y : V) : orV x y = orV y x := by unfold orV; rw [Bool.or_comm, Bool.and_comm]
theorem eq_comm' (x y : V) : eqV x y = eqV y x := by
  unfold eqV
  by_cases h : x.kind = y.kind
  · have e : decide (x = y) = decide (y = x) := by by_cases h : x = y; rw [decide_eq_true h, decide_eq_true h.symm]; rw [decide_eq_false h, decide_eq_false fun e => h e.symm]
    simp [h, e]
  · have h' : ¬ y.kind = x.kind := fun e => h e.symm
    simp [h, h']
theorem add_comm' (x y : V) : addV x y = addV y x := by unfold addV; rw [ints_comm, Int.add_comm]
theorem mul_comm' (x y : V) : mulV x y = mulV y x := by unfold mulV; rw [ints_comm, Int.mul_comm]
theorem join_comm {op : Int} (h : eitherB op = true) (x y : V) : joinV op x y = joinV op y x := by
  have : op = 6 ∨ op = 7 ∨ op = 8 ∨ op = 16 ∨ op = 18 := by unfold eitherB at h; simpa [or_assoc] using h
  rcases this with rfl | rfl | rfl | rfl | rfl
  · exact and_comm' x y
  · exact or_comm' x y
  · exact eq_comm' x y
  · exact add_comm' x y
  · exact mul_comm' x y

section
variable {ps : List Pr}
def vC (ps : List Pr) (c : Co) : V := ofA ps (emb c)
theorem vC_bin {op : Int} (ho : BinP op) (x y : Co) : vC ps (.bin (plainP' op) x y) = joinV op (vC ps x) (vC ps y) := by
  have : op ≠ 0 ∧ op ≠ 1 ∧ op ≠ 2 ∧ op ≠ 3 ∧ op ≠ 4 ∧ op ≠ 20 ∧ op ≠ 21 ∧ op ≠ 22 := by unfold BinP at ho; omega
  show ofN ps (embP (plainP' op)) [ofA ps (emb x), ofA ps (emb y)] = _
  simp [ofN, joinN, embP, plainP', this, vC]
theorem vC_pair {op : Int} (ho : BinP op) (x y : Co) : vC ps (pairC op x y) = joinV op (vC ps x) (vC ps y) := by
  unfold pairC
  split
  · rename_i h
    simp only [Bool.and_eq_true] at h
    rw [vC_bin ho, join_comm h.1]
  · exact vC_bin ho x y
theorem vC_un5 (c : Co) : vC ps (.un (plainP' 5) c) = notV (vC ps c) := by
  show ofN ps (embP (plainP' 5)) [ofA ps (emb c)] = _
  simp [ofN, joinN, embP, plainP', joinV, vC]
theorem bn_of_cls {t : Ast} (h : clsA t = .ok 3) : BN (ofA ps t) := by
  rw [clsA_eq] at h
  rw [ofA_eq]
  generalize (sidesA t).map clsA = rs at h
  generalize (sidesA t).map (ofA ps) = vs
  generalize payA t = p at *
  have hop : p.op ≠ 0 ∧ p.op ≠ 1 ∧ p.op ≠ 2 ∧ ¬ (14 ≤ p.op ∧ p.op ≤ 19) := by
    refine ⟨fun e => ?_, fun e => ?_, fun e => ?_, fun e => ?_⟩
    · rw [e] at h; simp [clsOf] at h
    · rw [e] at h; simp [clsOf] at h
    · rw [e] at h; simp [clsOf] at h
    · have hd : demR 1 p.place 1 rs = .ok 3 := by
        have : p.op = 14 ∨ p.op = 15 ∨ p.op = 16 ∨ p.op = 17 ∨ p.op = 18 ∨ p.op = 19 := by omega
        rcases this with e | e | e | e | e | e <;> (rw [e] at h; simpa [clsOf] using h)
      have := demR_val hd
      omega
  obtain ⟨h0, h1, h2, h14⟩ := hop
  unfold ofN joinN joinV
  rw [if_neg h0, if_neg h1, if_neg h2, if_neg (show ¬ p.op = 14 by omega), if_neg (show ¬ p.op = 15 by omega), if_neg (show ¬ p.op = 16 by omega), if_neg (show ¬ p.op = 17 by omega), if_neg (show ¬ p.op = 18 by omega), if_neg (show ¬ p.op = 19 by omega)]
  exact bn_ite (bn_b _) (bn_ite (bn_b _) (bn_ite (bn_and _ _) (bn_ite (bn_fold _ _ _ (bn_b _)) (bn_ite (bn_like _ _ _) (bn_ite (bn_not _) (bn_ite (bn_and _ _) (bn_ite (bn_or _ _) (bn_ite (bn_eq _ _) (bn_ite (bn_not _) (bn_ite (bn_less _ _) (bn_ite (bn_less _ _) (bn_ite (bn_le _ _) (bn_ite (bn_le _ _) (bn_b _))))))))))))))
theorem vC_not (hev : evOk ps = true) : ∀ {c : Co} {k : Int}, BinsC c → ClC c k → (k = 3 ∨ k = 0) → vC ps (notC c) = notV (vC ps c) := by
  intro c
  induction c with
  | leaf p =>
    intro k _ h hk
    unfold notC
    split
    · rename_i e
      have e : p.op = 3 := by simpa using e
      simp [vC, emb, ofA, ofN, embP, plainP', e, notV, bV]
    · split
      · rename_i e
        have e : p.op = 4 := by simpa using e
        simp [vC, emb, ofA, ofN, embP, plainP', e, notV, bV]
      · exact vC_un5 _
  | un p x ih =>
    intro k hB h hk
    unfold notC
    split
    · rename_i h5
      simp only [Bool.and_eq_true, beq_iff_eq, bne_iff_ne] at h5
      have h' : clsOf p.op 0 [clsA (emb x)] = .ok k := h
      rw [h5.1] at h'
      have hd : demR 3 0 3 [clsA (emb x)] = .ok k := by simpa [clsOf] using h'
      obtain ⟨a, e1, h1⟩ := demR_ok hd _ (List.mem_cons_self ..)
      have ha : a ≠ 0 := by
        have : clsOf (payA (emb x)).op (payA (emb x)).place ((sidesA (emb x)).map clsA) = .ok a := by rw [← clsA_eq]; exact e1
        refine clsOf_op this ?_
        have : (payA (emb x)).op = opC x := by cases x <;> rfl
        rw [this]
        exact h5.2
      obtain rfl : a = 3 := by omega
      have : vC ps (.un p x) = notV (vC ps x) := by
        show ofN ps (embP p) [ofA ps (emb x)] = _
        simp [ofN, joinN, embP, h5.1, joinV, vC]
      rw [this]
      exact (not_notV (bn_of_cls e1)).symm
    · exact vC_un5 _
  | bin p x y ihx ihy =>
    intro k hB h hk
    have hv : vC ps (.bin p x y) = joinV p.op (vC ps x) (vC ps y) := by
      have ho := hB.1
      have : p.op ≠ 0 ∧ p.op ≠ 1 ∧ p.op ≠ 2 ∧ p.op ≠ 3 ∧ p.op ≠ 4 ∧ p.op ≠ 20 ∧ p.op ≠ 21 ∧ p.op ≠ 22 := by unfold BinP at ho; omega
      show ofN ps (embP p) [ofA ps (emb x), ofA ps (emb y)] = _
      simp [ofN, joinN, embP, this, vC]
    unfold notC
    split
    · rename_i ho
      have ho : p.op = 6 := by simpa using ho
      obtain ⟨⟨a, ha, ha'⟩, b, hb, hb'⟩ := clc_side h (.inl ⟨.inl ho, rfl⟩)
      rw [vC_pair (by unfold BinP; omega), ihx hB.2.1 ha ha', ihy hB.2.2 hb hb', hv, ho]
      exact (not_andV (pv_of hev _) (pv_of hev _)).symm
    · split
      · rename_i ho
        have ho : p.op = 7 := by simpa using ho
        obtain ⟨⟨a, ha, ha'⟩, b, hb, hb'⟩ := clc_side h (.inl ⟨.inr ho, rfl⟩)
        rw [vC_pair (by unfold BinP; omega), ihx hB.2.1 ha ha', ihy hB.2.2 hb hb', hv, ho]
        exact (not_orV (pv_of hev _) (pv_of hev _)).symm
      · split
        · rename_i ho
          have ho : p.op = 10 := by simpa using ho
          rw [vC_pair (by unfold BinP; omega), hv, ho]
          exact (not_lessV _ _).symm
        · split
          · rename_i ho
            have ho : p.op = 11 := by simpa using ho
            rw [vC_pair (by unfold BinP; omega), hv, ho]
            exact (not_leV _ _).symm
          · exact vC_un5 _

/-- A row of ORs is what its members make it, in whatever order and however often. -/
theorem or_fold (e : List UInt8 → V) (he : ∀ t, BN (e t)) : ∀ (l : List (List UInt8)) (f : V), BN f → l.foldl (fun f t => orV f (e t)) f = if f = bV true ∨ ∃ t ∈ l, e t = bV true then bV true else if f = bV false ∧ ∀ t ∈ l, e t = bV false then bV false else nV := by
  intro l
  induction l with
  | nil =>
    intro f hf
    rcases hf with rfl | ⟨b, rfl⟩
    · simp [nV, bV]
    · cases b <;> simp [bV]
  | cons t r ih =>
    intro f hf
    rw [List.foldl_cons, ih _ (bn_or _ _)]
    have ht := he t
    rcases hf with rfl | ⟨b, rfl⟩ <;> rcases ht with h | ⟨c, h⟩ <;> (try cases b) <;> (try cases c) <;> simp [h, orV, nV, bV]
theorem mem_compact' (zs : List (List UInt8)) (t : List UInt8) : t ∈ Lib.compact zs ↔ t ∈ zs := by
  unfold Lib.compact Lib.compactUpTo
  simp only [List.mem_map, List.mem_filter, List.mem_range]
  constructor
  · rintro ⟨j, ⟨hj, _⟩, rfl⟩
    simp [hj]
  · intro h
    obtain ⟨j, hj⟩ := List.getElem?_of_mem h
    have hl := (List.getElem?_eq_some_iff.1 hj).1
    have key : ∀ (n j : Nat), j ≤ n → j < zs.length → ∃ i, (i < zs.length ∧ Lib.keeps zs.toArray i = true) ∧ zs.toArray[i]! = zs.toArray[j]! := by
      intro n
      induction n with
      | zero =>
        intro j hj hl
        obtain rfl : j = 0 := by omega
        exact ⟨0, ⟨hl, Lib.keeps_lt_one _ 0 (by omega)⟩, rfl⟩
      | succ n ih =>
        intro j hj hl
        by_cases hk : Lib.keeps zs.toArray j = true
        · exact ⟨j, ⟨hl, hk⟩, rfl⟩
        · have hk' : j ≠ 0 ∧ zs.toArray[j]! = zs.toArray[j - 1]! := by
            unfold Lib.keeps at hk
            simp only [decide_eq_true_eq] at hk
            exact ⟨fun e => hk (.inl e), Classical.byContradiction fun e => hk (.inr e)⟩
          obtain ⟨i, hi, e⟩ := ih (j - 1) (by omega) (by omega)
          exact ⟨i, hi, e.trans hk'.2.symm⟩
    obtain ⟨i, hi, e⟩ := key j j (Nat.le_refl _) hl
    refine ⟨i, hi, e.trans ?_⟩
    have := (List.getElem?_eq_some_iff.1 hj).2
    simp [hl, this]
theorem mem_sortT (ts : List (List UInt8)) (t : List UInt8) : t ∈ sortT ts ↔ t ∈ ts := by
  unfold sortT
  rw [mem_compact', List.mem_mergeSort]
theorem vC_text (s : List UInt8) : vC ps (textC s) = tV s := by simp [vC, textC, emb, ofA, ofN, embP]
theorem vC_orAll (x : Co) : ∀ (r : List (List UInt8)) (f : Co), vC ps (orAll x f r) = r.foldl (fun f t => orV f (eqV (vC ps x) (tV t))) (vC ps f) := by
  intro r
  induction r with
  | nil => intro f; rfl
  | cons t r ih =>
    intro f
    rw [orAll, ih, List.foldl_cons, vC_pair (by unfold BinP; omega), vC_pair (by unfold BinP; omega), vC_text]
    rfl
theorem vC_among (x : Co) {ts : List (List UInt8)} (hn : ts ≠ []) : vC ps (amongC x ts) = amongV (vC ps x) ts := by
  have hb := fun t => bn_eq (vC ps x) (tV t)
  have hmem := mem_sortT ts
  have e : amongV (vC ps x) ts = (sortT ts).foldl (fun f t => orV f (eqV (vC ps x) (tV t))) (bV false) := by
    unfold amongV
    rw [or_fold _ hb _ _ (bn_b _), or_fold _ hb _ _ (bn_b _)]
    simp only [hmem]
  rw [e]
  unfold amongC
  cases hs : sortT ts with
  | nil =>
    obtain ⟨a, ha⟩ := List.exists_mem_of_ne_nil _ hn
    rw [← hmem, hs] at ha
    cases ha
  | cons t r =>
    simp only
    rw [vC_orAll, List.foldl_cons, vC_pair (by unfold BinP; omega), vC_text]
    congr 1
    show eqV (vC ps x) (tV t) = orV (bV false) (eqV (vC ps x) (tV t))
    rcases hb t with h | ⟨b, h⟩
    · rw [h]; rfl
    · rw [h]; cases b <;> rfl
end
theorem clc_num (n : Int) : ClC (numC n) 1 := rfl
theorem clc_text (s : List UInt8) : ClC (textC s) 2 := rfl
theorem clc_orAll {x : Co} (hx : ClC x 0) : ∀ (r : List (List UInt8)) (f : Co), ClC f 3 → ClC (orAll x f r) 3 := by
  intro r
  induction r with
  | nil => intro f hf; exact hf
  | cons t r ih => intro f hf; exact ih _ (clc_logic (.inr rfl) hf (clc_eq hx (clc_text t) (.inr (.inl rfl))) (.inl rfl) (.inl rfl))
theorem clc_among {x : Co} (hx : ClC x 0) {ts : List (List UInt8)} (hn : ts ≠ []) : ClC (amongC x ts) 3 := by
  unfold amongC
  cases hs : sortT ts with
  | nil =>
    obtain ⟨a, ha⟩ := List.exists_mem_of_ne_nil _ hn
    rw [← mem_sortT, hs] at ha
    cases ha
  | cons t r => exact clc_orAll hx r _ (clc_eq hx (clc_text t) (.inr (.inl rfl)))

theorem core_means : ∀ t, ShA t → ∀ k, clsA t = .ok k → ClC (coreA t) k ∧ ∀ ps, evOk ps = true → vC ps (coreA t) = ofA ps t := by
  intro t
  induction t with
  | leaf p =>
    intro h0 k hk
    have hk : clsOf p.op p.place [] = .ok k := hk
    have ho : p.op = 0 ∨ p.op = 1 ∨ p.op = 2 ∨ p.op = 3 ∨ p.op = 4 := by have := h0.1; have := h0.2; omega
    refine ⟨?_, fun ps _ => ?_⟩
    · show clsOf p.op 0 [] = .ok k
      rw [← hk]
      rcases ho with h | h | h | h | h <;> rw [h] <;> rfl
    · show ofN ps (embP (cpOf p)) [] = ofN ps p []
      rcases ho with h | h | h | h | h <;> simp [ofN, embP, cpOf, h]
  | un p x ih =>
    intro h0 k hk
    have hk : clsOf p.op p.place [clsA x] = .ok k := hk
    rcases h0.1 with ho | ho | ho | ho | ho | ho
    · rw [ho] at hk
      have hd : demR 3 p.place 3 [clsA x] = .ok k := by simpa [clsOf] using hk
      obtain ⟨a, e1, h1⟩ := demR_ok hd _ (List.mem_cons_self ..)
      obtain ⟨c1, v1⟩ := ih h0.2.2.2 a e1
      obtain rfl := demR_val hd
      have e : coreA (.un p x) = notC (coreA x) := by simp [coreA, ho]
      rw [e]
      refine ⟨clc_not c1 h1, fun ps hev => ?_⟩
      rw [vC_not hev (bins_core x h0.2.2.2) c1 h1, v1 ps hev]
      show _ = ofN ps p [ofA ps x]
      simp [ofN, joinN, joinV, ho]
    · rw [ho] at hk
      have hd : demR 1 p.place 1 [clsA x] = .ok k := by simpa [clsOf] using hk
      obtain ⟨a, e1, h1⟩ := demR_ok hd _ (List.mem_cons_self ..)
      obtain ⟨c1, v1⟩ := ih h0.2.2.2 a e1
      obtain rfl := demR_val hd
      have e : coreA (.un p x) = pairC 16 (numC 0) (coreA x) := by simp [coreA, ho]
      rw [e]
      refine ⟨clc_sum (by omega) (clc_num 0) c1 (.inl rfl) h1, fun ps hev => ?_⟩
      rw [vC_pair (by unfold BinP; omega), v1 ps hev]
      show _ = ofN ps p [ofA ps x]
      simp [ofN, joinN, joinV, ho, vC, numC, emb, embP, ofA]
    · rw [ho] at hk
      have hd : demR 1 p.place 1 [clsA x] = .ok k := by simpa [clsOf] using hk
      obtain ⟨a, e1, h1⟩ := demR_ok hd _ (List.mem_cons_self ..)
      obtain ⟨c1, v1⟩ := ih h0.2.2.2 a e1
      obtain rfl := demR_val hd
      have e : coreA (.un p x) = pairC 17 (numC 0) (coreA x) := by simp [coreA, ho]
      rw [e]
      refine ⟨clc_sum (by omega) (clc_num 0) c1 (.inl rfl) h1, fun ps hev => ?_⟩
      rw [vC_pair (by unfold BinP; omega), v1 ps hev]
      show _ = ofN ps p [ofA ps x]
      simp [ofN, joinN, joinV, ho, vC, numC, emb, embP, ofA]
    · have hx0 := h0.2.2.1 (.inl ho)
      have hn := h0.2.1 ho
      have e1 : clsA x = .ok 0 := by
        rw [clsA_eq]
        have : (payA x).op = 0 := by rw [← hx0]; cases x <;> rfl
        rw [this]
        rfl
      obtain ⟨c1, v1⟩ := ih h0.2.2.2 0 e1
      have e : coreA (.un p x) = amongC (coreA x) p.texts := by simp [coreA, ho]
      rw [e]
      rw [ho] at hk
      obtain rfl : k = 3 := by simpa [clsOf] using hk.symm
      refine ⟨clc_among c1 hn, fun ps hev => ?_⟩
      rw [vC_among _ hn, v1 ps hev]
      show _ = ofN ps p [ofA ps x]
      simp [ofN, joinN, ho]
    · have hx0 := h0.2.2.1 (.inr (.inl ho))
      have e1 : clsA x = .ok 0 := by
        rw [clsA_eq]
        have : (payA x).op = 0 := by rw [← hx0]; cases x <;> rfl
        rw [this]
        rfl
      obtain ⟨c1, v1⟩ := ih h0.2.2.2 0 e1
      have e : coreA (.un p x) = .un (cpOf p) (coreA x) := by simp [coreA, ho]
      rw [e]
      refine ⟨?_, fun ps hev => ?_⟩
      · rw [ho] at hk
        obtain rfl : k = 3 := by simpa [clsOf] using hk.symm
        show clsOf p.op 0 [clsA (emb (coreA x))] = .ok 3
        rw [ho]; rfl
      · show ofN ps (embP (cpOf p)) [ofA ps (emb (coreA x))] = ofN ps p [ofA ps x]
        have := v1 ps hev
        unfold vC at this
        rw [this]
        simp [ofN, joinN, embP, cpOf, ho]
    · have hx0 := h0.2.2.1 (.inr (.inr ho))
      have e1 : clsA x = .ok 0 := by
        rw [clsA_eq]
        have : (payA x).op = 0 := by rw [← hx0]; cases x <;> rfl
        rw [this]
        rfl
      obtain ⟨c1, v1⟩ := ih h0.2.2.2 0 e1
      have e : coreA (.un p x) = .un (cpOf p) (coreA x) := by simp [coreA, ho]
      rw [e]
      refine ⟨?_, fun ps hev => ?_⟩
      · rw [ho] at hk
        obtain rfl : k = 3 := by simpa [clsOf] using hk.symm
        show clsOf p.op 0 [clsA (emb (coreA x))] = .ok 3
        rw [ho]; rfl
      · show ofN ps (embP (cpOf p)) [ofA ps (emb (coreA x))] = ofN ps p [ofA ps x]
        have := v1 ps hev
        unfold vC at this
        rw [this]
        simp [ofN, joinN, embP, cpOf, ho, joinV]
  | bin p x y ihx ihy =>
    intro h0 k hk
    have hk : clsOf p.op p.place [clsA x, clsA y] = .ok k := hk
    have ho : (p.op = 6 ∨ p.op = 7) ∨ (p.op = 8 ∨ p.op = 9) ∨ (p.op = 10 ∨ p.op = 11 ∨ p.op = 12 ∨ p.op = 13) ∨ (p.op = 16 ∨ p.op = 17 ∨ p.op = 18 ∨ p.op = 19) := by have := h0.1; omega
    have hN : ∀ ps, p.op ≠ 9 → p.op ≠ 12 → p.op ≠ 13 → evOk ps = true → vC ps (coreA x) = ofA ps x → vC ps (coreA y) = ofA ps y → vC ps (pairC p.op (coreA x) (coreA y)) = ofA ps (.bin p x y) := by
      intro ps n9 n12 n13 hev vx vy
      have hb : BinP p.op := by unfold BinP; omega
      rw [vC_pair hb, vx, vy]
      show _ = ofN ps p [ofA ps x, ofA ps y]
      have : p.op ≠ 0 ∧ p.op ≠ 1 ∧ p.op ≠ 2 ∧ p.op ≠ 3 ∧ p.op ≠ 4 ∧ p.op ≠ 20 ∧ p.op ≠ 21 ∧ p.op ≠ 22 := by omega
      simp [ofN, joinN, this]
    have eN : p.op ≠ 9 → p.op ≠ 12 → p.op ≠ 13 → coreA (.bin p x y) = pairC p.op (coreA x) (coreA y) := by
      intro n9 n12 n13
      simp [coreA, n9, n12, n13]
    rcases ho with ho | ho | ho | ho
    · have hd : demR 3 p.place 3 [clsA x, clsA y] = .ok k := by rcases ho with ho | ho <;> (rw [ho] at hk; simpa [clsOf] using hk)
      obtain ⟨a, e1, h1⟩ := demR_ok hd (clsA x) (by simp)
      obtain ⟨b, e2, h2⟩ := demR_ok hd (clsA y) (by simp)
      obtain rfl := demR_val hd
      obtain ⟨cx, vx⟩ := ihx h0.2.1 a e1
      obtain ⟨cy, vy⟩ := ihy h0.2.2 b e2
      rw [eN (by omega) (by omega) (by omega)]
      exact ⟨clc_logic ho cx cy h1 h2, fun ps hev => hN ps (by omega) (by omega) (by omega) hev (vx ps hev) (vy ps hev)⟩
    · have ha : alikeR p.place (clsA x) (clsA y) = .ok k := by rcases ho with ho | ho <;> (rw [ho] at hk; simpa [clsOf] using hk)
      obtain ⟨⟨a, e1⟩, b, e2⟩ := alike_ok ha
      rw [e1, e2] at ha
      have hab : (a = b ∨ a = 0 ∨ b = 0) ∧ k = 3 := by
        have ha : (if (a != b && a != 0 && b != 0) = true then CRes.err p.place else .ok 3) = .ok k := ha
        split at ha
        · cases ha
        · rename_i hne
          injection ha with ha
          refine ⟨?_, ha.symm⟩
          simp only [Bool.and_eq_true, bne_iff_ne] at hne
          by_cases q : a = b
          · exact .inl q
          · by_cases q2 : a = 0
            · exact .inr (.inl q2)
            · exact .inr (.inr (Classical.byContradiction fun q3 => hne ⟨⟨q, q2⟩, q3⟩))
      obtain ⟨hab, rfl⟩ := hab
      obtain ⟨cx, vx⟩ := ihx h0.2.1 a e1
      obtain ⟨cy, vy⟩ := ihy h0.2.2 b e2
      rcases ho with ho | ho
      · rw [eN (by omega) (by omega) (by omega)]
        refine ⟨?_, fun ps hev => hN ps (by omega) (by omega) (by omega) hev (vx ps hev) (vy ps hev)⟩
        rw [ho]
        exact clc_eq cx cy hab
      · have e : coreA (.bin p x y) = notC (pairC 8 (coreA x) (coreA y)) := by simp [coreA, ho]
        rw [e]
        have c8 := clc_eq cx cy hab
        refine ⟨clc_not c8 (.inl rfl), fun ps hev => ?_⟩
        rw [vC_not hev (bins_pair (by unfold BinP; omega) (bins_core x h0.2.1) (bins_core y h0.2.2)) c8 (.inl rfl), vC_pair (by unfold BinP; omega), vx ps hev, vy ps hev]
        show _ = ofN ps p [ofA ps x, ofA ps y]
        simp [ofN, joinN, joinV, ho]
    · have hd : demR 1 p.place 3 [clsA x, clsA y] = .ok k := by rcases ho with ho | ho | ho | ho <;> (rw [ho] at hk; simpa [clsOf] using hk)
      obtain ⟨a, e1, h1⟩ := demR_ok hd (clsA x) (by simp)
      obtain ⟨b, e2, h2⟩ := demR_ok hd (clsA y) (by simp)
      obtain rfl := demR_val hd
      obtain ⟨cx, vx⟩ := ihx h0.2.1 a e1
      obtain ⟨cy, vy⟩ := ihy h0.2.2 b e2
      have h10 : p.op = 10 ∨ p.op = 11 → ClC (coreA (.bin p x y)) 3 ∧ ∀ ps, evOk ps = true → vC ps (coreA (.bin p x y)) = ofA ps (.bin p x y) := fun ho => by
        rw [eN (by omega) (by omega) (by omega)]
        exact ⟨clc_less ho cx cy h1 h2, fun ps hev => hN ps (by omega) (by omega) (by omega) hev (vx ps hev) (vy ps hev)⟩
      rcases ho with ho | ho | ho | ho
      · exact h10 (.inl ho)
      · exact h10 (.inr ho)
      · have e : coreA (.bin p x y) = pairC 10 (coreA y) (coreA x) := by simp [coreA, ho]
        rw [e]
        refine ⟨clc_less (.inl rfl) cy cx h2 h1, fun ps hev => ?_⟩
        rw [vC_pair (by unfold BinP; omega), vx ps hev, vy ps hev]
        show _ = ofN ps p [ofA ps x, ofA ps y]
        simp [ofN, joinN, joinV, ho]
      · have e : coreA (.bin p x y) = pairC 11 (coreA y) (coreA x) := by simp [coreA, ho]
        rw [e]
        refine ⟨clc_less (.inr rfl) cy cx h2 h1, fun ps hev => ?_⟩
        rw [vC_pair (by unfold BinP; omega), vx ps hev, vy ps hev]
        show _ = ofN ps p [ofA ps x, ofA ps y]
        simp [ofN, joinN, joinV, ho]
    · have hd : demR 1 p.place 1 [clsA x, clsA y] = .ok k := by rcases ho with ho | ho | ho | ho <;> (rw [ho] at hk; simpa [clsOf] using hk)
      obtain ⟨a, e1, h1⟩ := demR_ok hd (clsA x) (by simp)
      obtain ⟨b, e2, h2⟩ := demR_ok hd (clsA y) (by simp)
      obtain rfl := demR_val hd
      obtain ⟨cx, vx⟩ := ihx h0.2.1 a e1
      obtain ⟨cy, vy⟩ := ihy h0.2.2 b e2
      rw [eN (by omega) (by omega) (by omega)]
      exact ⟨clc_sum (by omega) cx cy h1 h2, fun ps hev => hN ps (by omega) (by omega) (by omega) hev (vx ps hev) (vy ps hev)⟩
  | tri p x y z ihx ihy ihz =>
    intro h0 k hk
    have hk : clsOf p.op p.place [clsA x, clsA y, clsA z] = .ok k := hk
    have ho := h0.1
    have hd : demR 1 p.place 3 [clsA x, clsA y, clsA z] = .ok k := by rw [ho] at hk; simpa [clsOf] using hk
    obtain ⟨a, e1, h1⟩ := demR_ok hd (clsA x) (by simp)
    obtain ⟨b, e2, h2⟩ := demR_ok hd (clsA y) (by simp)
    obtain ⟨c, e3, h3⟩ := demR_ok hd (clsA z) (by simp)
    obtain rfl := demR_val hd
    obtain ⟨cx, vx⟩ := ihx h0.2.1 a e1
    obtain ⟨cy, vy⟩ := ihy h0.2.2.1 b e2
    obtain ⟨cz, vz⟩ := ihz h0.2.2.2 c e3
    refine ⟨clc_logic (.inl rfl) (clc_less (.inr rfl) cy cx h2 h1) (clc_less (.inr rfl) cx cz h1 h3) (.inl rfl) (.inl rfl), fun ps hev => ?_⟩
    show vC ps (pairC 6 (pairC 11 (coreA y) (coreA x)) (pairC 11 (coreA x) (coreA z))) = _
    rw [vC_pair (by unfold BinP; omega), vC_pair (by unfold BinP; omega), vC_pair (by unfold BinP; omega), vx ps hev, vy ps hev, vz ps hev]
    show _ = ofN ps p [ofA ps x, ofA ps y, ofA ps z]
    simp [ofN, joinN, joinV, ho]
end

section
/-- What cores of texts that are read bear. -/
def NmP (p : CP) : Prop := p.op = 0 ∧ p.num = 0 ∧ p.esc = [] ∧ nameB p.str = true
def LfP (p : CP) : Prop := NmP p ∨ (p.op = 1 ∧ 0 ≤ p.num ∧ p.num ≤ 9223372036854775807 ∧ p.str = [] ∧ p.esc = []) ∨ (p.op = 2 ∧ p.num = 0 ∧ p.esc = []) ∨ ((p.op = 3 ∨ p.op = 4) ∧ p.num = 0 ∧ p.str = [] ∧ p.esc = [])
def LkP (p : CP) : Prop := p.op = 22 ∧ p.num = 0 ∧ (p.esc = [] ∨ p.esc.length = 1 ∧ (cutL p.esc p.str).isSome = true)
def OkC : Co → Prop
  | .leaf p => LfP p
  | .un p x => OkC x ∧ (p = plainP' 5 ∨ (∃ q, x = .leaf q ∧ NmP q) ∧ (p = plainP' 23 ∨ LkP p))
  | .bin p x y => OkC x ∧ OkC y ∧ ∃ op, BinP op ∧ p = plainP' op
theorem ok_pair {op : Int} (ho : BinP op) {x y : Co} (hx : OkC x) (hy : OkC y) : OkC (pairC op x y) := by
  unfold pairC
  split
  · exact ⟨hy, hx, op, ho, rfl⟩
  · exact ⟨hx, hy, op, ho, rfl⟩
theorem ok_tf {n : Int} (h : n = 3 ∨ n = 4) : OkC (.leaf (plainP' n)) := .inr (.inr (.inr ⟨h, rfl, rfl, rfl⟩))
theorem ok_not : ∀ {c : Co}, OkC c → OkC (notC c) := by
  intro c
  induction c with
  | leaf p =>
    intro h
    unfold notC
    split
    · exact ok_tf (.inr rfl)
    · split
      · exact ok_tf (.inl rfl)
      · exact ⟨h, .inl rfl⟩
  | un p x ih =>
    intro h
    unfold notC
    split
    · exact h.1
    · exact ⟨h, .inl rfl⟩
  | bin p x y ihx ihy =>
    intro h
    unfold notC
    split
    · exact ok_pair (by unfold BinP; omega) (ihx h.1) (ihy h.2.1)
    · split
      · exact ok_pair (by unfold BinP; omega) (ihx h.1) (ihy h.2.1)
      · split
        · exact ok_pair (by unfold BinP; omega) h.2.1 h.1
        · split
          · exact ok_pair (by unfold BinP; omega) h.2.1 h.1
          · exact ⟨h, .inl rfl⟩
theorem ok_text (t : List UInt8) : OkC (textC t) := .inr (.inr (.inl ⟨rfl, rfl, rfl⟩))
theorem ok_orAll {x : Co} (hx : OkC x) : ∀ (r : List (List UInt8)) (f : Co), OkC f → OkC (orAll x f r) := by
  intro r
  induction r with
  | nil => intro f hf; exact hf
  | cons t r ih => intro f hf; exact ih _ (ok_pair (by unfold BinP; omega) hf (ok_pair (by unfold BinP; omega) hx (ok_text t)))
theorem ok_among {x : Co} (hx : OkC x) (ts : List (List UInt8)) : OkC (amongC x ts) := by
  unfold amongC
  cases sortT ts with
  | nil => exact hx
  | cons t r => exact ok_orAll hx r _ (ok_pair (by unfold BinP; omega) hx (ok_text t))
theorem name_core {x : Ast} (h0 : opA x = 0) (hs : ShA x) (hz : BzA x) : ∃ q, coreA x = .leaf q ∧ NmP q := by
  cases x with
  | leaf p => have h0 : p.op = 0 := h0; exact ⟨cpOf p, rfl, h0, hz.name h0⟩
  | un p y => have h0 : p.op = 0 := h0; have := hs.1; omega
  | bin p y z => have h0 : p.op = 0 := h0; have := hs.1; omega
  | tri p y z u => have h0 : p.op = 0 := h0; have := hs.1; omega
theorem ok_num0 : OkC (numC 0) := .inr (.inl ⟨rfl, by decide, by decide, rfl, rfl⟩)
theorem ok_core : ∀ t, ShA t → BzA t → NumA t → OkC (coreA t) := by
  intro t
  induction t with
  | leaf p =>
    intro h0 hz hn
    have ho : p.op = 0 ∨ p.op = 1 ∨ p.op = 2 ∨ p.op = 3 ∨ p.op = 4 := by have := h0.1; have := h0.2; omega
    rcases ho with h | h | h | h | h
    · exact .inl ⟨h, hz.name h⟩
    · have := hz.num h
      exact .inr (.inl ⟨h, this.1, hn.2, this.2.1, this.2.2⟩)
    · have := hz.text h
      exact .inr (.inr (.inl ⟨h, this.1, this.2⟩))
    · exact .inr (.inr (.inr ⟨.inl h, hz.bare (.inl h)⟩))
    · exact .inr (.inr (.inr ⟨.inr h, hz.bare (.inr (.inl h))⟩))
  | un p x ih =>
    intro h0 hz hn
    have hx := ih h0.2.2.2 hz.2 hn.2
    rcases h0.1 with ho | ho | ho | ho | ho | ho
    · have e : coreA (.un p x) = notC (coreA x) := by simp [coreA, ho]
      rw [e]; exact ok_not hx
    · have e : coreA (.un p x) = pairC 16 (numC 0) (coreA x) := by simp [coreA, ho]
      rw [e]; exact ok_pair (by unfold BinP; omega) ok_num0 hx
    · have e : coreA (.un p x) = pairC 17 (numC 0) (coreA x) := by simp [coreA, ho]
      rw [e]; exact ok_pair (by unfold BinP; omega) ok_num0 hx
    · have e : coreA (.un p x) = amongC (coreA x) p.texts := by simp [coreA, ho]
      rw [e]; exact ok_among hx _
    · have e : coreA (.un p x) = .un (cpOf p) (coreA x) := by simp [coreA, ho]
      rw [e]
      have hl := hz.1.like ho
      exact ⟨hx, .inr ⟨name_core (h0.2.2.1 (.inr (.inl ho))) h0.2.2.2 hz.2, .inr ⟨ho, hl.1, hl.2⟩⟩⟩
    · have e : coreA (.un p x) = .un (cpOf p) (coreA x) := by simp [coreA, ho]
      rw [e]
      have hb := hz.1.bare (.inr (.inr (.inr ho)))
      refine ⟨hx, .inr ⟨name_core (h0.2.2.1 (.inr (.inr ho))) h0.2.2.2 hz.2, .inl ?_⟩⟩
      unfold cpOf plainP'
      rw [ho, hb.1, hb.2.1, hb.2.2]
  | bin p x y ihx ihy =>
    intro h0 hz hn
    have hx := ihx h0.2.1 hz.2.1 hn.2.1
    have hy := ihy h0.2.2 hz.2.2 hn.2.2
    have ho := h0.1
    by_cases h12 : p.op = 12
    · simp [coreA, h12]; exact ok_pair (by unfold BinP; omega) hy hx
    by_cases h13 : p.op = 13
    · simp [coreA, h13]; exact ok_pair (by unfold BinP; omega) hy hx
    by_cases h9 : p.op = 9
    · simp [coreA, h9]; exact ok_not (ok_pair (by unfold BinP; omega) hx hy)
    simp [coreA, h12, h13, h9]
    exact ok_pair (by unfold BinP; omega) hx hy
  | tri p x y z ihx ihy ihz =>
    intro h0 hz hn
    have hx := ihx h0.2.1 hz.2.1 hn.2.1
    exact ok_pair (by unfold BinP; omega) (ok_pair (by unfold BinP; omega) (ihy h0.2.2.1 hz.2.2.1 hn.2.2.1) hx) (ok_pair (by unfold BinP; omega) hx (ihz h0.2.2.2 hz.2.2.2 hn.2.2.2))

def sgK (op : Int) : Int := if op == 6 then 5 else if op == 7 then 6 else if op == 8 then 16 else if op == 10 then 18 else if op == 11 then 19 else if op == 16 then 22 else if op == 17 then 23 else if op == 18 then 24 else 25
def escK (e : List UInt8) : List Tk := if e.isEmpty then [] else [plainTk 13, ⟨4, 0, e⟩]
def tokN (p : CP) (l r : List Tk) : List Tk :=
  if p.op == 0 then [⟨2, 0, p.str⟩] else if p.op == 1 then [⟨3, p.num, []⟩] else if p.op == 2 then [⟨4, 0, p.str⟩] else if p.op == 3 then [plainTk 8] else if p.op == 4 then [plainTk 9]
  else if p.op == 5 then plainTk 26 :: plainTk 7 :: (l ++ [plainTk 27]) else if p.op == 23 then plainTk 26 :: (l ++ [plainTk 14, plainTk 15, plainTk 27])
  else if p.op == 22 then plainTk 26 :: (l ++ plainTk 12 :: ⟨4, 0, p.str⟩ :: (escK p.esc ++ [plainTk 27]))
  else plainTk 26 :: (l ++ plainTk (sgK p.op) :: (r ++ [plainTk 27]))
/-- A core's tokens. -/
def toks : Co → List Tk
  | .leaf p => tokN p [] []
  | .un p x => tokN p (toks x) []
  | .bin p x y => tokN p (toks x) (toks y)

theorem lx_name {s : List UInt8} (h : nameB s = true) : Lx s [⟨2, 0, s⟩] := by
  unfold nameB at h
  simp only [Bool.and_eq_true, decide_eq_true_eq, beq_iff_eq] at h
  obtain ⟨⟨h0, hl⟩, hk⟩ := h
  cases s with
  | nil => simp [wordSize] at h0
  | cons c t =>
    have hb : begU c = true := by
      by_cases hb : begU c = true
      · exact hb
      · simp [wordSize, hb] at h0
    have hsp : spU c = false := by
      unfold begU begB at hb
      unfold spU spB
      simp at hb ⊢
      omega
    have hat : nextAt (c :: t) 0 = 0 := by unfold nextAt; simp [runLen, hsp]
    have hlen : 0 < (c :: t).length := by simp
    have ht : (c :: t).take (wordSize (c :: t)) = c :: t := by rw [hl]; exact List.take_length
    have e1 : nextTk (c :: t) 0 = ⟨2, 0, c :: t⟩ := by
      unfold nextTk
      rw [hat, if_pos hlen, List.drop_zero]
      show (if begU c then wordTk (c :: t) else _) = _
      rw [if_pos hb]
      unfold wordTk
      rw [ht, if_pos hk]
    have e2 : nextTo (c :: t) 0 = (c :: t).length := by
      unfold nextTo
      rw [hat, if_pos hlen, List.drop_zero, Nat.zero_add]
      show (if begU c then wordSize (c :: t) else _) = _
      rw [if_pos hb, hl]
    exact .cons e1 (show (2 : Int) ≠ 0 by decide) (by rw [e2, List.drop_length]; exact lx_end)
theorem dec_dig (u : Nat) : Lib.decDigits u = digN u := by
  induction u using Nat.strongRecOn with
  | ind u ih =>
    by_cases h : u < 10
    · rw [Lib.decDigits, dif_pos h, digN_small h]
      unfold dig
      rw [Nat.mod_eq_of_lt h]
    · rw [Lib.decDigits, dif_neg h, digN_more h, ih (u / 10) (by omega)]
      rfl
theorem lx_number {n : Int} (h0 : 0 ≤ n) (h1 : n ≤ 9223372036854775807) : Lx (Lib.itoa n) [⟨3, n, []⟩] := by
  have := lx_digits (n := n.toNat) (by omega) (r := []) (fun c h => by cases h) lx_end
  rw [List.append_nil, show ((n.toNat : Nat) : Int) = n by omega] at this
  unfold Lib.itoa
  rw [if_neg (by omega), dec_dig]
  exact this
theorem lx_q (s r : List UInt8) {L : List Tk} (h : Lx r L) (hr : ∀ c, r.head? = some c → (c == 39) = false) : Lx (qL s ++ r) (⟨4, 0, s⟩ :: L) := by
  have := lx_quoted h hr s
  unfold qL
  simpa using this
theorem lx_sign {op : Int} (ho : BinP op) {r : List UInt8} {L : List Tk} (h : Lx r L) : Lx (signL op ++ 32 :: r) (plainTk (sgK op) :: L) := by
  have hs := lx_space h
  have : op = 6 ∨ op = 7 ∨ op = 8 ∨ op = 10 ∨ op = 11 ∨ op = 16 ∨ op = 17 ∨ op = 18 ∨ op = 19 := by unfold BinP at ho; omega
  rcases this with rfl | rfl | rfl | rfl | rfl | rfl | rfl | rfl | rfl
  · exact lx_and h
  · exact lx_or h
  · exact .cons (k := plainTk 16) rfl (show (16 : Int) ≠ 0 by decide) hs
  · exact .cons (k := plainTk 18) rfl (show (18 : Int) ≠ 0 by decide) hs
  · exact .cons (k := plainTk 19) rfl (show (19 : Int) ≠ 0 by decide) hs
  · exact .cons (k := plainTk 22) rfl (show (22 : Int) ≠ 0 by decide) hs
  · exact .cons (k := plainTk 23) rfl (show (23 : Int) ≠ 0 by decide) hs
  · exact .cons (k := plainTk 24) rfl (show (24 : Int) ≠ 0 by decide) hs
  · exact .cons (k := plainTk 25) rfl (show (25 : Int) ≠ 0 by decide) hs
theorem lx_esc' (e : List UInt8) : Lx (escT e ++ [41]) (escK e ++ [plainTk 27]) ∧ ∀ c, (escT e ++ [41]).head? = some c → (c == 39) = false := by
  unfold escT escK
  split
  · exact ⟨lx_close lx_end, fun c h => by simp at h; subst h; rfl⟩
  · refine ⟨?_, fun c h => by simp at h; subst h; rfl⟩
    have h1 := lx_q e [41] (lx_close lx_end) (fun c h => by simp at h; subst h; rfl)
    exact lx_space (.cons (k := plainTk 13) rfl (show (13 : Int) ≠ 0 by decide) (lx_space h1))
theorem lx_null : Lx (78 :: 85 :: 76 :: 76 :: 41 :: []) [plainTk 15, plainTk 27] := .cons (k := plainTk 15) rfl (show (15 : Int) ≠ 0 by decide) (lx_close lx_end)
theorem lx_isnull : Lx (73 :: 83 :: 32 :: 78 :: 85 :: 76 :: 76 :: 41 :: []) [plainTk 14, plainTk 15, plainTk 27] := .cons (k := plainTk 14) rfl (show (14 : Int) ≠ 0 by decide) (lx_space lx_null)
theorem lx_likek {r : List UInt8} {L : List Tk} (h : Lx r L) : Lx (76 :: 73 :: 75 :: 69 :: 32 :: r) (plainTk 12 :: L) := .cons (k := plainTk 12) rfl (show (12 : Int) ≠ 0 by decide) (lx_space h)
theorem sgK_ne (op : Int) : sgK op ≠ 1 := by
  unfold sgK
  repeat' split
  all_goals decide
theorem lx_core : ∀ c, OkC c → Lx (spell c) (toks c) ∧ ∀ k ∈ toks c, k.kind ≠ 1 := by
  intro c
  induction c with
  | leaf p =>
    intro h
    show Lx (spellN p [] []) (tokN p [] []) ∧ ∀ k ∈ tokN p [] [], k.kind ≠ 1
    rcases h with ⟨h, _, _, h2⟩ | ⟨h, h2, h3, _⟩ | ⟨h, _⟩ | ⟨h | h, _⟩
    · simp [spellN, tokN, h]; exact lx_name h2
    · simp [spellN, tokN, h]; exact lx_number h2 h3
    · simp [spellN, tokN, h]
      have := lx_q p.str [] lx_end (fun c h => by cases h)
      simpa using this
    · simp [spellN, tokN, h, plainTk]
      exact .cons (k := plainTk 8) rfl (show (8 : Int) ≠ 0 by decide) lx_end
    · simp [spellN, tokN, h, plainTk]
      exact .cons (k := plainTk 9) rfl (show (9 : Int) ≠ 0 by decide) lx_end
  | un p x ih =>
    intro h
    obtain ⟨hl, hk⟩ := ih h.1
    show Lx (spellN p (spell x) []) (tokN p (toks x) []) ∧ ∀ k ∈ tokN p (toks x) [], k.kind ≠ 1
    rcases h.2 with rfl | ⟨_, rfl | hp⟩
    · have e1 : spellN (plainP' 5) (spell x) [] = 40 :: 78 :: 79 :: 84 :: 32 :: (spell x ++ 41 :: []) := by simp [spellN, plainP']
      have e2 : tokN (plainP' 5) (toks x) [] = plainTk 26 :: plainTk 7 :: (toks x ++ [plainTk 27]) := by simp [tokN, plainP']
      rw [e1, e2]
      refine ⟨lx_open (.cons (k := plainTk 7) rfl (show (7 : Int) ≠ 0 by decide) (lx_space (lx_app stop41 (lx_close lx_end) hl hk))), fun k hm => ?_⟩
      simp only [List.mem_cons, List.mem_append, List.not_mem_nil, or_false] at hm
      rcases hm with rfl | rfl | hm | rfl
      · decide
      · decide
      · exact hk k hm
      · decide
    · have e1 : spellN (plainP' 23) (spell x) [] = 40 :: (spell x ++ 32 :: 73 :: 83 :: 32 :: 78 :: 85 :: 76 :: 76 :: 41 :: []) := by simp [spellN, plainP']
      have e2 : tokN (plainP' 23) (toks x) [] = plainTk 26 :: (toks x ++ [plainTk 14, plainTk 15, plainTk 27]) := by simp [tokN, plainP']
      rw [e1, e2]
      refine ⟨lx_open (lx_app stop32 (lx_space lx_isnull) hl hk), fun k hm => ?_⟩
      simp only [List.mem_cons, List.mem_append, List.not_mem_nil, or_false] at hm
      rcases hm with rfl | hm | rfl | rfl | rfl
      · decide
      · exact hk k hm
      · decide
      · decide
      · decide
    · have ho := hp.1
      have e1 : spellN p (spell x) [] = 40 :: (spell x ++ 32 :: 76 :: 73 :: 75 :: 69 :: 32 :: (qL p.str ++ (escT p.esc ++ [41]))) := by simp [spellN, ho]
      have e2 : tokN p (toks x) [] = plainTk 26 :: (toks x ++ plainTk 12 :: ⟨4, 0, p.str⟩ :: (escK p.esc ++ [plainTk 27])) := by simp [tokN, ho]
      rw [e1, e2]
      obtain ⟨l1, l2⟩ := lx_esc' p.esc
      refine ⟨lx_open (lx_app stop32 (lx_space (lx_likek (lx_q p.str _ l1 l2))) hl hk), fun k hm => ?_⟩
      simp only [List.mem_cons, List.mem_append, List.not_mem_nil, or_false] at hm
      rcases hm with rfl | hm | rfl | rfl | hm | rfl
      · decide
      · exact hk k hm
      · decide
      · exact (by decide : (4 : Int) ≠ 1)
      · unfold escK at hm
        split at hm
        · cases hm
        · simp only [List.mem_cons, List.not_mem_nil, or_false] at hm
          rcases hm with rfl | rfl
          · decide
          · exact (by decide : (4 : Int) ≠ 1)
      · decide
  | bin p x y ihx ihy =>
    intro h
    obtain ⟨hx, hkx⟩ := ihx h.1
    obtain ⟨hy, hky⟩ := ihy h.2.1
    obtain ⟨op, ho, rfl⟩ := h.2.2
    have hne : op ≠ 0 ∧ op ≠ 1 ∧ op ≠ 2 ∧ op ≠ 3 ∧ op ≠ 4 ∧ op ≠ 5 ∧ op ≠ 22 ∧ op ≠ 23 := by unfold BinP at ho; omega
    have e1 : spell (.bin (plainP' op) x y) = 40 :: (spell x ++ 32 :: (signL op ++ 32 :: (spell y ++ 41 :: []))) := by simp [spell, spellN, plainP', hne]
    have e2 : toks (.bin (plainP' op) x y) = plainTk 26 :: (toks x ++ plainTk (sgK op) :: (toks y ++ [plainTk 27])) := by simp [toks, tokN, plainP', hne]
    rw [e1, e2]
    refine ⟨lx_open (lx_app stop32 (lx_space (lx_sign ho (lx_app stop41 (lx_close lx_end) hy hky))) hx hkx), fun k hm => ?_⟩
    simp only [List.mem_cons, List.mem_append, List.not_mem_nil, or_false] at hm
    rcases hm with rfl | hm | rfl | hm | rfl
    · decide
    · exact hkx k hm
    · exact sgK_ne op
    · exact hky k hm
    · decide
end

section
/-- Too deep, or that term and what stands behind it. -/
def Gets (r : TRes) (t : Ast) (R : List Tk) (o : Nat) : Prop := r = .err 3 ∨ r = .ok t ⟨R, o⟩
theorem Gets.row {f : TS → TRes} {ts : TS} {t : Ast} {R : List Tk} {o : Nat} (h : Gets (f ts) t R o) {ks : List Int} (hk : ks.contains (hd R).kind = false) : Gets (tRow f ks ts) t R o := by
  rcases h with h | h
  · exact .inl (row_no h)
  · exact .inr (row_one h hk)
theorem Gets.two {f : TS → TRes} {ts : TS} {l r : Ast} {k : Tk} {Y Z : List Tk} {o : Nat} (h : Gets (f ts) l (k :: Y) o) {ks : List Int} (hk : ks.contains k.kind = true) (h2 : Gets (f ⟨Y, o⟩) r Z o) (hz : ks.contains (hd Z).kind = false) : Gets (tRow f ks ts) (.bin ⟨opOf k.kind, 0, 0, [], [], []⟩ l r) Z o := by
  rcases h with h | h
  · exact .inl (row_no h)
  · rcases h2 with h2 | h2
    · exact .inl (row_two_no h hk h2)
    · exact .inr (row_two h hk h2 hz)
section
variable {L : T3} {ts : TS} {t : Ast} {R : List Tk} {o : Nat}
def sumOfT (L : T3) : TS → TRes := tRow (tRow (tSigned L.S L.E) [24, 25]) [22, 23]
theorem Gets.test (h : Gets (tTest (sumOfT L) ts) t (plainTk 27 :: R) o) (h7 : ts.tk.kind ≠ 7) : Gets ((tUp L).E ts) t (plainTk 27 :: R) o := by
  have hD : Gets ((tUp L).D ts) t (plainTk 27 :: R) o := by
    have e : (tUp L).D ts = tTest (sumOfT L) ts := by
      show tDenied L.D (tTest (sumOfT L)) ts = _
      unfold tDenied
      rw [if_neg h7]
    rw [e]
    exact h
  exact (hD.row (ks := [5]) rfl).row (ks := [6]) rfl
theorem Gets.deny (h : Gets ((tUp L).S ts) t R o) (h7 : ts.tk.kind ≠ 7) (hr : Plain (hd R).kind) : Gets ((tUp L).D ts) t R o := by
  rcases h with h | h
  · exact .inl (denied_no L ts h7 3 h)
  · exact .inr (denied_up L ts h7 t R o h hr)
theorem Gets.sum (h : Gets ((tUp L).S ts) t R o) (hr : [24, 25].contains (hd R).kind = false) (hr2 : [22, 23].contains (hd R).kind = false) : Gets (sumOfT L ts) t R o := (Gets.row h hr).row hr2
theorem Gets.group {a : List Tk} (ho : o ≠ 12) (h : Gets (L.E ⟨a, o + 1⟩) t (plainTk 27 :: R) (o + 1)) : Gets ((tUp L).S ⟨plainTk 26 :: a, o⟩) t R o := by
  rcases h with h | h
  · exact .inl (group_no L a o ho 3 h)
  · exact .inr (group_up L a R o ho t h)
end
theorem toks_hd {c : Co} (h : OkC c) (R : List Tk) : (hd (toks c ++ R)).kind ≠ 7 := by
  cases c with
  | leaf p =>
    show (hd (tokN p [] [] ++ R)).kind ≠ 7
    rcases h with ⟨h, _⟩ | ⟨h, _⟩ | ⟨h, _⟩ | ⟨h | h, _⟩ <;> simp [tokN, h, hd, plainTk]
  | un p x =>
    show (hd (tokN p (toks x) [] ++ R)).kind ≠ 7
    rcases h.2 with rfl | ⟨_, rfl | hp⟩
    · simp [tokN, plainP', hd, plainTk]
    · simp [tokN, plainP', hd, plainTk]
    · simp [tokN, hp.1, hd, plainTk]
  | bin p x y =>
    show (hd (tokN p (toks x) (toks y) ++ R)).kind ≠ 7
    obtain ⟨op, ho, rfl⟩ := h.2.2
    have hne : op ≠ 0 ∧ op ≠ 1 ∧ op ≠ 2 ∧ op ≠ 3 ∧ op ≠ 4 ∧ op ≠ 5 ∧ op ≠ 22 ∧ op ≠ 23 := by unfold BinP at ho; omega
    simp [tokN, plainP', hne, hd, plainTk]
theorem name_toks {q : CP} (h : NmP q) : toks (.leaf q) = [⟨2, 0, q.str⟩] ∧ emb (.leaf q) = tLeaf 0 0 q.str := by
  obtain ⟨h0, h1, h2, _⟩ := h
  refine ⟨by simp [toks, tokN, h0], ?_⟩
  simp [emb, embP, tLeaf, h0, h1, h2]

/-- What stands in the parentheses of a core. -/
theorem parse_core : ∀ c, OkC c → (∀ d o R, o + d = 12 → Gets ((tLvl d).S ⟨toks c ++ R, o⟩) (emb c) R o) := by
  intro c
  induction c with
  | leaf p =>
    intro h d o R _
    obtain ⟨L, eL, _⟩ := lvl_up d
    rw [eL]
    right
    show tSigned L.S L.E ⟨tokN p [] [] ++ R, o⟩ = .ok (.leaf (embP p)) ⟨R, o⟩
    rcases h with ⟨h, h1, h2, _⟩ | ⟨h, _, _, h1, h2⟩ | ⟨h, h1, h2⟩ | ⟨h | h, h1, h2, h3⟩
    · simp [tokN, h, embP, h1, h2]; rfl
    · simp [tokN, h, embP, h1, h2]; rfl
    · simp [tokN, h, embP, h1, h2]; rfl
    · simp [tokN, h, embP, h1, h2, h3]; rfl
    · simp [tokN, h, embP, h1, h2, h3]; rfl
  | un p x ih =>
    intro h d o R hod
    have hx := ih h.1
    rcases h.2 with rfl | ⟨⟨q, rfl, hq⟩, hp⟩
    · have e2 : toks (.un (plainP' 5) x) ++ R = plainTk 26 :: plainTk 7 :: (toks x ++ plainTk 27 :: R) := by simp [toks, tokN, plainP']
      rw [e2]
      cases d with
      | zero =>
        obtain rfl : o = 12 := by omega
        exact .inl rfl
      | succ d =>
        refine Gets.group (L := tLvl d) (by omega) ?_
        obtain ⟨L, eL, _⟩ := lvl_up d
        have hE : (tLvl d).E = tRow (tRow (tLvl d).D [5]) [6] := by rw [eL]; rfl
        rw [hE]
        refine Gets.row (Gets.row ?_ rfl) rfl
        cases d with
        | zero =>
          obtain rfl : o = 11 := by omega
          exact .inl rfl
        | succ d =>
          have hD : (tLvl (d + 1)).D ⟨plainTk 7 :: (toks x ++ plainTk 27 :: R), o + 1⟩ = if o + 1 = 12 then .err 3 else match (tLvl d).D ⟨toks x ++ plainTk 27 :: R, o + 1 + 1⟩ with
            | .ok x ts' => .ok (.un ⟨5, 0, 0, [], [], []⟩ x) ⟨ts'.toks, o + 1⟩
            | .err en => .err en := rfl
          rw [hD, if_neg (by omega)]
          obtain ⟨L, eL, _⟩ := lvl_up d
          have h1 : Gets ((tLvl d).D ⟨toks x ++ plainTk 27 :: R, o + 1 + 1⟩) (emb x) (plainTk 27 :: R) (o + 1 + 1) := by
            have := hx d (o + 1 + 1) (plainTk 27 :: R) (by omega)
            rw [eL] at this ⊢
            exact this.deny (toks_hd h.1 _) (.inr (.inr (.inr rfl)))
          rcases h1 with h1 | h1
          · left; rw [h1]
          · right; rw [h1]; rfl
    · obtain ⟨n1, n2⟩ := name_toks hq
      cases d with
      | zero =>
        obtain rfl : o = 12 := by omega
        have e2 : ∃ Y, toks (.un p (.leaf q)) ++ R = plainTk 26 :: Y := by
          rcases hp with rfl | hp
          · exact ⟨_, by simp [toks, tokN, plainP']; rfl⟩
          · exact ⟨_, by simp [toks, tokN, hp.1]; rfl⟩
        obtain ⟨Y, e2⟩ := e2
        rw [e2]
        exact .inl rfl
      | succ d =>
        obtain ⟨L, eL, _⟩ := lvl_up d
        have hs : ∀ Y, (tUp L).S ⟨⟨2, 0, q.str⟩ :: Y, o + 1⟩ = .ok (tLeaf 0 0 q.str) ⟨Y, o + 1⟩ := fun Y => rfl
        rcases hp with rfl | hp
        · have e2 : toks (.un (plainP' 23) (.leaf q)) ++ R = plainTk 26 :: ⟨2, 0, q.str⟩ :: plainTk 14 :: plainTk 15 :: plainTk 27 :: R := by
            show tokN (plainP' 23) (toks (.leaf q)) [] ++ R = _
            rw [n1]
            simp [tokN, plainP']
          rw [e2]
          refine Gets.group (L := tLvl d) (by omega) ?_
          rw [eL]
          refine Gets.test ?_ (show (2 : Int) ≠ 7 by decide)
          have h1 : sumOfT L ⟨⟨2, 0, q.str⟩ :: plainTk 14 :: plainTk 15 :: plainTk 27 :: R, o + 1⟩ = .ok (tLeaf 0 0 q.str) ⟨plainTk 14 :: plainTk 15 :: plainTk 27 :: R, o + 1⟩ := row_one (row_one (hs _) rfl) rfl
          right
          unfold tTest
          rw [h1]
          show TRes.ok (tNull (tLeaf 0 0 q.str)) ⟨plainTk 27 :: R, o + 1⟩ = .ok (.un (embP (plainP' 23)) (emb (.leaf q))) _
          rw [n2]
          rfl
        · have ho := hp.1
          have e2 : toks (.un p (.leaf q)) ++ R = plainTk 26 :: ⟨2, 0, q.str⟩ :: plainTk 12 :: ⟨4, 0, p.str⟩ :: (escK p.esc ++ plainTk 27 :: R) := by
            show tokN p (toks (.leaf q)) [] ++ R = _
            rw [n1]
            simp [tokN, ho]
          rw [e2]
          refine Gets.group (L := tLvl d) (by omega) ?_
          rw [eL]
          refine Gets.test ?_ (show (2 : Int) ≠ 7 by decide)
          have h1 : sumOfT L ⟨⟨2, 0, q.str⟩ :: plainTk 12 :: ⟨4, 0, p.str⟩ :: (escK p.esc ++ plainTk 27 :: R), o + 1⟩ = .ok (tLeaf 0 0 q.str) ⟨plainTk 12 :: ⟨4, 0, p.str⟩ :: (escK p.esc ++ plainTk 27 :: R), o + 1⟩ := row_one (row_one (hs _) rfl) rfl
          right
          unfold tTest
          rw [h1]
          show tLike (tLeaf 0 0 q.str) ⟨plainTk 12 :: ⟨4, 0, p.str⟩ :: (escK p.esc ++ plainTk 27 :: R), o + 1⟩ = .ok (.un (embP p) (emb (.leaf q))) _
          rw [n2]
          have he : embP p = ⟨22, 0, 0, p.str, p.esc, []⟩ := by unfold embP; rw [ho, hp.2.1]
          rw [he]
          rcases hp.2.2 with hesc | ⟨hl, hc⟩
          · rw [hesc]
            rfl
          · have : escK p.esc = [plainTk 13, ⟨4, 0, p.esc⟩] := by
              unfold escK
              rw [if_neg (by cases hq : p.esc with
                | nil => rw [hq] at hl; simp at hl
                | cons a r => simp)]
            rw [this]
            show (if (4 : Int) = 4 ∧ p.esc.length = 1 ∧ (cutL p.esc p.str).isSome = true then _ else _) = _
            rw [if_pos ⟨rfl, hl, hc⟩]
            rfl
  | bin p x y ihx ihy =>
    intro h d o R hod
    have hx := ihx h.1
    have hy := ihy h.2.1
    obtain ⟨op, ho, rfl⟩ := h.2.2
    have hne : op ≠ 0 ∧ op ≠ 1 ∧ op ≠ 2 ∧ op ≠ 3 ∧ op ≠ 4 ∧ op ≠ 5 ∧ op ≠ 22 ∧ op ≠ 23 := by unfold BinP at ho; omega
    have e2 : toks (.bin (plainP' op) x y) ++ R = plainTk 26 :: (toks x ++ plainTk (sgK op) :: (toks y ++ plainTk 27 :: R)) := by simp [toks, tokN, plainP', hne]
    rw [e2]
    cases d with
    | zero =>
      obtain rfl : o = 12 := by omega
      exact .inl rfl
    | succ d =>
      refine Gets.group (L := tLvl d) (by omega) ?_
      obtain ⟨L, eL, _⟩ := lvl_up d
      have sx := hx d (o + 1) (plainTk (sgK op) :: (toks y ++ plainTk 27 :: R)) (by omega)
      have sy := hy d (o + 1) (plainTk 27 :: R) (by omega)
      rw [eL] at sx sy ⊢
      have x7 := toks_hd h.1 (plainTk (sgK op) :: (toks y ++ plainTk 27 :: R))
      have y7 := toks_hd h.2.1 (plainTk 27 :: R)
      show Gets _ (.bin ⟨op, 0, 0, [], [], []⟩ (emb x) (emb y)) _ _
      have : op = 6 ∨ op = 7 ∨ (op = 8 ∨ op = 10 ∨ op = 11) ∨ (op = 16 ∨ op = 17) ∨ (op = 18 ∨ op = 19) := by unfold BinP at ho; omega
      rcases this with rfl | rfl | hc | hc | hc
      · have a := sx.deny x7 (.inr (.inl rfl))
        have b := sy.deny y7 (.inr (.inr (.inr rfl)))
        exact (Gets.two a (ks := [5]) rfl b rfl).row (ks := [6]) rfl
      · have a := (sx.deny x7 (.inr (.inr (.inl rfl)))).row (ks := [5]) rfl
        have b := (sy.deny y7 (.inr (.inr (.inr rfl)))).row (ks := [5]) rfl
        exact Gets.two a (ks := [6]) rfl b rfl
      · refine Gets.test ?_ x7
        have a : Gets (sumOfT L _) _ _ _ := sx.sum (by rcases hc with rfl | rfl | rfl <;> rfl) (by rcases hc with rfl | rfl | rfl <;> rfl)
        have b : Gets (sumOfT L _) _ _ _ := sy.sum rfl rfl
        rcases a with a | a
        · left; unfold tTest; rw [a]
        · have e : ∀ bare, tTail (sumOfT L) bare (emb x) ⟨plainTk (sgK op) :: (toks y ++ plainTk 27 :: R), o + 1⟩ = tJoin (sumOfT L) ⟨plainTk (sgK op) :: (toks y ++ plainTk 27 :: R), o + 1⟩ (emb x) := by
            intro bare
            rcases hc with rfl | rfl | rfl <;> rfl
          have e3 : opOf (sgK op) = op := by rcases hc with rfl | rfl | rfl <;> rfl
          rcases b with b | b
          · left
            unfold tTest
            rw [a]
            simp only
            rw [e]
            unfold tJoin
            show (match sumOfT L ⟨toks y ++ plainTk 27 :: R, o + 1⟩ with
              | .ok r ts' => TRes.ok (.bin ⟨opOf (sgK op), 0, 0, [], [], []⟩ (emb x) r) ts'
              | .err en => .err en) = _
            rw [b]
          · right
            unfold tTest
            rw [a]
            simp only
            rw [e]
            unfold tJoin
            show (match sumOfT L ⟨toks y ++ plainTk 27 :: R, o + 1⟩ with
              | .ok r ts' => TRes.ok (.bin ⟨opOf (sgK op), 0, 0, [], [], []⟩ (emb x) r) ts'
              | .err en => .err en) = _
            rw [b, e3]
      · refine Gets.test ?_ x7
        have a := Gets.row sx (ks := [24, 25]) (by rcases hc with rfl | rfl <;> rfl)
        have b := Gets.row sy (ks := [24, 25]) rfl
        have e3 : opOf (sgK op) = op := by rcases hc with rfl | rfl <;> rfl
        have c : Gets (sumOfT L _) _ _ _ := Gets.two a (ks := [22, 23]) (by rcases hc with rfl | rfl <;> rfl) b rfl
        rcases c with c | c
        · left; unfold tTest; rw [c]
        · right
          unfold tTest
          rw [c]
          simp only
          rw [tail_plain _ _ _ _ (.inr (.inr (.inr rfl)))]
          show TRes.ok (.bin ⟨opOf (sgK op), 0, 0, [], [], []⟩ (emb x) (emb y)) _ = _
          rw [e3]
      · refine Gets.test ?_ x7
        have e3 : opOf (sgK op) = op := by rcases hc with rfl | rfl <;> rfl
        have c : Gets (sumOfT L _) _ _ _ := (Gets.two sx (ks := [24, 25]) (by rcases hc with rfl | rfl <;> rfl) sy rfl).row rfl
        rcases c with c | c
        · left; unfold tTest; rw [c]
        · right
          unfold tTest
          rw [c]
          simp only
          rw [tail_plain _ _ _ _ (.inr (.inr (.inr rfl)))]
          show TRes.ok (.bin ⟨opOf (sgK op), 0, 0, [], [], []⟩ (emb x) (emb y)) _ = _
          rw [e3]

theorem chk_of_read {s : ByteArray} {t : Ast} (h : readR s = .ok t) : chkR (clsA t) = none := by
  unfold readR at h
  by_cases hs : s.size ≤ 200
  · rw [if_pos hs] at h
    cases he : (lvl s 12).E (stepSt s st0) with
    | err en pl => rw [he] at h; cases h
    | ok t' st =>
      rw [he] at h
      simp only [endR] at h
      split at h
      · split at h
        · rename_i hc
          injection h with e; subst e; exact hc
        · cases h
      · cases h
  · rw [if_neg hs] at h; cases h
/-- The canonical text is too long, too deep, or read as the core. -/
theorem read_core {s : ByteArray} {t : Ast} (h : readR s = .ok t) : Big (BS (spell (coreA t))) (emb (coreA t)) := by
  obtain ⟨_, _, hsh, hnum, _, _⟩ := gd_of_read h
  have hok := ok_core t hsh (bz_of_read h) hnum
  obtain ⟨hl, _⟩ := lx_core _ hok
  have hp := parse_core _ hok 12 0 [] rfl
  obtain ⟨k, hk, hk3⟩ := chk_ok (chk_of_read h)
  refine big_of _ (toks (coreA t)) hl _ ?_ ?_
  · rw [List.append_nil] at hp
    have e7 := toks_hd hok []
    rw [List.append_nil] at e7
    have hD : Gets ((tLvl 12).D ⟨toks (coreA t), 0⟩) (emb (coreA t)) [] 0 := Gets.deny (L := tLvl 11) hp e7 (.inl rfl)
    exact (hD.row (ks := [5]) rfl).row (ks := [6]) rfl
  · have := (core_means t hsh k hk).1
    unfold ClC at this
    rw [this]
    rcases hk3 with rfl | rfl <;> rfl
end

section
theorem core_erase : ∀ t, coreA (erase t) = coreA t := by
  intro t
  induction t with
  | leaf p => rfl
  | un p x ih => show coreA (.un (noPl p) (erase x)) = _; simp only [coreA, ih]; rfl
  | bin p x y ihx ihy => show coreA (.bin (noPl p) (erase x) (erase y)) = _; simp only [coreA, ihx, ihy]; rfl
  | tri p x y z ihx ihy ihz => show coreA (.tri (noPl p) (erase x) (erase y) (erase z)) = _; simp only [coreA, ihx, ihy, ihz]
theorem toks_ne (c : Co) : toks c ≠ [] := by
  have : ∀ p l r, tokN p l r ≠ [] := by
    intro p l r
    unfold tokN
    repeat' split
    all_goals simp
  cases c <;> exact this _ _ _
theorem spell_ne {c : Co} (h : OkC c) : spell c ≠ [] := by
  intro e
  have hl := (lx_core c h).1
  rw [e] at hl
  cases hk : toks c with
  | nil => exact toks_ne c hk
  | cons k L =>
    rw [hk] at hl
    cases hl with
    | cons e h _ => exact h (by rw [← e]; rfl)
theorem meant_facts {s : ByteArray} {t : Ast} (h : readR s = .ok t) : spell (coreA t) ≠ [] ∧ (spell (coreA t)).length ≤ 120000000 ∧
    ((∃ en pl, readR (BS (spell (coreA t))) = .err en pl ∧ (en = 1 ∨ en = 3)) ∨ ∃ t', readR (BS (spell (coreA t))) = .ok t' ∧ coreA t' = coreA t ∧ ∀ ps, evOk ps = true → ofA ps t' = ofA ps t) := by
  obtain ⟨hgd, hnd, hsh, hnum, _, _⟩ := gd_of_read h
  refine ⟨spell_ne (ok_core t hsh (bz_of_read h) hnum), ?_, ?_⟩
  · have h1 := hgd.gd.len
    have h2 : ndA t * ndA t ≤ 200 * 200 := Nat.mul_le_mul hnd hnd
    omega
  · rcases read_core h with ⟨_, h1⟩ | ⟨pl, h1⟩ | ⟨t', h1, h2, _⟩
    · exact .inl ⟨1, 0, h1, .inl rfl⟩
    · exact .inl ⟨3, pl, h1, .inr rfl⟩
    · refine .inr ⟨t', h1, ?_, fun ps hev => ?_⟩
      · rw [← core_erase t', h2]
        exact (fx_core t hsh).eq
      · obtain ⟨k, hk, _⟩ := chk_ok (chk_of_read h)
        rw [← of_erase ps t', h2]
        exact (core_means t hsh k hk).2 ps hev
end

section
/-- A list of properties as an argument, an event or not. -/
def EvIn (w : World) (ev : Value) (ps : List Pr) : Prop :=
  (ps = [] ∧ ∃ a cap, ev = .slice a 0 cap) ∨ ∃ b off cap, ev = .slice (some ⟨b, off, none⟩) ps.length cap ∧ ps.length ≤ cap ∧ EvAt w b off ps ∧ b < w.heap.size

theorem EvIn.below {w w' : World} {ev : Value} {ps : List Pr} (h : EvIn w ev ps) (hb : Below w.heap.size w w') : EvIn w' ev ps := by
  rcases h with h | ⟨b, off, cap, rfl, hc, he, hlt⟩
  · exact .inl h
  · exact .inr ⟨b, off, cap, rfl, hc, he.below hb hlt, Nat.lt_of_lt_of_le hlt hb.size⟩
theorem EvIn.slice {w : World} {ev : Value} {ps : List Pr} (h : EvIn w ev ps) : ∃ a n c, ev = .slice a n c := by
  rcases h with ⟨_, a, cap, rfl⟩ | ⟨b, off, cap, rfl, _⟩
  · exact ⟨_, _, _, rfl⟩
  · exact ⟨_, _, _, rfl⟩
theorem EvIn.arg {w : World} {ev : Value} {ps : List Pr} (h : EvIn w ev ps) (h8 : ps.length ≤ 8) : EvArg w ev ps := by
  refine ⟨h8, ?_⟩
  rcases h with h | ⟨b, off, cap, rfl, hc, he, hlt⟩
  · exact .inl h
  · exact .inr ⟨b, off, cap, rfl, he, hlt⟩

/-- What any machine says of the sizes and numbers in it. -/
structure EvGood (ps : List Pr) : Prop where
  short : Short ps
  rng : EvRng ps
  len : ps.length ≤ 140737488355328

theorem valid_in {w : World} {ev : Value} {ps : List Pr} (h : EvIn w ev ps) (hg : EvGood ps) :
    Calls Tryz.prog 37 #[ev] w fun e w' => e = .returned (.bool (evOk ps)) ∧ Below w.heap.size w w' := by
  rcases h with ⟨rfl, a, cap, rfl⟩ | ⟨b, off, cap, rfl, hc, he, hlt⟩
  · exact valid_empty a cap w
  · exact evValid_any b off cap ps w hc hg.len hg.short he hlt

theorem evOk_8 {ps : List Pr} (h : evOk ps = true) : ps.length ≤ 8 := by
  apply Decidable.byContradiction
  intro hn
  rw [evOk_long hn] at h
  cases h
theorem evOk_at {ps : List Pr} (h : evOk ps = true) {p : Pr} (hp : p ∈ ps) : nameOk p.name = true ∧ valOk p.val = true := by
  obtain ⟨k, hk⟩ := List.getElem?_of_mem hp
  unfold evOk at h
  rw [Bool.and_eq_true, List.all_eq_true] at h
  obtain ⟨hlt, _⟩ := List.getElem?_eq_some_iff.1 hk
  have := h.2 k (List.mem_range.2 hlt)
  unfold okAt at this
  rw [hk] at this
  simp only [Bool.and_eq_true] at this
  exact this.1
theorem valOk_str {v : V} (h : valOk v = true) : v.str.length ≤ 20 := by
  apply Decidable.byContradiction
  intro hn
  have he : v.str.isEmpty = false := by cases hs : v.str with
    | nil => rw [hs] at hn; simp at hn
    | cons c t => rfl
  have hd : decide (v.str.length ≤ 20) = false := decide_eq_false hn
  simp only [valOk, he, hd, Bool.and_false, Bool.false_eq_true, ite_self] at h
theorem evSh_of {ps : List Pr} (h : evOk ps = true) : EvSh ps := fun p hp => Nat.le_trans (valOk_str (evOk_at h hp).2) (by decide)

theorem read_good {s : ByteArray} {t : Ast} (h : readR s = .ok t) : NumA t ∧ BndA t := by
  unfold readR at h
  by_cases hs : s.size ≤ 200
  · rw [if_pos hs] at h
    cases he : (lvl s 12).E (stepSt s st0) with
    | err en pl => rw [he] at h; cases h
    | ok t1 st =>
      rw [he] at h
      change endR t1 st = _ at h
      have : t1 = t := by
        unfold endR at h
        split at h
        · split at h
          · injection h
          · cases h
        · cases h
      subst this
      exact ⟨((lvl_num s 12).E _ _ _ (stepSt_tk s st0) he).1, ((lvl_bnd s hs 12).E _ _ _ (stepSt_ln hs st0) he).1⟩
  · rw [if_neg hs] at h; cases h

set_option maxHeartbeats 1000000 in
set_option maxRecDepth 100000 in
theorem eval_in_ok (s : ByteArray) (hs : s.size ≤ 140737488355328) (t : Ast) (hrd : readR s = .ok t) (ps : List Pr) (ev : Value) (w : World) (hE : ErrOk w)
    (hev : EvIn w ev ps) (hg : EvGood ps) (hok : evOk ps = true) :
    Calls Tryz.prog 23 #[.string s, ev] w fun e w' => e = .returned (.tuple #[vV (ofA ps t), .int .i64 0, .int .i64 0]) ∧ Below w.heap.size w w' := by
  have hof : ∀ lo, OfOk lo ps ev t := fun lo => of_every lo ps ev hg.rng (evSh_of hok) t (read_good hrd).2 (read_good hrd).1
  have hlen : (ofA ps t).str.length ≤ 281474976710656 := Nat.le_trans (sh_ofA (evSh_of hok) t (read_good hrd).2) (by decide)
  have RD := hide (read_any s (w.alloc (.cells #[.int .i64 0, .int .i64 0, .string ⟨#[]⟩] 26)) (hE.alloc _) hs)
  rw [hrd] at RD
  have hbl := (Below.refl w.heap.size w).alloc (Nat.le_refl _) (.cells #[.int .i64 0, .int .i64 0, .string ⟨#[]⟩] 26)
  have EVA := hide (hev.below hbl)
  obtain ⟨a, n, c, rfl⟩ := hev.slice
  have HV := hide (fun w1 (h : EvIn w1 (.slice a n c) ps) => valid_in h hg)
  rw [hok] at HV
  have HOF := hide hof
  have HB8 := hide (evOk_8 hok)
  obtain ⟨r, hr⟩ : ∃ r, ofA ps t = r := ⟨_, rfl⟩
  rw [hr] at hlen ⊢
  have HR := hide hr
  have hzs := BS_size r.str
  have hcl : (BS r.str).size ≤ 281474976710656 := by omega
  clear hrd hE hg hev hok hof hr hlen hzs
  go_enter Tryz.func23, Tryz.ntmps23
  go_wp2_with (first | (go_at_call 36; refine (unhide RD).mono ?_; rintro e w1 ⟨hb1, v1, rfl, hn1⟩; obtain ⟨vb, rfl⟩ := hn1.ptr; have hz1 : w.heap.size < w1.heap.size := (by have := hb1.size; simp at this; omega); have EV1 := hide ((unhide EVA).below hb1); have g0 : w1.cell? ⟨w.heap.size, 0, none⟩ = some (.int .i64 0) := ((bcell hb1).1 _ 0 (by simp)).trans (by simp); have g1 : w1.cell? ⟨w.heap.size, 1, none⟩ = some (.int .i64 0) := ((bcell hb1).1 _ 1 (by simp)).trans (by simp); have g2 : w1.cell? ⟨w.heap.size, 2, none⟩ = some (.string ⟨#[]⟩) := ((bcell hb1).1 _ 2 (by simp)).trans (by simp); have z0 : ∀ j, w1.frozen? ⟨w.heap.size, j, none⟩ = false := (fun j => ((bcell hb1).2 _ j (by simp)).trans (by simp)); have hB1 := hide (below_any hbl hb1); have hN1 := hide hn1; clear hb1 hn1) | (go_at_call 37; refine (unhide HV _ (unhide EV1)).mono ?_; rintro e w2 ⟨rfl, hb2⟩; have hz2 : w.heap.size < w2.heap.size := (by have := hb2.size; omega); have EV2 := hide ((unhide EV1).below hb2); have k0 : w2.cell? ⟨w.heap.size, 0, none⟩ = some (.int .i64 0) := ((bcell hb2).1 _ 0 hz1).trans g0; have k1 : w2.cell? ⟨w.heap.size, 1, none⟩ = some (.int .i64 0) := ((bcell hb2).1 _ 1 hz1).trans g1; have k2 : w2.cell? ⟨w.heap.size, 2, none⟩ = some (.string ⟨#[]⟩) := ((bcell hb2).1 _ 2 hz1).trans g2; have z2 : ∀ j, w2.frozen? ⟨w.heap.size, j, none⟩ = false := (fun j => ((bcell hb2).2 _ j hz1).trans (z0 j)); have hN2 := hide ((unhide hN1).kept (Kept.of_below hb2)); have hB2 := hide (below_any (unhide hB1) hb2); clear hb2 g0 g1 g2 z0) | (go_at_call 38; refine (unhide HOF _ _ _ (unhide hN2) ((unhide EV2).arg (unhide HB8))).mono ?_; rw [unhide HR]; rintro e w3 ⟨rfl, hb3⟩; have hz3 : w.heap.size < w3.heap.size := (by have := hb3.size; omega); have m0 : w3.cell? ⟨w.heap.size, 0, none⟩ = some (.int .i64 0) := ((bcell hb3).1 _ 0 hz2).trans k0; have m1 : w3.cell? ⟨w.heap.size, 1, none⟩ = some (.int .i64 0) := ((bcell hb3).1 _ 1 hz2).trans k1; have m2 : w3.cell? ⟨w.heap.size, 2, none⟩ = some (.string ⟨#[]⟩) := ((bcell hb3).1 _ 2 hz2).trans k2; have z3 : ∀ j, w3.frozen? ⟨w.heap.size, j, none⟩ = false := (fun j => ((bcell hb3).2 _ j hz2).trans (z2 j)); have hB3 := hide (below_any (unhide hB2) hb3); clear hb3 k0 k1 k2 z2; simp only [vV]) | (go_at_call 39; refine (clone_any (BS r.str) _ hcl).mono ?_; rintro e w4 ⟨rfl, hb4⟩; have hz4 : w3.heap.size < w4.heap.size := (by have := hb4.size; simp at this; omega); have n0 : w4.cell? ⟨w.heap.size, 0, none⟩ = some (.int .i64 0) := ((bcell hb4).1 _ 0 (by simp; omega)).trans (by rw [World.cell?_alloc_past _ _ _ hz3]; exact m0); have n1 : w4.cell? ⟨w.heap.size, 1, none⟩ = some (.int .i64 0) := ((bcell hb4).1 _ 1 (by simp; omega)).trans (by rw [World.cell?_alloc_past _ _ _ hz3]; exact m1); have n2 : w4.cell? ⟨w.heap.size, 2, none⟩ = some (.string ⟨#[]⟩) := ((bcell hb4).1 _ 2 (by simp; omega)).trans (by rw [World.cell?_alloc_past _ _ _ hz3]; exact m2); have z4 : ∀ j, w4.frozen? ⟨w.heap.size, j, none⟩ = false := (fun j => ((bcell hb4).2 _ j (by simp; omega)).trans (by rw [World.frozen?_alloc_past _ _ _ hz3]; exact z3 j)); have a0 : w4.cell? ⟨w3.heap.size, 0, none⟩ = some (.int .i64 r.kind) := ((bcell hb4).1 _ 0 (by simp)).trans (by simp); have a1 : w4.cell? ⟨w3.heap.size, 1, none⟩ = some (.int .i64 r.num) := ((bcell hb4).1 _ 1 (by simp)).trans (by simp); have a2 : w4.cell? ⟨w3.heap.size, 2, none⟩ = some (.string (BS r.str)) := ((bcell hb4).1 _ 2 (by simp)).trans (by simp); have z5 : ∀ j, w4.frozen? ⟨w3.heap.size, j, none⟩ = false := (fun j => ((bcell hb4).2 _ j (by simp)).trans (by simp)); have hne : ¬ w3.heap.size = w.heap.size := (by omega); have hB4 := hide (below_any (below_alloc (unhide hB3) _) hb4); clear hb4 m0 m1 m2 z3))
  refine bodyPost_ret (by simp [results, Tryz.results23, go_sem, n0, n1, n2] <;> rfl) rfl ⟨rfl, ?_⟩
  exact ((((unhide hB4).setCell (by simp; omega) _).setCell (by simp) _).setCell (by simp) _).setCell (by simp) _

set_option maxHeartbeats 1000000 in
set_option maxRecDepth 100000 in
theorem eval_in_bad (s : ByteArray) (hs : s.size ≤ 140737488355328) (t : Ast) (hrd : readR s = .ok t) (ps : List Pr) (ev : Value) (w : World) (hE : ErrOk w)
    (hev : EvIn w ev ps) (hg : EvGood ps) (hok : evOk ps = false) :
    Calls Tryz.prog 23 #[.string s, ev] w fun e w' => e = .returned (.tuple #[vV nV, .int .i64 7, .int .i64 0]) ∧ Below w.heap.size w w' := by
  have RD := hide (read_any s (w.alloc (.cells #[.int .i64 0, .int .i64 0, .string ⟨#[]⟩] 26)) (hE.alloc _) hs)
  rw [hrd] at RD
  have hbl := (Below.refl w.heap.size w).alloc (Nat.le_refl _) (.cells #[.int .i64 0, .int .i64 0, .string ⟨#[]⟩] 26)
  have EVA := hide (hev.below hbl)
  obtain ⟨a, n, c, rfl⟩ := hev.slice
  have HV := hide (fun w1 (h : EvIn w1 (.slice a n c) ps) => valid_in h hg)
  rw [hok] at HV
  clear hrd hE hg hev hok
  go_enter Tryz.func23, Tryz.ntmps23
  go_wp2_with (first | (go_at_call 36; refine (unhide RD).mono ?_; rintro e w1 ⟨hb1, v1, rfl, hn1⟩; obtain ⟨vb, rfl⟩ := hn1.ptr; have hz1 : w.heap.size < w1.heap.size := (by have := hb1.size; simp at this; omega); have EV1 := hide ((unhide EVA).below hb1); have g0 : w1.cell? ⟨w.heap.size, 0, none⟩ = some (.int .i64 0) := ((bcell hb1).1 _ 0 (by simp)).trans (by simp); have g1 : w1.cell? ⟨w.heap.size, 1, none⟩ = some (.int .i64 0) := ((bcell hb1).1 _ 1 (by simp)).trans (by simp); have g2 : w1.cell? ⟨w.heap.size, 2, none⟩ = some (.string ⟨#[]⟩) := ((bcell hb1).1 _ 2 (by simp)).trans (by simp); have z0 : ∀ j, w1.frozen? ⟨w.heap.size, j, none⟩ = false := (fun j => ((bcell hb1).2 _ j (by simp)).trans (by simp)); have hB1 := hide (below_any hbl hb1); clear hb1 hn1) | (go_at_call 37; refine (unhide HV _ (unhide EV1)).mono ?_; rintro e w2 ⟨rfl, hb2⟩; have hz2 : w.heap.size < w2.heap.size := (by have := hb2.size; omega); have k0 : w2.cell? ⟨w.heap.size, 0, none⟩ = some (.int .i64 0) := ((bcell hb2).1 _ 0 hz1).trans g0; have k1 : w2.cell? ⟨w.heap.size, 1, none⟩ = some (.int .i64 0) := ((bcell hb2).1 _ 1 hz1).trans g1; have k2 : w2.cell? ⟨w.heap.size, 2, none⟩ = some (.string ⟨#[]⟩) := ((bcell hb2).1 _ 2 hz1).trans g2; have z2 : ∀ j, w2.frozen? ⟨w.heap.size, j, none⟩ = false := (fun j => ((bcell hb2).2 _ j hz1).trans (z0 j)); have hB2 := hide (below_any (unhide hB1) hb2); clear hb2 g0 g1 g2 z0))
  refine bodyPost_ret (by simp [results, Tryz.results23, go_sem, k0, k1, k2] <;> rfl) rfl ⟨rfl, ?_⟩
  exact (((unhide hB2).setCell (by simp) _).setCell (by simp) _).setCell (by simp) _

set_option maxHeartbeats 1000000 in
set_option maxRecDepth 100000 in
theorem eval_in_err (s : ByteArray) (hs : s.size ≤ 140737488355328) (en pl : Int) (hrd : readR s = .err en pl) (ev : Value) (w : World) (hE : ErrOk w) (hev : ∃ a n c, ev = .slice a n c) :
    Calls Tryz.prog 23 #[.string s, ev] w fun e w' => e = .returned (.tuple #[vV nV, .int .i64 en, .int .i64 pl]) ∧ Below w.heap.size w w' := by
  have RD := hide (read_any s (w.alloc (.cells #[.int .i64 0, .int .i64 0, .string ⟨#[]⟩] 26)) (hE.alloc _) hs)
  rw [hrd] at RD
  have hbl := (Below.refl w.heap.size w).alloc (Nat.le_refl _) (.cells #[.int .i64 0, .int .i64 0, .string ⟨#[]⟩] 26)
  obtain ⟨a, n, c, rfl⟩ := hev
  have hen : (en != 0) = true := by rcases read_err_pos hrd with h | h | h | h <;> rw [h] <;> rfl
  have hen' : (en == 0) = false := by rcases read_err_pos hrd with h | h | h | h <;> rw [h] <;> rfl
  clear hrd hE
  go_enter Tryz.func23, Tryz.ntmps23
  go_wp2_with (first | (go_at_call 36; refine (unhide RD).mono ?_; rintro e w1 ⟨hb1, rfl⟩; have hz1 : w.heap.size < w1.heap.size := (by have := hb1.size; simp at this; omega); have g0 : w1.cell? ⟨w.heap.size, 0, none⟩ = some (.int .i64 0) := ((bcell hb1).1 _ 0 (by simp)).trans (by simp); have g1 : w1.cell? ⟨w.heap.size, 1, none⟩ = some (.int .i64 0) := ((bcell hb1).1 _ 1 (by simp)).trans (by simp); have g2 : w1.cell? ⟨w.heap.size, 2, none⟩ = some (.string ⟨#[]⟩) := ((bcell hb1).1 _ 2 (by simp)).trans (by simp); have z0 : ∀ j, w1.frozen? ⟨w.heap.size, j, none⟩ = false := (fun j => ((bcell hb1).2 _ j (by simp)).trans (by simp)); have hB1 := hide (below_any hbl hb1); clear hb1))
  refine bodyPost_ret (by simp [results, Tryz.results23, go_sem, g0, g1, g2] <;> rfl) rfl ⟨rfl, ?_⟩
  exact (((unhide hB1).setCell (by simp) _).setCell (by simp) _).setCell (by simp) _

/-- What Eval says. -/
structure Ans where
  val : V
  errno : Int
  place : Int
def evalR (s : ByteArray) (ps : List Pr) : Ans := match readR s with
  | .err en pl => ⟨nV, en, pl⟩
  | .ok t => if evOk ps then ⟨ofA ps t, 0, 0⟩ else ⟨nV, 7, 0⟩

theorem eval_any (s : ByteArray) (hs : s.size ≤ 140737488355328) (ps : List Pr) (ev : Value) (w : World) (hE : ErrOk w) (hev : EvIn w ev ps) (hg : EvGood ps) :
    Calls Tryz.prog 23 #[.string s, ev] w fun e w' => e = .returned (.tuple #[vV (evalR s ps).val, .int .i64 (evalR s ps).errno, .int .i64 (evalR s ps).place]) ∧ Below w.heap.size w w' := by
  unfold evalR
  cases hrd : readR s with
  | err en pl => exact eval_in_err s hs en pl hrd ev w hE hev.slice
  | ok t =>
    cases hok : evOk ps with
    | true => exact eval_in_ok s hs t hrd ps ev w hE hev hg hok
    | false => exact eval_in_bad s hs t hrd ps ev w hE hev hg hok
end

section
def evs : List Pr := [⟨[97], iV 5⟩]
def eventedS (w : World) : World := w.alloc (.cells #[.string ⟨#[97]⟩, .int .i64 2, .int .i64 5, .string ⟨#[]⟩] 28)

set_option maxHeartbeats 400000 in
theorem small_any (w : World) :
    Calls Tryz.prog 35 #[] w fun e w' => e = .returned (.slice (some ⟨w.heap.size, 0, none⟩) 1 1) ∧ w' = eventedS w := by
  go_enter Tryz.func35, Tryz.ntmps35
  go_wp2_with fail
  go_ret
  exact ⟨rfl, rfl⟩

theorem eventedS_at (w : World) : EvAt (eventedS w) w.heap.size 0 evs := by
  intro k p hk
  unfold eventedS
  match k, hk with
  | 0, hk =>
    have : p = ⟨[97], iV 5⟩ := by simpa [evs] using hk.symm
    subst this
    refine ⟨?_, ?_, ?_, ?_⟩
    all_goals (rw [World.cell?_alloc_at _ _ _ _ rfl]; rfl)
  | k + 1, hk => simp [evs] at hk
theorem evs_good : EvGood evs := by
  refine ⟨fun p hp => ?_, fun p hp => ?_, by simp [evs]⟩
  · simp [evs] at hp; subst hp; exact ⟨by decide, by decide⟩
  · simp [evs] at hp; subst hp; exact ⟨by decide, by decide⟩
theorem evs_in {w w1 : World} (hb : Below (eventedS w).heap.size (eventedS w) w1) : EvIn w1 (.slice (some ⟨w.heap.size, 0, none⟩) 1 1) evs := by
  have hz : (eventedS w).heap.size = w.heap.size + 1 := by simp [eventedS]
  exact .inr ⟨w.heap.size, 0, 1, rfl, by simp [evs], (eventedS_at w).below hb (by omega), by have := hb.size; omega⟩

theorem is_in (s : ByteArray) (hs : s.size ≤ 140737488355328) (ps : List Pr) (ev : Value) (want : V) (w : World) (hE : ErrOk w) (hev : EvIn w ev ps) (hg : EvGood ps) (hr : evalR s ps = ⟨want, 0, 0⟩) :
    Calls Tryz.prog 17 #[.string s, ev, vV want] w fun e w' => e = .returned (.bool true) ∧ Below w.heap.size w w' := by
  refine (is_any s ev want want hev.slice w (fun w1 hb _ => ?_)).mono ?_
  · have := eval_any s hs ps ev w1 (hE.below hb (Nat.le_refl _)) (hev.below hb) hg
    rw [hr] at this
    exact this
  · rintro e w' ⟨rfl, h⟩
    exact ⟨by simp, h⟩

def textR1 : ByteArray := ⟨#[97, 32, 43, 32, 49, 32, 61, 32, 54, 32, 65, 78, 68, 32, 78, 79, 84, 32, 98, 32, 73, 83, 32, 78, 85, 76, 76, 32, 79, 82, 32, 97, 32, 62, 32, 52]⟩
def textR2 : ByteArray := ⟨#[97, 32, 60, 32, 53]⟩
set_option maxRecDepth 100000 in
theorem evalR1 : evalR textR1 evs = ⟨bV true, 0, 0⟩ := by kernel_rfl
set_option maxRecDepth 100000 in
theorem evalR2 : evalR textR2 evs = ⟨bV false, 0, 0⟩ := by kernel_rfl

set_option maxHeartbeats 1000000 in
theorem reads_any (w : World) (hE : ErrOk w) :
    Calls Tryz.prog 22 #[] w fun e w' => e = .returned (.bool true) ∧ Below w.heap.size w w' := by
  have hz : (eventedS w).heap.size = w.heap.size + 1 := by simp [eventedS]
  have hE0 : ErrOk (eventedS w) := hE.alloc _
  have I1 : Hid (∀ w1, Below (eventedS w).heap.size (eventedS w) w1 → Calls Tryz.prog 17 #[.string textR1, .slice (some ⟨w.heap.size, 0, none⟩) 1 1, vV (bV true)] w1 fun e w' => e = .returned (.bool true) ∧ Below w1.heap.size w1 w') :=
    hide (fun w1 hb => is_in textR1 (by decide) evs _ _ w1 (hE0.below hb (Nat.le_refl _)) (evs_in hb) evs_good evalR1)
  have I2 : Hid (∀ w1, Below (eventedS w).heap.size (eventedS w) w1 → Calls Tryz.prog 17 #[.string textR2, .slice (some ⟨w.heap.size, 0, none⟩) 1 1, vV (bV false)] w1 fun e w' => e = .returned (.bool true) ∧ Below w1.heap.size w1 w') :=
    hide (fun w1 hb => is_in textR2 (by decide) evs _ _ w1 (hE0.below hb (Nat.le_refl _)) (evs_in hb) evs_good evalR2)
  have HB : Hid (Below (eventedS w).heap.size (eventedS w) (eventedS w)) := hide (Below.refl _ _)
  have BW : Hid (∀ w1, Below (eventedS w).heap.size (eventedS w) w1 → Below w.heap.size w w1) := hide (fun w1 h => below_any ((Below.refl _ _).alloc (Nat.le_refl _) _) h)
  clear hE hE0 hz
  go_enter Tryz.func22, Tryz.ntmps22
  go_wp2_with fail
  refine (small_any _).mono ?_
  rintro e w1 ⟨rfl, rfl⟩
  go_wp2_with fail
  refine (truth_any _ _).mono ?_
  rintro e w1 ⟨rfl, hb⟩
  replace HB := hide (below_any (unhide HB) hb)
  clear hb
  go_wp2_with fail
  refine (unhide I1 _ (unhide HB)).mono ?_
  rintro e w2 ⟨rfl, hb⟩
  replace HB := hide (below_any (unhide HB) hb)
  clear hb
  go_wp2_with fail
  refine (truth_any _ _).mono ?_
  rintro e w3 ⟨rfl, hb⟩
  replace HB := hide (below_any (unhide HB) hb)
  clear hb
  go_wp2_with fail
  refine (unhide I2 _ (unhide HB)).mono ?_
  rintro e w4 ⟨rfl, hb⟩
  replace HB := hide (below_any (unhide HB) hb)
  clear hb
  go_wp2_with fail
  go_ret
  exact ⟨rfl, unhide BW _ (unhide HB)⟩
end

section
/-- A value lies in a block. -/
def Vat (W : World) (b : Nat) (v : V) : Prop := W.cell? ⟨b, 0, none⟩ = some (.int .i64 v.kind) ∧ W.cell? ⟨b, 1, none⟩ = some (.int .i64 v.num) ∧ W.cell? ⟨b, 2, none⟩ = some (.string (BS v.str)) ∧ b < W.heap.size
theorem Vat.below {W w1 : World} {b : Nat} {v : V} (h : Vat W b v) (hb : Below W.heap.size W w1) : Vat w1 b v := blk3 hb h.2.2.2 h.1 h.2.1 h.2.2.1
theorem Vat.alloc {W : World} {b : Nat} {v : V} (h : Vat W b v) (o : Obj) : Vat (W.alloc o) b v := blkA W o h.2.2.2 h.1 h.2.1 h.2.2.1
theorem Vat.drew {W : World} {b : Nat} {v : V} (h : Vat W b v) : Vat W.drew b v := h
theorem Vat.step {W w1 : World} {b : Nat} {v : V} (h : Vat W b v) (hb : Below W.heap.size W w1) (x : V) : Vat (w1.alloc (.cells #[.int .i64 x.kind, .int .i64 x.num, .string (BS x.str)] 26)) b v := (h.below hb).alloc _
theorem vat_new (w : World) (v : V) : Vat (w.alloc (.cells #[.int .i64 v.kind, .int .i64 v.num, .string (BS v.str)] 26)) w.heap.size v := blkN w v
end

section
open Go.ChangeShapes Go.WideShapes Go.ChangeAt Go.RowKit Go.Deep

theorem cellsProp : Tryz.prog.cellsOf 28 = 4 := by kernel_rfl
theorem cellsVal : Tryz.prog.cellsOf 26 = 3 := by kernel_rfl
theorem cellsStr : Tryz.prog.cellsOf 9 = 1 := by kernel_rfl
theorem cellsInt : Tryz.prog.cellsOf 3 = 1 := by kernel_rfl
theorem cellsI64 : Tryz.prog.cellsOf 2 = 1 := by kernel_rfl
theorem bytesProp : Tryz.prog.bytesOf 28 = 48 := by kernel_rfl

section
variable {H : Type} {enc : TypeId × Value → H}

theorem wf_rng {n : Int} (h : (Lit.int .i64 n).wf = true) : Rng n := by
  simp only [Lit.wf, Bool.and_eq_true, decide_eq_true_eq] at h
  exact ⟨h.1, h.2⟩

set_option maxRecDepth 100000 in
/-- A property, opened. -/
theorem open_prop {W : World} {base : Nat} {sp : Nat → Bool} {n : Nat} {cs : List Value} {x : DataW H × List MemPlace} (h : DataW.trod enc Tryz.prog W base sp true n 28 cs = some x) :
    ∃ (nm st : ByteArray) (k m : Int), cs = [.string nm, .int .i64 k, .int .i64 m, .string st] ∧ x = (.agg [.lit (.string nm.data.toList), .agg [.lit (.int .i64 k), .lit (.int .i64 m), .lit (.string st.data.toList)]], []) ∧ Rng m := by
  obtain ⟨y0, y1, n1, rfl, hl, t0, t1⟩ := trod_struct2 Tryz.underlying28 h
  rw [cellsProp] at hl
  match cs, hl with
  | [c0, c1, c2, c3], _ =>
    simp only [cellsStr, cellsVal, List.drop, List.take] at t0 t1
    obtain ⟨nm, h0, rfl, _⟩ := DataW.trod_string Tryz.underlying9 t0
    obtain ⟨z0, z1, z2, n2, rfl, _, u0, u1, u2⟩ := trod_struct3 Tryz.underlying26 t1
    simp only [cellsInt, cellsI64, cellsStr, List.drop, List.take] at u0 u1 u2
    obtain ⟨k, h1, rfl, _⟩ := DataW.trod_int Tryz.underlying3 u0
    obtain ⟨m, h2, rfl, wm⟩ := DataW.trod_int Tryz.underlying2 u1
    obtain ⟨st, h3, rfl, _⟩ := DataW.trod_string Tryz.underlying9 u2
    simp only [List.cons.injEq, and_true] at h0 h1 h2 h3
    subst h0 h1 h2 h3
    exact ⟨nm, st, k, m, rfl, rfl, wf_rng wm⟩

theorem weights_all {P : Program} {e : TypeId} {d : DataW H} : ∀ {l : List (DataW H)}, d ∈ l → ∀ n ∈ d.weights P e, n ∈ DataW.weightsAll P e l := by
  intro l
  induction l with
  | nil => intro h; cases h
  | cons a r ih =>
    intro h n hn
    rw [DataW.weightsAll]
    rcases List.mem_cons.1 h with rfl | h
    · exact List.mem_append_left _ hn
    · exact List.mem_append_right _ (ih h n hn)

set_option maxRecDepth 100000 in
theorem weights_prop (nm st : List UInt8) (k m : Int) : (DataW.agg [.lit (.string nm), .agg [.lit (.int .i64 k), .lit (.int .i64 m), .lit (.string st)]] : DataW H).weights Tryz.prog 28 = [nm.length, st.length] := by
  rw [DataW.weights, Tryz.underlying28]
  simp only [List.map, DataW.weightsEach, DataW.weights, Tryz.underlying26]
  rfl

set_option maxRecDepth 100000 in
/-- A list of properties, opened where it lies. -/
theorem open_event_cs {W : World} {fuel : Nat} {cs : List Value} {d : DataW H} {pl : List MemPlace} (ht : DataW.trod enc Tryz.prog W 0 (fun _ => true) true fuel 29 cs = some (d, pl))
    (hw : ∀ n ∈ d.weights Tryz.prog 29, n ≤ reachBytes) : ∃ v ps, cs = [v] ∧ EvIn W v ps ∧ EvGood ps := by
  rcases open_slice Tryz.underlying29 ht with ⟨hc, hx⟩ | ⟨a, len0, cap0, m, n, D, Pl, hc, _, hl, hm, hmm, hx, hall⟩
  · exact ⟨_, [], hc, .inl ⟨rfl, none, 0, rfl⟩, ⟨(fun p hp => by cases hp), (fun p hp => by cases hp), Nat.zero_le _⟩⟩
  · simp only [if_true] at hmm
    subst hmm
    simp only [Prod.mk.injEq] at hx
    obtain ⟨rfl, rfl⟩ := hx
    refine ⟨.slice (some a) len0 m, ?_⟩
    suffices hgoal : ∃ ps, EvIn W (.slice (some a) len0 m) ps ∧ EvGood ps by
      obtain ⟨ps, h1, h2⟩ := hgoal
      exact ⟨ps, hc, h1, h2⟩
    rw [cellsProp] at hall
    have each : ∀ i, i < len0 → ∃ p : Pr, (W.cell? (a.add (i * 4)) = some (.string (BS p.name)) ∧ W.cell? (a.add (i * 4 + 1)) = some (.int .i64 p.val.kind) ∧ W.cell? (a.add (i * 4 + 2)) = some (.int .i64 p.val.num) ∧ W.cell? (a.add (i * 4 + 3)) = some (.string (BS p.val.str))) ∧ Rng p.val.num ∧
        D i = .agg [.lit (.string p.name), .agg [.lit (.int .i64 p.val.kind), .lit (.int .i64 p.val.num), .lit (.string p.val.str)]] := by
      intro i hi
      obtain ⟨cs', h1, h2⟩ := hall i (by omega)
      obtain ⟨nm, st, k, mm, rfl, hD, hr⟩ := open_prop h2
      simp only [Prod.mk.injEq] at hD
      obtain ⟨_, _, hcell⟩ := World.cells?_some h1
      have c0 := hcell 0 (by decide)
      have c1 := hcell 1 (by decide)
      have c2 := hcell 2 (by decide)
      have c3 := hcell 3 (by decide)
      rw [add_add] at c0 c1 c2 c3
      exact ⟨⟨nm.data.toList, ⟨k, mm, st.data.toList⟩⟩, ⟨c0, c1, c2, c3⟩, hr, hD.1⟩
    have inh : Inhabited Pr := ⟨⟨[], nV⟩⟩
    obtain ⟨f, hf⟩ := choose_lt each
    have hget : ∀ (k : Nat) (p : Pr), ((List.range len0).map f)[k]? = some p → k < len0 ∧ p = f k := by
      intro k p hk
      rw [List.getElem?_map] at hk
      cases hr : (List.range len0)[k]? with
      | none => rw [hr] at hk; cases hk
      | some j =>
        rw [hr] at hk
        obtain ⟨h1, h2⟩ := List.getElem?_eq_some_iff.1 hr
        rw [List.length_range] at h1
        rw [List.getElem_range] at h2
        subst h2
        exact ⟨h1, by simpa using hk.symm⟩
    have hlen : ((List.range len0).map f).length = len0 := by rw [List.length_map, List.length_range]
    have hmem : ∀ p ∈ (List.range len0).map f, ∃ k, k < len0 ∧ p = f k := by
      intro p hp
      obtain ⟨k, hk⟩ := List.getElem?_of_mem hp
      exact ⟨k, hget k p hk⟩
    have hwt := hw
    rw [DataW.weights, Tryz.underlying29] at hwt
    simp only [List.mem_cons, List.mem_append] at hwt
    refine ⟨(List.range len0).map f, ?_, ⟨?_, ?_, ?_⟩⟩
    · cases len0 with
      | zero => exact .inl ⟨rfl, some a, _, rfl⟩
      | succ l =>
        right
        obtain ⟨b, off, spot⟩ := a
        have hs : spot = none := by
          have := World.cell?_spot (hf 0 (by omega)).1.1
          simpa [Addr.add] using this
        subst hs
        have hadd : ∀ j, (⟨b, off, none⟩ : Addr).add j = ⟨b, off + j, none⟩ := by intro j; simp [Addr.add]
        refine ⟨b, off, _, by rw [hlen], by rw [hlen]; exact hl, ?_, ?_⟩
        · intro k p hk
          obtain ⟨hk1, rfl⟩ := hget k p hk
          obtain ⟨⟨c0, c1, c2, c3⟩, _, _⟩ := hf k hk1
          rw [hadd] at c0 c1 c2 c3
          exact ⟨c0, c1, c2, c3⟩
        · have := (hf 0 (by omega)).1.1
          rw [hadd] at this
          exact block_lt_of_cell this
    · intro p hp
      obtain ⟨k, hk, rfl⟩ := hmem p hp
      have hD := (hf k hk).2.2
      have hin : D k ∈ (List.range len0).map D := List.mem_map.2 ⟨k, List.mem_range.2 hk, rfl⟩
      have h2 := fun n hn => hwt n (.inr (.inl (weights_all hin n hn)))
      rw [hD, weights_prop] at h2
      have e1 := h2 _ (by simp : (f k).name.length ∈ [(f k).name.length, (f k).val.str.length])
      have e2 := h2 _ (by simp : (f k).val.str.length ∈ [(f k).name.length, (f k).val.str.length])
      unfold reachBytes at e1 e2
      exact ⟨by omega, by omega⟩
    · intro p hp
      obtain ⟨k, hk, rfl⟩ := hmem p hp
      exact (hf k hk).2.1
    · have := hwt _ (.inl rfl)
      rw [bytesProp, List.length_map, List.length_range] at this
      rw [hlen]
      unfold reachBytes at this
      omega

set_option maxRecDepth 100000 in
/-- A list of properties, opened. -/
theorem open_event {W : World} {base : Nat} {v : Value} {d : DataW H} {pl : List MemPlace} (hval : Value.okWide Tryz.prog W .any base 29 v) (h : DataW.Trod enc Tryz.prog W 0 (fun _ => true) true 29 v d pl)
    (hw : ∀ n ∈ d.weights Tryz.prog 29, n ≤ reachBytes) : ∃ ps, EvIn W v ps ∧ EvGood ps := by
  obtain ⟨fuel, ht⟩ := h
  obtain ⟨a0, len0, cap0, rfl⟩ := okWide_slice Tryz.underlying29 hval
  obtain ⟨v, ps, hv, h1, h2⟩ := open_event_cs ht hw
  simp [Value.cells] at hv
  subst hv
  exact ⟨ps, h1, h2⟩

end
end

end Go.Proofs.YtfkcaldjphakpaaGreatDoor
