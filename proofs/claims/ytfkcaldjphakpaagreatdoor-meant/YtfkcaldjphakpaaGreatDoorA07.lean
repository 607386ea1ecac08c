/- test, over what reads on from IN and from LIKE. test: all kinds of what comes behind the first sum. -/
import Derived.Test.YtfkcaldjphakpaaGreatDoorQRd14
namespace Go.Proofs.YtfkcaldjphakpaaGreatDoor
open Go.RowKit

section
def opA : Ast → Int
  | .leaf p => p.op
  | .un p _ => p.op
  | .bin p _ _ => p.op
  | .tri p _ _ _ => p.op

theorem IsNode.opAt {rb : Nat} {w : World} {v : Value} {t : Ast} (h : IsNode rb w v t) : ∃ b, v = .pointer (some ⟨b, 0, none⟩) ∧ w.cell? ⟨b, 0, none⟩ = some (.int .i64 (opA t)) := by
  cases t with
  | leaf p => obtain ⟨b, hv, h⟩ := h; exact ⟨b, hv, h.c0⟩
  | un p x => obtain ⟨b, g, v1, hv, h, _⟩ := h; exact ⟨b, hv, h.c0⟩
  | bin p x y => obtain ⟨b, g, v1, v2, hv, h, _⟩ := h; exact ⟨b, hv, h.c0⟩
  | tri p x y z => obtain ⟨b, g, v1, v2, v3, hv, h, _⟩ := h; exact ⟨b, hv, h.c0⟩

def bareB (st : St) (l : Ast) : Bool := st.tk.kind == 2 && opA l == 0

/-- What comes behind the first sum. -/
def tailRes (s : ByteArray) (f : St → Res) (gI gL : Ast → St → Res) (bare : Bool) (l : Ast) (st : St) : Res :=
  if st.tk.kind = 16 ∨ st.tk.kind = 17 ∨ st.tk.kind = 18 ∨ st.tk.kind = 19 ∨ st.tk.kind = 20 ∨ st.tk.kind = 21 then joinRes s f st l
  else if st.tk.kind = 14 then (if bare = true then isNullRes s l st else .ok l st)
  else if st.tk.kind = 7 then (match keywordRes s f gI gL bare l (stepSt s st) with
    | .ok t st' => .ok (.un ⟨5, st.place, 0, [], [], []⟩ t) st'
    | .err en pl => .err en pl)
  else if st.tk.kind = 10 ∨ st.tk.kind = 11 ∨ st.tk.kind = 12 then keywordRes s f gI gL bare l st
  else .ok l st

def testRes (s : ByteArray) (f : St → Res) (gI gL : Ast → St → Res) (st : St) : Res := match f st with
  | .ok l st' => tailRes s f gI gL (bareB st l) l st'
  | .err en pl => .err en pl

theorem Gives.from' {rb : Nat} {s : ByteArray} {w w1 : World} {op lo lo' : Nat} {r : Res} {e : Ending} {w' : World} (h : Gives rb s w1 op lo r e w') (hk : Kept rb w w1) (hl : lo' ≤ lo) : Gives rb s w op lo' r e w' := by
  refine ⟨hk.trans h.1, ?_⟩
  cases r with
  | ok t st => obtain ⟨_, v, h1, h2, h3, h4, h5, h6⟩ := h; exact ⟨v, h1, h2, h3, h4, h5, Nat.le_trans hl h6⟩
  | err en pl => exact h.2

set_option maxHeartbeats 1000000 in
set_option maxRecDepth 100000 in
theorem test_none (rb : Nat) (s : ByteArray) (op : Nat) (f : St → Res) (gI gL : Ast → St → Res) (hf : Reads 241 rb s op f) (hI : Tails 268 rb s op 11 gI) (hL : Tails 269 rb s op 12 gL)
    (w : World) (st : St) (h : Ready rb s w st) (ho : st.op = op) (l : Ast) (st1 : St) (hres : f st = .ok l st1)  (h16 : ¬ st1.tk.kind = 16) (h17 : ¬ st1.tk.kind = 17) (h18 : ¬ st1.tk.kind = 18) (h19 : ¬ st1.tk.kind = 19) (h20 : ¬ st1.tk.kind = 20) (h21 : ¬ st1.tk.kind = 21) (h14 : ¬ st1.tk.kind = 14) (h7 : ¬ st1.tk.kind = 7) (h10 : ¬ st1.tk.kind = 10) (h11 : ¬ st1.tk.kind = 11) (h12 : ¬ st1.tk.kind = 12) :
    Calls Tryz.prog 198 #[.pointer (some ⟨rb, 0, none⟩)] w (Gives rb s w op st.place (tailRes s f gI gL (bareB st l) l st1)) := by
  have H := hide h
  have HF := hide hf
  have HI := hide hI
  have HLK := hide hL
  have HRES := hide hres
  have hmf : ∀ (fn : Fn) (first cap : Array Value) (w : World), (Instr.makeFunc fn first cap).run Tryz.prog w = .ok (.func fn first cap) w := fun _ _ _ _ => rfl
  obtain ⟨c0, c1, c2, c3, c4, c5, c6, fz⟩ := h.at'
  have hlt := h.lt
  clear h hf hI hL hres
  have e16 : (st1.tk.kind == 16) = false := beq_eq_false_iff_ne.2 h16
  have e17 : (st1.tk.kind == 17) = false := beq_eq_false_iff_ne.2 h17
  have e18 : (st1.tk.kind == 18) = false := beq_eq_false_iff_ne.2 h18
  have e19 : (st1.tk.kind == 19) = false := beq_eq_false_iff_ne.2 h19
  have e20 : (st1.tk.kind == 20) = false := beq_eq_false_iff_ne.2 h20
  have e21 : (st1.tk.kind == 21) = false := beq_eq_false_iff_ne.2 h21
  have e14 : (st1.tk.kind == 14) = false := beq_eq_false_iff_ne.2 h14
  have e7 : (st1.tk.kind == 7) = false := beq_eq_false_iff_ne.2 h7
  have e10 : (st1.tk.kind == 10) = false := beq_eq_false_iff_ne.2 h10
  have e11 : (st1.tk.kind == 11) = false := beq_eq_false_iff_ne.2 h11
  have e12 : (st1.tk.kind == 12) = false := beq_eq_false_iff_ne.2 h12
  have hT : ∀ bare, tailRes s f gI gL bare l st1 = .ok l st1 := fun bare => by unfold tailRes; simp [h16, h17, h18, h19, h20, h21, h14, h7, h10, h11, h12]
  clear h16 h17 h18 h19 h20 h21 h14 h7 h10 h11 h12
  rw [hT]
  clear hT
  cases hb0 : (st.tk.kind == 2) <;> cases hb1 : (opA l == 0)
  all_goals
    go_enter Tryz.func198, Tryz.ntmps198
    go_wp2_with (go_at_call 241; refine (unhide HF _ st (unhide H) ho).mono ?_; rintro e w1 ⟨hk1, h1⟩; rw [unhide HRES] at h1; obtain ⟨v1, rfl, hn1, hr1, hf1, ho1, hp1⟩ := h1; obtain ⟨b, rfl, cb⟩ := hn1.opAt; obtain ⟨d0, d1, d2, d3, d4, d5, d6, dz⟩ := hr1; have hR1 := hide ((unhide H).kept hk1 ⟨d0, d1, d2, d3, d4, d5, d6, dz⟩ hf1); have hn1 := hide hn1; have hK1 := hide hk1; clear hk1 d0 d3 d4 d5 d6)
    go_ret
    exact ⟨unhide hK1, _, rfl, unhide hn1, (unhide hR1).at', hf1, ho1, hp1⟩

set_option maxHeartbeats 1000000 in
set_option maxRecDepth 100000 in
theorem test_16 (rb : Nat) (s : ByteArray) (op : Nat) (f : St → Res) (gI gL : Ast → St → Res) (hf : Reads 241 rb s op f) (hI : Tails 268 rb s op 11 gI) (hL : Tails 269 rb s op 12 gL)
    (w : World) (st : St) (h : Ready rb s w st) (ho : st.op = op) (l : Ast) (st1 : St) (hres : f st = .ok l st1) (hk : st1.tk.kind = 16) :
    Calls Tryz.prog 198 #[.pointer (some ⟨rb, 0, none⟩)] w (Gives rb s w op st.place (tailRes s f gI gL (bareB st l) l st1)) := by
  have H := hide h
  have HF := hide hf
  have HI := hide hI
  have HLK := hide hL
  have HRES := hide hres
  have hmf : ∀ (fn : Fn) (first cap : Array Value) (w : World), (Instr.makeFunc fn first cap).run Tryz.prog w = .ok (.func fn first cap) w := fun _ _ _ _ => rfl
  obtain ⟨c0, c1, c2, c3, c4, c5, c6, fz⟩ := h.at'
  have hlt := h.lt
  clear h hf hI hL hres
  have e16 : (st1.tk.kind == 16) = true := by rw [hk]; rfl
  have hT : ∀ bare, tailRes s f gI gL bare l st1 = joinRes s f st1 l := fun bare => by unfold tailRes; simp [hk]
  rw [hT]
  clear hT
  have HKK := hide hk
  clear hk
  cases hb0 : (st.tk.kind == 2) <;> cases hb1 : (opA l == 0)
  all_goals
    go_enter Tryz.func198, Tryz.ntmps198
    go_wp2_with (first | (go_at_call 241; refine (unhide HF _ st (unhide H) ho).mono ?_; rintro e w1 ⟨hk1, h1⟩; rw [unhide HRES] at h1; obtain ⟨v1, rfl, hn1, hr1, hf1, ho1, hp1⟩ := h1; obtain ⟨b, rfl, cb⟩ := hn1.opAt; obtain ⟨d0, d1, d2, d3, d4, d5, d6, dz⟩ := hr1; have hR1 := hide ((unhide H).kept hk1 ⟨d0, d1, d2, d3, d4, d5, d6, dz⟩ hf1); have hn1 := hide hn1; have hK1 := hide hk1; clear hk1 d0 d3 d4 d5 d6) | (go_at_call 146; refine (joined_sum rb s op f (unhide HF) st1 l _ _ (unhide hR1) ho1 (unhide hn1)).mono ?_; rintro e w' hg; have hg := hg.from' (unhide hK1) (Nat.le_trans hp1 (Nat.le_of_lt (hf1.long (by rw [unhide HKK]; decide)))); rcases hg.cases with ⟨v, rfl, hg⟩ | ⟨en, pl, rfl, hg⟩; rotate_left; (exact ⟨rfl, hg⟩); have HG := hide hg; clear hg))
    go_ret
    exact unhide HG

set_option maxHeartbeats 1000000 in
set_option maxRecDepth 100000 in
theorem test_17 (rb : Nat) (s : ByteArray) (op : Nat) (f : St → Res) (gI gL : Ast → St → Res) (hf : Reads 241 rb s op f) (hI : Tails 268 rb s op 11 gI) (hL : Tails 269 rb s op 12 gL)
    (w : World) (st : St) (h : Ready rb s w st) (ho : st.op = op) (l : Ast) (st1 : St) (hres : f st = .ok l st1) (hk : st1.tk.kind = 17) :
    Calls Tryz.prog 198 #[.pointer (some ⟨rb, 0, none⟩)] w (Gives rb s w op st.place (tailRes s f gI gL (bareB st l) l st1)) := by
  have H := hide h
  have HF := hide hf
  have HI := hide hI
  have HLK := hide hL
  have HRES := hide hres
  have hmf : ∀ (fn : Fn) (first cap : Array Value) (w : World), (Instr.makeFunc fn first cap).run Tryz.prog w = .ok (.func fn first cap) w := fun _ _ _ _ => rfl
  obtain ⟨c0, c1, c2, c3, c4, c5, c6, fz⟩ := h.at'
  have hlt := h.lt
  clear h hf hI hL hres
  have e16 : (st1.tk.kind == 16) = false := by rw [hk]; rfl
  have e17 : (st1.tk.kind == 17) = true := by rw [hk]; rfl
  have hT : ∀ bare, tailRes s f gI gL bare l st1 = joinRes s f st1 l := fun bare => by unfold tailRes; simp [hk]
  rw [hT]
  clear hT
  have HKK := hide hk
  clear hk
  cases hb0 : (st.tk.kind == 2) <;> cases hb1 : (opA l == 0)
  all_goals
    go_enter Tryz.func198, Tryz.ntmps198
    go_wp2_with (first | (go_at_call 241; refine (unhide HF _ st (unhide H) ho).mono ?_; rintro e w1 ⟨hk1, h1⟩; rw [unhide HRES] at h1; obtain ⟨v1, rfl, hn1, hr1, hf1, ho1, hp1⟩ := h1; obtain ⟨b, rfl, cb⟩ := hn1.opAt; obtain ⟨d0, d1, d2, d3, d4, d5, d6, dz⟩ := hr1; have hR1 := hide ((unhide H).kept hk1 ⟨d0, d1, d2, d3, d4, d5, d6, dz⟩ hf1); have hn1 := hide hn1; have hK1 := hide hk1; clear hk1 d0 d3 d4 d5 d6) | (go_at_call 146; refine (joined_sum rb s op f (unhide HF) st1 l _ _ (unhide hR1) ho1 (unhide hn1)).mono ?_; rintro e w' hg; have hg := hg.from' (unhide hK1) (Nat.le_trans hp1 (Nat.le_of_lt (hf1.long (by rw [unhide HKK]; decide)))); rcases hg.cases with ⟨v, rfl, hg⟩ | ⟨en, pl, rfl, hg⟩; rotate_left; (exact ⟨rfl, hg⟩); have HG := hide hg; clear hg))
    go_ret
    exact unhide HG

set_option maxHeartbeats 1000000 in
set_option maxRecDepth 100000 in
theorem test_18 (rb : Nat) (s : ByteArray) (op : Nat) (f : St → Res) (gI gL : Ast → St → Res) (hf : Reads 241 rb s op f) (hI : Tails 268 rb s op 11 gI) (hL : Tails 269 rb s op 12 gL)
    (w : World) (st : St) (h : Ready rb s w st) (ho : st.op = op) (l : Ast) (st1 : St) (hres : f st = .ok l st1) (hk : st1.tk.kind = 18) :
    Calls Tryz.prog 198 #[.pointer (some ⟨rb, 0, none⟩)] w (Gives rb s w op st.place (tailRes s f gI gL (bareB st l) l st1)) := by
  have H := hide h
  have HF := hide hf
  have HI := hide hI
  have HLK := hide hL
  have HRES := hide hres
  have hmf : ∀ (fn : Fn) (first cap : Array Value) (w : World), (Instr.makeFunc fn first cap).run Tryz.prog w = .ok (.func fn first cap) w := fun _ _ _ _ => rfl
  obtain ⟨c0, c1, c2, c3, c4, c5, c6, fz⟩ := h.at'
  have hlt := h.lt
  clear h hf hI hL hres
  have e16 : (st1.tk.kind == 16) = false := by rw [hk]; rfl
  have e17 : (st1.tk.kind == 17) = false := by rw [hk]; rfl
  have e18 : (st1.tk.kind == 18) = true := by rw [hk]; rfl
  have hT : ∀ bare, tailRes s f gI gL bare l st1 = joinRes s f st1 l := fun bare => by unfold tailRes; simp [hk]
  rw [hT]
  clear hT
  have HKK := hide hk
  clear hk
  cases hb0 : (st.tk.kind == 2) <;> cases hb1 : (opA l == 0)
  all_goals
    go_enter Tryz.func198, Tryz.ntmps198
    go_wp2_with (first | (go_at_call 241; refine (unhide HF _ st (unhide H) ho).mono ?_; rintro e w1 ⟨hk1, h1⟩; rw [unhide HRES] at h1; obtain ⟨v1, rfl, hn1, hr1, hf1, ho1, hp1⟩ := h1; obtain ⟨b, rfl, cb⟩ := hn1.opAt; obtain ⟨d0, d1, d2, d3, d4, d5, d6, dz⟩ := hr1; have hR1 := hide ((unhide H).kept hk1 ⟨d0, d1, d2, d3, d4, d5, d6, dz⟩ hf1); have hn1 := hide hn1; have hK1 := hide hk1; clear hk1 d0 d3 d4 d5 d6) | (go_at_call 146; refine (joined_sum rb s op f (unhide HF) st1 l _ _ (unhide hR1) ho1 (unhide hn1)).mono ?_; rintro e w' hg; have hg := hg.from' (unhide hK1) (Nat.le_trans hp1 (Nat.le_of_lt (hf1.long (by rw [unhide HKK]; decide)))); rcases hg.cases with ⟨v, rfl, hg⟩ | ⟨en, pl, rfl, hg⟩; rotate_left; (exact ⟨rfl, hg⟩); have HG := hide hg; clear hg))
    go_ret
    exact unhide HG

set_option maxHeartbeats 1000000 in
set_option maxRecDepth 100000 in
theorem test_19 (rb : Nat) (s : ByteArray) (op : Nat) (f : St → Res) (gI gL : Ast → St → Res) (hf : Reads 241 rb s op f) (hI : Tails 268 rb s op 11 gI) (hL : Tails 269 rb s op 12 gL)
    (w : World) (st : St) (h : Ready rb s w st) (ho : st.op = op) (l : Ast) (st1 : St) (hres : f st = .ok l st1) (hk : st1.tk.kind = 19) :
    Calls Tryz.prog 198 #[.pointer (some ⟨rb, 0, none⟩)] w (Gives rb s w op st.place (tailRes s f gI gL (bareB st l) l st1)) := by
  have H := hide h
  have HF := hide hf
  have HI := hide hI
  have HLK := hide hL
  have HRES := hide hres
  have hmf : ∀ (fn : Fn) (first cap : Array Value) (w : World), (Instr.makeFunc fn first cap).run Tryz.prog w = .ok (.func fn first cap) w := fun _ _ _ _ => rfl
  obtain ⟨c0, c1, c2, c3, c4, c5, c6, fz⟩ := h.at'
  have hlt := h.lt
  clear h hf hI hL hres
  have e16 : (st1.tk.kind == 16) = false := by rw [hk]; rfl
  have e17 : (st1.tk.kind == 17) = false := by rw [hk]; rfl
  have e18 : (st1.tk.kind == 18) = false := by rw [hk]; rfl
  have e19 : (st1.tk.kind == 19) = true := by rw [hk]; rfl
  have hT : ∀ bare, tailRes s f gI gL bare l st1 = joinRes s f st1 l := fun bare => by unfold tailRes; simp [hk]
  rw [hT]
  clear hT
  have HKK := hide hk
  clear hk
  cases hb0 : (st.tk.kind == 2) <;> cases hb1 : (opA l == 0)
  all_goals
    go_enter Tryz.func198, Tryz.ntmps198
    go_wp2_with (first | (go_at_call 241; refine (unhide HF _ st (unhide H) ho).mono ?_; rintro e w1 ⟨hk1, h1⟩; rw [unhide HRES] at h1; obtain ⟨v1, rfl, hn1, hr1, hf1, ho1, hp1⟩ := h1; obtain ⟨b, rfl, cb⟩ := hn1.opAt; obtain ⟨d0, d1, d2, d3, d4, d5, d6, dz⟩ := hr1; have hR1 := hide ((unhide H).kept hk1 ⟨d0, d1, d2, d3, d4, d5, d6, dz⟩ hf1); have hn1 := hide hn1; have hK1 := hide hk1; clear hk1 d0 d3 d4 d5 d6) | (go_at_call 146; refine (joined_sum rb s op f (unhide HF) st1 l _ _ (unhide hR1) ho1 (unhide hn1)).mono ?_; rintro e w' hg; have hg := hg.from' (unhide hK1) (Nat.le_trans hp1 (Nat.le_of_lt (hf1.long (by rw [unhide HKK]; decide)))); rcases hg.cases with ⟨v, rfl, hg⟩ | ⟨en, pl, rfl, hg⟩; rotate_left; (exact ⟨rfl, hg⟩); have HG := hide hg; clear hg))
    go_ret
    exact unhide HG

set_option maxHeartbeats 1000000 in
set_option maxRecDepth 100000 in
theorem test_20 (rb : Nat) (s : ByteArray) (op : Nat) (f : St → Res) (gI gL : Ast → St → Res) (hf : Reads 241 rb s op f) (hI : Tails 268 rb s op 11 gI) (hL : Tails 269 rb s op 12 gL)
    (w : World) (st : St) (h : Ready rb s w st) (ho : st.op = op) (l : Ast) (st1 : St) (hres : f st = .ok l st1) (hk : st1.tk.kind = 20) :
    Calls Tryz.prog 198 #[.pointer (some ⟨rb, 0, none⟩)] w (Gives rb s w op st.place (tailRes s f gI gL (bareB st l) l st1)) := by
  have H := hide h
  have HF := hide hf
  have HI := hide hI
  have HLK := hide hL
  have HRES := hide hres
  have hmf : ∀ (fn : Fn) (first cap : Array Value) (w : World), (Instr.makeFunc fn first cap).run Tryz.prog w = .ok (.func fn first cap) w := fun _ _ _ _ => rfl
  obtain ⟨c0, c1, c2, c3, c4, c5, c6, fz⟩ := h.at'
  have hlt := h.lt
  clear h hf hI hL hres
  have e16 : (st1.tk.kind == 16) = false := by rw [hk]; rfl
  have e17 : (st1.tk.kind == 17) = false := by rw [hk]; rfl
  have e18 : (st1.tk.kind == 18) = false := by rw [hk]; rfl
  have e19 : (st1.tk.kind == 19) = false := by rw [hk]; rfl
  have e20 : (st1.tk.kind == 20) = true := by rw [hk]; rfl
  have hT : ∀ bare, tailRes s f gI gL bare l st1 = joinRes s f st1 l := fun bare => by unfold tailRes; simp [hk]
  rw [hT]
  clear hT
  have HKK := hide hk
  clear hk
  cases hb0 : (st.tk.kind == 2) <;> cases hb1 : (opA l == 0)
  all_goals
    go_enter Tryz.func198, Tryz.ntmps198
    go_wp2_with (first | (go_at_call 241; refine (unhide HF _ st (unhide H) ho).mono ?_; rintro e w1 ⟨hk1, h1⟩; rw [unhide HRES] at h1; obtain ⟨v1, rfl, hn1, hr1, hf1, ho1, hp1⟩ := h1; obtain ⟨b, rfl, cb⟩ := hn1.opAt; obtain ⟨d0, d1, d2, d3, d4, d5, d6, dz⟩ := hr1; have hR1 := hide ((unhide H).kept hk1 ⟨d0, d1, d2, d3, d4, d5, d6, dz⟩ hf1); have hn1 := hide hn1; have hK1 := hide hk1; clear hk1 d0 d3 d4 d5 d6) | (go_at_call 146; refine (joined_sum rb s op f (unhide HF) st1 l _ _ (unhide hR1) ho1 (unhide hn1)).mono ?_; rintro e w' hg; have hg := hg.from' (unhide hK1) (Nat.le_trans hp1 (Nat.le_of_lt (hf1.long (by rw [unhide HKK]; decide)))); rcases hg.cases with ⟨v, rfl, hg⟩ | ⟨en, pl, rfl, hg⟩; rotate_left; (exact ⟨rfl, hg⟩); have HG := hide hg; clear hg))
    go_ret
    exact unhide HG

set_option maxHeartbeats 1000000 in
set_option maxRecDepth 100000 in
theorem test_21 (rb : Nat) (s : ByteArray) (op : Nat) (f : St → Res) (gI gL : Ast → St → Res) (hf : Reads 241 rb s op f) (hI : Tails 268 rb s op 11 gI) (hL : Tails 269 rb s op 12 gL)
    (w : World) (st : St) (h : Ready rb s w st) (ho : st.op = op) (l : Ast) (st1 : St) (hres : f st = .ok l st1) (hk : st1.tk.kind = 21) :
    Calls Tryz.prog 198 #[.pointer (some ⟨rb, 0, none⟩)] w (Gives rb s w op st.place (tailRes s f gI gL (bareB st l) l st1)) := by
  have H := hide h
  have HF := hide hf
  have HI := hide hI
  have HLK := hide hL
  have HRES := hide hres
  have hmf : ∀ (fn : Fn) (first cap : Array Value) (w : World), (Instr.makeFunc fn first cap).run Tryz.prog w = .ok (.func fn first cap) w := fun _ _ _ _ => rfl
  obtain ⟨c0, c1, c2, c3, c4, c5, c6, fz⟩ := h.at'
  have hlt := h.lt
  clear h hf hI hL hres
  have e16 : (st1.tk.kind == 16) = false := by rw [hk]; rfl
  have e17 : (st1.tk.kind == 17) = false := by rw [hk]; rfl
  have e18 : (st1.tk.kind == 18) = false := by rw [hk]; rfl
  have e19 : (st1.tk.kind == 19) = false := by rw [hk]; rfl
  have e20 : (st1.tk.kind == 20) = false := by rw [hk]; rfl
  have e21 : (st1.tk.kind == 21) = true := by rw [hk]; rfl
  have hT : ∀ bare, tailRes s f gI gL bare l st1 = joinRes s f st1 l := fun bare => by unfold tailRes; simp [hk]
  rw [hT]
  clear hT
  have HKK := hide hk
  clear hk
  cases hb0 : (st.tk.kind == 2) <;> cases hb1 : (opA l == 0)
  all_goals
    go_enter Tryz.func198, Tryz.ntmps198
    go_wp2_with (first | (go_at_call 241; refine (unhide HF _ st (unhide H) ho).mono ?_; rintro e w1 ⟨hk1, h1⟩; rw [unhide HRES] at h1; obtain ⟨v1, rfl, hn1, hr1, hf1, ho1, hp1⟩ := h1; obtain ⟨b, rfl, cb⟩ := hn1.opAt; obtain ⟨d0, d1, d2, d3, d4, d5, d6, dz⟩ := hr1; have hR1 := hide ((unhide H).kept hk1 ⟨d0, d1, d2, d3, d4, d5, d6, dz⟩ hf1); have hn1 := hide hn1; have hK1 := hide hk1; clear hk1 d0 d3 d4 d5 d6) | (go_at_call 146; refine (joined_sum rb s op f (unhide HF) st1 l _ _ (unhide hR1) ho1 (unhide hn1)).mono ?_; rintro e w' hg; have hg := hg.from' (unhide hK1) (Nat.le_trans hp1 (Nat.le_of_lt (hf1.long (by rw [unhide HKK]; decide)))); rcases hg.cases with ⟨v, rfl, hg⟩ | ⟨en, pl, rfl, hg⟩; rotate_left; (exact ⟨rfl, hg⟩); have HG := hide hg; clear hg))
    go_ret
    exact unhide HG

set_option maxHeartbeats 1000000 in
set_option maxRecDepth 100000 in
theorem test_14 (rb : Nat) (s : ByteArray) (op : Nat) (f : St → Res) (gI gL : Ast → St → Res) (hf : Reads 241 rb s op f) (hI : Tails 268 rb s op 11 gI) (hL : Tails 269 rb s op 12 gL)
    (w : World) (st : St) (h : Ready rb s w st) (ho : st.op = op) (l : Ast) (st1 : St) (hres : f st = .ok l st1) (hk : st1.tk.kind = 14) :
    Calls Tryz.prog 198 #[.pointer (some ⟨rb, 0, none⟩)] w (Gives rb s w op st.place (tailRes s f gI gL (bareB st l) l st1)) := by
  have H := hide h
  have HF := hide hf
  have HI := hide hI
  have HLK := hide hL
  have HRES := hide hres
  have hmf : ∀ (fn : Fn) (first cap : Array Value) (w : World), (Instr.makeFunc fn first cap).run Tryz.prog w = .ok (.func fn first cap) w := fun _ _ _ _ => rfl
  obtain ⟨c0, c1, c2, c3, c4, c5, c6, fz⟩ := h.at'
  have hlt := h.lt
  clear h hf hI hL hres
  have e16 : (st1.tk.kind == 16) = false := by rw [hk]; rfl
  have e17 : (st1.tk.kind == 17) = false := by rw [hk]; rfl
  have e18 : (st1.tk.kind == 18) = false := by rw [hk]; rfl
  have e19 : (st1.tk.kind == 19) = false := by rw [hk]; rfl
  have e20 : (st1.tk.kind == 20) = false := by rw [hk]; rfl
  have e21 : (st1.tk.kind == 21) = false := by rw [hk]; rfl
  have e14 : (st1.tk.kind == 14) = true := by rw [hk]; rfl
  have hT : ∀ bare, tailRes s f gI gL bare l st1 = if bare = true then isNullRes s l st1 else .ok l st1 := fun bare => by unfold tailRes; simp [hk]
  rw [hT]
  clear hT
  have HKK := hide hk
  clear hk
  have hBB : bareB st l = (st.tk.kind == 2 && opA l == 0) := rfl
  rw [hBB]
  clear hBB
  cases hb0 : (st.tk.kind == 2) <;> cases hb1 : (opA l == 0)
  all_goals simp only [Bool.and_self, Bool.and_true, Bool.and_false, Bool.false_eq_true, if_true, if_false]
  rotate_right
  · go_enter Tryz.func198, Tryz.ntmps198
    go_wp2_with (first | (go_at_call 241; refine (unhide HF _ st (unhide H) ho).mono ?_; rintro e w1 ⟨hk1, h1⟩; rw [unhide HRES] at h1; obtain ⟨v1, rfl, hn1, hr1, hf1, ho1, hp1⟩ := h1; obtain ⟨b, rfl, cb⟩ := hn1.opAt; obtain ⟨d0, d1, d2, d3, d4, d5, d6, dz⟩ := hr1; have hR1 := hide ((unhide H).kept hk1 ⟨d0, d1, d2, d3, d4, d5, d6, dz⟩ hf1); have hn1 := hide hn1; have hK1 := hide hk1; clear hk1 d0 d3 d4 d5 d6) | (go_at_call 242; refine (isNull_any rb s op l _ _ st1 (unhide hR1) ho1 (unhide hn1) (unhide HKK)).mono ?_; rintro e w' hg; have hg := hg.from' (unhide hK1) hp1; rcases hg.cases with ⟨v, rfl, hg⟩ | ⟨en, pl, rfl, hg⟩; rotate_left; (exact ⟨rfl, hg⟩); have HG := hide hg; clear hg))
    go_ret
    exact unhide HG
  all_goals
    go_enter Tryz.func198, Tryz.ntmps198
    go_wp2_with (go_at_call 241; refine (unhide HF _ st (unhide H) ho).mono ?_; rintro e w1 ⟨hk1, h1⟩; rw [unhide HRES] at h1; obtain ⟨v1, rfl, hn1, hr1, hf1, ho1, hp1⟩ := h1; obtain ⟨b, rfl, cb⟩ := hn1.opAt; obtain ⟨d0, d1, d2, d3, d4, d5, d6, dz⟩ := hr1; have hR1 := hide ((unhide H).kept hk1 ⟨d0, d1, d2, d3, d4, d5, d6, dz⟩ hf1); have hn1 := hide hn1; have hK1 := hide hk1; clear hk1 d0 d3 d4 d5 d6)
    go_ret
    exact ⟨unhide hK1, _, rfl, unhide hn1, (unhide hR1).at', hf1, ho1, hp1⟩

set_option maxHeartbeats 1000000 in
set_option maxRecDepth 100000 in
theorem test_7 (rb : Nat) (s : ByteArray) (op : Nat) (f : St → Res) (gI gL : Ast → St → Res) (hf : Reads 241 rb s op f) (hI : Tails 268 rb s op 11 gI) (hL : Tails 269 rb s op 12 gL)
    (w : World) (st : St) (h : Ready rb s w st) (ho : st.op = op) (l : Ast) (st1 : St) (hres : f st = .ok l st1) (hk : st1.tk.kind = 7) :
    Calls Tryz.prog 198 #[.pointer (some ⟨rb, 0, none⟩)] w (Gives rb s w op st.place (tailRes s f gI gL (bareB st l) l st1)) := by
  have H := hide h
  have HF := hide hf
  have HI := hide hI
  have HLK := hide hL
  have HRES := hide hres
  have hmf : ∀ (fn : Fn) (first cap : Array Value) (w : World), (Instr.makeFunc fn first cap).run Tryz.prog w = .ok (.func fn first cap) w := fun _ _ _ _ => rfl
  obtain ⟨c0, c1, c2, c3, c4, c5, c6, fz⟩ := h.at'
  have hlt := h.lt
  clear h hf hI hL hres
  have e16 : (st1.tk.kind == 16) = false := by rw [hk]; rfl
  have e17 : (st1.tk.kind == 17) = false := by rw [hk]; rfl
  have e18 : (st1.tk.kind == 18) = false := by rw [hk]; rfl
  have e19 : (st1.tk.kind == 19) = false := by rw [hk]; rfl
  have e20 : (st1.tk.kind == 20) = false := by rw [hk]; rfl
  have e21 : (st1.tk.kind == 21) = false := by rw [hk]; rfl
  have e14 : (st1.tk.kind == 14) = false := by rw [hk]; rfl
  have e7 : (st1.tk.kind == 7) = true := by rw [hk]; rfl
  have hT : ∀ bare, tailRes s f gI gL bare l st1 = (match keywordRes s f gI gL bare l (stepSt s st1) with | .ok t st' => .ok (.un ⟨5, st1.place, 0, [], [], []⟩ t) st' | .err en pl => .err en pl) := fun bare => by unfold tailRes; simp [hk]
  rw [hT]
  clear hT
  have HKK := hide hk
  clear hk
  have hBB : bareB st l = (st.tk.kind == 2 && opA l == 0) := rfl
  rw [hBB]
  clear hBB
  cases hb0 : (st.tk.kind == 2) <;> cases hb1 : (opA l == 0)
  all_goals simp only [Bool.and_self, Bool.and_true, Bool.and_false]
  rotate_right
  · skip
    cases hkr : keywordRes s f gI gL true l (stepSt s st1) with
    | err en pl =>
      have HKR := hide hkr
      clear hkr
      go_enter Tryz.func198, Tryz.ntmps198
      go_wp2_with (first | (go_at_call 241; refine (unhide HF _ st (unhide H) ho).mono ?_; rintro e w1 ⟨hk1, h1⟩; rw [unhide HRES] at h1; obtain ⟨v1, rfl, hn1, hr1, hf1, ho1, hp1⟩ := h1; obtain ⟨b, rfl, cb⟩ := hn1.opAt; obtain ⟨d0, d1, d2, d3, d4, d5, d6, dz⟩ := hr1; have hR1 := hide ((unhide H).kept hk1 ⟨d0, d1, d2, d3, d4, d5, d6, dz⟩ hf1); have hn1 := hide hn1; have hK1 := hide hk1; clear hk1 d0 d3 d4 d5 d6) | (go_at_call 54; refine (step_any rb s st1 _ (unhide hR1).size (unhide hR1).fine.after (unhide hR1).at' (unhide hR1).lt (unhide hR1).err).mono ?_; rintro e w2 ⟨rfl, hr2, hk2⟩; have hn2 := hide ((unhide hn1).kept hk2); have hK2 := hide ((unhide hK1).trans hk2); have hR2 := hide ((unhide hR1).kept hk2 hr2 ((unhide hR1).fine.next)); clear hr2 hk2) | (go_at_call 243; refine (keyword_any rb s op f gI gL (unhide HF) (unhide HI) (unhide HLK) _ _ (stepSt s st1) l _ (unhide hR2) ho1 (unhide hn2)).mono ?_; rintro e w3 ⟨hk3, h3⟩; rw [unhide HKR] at h3; subst h3; simp only [gaveUp]))
      exact ⟨rfl, (unhide hK2).trans hk3, rfl⟩
    | ok t st3 =>
      have HKR := hide hkr
      clear hkr
      go_enter Tryz.func198, Tryz.ntmps198
      go_wp2_with (first | (go_at_call 241; refine (unhide HF _ st (unhide H) ho).mono ?_; rintro e w1 ⟨hk1, h1⟩; rw [unhide HRES] at h1; obtain ⟨v1, rfl, hn1, hr1, hf1, ho1, hp1⟩ := h1; obtain ⟨b, rfl, cb⟩ := hn1.opAt; obtain ⟨d0, d1, d2, d3, d4, d5, d6, dz⟩ := hr1; have hR1 := hide ((unhide H).kept hk1 ⟨d0, d1, d2, d3, d4, d5, d6, dz⟩ hf1); have hn1 := hide hn1; have hK1 := hide hk1; clear hk1 d0 d3 d4 d5 d6) | (go_at_call 54; refine (step_any rb s st1 _ (unhide hR1).size (unhide hR1).fine.after (unhide hR1).at' (unhide hR1).lt (unhide hR1).err).mono ?_; rintro e w2 ⟨rfl, hr2, hk2⟩; have hn2 := hide ((unhide hn1).kept hk2); have hK2 := hide ((unhide hK1).trans hk2); have hR2 := hide ((unhide hR1).kept hk2 hr2 ((unhide hR1).fine.next)); clear hr2 hk2) | (go_at_call 243; refine (keyword_any rb s op f gI gL (unhide HF) (unhide HI) (unhide HLK) _ _ (stepSt s st1) l _ (unhide hR2) ho1 (unhide hn2)).mono ?_; rintro e w3 ⟨hk3, h3⟩; rw [unhide HKR] at h3; obtain ⟨v3, rfl, hn3, hr3, hf3, ho3, hp3⟩ := h3; have hn3 := hide hn3; have hr3 := hide hr3; have hK3 := hide ((unhide hK2).trans hk3); have hlt3 : rb < w3.heap.size := Nat.lt_of_lt_of_le (unhide hR2).lt hk3.size; clear hk3) | (go_at_call 200; refine (denial_any rb _ _ _ _ (unhide hn3) hlt3).mono ?_; rintro e w4 ⟨⟨v4, rfl, hn4⟩, hb4⟩; have hn4 := hide hn4; have hb4 := hide hb4))
      go_ret
      have hl1 := hf1.le (by rw [unhide HKK]; decide)
      exact ⟨(unhide hK3).trans (Kept.of_below (unhide hb4)), _, rfl, unhide hn4, (unhide hr3).below (unhide hb4) hlt3, hf3, ho3, by omega⟩
  all_goals
    cases hkr : keywordRes s f gI gL false l (stepSt s st1) with
    | err en pl =>
      have HKR := hide hkr
      clear hkr
      go_enter Tryz.func198, Tryz.ntmps198
      go_wp2_with (first | (go_at_call 241; refine (unhide HF _ st (unhide H) ho).mono ?_; rintro e w1 ⟨hk1, h1⟩; rw [unhide HRES] at h1; obtain ⟨v1, rfl, hn1, hr1, hf1, ho1, hp1⟩ := h1; obtain ⟨b, rfl, cb⟩ := hn1.opAt; obtain ⟨d0, d1, d2, d3, d4, d5, d6, dz⟩ := hr1; have hR1 := hide ((unhide H).kept hk1 ⟨d0, d1, d2, d3, d4, d5, d6, dz⟩ hf1); have hn1 := hide hn1; have hK1 := hide hk1; clear hk1 d0 d3 d4 d5 d6) | (go_at_call 54; refine (step_any rb s st1 _ (unhide hR1).size (unhide hR1).fine.after (unhide hR1).at' (unhide hR1).lt (unhide hR1).err).mono ?_; rintro e w2 ⟨rfl, hr2, hk2⟩; have hn2 := hide ((unhide hn1).kept hk2); have hK2 := hide ((unhide hK1).trans hk2); have hR2 := hide ((unhide hR1).kept hk2 hr2 ((unhide hR1).fine.next)); clear hr2 hk2) | (go_at_call 243; refine (keyword_any rb s op f gI gL (unhide HF) (unhide HI) (unhide HLK) _ _ (stepSt s st1) l _ (unhide hR2) ho1 (unhide hn2)).mono ?_; rintro e w3 ⟨hk3, h3⟩; rw [unhide HKR] at h3; subst h3; simp only [gaveUp]))
      exact ⟨rfl, (unhide hK2).trans hk3, rfl⟩
    | ok t st3 =>
      have HKR := hide hkr
      clear hkr
      go_enter Tryz.func198, Tryz.ntmps198
      go_wp2_with (first | (go_at_call 241; refine (unhide HF _ st (unhide H) ho).mono ?_; rintro e w1 ⟨hk1, h1⟩; rw [unhide HRES] at h1; obtain ⟨v1, rfl, hn1, hr1, hf1, ho1, hp1⟩ := h1; obtain ⟨b, rfl, cb⟩ := hn1.opAt; obtain ⟨d0, d1, d2, d3, d4, d5, d6, dz⟩ := hr1; have hR1 := hide ((unhide H).kept hk1 ⟨d0, d1, d2, d3, d4, d5, d6, dz⟩ hf1); have hn1 := hide hn1; have hK1 := hide hk1; clear hk1 d0 d3 d4 d5 d6) | (go_at_call 54; refine (step_any rb s st1 _ (unhide hR1).size (unhide hR1).fine.after (unhide hR1).at' (unhide hR1).lt (unhide hR1).err).mono ?_; rintro e w2 ⟨rfl, hr2, hk2⟩; have hn2 := hide ((unhide hn1).kept hk2); have hK2 := hide ((unhide hK1).trans hk2); have hR2 := hide ((unhide hR1).kept hk2 hr2 ((unhide hR1).fine.next)); clear hr2 hk2) | (go_at_call 243; refine (keyword_any rb s op f gI gL (unhide HF) (unhide HI) (unhide HLK) _ _ (stepSt s st1) l _ (unhide hR2) ho1 (unhide hn2)).mono ?_; rintro e w3 ⟨hk3, h3⟩; rw [unhide HKR] at h3; obtain ⟨v3, rfl, hn3, hr3, hf3, ho3, hp3⟩ := h3; have hn3 := hide hn3; have hr3 := hide hr3; have hK3 := hide ((unhide hK2).trans hk3); have hlt3 : rb < w3.heap.size := Nat.lt_of_lt_of_le (unhide hR2).lt hk3.size; clear hk3) | (go_at_call 200; refine (denial_any rb _ _ _ _ (unhide hn3) hlt3).mono ?_; rintro e w4 ⟨⟨v4, rfl, hn4⟩, hb4⟩; have hn4 := hide hn4; have hb4 := hide hb4))
      go_ret
      have hl1 := hf1.le (by rw [unhide HKK]; decide)
      exact ⟨(unhide hK3).trans (Kept.of_below (unhide hb4)), _, rfl, unhide hn4, (unhide hr3).below (unhide hb4) hlt3, hf3, ho3, by omega⟩

set_option maxHeartbeats 1000000 in
set_option maxRecDepth 100000 in
theorem test_10 (rb : Nat) (s : ByteArray) (op : Nat) (f : St → Res) (gI gL : Ast → St → Res) (hf : Reads 241 rb s op f) (hI : Tails 268 rb s op 11 gI) (hL : Tails 269 rb s op 12 gL)
    (w : World) (st : St) (h : Ready rb s w st) (ho : st.op = op) (l : Ast) (st1 : St) (hres : f st = .ok l st1) (hk : st1.tk.kind = 10) :
    Calls Tryz.prog 198 #[.pointer (some ⟨rb, 0, none⟩)] w (Gives rb s w op st.place (tailRes s f gI gL (bareB st l) l st1)) := by
  have H := hide h
  have HF := hide hf
  have HI := hide hI
  have HLK := hide hL
  have HRES := hide hres
  have hmf : ∀ (fn : Fn) (first cap : Array Value) (w : World), (Instr.makeFunc fn first cap).run Tryz.prog w = .ok (.func fn first cap) w := fun _ _ _ _ => rfl
  obtain ⟨c0, c1, c2, c3, c4, c5, c6, fz⟩ := h.at'
  have hlt := h.lt
  clear h hf hI hL hres
  have e16 : (st1.tk.kind == 16) = false := by rw [hk]; rfl
  have e17 : (st1.tk.kind == 17) = false := by rw [hk]; rfl
  have e18 : (st1.tk.kind == 18) = false := by rw [hk]; rfl
  have e19 : (st1.tk.kind == 19) = false := by rw [hk]; rfl
  have e20 : (st1.tk.kind == 20) = false := by rw [hk]; rfl
  have e21 : (st1.tk.kind == 21) = false := by rw [hk]; rfl
  have e14 : (st1.tk.kind == 14) = false := by rw [hk]; rfl
  have e7 : (st1.tk.kind == 7) = false := by rw [hk]; rfl
  have e10 : (st1.tk.kind == 10) = true := by rw [hk]; rfl
  have hT : ∀ bare, tailRes s f gI gL bare l st1 = keywordRes s f gI gL bare l st1 := fun bare => by unfold tailRes; simp [hk]
  rw [hT]
  clear hT
  have HKK := hide hk
  clear hk
  have hBB : bareB st l = (st.tk.kind == 2 && opA l == 0) := rfl
  rw [hBB]
  clear hBB
  cases hb0 : (st.tk.kind == 2) <;> cases hb1 : (opA l == 0)
  all_goals simp only [Bool.and_self, Bool.and_true, Bool.and_false]
  all_goals
    go_enter Tryz.func198, Tryz.ntmps198
    go_wp2_with (first | (go_at_call 241; refine (unhide HF _ st (unhide H) ho).mono ?_; rintro e w1 ⟨hk1, h1⟩; rw [unhide HRES] at h1; obtain ⟨v1, rfl, hn1, hr1, hf1, ho1, hp1⟩ := h1; obtain ⟨b, rfl, cb⟩ := hn1.opAt; obtain ⟨d0, d1, d2, d3, d4, d5, d6, dz⟩ := hr1; have hR1 := hide ((unhide H).kept hk1 ⟨d0, d1, d2, d3, d4, d5, d6, dz⟩ hf1); have hn1 := hide hn1; have hK1 := hide hk1; clear hk1 d0 d3 d4 d5 d6) | (go_at_call 243; refine (keyword_any rb s op f gI gL (unhide HF) (unhide HI) (unhide HLK) _ _ st1 l _ (unhide hR1) ho1 (unhide hn1)).mono ?_; rintro e w' hg; have hg := hg.from' (unhide hK1) hp1; rcases hg.cases with ⟨v, rfl, hg⟩ | ⟨en, pl, rfl, hg⟩; rotate_left; (exact ⟨rfl, hg⟩); have HG := hide hg; clear hg))
    go_ret
    exact unhide HG

set_option maxHeartbeats 1000000 in
set_option maxRecDepth 100000 in
theorem test_11 (rb : Nat) (s : ByteArray) (op : Nat) (f : St → Res) (gI gL : Ast → St → Res) (hf : Reads 241 rb s op f) (hI : Tails 268 rb s op 11 gI) (hL : Tails 269 rb s op 12 gL)
    (w : World) (st : St) (h : Ready rb s w st) (ho : st.op = op) (l : Ast) (st1 : St) (hres : f st = .ok l st1) (hk : st1.tk.kind = 11) :
    Calls Tryz.prog 198 #[.pointer (some ⟨rb, 0, none⟩)] w (Gives rb s w op st.place (tailRes s f gI gL (bareB st l) l st1)) := by
  have H := hide h
  have HF := hide hf
  have HI := hide hI
  have HLK := hide hL
  have HRES := hide hres
  have hmf : ∀ (fn : Fn) (first cap : Array Value) (w : World), (Instr.makeFunc fn first cap).run Tryz.prog w = .ok (.func fn first cap) w := fun _ _ _ _ => rfl
  obtain ⟨c0, c1, c2, c3, c4, c5, c6, fz⟩ := h.at'
  have hlt := h.lt
  clear h hf hI hL hres
  have e16 : (st1.tk.kind == 16) = false := by rw [hk]; rfl
  have e17 : (st1.tk.kind == 17) = false := by rw [hk]; rfl
  have e18 : (st1.tk.kind == 18) = false := by rw [hk]; rfl
  have e19 : (st1.tk.kind == 19) = false := by rw [hk]; rfl
  have e20 : (st1.tk.kind == 20) = false := by rw [hk]; rfl
  have e21 : (st1.tk.kind == 21) = false := by rw [hk]; rfl
  have e14 : (st1.tk.kind == 14) = false := by rw [hk]; rfl
  have e7 : (st1.tk.kind == 7) = false := by rw [hk]; rfl
  have e10 : (st1.tk.kind == 10) = false := by rw [hk]; rfl
  have e11 : (st1.tk.kind == 11) = true := by rw [hk]; rfl
  have hT : ∀ bare, tailRes s f gI gL bare l st1 = keywordRes s f gI gL bare l st1 := fun bare => by unfold tailRes; simp [hk]
  rw [hT]
  clear hT
  have HKK := hide hk
  clear hk
  have hBB : bareB st l = (st.tk.kind == 2 && opA l == 0) := rfl
  rw [hBB]
  clear hBB
  cases hb0 : (st.tk.kind == 2) <;> cases hb1 : (opA l == 0)
  all_goals simp only [Bool.and_self, Bool.and_true, Bool.and_false]
  all_goals
    go_enter Tryz.func198, Tryz.ntmps198
    go_wp2_with (first | (go_at_call 241; refine (unhide HF _ st (unhide H) ho).mono ?_; rintro e w1 ⟨hk1, h1⟩; rw [unhide HRES] at h1; obtain ⟨v1, rfl, hn1, hr1, hf1, ho1, hp1⟩ := h1; obtain ⟨b, rfl, cb⟩ := hn1.opAt; obtain ⟨d0, d1, d2, d3, d4, d5, d6, dz⟩ := hr1; have hR1 := hide ((unhide H).kept hk1 ⟨d0, d1, d2, d3, d4, d5, d6, dz⟩ hf1); have hn1 := hide hn1; have hK1 := hide hk1; clear hk1 d0 d3 d4 d5 d6) | (go_at_call 243; refine (keyword_any rb s op f gI gL (unhide HF) (unhide HI) (unhide HLK) _ _ st1 l _ (unhide hR1) ho1 (unhide hn1)).mono ?_; rintro e w' hg; have hg := hg.from' (unhide hK1) hp1; rcases hg.cases with ⟨v, rfl, hg⟩ | ⟨en, pl, rfl, hg⟩; rotate_left; (exact ⟨rfl, hg⟩); have HG := hide hg; clear hg))
    go_ret
    exact unhide HG

set_option maxHeartbeats 1000000 in
set_option maxRecDepth 100000 in
theorem test_12 (rb : Nat) (s : ByteArray) (op : Nat) (f : St → Res) (gI gL : Ast → St → Res) (hf : Reads 241 rb s op f) (hI : Tails 268 rb s op 11 gI) (hL : Tails 269 rb s op 12 gL)
    (w : World) (st : St) (h : Ready rb s w st) (ho : st.op = op) (l : Ast) (st1 : St) (hres : f st = .ok l st1) (hk : st1.tk.kind = 12) :
    Calls Tryz.prog 198 #[.pointer (some ⟨rb, 0, none⟩)] w (Gives rb s w op st.place (tailRes s f gI gL (bareB st l) l st1)) := by
  have H := hide h
  have HF := hide hf
  have HI := hide hI
  have HLK := hide hL
  have HRES := hide hres
  have hmf : ∀ (fn : Fn) (first cap : Array Value) (w : World), (Instr.makeFunc fn first cap).run Tryz.prog w = .ok (.func fn first cap) w := fun _ _ _ _ => rfl
  obtain ⟨c0, c1, c2, c3, c4, c5, c6, fz⟩ := h.at'
  have hlt := h.lt
  clear h hf hI hL hres
  have e16 : (st1.tk.kind == 16) = false := by rw [hk]; rfl
  have e17 : (st1.tk.kind == 17) = false := by rw [hk]; rfl
  have e18 : (st1.tk.kind == 18) = false := by rw [hk]; rfl
  have e19 : (st1.tk.kind == 19) = false := by rw [hk]; rfl
  have e20 : (st1.tk.kind == 20) = false := by rw [hk]; rfl
  have e21 : (st1.tk.kind == 21) = false := by rw [hk]; rfl
  have e14 : (st1.tk.kind == 14) = false := by rw [hk]; rfl
  have e7 : (st1.tk.kind == 7) = false := by rw [hk]; rfl
  have e10 : (st1.tk.kind == 10) = false := by rw [hk]; rfl
  have e11 : (st1.tk.kind == 11) = false := by rw [hk]; rfl
  have e12 : (st1.tk.kind == 12) = true := by rw [hk]; rfl
  have hT : ∀ bare, tailRes s f gI gL bare l st1 = keywordRes s f gI gL bare l st1 := fun bare => by unfold tailRes; simp [hk]
  rw [hT]
  clear hT
  have HKK := hide hk
  clear hk
  have hBB : bareB st l = (st.tk.kind == 2 && opA l == 0) := rfl
  rw [hBB]
  clear hBB
  cases hb0 : (st.tk.kind == 2) <;> cases hb1 : (opA l == 0)
  all_goals simp only [Bool.and_self, Bool.and_true, Bool.and_false]
  all_goals
    go_enter Tryz.func198, Tryz.ntmps198
    go_wp2_with (first | (go_at_call 241; refine (unhide HF _ st (unhide H) ho).mono ?_; rintro e w1 ⟨hk1, h1⟩; rw [unhide HRES] at h1; obtain ⟨v1, rfl, hn1, hr1, hf1, ho1, hp1⟩ := h1; obtain ⟨b, rfl, cb⟩ := hn1.opAt; obtain ⟨d0, d1, d2, d3, d4, d5, d6, dz⟩ := hr1; have hR1 := hide ((unhide H).kept hk1 ⟨d0, d1, d2, d3, d4, d5, d6, dz⟩ hf1); have hn1 := hide hn1; have hK1 := hide hk1; clear hk1 d0 d3 d4 d5 d6) | (go_at_call 243; refine (keyword_any rb s op f gI gL (unhide HF) (unhide HI) (unhide HLK) _ _ st1 l _ (unhide hR1) ho1 (unhide hn1)).mono ?_; rintro e w' hg; have hg := hg.from' (unhide hK1) hp1; rcases hg.cases with ⟨v, rfl, hg⟩ | ⟨en, pl, rfl, hg⟩; rotate_left; (exact ⟨rfl, hg⟩); have HG := hide hg; clear hg))
    go_ret
    exact unhide HG
end

section
set_option maxHeartbeats 1000000 in
theorem test_reads (rb : Nat) (s : ByteArray) (op : Nat) (f : St → Res) (gI gL : Ast → St → Res) (hf : Reads 241 rb s op f) (hI : Tails 268 rb s op 11 gI) (hL : Tails 269 rb s op 12 gL) :
    Reads 198 rb s op (testRes s f gI gL) := by
  intro w st h ho
  cases hres : f st with
  | err en pl =>
    have hT : testRes s f gI gL st = .err en pl := by unfold testRes; rw [hres]
    rw [hT]
    obtain ⟨c0, c1, c2, c3, c4, c5, c6, fz⟩ := h.at'
    have H := hide h
    have HF := hide hf
    have HRES := hide hres
    clear h hf hI hL hres hT
    cases hb0 : (st.tk.kind == 2)
    all_goals
      go_enter Tryz.func198, Tryz.ntmps198
      go_wp2_with (go_at_call 241; refine (unhide HF _ st (unhide H) ho).mono ?_; rintro e w1 ⟨hk1, h1⟩; rw [unhide HRES] at h1; subst h1; simp only [gaveUp])
      exact ⟨rfl, hk1, rfl⟩
  | ok l st1 =>
    have hT : testRes s f gI gL st = tailRes s f gI gL (bareB st l) l st1 := by unfold testRes; rw [hres]
    rw [hT]
    by_cases h16 : st1.tk.kind = 16
    · exact test_16 rb s op f gI gL hf hI hL w st h ho l st1 hres h16
    by_cases h17 : st1.tk.kind = 17
    · exact test_17 rb s op f gI gL hf hI hL w st h ho l st1 hres h17
    by_cases h18 : st1.tk.kind = 18
    · exact test_18 rb s op f gI gL hf hI hL w st h ho l st1 hres h18
    by_cases h19 : st1.tk.kind = 19
    · exact test_19 rb s op f gI gL hf hI hL w st h ho l st1 hres h19
    by_cases h20 : st1.tk.kind = 20
    · exact test_20 rb s op f gI gL hf hI hL w st h ho l st1 hres h20
    by_cases h21 : st1.tk.kind = 21
    · exact test_21 rb s op f gI gL hf hI hL w st h ho l st1 hres h21
    by_cases h14 : st1.tk.kind = 14
    · exact test_14 rb s op f gI gL hf hI hL w st h ho l st1 hres h14
    by_cases h7 : st1.tk.kind = 7
    · exact test_7 rb s op f gI gL hf hI hL w st h ho l st1 hres h7
    by_cases h10 : st1.tk.kind = 10
    · exact test_10 rb s op f gI gL hf hI hL w st h ho l st1 hres h10
    by_cases h11 : st1.tk.kind = 11
    · exact test_11 rb s op f gI gL hf hI hL w st h ho l st1 hres h11
    by_cases h12 : st1.tk.kind = 12
    · exact test_12 rb s op f gI gL hf hI hL w st h ho l st1 hres h12
    exact test_none rb s op f gI gL hf hI hL w st h ho l st1 hres h16 h17 h18 h19 h20 h21 h14 h7 h10 h11 h12
end

end Go.Proofs.YtfkcaldjphakpaaGreatDoor
