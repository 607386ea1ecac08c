/- Meant of any text and any event. -/
import Derived.Test.YtfkcaldjphakpaaGreatDoorA24
import Derived.Test.YtfkcaldjphakpaaGreatDoorA22
import Derived.Deep.RegionWith
namespace Go.Proofs.YtfkcaldjphakpaaGreatDoor
open Go.RowKit

section
variable (s C : ByteArray) (ea : Option Addr) (n c : Nat) (w : World)
set_option maxHeartbeats 4000000 in
set_option maxRecDepth 100000 in
theorem meant_err (en pl : Int) (hen : en = 1 ∨ en = 2 ∨ en = 3 ∨ en = 4)
    (RD : Hid (∀ w1, Below w.heap.size w w1 → Calls Tryz.prog 22 #[] w1 fun e w' => e = .returned (.bool true) ∧ Below w1.heap.size w1 w'))
    (EV : Hid (∀ w1, Below w.heap.size w w1 → Calls Tryz.prog 23 #[.string s, .slice ea n c] w1 fun e w' => e = .returned (.tuple #[vV nV, .int .i64 en, .int .i64 pl]) ∧ Below w1.heap.size w1 w'))
    (CN : Hid (∀ w1, Below w.heap.size w w1 → Calls Tryz.prog 28 #[.string s] w1 fun e w' => e = .returned (.tuple #[.string ⟨#[]⟩, .int .i64 en, .int .i64 pl]) ∧ Below w1.heap.size w1 w')) :
    Calls Tryz.prog 9 #[.string s, .slice ea n c] w fun e w' => e = .returned (.bool true) ∧ Below w.heap.size w w' := by
  simp only [vV, nV] at EV
  have HB := hide (Below.refl w.heap.size w)
  rcases hen with rfl | rfl | rfl | rfl
  all_goals
    go_enter Tryz.func9, Tryz.ntmps9
    go_wp2_with (first | (go_at_call 28; refine (unhide CN _ (below_alloc (unhide B2) _)).mono ?_; clear CN; rintro e w3 ⟨rfl, hb3⟩; have B3 := hide (below_any (below_alloc (unhide B2) _) hb3); clear hb3) | (go_at_call 23; refine (unhide EV _ (unhide B1)).mono ?_; clear EV; rintro e w2 ⟨rfl, hb2⟩; have B2 := hide (below_any (unhide B1) hb2); clear hb2) | (go_at_call 22; refine (unhide RD _ (unhide HB)).mono ?_; clear RD; rintro e w1 ⟨rfl, hb1⟩; have B1 := hide (below_any (unhide HB) hb1); clear hb1))
    go_ret
    exact ⟨rfl, unhide B3⟩
set_option maxHeartbeats 4000000 in
set_option maxRecDepth 100000 in
theorem meant_big (X : V) (f fp en pl : Int) (hen : en = 1 ∨ en = 3) (hC : C.toList ≠ [])
    (RD : Hid (∀ w1, Below w.heap.size w w1 → Calls Tryz.prog 22 #[] w1 fun e w' => e = .returned (.bool true) ∧ Below w1.heap.size w1 w'))
    (EV : Hid (∀ w1, Below w.heap.size w w1 → Calls Tryz.prog 23 #[.string s, .slice ea n c] w1 fun e w' => e = .returned (.tuple #[vV X, .int .i64 f, .int .i64 fp]) ∧ Below w1.heap.size w1 w'))
    (CN : Hid (∀ w1, Below w.heap.size w w1 → Calls Tryz.prog 28 #[.string s] w1 fun e w' => e = .returned (.tuple #[.string C, .int .i64 0, .int .i64 0]) ∧ Below w1.heap.size w1 w'))
    (C2 : Hid (∀ w1, Below w.heap.size w w1 → Calls Tryz.prog 28 #[.string C] w1 fun e w' => e = .returned (.tuple #[.string ⟨#[]⟩, .int .i64 en, .int .i64 pl]) ∧ Below w1.heap.size w1 w')) :
    Calls Tryz.prog 9 #[.string s, .slice ea n c] w fun e w' => e = .returned (.bool true) ∧ Below w.heap.size w w' := by
  simp only [vV] at EV
  have HB := hide (Below.refl w.heap.size w)
  have hne : C.toList.isEmpty = false := by
    cases h : C.toList with
    | nil => exact absurd h hC
    | cons a r => rfl
  have TB : Hid (∀ W, Calls Tryz.prog 24 #[.int .i64 en] W fun e w' => e = .returned (.bool true) ∧ w' = W) := hide fun W => by
    have := tooBig_any en W
    rwa [show bigB en = true by rcases hen with rfl | rfl <;> rfl] at this
  clear hC
  rcases hen with rfl | rfl
  all_goals
    go_enter Tryz.func9, Tryz.ntmps9
    go_wp2_with (first | (go_at_call 24; refine (unhide TB _).mono ?_; clear TB; rintro e w5 ⟨rfl, rfl⟩) | (go_at_call 28; refine (unhide C2 _ (unhide B3)).mono ?_; clear C2; rintro e w4 ⟨rfl, hb4⟩; have B4 := hide (below_any (unhide B3) hb4); clear hb4) | (go_at_call 28; refine (unhide CN _ (below_alloc (unhide B2) _)).mono ?_; clear CN; rintro e w3 ⟨rfl, hb3⟩; have B3 := hide (below_any (below_alloc (unhide B2) _) hb3); clear hb3) | (go_at_call 23; refine (unhide EV _ (unhide B1)).mono ?_; clear EV; rintro e w2 ⟨rfl, hb2⟩; have B2 := hide (below_any (unhide B1) hb2); clear hb2) | (go_at_call 22; refine (unhide RD _ (unhide HB)).mono ?_; clear RD; rintro e w1 ⟨rfl, hb1⟩; have B1 := hide (below_any (unhide HB) hb1); clear hb1))
    go_ret
    exact ⟨rfl, unhide B4⟩
set_option maxHeartbeats 4000000 in
set_option maxRecDepth 100000 in
theorem meant_ok (X : V) (f fp fq : Int)
    (RD : Hid (∀ w1, Below w.heap.size w w1 → Calls Tryz.prog 22 #[] w1 fun e w' => e = .returned (.bool true) ∧ Below w1.heap.size w1 w'))
    (EV : Hid (∀ w1, Below w.heap.size w w1 → Calls Tryz.prog 23 #[.string s, .slice ea n c] w1 fun e w' => e = .returned (.tuple #[vV X, .int .i64 f, .int .i64 fp]) ∧ Below w1.heap.size w1 w'))
    (CN : Hid (∀ w1, Below w.heap.size w w1 → Calls Tryz.prog 28 #[.string s] w1 fun e w' => e = .returned (.tuple #[.string C, .int .i64 0, .int .i64 0]) ∧ Below w1.heap.size w1 w'))
    (C2 : Hid (∀ w1, Below w.heap.size w w1 → Calls Tryz.prog 28 #[.string C] w1 fun e w' => e = .returned (.tuple #[.string C, .int .i64 0, .int .i64 0]) ∧ Below w1.heap.size w1 w'))
    (E2 : Hid (∀ w1, Below w.heap.size w w1 → Calls Tryz.prog 23 #[.string C, .slice ea n c] w1 fun e w' => e = .returned (.tuple #[vV X, .int .i64 f, .int .i64 fq]) ∧ Below w1.heap.size w1 w')) :
    Calls Tryz.prog 9 #[.string s, .slice ea n c] w fun e w' => e = .returned (.bool true) ∧ Below w.heap.size w w' := by
  simp only [vV] at EV E2
  have HB := hide (Below.refl w.heap.size w)
  have qs : ∀ w, (binOp .eql 9 (.string C) (.string C)).run Tryz.prog w = .ok (.bool true) w := fun w => by simp [binOp, Op.stringOp]
  have qx : ∀ w, (binOp .eql 26 (.agg #[.int .i64 X.kind, .int .i64 X.num, .string (BS X.str)]) (.agg #[.int .i64 X.kind, .int .i64 X.num, .string (BS X.str)])).run Tryz.prog w = .ok (.bool true) w := fun w => by have := eql_v X X w; simpa [vV] using this
  go_enter Tryz.func9, Tryz.ntmps9
  go_wp2_with (first | (go_at_call 23; refine (unhide E2 _ (unhide B4)).mono ?_; clear E2; rintro e w5 ⟨rfl, hb5⟩; have B5 := hide (below_any (unhide B4) hb5); have K5 := hide ((unhide K4).step hb5 X); clear hb5; obtain ⟨v0, v1, v2, vl⟩ := unhide K5; obtain ⟨u0, u1, u2, ul⟩ := vat_new w5 X) | (go_at_call 28; refine (unhide C2 _ (unhide B3)).mono ?_; clear C2; rintro e w4 ⟨rfl, hb4⟩; have B4 := hide (below_any (unhide B3) hb4); have K4 := hide ((unhide K3).below hb4); clear hb4 K3) | (go_at_call 28; refine (unhide CN _ (below_alloc (unhide B2) _)).mono ?_; clear CN; rintro e w3 ⟨rfl, hb3⟩; have B3 := hide (below_any (below_alloc (unhide B2) _) hb3); have K3 := hide ((unhide K2).below hb3); clear hb3 K2) | (go_at_call 23; refine (unhide EV _ (unhide B1)).mono ?_; clear EV; rintro e w2 ⟨rfl, hb2⟩; have B2 := hide (below_any (unhide B1) hb2); have K2 := hide (vat_new w2 X); clear hb2) | (go_at_call 22; refine (unhide RD _ (unhide HB)).mono ?_; clear RD; rintro e w1 ⟨rfl, hb1⟩; have B1 := hide (below_any (unhide HB) hb1); clear hb1))
  all_goals go_ret
  all_goals exact ⟨rfl, below_alloc (unhide B5) _⟩
end

theorem meant_all (s : ByteArray) (hs : s.size ≤ 140737488355328) (ps : List Pr) (ev : Value) (w : World) (hL : LibOk w) (hev : EvIn w ev ps) (hg : EvGood ps) : Calls Tryz.prog 9 #[.string s, ev] w fun e w' => e = .returned (.bool true) ∧ Below w.heap.size w w' := by
  obtain ⟨ea, n, c, rfl⟩ := hev.slice
  have hl : ∀ w1, Below w.heap.size w w1 → LibOk w1 := fun w1 hb => hL.below hb (Nat.le_refl _)
  have RD : Hid (∀ w1, Below w.heap.size w w1 → Calls Tryz.prog 22 #[] w1 fun e w' => e = .returned (.bool true) ∧ Below w1.heap.size w1 w') := hide fun w1 hb => reads_any w1 (hl w1 hb).err
  have EV : ∀ (u : ByteArray), u.size ≤ 140737488355328 → ∀ w1, Below w.heap.size w w1 → Calls Tryz.prog 23 #[.string u, .slice ea n c] w1 fun e w' => e = .returned (.tuple #[vV (evalR u ps).val, .int .i64 (evalR u ps).errno, .int .i64 (evalR u ps).place]) ∧ Below w1.heap.size w1 w' := fun u hu w1 hb => eval_any u hu ps _ w1 (hl w1 hb).err (hev.below hb) hg
  have CN : ∀ (u : ByteArray), u.size ≤ 140737488355328 → ∀ w1, Below w.heap.size w w1 → Calls Tryz.prog 28 #[.string u] w1 (CnEnds w1 (readR u)) := fun u hu w1 hb => canon_any u hu w1 (hl w1 hb)
  cases hrd : readR s with
  | err en pl =>
    have hen := read_err_pos hrd
    refine meant_err s ea n c w en pl hen RD (hide fun w1 hb => ?_) (hide fun w1 hb => ?_)
    · have := EV s hs w1 hb
      unfold evalR at this
      rw [hrd] at this
      exact this
    · refine (CN s hs w1 hb).mono ?_
      rw [hrd]
      rintro e w' ⟨h1, h2⟩
      exact ⟨h2, h1⟩
  | ok t =>
    obtain ⟨hne, hlen, hcase⟩ := meant_facts hrd
    obtain ⟨S, hS⟩ : ∃ S, spell (coreA t) = S := ⟨_, rfl⟩
    have hz : (BS (spell (coreA t))).size ≤ 140737488355328 := by rw [BS_size]; omega
    have CN1 : Hid (∀ w1, Below w.heap.size w w1 → Calls Tryz.prog 28 #[.string s] w1 fun e w' => e = .returned (.tuple #[.string (BS (spell (coreA t))), .int .i64 0, .int .i64 0]) ∧ Below w1.heap.size w1 w') := hide fun w1 hb => (CN s hs w1 hb).mono (by rw [hrd]; rintro e w' ⟨h1, h2⟩; exact ⟨h2, h1⟩)
    have hv : evalR s ps = if evOk ps then ⟨ofA ps t, 0, 0⟩ else ⟨nV, 7, 0⟩ := by unfold evalR; rw [hrd]
    rcases hcase with ⟨en, pl, hr2, hen⟩ | ⟨t', hr2, hcore, hmean⟩
    · refine meant_big s (BS (spell (coreA t))) ea n c w _ _ _ en pl hen ?_ RD (hide fun w1 hb => EV s hs w1 hb) CN1 (hide fun w1 hb => (CN _ hz w1 hb).mono ?_)
      · rw [BS_toList]
        exact hne
      · rw [hr2]
        rintro e w' ⟨h1, h2⟩
        exact ⟨h2, h1⟩
    · have hv2 : evalR (BS (spell (coreA t))) ps = evalR s ps := by
        rw [hv]
        unfold evalR
        rw [hr2]
        by_cases h : evOk ps = true
        · simp only [h, if_true, hmean ps h]
        · simp [h]
      refine meant_ok s (BS (spell (coreA t))) ea n c w _ _ _ (evalR s ps).place RD (hide fun w1 hb => EV s hs w1 hb) CN1 (hide fun w1 hb => (CN _ hz w1 hb).mono ?_) (hide fun w1 hb => ?_)
      · rw [hr2]
        rintro e w' ⟨h1, h2⟩
        have h2 : e = .returned (.tuple #[.string (BS (spell (coreA t'))), .int .i64 0, .int .i64 0]) := h2
        rw [hcore] at h2
        exact ⟨h2, h1⟩
      · have := EV _ hz w1 hb
        rw [hv2] at this
        exact this
end Go.Proofs.YtfkcaldjphakpaaGreatDoor
