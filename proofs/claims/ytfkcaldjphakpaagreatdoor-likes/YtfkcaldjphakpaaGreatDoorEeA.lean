/- Eval of a selector and an event. is, truth, sum. -/
import Derived.Test.YtfkcaldjphakpaaGreatDoorRfB
import Derived.Test.YtfkcaldjphakpaaGreatDoorOfB
import Derived.Test.YtfkcaldjphakpaaGreatDoorEvA
import Derived.Test.YtfkcaldjphakpaaGreatDoorShelf
namespace Go.Proofs.YtfkcaldjphakpaaGreatDoor
open Go.RowKit

section
set_option maxHeartbeats 1000000 in
set_option maxRecDepth 100000 in
theorem eval_ok (s : ByteArray) (hs : s.size ≤ 140737488355328) (t : Ast) (hrd : readR s = .ok t) (ps : List Pr) (b off cap : Nat) (w : World) (hE : ErrOk w)
    (hcap : ps.length ≤ cap) (hbig : ps.length ≤ 8) (hsh : Short ps) (hw : EvAt w b off ps) (hlt : b < w.heap.size) (hok : evOk ps = true)
    (hof : ∀ lo, OfOk lo ps (.slice (some ⟨b, off, none⟩) ps.length cap) t) (hlen : (ofA ps t).str.length ≤ 281474976710656) :
    Calls Tryz.prog 23 #[.string s, .slice (some ⟨b, off, none⟩) ps.length cap] w fun e w' => e = .returned (.tuple #[vV (ofA ps t), .int .i64 0, .int .i64 0]) ∧ Below w.heap.size w w' := by
  have RD := hide (read_any s (w.alloc (.cells #[.int .i64 0, .int .i64 0, .string ⟨#[]⟩] 26)) (hE.alloc _) hs)
  rw [hrd] at RD
  have hbl := (Below.refl w.heap.size w).alloc (Nat.le_refl _) (.cells #[.int .i64 0, .int .i64 0, .string ⟨#[]⟩] 26)
  have EVA := hide (hw.below hbl hlt)
  have HV := hide (fun w1 (h : EvAt w1 b off ps) (hl : b < w1.heap.size) => valid_good b off cap ps w1 hcap (by omega) hsh h hl hok)
  have HOF := hide hof
  have HB8 := hide hbig
  obtain ⟨r, hr⟩ : ∃ r, ofA ps t = r := ⟨_, rfl⟩
  rw [hr] at hlen ⊢
  have HR := hide hr
  have hzs := BS_size r.str
  have hcl : (BS r.str).size ≤ 281474976710656 := by omega
  obtain ⟨n, hn⟩ : ∃ n, ps.length = n := ⟨_, rfl⟩
  have HN := hide hn
  rw [hn] at HV HOF ⊢
  clear hrd hE hsh hw hok hof hr hlen hzs hbig hcap hn
  go_enter Tryz.func23, Tryz.ntmps23
  go_wp2_with (first | (go_at_call 36; refine (unhide RD).mono ?_; rintro e w1 ⟨hb1, v1, rfl, hn1⟩; obtain ⟨vb, rfl⟩ := hn1.ptr; have hz1 : w.heap.size < w1.heap.size := (by have := hb1.size; simp at this; omega); have EV1 := hide ((unhide EVA).below hb1 (by simp; omega)); have g0 : w1.cell? ⟨w.heap.size, 0, none⟩ = some (.int .i64 0) := ((bcell hb1).1 _ 0 (by simp)).trans (by simp); have g1 : w1.cell? ⟨w.heap.size, 1, none⟩ = some (.int .i64 0) := ((bcell hb1).1 _ 1 (by simp)).trans (by simp); have g2 : w1.cell? ⟨w.heap.size, 2, none⟩ = some (.string ⟨#[]⟩) := ((bcell hb1).1 _ 2 (by simp)).trans (by simp); have z0 : ∀ j, w1.frozen? ⟨w.heap.size, j, none⟩ = false := (fun j => ((bcell hb1).2 _ j (by simp)).trans (by simp)); have hB1 := hide (below_any hbl hb1); have hN1 := hide hn1; clear hb1 hn1) | (go_at_call 37; refine (unhide HV _ (unhide EV1) (by omega)).mono ?_; rintro e w2 ⟨rfl, hb2⟩; have hz2 : w.heap.size < w2.heap.size := (by have := hb2.size; omega); have EV2 := hide ((unhide EV1).below hb2 (by omega)); have k0 : w2.cell? ⟨w.heap.size, 0, none⟩ = some (.int .i64 0) := ((bcell hb2).1 _ 0 hz1).trans g0; have k1 : w2.cell? ⟨w.heap.size, 1, none⟩ = some (.int .i64 0) := ((bcell hb2).1 _ 1 hz1).trans g1; have k2 : w2.cell? ⟨w.heap.size, 2, none⟩ = some (.string ⟨#[]⟩) := ((bcell hb2).1 _ 2 hz1).trans g2; have z2 : ∀ j, w2.frozen? ⟨w.heap.size, j, none⟩ = false := (fun j => ((bcell hb2).2 _ j hz1).trans (z0 j)); have hN2 := hide ((unhide hN1).kept (Kept.of_below hb2)); have hB2 := hide (below_any (unhide hB1) hb2); clear hb2 g0 g1 g2 z0) | (go_at_call 38; refine (unhide HOF _ _ _ (unhide hN2) ⟨unhide HB8, .inr ⟨b, off, cap, by rw [unhide HN], unhide EV2, by omega⟩⟩).mono ?_; rw [unhide HR]; rintro e w3 ⟨rfl, hb3⟩; have hz3 : w.heap.size < w3.heap.size := (by have := hb3.size; omega); have m0 : w3.cell? ⟨w.heap.size, 0, none⟩ = some (.int .i64 0) := ((bcell hb3).1 _ 0 hz2).trans k0; have m1 : w3.cell? ⟨w.heap.size, 1, none⟩ = some (.int .i64 0) := ((bcell hb3).1 _ 1 hz2).trans k1; have m2 : w3.cell? ⟨w.heap.size, 2, none⟩ = some (.string ⟨#[]⟩) := ((bcell hb3).1 _ 2 hz2).trans k2; have z3 : ∀ j, w3.frozen? ⟨w.heap.size, j, none⟩ = false := (fun j => ((bcell hb3).2 _ j hz2).trans (z2 j)); have hB3 := hide (below_any (unhide hB2) hb3); clear hb3 k0 k1 k2 z2; simp only [vV]) | (go_at_call 39; refine (clone_any (BS r.str) _ hcl).mono ?_; rintro e w4 ⟨rfl, hb4⟩; have hz4 : w3.heap.size < w4.heap.size := (by have := hb4.size; simp at this; omega); have n0 : w4.cell? ⟨w.heap.size, 0, none⟩ = some (.int .i64 0) := ((bcell hb4).1 _ 0 (by simp; omega)).trans (by rw [World.cell?_alloc_past _ _ _ hz3]; exact m0); have n1 : w4.cell? ⟨w.heap.size, 1, none⟩ = some (.int .i64 0) := ((bcell hb4).1 _ 1 (by simp; omega)).trans (by rw [World.cell?_alloc_past _ _ _ hz3]; exact m1); have n2 : w4.cell? ⟨w.heap.size, 2, none⟩ = some (.string ⟨#[]⟩) := ((bcell hb4).1 _ 2 (by simp; omega)).trans (by rw [World.cell?_alloc_past _ _ _ hz3]; exact m2); have z4 : ∀ j, w4.frozen? ⟨w.heap.size, j, none⟩ = false := (fun j => ((bcell hb4).2 _ j (by simp; omega)).trans (by rw [World.frozen?_alloc_past _ _ _ hz3]; exact z3 j)); have a0 : w4.cell? ⟨w3.heap.size, 0, none⟩ = some (.int .i64 r.kind) := ((bcell hb4).1 _ 0 (by simp)).trans (by simp); have a1 : w4.cell? ⟨w3.heap.size, 1, none⟩ = some (.int .i64 r.num) := ((bcell hb4).1 _ 1 (by simp)).trans (by simp); have a2 : w4.cell? ⟨w3.heap.size, 2, none⟩ = some (.string (BS r.str)) := ((bcell hb4).1 _ 2 (by simp)).trans (by simp); have z5 : ∀ j, w4.frozen? ⟨w3.heap.size, j, none⟩ = false := (fun j => ((bcell hb4).2 _ j (by simp)).trans (by simp)); have hne : ¬ w3.heap.size = w.heap.size := (by omega); have hB4 := hide (below_any (below_alloc (unhide hB3) _) hb4); clear hb4 m0 m1 m2 z3))
  refine bodyPost_ret (by simp [results, Tryz.results23, go_sem, n0, n1, n2] <;> rfl) rfl ⟨rfl, ?_⟩
  exact ((((unhide hB4).setCell (by simp; omega) _).setCell (by simp) _).setCell (by simp) _).setCell (by simp) _
end

section
set_option maxHeartbeats 400000 in
theorem truth_any (b : Bool) (w : World) :
    Calls Tryz.prog 18 #[.bool b] w fun e w' => e = .returned (vV (bV b)) ∧ Below w.heap.size w w' := by
  cases b
  all_goals
    go_enter Tryz.func18, Tryz.ntmps18
    go_wp2_with fail
    refine bodyPost_ret (by simp [results, Tryz.results18, go_sem] <;> rfl) rfl ⟨rfl, ?_⟩
    exact below2 _ _ _

set_option maxHeartbeats 400000 in
theorem is_any (s : ByteArray) (ev : Value) (r want : V) (hev : ∃ a n c, ev = .slice a n c) (w : World) (hEV : ∀ w1, Below w.heap.size w w1 → w.heap.size < w1.heap.size → Calls Tryz.prog 23 #[.string s, ev] w1 fun e w' => e = .returned (.tuple #[vV r, .int .i64 0, .int .i64 0]) ∧ Below w1.heap.size w1 w') :
    Calls Tryz.prog 17 #[.string s, ev, vV want] w fun e w' => e = .returned (.bool (decide (r = want))) ∧ Below w.heap.size w w' := by
  have he := fun w => eql_v r want w
  have EV := hide hEV
  obtain ⟨a, n, c, rfl⟩ := hev
  obtain ⟨d, hd⟩ : ∃ d, decide (r = want) = d := ⟨_, rfl⟩
  rw [hd] at he ⊢
  clear hEV hd
  simp only [vV] at he
  conv => arg 3; simp only [vV]
  go_enter Tryz.func17, Tryz.ntmps17
  go_wp2_with (go_at_call 23; refine (unhide EV _ ((Below.refl _ _).alloc (Nat.le_refl _) _) (by simp)).mono ?_; rintro e w1 ⟨rfl, hb1⟩; have hz1 : w.heap.size < w1.heap.size := (by have := hb1.size; simp at this; omega); have g0 : w1.cell? ⟨w.heap.size, 0, none⟩ = some (.int .i64 want.kind) := ((bcell hb1).1 _ 0 (by simp)).trans (by simp); have g1 : w1.cell? ⟨w.heap.size, 1, none⟩ = some (.int .i64 want.num) := ((bcell hb1).1 _ 1 (by simp)).trans (by simp); have g2 : w1.cell? ⟨w.heap.size, 2, none⟩ = some (.string (BS want.str)) := ((bcell hb1).1 _ 2 (by simp)).trans (by simp); have hB1 := hide (below_step hb1); clear hb1; simp only [vV])
  go_ret
  exact ⟨rfl, below_alloc (unhide hB1) _⟩


/-- The sum goes round just where it is no int64. -/
def sumOk (x y : Int) : Bool := fitB (x + y)
end

end Go.Proofs.YtfkcaldjphakpaaGreatDoor
