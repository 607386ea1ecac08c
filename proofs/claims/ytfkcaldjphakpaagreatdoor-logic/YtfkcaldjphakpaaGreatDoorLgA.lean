/- The three-valued logic of package sievekeep. -/
import Derived.Test.YtfkcaldjphakpaaGreatDoorEeA
import Derived.Deep.RegionWith
namespace Go.Proofs.YtfkcaldjphakpaaGreatDoor
open Go.RowKit

def kAnd (a b : V) : V := if decide (a = bV false) || decide (b = bV false) then bV false else if a.kind == 1 && b.kind == 1 then bV true else nV
def kOr (a b : V) : V := notV (kAnd (notV a) (notV b))
def bigB (e : Int) : Bool := e == 1 || e == 3

set_option maxHeartbeats 400000 in
theorem tooBig_any (e : Int) (w : World) :
    Calls Tryz.prog 24 #[.int .i64 e] w fun r w' => r = .returned (.bool (bigB e)) ∧ w' = w := by
  unfold bigB
  cases h1 : (e == 1) <;> cases h3 : (e == 3)
  all_goals
    go_enter Tryz.func24, Tryz.ntmps24
    go_wp2_with fail
    go_ret
    exact ⟨rfl, rfl⟩

set_option maxHeartbeats 400000 in
theorem kNot_any (a : V) (w : World) :
    Calls Tryz.prog 27 #[vV a] w fun e w' => e = .returned (vV (notV a)) ∧ Below w.heap.size w w' := by
  unfold notV
  cases hk : (a.kind == 1) with
  | false =>
    have hk' : (a.kind != 1) = true := by rw [bne, hk]; rfl
    rw [if_neg (by decide)]
    conv => arg 3; simp only [vV]
    go_enter Tryz.func27, Tryz.ntmps27
    go_wp2_with fail
    refine bodyPost_ret (by simp [results, Tryz.results27, go_sem] <;> rfl) rfl ⟨rfl, ?_⟩
    exact below2 _ _ _
  | true =>
    have hk' : (a.kind != 1) = false := by rw [bne, hk]; rfl
    rw [if_pos rfl]
    generalize hb : (a.num == 0) = b
    conv => arg 3; simp only [vV]
    go_enter Tryz.func27, Tryz.ntmps27
    go_wp2_with (go_at_call 18; refine (truth_any _ _).mono ?_; rintro e w1 ⟨rfl, hb1⟩; obtain ⟨hc1, hf1⟩ := bcell hb1; have hz1 : w.heap.size + 1 < w1.heap.size := (by have := hb1.size; simp at this; omega); have HB1 := hide (below_any (below2 w _ _) hb1); clear hb1; simp only [vV])
    refine bodyPost_ret (by simp [results, Tryz.results27, go_sem, hc1] <;> rfl) rfl ⟨rfl, ?_⟩
    exact (((unhide HB1).setCell (by simp) _).setCell (by simp) _).setCell (by simp) _

set_option maxHeartbeats 1000000 in
theorem kAnd_any (x y : V) (w : World) :
    Calls Tryz.prog 25 #[vV x, vV y] w fun e w' => e = .returned (vV (kAnd x y)) ∧ Below w.heap.size w w' := by
  have ex := fun w => eql_v x (bV false) w
  have ey := fun w => eql_v y (bV false) w
  simp only [vV] at ex ey
  unfold kAnd
  generalize decide (x = bV false) = a at *
  generalize decide (y = bV false) = b at *
  generalize hW0 : ((w.alloc (.cells #[.int .i64 x.kind, .int .i64 x.num, .string (BS x.str)] 26)).alloc (.cells #[.int .i64 y.kind, .int .i64 y.num, .string (BS y.str)] 26)).alloc (.cells #[.int .i64 0, .int .i64 0, .string ⟨#[]⟩] 26) = W0
  have hbase : Below w.heap.size w W0 := by rw [← hW0]; exact below3 _ _ _ _
  have hsz : W0.heap.size = w.heap.size + 3 := by rw [← hW0]; simp
  have x0 : W0.cell? ⟨w.heap.size, 0, none⟩ = some (.int .i64 x.kind) := by rw [← hW0, World.cell?_alloc_past _ _ _ (by simp; omega), World.cell?_alloc_past _ _ _ (by simp)]; simp
  have x1 : W0.cell? ⟨w.heap.size, 1, none⟩ = some (.int .i64 x.num) := by rw [← hW0, World.cell?_alloc_past _ _ _ (by simp; omega), World.cell?_alloc_past _ _ _ (by simp)]; simp
  have x2 : W0.cell? ⟨w.heap.size, 2, none⟩ = some (.string (BS x.str)) := by rw [← hW0, World.cell?_alloc_past _ _ _ (by simp; omega), World.cell?_alloc_past _ _ _ (by simp)]; simp
  have y0 : W0.cell? ⟨w.heap.size + 1, 0, none⟩ = some (.int .i64 y.kind) := by rw [← hW0, World.cell?_alloc_past _ _ _ (by simp)]; simp
  have y1 : W0.cell? ⟨w.heap.size + 1, 1, none⟩ = some (.int .i64 y.num) := by rw [← hW0, World.cell?_alloc_past _ _ _ (by simp)]; simp
  have y2 : W0.cell? ⟨w.heap.size + 1, 2, none⟩ = some (.string (BS y.str)) := by rw [← hW0, World.cell?_alloc_past _ _ _ (by simp)]; simp
  have z0 : W0.cell? ⟨w.heap.size + 2, 0, none⟩ = some (.int .i64 0) := by rw [← hW0, World.cell?_alloc_at _ _ _ _ (by simp)]; rfl
  have z1 : W0.cell? ⟨w.heap.size + 2, 1, none⟩ = some (.int .i64 0) := by rw [← hW0, World.cell?_alloc_at _ _ _ _ (by simp)]; rfl
  have z2 : W0.cell? ⟨w.heap.size + 2, 2, none⟩ = some (.string ⟨#[]⟩) := by rw [← hW0, World.cell?_alloc_at _ _ _ _ (by simp)]; rfl
  have zf : ∀ j, W0.frozen? ⟨w.heap.size + 2, j, none⟩ = false := by intro j; rw [← hW0, World.frozen?_alloc_at _ _ _ _ (by simp)]
  have HW := hide hW0
  clear hW0
  have HB : Hid (Below W0.heap.size W0 W0.drew) := hide (Below.refl _ _).drew
  cases a with
  | true =>
    rw [Bool.true_or, if_pos rfl]
    conv => arg 3; simp only [vV]
    go_enter Tryz.func25, Tryz.ntmps25
    go_wp2_with fail
    rw [unhide HW]
    go_cut [12] (fun s12 wx => s12 = .bool true ∧ Hid (Below W0.heap.size W0 wx))
    case first =>
      first | go_region_with (go_at_call 18; refine (truth_any _ _).mono ?_; rintro e w1 ⟨rfl, hb1⟩; replace HB := hide (below_any (unhide HB) hb1); obtain ⟨hc1, hf1⟩ := bcell (unhide HB); clear hb1; simp only [vV]) | fail "no region"
      all_goals (go_wp2_with fail; go_meet; exact ⟨rfl, HB⟩)
    case rest =>
      obtain ⟨rfl, hB⟩ := hcut
      obtain ⟨hc, hf⟩ := bcell (unhide hB)
      have hwz : w.heap.size + 2 < wc.heap.size := by have := (unhide hB).size; omega
      have k0 := (hc _ 0 (by omega)).trans x0
      have m0 := (hc _ 0 (by omega)).trans y0
      have p0 := (hc _ 0 (by omega)).trans z0
      have p1 := (hc _ 1 (by omega)).trans z1
      have p2 := (hc _ 2 (by omega)).trans z2
      have pf : ∀ j, wc.frozen? ⟨w.heap.size + 2, j, none⟩ = false := fun j => (hf _ j (by omega)).trans (zf j)
      have HBW := hide (below_any hbase (unhide hB))
      clear hc hf x0 x1 x2 y0 y1 y2 z0 z1 z2 zf
      go_wp2_with (go_at_call 18; refine (truth_any _ _).mono ?_; rintro e w2 ⟨rfl, hb2⟩; have hz2 : w.heap.size + 2 < w2.heap.size := (by have := hb2.size; omega); have q0 := ((bcell hb2).1 _ 0 hwz).trans p0; have q1 := ((bcell hb2).1 _ 1 hwz).trans p1; have q2 := ((bcell hb2).1 _ 2 hwz).trans p2; have qf : ∀ j, w2.frozen? ⟨w.heap.size + 2, j, none⟩ = false := (fun j => ((bcell hb2).2 _ j hwz).trans (pf j)); have HB2 := hide (below_any (unhide HBW) hb2); clear hb2; simp only [vV])
      refine bodyPost_ret (by simp [results, Tryz.results25, go_sem, q0, q1, q2] <;> rfl) rfl ⟨rfl, ?_⟩
      exact (((unhide HB2).setCell (by first | omega | (simp <;> omega)) _).setCell (by first | omega | (simp <;> omega)) _).setCell (by first | omega | (simp <;> omega)) _
  | false =>
    cases b with
    | true =>
      rw [Bool.false_or, if_pos rfl]
      conv => arg 3; simp only [vV]
      go_enter Tryz.func25, Tryz.ntmps25
      go_wp2_with fail
      rw [unhide HW]
      go_cut [12] (fun s12 wx => s12 = .bool true ∧ Hid (Below W0.heap.size W0 wx))
      case first =>
        first | go_region_with (go_at_call 18; refine (truth_any _ _).mono ?_; rintro e w1 ⟨rfl, hb1⟩; replace HB := hide (below_any (unhide HB) hb1); obtain ⟨hc1, hf1⟩ := bcell (unhide HB); clear hb1; simp only [vV]) | fail "no region"
        all_goals (go_wp2_with fail; go_meet; exact ⟨rfl, HB⟩)
      case rest =>
        obtain ⟨rfl, hB⟩ := hcut
        obtain ⟨hc, hf⟩ := bcell (unhide hB)
        have hwz : w.heap.size + 2 < wc.heap.size := by have := (unhide hB).size; omega
        have k0 := (hc _ 0 (by omega)).trans x0
        have m0 := (hc _ 0 (by omega)).trans y0
        have p0 := (hc _ 0 (by omega)).trans z0
        have p1 := (hc _ 1 (by omega)).trans z1
        have p2 := (hc _ 2 (by omega)).trans z2
        have pf : ∀ j, wc.frozen? ⟨w.heap.size + 2, j, none⟩ = false := fun j => (hf _ j (by omega)).trans (zf j)
        have HBW := hide (below_any hbase (unhide hB))
        clear hc hf x0 x1 x2 y0 y1 y2 z0 z1 z2 zf
        go_wp2_with (go_at_call 18; refine (truth_any _ _).mono ?_; rintro e w2 ⟨rfl, hb2⟩; have hz2 : w.heap.size + 2 < w2.heap.size := (by have := hb2.size; omega); have q0 := ((bcell hb2).1 _ 0 hwz).trans p0; have q1 := ((bcell hb2).1 _ 1 hwz).trans p1; have q2 := ((bcell hb2).1 _ 2 hwz).trans p2; have qf : ∀ j, w2.frozen? ⟨w.heap.size + 2, j, none⟩ = false := (fun j => ((bcell hb2).2 _ j hwz).trans (pf j)); have HB2 := hide (below_any (unhide HBW) hb2); clear hb2; simp only [vV])
        refine bodyPost_ret (by simp [results, Tryz.results25, go_sem, q0, q1, q2] <;> rfl) rfl ⟨rfl, ?_⟩
        exact (((unhide HB2).setCell (by first | omega | (simp <;> omega)) _).setCell (by first | omega | (simp <;> omega)) _).setCell (by first | omega | (simp <;> omega)) _
    | false =>
      rw [Bool.false_or, if_neg (by decide)]
      cases hk : (x.kind == 1) with
      | false =>
        rw [Bool.false_and, if_neg (by decide)]
        conv => arg 3; simp only [vV]
        go_enter Tryz.func25, Tryz.ntmps25
        go_wp2_with fail
        rw [unhide HW]
        go_cut [12] (fun s12 wx => s12 = .bool false ∧ Hid (Below W0.heap.size W0 wx))
        case first =>
          first | go_region_with (go_at_call 18; refine (truth_any _ _).mono ?_; rintro e w1 ⟨rfl, hb1⟩; replace HB := hide (below_any (unhide HB) hb1); obtain ⟨hc1, hf1⟩ := bcell (unhide HB); clear hb1; simp only [vV]) | fail "no region"
          all_goals (go_wp2_with fail; go_meet; exact ⟨rfl, HB⟩)
        case rest =>
          obtain ⟨rfl, hB⟩ := hcut
          obtain ⟨hc, hf⟩ := bcell (unhide hB)
          have hwz : w.heap.size + 2 < wc.heap.size := by have := (unhide hB).size; omega
          have k0 := (hc _ 0 (by omega)).trans x0
          have m0 := (hc _ 0 (by omega)).trans y0
          have p0 := (hc _ 0 (by omega)).trans z0
          have p1 := (hc _ 1 (by omega)).trans z1
          have p2 := (hc _ 2 (by omega)).trans z2
          have pf : ∀ j, wc.frozen? ⟨w.heap.size + 2, j, none⟩ = false := fun j => (hf _ j (by omega)).trans (zf j)
          have HBW := hide (below_any hbase (unhide hB))
          clear hc hf x0 x1 x2 y0 y1 y2 z0 z1 z2 zf
          go_wp2_with fail
          refine bodyPost_ret (by simp [results, Tryz.results25, go_sem, p0, p1, p2] <;> rfl) rfl ⟨rfl, ?_⟩
          exact (((unhide HBW).setCell (by first | omega | (simp <;> omega)) _).setCell (by first | omega | (simp <;> omega)) _).setCell (by first | omega | (simp <;> omega)) _
      | true =>
        rw [Bool.true_and]
        cases hl : (y.kind == 1) with
        | false =>
          rw [if_neg (by decide)]
          conv => arg 3; simp only [vV]
          go_enter Tryz.func25, Tryz.ntmps25
          go_wp2_with fail
          rw [unhide HW]
          go_cut [12] (fun s12 wx => s12 = .bool false ∧ Hid (Below W0.heap.size W0 wx))
          case first =>
            first | go_region_with (go_at_call 18; refine (truth_any _ _).mono ?_; rintro e w1 ⟨rfl, hb1⟩; replace HB := hide (below_any (unhide HB) hb1); obtain ⟨hc1, hf1⟩ := bcell (unhide HB); clear hb1; simp only [vV]) | fail "no region"
            all_goals (go_wp2_with fail; go_meet; exact ⟨rfl, HB⟩)
          case rest =>
            obtain ⟨rfl, hB⟩ := hcut
            obtain ⟨hc, hf⟩ := bcell (unhide hB)
            have hwz : w.heap.size + 2 < wc.heap.size := by have := (unhide hB).size; omega
            have k0 := (hc _ 0 (by omega)).trans x0
            have m0 := (hc _ 0 (by omega)).trans y0
            have p0 := (hc _ 0 (by omega)).trans z0
            have p1 := (hc _ 1 (by omega)).trans z1
            have p2 := (hc _ 2 (by omega)).trans z2
            have pf : ∀ j, wc.frozen? ⟨w.heap.size + 2, j, none⟩ = false := fun j => (hf _ j (by omega)).trans (zf j)
            have HBW := hide (below_any hbase (unhide hB))
            clear hc hf x0 x1 x2 y0 y1 y2 z0 z1 z2 zf
            go_wp2_with fail
            refine bodyPost_ret (by simp [results, Tryz.results25, go_sem, p0, p1, p2] <;> rfl) rfl ⟨rfl, ?_⟩
            exact (((unhide HBW).setCell (by first | omega | (simp <;> omega)) _).setCell (by first | omega | (simp <;> omega)) _).setCell (by first | omega | (simp <;> omega)) _
        | true =>
          rw [if_pos rfl]
          conv => arg 3; simp only [vV]
          go_enter Tryz.func25, Tryz.ntmps25
          go_wp2_with fail
          rw [unhide HW]
          go_cut [12] (fun s12 wx => s12 = .bool false ∧ Hid (Below W0.heap.size W0 wx))
          case first =>
            first | go_region_with (go_at_call 18; refine (truth_any _ _).mono ?_; rintro e w1 ⟨rfl, hb1⟩; replace HB := hide (below_any (unhide HB) hb1); obtain ⟨hc1, hf1⟩ := bcell (unhide HB); clear hb1; simp only [vV]) | fail "no region"
            all_goals (go_wp2_with fail; go_meet; exact ⟨rfl, HB⟩)
          case rest =>
            obtain ⟨rfl, hB⟩ := hcut
            obtain ⟨hc, hf⟩ := bcell (unhide hB)
            have hwz : w.heap.size + 2 < wc.heap.size := by have := (unhide hB).size; omega
            have k0 := (hc _ 0 (by omega)).trans x0
            have m0 := (hc _ 0 (by omega)).trans y0
            have p0 := (hc _ 0 (by omega)).trans z0
            have p1 := (hc _ 1 (by omega)).trans z1
            have p2 := (hc _ 2 (by omega)).trans z2
            have pf : ∀ j, wc.frozen? ⟨w.heap.size + 2, j, none⟩ = false := fun j => (hf _ j (by omega)).trans (zf j)
            have HBW := hide (below_any hbase (unhide hB))
            clear hc hf x0 x1 x2 y0 y1 y2 z0 z1 z2 zf
            go_wp2_with (go_at_call 18; refine (truth_any _ _).mono ?_; rintro e w2 ⟨rfl, hb2⟩; have hz2 : w.heap.size + 2 < w2.heap.size := (by have := hb2.size; omega); have q0 := ((bcell hb2).1 _ 0 hwz).trans p0; have q1 := ((bcell hb2).1 _ 1 hwz).trans p1; have q2 := ((bcell hb2).1 _ 2 hwz).trans p2; have qf : ∀ j, w2.frozen? ⟨w.heap.size + 2, j, none⟩ = false := (fun j => ((bcell hb2).2 _ j hwz).trans (pf j)); have HB2 := hide (below_any (unhide HBW) hb2); clear hb2; simp only [vV])
            refine bodyPost_ret (by simp [results, Tryz.results25, go_sem, q0, q1, q2] <;> rfl) rfl ⟨rfl, ?_⟩
            exact (((unhide HB2).setCell (by first | omega | (simp <;> omega)) _).setCell (by first | omega | (simp <;> omega)) _).setCell (by first | omega | (simp <;> omega)) _

end Go.Proofs.YtfkcaldjphakpaaGreatDoor
