/- among. -/
import Derived.Test.YtfkcaldjphakpaaGreatDoorQOf2
import Derived.Deep.RegionWith
namespace Go.Proofs.YtfkcaldjphakpaaGreatDoor
open Go.RowKit

structure AmAt (w W : World) (F : Nat) (x f : V) : Prop where
  x0 : W.cell? ⟨w.heap.size, 0, none⟩ = some (.int .i64 x.kind)
  x1 : W.cell? ⟨w.heap.size, 1, none⟩ = some (.int .i64 x.num)
  x2 : W.cell? ⟨w.heap.size, 2, none⟩ = some (.string (BS x.str))
  r0 : W.cell? ⟨w.heap.size + 1, 0, none⟩ = some (.int .i64 0)
  r1 : W.cell? ⟨w.heap.size + 1, 1, none⟩ = some (.int .i64 0)
  r2 : W.cell? ⟨w.heap.size + 1, 2, none⟩ = some (.string ⟨#[]⟩)
  f0 : W.cell? ⟨F, 0, none⟩ = some (.int .i64 f.kind)
  f1 : W.cell? ⟨F, 1, none⟩ = some (.int .i64 f.num)
  f2 : W.cell? ⟨F, 2, none⟩ = some (.string (BS f.str))
  fr : ∀ j, W.frozen? ⟨w.heap.size + 1, j, none⟩ = false
  ff : ∀ j, W.frozen? ⟨F, j, none⟩ = false
  ge : w.heap.size + 1 < F
  lt : F < W.heap.size
  below : Below w.heap.size w W

theorem AmAt.next {w W W' : World} {F : Nat} {x f : V} (h : AmAt w W F x f) (hb : Below W.heap.size W W') : AmAt w W' F x f := by
  obtain ⟨hc, hf⟩ := bcell hb
  have hl := h.lt
  have hg := h.ge
  exact ⟨(hc _ 0 (by omega)).trans h.x0, (hc _ 1 (by omega)).trans h.x1, (hc _ 2 (by omega)).trans h.x2, (hc _ 0 (by omega)).trans h.r0, (hc _ 1 (by omega)).trans h.r1, (hc _ 2 (by omega)).trans h.r2, (hc _ 0 (by omega)).trans h.f0, (hc _ 1 (by omega)).trans h.f1, (hc _ 2 (by omega)).trans h.f2, fun j => (hf _ j (by omega)).trans (h.fr j), fun j => (hf _ j (by omega)).trans (h.ff j), hg, Nat.lt_of_lt_of_le hl hb.size, below_any h.below hb⟩

theorem AmAt.drew {w W : World} {F : Nat} {x f : V} (h : AmAt w W F x f) : AmAt w W.drew F x f := h.next ((Below.refl _ _).drew)

theorem TextsAt.any {lo : Nat} {w : World} {v : Value} {ts : List (List UInt8)} (h : TextsAt lo w v ts) : ∃ a c, v = .slice a ts.length c ∧ ∀ (j : Nat) (t : List UInt8), ts[j]? = some t → ∃ g, a = some ⟨g, 0, none⟩ ∧ g < w.heap.size ∧ w.cell? ⟨g, j, none⟩ = some (.string (BS t)) := by
  rcases h with ⟨rfl, rfl⟩ | ⟨g, c, rfl, _, h2, h3⟩
  · exact ⟨none, 0, rfl, fun j t hj => by simp at hj⟩
  · exact ⟨_, c, rfl, fun j t hj => ⟨g, rfl, h2, h3 j t hj⟩⟩

theorem AmAt.store {w W : World} {F : Nat} {x f : V} (h : AmAt w W F x f) (f' : V) : AmAt w (((W.setCell ⟨F, 0, none⟩ (.int .i64 f'.kind)).setCell ⟨F, 1, none⟩ (.int .i64 f'.num)).setCell ⟨F, 2, none⟩ (.string (BS f'.str))) F x f' := by
  have hg := h.ge
  have d0 : ¬ F = w.heap.size := by omega
  have d1 : ¬ F = w.heap.size + 1 := by omega
  have d2 : ¬ w.heap.size = F := by omega
  have d3 : ¬ w.heap.size + 1 = F := by omega
  refine ⟨?_, ?_, ?_, ?_, ?_, ?_, ?_, ?_, ?_, fun j => ?_, fun j => ?_, hg, by simpa using h.lt, ((h.below.setCell (by show w.heap.size ≤ F; omega) _).setCell (by show w.heap.size ≤ F; omega) _).setCell (by show w.heap.size ≤ F; omega) _⟩
  · simp [go_sem, h.x0]
  · simp [go_sem, h.x1]
  · simp [go_sem, h.x2]
  · simp [go_sem, h.r0]
  · simp [go_sem, h.r1]
  · simp [go_sem, h.r2]
  · simp [go_sem, h.f0]
  · simp [go_sem, h.f1]
  · simp [go_sem, h.f2]
  · simp [go_sem, h.fr]
  · simp [go_sem, h.ff]

theorem am_start (w w0 : World) (x : V) (hb : Below ((w.alloc (.cells #[.int .i64 x.kind, .int .i64 x.num, .string (BS x.str)] 26)).alloc (.cells #[.int .i64 0, .int .i64 0, .string ⟨#[]⟩] 26)).heap.size ((w.alloc (.cells #[.int .i64 x.kind, .int .i64 x.num, .string (BS x.str)] 26)).alloc (.cells #[.int .i64 0, .int .i64 0, .string ⟨#[]⟩] 26)) w0) :
    AmAt w (w0.alloc (.cells #[.int .i64 (bV false).kind, .int .i64 (bV false).num, .string (BS (bV false).str)] 26)) w0.heap.size x (bV false) := by
  obtain ⟨hc, hf⟩ := bcell hb
  have hz := hb.size
  simp at hz
  refine ⟨?_, ?_, ?_, ?_, ?_, ?_, ?_, ?_, ?_, fun j => ?_, fun j => ?_, by omega, by simp, below_alloc (below_any (below2 w _ _) hb) _⟩
  · rw [World.cell?_alloc_past _ _ _ (by omega), hc _ 0 (by simp; omega), World.cell?_alloc_past _ _ _ (by simp), World.cell?_alloc_at _ _ _ _ rfl]; rfl
  · rw [World.cell?_alloc_past _ _ _ (by omega), hc _ 1 (by simp; omega), World.cell?_alloc_past _ _ _ (by simp), World.cell?_alloc_at _ _ _ _ rfl]; rfl
  · rw [World.cell?_alloc_past _ _ _ (by omega), hc _ 2 (by simp; omega), World.cell?_alloc_past _ _ _ (by simp), World.cell?_alloc_at _ _ _ _ rfl]; rfl
  · rw [World.cell?_alloc_past _ _ _ (by omega), hc _ 0 (by simp), World.cell?_alloc_at _ _ _ _ (by simp)]; rfl
  · rw [World.cell?_alloc_past _ _ _ (by omega), hc _ 1 (by simp), World.cell?_alloc_at _ _ _ _ (by simp)]; rfl
  · rw [World.cell?_alloc_past _ _ _ (by omega), hc _ 2 (by simp), World.cell?_alloc_at _ _ _ _ (by simp)]; rfl
  · rw [World.cell?_alloc_at _ _ _ _ rfl]; rfl
  · rw [World.cell?_alloc_at _ _ _ _ rfl]; rfl
  · rw [World.cell?_alloc_at _ _ _ _ rfl]; rfl
  · rw [World.frozen?_alloc_past _ _ _ (by omega), hf _ j (by simp), World.frozen?_alloc_at _ _ _ _ (by simp)]
  · rw [World.frozen?_alloc_at _ _ _ _ rfl]

def amStep (x f : V) (t : List UInt8) : V := orV f (eqV x (tV t))

theorem am_more {x f : V} {ts : List (List UInt8)} {k : Nat} {t : List UInt8} (h : ts[k]? = some t) : (ts.drop k).foldl (amStep x) f = (ts.drop (k + 1)).foldl (amStep x) (orV f (eqV x (tV t))) := by
  obtain ⟨hk, he⟩ := List.getElem?_eq_some_iff.1 h
  rw [List.drop_eq_getElem_cons hk, he]; rfl
theorem am_end {x f : V} {ts : List (List UInt8)} {k : Nat} (h : ts.length ≤ k) : (ts.drop k).foldl (amStep x) f = f := by
  rw [List.drop_of_length_le h]; rfl

set_option maxHeartbeats 2000000 in
set_option maxRecDepth 100000 in
theorem among_any (lo : Nat) (t : Ast) (hts : (payA t).texts.length ≤ 1000) (w : World) (b : Nat) (x : V) (h : IsNode lo w (.pointer (some ⟨b, 0, none⟩)) t) :
    Calls Tryz.prog 108 #[.pointer (some ⟨b, 0, none⟩), vV x] w fun e w' => e = .returned (vV (amongV x (payA t).texts)) ∧ Below w.heap.size w w' := by
  obtain ⟨b', sv, hb, hnode, _⟩ := h.parts
  obtain rfl : b = b' := by simpa using hb
  obtain ⟨tv, c6, htx⟩ := hnode.c6
  have hbw := hnode.within
  obtain ⟨ta, tc, rfl, htxt⟩ := htx.any
  obtain ⟨R, hR⟩ : ∃ r, amongV x (payA t).texts = r := ⟨_, rfl⟩
  rw [hR]
  have HR : Hid ((payA t).texts.foldl (amStep x) (bV false) = R) := hide hR
  obtain ⟨ts, hts'⟩ : ∃ l, (payA t).texts = l := ⟨_, rfl⟩
  rw [hts'] at hts HR c6 htxt
  obtain ⟨n, hn⟩ : ∃ n, ts.length = n := ⟨_, rfl⟩
  rw [hn] at hts c6
  have HN := hide hn
  have HT := hide htxt
  clear hR hts' hnode htx hb h hn htxt
  conv => arg 3; simp only [vV]
  have m1 : b < w.heap.size + 1 := by omega
  have m2 : b < w.heap.size + 1 + 1 := by omega
  go_enter Tryz.func108, Tryz.ntmps108
  go_wp2_with (go_at_call 64; refine (vBool_any false _).mono ?_; rintro e w0 ⟨rfl, hb0⟩; have c6' : w0.cell? ⟨b, 6, none⟩ = some (.slice ta n tc) := ((bcell hb0).1 _ 6 (by simp; omega)).trans (by rw [World.cell?_alloc_past _ _ _ (by simp; omega), World.cell?_alloc_past _ _ _ (by omega)]; exact c6); have hz0 : w.heap.size + 1 < w0.heap.size := (by have := hb0.size; simp at this; omega); have hbz : b < w0.heap.size := (by omega); have AM : Hid (AmAt w (w0.alloc (.cells #[.int .i64 (bV false).kind, .int .i64 (bV false).num, .string (BS (bV false).str)] 26)) w0.heap.size x (bV false)) := hide (am_start w w0 x hb0); clear hb0; simp only [vV])
  go_loopw [14] (fun i wr => ∃ (k : Nat) (f : V), k ≤ n ∧ i = .int .i64 k ∧ Hid (R = (ts.drop k).foldl (amStep x) f) ∧ Hid (AmAt w wr w0.heap.size x f)) (fun i _ => n - (intOf i).toNat)
  case atStart => exact ⟨0, bV false, Nat.zero_le _, rfl, hide (by rw [List.drop_zero, unhide HR]), AM⟩
  case round =>
    obtain ⟨k, f, hk, rfl, hh, hAM⟩ := hrel
    by_cases hlt : k < n
    · obtain ⟨s, hs⟩ : ∃ s, ts[k]? = some s := ⟨_, List.getElem?_eq_getElem (by rw [unhide HN]; exact hlt)⟩
      obtain ⟨g, rfl, hg2, hcs⟩ := unhide HT k s hs
      have dg := ((unhide hAM).below.cell (p := ⟨g, k, none⟩) hg2).trans hcs
      have HH : Hid (R = (ts.drop (k + 1)).foldl (amStep x) (orV f (eqV x (tV s)))) := hide (by rw [unhide hh, am_more hs])
      have AM0 := hide (unhide hAM).drew
      clear hh hs hcs AM hAM
      go_wp2_with fail
      obtain ⟨x0_0, x1_0, x2_0, r0_0, r1_0, r2_0, f0_0, f1_0, f2_0, fr_0, ff_0, ge_0, lt_0, bel_0⟩ := unhide AM0
      go_region_with (first | (go_at_call 63; refine (vText_any (BS s) _).mono ?_; rw [BS_data]; rintro e w1 ⟨rfl, hb1⟩; have AM1 := hide ((unhide AM0).next hb1); obtain ⟨x0_1, x1_1, x2_1, r0_1, r1_1, r2_1, f0_1, f1_1, f2_1, fr_1, ff_1, ge_1, lt_1, bel_1⟩ := unhide AM1; clear hb1) | (go_at_call 155; refine (vEqual_any x (tV s) _).mono ?_; rintro e w2 ⟨rfl, hb2⟩; have AM2 := hide ((unhide AM1).next hb2); obtain ⟨x0_2, x1_2, x2_2, r0_2, r1_2, r2_2, f0_2, f1_2, f2_2, fr_2, ff_2, ge_2, lt_2, bel_2⟩ := unhide AM2; clear hb2) | (go_at_call 154; refine (vOr_any f (eqV x (tV s)) _).mono ?_; rintro e w3 ⟨rfl, hb3⟩; have AM3 := hide ((unhide AM2).next hb3); obtain ⟨x0_3, x1_3, x2_3, r0_3, r1_3, r2_3, f0_3, f1_3, f2_3, fr_3, ff_3, ge_3, lt_3, bel_3⟩ := unhide AM3; clear hb3; simp only [vV]))
      all_goals
        go_wp2_with fail
        go_roundw
        case rel => exact ⟨k + 1, _, by omega, by go_num, HH, hide ((unhide AM3).store _)⟩
        case measure => simp [intOf]; omega
    · have HH : Hid (R = f) := hide (by rw [unhide hh, am_end (by rw [unhide HN]; omega)])
      have AM0 := hAM
      clear hh AM hAM
      obtain ⟨x0_0, x1_0, x2_0, r0_0, r1_0, r2_0, f0_0, f1_0, f2_0, fr_0, ff_0, ge_0, lt_0, bel_0⟩ := unhide AM0
      go_wp2_with fail
      refine bodyPost_ret (by simp [results, Tryz.results108, go_sem, r0_0, r1_0, r2_0] <;> rfl) rfl ⟨?_, ?_⟩
      · rw [unhide HH]; rfl
      · exact ((bel_0.setCell (by simp) _).setCell (by simp) _).setCell (by simp) _

end Go.Proofs.YtfkcaldjphakpaaGreatDoor
