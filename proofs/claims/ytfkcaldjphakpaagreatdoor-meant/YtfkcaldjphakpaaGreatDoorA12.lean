/- Read. join: BETWEEN. -/
import Derived.Test.YtfkcaldjphakpaaGreatDoorA14
import Derived.Test.YtfkcaldjphakpaaGreatDoorQOf2
import Derived.Deep.RegionHeld3
namespace Go.Proofs.YtfkcaldjphakpaaGreatDoor
open Go.RowKit

section
theorem ErrOk.set {w : World} (h : ErrOk w) {p : Addr} (hp : 3 < p.block) (u : Value) : ErrOk (w.setCell p u) := by
  obtain ⟨h1, ev, h2, h3⟩ := h
  refine ⟨by rw [size_setCell]; exact h1, ev, ?_, h3⟩
  rw [World.cell?_of_block (w := w) (w' := w.setCell p u) (Below.heap_setCell w p u _ (by show 3 ≠ p.block; omega))]; exact h2

set_option maxHeartbeats 2000000 in
set_option maxRecDepth 100000 in
theorem read_any (s : ByteArray) (w : World) (hE : ErrOk w) (hsz : s.size ≤ 140737488355328) :
    Calls Tryz.prog 36 #[.string s] w (ReadEnds w (readR s)) := by
  have hmf : ∀ (fn : Fn) (first cap : Array Value) (w : World), (Instr.makeFunc fn first cap).run Tryz.prog w = .ok (.func fn first cap) w := fun _ _ _ _ => rfl
  by_cases hs : s.size ≤ 200
  · rw [readR, if_pos hs]
    have hs1 : s.size ≤ 140737488355328 := hsz
    have hb : decide ((200 : Int) < (s.size : Int)) = false := decide_eq_false (by omega)
    have RDY := hide (begun_ready w s hE hs)
    have BC := hide (begun_cells w s)
    have BB := hide (begun_below w s)
    have BZ := begun_size w s
    have EI := hide (lvl_reads (w.heap.size + 3) s hs 12 0 rfl).E
    have HF1 := hide (stepSt_fine s st0 (Nat.zero_le _))
    have GOOD := hide (lvl_good s 12).E
    have ERR2 : Hid (∀ w2 u, Kept (w.heap.size + 3) (begun w s) w2 → ErrOk (w2.setCell ⟨w.heap.size, 0, none⟩ u)) := hide fun w2 u hk => ((begun_err w s hE).kept hk (by have := hE.1; omega)).set hE.1 u
    clear hE hsz
    cases hres : (lvl s 12).E (stepSt s st0) with
    | err en pl =>
      have HRES := hide hres
      clear hres
      go_enter_defers Tryz.func36, Tryz.ntmps36
      go_wp2_with (first | (go_at_call 54; refine (step_any (w.heap.size + 3) s st0 (begun w s) hs1 (Nat.zero_le _) (unhide RDY).at' (unhide RDY).lt (unhide RDY).err).mono ?_; rintro e w1 ⟨rfl, hr1, hk1⟩; have hz1 := hk1.size; rw [begun_size] at hz1; obtain ⟨kc, kf⟩ := kcell hk1; rw [begun_size] at kc kf; have a0 : w1.cell? ⟨w.heap.size, 0, none⟩ = some (.pointer none) := (kc _ 0 (by omega) (by omega)).trans (unhide BC).1; have a1 : w1.cell? ⟨w.heap.size + 1, 0, none⟩ = some (.int .i64 0) := (kc _ 0 (by omega) (by omega)).trans (unhide BC).2.1; have a2 : w1.cell? ⟨w.heap.size + 2, 0, none⟩ = some (.int .i64 0) := (kc _ 0 (by omega) (by omega)).trans (unhide BC).2.2.1; have b0 : w1.frozen? ⟨w.heap.size, 0, none⟩ = false := (kf _ 0 (by omega) (by omega)).trans (unhide BC).2.2.2.1; have b1 : w1.frozen? ⟨w.heap.size + 1, 0, none⟩ = false := (kf _ 0 (by omega) (by omega)).trans (unhide BC).2.2.2.2.1; have b2 : w1.frozen? ⟨w.heap.size + 2, 0, none⟩ = false := (kf _ 0 (by omega) (by omega)).trans (unhide BC).2.2.2.2.2; have hR1 := hide ((unhide RDY).kept hk1 hr1 (unhide HF1)); have hK1 := hide hk1; clear hr1 hk1 kc kf) | (go_at_call 55; refine (unhide EI w1 (stepSt s st0) (unhide hR1) rfl).mono ?_; rintro e w2 ⟨hk2, h2⟩; rw [unhide HRES] at h2; subst h2; have hz2 := hk2.size; obtain ⟨kc, kf⟩ := kcell hk2; have c0 : w2.cell? ⟨w.heap.size, 0, none⟩ = some (.pointer none) := (kc _ 0 (by omega) (by omega)).trans a0; have c1 : w2.cell? ⟨w.heap.size + 1, 0, none⟩ = some (.int .i64 0) := (kc _ 0 (by omega) (by omega)).trans a1; have c2 : w2.cell? ⟨w.heap.size + 2, 0, none⟩ = some (.int .i64 0) := (kc _ 0 (by omega) (by omega)).trans a2; have d0 : w2.frozen? ⟨w.heap.size, 0, none⟩ = false := (kf _ 0 (by omega) (by omega)).trans b0; have d1 : w2.frozen? ⟨w.heap.size + 1, 0, none⟩ = false := (kf _ 0 (by omega) (by omega)).trans b1; have d2 : w2.frozen? ⟨w.heap.size + 2, 0, none⟩ = false := (kf _ 0 (by omega) (by omega)).trans b2; have hK2 := hide ((unhide hK1).trans hk2); clear hk2 kc kf a0 a1 a2 b0 b1 b2; simp only [gaveUp]))
      refine leaves_cons (f := 53) (args := #[.pointer (some ⟨w.heap.size, 0, none⟩), .pointer (some ⟨w.heap.size + 1, 0, none⟩), .pointer (some ⟨w.heap.size + 2, 0, none⟩)]) (by simp) (by simp [go_sem]) ?_
      refine (catch_panicking w.heap.size (.pointer none) (.int .i64 0) (.int .i64 0) _ _ [] w2 (by omega) c0 c1 c2 d0 d1 d2).mono ?_
      rintro e u' w9 ⟨rfl, rfl, k0, k1, k2, hb9⟩
      have HB := hide (((unhide hK2).below (unhide BB) (by omega) (by omega)).trans hb9)
      simp [Leaves, settle, results, Tryz.results36, go_sem, k0, k1, k2]
      exact ⟨unhide HB, rfl⟩
    | ok t st2 =>
      have CHK := hide (check_any (w.heap.size + 3) t (unhide GOOD _ _ _ hres))
      have HRES := hide hres
      clear hres
      show Calls Tryz.prog _ _ _ (ReadEnds w (endR t st2))
      unfold endR
      by_cases hk : st2.tk.kind = 0
      · rw [if_pos hk]
        have HK := hide hk
        clear hk
        cases hch : chkR (clsA t) with
        | none =>
          have HCH := hide hch
          clear hch
          go_enter_defers Tryz.func36, Tryz.ntmps36
          go_wp2_with (first | (go_at_call 54; refine (step_any (w.heap.size + 3) s st0 (begun w s) hs1 (Nat.zero_le _) (unhide RDY).at' (unhide RDY).lt (unhide RDY).err).mono ?_; rintro e w1 ⟨rfl, hr1, hk1⟩; have hz1 := hk1.size; rw [begun_size] at hz1; obtain ⟨kc, kf⟩ := kcell hk1; rw [begun_size] at kc kf; have a0 : w1.cell? ⟨w.heap.size, 0, none⟩ = some (.pointer none) := (kc _ 0 (by omega) (by omega)).trans (unhide BC).1; have a1 : w1.cell? ⟨w.heap.size + 1, 0, none⟩ = some (.int .i64 0) := (kc _ 0 (by omega) (by omega)).trans (unhide BC).2.1; have a2 : w1.cell? ⟨w.heap.size + 2, 0, none⟩ = some (.int .i64 0) := (kc _ 0 (by omega) (by omega)).trans (unhide BC).2.2.1; have b0 : w1.frozen? ⟨w.heap.size, 0, none⟩ = false := (kf _ 0 (by omega) (by omega)).trans (unhide BC).2.2.2.1; have b1 : w1.frozen? ⟨w.heap.size + 1, 0, none⟩ = false := (kf _ 0 (by omega) (by omega)).trans (unhide BC).2.2.2.2.1; have b2 : w1.frozen? ⟨w.heap.size + 2, 0, none⟩ = false := (kf _ 0 (by omega) (by omega)).trans (unhide BC).2.2.2.2.2; have hR1 := hide ((unhide RDY).kept hk1 hr1 (unhide HF1)); have hK1 := hide hk1; clear hr1 hk1 kc kf) | (go_at_call 55; refine (unhide EI w1 (stepSt s st0) (unhide hR1) rfl).mono ?_; rintro e w2 ⟨hk2, h2⟩; rw [unhide HRES] at h2; obtain ⟨v2, rfl, hn2, hr2, hf2, ho2, hp2⟩ := h2; obtain ⟨vb, rfl⟩ := hn2.ptr; have hn2 := hide hn2; have hr2 := hide hr2; have hf2 := hide hf2; have hz2 := hk2.size; obtain ⟨kc, kf⟩ := kcell hk2; have c0 : w2.cell? ⟨w.heap.size, 0, none⟩ = some (.pointer none) := (kc _ 0 (by omega) (by omega)).trans a0; have c1 : w2.cell? ⟨w.heap.size + 1, 0, none⟩ = some (.int .i64 0) := (kc _ 0 (by omega) (by omega)).trans a1; have c2 : w2.cell? ⟨w.heap.size + 2, 0, none⟩ = some (.int .i64 0) := (kc _ 0 (by omega) (by omega)).trans a2; have d0 : w2.frozen? ⟨w.heap.size, 0, none⟩ = false := (kf _ 0 (by omega) (by omega)).trans b0; have d1 : w2.frozen? ⟨w.heap.size + 1, 0, none⟩ = false := (kf _ 0 (by omega) (by omega)).trans b1; have d2 : w2.frozen? ⟨w.heap.size + 2, 0, none⟩ = false := (kf _ 0 (by omega) (by omega)).trans b2; have hK2 := hide ((unhide hK1).trans hk2); clear hk2 kc kf a0 a1 a2 b0 b1 b2) | (go_at_call 56; refine (take_ok (w.heap.size + 3) s st2 0 (w2.setCell ⟨w.heap.size, 0, none⟩ (.pointer (some ⟨vb, 0, none⟩))) hs1 (unhide hf2).after ((unhide hr2).setOther (by show ¬ w.heap.size = w.heap.size + 3; omega) _) (by rw [size_setCell]; omega) (unhide ERR2 _ _ (unhide hK2)) (unhide HK)).mono ?_; rintro e w3 ⟨rfl, hr3, hk3⟩; clear hr3; have hz3 : w2.heap.size ≤ w3.heap.size := (by have := hk3.size; rw [size_setCell] at this; exact this); obtain ⟨kc, kf⟩ := kcell hk3; rw [size_setCell] at kc kf; have g0 : w3.cell? ⟨w.heap.size, 0, none⟩ = some (.pointer (some ⟨vb, 0, none⟩)) := (kc _ 0 (by omega) (by omega)).trans (by simp [go_sem, c0]); have g1 : w3.cell? ⟨w.heap.size + 1, 0, none⟩ = some (.int .i64 0) := (kc _ 0 (by omega) (by omega)).trans (by simp [go_sem, c1]); have g2 : w3.cell? ⟨w.heap.size + 2, 0, none⟩ = some (.int .i64 0) := (kc _ 0 (by omega) (by omega)).trans (by simp [go_sem, c2]); have i0 : w3.frozen? ⟨w.heap.size, 0, none⟩ = false := (kf _ 0 (by omega) (by omega)).trans (by simp [go_sem, d0]); have i1 : w3.frozen? ⟨w.heap.size + 1, 0, none⟩ = false := (kf _ 0 (by omega) (by omega)).trans (by simp [go_sem, d1]); have i2 : w3.frozen? ⟨w.heap.size + 2, 0, none⟩ = false := (kf _ 0 (by omega) (by omega)).trans (by simp [go_sem, d2]); have hK3 := hide hk3; clear hk3 kc kf c0 c1 c2 d0 d1 d2; simp only [tkV]) | (go_at_call 57; refine (unhide CHK w3 (.pointer (some ⟨vb, 0, none⟩)) ((unhide hn2).above (((Above.mk (Nat.le_refl _) (fun _ _ _ => rfl)).setCell (p := ⟨w.heap.size, 0, none⟩) (by show w.heap.size ≤ w.heap.size + 3; omega) (.pointer (some ⟨vb, 0, none⟩))).trans (unhide hK3).above))).mono ?_; rintro e w4 ⟨hb4, h4⟩; rw [unhide HCH] at h4; subst h4; have hz4 := hb4.size; obtain ⟨bc, bf⟩ := bcell hb4; have j0 : w4.cell? ⟨w.heap.size, 0, none⟩ = some (.pointer (some ⟨vb, 0, none⟩)) := (bc _ 0 (by omega)).trans g0; have j1 : w4.cell? ⟨w.heap.size + 1, 0, none⟩ = some (.int .i64 0) := (bc _ 0 (by omega)).trans g1; have j2 : w4.cell? ⟨w.heap.size + 2, 0, none⟩ = some (.int .i64 0) := (bc _ 0 (by omega)).trans g2; have l0 : w4.frozen? ⟨w.heap.size, 0, none⟩ = false := (bf _ 0 (by omega)).trans i0; have l1 : w4.frozen? ⟨w.heap.size + 1, 0, none⟩ = false := (bf _ 0 (by omega)).trans i1; have l2 : w4.frozen? ⟨w.heap.size + 2, 0, none⟩ = false := (bf _ 0 (by omega)).trans i2; have hb4 := hide hb4; clear bc bf g0 g1 g2 i0 i1 i2))
          refine leaves_cons (f := 53) (args := #[.pointer (some ⟨w.heap.size, 0, none⟩), .pointer (some ⟨w.heap.size + 1, 0, none⟩), .pointer (some ⟨w.heap.size + 2, 0, none⟩)]) (by simp) (by simp [go_sem]) ?_
          refine (catch_idle _ _ _ _).mono ?_
          rintro e u' w9 ⟨rfl, rfl, rfl⟩
          simp [Leaves, settle, results, Tryz.results36, go_sem, j0, j1, j2]
          have A2 : Above (w.heap.size + 3) w2 w4 := (((Above.mk (Nat.le_refl _) (fun _ _ _ => rfl)).setCell (p := ⟨w.heap.size, 0, none⟩) (by show w.heap.size ≤ w.heap.size + 3; omega) (.pointer (some ⟨vb, 0, none⟩))).trans (unhide hK3).above).trans (Kept.of_below (unhide hb4)).above
          have B4 : Below w.heap.size w w4 := ((unhide hK3).below (((unhide hK2).below (unhide BB) (by omega) (by omega)).setCell (by show w.heap.size ≤ w.heap.size; omega) _) (by omega) (by rw [size_setCell]; omega)).trans ((unhide hb4).mono (by omega))
          exact ⟨((B4.setCell (by show w.heap.size ≤ w.heap.size; omega) _).setCell (by show w.heap.size ≤ w.heap.size + 1; omega) _).setCell (by show w.heap.size ≤ w.heap.size + 1 + 1; omega) _, _, rfl, (unhide hn2).above (((A2.setCell (by show w.heap.size ≤ w.heap.size + 3; omega) _).setCell (by show w.heap.size + 1 ≤ w.heap.size + 3; omega) _).setCell (by show w.heap.size + 1 + 1 ≤ w.heap.size + 3; omega) _)⟩
        | some q =>
          have HCH := hide hch
          clear hch
          go_enter_defers Tryz.func36, Tryz.ntmps36
          go_wp2_with (first | (go_at_call 54; refine (step_any (w.heap.size + 3) s st0 (begun w s) hs1 (Nat.zero_le _) (unhide RDY).at' (unhide RDY).lt (unhide RDY).err).mono ?_; rintro e w1 ⟨rfl, hr1, hk1⟩; have hz1 := hk1.size; rw [begun_size] at hz1; obtain ⟨kc, kf⟩ := kcell hk1; rw [begun_size] at kc kf; have a0 : w1.cell? ⟨w.heap.size, 0, none⟩ = some (.pointer none) := (kc _ 0 (by omega) (by omega)).trans (unhide BC).1; have a1 : w1.cell? ⟨w.heap.size + 1, 0, none⟩ = some (.int .i64 0) := (kc _ 0 (by omega) (by omega)).trans (unhide BC).2.1; have a2 : w1.cell? ⟨w.heap.size + 2, 0, none⟩ = some (.int .i64 0) := (kc _ 0 (by omega) (by omega)).trans (unhide BC).2.2.1; have b0 : w1.frozen? ⟨w.heap.size, 0, none⟩ = false := (kf _ 0 (by omega) (by omega)).trans (unhide BC).2.2.2.1; have b1 : w1.frozen? ⟨w.heap.size + 1, 0, none⟩ = false := (kf _ 0 (by omega) (by omega)).trans (unhide BC).2.2.2.2.1; have b2 : w1.frozen? ⟨w.heap.size + 2, 0, none⟩ = false := (kf _ 0 (by omega) (by omega)).trans (unhide BC).2.2.2.2.2; have hR1 := hide ((unhide RDY).kept hk1 hr1 (unhide HF1)); have hK1 := hide hk1; clear hr1 hk1 kc kf) | (go_at_call 55; refine (unhide EI w1 (stepSt s st0) (unhide hR1) rfl).mono ?_; rintro e w2 ⟨hk2, h2⟩; rw [unhide HRES] at h2; obtain ⟨v2, rfl, hn2, hr2, hf2, ho2, hp2⟩ := h2; obtain ⟨vb, rfl⟩ := hn2.ptr; have hn2 := hide hn2; have hr2 := hide hr2; have hf2 := hide hf2; have hz2 := hk2.size; obtain ⟨kc, kf⟩ := kcell hk2; have c0 : w2.cell? ⟨w.heap.size, 0, none⟩ = some (.pointer none) := (kc _ 0 (by omega) (by omega)).trans a0; have c1 : w2.cell? ⟨w.heap.size + 1, 0, none⟩ = some (.int .i64 0) := (kc _ 0 (by omega) (by omega)).trans a1; have c2 : w2.cell? ⟨w.heap.size + 2, 0, none⟩ = some (.int .i64 0) := (kc _ 0 (by omega) (by omega)).trans a2; have d0 : w2.frozen? ⟨w.heap.size, 0, none⟩ = false := (kf _ 0 (by omega) (by omega)).trans b0; have d1 : w2.frozen? ⟨w.heap.size + 1, 0, none⟩ = false := (kf _ 0 (by omega) (by omega)).trans b1; have d2 : w2.frozen? ⟨w.heap.size + 2, 0, none⟩ = false := (kf _ 0 (by omega) (by omega)).trans b2; have hK2 := hide ((unhide hK1).trans hk2); clear hk2 kc kf a0 a1 a2 b0 b1 b2) | (go_at_call 56; refine (take_ok (w.heap.size + 3) s st2 0 (w2.setCell ⟨w.heap.size, 0, none⟩ (.pointer (some ⟨vb, 0, none⟩))) hs1 (unhide hf2).after ((unhide hr2).setOther (by show ¬ w.heap.size = w.heap.size + 3; omega) _) (by rw [size_setCell]; omega) (unhide ERR2 _ _ (unhide hK2)) (unhide HK)).mono ?_; rintro e w3 ⟨rfl, hr3, hk3⟩; clear hr3; have hz3 : w2.heap.size ≤ w3.heap.size := (by have := hk3.size; rw [size_setCell] at this; exact this); obtain ⟨kc, kf⟩ := kcell hk3; rw [size_setCell] at kc kf; have g0 : w3.cell? ⟨w.heap.size, 0, none⟩ = some (.pointer (some ⟨vb, 0, none⟩)) := (kc _ 0 (by omega) (by omega)).trans (by simp [go_sem, c0]); have g1 : w3.cell? ⟨w.heap.size + 1, 0, none⟩ = some (.int .i64 0) := (kc _ 0 (by omega) (by omega)).trans (by simp [go_sem, c1]); have g2 : w3.cell? ⟨w.heap.size + 2, 0, none⟩ = some (.int .i64 0) := (kc _ 0 (by omega) (by omega)).trans (by simp [go_sem, c2]); have i0 : w3.frozen? ⟨w.heap.size, 0, none⟩ = false := (kf _ 0 (by omega) (by omega)).trans (by simp [go_sem, d0]); have i1 : w3.frozen? ⟨w.heap.size + 1, 0, none⟩ = false := (kf _ 0 (by omega) (by omega)).trans (by simp [go_sem, d1]); have i2 : w3.frozen? ⟨w.heap.size + 2, 0, none⟩ = false := (kf _ 0 (by omega) (by omega)).trans (by simp [go_sem, d2]); have hK3 := hide hk3; clear hk3 kc kf c0 c1 c2 d0 d1 d2; simp only [tkV]) | (go_at_call 57; refine (unhide CHK w3 (.pointer (some ⟨vb, 0, none⟩)) ((unhide hn2).above (((Above.mk (Nat.le_refl _) (fun _ _ _ => rfl)).setCell (p := ⟨w.heap.size, 0, none⟩) (by show w.heap.size ≤ w.heap.size + 3; omega) (.pointer (some ⟨vb, 0, none⟩))).trans (unhide hK3).above))).mono ?_; rintro e w4 ⟨hb4, h4⟩; rw [unhide HCH] at h4; subst h4; have hz4 := hb4.size; obtain ⟨bc, bf⟩ := bcell hb4; have j0 : w4.cell? ⟨w.heap.size, 0, none⟩ = some (.pointer (some ⟨vb, 0, none⟩)) := (bc _ 0 (by omega)).trans g0; have j1 : w4.cell? ⟨w.heap.size + 1, 0, none⟩ = some (.int .i64 0) := (bc _ 0 (by omega)).trans g1; have j2 : w4.cell? ⟨w.heap.size + 2, 0, none⟩ = some (.int .i64 0) := (bc _ 0 (by omega)).trans g2; have l0 : w4.frozen? ⟨w.heap.size, 0, none⟩ = false := (bf _ 0 (by omega)).trans i0; have l1 : w4.frozen? ⟨w.heap.size + 1, 0, none⟩ = false := (bf _ 0 (by omega)).trans i1; have l2 : w4.frozen? ⟨w.heap.size + 2, 0, none⟩ = false := (bf _ 0 (by omega)).trans i2; have hb4 := hide hb4; clear bc bf g0 g1 g2 i0 i1 i2; simp only [gaveUp]))
          refine leaves_cons (f := 53) (args := #[.pointer (some ⟨w.heap.size, 0, none⟩), .pointer (some ⟨w.heap.size + 1, 0, none⟩), .pointer (some ⟨w.heap.size + 2, 0, none⟩)]) (by simp) (by simp [go_sem]) ?_
          refine (catch_panicking w.heap.size (.pointer (some ⟨vb, 0, none⟩)) (.int .i64 0) (.int .i64 0) _ _ [] w4 (by omega) j0 j1 j2 l0 l1 l2).mono ?_
          rintro e u' w9 ⟨rfl, rfl, k0, k1, k2, hb9⟩
          have HB := hide ((((unhide hK3).below (((unhide hK2).below (unhide BB) (by omega) (by omega)).setCell (by show w.heap.size ≤ w.heap.size; omega) _) (by omega) (by rw [size_setCell]; omega)).trans ((unhide hb4).mono (by omega))).trans hb9)
          simp [Leaves, settle, results, Tryz.results36, go_sem, k0, k1, k2]
          exact ⟨unhide HB, rfl⟩
      · rw [if_neg hk]
        have HK := hide hk
        clear hk
        go_enter_defers Tryz.func36, Tryz.ntmps36
        go_wp2_with (first | (go_at_call 54; refine (step_any (w.heap.size + 3) s st0 (begun w s) hs1 (Nat.zero_le _) (unhide RDY).at' (unhide RDY).lt (unhide RDY).err).mono ?_; rintro e w1 ⟨rfl, hr1, hk1⟩; have hz1 := hk1.size; rw [begun_size] at hz1; obtain ⟨kc, kf⟩ := kcell hk1; rw [begun_size] at kc kf; have a0 : w1.cell? ⟨w.heap.size, 0, none⟩ = some (.pointer none) := (kc _ 0 (by omega) (by omega)).trans (unhide BC).1; have a1 : w1.cell? ⟨w.heap.size + 1, 0, none⟩ = some (.int .i64 0) := (kc _ 0 (by omega) (by omega)).trans (unhide BC).2.1; have a2 : w1.cell? ⟨w.heap.size + 2, 0, none⟩ = some (.int .i64 0) := (kc _ 0 (by omega) (by omega)).trans (unhide BC).2.2.1; have b0 : w1.frozen? ⟨w.heap.size, 0, none⟩ = false := (kf _ 0 (by omega) (by omega)).trans (unhide BC).2.2.2.1; have b1 : w1.frozen? ⟨w.heap.size + 1, 0, none⟩ = false := (kf _ 0 (by omega) (by omega)).trans (unhide BC).2.2.2.2.1; have b2 : w1.frozen? ⟨w.heap.size + 2, 0, none⟩ = false := (kf _ 0 (by omega) (by omega)).trans (unhide BC).2.2.2.2.2; have hR1 := hide ((unhide RDY).kept hk1 hr1 (unhide HF1)); have hK1 := hide hk1; clear hr1 hk1 kc kf) | (go_at_call 55; refine (unhide EI w1 (stepSt s st0) (unhide hR1) rfl).mono ?_; rintro e w2 ⟨hk2, h2⟩; rw [unhide HRES] at h2; obtain ⟨v2, rfl, hn2, hr2, hf2, ho2, hp2⟩ := h2; obtain ⟨vb, rfl⟩ := hn2.ptr; have hn2 := hide hn2; have hr2 := hide hr2; have hf2 := hide hf2; have hz2 := hk2.size; obtain ⟨kc, kf⟩ := kcell hk2; have c0 : w2.cell? ⟨w.heap.size, 0, none⟩ = some (.pointer none) := (kc _ 0 (by omega) (by omega)).trans a0; have c1 : w2.cell? ⟨w.heap.size + 1, 0, none⟩ = some (.int .i64 0) := (kc _ 0 (by omega) (by omega)).trans a1; have c2 : w2.cell? ⟨w.heap.size + 2, 0, none⟩ = some (.int .i64 0) := (kc _ 0 (by omega) (by omega)).trans a2; have d0 : w2.frozen? ⟨w.heap.size, 0, none⟩ = false := (kf _ 0 (by omega) (by omega)).trans b0; have d1 : w2.frozen? ⟨w.heap.size + 1, 0, none⟩ = false := (kf _ 0 (by omega) (by omega)).trans b1; have d2 : w2.frozen? ⟨w.heap.size + 2, 0, none⟩ = false := (kf _ 0 (by omega) (by omega)).trans b2; have hK2 := hide ((unhide hK1).trans hk2); clear hk2 kc kf a0 a1 a2 b0 b1 b2) | (go_at_call 56; refine (take_no (w.heap.size + 3) s st2 0 (w2.setCell ⟨w.heap.size, 0, none⟩ (.pointer (some ⟨vb, 0, none⟩))) ((unhide hr2).setOther (by show ¬ w.heap.size = w.heap.size + 3; omega) _) (by rw [size_setCell]; omega) (unhide HK)).mono ?_; rintro e w3 ⟨rfl, hk3⟩; have hz3 : w2.heap.size ≤ w3.heap.size := (by have := hk3.size; rw [size_setCell] at this; exact this); obtain ⟨kc, kf⟩ := kcell hk3; rw [size_setCell] at kc kf; have g0 : w3.cell? ⟨w.heap.size, 0, none⟩ = some (.pointer (some ⟨vb, 0, none⟩)) := (kc _ 0 (by omega) (by omega)).trans (by simp [go_sem, c0]); have g1 : w3.cell? ⟨w.heap.size + 1, 0, none⟩ = some (.int .i64 0) := (kc _ 0 (by omega) (by omega)).trans (by simp [go_sem, c1]); have g2 : w3.cell? ⟨w.heap.size + 2, 0, none⟩ = some (.int .i64 0) := (kc _ 0 (by omega) (by omega)).trans (by simp [go_sem, c2]); have i0 : w3.frozen? ⟨w.heap.size, 0, none⟩ = false := (kf _ 0 (by omega) (by omega)).trans (by simp [go_sem, d0]); have i1 : w3.frozen? ⟨w.heap.size + 1, 0, none⟩ = false := (kf _ 0 (by omega) (by omega)).trans (by simp [go_sem, d1]); have i2 : w3.frozen? ⟨w.heap.size + 2, 0, none⟩ = false := (kf _ 0 (by omega) (by omega)).trans (by simp [go_sem, d2]); have hK3 := hide hk3; clear hk3 kc kf c0 c1 c2 d0 d1 d2; simp only [gaveUp]))
        refine leaves_cons (f := 53) (args := #[.pointer (some ⟨w.heap.size, 0, none⟩), .pointer (some ⟨w.heap.size + 1, 0, none⟩), .pointer (some ⟨w.heap.size + 2, 0, none⟩)]) (by simp) (by simp [go_sem]) ?_
        refine (catch_panicking w.heap.size (.pointer (some ⟨vb, 0, none⟩)) (.int .i64 0) (.int .i64 0) _ _ [] w3 (by omega) g0 g1 g2 i0 i1 i2).mono ?_
        rintro e u' w9 ⟨rfl, rfl, k0, k1, k2, hb9⟩
        have HB := hide (((unhide hK3).below (((unhide hK2).below (unhide BB) (by omega) (by omega)).setCell (by show w.heap.size ≤ w.heap.size; omega) _) (by omega) (by rw [size_setCell]; omega)).trans hb9)
        simp [Leaves, settle, results, Tryz.results36, go_sem, k0, k1, k2]
        exact ⟨unhide HB, rfl⟩
  · rw [readR, if_neg hs]
    have hb : decide ((200 : Int) < (s.size : Int)) = true := decide_eq_true (by omega)
    clear hE hsz hs
    go_enter_defers Tryz.func36, Tryz.ntmps36
    go_wp2_with fail
    have q0 : (((w.alloc (.cells #[.pointer none] 67)).alloc (.cells #[.int .i64 1] 41)).alloc (.cells #[.int .i64 0] 3)).cell? ⟨w.heap.size, 0, none⟩ = some (.pointer none) := by
      rw [World.cell?_alloc_past _ _ _ (by simp <;> omega), World.cell?_alloc_past _ _ _ (by simp), World.cell?_alloc_at _ _ _ _ rfl]; rfl
    have q1 : (((w.alloc (.cells #[.pointer none] 67)).alloc (.cells #[.int .i64 1] 41)).alloc (.cells #[.int .i64 0] 3)).cell? ⟨w.heap.size + 1, 0, none⟩ = some (.int .i64 1) := by
      rw [World.cell?_alloc_past _ _ _ (by simp), World.cell?_alloc_at _ _ _ _ (by simp)]; rfl
    have q2 : (((w.alloc (.cells #[.pointer none] 67)).alloc (.cells #[.int .i64 1] 41)).alloc (.cells #[.int .i64 0] 3)).cell? ⟨w.heap.size + 1 + 1, 0, none⟩ = some (.int .i64 0) := by
      rw [World.cell?_alloc_at _ _ _ _ (by simp)]; rfl
    simp [bodyPostD, Leaves, results, Tryz.results36, go_sem, q0, q1, q2]
    exact ⟨below3 _ _ _ _, rfl⟩
end

section
structure JoinAt (w W : World) (x y z : V) : Prop where
  x0 : W.cell? ⟨w.heap.size, 0, none⟩ = some (.int .i64 x.kind)
  x1 : W.cell? ⟨w.heap.size, 1, none⟩ = some (.int .i64 x.num)
  x2 : W.cell? ⟨w.heap.size, 2, none⟩ = some (.string (BS x.str))
  y0 : W.cell? ⟨w.heap.size + 1, 0, none⟩ = some (.int .i64 y.kind)
  y1 : W.cell? ⟨w.heap.size + 1, 1, none⟩ = some (.int .i64 y.num)
  y2 : W.cell? ⟨w.heap.size + 1, 2, none⟩ = some (.string (BS y.str))
  z0 : W.cell? ⟨w.heap.size + 2, 0, none⟩ = some (.int .i64 z.kind)
  z1 : W.cell? ⟨w.heap.size + 2, 1, none⟩ = some (.int .i64 z.num)
  z2 : W.cell? ⟨w.heap.size + 2, 2, none⟩ = some (.string (BS z.str))
  r0 : W.cell? ⟨w.heap.size + 3, 0, none⟩ = some (.int .i64 0)
  r1 : W.cell? ⟨w.heap.size + 3, 1, none⟩ = some (.int .i64 0)
  r2 : W.cell? ⟨w.heap.size + 3, 2, none⟩ = some (.string ⟨#[]⟩)
  fz : ∀ j, W.frozen? ⟨w.heap.size + 3, j, none⟩ = false
  lt : w.heap.size + 3 < W.heap.size
  below : Below w.heap.size w W

theorem join_start (w : World) (x y z : V) : JoinAt w ((((w.alloc (.cells #[.int .i64 x.kind, .int .i64 x.num, .string (BS x.str)] 26)).alloc (.cells #[.int .i64 y.kind, .int .i64 y.num, .string (BS y.str)] 26)).alloc (.cells #[.int .i64 z.kind, .int .i64 z.num, .string (BS z.str)] 26)).alloc (.cells #[.int .i64 0, .int .i64 0, .string ⟨#[]⟩] 26)) x y z := ⟨by rw [World.cell?_alloc_past _ _ _ (by simp <;> omega), World.cell?_alloc_past _ _ _ (by simp <;> omega), World.cell?_alloc_past _ _ _ (by simp), World.cell?_alloc_at _ _ _ _ rfl]; rfl, by rw [World.cell?_alloc_past _ _ _ (by simp <;> omega), World.cell?_alloc_past _ _ _ (by simp <;> omega), World.cell?_alloc_past _ _ _ (by simp), World.cell?_alloc_at _ _ _ _ rfl]; rfl, by rw [World.cell?_alloc_past _ _ _ (by simp <;> omega), World.cell?_alloc_past _ _ _ (by simp <;> omega), World.cell?_alloc_past _ _ _ (by simp), World.cell?_alloc_at _ _ _ _ rfl]; rfl, by rw [World.cell?_alloc_past _ _ _ (by simp <;> omega), World.cell?_alloc_past _ _ _ (by simp), World.cell?_alloc_at _ _ _ _ (by simp)]; rfl, by rw [World.cell?_alloc_past _ _ _ (by simp <;> omega), World.cell?_alloc_past _ _ _ (by simp), World.cell?_alloc_at _ _ _ _ (by simp)]; rfl, by rw [World.cell?_alloc_past _ _ _ (by simp <;> omega), World.cell?_alloc_past _ _ _ (by simp), World.cell?_alloc_at _ _ _ _ (by simp)]; rfl, by rw [World.cell?_alloc_past _ _ _ (by simp), World.cell?_alloc_at _ _ _ _ (by simp)]; rfl, by rw [World.cell?_alloc_past _ _ _ (by simp), World.cell?_alloc_at _ _ _ _ (by simp)]; rfl, by rw [World.cell?_alloc_past _ _ _ (by simp), World.cell?_alloc_at _ _ _ _ (by simp)]; rfl, by rw [World.cell?_alloc_at _ _ _ _ (by simp)]; rfl, by rw [World.cell?_alloc_at _ _ _ _ (by simp)]; rfl, by rw [World.cell?_alloc_at _ _ _ _ (by simp)]; rfl, fun j => by rw [World.frozen?_alloc_at _ _ _ _ (by simp)], by simp, (below3 w _ _ _).alloc (by simp; omega) _⟩

theorem JoinAt.next {w W W' : World} {x y z : V} (h : JoinAt w W x y z) (hb : Below W.heap.size W W') : JoinAt w W' x y z := by
  obtain ⟨hc, hf⟩ := bcell hb
  have hl := h.lt
  exact ⟨(hc _ 0 (by omega)).trans h.x0, (hc _ 1 (by omega)).trans h.x1, (hc _ 2 (by omega)).trans h.x2, (hc _ 0 (by omega)).trans h.y0, (hc _ 1 (by omega)).trans h.y1, (hc _ 2 (by omega)).trans h.y2, (hc _ 0 (by omega)).trans h.z0, (hc _ 1 (by omega)).trans h.z1, (hc _ 2 (by omega)).trans h.z2, (hc _ 0 (by omega)).trans h.r0, (hc _ 1 (by omega)).trans h.r1, (hc _ 2 (by omega)).trans h.r2, fun j => (hf _ j (by omega)).trans (h.fz j), Nat.lt_of_lt_of_le hl hb.size, below_any h.below hb⟩

theorem JoinAt.drew {w W : World} {x y z : V} (h : JoinAt w W x y z) : JoinAt w W.drew x y z := h.next ((Below.refl _ _).drew)

set_option maxHeartbeats 2000000 in
set_option maxRecDepth 100000 in
theorem joinN_20 (lo : Nat) (t : Ast) (h20 : (payA t).op = 20) : JoinNOk lo t := by
  intro w b x y z _ _ _ _ h
  have hr : joinN (payA t) x y z = andV (leV y x) (leV x z) := by rw [joinN, if_pos h20]
  rw [hr]
  obtain ⟨b', sv, hb, hnode, _⟩ := h.parts
  obtain rfl : b = b' := by simpa using hb
  have c0 := hnode.c0
  have hbw := hnode.within
  have m1 : b < w.heap.size + 1 := by omega
  have m2 : b < w.heap.size + 1 + 1 := by omega
  have m3 : b < w.heap.size + 1 + 1 + 1 := by omega
  rw [h20] at c0
  have d0 : ¬ w.heap.size + 1 + 1 + 1 = w.heap.size := by omega
  have d1 : ¬ w.heap.size + 1 + 1 + 1 = w.heap.size + 1 := by omega
  have d2 : ¬ w.heap.size = w.heap.size + 1 + 1 + 1 := by omega
  have d3 : ¬ w.heap.size + 1 = w.heap.size + 1 + 1 + 1 := by omega
  have d4 : ¬ w.heap.size + 1 + 1 = w.heap.size := by omega
  have d5 : ¬ w.heap.size = w.heap.size + 1 + 1 := by omega
  have JA0 := hide (join_start w x y z).drew
  clear hr hnode hb h h20
  conv => arg 3; simp only [vV]
  go_enter Tryz.func65, Tryz.ntmps65
  go_wp2_with fail
  obtain ⟨x0_0, x1_0, x2_0, y0_0, y1_0, y2_0, z0_0, z1_0, z2_0, r0_0, r1_0, r2_0, fz_0, lt_0, bel_0⟩ := unhide JA0
  go_region_held3 (fun W => W.cell? ⟨w.heap.size, 0, none⟩ = some (.int .i64 x.kind) ∧ W.cell? ⟨w.heap.size, 1, none⟩ = some (.int .i64 x.num) ∧ W.cell? ⟨w.heap.size, 2, none⟩ = some (.string (BS x.str)) ∧ W.cell? ⟨w.heap.size + 1, 0, none⟩ = some (.int .i64 y.kind) ∧ W.cell? ⟨w.heap.size + 1, 1, none⟩ = some (.int .i64 y.num) ∧ W.cell? ⟨w.heap.size + 1, 2, none⟩ = some (.string (BS y.str)) ∧ W.cell? ⟨w.heap.size + 2, 0, none⟩ = some (.int .i64 z.kind) ∧ W.cell? ⟨w.heap.size + 2, 1, none⟩ = some (.int .i64 z.num) ∧ W.cell? ⟨w.heap.size + 2, 2, none⟩ = some (.string (BS z.str))) (go_keep) (first | (go_at_call_of 107 (Value.agg #[Value.int IntKind.i64 y.kind, Value.int IntKind.i64 y.num, Value.string (BS y.str)]); refine (vLessEqual_any y x _).mono ?_; rintro e w1 ⟨rfl, hb1⟩; have JA1 := hide ((unhide JA0).next hb1); obtain ⟨x0_1, x1_1, x2_1, y0_1, y1_1, y2_1, z0_1, z1_1, z2_1, r0_1, r1_1, r2_1, fz_1, lt_1, bel_1⟩ := unhide JA1; clear hb1) | (go_at_call_of 107 (Value.agg #[Value.int IntKind.i64 z.kind, Value.int IntKind.i64 z.num, Value.string (BS z.str)]); refine (vLessEqual_any x z _).mono ?_; rintro e w2 ⟨rfl, hb2⟩; have JA2 := hide ((unhide JA1).next hb2); obtain ⟨x0_2, x1_2, x2_2, y0_2, y1_2, y2_2, z0_2, z1_2, z2_2, r0_2, r1_2, r2_2, fz_2, lt_2, bel_2⟩ := unhide JA2; clear hb2) | (go_at_call 106; refine (vAnd_any (leV y x) (leV x z) _).mono ?_; rintro e w3 ⟨rfl, hb3⟩; have JA3 := hide ((unhide JA2).next hb3); obtain ⟨x0_3, x1_3, x2_3, y0_3, y1_3, y2_3, z0_3, z1_3, z2_3, r0_3, r1_3, r2_3, fz_3, lt_3, bel_3⟩ := unhide JA3; clear hb3; simp only [vV]))
  go_wp2_with fail
  refine bodyPost_ret (by simp [results, Tryz.results65, go_sem, r0_3, r1_3, r2_3] <;> rfl) rfl ⟨rfl, ?_⟩
  exact ((bel_3.setCell (by simp; omega) _).setCell (by simp; omega) _).setCell (by simp; omega) _
end

end Go.Proofs.YtfkcaldjphakpaaGreatDoor
