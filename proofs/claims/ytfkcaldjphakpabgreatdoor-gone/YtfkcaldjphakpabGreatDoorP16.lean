/- Read. Quoted texts and patterns, as lists of bytes. Cores: terms of the one form, their texts, and how they lie in memory. The strings of what is read are short, its texts few. A text that has these tokens reads so. The texts of Ranges, by their tokens. is, truth, sum. -/
import Derived.Test.YtfkcaldjphakpabGreatDoorP13
import Derived.Test.YtfkcaldjphakpabGreatDoorP11
import Derived.Test.YtfkcaldjphakpabGreatDoorP01
import Derived.Lib.AppendIntMem
import Derived.Lib.ItoaNum
import Derived.Lib.SlicesCompact
import Derived.Test.YtfkcaldjphakpabGreatDoorP15
import Derived.Test.YtfkcaldjphakpabGreatDoorZOf2
import Derived.Test.YtfkcaldjphakpabGreatDoorShelf
namespace Go.Proofs.YtfkcaldjphakpabGreatDoor
open Go.RowKit
section
theorem ErrOk.set {w : World} (h : ErrOk w) {p : Addr} (hp : 3 < p.block) (u : Value) : ErrOk (w.setCell p u) := by
  obtain ⟨h1, ev, h2, h3⟩ := h
  refine ⟨by rw [y4]; exact h1, ev, ?_, h3⟩
  rw [World.cell?_of_block (w := w) (w' := w.setCell p u) (Below.heap_setCell w p u _ (by show 3 ≠ p.block; omega))]; exact h2
set_option maxHeartbeats 2000000 in
set_option maxRecDepth 100000 in
theorem qr7 (s : ByteArray) (w : World) (hE : ErrOk w) (hsz : s.size ≤ 140737488355328) :
    Calls Tryz.prog 31 #[.string s] w (qt6 w (qh5 s)) := by
  have hmf : ∀ (fn : Fn) (first cap : Array Value) (w : World), (Instr.makeFunc fn first cap).run Tryz.prog w = .ok (.func fn first cap) w := fun _ _ _ _ => rfl
  by_cases hs : s.size ≤ 200
  · rw [qh5, if_pos hs]
    have hs1 : s.size ≤ 140737488355328 := hsz
    have hb : decide ((200 : Int) < (s.size : Int)) = false := decide_eq_false (by omega)
    have RDY := v6 (jh6 w s hE hs)
    have BC := v6 (jh1 w s)
    have BB := v6 (jg6 w s)
    have BZ := qh3 w s
    have EI := v6 (lvl_reads (w.heap.size + 3) s hs 12 0 rfl).E
    have HF1 := v6 (qi0 s st0 (Nat.zero_le _))
    have GOOD := v6 (lvl_good s 12).E
    have ERR2 : Hid (∀ w2 u, Kept (w.heap.size + 3) (begun w s) w2 → ErrOk (w2.setCell ⟨w.heap.size, 0, none⟩ u)) := v6 fun w2 u hk => ((jd4 w s hE).kept hk (by have := hE.1; omega)).set hE.1 u
    clear hE hsz
    cases hres : (lvl s 12).E (v8 s st0) with
    | err en pl =>
      have HRES := v6 hres
      clear hres
      go_enter_defers Tryz.func31, Tryz.ntmps31
      go_wp2_with (first | (go_at_call 55; refine (qb8 (w.heap.size + 3) s st0 (begun w s) hs1 (Nat.zero_le _) (q9 RDY).at' (q9 RDY).lt (q9 RDY).err).mono ?_; rintro e w1 ⟨rfl, hr1, hk1⟩; have hz1 := hk1.size; rw [qh3] at hz1; obtain ⟨kc, kf⟩ := x5 hk1; rw [qh3] at kc kf; have a0 : w1.cell? ⟨w.heap.size, 0, none⟩ = some (.pointer none) := (kc _ 0 (by omega) (by omega)).trans (q9 BC).1; have a1 : w1.cell? ⟨w.heap.size + 1, 0, none⟩ = some (.int .i64 0) := (kc _ 0 (by omega) (by omega)).trans (q9 BC).2.1; have a2 : w1.cell? ⟨w.heap.size + 2, 0, none⟩ = some (.int .i64 0) := (kc _ 0 (by omega) (by omega)).trans (q9 BC).2.2.1; have b0 : w1.frozen? ⟨w.heap.size, 0, none⟩ = false := (kf _ 0 (by omega) (by omega)).trans (q9 BC).2.2.2.1; have b1 : w1.frozen? ⟨w.heap.size + 1, 0, none⟩ = false := (kf _ 0 (by omega) (by omega)).trans (q9 BC).2.2.2.2.1; have b2 : w1.frozen? ⟨w.heap.size + 2, 0, none⟩ = false := (kf _ 0 (by omega) (by omega)).trans (q9 BC).2.2.2.2.2; have hR1 := v6 ((q9 RDY).kept hk1 hr1 (q9 HF1)); have hK1 := v6 hk1; clear hr1 hk1 kc kf) | (go_at_call 56; refine (q9 EI w1 (v8 s st0) (q9 hR1) rfl).mono ?_; rintro e w2 ⟨hk2, h2⟩; rw [q9 HRES] at h2; subst h2; have hz2 := hk2.size; obtain ⟨kc, kf⟩ := x5 hk2; have c0 : w2.cell? ⟨w.heap.size, 0, none⟩ = some (.pointer none) := (kc _ 0 (by omega) (by omega)).trans a0; have c1 : w2.cell? ⟨w.heap.size + 1, 0, none⟩ = some (.int .i64 0) := (kc _ 0 (by omega) (by omega)).trans a1; have c2 : w2.cell? ⟨w.heap.size + 2, 0, none⟩ = some (.int .i64 0) := (kc _ 0 (by omega) (by omega)).trans a2; have d0 : w2.frozen? ⟨w.heap.size, 0, none⟩ = false := (kf _ 0 (by omega) (by omega)).trans b0; have d1 : w2.frozen? ⟨w.heap.size + 1, 0, none⟩ = false := (kf _ 0 (by omega) (by omega)).trans b1; have d2 : w2.frozen? ⟨w.heap.size + 2, 0, none⟩ = false := (kf _ 0 (by omega) (by omega)).trans b2; have hK2 := v6 ((q9 hK1).trans hk2); clear hk2 kc kf a0 a1 a2 b0 b1 b2; simp only [x4]))
      refine leaves_cons (f := 54) (args := #[.pointer (some ⟨w.heap.size, 0, none⟩), .pointer (some ⟨w.heap.size + 1, 0, none⟩), .pointer (some ⟨w.heap.size + 2, 0, none⟩)]) (by simp) (by simp [go_sem]) ?_
      refine (qq9 w.heap.size (.pointer none) (.int .i64 0) (.int .i64 0) _ _ [] w2 (by omega) c0 c1 c2 d0 d1 d2).mono ?_
      rintro e u' w9 ⟨rfl, rfl, k0, k1, k2, hb9⟩
      have HB := v6 (((q9 hK2).below (q9 BB) (by omega) (by omega)).trans hb9)
      simp [Leaves, settle, results, Tryz.results31, go_sem, k0, k1, k2]
      exact ⟨q9 HB, rfl⟩
    | ok t st2 =>
      have CHK := v6 (check_any (w.heap.size + 3) t (q9 GOOD _ _ _ hres))
      have HRES := v6 hres
      clear hres
      show Calls Tryz.prog _ _ _ (qt6 w (jy3 t st2))
      unfold jy3
      by_cases hk : st2.tk.kind = 0
      · rw [if_pos hk]
        have HK := v6 hk
        clear hk
        cases hch : js9 (qa1 t) with
        | none =>
          have HCH := v6 hch
          clear hch
          go_enter_defers Tryz.func31, Tryz.ntmps31
          go_wp2_with (first | (go_at_call 55; refine (qb8 (w.heap.size + 3) s st0 (begun w s) hs1 (Nat.zero_le _) (q9 RDY).at' (q9 RDY).lt (q9 RDY).err).mono ?_; rintro e w1 ⟨rfl, hr1, hk1⟩; have hz1 := hk1.size; rw [qh3] at hz1; obtain ⟨kc, kf⟩ := x5 hk1; rw [qh3] at kc kf; have a0 : w1.cell? ⟨w.heap.size, 0, none⟩ = some (.pointer none) := (kc _ 0 (by omega) (by omega)).trans (q9 BC).1; have a1 : w1.cell? ⟨w.heap.size + 1, 0, none⟩ = some (.int .i64 0) := (kc _ 0 (by omega) (by omega)).trans (q9 BC).2.1; have a2 : w1.cell? ⟨w.heap.size + 2, 0, none⟩ = some (.int .i64 0) := (kc _ 0 (by omega) (by omega)).trans (q9 BC).2.2.1; have b0 : w1.frozen? ⟨w.heap.size, 0, none⟩ = false := (kf _ 0 (by omega) (by omega)).trans (q9 BC).2.2.2.1; have b1 : w1.frozen? ⟨w.heap.size + 1, 0, none⟩ = false := (kf _ 0 (by omega) (by omega)).trans (q9 BC).2.2.2.2.1; have b2 : w1.frozen? ⟨w.heap.size + 2, 0, none⟩ = false := (kf _ 0 (by omega) (by omega)).trans (q9 BC).2.2.2.2.2; have hR1 := v6 ((q9 RDY).kept hk1 hr1 (q9 HF1)); have hK1 := v6 hk1; clear hr1 hk1 kc kf) | (go_at_call 56; refine (q9 EI w1 (v8 s st0) (q9 hR1) rfl).mono ?_; rintro e w2 ⟨hk2, h2⟩; rw [q9 HRES] at h2; obtain ⟨v2, rfl, hn2, hr2, hf2, ho2, hp2⟩ := h2; obtain ⟨vb, rfl⟩ := hn2.ptr; have hn2 := v6 hn2; have hr2 := v6 hr2; have hf2 := v6 hf2; have hz2 := hk2.size; obtain ⟨kc, kf⟩ := x5 hk2; have c0 : w2.cell? ⟨w.heap.size, 0, none⟩ = some (.pointer none) := (kc _ 0 (by omega) (by omega)).trans a0; have c1 : w2.cell? ⟨w.heap.size + 1, 0, none⟩ = some (.int .i64 0) := (kc _ 0 (by omega) (by omega)).trans a1; have c2 : w2.cell? ⟨w.heap.size + 2, 0, none⟩ = some (.int .i64 0) := (kc _ 0 (by omega) (by omega)).trans a2; have d0 : w2.frozen? ⟨w.heap.size, 0, none⟩ = false := (kf _ 0 (by omega) (by omega)).trans b0; have d1 : w2.frozen? ⟨w.heap.size + 1, 0, none⟩ = false := (kf _ 0 (by omega) (by omega)).trans b1; have d2 : w2.frozen? ⟨w.heap.size + 2, 0, none⟩ = false := (kf _ 0 (by omega) (by omega)).trans b2; have hK2 := v6 ((q9 hK1).trans hk2); clear hk2 kc kf a0 a1 a2 b0 b1 b2) | (go_at_call 57; refine (qb4 (w.heap.size + 3) s st2 0 (w2.setCell ⟨w.heap.size, 0, none⟩ (.pointer (some ⟨vb, 0, none⟩))) hs1 (q9 hf2).after ((q9 hr2).setOther (by show ¬ w.heap.size = w.heap.size + 3; omega) _) (by rw [y4]; omega) (q9 ERR2 _ _ (q9 hK2)) (q9 HK)).mono ?_; rintro e w3 ⟨rfl, hr3, hk3⟩; clear hr3; have hz3 : w2.heap.size ≤ w3.heap.size := (by have := hk3.size; rw [y4] at this; exact this); obtain ⟨kc, kf⟩ := x5 hk3; rw [y4] at kc kf; have g0 : w3.cell? ⟨w.heap.size, 0, none⟩ = some (.pointer (some ⟨vb, 0, none⟩)) := (kc _ 0 (by omega) (by omega)).trans (by simp [go_sem, c0]); have g1 : w3.cell? ⟨w.heap.size + 1, 0, none⟩ = some (.int .i64 0) := (kc _ 0 (by omega) (by omega)).trans (by simp [go_sem, c1]); have g2 : w3.cell? ⟨w.heap.size + 2, 0, none⟩ = some (.int .i64 0) := (kc _ 0 (by omega) (by omega)).trans (by simp [go_sem, c2]); have i0 : w3.frozen? ⟨w.heap.size, 0, none⟩ = false := (kf _ 0 (by omega) (by omega)).trans (by simp [go_sem, d0]); have i1 : w3.frozen? ⟨w.heap.size + 1, 0, none⟩ = false := (kf _ 0 (by omega) (by omega)).trans (by simp [go_sem, d1]); have i2 : w3.frozen? ⟨w.heap.size + 2, 0, none⟩ = false := (kf _ 0 (by omega) (by omega)).trans (by simp [go_sem, d2]); have hK3 := v6 hk3; clear hk3 kc kf c0 c1 c2 d0 d1 d2; simp only [tkV]) | (go_at_call 58; refine (q9 CHK w3 (.pointer (some ⟨vb, 0, none⟩)) ((q9 hn2).above (((Above.mk (Nat.le_refl _) (fun _ _ _ => rfl)).setCell (p := ⟨w.heap.size, 0, none⟩) (by show w.heap.size ≤ w.heap.size + 3; omega) (.pointer (some ⟨vb, 0, none⟩))).trans (q9 hK3).above))).mono ?_; rintro e w4 ⟨hb4, h4⟩; rw [q9 HCH] at h4; subst h4; have hz4 := hb4.size; obtain ⟨bc, bf⟩ := j6 hb4; have j0 : w4.cell? ⟨w.heap.size, 0, none⟩ = some (.pointer (some ⟨vb, 0, none⟩)) := (bc _ 0 (by omega)).trans g0; have j1 : w4.cell? ⟨w.heap.size + 1, 0, none⟩ = some (.int .i64 0) := (bc _ 0 (by omega)).trans g1; have j2 : w4.cell? ⟨w.heap.size + 2, 0, none⟩ = some (.int .i64 0) := (bc _ 0 (by omega)).trans g2; have l0 : w4.frozen? ⟨w.heap.size, 0, none⟩ = false := (bf _ 0 (by omega)).trans i0; have l1 : w4.frozen? ⟨w.heap.size + 1, 0, none⟩ = false := (bf _ 0 (by omega)).trans i1; have l2 : w4.frozen? ⟨w.heap.size + 2, 0, none⟩ = false := (bf _ 0 (by omega)).trans i2; have hb4 := v6 hb4; clear bc bf g0 g1 g2 i0 i1 i2))
          refine leaves_cons (f := 54) (args := #[.pointer (some ⟨w.heap.size, 0, none⟩), .pointer (some ⟨w.heap.size + 1, 0, none⟩), .pointer (some ⟨w.heap.size + 2, 0, none⟩)]) (by simp) (by simp [go_sem]) ?_
          refine (jw9 _ _ _ _).mono ?_
          rintro e u' w9 ⟨rfl, rfl, rfl⟩
          simp [Leaves, settle, results, Tryz.results31, go_sem, j0, j1, j2]
          have A2 : Above (w.heap.size + 3) w2 w4 := (((Above.mk (Nat.le_refl _) (fun _ _ _ => rfl)).setCell (p := ⟨w.heap.size, 0, none⟩) (by show w.heap.size ≤ w.heap.size + 3; omega) (.pointer (some ⟨vb, 0, none⟩))).trans (q9 hK3).above).trans (Kept.of_below (q9 hb4)).above
          have B4 : Below w.heap.size w w4 := ((q9 hK3).below (((q9 hK2).below (q9 BB) (by omega) (by omega)).setCell (by show w.heap.size ≤ w.heap.size; omega) _) (by omega) (by rw [y4]; omega)).trans ((q9 hb4).mono (by omega))
          exact ⟨((B4.setCell (by show w.heap.size ≤ w.heap.size; omega) _).setCell (by show w.heap.size ≤ w.heap.size + 1; omega) _).setCell (by show w.heap.size ≤ w.heap.size + 1 + 1; omega) _, _, rfl, (q9 hn2).above (((A2.setCell (by show w.heap.size ≤ w.heap.size + 3; omega) _).setCell (by show w.heap.size + 1 ≤ w.heap.size + 3; omega) _).setCell (by show w.heap.size + 1 + 1 ≤ w.heap.size + 3; omega) _)⟩
        | some q =>
          have HCH := v6 hch
          clear hch
          go_enter_defers Tryz.func31, Tryz.ntmps31
          go_wp2_with (first | (go_at_call 55; refine (qb8 (w.heap.size + 3) s st0 (begun w s) hs1 (Nat.zero_le _) (q9 RDY).at' (q9 RDY).lt (q9 RDY).err).mono ?_; rintro e w1 ⟨rfl, hr1, hk1⟩; have hz1 := hk1.size; rw [qh3] at hz1; obtain ⟨kc, kf⟩ := x5 hk1; rw [qh3] at kc kf; have a0 : w1.cell? ⟨w.heap.size, 0, none⟩ = some (.pointer none) := (kc _ 0 (by omega) (by omega)).trans (q9 BC).1; have a1 : w1.cell? ⟨w.heap.size + 1, 0, none⟩ = some (.int .i64 0) := (kc _ 0 (by omega) (by omega)).trans (q9 BC).2.1; have a2 : w1.cell? ⟨w.heap.size + 2, 0, none⟩ = some (.int .i64 0) := (kc _ 0 (by omega) (by omega)).trans (q9 BC).2.2.1; have b0 : w1.frozen? ⟨w.heap.size, 0, none⟩ = false := (kf _ 0 (by omega) (by omega)).trans (q9 BC).2.2.2.1; have b1 : w1.frozen? ⟨w.heap.size + 1, 0, none⟩ = false := (kf _ 0 (by omega) (by omega)).trans (q9 BC).2.2.2.2.1; have b2 : w1.frozen? ⟨w.heap.size + 2, 0, none⟩ = false := (kf _ 0 (by omega) (by omega)).trans (q9 BC).2.2.2.2.2; have hR1 := v6 ((q9 RDY).kept hk1 hr1 (q9 HF1)); have hK1 := v6 hk1; clear hr1 hk1 kc kf) | (go_at_call 56; refine (q9 EI w1 (v8 s st0) (q9 hR1) rfl).mono ?_; rintro e w2 ⟨hk2, h2⟩; rw [q9 HRES] at h2; obtain ⟨v2, rfl, hn2, hr2, hf2, ho2, hp2⟩ := h2; obtain ⟨vb, rfl⟩ := hn2.ptr; have hn2 := v6 hn2; have hr2 := v6 hr2; have hf2 := v6 hf2; have hz2 := hk2.size; obtain ⟨kc, kf⟩ := x5 hk2; have c0 : w2.cell? ⟨w.heap.size, 0, none⟩ = some (.pointer none) := (kc _ 0 (by omega) (by omega)).trans a0; have c1 : w2.cell? ⟨w.heap.size + 1, 0, none⟩ = some (.int .i64 0) := (kc _ 0 (by omega) (by omega)).trans a1; have c2 : w2.cell? ⟨w.heap.size + 2, 0, none⟩ = some (.int .i64 0) := (kc _ 0 (by omega) (by omega)).trans a2; have d0 : w2.frozen? ⟨w.heap.size, 0, none⟩ = false := (kf _ 0 (by omega) (by omega)).trans b0; have d1 : w2.frozen? ⟨w.heap.size + 1, 0, none⟩ = false := (kf _ 0 (by omega) (by omega)).trans b1; have d2 : w2.frozen? ⟨w.heap.size + 2, 0, none⟩ = false := (kf _ 0 (by omega) (by omega)).trans b2; have hK2 := v6 ((q9 hK1).trans hk2); clear hk2 kc kf a0 a1 a2 b0 b1 b2) | (go_at_call 57; refine (qb4 (w.heap.size + 3) s st2 0 (w2.setCell ⟨w.heap.size, 0, none⟩ (.pointer (some ⟨vb, 0, none⟩))) hs1 (q9 hf2).after ((q9 hr2).setOther (by show ¬ w.heap.size = w.heap.size + 3; omega) _) (by rw [y4]; omega) (q9 ERR2 _ _ (q9 hK2)) (q9 HK)).mono ?_; rintro e w3 ⟨rfl, hr3, hk3⟩; clear hr3; have hz3 : w2.heap.size ≤ w3.heap.size := (by have := hk3.size; rw [y4] at this; exact this); obtain ⟨kc, kf⟩ := x5 hk3; rw [y4] at kc kf; have g0 : w3.cell? ⟨w.heap.size, 0, none⟩ = some (.pointer (some ⟨vb, 0, none⟩)) := (kc _ 0 (by omega) (by omega)).trans (by simp [go_sem, c0]); have g1 : w3.cell? ⟨w.heap.size + 1, 0, none⟩ = some (.int .i64 0) := (kc _ 0 (by omega) (by omega)).trans (by simp [go_sem, c1]); have g2 : w3.cell? ⟨w.heap.size + 2, 0, none⟩ = some (.int .i64 0) := (kc _ 0 (by omega) (by omega)).trans (by simp [go_sem, c2]); have i0 : w3.frozen? ⟨w.heap.size, 0, none⟩ = false := (kf _ 0 (by omega) (by omega)).trans (by simp [go_sem, d0]); have i1 : w3.frozen? ⟨w.heap.size + 1, 0, none⟩ = false := (kf _ 0 (by omega) (by omega)).trans (by simp [go_sem, d1]); have i2 : w3.frozen? ⟨w.heap.size + 2, 0, none⟩ = false := (kf _ 0 (by omega) (by omega)).trans (by simp [go_sem, d2]); have hK3 := v6 hk3; clear hk3 kc kf c0 c1 c2 d0 d1 d2; simp only [tkV]) | (go_at_call 58; refine (q9 CHK w3 (.pointer (some ⟨vb, 0, none⟩)) ((q9 hn2).above (((Above.mk (Nat.le_refl _) (fun _ _ _ => rfl)).setCell (p := ⟨w.heap.size, 0, none⟩) (by show w.heap.size ≤ w.heap.size + 3; omega) (.pointer (some ⟨vb, 0, none⟩))).trans (q9 hK3).above))).mono ?_; rintro e w4 ⟨hb4, h4⟩; rw [q9 HCH] at h4; subst h4; have hz4 := hb4.size; obtain ⟨bc, bf⟩ := j6 hb4; have j0 : w4.cell? ⟨w.heap.size, 0, none⟩ = some (.pointer (some ⟨vb, 0, none⟩)) := (bc _ 0 (by omega)).trans g0; have j1 : w4.cell? ⟨w.heap.size + 1, 0, none⟩ = some (.int .i64 0) := (bc _ 0 (by omega)).trans g1; have j2 : w4.cell? ⟨w.heap.size + 2, 0, none⟩ = some (.int .i64 0) := (bc _ 0 (by omega)).trans g2; have l0 : w4.frozen? ⟨w.heap.size, 0, none⟩ = false := (bf _ 0 (by omega)).trans i0; have l1 : w4.frozen? ⟨w.heap.size + 1, 0, none⟩ = false := (bf _ 0 (by omega)).trans i1; have l2 : w4.frozen? ⟨w.heap.size + 2, 0, none⟩ = false := (bf _ 0 (by omega)).trans i2; have hb4 := v6 hb4; clear bc bf g0 g1 g2 i0 i1 i2; simp only [x4]))
          refine leaves_cons (f := 54) (args := #[.pointer (some ⟨w.heap.size, 0, none⟩), .pointer (some ⟨w.heap.size + 1, 0, none⟩), .pointer (some ⟨w.heap.size + 2, 0, none⟩)]) (by simp) (by simp [go_sem]) ?_
          refine (qq9 w.heap.size (.pointer (some ⟨vb, 0, none⟩)) (.int .i64 0) (.int .i64 0) _ _ [] w4 (by omega) j0 j1 j2 l0 l1 l2).mono ?_
          rintro e u' w9 ⟨rfl, rfl, k0, k1, k2, hb9⟩
          have HB := v6 ((((q9 hK3).below (((q9 hK2).below (q9 BB) (by omega) (by omega)).setCell (by show w.heap.size ≤ w.heap.size; omega) _) (by omega) (by rw [y4]; omega)).trans ((q9 hb4).mono (by omega))).trans hb9)
          simp [Leaves, settle, results, Tryz.results31, go_sem, k0, k1, k2]
          exact ⟨q9 HB, rfl⟩
      · rw [if_neg hk]
        have HK := v6 hk
        clear hk
        go_enter_defers Tryz.func31, Tryz.ntmps31
        go_wp2_with (first | (go_at_call 55; refine (qb8 (w.heap.size + 3) s st0 (begun w s) hs1 (Nat.zero_le _) (q9 RDY).at' (q9 RDY).lt (q9 RDY).err).mono ?_; rintro e w1 ⟨rfl, hr1, hk1⟩; have hz1 := hk1.size; rw [qh3] at hz1; obtain ⟨kc, kf⟩ := x5 hk1; rw [qh3] at kc kf; have a0 : w1.cell? ⟨w.heap.size, 0, none⟩ = some (.pointer none) := (kc _ 0 (by omega) (by omega)).trans (q9 BC).1; have a1 : w1.cell? ⟨w.heap.size + 1, 0, none⟩ = some (.int .i64 0) := (kc _ 0 (by omega) (by omega)).trans (q9 BC).2.1; have a2 : w1.cell? ⟨w.heap.size + 2, 0, none⟩ = some (.int .i64 0) := (kc _ 0 (by omega) (by omega)).trans (q9 BC).2.2.1; have b0 : w1.frozen? ⟨w.heap.size, 0, none⟩ = false := (kf _ 0 (by omega) (by omega)).trans (q9 BC).2.2.2.1; have b1 : w1.frozen? ⟨w.heap.size + 1, 0, none⟩ = false := (kf _ 0 (by omega) (by omega)).trans (q9 BC).2.2.2.2.1; have b2 : w1.frozen? ⟨w.heap.size + 2, 0, none⟩ = false := (kf _ 0 (by omega) (by omega)).trans (q9 BC).2.2.2.2.2; have hR1 := v6 ((q9 RDY).kept hk1 hr1 (q9 HF1)); have hK1 := v6 hk1; clear hr1 hk1 kc kf) | (go_at_call 56; refine (q9 EI w1 (v8 s st0) (q9 hR1) rfl).mono ?_; rintro e w2 ⟨hk2, h2⟩; rw [q9 HRES] at h2; obtain ⟨v2, rfl, hn2, hr2, hf2, ho2, hp2⟩ := h2; obtain ⟨vb, rfl⟩ := hn2.ptr; have hn2 := v6 hn2; have hr2 := v6 hr2; have hf2 := v6 hf2; have hz2 := hk2.size; obtain ⟨kc, kf⟩ := x5 hk2; have c0 : w2.cell? ⟨w.heap.size, 0, none⟩ = some (.pointer none) := (kc _ 0 (by omega) (by omega)).trans a0; have c1 : w2.cell? ⟨w.heap.size + 1, 0, none⟩ = some (.int .i64 0) := (kc _ 0 (by omega) (by omega)).trans a1; have c2 : w2.cell? ⟨w.heap.size + 2, 0, none⟩ = some (.int .i64 0) := (kc _ 0 (by omega) (by omega)).trans a2; have d0 : w2.frozen? ⟨w.heap.size, 0, none⟩ = false := (kf _ 0 (by omega) (by omega)).trans b0; have d1 : w2.frozen? ⟨w.heap.size + 1, 0, none⟩ = false := (kf _ 0 (by omega) (by omega)).trans b1; have d2 : w2.frozen? ⟨w.heap.size + 2, 0, none⟩ = false := (kf _ 0 (by omega) (by omega)).trans b2; have hK2 := v6 ((q9 hK1).trans hk2); clear hk2 kc kf a0 a1 a2 b0 b1 b2) | (go_at_call 57; refine (qk9 (w.heap.size + 3) s st2 0 (w2.setCell ⟨w.heap.size, 0, none⟩ (.pointer (some ⟨vb, 0, none⟩))) ((q9 hr2).setOther (by show ¬ w.heap.size = w.heap.size + 3; omega) _) (by rw [y4]; omega) (q9 HK)).mono ?_; rintro e w3 ⟨rfl, hk3⟩; have hz3 : w2.heap.size ≤ w3.heap.size := (by have := hk3.size; rw [y4] at this; exact this); obtain ⟨kc, kf⟩ := x5 hk3; rw [y4] at kc kf; have g0 : w3.cell? ⟨w.heap.size, 0, none⟩ = some (.pointer (some ⟨vb, 0, none⟩)) := (kc _ 0 (by omega) (by omega)).trans (by simp [go_sem, c0]); have g1 : w3.cell? ⟨w.heap.size + 1, 0, none⟩ = some (.int .i64 0) := (kc _ 0 (by omega) (by omega)).trans (by simp [go_sem, c1]); have g2 : w3.cell? ⟨w.heap.size + 2, 0, none⟩ = some (.int .i64 0) := (kc _ 0 (by omega) (by omega)).trans (by simp [go_sem, c2]); have i0 : w3.frozen? ⟨w.heap.size, 0, none⟩ = false := (kf _ 0 (by omega) (by omega)).trans (by simp [go_sem, d0]); have i1 : w3.frozen? ⟨w.heap.size + 1, 0, none⟩ = false := (kf _ 0 (by omega) (by omega)).trans (by simp [go_sem, d1]); have i2 : w3.frozen? ⟨w.heap.size + 2, 0, none⟩ = false := (kf _ 0 (by omega) (by omega)).trans (by simp [go_sem, d2]); have hK3 := v6 hk3; clear hk3 kc kf c0 c1 c2 d0 d1 d2; simp only [x4]))
        refine leaves_cons (f := 54) (args := #[.pointer (some ⟨w.heap.size, 0, none⟩), .pointer (some ⟨w.heap.size + 1, 0, none⟩), .pointer (some ⟨w.heap.size + 2, 0, none⟩)]) (by simp) (by simp [go_sem]) ?_
        refine (qq9 w.heap.size (.pointer (some ⟨vb, 0, none⟩)) (.int .i64 0) (.int .i64 0) _ _ [] w3 (by omega) g0 g1 g2 i0 i1 i2).mono ?_
        rintro e u' w9 ⟨rfl, rfl, k0, k1, k2, hb9⟩
        have HB := v6 (((q9 hK3).below (((q9 hK2).below (q9 BB) (by omega) (by omega)).setCell (by show w.heap.size ≤ w.heap.size; omega) _) (by omega) (by rw [y4]; omega)).trans hb9)
        simp [Leaves, settle, results, Tryz.results31, go_sem, k0, k1, k2]
        exact ⟨q9 HB, rfl⟩
  · rw [qh5, if_neg hs]
    have hb : decide ((200 : Int) < (s.size : Int)) = true := decide_eq_true (by omega)
    clear hE hsz hs
    go_enter_defers Tryz.func31, Tryz.ntmps31
    go_wp2_with fail
    have q0 : (((w.alloc (.cells #[.pointer none] 74)).alloc (.cells #[.int .i64 1] 33)).alloc (.cells #[.int .i64 0] 3)).cell? ⟨w.heap.size, 0, none⟩ = some (.pointer none) := by
      rw [World.cell?_alloc_past _ _ _ (by simp <;> omega), World.cell?_alloc_past _ _ _ (by simp), World.cell?_alloc_at _ _ _ _ rfl]; rfl
    have q1 : (((w.alloc (.cells #[.pointer none] 74)).alloc (.cells #[.int .i64 1] 33)).alloc (.cells #[.int .i64 0] 3)).cell? ⟨w.heap.size + 1, 0, none⟩ = some (.int .i64 1) := by
      rw [World.cell?_alloc_past _ _ _ (by simp), World.cell?_alloc_at _ _ _ _ (by simp)]; rfl
    have q2 : (((w.alloc (.cells #[.pointer none] 74)).alloc (.cells #[.int .i64 1] 33)).alloc (.cells #[.int .i64 0] 3)).cell? ⟨w.heap.size + 1 + 1, 0, none⟩ = some (.int .i64 0) := by
      rw [World.cell?_alloc_at _ _ _ _ (by simp)]; rfl
    simp [bodyPostD, Leaves, results, Tryz.results31, go_sem, q0, q1, q2]
    exact ⟨qb5 _ _ _ _, rfl⟩
end
section
def za5 : List UInt8 → List UInt8
  | [] => []
  | c :: r => if c == 39 then 39 :: 39 :: za5 r else c :: za5 r
theorem jn0 (a : List UInt8) : (za5 a).length ≤ 2 * a.length := by
  induction a with
  | nil => exact Nat.le_refl _
  | cons c r ih => rw [za5]; split <;> simp <;> omega
end
section
structure LibOk (w : World) : Prop where
  err : ErrOk w
  max : 4 < w.heap.size ∧ ∃ m, w.cell? ⟨4, 0, none⟩ = some (.int .i64 m)
  pow : Lib.TabIs Tryz.prog w "internal/strconv.uint64pow10" .u64 Lib.pow10Tab
theorem LibOk.below {w w' : World} {B : Nat} (h : LibOk w) (hb : Below B w w') (hB : w.heap.size ≤ B) : LibOk w' := by
  obtain ⟨hz, m, hm⟩ := h.max
  exact ⟨h.err.below hb hB, ⟨Nat.lt_of_lt_of_le hz (by have := hb.size; omega), m, (hb.cell (p := ⟨4, 0, none⟩) (Nat.lt_of_lt_of_le hz hB)).trans hm⟩, (Lib.tabBelow_of_tabIs h.pow) w' (hb.mono hB)⟩
theorem LibOk.alloc {w : World} (h : LibOk w) (o : Obj) : LibOk (w.alloc o) := h.below ((Below.refl _ _).alloc (Nat.le_refl _) o) (Nat.le_refl _)
structure CP where
  op : Int
  num : Int
  str : List UInt8
  esc : List UInt8
inductive Co where
  | leaf (p : CP)
  | un (p : CP) (x : Co)
  | bin (p : CP) (x y : Co)
def qL (s : List UInt8) : List UInt8 := 39 :: (za5 s ++ [39])
def qk8 (op : Int) : List UInt8 :=
  if op == 6 then [65, 78, 68] else if op == 7 then [79, 82] else if op == 8 then [61] else if op == 10 then [60] else if op == 11 then [60, 61]
  else if op == 16 then [43] else if op == 17 then [45] else if op == 18 then [42] else [47]
def escT (e : List UInt8) : List UInt8 := if e.isEmpty then [] else [32, 69, 83, 67, 65, 80, 69, 32] ++ qL e
def y8 (p : CP) (l r : List UInt8) : List UInt8 :=
  if p.op == 0 then p.str else if p.op == 1 then Lib.itoa p.num else if p.op == 2 then qL p.str else if p.op == 3 then [84, 82, 85, 69] else if p.op == 4 then [70, 65, 76, 83, 69]
  else if p.op == 5 then [40, 78, 79, 84, 32] ++ l ++ [41] else if p.op == 23 then [40] ++ l ++ [32, 73, 83, 32, 78, 85, 76, 76, 41]
  else if p.op == 22 then [40] ++ l ++ [32, 76, 73, 75, 69, 32] ++ qL p.str ++ escT p.esc ++ [41]
  else [40] ++ l ++ [32] ++ qk8 p.op ++ [32] ++ r ++ [41]
def z9 : Co → List UInt8
  | .leaf p => y8 p [] []
  | .un p x => y8 p (z9 x) []
  | .bin p x y => y8 p (z9 x) (z9 y)
def opC : Co → Int
  | .leaf p => p.op
  | .un p _ => p.op
  | .bin p _ _ => p.op
def qb2 (op : Int) : CP := ⟨op, 0, [], []⟩
def vw0 (op : Int) : Bool := op == 6 || op == 7 || op == 8 || op == 16 || op == 18
def z8 (op : Int) (x y : Co) : Co := if vw0 op && Op.bytesLess (z9 y) (z9 x) then .bin (qb2 op) y x else .bin (qb2 op) x y
def qh8 : Co → Co
  | .leaf p => if p.op == 3 then .leaf (qb2 4) else if p.op == 4 then .leaf (qb2 3) else .un (qb2 5) (.leaf p)
  | .un p x => if p.op == 5 && opC x != 0 then x else .un (qb2 5) (.un p x)
  | .bin p x y => if p.op == 6 then z8 7 (qh8 x) (qh8 y) else if p.op == 7 then z8 6 (qh8 x) (qh8 y)
      else if p.op == 10 then z8 11 y x else if p.op == 11 then z8 10 y x else .un (qb2 5) (.bin p x y)
def qp5 (s : List UInt8) : Co := .leaf ⟨2, 0, s, []⟩
def vp6 (n : Int) : Co := .leaf ⟨1, n, [], []⟩
def qx6 (x : Co) : Co → List (List UInt8) → Co
  | f, [] => f
  | f, t :: r => qx6 x (z8 7 f (z8 8 x (qp5 t))) r
def qr4 (ts : List (List UInt8)) : List (List UInt8) := Lib.compact (ts.mergeSort fun x y => decide (x ≤ y))
def qv8 (x : Co) (ts : List (List UInt8)) : Co := match qr4 ts with
  | [] => x
  | t :: r => qx6 x (z8 8 x (qp5 t)) r
def va7 (p : Pay) : CP := ⟨p.op, p.num, p.str, p.esc⟩
def j4 : Ast → Co
  | .leaf p => .leaf (va7 p)
  | .un p x => if p.op == 14 then z8 16 (vp6 0) (j4 x) else if p.op == 15 then z8 17 (vp6 0) (j4 x) else if p.op == 5 then qh8 (j4 x)
      else if p.op == 21 then qv8 (j4 x) p.texts else .un (va7 p) (j4 x)
  | .bin p x y => if p.op == 12 then z8 10 (j4 y) (j4 x) else if p.op == 13 then z8 11 (j4 y) (j4 x) else if p.op == 9 then qh8 (z8 8 (j4 x) (j4 y)) else z8 p.op (j4 x) (j4 y)
  | .tri _ x y z => z8 6 (z8 11 (j4 y) (j4 x)) (z8 11 (j4 x) (j4 z))
structure CellsC (B E : Nat) (w : World) (b : Nat) (p : CP) (l r : Value) (t : List UInt8) : Prop where
  lo : B ≤ b
  hi : b < E
  within : b < w.heap.size
  c0 : w.cell? ⟨b, 0, none⟩ = some (.int .i64 p.op)
  c1 : w.cell? ⟨b, 1, none⟩ = some l
  c2 : w.cell? ⟨b, 2, none⟩ = some r
  c3 : w.cell? ⟨b, 3, none⟩ = some (.int .i64 p.num)
  c4 : w.cell? ⟨b, 4, none⟩ = some (.string (BS p.str))
  c5 : w.cell? ⟨b, 5, none⟩ = some (.string (BS p.esc))
  c6 : w.cell? ⟨b, 6, none⟩ = some (.string (BS t))
def nilP : Value := .pointer none
def at0 (b : Nat) : Value := .pointer (some ⟨b, 0, none⟩)
def CoAt (B E : Nat) (w : World) (v : Value) : Co → Prop
  | .leaf p => ∃ b, v = at0 b ∧ CellsC B E w b p nilP nilP (z9 (.leaf p))
  | .un p x => ∃ b vx, v = at0 b ∧ CellsC B E w b p vx nilP (z9 (.un p x)) ∧ CoAt B E w vx x
  | .bin p x y => ∃ b vx vy, v = at0 b ∧ CellsC B E w b p vx vy (z9 (.bin p x y)) ∧ CoAt B E w vx x ∧ CoAt B E w vy y
theorem CellsC.keep {B E E' : Nat} {w w' : World} {b : Nat} {p : CP} {l r : Value} {t : List UInt8} (h : CellsC B E w b p l r t) (hE : E ≤ E') (hk : ∀ k, B ≤ k → k < E → w'.heap[k]? = w.heap[k]?) (hz : w.heap.size ≤ w'.heap.size) : CellsC B E' w' b p l r t := by
  have hc : ∀ j, w'.cell? ⟨b, j, none⟩ = w.cell? ⟨b, j, none⟩ := fun j => World.cell?_of_block (w := w) (w' := w') (a := ⟨b, j, none⟩) (hk b h.lo h.hi)
  exact ⟨h.lo, Nat.lt_of_lt_of_le h.hi hE, Nat.lt_of_lt_of_le h.within hz, (hc 0).trans h.c0, (hc 1).trans h.c1, (hc 2).trans h.c2, (hc 3).trans h.c3, (hc 4).trans h.c4, (hc 5).trans h.c5, (hc 6).trans h.c6⟩
theorem CoAt.keep {B E E' : Nat} {w w' : World} (hE : E ≤ E') (hk : ∀ k, B ≤ k → k < E → w'.heap[k]? = w.heap[k]?) (hz : w.heap.size ≤ w'.heap.size) : ∀ {c : Co} {v : Value}, CoAt B E w v c → CoAt B E' w' v c := by
  intro c
  induction c with
  | leaf p => rintro v ⟨b, rfl, h⟩; exact ⟨b, rfl, h.keep hE hk hz⟩
  | un p x ih => rintro v ⟨b, vx, rfl, h, hx⟩; exact ⟨b, vx, rfl, h.keep hE hk hz, ih hx⟩
  | bin p x y ihx ihy => rintro v ⟨b, vx, vy, rfl, h, hx, hy⟩; exact ⟨b, vx, vy, rfl, h.keep hE hk hz, ihx hx, ihy hy⟩
theorem CoAt.below {B : Nat} {w w' : World} (hb : Below w.heap.size w w') {c : Co} {v : Value} (h : CoAt B w.heap.size w v c) : CoAt B w'.heap.size w' v c :=
  h.keep hb.size (fun k _ hk => hb.block k hk) hb.size
theorem CoAt.head {B E : Nat} {w : World} {v : Value} {c : Co} (h : CoAt B E w v c) : ∃ b p l r, v = at0 b ∧ p.op = opC c ∧ CellsC B E w b p l r (z9 c) := by
  cases c with
  | leaf p => obtain ⟨b, rfl, h⟩ := h; exact ⟨b, p, _, _, rfl, rfl, h⟩
  | un p x => obtain ⟨b, vx, rfl, h, _⟩ := h; exact ⟨b, p, _, _, rfl, rfl, h⟩
  | bin p x y => obtain ⟨b, vx, vy, rfl, h, _⟩ := h; exact ⟨b, p, _, _, rfl, rfl, h⟩
def TextAt (w : World) (v : Value) (t : List UInt8) : Prop := ∃ b, v = at0 b ∧ b < w.heap.size ∧ w.cell? ⟨b, 6, none⟩ = some (.string (BS t))
theorem CoAt.text {B E : Nat} {w : World} {v : Value} {c : Co} (h : CoAt B E w v c) : TextAt w v (z9 c) := by
  obtain ⟨b, p, l, r, rfl, _, h⟩ := h.head
  exact ⟨b, rfl, h.within, h.c6⟩
end
section
def ja4 (st : St) : Prop := st.tk.str.length ≤ 200
theorem j7 {s : ByteArray} (hs : s.size ≤ 200) (st : St) : ja4 (v8 s st) := Nat.le_trans (vq3 s st) hs
def Bp (p : Pay) : Prop := p.str.length ≤ 200 ∧ p.texts.length ≤ 1000
def vd8 : Ast → Prop
  | .leaf p => Bp p
  | .un p x => Bp p ∧ vd8 x
  | .bin p x y => Bp p ∧ vd8 x ∧ vd8 y
  | .tri p x y z => Bp p ∧ vd8 x ∧ vd8 y ∧ vd8 z
theorem bp0 (op pl num : Int) : Bp ⟨op, pl, num, [], [], []⟩ := ⟨by simp, by simp⟩
theorem bp1 {op pl num : Int} {s : List UInt8} (h : s.length ≤ 200) : Bp ⟨op, pl, num, s, [], []⟩ := ⟨h, by simp⟩
def BGood (f : St → Res) : Prop := ∀ st t st', ja4 st → f st = .ok t st' → vd8 t ∧ ja4 st'
def vx4 (g : Ast → St → Res) : Prop := ∀ l st t st', vd8 l → ja4 st → g l st = .ok t st' → vd8 t ∧ ja4 st'
theorem BGood.join {s : ByteArray} (H : s.size ≤ 200) {f : St → Res} (h : BGood f) : ∀ st l t st', vd8 l → qb6 s f st l = .ok t st' → vd8 t ∧ ja4 st' := by
  intro st l t st' hl he
  unfold qb6 at he
  split at he
  · rename_i r st2 hr; injection he with h1 h2; subst h1; subst h2
    have := h _ _ _ (j7 H st) hr
    exact ⟨⟨(bp0 _ _ _), hl, this.1⟩, this.2⟩
  · cases he
theorem BGood.loop {s : ByteArray} (H : s.size ≤ 200) {f : St → Res} {ks : List Int} (h : BGood f) : ∀ n l st t st', vd8 l → ja4 st → qa6 s f ks n l st = .ok t st' → vd8 t ∧ ja4 st' := by
  intro n
  induction n with
  | zero => intro l st t st' hl hs he; rw [qa6] at he; injection he with h1 h2; subst h1; subst h2; exact ⟨hl, hs⟩
  | succ n ih =>
    intro l st t st' hl hs he
    rw [qa6] at he
    split at he
    · split at he
      · rename_i hj; have := h.join H _ _ _ _ hl hj; exact ih _ _ _ _ this.1 this.2 he
      · cases he
    · injection he with h1 h2; subst h1; subst h2; exact ⟨hl, hs⟩
theorem BGood.row {s : ByteArray} (H : s.size ≤ 200) {f : St → Res} {ks : List Int} (h : BGood f) : BGood (qg4 s f ks) := by
  intro st t st' hs he
  unfold qg4 at he
  split at he
  · rename_i hr; have := h _ _ _ hs hr; exact h.loop H _ _ _ _ _ this.1 this.2 he
  · cases he
theorem BGood.sign {s : ByteArray} (H : s.size ≤ 200) {f : St → Res} (h : BGood f) (o : Int) : BGood (qg5 s f o) := by
  intro st t st' _ he
  unfold qg5 at he
  split at he
  · cases he
  · split at he
    · rename_i hr; injection he with h1 h2; subst h1; subst h2
      have := h (qz3 s st) _ _ (j7 H st) hr
      exact ⟨⟨(bp0 _ _ _), this.1⟩, this.2⟩
    · cases he
theorem BGood.group {s : ByteArray} (H : s.size ≤ 200) {f : St → Res} (h : BGood f) : BGood (qh6 s f) := by
  intro st t st' _ he
  unfold qh6 at he
  split at he
  · cases he
  · split at he
    · rename_i hr; split at he
      · injection he with h1 h2; subst h1; subst h2
        exact ⟨(h (qz3 s st) _ _ (j7 H st) hr).1, j7 H _⟩
      · cases he
    · cases he
theorem BGood.signed {s : ByteArray} (H : s.size ≤ 200) {fS fE : St → Res} (hS : BGood fS) (hE : BGood fE) : BGood (qb0 s fS fE) := by
  intro st t st' hs he
  unfold qb0 at he
  split at he
  · exact hS.sign H 14 _ _ _ hs he
  split at he
  · exact hS.sign H 15 _ _ _ hs he
  split at he
  · exact hE.group H _ _ _ hs he
  split at he
  · injection he with h1 h2; subst h1; subst h2; exact ⟨bp1 hs, j7 H st⟩
  split at he
  · injection he with h1 h2; subst h1; subst h2; exact ⟨(bp0 _ _ _), j7 H st⟩
  split at he
  · injection he with h1 h2; subst h1; subst h2; exact ⟨bp1 hs, j7 H st⟩
  split at he
  · injection he with h1 h2; subst h1; subst h2; exact ⟨(bp0 _ _ _), j7 H st⟩
  split at he
  · injection he with h1 h2; subst h1; subst h2; exact ⟨(bp0 _ _ _), j7 H st⟩
  · cases he
theorem jw7 {s : ByteArray} (H : s.size ≤ 200) : vx4 (qc9 s) := by
  intro l st t st' hl _ he
  unfold qc9 at he
  split at he
  · split at he
    · injection he with h1 h2; subst h1; subst h2; exact ⟨⟨(bp0 _ _ _), (bp0 _ _ _), hl⟩, j7 H _⟩
    · cases he
  · split at he
    · injection he with h1 h2; subst h1; subst h2; exact ⟨⟨(bp0 _ _ _), hl⟩, j7 H _⟩
    · cases he
theorem ju9 {s : ByteArray} (H : s.size ≤ 200) {l : Ast} {pl : Nat} (hl : vd8 l) : ∀ n ts st t st', ts.length + n ≤ 1000 → qf7 s l pl n ts st = .ok t st' → vd8 t ∧ ja4 st' := by
  intro n
  induction n with
  | zero => intro ts st t st' _ he; rw [qf7] at he; cases he
  | succ n ih =>
    intro ts st t st' hn he
    rw [qf7] at he
    split at he
    · split at he
      · exact ih _ _ _ _ (by simp; omega) he
      · cases he
    · split at he
      · injection he with h1 h2; subst h1; subst h2; exact ⟨⟨⟨by simp, by show ts.length ≤ 1000; omega⟩, hl⟩, j7 H _⟩
      · cases he
theorem bnd_in {s : ByteArray} (H : s.size ≤ 200) : vx4 (qm8 s) := by
  intro l st t st' hl _ he
  unfold qm8 at he
  split at he
  · split at he
    · exact ju9 H hl _ _ _ _ _ (by simp; omega) he
    · cases he
  · cases he
theorem bnd_like {s : ByteArray} (H : s.size ≤ 200) : vx4 (qd8 s) := by
  intro l st t st' hl _ he
  unfold qd8 at he
  split at he
  · split at he
    · split at he
      · rename_i hk; injection he with h1 h2; subst h1; subst h2; rw [(vc0 hk).2]; exact ⟨⟨⟨j7 H _, by simp⟩, hl⟩, j7 H _⟩
      · cases he
    · injection he with h1 h2; subst h1; subst h2; exact ⟨⟨⟨j7 H _, by simp⟩, hl⟩, j7 H _⟩
  · cases he
theorem BGood.between {s : ByteArray} (H : s.size ≤ 200) {f : St → Res} (h : BGood f) : vx4 (qd5 s f) := by
  intro l st t st' hl _ he
  unfold qd5 at he
  split at he
  · split at he
    · rename_i h1; split at he
      · split at he
        · rename_i h2; injection he with h3 h4; subst h3; subst h4
          have a := h _ _ _ (j7 H _) h1
          have b := h _ _ _ (j7 H _) h2
          exact ⟨⟨(bp0 _ _ _), hl, a.1, b.1⟩, b.2⟩
        · cases he
      · cases he
    · cases he
  · cases he
theorem BGood.keyword {s : ByteArray} (H : s.size ≤ 200) {f : St → Res} (h : BGood f) (bare : Bool) : vx4 (y6 s f (qm8 s) (qd8 s) bare) := by
  intro l st t st' hl hs he
  unfold y6 at he
  split at he
  · exact bnd_in H _ _ _ _ hl hs he
  split at he
  · exact bnd_like H _ _ _ _ hl hs he
  · exact h.between H _ _ _ _ hl hs he
theorem BGood.test {s : ByteArray} (H : s.size ≤ 200) {f : St → Res} (h : BGood f) : BGood (qi8 s f (qm8 s) (qd8 s)) := by
  intro st t st' hs he
  unfold qi8 at he
  split at he
  · rename_i hr
    obtain ⟨hl, hs1⟩ := h _ _ _ hs hr
    unfold x7 at he
    split at he
    · exact h.join H _ _ _ _ hl he
    split at he
    · split at he
      · exact jw7 H _ _ _ _ hl hs1 he
      · injection he with h1 h2; subst h1; subst h2; exact ⟨hl, hs1⟩
    split at he
    · split at he
      · rename_i hk; injection he with h1 h2; subst h1; subst h2
        have := h.keyword H _ _ _ _ _ hl (j7 H _) hk
        exact ⟨⟨(bp0 _ _ _), this.1⟩, this.2⟩
      · cases he
    split at he
    · exact h.keyword H _ _ _ _ _ hl hs1 he
    · injection he with h1 h2; subst h1; subst h2; exact ⟨hl, hs1⟩
  · cases he
theorem BGood.denied {s : ByteArray} (H : s.size ≤ 200) {fD fT : St → Res} (hD : BGood fD) (hT : BGood fT) : BGood (qe6 s fD fT) := by
  intro st t st' hs he
  unfold qe6 at he
  split at he
  · exact hD.sign H 5 _ _ _ hs he
  · exact hT _ _ _ hs he
structure BGood3 (L : L3) : Prop where
  S : BGood L.S
  D : BGood L.D
  E : BGood L.E
theorem up3_bnd {s : ByteArray} (H : s.size ≤ 200) {L : L3} (h : BGood3 L) : BGood3 (up3 s L) := by
  have hS := BGood.signed (s := s) H h.S h.E
  have hD := BGood.denied (s := s) H h.D (BGood.test (s := s) H ((hS.row (s := s) H (ks := [24, 25])).row (s := s) H (ks := [22, 23])))
  exact ⟨hS, hD, (hD.row (s := s) H (ks := [5])).row (s := s) H (ks := [6])⟩
theorem jm2 (s : ByteArray) (H : s.size ≤ 200) : ∀ d, BGood3 (lvl s d) := by
  intro d
  induction d with
  | zero => exact up3_bnd H ⟨(fun _ _ _ _ h => by cases h), (fun _ _ _ _ h => by cases h), (fun _ _ _ _ h => by cases h)⟩
  | succ d ih => exact up3_bnd H ih
end
section
inductive Lx : List UInt8 → List Tk → Prop where
  | nil {r : List UInt8} (h : qd0 r 0 = z7 0) : Lx r []
  | cons {r : List UInt8} {k : Tk} {L : List Tk} (e : qd0 r 0 = k) (h : k.kind ≠ 0) (t : Lx (r.drop (qg3 r 0)) L) : Lx r (k :: L)
theorem vi2 (l : List UInt8) (k : Nat) : qc2 l k = k + qc2 (l.drop k) 0 := by
  unfold qc2; rw [List.drop_zero, Nat.zero_add]
theorem vi0 (l : List UInt8) (k : Nat) : qd0 l k = qd0 (l.drop k) 0 := by
  unfold qd0
  rw [vi2 l k, ← List.drop_drop, List.length_drop]
  by_cases h : k + qc2 (l.drop k) 0 < l.length
  · rw [if_pos h, if_pos (by omega)]
  · rw [if_neg h, if_neg (by omega)]
theorem jj7 (l : List UInt8) (k : Nat) (hk : k ≤ l.length) : qg3 l k = k + qg3 (l.drop k) 0 := by
  unfold qg3
  rw [vi2 l k, ← List.drop_drop, List.length_drop]
  by_cases h : k + qc2 (l.drop k) 0 < l.length
  · rw [if_pos h, if_pos (by omega)]; omega
  · rw [if_neg h, if_neg (by omega)]; omega
theorem vc7 {s : ByteArray} {r : List UInt8} {L : List Tk} (h : Lx r L) : ∀ st : St, st.after ≤ s.size → s.data.toList.drop st.after = r → Str s (v8 s st) L := by
  induction h with
  | nil h =>
    intro st _ hr
    refine .nil ?_
    show qd0 s.data.toList st.after = _
    rw [vi0, hr, h]
  | cons e h t ih =>
    intro st ha hr
    rename_i r k L
    have hk : (v8 s st).tk = k := by
      show qd0 s.data.toList st.after = _
      rw [vi0, hr, e]
    rw [← hk]
    refine .cons (by rw [hk]; exact h) (ih _ (qi0 s st ha).after ?_)
    show s.data.toList.drop (qg3 s.data.toList st.after) = _
    rw [jj7 _ _ (by rw [qb3]; exact ha), ← List.drop_drop, hr]
inductive CRel : CRes → CRes → Prop where
  | ok (c : Int) : CRel (.ok c) (.ok c)
  | err (p q : Int) : CRel (.err p) (.err q)
inductive CRels : List CRes → List CRes → Prop where
  | nil : CRels [] []
  | cons {a b : CRes} {r r' : List CRes} (h : CRel a b) (t : CRels r r') : CRels (a :: r) (b :: r')
theorem dem_rel (want p q : Int) : ∀ rs rs' : List CRes, CRels rs rs' → ∀ fit, (dem want p rs fit).isNone = (dem want q rs' fit).isNone := by
  intro rs rs' h
  induction h with
  | nil => intro fit; cases fit <;> rfl
  | cons h _ ih =>
    intro fit
    cases h with
    | ok c => exact ih _
    | err a b => rfl
theorem vt9 (want p q c : Int) {rs rs' : List CRes} (h : CRels rs rs') : CRel (vg2 want p c rs) (vg2 want q c rs') := by
  have := dem_rel want p q rs rs' h true
  unfold vg2
  cases h1 : dem want p rs true <;> cases h2 : dem want q rs' true <;> rw [h1, h2] at this
  · exact .ok _
  · cases this
  · cases this
  · exact .err _ _
theorem alike_rel (p q : Int) {a a' b b' : CRes} (ha : CRel a a') (hb : CRel b b') : CRel (qk0 p a b) (qk0 q a' b') := by
  cases ha with
  | err x y => exact .err _ _
  | ok c =>
    cases hb with
    | err x y => exact .err _ _
    | ok d =>
      show CRel (if (c != d && c != 0 && d != 0) = true then CRes.err p else CRes.ok 3) (if (c != d && c != 0 && d != 0) = true then CRes.err q else CRes.ok 3)
      by_cases h : (c != d && c != 0 && d != 0) = true
      · rw [if_pos h, if_pos h]; exact .err _ _
      · rw [if_neg h, if_neg h]; exact .ok _
theorem vb5 (op p q : Int) {rs rs' : List CRes} (h : CRels rs rs') : CRel (qs2 op p rs) (qs2 op q rs') := by
  unfold qs2
  by_cases c0 : (op == 0) = true
  · rw [if_pos c0, if_pos c0]; exact .ok _
  rw [if_neg c0, if_neg c0]
  by_cases c1 : (op == 1) = true
  · rw [if_pos c1, if_pos c1]; exact .ok _
  rw [if_neg c1, if_neg c1]
  by_cases c2 : (op == 2) = true
  · rw [if_pos c2, if_pos c2]; exact .ok _
  rw [if_neg c2, if_neg c2]
  by_cases c3 : (op == 5 || op == 6 || op == 7) = true
  · rw [if_pos c3, if_pos c3]; exact vt9 _ _ _ _ h
  rw [if_neg c3, if_neg c3]
  by_cases c4 : (op == 10 || op == 11 || op == 12 || op == 13 || op == 20) = true
  · rw [if_pos c4, if_pos c4]; exact vt9 _ _ _ _ h
  rw [if_neg c4, if_neg c4]
  by_cases c5 : (op == 14 || op == 15 || op == 16 || op == 17 || op == 18 || op == 19) = true
  · rw [if_pos c5, if_pos c5]; exact vt9 _ _ _ _ h
  rw [if_neg c5, if_neg c5]
  by_cases c6 : (op == 8 || op == 9) = true
  · rw [if_pos c6, if_pos c6]
    cases h with
    | nil => exact .ok _
    | cons ha t1 =>
      cases t1 with
      | nil => exact .ok _
      | cons hb t2 =>
        cases t2 with
        | nil => exact alike_rel p q ha hb
        | cons _ _ => exact .ok _
  rw [if_neg c6, if_neg c6]
  exact .ok _
theorem vy3 (t : Ast) : CRel (qa1 t) (qa1 (qf9 t)) := by
  induction t with
  | leaf p => exact vb5 _ _ _ .nil
  | un p x ih => exact vb5 _ _ _ (.cons ih .nil)
  | bin p x y ihx ihy => exact vb5 _ _ _ (.cons ihx (.cons ihy .nil))
  | tri p x y z ihx ihy ihz => exact vb5 _ _ _ (.cons ihx (.cons ihy (.cons ihz .nil)))
theorem chk_erase {t : Ast} (h : js9 (qa1 (qf9 t)) = none) : js9 (qa1 t) = none := by
  have hr := vy3 t
  cases h1 : qa1 t with
  | ok c =>
    rw [h1] at hr
    cases h2 : qa1 (qf9 t) with
    | ok d => rw [h2] at hr h; cases hr; exact h
    | err q => rw [h2] at hr; cases hr
  | err p =>
    rw [h1] at hr
    cases h2 : qa1 (qf9 t) with
    | ok d => rw [h2] at hr; cases hr
    | err q => rw [h2] at h; cases h
theorem vp8 (s : ByteArray) (hs : s.size ≤ 200) (L : List Tk) (hL : Lx s.data.toList L) (t' : Ast) (h : (vd6 12).E ⟨L, 0⟩ = .ok t' ⟨[], 0⟩) (hc : js9 (qa1 t') = none) :
    ∃ t, qh5 s = .ok t ∧ qf9 t = t' ∧ ve4 t ∧ vd8 t := by
  have hst : Str s (v8 s st0) L := vc7 hL st0 (Nat.zero_le _) (List.drop_zero)
  have hfi := qi0 s st0 (Nat.zero_le _)
  have hsim := (va5 s 12).E (v8 s st0) ⟨L, 0⟩ hfi hst rfl
  rcases hsim.cases with ⟨t, st, ts, e1, e2, e3, e4, e5⟩ | ⟨en, pl, e1, e2⟩
  · rw [h] at e2
    injection e2 with g1 g2
    subst g2
    have hk : st.tk.kind = 0 := by
      cases e3 with
      | nil h => rw [h]; rfl
    refine ⟨t, ?_, g1.symm, ((jh7 s 12).E _ _ _ (qc0 s st0) e1).1, ((jm2 s hs 12).E _ _ _ (j7 hs st0) e1).1⟩
    rw [qh5, if_pos hs, e1]
    show jy3 t st = _
    rw [jy3, if_pos hk, chk_erase (by rw [← g1]; exact hc)]
  · rw [h] at e2; cases e2
end
section
theorem lx_end : Lx [] [] := .nil rfl
end
section
set_option maxHeartbeats 400000 in
theorem vz2 (b : Bool) (w : World) :
    Calls Tryz.prog 82 #[.bool b] w fun e w' => e = .returned (vV (bV b)) ∧ Below w.heap.size w w' := by
  cases b
  all_goals
    go_enter Tryz.func82, Tryz.ntmps82
    go_wp2_with fail
    refine bodyPost_ret (by simp [results, Tryz.results82, go_sem] <;> rfl) rfl ⟨rfl, ?_⟩
    exact qh1 _ _ _
set_option maxHeartbeats 400000 in
theorem is_any (s : ByteArray) (ev : Value) (r want : V) (hev : ∃ a n c, ev = .slice a n c) (w : World) (hEV : ∀ w1, Below w.heap.size w w1 → w.heap.size < w1.heap.size → Calls Tryz.prog 112 #[.string s, ev] w1 fun e w' => e = .returned (.tuple #[vV r, .int .i64 0, .int .i64 0]) ∧ Below w1.heap.size w1 w') :
    Calls Tryz.prog 81 #[.string s, ev, vV want] w fun e w' => e = .returned (.bool (decide (r = want))) ∧ Below w.heap.size w w' := by
  have he := fun w => vk7 r want w
  have EV := v6 hEV
  obtain ⟨a, n, c, rfl⟩ := hev
  obtain ⟨d, hd⟩ : ∃ d, decide (r = want) = d := ⟨_, rfl⟩
  rw [hd] at he ⊢
  clear hEV hd
  simp only [vV] at he
  conv => arg 3; simp only [vV]
  go_enter Tryz.func81, Tryz.ntmps81
  go_wp2_with (go_at_call 112; refine (q9 EV _ ((Below.refl _ _).alloc (Nat.le_refl _) _) (by simp)).mono ?_; rintro e w1 ⟨rfl, hb1⟩; have hz1 : w.heap.size < w1.heap.size := (by have := hb1.size; simp at this; omega); have g0 : w1.cell? ⟨w.heap.size, 0, none⟩ = some (.int .i64 want.kind) := ((j6 hb1).1 _ 0 (by simp)).trans (by simp); have g1 : w1.cell? ⟨w.heap.size, 1, none⟩ = some (.int .i64 want.num) := ((j6 hb1).1 _ 1 (by simp)).trans (by simp); have g2 : w1.cell? ⟨w.heap.size, 2, none⟩ = some (.string (BS want.str)) := ((j6 hb1).1 _ 2 (by simp)).trans (by simp); have hB1 := v6 (qc4 hb1); clear hb1; simp only [vV])
  go_ret
  exact ⟨rfl, x3 (q9 hB1) _⟩
end
end Go.Proofs.YtfkcaldjphakpabGreatDoor
