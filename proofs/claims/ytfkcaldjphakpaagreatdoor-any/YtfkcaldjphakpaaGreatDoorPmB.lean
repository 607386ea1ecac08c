/- The reader of programs: term, operator by operator. The reader of programs: term, whatever its operator. -/
import Derived.Test.YtfkcaldjphakpaaGreatDoorDgA
namespace Go.Proofs.YtfkcaldjphakpaaGreatDoor
open Go.RowKit

section
set_option linter.unusedSimpArgs false
set_option linter.unusedVariables false

set_option maxHeartbeats 1000000 in
theorem pterm_3 (rb : Nat) (s : Ps) (pl : Nat) (w : World) (h : PsAt w rb s) (hpl : pl ≤ 255) (ho : s.next.1.toNat = 3) :
    Calls Tryz.prog 73 #[.pointer (some ⟨rb, 0, none⟩), .int .i64 pl] w (TermEnds rb w (s.next.2.body pl 3)) := by
  have hlt := h.lt
  have n0 : ¬ w.heap.size = rb := by omega
  have HP : Hid (∀ o, PsAt (w.alloc o) rb s) := hide fun o => h.alloc o
  have T : Hid (∀ w, PsAt w rb s → _) := hide fun w h => pnext_any rb s w h
  rw [ho] at T
  obtain ⟨s1, hs1⟩ : ∃ s1, s.next.2 = s1 := ⟨_, rfl⟩
  rw [hs1] at T ⊢
  have hb : s1.body pl 3 = (⟨3, 0, 0, 0, [], []⟩, s1) := by simp [Ps.body, isPair, Tm.bare]
  rw [hb]
  clear h hb ho hs1 
  go_enter Tryz.func73, Tryz.ntmps73
  go_wp2_with (first | (go_at_call 118; refine (unhide T _ (unhide HP _)).mono ?_; rintro e w1 ⟨rfl, hr1, hk1⟩; have hr1 := hide hr1; have HA1 := hide ((TmAt.new w 0 125).kept hk1 n0); obtain ⟨al, a0, a1, a2, a3, a4, a5, af⟩ := unhide HA1; simp only [Tm.bare] at a0 a1 a2 a3 a4 a5; have K1 : Hid (Kept rb w w1) := hide (((Kept.refl rb w).alloc _).trans hk1); have zz1 : w.heap.size < w1.heap.size := al; have nb : ¬ w1.heap.size = rb := (by omega); have nab : ¬ w.heap.size = w1.heap.size := (by omega); have nba : ¬ w1.heap.size = w.heap.size := (by omega); have HB1 : Hid (∀ ty, TmAt (w1.alloc (.cells #[.int .i64 (3 : Nat), .int .i64 0, .int .i64 0, .int .i64 0, .string ⟨#[]⟩, .string ⟨#[]⟩] ty)) w1.heap.size (.bare 3)) := hide (fun ty => TmAt.new w1 3 ty); clear hk1))
  exact term_ends' (unhide HA1) (unhide hr1) (unhide K1) hlt (Nat.le_refl _) rfl rfl rfl rfl rfl rfl rfl rfl

set_option maxHeartbeats 1000000 in
theorem pterm_4 (rb : Nat) (s : Ps) (pl : Nat) (w : World) (h : PsAt w rb s) (hpl : pl ≤ 255) (ho : s.next.1.toNat = 4) :
    Calls Tryz.prog 73 #[.pointer (some ⟨rb, 0, none⟩), .int .i64 pl] w (TermEnds rb w (s.next.2.body pl 4)) := by
  have hlt := h.lt
  have n0 : ¬ w.heap.size = rb := by omega
  have HP : Hid (∀ o, PsAt (w.alloc o) rb s) := hide fun o => h.alloc o
  have T : Hid (∀ w, PsAt w rb s → _) := hide fun w h => pnext_any rb s w h
  rw [ho] at T
  obtain ⟨s1, hs1⟩ : ∃ s1, s.next.2 = s1 := ⟨_, rfl⟩
  rw [hs1] at T ⊢
  have hb : s1.body pl 4 = (⟨4, 0, 0, 0, [], []⟩, s1) := by simp [Ps.body, isPair, Tm.bare]
  rw [hb]
  clear h hb ho hs1 
  go_enter Tryz.func73, Tryz.ntmps73
  go_wp2_with (first | (go_at_call 118; refine (unhide T _ (unhide HP _)).mono ?_; rintro e w1 ⟨rfl, hr1, hk1⟩; have hr1 := hide hr1; have HA1 := hide ((TmAt.new w 0 125).kept hk1 n0); obtain ⟨al, a0, a1, a2, a3, a4, a5, af⟩ := unhide HA1; simp only [Tm.bare] at a0 a1 a2 a3 a4 a5; have K1 : Hid (Kept rb w w1) := hide (((Kept.refl rb w).alloc _).trans hk1); have zz1 : w.heap.size < w1.heap.size := al; have nb : ¬ w1.heap.size = rb := (by omega); have nab : ¬ w.heap.size = w1.heap.size := (by omega); have nba : ¬ w1.heap.size = w.heap.size := (by omega); have HB1 : Hid (∀ ty, TmAt (w1.alloc (.cells #[.int .i64 (4 : Nat), .int .i64 0, .int .i64 0, .int .i64 0, .string ⟨#[]⟩, .string ⟨#[]⟩] ty)) w1.heap.size (.bare 4)) := hide (fun ty => TmAt.new w1 4 ty); clear hk1))
  exact term_ends' (unhide HA1) (unhide hr1) (unhide K1) hlt (Nat.le_refl _) rfl rfl rfl rfl rfl rfl rfl rfl

set_option maxHeartbeats 1000000 in
theorem pterm_1 (rb : Nat) (s : Ps) (pl : Nat) (w : World) (h : PsAt w rb s) (hpl : pl ≤ 255) (ho : s.next.1.toNat = 1) :
    Calls Tryz.prog 73 #[.pointer (some ⟨rb, 0, none⟩), .int .i64 pl] w (TermEnds rb w (s.next.2.body pl 1)) := by
  have hlt := h.lt
  have n0 : ¬ w.heap.size = rb := by omega
  have HP : Hid (∀ o, PsAt (w.alloc o) rb s) := hide fun o => h.alloc o
  have T : Hid (∀ w, PsAt w rb s → _) := hide fun w h => pnext_any rb s w h
  rw [ho] at T
  obtain ⟨s1, hs1⟩ : ∃ s1, s.next.2 = s1 := ⟨_, rfl⟩
  rw [hs1] at T ⊢
  obtain ⟨p2, hp2⟩ : ∃ p, s1.number = p := ⟨_, rfl⟩
  have T2 : Hid (∀ w, PsAt w rb s1 → Calls Tryz.prog 120 #[.pointer (some ⟨rb, 0, none⟩)] w fun e w' => e = .returned (.int .i64 (s1.number).1) ∧ PsAt w' rb (s1.number).2 ∧ Kept rb w w') := hide fun w h => pnumber_any rb s1 w h
  rw [hp2] at T2
  have hb : s1.body pl 1 = (⟨1, 0, 0, p2.1, [], []⟩, p2.2) := by simp [Ps.body, isPair, Tm.bare, hp2]
  rw [hb]
  clear h hb ho hs1 hp2
  go_enter Tryz.func73, Tryz.ntmps73
  go_wp2_with (first | (go_at_call 120; refine (unhide T2 _ ((unhide hr1).alloc _)).mono ?_; rintro e w2 ⟨rfl, hr2, hk2⟩; have hr2 := hide hr2; clear al a0 a1 a2 a3 a4 a5 af; have HA2 := hide (((unhide HA1).alloc _).kept hk2 n0); have HB2 := hide ((unhide HB1 _).kept hk2 nb); obtain ⟨al, a0, a1, a2, a3, a4, a5, af⟩ := unhide HA2; simp only [Tm.bare] at a0 a1 a2 a3 a4 a5; obtain ⟨bl, b0, b1, b2, b3, b4, b5, bf⟩ := unhide HB2; simp only [Tm.bare] at b0 b1 b2 b3 b4 b5; have K2 : Hid (Kept rb w w2) := hide (((unhide K1).alloc _).trans hk2); clear hk2) | (go_at_call 118; refine (unhide T _ (unhide HP _)).mono ?_; rintro e w1 ⟨rfl, hr1, hk1⟩; have hr1 := hide hr1; have HA1 := hide ((TmAt.new w 0 125).kept hk1 n0); obtain ⟨al, a0, a1, a2, a3, a4, a5, af⟩ := unhide HA1; simp only [Tm.bare] at a0 a1 a2 a3 a4 a5; have K1 : Hid (Kept rb w w1) := hide (((Kept.refl rb w).alloc _).trans hk1); have zz1 : w.heap.size < w1.heap.size := al; have nb : ¬ w1.heap.size = rb := (by omega); have nab : ¬ w.heap.size = w1.heap.size := (by omega); have nba : ¬ w1.heap.size = w.heap.size := (by omega); have HB1 : Hid (∀ ty, TmAt (w1.alloc (.cells #[.int .i64 (1 : Nat), .int .i64 0, .int .i64 0, .int .i64 0, .string ⟨#[]⟩, .string ⟨#[]⟩] ty)) w1.heap.size (.bare 1)) := hide (fun ty => TmAt.new w1 1 ty); clear hk1))
  exact term_ends ((unhide HA2).other (by simpa using nba) _) ((unhide hr2).later (by simp; omega) _) ((unhide K2).later (by simp; omega) _) hlt (Nat.le_refl _) rfl rfl rfl rfl rfl rfl rfl rfl

set_option maxHeartbeats 1000000 in
theorem pterm_22 (rb : Nat) (s : Ps) (pl : Nat) (w : World) (h : PsAt w rb s) (hpl : pl ≤ 255) (ho : s.next.1.toNat = 22) :
    Calls Tryz.prog 73 #[.pointer (some ⟨rb, 0, none⟩), .int .i64 pl] w (TermEnds rb w (s.next.2.body pl 22)) := by
  have hlt := h.lt
  have n0 : ¬ w.heap.size = rb := by omega
  have HP : Hid (∀ o, PsAt (w.alloc o) rb s) := hide fun o => h.alloc o
  have T : Hid (∀ w, PsAt w rb s → _) := hide fun w h => pnext_any rb s w h
  rw [ho] at T
  obtain ⟨s1, hs1⟩ : ∃ s1, s.next.2 = s1 := ⟨_, rfl⟩
  rw [hs1] at T ⊢
  obtain ⟨p2, hp2⟩ : ∃ p, s1.upTo ((pl : Int) - 1) = p := ⟨_, rfl⟩
  have T2 : Hid (∀ w, PsAt w rb s1 → _) := hide fun w h => pupTo_any rb s1 ((pl : Int) - 1) w h
  rw [hp2] at T2
  obtain ⟨p3, hp3⟩ : ∃ p, p2.2.text 1 = p := ⟨_, rfl⟩
  have T3 : Hid (∀ w, PsAt w rb p2.2 → _) := hide fun w h => ptext_any rb p2.2 1 w h
  rw [hp3] at T3
  obtain ⟨p4, hp4⟩ : ∃ p, p3.2.text 200 = p := ⟨_, rfl⟩
  have T4 : Hid (∀ w, PsAt w rb p3.2 → _) := hide fun w h => ptext_any rb p3.2 200 w h
  rw [hp4] at T4
  have hb : s1.body pl 22 = (⟨22, p2.1, 0, 0, p4.1, p3.1⟩, p4.2) := by simp [Ps.body, isPair, Tm.bare, hp2, hp3, hp4]
  rw [hb]
  clear h hb ho hs1 hp2 hp3 hp4
  go_enter Tryz.func73, Tryz.ntmps73
  go_wp2_with (first | (go_at_call 121; refine (unhide T4 _ ((unhide hr3).later (by simp; omega) _)).mono ?_; rintro e w4 ⟨rfl, hr4, hk4⟩; have hr4 := hide hr4; clear al a0 a1 a2 a3 a4 a5 af bl b0 b1 b2 b3 b4 b5 bf; have HA4 := hide (((unhide HA3).other (by simpa using nba) _).kept hk4 n0); have HB4 := hide (((unhide HB3).esc' _).kept hk4 nb); obtain ⟨al, a0, a1, a2, a3, a4, a5, af⟩ := unhide HA4; simp only [Tm.bare] at a0 a1 a2 a3 a4 a5; obtain ⟨bl, b0, b1, b2, b3, b4, b5, bf⟩ := unhide HB4; simp only [Tm.bare] at b0 b1 b2 b3 b4 b5; have K4 : Hid (Kept rb w w4) := hide (((unhide K3).later (by simp; omega) _).trans hk4); clear hk4) | (go_at_call 121; refine (unhide T3 _ ((unhide hr2).later (by simp; omega) _)).mono ?_; rintro e w3 ⟨rfl, hr3, hk3⟩; have hr3 := hide hr3; clear al a0 a1 a2 a3 a4 a5 af bl b0 b1 b2 b3 b4 b5 bf; have HA3 := hide (((unhide HA2).other (by simpa using nba) _).kept hk3 n0); have HB3 := hide (((unhide HB2).left' _).kept hk3 nb); obtain ⟨al, a0, a1, a2, a3, a4, a5, af⟩ := unhide HA3; simp only [Tm.bare] at a0 a1 a2 a3 a4 a5; obtain ⟨bl, b0, b1, b2, b3, b4, b5, bf⟩ := unhide HB3; simp only [Tm.bare] at b0 b1 b2 b3 b4 b5; have K3 : Hid (Kept rb w w3) := hide (((unhide K2).later (by simp; omega) _).trans hk3); clear hk3) | (go_at_call 72; refine (unhide T2 _ ((unhide hr1).alloc _)).mono ?_; rintro e w2 ⟨rfl, hr2, hk2⟩; have hr2 := hide hr2; clear al a0 a1 a2 a3 a4 a5 af; have HA2 := hide (((unhide HA1).alloc _).kept hk2 n0); have HB2 := hide ((unhide HB1 _).kept hk2 nb); obtain ⟨al, a0, a1, a2, a3, a4, a5, af⟩ := unhide HA2; simp only [Tm.bare] at a0 a1 a2 a3 a4 a5; obtain ⟨bl, b0, b1, b2, b3, b4, b5, bf⟩ := unhide HB2; simp only [Tm.bare] at b0 b1 b2 b3 b4 b5; have K2 : Hid (Kept rb w w2) := hide (((unhide K1).alloc _).trans hk2); clear hk2) | (go_at_call 118; refine (unhide T _ (unhide HP _)).mono ?_; rintro e w1 ⟨rfl, hr1, hk1⟩; have hr1 := hide hr1; have HA1 := hide ((TmAt.new w 0 125).kept hk1 n0); obtain ⟨al, a0, a1, a2, a3, a4, a5, af⟩ := unhide HA1; simp only [Tm.bare] at a0 a1 a2 a3 a4 a5; have K1 : Hid (Kept rb w w1) := hide (((Kept.refl rb w).alloc _).trans hk1); have zz1 : w.heap.size < w1.heap.size := al; have nb : ¬ w1.heap.size = rb := (by omega); have nab : ¬ w.heap.size = w1.heap.size := (by omega); have nba : ¬ w1.heap.size = w.heap.size := (by omega); have HB1 : Hid (∀ ty, TmAt (w1.alloc (.cells #[.int .i64 (22 : Nat), .int .i64 0, .int .i64 0, .int .i64 0, .string ⟨#[]⟩, .string ⟨#[]⟩] ty)) w1.heap.size (.bare 22)) := hide (fun ty => TmAt.new w1 22 ty); clear hk1))
  exact term_ends ((unhide HA4).other (by simpa using nba) _) ((unhide hr4).later (by simp; omega) _) ((unhide K4).later (by simp; omega) _) hlt (Nat.le_refl _) rfl rfl rfl rfl rfl rfl rfl rfl

set_option maxHeartbeats 1000000 in
theorem pterm_0 (rb : Nat) (s : Ps) (pl : Nat) (w : World) (h : PsAt w rb s) (hpl : pl ≤ 255) (ho : s.next.1.toNat = 0) :
    Calls Tryz.prog 73 #[.pointer (some ⟨rb, 0, none⟩), .int .i64 pl] w (TermEnds rb w (s.next.2.body pl 0)) := by
  have hlt := h.lt
  have n0 : ¬ w.heap.size = rb := by omega
  have HP : Hid (∀ o, PsAt (w.alloc o) rb s) := hide fun o => h.alloc o
  have T : Hid (∀ w, PsAt w rb s → _) := hide fun w h => pnext_any rb s w h
  rw [ho] at T
  obtain ⟨s1, hs1⟩ : ∃ s1, s.next.2 = s1 := ⟨_, rfl⟩
  rw [hs1] at T ⊢
  obtain ⟨p2, hp2⟩ : ∃ p, s1.text 200 = p := ⟨_, rfl⟩
  have T2 : Hid (∀ w, PsAt w rb s1 → _) := hide fun w h => ptext_any rb s1 200 w h
  rw [hp2] at T2
  have hb : s1.body pl 0 = (⟨0, 0, 0, 0, p2.1, []⟩, p2.2) := by simp [Ps.body, isPair, Tm.bare, hp2]
  rw [hb]
  clear h hb ho hs1 hp2
  go_enter Tryz.func73, Tryz.ntmps73
  go_wp2_with (first | (go_at_call 121; refine (unhide T2 _ ((unhide hr1).alloc _)).mono ?_; rintro e w2 ⟨rfl, hr2, hk2⟩; have hr2 := hide hr2; clear al a0 a1 a2 a3 a4 a5 af; have HA2 := hide (((unhide HA1).alloc _).kept hk2 n0); have HB2 := hide ((unhide HB1 _).kept hk2 nb); obtain ⟨al, a0, a1, a2, a3, a4, a5, af⟩ := unhide HA2; simp only [Tm.bare] at a0 a1 a2 a3 a4 a5; obtain ⟨bl, b0, b1, b2, b3, b4, b5, bf⟩ := unhide HB2; simp only [Tm.bare] at b0 b1 b2 b3 b4 b5; have K2 : Hid (Kept rb w w2) := hide (((unhide K1).alloc _).trans hk2); clear hk2) | (go_at_call 118; refine (unhide T _ (unhide HP _)).mono ?_; rintro e w1 ⟨rfl, hr1, hk1⟩; have hr1 := hide hr1; have HA1 := hide ((TmAt.new w 0 125).kept hk1 n0); obtain ⟨al, a0, a1, a2, a3, a4, a5, af⟩ := unhide HA1; simp only [Tm.bare] at a0 a1 a2 a3 a4 a5; have K1 : Hid (Kept rb w w1) := hide (((Kept.refl rb w).alloc _).trans hk1); have zz1 : w.heap.size < w1.heap.size := al; have nb : ¬ w1.heap.size = rb := (by omega); have nab : ¬ w.heap.size = w1.heap.size := (by omega); have nba : ¬ w1.heap.size = w.heap.size := (by omega); have HB1 : Hid (∀ ty, TmAt (w1.alloc (.cells #[.int .i64 (0 : Nat), .int .i64 0, .int .i64 0, .int .i64 0, .string ⟨#[]⟩, .string ⟨#[]⟩] ty)) w1.heap.size (.bare 0)) := hide (fun ty => TmAt.new w1 0 ty); clear hk1))
  exact term_ends ((unhide HA2).other (by simpa using nba) _) ((unhide hr2).later (by simp; omega) _) ((unhide K2).later (by simp; omega) _) hlt (Nat.le_refl _) rfl rfl rfl rfl rfl rfl rfl rfl

set_option maxHeartbeats 1000000 in
theorem pterm_2 (rb : Nat) (s : Ps) (pl : Nat) (w : World) (h : PsAt w rb s) (hpl : pl ≤ 255) (ho : s.next.1.toNat = 2) :
    Calls Tryz.prog 73 #[.pointer (some ⟨rb, 0, none⟩), .int .i64 pl] w (TermEnds rb w (s.next.2.body pl 2)) := by
  have hlt := h.lt
  have n0 : ¬ w.heap.size = rb := by omega
  have HP : Hid (∀ o, PsAt (w.alloc o) rb s) := hide fun o => h.alloc o
  have T : Hid (∀ w, PsAt w rb s → _) := hide fun w h => pnext_any rb s w h
  rw [ho] at T
  obtain ⟨s1, hs1⟩ : ∃ s1, s.next.2 = s1 := ⟨_, rfl⟩
  rw [hs1] at T ⊢
  obtain ⟨p2, hp2⟩ : ∃ p, s1.text 200 = p := ⟨_, rfl⟩
  have T2 : Hid (∀ w, PsAt w rb s1 → _) := hide fun w h => ptext_any rb s1 200 w h
  rw [hp2] at T2
  have hb : s1.body pl 2 = (⟨2, 0, 0, 0, p2.1, []⟩, p2.2) := by simp [Ps.body, isPair, Tm.bare, hp2]
  rw [hb]
  clear h hb ho hs1 hp2
  go_enter Tryz.func73, Tryz.ntmps73
  go_wp2_with (first | (go_at_call 121; refine (unhide T2 _ ((unhide hr1).alloc _)).mono ?_; rintro e w2 ⟨rfl, hr2, hk2⟩; have hr2 := hide hr2; clear al a0 a1 a2 a3 a4 a5 af; have HA2 := hide (((unhide HA1).alloc _).kept hk2 n0); have HB2 := hide ((unhide HB1 _).kept hk2 nb); obtain ⟨al, a0, a1, a2, a3, a4, a5, af⟩ := unhide HA2; simp only [Tm.bare] at a0 a1 a2 a3 a4 a5; obtain ⟨bl, b0, b1, b2, b3, b4, b5, bf⟩ := unhide HB2; simp only [Tm.bare] at b0 b1 b2 b3 b4 b5; have K2 : Hid (Kept rb w w2) := hide (((unhide K1).alloc _).trans hk2); clear hk2) | (go_at_call 118; refine (unhide T _ (unhide HP _)).mono ?_; rintro e w1 ⟨rfl, hr1, hk1⟩; have hr1 := hide hr1; have HA1 := hide ((TmAt.new w 0 125).kept hk1 n0); obtain ⟨al, a0, a1, a2, a3, a4, a5, af⟩ := unhide HA1; simp only [Tm.bare] at a0 a1 a2 a3 a4 a5; have K1 : Hid (Kept rb w w1) := hide (((Kept.refl rb w).alloc _).trans hk1); have zz1 : w.heap.size < w1.heap.size := al; have nb : ¬ w1.heap.size = rb := (by omega); have nab : ¬ w.heap.size = w1.heap.size := (by omega); have nba : ¬ w1.heap.size = w.heap.size := (by omega); have HB1 : Hid (∀ ty, TmAt (w1.alloc (.cells #[.int .i64 (2 : Nat), .int .i64 0, .int .i64 0, .int .i64 0, .string ⟨#[]⟩, .string ⟨#[]⟩] ty)) w1.heap.size (.bare 2)) := hide (fun ty => TmAt.new w1 2 ty); clear hk1))
  exact term_ends ((unhide HA2).other (by simpa using nba) _) ((unhide hr2).later (by simp; omega) _) ((unhide K2).later (by simp; omega) _) hlt (Nat.le_refl _) rfl rfl rfl rfl rfl rfl rfl rfl

set_option maxHeartbeats 1000000 in
theorem pterm_6 (rb : Nat) (s : Ps) (pl : Nat) (w : World) (h : PsAt w rb s) (hpl : pl ≤ 255) (ho : s.next.1.toNat = 6) :
    Calls Tryz.prog 73 #[.pointer (some ⟨rb, 0, none⟩), .int .i64 pl] w (TermEnds rb w (s.next.2.body pl 6)) := by
  have hlt := h.lt
  have n0 : ¬ w.heap.size = rb := by omega
  have HP : Hid (∀ o, PsAt (w.alloc o) rb s) := hide fun o => h.alloc o
  have T : Hid (∀ w, PsAt w rb s → _) := hide fun w h => pnext_any rb s w h
  rw [ho] at T
  obtain ⟨s1, hs1⟩ : ∃ s1, s.next.2 = s1 := ⟨_, rfl⟩
  rw [hs1] at T ⊢
  obtain ⟨p2, hp2⟩ : ∃ p, s1.upTo ((pl : Int) - 1) = p := ⟨_, rfl⟩
  have T2 : Hid (∀ w, PsAt w rb s1 → _) := hide fun w h => pupTo_any rb s1 ((pl : Int) - 1) w h
  rw [hp2] at T2
  obtain ⟨p3, hp3⟩ : ∃ p, p2.2.upTo ((pl : Int) - 1) = p := ⟨_, rfl⟩
  have T3 : Hid (∀ w, PsAt w rb p2.2 → _) := hide fun w h => pupTo_any rb p2.2 ((pl : Int) - 1) w h
  rw [hp3] at T3
  have hb : s1.body pl 6 = (⟨6, p3.1, p2.1, 0, [], []⟩, p3.2) := by simp [Ps.body, isPair, Tm.bare, hp2, hp3]
  rw [hb]
  clear h hb ho hs1 hp2 hp3
  go_enter Tryz.func73, Tryz.ntmps73
  go_wp2_with (first | (go_at_call 72; refine (unhide T3 _ ((unhide hr2).later (by simp; omega) _)).mono ?_; rintro e w3 ⟨rfl, hr3, hk3⟩; have hr3 := hide hr3; clear al a0 a1 a2 a3 a4 a5 af bl b0 b1 b2 b3 b4 b5 bf; have HA3 := hide (((unhide HA2).other (by simpa using nba) _).kept hk3 n0); have HB3 := hide (((unhide HB2).right' _).kept hk3 nb); obtain ⟨al, a0, a1, a2, a3, a4, a5, af⟩ := unhide HA3; simp only [Tm.bare] at a0 a1 a2 a3 a4 a5; obtain ⟨bl, b0, b1, b2, b3, b4, b5, bf⟩ := unhide HB3; simp only [Tm.bare] at b0 b1 b2 b3 b4 b5; have K3 : Hid (Kept rb w w3) := hide (((unhide K2).later (by simp; omega) _).trans hk3); clear hk3) | (go_at_call 72; refine (unhide T2 _ ((unhide hr1).alloc _)).mono ?_; rintro e w2 ⟨rfl, hr2, hk2⟩; have hr2 := hide hr2; clear al a0 a1 a2 a3 a4 a5 af; have HA2 := hide (((unhide HA1).alloc _).kept hk2 n0); have HB2 := hide ((unhide HB1 _).kept hk2 nb); obtain ⟨al, a0, a1, a2, a3, a4, a5, af⟩ := unhide HA2; simp only [Tm.bare] at a0 a1 a2 a3 a4 a5; obtain ⟨bl, b0, b1, b2, b3, b4, b5, bf⟩ := unhide HB2; simp only [Tm.bare] at b0 b1 b2 b3 b4 b5; have K2 : Hid (Kept rb w w2) := hide (((unhide K1).alloc _).trans hk2); clear hk2) | (go_at_call 118; refine (unhide T _ (unhide HP _)).mono ?_; rintro e w1 ⟨rfl, hr1, hk1⟩; have hr1 := hide hr1; have HA1 := hide ((TmAt.new w 0 125).kept hk1 n0); obtain ⟨al, a0, a1, a2, a3, a4, a5, af⟩ := unhide HA1; simp only [Tm.bare] at a0 a1 a2 a3 a4 a5; have K1 : Hid (Kept rb w w1) := hide (((Kept.refl rb w).alloc _).trans hk1); have zz1 : w.heap.size < w1.heap.size := al; have nb : ¬ w1.heap.size = rb := (by omega); have nab : ¬ w.heap.size = w1.heap.size := (by omega); have nba : ¬ w1.heap.size = w.heap.size := (by omega); have HB1 : Hid (∀ ty, TmAt (w1.alloc (.cells #[.int .i64 (6 : Nat), .int .i64 0, .int .i64 0, .int .i64 0, .string ⟨#[]⟩, .string ⟨#[]⟩] ty)) w1.heap.size (.bare 6)) := hide (fun ty => TmAt.new w1 6 ty); clear hk1))
  exact term_ends ((unhide HA3).other (by simpa using nba) _) ((unhide hr3).later (by simp; omega) _) ((unhide K3).later (by simp; omega) _) hlt (Nat.le_refl _) rfl rfl rfl rfl rfl rfl rfl rfl

set_option maxHeartbeats 1000000 in
theorem pterm_7 (rb : Nat) (s : Ps) (pl : Nat) (w : World) (h : PsAt w rb s) (hpl : pl ≤ 255) (ho : s.next.1.toNat = 7) :
    Calls Tryz.prog 73 #[.pointer (some ⟨rb, 0, none⟩), .int .i64 pl] w (TermEnds rb w (s.next.2.body pl 7)) := by
  have hlt := h.lt
  have n0 : ¬ w.heap.size = rb := by omega
  have HP : Hid (∀ o, PsAt (w.alloc o) rb s) := hide fun o => h.alloc o
  have T : Hid (∀ w, PsAt w rb s → _) := hide fun w h => pnext_any rb s w h
  rw [ho] at T
  obtain ⟨s1, hs1⟩ : ∃ s1, s.next.2 = s1 := ⟨_, rfl⟩
  rw [hs1] at T ⊢
  obtain ⟨p2, hp2⟩ : ∃ p, s1.upTo ((pl : Int) - 1) = p := ⟨_, rfl⟩
  have T2 : Hid (∀ w, PsAt w rb s1 → _) := hide fun w h => pupTo_any rb s1 ((pl : Int) - 1) w h
  rw [hp2] at T2
  obtain ⟨p3, hp3⟩ : ∃ p, p2.2.upTo ((pl : Int) - 1) = p := ⟨_, rfl⟩
  have T3 : Hid (∀ w, PsAt w rb p2.2 → _) := hide fun w h => pupTo_any rb p2.2 ((pl : Int) - 1) w h
  rw [hp3] at T3
  have hb : s1.body pl 7 = (⟨7, p3.1, p2.1, 0, [], []⟩, p3.2) := by simp [Ps.body, isPair, Tm.bare, hp2, hp3]
  rw [hb]
  clear h hb ho hs1 hp2 hp3
  go_enter Tryz.func73, Tryz.ntmps73
  go_wp2_with (first | (go_at_call 72; refine (unhide T3 _ ((unhide hr2).later (by simp; omega) _)).mono ?_; rintro e w3 ⟨rfl, hr3, hk3⟩; have hr3 := hide hr3; clear al a0 a1 a2 a3 a4 a5 af bl b0 b1 b2 b3 b4 b5 bf; have HA3 := hide (((unhide HA2).other (by simpa using nba) _).kept hk3 n0); have HB3 := hide (((unhide HB2).right' _).kept hk3 nb); obtain ⟨al, a0, a1, a2, a3, a4, a5, af⟩ := unhide HA3; simp only [Tm.bare] at a0 a1 a2 a3 a4 a5; obtain ⟨bl, b0, b1, b2, b3, b4, b5, bf⟩ := unhide HB3; simp only [Tm.bare] at b0 b1 b2 b3 b4 b5; have K3 : Hid (Kept rb w w3) := hide (((unhide K2).later (by simp; omega) _).trans hk3); clear hk3) | (go_at_call 72; refine (unhide T2 _ ((unhide hr1).alloc _)).mono ?_; rintro e w2 ⟨rfl, hr2, hk2⟩; have hr2 := hide hr2; clear al a0 a1 a2 a3 a4 a5 af; have HA2 := hide (((unhide HA1).alloc _).kept hk2 n0); have HB2 := hide ((unhide HB1 _).kept hk2 nb); obtain ⟨al, a0, a1, a2, a3, a4, a5, af⟩ := unhide HA2; simp only [Tm.bare] at a0 a1 a2 a3 a4 a5; obtain ⟨bl, b0, b1, b2, b3, b4, b5, bf⟩ := unhide HB2; simp only [Tm.bare] at b0 b1 b2 b3 b4 b5; have K2 : Hid (Kept rb w w2) := hide (((unhide K1).alloc _).trans hk2); clear hk2) | (go_at_call 118; refine (unhide T _ (unhide HP _)).mono ?_; rintro e w1 ⟨rfl, hr1, hk1⟩; have hr1 := hide hr1; have HA1 := hide ((TmAt.new w 0 125).kept hk1 n0); obtain ⟨al, a0, a1, a2, a3, a4, a5, af⟩ := unhide HA1; simp only [Tm.bare] at a0 a1 a2 a3 a4 a5; have K1 : Hid (Kept rb w w1) := hide (((Kept.refl rb w).alloc _).trans hk1); have zz1 : w.heap.size < w1.heap.size := al; have nb : ¬ w1.heap.size = rb := (by omega); have nab : ¬ w.heap.size = w1.heap.size := (by omega); have nba : ¬ w1.heap.size = w.heap.size := (by omega); have HB1 : Hid (∀ ty, TmAt (w1.alloc (.cells #[.int .i64 (7 : Nat), .int .i64 0, .int .i64 0, .int .i64 0, .string ⟨#[]⟩, .string ⟨#[]⟩] ty)) w1.heap.size (.bare 7)) := hide (fun ty => TmAt.new w1 7 ty); clear hk1))
  exact term_ends ((unhide HA3).other (by simpa using nba) _) ((unhide hr3).later (by simp; omega) _) ((unhide K3).later (by simp; omega) _) hlt (Nat.le_refl _) rfl rfl rfl rfl rfl rfl rfl rfl

set_option maxHeartbeats 1000000 in
theorem pterm_8 (rb : Nat) (s : Ps) (pl : Nat) (w : World) (h : PsAt w rb s) (hpl : pl ≤ 255) (ho : s.next.1.toNat = 8) :
    Calls Tryz.prog 73 #[.pointer (some ⟨rb, 0, none⟩), .int .i64 pl] w (TermEnds rb w (s.next.2.body pl 8)) := by
  have hlt := h.lt
  have n0 : ¬ w.heap.size = rb := by omega
  have HP : Hid (∀ o, PsAt (w.alloc o) rb s) := hide fun o => h.alloc o
  have T : Hid (∀ w, PsAt w rb s → _) := hide fun w h => pnext_any rb s w h
  rw [ho] at T
  obtain ⟨s1, hs1⟩ : ∃ s1, s.next.2 = s1 := ⟨_, rfl⟩
  rw [hs1] at T ⊢
  obtain ⟨p2, hp2⟩ : ∃ p, s1.upTo ((pl : Int) - 1) = p := ⟨_, rfl⟩
  have T2 : Hid (∀ w, PsAt w rb s1 → _) := hide fun w h => pupTo_any rb s1 ((pl : Int) - 1) w h
  rw [hp2] at T2
  obtain ⟨p3, hp3⟩ : ∃ p, p2.2.upTo ((pl : Int) - 1) = p := ⟨_, rfl⟩
  have T3 : Hid (∀ w, PsAt w rb p2.2 → _) := hide fun w h => pupTo_any rb p2.2 ((pl : Int) - 1) w h
  rw [hp3] at T3
  have hb : s1.body pl 8 = (⟨8, p3.1, p2.1, 0, [], []⟩, p3.2) := by simp [Ps.body, isPair, Tm.bare, hp2, hp3]
  rw [hb]
  clear h hb ho hs1 hp2 hp3
  go_enter Tryz.func73, Tryz.ntmps73
  go_wp2_with (first | (go_at_call 72; refine (unhide T3 _ ((unhide hr2).later (by simp; omega) _)).mono ?_; rintro e w3 ⟨rfl, hr3, hk3⟩; have hr3 := hide hr3; clear al a0 a1 a2 a3 a4 a5 af bl b0 b1 b2 b3 b4 b5 bf; have HA3 := hide (((unhide HA2).other (by simpa using nba) _).kept hk3 n0); have HB3 := hide (((unhide HB2).right' _).kept hk3 nb); obtain ⟨al, a0, a1, a2, a3, a4, a5, af⟩ := unhide HA3; simp only [Tm.bare] at a0 a1 a2 a3 a4 a5; obtain ⟨bl, b0, b1, b2, b3, b4, b5, bf⟩ := unhide HB3; simp only [Tm.bare] at b0 b1 b2 b3 b4 b5; have K3 : Hid (Kept rb w w3) := hide (((unhide K2).later (by simp; omega) _).trans hk3); clear hk3) | (go_at_call 72; refine (unhide T2 _ ((unhide hr1).alloc _)).mono ?_; rintro e w2 ⟨rfl, hr2, hk2⟩; have hr2 := hide hr2; clear al a0 a1 a2 a3 a4 a5 af; have HA2 := hide (((unhide HA1).alloc _).kept hk2 n0); have HB2 := hide ((unhide HB1 _).kept hk2 nb); obtain ⟨al, a0, a1, a2, a3, a4, a5, af⟩ := unhide HA2; simp only [Tm.bare] at a0 a1 a2 a3 a4 a5; obtain ⟨bl, b0, b1, b2, b3, b4, b5, bf⟩ := unhide HB2; simp only [Tm.bare] at b0 b1 b2 b3 b4 b5; have K2 : Hid (Kept rb w w2) := hide (((unhide K1).alloc _).trans hk2); clear hk2) | (go_at_call 118; refine (unhide T _ (unhide HP _)).mono ?_; rintro e w1 ⟨rfl, hr1, hk1⟩; have hr1 := hide hr1; have HA1 := hide ((TmAt.new w 0 125).kept hk1 n0); obtain ⟨al, a0, a1, a2, a3, a4, a5, af⟩ := unhide HA1; simp only [Tm.bare] at a0 a1 a2 a3 a4 a5; have K1 : Hid (Kept rb w w1) := hide (((Kept.refl rb w).alloc _).trans hk1); have zz1 : w.heap.size < w1.heap.size := al; have nb : ¬ w1.heap.size = rb := (by omega); have nab : ¬ w.heap.size = w1.heap.size := (by omega); have nba : ¬ w1.heap.size = w.heap.size := (by omega); have HB1 : Hid (∀ ty, TmAt (w1.alloc (.cells #[.int .i64 (8 : Nat), .int .i64 0, .int .i64 0, .int .i64 0, .string ⟨#[]⟩, .string ⟨#[]⟩] ty)) w1.heap.size (.bare 8)) := hide (fun ty => TmAt.new w1 8 ty); clear hk1))
  exact term_ends ((unhide HA3).other (by simpa using nba) _) ((unhide hr3).later (by simp; omega) _) ((unhide K3).later (by simp; omega) _) hlt (Nat.le_refl _) rfl rfl rfl rfl rfl rfl rfl rfl

set_option maxHeartbeats 1000000 in
theorem pterm_10 (rb : Nat) (s : Ps) (pl : Nat) (w : World) (h : PsAt w rb s) (hpl : pl ≤ 255) (ho : s.next.1.toNat = 10) :
    Calls Tryz.prog 73 #[.pointer (some ⟨rb, 0, none⟩), .int .i64 pl] w (TermEnds rb w (s.next.2.body pl 10)) := by
  have hlt := h.lt
  have n0 : ¬ w.heap.size = rb := by omega
  have HP : Hid (∀ o, PsAt (w.alloc o) rb s) := hide fun o => h.alloc o
  have T : Hid (∀ w, PsAt w rb s → _) := hide fun w h => pnext_any rb s w h
  rw [ho] at T
  obtain ⟨s1, hs1⟩ : ∃ s1, s.next.2 = s1 := ⟨_, rfl⟩
  rw [hs1] at T ⊢
  obtain ⟨p2, hp2⟩ : ∃ p, s1.upTo ((pl : Int) - 1) = p := ⟨_, rfl⟩
  have T2 : Hid (∀ w, PsAt w rb s1 → _) := hide fun w h => pupTo_any rb s1 ((pl : Int) - 1) w h
  rw [hp2] at T2
  obtain ⟨p3, hp3⟩ : ∃ p, p2.2.upTo ((pl : Int) - 1) = p := ⟨_, rfl⟩
  have T3 : Hid (∀ w, PsAt w rb p2.2 → _) := hide fun w h => pupTo_any rb p2.2 ((pl : Int) - 1) w h
  rw [hp3] at T3
  have hb : s1.body pl 10 = (⟨10, p3.1, p2.1, 0, [], []⟩, p3.2) := by simp [Ps.body, isPair, Tm.bare, hp2, hp3]
  rw [hb]
  clear h hb ho hs1 hp2 hp3
  go_enter Tryz.func73, Tryz.ntmps73
  go_wp2_with (first | (go_at_call 72; refine (unhide T3 _ ((unhide hr2).later (by simp; omega) _)).mono ?_; rintro e w3 ⟨rfl, hr3, hk3⟩; have hr3 := hide hr3; clear al a0 a1 a2 a3 a4 a5 af bl b0 b1 b2 b3 b4 b5 bf; have HA3 := hide (((unhide HA2).other (by simpa using nba) _).kept hk3 n0); have HB3 := hide (((unhide HB2).right' _).kept hk3 nb); obtain ⟨al, a0, a1, a2, a3, a4, a5, af⟩ := unhide HA3; simp only [Tm.bare] at a0 a1 a2 a3 a4 a5; obtain ⟨bl, b0, b1, b2, b3, b4, b5, bf⟩ := unhide HB3; simp only [Tm.bare] at b0 b1 b2 b3 b4 b5; have K3 : Hid (Kept rb w w3) := hide (((unhide K2).later (by simp; omega) _).trans hk3); clear hk3) | (go_at_call 72; refine (unhide T2 _ ((unhide hr1).alloc _)).mono ?_; rintro e w2 ⟨rfl, hr2, hk2⟩; have hr2 := hide hr2; clear al a0 a1 a2 a3 a4 a5 af; have HA2 := hide (((unhide HA1).alloc _).kept hk2 n0); have HB2 := hide ((unhide HB1 _).kept hk2 nb); obtain ⟨al, a0, a1, a2, a3, a4, a5, af⟩ := unhide HA2; simp only [Tm.bare] at a0 a1 a2 a3 a4 a5; obtain ⟨bl, b0, b1, b2, b3, b4, b5, bf⟩ := unhide HB2; simp only [Tm.bare] at b0 b1 b2 b3 b4 b5; have K2 : Hid (Kept rb w w2) := hide (((unhide K1).alloc _).trans hk2); clear hk2) | (go_at_call 118; refine (unhide T _ (unhide HP _)).mono ?_; rintro e w1 ⟨rfl, hr1, hk1⟩; have hr1 := hide hr1; have HA1 := hide ((TmAt.new w 0 125).kept hk1 n0); obtain ⟨al, a0, a1, a2, a3, a4, a5, af⟩ := unhide HA1; simp only [Tm.bare] at a0 a1 a2 a3 a4 a5; have K1 : Hid (Kept rb w w1) := hide (((Kept.refl rb w).alloc _).trans hk1); have zz1 : w.heap.size < w1.heap.size := al; have nb : ¬ w1.heap.size = rb := (by omega); have nab : ¬ w.heap.size = w1.heap.size := (by omega); have nba : ¬ w1.heap.size = w.heap.size := (by omega); have HB1 : Hid (∀ ty, TmAt (w1.alloc (.cells #[.int .i64 (10 : Nat), .int .i64 0, .int .i64 0, .int .i64 0, .string ⟨#[]⟩, .string ⟨#[]⟩] ty)) w1.heap.size (.bare 10)) := hide (fun ty => TmAt.new w1 10 ty); clear hk1))
  exact term_ends ((unhide HA3).other (by simpa using nba) _) ((unhide hr3).later (by simp; omega) _) ((unhide K3).later (by simp; omega) _) hlt (Nat.le_refl _) rfl rfl rfl rfl rfl rfl rfl rfl

set_option maxHeartbeats 1000000 in
theorem pterm_11 (rb : Nat) (s : Ps) (pl : Nat) (w : World) (h : PsAt w rb s) (hpl : pl ≤ 255) (ho : s.next.1.toNat = 11) :
    Calls Tryz.prog 73 #[.pointer (some ⟨rb, 0, none⟩), .int .i64 pl] w (TermEnds rb w (s.next.2.body pl 11)) := by
  have hlt := h.lt
  have n0 : ¬ w.heap.size = rb := by omega
  have HP : Hid (∀ o, PsAt (w.alloc o) rb s) := hide fun o => h.alloc o
  have T : Hid (∀ w, PsAt w rb s → _) := hide fun w h => pnext_any rb s w h
  rw [ho] at T
  obtain ⟨s1, hs1⟩ : ∃ s1, s.next.2 = s1 := ⟨_, rfl⟩
  rw [hs1] at T ⊢
  obtain ⟨p2, hp2⟩ : ∃ p, s1.upTo ((pl : Int) - 1) = p := ⟨_, rfl⟩
  have T2 : Hid (∀ w, PsAt w rb s1 → _) := hide fun w h => pupTo_any rb s1 ((pl : Int) - 1) w h
  rw [hp2] at T2
  obtain ⟨p3, hp3⟩ : ∃ p, p2.2.upTo ((pl : Int) - 1) = p := ⟨_, rfl⟩
  have T3 : Hid (∀ w, PsAt w rb p2.2 → _) := hide fun w h => pupTo_any rb p2.2 ((pl : Int) - 1) w h
  rw [hp3] at T3
  have hb : s1.body pl 11 = (⟨11, p3.1, p2.1, 0, [], []⟩, p3.2) := by simp [Ps.body, isPair, Tm.bare, hp2, hp3]
  rw [hb]
  clear h hb ho hs1 hp2 hp3
  go_enter Tryz.func73, Tryz.ntmps73
  go_wp2_with (first | (go_at_call 72; refine (unhide T3 _ ((unhide hr2).later (by simp; omega) _)).mono ?_; rintro e w3 ⟨rfl, hr3, hk3⟩; have hr3 := hide hr3; clear al a0 a1 a2 a3 a4 a5 af bl b0 b1 b2 b3 b4 b5 bf; have HA3 := hide (((unhide HA2).other (by simpa using nba) _).kept hk3 n0); have HB3 := hide (((unhide HB2).right' _).kept hk3 nb); obtain ⟨al, a0, a1, a2, a3, a4, a5, af⟩ := unhide HA3; simp only [Tm.bare] at a0 a1 a2 a3 a4 a5; obtain ⟨bl, b0, b1, b2, b3, b4, b5, bf⟩ := unhide HB3; simp only [Tm.bare] at b0 b1 b2 b3 b4 b5; have K3 : Hid (Kept rb w w3) := hide (((unhide K2).later (by simp; omega) _).trans hk3); clear hk3) | (go_at_call 72; refine (unhide T2 _ ((unhide hr1).alloc _)).mono ?_; rintro e w2 ⟨rfl, hr2, hk2⟩; have hr2 := hide hr2; clear al a0 a1 a2 a3 a4 a5 af; have HA2 := hide (((unhide HA1).alloc _).kept hk2 n0); have HB2 := hide ((unhide HB1 _).kept hk2 nb); obtain ⟨al, a0, a1, a2, a3, a4, a5, af⟩ := unhide HA2; simp only [Tm.bare] at a0 a1 a2 a3 a4 a5; obtain ⟨bl, b0, b1, b2, b3, b4, b5, bf⟩ := unhide HB2; simp only [Tm.bare] at b0 b1 b2 b3 b4 b5; have K2 : Hid (Kept rb w w2) := hide (((unhide K1).alloc _).trans hk2); clear hk2) | (go_at_call 118; refine (unhide T _ (unhide HP _)).mono ?_; rintro e w1 ⟨rfl, hr1, hk1⟩; have hr1 := hide hr1; have HA1 := hide ((TmAt.new w 0 125).kept hk1 n0); obtain ⟨al, a0, a1, a2, a3, a4, a5, af⟩ := unhide HA1; simp only [Tm.bare] at a0 a1 a2 a3 a4 a5; have K1 : Hid (Kept rb w w1) := hide (((Kept.refl rb w).alloc _).trans hk1); have zz1 : w.heap.size < w1.heap.size := al; have nb : ¬ w1.heap.size = rb := (by omega); have nab : ¬ w.heap.size = w1.heap.size := (by omega); have nba : ¬ w1.heap.size = w.heap.size := (by omega); have HB1 : Hid (∀ ty, TmAt (w1.alloc (.cells #[.int .i64 (11 : Nat), .int .i64 0, .int .i64 0, .int .i64 0, .string ⟨#[]⟩, .string ⟨#[]⟩] ty)) w1.heap.size (.bare 11)) := hide (fun ty => TmAt.new w1 11 ty); clear hk1))
  exact term_ends ((unhide HA3).other (by simpa using nba) _) ((unhide hr3).later (by simp; omega) _) ((unhide K3).later (by simp; omega) _) hlt (Nat.le_refl _) rfl rfl rfl rfl rfl rfl rfl rfl

set_option maxHeartbeats 1000000 in
theorem pterm_16 (rb : Nat) (s : Ps) (pl : Nat) (w : World) (h : PsAt w rb s) (hpl : pl ≤ 255) (ho : s.next.1.toNat = 16) :
    Calls Tryz.prog 73 #[.pointer (some ⟨rb, 0, none⟩), .int .i64 pl] w (TermEnds rb w (s.next.2.body pl 16)) := by
  have hlt := h.lt
  have n0 : ¬ w.heap.size = rb := by omega
  have HP : Hid (∀ o, PsAt (w.alloc o) rb s) := hide fun o => h.alloc o
  have T : Hid (∀ w, PsAt w rb s → _) := hide fun w h => pnext_any rb s w h
  rw [ho] at T
  obtain ⟨s1, hs1⟩ : ∃ s1, s.next.2 = s1 := ⟨_, rfl⟩
  rw [hs1] at T ⊢
  obtain ⟨p2, hp2⟩ : ∃ p, s1.upTo ((pl : Int) - 1) = p := ⟨_, rfl⟩
  have T2 : Hid (∀ w, PsAt w rb s1 → _) := hide fun w h => pupTo_any rb s1 ((pl : Int) - 1) w h
  rw [hp2] at T2
  obtain ⟨p3, hp3⟩ : ∃ p, p2.2.upTo ((pl : Int) - 1) = p := ⟨_, rfl⟩
  have T3 : Hid (∀ w, PsAt w rb p2.2 → _) := hide fun w h => pupTo_any rb p2.2 ((pl : Int) - 1) w h
  rw [hp3] at T3
  have hb : s1.body pl 16 = (⟨16, p3.1, p2.1, 0, [], []⟩, p3.2) := by simp [Ps.body, isPair, Tm.bare, hp2, hp3]
  rw [hb]
  clear h hb ho hs1 hp2 hp3
  go_enter Tryz.func73, Tryz.ntmps73
  go_wp2_with (first | (go_at_call 72; refine (unhide T3 _ ((unhide hr2).later (by simp; omega) _)).mono ?_; rintro e w3 ⟨rfl, hr3, hk3⟩; have hr3 := hide hr3; clear al a0 a1 a2 a3 a4 a5 af bl b0 b1 b2 b3 b4 b5 bf; have HA3 := hide (((unhide HA2).other (by simpa using nba) _).kept hk3 n0); have HB3 := hide (((unhide HB2).right' _).kept hk3 nb); obtain ⟨al, a0, a1, a2, a3, a4, a5, af⟩ := unhide HA3; simp only [Tm.bare] at a0 a1 a2 a3 a4 a5; obtain ⟨bl, b0, b1, b2, b3, b4, b5, bf⟩ := unhide HB3; simp only [Tm.bare] at b0 b1 b2 b3 b4 b5; have K3 : Hid (Kept rb w w3) := hide (((unhide K2).later (by simp; omega) _).trans hk3); clear hk3) | (go_at_call 72; refine (unhide T2 _ ((unhide hr1).alloc _)).mono ?_; rintro e w2 ⟨rfl, hr2, hk2⟩; have hr2 := hide hr2; clear al a0 a1 a2 a3 a4 a5 af; have HA2 := hide (((unhide HA1).alloc _).kept hk2 n0); have HB2 := hide ((unhide HB1 _).kept hk2 nb); obtain ⟨al, a0, a1, a2, a3, a4, a5, af⟩ := unhide HA2; simp only [Tm.bare] at a0 a1 a2 a3 a4 a5; obtain ⟨bl, b0, b1, b2, b3, b4, b5, bf⟩ := unhide HB2; simp only [Tm.bare] at b0 b1 b2 b3 b4 b5; have K2 : Hid (Kept rb w w2) := hide (((unhide K1).alloc _).trans hk2); clear hk2) | (go_at_call 118; refine (unhide T _ (unhide HP _)).mono ?_; rintro e w1 ⟨rfl, hr1, hk1⟩; have hr1 := hide hr1; have HA1 := hide ((TmAt.new w 0 125).kept hk1 n0); obtain ⟨al, a0, a1, a2, a3, a4, a5, af⟩ := unhide HA1; simp only [Tm.bare] at a0 a1 a2 a3 a4 a5; have K1 : Hid (Kept rb w w1) := hide (((Kept.refl rb w).alloc _).trans hk1); have zz1 : w.heap.size < w1.heap.size := al; have nb : ¬ w1.heap.size = rb := (by omega); have nab : ¬ w.heap.size = w1.heap.size := (by omega); have nba : ¬ w1.heap.size = w.heap.size := (by omega); have HB1 : Hid (∀ ty, TmAt (w1.alloc (.cells #[.int .i64 (16 : Nat), .int .i64 0, .int .i64 0, .int .i64 0, .string ⟨#[]⟩, .string ⟨#[]⟩] ty)) w1.heap.size (.bare 16)) := hide (fun ty => TmAt.new w1 16 ty); clear hk1))
  exact term_ends ((unhide HA3).other (by simpa using nba) _) ((unhide hr3).later (by simp; omega) _) ((unhide K3).later (by simp; omega) _) hlt (Nat.le_refl _) rfl rfl rfl rfl rfl rfl rfl rfl

set_option maxHeartbeats 1000000 in
theorem pterm_17 (rb : Nat) (s : Ps) (pl : Nat) (w : World) (h : PsAt w rb s) (hpl : pl ≤ 255) (ho : s.next.1.toNat = 17) :
    Calls Tryz.prog 73 #[.pointer (some ⟨rb, 0, none⟩), .int .i64 pl] w (TermEnds rb w (s.next.2.body pl 17)) := by
  have hlt := h.lt
  have n0 : ¬ w.heap.size = rb := by omega
  have HP : Hid (∀ o, PsAt (w.alloc o) rb s) := hide fun o => h.alloc o
  have T : Hid (∀ w, PsAt w rb s → _) := hide fun w h => pnext_any rb s w h
  rw [ho] at T
  obtain ⟨s1, hs1⟩ : ∃ s1, s.next.2 = s1 := ⟨_, rfl⟩
  rw [hs1] at T ⊢
  obtain ⟨p2, hp2⟩ : ∃ p, s1.upTo ((pl : Int) - 1) = p := ⟨_, rfl⟩
  have T2 : Hid (∀ w, PsAt w rb s1 → _) := hide fun w h => pupTo_any rb s1 ((pl : Int) - 1) w h
  rw [hp2] at T2
  obtain ⟨p3, hp3⟩ : ∃ p, p2.2.upTo ((pl : Int) - 1) = p := ⟨_, rfl⟩
  have T3 : Hid (∀ w, PsAt w rb p2.2 → _) := hide fun w h => pupTo_any rb p2.2 ((pl : Int) - 1) w h
  rw [hp3] at T3
  have hb : s1.body pl 17 = (⟨17, p3.1, p2.1, 0, [], []⟩, p3.2) := by simp [Ps.body, isPair, Tm.bare, hp2, hp3]
  rw [hb]
  clear h hb ho hs1 hp2 hp3
  go_enter Tryz.func73, Tryz.ntmps73
  go_wp2_with (first | (go_at_call 72; refine (unhide T3 _ ((unhide hr2).later (by simp; omega) _)).mono ?_; rintro e w3 ⟨rfl, hr3, hk3⟩; have hr3 := hide hr3; clear al a0 a1 a2 a3 a4 a5 af bl b0 b1 b2 b3 b4 b5 bf; have HA3 := hide (((unhide HA2).other (by simpa using nba) _).kept hk3 n0); have HB3 := hide (((unhide HB2).right' _).kept hk3 nb); obtain ⟨al, a0, a1, a2, a3, a4, a5, af⟩ := unhide HA3; simp only [Tm.bare] at a0 a1 a2 a3 a4 a5; obtain ⟨bl, b0, b1, b2, b3, b4, b5, bf⟩ := unhide HB3; simp only [Tm.bare] at b0 b1 b2 b3 b4 b5; have K3 : Hid (Kept rb w w3) := hide (((unhide K2).later (by simp; omega) _).trans hk3); clear hk3) | (go_at_call 72; refine (unhide T2 _ ((unhide hr1).alloc _)).mono ?_; rintro e w2 ⟨rfl, hr2, hk2⟩; have hr2 := hide hr2; clear al a0 a1 a2 a3 a4 a5 af; have HA2 := hide (((unhide HA1).alloc _).kept hk2 n0); have HB2 := hide ((unhide HB1 _).kept hk2 nb); obtain ⟨al, a0, a1, a2, a3, a4, a5, af⟩ := unhide HA2; simp only [Tm.bare] at a0 a1 a2 a3 a4 a5; obtain ⟨bl, b0, b1, b2, b3, b4, b5, bf⟩ := unhide HB2; simp only [Tm.bare] at b0 b1 b2 b3 b4 b5; have K2 : Hid (Kept rb w w2) := hide (((unhide K1).alloc _).trans hk2); clear hk2) | (go_at_call 118; refine (unhide T _ (unhide HP _)).mono ?_; rintro e w1 ⟨rfl, hr1, hk1⟩; have hr1 := hide hr1; have HA1 := hide ((TmAt.new w 0 125).kept hk1 n0); obtain ⟨al, a0, a1, a2, a3, a4, a5, af⟩ := unhide HA1; simp only [Tm.bare] at a0 a1 a2 a3 a4 a5; have K1 : Hid (Kept rb w w1) := hide (((Kept.refl rb w).alloc _).trans hk1); have zz1 : w.heap.size < w1.heap.size := al; have nb : ¬ w1.heap.size = rb := (by omega); have nab : ¬ w.heap.size = w1.heap.size := (by omega); have nba : ¬ w1.heap.size = w.heap.size := (by omega); have HB1 : Hid (∀ ty, TmAt (w1.alloc (.cells #[.int .i64 (17 : Nat), .int .i64 0, .int .i64 0, .int .i64 0, .string ⟨#[]⟩, .string ⟨#[]⟩] ty)) w1.heap.size (.bare 17)) := hide (fun ty => TmAt.new w1 17 ty); clear hk1))
  exact term_ends ((unhide HA3).other (by simpa using nba) _) ((unhide hr3).later (by simp; omega) _) ((unhide K3).later (by simp; omega) _) hlt (Nat.le_refl _) rfl rfl rfl rfl rfl rfl rfl rfl

set_option maxHeartbeats 1000000 in
theorem pterm_18 (rb : Nat) (s : Ps) (pl : Nat) (w : World) (h : PsAt w rb s) (hpl : pl ≤ 255) (ho : s.next.1.toNat = 18) :
    Calls Tryz.prog 73 #[.pointer (some ⟨rb, 0, none⟩), .int .i64 pl] w (TermEnds rb w (s.next.2.body pl 18)) := by
  have hlt := h.lt
  have n0 : ¬ w.heap.size = rb := by omega
  have HP : Hid (∀ o, PsAt (w.alloc o) rb s) := hide fun o => h.alloc o
  have T : Hid (∀ w, PsAt w rb s → _) := hide fun w h => pnext_any rb s w h
  rw [ho] at T
  obtain ⟨s1, hs1⟩ : ∃ s1, s.next.2 = s1 := ⟨_, rfl⟩
  rw [hs1] at T ⊢
  obtain ⟨p2, hp2⟩ : ∃ p, s1.upTo ((pl : Int) - 1) = p := ⟨_, rfl⟩
  have T2 : Hid (∀ w, PsAt w rb s1 → _) := hide fun w h => pupTo_any rb s1 ((pl : Int) - 1) w h
  rw [hp2] at T2
  obtain ⟨p3, hp3⟩ : ∃ p, p2.2.upTo ((pl : Int) - 1) = p := ⟨_, rfl⟩
  have T3 : Hid (∀ w, PsAt w rb p2.2 → _) := hide fun w h => pupTo_any rb p2.2 ((pl : Int) - 1) w h
  rw [hp3] at T3
  have hb : s1.body pl 18 = (⟨18, p3.1, p2.1, 0, [], []⟩, p3.2) := by simp [Ps.body, isPair, Tm.bare, hp2, hp3]
  rw [hb]
  clear h hb ho hs1 hp2 hp3
  go_enter Tryz.func73, Tryz.ntmps73
  go_wp2_with (first | (go_at_call 72; refine (unhide T3 _ ((unhide hr2).later (by simp; omega) _)).mono ?_; rintro e w3 ⟨rfl, hr3, hk3⟩; have hr3 := hide hr3; clear al a0 a1 a2 a3 a4 a5 af bl b0 b1 b2 b3 b4 b5 bf; have HA3 := hide (((unhide HA2).other (by simpa using nba) _).kept hk3 n0); have HB3 := hide (((unhide HB2).right' _).kept hk3 nb); obtain ⟨al, a0, a1, a2, a3, a4, a5, af⟩ := unhide HA3; simp only [Tm.bare] at a0 a1 a2 a3 a4 a5; obtain ⟨bl, b0, b1, b2, b3, b4, b5, bf⟩ := unhide HB3; simp only [Tm.bare] at b0 b1 b2 b3 b4 b5; have K3 : Hid (Kept rb w w3) := hide (((unhide K2).later (by simp; omega) _).trans hk3); clear hk3) | (go_at_call 72; refine (unhide T2 _ ((unhide hr1).alloc _)).mono ?_; rintro e w2 ⟨rfl, hr2, hk2⟩; have hr2 := hide hr2; clear al a0 a1 a2 a3 a4 a5 af; have HA2 := hide (((unhide HA1).alloc _).kept hk2 n0); have HB2 := hide ((unhide HB1 _).kept hk2 nb); obtain ⟨al, a0, a1, a2, a3, a4, a5, af⟩ := unhide HA2; simp only [Tm.bare] at a0 a1 a2 a3 a4 a5; obtain ⟨bl, b0, b1, b2, b3, b4, b5, bf⟩ := unhide HB2; simp only [Tm.bare] at b0 b1 b2 b3 b4 b5; have K2 : Hid (Kept rb w w2) := hide (((unhide K1).alloc _).trans hk2); clear hk2) | (go_at_call 118; refine (unhide T _ (unhide HP _)).mono ?_; rintro e w1 ⟨rfl, hr1, hk1⟩; have hr1 := hide hr1; have HA1 := hide ((TmAt.new w 0 125).kept hk1 n0); obtain ⟨al, a0, a1, a2, a3, a4, a5, af⟩ := unhide HA1; simp only [Tm.bare] at a0 a1 a2 a3 a4 a5; have K1 : Hid (Kept rb w w1) := hide (((Kept.refl rb w).alloc _).trans hk1); have zz1 : w.heap.size < w1.heap.size := al; have nb : ¬ w1.heap.size = rb := (by omega); have nab : ¬ w.heap.size = w1.heap.size := (by omega); have nba : ¬ w1.heap.size = w.heap.size := (by omega); have HB1 : Hid (∀ ty, TmAt (w1.alloc (.cells #[.int .i64 (18 : Nat), .int .i64 0, .int .i64 0, .int .i64 0, .string ⟨#[]⟩, .string ⟨#[]⟩] ty)) w1.heap.size (.bare 18)) := hide (fun ty => TmAt.new w1 18 ty); clear hk1))
  exact term_ends ((unhide HA3).other (by simpa using nba) _) ((unhide hr3).later (by simp; omega) _) ((unhide K3).later (by simp; omega) _) hlt (Nat.le_refl _) rfl rfl rfl rfl rfl rfl rfl rfl

set_option maxHeartbeats 1000000 in
theorem pterm_19 (rb : Nat) (s : Ps) (pl : Nat) (w : World) (h : PsAt w rb s) (hpl : pl ≤ 255) (ho : s.next.1.toNat = 19) :
    Calls Tryz.prog 73 #[.pointer (some ⟨rb, 0, none⟩), .int .i64 pl] w (TermEnds rb w (s.next.2.body pl 19)) := by
  have hlt := h.lt
  have n0 : ¬ w.heap.size = rb := by omega
  have HP : Hid (∀ o, PsAt (w.alloc o) rb s) := hide fun o => h.alloc o
  have T : Hid (∀ w, PsAt w rb s → _) := hide fun w h => pnext_any rb s w h
  rw [ho] at T
  obtain ⟨s1, hs1⟩ : ∃ s1, s.next.2 = s1 := ⟨_, rfl⟩
  rw [hs1] at T ⊢
  obtain ⟨p2, hp2⟩ : ∃ p, s1.upTo ((pl : Int) - 1) = p := ⟨_, rfl⟩
  have T2 : Hid (∀ w, PsAt w rb s1 → _) := hide fun w h => pupTo_any rb s1 ((pl : Int) - 1) w h
  rw [hp2] at T2
  obtain ⟨p3, hp3⟩ : ∃ p, p2.2.upTo ((pl : Int) - 1) = p := ⟨_, rfl⟩
  have T3 : Hid (∀ w, PsAt w rb p2.2 → _) := hide fun w h => pupTo_any rb p2.2 ((pl : Int) - 1) w h
  rw [hp3] at T3
  have hb : s1.body pl 19 = (⟨19, p3.1, p2.1, 0, [], []⟩, p3.2) := by simp [Ps.body, isPair, Tm.bare, hp2, hp3]
  rw [hb]
  clear h hb ho hs1 hp2 hp3
  go_enter Tryz.func73, Tryz.ntmps73
  go_wp2_with (first | (go_at_call 72; refine (unhide T3 _ ((unhide hr2).later (by simp; omega) _)).mono ?_; rintro e w3 ⟨rfl, hr3, hk3⟩; have hr3 := hide hr3; clear al a0 a1 a2 a3 a4 a5 af bl b0 b1 b2 b3 b4 b5 bf; have HA3 := hide (((unhide HA2).other (by simpa using nba) _).kept hk3 n0); have HB3 := hide (((unhide HB2).right' _).kept hk3 nb); obtain ⟨al, a0, a1, a2, a3, a4, a5, af⟩ := unhide HA3; simp only [Tm.bare] at a0 a1 a2 a3 a4 a5; obtain ⟨bl, b0, b1, b2, b3, b4, b5, bf⟩ := unhide HB3; simp only [Tm.bare] at b0 b1 b2 b3 b4 b5; have K3 : Hid (Kept rb w w3) := hide (((unhide K2).later (by simp; omega) _).trans hk3); clear hk3) | (go_at_call 72; refine (unhide T2 _ ((unhide hr1).alloc _)).mono ?_; rintro e w2 ⟨rfl, hr2, hk2⟩; have hr2 := hide hr2; clear al a0 a1 a2 a3 a4 a5 af; have HA2 := hide (((unhide HA1).alloc _).kept hk2 n0); have HB2 := hide ((unhide HB1 _).kept hk2 nb); obtain ⟨al, a0, a1, a2, a3, a4, a5, af⟩ := unhide HA2; simp only [Tm.bare] at a0 a1 a2 a3 a4 a5; obtain ⟨bl, b0, b1, b2, b3, b4, b5, bf⟩ := unhide HB2; simp only [Tm.bare] at b0 b1 b2 b3 b4 b5; have K2 : Hid (Kept rb w w2) := hide (((unhide K1).alloc _).trans hk2); clear hk2) | (go_at_call 118; refine (unhide T _ (unhide HP _)).mono ?_; rintro e w1 ⟨rfl, hr1, hk1⟩; have hr1 := hide hr1; have HA1 := hide ((TmAt.new w 0 125).kept hk1 n0); obtain ⟨al, a0, a1, a2, a3, a4, a5, af⟩ := unhide HA1; simp only [Tm.bare] at a0 a1 a2 a3 a4 a5; have K1 : Hid (Kept rb w w1) := hide (((Kept.refl rb w).alloc _).trans hk1); have zz1 : w.heap.size < w1.heap.size := al; have nb : ¬ w1.heap.size = rb := (by omega); have nab : ¬ w.heap.size = w1.heap.size := (by omega); have nba : ¬ w1.heap.size = w.heap.size := (by omega); have HB1 : Hid (∀ ty, TmAt (w1.alloc (.cells #[.int .i64 (19 : Nat), .int .i64 0, .int .i64 0, .int .i64 0, .string ⟨#[]⟩, .string ⟨#[]⟩] ty)) w1.heap.size (.bare 19)) := hide (fun ty => TmAt.new w1 19 ty); clear hk1))
  exact term_ends ((unhide HA3).other (by simpa using nba) _) ((unhide hr3).later (by simp; omega) _) ((unhide K3).later (by simp; omega) _) hlt (Nat.le_refl _) rfl rfl rfl rfl rfl rfl rfl rfl

set_option maxHeartbeats 1000000 in
theorem pterm_5 (rb : Nat) (s : Ps) (pl : Nat) (w : World) (h : PsAt w rb s) (hpl : pl ≤ 255) (ho : s.next.1.toNat = 5) :
    Calls Tryz.prog 73 #[.pointer (some ⟨rb, 0, none⟩), .int .i64 pl] w (TermEnds rb w (s.next.2.body pl 5)) := by
  have hlt := h.lt
  have n0 : ¬ w.heap.size = rb := by omega
  have HP : Hid (∀ o, PsAt (w.alloc o) rb s) := hide fun o => h.alloc o
  have T : Hid (∀ w, PsAt w rb s → _) := hide fun w h => pnext_any rb s w h
  rw [ho] at T
  obtain ⟨s1, hs1⟩ : ∃ s1, s.next.2 = s1 := ⟨_, rfl⟩
  rw [hs1] at T ⊢
  obtain ⟨p2, hp2⟩ : ∃ p, s1.upTo ((pl : Int) - 1) = p := ⟨_, rfl⟩
  have T2 : Hid (∀ w, PsAt w rb s1 → _) := hide fun w h => pupTo_any rb s1 ((pl : Int) - 1) w h
  rw [hp2] at T2
  have hb : s1.body pl 5 = (⟨5, p2.1, 0, 0, [], []⟩, p2.2) := by simp [Ps.body, isPair, Tm.bare, hp2]
  rw [hb]
  clear h hb ho hs1 hp2
  go_enter Tryz.func73, Tryz.ntmps73
  go_wp2_with (first | (go_at_call 72; refine (unhide T2 _ ((unhide hr1).alloc _)).mono ?_; rintro e w2 ⟨rfl, hr2, hk2⟩; have hr2 := hide hr2; clear al a0 a1 a2 a3 a4 a5 af; have HA2 := hide (((unhide HA1).alloc _).kept hk2 n0); have HB2 := hide ((unhide HB1 _).kept hk2 nb); obtain ⟨al, a0, a1, a2, a3, a4, a5, af⟩ := unhide HA2; simp only [Tm.bare] at a0 a1 a2 a3 a4 a5; obtain ⟨bl, b0, b1, b2, b3, b4, b5, bf⟩ := unhide HB2; simp only [Tm.bare] at b0 b1 b2 b3 b4 b5; have K2 : Hid (Kept rb w w2) := hide (((unhide K1).alloc _).trans hk2); clear hk2) | (go_at_call 118; refine (unhide T _ (unhide HP _)).mono ?_; rintro e w1 ⟨rfl, hr1, hk1⟩; have hr1 := hide hr1; have HA1 := hide ((TmAt.new w 0 125).kept hk1 n0); obtain ⟨al, a0, a1, a2, a3, a4, a5, af⟩ := unhide HA1; simp only [Tm.bare] at a0 a1 a2 a3 a4 a5; have K1 : Hid (Kept rb w w1) := hide (((Kept.refl rb w).alloc _).trans hk1); have zz1 : w.heap.size < w1.heap.size := al; have nb : ¬ w1.heap.size = rb := (by omega); have nab : ¬ w.heap.size = w1.heap.size := (by omega); have nba : ¬ w1.heap.size = w.heap.size := (by omega); have HB1 : Hid (∀ ty, TmAt (w1.alloc (.cells #[.int .i64 (5 : Nat), .int .i64 0, .int .i64 0, .int .i64 0, .string ⟨#[]⟩, .string ⟨#[]⟩] ty)) w1.heap.size (.bare 5)) := hide (fun ty => TmAt.new w1 5 ty); clear hk1))
  exact term_ends ((unhide HA2).other (by simpa using nba) _) ((unhide hr2).later (by simp; omega) _) ((unhide K2).later (by simp; omega) _) hlt (Nat.le_refl _) rfl rfl rfl rfl rfl rfl rfl rfl

set_option maxHeartbeats 1000000 in
theorem pterm_23 (rb : Nat) (s : Ps) (pl : Nat) (w : World) (h : PsAt w rb s) (hpl : pl ≤ 255) (ho : s.next.1.toNat = 23) :
    Calls Tryz.prog 73 #[.pointer (some ⟨rb, 0, none⟩), .int .i64 pl] w (TermEnds rb w (s.next.2.body pl 23)) := by
  have hlt := h.lt
  have n0 : ¬ w.heap.size = rb := by omega
  have HP : Hid (∀ o, PsAt (w.alloc o) rb s) := hide fun o => h.alloc o
  have T : Hid (∀ w, PsAt w rb s → _) := hide fun w h => pnext_any rb s w h
  rw [ho] at T
  obtain ⟨s1, hs1⟩ : ∃ s1, s.next.2 = s1 := ⟨_, rfl⟩
  rw [hs1] at T ⊢
  obtain ⟨p2, hp2⟩ : ∃ p, s1.upTo ((pl : Int) - 1) = p := ⟨_, rfl⟩
  have T2 : Hid (∀ w, PsAt w rb s1 → _) := hide fun w h => pupTo_any rb s1 ((pl : Int) - 1) w h
  rw [hp2] at T2
  have hb : s1.body pl 23 = (⟨23, p2.1, 0, 0, [], []⟩, p2.2) := by simp [Ps.body, isPair, Tm.bare, hp2]
  rw [hb]
  clear h hb ho hs1 hp2
  go_enter Tryz.func73, Tryz.ntmps73
  go_wp2_with (first | (go_at_call 72; refine (unhide T2 _ ((unhide hr1).alloc _)).mono ?_; rintro e w2 ⟨rfl, hr2, hk2⟩; have hr2 := hide hr2; clear al a0 a1 a2 a3 a4 a5 af; have HA2 := hide (((unhide HA1).alloc _).kept hk2 n0); have HB2 := hide ((unhide HB1 _).kept hk2 nb); obtain ⟨al, a0, a1, a2, a3, a4, a5, af⟩ := unhide HA2; simp only [Tm.bare] at a0 a1 a2 a3 a4 a5; obtain ⟨bl, b0, b1, b2, b3, b4, b5, bf⟩ := unhide HB2; simp only [Tm.bare] at b0 b1 b2 b3 b4 b5; have K2 : Hid (Kept rb w w2) := hide (((unhide K1).alloc _).trans hk2); clear hk2) | (go_at_call 118; refine (unhide T _ (unhide HP _)).mono ?_; rintro e w1 ⟨rfl, hr1, hk1⟩; have hr1 := hide hr1; have HA1 := hide ((TmAt.new w 0 125).kept hk1 n0); obtain ⟨al, a0, a1, a2, a3, a4, a5, af⟩ := unhide HA1; simp only [Tm.bare] at a0 a1 a2 a3 a4 a5; have K1 : Hid (Kept rb w w1) := hide (((Kept.refl rb w).alloc _).trans hk1); have zz1 : w.heap.size < w1.heap.size := al; have nb : ¬ w1.heap.size = rb := (by omega); have nab : ¬ w.heap.size = w1.heap.size := (by omega); have nba : ¬ w1.heap.size = w.heap.size := (by omega); have HB1 : Hid (∀ ty, TmAt (w1.alloc (.cells #[.int .i64 (23 : Nat), .int .i64 0, .int .i64 0, .int .i64 0, .string ⟨#[]⟩, .string ⟨#[]⟩] ty)) w1.heap.size (.bare 23)) := hide (fun ty => TmAt.new w1 23 ty); clear hk1))
  exact term_ends ((unhide HA2).other (by simpa using nba) _) ((unhide hr2).later (by simp; omega) _) ((unhide K2).later (by simp; omega) _) hlt (Nat.le_refl _) rfl rfl rfl rfl rfl rfl rfl rfl

set_option maxHeartbeats 1000000 in
theorem pterm_x (rb : Nat) (s : Ps) (pl : Nat) (w : World) (h : PsAt w rb s) (hpl : pl ≤ 255) (op : Nat) (hop : op < 256) (o3 : ¬ op = 3) (o4 : ¬ op = 4) (o1 : ¬ op = 1) (o22 : ¬ op = 22) (o0 : ¬ op = 0) (o2 : ¬ op = 2) (o6 : ¬ op = 6) (o7 : ¬ op = 7) (o8 : ¬ op = 8) (o10 : ¬ op = 10) (o11 : ¬ op = 11) (o16 : ¬ op = 16) (o17 : ¬ op = 17) (o18 : ¬ op = 18) (o19 : ¬ op = 19) (o5 : ¬ op = 5) (o23 : ¬ op = 23) (ho : s.next.1.toNat = op) :
    Calls Tryz.prog 73 #[.pointer (some ⟨rb, 0, none⟩), .int .i64 pl] w (TermEnds rb w (s.next.2.body pl op)) := by
  have hlt := h.lt
  have n0 : ¬ w.heap.size = rb := by omega
  have HP : Hid (∀ o, PsAt (w.alloc o) rb s) := hide fun o => h.alloc o
  have T : Hid (∀ w, PsAt w rb s → _) := hide fun w h => pnext_any rb s w h
  rw [ho] at T
  obtain ⟨s1, hs1⟩ : ∃ s1, s.next.2 = s1 := ⟨_, rfl⟩
  rw [hs1] at T ⊢
  have T2 : Hid (∀ w, PsAt w rb s1 → _) := hide fun w h => pfail_any rb s1 w h
  have hip : isPair op = false := by simp [isPair, *]
  have hb : s1.body pl op = (⟨op, 0, 0, 0, [], []⟩, failS) := by simp [Ps.body, hip, *, Tm.bare]
  rw [hb]
  have hi0 : (0 : Int) ≤ (op : Int) := by omega
  have hi1 : (op : Int) < 256 := by omega
  have e3 : ((op : Int) == 3) = false := beq_eq_false_iff_ne.2 (by omega)
  have e4 : ((op : Int) == 4) = false := beq_eq_false_iff_ne.2 (by omega)
  have e1 : ((op : Int) == 1) = false := beq_eq_false_iff_ne.2 (by omega)
  have e22 : ((op : Int) == 22) = false := beq_eq_false_iff_ne.2 (by omega)
  have e0 : ((op : Int) == 0) = false := beq_eq_false_iff_ne.2 (by omega)
  have e2 : ((op : Int) == 2) = false := beq_eq_false_iff_ne.2 (by omega)
  have e6 : ((op : Int) == 6) = false := beq_eq_false_iff_ne.2 (by omega)
  have e7 : ((op : Int) == 7) = false := beq_eq_false_iff_ne.2 (by omega)
  have e8 : ((op : Int) == 8) = false := beq_eq_false_iff_ne.2 (by omega)
  have e10 : ((op : Int) == 10) = false := beq_eq_false_iff_ne.2 (by omega)
  have e11 : ((op : Int) == 11) = false := beq_eq_false_iff_ne.2 (by omega)
  have e16 : ((op : Int) == 16) = false := beq_eq_false_iff_ne.2 (by omega)
  have e17 : ((op : Int) == 17) = false := beq_eq_false_iff_ne.2 (by omega)
  have e18 : ((op : Int) == 18) = false := beq_eq_false_iff_ne.2 (by omega)
  have e19 : ((op : Int) == 19) = false := beq_eq_false_iff_ne.2 (by omega)
  have e5 : ((op : Int) == 5) = false := beq_eq_false_iff_ne.2 (by omega)
  have e23 : ((op : Int) == 23) = false := beq_eq_false_iff_ne.2 (by omega)
  clear o3 o4 o1 o22 o0 o2 o6 o7 o8 o10 o11 o16 o17 o18 o19 o5 o23 hip hop
  clear h hb ho hs1 
  go_enter Tryz.func73, Tryz.ntmps73
  go_wp2_with (first | (go_at_call 119; refine (unhide T2 _ ((unhide hr1).alloc _)).mono ?_; rintro e w2 ⟨rfl, hr2, hk2⟩; have hr2 := hide hr2; clear al a0 a1 a2 a3 a4 a5 af; have HA2 := hide (((unhide HA1).alloc _).kept hk2 n0); have HB2 := hide ((unhide HB1 _).kept hk2 nb); obtain ⟨al, a0, a1, a2, a3, a4, a5, af⟩ := unhide HA2; simp only [Tm.bare] at a0 a1 a2 a3 a4 a5; obtain ⟨bl, b0, b1, b2, b3, b4, b5, bf⟩ := unhide HB2; simp only [Tm.bare] at b0 b1 b2 b3 b4 b5; have K2 : Hid (Kept rb w w2) := hide (((unhide K1).alloc _).trans hk2); clear hk2) | (go_at_call 118; refine (unhide T _ (unhide HP _)).mono ?_; rintro e w1 ⟨rfl, hr1, hk1⟩; have hr1 := hide hr1; have HA1 := hide ((TmAt.new w 0 125).kept hk1 n0); obtain ⟨al, a0, a1, a2, a3, a4, a5, af⟩ := unhide HA1; simp only [Tm.bare] at a0 a1 a2 a3 a4 a5; have K1 : Hid (Kept rb w w1) := hide (((Kept.refl rb w).alloc _).trans hk1); have zz1 : w.heap.size < w1.heap.size := al; have nb : ¬ w1.heap.size = rb := (by omega); have nab : ¬ w.heap.size = w1.heap.size := (by omega); have nba : ¬ w1.heap.size = w.heap.size := (by omega); have HB1 : Hid (∀ ty, TmAt (w1.alloc (.cells #[.int .i64 (op : Nat), .int .i64 0, .int .i64 0, .int .i64 0, .string ⟨#[]⟩, .string ⟨#[]⟩] ty)) w1.heap.size (.bare op)) := hide (fun ty => TmAt.new w1 op ty); clear hk1))
  exact term_ends (unhide HA2) (unhide hr2) (unhide K2) hlt (Nat.le_refl _) rfl rfl rfl rfl rfl rfl rfl rfl
end

section
theorem pterm_any (rb : Nat) (s : Ps) (pl : Nat) (w : World) (h : PsAt w rb s) (hpl : pl ≤ 255) :
    Calls Tryz.prog 73 #[.pointer (some ⟨rb, 0, none⟩), .int .i64 pl] w (TermEnds rb w (s.term pl)) := by
  rw [Ps.term]
  obtain ⟨n, hn⟩ : ∃ n, s.next.1.toNat = n := ⟨_, rfl⟩
  have hlt : n < 256 := by have := s.next.1.toNat_lt; omega
  rw [hn]
  by_cases h3 : n = 3
  · subst h3; exact pterm_3 rb s pl w h hpl hn
  by_cases h4 : n = 4
  · subst h4; exact pterm_4 rb s pl w h hpl hn
  by_cases h1 : n = 1
  · subst h1; exact pterm_1 rb s pl w h hpl hn
  by_cases h22 : n = 22
  · subst h22; exact pterm_22 rb s pl w h hpl hn
  by_cases h0 : n = 0
  · subst h0; exact pterm_0 rb s pl w h hpl hn
  by_cases h2 : n = 2
  · subst h2; exact pterm_2 rb s pl w h hpl hn
  by_cases h6 : n = 6
  · subst h6; exact pterm_6 rb s pl w h hpl hn
  by_cases h7 : n = 7
  · subst h7; exact pterm_7 rb s pl w h hpl hn
  by_cases h8 : n = 8
  · subst h8; exact pterm_8 rb s pl w h hpl hn
  by_cases h10 : n = 10
  · subst h10; exact pterm_10 rb s pl w h hpl hn
  by_cases h11 : n = 11
  · subst h11; exact pterm_11 rb s pl w h hpl hn
  by_cases h16 : n = 16
  · subst h16; exact pterm_16 rb s pl w h hpl hn
  by_cases h17 : n = 17
  · subst h17; exact pterm_17 rb s pl w h hpl hn
  by_cases h18 : n = 18
  · subst h18; exact pterm_18 rb s pl w h hpl hn
  by_cases h19 : n = 19
  · subst h19; exact pterm_19 rb s pl w h hpl hn
  by_cases h5 : n = 5
  · subst h5; exact pterm_5 rb s pl w h hpl hn
  by_cases h23 : n = 23
  · subst h23; exact pterm_23 rb s pl w h hpl hn
  exact pterm_x rb s pl w h hpl n hlt h3 h4 h1 h22 h0 h2 h6 h7 h8 h10 h11 h16 h17 h18 h19 h5 h23 hn
end

end Go.Proofs.YtfkcaldjphakpaaGreatDoor
