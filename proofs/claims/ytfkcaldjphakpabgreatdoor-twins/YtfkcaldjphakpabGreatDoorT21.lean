/- Of, of every term that is read. The reader of programs: term, operator by operator. -/
import Derived.Test.YtfkcaldjphakpabGreatDoorT20
import Derived.Test.YtfkcaldjphakpabGreatDoorT19
import Derived.Test.YtfkcaldjphakpabGreatDoorT15
namespace Go.Proofs.YtfkcaldjphakpabGreatDoor
open Go.RowKit
section
theorem vq3 (op : Int) (x y : V) (hx : Rng x.num) (hy : Rng y.num) : qj2 op x y (qz2 op x y) := by
  by_cases h14 : op = 14
  · subst h14; exact join_14 x y hx
  by_cases h15 : op = 15
  · subst h15; exact join_15 x y hx
  exact join_all op h14 h15 x y hx hy
def Sh (v : V) : Prop := v.str.length ≤ 1000
theorem vn2 (b : Bool) : Sh (bV b) := Nat.zero_le _
theorem vn3 : Sh nV := Nat.zero_le _
theorem sh_i (n : Int) : Sh (iV n) := Nat.zero_le _
theorem qa8 {c : Prop} [Decidable c] {a b : V} (ha : Sh a) (hb : Sh b) : Sh (if c then a else b) := by
  split
  · exact ha
  · exact hb
theorem sh_join (op : Int) (x y : V) : Sh (qz2 op x y) := by
  unfold qz2
  refine qa8 (qa8 (vn2 _) vn3) (qa8 (qa8 (vn2 _) (qa8 (vn2 _) vn3)) (qa8 (qa8 (vn2 _) (qa8 (vn2 _) vn3)) (qa8 (qa8 vn3 (vn2 _)) (qa8 (qa8 (vn2 _) vn3) (qa8 (qa8 (vn2 _) vn3) (qa8 (qa8 (vn2 _) vn3) (qa8 (qa8 (vn2 _) vn3) (qa8 (qa8 (vn2 _) vn3) (qa8 (qa8 (sh_i _) vn3) (qa8 (qa8 (sh_i _) vn3) (qa8 (qa8 (sh_i _) vn3) (qa8 (qa8 (sh_i _) vn3) (qa8 (qa8 (sh_i _) vn3) (qa8 (qa8 (sh_i _) vn3) (vn2 _)))))))))))))))
theorem sh_or (x y : V) : Sh (orV x y) := qa8 (vn2 _) (qa8 (vn2 _) vn3)
theorem sh_among (x : V) (ts : List (List UInt8)) : ∀ f : V, Sh f → Sh (ts.foldl (fun f t => orV f (eqV x (tV t))) f) := by
  induction ts with
  | nil => intro f h; exact h
  | cons t r ih => intro f _; exact ih _ (sh_or _ _)
theorem sh_joinN (p : Pay) (x y z : V) : Sh (qs6 p x y z) := by
  unfold qs6
  refine qa8 (qa8 (vn2 _) (qa8 (vn2 _) vn3)) (qa8 (sh_among x _ _ (vn2 _)) (qa8 (qa8 (vn2 _) vn3) (sh_join _ _ _)))
def EvSh (ps : List Pr) : Prop := ∀ p ∈ ps, Sh p.val
theorem sh_of {ps : List Pr} (h : EvSh ps) {p : Pay} (hp : p.str.length ≤ 200) (s : List V) : Sh (ofN ps p s) := by
  unfold ofN
  refine qa8 ?_ (qa8 (sh_i _) (qa8 ?_ (qa8 (vn2 _) (qa8 (vn2 _) (sh_joinN _ _ _ _)))))
  · unfold qy0
    split
    · rename_i q hq; exact h q (List.mem_of_find?_eq_some hq)
    · exact vn3
  · show p.str.length ≤ 1000
    omega
theorem vk3 {ps : List Pr} (h : EvSh ps) : ∀ t, vf2 t → Sh (ofA ps t) := by
  intro t
  cases t with
  | leaf p => intro hn; exact sh_of h hn.1 _
  | un p x => intro hn; exact sh_of h hn.1.1 _
  | bin p x y => intro hn; exact sh_of h hn.1.1 _
  | tri p x y z => intro hn; exact sh_of h hn.1.1 _
theorem vu2 (lo : Nat) (ps : List Pr) (ev : Value) (t : Ast) (hp : Bp (y7 t)) (hsub : ∀ x ∈ j3 t, OfOk lo ps ev x) (hrng : ∀ x ∈ j3 t, Rng (ofA ps x).num) (hlen : ∀ x ∈ j3 t, (ofA ps x).str.length ≤ 1000) : OfOk lo ps ev t := by
  by_cases h0 : (y7 t).op = 0
  · exact of_0 lo ps ev t h0
  by_cases h1 : (y7 t).op = 1
  · exact of_1 lo ps ev t h1
  by_cases h2 : (y7 t).op = 2
  · exact of_2 lo ps ev t h2
  by_cases h3 : (y7 t).op = 3
  · exact of_3 lo ps ev t h3
  by_cases h4 : (y7 t).op = 4
  · exact of_4 lo ps ev t h4
  refine of_step lo ps ev t hsub hrng hlen ?_ h0 h1 h2 h3 h4
  by_cases h20 : (y7 t).op = 20
  · exact joinN_20 lo t h20
  by_cases h21 : (y7 t).op = 21
  · exact joinN_21 lo t h21 hp.2
  by_cases h22 : (y7 t).op = 22
  · exact joinN_22 lo t h22 hp.1
  exact ju1 lo t h20 h21 h22 (fun x y hx hy => vq3 _ x y hx hy)
theorem of_every (lo : Nat) (ps : List Pr) (ev : Value) (hev : vw5 ps) (hsh : EvSh ps) : ∀ t, vf2 t → vf5 t → OfOk lo ps ev t := by
  intro t
  induction t with
  | leaf p => intro hs hn; exact vu2 lo ps ev _ hs (fun x hx => by simp [j3] at hx) (fun x hx => by simp [j3] at hx) (fun x hx => by simp [j3] at hx)
  | un p x ih =>
    intro hs hn
    refine vu2 lo ps ev _ hs.1 (fun u hu => ?_) (fun u hu => ?_) (fun u hu => ?_)
    · simp [j3] at hu; subst hu; exact ih hs.2 hn.2
    · simp [j3] at hu; subst hu; exact vd8 hev _ hn.2
    · simp [j3] at hu; subst hu; exact vk3 hsh _ hs.2
  | bin p x y ihx ihy =>
    intro hs hn
    refine vu2 lo ps ev _ hs.1 (fun u hu => ?_) (fun u hu => ?_) (fun u hu => ?_)
    · simp [j3] at hu
      rcases hu with rfl | rfl
      · exact ihx hs.2.1 hn.2.1
      · exact ihy hs.2.2 hn.2.2
    · simp [j3] at hu
      rcases hu with rfl | rfl
      · exact vd8 hev _ hn.2.1
      · exact vd8 hev _ hn.2.2
    · simp [j3] at hu
      rcases hu with rfl | rfl
      · exact vk3 hsh _ hs.2.1
      · exact vk3 hsh _ hs.2.2
  | tri p x y z ihx ihy ihz =>
    intro hs hn
    refine vu2 lo ps ev _ hs.1 (fun u hu => ?_) (fun u hu => ?_) (fun u hu => ?_)
    · simp [j3] at hu
      rcases hu with rfl | rfl | rfl
      · exact ihx hs.2.1 hn.2.1
      · exact ihy hs.2.2.1 hn.2.2.1
      · exact ihz hs.2.2.2 hn.2.2.2
    · simp [j3] at hu
      rcases hu with rfl | rfl | rfl
      · exact vd8 hev _ hn.2.1
      · exact vd8 hev _ hn.2.2.1
      · exact vd8 hev _ hn.2.2.2
    · simp [j3] at hu
      rcases hu with rfl | rfl | rfl
      · exact vk3 hsh _ hs.2.1
      · exact vk3 hsh _ hs.2.2.1
      · exact vk3 hsh _ hs.2.2.2
end
section
set_option linter.unusedSimpArgs false
set_option linter.unusedVariables false
set_option maxHeartbeats 1000000 in
theorem pterm_1 (rb : Nat) (s : Ps) (pl : Nat) (w : World) (h : PsAt w rb s) (hpl : pl ≤ 255) (ho : s.next.1.toNat = 1) :
    Calls Tryz.prog 68 #[.pointer (some ⟨rb, 0, none⟩), .int .i64 pl] w (qx3 rb w (s.next.2.body pl 1)) := by
  have hlt := h.lt
  have n0 : ¬ w.heap.size = rb := by omega
  have HP : Hid (∀ o, PsAt (w.alloc o) rb s) := v6 fun o => h.alloc o
  have T : Hid (∀ w, PsAt w rb s → _) := v6 fun w h => vb1 rb s w h
  rw [ho] at T
  obtain ⟨s1, hs1⟩ : ∃ s1, s.next.2 = s1 := ⟨_, rfl⟩
  rw [hs1] at T ⊢
  obtain ⟨p2, hp2⟩ : ∃ p, s1.number = p := ⟨_, rfl⟩
  have T2 : Hid (∀ w, PsAt w rb s1 → Calls Tryz.prog 100 #[.pointer (some ⟨rb, 0, none⟩)] w fun e w' => e = .returned (.int .i64 (s1.number).1) ∧ PsAt w' rb (s1.number).2 ∧ Kept rb w w') := v6 fun w h => jh6 rb s1 w h
  rw [hp2] at T2
  have hb : s1.body pl 1 = (⟨1, 0, 0, p2.1, [], []⟩, p2.2) := by simp [Ps.body, qy8, Tm.bare, hp2]
  rw [hb]
  clear h hb ho hs1 hp2
  go_enter Tryz.func68, Tryz.ntmps68
  go_wp2_with (first | (go_at_call 100; refine (q9 T2 _ ((q9 hr1).alloc _)).mono ?_; rintro e w2 ⟨rfl, hr2, hk2⟩; have hr2 := v6 hr2; clear al a0 a1 a2 a3 a4 a5 af; have HA2 := v6 (((q9 HA1).alloc _).kept hk2 n0); have HB2 := v6 ((q9 HB1 _).kept hk2 nb); obtain ⟨al, a0, a1, a2, a3, a4, a5, af⟩ := q9 HA2; simp only [Tm.bare] at a0 a1 a2 a3 a4 a5; obtain ⟨bl, b0, b1, b2, b3, b4, b5, bf⟩ := q9 HB2; simp only [Tm.bare] at b0 b1 b2 b3 b4 b5; have K2 : Hid (Kept rb w w2) := v6 (((q9 K1).alloc _).trans hk2); clear hk2) | (go_at_call 98; refine (q9 T _ (q9 HP _)).mono ?_; rintro e w1 ⟨rfl, hr1, hk1⟩; have hr1 := v6 hr1; have HA1 := v6 ((TmAt.new w 0 142).kept hk1 n0); obtain ⟨al, a0, a1, a2, a3, a4, a5, af⟩ := q9 HA1; simp only [Tm.bare] at a0 a1 a2 a3 a4 a5; have K1 : Hid (Kept rb w w1) := v6 (((Kept.refl rb w).alloc _).trans hk1); have zz1 : w.heap.size < w1.heap.size := al; have nb : ¬ w1.heap.size = rb := (by omega); have nab : ¬ w.heap.size = w1.heap.size := (by omega); have nba : ¬ w1.heap.size = w.heap.size := (by omega); have HB1 : Hid (∀ ty, TmAt (w1.alloc (.cells #[.int .i64 (1 : Nat), .int .i64 0, .int .i64 0, .int .i64 0, .string ⟨#[]⟩, .string ⟨#[]⟩] ty)) w1.heap.size (.bare 1)) := v6 (fun ty => TmAt.new w1 1 ty); clear hk1))
  exact vm3 ((q9 HA2).other (by simpa using nba) _) ((q9 hr2).later (by simp; omega) _) ((q9 K2).later (by simp; omega) _) hlt (Nat.le_refl _) rfl rfl rfl rfl rfl rfl rfl rfl
set_option maxHeartbeats 1000000 in
theorem pterm_0 (rb : Nat) (s : Ps) (pl : Nat) (w : World) (h : PsAt w rb s) (hpl : pl ≤ 255) (ho : s.next.1.toNat = 0) :
    Calls Tryz.prog 68 #[.pointer (some ⟨rb, 0, none⟩), .int .i64 pl] w (qx3 rb w (s.next.2.body pl 0)) := by
  have hlt := h.lt
  have n0 : ¬ w.heap.size = rb := by omega
  have HP : Hid (∀ o, PsAt (w.alloc o) rb s) := v6 fun o => h.alloc o
  have T : Hid (∀ w, PsAt w rb s → _) := v6 fun w h => vb1 rb s w h
  rw [ho] at T
  obtain ⟨s1, hs1⟩ : ∃ s1, s.next.2 = s1 := ⟨_, rfl⟩
  rw [hs1] at T ⊢
  obtain ⟨p2, hp2⟩ : ∃ p, s1.text 200 = p := ⟨_, rfl⟩
  have T2 : Hid (∀ w, PsAt w rb s1 → _) := v6 fun w h => ptext_any rb s1 200 w h
  rw [hp2] at T2
  have hb : s1.body pl 0 = (⟨0, 0, 0, 0, p2.1, []⟩, p2.2) := by simp [Ps.body, qy8, Tm.bare, hp2]
  rw [hb]
  clear h hb ho hs1 hp2
  go_enter Tryz.func68, Tryz.ntmps68
  go_wp2_with (first | (go_at_call 101; refine (q9 T2 _ ((q9 hr1).alloc _)).mono ?_; rintro e w2 ⟨rfl, hr2, hk2⟩; have hr2 := v6 hr2; clear al a0 a1 a2 a3 a4 a5 af; have HA2 := v6 (((q9 HA1).alloc _).kept hk2 n0); have HB2 := v6 ((q9 HB1 _).kept hk2 nb); obtain ⟨al, a0, a1, a2, a3, a4, a5, af⟩ := q9 HA2; simp only [Tm.bare] at a0 a1 a2 a3 a4 a5; obtain ⟨bl, b0, b1, b2, b3, b4, b5, bf⟩ := q9 HB2; simp only [Tm.bare] at b0 b1 b2 b3 b4 b5; have K2 : Hid (Kept rb w w2) := v6 (((q9 K1).alloc _).trans hk2); clear hk2) | (go_at_call 98; refine (q9 T _ (q9 HP _)).mono ?_; rintro e w1 ⟨rfl, hr1, hk1⟩; have hr1 := v6 hr1; have HA1 := v6 ((TmAt.new w 0 142).kept hk1 n0); obtain ⟨al, a0, a1, a2, a3, a4, a5, af⟩ := q9 HA1; simp only [Tm.bare] at a0 a1 a2 a3 a4 a5; have K1 : Hid (Kept rb w w1) := v6 (((Kept.refl rb w).alloc _).trans hk1); have zz1 : w.heap.size < w1.heap.size := al; have nb : ¬ w1.heap.size = rb := (by omega); have nab : ¬ w.heap.size = w1.heap.size := (by omega); have nba : ¬ w1.heap.size = w.heap.size := (by omega); have HB1 : Hid (∀ ty, TmAt (w1.alloc (.cells #[.int .i64 (0 : Nat), .int .i64 0, .int .i64 0, .int .i64 0, .string ⟨#[]⟩, .string ⟨#[]⟩] ty)) w1.heap.size (.bare 0)) := v6 (fun ty => TmAt.new w1 0 ty); clear hk1))
  exact vm3 ((q9 HA2).other (by simpa using nba) _) ((q9 hr2).later (by simp; omega) _) ((q9 K2).later (by simp; omega) _) hlt (Nat.le_refl _) rfl rfl rfl rfl rfl rfl rfl rfl
set_option maxHeartbeats 1000000 in
theorem pterm_10 (rb : Nat) (s : Ps) (pl : Nat) (w : World) (h : PsAt w rb s) (hpl : pl ≤ 255) (ho : s.next.1.toNat = 10) :
    Calls Tryz.prog 68 #[.pointer (some ⟨rb, 0, none⟩), .int .i64 pl] w (qx3 rb w (s.next.2.body pl 10)) := by
  have hlt := h.lt
  have n0 : ¬ w.heap.size = rb := by omega
  have HP : Hid (∀ o, PsAt (w.alloc o) rb s) := v6 fun o => h.alloc o
  have T : Hid (∀ w, PsAt w rb s → _) := v6 fun w h => vb1 rb s w h
  rw [ho] at T
  obtain ⟨s1, hs1⟩ : ∃ s1, s.next.2 = s1 := ⟨_, rfl⟩
  rw [hs1] at T ⊢
  obtain ⟨p2, hp2⟩ : ∃ p, s1.upTo ((pl : Int) - 1) = p := ⟨_, rfl⟩
  have T2 : Hid (∀ w, PsAt w rb s1 → _) := v6 fun w h => qs9 rb s1 ((pl : Int) - 1) w h
  rw [hp2] at T2
  obtain ⟨p3, hp3⟩ : ∃ p, p2.2.upTo ((pl : Int) - 1) = p := ⟨_, rfl⟩
  have T3 : Hid (∀ w, PsAt w rb p2.2 → _) := v6 fun w h => qs9 rb p2.2 ((pl : Int) - 1) w h
  rw [hp3] at T3
  have hb : s1.body pl 10 = (⟨10, p3.1, p2.1, 0, [], []⟩, p3.2) := by simp [Ps.body, qy8, Tm.bare, hp2, hp3]
  rw [hb]
  clear h hb ho hs1 hp2 hp3
  go_enter Tryz.func68, Tryz.ntmps68
  go_wp2_with (first | (go_at_call 67; refine (q9 T3 _ ((q9 hr2).later (by simp; omega) _)).mono ?_; rintro e w3 ⟨rfl, hr3, hk3⟩; have hr3 := v6 hr3; clear al a0 a1 a2 a3 a4 a5 af bl b0 b1 b2 b3 b4 b5 bf; have HA3 := v6 (((q9 HA2).other (by simpa using nba) _).kept hk3 n0); have HB3 := v6 (((q9 HB2).right' _).kept hk3 nb); obtain ⟨al, a0, a1, a2, a3, a4, a5, af⟩ := q9 HA3; simp only [Tm.bare] at a0 a1 a2 a3 a4 a5; obtain ⟨bl, b0, b1, b2, b3, b4, b5, bf⟩ := q9 HB3; simp only [Tm.bare] at b0 b1 b2 b3 b4 b5; have K3 : Hid (Kept rb w w3) := v6 (((q9 K2).later (by simp; omega) _).trans hk3); clear hk3) | (go_at_call 67; refine (q9 T2 _ ((q9 hr1).alloc _)).mono ?_; rintro e w2 ⟨rfl, hr2, hk2⟩; have hr2 := v6 hr2; clear al a0 a1 a2 a3 a4 a5 af; have HA2 := v6 (((q9 HA1).alloc _).kept hk2 n0); have HB2 := v6 ((q9 HB1 _).kept hk2 nb); obtain ⟨al, a0, a1, a2, a3, a4, a5, af⟩ := q9 HA2; simp only [Tm.bare] at a0 a1 a2 a3 a4 a5; obtain ⟨bl, b0, b1, b2, b3, b4, b5, bf⟩ := q9 HB2; simp only [Tm.bare] at b0 b1 b2 b3 b4 b5; have K2 : Hid (Kept rb w w2) := v6 (((q9 K1).alloc _).trans hk2); clear hk2) | (go_at_call 98; refine (q9 T _ (q9 HP _)).mono ?_; rintro e w1 ⟨rfl, hr1, hk1⟩; have hr1 := v6 hr1; have HA1 := v6 ((TmAt.new w 0 142).kept hk1 n0); obtain ⟨al, a0, a1, a2, a3, a4, a5, af⟩ := q9 HA1; simp only [Tm.bare] at a0 a1 a2 a3 a4 a5; have K1 : Hid (Kept rb w w1) := v6 (((Kept.refl rb w).alloc _).trans hk1); have zz1 : w.heap.size < w1.heap.size := al; have nb : ¬ w1.heap.size = rb := (by omega); have nab : ¬ w.heap.size = w1.heap.size := (by omega); have nba : ¬ w1.heap.size = w.heap.size := (by omega); have HB1 : Hid (∀ ty, TmAt (w1.alloc (.cells #[.int .i64 (10 : Nat), .int .i64 0, .int .i64 0, .int .i64 0, .string ⟨#[]⟩, .string ⟨#[]⟩] ty)) w1.heap.size (.bare 10)) := v6 (fun ty => TmAt.new w1 10 ty); clear hk1))
  exact vm3 ((q9 HA3).other (by simpa using nba) _) ((q9 hr3).later (by simp; omega) _) ((q9 K3).later (by simp; omega) _) hlt (Nat.le_refl _) rfl rfl rfl rfl rfl rfl rfl rfl
end
end Go.Proofs.YtfkcaldjphakpabGreatDoor
