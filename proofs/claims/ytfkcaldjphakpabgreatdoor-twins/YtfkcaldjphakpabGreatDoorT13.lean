/- The class of a whole selector. demandAlike, class, checkClasses. class, checkClasses. Op.Join: operator 5. Op.Join: operator 6. Op.Join: operator 7. Op.Join: operator 8. -/
import Derived.Test.YtfkcaldjphakpabGreatDoorT09
import Derived.Deep.RegionHeld3
import Derived.Deep.RegionWith
namespace Go.Proofs.YtfkcaldjphakpabGreatDoor
open Go.RowKit
section
def chkR : CRes → Option Int
  | .err q => some q
  | .ok c => if (c != 3 && c != 0) = true then some 0 else none
end
section
def AlikeEnds (w : World) (r : CRes) (e : Ending) (w' : World) : Prop := Below w.heap.size w w' ∧ match r with
  | .ok _ => e = .returned (.tuple #[])
  | .err q => e = x3 4 q
set_option maxHeartbeats 1000000 in
set_option maxRecDepth 100000 in
theorem vx1 (lo : Nat) (p : Pay) (x y : Ast) (hx : qe5 lo x) (hy : qe5 lo y) (w : World) (v : Value) (h : IsNode lo w v (.bin p x y)) :
    Calls Tryz.prog 136 #[v] w (AlikeEnds w (qj4 p.place (qa1 x) (qa1 y))) := by
  obtain ⟨b, g, v1, v2, rfl, hn, hg1, hg2, e1, e2, n1, n2⟩ := h
  obtain ⟨b1, rfl⟩ := n1.ptr
  obtain ⟨b2, rfl⟩ := n2.ptr
  obtain ⟨hab, hbw, c0, c1, c2, c3, c4, c5, c6⟩ := hn
  obtain ⟨pl, hpl⟩ : ∃ pl, p.place = pl := ⟨_, rfl⟩
  rw [hpl] at c1 ⊢
  have N1 := v6 (n1.kept ((Kept.refl lo w).drew))
  have N2 := v6 n2
  have CX := v6 hx
  have CY := v6 hy
  clear c0 c3 c4 c5 c6 n1 n2 hx hy hpl
  cases hxc : qa1 x with
  | err q =>
    have HX := v6 hxc
    clear hxc
    rw [qj4]
    go_enter Tryz.func136, Tryz.ntmps136
    go_wp2_with fail
    go_region_with (first | (go_at_call_of 88 (Value.pointer (some { block := b1, off := 0 })); refine (q9 CX _ _ (q9 N1)).mono ?_; rintro e w1 ⟨hb1, h1⟩; rw [q9 HX] at h1; subst h1; refine gone (w := w1) ⟨rfl, ((Below.refl w.heap.size w).drew).trans hb1, rfl⟩ ?_))
    all_goals trivial
  | ok cx =>
    have HX := v6 hxc
    clear hxc
    cases hyc : qa1 y with
    | err q =>
      have HY := v6 hyc
      clear hyc
      rw [qj4]
      go_enter Tryz.func136, Tryz.ntmps136
      go_wp2_with fail
      go_region_with (first | (go_at_call_of 88 (Value.pointer (some { block := b1, off := 0 })); refine (q9 CX _ _ (q9 N1)).mono ?_; rintro e w1 ⟨hb1, h1⟩; rw [q9 HX] at h1; subst h1; have hb1 : Below w.heap.size w w1 := ((Below.refl w.heap.size w).drew).trans hb1; obtain ⟨hc, hf⟩ := j5 hb1; have k2 : w1.cell? ⟨b, 2, none⟩ = some (.slice (some ⟨g, 0, none⟩) 2 2) := (hc _ 2 hbw).trans c2; have k3 : w1.cell? ⟨g, 0, none⟩ = some (.pointer (some ⟨b1, 0, none⟩)) := (hc _ 0 hg2).trans e1; have k4 : w1.cell? ⟨g, 1, none⟩ = some (.pointer (some ⟨b2, 0, none⟩)) := (hc _ 1 hg2).trans e2; have z1 := hb1.size; have hb1 := v6 hb1; clear hc hf) | (go_at_call_of 88 (Value.pointer (some { block := b2, off := 0 })); refine (q9 CY _ _ ((q9 N2).kept (Kept.of_below (q9 hb1)))).mono ?_; rintro e w2 ⟨hb2, h2⟩; rw [q9 HY] at h2; subst h2; refine gone (w := w2) ⟨rfl, v7 (q9 hb1) hb2, rfl⟩ ?_))
      all_goals trivial
    | ok cy =>
      have HY := v6 hyc
      clear hyc
      rw [qj4]
      obtain ⟨R, hR⟩ : ∃ r, (if (cx != cy && cx != 0 && cy != 0) = true then CRes.err pl else CRes.ok 3) = r := ⟨_, rfl⟩
      rw [hR]
      have HR := v6 hR
      clear hR
      go_enter Tryz.func136, Tryz.ntmps136
      go_wp2_with fail
      go_region_held3 (fun w' => w'.cell? ⟨b, 2, none⟩ = some (.slice (some ⟨g, 0, none⟩) 2 2) ∧ w'.cell? ⟨g, 0, none⟩ = some (.pointer (some ⟨b1, 0, none⟩)) ∧ w'.cell? ⟨g, 1, none⟩ = some (.pointer (some ⟨b2, 0, none⟩))) (go_keep) (first | (go_at_call_of 88 (Value.pointer (some { block := b1, off := 0 })); refine (q9 CX _ _ (q9 N1)).mono ?_; rintro e w1 ⟨hb1, h1⟩; rw [q9 HX] at h1; subst h1; have hb1 : Below w.heap.size w w1 := ((Below.refl w.heap.size w).drew).trans hb1; obtain ⟨hc, hf⟩ := j5 hb1; have k2 : w1.cell? ⟨b, 2, none⟩ = some (.slice (some ⟨g, 0, none⟩) 2 2) := (hc _ 2 hbw).trans c2; have k3 : w1.cell? ⟨g, 0, none⟩ = some (.pointer (some ⟨b1, 0, none⟩)) := (hc _ 0 hg2).trans e1; have k4 : w1.cell? ⟨g, 1, none⟩ = some (.pointer (some ⟨b2, 0, none⟩)) := (hc _ 1 hg2).trans e2; have z1 := hb1.size; have hb1 := v6 hb1; clear hc hf) | (go_at_call_of 88 (Value.pointer (some { block := b2, off := 0 })); refine (q9 CY _ _ ((q9 N2).kept (Kept.of_below (q9 hb1)))).mono ?_; rintro e w2 ⟨hb2, h2⟩; rw [q9 HY] at h2; subst h2; obtain ⟨hc, hf⟩ := j5 hb2; have j1 : w2.cell? ⟨b, 1, none⟩ = some (.int .i64 pl) := (hc _ 1 (by omega)).trans (((j5 (q9 hb1)).1 _ 1 hbw).trans c1); have l2 : w2.cell? ⟨b, 2, none⟩ = some (.slice (some ⟨g, 0, none⟩) 2 2) := (hc _ 2 (by omega)).trans k2; have l3 : w2.cell? ⟨g, 0, none⟩ = some (.pointer (some ⟨b1, 0, none⟩)) := (hc _ 0 (by omega)).trans k3; have l4 : w2.cell? ⟨g, 1, none⟩ = some (.pointer (some ⟨b2, 0, none⟩)) := (hc _ 1 (by omega)).trans k4; have hb2 := v6 (v7 (q9 hb1) hb2); clear hc hf))
      clear k2 k3 k4 l2 l3 l4 c1 c2 e1 e2
      cases h1 : (cx != cy) <;> cases h2 : (cx != 0) <;> cases h3 : (cy != 0)
      all_goals
        rw [h1, h2, h3] at HR
        go_wp2_with fail
        rw [← q9 HR]
        first | exact ⟨rfl, q9 hb2, rfl⟩ | (go_end0; exact ⟨q9 hb2, rfl⟩)
end
section
theorem qd0 {op pl want c : Int} {rs : List CRes} (h : qr7 op pl rs = ve5 want pl c rs) (hq : dem want pl rs true = none) : qr7 op pl rs = .ok c := by
  rw [h, ve5, hq]
theorem qd1 {op pl want c q : Int} {rs : List CRes} (h : qr7 op pl rs = ve5 want pl c rs) (hq : dem want pl rs true = some q) : qr7 op pl rs = .err q := by
  rw [h, ve5, hq]
set_option maxHeartbeats 400000 in
theorem class_0 (lo : Nat) (t : Ast) (ho : (y7 t).op = 0) : qe5 lo t := by
  intro w v h
  have hc : qa1 t = .ok 0 := by rw [qb5, ho]; rfl
  rw [hc]
  obtain ⟨b, sv, rfl, hnode, _⟩ := h.parts
  have c0 := hnode.c0
  rw [ho] at c0
  clear hnode h hc ho
  go_enter Tryz.func88, Tryz.ntmps88
  go_wp2_with fail
  go_ret
  exact ⟨Below.refl _ _, rfl⟩
set_option maxHeartbeats 400000 in
theorem class_1 (lo : Nat) (t : Ast) (ho : (y7 t).op = 1) : qe5 lo t := by
  intro w v h
  have hc : qa1 t = .ok 1 := by rw [qb5, ho]; rfl
  rw [hc]
  obtain ⟨b, sv, rfl, hnode, _⟩ := h.parts
  have c0 := hnode.c0
  rw [ho] at c0
  clear hnode h hc ho
  go_enter Tryz.func88, Tryz.ntmps88
  go_wp2_with fail
  go_ret
  exact ⟨Below.refl _ _, rfl⟩
set_option maxHeartbeats 400000 in
theorem class_2 (lo : Nat) (t : Ast) (ho : (y7 t).op = 2) : qe5 lo t := by
  intro w v h
  have hc : qa1 t = .ok 2 := by rw [qb5, ho]; rfl
  rw [hc]
  obtain ⟨b, sv, rfl, hnode, _⟩ := h.parts
  have c0 := hnode.c0
  rw [ho] at c0
  clear hnode h hc ho
  go_enter Tryz.func88, Tryz.ntmps88
  go_wp2_with fail
  go_ret
  exact ⟨Below.refl _ _, rfl⟩
set_option maxHeartbeats 400000 in
theorem class_5 (lo : Nat) (t : Ast) (hcls : ∀ x ∈ j3 t, qe5 lo x) (ho : (y7 t).op = 5) : qe5 lo t := by
  intro w v h
  have DEM := v6 (qd2 lo t hcls 3 w v h)
  obtain ⟨b, sv, rfl, hnode, _⟩ := h.parts
  have c0 := hnode.c0
  rw [ho] at c0
  cases hd : dem 3 (y7 t).place ((j3 t).map qa1) true with
  | none =>
    have hc : qa1 t = .ok 3 := by rw [qb5, ho]; exact qd0 (c := 3) rfl hd
    rw [hc]
    rw [hd] at DEM
    clear hnode h hc ho hd hcls
    go_enter Tryz.func88, Tryz.ntmps88
    go_wp2_with (go_at_call 135; refine (q9 DEM).mono ?_; rintro e w1 ⟨hb1, h1⟩; subst h1)
    go_ret
    exact ⟨hb1, rfl⟩
  | some q =>
    have hc : qa1 t = .err q := by rw [qb5, ho]; exact qd1 (c := 3) rfl hd
    rw [hc]
    rw [hd] at DEM
    clear hnode h hc ho hd hcls
    go_enter Tryz.func88, Tryz.ntmps88
    go_wp2_with (go_at_call 135; refine (q9 DEM).mono ?_; rintro e w1 ⟨hb1, h1⟩; subst h1; simp only [x3])
    exact ⟨rfl, hb1, rfl⟩
set_option maxHeartbeats 400000 in
theorem class_6 (lo : Nat) (t : Ast) (hcls : ∀ x ∈ j3 t, qe5 lo x) (ho : (y7 t).op = 6) : qe5 lo t := by
  intro w v h
  have DEM := v6 (qd2 lo t hcls 3 w v h)
  obtain ⟨b, sv, rfl, hnode, _⟩ := h.parts
  have c0 := hnode.c0
  rw [ho] at c0
  cases hd : dem 3 (y7 t).place ((j3 t).map qa1) true with
  | none =>
    have hc : qa1 t = .ok 3 := by rw [qb5, ho]; exact qd0 (c := 3) rfl hd
    rw [hc]
    rw [hd] at DEM
    clear hnode h hc ho hd hcls
    go_enter Tryz.func88, Tryz.ntmps88
    go_wp2_with (go_at_call 135; refine (q9 DEM).mono ?_; rintro e w1 ⟨hb1, h1⟩; subst h1)
    go_ret
    exact ⟨hb1, rfl⟩
  | some q =>
    have hc : qa1 t = .err q := by rw [qb5, ho]; exact qd1 (c := 3) rfl hd
    rw [hc]
    rw [hd] at DEM
    clear hnode h hc ho hd hcls
    go_enter Tryz.func88, Tryz.ntmps88
    go_wp2_with (go_at_call 135; refine (q9 DEM).mono ?_; rintro e w1 ⟨hb1, h1⟩; subst h1; simp only [x3])
    exact ⟨rfl, hb1, rfl⟩
set_option maxHeartbeats 400000 in
theorem class_7 (lo : Nat) (t : Ast) (hcls : ∀ x ∈ j3 t, qe5 lo x) (ho : (y7 t).op = 7) : qe5 lo t := by
  intro w v h
  have DEM := v6 (qd2 lo t hcls 3 w v h)
  obtain ⟨b, sv, rfl, hnode, _⟩ := h.parts
  have c0 := hnode.c0
  rw [ho] at c0
  cases hd : dem 3 (y7 t).place ((j3 t).map qa1) true with
  | none =>
    have hc : qa1 t = .ok 3 := by rw [qb5, ho]; exact qd0 (c := 3) rfl hd
    rw [hc]
    rw [hd] at DEM
    clear hnode h hc ho hd hcls
    go_enter Tryz.func88, Tryz.ntmps88
    go_wp2_with (go_at_call 135; refine (q9 DEM).mono ?_; rintro e w1 ⟨hb1, h1⟩; subst h1)
    go_ret
    exact ⟨hb1, rfl⟩
  | some q =>
    have hc : qa1 t = .err q := by rw [qb5, ho]; exact qd1 (c := 3) rfl hd
    rw [hc]
    rw [hd] at DEM
    clear hnode h hc ho hd hcls
    go_enter Tryz.func88, Tryz.ntmps88
    go_wp2_with (go_at_call 135; refine (q9 DEM).mono ?_; rintro e w1 ⟨hb1, h1⟩; subst h1; simp only [x3])
    exact ⟨rfl, hb1, rfl⟩
set_option maxHeartbeats 400000 in
theorem class_10 (lo : Nat) (t : Ast) (hcls : ∀ x ∈ j3 t, qe5 lo x) (ho : (y7 t).op = 10) : qe5 lo t := by
  intro w v h
  have DEM := v6 (qd2 lo t hcls 1 w v h)
  obtain ⟨b, sv, rfl, hnode, _⟩ := h.parts
  have c0 := hnode.c0
  rw [ho] at c0
  cases hd : dem 1 (y7 t).place ((j3 t).map qa1) true with
  | none =>
    have hc : qa1 t = .ok 3 := by rw [qb5, ho]; exact qd0 (c := 3) rfl hd
    rw [hc]
    rw [hd] at DEM
    clear hnode h hc ho hd hcls
    go_enter Tryz.func88, Tryz.ntmps88
    go_wp2_with (go_at_call 135; refine (q9 DEM).mono ?_; rintro e w1 ⟨hb1, h1⟩; subst h1)
    go_ret
    exact ⟨hb1, rfl⟩
  | some q =>
    have hc : qa1 t = .err q := by rw [qb5, ho]; exact qd1 (c := 3) rfl hd
    rw [hc]
    rw [hd] at DEM
    clear hnode h hc ho hd hcls
    go_enter Tryz.func88, Tryz.ntmps88
    go_wp2_with (go_at_call 135; refine (q9 DEM).mono ?_; rintro e w1 ⟨hb1, h1⟩; subst h1; simp only [x3])
    exact ⟨rfl, hb1, rfl⟩
set_option maxHeartbeats 400000 in
theorem class_11 (lo : Nat) (t : Ast) (hcls : ∀ x ∈ j3 t, qe5 lo x) (ho : (y7 t).op = 11) : qe5 lo t := by
  intro w v h
  have DEM := v6 (qd2 lo t hcls 1 w v h)
  obtain ⟨b, sv, rfl, hnode, _⟩ := h.parts
  have c0 := hnode.c0
  rw [ho] at c0
  cases hd : dem 1 (y7 t).place ((j3 t).map qa1) true with
  | none =>
    have hc : qa1 t = .ok 3 := by rw [qb5, ho]; exact qd0 (c := 3) rfl hd
    rw [hc]
    rw [hd] at DEM
    clear hnode h hc ho hd hcls
    go_enter Tryz.func88, Tryz.ntmps88
    go_wp2_with (go_at_call 135; refine (q9 DEM).mono ?_; rintro e w1 ⟨hb1, h1⟩; subst h1)
    go_ret
    exact ⟨hb1, rfl⟩
  | some q =>
    have hc : qa1 t = .err q := by rw [qb5, ho]; exact qd1 (c := 3) rfl hd
    rw [hc]
    rw [hd] at DEM
    clear hnode h hc ho hd hcls
    go_enter Tryz.func88, Tryz.ntmps88
    go_wp2_with (go_at_call 135; refine (q9 DEM).mono ?_; rintro e w1 ⟨hb1, h1⟩; subst h1; simp only [x3])
    exact ⟨rfl, hb1, rfl⟩
set_option maxHeartbeats 400000 in
theorem class_12 (lo : Nat) (t : Ast) (hcls : ∀ x ∈ j3 t, qe5 lo x) (ho : (y7 t).op = 12) : qe5 lo t := by
  intro w v h
  have DEM := v6 (qd2 lo t hcls 1 w v h)
  obtain ⟨b, sv, rfl, hnode, _⟩ := h.parts
  have c0 := hnode.c0
  rw [ho] at c0
  cases hd : dem 1 (y7 t).place ((j3 t).map qa1) true with
  | none =>
    have hc : qa1 t = .ok 3 := by rw [qb5, ho]; exact qd0 (c := 3) rfl hd
    rw [hc]
    rw [hd] at DEM
    clear hnode h hc ho hd hcls
    go_enter Tryz.func88, Tryz.ntmps88
    go_wp2_with (go_at_call 135; refine (q9 DEM).mono ?_; rintro e w1 ⟨hb1, h1⟩; subst h1)
    go_ret
    exact ⟨hb1, rfl⟩
  | some q =>
    have hc : qa1 t = .err q := by rw [qb5, ho]; exact qd1 (c := 3) rfl hd
    rw [hc]
    rw [hd] at DEM
    clear hnode h hc ho hd hcls
    go_enter Tryz.func88, Tryz.ntmps88
    go_wp2_with (go_at_call 135; refine (q9 DEM).mono ?_; rintro e w1 ⟨hb1, h1⟩; subst h1; simp only [x3])
    exact ⟨rfl, hb1, rfl⟩
set_option maxHeartbeats 400000 in
theorem class_13 (lo : Nat) (t : Ast) (hcls : ∀ x ∈ j3 t, qe5 lo x) (ho : (y7 t).op = 13) : qe5 lo t := by
  intro w v h
  have DEM := v6 (qd2 lo t hcls 1 w v h)
  obtain ⟨b, sv, rfl, hnode, _⟩ := h.parts
  have c0 := hnode.c0
  rw [ho] at c0
  cases hd : dem 1 (y7 t).place ((j3 t).map qa1) true with
  | none =>
    have hc : qa1 t = .ok 3 := by rw [qb5, ho]; exact qd0 (c := 3) rfl hd
    rw [hc]
    rw [hd] at DEM
    clear hnode h hc ho hd hcls
    go_enter Tryz.func88, Tryz.ntmps88
    go_wp2_with (go_at_call 135; refine (q9 DEM).mono ?_; rintro e w1 ⟨hb1, h1⟩; subst h1)
    go_ret
    exact ⟨hb1, rfl⟩
  | some q =>
    have hc : qa1 t = .err q := by rw [qb5, ho]; exact qd1 (c := 3) rfl hd
    rw [hc]
    rw [hd] at DEM
    clear hnode h hc ho hd hcls
    go_enter Tryz.func88, Tryz.ntmps88
    go_wp2_with (go_at_call 135; refine (q9 DEM).mono ?_; rintro e w1 ⟨hb1, h1⟩; subst h1; simp only [x3])
    exact ⟨rfl, hb1, rfl⟩
set_option maxHeartbeats 400000 in
theorem class_20 (lo : Nat) (t : Ast) (hcls : ∀ x ∈ j3 t, qe5 lo x) (ho : (y7 t).op = 20) : qe5 lo t := by
  intro w v h
  have DEM := v6 (qd2 lo t hcls 1 w v h)
  obtain ⟨b, sv, rfl, hnode, _⟩ := h.parts
  have c0 := hnode.c0
  rw [ho] at c0
  cases hd : dem 1 (y7 t).place ((j3 t).map qa1) true with
  | none =>
    have hc : qa1 t = .ok 3 := by rw [qb5, ho]; exact qd0 (c := 3) rfl hd
    rw [hc]
    rw [hd] at DEM
    clear hnode h hc ho hd hcls
    go_enter Tryz.func88, Tryz.ntmps88
    go_wp2_with (go_at_call 135; refine (q9 DEM).mono ?_; rintro e w1 ⟨hb1, h1⟩; subst h1)
    go_ret
    exact ⟨hb1, rfl⟩
  | some q =>
    have hc : qa1 t = .err q := by rw [qb5, ho]; exact qd1 (c := 3) rfl hd
    rw [hc]
    rw [hd] at DEM
    clear hnode h hc ho hd hcls
    go_enter Tryz.func88, Tryz.ntmps88
    go_wp2_with (go_at_call 135; refine (q9 DEM).mono ?_; rintro e w1 ⟨hb1, h1⟩; subst h1; simp only [x3])
    exact ⟨rfl, hb1, rfl⟩
set_option maxHeartbeats 400000 in
theorem class_14 (lo : Nat) (t : Ast) (hcls : ∀ x ∈ j3 t, qe5 lo x) (ho : (y7 t).op = 14) : qe5 lo t := by
  intro w v h
  have DEM := v6 (qd2 lo t hcls 1 w v h)
  obtain ⟨b, sv, rfl, hnode, _⟩ := h.parts
  have c0 := hnode.c0
  rw [ho] at c0
  cases hd : dem 1 (y7 t).place ((j3 t).map qa1) true with
  | none =>
    have hc : qa1 t = .ok 1 := by rw [qb5, ho]; exact qd0 (c := 1) rfl hd
    rw [hc]
    rw [hd] at DEM
    clear hnode h hc ho hd hcls
    go_enter Tryz.func88, Tryz.ntmps88
    go_wp2_with (go_at_call 135; refine (q9 DEM).mono ?_; rintro e w1 ⟨hb1, h1⟩; subst h1)
    go_ret
    exact ⟨hb1, rfl⟩
  | some q =>
    have hc : qa1 t = .err q := by rw [qb5, ho]; exact qd1 (c := 1) rfl hd
    rw [hc]
    rw [hd] at DEM
    clear hnode h hc ho hd hcls
    go_enter Tryz.func88, Tryz.ntmps88
    go_wp2_with (go_at_call 135; refine (q9 DEM).mono ?_; rintro e w1 ⟨hb1, h1⟩; subst h1; simp only [x3])
    exact ⟨rfl, hb1, rfl⟩
set_option maxHeartbeats 400000 in
theorem class_15 (lo : Nat) (t : Ast) (hcls : ∀ x ∈ j3 t, qe5 lo x) (ho : (y7 t).op = 15) : qe5 lo t := by
  intro w v h
  have DEM := v6 (qd2 lo t hcls 1 w v h)
  obtain ⟨b, sv, rfl, hnode, _⟩ := h.parts
  have c0 := hnode.c0
  rw [ho] at c0
  cases hd : dem 1 (y7 t).place ((j3 t).map qa1) true with
  | none =>
    have hc : qa1 t = .ok 1 := by rw [qb5, ho]; exact qd0 (c := 1) rfl hd
    rw [hc]
    rw [hd] at DEM
    clear hnode h hc ho hd hcls
    go_enter Tryz.func88, Tryz.ntmps88
    go_wp2_with (go_at_call 135; refine (q9 DEM).mono ?_; rintro e w1 ⟨hb1, h1⟩; subst h1)
    go_ret
    exact ⟨hb1, rfl⟩
  | some q =>
    have hc : qa1 t = .err q := by rw [qb5, ho]; exact qd1 (c := 1) rfl hd
    rw [hc]
    rw [hd] at DEM
    clear hnode h hc ho hd hcls
    go_enter Tryz.func88, Tryz.ntmps88
    go_wp2_with (go_at_call 135; refine (q9 DEM).mono ?_; rintro e w1 ⟨hb1, h1⟩; subst h1; simp only [x3])
    exact ⟨rfl, hb1, rfl⟩
set_option maxHeartbeats 400000 in
theorem class_16 (lo : Nat) (t : Ast) (hcls : ∀ x ∈ j3 t, qe5 lo x) (ho : (y7 t).op = 16) : qe5 lo t := by
  intro w v h
  have DEM := v6 (qd2 lo t hcls 1 w v h)
  obtain ⟨b, sv, rfl, hnode, _⟩ := h.parts
  have c0 := hnode.c0
  rw [ho] at c0
  cases hd : dem 1 (y7 t).place ((j3 t).map qa1) true with
  | none =>
    have hc : qa1 t = .ok 1 := by rw [qb5, ho]; exact qd0 (c := 1) rfl hd
    rw [hc]
    rw [hd] at DEM
    clear hnode h hc ho hd hcls
    go_enter Tryz.func88, Tryz.ntmps88
    go_wp2_with (go_at_call 135; refine (q9 DEM).mono ?_; rintro e w1 ⟨hb1, h1⟩; subst h1)
    go_ret
    exact ⟨hb1, rfl⟩
  | some q =>
    have hc : qa1 t = .err q := by rw [qb5, ho]; exact qd1 (c := 1) rfl hd
    rw [hc]
    rw [hd] at DEM
    clear hnode h hc ho hd hcls
    go_enter Tryz.func88, Tryz.ntmps88
    go_wp2_with (go_at_call 135; refine (q9 DEM).mono ?_; rintro e w1 ⟨hb1, h1⟩; subst h1; simp only [x3])
    exact ⟨rfl, hb1, rfl⟩
set_option maxHeartbeats 400000 in
theorem class_17 (lo : Nat) (t : Ast) (hcls : ∀ x ∈ j3 t, qe5 lo x) (ho : (y7 t).op = 17) : qe5 lo t := by
  intro w v h
  have DEM := v6 (qd2 lo t hcls 1 w v h)
  obtain ⟨b, sv, rfl, hnode, _⟩ := h.parts
  have c0 := hnode.c0
  rw [ho] at c0
  cases hd : dem 1 (y7 t).place ((j3 t).map qa1) true with
  | none =>
    have hc : qa1 t = .ok 1 := by rw [qb5, ho]; exact qd0 (c := 1) rfl hd
    rw [hc]
    rw [hd] at DEM
    clear hnode h hc ho hd hcls
    go_enter Tryz.func88, Tryz.ntmps88
    go_wp2_with (go_at_call 135; refine (q9 DEM).mono ?_; rintro e w1 ⟨hb1, h1⟩; subst h1)
    go_ret
    exact ⟨hb1, rfl⟩
  | some q =>
    have hc : qa1 t = .err q := by rw [qb5, ho]; exact qd1 (c := 1) rfl hd
    rw [hc]
    rw [hd] at DEM
    clear hnode h hc ho hd hcls
    go_enter Tryz.func88, Tryz.ntmps88
    go_wp2_with (go_at_call 135; refine (q9 DEM).mono ?_; rintro e w1 ⟨hb1, h1⟩; subst h1; simp only [x3])
    exact ⟨rfl, hb1, rfl⟩
set_option maxHeartbeats 400000 in
theorem class_18 (lo : Nat) (t : Ast) (hcls : ∀ x ∈ j3 t, qe5 lo x) (ho : (y7 t).op = 18) : qe5 lo t := by
  intro w v h
  have DEM := v6 (qd2 lo t hcls 1 w v h)
  obtain ⟨b, sv, rfl, hnode, _⟩ := h.parts
  have c0 := hnode.c0
  rw [ho] at c0
  cases hd : dem 1 (y7 t).place ((j3 t).map qa1) true with
  | none =>
    have hc : qa1 t = .ok 1 := by rw [qb5, ho]; exact qd0 (c := 1) rfl hd
    rw [hc]
    rw [hd] at DEM
    clear hnode h hc ho hd hcls
    go_enter Tryz.func88, Tryz.ntmps88
    go_wp2_with (go_at_call 135; refine (q9 DEM).mono ?_; rintro e w1 ⟨hb1, h1⟩; subst h1)
    go_ret
    exact ⟨hb1, rfl⟩
  | some q =>
    have hc : qa1 t = .err q := by rw [qb5, ho]; exact qd1 (c := 1) rfl hd
    rw [hc]
    rw [hd] at DEM
    clear hnode h hc ho hd hcls
    go_enter Tryz.func88, Tryz.ntmps88
    go_wp2_with (go_at_call 135; refine (q9 DEM).mono ?_; rintro e w1 ⟨hb1, h1⟩; subst h1; simp only [x3])
    exact ⟨rfl, hb1, rfl⟩
set_option maxHeartbeats 400000 in
theorem class_19 (lo : Nat) (t : Ast) (hcls : ∀ x ∈ j3 t, qe5 lo x) (ho : (y7 t).op = 19) : qe5 lo t := by
  intro w v h
  have DEM := v6 (qd2 lo t hcls 1 w v h)
  obtain ⟨b, sv, rfl, hnode, _⟩ := h.parts
  have c0 := hnode.c0
  rw [ho] at c0
  cases hd : dem 1 (y7 t).place ((j3 t).map qa1) true with
  | none =>
    have hc : qa1 t = .ok 1 := by rw [qb5, ho]; exact qd0 (c := 1) rfl hd
    rw [hc]
    rw [hd] at DEM
    clear hnode h hc ho hd hcls
    go_enter Tryz.func88, Tryz.ntmps88
    go_wp2_with (go_at_call 135; refine (q9 DEM).mono ?_; rintro e w1 ⟨hb1, h1⟩; subst h1)
    go_ret
    exact ⟨hb1, rfl⟩
  | some q =>
    have hc : qa1 t = .err q := by rw [qb5, ho]; exact qd1 (c := 1) rfl hd
    rw [hc]
    rw [hd] at DEM
    clear hnode h hc ho hd hcls
    go_enter Tryz.func88, Tryz.ntmps88
    go_wp2_with (go_at_call 135; refine (q9 DEM).mono ?_; rintro e w1 ⟨hb1, h1⟩; subst h1; simp only [x3])
    exact ⟨rfl, hb1, rfl⟩
set_option maxHeartbeats 400000 in
theorem class_8 (lo : Nat) (p : Pay) (x y : Ast) (hx : qe5 lo x) (hy : qe5 lo y) (ho : p.op = 8) : qe5 lo (.bin p x y) := by
  intro w v h
  have ALI := v6 (vx1 lo p x y hx hy w v h)
  obtain ⟨b, sv, rfl, hnode, _⟩ := h.parts
  have c0 : w.cell? ⟨b, 0, none⟩ = some (.int .i64 p.op) := hnode.c0
  rw [ho] at c0
  have hc : qa1 (.bin p x y) = qj4 p.place (qa1 x) (qa1 y) := by rw [qa1, ho]; rfl
  rw [hc]
  have h3 : ∀ c, qj4 p.place (qa1 x) (qa1 y) = .ok c → c = 3 := by
    intro c h
    unfold qj4 at h
    split at h
    · cases h
    · cases h
    · split at h
      · cases h
      · injection h with h; exact h.symm
  obtain ⟨r, hr⟩ : ∃ r, qj4 p.place (qa1 x) (qa1 y) = r := ⟨_, rfl⟩
  rw [hr] at ALI h3 ⊢
  clear hnode h hc ho hr hx hy
  cases r with
  | ok c =>
    obtain rfl := h3 c rfl
    clear h3
    go_enter Tryz.func88, Tryz.ntmps88
    go_wp2_with (go_at_call 136; refine (q9 ALI).mono ?_; rintro e w1 ⟨hb1, h1⟩; subst h1)
    go_ret
    exact ⟨hb1, rfl⟩
  | err q =>
    clear h3
    go_enter Tryz.func88, Tryz.ntmps88
    go_wp2_with (go_at_call 136; refine (q9 ALI).mono ?_; rintro e w1 ⟨hb1, h1⟩; subst h1; simp only [x3])
    exact ⟨rfl, hb1, rfl⟩
set_option maxHeartbeats 400000 in
theorem class_9 (lo : Nat) (p : Pay) (x y : Ast) (hx : qe5 lo x) (hy : qe5 lo y) (ho : p.op = 9) : qe5 lo (.bin p x y) := by
  intro w v h
  have ALI := v6 (vx1 lo p x y hx hy w v h)
  obtain ⟨b, sv, rfl, hnode, _⟩ := h.parts
  have c0 : w.cell? ⟨b, 0, none⟩ = some (.int .i64 p.op) := hnode.c0
  rw [ho] at c0
  have hc : qa1 (.bin p x y) = qj4 p.place (qa1 x) (qa1 y) := by rw [qa1, ho]; rfl
  rw [hc]
  have h3 : ∀ c, qj4 p.place (qa1 x) (qa1 y) = .ok c → c = 3 := by
    intro c h
    unfold qj4 at h
    split at h
    · cases h
    · cases h
    · split at h
      · cases h
      · injection h with h; exact h.symm
  obtain ⟨r, hr⟩ : ∃ r, qj4 p.place (qa1 x) (qa1 y) = r := ⟨_, rfl⟩
  rw [hr] at ALI h3 ⊢
  clear hnode h hc ho hr hx hy
  cases r with
  | ok c =>
    obtain rfl := h3 c rfl
    clear h3
    go_enter Tryz.func88, Tryz.ntmps88
    go_wp2_with (go_at_call 136; refine (q9 ALI).mono ?_; rintro e w1 ⟨hb1, h1⟩; subst h1)
    go_ret
    exact ⟨hb1, rfl⟩
  | err q =>
    clear h3
    go_enter Tryz.func88, Tryz.ntmps88
    go_wp2_with (go_at_call 136; refine (q9 ALI).mono ?_; rintro e w1 ⟨hb1, h1⟩; subst h1; simp only [x3])
    exact ⟨rfl, hb1, rfl⟩
set_option maxHeartbeats 400000 in
theorem jr1 (lo : Nat) (t : Ast) (h0 : ¬ (y7 t).op = 0) (h1 : ¬ (y7 t).op = 1) (h2 : ¬ (y7 t).op = 2) (h5 : ¬ (y7 t).op = 5) (h6 : ¬ (y7 t).op = 6) (h7 : ¬ (y7 t).op = 7) (h10 : ¬ (y7 t).op = 10) (h11 : ¬ (y7 t).op = 11) (h12 : ¬ (y7 t).op = 12) (h13 : ¬ (y7 t).op = 13) (h20 : ¬ (y7 t).op = 20) (h14 : ¬ (y7 t).op = 14) (h15 : ¬ (y7 t).op = 15) (h16 : ¬ (y7 t).op = 16) (h17 : ¬ (y7 t).op = 17) (h18 : ¬ (y7 t).op = 18) (h19 : ¬ (y7 t).op = 19) (h8 : ¬ (y7 t).op = 8) (h9 : ¬ (y7 t).op = 9) : qe5 lo t := by
  intro w v h
  have e0 : ((y7 t).op == 0) = false := beq_eq_false_iff_ne.2 h0
  have e1 : ((y7 t).op == 1) = false := beq_eq_false_iff_ne.2 h1
  have e2 : ((y7 t).op == 2) = false := beq_eq_false_iff_ne.2 h2
  have e5 : ((y7 t).op == 5) = false := beq_eq_false_iff_ne.2 h5
  have e6 : ((y7 t).op == 6) = false := beq_eq_false_iff_ne.2 h6
  have e7 : ((y7 t).op == 7) = false := beq_eq_false_iff_ne.2 h7
  have e10 : ((y7 t).op == 10) = false := beq_eq_false_iff_ne.2 h10
  have e11 : ((y7 t).op == 11) = false := beq_eq_false_iff_ne.2 h11
  have e12 : ((y7 t).op == 12) = false := beq_eq_false_iff_ne.2 h12
  have e13 : ((y7 t).op == 13) = false := beq_eq_false_iff_ne.2 h13
  have e20 : ((y7 t).op == 20) = false := beq_eq_false_iff_ne.2 h20
  have e14 : ((y7 t).op == 14) = false := beq_eq_false_iff_ne.2 h14
  have e15 : ((y7 t).op == 15) = false := beq_eq_false_iff_ne.2 h15
  have e16 : ((y7 t).op == 16) = false := beq_eq_false_iff_ne.2 h16
  have e17 : ((y7 t).op == 17) = false := beq_eq_false_iff_ne.2 h17
  have e18 : ((y7 t).op == 18) = false := beq_eq_false_iff_ne.2 h18
  have e19 : ((y7 t).op == 19) = false := beq_eq_false_iff_ne.2 h19
  have e8 : ((y7 t).op == 8) = false := beq_eq_false_iff_ne.2 h8
  have e9 : ((y7 t).op == 9) = false := beq_eq_false_iff_ne.2 h9
  have hc : qa1 t = .ok 3 := by rw [qb5]; simp only [qr7, e0, e1, e2, e5, e6, e7, e10, e11, e12, e13, e20, e14, e15, e16, e17, e18, e19, e8, e9, Bool.or_self, Bool.false_eq_true, if_false]
  rw [hc]
  obtain ⟨b, sv, rfl, hnode, _⟩ := h.parts
  have c0 := hnode.c0
  clear hnode h hc h0 h1 h2 h5 h6 h7 h10 h11 h12 h13 h20 h14 h15 h16 h17 h18 h19 h8 h9
  go_enter Tryz.func88, Tryz.ntmps88
  go_wp2_with fail
  go_ret
  exact ⟨Below.refl _ _, rfl⟩
theorem qx4 (lo : Nat) (t : Ast) (hwf : WfA t) (hcls : ∀ x ∈ j3 t, qe5 lo x) : qe5 lo t := by
  by_cases h0 : (y7 t).op = 0
  · exact class_0 lo t h0
  by_cases h1 : (y7 t).op = 1
  · exact class_1 lo t h1
  by_cases h2 : (y7 t).op = 2
  · exact class_2 lo t h2
  by_cases h5 : (y7 t).op = 5
  · exact class_5 lo t hcls h5
  by_cases h6 : (y7 t).op = 6
  · exact class_6 lo t hcls h6
  by_cases h7 : (y7 t).op = 7
  · exact class_7 lo t hcls h7
  by_cases h10 : (y7 t).op = 10
  · exact class_10 lo t hcls h10
  by_cases h11 : (y7 t).op = 11
  · exact class_11 lo t hcls h11
  by_cases h12 : (y7 t).op = 12
  · exact class_12 lo t hcls h12
  by_cases h13 : (y7 t).op = 13
  · exact class_13 lo t hcls h13
  by_cases h20 : (y7 t).op = 20
  · exact class_20 lo t hcls h20
  by_cases h14 : (y7 t).op = 14
  · exact class_14 lo t hcls h14
  by_cases h15 : (y7 t).op = 15
  · exact class_15 lo t hcls h15
  by_cases h16 : (y7 t).op = 16
  · exact class_16 lo t hcls h16
  by_cases h17 : (y7 t).op = 17
  · exact class_17 lo t hcls h17
  by_cases h18 : (y7 t).op = 18
  · exact class_18 lo t hcls h18
  by_cases h19 : (y7 t).op = 19
  · exact class_19 lo t hcls h19
  by_cases h8 : (y7 t).op = 8
  · cases t with
    | leaf p => exact absurd h8 hwf.1
    | un p x => exact absurd h8 hwf.1.1
    | bin p x y => exact class_8 lo p x y (hcls x (by simp [j3])) (hcls y (by simp [j3])) h8
    | tri p x y z => exact absurd h8 hwf.1.1
  by_cases h9 : (y7 t).op = 9
  · cases t with
    | leaf p => exact absurd h9 hwf.2
    | un p x => exact absurd h9 hwf.1.2
    | bin p x y => exact class_9 lo p x y (hcls x (by simp [j3])) (hcls y (by simp [j3])) h9
    | tri p x y z => exact absurd h9 hwf.1.2
  exact jr1 lo t h0 h1 h2 h5 h6 h7 h10 h11 h12 h13 h20 h14 h15 h16 h17 h18 h19 h8 h9
theorem class_all (lo : Nat) : ∀ t, WfA t → qe5 lo t := by
  intro t
  induction t with
  | leaf p => intro h; exact qx4 lo _ h (fun x hx => by simp [j3] at hx)
  | un p x ih => intro h; exact qx4 lo _ h (fun y hy => by simp [j3] at hy; subst hy; exact ih h.2)
  | bin p x y ihx ihy => intro h; exact qx4 lo _ h (fun z hz => by simp [j3] at hz; rcases hz with rfl | rfl; exact ihx h.1; exact ihy h.2)
  | tri p x y z ihx ihy ihz => intro h; exact qx4 lo _ h (fun u hu => by simp [j3] at hu; rcases hu with rfl | rfl | rfl; exact ihx h.2.1; exact ihy h.2.2.1; exact ihz h.2.2.2)
set_option maxHeartbeats 400000 in
theorem check_any (lo : Nat) (t : Ast) (hwf : WfA t) (w : World) (v : Value) (h : IsNode lo w v t) :
    Calls Tryz.prog 58 #[v] w (DemEnds w (chkR (qa1 t))) := by
  have CLS := v6 (class_all lo t hwf w v h)
  obtain ⟨b, rfl⟩ := h.ptr
  clear h hwf
  cases hc : qa1 t with
  | err q =>
    rw [hc] at CLS
    clear hc
    go_enter Tryz.func58, Tryz.ntmps58
    go_wp2_with (go_at_call 88; refine (q9 CLS).mono ?_; rintro e w1 ⟨hb1, h1⟩; subst h1; simp only [x3])
    exact ⟨rfl, hb1, rfl⟩
  | ok c =>
    rw [hc] at CLS
    clear hc
    cases h1 : (c != 3) <;> cases h2 : (c != 0)
    all_goals
      rw [chkR, h1, h2]
      simp only [Bool.and_true, Bool.and_false, Bool.and_self, Bool.false_eq_true, if_false, if_true]
      go_enter Tryz.func58, Tryz.ntmps58
      go_wp2_with (go_at_call 88; refine (q9 CLS).mono ?_; rintro e w1 ⟨hb1, h1⟩; subst h1)
      first | exact ⟨rfl, hb1, rfl⟩ | (go_end0; exact ⟨hb1, rfl⟩)
end
section
set_option maxHeartbeats 1000000 in
set_option maxRecDepth 100000 in
theorem join_5 (x y : V) : qj2 5 x y (notV x) := by
  intro w
  have CON := v6 (fun w => jq2 x w)
  conv => arg 3; simp only [vV]
  go_enter Tryz.func106, Tryz.ntmps106
  repeat ((fail_if_success (with_reducible refine wp_exit ?_)); go_step)
  with_reducible refine wp_exit ?_
  repeat (first | (with_reducible refine qd7 ?_) | (with_reducible refine qa2 ?_) | ((with_reducible refine y5 ?hne ?_); (case hne => rfl)))
  with_reducible refine qa3 ?_
  go_wp2_with (go_at_call 148; refine (q9 CON _).mono ?_; rintro e w1 ⟨rfl, hb1⟩; obtain ⟨hc1, hf1⟩ := j5 hb1; have hz1 : w.heap.size + 2 < w1.heap.size := (by have := hb1.size; simp at this; omega); simp only [vV])
  refine bodyPost_ret (by simp [results, Tryz.results106, go_sem, hc1] <;> rfl) rfl ⟨rfl, ?_⟩
  exact ((((v7 (qb2 _ _ _ _) hb1).setCell (by simp; omega) _).setCell (by simp; omega) _).setCell (by simp; omega) _)
end
section
set_option maxHeartbeats 1000000 in
set_option maxRecDepth 100000 in
theorem join_6 (x y : V) : qj2 6 x y (andV x y) := by
  intro w
  have CON := v6 (fun w => jq1 x y w)
  conv => arg 3; simp only [vV]
  go_enter Tryz.func106, Tryz.ntmps106
  repeat ((fail_if_success (with_reducible refine wp_exit ?_)); go_step)
  with_reducible refine wp_exit ?_
  repeat (first | (with_reducible refine qd7 ?_) | (with_reducible refine qa2 ?_) | ((with_reducible refine y5 ?hne ?_); (case hne => rfl)))
  with_reducible refine qa3 ?_
  go_wp2_with (go_at_call 149; refine (q9 CON _).mono ?_; rintro e w1 ⟨rfl, hb1⟩; obtain ⟨hc1, hf1⟩ := j5 hb1; have hz1 : w.heap.size + 2 < w1.heap.size := (by have := hb1.size; simp at this; omega); simp only [vV])
  refine bodyPost_ret (by simp [results, Tryz.results106, go_sem, hc1] <;> rfl) rfl ⟨rfl, ?_⟩
  exact ((((v7 (qb2 _ _ _ _) hb1).setCell (by simp; omega) _).setCell (by simp; omega) _).setCell (by simp; omega) _)
end
section
set_option maxHeartbeats 1000000 in
set_option maxRecDepth 100000 in
theorem join_7 (x y : V) : qj2 7 x y (orV x y) := by
  intro w
  have CON := v6 (fun w => vOr_any x y w)
  conv => arg 3; simp only [vV]
  go_enter Tryz.func106, Tryz.ntmps106
  repeat ((fail_if_success (with_reducible refine wp_exit ?_)); go_step)
  with_reducible refine wp_exit ?_
  repeat (first | (with_reducible refine qd7 ?_) | (with_reducible refine qa2 ?_) | ((with_reducible refine y5 ?hne ?_); (case hne => rfl)))
  with_reducible refine qa3 ?_
  go_wp2_with (go_at_call 150; refine (q9 CON _).mono ?_; rintro e w1 ⟨rfl, hb1⟩; obtain ⟨hc1, hf1⟩ := j5 hb1; have hz1 : w.heap.size + 2 < w1.heap.size := (by have := hb1.size; simp at this; omega); simp only [vV])
  refine bodyPost_ret (by simp [results, Tryz.results106, go_sem, hc1] <;> rfl) rfl ⟨rfl, ?_⟩
  exact ((((v7 (qb2 _ _ _ _) hb1).setCell (by simp; omega) _).setCell (by simp; omega) _).setCell (by simp; omega) _)
end
section
set_option maxHeartbeats 1000000 in
set_option maxRecDepth 100000 in
theorem join_8 (x y : V) : qj2 8 x y (eqV x y) := by
  intro w
  have CON := v6 (fun w => ve3 x y w)
  conv => arg 3; simp only [vV]
  go_enter Tryz.func106, Tryz.ntmps106
  repeat ((fail_if_success (with_reducible refine wp_exit ?_)); go_step)
  with_reducible refine wp_exit ?_
  repeat (first | (with_reducible refine qd7 ?_) | (with_reducible refine qa2 ?_) | ((with_reducible refine y5 ?hne ?_); (case hne => rfl)))
  with_reducible refine qa3 ?_
  go_wp2_with (go_at_call 151; refine (q9 CON _).mono ?_; rintro e w1 ⟨rfl, hb1⟩; obtain ⟨hc1, hf1⟩ := j5 hb1; have hz1 : w.heap.size + 2 < w1.heap.size := (by have := hb1.size; simp at this; omega); simp only [vV])
  refine bodyPost_ret (by simp [results, Tryz.results106, go_sem, hc1] <;> rfl) rfl ⟨rfl, ?_⟩
  exact ((((v7 (qb2 _ _ _ _) hb1).setCell (by simp; omega) _).setCell (by simp; omega) _).setCell (by simp; omega) _)
end
end Go.Proofs.YtfkcaldjphakpabGreatDoor
