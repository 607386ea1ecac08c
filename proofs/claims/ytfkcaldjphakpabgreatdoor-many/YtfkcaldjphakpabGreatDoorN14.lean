/- demandAlike, class, checkClasses. class, checkClasses. -/
import Derived.Test.YtfkcaldjphakpabGreatDoorN26
import Derived.Deep.RegionHeld3
namespace Go.Proofs.YtfkcaldjphakpabGreatDoor
open Go.RowKit

section
def AlikeEnds (w : World) (r : CRes) (e : Ending) (w' : World) : Prop := Below w.heap.size w w' ∧ match r with
  | .ok _ => e = .returned (.tuple #[])
  | .err q => e = gaveUp 4 q

set_option maxHeartbeats 1000000 in
set_option maxRecDepth 100000 in
theorem alike_any (lo : Nat) (p : Pay) (x y : Ast) (hx : ClsOk lo x) (hy : ClsOk lo y) (w : World) (v : Value) (h : IsNode lo w v (.bin p x y)) :
    Calls Tryz.prog 136 #[v] w (AlikeEnds w (alikeR p.place (clsA x) (clsA y))) := by
  obtain ⟨b, g, v1, v2, rfl, hn, hg1, hg2, e1, e2, n1, n2⟩ := h
  obtain ⟨b1, rfl⟩ := n1.ptr
  obtain ⟨b2, rfl⟩ := n2.ptr
  obtain ⟨hab, hbw, c0, c1, c2, c3, c4, c5, c6⟩ := hn
  obtain ⟨pl, hpl⟩ : ∃ pl, p.place = pl := ⟨_, rfl⟩
  rw [hpl] at c1 ⊢
  have N1 := hide (n1.kept ((Kept.refl lo w).drew))
  have N2 := hide n2
  have CX := hide hx
  have CY := hide hy
  clear c0 c3 c4 c5 c6 n1 n2 hx hy hpl
  cases hxc : clsA x with
  | err q =>
    have HX := hide hxc
    clear hxc
    rw [alikeR]
    go_enter Tryz.func136, Tryz.ntmps136
    go_wp2_with fail
    go_region_with (first | (go_at_call_of 88 (Value.pointer (some { block := b1, off := 0 })); refine (unhide CX _ _ (unhide N1)).mono ?_; rintro e w1 ⟨hb1, h1⟩; rw [unhide HX] at h1; subst h1; refine gone (w := w1) ⟨rfl, ((Below.refl w.heap.size w).drew).trans hb1, rfl⟩ ?_))
    all_goals trivial
  | ok cx =>
    have HX := hide hxc
    clear hxc
    cases hyc : clsA y with
    | err q =>
      have HY := hide hyc
      clear hyc
      rw [alikeR]
      go_enter Tryz.func136, Tryz.ntmps136
      go_wp2_with fail
      go_region_with (first | (go_at_call_of 88 (Value.pointer (some { block := b1, off := 0 })); refine (unhide CX _ _ (unhide N1)).mono ?_; rintro e w1 ⟨hb1, h1⟩; rw [unhide HX] at h1; subst h1; have hb1 : Below w.heap.size w w1 := ((Below.refl w.heap.size w).drew).trans hb1; obtain ⟨hc, hf⟩ := bcell hb1; have k2 : w1.cell? ⟨b, 2, none⟩ = some (.slice (some ⟨g, 0, none⟩) 2 2) := (hc _ 2 hbw).trans c2; have k3 : w1.cell? ⟨g, 0, none⟩ = some (.pointer (some ⟨b1, 0, none⟩)) := (hc _ 0 hg2).trans e1; have k4 : w1.cell? ⟨g, 1, none⟩ = some (.pointer (some ⟨b2, 0, none⟩)) := (hc _ 1 hg2).trans e2; have z1 := hb1.size; have hb1 := hide hb1; clear hc hf) | (go_at_call_of 88 (Value.pointer (some { block := b2, off := 0 })); refine (unhide CY _ _ ((unhide N2).kept (Kept.of_below (unhide hb1)))).mono ?_; rintro e w2 ⟨hb2, h2⟩; rw [unhide HY] at h2; subst h2; refine gone (w := w2) ⟨rfl, below_any (unhide hb1) hb2, rfl⟩ ?_))
      all_goals trivial
    | ok cy =>
      have HY := hide hyc
      clear hyc
      rw [alikeR]
      obtain ⟨R, hR⟩ : ∃ r, (if (cx != cy && cx != 0 && cy != 0) = true then CRes.err pl else CRes.ok 3) = r := ⟨_, rfl⟩
      rw [hR]
      have HR := hide hR
      clear hR
      go_enter Tryz.func136, Tryz.ntmps136
      go_wp2_with fail
      go_region_held3 (fun w' => w'.cell? ⟨b, 2, none⟩ = some (.slice (some ⟨g, 0, none⟩) 2 2) ∧ w'.cell? ⟨g, 0, none⟩ = some (.pointer (some ⟨b1, 0, none⟩)) ∧ w'.cell? ⟨g, 1, none⟩ = some (.pointer (some ⟨b2, 0, none⟩))) (go_keep) (first | (go_at_call_of 88 (Value.pointer (some { block := b1, off := 0 })); refine (unhide CX _ _ (unhide N1)).mono ?_; rintro e w1 ⟨hb1, h1⟩; rw [unhide HX] at h1; subst h1; have hb1 : Below w.heap.size w w1 := ((Below.refl w.heap.size w).drew).trans hb1; obtain ⟨hc, hf⟩ := bcell hb1; have k2 : w1.cell? ⟨b, 2, none⟩ = some (.slice (some ⟨g, 0, none⟩) 2 2) := (hc _ 2 hbw).trans c2; have k3 : w1.cell? ⟨g, 0, none⟩ = some (.pointer (some ⟨b1, 0, none⟩)) := (hc _ 0 hg2).trans e1; have k4 : w1.cell? ⟨g, 1, none⟩ = some (.pointer (some ⟨b2, 0, none⟩)) := (hc _ 1 hg2).trans e2; have z1 := hb1.size; have hb1 := hide hb1; clear hc hf) | (go_at_call_of 88 (Value.pointer (some { block := b2, off := 0 })); refine (unhide CY _ _ ((unhide N2).kept (Kept.of_below (unhide hb1)))).mono ?_; rintro e w2 ⟨hb2, h2⟩; rw [unhide HY] at h2; subst h2; obtain ⟨hc, hf⟩ := bcell hb2; have j1 : w2.cell? ⟨b, 1, none⟩ = some (.int .i64 pl) := (hc _ 1 (by omega)).trans (((bcell (unhide hb1)).1 _ 1 hbw).trans c1); have l2 : w2.cell? ⟨b, 2, none⟩ = some (.slice (some ⟨g, 0, none⟩) 2 2) := (hc _ 2 (by omega)).trans k2; have l3 : w2.cell? ⟨g, 0, none⟩ = some (.pointer (some ⟨b1, 0, none⟩)) := (hc _ 0 (by omega)).trans k3; have l4 : w2.cell? ⟨g, 1, none⟩ = some (.pointer (some ⟨b2, 0, none⟩)) := (hc _ 1 (by omega)).trans k4; have hb2 := hide (below_any (unhide hb1) hb2); clear hc hf))
      clear k2 k3 k4 l2 l3 l4 c1 c2 e1 e2
      cases h1 : (cx != cy) <;> cases h2 : (cx != 0) <;> cases h3 : (cy != 0)
      all_goals
        rw [h1, h2, h3] at HR
        go_wp2_with fail
        rw [← unhide HR]
        first | exact ⟨rfl, unhide hb2, rfl⟩ | (go_end0; exact ⟨unhide hb2, rfl⟩)
end

section
theorem clsOf_none {op pl want c : Int} {rs : List CRes} (h : clsOf op pl rs = demR want pl c rs) (hq : dem want pl rs true = none) : clsOf op pl rs = .ok c := by
  rw [h, demR, hq]
theorem clsOf_some {op pl want c q : Int} {rs : List CRes} (h : clsOf op pl rs = demR want pl c rs) (hq : dem want pl rs true = some q) : clsOf op pl rs = .err q := by
  rw [h, demR, hq]

set_option maxHeartbeats 400000 in
theorem class_0 (lo : Nat) (t : Ast) (ho : (payA t).op = 0) : ClsOk lo t := by
  intro w v h
  have hc : clsA t = .ok 0 := by rw [clsA_eq, ho]; rfl
  rw [hc]
  obtain ⟨b, sv, rfl, hnode, _⟩ := h.parts
  have c0 := hnode.c0
  rw [ho] at c0
  clear hnode h hc ho
  go_enter Tryz.func88, Tryz.ntmps88
  go_wp2_with fail
  go_ret
  exact ⟨Below.refl _ _, rfl⟩

set_option maxHeartbeats 400000 in
theorem class_1 (lo : Nat) (t : Ast) (ho : (payA t).op = 1) : ClsOk lo t := by
  intro w v h
  have hc : clsA t = .ok 1 := by rw [clsA_eq, ho]; rfl
  rw [hc]
  obtain ⟨b, sv, rfl, hnode, _⟩ := h.parts
  have c0 := hnode.c0
  rw [ho] at c0
  clear hnode h hc ho
  go_enter Tryz.func88, Tryz.ntmps88
  go_wp2_with fail
  go_ret
  exact ⟨Below.refl _ _, rfl⟩

set_option maxHeartbeats 400000 in
theorem class_2 (lo : Nat) (t : Ast) (ho : (payA t).op = 2) : ClsOk lo t := by
  intro w v h
  have hc : clsA t = .ok 2 := by rw [clsA_eq, ho]; rfl
  rw [hc]
  obtain ⟨b, sv, rfl, hnode, _⟩ := h.parts
  have c0 := hnode.c0
  rw [ho] at c0
  clear hnode h hc ho
  go_enter Tryz.func88, Tryz.ntmps88
  go_wp2_with fail
  go_ret
  exact ⟨Below.refl _ _, rfl⟩

set_option maxHeartbeats 400000 in
theorem class_5 (lo : Nat) (t : Ast) (hcls : ∀ x ∈ sidesA t, ClsOk lo x) (ho : (payA t).op = 5) : ClsOk lo t := by
  intro w v h
  have DEM := hide (demand_any lo t hcls 3 w v h)
  obtain ⟨b, sv, rfl, hnode, _⟩ := h.parts
  have c0 := hnode.c0
  rw [ho] at c0
  cases hd : dem 3 (payA t).place ((sidesA t).map clsA) true with
  | none =>
    have hc : clsA t = .ok 3 := by rw [clsA_eq, ho]; exact clsOf_none (c := 3) rfl hd
    rw [hc]
    rw [hd] at DEM
    clear hnode h hc ho hd hcls
    go_enter Tryz.func88, Tryz.ntmps88
    go_wp2_with (go_at_call 135; refine (unhide DEM).mono ?_; rintro e w1 ⟨hb1, h1⟩; subst h1)
    go_ret
    exact ⟨hb1, rfl⟩
  | some q =>
    have hc : clsA t = .err q := by rw [clsA_eq, ho]; exact clsOf_some (c := 3) rfl hd
    rw [hc]
    rw [hd] at DEM
    clear hnode h hc ho hd hcls
    go_enter Tryz.func88, Tryz.ntmps88
    go_wp2_with (go_at_call 135; refine (unhide DEM).mono ?_; rintro e w1 ⟨hb1, h1⟩; subst h1; simp only [gaveUp])
    exact ⟨rfl, hb1, rfl⟩

set_option maxHeartbeats 400000 in
theorem class_6 (lo : Nat) (t : Ast) (hcls : ∀ x ∈ sidesA t, ClsOk lo x) (ho : (payA t).op = 6) : ClsOk lo t := by
  intro w v h
  have DEM := hide (demand_any lo t hcls 3 w v h)
  obtain ⟨b, sv, rfl, hnode, _⟩ := h.parts
  have c0 := hnode.c0
  rw [ho] at c0
  cases hd : dem 3 (payA t).place ((sidesA t).map clsA) true with
  | none =>
    have hc : clsA t = .ok 3 := by rw [clsA_eq, ho]; exact clsOf_none (c := 3) rfl hd
    rw [hc]
    rw [hd] at DEM
    clear hnode h hc ho hd hcls
    go_enter Tryz.func88, Tryz.ntmps88
    go_wp2_with (go_at_call 135; refine (unhide DEM).mono ?_; rintro e w1 ⟨hb1, h1⟩; subst h1)
    go_ret
    exact ⟨hb1, rfl⟩
  | some q =>
    have hc : clsA t = .err q := by rw [clsA_eq, ho]; exact clsOf_some (c := 3) rfl hd
    rw [hc]
    rw [hd] at DEM
    clear hnode h hc ho hd hcls
    go_enter Tryz.func88, Tryz.ntmps88
    go_wp2_with (go_at_call 135; refine (unhide DEM).mono ?_; rintro e w1 ⟨hb1, h1⟩; subst h1; simp only [gaveUp])
    exact ⟨rfl, hb1, rfl⟩

set_option maxHeartbeats 400000 in
theorem class_7 (lo : Nat) (t : Ast) (hcls : ∀ x ∈ sidesA t, ClsOk lo x) (ho : (payA t).op = 7) : ClsOk lo t := by
  intro w v h
  have DEM := hide (demand_any lo t hcls 3 w v h)
  obtain ⟨b, sv, rfl, hnode, _⟩ := h.parts
  have c0 := hnode.c0
  rw [ho] at c0
  cases hd : dem 3 (payA t).place ((sidesA t).map clsA) true with
  | none =>
    have hc : clsA t = .ok 3 := by rw [clsA_eq, ho]; exact clsOf_none (c := 3) rfl hd
    rw [hc]
    rw [hd] at DEM
    clear hnode h hc ho hd hcls
    go_enter Tryz.func88, Tryz.ntmps88
    go_wp2_with (go_at_call 135; refine (unhide DEM).mono ?_; rintro e w1 ⟨hb1, h1⟩; subst h1)
    go_ret
    exact ⟨hb1, rfl⟩
  | some q =>
    have hc : clsA t = .err q := by rw [clsA_eq, ho]; exact clsOf_some (c := 3) rfl hd
    rw [hc]
    rw [hd] at DEM
    clear hnode h hc ho hd hcls
    go_enter Tryz.func88, Tryz.ntmps88
    go_wp2_with (go_at_call 135; refine (unhide DEM).mono ?_; rintro e w1 ⟨hb1, h1⟩; subst h1; simp only [gaveUp])
    exact ⟨rfl, hb1, rfl⟩

set_option maxHeartbeats 400000 in
theorem class_10 (lo : Nat) (t : Ast) (hcls : ∀ x ∈ sidesA t, ClsOk lo x) (ho : (payA t).op = 10) : ClsOk lo t := by
  intro w v h
  have DEM := hide (demand_any lo t hcls 1 w v h)
  obtain ⟨b, sv, rfl, hnode, _⟩ := h.parts
  have c0 := hnode.c0
  rw [ho] at c0
  cases hd : dem 1 (payA t).place ((sidesA t).map clsA) true with
  | none =>
    have hc : clsA t = .ok 3 := by rw [clsA_eq, ho]; exact clsOf_none (c := 3) rfl hd
    rw [hc]
    rw [hd] at DEM
    clear hnode h hc ho hd hcls
    go_enter Tryz.func88, Tryz.ntmps88
    go_wp2_with (go_at_call 135; refine (unhide DEM).mono ?_; rintro e w1 ⟨hb1, h1⟩; subst h1)
    go_ret
    exact ⟨hb1, rfl⟩
  | some q =>
    have hc : clsA t = .err q := by rw [clsA_eq, ho]; exact clsOf_some (c := 3) rfl hd
    rw [hc]
    rw [hd] at DEM
    clear hnode h hc ho hd hcls
    go_enter Tryz.func88, Tryz.ntmps88
    go_wp2_with (go_at_call 135; refine (unhide DEM).mono ?_; rintro e w1 ⟨hb1, h1⟩; subst h1; simp only [gaveUp])
    exact ⟨rfl, hb1, rfl⟩

set_option maxHeartbeats 400000 in
theorem class_11 (lo : Nat) (t : Ast) (hcls : ∀ x ∈ sidesA t, ClsOk lo x) (ho : (payA t).op = 11) : ClsOk lo t := by
  intro w v h
  have DEM := hide (demand_any lo t hcls 1 w v h)
  obtain ⟨b, sv, rfl, hnode, _⟩ := h.parts
  have c0 := hnode.c0
  rw [ho] at c0
  cases hd : dem 1 (payA t).place ((sidesA t).map clsA) true with
  | none =>
    have hc : clsA t = .ok 3 := by rw [clsA_eq, ho]; exact clsOf_none (c := 3) rfl hd
    rw [hc]
    rw [hd] at DEM
    clear hnode h hc ho hd hcls
    go_enter Tryz.func88, Tryz.ntmps88
    go_wp2_with (go_at_call 135; refine (unhide DEM).mono ?_; rintro e w1 ⟨hb1, h1⟩; subst h1)
    go_ret
    exact ⟨hb1, rfl⟩
  | some q =>
    have hc : clsA t = .err q := by rw [clsA_eq, ho]; exact clsOf_some (c := 3) rfl hd
    rw [hc]
    rw [hd] at DEM
    clear hnode h hc ho hd hcls
    go_enter Tryz.func88, Tryz.ntmps88
    go_wp2_with (go_at_call 135; refine (unhide DEM).mono ?_; rintro e w1 ⟨hb1, h1⟩; subst h1; simp only [gaveUp])
    exact ⟨rfl, hb1, rfl⟩

set_option maxHeartbeats 400000 in
theorem class_12 (lo : Nat) (t : Ast) (hcls : ∀ x ∈ sidesA t, ClsOk lo x) (ho : (payA t).op = 12) : ClsOk lo t := by
  intro w v h
  have DEM := hide (demand_any lo t hcls 1 w v h)
  obtain ⟨b, sv, rfl, hnode, _⟩ := h.parts
  have c0 := hnode.c0
  rw [ho] at c0
  cases hd : dem 1 (payA t).place ((sidesA t).map clsA) true with
  | none =>
    have hc : clsA t = .ok 3 := by rw [clsA_eq, ho]; exact clsOf_none (c := 3) rfl hd
    rw [hc]
    rw [hd] at DEM
    clear hnode h hc ho hd hcls
    go_enter Tryz.func88, Tryz.ntmps88
    go_wp2_with (go_at_call 135; refine (unhide DEM).mono ?_; rintro e w1 ⟨hb1, h1⟩; subst h1)
    go_ret
    exact ⟨hb1, rfl⟩
  | some q =>
    have hc : clsA t = .err q := by rw [clsA_eq, ho]; exact clsOf_some (c := 3) rfl hd
    rw [hc]
    rw [hd] at DEM
    clear hnode h hc ho hd hcls
    go_enter Tryz.func88, Tryz.ntmps88
    go_wp2_with (go_at_call 135; refine (unhide DEM).mono ?_; rintro e w1 ⟨hb1, h1⟩; subst h1; simp only [gaveUp])
    exact ⟨rfl, hb1, rfl⟩

set_option maxHeartbeats 400000 in
theorem class_13 (lo : Nat) (t : Ast) (hcls : ∀ x ∈ sidesA t, ClsOk lo x) (ho : (payA t).op = 13) : ClsOk lo t := by
  intro w v h
  have DEM := hide (demand_any lo t hcls 1 w v h)
  obtain ⟨b, sv, rfl, hnode, _⟩ := h.parts
  have c0 := hnode.c0
  rw [ho] at c0
  cases hd : dem 1 (payA t).place ((sidesA t).map clsA) true with
  | none =>
    have hc : clsA t = .ok 3 := by rw [clsA_eq, ho]; exact clsOf_none (c := 3) rfl hd
    rw [hc]
    rw [hd] at DEM
    clear hnode h hc ho hd hcls
    go_enter Tryz.func88, Tryz.ntmps88
    go_wp2_with (go_at_call 135; refine (unhide DEM).mono ?_; rintro e w1 ⟨hb1, h1⟩; subst h1)
    go_ret
    exact ⟨hb1, rfl⟩
  | some q =>
    have hc : clsA t = .err q := by rw [clsA_eq, ho]; exact clsOf_some (c := 3) rfl hd
    rw [hc]
    rw [hd] at DEM
    clear hnode h hc ho hd hcls
    go_enter Tryz.func88, Tryz.ntmps88
    go_wp2_with (go_at_call 135; refine (unhide DEM).mono ?_; rintro e w1 ⟨hb1, h1⟩; subst h1; simp only [gaveUp])
    exact ⟨rfl, hb1, rfl⟩

set_option maxHeartbeats 400000 in
theorem class_20 (lo : Nat) (t : Ast) (hcls : ∀ x ∈ sidesA t, ClsOk lo x) (ho : (payA t).op = 20) : ClsOk lo t := by
  intro w v h
  have DEM := hide (demand_any lo t hcls 1 w v h)
  obtain ⟨b, sv, rfl, hnode, _⟩ := h.parts
  have c0 := hnode.c0
  rw [ho] at c0
  cases hd : dem 1 (payA t).place ((sidesA t).map clsA) true with
  | none =>
    have hc : clsA t = .ok 3 := by rw [clsA_eq, ho]; exact clsOf_none (c := 3) rfl hd
    rw [hc]
    rw [hd] at DEM
    clear hnode h hc ho hd hcls
    go_enter Tryz.func88, Tryz.ntmps88
    go_wp2_with (go_at_call 135; refine (unhide DEM).mono ?_; rintro e w1 ⟨hb1, h1⟩; subst h1)
    go_ret
    exact ⟨hb1, rfl⟩
  | some q =>
    have hc : clsA t = .err q := by rw [clsA_eq, ho]; exact clsOf_some (c := 3) rfl hd
    rw [hc]
    rw [hd] at DEM
    clear hnode h hc ho hd hcls
    go_enter Tryz.func88, Tryz.ntmps88
    go_wp2_with (go_at_call 135; refine (unhide DEM).mono ?_; rintro e w1 ⟨hb1, h1⟩; subst h1; simp only [gaveUp])
    exact ⟨rfl, hb1, rfl⟩

set_option maxHeartbeats 400000 in
theorem class_14 (lo : Nat) (t : Ast) (hcls : ∀ x ∈ sidesA t, ClsOk lo x) (ho : (payA t).op = 14) : ClsOk lo t := by
  intro w v h
  have DEM := hide (demand_any lo t hcls 1 w v h)
  obtain ⟨b, sv, rfl, hnode, _⟩ := h.parts
  have c0 := hnode.c0
  rw [ho] at c0
  cases hd : dem 1 (payA t).place ((sidesA t).map clsA) true with
  | none =>
    have hc : clsA t = .ok 1 := by rw [clsA_eq, ho]; exact clsOf_none (c := 1) rfl hd
    rw [hc]
    rw [hd] at DEM
    clear hnode h hc ho hd hcls
    go_enter Tryz.func88, Tryz.ntmps88
    go_wp2_with (go_at_call 135; refine (unhide DEM).mono ?_; rintro e w1 ⟨hb1, h1⟩; subst h1)
    go_ret
    exact ⟨hb1, rfl⟩
  | some q =>
    have hc : clsA t = .err q := by rw [clsA_eq, ho]; exact clsOf_some (c := 1) rfl hd
    rw [hc]
    rw [hd] at DEM
    clear hnode h hc ho hd hcls
    go_enter Tryz.func88, Tryz.ntmps88
    go_wp2_with (go_at_call 135; refine (unhide DEM).mono ?_; rintro e w1 ⟨hb1, h1⟩; subst h1; simp only [gaveUp])
    exact ⟨rfl, hb1, rfl⟩

set_option maxHeartbeats 400000 in
theorem class_15 (lo : Nat) (t : Ast) (hcls : ∀ x ∈ sidesA t, ClsOk lo x) (ho : (payA t).op = 15) : ClsOk lo t := by
  intro w v h
  have DEM := hide (demand_any lo t hcls 1 w v h)
  obtain ⟨b, sv, rfl, hnode, _⟩ := h.parts
  have c0 := hnode.c0
  rw [ho] at c0
  cases hd : dem 1 (payA t).place ((sidesA t).map clsA) true with
  | none =>
    have hc : clsA t = .ok 1 := by rw [clsA_eq, ho]; exact clsOf_none (c := 1) rfl hd
    rw [hc]
    rw [hd] at DEM
    clear hnode h hc ho hd hcls
    go_enter Tryz.func88, Tryz.ntmps88
    go_wp2_with (go_at_call 135; refine (unhide DEM).mono ?_; rintro e w1 ⟨hb1, h1⟩; subst h1)
    go_ret
    exact ⟨hb1, rfl⟩
  | some q =>
    have hc : clsA t = .err q := by rw [clsA_eq, ho]; exact clsOf_some (c := 1) rfl hd
    rw [hc]
    rw [hd] at DEM
    clear hnode h hc ho hd hcls
    go_enter Tryz.func88, Tryz.ntmps88
    go_wp2_with (go_at_call 135; refine (unhide DEM).mono ?_; rintro e w1 ⟨hb1, h1⟩; subst h1; simp only [gaveUp])
    exact ⟨rfl, hb1, rfl⟩

set_option maxHeartbeats 400000 in
theorem class_16 (lo : Nat) (t : Ast) (hcls : ∀ x ∈ sidesA t, ClsOk lo x) (ho : (payA t).op = 16) : ClsOk lo t := by
  intro w v h
  have DEM := hide (demand_any lo t hcls 1 w v h)
  obtain ⟨b, sv, rfl, hnode, _⟩ := h.parts
  have c0 := hnode.c0
  rw [ho] at c0
  cases hd : dem 1 (payA t).place ((sidesA t).map clsA) true with
  | none =>
    have hc : clsA t = .ok 1 := by rw [clsA_eq, ho]; exact clsOf_none (c := 1) rfl hd
    rw [hc]
    rw [hd] at DEM
    clear hnode h hc ho hd hcls
    go_enter Tryz.func88, Tryz.ntmps88
    go_wp2_with (go_at_call 135; refine (unhide DEM).mono ?_; rintro e w1 ⟨hb1, h1⟩; subst h1)
    go_ret
    exact ⟨hb1, rfl⟩
  | some q =>
    have hc : clsA t = .err q := by rw [clsA_eq, ho]; exact clsOf_some (c := 1) rfl hd
    rw [hc]
    rw [hd] at DEM
    clear hnode h hc ho hd hcls
    go_enter Tryz.func88, Tryz.ntmps88
    go_wp2_with (go_at_call 135; refine (unhide DEM).mono ?_; rintro e w1 ⟨hb1, h1⟩; subst h1; simp only [gaveUp])
    exact ⟨rfl, hb1, rfl⟩

set_option maxHeartbeats 400000 in
theorem class_17 (lo : Nat) (t : Ast) (hcls : ∀ x ∈ sidesA t, ClsOk lo x) (ho : (payA t).op = 17) : ClsOk lo t := by
  intro w v h
  have DEM := hide (demand_any lo t hcls 1 w v h)
  obtain ⟨b, sv, rfl, hnode, _⟩ := h.parts
  have c0 := hnode.c0
  rw [ho] at c0
  cases hd : dem 1 (payA t).place ((sidesA t).map clsA) true with
  | none =>
    have hc : clsA t = .ok 1 := by rw [clsA_eq, ho]; exact clsOf_none (c := 1) rfl hd
    rw [hc]
    rw [hd] at DEM
    clear hnode h hc ho hd hcls
    go_enter Tryz.func88, Tryz.ntmps88
    go_wp2_with (go_at_call 135; refine (unhide DEM).mono ?_; rintro e w1 ⟨hb1, h1⟩; subst h1)
    go_ret
    exact ⟨hb1, rfl⟩
  | some q =>
    have hc : clsA t = .err q := by rw [clsA_eq, ho]; exact clsOf_some (c := 1) rfl hd
    rw [hc]
    rw [hd] at DEM
    clear hnode h hc ho hd hcls
    go_enter Tryz.func88, Tryz.ntmps88
    go_wp2_with (go_at_call 135; refine (unhide DEM).mono ?_; rintro e w1 ⟨hb1, h1⟩; subst h1; simp only [gaveUp])
    exact ⟨rfl, hb1, rfl⟩

set_option maxHeartbeats 400000 in
theorem class_18 (lo : Nat) (t : Ast) (hcls : ∀ x ∈ sidesA t, ClsOk lo x) (ho : (payA t).op = 18) : ClsOk lo t := by
  intro w v h
  have DEM := hide (demand_any lo t hcls 1 w v h)
  obtain ⟨b, sv, rfl, hnode, _⟩ := h.parts
  have c0 := hnode.c0
  rw [ho] at c0
  cases hd : dem 1 (payA t).place ((sidesA t).map clsA) true with
  | none =>
    have hc : clsA t = .ok 1 := by rw [clsA_eq, ho]; exact clsOf_none (c := 1) rfl hd
    rw [hc]
    rw [hd] at DEM
    clear hnode h hc ho hd hcls
    go_enter Tryz.func88, Tryz.ntmps88
    go_wp2_with (go_at_call 135; refine (unhide DEM).mono ?_; rintro e w1 ⟨hb1, h1⟩; subst h1)
    go_ret
    exact ⟨hb1, rfl⟩
  | some q =>
    have hc : clsA t = .err q := by rw [clsA_eq, ho]; exact clsOf_some (c := 1) rfl hd
    rw [hc]
    rw [hd] at DEM
    clear hnode h hc ho hd hcls
    go_enter Tryz.func88, Tryz.ntmps88
    go_wp2_with (go_at_call 135; refine (unhide DEM).mono ?_; rintro e w1 ⟨hb1, h1⟩; subst h1; simp only [gaveUp])
    exact ⟨rfl, hb1, rfl⟩

set_option maxHeartbeats 400000 in
theorem class_19 (lo : Nat) (t : Ast) (hcls : ∀ x ∈ sidesA t, ClsOk lo x) (ho : (payA t).op = 19) : ClsOk lo t := by
  intro w v h
  have DEM := hide (demand_any lo t hcls 1 w v h)
  obtain ⟨b, sv, rfl, hnode, _⟩ := h.parts
  have c0 := hnode.c0
  rw [ho] at c0
  cases hd : dem 1 (payA t).place ((sidesA t).map clsA) true with
  | none =>
    have hc : clsA t = .ok 1 := by rw [clsA_eq, ho]; exact clsOf_none (c := 1) rfl hd
    rw [hc]
    rw [hd] at DEM
    clear hnode h hc ho hd hcls
    go_enter Tryz.func88, Tryz.ntmps88
    go_wp2_with (go_at_call 135; refine (unhide DEM).mono ?_; rintro e w1 ⟨hb1, h1⟩; subst h1)
    go_ret
    exact ⟨hb1, rfl⟩
  | some q =>
    have hc : clsA t = .err q := by rw [clsA_eq, ho]; exact clsOf_some (c := 1) rfl hd
    rw [hc]
    rw [hd] at DEM
    clear hnode h hc ho hd hcls
    go_enter Tryz.func88, Tryz.ntmps88
    go_wp2_with (go_at_call 135; refine (unhide DEM).mono ?_; rintro e w1 ⟨hb1, h1⟩; subst h1; simp only [gaveUp])
    exact ⟨rfl, hb1, rfl⟩

set_option maxHeartbeats 400000 in
theorem class_8 (lo : Nat) (p : Pay) (x y : Ast) (hx : ClsOk lo x) (hy : ClsOk lo y) (ho : p.op = 8) : ClsOk lo (.bin p x y) := by
  intro w v h
  have ALI := hide (alike_any lo p x y hx hy w v h)
  obtain ⟨b, sv, rfl, hnode, _⟩ := h.parts
  have c0 : w.cell? ⟨b, 0, none⟩ = some (.int .i64 p.op) := hnode.c0
  rw [ho] at c0
  have hc : clsA (.bin p x y) = alikeR p.place (clsA x) (clsA y) := by rw [clsA, ho]; rfl
  rw [hc]
  have h3 : ∀ c, alikeR p.place (clsA x) (clsA y) = .ok c → c = 3 := by
    intro c h
    unfold alikeR at h
    split at h
    · cases h
    · cases h
    · split at h
      · cases h
      · injection h with h; exact h.symm
  obtain ⟨r, hr⟩ : ∃ r, alikeR p.place (clsA x) (clsA y) = r := ⟨_, rfl⟩
  rw [hr] at ALI h3 ⊢
  clear hnode h hc ho hr hx hy
  cases r with
  | ok c =>
    obtain rfl := h3 c rfl
    clear h3
    go_enter Tryz.func88, Tryz.ntmps88
    go_wp2_with (go_at_call 136; refine (unhide ALI).mono ?_; rintro e w1 ⟨hb1, h1⟩; subst h1)
    go_ret
    exact ⟨hb1, rfl⟩
  | err q =>
    clear h3
    go_enter Tryz.func88, Tryz.ntmps88
    go_wp2_with (go_at_call 136; refine (unhide ALI).mono ?_; rintro e w1 ⟨hb1, h1⟩; subst h1; simp only [gaveUp])
    exact ⟨rfl, hb1, rfl⟩

set_option maxHeartbeats 400000 in
theorem class_9 (lo : Nat) (p : Pay) (x y : Ast) (hx : ClsOk lo x) (hy : ClsOk lo y) (ho : p.op = 9) : ClsOk lo (.bin p x y) := by
  intro w v h
  have ALI := hide (alike_any lo p x y hx hy w v h)
  obtain ⟨b, sv, rfl, hnode, _⟩ := h.parts
  have c0 : w.cell? ⟨b, 0, none⟩ = some (.int .i64 p.op) := hnode.c0
  rw [ho] at c0
  have hc : clsA (.bin p x y) = alikeR p.place (clsA x) (clsA y) := by rw [clsA, ho]; rfl
  rw [hc]
  have h3 : ∀ c, alikeR p.place (clsA x) (clsA y) = .ok c → c = 3 := by
    intro c h
    unfold alikeR at h
    split at h
    · cases h
    · cases h
    · split at h
      · cases h
      · injection h with h; exact h.symm
  obtain ⟨r, hr⟩ : ∃ r, alikeR p.place (clsA x) (clsA y) = r := ⟨_, rfl⟩
  rw [hr] at ALI h3 ⊢
  clear hnode h hc ho hr hx hy
  cases r with
  | ok c =>
    obtain rfl := h3 c rfl
    clear h3
    go_enter Tryz.func88, Tryz.ntmps88
    go_wp2_with (go_at_call 136; refine (unhide ALI).mono ?_; rintro e w1 ⟨hb1, h1⟩; subst h1)
    go_ret
    exact ⟨hb1, rfl⟩
  | err q =>
    clear h3
    go_enter Tryz.func88, Tryz.ntmps88
    go_wp2_with (go_at_call 136; refine (unhide ALI).mono ?_; rintro e w1 ⟨hb1, h1⟩; subst h1; simp only [gaveUp])
    exact ⟨rfl, hb1, rfl⟩

set_option maxHeartbeats 400000 in
theorem class_none (lo : Nat) (t : Ast) (h0 : ¬ (payA t).op = 0) (h1 : ¬ (payA t).op = 1) (h2 : ¬ (payA t).op = 2) (h5 : ¬ (payA t).op = 5) (h6 : ¬ (payA t).op = 6) (h7 : ¬ (payA t).op = 7) (h10 : ¬ (payA t).op = 10) (h11 : ¬ (payA t).op = 11) (h12 : ¬ (payA t).op = 12) (h13 : ¬ (payA t).op = 13) (h20 : ¬ (payA t).op = 20) (h14 : ¬ (payA t).op = 14) (h15 : ¬ (payA t).op = 15) (h16 : ¬ (payA t).op = 16) (h17 : ¬ (payA t).op = 17) (h18 : ¬ (payA t).op = 18) (h19 : ¬ (payA t).op = 19) (h8 : ¬ (payA t).op = 8) (h9 : ¬ (payA t).op = 9) : ClsOk lo t := by
  intro w v h
  have e0 : ((payA t).op == 0) = false := beq_eq_false_iff_ne.2 h0
  have e1 : ((payA t).op == 1) = false := beq_eq_false_iff_ne.2 h1
  have e2 : ((payA t).op == 2) = false := beq_eq_false_iff_ne.2 h2
  have e5 : ((payA t).op == 5) = false := beq_eq_false_iff_ne.2 h5
  have e6 : ((payA t).op == 6) = false := beq_eq_false_iff_ne.2 h6
  have e7 : ((payA t).op == 7) = false := beq_eq_false_iff_ne.2 h7
  have e10 : ((payA t).op == 10) = false := beq_eq_false_iff_ne.2 h10
  have e11 : ((payA t).op == 11) = false := beq_eq_false_iff_ne.2 h11
  have e12 : ((payA t).op == 12) = false := beq_eq_false_iff_ne.2 h12
  have e13 : ((payA t).op == 13) = false := beq_eq_false_iff_ne.2 h13
  have e20 : ((payA t).op == 20) = false := beq_eq_false_iff_ne.2 h20
  have e14 : ((payA t).op == 14) = false := beq_eq_false_iff_ne.2 h14
  have e15 : ((payA t).op == 15) = false := beq_eq_false_iff_ne.2 h15
  have e16 : ((payA t).op == 16) = false := beq_eq_false_iff_ne.2 h16
  have e17 : ((payA t).op == 17) = false := beq_eq_false_iff_ne.2 h17
  have e18 : ((payA t).op == 18) = false := beq_eq_false_iff_ne.2 h18
  have e19 : ((payA t).op == 19) = false := beq_eq_false_iff_ne.2 h19
  have e8 : ((payA t).op == 8) = false := beq_eq_false_iff_ne.2 h8
  have e9 : ((payA t).op == 9) = false := beq_eq_false_iff_ne.2 h9
  have hc : clsA t = .ok 3 := by rw [clsA_eq]; simp only [clsOf, e0, e1, e2, e5, e6, e7, e10, e11, e12, e13, e20, e14, e15, e16, e17, e18, e19, e8, e9, Bool.or_self, Bool.false_eq_true, if_false]
  rw [hc]
  obtain ⟨b, sv, rfl, hnode, _⟩ := h.parts
  have c0 := hnode.c0
  clear hnode h hc h0 h1 h2 h5 h6 h7 h10 h11 h12 h13 h20 h14 h15 h16 h17 h18 h19 h8 h9
  go_enter Tryz.func88, Tryz.ntmps88
  go_wp2_with fail
  go_ret
  exact ⟨Below.refl _ _, rfl⟩

theorem class_step (lo : Nat) (t : Ast) (hwf : WfA t) (hcls : ∀ x ∈ sidesA t, ClsOk lo x) : ClsOk lo t := by
  by_cases h0 : (payA t).op = 0
  · exact class_0 lo t h0
  by_cases h1 : (payA t).op = 1
  · exact class_1 lo t h1
  by_cases h2 : (payA t).op = 2
  · exact class_2 lo t h2
  by_cases h5 : (payA t).op = 5
  · exact class_5 lo t hcls h5
  by_cases h6 : (payA t).op = 6
  · exact class_6 lo t hcls h6
  by_cases h7 : (payA t).op = 7
  · exact class_7 lo t hcls h7
  by_cases h10 : (payA t).op = 10
  · exact class_10 lo t hcls h10
  by_cases h11 : (payA t).op = 11
  · exact class_11 lo t hcls h11
  by_cases h12 : (payA t).op = 12
  · exact class_12 lo t hcls h12
  by_cases h13 : (payA t).op = 13
  · exact class_13 lo t hcls h13
  by_cases h20 : (payA t).op = 20
  · exact class_20 lo t hcls h20
  by_cases h14 : (payA t).op = 14
  · exact class_14 lo t hcls h14
  by_cases h15 : (payA t).op = 15
  · exact class_15 lo t hcls h15
  by_cases h16 : (payA t).op = 16
  · exact class_16 lo t hcls h16
  by_cases h17 : (payA t).op = 17
  · exact class_17 lo t hcls h17
  by_cases h18 : (payA t).op = 18
  · exact class_18 lo t hcls h18
  by_cases h19 : (payA t).op = 19
  · exact class_19 lo t hcls h19
  by_cases h8 : (payA t).op = 8
  · cases t with
    | leaf p => exact absurd h8 hwf.1
    | un p x => exact absurd h8 hwf.1.1
    | bin p x y => exact class_8 lo p x y (hcls x (by simp [sidesA])) (hcls y (by simp [sidesA])) h8
    | tri p x y z => exact absurd h8 hwf.1.1
  by_cases h9 : (payA t).op = 9
  · cases t with
    | leaf p => exact absurd h9 hwf.2
    | un p x => exact absurd h9 hwf.1.2
    | bin p x y => exact class_9 lo p x y (hcls x (by simp [sidesA])) (hcls y (by simp [sidesA])) h9
    | tri p x y z => exact absurd h9 hwf.1.2
  exact class_none lo t h0 h1 h2 h5 h6 h7 h10 h11 h12 h13 h20 h14 h15 h16 h17 h18 h19 h8 h9

theorem class_all (lo : Nat) : ∀ t, WfA t → ClsOk lo t := by
  intro t
  induction t with
  | leaf p => intro h; exact class_step lo _ h (fun x hx => by simp [sidesA] at hx)
  | un p x ih => intro h; exact class_step lo _ h (fun y hy => by simp [sidesA] at hy; subst hy; exact ih h.2)
  | bin p x y ihx ihy => intro h; exact class_step lo _ h (fun z hz => by simp [sidesA] at hz; rcases hz with rfl | rfl; exact ihx h.1; exact ihy h.2)
  | tri p x y z ihx ihy ihz => intro h; exact class_step lo _ h (fun u hu => by simp [sidesA] at hu; rcases hu with rfl | rfl | rfl; exact ihx h.2.1; exact ihy h.2.2.1; exact ihz h.2.2.2)

set_option maxHeartbeats 400000 in
theorem check_any (lo : Nat) (t : Ast) (hwf : WfA t) (w : World) (v : Value) (h : IsNode lo w v t) :
    Calls Tryz.prog 58 #[v] w (DemEnds w (chkR (clsA t))) := by
  have CLS := hide (class_all lo t hwf w v h)
  obtain ⟨b, rfl⟩ := h.ptr
  clear h hwf
  cases hc : clsA t with
  | err q =>
    rw [hc] at CLS
    clear hc
    go_enter Tryz.func58, Tryz.ntmps58
    go_wp2_with (go_at_call 88; refine (unhide CLS).mono ?_; rintro e w1 ⟨hb1, h1⟩; subst h1; simp only [gaveUp])
    exact ⟨rfl, hb1, rfl⟩
  | ok c =>
    rw [hc] at CLS
    clear hc
    cases h1 : (c != 3) <;> cases h2 : (c != 0)
    all_goals
      rw [chkR, h1, h2]
      simp only [Bool.and_true, Bool.and_false, Bool.and_self, Bool.false_eq_true, if_false, if_true]
      go_enter Tryz.func58, Tryz.ntmps58
      go_wp2_with (go_at_call 88; refine (unhide CLS).mono ?_; rintro e w1 ⟨hb1, h1⟩; subst h1)
      first | exact ⟨rfl, hb1, rfl⟩ | (go_end0; exact ⟨hb1, rfl⟩)
end

end Go.Proofs.YtfkcaldjphakpabGreatDoor
