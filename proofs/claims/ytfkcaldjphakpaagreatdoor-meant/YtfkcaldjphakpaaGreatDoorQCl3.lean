/- demandAlike, class, checkClasses. -/
import Derived.Test.YtfkcaldjphakpaaGreatDoorA08
import Derived.Deep.RegionHeld3
namespace Go.Proofs.YtfkcaldjphakpaaGreatDoor
open Go.RowKit

def AlikeEnds (w : World) (r : CRes) (e : Ending) (w' : World) : Prop := Below w.heap.size w w' ∧ match r with
  | .ok _ => e = .returned (.tuple #[])
  | .err q => e = gaveUp 4 q

set_option maxHeartbeats 1000000 in
set_option maxRecDepth 100000 in
theorem alike_any (lo : Nat) (p : Pay) (x y : Ast) (hx : ClsOk lo x) (hy : ClsOk lo y) (w : World) (v : Value) (h : IsNode lo w v (.bin p x y)) :
    Calls Tryz.prog 149 #[v] w (AlikeEnds w (alikeR p.place (clsA x) (clsA y))) := by
  obtain ⟨b, g, v1, v2, rfl, hn, hg1, hg2, e1, e2, n1, n2⟩ := h
  obtain ⟨b1, rfl⟩ := n1.ptr
  obtain ⟨b2, rfl⟩ := n2.ptr
  obtain ⟨hab, hbw, c0, c1, c2, c3, c4, c5, c6⟩ := hn
  obtain ⟨pl, hpl⟩ : ∃ pl, p.place = pl := ⟨_, rfl⟩
  rw [hpl] at c1 ⊢
  have N1 := hide (n1.kept ((Kept.refl lo w).drew))
  have N2 := hide n2
  have CX := hide hx
  have CY := hide hy
  clear c0 c3 c4 c5 c6 n1 n2 hx hy hpl
  cases hxc : clsA x with
  | err q =>
    have HX := hide hxc
    clear hxc
    rw [alikeR]
    go_enter Tryz.func149, Tryz.ntmps149
    go_wp2_with fail
    go_region_with (first | (go_at_call_of 104 (Value.pointer (some { block := b1, off := 0 })); refine (unhide CX _ _ (unhide N1)).mono ?_; rintro e w1 ⟨hb1, h1⟩; rw [unhide HX] at h1; subst h1; refine gone (w := w1) ⟨rfl, ((Below.refl w.heap.size w).drew).trans hb1, rfl⟩ ?_))
    all_goals trivial
  | ok cx =>
    have HX := hide hxc
    clear hxc
    cases hyc : clsA y with
    | err q =>
      have HY := hide hyc
      clear hyc
      rw [alikeR]
      go_enter Tryz.func149, Tryz.ntmps149
      go_wp2_with fail
      go_region_with (first | (go_at_call_of 104 (Value.pointer (some { block := b1, off := 0 })); refine (unhide CX _ _ (unhide N1)).mono ?_; rintro e w1 ⟨hb1, h1⟩; rw [unhide HX] at h1; subst h1; have hb1 : Below w.heap.size w w1 := ((Below.refl w.heap.size w).drew).trans hb1; obtain ⟨hc, hf⟩ := bcell hb1; have k2 : w1.cell? ⟨b, 2, none⟩ = some (.slice (some ⟨g, 0, none⟩) 2 2) := (hc _ 2 hbw).trans c2; have k3 : w1.cell? ⟨g, 0, none⟩ = some (.pointer (some ⟨b1, 0, none⟩)) := (hc _ 0 hg2).trans e1; have k4 : w1.cell? ⟨g, 1, none⟩ = some (.pointer (some ⟨b2, 0, none⟩)) := (hc _ 1 hg2).trans e2; have z1 := hb1.size; have hb1 := hide hb1; clear hc hf) | (go_at_call_of 104 (Value.pointer (some { block := b2, off := 0 })); refine (unhide CY _ _ ((unhide N2).kept (Kept.of_below (unhide hb1)))).mono ?_; rintro e w2 ⟨hb2, h2⟩; rw [unhide HY] at h2; subst h2; refine gone (w := w2) ⟨rfl, below_any (unhide hb1) hb2, rfl⟩ ?_))
      all_goals trivial
    | ok cy =>
      have HY := hide hyc
      clear hyc
      rw [alikeR]
      obtain ⟨R, hR⟩ : ∃ r, (if (cx != cy && cx != 0 && cy != 0) = true then CRes.err pl else CRes.ok 3) = r := ⟨_, rfl⟩
      rw [hR]
      have HR := hide hR
      clear hR
      go_enter Tryz.func149, Tryz.ntmps149
      go_wp2_with fail
      go_region_held3 (fun w' => w'.cell? ⟨b, 2, none⟩ = some (.slice (some ⟨g, 0, none⟩) 2 2) ∧ w'.cell? ⟨g, 0, none⟩ = some (.pointer (some ⟨b1, 0, none⟩)) ∧ w'.cell? ⟨g, 1, none⟩ = some (.pointer (some ⟨b2, 0, none⟩))) (go_keep) (first | (go_at_call_of 104 (Value.pointer (some { block := b1, off := 0 })); refine (unhide CX _ _ (unhide N1)).mono ?_; rintro e w1 ⟨hb1, h1⟩; rw [unhide HX] at h1; subst h1; have hb1 : Below w.heap.size w w1 := ((Below.refl w.heap.size w).drew).trans hb1; obtain ⟨hc, hf⟩ := bcell hb1; have k2 : w1.cell? ⟨b, 2, none⟩ = some (.slice (some ⟨g, 0, none⟩) 2 2) := (hc _ 2 hbw).trans c2; have k3 : w1.cell? ⟨g, 0, none⟩ = some (.pointer (some ⟨b1, 0, none⟩)) := (hc _ 0 hg2).trans e1; have k4 : w1.cell? ⟨g, 1, none⟩ = some (.pointer (some ⟨b2, 0, none⟩)) := (hc _ 1 hg2).trans e2; have z1 := hb1.size; have hb1 := hide hb1; clear hc hf) | (go_at_call_of 104 (Value.pointer (some { block := b2, off := 0 })); refine (unhide CY _ _ ((unhide N2).kept (Kept.of_below (unhide hb1)))).mono ?_; rintro e w2 ⟨hb2, h2⟩; rw [unhide HY] at h2; subst h2; obtain ⟨hc, hf⟩ := bcell hb2; have j1 : w2.cell? ⟨b, 1, none⟩ = some (.int .i64 pl) := (hc _ 1 (by omega)).trans (((bcell (unhide hb1)).1 _ 1 hbw).trans c1); have l2 : w2.cell? ⟨b, 2, none⟩ = some (.slice (some ⟨g, 0, none⟩) 2 2) := (hc _ 2 (by omega)).trans k2; have l3 : w2.cell? ⟨g, 0, none⟩ = some (.pointer (some ⟨b1, 0, none⟩)) := (hc _ 0 (by omega)).trans k3; have l4 : w2.cell? ⟨g, 1, none⟩ = some (.pointer (some ⟨b2, 0, none⟩)) := (hc _ 1 (by omega)).trans k4; have hb2 := hide (below_any (unhide hb1) hb2); clear hc hf))
      clear k2 k3 k4 l2 l3 l4 c1 c2 e1 e2
      cases h1 : (cx != cy) <;> cases h2 : (cx != 0) <;> cases h3 : (cy != 0)
      all_goals
        rw [h1, h2, h3] at HR
        go_wp2_with fail
        rw [← unhide HR]
        first | exact ⟨rfl, unhide hb2, rfl⟩ | (go_end0; exact ⟨unhide hb2, rfl⟩)

end Go.Proofs.YtfkcaldjphakpaaGreatDoor
