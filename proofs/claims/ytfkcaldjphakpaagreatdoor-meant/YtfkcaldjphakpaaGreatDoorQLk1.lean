/- value.Like; join: IN and LIKE. -/
import Derived.Test.YtfkcaldjphakpaaGreatDoorA11
import Derived.Test.YtfkcaldjphakpaaGreatDoorQAm1
import Derived.Test.YtfkcaldjphakpaaGreatDoorA12
import Derived.Deep.RegionWith
namespace Go.Proofs.YtfkcaldjphakpaaGreatDoor
open Go.RowKit

set_option maxHeartbeats 1000000 in
theorem vLike_any (x : V) (pat esc : ByteArray) (hp : pat.size ≤ 200) (hx : x.str.length ≤ 1000) (w : World) :
    Calls Tryz.prog 109 #[vV x, .string pat, .string esc] w fun e w' => e = .returned (vV (likeV x pat.data.toList esc.data.toList)) ∧ Below w.heap.size w w' := by
  unfold likeV
  have FIT := hide (fun w => fits_any pat esc (BS x.str) hp (by rw [BS_size]; exact hx) w)
  cases hk : (x.kind == 3)
  · have hk' : (x.kind != 3) = true := by simp only [bne, hk]; rfl
    simp only [Bool.false_eq_true, if_false]
    conv => arg 3; simp only [vV]
    go_enter Tryz.func109, Tryz.ntmps109
    go_wp2_with (go_at_call 152; refine (vnull_any _).mono ?_; rintro e w' ⟨rfl, hb⟩; obtain ⟨hc, hf⟩ := bcell hb; simp only [vV])
    refine bodyPost_ret (by simp [results, Tryz.results109, go_sem, hc] <;> rfl) rfl ⟨rfl, ?_⟩
    exact ((((below_any (below2 _ _ _) hb).setCell (by simp) _).setCell (by simp) _).setCell (by simp) _)
  · have hk' : (x.kind != 3) = false := by simp only [bne, hk]; rfl
    simp only [if_true]
    obtain ⟨r, hr⟩ : ∃ r, fitsB pat.data.toList esc.data.toList x.str = r := ⟨_, rfl⟩
    have HR : Hid (fitsB pat.data.toList esc.data.toList (BS x.str).data.toList = r) := hide (by rw [BS_data]; exact hr)
    rw [hr]
    clear hr
    conv => arg 3; simp only [vV]
    go_enter Tryz.func109, Tryz.ntmps109
    go_wp2_with (first | (go_at_call 156; refine (unhide FIT _).mono ?_; rw [unhide HR]; rintro e w1 ⟨rfl, hb1⟩; have hz1 : w.heap.size + 1 < w1.heap.size := (by have := hb1.size; simp at this; omega); have g0 : w1.cell? ⟨w.heap.size + 1, 0, none⟩ = some (.int .i64 0) := ((bcell hb1).1 _ 0 (by simp)).trans (by simp); have g1 : w1.cell? ⟨w.heap.size + 1, 1, none⟩ = some (.int .i64 0) := ((bcell hb1).1 _ 1 (by simp)).trans (by simp); have g2 : w1.cell? ⟨w.heap.size + 1, 2, none⟩ = some (.string ⟨#[]⟩) := ((bcell hb1).1 _ 2 (by simp)).trans (by simp); have z1 : ∀ j, w1.frozen? ⟨w.heap.size + 1, j, none⟩ = false := (fun j => ((bcell hb1).2 _ j (by simp)).trans (by simp)); have hB1 := hide (below_any (below2 _ _ _) hb1); clear hb1) | (go_at_call 64; refine (vBool_any r _).mono ?_; rintro e w2 ⟨rfl, hb2⟩; have k0 : w2.cell? ⟨w.heap.size + 1, 0, none⟩ = some (.int .i64 0) := ((bcell hb2).1 _ 0 hz1).trans g0; have k1 : w2.cell? ⟨w.heap.size + 1, 1, none⟩ = some (.int .i64 0) := ((bcell hb2).1 _ 1 hz1).trans g1; have k2 : w2.cell? ⟨w.heap.size + 1, 2, none⟩ = some (.string ⟨#[]⟩) := ((bcell hb2).1 _ 2 hz1).trans g2; have z2 : ∀ j, w2.frozen? ⟨w.heap.size + 1, j, none⟩ = false := (fun j => ((bcell hb2).2 _ j hz1).trans (z1 j)); have hB2 := hide (below_any (unhide hB1) hb2); clear hb2; simp only [vV]))
    refine bodyPost_ret (by simp [results, Tryz.results109, go_sem, k0, k1, k2] <;> rfl) rfl ⟨rfl, ?_⟩
    exact (((unhide hB2).setCell (by simp) _).setCell (by simp) _).setCell (by simp) _

end Go.Proofs.YtfkcaldjphakpaaGreatDoor
