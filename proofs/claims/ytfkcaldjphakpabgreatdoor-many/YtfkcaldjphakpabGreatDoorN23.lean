/- Program.Run of any program that may be run. find; Live, Nodes, New. -/
import Derived.Test.YtfkcaldjphakpabGreatDoorYPr2
import Derived.Test.YtfkcaldjphakpabGreatDoorYVal2
import Derived.Deep.RegionWith
import Derived.Test.YtfkcaldjphakpabGreatDoorN24
import Derived.Test.YtfkcaldjphakpabGreatDoorN15
namespace Go.Proofs.YtfkcaldjphakpabGreatDoor
open Go.RowKit

section
attribute [local go_sem ↓] app_fold

theorem IsAt.mono {w : World} {lo hi : Nat} {v : Value} {l : List Nat} (h : IsAt w hi v l) (hl : lo ≤ hi) : IsAt w lo v l := by
  refine ⟨h.1, ?_⟩
  rcases h.2 with hn | ⟨g, cap, cur, rfl, hbg, rest⟩
  · exact .inl hn
  · exact .inr ⟨g, cap, cur, rfl, by omega, rest⟩

theorem IsAt.app {W : World} {base : Nat} {v : Value} {l : List Nat} (h : IsAt W base v l) (hb : base ≤ W.heap.size) (x : Nat) (hn : l.length ≤ 1000) (ty : TypeId) :
    ∃ g cap w5, (appSem #[29, 29] ty #[v, .slice (some ⟨W.heap.size, 0, none⟩) 1 1]).run Tryz.prog (W.alloc (.cells #[.int .i64 x] 3)) = .ok (.slice (some ⟨g, 0, none⟩) (l.length + 1) cap) w5 ∧
      Hid (IsAt w5 base (.slice (some ⟨g, 0, none⟩) (l.length + 1) cap) (l ++ [x])) ∧ Hid (Below base W w5) := by
  obtain ⟨i0, hi, hz0, hz1, hz2⟩ := info_parts info_intg
  have ha := World.ownsRow.alloc h (.cells #[.int .i64 x] 3)
  obtain ⟨g, cap, w5, hr, hown, hgrow, hat, _⟩ := run_append_lies (P := Tryz.prog) (W.alloc (.cells #[.int .i64 x] 3)) 29 ty base 3 i0 _ 1 8 Tryz.underlying29 hi hz0 hz1 hz2 rfl (by omega) v l.length (intCells l) ha
    ⟨W.heap.size, 0, none⟩ 1 1 [.int .i64 x] rfl (World.news_of_block (cs := #[.int .i64 x]) (t := 3) (fr := (0, 0)) (heap_alloc_new W _)) (by simp [Value.oneCell']) (by omega) (by unfold maxLen; omega) (by omega) (by simp; omega) _ rfl
  refine ⟨g, cap, w5, hr, hide ?_, hide ?_⟩
  · show World.ownsRow _ _ _ _ _ _ _
    rw [List.length_append, List.length_singleton, intCells, List.map_append]
    exact hown
  · exact Go.RowKit.Below.grown (((Below.refl base W).alloc hb _)) hgrow (by simp; omega) (fun k hk => (ha.lt k hk).1)

theorem RunAt.nextB {w wr w' : World} {vb n B : Nat} {vs : List V} (h : RunAt w wr vb n vs) (hb : Below B wr w') (hB : vb < B) : RunAt w w' vb n vs :=
  ⟨h.vals.below hb hB, fun j => (hb.frozen (p := ⟨vb, j, none⟩) hB).trans (h.fz j), h.ge, Nat.lt_of_lt_of_le h.lt hb.size, h.bel.trans (hb.mono (by have := h.ge; omega))⟩

theorem IsAt.below {B : Nat} {w w' : World} {base : Nat} {v : Value} {l : List Nat} (h : IsAt w base v l) (hb : Below B w w') (hB : w.heap.size ≤ B) : IsAt w' base v l := ownsRow_below h hb hB

theorem below1 (w : World) (o : Obj) : Below w.heap.size w (w.alloc o) := (Below.refl _ _).alloc (Nat.le_refl _) o
end

section
attribute [local go_sem ↓] app_fold

theorem SubsAt.form {w : World} {lo : Nat} {v : Value} {l : List Sb} (h : SubsAt w lo v l) : ∃ a c, v = .slice a l.length c := by
  obtain ⟨a, c, hv, _⟩ := h
  exact ⟨a, c, hv⟩

set_option maxHeartbeats 400000 in
theorem bfind_any (bb : Nat) (l : List Sb) (id : Int) (v : Value) (w : World) (hc : w.cell? ⟨bb, 1, none⟩ = some v) (h : SubsAt w w.heap.size v l) (hup : RisingS l) (hn : l.length ≤ 8) :
    Calls Tryz.prog 30 #[.pointer (some ⟨bb, 0, none⟩), .int .i64 id] w fun e w' => e = .returned (.tuple #[.int .i64 (placeId l id), .bool (l.any fun s => s.id == id)]) ∧ Below w.heap.size w w' := by
  have BS := hide (bsearch_any l id v w h hup hn)
  obtain ⟨a, c, rfl⟩ := h.form
  obtain ⟨F, hF⟩ : ∃ F, (l.any fun s => s.id == id) = F := ⟨_, rfl⟩
  obtain ⟨P, hP⟩ : ∃ P, placeId l id = P := ⟨_, rfl⟩
  rw [hF, hP] at BS ⊢
  clear hF hP h
  go_enter Tryz.func30, Tryz.ntmps30
  go_wp2_with (go_at_call 51; refine (unhide BS).mono ?_; rintro e w1 ⟨rfl, hb1⟩; have B1 := hide hb1; clear hb1)
  go_ret2
  exact ⟨rfl, unhide B1⟩

set_option maxHeartbeats 400000 in
theorem new_any (w : World) : Calls Tryz.prog 10 #[] w fun e w' => e = .returned (.pointer (some ⟨w.heap.size, 0, none⟩)) ∧ w' = w.alloc (.cells #[.int .i64 0, .slice none 0 0, .slice none 0 0, .slice none 0 0] 67) := by
  go_enter Tryz.func10, Tryz.ntmps10
  go_wp2_with fail
  go_ret
  exact ⟨rfl, rfl⟩
end

end Go.Proofs.YtfkcaldjphakpabGreatDoor
