/- strconv.ErrRange lies where the rows say. What the library's tables and variables are at a row's own world. -/
import Derived.Test.YtfkcaldjphakpabGreatDoorM01
import Derived.Test.YtfkcaldjphakpabGreatDoorRows
import Derived.LaidLaws
import Derived.Lib.LaidU8
import Derived.MakeChecks
import Derived.Test.YtfkcaldjphakpabGreatDoorM19
import Derived.Lib.LaidTab
import Derived.Shelf.Vars
namespace Go.Proofs.YtfkcaldjphakpabGreatDoor
open Go.RowKit

section
theorem errRange : Tryz.prog.globalNamed "strconv.ErrRange" = some 3 := by kernel_rfl
theorem errRangeType : (Tryz.prog.globals[3]?).map (·.type) = some 278 := by kernel_rfl

theorem err_of {W : World} {l : List (String × DataW Unit)} (hm : ("strconv.ErrRange", Rows.laid_strconv_ErrRange) ∈ l) (h : laidMet Tryz.prog l W) : ErrOk W := by
  obtain ⟨g, t, cs, fuel, p, h1, h2, h3, h4⟩ := Lib.laidMet.reads h hm
  obtain rfl : 3 = g := Option.some.inj (errRange.symm.trans h1)
  obtain rfl : 278 = t := Option.some.inj (errRangeType.symm.trans h2)
  obtain ⟨f1, u, v, hcs, _, _⟩ := iface_of_trod Tryz.underlying278 h4
  unfold World.var? at h3
  rw [errRange] at h3
  simp only [Option.bind_some] at h3
  split at h3
  · rename_i c ty fz hh
    injection h3 with h3
    subst h3
    refine ⟨(Array.getElem?_eq_some_iff.1 hh).1, .iface u v, ?_, .inr ⟨u, v, rfl⟩⟩
    have h0 : c[0]? = some (.iface u v) := by
      rw [← Array.getElem?_toList, hcs]; rfl
    rw [World.cell?]
    simp [hh, h0]
  · cases h3
end

section
open Go.ChangeShapes Go.WideShapes Go.RowKit

theorem powNamed : Tryz.prog.globalNamed "internal/strconv.uint64pow10" = some 0 := by kernel_rfl

set_option maxRecDepth 100000 in
theorem max_ok {W : World} (h : W.ShapedOpen Tryz.prog) : 4 < W.heap.size ∧ ∃ m, W.cell? ⟨4, 0, none⟩ = some (.int .i64 m) := by
  obtain ⟨m, hm⟩ := cell_of_shapedOpen_int (g := 4) (zero := #[.int .i64 0]) (t := 3) h (of_decide_eq_true (by kernel_rfl)) (by kernel_rfl) rfl (by kernel_rfl) (by kernel_rfl) Tryz.underlying3
  exact ⟨block_lt_of_cell hm, m, hm⟩

theorem powType : (Tryz.prog.globals[0]?).map (·.type) = some 345 := by kernel_rfl
theorem cellsPow : Tryz.prog.cellsOf 345 = 20 := by kernel_rfl
theorem cellsU64 : Tryz.prog.cellsOf 318 = 1 := by kernel_rfl
theorem powLaid : (Rows.laid_internal_strconv_uint64pow10 : DataW Unit) = Lib.tabData .u64 Lib.pow10Tab := by kernel_rfl
theorem pow_ok {W : World} {l : List (String × DataW Unit)} (hm : ("internal/strconv.uint64pow10", Rows.laid_internal_strconv_uint64pow10) ∈ l) (h : laidMet Tryz.prog l W) : Lib.TabIs Tryz.prog W "internal/strconv.uint64pow10" .u64 Lib.pow10Tab := by
  obtain ⟨g, t, cs, fuel, p, h1, h2, h3, h4⟩ := Lib.laidMet.reads h hm
  obtain rfl : 0 = g := Option.some.inj (powNamed.symm.trans h1)
  obtain rfl : 345 = t := Option.some.inj (powType.symm.trans h2)
  rw [powLaid] at h4
  unfold Lib.TabIs
  rw [h3, ← Lib.cells_of_tab Tryz.underlying345 Tryz.underlying318 cellsU64 cellsPow h4]
end

end Go.Proofs.YtfkcaldjphakpabGreatDoor
