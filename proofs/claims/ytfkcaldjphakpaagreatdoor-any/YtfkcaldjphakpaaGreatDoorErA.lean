/- strconv.ErrRange lies where the rows say. -/
import Derived.Test.YtfkcaldjphakpaaGreatDoorLexA
import Derived.Test.YtfkcaldjphakpaaGreatDoorRows
import Derived.LaidLaws
import Derived.Lib.LaidU8
import Derived.MakeChecks
namespace Go.Proofs.YtfkcaldjphakpaaGreatDoor
open Go.RowKit

theorem errRange : Tryz.prog.globalNamed "strconv.ErrRange" = some 3 := by kernel_rfl
theorem errRangeType : (Tryz.prog.globals[3]?).map (·.type) = some 280 := by kernel_rfl

theorem err_of {W : World} {l : List (String × DataW Unit)} (hm : ("strconv.ErrRange", Rows.laid_strconv_ErrRange) ∈ l) (h : laidMet Tryz.prog l W) : ErrOk W := by
  obtain ⟨g, t, cs, fuel, p, h1, h2, h3, h4⟩ := Lib.laidMet.reads h hm
  obtain rfl : 3 = g := Option.some.inj (errRange.symm.trans h1)
  obtain rfl : 280 = t := Option.some.inj (errRangeType.symm.trans h2)
  obtain ⟨f1, u, v, hcs, _, _⟩ := iface_of_trod Tryz.underlying280 h4
  unfold World.var? at h3
  rw [errRange] at h3
  simp only [Option.bind_some] at h3
  split at h3
  · rename_i c ty fz hh
    injection h3 with h3
    subst h3
    refine ⟨(Array.getElem?_eq_some_iff.1 hh).1, .iface u v, ?_, .inr ⟨u, v, rfl⟩⟩
    have h0 : c[0]? = some (.iface u v) := by
      rw [← Array.getElem?_toList, hcs]; rfl
    rw [World.cell?]
    simp [hh, h0]
  · cases h3

end Go.Proofs.YtfkcaldjphakpaaGreatDoor
