/- Contracts of package value: And. -/
import Derived.Test.YtfkcaldjphakpaaGreatDoorQVal1
import Derived.Deep.RegionWith
import Derived.Deep.DeepCutAuto
namespace Go.Proofs.YtfkcaldjphakpaaGreatDoor
open Go.RowKit

theorem below_alloc {a w : World} (h : Below a.heap.size a w) (o : Obj) : Below a.heap.size a (w.alloc o) := h.alloc h.size o

set_option maxHeartbeats 400000 in
theorem vBool_eq (b : Bool) (w : World) :
    Calls Tryz.prog 64 #[.bool b] w fun e w' => e = .returned (vV (bV b)) ∧ w' = w.alloc (.cells #[.int .i64 (bV b).kind, .int .i64 (bV b).num, .string (BS (bV b).str)] 26) := by
  cases b
  all_goals
    go_enter Tryz.func64, Tryz.ntmps64
    go_wp2_with fail
    refine bodyPost_ret (by simp [results, Tryz.results64, go_sem]; rfl) rfl ⟨rfl, rfl⟩

set_option maxHeartbeats 400000 in
theorem vnull_eq (w : World) :
    Calls Tryz.prog 152 #[] w fun e w' => e = .returned (vV nV) ∧ w' = w.alloc (.cells #[.int .i64 nV.kind, .int .i64 nV.num, .string (BS nV.str)] 26) := by
  go_enter Tryz.func152, Tryz.ntmps152
  go_wp2_with fail
  refine bodyPost_ret (by simp [results, Tryz.results152, go_sem]; rfl) rfl ⟨rfl, rfl⟩

def andV (x y : V) : V := if decide (x = bV false) || decide (y = bV false) then bV false else if decide (x = bV true) && decide (y = bV true) then bV true else nV

set_option maxHeartbeats 4000000 in
theorem vAnd_any (x y : V) (w : World) :
    Calls Tryz.prog 106 #[vV x, vV y] w fun e w' => e = .returned (vV (andV x y)) ∧ Below w.heap.size w w' := by
  have ex := fun w => eql_v x (bV false) w
  have ey := fun w => eql_v y (bV false) w
  have fx := fun w => eql_v x (bV true) w
  have fy := fun w => eql_v y (bV true) w
  simp only [vV] at ex ey fx fy
  unfold andV
  generalize decide (x = bV false) = a at *
  generalize decide (y = bV false) = b at *
  generalize decide (x = bV true) = c at *
  generalize decide (y = bV true) = d at *
  cases a
  · cases b
    · cases c
      · simp only [Bool.false_and, Bool.false_or, Bool.false_eq_true, if_false]
        conv => arg 3; simp only [vV]
        go_enter Tryz.func106, Tryz.ntmps106
        go_wp2_with fail
        go_cut [5] (fun s5 wx => s5 = .bool false ∧ wx = ((((((w.alloc (Obj.cells #[.int .i64 x.kind, .int .i64 x.num, .string (BS x.str)] 26)).alloc (Obj.cells #[.int .i64 y.kind, .int .i64 y.num, .string (BS y.str)] 26)).alloc (Obj.cells #[.int .i64 0, .int .i64 0, .string ⟨#[]⟩] 26)).alloc (Obj.cells #[.int .i64 (bV false).kind, .int .i64 (bV false).num, .string (BS (bV false).str)] 26)).alloc (Obj.cells #[.int .i64 (bV false).kind, .int .i64 (bV false).num, .string (BS (bV false).str)] 26))).drew)
        case first => go_region_with (go_at_call 64; refine (vBool_eq _ _).mono ?_; rintro e w' ⟨rfl, rfl⟩; simp only [vV]); all_goals (go_wp2_with fail; go_meet; exact ⟨rfl, rfl⟩)
        case rest =>
          obtain ⟨rfl, rfl⟩ := hcut
          go_wp2_with fail
          go_cut [15] (fun s15 wx => s15 = .bool false ∧ wx = (((((((w.alloc (Obj.cells #[.int .i64 x.kind, .int .i64 x.num, .string (BS x.str)] 26)).alloc (Obj.cells #[.int .i64 y.kind, .int .i64 y.num, .string (BS y.str)] 26)).alloc (Obj.cells #[.int .i64 0, .int .i64 0, .string ⟨#[]⟩] 26)).alloc (Obj.cells #[.int .i64 (bV false).kind, .int .i64 (bV false).num, .string (BS (bV false).str)] 26)).alloc (Obj.cells #[.int .i64 (bV false).kind, .int .i64 (bV false).num, .string (BS (bV false).str)] 26)).alloc (Obj.cells #[.int .i64 (bV true).kind, .int .i64 (bV true).num, .string (BS (bV true).str)] 26))).drew.drew)
          case first => go_region_with (go_at_call 64; refine (vBool_eq _ _).mono ?_; rintro e w' ⟨rfl, rfl⟩; simp only [vV]); all_goals (go_wp2_with fail; go_meet; exact ⟨rfl, rfl⟩)
          case rest =>
            obtain ⟨rfl, rfl⟩ := hcut
            go_wp2_with (first | (go_at_call 64; refine (vBool_eq _ _).mono ?_; rintro e w' ⟨rfl, rfl⟩; simp only [vV]) | (go_at_call 152; refine (vnull_eq _).mono ?_; rintro e w' ⟨rfl, rfl⟩; simp only [vV]))
            refine bodyPost_ret (by simp [results, Tryz.results106, go_sem] <;> rfl) rfl ⟨rfl, ?_⟩
            repeat (first | exact Below.refl _ _ | apply Below.drew | apply below_alloc)
      · cases d
        · simp only [Bool.and_false, Bool.false_or, Bool.false_eq_true, if_false]
          conv => arg 3; simp only [vV]
          go_enter Tryz.func106, Tryz.ntmps106
          go_wp2_with fail
          go_cut [5] (fun s5 wx => s5 = .bool false ∧ wx = ((((((w.alloc (Obj.cells #[.int .i64 x.kind, .int .i64 x.num, .string (BS x.str)] 26)).alloc (Obj.cells #[.int .i64 y.kind, .int .i64 y.num, .string (BS y.str)] 26)).alloc (Obj.cells #[.int .i64 0, .int .i64 0, .string ⟨#[]⟩] 26)).alloc (Obj.cells #[.int .i64 (bV false).kind, .int .i64 (bV false).num, .string (BS (bV false).str)] 26)).alloc (Obj.cells #[.int .i64 (bV false).kind, .int .i64 (bV false).num, .string (BS (bV false).str)] 26))).drew)
          case first => go_region_with (go_at_call 64; refine (vBool_eq _ _).mono ?_; rintro e w' ⟨rfl, rfl⟩; simp only [vV]); all_goals (go_wp2_with fail; go_meet; exact ⟨rfl, rfl⟩)
          case rest =>
            obtain ⟨rfl, rfl⟩ := hcut
            go_wp2_with fail
            go_cut [15] (fun s15 wx => s15 = .bool false ∧ wx = ((((((((w.alloc (Obj.cells #[.int .i64 x.kind, .int .i64 x.num, .string (BS x.str)] 26)).alloc (Obj.cells #[.int .i64 y.kind, .int .i64 y.num, .string (BS y.str)] 26)).alloc (Obj.cells #[.int .i64 0, .int .i64 0, .string ⟨#[]⟩] 26)).alloc (Obj.cells #[.int .i64 (bV false).kind, .int .i64 (bV false).num, .string (BS (bV false).str)] 26)).alloc (Obj.cells #[.int .i64 (bV false).kind, .int .i64 (bV false).num, .string (BS (bV false).str)] 26)).alloc (Obj.cells #[.int .i64 (bV true).kind, .int .i64 (bV true).num, .string (BS (bV true).str)] 26)).alloc (Obj.cells #[.int .i64 (bV true).kind, .int .i64 (bV true).num, .string (BS (bV true).str)] 26))).drew.drew)
            case first => go_region_with (go_at_call 64; refine (vBool_eq _ _).mono ?_; rintro e w' ⟨rfl, rfl⟩; simp only [vV]); all_goals (go_wp2_with fail; go_meet; exact ⟨rfl, rfl⟩)
            case rest =>
              obtain ⟨rfl, rfl⟩ := hcut
              go_wp2_with (first | (go_at_call 64; refine (vBool_eq _ _).mono ?_; rintro e w' ⟨rfl, rfl⟩; simp only [vV]) | (go_at_call 152; refine (vnull_eq _).mono ?_; rintro e w' ⟨rfl, rfl⟩; simp only [vV]))
              refine bodyPost_ret (by simp [results, Tryz.results106, go_sem] <;> rfl) rfl ⟨rfl, ?_⟩
              repeat (first | exact Below.refl _ _ | apply Below.drew | apply below_alloc)
        · simp only [Bool.and_true, Bool.false_or, Bool.false_eq_true, if_false, if_true]
          conv => arg 3; simp only [vV]
          go_enter Tryz.func106, Tryz.ntmps106
          go_wp2_with fail
          go_cut [5] (fun s5 wx => s5 = .bool false ∧ wx = ((((((w.alloc (Obj.cells #[.int .i64 x.kind, .int .i64 x.num, .string (BS x.str)] 26)).alloc (Obj.cells #[.int .i64 y.kind, .int .i64 y.num, .string (BS y.str)] 26)).alloc (Obj.cells #[.int .i64 0, .int .i64 0, .string ⟨#[]⟩] 26)).alloc (Obj.cells #[.int .i64 (bV false).kind, .int .i64 (bV false).num, .string (BS (bV false).str)] 26)).alloc (Obj.cells #[.int .i64 (bV false).kind, .int .i64 (bV false).num, .string (BS (bV false).str)] 26))).drew)
          case first => go_region_with (go_at_call 64; refine (vBool_eq _ _).mono ?_; rintro e w' ⟨rfl, rfl⟩; simp only [vV]); all_goals (go_wp2_with fail; go_meet; exact ⟨rfl, rfl⟩)
          case rest =>
            obtain ⟨rfl, rfl⟩ := hcut
            go_wp2_with fail
            go_cut [15] (fun s15 wx => s15 = .bool true ∧ wx = ((((((((w.alloc (Obj.cells #[.int .i64 x.kind, .int .i64 x.num, .string (BS x.str)] 26)).alloc (Obj.cells #[.int .i64 y.kind, .int .i64 y.num, .string (BS y.str)] 26)).alloc (Obj.cells #[.int .i64 0, .int .i64 0, .string ⟨#[]⟩] 26)).alloc (Obj.cells #[.int .i64 (bV false).kind, .int .i64 (bV false).num, .string (BS (bV false).str)] 26)).alloc (Obj.cells #[.int .i64 (bV false).kind, .int .i64 (bV false).num, .string (BS (bV false).str)] 26)).alloc (Obj.cells #[.int .i64 (bV true).kind, .int .i64 (bV true).num, .string (BS (bV true).str)] 26)).alloc (Obj.cells #[.int .i64 (bV true).kind, .int .i64 (bV true).num, .string (BS (bV true).str)] 26))).drew.drew)
            case first => go_region_with (go_at_call 64; refine (vBool_eq _ _).mono ?_; rintro e w' ⟨rfl, rfl⟩; simp only [vV]); all_goals (go_wp2_with fail; go_meet; exact ⟨rfl, rfl⟩)
            case rest =>
              obtain ⟨rfl, rfl⟩ := hcut
              go_wp2_with (first | (go_at_call 64; refine (vBool_eq _ _).mono ?_; rintro e w' ⟨rfl, rfl⟩; simp only [vV]) | (go_at_call 152; refine (vnull_eq _).mono ?_; rintro e w' ⟨rfl, rfl⟩; simp only [vV]))
              refine bodyPost_ret (by simp [results, Tryz.results106, go_sem] <;> rfl) rfl ⟨rfl, ?_⟩
              repeat (first | exact Below.refl _ _ | apply Below.drew | apply below_alloc)
    · simp only [Bool.false_or, if_true]
      conv => arg 3; simp only [vV]
      go_enter Tryz.func106, Tryz.ntmps106
      go_wp2_with fail
      go_cut [5] (fun s5 wx => s5 = .bool true ∧ wx = ((((((w.alloc (Obj.cells #[.int .i64 x.kind, .int .i64 x.num, .string (BS x.str)] 26)).alloc (Obj.cells #[.int .i64 y.kind, .int .i64 y.num, .string (BS y.str)] 26)).alloc (Obj.cells #[.int .i64 0, .int .i64 0, .string ⟨#[]⟩] 26)).alloc (Obj.cells #[.int .i64 (bV false).kind, .int .i64 (bV false).num, .string (BS (bV false).str)] 26)).alloc (Obj.cells #[.int .i64 (bV false).kind, .int .i64 (bV false).num, .string (BS (bV false).str)] 26))).drew)
      case first => go_region_with (go_at_call 64; refine (vBool_eq _ _).mono ?_; rintro e w' ⟨rfl, rfl⟩; simp only [vV]); all_goals (go_wp2_with fail; go_meet; exact ⟨rfl, rfl⟩)
      case rest =>
        obtain ⟨rfl, rfl⟩ := hcut
        go_wp2_with (first | (go_at_call 64; refine (vBool_eq _ _).mono ?_; rintro e w' ⟨rfl, rfl⟩; simp only [vV]) | (go_at_call 152; refine (vnull_eq _).mono ?_; rintro e w' ⟨rfl, rfl⟩; simp only [vV]))
        refine bodyPost_ret (by simp [results, Tryz.results106, go_sem] <;> rfl) rfl ⟨rfl, ?_⟩
        repeat (first | exact Below.refl _ _ | apply Below.drew | apply below_alloc)
  · simp only [Bool.true_or, if_true]
    conv => arg 3; simp only [vV]
    go_enter Tryz.func106, Tryz.ntmps106
    go_wp2_with fail
    go_cut [5] (fun s5 wx => s5 = .bool true ∧ wx = (((((w.alloc (Obj.cells #[.int .i64 x.kind, .int .i64 x.num, .string (BS x.str)] 26)).alloc (Obj.cells #[.int .i64 y.kind, .int .i64 y.num, .string (BS y.str)] 26)).alloc (Obj.cells #[.int .i64 0, .int .i64 0, .string ⟨#[]⟩] 26)).alloc (Obj.cells #[.int .i64 (bV false).kind, .int .i64 (bV false).num, .string (BS (bV false).str)] 26))).drew)
    case first => go_region_with (go_at_call 64; refine (vBool_eq _ _).mono ?_; rintro e w' ⟨rfl, rfl⟩; simp only [vV]); all_goals (go_wp2_with fail; go_meet; exact ⟨rfl, rfl⟩)
    case rest =>
      obtain ⟨rfl, rfl⟩ := hcut
      go_wp2_with (first | (go_at_call 64; refine (vBool_eq _ _).mono ?_; rintro e w' ⟨rfl, rfl⟩; simp only [vV]) | (go_at_call 152; refine (vnull_eq _).mono ?_; rintro e w' ⟨rfl, rfl⟩; simp only [vV]))
      refine bodyPost_ret (by simp [results, Tryz.results106, go_sem] <;> rfl) rfl ⟨rfl, ?_⟩
      repeat (first | exact Below.refl _ _ | apply Below.drew | apply below_alloc)

end Go.Proofs.YtfkcaldjphakpaaGreatDoor
