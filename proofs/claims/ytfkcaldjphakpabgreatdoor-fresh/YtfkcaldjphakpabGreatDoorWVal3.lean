/- Contracts of package value: Or. -/
import Derived.Test.YtfkcaldjphakpabGreatDoorWVal2
import Derived.Deep.RegionWith
import Derived.Deep.DeepCutAuto
namespace Go.Proofs.YtfkcaldjphakpabGreatDoor
open Go.RowKit
def orV (x y:V):V:=if decide (x=bV true)||decide (y=bV true) then bV true else if decide (x=bV false)&&decide (y=bV false) then bV false else nV
set_option maxHeartbeats 4000000 in
theorem vOr_any (x y:V) (w:World) :
  Calls Tryz.prog 150 #[vV x,vV y] w fun e w'=>e=.returned (vV (orV x y))∧Below w.heap.size w w':=by
 have ex:=fun w=>vj6 x (bV true) w
 have ey:=fun w=>vj6 y (bV true) w
 have fx:=fun w=>vj6 x (bV false) w
 have fy:=fun w=>vj6 y (bV false) w
 simp only [vV] at ex ey fx fy
 unfold orV
 generalize decide (x=bV true)=a at *
 generalize decide (y=bV true)=b at *
 generalize decide (x=bV false)=c at *
 generalize decide (y=bV false)=d at *
 cases a
 ·cases b
  ·cases c
   ·simp only [Bool.false_and,Bool.false_or,Bool.false_eq_true,if_false]
    conv=>arg 3;simp only [vV]
    go_enter Tryz.func150,Tryz.ntmps150
    go_wp2_with fail
    go_cut [5] (fun s5 wx=>s5=.bool false∧wx=((((((w.alloc (Obj.cells #[.int .i64 x.kind,.int .i64 x.num,.string (BS x.str)] 118)).alloc (Obj.cells #[.int .i64 y.kind,.int .i64 y.num,.string (BS y.str)] 118)).alloc (Obj.cells #[.int .i64 0,.int .i64 0,.string ⟨#[]⟩] 118)).alloc (Obj.cells #[.int .i64 (bV true).kind,.int .i64 (bV true).num,.string (BS (bV true).str)] 118)).alloc (Obj.cells #[.int .i64 (bV true).kind,.int .i64 (bV true).num,.string (BS (bV true).str)] 118))).drew)
    case first=>go_region_with (go_at_call 70;refine (qa7 _ _).mono ?_;rintro e w' ⟨rfl,rfl⟩;simp only [vV]);all_goals (go_wp2_with fail;go_meet;exact ⟨rfl,rfl⟩)
    case rest=>
     obtain ⟨rfl,rfl⟩:=hcut
     go_wp2_with fail
     go_cut [15] (fun s15 wx=>s15=.bool false∧wx=(((((((w.alloc (Obj.cells #[.int .i64 x.kind,.int .i64 x.num,.string (BS x.str)] 118)).alloc (Obj.cells #[.int .i64 y.kind,.int .i64 y.num,.string (BS y.str)] 118)).alloc (Obj.cells #[.int .i64 0,.int .i64 0,.string ⟨#[]⟩] 118)).alloc (Obj.cells #[.int .i64 (bV true).kind,.int .i64 (bV true).num,.string (BS (bV true).str)] 118)).alloc (Obj.cells #[.int .i64 (bV true).kind,.int .i64 (bV true).num,.string (BS (bV true).str)] 118)).alloc (Obj.cells #[.int .i64 (bV false).kind,.int .i64 (bV false).num,.string (BS (bV false).str)] 118))).drew.drew)
     case first=>go_region_with (go_at_call 70;refine (qa7 _ _).mono ?_;rintro e w' ⟨rfl,rfl⟩;simp only [vV]);all_goals (go_wp2_with fail;go_meet;exact ⟨rfl,rfl⟩)
     case rest=>
      obtain ⟨rfl,rfl⟩:=hcut
      go_wp2_with (first|(go_at_call 70;refine (qa7 _ _).mono ?_;rintro e w' ⟨rfl,rfl⟩;simp only [vV])|(go_at_call 146;refine (qn2 _).mono ?_;rintro e w' ⟨rfl,rfl⟩;simp only [vV]))
      refine bodyPost_ret (by simp [results,Tryz.results150,go_sem]<;>rfl) rfl ⟨rfl, ?_⟩
      repeat (first|exact Below.refl _ _|apply Below.drew|apply x3)
   ·cases d
    ·simp only [Bool.and_false,Bool.false_or,Bool.false_eq_true,if_false]
     conv=>arg 3;simp only [vV]
     go_enter Tryz.func150,Tryz.ntmps150
     go_wp2_with fail
     go_cut [5] (fun s5 wx=>s5=.bool false∧wx=((((((w.alloc (Obj.cells #[.int .i64 x.kind,.int .i64 x.num,.string (BS x.str)] 118)).alloc (Obj.cells #[.int .i64 y.kind,.int .i64 y.num,.string (BS y.str)] 118)).alloc (Obj.cells #[.int .i64 0,.int .i64 0,.string ⟨#[]⟩] 118)).alloc (Obj.cells #[.int .i64 (bV true).kind,.int .i64 (bV true).num,.string (BS (bV true).str)] 118)).alloc (Obj.cells #[.int .i64 (bV true).kind,.int .i64 (bV true).num,.string (BS (bV true).str)] 118))).drew)
     case first=>go_region_with (go_at_call 70;refine (qa7 _ _).mono ?_;rintro e w' ⟨rfl,rfl⟩;simp only [vV]);all_goals (go_wp2_with fail;go_meet;exact ⟨rfl,rfl⟩)
     case rest=>
      obtain ⟨rfl,rfl⟩:=hcut
      go_wp2_with fail
      go_cut [15] (fun s15 wx=>s15=.bool false∧wx=((((((((w.alloc (Obj.cells #[.int .i64 x.kind,.int .i64 x.num,.string (BS x.str)] 118)).alloc (Obj.cells #[.int .i64 y.kind,.int .i64 y.num,.string (BS y.str)] 118)).alloc (Obj.cells #[.int .i64 0,.int .i64 0,.string ⟨#[]⟩] 118)).alloc (Obj.cells #[.int .i64 (bV true).kind,.int .i64 (bV true).num,.string (BS (bV true).str)] 118)).alloc (Obj.cells #[.int .i64 (bV true).kind,.int .i64 (bV true).num,.string (BS (bV true).str)] 118)).alloc (Obj.cells #[.int .i64 (bV false).kind,.int .i64 (bV false).num,.string (BS (bV false).str)] 118)).alloc (Obj.cells #[.int .i64 (bV false).kind,.int .i64 (bV false).num,.string (BS (bV false).str)] 118))).drew.drew)
      case first=>go_region_with (go_at_call 70;refine (qa7 _ _).mono ?_;rintro e w' ⟨rfl,rfl⟩;simp only [vV]);all_goals (go_wp2_with fail;go_meet;exact ⟨rfl,rfl⟩)
      case rest=>
       obtain ⟨rfl,rfl⟩:=hcut
       go_wp2_with (first|(go_at_call 70;refine (qa7 _ _).mono ?_;rintro e w' ⟨rfl,rfl⟩;simp only [vV])|(go_at_call 146;refine (qn2 _).mono ?_;rintro e w' ⟨rfl,rfl⟩;simp only [vV]))
       refine bodyPost_ret (by simp [results,Tryz.results150,go_sem]<;>rfl) rfl ⟨rfl, ?_⟩
       repeat (first|exact Below.refl _ _|apply Below.drew|apply x3)
    ·simp only [Bool.and_true,Bool.false_or,Bool.false_eq_true,if_false,if_true]
     conv=>arg 3;simp only [vV]
     go_enter Tryz.func150,Tryz.ntmps150
     go_wp2_with fail
     go_cut [5] (fun s5 wx=>s5=.bool false∧wx=((((((w.alloc (Obj.cells #[.int .i64 x.kind,.int .i64 x.num,.string (BS x.str)] 118)).alloc (Obj.cells #[.int .i64 y.kind,.int .i64 y.num,.string (BS y.str)] 118)).alloc (Obj.cells #[.int .i64 0,.int .i64 0,.string ⟨#[]⟩] 118)).alloc (Obj.cells #[.int .i64 (bV true).kind,.int .i64 (bV true).num,.string (BS (bV true).str)] 118)).alloc (Obj.cells #[.int .i64 (bV true).kind,.int .i64 (bV true).num,.string (BS (bV true).str)] 118))).drew)
     case first=>go_region_with (go_at_call 70;refine (qa7 _ _).mono ?_;rintro e w' ⟨rfl,rfl⟩;simp only [vV]);all_goals (go_wp2_with fail;go_meet;exact ⟨rfl,rfl⟩)
     case rest=>
      obtain ⟨rfl,rfl⟩:=hcut
      go_wp2_with fail
      go_cut [15] (fun s15 wx=>s15=.bool true∧wx=((((((((w.alloc (Obj.cells #[.int .i64 x.kind,.int .i64 x.num,.string (BS x.str)] 118)).alloc (Obj.cells #[.int .i64 y.kind,.int .i64 y.num,.string (BS y.str)] 118)).alloc (Obj.cells #[.int .i64 0,.int .i64 0,.string ⟨#[]⟩] 118)).alloc (Obj.cells #[.int .i64 (bV true).kind,.int .i64 (bV true).num,.string (BS (bV true).str)] 118)).alloc (Obj.cells #[.int .i64 (bV true).kind,.int .i64 (bV true).num,.string (BS (bV true).str)] 118)).alloc (Obj.cells #[.int .i64 (bV false).kind,.int .i64 (bV false).num,.string (BS (bV false).str)] 118)).alloc (Obj.cells #[.int .i64 (bV false).kind,.int .i64 (bV false).num,.string (BS (bV false).str)] 118))).drew.drew)
      case first=>go_region_with (go_at_call 70;refine (qa7 _ _).mono ?_;rintro e w' ⟨rfl,rfl⟩;simp only [vV]);all_goals (go_wp2_with fail;go_meet;exact ⟨rfl,rfl⟩)
      case rest=>
       obtain ⟨rfl,rfl⟩:=hcut
       go_wp2_with (first|(go_at_call 70;refine (qa7 _ _).mono ?_;rintro e w' ⟨rfl,rfl⟩;simp only [vV])|(go_at_call 146;refine (qn2 _).mono ?_;rintro e w' ⟨rfl,rfl⟩;simp only [vV]))
       refine bodyPost_ret (by simp [results,Tryz.results150,go_sem]<;>rfl) rfl ⟨rfl, ?_⟩
       repeat (first|exact Below.refl _ _|apply Below.drew|apply x3)
  ·simp only [Bool.false_or,if_true]
   conv=>arg 3;simp only [vV]
   go_enter Tryz.func150,Tryz.ntmps150
   go_wp2_with fail
   go_cut [5] (fun s5 wx=>s5=.bool true∧wx=((((((w.alloc (Obj.cells #[.int .i64 x.kind,.int .i64 x.num,.string (BS x.str)] 118)).alloc (Obj.cells #[.int .i64 y.kind,.int .i64 y.num,.string (BS y.str)] 118)).alloc (Obj.cells #[.int .i64 0,.int .i64 0,.string ⟨#[]⟩] 118)).alloc (Obj.cells #[.int .i64 (bV true).kind,.int .i64 (bV true).num,.string (BS (bV true).str)] 118)).alloc (Obj.cells #[.int .i64 (bV true).kind,.int .i64 (bV true).num,.string (BS (bV true).str)] 118))).drew)
   case first=>go_region_with (go_at_call 70;refine (qa7 _ _).mono ?_;rintro e w' ⟨rfl,rfl⟩;simp only [vV]);all_goals (go_wp2_with fail;go_meet;exact ⟨rfl,rfl⟩)
   case rest=>
    obtain ⟨rfl,rfl⟩:=hcut
    go_wp2_with (first|(go_at_call 70;refine (qa7 _ _).mono ?_;rintro e w' ⟨rfl,rfl⟩;simp only [vV])|(go_at_call 146;refine (qn2 _).mono ?_;rintro e w' ⟨rfl,rfl⟩;simp only [vV]))
    refine bodyPost_ret (by simp [results,Tryz.results150,go_sem]<;>rfl) rfl ⟨rfl, ?_⟩
    repeat (first|exact Below.refl _ _|apply Below.drew|apply x3)
 ·simp only [Bool.true_or,if_true]
  conv=>arg 3;simp only [vV]
  go_enter Tryz.func150,Tryz.ntmps150
  go_wp2_with fail
  go_cut [5] (fun s5 wx=>s5=.bool true∧wx=(((((w.alloc (Obj.cells #[.int .i64 x.kind,.int .i64 x.num,.string (BS x.str)] 118)).alloc (Obj.cells #[.int .i64 y.kind,.int .i64 y.num,.string (BS y.str)] 118)).alloc (Obj.cells #[.int .i64 0,.int .i64 0,.string ⟨#[]⟩] 118)).alloc (Obj.cells #[.int .i64 (bV true).kind,.int .i64 (bV true).num,.string (BS (bV true).str)] 118))).drew)
  case first=>go_region_with (go_at_call 70;refine (qa7 _ _).mono ?_;rintro e w' ⟨rfl,rfl⟩;simp only [vV]);all_goals (go_wp2_with fail;go_meet;exact ⟨rfl,rfl⟩)
  case rest=>
   obtain ⟨rfl,rfl⟩:=hcut
   go_wp2_with (first|(go_at_call 70;refine (qa7 _ _).mono ?_;rintro e w' ⟨rfl,rfl⟩;simp only [vV])|(go_at_call 146;refine (qn2 _).mono ?_;rintro e w' ⟨rfl,rfl⟩;simp only [vV]))
   refine bodyPost_ret (by simp [results,Tryz.results150,go_sem]<;>rfl) rfl ⟨rfl, ?_⟩
   repeat (first|exact Below.refl _ _|apply Below.drew|apply x3)
end Go.Proofs.YtfkcaldjphakpabGreatDoor
