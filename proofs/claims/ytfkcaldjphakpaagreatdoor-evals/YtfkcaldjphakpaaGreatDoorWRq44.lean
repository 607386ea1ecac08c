/- The document's answer: what a node is, if its operands are those: one or two of them. -/
import Derived.Test.YtfkcaldjphakpaaGreatDoorWRq43
import Derived.Test.YtfkcaldjphakpaaGreatDoorE25
import Derived.Test.YtfkcaldjphakpaaGreatDoorE26
set_option maxHeartbeats 1000000
set_option maxRecDepth 100000
namespace Go.Proofs.YtfkcaldjphakpaaGreatDoor
open Go.RowKit
section
variable {w:World} {a N c:Int} {iv lv ev:Value} {S E:ByteArray} {neg:Bool}
theorem rvalue_23 {b n cap:Nat} {x:V} (hn:0<n) (hb0:b<w.heap.size) (x0:w.cell? ⟨b,0,none⟩=some (.int .i64 x.kind)) :
  Calls Tryz.prog 176 #[.agg #[.string ⟨#[78,85,76,76]⟩,.int .i64 a,iv,.string S,.string E,lv,.int .i64 N,.bool neg,.int .i64 c],.slice (some ⟨b,0,none⟩) n cap,ev] w fun e w'=>e=.returned (vV (bV (x.kind==0)))∧Below w.heap.size w w':=by
 have hn':(0:Int)<(n:Int):=by omega
 go_enter Tryz.func176,Tryz.ntmps176
 go_wp2_with (go_at_call 132;refine (j8 _ _).mono ?_;rintro e w' ⟨rfl,hb⟩;obtain ⟨hc,hf⟩:=v9 hb;simp only [vV])
 refine bodyPost_ret (by simp [results,Tryz.results176,go_sem,hc]<;>rfl) rfl ⟨rfl, ?_⟩
 exact ((((v8 (qb2 _ _ _) hb).setCell (by simp) _).setCell (by simp) _).setCell (by simp) _)
theorem rvalue_6 {b n cap:Nat} {x y:V} (hn:1<n) (hb0:b<w.heap.size) (x0:w.cell? ⟨b,0,none⟩=some (.int .i64 x.kind)) (x1:w.cell? ⟨b,1,none⟩=some (.int .i64 x.num)) (x2:w.cell? ⟨b,2,none⟩=some (.string (BS x.str))) (y0:w.cell? ⟨b,3,none⟩=some (.int .i64 y.kind)) (y1:w.cell? ⟨b,4,none⟩=some (.int .i64 y.num)) (y2:w.cell? ⟨b,5,none⟩=some (.string (BS y.str))) :
  Calls Tryz.prog 176 #[.agg #[.string ⟨#[65,78,68]⟩,.int .i64 a,iv,.string S,.string E,lv,.int .i64 N,.bool neg,.int .i64 c],.slice (some ⟨b,0,none⟩) n cap,ev] w fun e w'=>e=.returned (vV (jb6 x y))∧Below w.heap.size w w':=by
 have hn':(0:Int)<(n:Int):=by omega
 have hn1:(1:Int)<(n:Int):=by omega
 have RN:=v7 (fun w=>ja0 x y w)
 simp only [vV] at RN
 go_enter Tryz.func176,Tryz.ntmps176
 go_wp2_with fail
 go_region_with (go_at_call 220;refine (q9 RN _).mono ?_;rintro e w' ⟨rfl,hb⟩;obtain ⟨hc,hf⟩:=v9 hb)
 all_goals go_wp2_with fail
 all_goals refine bodyPost_ret (by simp [results,Tryz.results176,go_sem,hc]<;>rfl) rfl ⟨rfl, ?_⟩
 all_goals exact ((((v8 (qb2 _ _ _).drew hb).setCell (by simp) _).setCell (by simp) _).setCell (by simp) _)
theorem rvalue_7 {b n cap:Nat} {x y:V} (hn:1<n) (hb0:b<w.heap.size) (x0:w.cell? ⟨b,0,none⟩=some (.int .i64 x.kind)) (x1:w.cell? ⟨b,1,none⟩=some (.int .i64 x.num)) (x2:w.cell? ⟨b,2,none⟩=some (.string (BS x.str))) (y0:w.cell? ⟨b,3,none⟩=some (.int .i64 y.kind)) (y1:w.cell? ⟨b,4,none⟩=some (.int .i64 y.num)) (y2:w.cell? ⟨b,5,none⟩=some (.string (BS y.str))) :
  Calls Tryz.prog 176 #[.agg #[.string ⟨#[79,82]⟩,.int .i64 a,iv,.string S,.string E,lv,.int .i64 N,.bool neg,.int .i64 c],.slice (some ⟨b,0,none⟩) n cap,ev] w fun e w'=>e=.returned (vV (orV x y))∧Below w.heap.size w w':=by
 have hn':(0:Int)<(n:Int):=by omega
 have hn1:(1:Int)<(n:Int):=by omega
 have RN:=v7 (fun w=>ror_any x y w)
 simp only [vV] at RN
 go_enter Tryz.func176,Tryz.ntmps176
 go_wp2_with fail
 go_region_with (go_at_call 221;refine (q9 RN _).mono ?_;rintro e w' ⟨rfl,hb⟩;obtain ⟨hc,hf⟩:=v9 hb)
 all_goals go_wp2_with fail
 all_goals refine bodyPost_ret (by simp [results,Tryz.results176,go_sem,hc]<;>rfl) rfl ⟨rfl, ?_⟩
 all_goals exact ((((v8 (qb2 _ _ _).drew hb).setCell (by simp) _).setCell (by simp) _).setCell (by simp) _)
theorem rvalue_8 {b n cap:Nat} {x y:V} (hn:1<n) (hb0:b<w.heap.size) (x0:w.cell? ⟨b,0,none⟩=some (.int .i64 x.kind)) (x1:w.cell? ⟨b,1,none⟩=some (.int .i64 x.num)) (x2:w.cell? ⟨b,2,none⟩=some (.string (BS x.str))) (y0:w.cell? ⟨b,3,none⟩=some (.int .i64 y.kind)) (y1:w.cell? ⟨b,4,none⟩=some (.int .i64 y.num)) (y2:w.cell? ⟨b,5,none⟩=some (.string (BS y.str))) :
  Calls Tryz.prog 176 #[.agg #[.string ⟨#[61]⟩,.int .i64 a,iv,.string S,.string E,lv,.int .i64 N,.bool neg,.int .i64 c],.slice (some ⟨b,0,none⟩) n cap,ev] w fun e w'=>e=.returned (vV (eqV x y))∧Below w.heap.size w w':=by
 have hn':(0:Int)<(n:Int):=by omega
 have hn1:(1:Int)<(n:Int):=by omega
 have RN:=v7 (fun w=>qy8 x y w)
 simp only [vV] at RN
 go_enter Tryz.func176,Tryz.ntmps176
 go_wp2_with fail
 go_region_with (go_at_call 222;refine (q9 RN _).mono ?_;rintro e w' ⟨rfl,hb⟩;obtain ⟨hc,hf⟩:=v9 hb)
 all_goals go_wp2_with fail
 all_goals refine bodyPost_ret (by simp [results,Tryz.results176,go_sem,hc]<;>rfl) rfl ⟨rfl, ?_⟩
 all_goals exact ((((v8 (qb2 _ _ _).drew hb).setCell (by simp) _).setCell (by simp) _).setCell (by simp) _)
end
end Go.Proofs.YtfkcaldjphakpaaGreatDoor
