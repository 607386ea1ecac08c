/- The document's answer: what a node is, if its operands are those: not equal. -/
import Derived.Test.YtfkcaldjphakpaaGreatDoorWRq44
namespace Go.Proofs.YtfkcaldjphakpaaGreatDoor
open Go.RowKit
section
variable {w:World} {a N c:Int} {iv lv ev:Value} {S E:ByteArray} {neg:Bool}
set_option maxHeartbeats 1000000 in
set_option maxRecDepth 100000 in
theorem rvalue_9 {b n cap:Nat} {x y:V} (hn:1<n) (hb0:b<w.heap.size) (x0:w.cell? ⟨b,0,none⟩=some (.int .i64 x.kind)) (x1:w.cell? ⟨b,1,none⟩=some (.int .i64 x.num)) (x2:w.cell? ⟨b,2,none⟩=some (.string (BS x.str))) (y0:w.cell? ⟨b,3,none⟩=some (.int .i64 y.kind)) (y1:w.cell? ⟨b,4,none⟩=some (.int .i64 y.num)) (y2:w.cell? ⟨b,5,none⟩=some (.string (BS y.str))) :
  Calls Tryz.prog 176 #[.agg #[.string ⟨#[60,62]⟩,.int .i64 a,iv,.string S,.string E,lv,.int .i64 N,.bool neg,.int .i64 c],.slice (some ⟨b,0,none⟩) n cap,ev] w fun e w'=>e=.returned (vV (qz7 (eqV x y)))∧Below w.heap.size w w':=by
 have hn':(0:Int)<(n:Int):=by omega
 have hn1:(1:Int)<(n:Int):=by omega
 have RE:=v7 (fun w=>qy8 x y w)
 have RN:=v7 (fun w=>vj4 (eqV x y) w)
 simp only [vV] at RE RN
 go_enter Tryz.func176,Tryz.ntmps176
 go_wp2_with fail
 go_region_with (first|(go_at_call 222;refine (q9 RE _).mono ?_;rintro e w1 ⟨rfl,hb1⟩;have hB1:=v8 (qb2 w _ _).drew hb1;obtain ⟨hc1,hf1⟩:=v9 hb1;have hz1:w.heap.size+2≤w1.heap.size:=(by have:=hb1.size;change ((w.alloc _).alloc _).heap.size≤_ at this;simp at this;omega);have s0:w1.cell? ⟨w.heap.size+1,0,none⟩=some (.int .i64 0):=(hc1 _ 0 (by show _<((w.alloc _).alloc _).heap.size;simp)).trans (by show ((w.alloc _).alloc _).cell? _=_;simp);have s1:w1.cell? ⟨w.heap.size+1,1,none⟩=some (.int .i64 0):=(hc1 _ 1 (by show _<((w.alloc _).alloc _).heap.size;simp)).trans (by show ((w.alloc _).alloc _).cell? _=_;simp);have s2:w1.cell? ⟨w.heap.size+1,2,none⟩=some (.string ⟨#[]⟩):=(hc1 _ 2 (by show _<((w.alloc _).alloc _).heap.size;simp)).trans (by show ((w.alloc _).alloc _).cell? _=_;simp);have sz:∀i,w1.frozen? ⟨w.heap.size+1,i,none⟩=false:=(fun i=>(hf1 _ i (by show _<((w.alloc _).alloc _).heap.size;simp)).trans (by show ((w.alloc _).alloc _).frozen? _=_;simp));clear hb1 hc1 hf1)|(go_at_call 177;refine (q9 RN _).mono ?_;rintro e w' ⟨rfl,hb⟩;obtain ⟨hc,hf⟩:=v9 hb;have hB:=v8 hB1 hb;have r0:=(hc _ 0 (by omega)).trans s0;have r1:=(hc _ 1 (by omega)).trans s1;have r2:=(hc _ 2 (by omega)).trans s2;have rz:=(fun i=>(hf _ i (by omega)).trans (sz i));clear hb hc hf s0 s1 s2 sz))
 all_goals go_wp2_with fail
 all_goals refine bodyPost_ret (by simp [results,Tryz.results176,go_sem,r0,r1,r2]<;>rfl) rfl ⟨rfl, ?_⟩
 all_goals exact (((hB.setCell (by simp) _).setCell (by simp) _).setCell (by simp) _)
end
end Go.Proofs.YtfkcaldjphakpaaGreatDoor
