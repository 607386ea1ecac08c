/- The document's answer: what a node is, if its operands are those: leaves. -/
import Derived.Test.YtfkcaldjphakpaaGreatDoorE23
import Derived.Test.YtfkcaldjphakpaaGreatDoorE25
set_option maxHeartbeats 1000000
set_option maxRecDepth 100000
namespace Go.Proofs.YtfkcaldjphakpaaGreatDoor
open Go.RowKit
section
variable {w:World} {a N c:Int} {iv lv inv ev:Value} {S E:ByteArray} {neg:Bool}
theorem rvalue_1:Calls Tryz.prog 176 #[.agg #[.string ⟨#[110,117,109,98,101,114]⟩,.int .i64 a,iv,.string S,.string E,lv,.int .i64 N,.bool neg,.int .i64 c],inv,ev] w fun e w'=>e=.returned (vV (iV N))∧Below w.heap.size w w':=by
 go_enter Tryz.func176,Tryz.ntmps176
 go_wp2_with fail
 exact bodyPost_ret (by simp [results,Tryz.results176,go_sem];rfl) rfl ⟨rfl,((Below.refl _ _).alloc (Nat.le_refl _) _).alloc (by simp) _⟩
theorem rvalue_2:Calls Tryz.prog 176 #[.agg #[.string ⟨#[116,101,120,116]⟩,.int .i64 a,iv,.string S,.string E,lv,.int .i64 N,.bool neg,.int .i64 c],inv,ev] w fun e w'=>e=.returned (vV (tV S.data.toList))∧Below w.heap.size w w':=by
 go_enter Tryz.func176,Tryz.ntmps176
 go_wp2_with fail
 exact bodyPost_ret (by simp [results,Tryz.results176,go_sem];rfl) rfl ⟨rfl,((Below.refl _ _).alloc (Nat.le_refl _) _).alloc (by simp) _⟩
theorem rvalue_3:Calls Tryz.prog 176 #[.agg #[.string ⟨#[84,82,85,69]⟩,.int .i64 a,iv,.string S,.string E,lv,.int .i64 N,.bool neg,.int .i64 c],inv,ev] w fun e w'=>e=.returned (vV (bV true))∧Below w.heap.size w w':=by
 go_enter Tryz.func176,Tryz.ntmps176
 go_wp2_with (go_at_call 132;refine (j8 _ _).mono ?_;rintro e w' ⟨rfl,hb⟩;obtain ⟨hc,hf⟩:=v9 hb;simp only [vV])
 refine bodyPost_ret (by simp [results,Tryz.results176,go_sem,hc]<;>rfl) rfl ⟨rfl, ?_⟩
 exact ((((v8 (qb2 _ _ _) hb).setCell (by simp) _).setCell (by simp) _).setCell (by simp) _)
theorem rvalue_4:Calls Tryz.prog 176 #[.agg #[.string ⟨#[70,65,76,83,69]⟩,.int .i64 a,iv,.string S,.string E,lv,.int .i64 N,.bool neg,.int .i64 c],inv,ev] w fun e w'=>e=.returned (vV (bV false))∧Below w.heap.size w w':=by
 go_enter Tryz.func176,Tryz.ntmps176
 go_wp2_with (go_at_call 132;refine (j8 _ _).mono ?_;rintro e w' ⟨rfl,hb⟩;obtain ⟨hc,hf⟩:=v9 hb;simp only [vV])
 refine bodyPost_ret (by simp [results,Tryz.results176,go_sem,hc]<;>rfl) rfl ⟨rfl, ?_⟩
 exact ((((v8 (qb2 _ _ _) hb).setCell (by simp) _).setCell (by simp) _).setCell (by simp) _)
theorem rvalue_0 {v:V} (h:∀w2,Below w.heap.size w w2→Calls Tryz.prog 218 #[ev,.string S] w2 fun e w'=>e=.returned (vV v)∧Below w2.heap.size w2 w'):Calls Tryz.prog 176 #[.agg #[.string ⟨#[110,97,109,101]⟩,.int .i64 a,iv,.string S,.string E,lv,.int .i64 N,.bool neg,.int .i64 c],inv,ev] w fun e w'=>e=.returned (vV v)∧Below w.heap.size w w':=by
 have H:=v7 h
 clear h
 go_enter Tryz.func176,Tryz.ntmps176
 go_wp2_with (go_at_call 218;refine (q9 H _ (qb2 _ _ _)).mono ?_;rintro e w' ⟨rfl,hb⟩;obtain ⟨hc,hf⟩:=v9 hb;simp only [vV])
 refine bodyPost_ret (by simp [results,Tryz.results176,go_sem,hc]<;>rfl) rfl ⟨rfl, ?_⟩
 exact ((((v8 (qb2 _ _ _) hb).setCell (by simp) _).setCell (by simp) _).setCell (by simp) _)
theorem rvalue_5 {b n cap:Nat} {x:V} (hn:0<n) (hb0:b<w.heap.size) (x0:w.cell? ⟨b,0,none⟩=some (.int .i64 x.kind)) (x1:w.cell? ⟨b,1,none⟩=some (.int .i64 x.num)) (x2:w.cell? ⟨b,2,none⟩=some (.string (BS x.str))) :
  Calls Tryz.prog 176 #[.agg #[.string ⟨#[78,79,84]⟩,.int .i64 a,iv,.string S,.string E,lv,.int .i64 N,.bool neg,.int .i64 c],.slice (some ⟨b,0,none⟩) n cap,ev] w fun e w'=>e=.returned (vV (qz7 x))∧Below w.heap.size w w':=by
 have hn':(0:Int)<(n:Int):=by omega
 have RN:=v7 (fun w=>vj4 x w)
 simp only [vV] at RN
 go_enter Tryz.func176,Tryz.ntmps176
 go_wp2_with (go_at_call 177;refine (q9 RN _).mono ?_;rintro e w' ⟨rfl,hb⟩;obtain ⟨hc,hf⟩:=v9 hb)
 refine bodyPost_ret (by simp [results,Tryz.results176,go_sem,hc]<;>rfl) rfl ⟨rfl, ?_⟩
 exact ((((v8 (qb2 _ _ _) hb).setCell (by simp) _).setCell (by simp) _).setCell (by simp) _)
end
end Go.Proofs.YtfkcaldjphakpaaGreatDoor
