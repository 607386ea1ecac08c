/- The document's answer: what a node is, if its operands are those: signs. The document's answer: what a node is, if its operands are those: signs between two numbers. The document's answer: Read. -/
import Derived.Test.YtfkcaldjphakpaaGreatDoorWRq44
import Derived.Deep.RegionHeld3
import Derived.Test.YtfkcaldjphakpaaGreatDoorE23
import Derived.Deep.DeepCutAuto
set_option maxHeartbeats 2000000
set_option maxRecDepth 100000
namespace Go.Proofs.YtfkcaldjphakpaaGreatDoor
open Go.RowKit
section
section
variable {w:World} {a N c:Int} {iv lv ev:Value} {S E:ByteArray} {neg:Bool}
theorem rvalue_14 {b n cap:Nat} {x:V} (hn:0<n) (hb0:b<w.heap.size) (x0:w.cell? ⟨b,0,none⟩=some (.int .i64 x.kind)) (x1:w.cell? ⟨b,1,none⟩=some (.int .i64 x.num)) (x2:w.cell? ⟨b,2,none⟩=some (.string (BS x.str))) (hx:Rng x.num) :
  Calls Tryz.prog 176 #[.agg #[.string ⟨#[112]⟩,.int .i64 a,iv,.string S,.string E,lv,.int .i64 N,.bool neg,.int .i64 c],.slice (some ⟨b,0,none⟩) n cap,ev] w fun e w'=>e=.returned (vV (vk4 (iV 0) x))∧Below w.heap.size w w':=by
 have hn':(0:Int)<(n:Int):=by omega
 have RN:=v7 (fun w=>ja1 (iV 0) x ⟨by decide,by decide⟩ hx w)
 simp only [vV,iV] at RN
 go_enter Tryz.func176,Tryz.ntmps176
 go_wp2_with (go_at_call 219;refine (q9 RN _).mono ?_;rintro e w' ⟨rfl,hb⟩;obtain ⟨hc,hf⟩:=v9 hb)
 refine bodyPost_ret (by simp [results,Tryz.results176,go_sem,hc]<;>rfl) rfl ⟨rfl, ?_⟩
 exact ((((v8 (qb2 _ _ _) hb).setCell (by simp) _).setCell (by simp) _).setCell (by simp) _)
theorem rvalue_15 {b n cap:Nat} {x:V} (hn:0<n) (hb0:b<w.heap.size) (x0:w.cell? ⟨b,0,none⟩=some (.int .i64 x.kind)) (x1:w.cell? ⟨b,1,none⟩=some (.int .i64 x.num)) (x2:w.cell? ⟨b,2,none⟩=some (.string (BS x.str))) (hx:Rng x.num) :
  Calls Tryz.prog 176 #[.agg #[.string ⟨#[110]⟩,.int .i64 a,iv,.string S,.string E,lv,.int .i64 N,.bool neg,.int .i64 c],.slice (some ⟨b,0,none⟩) n cap,ev] w fun e w'=>e=.returned (vV (vk6 (iV 0) x))∧Below w.heap.size w w':=by
 have hn':(0:Int)<(n:Int):=by omega
 have RN:=v7 (fun w=>ja2 (iV 0) x ⟨by decide,by decide⟩ hx w)
 simp only [vV,iV] at RN
 go_enter Tryz.func176,Tryz.ntmps176
 go_wp2_with (go_at_call 219;refine (q9 RN _).mono ?_;rintro e w' ⟨rfl,hb⟩;obtain ⟨hc,hf⟩:=v9 hb)
 refine bodyPost_ret (by simp [results,Tryz.results176,go_sem,hc]<;>rfl) rfl ⟨rfl, ?_⟩
 exact ((((v8 (qb2 _ _ _) hb).setCell (by simp) _).setCell (by simp) _).setCell (by simp) _)
end
end
section
section
variable {w:World} {a N c:Int} {iv lv ev:Value} {S E:ByteArray} {neg:Bool}
theorem qp6 (O:ByteArray) (k0:(O.toList==[110,97,109,101])=false) (k1:(O.toList==[110,117,109,98,101,114])=false) (k2:(O.toList==[116,101,120,116])=false) (k3:(O.toList==[84,82,85,69])=false) (k4:(O.toList==[70,65,76,83,69])=false) (k5:(O.toList==[112])=false) (k6:(O.toList==[110])=false) (k7:(O.toList==[78,79,84])=false) (k8:(O.toList==[65,78,68])=false) (k9:(O.toList==[79,82])=false) (k10:(O.toList==[61])=false) (k11:(O.toList==[60,62])=false) (k12:(O.toList==[66,69,84,87,69,69,78])=false) (k13:(O.toList==[76,73,75,69])=false) (k14:(O.toList==[78,85,76,76])=false) (k15:(O.toList==[73,78])=false) {b n cap:Nat} {x y r:V} (hn:1<n) (hb0:b<w.heap.size) (x0:w.cell? ⟨b,0,none⟩=some (.int .i64 x.kind)) (x1:w.cell? ⟨b,1,none⟩=some (.int .i64 x.num)) (x2:w.cell? ⟨b,2,none⟩=some (.string (BS x.str))) (y0:w.cell? ⟨b,3,none⟩=some (.int .i64 y.kind)) (y1:w.cell? ⟨b,4,none⟩=some (.int .i64 y.num)) (y2:w.cell? ⟨b,5,none⟩=some (.string (BS y.str)))
  (HR:∀w,Calls Tryz.prog 219 #[.string O,vV x,vV y] w fun e w'=>e=.returned (vV r)∧Below w.heap.size w w') :
  Calls Tryz.prog 176 #[.agg #[.string O,.int .i64 a,iv,.string S,.string E,lv,.int .i64 N,.bool neg,.int .i64 c],.slice (some ⟨b,0,none⟩) n cap,ev] w fun e w'=>e=.returned (vV r)∧Below w.heap.size w w':=by
 have hn':(0:Int)<(n:Int):=by omega
 have hn1:(1:Int)<(n:Int):=by omega
 have nb:¬b=w.heap.size:=by omega
 have nb1:¬b=w.heap.size+1:=by omega
 have nb2:¬w.heap.size+1=b:=by omega
 have hn0:0<n:=by omega
 have RN:=v7 HR
 clear HR
 simp only [vV] at RN
 go_enter Tryz.func176,Tryz.ntmps176
 go_wp2_with fail
 go_region_held3 (fun W=>W.cell? ⟨w.heap.size,0,none⟩=some (.string O)∧W.cell? ⟨b,0,none⟩=some (.int .i64 x.kind)∧W.cell? ⟨b,1,none⟩=some (.int .i64 x.num)∧W.cell? ⟨b,2,none⟩=some (.string (BS x.str))∧W.cell? ⟨b,3,none⟩=some (.int .i64 y.kind)∧W.cell? ⟨b,4,none⟩=some (.int .i64 y.num)∧W.cell? ⟨b,5,none⟩=some (.string (BS y.str))) (first|with_reducible assumption|go_keep) ((go_at_call 219;refine (q9 RN _).mono ?_;rintro e w' ⟨rfl,hb⟩;obtain ⟨hc,hf⟩:=v9 hb;have hS:(w'.cell? ⟨w.heap.size,0,none⟩=some (.string O)∧w'.cell? ⟨b,0,none⟩=some (.int .i64 x.kind)∧w'.cell? ⟨b,1,none⟩=some (.int .i64 x.num)∧w'.cell? ⟨b,2,none⟩=some (.string (BS x.str))∧w'.cell? ⟨b,3,none⟩=some (.int .i64 y.kind)∧w'.cell? ⟨b,4,none⟩=some (.int .i64 y.num)∧w'.cell? ⟨b,5,none⟩=some (.string (BS y.str))):=⟨(hc _ 0 (by show _<((w.alloc _).alloc _).heap.size;simp;try omega)).trans (by show ((w.alloc _).alloc _).cell? _=_;simp),(hc _ 0 (by show _<((w.alloc _).alloc _).heap.size;simp;omega)).trans ((v9 (qb2 w _ _)).1 b 0 hb0 |>.trans x0),(hc _ 1 (by show _<((w.alloc _).alloc _).heap.size;simp;omega)).trans ((v9 (qb2 w _ _)).1 b 1 hb0 |>.trans x1),(hc _ 2 (by show _<((w.alloc _).alloc _).heap.size;simp;omega)).trans ((v9 (qb2 w _ _)).1 b 2 hb0 |>.trans x2),(hc _ 3 (by show _<((w.alloc _).alloc _).heap.size;simp;omega)).trans ((v9 (qb2 w _ _)).1 b 3 hb0 |>.trans y0),(hc _ 4 (by show _<((w.alloc _).alloc _).heap.size;simp;omega)).trans ((v9 (qb2 w _ _)).1 b 4 hb0 |>.trans y1),(hc _ 5 (by show _<((w.alloc _).alloc _).heap.size;simp;omega)).trans ((v9 (qb2 w _ _)).1 b 5 hb0 |>.trans y2)⟩))
 all_goals go_wp2_with fail
 all_goals refine bodyPost_ret (by simp [results,Tryz.results176,go_sem,hc]<;>rfl) rfl ⟨rfl, ?_⟩
 all_goals exact ((((v8 (qb2 _ _ _).drew hb).setCell (by simp) _).setCell (by simp) _).setCell (by simp) _)
theorem rvalue_10 {b n cap:Nat} {x y:V} (hn:1<n) (hb0:b<w.heap.size) (x0:w.cell? ⟨b,0,none⟩=some (.int .i64 x.kind)) (x1:w.cell? ⟨b,1,none⟩=some (.int .i64 x.num)) (x2:w.cell? ⟨b,2,none⟩=some (.string (BS x.str))) (y0:w.cell? ⟨b,3,none⟩=some (.int .i64 y.kind)) (y1:w.cell? ⟨b,4,none⟩=some (.int .i64 y.num)) (y2:w.cell? ⟨b,5,none⟩=some (.string (BS y.str))) :
  Calls Tryz.prog 176 #[.agg #[.string ⟨#[60]⟩,.int .i64 a,iv,.string S,.string E,lv,.int .i64 N,.bool neg,.int .i64 c],.slice (some ⟨b,0,none⟩) n cap,ev] w fun e w'=>e=.returned (vV (qp0 x y))∧Below w.heap.size w w':=
 qp6 _ (by kernel_rfl) (by kernel_rfl) (by kernel_rfl) (by kernel_rfl) (by kernel_rfl) (by kernel_rfl) (by kernel_rfl) (by kernel_rfl) (by kernel_rfl) (by kernel_rfl) (by kernel_rfl) (by kernel_rfl) (by kernel_rfl) (by kernel_rfl) (by kernel_rfl) (by kernel_rfl) hn hb0 x0 x1 x2 y0 y1 y2 (fun w=>reck_lt x y w)
theorem rvalue_11 {b n cap:Nat} {x y:V} (hn:1<n) (hb0:b<w.heap.size) (x0:w.cell? ⟨b,0,none⟩=some (.int .i64 x.kind)) (x1:w.cell? ⟨b,1,none⟩=some (.int .i64 x.num)) (x2:w.cell? ⟨b,2,none⟩=some (.string (BS x.str))) (y0:w.cell? ⟨b,3,none⟩=some (.int .i64 y.kind)) (y1:w.cell? ⟨b,4,none⟩=some (.int .i64 y.num)) (y2:w.cell? ⟨b,5,none⟩=some (.string (BS y.str))) :
  Calls Tryz.prog 176 #[.agg #[.string ⟨#[60,61]⟩,.int .i64 a,iv,.string S,.string E,lv,.int .i64 N,.bool neg,.int .i64 c],.slice (some ⟨b,0,none⟩) n cap,ev] w fun e w'=>e=.returned (vV (leV x y))∧Below w.heap.size w w':=
 qp6 _ (by kernel_rfl) (by kernel_rfl) (by kernel_rfl) (by kernel_rfl) (by kernel_rfl) (by kernel_rfl) (by kernel_rfl) (by kernel_rfl) (by kernel_rfl) (by kernel_rfl) (by kernel_rfl) (by kernel_rfl) (by kernel_rfl) (by kernel_rfl) (by kernel_rfl) (by kernel_rfl) hn hb0 x0 x1 x2 y0 y1 y2 (fun w=>reck_le x y w)
theorem rvalue_12 {b n cap:Nat} {x y:V} (hn:1<n) (hb0:b<w.heap.size) (x0:w.cell? ⟨b,0,none⟩=some (.int .i64 x.kind)) (x1:w.cell? ⟨b,1,none⟩=some (.int .i64 x.num)) (x2:w.cell? ⟨b,2,none⟩=some (.string (BS x.str))) (y0:w.cell? ⟨b,3,none⟩=some (.int .i64 y.kind)) (y1:w.cell? ⟨b,4,none⟩=some (.int .i64 y.num)) (y2:w.cell? ⟨b,5,none⟩=some (.string (BS y.str))) :
  Calls Tryz.prog 176 #[.agg #[.string ⟨#[62]⟩,.int .i64 a,iv,.string S,.string E,lv,.int .i64 N,.bool neg,.int .i64 c],.slice (some ⟨b,0,none⟩) n cap,ev] w fun e w'=>e=.returned (vV (qp0 y x))∧Below w.heap.size w w':=
 qp6 _ (by kernel_rfl) (by kernel_rfl) (by kernel_rfl) (by kernel_rfl) (by kernel_rfl) (by kernel_rfl) (by kernel_rfl) (by kernel_rfl) (by kernel_rfl) (by kernel_rfl) (by kernel_rfl) (by kernel_rfl) (by kernel_rfl) (by kernel_rfl) (by kernel_rfl) (by kernel_rfl) hn hb0 x0 x1 x2 y0 y1 y2 (fun w=>reck_gt x y w)
theorem rvalue_13 {b n cap:Nat} {x y:V} (hn:1<n) (hb0:b<w.heap.size) (x0:w.cell? ⟨b,0,none⟩=some (.int .i64 x.kind)) (x1:w.cell? ⟨b,1,none⟩=some (.int .i64 x.num)) (x2:w.cell? ⟨b,2,none⟩=some (.string (BS x.str))) (y0:w.cell? ⟨b,3,none⟩=some (.int .i64 y.kind)) (y1:w.cell? ⟨b,4,none⟩=some (.int .i64 y.num)) (y2:w.cell? ⟨b,5,none⟩=some (.string (BS y.str))) :
  Calls Tryz.prog 176 #[.agg #[.string ⟨#[62,61]⟩,.int .i64 a,iv,.string S,.string E,lv,.int .i64 N,.bool neg,.int .i64 c],.slice (some ⟨b,0,none⟩) n cap,ev] w fun e w'=>e=.returned (vV (leV y x))∧Below w.heap.size w w':=
 qp6 _ (by kernel_rfl) (by kernel_rfl) (by kernel_rfl) (by kernel_rfl) (by kernel_rfl) (by kernel_rfl) (by kernel_rfl) (by kernel_rfl) (by kernel_rfl) (by kernel_rfl) (by kernel_rfl) (by kernel_rfl) (by kernel_rfl) (by kernel_rfl) (by kernel_rfl) (by kernel_rfl) hn hb0 x0 x1 x2 y0 y1 y2 (fun w=>reck_ge x y w)
theorem rvalue_16 {b n cap:Nat} {x y:V} (hn:1<n) (hb0:b<w.heap.size) (x0:w.cell? ⟨b,0,none⟩=some (.int .i64 x.kind)) (x1:w.cell? ⟨b,1,none⟩=some (.int .i64 x.num)) (x2:w.cell? ⟨b,2,none⟩=some (.string (BS x.str))) (y0:w.cell? ⟨b,3,none⟩=some (.int .i64 y.kind)) (y1:w.cell? ⟨b,4,none⟩=some (.int .i64 y.num)) (y2:w.cell? ⟨b,5,none⟩=some (.string (BS y.str))) (hx:Rng x.num) (hy:Rng y.num) :
  Calls Tryz.prog 176 #[.agg #[.string ⟨#[43]⟩,.int .i64 a,iv,.string S,.string E,lv,.int .i64 N,.bool neg,.int .i64 c],.slice (some ⟨b,0,none⟩) n cap,ev] w fun e w'=>e=.returned (vV (vk4 x y))∧Below w.heap.size w w':=
 qp6 _ (by kernel_rfl) (by kernel_rfl) (by kernel_rfl) (by kernel_rfl) (by kernel_rfl) (by kernel_rfl) (by kernel_rfl) (by kernel_rfl) (by kernel_rfl) (by kernel_rfl) (by kernel_rfl) (by kernel_rfl) (by kernel_rfl) (by kernel_rfl) (by kernel_rfl) (by kernel_rfl) hn hb0 x0 x1 x2 y0 y1 y2 (fun w=>ja1 x y hx hy w)
theorem rvalue_17 {b n cap:Nat} {x y:V} (hn:1<n) (hb0:b<w.heap.size) (x0:w.cell? ⟨b,0,none⟩=some (.int .i64 x.kind)) (x1:w.cell? ⟨b,1,none⟩=some (.int .i64 x.num)) (x2:w.cell? ⟨b,2,none⟩=some (.string (BS x.str))) (y0:w.cell? ⟨b,3,none⟩=some (.int .i64 y.kind)) (y1:w.cell? ⟨b,4,none⟩=some (.int .i64 y.num)) (y2:w.cell? ⟨b,5,none⟩=some (.string (BS y.str))) (hx:Rng x.num) (hy:Rng y.num) :
  Calls Tryz.prog 176 #[.agg #[.string ⟨#[45]⟩,.int .i64 a,iv,.string S,.string E,lv,.int .i64 N,.bool neg,.int .i64 c],.slice (some ⟨b,0,none⟩) n cap,ev] w fun e w'=>e=.returned (vV (vk6 x y))∧Below w.heap.size w w':=
 qp6 _ (by kernel_rfl) (by kernel_rfl) (by kernel_rfl) (by kernel_rfl) (by kernel_rfl) (by kernel_rfl) (by kernel_rfl) (by kernel_rfl) (by kernel_rfl) (by kernel_rfl) (by kernel_rfl) (by kernel_rfl) (by kernel_rfl) (by kernel_rfl) (by kernel_rfl) (by kernel_rfl) hn hb0 x0 x1 x2 y0 y1 y2 (fun w=>ja2 x y hx hy w)
theorem rvalue_18 {b n cap:Nat} {x y:V} (hn:1<n) (hb0:b<w.heap.size) (x0:w.cell? ⟨b,0,none⟩=some (.int .i64 x.kind)) (x1:w.cell? ⟨b,1,none⟩=some (.int .i64 x.num)) (x2:w.cell? ⟨b,2,none⟩=some (.string (BS x.str))) (y0:w.cell? ⟨b,3,none⟩=some (.int .i64 y.kind)) (y1:w.cell? ⟨b,4,none⟩=some (.int .i64 y.num)) (y2:w.cell? ⟨b,5,none⟩=some (.string (BS y.str))) (hx:Rng x.num) (hy:Rng y.num) :
  Calls Tryz.prog 176 #[.agg #[.string ⟨#[42]⟩,.int .i64 a,iv,.string S,.string E,lv,.int .i64 N,.bool neg,.int .i64 c],.slice (some ⟨b,0,none⟩) n cap,ev] w fun e w'=>e=.returned (vV (je1 x y))∧Below w.heap.size w w':=
 qp6 _ (by kernel_rfl) (by kernel_rfl) (by kernel_rfl) (by kernel_rfl) (by kernel_rfl) (by kernel_rfl) (by kernel_rfl) (by kernel_rfl) (by kernel_rfl) (by kernel_rfl) (by kernel_rfl) (by kernel_rfl) (by kernel_rfl) (by kernel_rfl) (by kernel_rfl) (by kernel_rfl) hn hb0 x0 x1 x2 y0 y1 y2 (fun w=>reck_mul x y hx hy w)
theorem rvalue_19 {b n cap:Nat} {x y:V} (hn:1<n) (hb0:b<w.heap.size) (x0:w.cell? ⟨b,0,none⟩=some (.int .i64 x.kind)) (x1:w.cell? ⟨b,1,none⟩=some (.int .i64 x.num)) (x2:w.cell? ⟨b,2,none⟩=some (.string (BS x.str))) (y0:w.cell? ⟨b,3,none⟩=some (.int .i64 y.kind)) (y1:w.cell? ⟨b,4,none⟩=some (.int .i64 y.num)) (y2:w.cell? ⟨b,5,none⟩=some (.string (BS y.str))) (hx:Rng x.num) :
  Calls Tryz.prog 176 #[.agg #[.string ⟨#[47]⟩,.int .i64 a,iv,.string S,.string E,lv,.int .i64 N,.bool neg,.int .i64 c],.slice (some ⟨b,0,none⟩) n cap,ev] w fun e w'=>e=.returned (vV (jc7 x y))∧Below w.heap.size w w':=
 qp6 _ (by kernel_rfl) (by kernel_rfl) (by kernel_rfl) (by kernel_rfl) (by kernel_rfl) (by kernel_rfl) (by kernel_rfl) (by kernel_rfl) (by kernel_rfl) (by kernel_rfl) (by kernel_rfl) (by kernel_rfl) (by kernel_rfl) (by kernel_rfl) (by kernel_rfl) (by kernel_rfl) hn hb0 x0 x1 x2 y0 y1 y2 (fun w=>reck_div x y hx w)
end
end
section
def qn4 (w:World) (r:RRes) (e:Ending) (w':World):Prop:=Below w.heap.size w w'∧match r with
 | .ok t=>e=.returned (.tuple #[.pointer (some ⟨w.heap.size,0,none⟩),.int .i64 0,.int .i64 0])∧w.heap.size<w'.heap.size∧∃ns cs g LN cap,Flat t 0 ns∧ShA t∧ns.length≤200∧w'.cell? ⟨w.heap.size,0,none⟩=some (.slice (some ⟨g,0,none⟩) LN cap)∧NodesAt w' w.heap.size (.slice (some ⟨g,0,none⟩) LN cap) (qp1 ns cs)
 | .err en pl=>e=.returned (.tuple #[.pointer none,.int .i64 en,.int .i64 pl])
theorem qn2 (w:World) (s:ByteArray):TrC (w.alloc (.cells #[.slice none 0 0,.string s,.int .i64 0,.int .i64 0,.int .i64 0,.string ⟨#[]⟩,.int .i64 0,.int .i64 0,.int .i64 0,.int .i64 0] 237)) w.heap.size (.slice none 0 0) s 0 0 (0:Nat) ⟨#[]⟩ 0 0 0 0:=by
 refine ⟨by simp, ?_, ?_, ?_, ?_, ?_, ?_, ?_, ?_, ?_, ?_,fun j=>?_⟩
 all_goals simp
theorem qq9 {w w':World} {s:ByteArray} (h:TKept w.heap.size (w.alloc (.cells #[.slice none 0 0,.string s,.int .i64 0,.int .i64 0,.int .i64 0,.string ⟨#[]⟩,.int .i64 0,.int .i64 0,.int .i64 0,.int .i64 0] 237)) w'):Below w.heap.size w w':=by
 have hb:Below w.heap.size w (w.alloc (.cells #[.slice none 0 0,.string s,.int .i64 0,.int .i64 0,.int .i64 0,.string ⟨#[]⟩,.int .i64 0,.int .i64 0,.int .i64 0,.int .i64 0] 237)):=(Below.refl _ _).alloc (Nat.le_refl _) _
 refine ⟨h.os.trans hb.os,h.tape.trans hb.tape,h.output.trans hb.output,Nat.le_trans hb.size h.size,fun k hk=>(h.block k (by simp;omega) ?_).trans (hb.block k hk)⟩
 rintro (e|⟨nv,e1,e2⟩)
 ·omega
 ·rw [(qn2 w s).c0] at e1
  injection e1 with e1
  subst e1
  cases e2
theorem jf5 (s:ByteArray) (h:¬s.size≤200) (hs:s.size≤140737488355328) (w:World) :
  Calls Tryz.prog 123 #[.string s] w (qn4 w (.err 1 0)):=by
 have h1:(200:Int)<(s.size:Int):=by omega
 go_enter Tryz.func123,Tryz.ntmps123
 go_wp2_with fail
 exact bodyPost_ret (by simp [results,Tryz.results123,go_sem]) rfl ⟨Below.refl _ _,rfl⟩
theorem rread_err (s:ByteArray) (hs:s.size≤200) (w:World) {en pl:Int} (he:(lvl s 12).E (v6 s st0)=.err en pl) :
  Calls Tryz.prog 123 #[.string s] w (qn4 w (.err en pl)):=by
 have ST:=v7 (qp4 (qn2 w s) hs (Nat.zero_le _) (qp9 s st0))
 have hsz:¬(200:Int)<(s.size:Int):=by omega
 have HE:=v7 he
 clear he
 go_enter Tryz.func123,Tryz.ntmps123
 go_upto_region 6 with (first|(go_at_call 172;refine (q9 ST).mono ?_;rintro e w1 ⟨rfl,ht1,hk1⟩;have hK1:=TKept.of_kept hk1 (ht1.c0.trans (qn2 w s).c0.symm);have HK1:=v7 hK1;have HR1:Hid (RT w1 w.heap.size s [] 0 (v6 s st0)):=v7 ⟨_,ht1,NodesAt.nil _ _,x8 s st0 (Nat.zero_le _),Nat.zero_le _⟩;clear ht1 hk1 hK1)|(go_at_call 173;refine ((vz5 w.heap.size s hs 12 0 rfl).E w1 (v6 s st0) [] 0 (q9 HR1) rfl).mono ?_;rintro e w2 ⟨hk2,h2⟩;rw [q9 HE] at h2;obtain ⟨i,rfl,hr2⟩:=h2;have HX:=v7 hr2;have HK2:=v7 hk2;have hl2:=hr2.lt;clear hk2 hr2))
 rcases q9 HX with hr2|⟨rfl,hr2⟩
 ·obtain ⟨c8,hen⟩:=hr2.c8
  have c9:=hr2.c9
  clear hr2 HX
  go_wp2_with fail
  go_quiet (fail)
  go_wp2_with fail
  exact bodyPost_ret (by simp [results,Tryz.results123,go_sem]) rfl ⟨Go.below_drewN (qq9 ((q9 HK1).trans (q9 HK2))) _,rfl⟩
 ·obtain ⟨ns,nv,st,hT,hN,hkd,rfl,hm,hlo,hps⟩:=hr2
  have c8:=hT.c8
  have c3:=hT.c3
  have c2:=hT.c2
  rw [show rK st.tk.kind=6 by rcases hkd with e|e<;>rw [e]<;>rfl] at c2
  have FL:Hid (Calls Tryz.prog 174 #[.pointer (some ⟨w.heap.size,0,none⟩),.int .i64 2,.int .i64 st.place] w2 fun e w'=>e=.returned (.tuple #[])∧TrC w' w.heap.size nv s 1 st.place 0 ⟨#[]⟩ 0 (0:Nat) 2 st.place∧Kept w.heap.size w2 w'):=v7 (qs0 hT 2 st.place)
  have C0:=v7 hT.c0
  clear hT hN HX
  go_wp2_with (go_at_call 174;refine (q9 FL).mono ?_;rintro e w3 ⟨rfl,ht3,hk3⟩;have e8:=ht3.c8;have e9:=ht3.c9;have hl3:=ht3.lt;have HK3:=v7 (TKept.of_kept hk3 (ht3.c0.trans (q9 C0).symm));clear ht3 hk3)
  go_quiet (fail)
  go_wp2_with fail
  exact bodyPost_ret (by simp [results,Tryz.results123,go_sem]) rfl ⟨Go.below_drewN (qq9 (((q9 HK1).trans (q9 HK2)).trans (q9 HK3))) _,rfl⟩
theorem jf6 (s:ByteArray) (hs:s.size≤200) (w:World) {t:Ast} {st:St} (he:(lvl s 12).E (v6 s st0)=.ok t st) (hk:¬st.tk.kind=0) :
  Calls Tryz.prog 123 #[.string s] w (qn4 w (.err 2 st.place)):=by
 have ST:=v7 (qp4 (qn2 w s) hs (Nat.zero_le _) (qp9 s st0))
 have hsz:¬(200:Int)<(s.size:Int):=by omega
 have HE:=v7 he
 clear he
 have hk0:¬rK st.tk.kind=0:=by unfold rK;split<;>(try split)<;>omega
 go_enter Tryz.func123,Tryz.ntmps123
 go_wp2_with (first|(go_at_call 172;refine (q9 ST).mono ?_;rintro e w1 ⟨rfl,ht1,hk1⟩;have hK1:=TKept.of_kept hk1 (ht1.c0.trans (qn2 w s).c0.symm);have HK1:=v7 hK1;have HR1:Hid (RT w1 w.heap.size s [] 0 (v6 s st0)):=v7 ⟨_,ht1,NodesAt.nil _ _,x8 s st0 (Nat.zero_le _),Nat.zero_le _⟩;clear ht1 hk1 hK1)|(go_at_call 173;refine ((vz5 w.heap.size s hs 12 0 rfl).E w1 (v6 s st0) [] 0 (q9 HR1) rfl).mono ?_;rintro e w2 ⟨hk2,h2⟩;rw [q9 HE] at h2;obtain ⟨new,rfl,hr2,ho2,hp2,hfl⟩:=h2;have FL:=v7 (qn1 hr2 hs 2 st.place (by decide));have c8:=hr2.c8;obtain ⟨c2,c3,_⟩:=hr2.ct;have hl2:=hr2.lt;have HK2:=v7 hk2;clear hk2 hr2 hfl)|(go_at_call 174;refine (q9 FL).mono ?_;rintro e w3 ⟨rfl,hk3,hr3⟩;obtain ⟨c8,hen⟩:=hr3.c8;have c9:=hr3.c9;have hl3:=hr3.lt;have HK3:=v7 hk3;clear hk3 hr3))
 go_quiet (fail)
 go_wp2_with fail
 exact bodyPost_ret (by simp [results,Tryz.results123,go_sem]) rfl ⟨Go.below_drewN (qq9 (((q9 HK1).trans (q9 HK2)).trans (q9 HK3))) _,rfl⟩
theorem rread_cls (s:ByteArray) (hs:s.size≤200) (w:World) {t:Ast} {st:St} (he:(lvl s 12).E (v6 s st0)=.ok t st) (hk:st.tk.kind=0) {q:Int} (hc:chkR (qc8 t)=some q) :
  Calls Tryz.prog 123 #[.string s] w (qn4 w (.err 4 q)):=by
 have ST:=v7 (qp4 (qn2 w s) hs (Nat.zero_le _) (qp9 s st0))
 have hsz:¬(200:Int)<(s.size:Int):=by omega
 have HE:=v7 he
 have HSH:=v7 (vr7 he)
 have HCK:=v7 hc
 have HK0:Hid (rK st.tk.kind=0):=v7 (by rw [hk];rfl)
 clear he hc hk
 go_enter Tryz.func123,Tryz.ntmps123
 go_wp2_with (first|(go_at_call 172;refine (q9 ST).mono ?_;rintro e w1 ⟨rfl,ht1,hk1⟩;have hK1:=TKept.of_kept hk1 (ht1.c0.trans (qn2 w s).c0.symm);have HK1:=v7 hK1;have HR1:Hid (RT w1 w.heap.size s [] 0 (v6 s st0)):=v7 ⟨_,ht1,NodesAt.nil _ _,x8 s st0 (Nat.zero_le _),Nat.zero_le _⟩;clear ht1 hk1 hK1)|(go_at_call 173;refine ((vz5 w.heap.size s hs 12 0 rfl).E w1 (v6 s st0) [] 0 (q9 HR1) rfl).mono ?_;rintro e w2 ⟨hk2,h2⟩;rw [q9 HE] at h2;obtain ⟨new,he,hr2,ho2,hp2,hfl⟩:=h2;rw [List.nil_append] at hr2;have hnp:=hfl.pos;have hfew:=hr2.few;have hfpl:=hr2.fine.place;obtain ⟨g,LN,cap,hcw2⟩:=hr2.clw hnp;have CL:=v7 (qz9 hcw2 hnp (by omega) (fun i n hn=>by have:=vw0 hfl (q9 HSH) i n hn;rwa [List.length_nil,Nat.zero_add] at this));rw [cls_end (by have:=hfl;rwa [List.length_nil] at this) (q9 HSH),q9 HCK] at CL;obtain ⟨tp,htp⟩:∃x:Nat,new.length - 1=x:=⟨_,rfl⟩;rw [List.length_nil,Nat.zero_add,htp] at he;rw [htp] at CL;subst he;have c8:=hr2.c8;obtain ⟨c2,_⟩:=hr2.ct;rw [q9 HK0] at c2;have hl2:=hr2.lt;have HK2:=v7 hk2;have HFL:=v7 hfl;clear hk2 hr2 hfl hcw2 htp)|(go_at_call 175;refine (q9 CL).mono ?_;rintro e w3 ⟨rfl,hk3,hcw⟩;have HK3:=v7 hk3;have HCW:=v7 hcw;clear hk3 hcw))
 exact bodyPost_ret (by simp [results,Tryz.results123,go_sem]) rfl ⟨qq9 (((q9 HK1).trans (q9 HK2)).trans (q9 HK3)),rfl⟩
theorem rread_ok (s:ByteArray) (hs:s.size≤200) (w:World) {t:Ast} {st:St} (he:(lvl s 12).E (v6 s st0)=.ok t st) (hk:st.tk.kind=0) (hc:chkR (qc8 t)=none) :
  Calls Tryz.prog 123 #[.string s] w (qn4 w (.ok t)):=by
 have ST:=v7 (qp4 (qn2 w s) hs (Nat.zero_le _) (qp9 s st0))
 have hsz:¬(200:Int)<(s.size:Int):=by omega
 have HE:=v7 he
 have HSH:=v7 (vr7 he)
 have HCK:=v7 hc
 have HK0:Hid (rK st.tk.kind=0):=v7 (by rw [hk];rfl)
 clear he hc hk
 go_enter Tryz.func123,Tryz.ntmps123
 go_wp2_with (first|(go_at_call 172;refine (q9 ST).mono ?_;rintro e w1 ⟨rfl,ht1,hk1⟩;have hK1:=TKept.of_kept hk1 (ht1.c0.trans (qn2 w s).c0.symm);have HK1:=v7 hK1;have HR1:Hid (RT w1 w.heap.size s [] 0 (v6 s st0)):=v7 ⟨_,ht1,NodesAt.nil _ _,x8 s st0 (Nat.zero_le _),Nat.zero_le _⟩;clear ht1 hk1 hK1)|(go_at_call 173;refine ((vz5 w.heap.size s hs 12 0 rfl).E w1 (v6 s st0) [] 0 (q9 HR1) rfl).mono ?_;rintro e w2 ⟨hk2,h2⟩;rw [q9 HE] at h2;obtain ⟨new,he,hr2,ho2,hp2,hfl⟩:=h2;rw [List.nil_append] at hr2;have hnp:=hfl.pos;have hfew:=hr2.few;have hfpl:=hr2.fine.place;obtain ⟨g,LN,cap,hcw2⟩:=hr2.clw hnp;have CL:=v7 (qz9 hcw2 hnp (by omega) (fun i n hn=>by have:=vw0 hfl (q9 HSH) i n hn;rwa [List.length_nil,Nat.zero_add] at this));rw [cls_end (by have:=hfl;rwa [List.length_nil] at this) (q9 HSH),q9 HCK] at CL;obtain ⟨tp,htp⟩:∃x:Nat,new.length - 1=x:=⟨_,rfl⟩;rw [List.length_nil,Nat.zero_add,htp] at he;rw [htp] at CL;subst he;have c8:=hr2.c8;obtain ⟨c2,_⟩:=hr2.ct;rw [q9 HK0] at c2;have hl2:=hr2.lt;have HK2:=v7 hk2;have HFL:=v7 hfl;clear hk2 hr2 hfl hcw2 htp)|(go_at_call 175;refine (q9 CL).mono ?_;rintro e w3 ⟨rfl,hk3,hcw⟩;have HK3:=v7 hk3;have HCW:=v7 hcw;clear hk3 hcw))
 refine bodyPost_ret (by simp [results,Tryz.results123,go_sem]) rfl ⟨qq9 (((q9 HK1).trans (q9 HK2)).trans (q9 HK3)),rfl,by have:=(q9 HK3).size;omega, ?_⟩
 obtain ⟨g',LN',cap',cs',hcw⟩:=q9 HCW
 exact ⟨new,cs',g',LN',cap',by have:=q9 HFL;rwa [List.length_nil] at this,q9 HSH,by omega,hcw.c0,hcw.nodes⟩
theorem vc8 (s:ByteArray) (hs:s.size≤140737488355328) (w:World):Calls Tryz.prog 123 #[.string s] w (qn4 w (qq1 s)):=by
 unfold qq1
 by_cases h:s.size≤200
 ·rw [if_pos h]
  cases he:(lvl s 12).E (v6 s st0) with
  | err en pl=>exact rread_err s h w he
  | ok t st=>
   show Calls _ _ _ _ (qn4 w (endR t st))
   unfold endR
   by_cases hk:st.tk.kind=0
   ·rw [if_pos hk]
    cases hc:chkR (qc8 t) with
    | none=>exact rread_ok s h w he hk hc
    | some q=>exact rread_cls s h w he hk hc
   ·rw [if_neg hk];exact jf6 s h w he hk
 ·rw [if_neg h];exact jf5 s h hs w
end
end Go.Proofs.YtfkcaldjphakpaaGreatDoor
