/- What a term of a program is of an event: Term.of. -/
import Derived.Test.YtfkcaldjphakpabGreatDoorF19
import Derived.Test.YtfkcaldjphakpabGreatDoorWLk1
import Derived.Test.YtfkcaldjphakpabGreatDoorF15
import Derived.Deep.RegionWith
import Derived.Deep.RegionHeld3
set_option maxHeartbeats 800000
namespace Go.Proofs.YtfkcaldjphakpabGreatDoor
open Go.RowKit
def ofT (ps:List Pr) (vs:List V) (t:Tm):V:=
 if t.op=0 then qz5 ps t.str
 else if t.op=1 then iV t.num
 else if t.op=2 then tV t.str
 else if t.op=3∨t.op=4 then bV (t.op==3)
 else if t.op=22 then vq2 (vs.getD t.left nV) t.str t.esc
 else qz6 t.op (vs.getD t.left nV) (vs.getD t.right nV)
def ValsAt (w:World) (vb n:Nat) (vs:List V):Prop:=∀i,i<n →
 w.cell? ⟨vb,i * 3,none⟩=some (.int .i64 (vs.getD i nV).kind)∧w.cell? ⟨vb,i * 3+1,none⟩=some (.int .i64 (vs.getD i nV).num)∧w.cell? ⟨vb,i * 3+2,none⟩=some (.string (BS (vs.getD i nV).str))
theorem ValsAt.below {B:Nat} {w w':World} {vb n:Nat} {vs:List V} (h:ValsAt w vb n vs) (hb:Below B w w') (hlt:vb<B):ValsAt w' vb n vs:=by
 intro k hk
 obtain ⟨h1,h2,h3⟩:=h k hk
 exact ⟨(hb.cell hlt).trans h1,(hb.cell hlt).trans h2,(hb.cell hlt).trans h3⟩
def qx7 (w:World) (ps:List Pr) (ev vv:Value) (vs:List V) (t:Tm):Prop:=
 Calls Tryz.prog 69 #[tmV t,ev,vv] w fun e w'=>e=.returned (vV (ofT ps vs t))∧Below w.heap.size w w'
def JS (A vb:Nat) (t:Tm) (X Y:V) (w':World):Prop:=w'.cell? ⟨A,0,none⟩=some (.int .i64 t.op)∧w'.cell? ⟨A,1,none⟩=some (.int .i64 t.left)∧w'.cell? ⟨A,2,none⟩=some (.int .i64 t.right)∧w'.cell? ⟨vb,t.left * 3,none⟩=some (.int .i64 X.kind)∧w'.cell? ⟨vb,t.left * 3+1,none⟩=some (.int .i64 X.num)∧w'.cell? ⟨vb,t.left * 3+2,none⟩=some (.string (BS X.str))∧w'.cell? ⟨vb,t.right * 3,none⟩=some (.int .i64 Y.kind)∧w'.cell? ⟨vb,t.right * 3+1,none⟩=some (.int .i64 Y.num)∧w'.cell? ⟨vb,t.right * 3+2,none⟩=some (.string (BS Y.str))
theorem js_same {A vb:Nat} {t:Tm} {X Y:V} {W w1:World} (h:JS A vb t X Y W) (hA:w1.heap[A]?=W.heap[A]?) (hv:w1.heap[vb]?=W.heap[vb]?):JS A vb t X Y w1:=by
 have ca:∀j,w1.cell? ⟨A,j,none⟩=W.cell? ⟨A,j,none⟩:=fun j=>World.cell?_of_block (w:=W) (w':=w1) (a:=⟨A,j,none⟩) hA
 have cv:∀j,w1.cell? ⟨vb,j,none⟩=W.cell? ⟨vb,j,none⟩:=fun j=>World.cell?_of_block (w:=W) (w':=w1) (a:=⟨vb,j,none⟩) hv
 obtain ⟨h0,h1,h2,h3,h4,h5,h6,h7,h8⟩:=h
 exact ⟨(ca _).trans h0,(ca _).trans h1,(ca _).trans h2,(cv _).trans h3,(cv _).trans h4,(cv _).trans h5,(cv _).trans h6,(cv _).trans h7,(cv _).trans h8⟩
theorem js_below {A vb:Nat} {t:Tm} {X Y:V} {W w1:World} (h:JS A vb t X Y W) (hb:Below W.heap.size W w1) (hA:A<W.heap.size) (hv:vb<W.heap.size):JS A vb t X Y w1:=js_same h (hb.block A hA) (hb.block vb hv)
theorem js_store {A vb R:Nat} {t:Tm} {X Y:V} {w1:World} {v0 v1 v2:Value} (h:JS A vb t X Y w1) (hA:A≠R) (hv:vb≠R):JS A vb t X Y (((w1.setCell ⟨R,0,none⟩ v0).setCell ⟨R,1,none⟩ v1).setCell ⟨R,2,none⟩ v2):=
 js_same h (((Below.heap_setCell _ _ _ A hA).trans (Below.heap_setCell _ _ _ A hA)).trans (Below.heap_setCell _ _ _ A hA)) (((Below.heap_setCell _ _ _ vb hv).trans (Below.heap_setCell _ _ _ vb hv)).trans (Below.heap_setCell _ _ _ vb hv))
theorem tof_0 (w:World) (ps:List Pr) (ev:Value) (a:Option Addr) (n c:Nat) (vs:List V) (t:Tm) (hev:EvArg w ev ps) (ho:t.op=0):qx7 w ps ev (.slice a n c) vs t:=by
 have hr:ofT ps vs t=qz5 ps t.str:=by simp [ofT,ho]
 unfold qx7
 rw [hr]
 have CON:=v7 (fun w1 (h:EvArg w1 ev ps)=>jr2 h (BS t.str))
 have HE:=v7 hev
 obtain ⟨ea,en,ec,rfl⟩:=hev.slice
 unfold tmV
 rw [ho]
 clear hr ho hev
 have d0:¬w.heap.size+1=w.heap.size:=by omega
 go_enter Tryz.func69,Tryz.ntmps69
 go_wp2_with (go_at_call 102;refine (q9 CON _ ((q9 HE).below (qh0 w _ _))).mono ?_;rintro e w1 ⟨rfl,hb1⟩;obtain ⟨hc1,hf1⟩:=j6 hb1;have hz1:w.heap.size+1<w1.heap.size:=(by have:=hb1.size;simp at this;omega);simp only [vV])
 refine bodyPost_ret (by simp [results,Tryz.results69,go_sem,hc1]<;>rfl) rfl ⟨rfl, ?_⟩
 exact (((v8 (qh0 w _ _) hb1).setCell (by simp) _).setCell (by simp) _).setCell (by simp) _
theorem tof_1 (w:World) (ps:List Pr) (ev:Value) (a:Option Addr) (n c:Nat) (vs:List V) (t:Tm) (hev:EvArg w ev ps) (ho:t.op=1):qx7 w ps ev (.slice a n c) vs t:=by
 have hr:ofT ps vs t=iV t.num:=by simp [ofT,ho]
 unfold qx7
 rw [hr]
 have CON:=v7 (fun w1=>qq8 t.num w1)
 have HE:=v7 hev
 obtain ⟨ea,en,ec,rfl⟩:=hev.slice
 unfold tmV
 rw [ho]
 clear hr ho hev
 have d0:¬w.heap.size+1=w.heap.size:=by omega
 go_enter Tryz.func69,Tryz.ntmps69
 go_wp2_with (go_at_call 103;refine (q9 CON _).mono ?_;rintro e w1 ⟨rfl,hb1⟩;obtain ⟨hc1,hf1⟩:=j6 hb1;have hz1:w.heap.size+1<w1.heap.size:=(by have:=hb1.size;simp at this;omega);simp only [vV])
 refine bodyPost_ret (by simp [results,Tryz.results69,go_sem,hc1]<;>rfl) rfl ⟨rfl, ?_⟩
 exact (((v8 (qh0 w _ _) hb1).setCell (by simp) _).setCell (by simp) _).setCell (by simp) _
theorem tof_2 (w:World) (ps:List Pr) (ev:Value) (a:Option Addr) (n c:Nat) (vs:List V) (t:Tm) (hev:EvArg w ev ps) (ho:t.op=2):qx7 w ps ev (.slice a n c) vs t:=by
 have hr:ofT ps vs t=tV t.str:=by simp [ofT,ho]
 unfold qx7
 rw [hr]
 have CON:=v7 (fun w1=>vp4 (BS t.str) w1)
 have HE:=v7 hev
 obtain ⟨ea,en,ec,rfl⟩:=hev.slice
 unfold tmV
 rw [ho]
 clear hr ho hev
 have d0:¬w.heap.size+1=w.heap.size:=by omega
 go_enter Tryz.func69,Tryz.ntmps69
 go_wp2_with (go_at_call 104;refine (q9 CON _).mono ?_;rintro e w1 ⟨rfl,hb1⟩;obtain ⟨hc1,hf1⟩:=j6 hb1;have hz1:w.heap.size+1<w1.heap.size:=(by have:=hb1.size;simp at this;omega);simp only [vV])
 refine bodyPost_ret (by simp [results,Tryz.results69,go_sem,hc1]<;>rfl) rfl ⟨rfl, ?_⟩
 exact (((v8 (qh0 w _ _) hb1).setCell (by simp) _).setCell (by simp) _).setCell (by simp) _
theorem tof_3 (w:World) (ps:List Pr) (ev:Value) (a:Option Addr) (n c:Nat) (vs:List V) (t:Tm) (hev:EvArg w ev ps) (ho:t.op=3):qx7 w ps ev (.slice a n c) vs t:=by
 have hr:ofT ps vs t=bV true:=by simp [ofT,ho]
 unfold qx7
 rw [hr]
 have CON:=v7 (fun w1=>qg1 true w1)
 have HE:=v7 hev
 obtain ⟨ea,en,ec,rfl⟩:=hev.slice
 unfold tmV
 rw [ho]
 clear hr ho hev
 have d0:¬w.heap.size+1=w.heap.size:=by omega
 go_enter Tryz.func69,Tryz.ntmps69
 go_wp2_with (go_at_call 70;refine (q9 CON _).mono ?_;rintro e w1 ⟨rfl,hb1⟩;obtain ⟨hc1,hf1⟩:=j6 hb1;have hz1:w.heap.size+1<w1.heap.size:=(by have:=hb1.size;simp at this;omega);simp only [vV])
 refine bodyPost_ret (by simp [results,Tryz.results69,go_sem,hc1]<;>rfl) rfl ⟨rfl, ?_⟩
 exact (((v8 (qh0 w _ _) hb1).setCell (by simp) _).setCell (by simp) _).setCell (by simp) _
theorem tof_4 (w:World) (ps:List Pr) (ev:Value) (a:Option Addr) (n c:Nat) (vs:List V) (t:Tm) (hev:EvArg w ev ps) (ho:t.op=4):qx7 w ps ev (.slice a n c) vs t:=by
 have hr:ofT ps vs t=bV false:=by simp [ofT,ho]
 unfold qx7
 rw [hr]
 have CON:=v7 (fun w1=>qg1 false w1)
 have HE:=v7 hev
 obtain ⟨ea,en,ec,rfl⟩:=hev.slice
 unfold tmV
 rw [ho]
 clear hr ho hev
 have d0:¬w.heap.size+1=w.heap.size:=by omega
 go_enter Tryz.func69,Tryz.ntmps69
 go_wp2_with (go_at_call 70;refine (q9 CON _).mono ?_;rintro e w1 ⟨rfl,hb1⟩;obtain ⟨hc1,hf1⟩:=j6 hb1;have hz1:w.heap.size+1<w1.heap.size:=(by have:=hb1.size;simp at this;omega);simp only [vV])
 refine bodyPost_ret (by simp [results,Tryz.results69,go_sem,hc1]<;>rfl) rfl ⟨rfl, ?_⟩
 exact (((v8 (qh0 w _ _) hb1).setCell (by simp) _).setCell (by simp) _).setCell (by simp) _
theorem tof_22 (w:World) (ps:List Pr) (ev:Value) (vb n c:Nat) (vs:List V) (t:Tm) (hev:∃a n c,ev=.slice a n c) (hv:ValsAt w vb n vs) (hlt:vb<w.heap.size) (hL:t.left<n) (hs:t.str.length≤200) (hx:(vs.getD t.left nV).str.length≤1000) (ho:t.op=22):qx7 w ps ev (.slice (some ⟨vb,0,none⟩) n c) vs t:=by
 have hr:ofT ps vs t=vq2 (vs.getD t.left nV) t.str t.esc:=by simp [ofT,ho]
 unfold qx7
 rw [hr]
 obtain ⟨x0,x1,x2⟩:=hv t.left hL
 have hl0:(0:Int)≤(t.left:Int):=by omega
 have hl1:(t.left:Int)<(n:Int):=by omega
 have CON:=v7 (fun w1=>jf3 (vs.getD t.left nV) (BS t.str) (BS t.esc) (by rw [qc0];exact hs) hx w1)
 simp only [qr2] at CON
 obtain ⟨R,hR'⟩:∃r,vq2 (vs.getD t.left nV) t.str t.esc=r:=⟨_,rfl⟩
 rw [hR'] at CON ⊢
 obtain ⟨X,hX⟩:∃x,vs.getD t.left nV=x:=⟨_,rfl⟩
 rw [hX] at CON x0 x1 x2
 obtain ⟨ea,en,ec,rfl⟩:=hev
 unfold tmV
 have d0:¬w.heap.size+1=w.heap.size:=by omega
 have d1:¬w.heap.size=w.heap.size+1:=by omega
 have d2:¬vb=w.heap.size:=by omega
 have d3:¬vb=w.heap.size+1:=by omega
 have m1:vb<w.heap.size+1:=by omega
 have m2:vb<w.heap.size+1+1:=by omega
 rw [ho]
 clear hr hR' hX hx ho hs hv
 go_enter Tryz.func69,Tryz.ntmps69
 go_wp2_with fail
 go_region_with ((go_at_call 105;refine (q9 CON _).mono ?_;rintro e w1 ⟨rfl,hb1⟩;obtain ⟨hc1,hf1⟩:=j6 hb1;have hz1:w.heap.size+1<w1.heap.size:=(by have:=hb1.size;simp at this;omega);simp only [vV]))
 all_goals go_wp2_with fail
 all_goals
  refine bodyPost_ret (by simp [results,Tryz.results69,go_sem,hc1]<;>rfl) rfl ⟨rfl, ?_⟩
  exact (((v8 (qh0 w _ _).drew hb1).setCell (by simp) _).setCell (by simp) _).setCell (by simp) _
theorem tof_x (w:World) (ps:List Pr) (ev:Value) (vb n c:Nat) (vs:List V) (t:Tm) (hev:∃a n c,ev=.slice a n c) (hv:ValsAt w vb n vs) (hlt:vb<w.heap.size) (hL:t.left<n) (hR:t.right<n) (hrl:Rng (vs.getD t.left nV).num) (hrr:Rng (vs.getD t.right nV).num) (o0:¬t.op=0) (o1:¬t.op=1) (o2:¬t.op=2) (o3:¬t.op=3) (o4:¬t.op=4) (o22:¬t.op=22):qx7 w ps ev (.slice (some ⟨vb,0,none⟩) n c) vs t:=by
 have hr:ofT ps vs t=qz6 t.op (vs.getD t.left nV) (vs.getD t.right nV):=by simp [ofT,o0,o1,o2,o3,o4,o22]
 unfold qx7
 rw [hr]
 obtain ⟨x0,x1,x2⟩:=hv t.left hL
 have hl0:(0:Int)≤(t.left:Int):=by omega
 have hl1:(t.left:Int)<(n:Int):=by omega
 obtain ⟨y0,y1,y2⟩:=hv t.right hR
 have hr0:(0:Int)≤(t.right:Int):=by omega
 have hr1:(t.right:Int)<(n:Int):=by omega
 have CON:=v7 (fun w1=>vs7 (t.op:Int) (vs.getD t.left nV) (vs.getD t.right nV) hrl hrr w1)
 have e0:((t.op:Int)==0)=false:=beq_eq_false_iff_ne.2 (by omega)
 have e1:((t.op:Int)==1)=false:=beq_eq_false_iff_ne.2 (by omega)
 have e2:((t.op:Int)==2)=false:=beq_eq_false_iff_ne.2 (by omega)
 have e3:((t.op:Int)==3)=false:=beq_eq_false_iff_ne.2 (by omega)
 have e4:((t.op:Int)==4)=false:=beq_eq_false_iff_ne.2 (by omega)
 have e22:((t.op:Int)==22)=false:=beq_eq_false_iff_ne.2 (by omega)
 obtain ⟨R,hR'⟩:∃r,qz6 t.op (vs.getD t.left nV) (vs.getD t.right nV)=r:=⟨_,rfl⟩
 rw [hR'] at CON ⊢
 obtain ⟨X,hX⟩:∃x,vs.getD t.left nV=x:=⟨_,rfl⟩
 rw [hX] at CON x0 x1 x2
 obtain ⟨Y,hY⟩:∃x,vs.getD t.right nV=x:=⟨_,rfl⟩
 rw [hY] at CON y0 y1 y2
 obtain ⟨ea,en,ec,rfl⟩:=hev
 unfold tmV
 have d0:¬w.heap.size+1=w.heap.size:=by omega
 have d1:¬w.heap.size=w.heap.size+1:=by omega
 have d2:¬vb=w.heap.size:=by omega
 have d3:¬vb=w.heap.size+1:=by omega
 have m1:vb<w.heap.size+1:=by omega
 have m2:vb<w.heap.size+1+1:=by omega
 have js0:JS w.heap.size vb t X Y ((w.alloc (.cells #[.int .i64 t.op,.int .i64 t.left,.int .i64 t.right,.int .i64 t.num,.string (BS t.str),.string (BS t.esc)] 142)).alloc (.cells #[.int .i64 0,.int .i64 0,.string ⟨#[]⟩] 118)).drew:=by
  refine ⟨?_, ?_, ?_, ?_, ?_, ?_, ?_, ?_, ?_⟩<;>simp [go_sem, *]
 clear hr hR' hX hY hrl hrr o0 o1 o2 o3 o4 o22 hv
 go_enter Tryz.func69,Tryz.ntmps69
 go_wp2_with fail
 go_region_held3 (fun w'=>w'.cell? ⟨w.heap.size,0,none⟩=some (.int .i64 t.op)∧w'.cell? ⟨w.heap.size,1,none⟩=some (.int .i64 t.left)∧w'.cell? ⟨w.heap.size,2,none⟩=some (.int .i64 t.right)∧w'.cell? ⟨vb,t.left * 3,none⟩=some (.int .i64 X.kind)∧w'.cell? ⟨vb,t.left * 3+1,none⟩=some (.int .i64 X.num)∧w'.cell? ⟨vb,t.left * 3+2,none⟩=some (.string (BS X.str))∧w'.cell? ⟨vb,t.right * 3,none⟩=some (.int .i64 Y.kind)∧w'.cell? ⟨vb,t.right * 3+1,none⟩=some (.int .i64 Y.num)∧w'.cell? ⟨vb,t.right * 3+2,none⟩=some (.string (BS Y.str))) (first|exact js0|exact js1|exact js_store js1 (by omega) (by omega)) ((go_at_call 106;refine (q9 CON _).mono ?_;rintro e w1 ⟨rfl,hb1⟩;obtain ⟨hc1,hf1⟩:=j6 hb1;have hz1:w.heap.size+1<w1.heap.size:=(by have:=hb1.size;simp at this;omega);have js1:=js_below js0 hb1 (by simp;omega) (by simp;omega);simp only [vV]))
 all_goals go_wp2_with fail
 all_goals
  refine bodyPost_ret (by simp [results,Tryz.results69,go_sem,hc1]<;>rfl) rfl ⟨rfl, ?_⟩
  exact (((v8 (qh0 w _ _).drew hb1).setCell (by simp) _).setCell (by simp) _).setCell (by simp) _
end Go.Proofs.YtfkcaldjphakpabGreatDoor
