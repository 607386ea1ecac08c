/- The document's answer: two sides under an operator. The document's answer: two sides under an operator: the walk. -/
import Derived.Test.YtfkcaldjphakpaaGreatDoorM32
namespace Go.Proofs.YtfkcaldjphakpaaGreatDoor
open Go.RowKit
section
structure RF where
 op:ByteArray
 text:List UInt8
 cls:Int
 pa:Option Addr
 pn:Nat
 pc:Nat
 ta:Option Addr
 tn:Nat
 tc:Nat
 ra:Option Addr
 rn:Nat
 rc:Nat
def RF.v (f:RF):Value:=.agg #[.string f.op,.string (BS f.text),.int .i64 f.cls,.slice f.pa f.pn f.pc,.slice f.ta f.tn f.tc,.slice f.ra f.rn f.rc]
def RF.pv (f:RF):Value:=.slice f.pa f.pn f.pc
def RF.tv (f:RF):Value:=.slice f.ta f.tn f.tc
def RF.rv (f:RF):Value:=.slice f.ra f.rn f.rc
structure RfAt (N:Nat→Prop) (w:World) (c:Co) (f:RF):Prop where
 op:f.op=BS (qb9 (opC c))
 text:f.text=j9 c
 cls:f.cls=vy3 (opC c)
 at':RcAt N w c f.pv f.tv f.rv
theorem RfAt.below {N:Nat→Prop} {w w':World} {c:Co} {f:RF} (h:RfAt N w c f) (hb:Below w.heap.size w w'):RfAt N w' c f:=⟨h.op,h.text,h.cls,h.at'.below hb⟩
theorem RfAt.keep {N N':Nat→Prop} {w w':World} {c:Co} {f:RF} (h:RfAt N w c f) (hk:∀b,N b→b<w.heap.size→w'.heap[b]?=w.heap[b]?) (hz:w.heap.size≤w'.heap.size) (hN:∀b,N b→b<w.heap.size→N' b):RfAt N' w' c f:=⟨h.op,h.text,h.cls,h.at'.keep hk hz hN⟩
theorem RcAt.rf {N:Nat→Prop} {w:World} {c:Co} {pv tv rv:Value} (h:RcAt N w c pv tv rv):∃f:RF,f.v=rcV c pv tv rv∧RfAt N w c f:=by
 obtain ⟨⟨a,n,k,rfl⟩,⟨b,m,l,rfl⟩,d,p,q,rfl⟩:=h.slices
 exact ⟨⟨_,j9 c,_,a,n,k,b,m,l,d,p,q⟩,rfl,rfl,rfl,rfl,h⟩
def qp5 (N:Nat→Prop) (w:World) (c:Co) (e:Ending) (w':World):Prop:=Below w.heap.size w w'∧∃f:RF,e=.returned f.v∧RfAt (fun b=>N b∨w.heap.size≤b) w' c f
theorem RcEnds.rf {N:Nat→Prop} {w w':World} {c:Co} {e:Ending} (h:RcEnds N w c e w'):qp5 N w c e w':=by
 obtain ⟨hb,pv,tv,rv,rfl,hr⟩:=h
 obtain ⟨f,e,hf⟩:=hr.rf
 exact ⟨hb,f,by rw [e],hf⟩
def qa3 (f:RF):List Value:=[.string f.op,.string (BS f.text),.int .i64 f.cls,.slice f.pa f.pn f.pc,.slice f.ta f.tn f.tc,.slice f.ra f.rn f.rc]
theorem parts2 {N:Nat→Prop} {w:World} {pb:Nat} {x y:Co} {f g:RF} (hx:RfAt N w x f) (hy:RfAt N w y g) (hlt:pb<w.heap.size) (hc:∀k,k<12→w.cell? ⟨pb,k,none⟩=(qa3 f++qa3 g)[k]?):PartsAt N w (.slice (some ⟨pb,0,none⟩) 2 2) [x,y]:=by
 refine ⟨pb,2,rfl,hlt,fun k c hk=>?_⟩
 match k,hk with
 | 0,hk=>
  obtain rfl:x=c:=by simpa using hk
  refine ⟨f.pv,f.tv,f.rv,fun j hj=>?_,hx.at'⟩
  rw [show 0 * 6+j=j by omega,hc j (by omega),List.getElem?_append_left (by exact hj)]
  unfold qa3 vp2
  rw [hx.op,hx.text,hx.cls];rfl
 | 1,hk=>
  obtain rfl:y=c:=by simpa using hk
  refine ⟨g.pv,g.tv,g.rv,fun j hj=>?_,hy.at'⟩
  rw [show 1 * 6+j=6+j by omega,hc (6+j) (by omega),List.getElem?_append_right (by show 6≤6+j;omega),show 6+j - (qa3 f).length=j by show 6+j - 6=j;omega]
  unfold qa3 vp2
  rw [hy.op,hy.text,hy.cls];rfl
 | k+2,hk=>simp at hk
theorem parts1 {N:Nat→Prop} {w:World} {pb cap:Nat} {x:Co} {f:RF} (hx:RfAt N w x f) (hlt:pb<w.heap.size) (hc:∀k,k<6→w.cell? ⟨pb,k,none⟩=(qa3 f)[k]?):PartsAt N w (.slice (some ⟨pb,0,none⟩) 1 cap) [x]:=by
 refine ⟨pb,cap,rfl,hlt,fun k c hk=>?_⟩
 match k,hk with
 | 0,hk=>
  obtain rfl:x=c:=by simpa using hk
  refine ⟨f.pv,f.tv,f.rv,fun j hj=>?_,hx.at'⟩
  rw [show 0 * 6+j=j by omega,hc j hj]
  unfold qa3 vp2
  rw [hx.op,hx.text,hx.cls];rfl
 | k+1,hk=>simp at hk
def qt8 (c:Co):Prop:=(j9 c).length≤400000000∧(qb2 c).length≤400000000
theorem rmade_two {N:Nat→Prop} {w:World} {pb:Nat} (o:Int) (T:List UInt8) {x y:Co} (hT:T=j9 (.bin (qb0 o) x y)) (hr:o≠0∧o≠2∧o≠22) (hp:PartsAt N w (.slice (some ⟨pb,0,none⟩) 2 2) [x,y]) (hN:N pb) (hx:qt8 x) (hy:qt8 y) :
  Calls Tryz.prog 229 #[.string (BS (qb9 o)),.string (BS T),.int .i64 (vy3 o),.slice (some ⟨pb,0,none⟩) 2 2,.int .i64 0] w (qp5 N w (.bin (qb0 o) x y)):=by
 subst hT
 have:=vv0 (BS (qb9 o)) (j9 (.bin (qb0 o) x y)) (vy3 o) 0 hp (by simp) (by have:=hx.2;have:=hy.2;simp;omega)
 refine this.mono ?_
 rintro e w' ⟨hb,tv,rv,rfl,h1,h2⟩
 refine RcEnds.rf ⟨hb,_,tv,rv,rfl, ?_⟩
 obtain ⟨b,cap,e,hlt,hk⟩:=hp.below hb
 obtain ⟨p1,t1,r1,s1,a1⟩:=hk 0 x rfl
 obtain ⟨p2,t2,r2,s2,a2⟩:=hk 1 y rfl
 have hbe:pb=b:=by injection e with e;injection e with e;injection e
 refine ⟨⟨b,cap,p1,t1,r1,p2,t2,r2,e,.inl (hbe ▸ hN),hlt,s1,a1.mono (fun _ h _=>.inl h),s2,a2.mono (fun _ h _=>.inl h)⟩, ?_, ?_⟩
 ·have:=h1.keep (N':=fun b=>N b∨w.heap.size≤b) (fun _ _ _=>rfl) (Nat.le_refl _) (fun _ h _=>.inr h)
  simpa [qb2] using this
 ·have hz:rawN (qb0 o)=0:=by unfold rawN qb0;rw [if_neg (by simp only;omega)]
  have:=h2.keep (N':=fun b=>N b∨w.heap.size≤b) (fun _ _ _=>rfl) (Nat.le_refl _) (fun _ h _=>.inr h)
  simpa [qz2,hz] using this
end
section
structure SixAt (q:Nat) (W W':World):Prop where
 block:∀k,k≠q→W'.heap[k]?=W.heap[k]?
 size:W'.heap.size=W.heap.size
 bel:∀(B:Nat) (a:World),B≤q→Below B a W→Below B a W'
theorem qj0 (W:World) (q:Nat) (a b c d f g:Value):SixAt q W ((((((W.setCell ⟨q,0,none⟩ a).setCell ⟨q,1,none⟩ b).setCell ⟨q,2,none⟩ c).setCell ⟨q,3,none⟩ d).setCell ⟨q,4,none⟩ f).setCell ⟨q,5,none⟩ g):=by
 refine ⟨fun k hk=>?_,by simp only [World.size_setCell],fun B a hq hb=>(((((hb.setCell hq _).setCell hq _).setCell hq _).setCell hq _).setCell hq _).setCell hq _⟩
 rw [Below.heap_setCell _ ⟨q,5,none⟩ _ k hk,Below.heap_setCell _ ⟨q,4,none⟩ _ k hk,Below.heap_setCell _ ⟨q,3,none⟩ _ k hk,Below.heap_setCell _ ⟨q,2,none⟩ _ k hk,Below.heap_setCell _ ⟨q,1,none⟩ _ k hk,Below.heap_setCell _ ⟨q,0,none⟩ _ k hk]
theorem SixAt.rf {q:Nat} {N N':Nat→Prop} {W W':World} {c:Co} {f:RF} (h:SixAt q W W') (hf:RfAt N W c f) (hq:¬N q) (hN:∀b,N b→b<W.heap.size→N' b):RfAt N' W' c f:=
 hf.keep (fun b hb _=>h.block b (fun e=>hq (e ▸ hb))) (by rw [h.size];exact Nat.le_refl _) hN
set_option maxHeartbeats 32000000 in
set_option maxRecDepth 100000 in
theorem jm5 {w:World} {f g:RF} {O:ByteArray} {cl:Int} {sw:Bool} (ho:(O=⟨#[65,78,68]⟩∧cl=1∧sw=true)∨(O=⟨#[79,82]⟩∧cl=1∧sw=true)∨(O=⟨#[61]⟩∧cl=1∧sw=true)∨(O=⟨#[60]⟩∧cl=1∧sw=false)∨(O=⟨#[60,61]⟩∧cl=1∧sw=false)∨(O=⟨#[43]⟩∧cl=2∧sw=true)∨(O=⟨#[45]⟩∧cl=2∧sw=false)∨(O=⟨#[42]⟩∧cl=2∧sw=true)∨(O=⟨#[47]⟩∧cl=2∧sw=false)) (hlt:(sw&&Op.bytesLess g.text f.text)=false) (z1:f.text.length≤400000000) (z2:g.text.length≤400000000) {T:List UInt8} (hT:T=[40]++f.text++[32]++O.data.toList++[32]++g.text++[41])
  {P:RF→World→Prop} (HM:∀W,Below w.heap.size w W→w.heap.size+1+1+1<W.heap.size→(∀k,k<12→W.cell? ⟨w.heap.size+1+1+1,k,none⟩=(qa3 f++qa3 g)[k]?) →
   Calls Tryz.prog 229 #[.string O,.string (BS T),.int .i64 cl,.slice (some ⟨w.heap.size+1+1+1,0,none⟩) 2 2,.int .i64 0] W fun e w'=>Below W.heap.size W w'∧∃r:RF,e=.returned r.v∧P r w')
  {Q:Ending→World→Prop} (HQ:∀r w1 w',Below w.heap.size w w1→P r w1→SixAt (w.heap.size+1+1) w1 w'→Q (.returned r.v) w') :
  Calls Tryz.prog 227 #[.string O,f.v,g.v] w Q:=by
 have hOz:O.size≤3:=by rcases ho with ⟨rfl,rfl,rfl⟩|⟨rfl,rfl,rfl⟩|⟨rfl,rfl,rfl⟩|⟨rfl,rfl,rfl⟩|⟨rfl,rfl,rfl⟩|⟨rfl,rfl,rfl⟩|⟨rfl,rfl,rfl⟩|⟨rfl,rfl,rfl⟩|⟨rfl,rfl,rfl⟩<;>decide
 obtain ⟨R1,e1,y1,a1⟩:=qh6 ⟨#[40]⟩ (BS f.text) 1 400000000 (Nat.le_refl _) (by rw [qc4];exact z1) (by decide)
 obtain ⟨R2,e2,y2,a2⟩:=qh6 R1 ⟨#[32]⟩ 400000001 1 y1 (Nat.le_refl _) (by decide)
 obtain ⟨R3,e3,y3,a3⟩:=qh6 R2 O 400000002 3 y2 hOz (by decide)
 obtain ⟨R4,e4,y4,a4⟩:=qh6 R3 ⟨#[32]⟩ 400000005 1 y3 (Nat.le_refl _) (by decide)
 obtain ⟨R5,e5,y5,a5⟩:=qh6 R4 (BS g.text) 400000006 400000000 y4 (by rw [qc4];exact z2) (by decide)
 obtain ⟨R6,e6,y6,a6⟩:=qh6 R5 ⟨#[41]⟩ 800000006 1 y5 (Nat.le_refl _) (by decide)
 have hR:BS T=R6:=by
  rw [hT,e6,e5,e4,e3,e2,e1,show (⟨#[40]⟩:ByteArray)=BS [40] from rfl,show (⟨#[32]⟩:ByteArray)=BS [32] from rfl,show (⟨#[41]⟩:ByteArray)=BS [41] from rfl,show O=BS O.data.toList from (BS_of O).symm,qh7,qh7,qh7,qh7,qh7,qh7,qr2]
 have hbl:Op.bytesLess (BS g.text).toList (BS f.text).toList=Op.bytesLess g.text f.text:=by rw [qe0,qe0]
 have MD:=j4 HM
 rw [hR] at MD
 have HQ':=j4 HQ
 simp only [RF.v] at MD HQ' ⊢
 have hW4:Hid (Below w.heap.size w ((((w.alloc (.cells #[.string f.op,.string (BS f.text),.int .i64 f.cls,.slice f.pa f.pn f.pc,.slice f.ta f.tn f.tc,.slice f.ra f.rn f.rc] 184)).alloc (.cells #[.string g.op,.string (BS g.text),.int .i64 g.cls,.slice g.pa g.pn g.pc,.slice g.ta g.tn g.tc,.slice g.ra g.rn g.rc] 184)).alloc (.cells #[.string ⟨#[]⟩,.string ⟨#[]⟩,.int .i64 0,.slice none 0 0,.slice none 0 0,.slice none 0 0] 184)).alloc (.cells #[.string f.op,.string (BS f.text),.int .i64 f.cls,.slice f.pa f.pn f.pc,.slice f.ta f.tn f.tc,.slice f.ra f.rn f.rc,.string g.op,.string (BS g.text),.int .i64 g.cls,.slice g.pa g.pn g.pc,.slice g.ta g.tn g.tc,.slice g.ra g.rn g.rc] 184))∧w.heap.size+1+1+1<((((w.alloc (.cells #[.string f.op,.string (BS f.text),.int .i64 f.cls,.slice f.pa f.pn f.pc,.slice f.ta f.tn f.tc,.slice f.ra f.rn f.rc] 184)).alloc (.cells #[.string g.op,.string (BS g.text),.int .i64 g.cls,.slice g.pa g.pn g.pc,.slice g.ta g.tn g.tc,.slice g.ra g.rn g.rc] 184)).alloc (.cells #[.string ⟨#[]⟩,.string ⟨#[]⟩,.int .i64 0,.slice none 0 0,.slice none 0 0,.slice none 0 0] 184)).alloc (.cells #[.string f.op,.string (BS f.text),.int .i64 f.cls,.slice f.pa f.pn f.pc,.slice f.ta f.tn f.tc,.slice f.ra f.rn f.rc,.string g.op,.string (BS g.text),.int .i64 g.cls,.slice g.pa g.pn g.pc,.slice g.ta g.tn g.tc,.slice g.ra g.rn g.rc] 184)).heap.size∧∀k,k<12→((((w.alloc (.cells #[.string f.op,.string (BS f.text),.int .i64 f.cls,.slice f.pa f.pn f.pc,.slice f.ta f.tn f.tc,.slice f.ra f.rn f.rc] 184)).alloc (.cells #[.string g.op,.string (BS g.text),.int .i64 g.cls,.slice g.pa g.pn g.pc,.slice g.ta g.tn g.tc,.slice g.ra g.rn g.rc] 184)).alloc (.cells #[.string ⟨#[]⟩,.string ⟨#[]⟩,.int .i64 0,.slice none 0 0,.slice none 0 0,.slice none 0 0] 184)).alloc (.cells #[.string f.op,.string (BS f.text),.int .i64 f.cls,.slice f.pa f.pn f.pc,.slice f.ta f.tn f.tc,.slice f.ra f.rn f.rc,.string g.op,.string (BS g.text),.int .i64 g.cls,.slice g.pa g.pn g.pc,.slice g.ta g.tn g.tc,.slice g.ra g.rn g.rc] 184)).cell? ⟨w.heap.size+1+1+1,k,none⟩=(qa3 f++qa3 g)[k]?):=j4 ⟨(((((Below.refl _ _).alloc (Nat.le_refl _) _).alloc (by simp) _).alloc (by simp<;>omega) _).alloc (by simp<;>omega) _),by simp,fun k hk=>by rw [World.cell?_alloc_at _ _ _ _ (by simp)];match k,hk with|0,_=>rfl|1,_=>rfl|2,_=>rfl|3,_=>rfl|4,_=>rfl|5,_=>rfl|6,_=>rfl|7,_=>rfl|8,_=>rfl|9,_=>rfl|10,_=>rfl|11,_=>rfl⟩
 clear HM HQ z1 z2 hT hR e1 e2 e3 e4 e5 e6 y1 y2 y3 y4 y5 y6 hOz
 rcases ho with ⟨rfl,rfl,rfl⟩|⟨rfl,rfl,rfl⟩|⟨rfl,rfl,rfl⟩|⟨rfl,rfl,rfl⟩|⟨rfl,rfl,rfl⟩|⟨rfl,rfl,rfl⟩|⟨rfl,rfl,rfl⟩|⟨rfl,rfl,rfl⟩|⟨rfl,rfl,rfl⟩
 all_goals try (rw [Bool.true_and] at hlt;rw [hlt] at hbl)
 all_goals clear hlt
 all_goals go_enter Tryz.func227,Tryz.ntmps227
 all_goals go_wp2_with (go_at_call 229;refine (q9 MD _ (q9 hW4).1 (q9 hW4).2.1 (q9 hW4).2.2).mono ?_;rintro e w1 ⟨hb1,r,rfl,hp⟩;have HB1:=j4 (j6 (q9 hW4).1 hb1);obtain ⟨hc1,hf1⟩:=qa9 hb1;have r0:w1.cell? ⟨w.heap.size+1+1,0,none⟩=some (.string ⟨#[]⟩):=(hc1 _ 0 (by simp<;>omega)).trans (by simp [go_sem]);have r1:w1.cell? ⟨w.heap.size+1+1,1,none⟩=some (.string ⟨#[]⟩):=(hc1 _ 1 (by simp<;>omega)).trans (by simp [go_sem]);have r2:w1.cell? ⟨w.heap.size+1+1,2,none⟩=some (.int .i64 0):=(hc1 _ 2 (by simp<;>omega)).trans (by simp [go_sem]);have r3:w1.cell? ⟨w.heap.size+1+1,3,none⟩=some (.slice none 0 0):=(hc1 _ 3 (by simp<;>omega)).trans (by simp [go_sem]);have r4:w1.cell? ⟨w.heap.size+1+1,4,none⟩=some (.slice none 0 0):=(hc1 _ 4 (by simp<;>omega)).trans (by simp [go_sem]);have r5:w1.cell? ⟨w.heap.size+1+1,5,none⟩=some (.slice none 0 0):=(hc1 _ 5 (by simp<;>omega)).trans (by simp [go_sem]);have rz:∀i,w1.frozen? ⟨w.heap.size+1+1,i,none⟩=false:=(fun i=>(hf1 _ i (by simp<;>omega)).trans (by simp [go_sem]));have rl:w.heap.size+1+1<w1.heap.size:=(by have:=hb1.size;simp at this;omega);have HPP:=j4 hp;clear hb1 hc1 hf1 hp)
 all_goals refine bodyPost_ret (by simp [results,Tryz.results227,go_sem,r0,r1,r2,r3,r4,r5]<;>rfl) rfl ?_
 all_goals exact q9 HQ' r w1 _ (q9 HB1) (q9 HPP) (qj0 _ _ _ _ _ _ _ _)
end
end Go.Proofs.YtfkcaldjphakpaaGreatDoor
