/- The document's answer. -/
import Derived.Test.YtfkcaldjphakpaaGreatDoorM27
import Derived.Test.YtfkcaldjphakpaaGreatDoorM34
import Derived.Sort.Walk0
set_option maxHeartbeats 16000000
set_option maxRecDepth 100000
namespace Go.Proofs.YtfkcaldjphakpaaGreatDoor
open Go.RowKit Go.Proofs.Tryz
section
theorem jy0{w:World}{f:RF}(k0:(f.op.toList==[78,79,84])=false)(k1:(f.op.toList==[65,78,68])=false)(k2:(f.op.toList==[79,82])=false)(k3:(f.op.toList==[60])=false)(k4:(f.op.toList==[60,61])=false)(k5:(f.op.toList==[84,82,85,69])=false)(k6:(f.op.toList==[70,65,76,83,69])=false)(z1:f.text.length<=400000000){T:List UInt8}(hT:T=[40,78,79,84,32]++f.text++[41])
  {P:RF->World->Prop} (HM:∀W,Below w.heap.size w W->w.heap.size+1+1<W.heap.size->(∀k,k<6->W.cell? ⟨w.heap.size+1+1,k,none⟩=(qa2 f)[k]?) ->
   Calls prog 229 #[.string ⟨#[78,79,84]⟩,.string (BS T),.int .i64 1,.slice (some ⟨w.heap.size+1+1,0,none⟩) 1 1,.int .i64 0] W λe w'=>Below W.heap.size W w'/\∃r:RF,e=.returned r.v/\P r w') {Q:Ending->World->Prop} (HQ:∀r w1 w',Below w.heap.size w w1->P r w1->SixAt (w.heap.size+1) w1 w'->Q (.returned r.v) w'):Calls prog 179 #[f.v] w Q:=by
 obtain⟨R1,e1,y1,a1⟩:=qg8 ⟨#[40,78,79,84,32]⟩ (BS f.text) 5 400000000 (Nat.le_refl _) (by rw[qc1];exact z1) (by decide);obtain⟨R2,e2,y2,a2⟩:=qg8 R1 ⟨#[41]⟩ 400000005 1 y1 (Nat.le_refl _) (by decide)
 have hR:BS T=R2:=by
  rw[hT,e2,e1,show(⟨#[40,78,79,84,32]⟩:ByteArray)=BS [40,78,79,84,32] from rfl,show(⟨#[41]⟩:ByteArray)=BS [41] from rfl,qg9,qg9]
 have MD:=j3 HM;rw[hR]at MD;have I7:=j3 HQ;simp only[RF.v]at MD I7 ⊢;have dL:Hid (Below w.heap.size w (((w.alloc (.cells #[.string f.op,.string (BS f.text),.int .i64 f.cls,.slice f.pa f.pn f.pc,.slice f.ta f.tn f.tc,.slice f.ra f.rn f.rc] 184)).alloc (.cells #[.string ⟨#[]⟩,.string ⟨#[]⟩,.int .i64 0,.slice none 0 0,.slice none 0 0,.slice none 0 0] 184)).alloc (.cells #[.string f.op,.string (BS f.text),.int .i64 f.cls,.slice f.pa f.pn f.pc,.slice f.ta f.tn f.tc,.slice f.ra f.rn f.rc] 184))/\w.heap.size+1+1<(((w.alloc (.cells #[.string f.op,.string (BS f.text),.int .i64 f.cls,.slice f.pa f.pn f.pc,.slice f.ta f.tn f.tc,.slice f.ra f.rn f.rc] 184)).alloc (.cells #[.string ⟨#[]⟩,.string ⟨#[]⟩,.int .i64 0,.slice none 0 0,.slice none 0 0,.slice none 0 0] 184)).alloc (.cells #[.string f.op,.string (BS f.text),.int .i64 f.cls,.slice f.pa f.pn f.pc,.slice f.ta f.tn f.tc,.slice f.ra f.rn f.rc] 184)).heap.size/\∀k,k<6->(((w.alloc (.cells #[.string f.op,.string (BS f.text),.int .i64 f.cls,.slice f.pa f.pn f.pc,.slice f.ta f.tn f.tc,.slice f.ra f.rn f.rc] 184)).alloc (.cells #[.string ⟨#[]⟩,.string ⟨#[]⟩,.int .i64 0,.slice none 0 0,.slice none 0 0,.slice none 0 0] 184)).alloc (.cells #[.string f.op,.string (BS f.text),.int .i64 f.cls,.slice f.pa f.pn f.pc,.slice f.ta f.tn f.tc,.slice f.ra f.rn f.rc] 184)).cell? ⟨w.heap.size+1+1,k,none⟩=(qa2 f)[k]?):=j3 ⟨((((Below.refl _ _).alloc (Nat.le_refl _) _).alloc (by simp) _).alloc (by simp<;>omega) _),by simp,λk hk=>by rw[World.cell?_alloc_at _ _ _ _ (by simp)];match k,hk with|0,_=>rfl|1,_=>rfl|2,_=>rfl|3,_=>rfl|4,_=>rfl|5,_=>rfl⟩;clear HM HQ z1 hT hR e1 e2 y1 y2;go_enter func179,ntmps179
 go_wp2_with(go_at_call 229;refine(q9 MD _ (q9 dL).1 (q9 dL).2.1 (q9 dL).2.2).mono ?_;rintro e w1⟨A7,r,rfl,hp⟩;have E7:=j3 (j6 (q9 dL).1 A7);obtain⟨F1,F7⟩:=qb0 A7;have r0:w1.cell? ⟨w.heap.size+1,0,none⟩=some (.string ⟨#[]⟩):=(F1 _ 0 (by simp<;>omega)).trans (by simp[go_sem]);have r1:w1.cell? ⟨w.heap.size+1,1,none⟩=some (.string ⟨#[]⟩):=(F1 _ 1 (by simp<;>omega)).trans (by simp[go_sem]);have r2:w1.cell? ⟨w.heap.size+1,2,none⟩=some (.int .i64 0):=(F1 _ 2 (by simp<;>omega)).trans (by simp[go_sem]);have r3:w1.cell? ⟨w.heap.size+1,3,none⟩=some (.slice none 0 0):=(F1 _ 3 (by simp<;>omega)).trans (by simp[go_sem]);have r4:w1.cell? ⟨w.heap.size+1,4,none⟩=some (.slice none 0 0):=(F1 _ 4 (by simp<;>omega)).trans (by simp[go_sem]);have r5:w1.cell? ⟨w.heap.size+1,5,none⟩=some (.slice none 0 0):=(F1 _ 5 (by simp<;>omega)).trans (by simp[go_sem]);have rz:∀i,w1.frozen? ⟨w.heap.size+1,i,none⟩=false:=(λi=>(F7 _ i (by simp<;>omega)).trans (by simp[go_sem]));have rl:w.heap.size+1<w1.heap.size:=(by have:=A7.size;simp at this;omega);have P0:=j3 hp;clear A7 F1 F7 hp)
 refine bodyPost_ret (by simp[results,results179,go_sem,r0,r1,r2,r3,r4,r5]<;>rfl) rfl ?_;exact q9 I7 r w1 _ (q9 E7) (q9 P0) (qi2 _ _ _ _ _ _ _ _)
theorem jy1{w:World}{f:RF}{pb cap:Nat}{cl:Int}(h0:f.op=⟨#[78,79,84]⟩)(iL:f.pa=some ⟨pb,0,none⟩)(e2':f.pn=1)(e3':f.pc=cap)(R8:pb<w.heap.size)(c2:w.cell? ⟨pb,2,none⟩=some (.int .i64 cl))(R7:¬cl=1)(z1:f.text.length<=400000000){T:List UInt8}(hT:T=[40,78,79,84,32]++f.text++[41])
  {P:RF->World->Prop} (HM:∀W,Below w.heap.size w W->w.heap.size+1+1<W.heap.size->(∀k,k<6->W.cell? ⟨w.heap.size+1+1,k,none⟩=(qa2 f)[k]?) ->
   Calls prog 229 #[.string ⟨#[78,79,84]⟩,.string (BS T),.int .i64 1,.slice (some ⟨w.heap.size+1+1,0,none⟩) 1 1,.int .i64 0] W λe w'=>Below W.heap.size W w'/\∃r:RF,e=.returned r.v/\P r w') {Q:Ending->World->Prop} (HQ:∀r w1 w',Below w.heap.size w w1->P r w1->SixAt (w.heap.size+1) w1 w'->Q (.returned r.v) w'):Calls prog 179 #[f.v] w Q:=by
 obtain⟨R1,e1,y1,a1⟩:=qg8 ⟨#[40,78,79,84,32]⟩ (BS f.text) 5 400000000 (Nat.le_refl _) (by rw[qc1];exact z1) (by decide);obtain⟨R2,e2,y2,a2⟩:=qg8 R1 ⟨#[41]⟩ 400000005 1 y1 (Nat.le_refl _) (by decide)
 have hR:BS T=R2:=by
  rw[hT,e2,e1,show(⟨#[40,78,79,84,32]⟩:ByteArray)=BS [40,78,79,84,32] from rfl,show(⟨#[41]⟩:ByteArray)=BS [41] from rfl,qg9,qg9]
 have MD:=j3 HM;rw[hR]at MD;have I7:=j3 HQ;have MY:(cl==1)=false:=beq_eq_false_iff_ne.2 R7;have np:¬pb=w.heap.size:=by omega
 have eA:¬pb=w.heap.size+1:=by omega
 simp only[RF.v]at MD I7 ⊢;have dL:Hid (Below w.heap.size w (((w.alloc (.cells #[.string f.op,.string (BS f.text),.int .i64 f.cls,.slice f.pa f.pn f.pc,.slice f.ta f.tn f.tc,.slice f.ra f.rn f.rc] 184)).alloc (.cells #[.string ⟨#[]⟩,.string ⟨#[]⟩,.int .i64 0,.slice none 0 0,.slice none 0 0,.slice none 0 0] 184)).alloc (.cells #[.string f.op,.string (BS f.text),.int .i64 f.cls,.slice f.pa f.pn f.pc,.slice f.ta f.tn f.tc,.slice f.ra f.rn f.rc] 184))/\w.heap.size+1+1<(((w.alloc (.cells #[.string f.op,.string (BS f.text),.int .i64 f.cls,.slice f.pa f.pn f.pc,.slice f.ta f.tn f.tc,.slice f.ra f.rn f.rc] 184)).alloc (.cells #[.string ⟨#[]⟩,.string ⟨#[]⟩,.int .i64 0,.slice none 0 0,.slice none 0 0,.slice none 0 0] 184)).alloc (.cells #[.string f.op,.string (BS f.text),.int .i64 f.cls,.slice f.pa f.pn f.pc,.slice f.ta f.tn f.tc,.slice f.ra f.rn f.rc] 184)).heap.size/\∀k,k<6->(((w.alloc (.cells #[.string f.op,.string (BS f.text),.int .i64 f.cls,.slice f.pa f.pn f.pc,.slice f.ta f.tn f.tc,.slice f.ra f.rn f.rc] 184)).alloc (.cells #[.string ⟨#[]⟩,.string ⟨#[]⟩,.int .i64 0,.slice none 0 0,.slice none 0 0,.slice none 0 0] 184)).alloc (.cells #[.string f.op,.string (BS f.text),.int .i64 f.cls,.slice f.pa f.pn f.pc,.slice f.ta f.tn f.tc,.slice f.ra f.rn f.rc] 184)).cell? ⟨w.heap.size+1+1,k,none⟩=(qa2 f)[k]?):=j3 ⟨((((Below.refl _ _).alloc (Nat.le_refl _) _).alloc (by simp) _).alloc (by simp<;>omega) _),by simp,λk hk=>by rw[World.cell?_alloc_at _ _ _ _ (by simp)];match k,hk with|0,_=>rfl|1,_=>rfl|2,_=>rfl|3,_=>rfl|4,_=>rfl|5,_=>rfl⟩;rw[h0,iL,e2',e3']at dL ⊢;clear HM HQ z1 hT hR e1 e2 y1 y2;go_enter func179,ntmps179
 go_wp2_with(go_at_call 229;refine(q9 MD _ (q9 dL).1 (q9 dL).2.1 (q9 dL).2.2).mono ?_;rintro e w1⟨A7,r,rfl,hp⟩;have E7:=j3 (j6 (q9 dL).1 A7);obtain⟨F1,F7⟩:=qb0 A7;have r0:w1.cell? ⟨w.heap.size+1,0,none⟩=some (.string ⟨#[]⟩):=(F1 _ 0 (by simp<;>omega)).trans (by simp[go_sem]);have r1:w1.cell? ⟨w.heap.size+1,1,none⟩=some (.string ⟨#[]⟩):=(F1 _ 1 (by simp<;>omega)).trans (by simp[go_sem]);have r2:w1.cell? ⟨w.heap.size+1,2,none⟩=some (.int .i64 0):=(F1 _ 2 (by simp<;>omega)).trans (by simp[go_sem]);have r3:w1.cell? ⟨w.heap.size+1,3,none⟩=some (.slice none 0 0):=(F1 _ 3 (by simp<;>omega)).trans (by simp[go_sem]);have r4:w1.cell? ⟨w.heap.size+1,4,none⟩=some (.slice none 0 0):=(F1 _ 4 (by simp<;>omega)).trans (by simp[go_sem]);have r5:w1.cell? ⟨w.heap.size+1,5,none⟩=some (.slice none 0 0):=(F1 _ 5 (by simp<;>omega)).trans (by simp[go_sem]);have rz:∀i,w1.frozen? ⟨w.heap.size+1,i,none⟩=false:=(λi=>(F7 _ i (by simp<;>omega)).trans (by simp[go_sem]));have rl:w.heap.size+1<w1.heap.size:=(by have:=A7.size;simp at this;omega);have P0:=j3 hp;clear A7 F1 F7 hp)
 refine bodyPost_ret (by simp[results,results179,go_sem,r0,r1,r2,r3,r4,r5]<;>rfl) rfl ?_;exact q9 I7 r w1 _ (q9 E7) (q9 P0) (qi2 _ _ _ _ _ _ _ _)
theorem rden_side{w:World}{f g:RF}{pb cap:Nat}(h0:f.op=⟨#[78,79,84]⟩)(iL:f.pa=some ⟨pb,0,none⟩)(e2':f.pn=1)(e3':f.pc=cap)(R8:pb<w.heap.size)(hc:∀k,k<6->w.cell? ⟨pb,k,none⟩=(qa2 g)[k]?)(R7:g.cls=1)
  {Q:Ending->World->Prop} (HQ:∀w',Below w.heap.size w w'->Q (.returned g.v) w'):Calls prog 179 #[f.v] w Q:=by
 have c0:w.cell? ⟨pb,0,none⟩=some (.string g.op):=hc 0 (by omega);have c1:w.cell? ⟨pb,1,none⟩=some (.string (BS g.text)):=hc 1 (by omega);have c2:w.cell? ⟨pb,2,none⟩=some (.int .i64 1):=by have:=hc 2 (by omega);rw[←R7];exact this
 have c3:w.cell? ⟨pb,3,none⟩=some (.slice g.pa g.pn g.pc):=hc 3 (by omega);have c4:w.cell? ⟨pb,4,none⟩=some (.slice g.ta g.tn g.tc):=hc 4 (by omega);have c5:w.cell? ⟨pb,5,none⟩=some (.slice g.ra g.rn g.rc):=hc 5 (by omega);have np:¬pb=w.heap.size:=by omega
 have eA:¬pb=w.heap.size+1:=by omega
 have I7:=j3 HQ;simp only[RF.v]at I7 ⊢;rw[h0,iL,e2',e3'];rw[R7]at I7;clear HQ hc R7;go_enter func179,ntmps179
 go_wp2_with fail
 refine bodyPost_ret (by simp[results,results179,go_sem]<;>rfl) rfl ?_;exact q9 I7 _ (((Below.refl _ _).alloc (Nat.le_refl _) _).alloc (by simp) _)
theorem rden_both{w:World}{f g h:RF}{O1 O2:ByteArray}{pb cap:Nat}(ho:(O1=⟨#[65,78,68]⟩/\O2=⟨#[79,82]⟩)\/(O1=⟨#[79,82]⟩/\O2=⟨#[65,78,68]⟩))(h0:f.op=O1)(iL:f.pa=some ⟨pb,0,none⟩)(e2':f.pn=2)(e3':f.pc=cap)(R8:pb<w.heap.size)(hc:∀k,k<12->w.cell? ⟨pb,k,none⟩=(qa2 g++qa2 h)[k]?)
  {P1 P2 P3:RF->World->Prop} (H1:∀W,Below w.heap.size w W->w.heap.size+1+1<=W.heap.size->Calls prog 179 #[g.v] W λe w'=>Below W.heap.size W w'/\∃r:RF,e=.returned r.v/\P1 r w')
  (H2:∀W,Below w.heap.size w W->w.heap.size+1+1<=W.heap.size->Calls prog 179 #[h.v] W λe w'=>Below W.heap.size W w'/\∃r:RF,e=.returned r.v/\P2 r w')
  (H3:∀W w1 w2 g1 g2,Below w.heap.size w W->P1 g1 w1->Below w1.heap.size w1 w2->P2 g2 w2->Below w2.heap.size w2 W->w.heap.size+1+1<=w1.heap.size->Calls prog 227 #[.string O2,g1.v,g2.v] W λe w'=>Below W.heap.size W w'/\∃r:RF,e=.returned r.v/\P3 r w')
  {Q:Ending->World->Prop} (HQ:∀r w1 w',Below w.heap.size w w1->P3 r w1->SixAt (w.heap.size+1) w1 w'->Q (.returned r.v) w'):Calls prog 179 #[f.v] w Q:=by
 have c0:w.cell? ⟨pb,0,none⟩=some (.string g.op):=hc 0 (by omega);have c1:w.cell? ⟨pb,1,none⟩=some (.string (BS g.text)):=hc 1 (by omega);have c2:w.cell? ⟨pb,2,none⟩=some (.int .i64 g.cls):=hc 2 (by omega);have c3:w.cell? ⟨pb,3,none⟩=some (.slice g.pa g.pn g.pc):=hc 3 (by omega);have c4:w.cell? ⟨pb,4,none⟩=some (.slice g.ta g.tn g.tc):=hc 4 (by omega);have c5:w.cell? ⟨pb,5,none⟩=some (.slice g.ra g.rn g.rc):=hc 5 (by omega);have c6:w.cell? ⟨pb,6,none⟩=some (.string h.op):=hc 6 (by omega);have c7:w.cell? ⟨pb,7,none⟩=some (.string (BS h.text)):=hc 7 (by omega);have c8:w.cell? ⟨pb,8,none⟩=some (.int .i64 h.cls):=hc 8 (by omega);have c9:w.cell? ⟨pb,9,none⟩=some (.slice h.pa h.pn h.pc):=hc 9 (by omega);have kS:w.cell? ⟨pb,10,none⟩=some (.slice h.ta h.tn h.tc):=hc 10 (by omega);have kR:w.cell? ⟨pb,11,none⟩=some (.slice h.ra h.rn h.rc):=hc 11 (by omega);have np:¬pb=w.heap.size:=by omega
 have eA:¬pb=w.heap.size+1:=by omega
 have D1:=j3 H1;have D2:=j3 H2;have D3:=j3 H3;have I7:=j3 HQ;simp only[RF.v]at D1 D2 D3 I7 ⊢;rw[h0,iL,e2',e3'];clear HQ H1 H2 H3 hc h0 iL e2' e3';have J8:Hid (Below w.heap.size w ((w.alloc (.cells #[.string O1,.string (BS f.text),.int .i64 f.cls,.slice (some ⟨pb,0,none⟩) 2 cap,.slice f.ta f.tn f.tc,.slice f.ra f.rn f.rc] 184)).alloc (.cells #[.string ⟨#[]⟩,.string ⟨#[]⟩,.int .i64 0,.slice none 0 0,.slice none 0 0,.slice none 0 0] 184))):=j3 (((Below.refl _ _).alloc (Nat.le_refl _) _).alloc (by simp) _);rcases ho with⟨rfl,rfl⟩|⟨rfl,rfl⟩
 all_goals
  go_enter func179,ntmps179
  go_wp2_with(first|(go_at_call 227;refine(q9 D3 _ w1 w2 g1 g2 (q9 aF) (q9 IL) (q9 CW) (q9 PB) ((Below.refl _ _).alloc (Nat.le_refl _) _) C8).mono ?_;rintro e w5⟨S4,r,rfl,ER⟩;have U0:=j3 (j6 (q9 aF) S4);obtain⟨m8,FH⟩:=qb0 S4;have r0:w5.cell? ⟨w.heap.size+1,0,none⟩=some (.string ⟨#[]⟩):=(m8 _ 0 (by simp<;>omega)).trans (by rw[World.cell?_alloc_past _ _ _ (by omega)];assumption);have r1:w5.cell? ⟨w.heap.size+1,1,none⟩=some (.string ⟨#[]⟩):=(m8 _ 1 (by simp<;>omega)).trans (by rw[World.cell?_alloc_past _ _ _ (by omega)];assumption);have r2:w5.cell? ⟨w.heap.size+1,2,none⟩=some (.int .i64 0):=(m8 _ 2 (by simp<;>omega)).trans (by rw[World.cell?_alloc_past _ _ _ (by omega)];assumption);have r3:w5.cell? ⟨w.heap.size+1,3,none⟩=some (.slice none 0 0):=(m8 _ 3 (by simp<;>omega)).trans (by rw[World.cell?_alloc_past _ _ _ (by omega)];assumption);have r4:w5.cell? ⟨w.heap.size+1,4,none⟩=some (.slice none 0 0):=(m8 _ 4 (by simp<;>omega)).trans (by rw[World.cell?_alloc_past _ _ _ (by omega)];assumption);have r5:w5.cell? ⟨w.heap.size+1,5,none⟩=some (.slice none 0 0):=(m8 _ 5 (by simp<;>omega)).trans (by rw[World.cell?_alloc_past _ _ _ (by omega)];assumption);have rz:∀i,w5.frozen? ⟨w.heap.size+1,i,none⟩=false:=(λi=>(FH _ i (by simp<;>omega)).trans (by rw[World.frozen?_alloc_past _ _ _ (by omega)];exact JH i));have rl:w.heap.size+1<w5.heap.size:=(by have:=S4.size;simp at this;omega);have P0:=j3 ER;clear S4 m8 FH ER)|(go_at_call 179;have _q:=IL;refine(q9 D2 _ (q9 pI) (by simp;omega)).mono ?_;rintro e w2⟨B9,g2,rfl,S8⟩;have aF:=j3 ((j6 (q9 pI) B9).alloc (j6 (q9 pI) B9).size (.cells #[.string g2.op,.string (BS g2.text),.int .i64 g2.cls,.slice g2.pa g2.pn g2.pc,.slice g2.ta g2.tn g2.tc,.slice g2.ra g2.rn g2.rc] 184));have PB:=j3 S8;have CW:=j3 (j6 ((Below.refl w1.heap.size w1).alloc (Nat.le_refl _) _) B9);obtain⟨m9,H8⟩:=qb0 B9;have F8:w1.heap.size+1<=w2.heap.size:=(by have:=B9.size;simp at this;omega);have t0:w2.cell? ⟨w.heap.size+1,0,none⟩=some (.string ⟨#[]⟩):=(m9 _ 0 (by simp;omega)).trans (by rw[World.cell?_alloc_past _ _ _ (by omega)];exact s0);have t1:w2.cell? ⟨w.heap.size+1,1,none⟩=some (.string ⟨#[]⟩):=(m9 _ 1 (by simp;omega)).trans (by rw[World.cell?_alloc_past _ _ _ (by omega)];exact s1);have t2:w2.cell? ⟨w.heap.size+1,2,none⟩=some (.int .i64 0):=(m9 _ 2 (by simp;omega)).trans (by rw[World.cell?_alloc_past _ _ _ (by omega)];exact s2);have t3:w2.cell? ⟨w.heap.size+1,3,none⟩=some (.slice none 0 0):=(m9 _ 3 (by simp;omega)).trans (by rw[World.cell?_alloc_past _ _ _ (by omega)];exact s3);have t4:w2.cell? ⟨w.heap.size+1,4,none⟩=some (.slice none 0 0):=(m9 _ 4 (by simp;omega)).trans (by rw[World.cell?_alloc_past _ _ _ (by omega)];exact s4);have t5:w2.cell? ⟨w.heap.size+1,5,none⟩=some (.slice none 0 0):=(m9 _ 5 (by simp;omega)).trans (by rw[World.cell?_alloc_past _ _ _ (by omega)];exact s5);have JH:∀i,w2.frozen? ⟨w.heap.size+1,i,none⟩=false:=(λi=>(H8 _ i (by simp;omega)).trans (by rw[World.frozen?_alloc_past _ _ _ (by omega)];exact JI i));have v0:w2.cell? ⟨w1.heap.size,0,none⟩=some (.string g1.op):=(m9 _ 0 (by simp)).trans (by simp);have v1:w2.cell? ⟨w1.heap.size,1,none⟩=some (.string (BS g1.text)):=(m9 _ 1 (by simp)).trans (by simp);have v2:w2.cell? ⟨w1.heap.size,2,none⟩=some (.int .i64 g1.cls):=(m9 _ 2 (by simp)).trans (by simp);have v3:w2.cell? ⟨w1.heap.size,3,none⟩=some (.slice g1.pa g1.pn g1.pc):=(m9 _ 3 (by simp)).trans (by simp);have v4:w2.cell? ⟨w1.heap.size,4,none⟩=some (.slice g1.ta g1.tn g1.tc):=(m9 _ 4 (by simp)).trans (by simp);have v5:w2.cell? ⟨w1.heap.size,5,none⟩=some (.slice g1.ra g1.rn g1.rc):=(m9 _ 5 (by simp)).trans (by simp);have RB:¬w1.heap.size=w2.heap.size:=(by omega);have uU:w1.heap.size<w2.heap.size:=(by omega);have RA:¬w.heap.size+1=w2.heap.size:=(by omega);have QY:w.heap.size+1<w2.heap.size:=(by omega);clear B9 m9 H8 S8)|(go_at_call 179;refine(q9 D1 _ (q9 J8) (by simp)).mono ?_;rintro e w1⟨A7,g1,rfl,U5⟩;have IL:=j3 U5;have pI:=j3 ((j6 (q9 J8) A7).alloc (j6 (q9 J8) A7).size (.cells #[.string g1.op,.string (BS g1.text),.int .i64 g1.cls,.slice g1.pa g1.pn g1.pc,.slice g1.ta g1.tn g1.tc,.slice g1.ra g1.rn g1.rc] 184));have bS:=j3 (j6 (q9 J8) A7);obtain⟨F1,F7⟩:=qb0 A7;have C8:w.heap.size+1+1<=w1.heap.size:=(by have:=A7.size;simp at this;omega);have s0:w1.cell? ⟨w.heap.size+1,0,none⟩=some (.string ⟨#[]⟩):=(F1 _ 0 (by simp)).trans (by simp[go_sem]);have s1:w1.cell? ⟨w.heap.size+1,1,none⟩=some (.string ⟨#[]⟩):=(F1 _ 1 (by simp)).trans (by simp[go_sem]);have s2:w1.cell? ⟨w.heap.size+1,2,none⟩=some (.int .i64 0):=(F1 _ 2 (by simp)).trans (by simp[go_sem]);have s3:w1.cell? ⟨w.heap.size+1,3,none⟩=some (.slice none 0 0):=(F1 _ 3 (by simp)).trans (by simp[go_sem]);have s4:w1.cell? ⟨w.heap.size+1,4,none⟩=some (.slice none 0 0):=(F1 _ 4 (by simp)).trans (by simp[go_sem]);have s5:w1.cell? ⟨w.heap.size+1,5,none⟩=some (.slice none 0 0):=(F1 _ 5 (by simp)).trans (by simp[go_sem]);have JI:∀i,w1.frozen? ⟨w.heap.size+1,i,none⟩=false:=(λi=>(F7 _ i (by simp)).trans (by simp[go_sem]));have f3:w1.cell? ⟨w.heap.size,3,none⟩=some (.slice (some ⟨pb,0,none⟩) 2 cap):=(F1 _ 3 (by simp;omega)).trans (by simp[go_sem]);have d6:w1.cell? ⟨pb,6,none⟩=some (.string h.op):=((q9 bS).cell (p:=⟨pb,6,none⟩) R8).trans c6;have d7:w1.cell? ⟨pb,7,none⟩=some (.string (BS h.text)):=((q9 bS).cell (p:=⟨pb,7,none⟩) R8).trans c7;have d8:w1.cell? ⟨pb,8,none⟩=some (.int .i64 h.cls):=((q9 bS).cell (p:=⟨pb,8,none⟩) R8).trans c8;have d9:w1.cell? ⟨pb,9,none⟩=some (.slice h.pa h.pn h.pc):=((q9 bS).cell (p:=⟨pb,9,none⟩) R8).trans c9;have TV:w1.cell? ⟨pb,10,none⟩=some (.slice h.ta h.tn h.tc):=((q9 bS).cell (p:=⟨pb,10,none⟩) R8).trans kS;have TU:w1.cell? ⟨pb,11,none⟩=some (.slice h.ra h.rn h.rc):=((q9 bS).cell (p:=⟨pb,11,none⟩) R8).trans kR;have RL:pb<w1.heap.size:=(by omega);have RI:¬w.heap.size=w1.heap.size:=(by omega);have RH:w.heap.size<w1.heap.size:=(by omega);have RG:¬w.heap.size+1=w1.heap.size:=(by omega);have RC:w.heap.size+1<w1.heap.size:=(by omega);have RJ:¬pb=w1.heap.size:=(by omega);clear A7 F1 F7 U5))
  refine bodyPost_ret (by simp[results,results179,go_sem,r0,r1,r2,r3,r4,r5]<;>rfl) rfl ?_;exact q9 I7 r w5 _ (q9 U0) (q9 P0) (qi2 _ _ _ _ _ _ _ _)
end
section
theorem rden_less{w:World}{f g h:RF}{O1 O2:ByteArray}{pb cap:Nat}(ho:(O1=⟨#[60]⟩/\O2=⟨#[60,61]⟩)\/(O1=⟨#[60,61]⟩/\O2=⟨#[60]⟩))(h0:f.op=O1)(iL:f.pa=some ⟨pb,0,none⟩)(e2':f.pn=2)(e3':f.pc=cap)(R8:pb<w.heap.size)(hc:∀k,k<12->w.cell? ⟨pb,k,none⟩=(qa2 g++qa2 h)[k]?)
  {P:RF->World->Prop} (H1:∀W,Below w.heap.size w W->w.heap.size+1+1<=W.heap.size->Calls prog 227 #[.string O2,h.v,g.v] W λe w'=>Below W.heap.size W w'/\∃r:RF,e=.returned r.v/\P r w')
  {Q:Ending->World->Prop} (HQ:∀r w1 w',Below w.heap.size w w1->P r w1->SixAt (w.heap.size+1) w1 w'->Q (.returned r.v) w'):Calls prog 179 #[f.v] w Q:=by
 have c0:w.cell? ⟨pb,0,none⟩=some (.string g.op):=hc 0 (by omega);have c1:w.cell? ⟨pb,1,none⟩=some (.string (BS g.text)):=hc 1 (by omega);have c2:w.cell? ⟨pb,2,none⟩=some (.int .i64 g.cls):=hc 2 (by omega);have c3:w.cell? ⟨pb,3,none⟩=some (.slice g.pa g.pn g.pc):=hc 3 (by omega);have c4:w.cell? ⟨pb,4,none⟩=some (.slice g.ta g.tn g.tc):=hc 4 (by omega);have c5:w.cell? ⟨pb,5,none⟩=some (.slice g.ra g.rn g.rc):=hc 5 (by omega);have c6:w.cell? ⟨pb,6,none⟩=some (.string h.op):=hc 6 (by omega);have c7:w.cell? ⟨pb,7,none⟩=some (.string (BS h.text)):=hc 7 (by omega);have c8:w.cell? ⟨pb,8,none⟩=some (.int .i64 h.cls):=hc 8 (by omega);have c9:w.cell? ⟨pb,9,none⟩=some (.slice h.pa h.pn h.pc):=hc 9 (by omega);have kS:w.cell? ⟨pb,10,none⟩=some (.slice h.ta h.tn h.tc):=hc 10 (by omega);have kR:w.cell? ⟨pb,11,none⟩=some (.slice h.ra h.rn h.rc):=hc 11 (by omega);have np:¬pb=w.heap.size:=by omega
 have eA:¬pb=w.heap.size+1:=by omega
 have iU:¬w.heap.size+1=pb:=by omega
 have D1:=j3 H1;have I7:=j3 HQ;simp only[RF.v]at D1 I7 ⊢;rw[h0,iL,e2',e3'];clear HQ H1 hc h0 iL e2' e3';have J8:Hid (Below w.heap.size w ((w.alloc (.cells #[.string O1,.string (BS f.text),.int .i64 f.cls,.slice (some ⟨pb,0,none⟩) 2 cap,.slice f.ta f.tn f.tc,.slice f.ra f.rn f.rc] 184)).alloc (.cells #[.string ⟨#[]⟩,.string ⟨#[]⟩,.int .i64 0,.slice none 0 0,.slice none 0 0,.slice none 0 0] 184))):=j3 (((Below.refl _ _).alloc (Nat.le_refl _) _).alloc (by simp) _);rcases ho with⟨rfl,rfl⟩|⟨rfl,rfl⟩
 all_goals
  go_enter func179,ntmps179
  go_wp2_with fail
  go_region_held3 (λW=>W.cell? ⟨w.heap.size,3,none⟩=some (.slice (some ⟨pb,0,none⟩) 2 cap)/\W.cell? ⟨pb,0,none⟩=some (.string g.op)/\W.cell? ⟨pb,1,none⟩=some (.string (BS g.text))/\W.cell? ⟨pb,2,none⟩=some (.int .i64 g.cls)/\W.cell? ⟨pb,3,none⟩=some (.slice g.pa g.pn g.pc)/\W.cell? ⟨pb,4,none⟩=some (.slice g.ta g.tn g.tc)/\W.cell? ⟨pb,5,none⟩=some (.slice g.ra g.rn g.rc)/\W.cell? ⟨pb,6,none⟩=some (.string h.op)/\W.cell? ⟨pb,7,none⟩=some (.string (BS h.text))/\W.cell? ⟨pb,8,none⟩=some (.int .i64 h.cls)/\W.cell? ⟨pb,9,none⟩=some (.slice h.pa h.pn h.pc)/\W.cell? ⟨pb,10,none⟩=some (.slice h.ta h.tn h.tc)/\W.cell? ⟨pb,11,none⟩=some (.slice h.ra h.rn h.rc)) (first|with_reducible assumption|go_keep) ((go_at_call 227;refine(q9 D1 _ (q9 J8).drew (by show _<=((w.alloc _).alloc _).heap.size;simp)).mono ?_;rintro e w1⟨A7,r,rfl,hp⟩;have E7:=j3 (j6 (q9 J8).drew A7);obtain⟨F1,F7⟩:=qb0 A7;have r0:w1.cell? ⟨w.heap.size+1,0,none⟩=some (.string ⟨#[]⟩):=(F1 _ 0 (by show _<((w.alloc _).alloc _).heap.size;simp)).trans (by show((w.alloc _).alloc _).cell? _=_;simp[go_sem]);have r1:w1.cell? ⟨w.heap.size+1,1,none⟩=some (.string ⟨#[]⟩):=(F1 _ 1 (by show _<((w.alloc _).alloc _).heap.size;simp)).trans (by show((w.alloc _).alloc _).cell? _=_;simp[go_sem]);have r2:w1.cell? ⟨w.heap.size+1,2,none⟩=some (.int .i64 0):=(F1 _ 2 (by show _<((w.alloc _).alloc _).heap.size;simp)).trans (by show((w.alloc _).alloc _).cell? _=_;simp[go_sem]);have r3:w1.cell? ⟨w.heap.size+1,3,none⟩=some (.slice none 0 0):=(F1 _ 3 (by show _<((w.alloc _).alloc _).heap.size;simp)).trans (by show((w.alloc _).alloc _).cell? _=_;simp[go_sem]);have r4:w1.cell? ⟨w.heap.size+1,4,none⟩=some (.slice none 0 0):=(F1 _ 4 (by show _<((w.alloc _).alloc _).heap.size;simp)).trans (by show((w.alloc _).alloc _).cell? _=_;simp[go_sem]);have r5:w1.cell? ⟨w.heap.size+1,5,none⟩=some (.slice none 0 0):=(F1 _ 5 (by show _<((w.alloc _).alloc _).heap.size;simp)).trans (by show((w.alloc _).alloc _).cell? _=_;simp[go_sem]);have rz:∀i,w1.frozen? ⟨w.heap.size+1,i,none⟩=false:=(λi=>(F7 _ i (by show _<((w.alloc _).alloc _).heap.size;simp)).trans (by show((w.alloc _).alloc _).frozen? _=_;simp[go_sem]));have rl:w.heap.size+1<w1.heap.size:=(by have:=A7.size;change ((w.alloc _).alloc _).heap.size<=_ at this;simp at this;omega);have hS:(w1.cell? ⟨w.heap.size,3,none⟩=some (.slice (some ⟨pb,0,none⟩) 2 cap)/\w1.cell? ⟨pb,0,none⟩=some (.string g.op)/\w1.cell? ⟨pb,1,none⟩=some (.string (BS g.text))/\w1.cell? ⟨pb,2,none⟩=some (.int .i64 g.cls)/\w1.cell? ⟨pb,3,none⟩=some (.slice g.pa g.pn g.pc)/\w1.cell? ⟨pb,4,none⟩=some (.slice g.ta g.tn g.tc)/\w1.cell? ⟨pb,5,none⟩=some (.slice g.ra g.rn g.rc)/\w1.cell? ⟨pb,6,none⟩=some (.string h.op)/\w1.cell? ⟨pb,7,none⟩=some (.string (BS h.text))/\w1.cell? ⟨pb,8,none⟩=some (.int .i64 h.cls)/\w1.cell? ⟨pb,9,none⟩=some (.slice h.pa h.pn h.pc)/\w1.cell? ⟨pb,10,none⟩=some (.slice h.ta h.tn h.tc)/\w1.cell? ⟨pb,11,none⟩=some (.slice h.ra h.rn h.rc)):=⟨(F1 _ 3 (by show _<((w.alloc _).alloc _).heap.size;simp;omega)).trans (by show((w.alloc _).alloc _).cell? _=_;simp[go_sem]),((q9 E7).cell (p:=⟨pb,0,none⟩) R8).trans c0,((q9 E7).cell (p:=⟨pb,1,none⟩) R8).trans c1,((q9 E7).cell (p:=⟨pb,2,none⟩) R8).trans c2,((q9 E7).cell (p:=⟨pb,3,none⟩) R8).trans c3,((q9 E7).cell (p:=⟨pb,4,none⟩) R8).trans c4,((q9 E7).cell (p:=⟨pb,5,none⟩) R8).trans c5,((q9 E7).cell (p:=⟨pb,6,none⟩) R8).trans c6,((q9 E7).cell (p:=⟨pb,7,none⟩) R8).trans c7,((q9 E7).cell (p:=⟨pb,8,none⟩) R8).trans c8,((q9 E7).cell (p:=⟨pb,9,none⟩) R8).trans c9,((q9 E7).cell (p:=⟨pb,10,none⟩) R8).trans kS,((q9 E7).cell (p:=⟨pb,11,none⟩) R8).trans kR⟩;have P0:=j3 hp;clear A7 F1 F7 hp))
  go_wp2_with fail
  refine bodyPost_ret (by simp[results,results179,go_sem,r0,r1,r2,r3,r4,r5]<;>rfl) rfl ?_;exact q9 I7 r w1 _ (q9 E7) (q9 P0) (qi2 _ _ _ _ _ _ _ _)
theorem je2{w:World}{f:RF}{O1 O2:ByteArray}(ho:(O1=⟨#[84,82,85,69]⟩/\O2=⟨#[70,65,76,83,69]⟩)\/(O1=⟨#[70,65,76,83,69]⟩/\O2=⟨#[84,82,85,69]⟩))(h0:f.op=O1)
  {P:RF->World->Prop} (H1:∀W,Below w.heap.size w W->w.heap.size+1+1<=W.heap.size->Calls prog 224 #[.string O2,.string O2,.int .i64 1,.int .i64 0] W λe w'=>Below W.heap.size W w'/\∃r:RF,e=.returned r.v/\P r w')
  {Q:Ending->World->Prop} (HQ:∀r w1 w',Below w.heap.size w w1->P r w1->SixAt (w.heap.size+1) w1 w'->Q (.returned r.v) w'):Calls prog 179 #[f.v] w Q:=by
 have D1:=j3 H1;have I7:=j3 HQ;simp only[RF.v]at D1 I7 ⊢;rw[h0];clear HQ H1 h0;have J8:Hid (Below w.heap.size w ((w.alloc (.cells #[.string O1,.string (BS f.text),.int .i64 f.cls,.slice f.pa f.pn f.pc,.slice f.ta f.tn f.tc,.slice f.ra f.rn f.rc] 184)).alloc (.cells #[.string ⟨#[]⟩,.string ⟨#[]⟩,.int .i64 0,.slice none 0 0,.slice none 0 0,.slice none 0 0] 184))):=j3 (((Below.refl _ _).alloc (Nat.le_refl _) _).alloc (by simp) _);rcases ho with⟨rfl,rfl⟩|⟨rfl,rfl⟩
 all_goals
  go_enter func179,ntmps179
  go_wp2_with(go_at_call 224;refine(q9 D1 _ (q9 J8) (by simp)).mono ?_;rintro e w1⟨A7,r,rfl,hp⟩;have E7:=j3 (j6 (q9 J8) A7);obtain⟨F1,F7⟩:=qb0 A7;have r0:w1.cell? ⟨w.heap.size+1,0,none⟩=some (.string ⟨#[]⟩):=(F1 _ 0 (by simp)).trans (by simp[go_sem]);have r1:w1.cell? ⟨w.heap.size+1,1,none⟩=some (.string ⟨#[]⟩):=(F1 _ 1 (by simp)).trans (by simp[go_sem]);have r2:w1.cell? ⟨w.heap.size+1,2,none⟩=some (.int .i64 0):=(F1 _ 2 (by simp)).trans (by simp[go_sem]);have r3:w1.cell? ⟨w.heap.size+1,3,none⟩=some (.slice none 0 0):=(F1 _ 3 (by simp)).trans (by simp[go_sem]);have r4:w1.cell? ⟨w.heap.size+1,4,none⟩=some (.slice none 0 0):=(F1 _ 4 (by simp)).trans (by simp[go_sem]);have r5:w1.cell? ⟨w.heap.size+1,5,none⟩=some (.slice none 0 0):=(F1 _ 5 (by simp)).trans (by simp[go_sem]);have rz:∀i,w1.frozen? ⟨w.heap.size+1,i,none⟩=false:=(λi=>(F7 _ i (by simp)).trans (by simp[go_sem]));have rl:w.heap.size+1<w1.heap.size:=(by have:=A7.size;simp at this;omega);have P0:=j3 hp;clear A7 F1 F7 hp)
  refine bodyPost_ret (by simp[results,results179,go_sem,r0,r1,r2,r3,r4,r5]<;>rfl) rfl ?_;exact q9 I7 r w1 _ (q9 E7) (q9 P0) (qi2 _ _ _ _ _ _ _ _)
end
section
def Tb(c:Co):Prop:=opC c=0\/ji9 (opC c)=1
def WT:Co->Prop
 | .leaf p=>0<=p.op/\p.op<=4
 | .un p x=>(p.op=5\/p.op=22\/p.op=23)/\(p.op=5->Tb x)/\WT x
 | .bin p x y=>qe8 p.op/\(p.op=6\/p.op=7->Tb x/\Tb y)/\WT x/\WT y
theorem WT.wf:∀{c:Co},WT c->WfC c
 | .leaf p,h=>by
  obtain⟨op,a,b,d⟩:=p;have h1:0<=op:=h.1;have h2:op<=4:=h.2;show qk8 op=true;rcases(show op=0\/op=1\/op=2\/op=3\/op=4 by omega) with rfl|rfl|rfl|rfl|rfl<;>rfl
 | .un p x,h=>by
  obtain⟨op,a,b,d⟩:=p;refine⟨?_,WT.wf h.2.2⟩;show unB op=true;rcases h.1 with e|e|e<;>(simp only at e;subst e;rfl)
 | .bin p x y,h=>by
  obtain⟨op,a,b,d⟩:=p;refine⟨?_,WT.wf h.2.2.1,WT.wf h.2.2.2⟩;show binB op=true;rcases h.1 with e|e|e|e|e|e|e|e|e<;>(simp only at e;subst e;rfl)
theorem qy9(o:Int)(x y:Co):(qa6 (j9 o x y)).length=(qa6 x).length+(qa6 y).length+1:=by
 unfold j9
 split<;>simp[qa6]<;>omega
theorem terms_not:∀c,(qa6 (qd8 c)).length<=(qa6 c).length+uC c:=by
 intro c
 induction c with
 | leaf p=>unfold qd8;split<;>(try split)<;>simp[qa6,uC]
 | un p x ih=>
  have:=jt3 x;unfold qd8
  split
  ·simp[qa6,uC];omega
  ·simp[qa6,uC];omega
 | bin p x y ihx ihy=>
  have h1:=jt3 x;have h2:=jt3 y;unfold qd8
  by_cases h6:(p.op==6)=true
  ·rw[if_pos h6,qy9];simp[qa6,uC,h6];omega
  ·rw[if_neg h6]
   by_cases h7:(p.op==7)=true
   ·rw[if_pos h7,qy9];simp[qa6,uC,h7];omega
   ·rw[if_neg h7]
    by_cases h10:(p.op==10)=true
    ·rw[if_pos h10,qy9];simp[qa6];omega
    ·rw[if_neg h10]
     by_cases L6:(p.op==11)=true
     ·rw[if_pos L6,qy9];simp[qa6];omega
     ·rw[if_neg L6];simp[qa6,uC,h6,h7];omega
def SzC(c:Co):Prop:=(x9 c).length+7 * uC c<=400000000/\(qa6 c).length+uC c<=400000000
theorem SzC.big{c:Co}(h:SzC c):qv7 c:=⟨by have:=h.1;omega,by have:=h.2;omega⟩
theorem SzC.not{c:Co}(h:SzC c)(hw:WT c):qv7 (qd8 c):=⟨by have:=h.1;have:=qm2 c hw.wf;omega,by have:=h.2;have:=terms_not c;omega⟩
theorem qp9{N:Nat->Prop}{w w1 w':World}{c:Co}{r:RF}(hN:∀b,N b->b<w.heap.size)(hb:Below w.heap.size w w1)(hp:RfAt (λb=>N b\/w.heap.size+1+1<=b) w1 c r)(hs:SixAt (w.heap.size+1) w1 w'):qp6 N w c (.returned r.v) w':=
 ⟨hs.bel _ _ (by omega) hb,r,rfl,hs.rf hp (by rintro (h|h);have:=hN _ h;omega;omega) (λb h _=>by rcases h with h|h<;>first|exact .inl h|(right;omega))⟩
theorem va3{N:Nat->Prop}{w W w':World}{c:Co}{e:Ending}(hz:w.heap.size+1+1<=W.heap.size)(h:qp6 N W c e w'):Below W.heap.size W w'/\∃r:RF,e=.returned r.v/\RfAt (λb=>N b\/w.heap.size+1+1<=b) w' c r:=by
 obtain⟨h1,r,e1,h2⟩:=h;exact⟨h1,r,e1,h2.keep (λ_ _ _=>rfl) (Nat.le_refl _) (λb h _=>by rcases h with h|h<;>first|exact .inl h|(right;omega))⟩
theorem jp6{N:Nat->Prop}{w:World}{b o:Nat}{c:Co}{p1 t1 r1:Value}(h:SideAt w b o c p1 t1 r1)(hr:RcAt N w c p1 t1 r1):∃f:RF,RfAt N w c f/\∀k,k<6->w.cell? ⟨b,o+k,none⟩=(qa2 f)[k]?:=by
 obtain⟨⟨a,n,k,rfl⟩,⟨b',m,l,rfl⟩,d,p,q,rfl⟩:=hr.slices;exact⟨⟨_,x9 c,_,a,n,k,b',m,l,d,p,q⟩,⟨rfl,rfl,rfl,hr⟩,h⟩
theorem RfAt.one{N:Nat->Prop}{w:World}{p:CP}{x:Co}{f:RF}(h:RfAt N w (.un p x) f):∃pb g,f.pa=some ⟨pb,0,none⟩/\f.pn=1/\pb<w.heap.size/\RfAt N w x g/\∀k,k<6->w.cell? ⟨pb,k,none⟩=(qa2 g)[k]?:=by
 obtain⟨⟨b,cap,p1,t1,r1,e,_,A1,hs,hx⟩,_⟩:=h.at';obtain⟨g,hg,hc⟩:=jp6 hs hx;injection e with e1 e2 _;exact⟨b,g,e1,e2,A1,hg,λk hk=>by have:=hc k hk;rwa [Nat.zero_add]at this⟩
theorem RfAt.two{N:Nat->Prop}{w:World}{p:CP}{x y:Co}{f:RF}(h:RfAt N w (.bin p x y) f):∃pb g k,f.pa=some ⟨pb,0,none⟩/\f.pn=2/\pb<w.heap.size/\RfAt N w x g/\RfAt N w y k/\∀i,i<12->w.cell? ⟨pb,i,none⟩=(qa2 g++qa2 k)[i]?:=by
 obtain⟨⟨b,cap,p1,t1,r1,p2,t2,r2,e,_,A1,hs,hx,rB,hy⟩,_⟩:=h.at';obtain⟨g,hg,hc⟩:=jp6 hs hx;obtain⟨k,hk,m9⟩:=jp6 rB hy;injection e with e1 e2 _;refine⟨b,g,k,e1,e2,A1,hg,hk,λi hi=>?_⟩
 by_cases h6:i<6
 ·rw[List.getElem?_append_left (by exact h6)];have:=hc i h6;rwa [Nat.zero_add]at this
 ·rw[List.getElem?_append_right (by show 6<=i;omega)]
  have:=m9 (i - 6) (by omega);rwa [show 6+(i - 6)=i by omega]at this
theorem je6{N:Nat->Prop}{w:World}{pb cap:Nat}(p:CP){x:Co}(hp:PartsAt N w (.slice (some ⟨pb,0,none⟩) 1 cap) [x])(hN:N pb)(hx:qv7 x):
  Calls prog 229 #[.string (BS (qb7 p.op)),.string (BS (x9 (.un p x))),.int .i64 (ji9 p.op),.slice (some ⟨pb,0,none⟩) 1 cap,.int .i64 (vf6 p:Nat)] w (qp6 N w (.un p x)):=by
 have:=je7 (BS (qb7 p.op)) (x9 (.un p x)) (ji9 p.op) (vf6 p) hp (by simp) (by have:=hx.2;simp;omega);refine this.mono ?_;rintro e w'⟨hb,tv,rv,rfl,h1,h2⟩;refine RcEnds.rf ⟨hb,_,tv,rv,rfl, ?_⟩;obtain⟨b,cap',e,A1,hk⟩:=hp.below hb;obtain⟨p1,t1,r1,s1,a1⟩:=hk 0 x rfl;have cB:pb=b:=by injection e with e;injection e with e;injection e
 refine⟨⟨b,cap',p1,t1,r1,e,.inl (cB ▸ hN),A1,s1,a1.mono (λ_ h _=>.inl h)⟩, ?_, ?_⟩
 ·have:=h1.keep (N':=λb=>N b\/w.heap.size<=b) (λ_ _ _=>rfl) (Nat.le_refl _) (λ_ h _=>.inr h)
  simpa [qa6]using this
 ·have:=h2.keep (N':=λb=>N b\/w.heap.size<=b) (λ_ _ _=>rfl) (Nat.le_refl _) (λ_ h _=>.inr h)
  simpa [qj7]using this
def jh6(c:Co):Prop:=∀(N:Nat->Prop) (w:World) (f:RF),RfAt N w c f->(∀b,N b->b<w.heap.size)->Calls prog 179 #[f.v] w (qp6 N w (qd8 c))
theorem den_hm{N:Nat->Prop}{w:World}{c:Co}{f:RF}(hf:RfAt N w c f)(hb:qv7 c):∀W,Below w.heap.size w W->w.heap.size+1+1<W.heap.size->(∀k,k<6->W.cell? ⟨w.heap.size+1+1,k,none⟩=(qa2 f)[k]?) ->
   Calls prog 229 #[.string ⟨#[78,79,84]⟩,.string (BS (x9 (.un (qa0 5) c))),.int .i64 1,.slice (some ⟨w.heap.size+1+1,0,none⟩) 1 1,.int .i64 0] W λe w'=>Below W.heap.size W w'/\∃r:RF,e=.returned r.v/\RfAt (λb=>N b\/w.heap.size+1+1<=b) w' (.un (qa0 5) c) r:=by
 intro W T9 hz hc;have hp:=parts1 (N:=λb=>N b\/b=w.heap.size+1+1) (cap:=1) ((hf.below T9).keep (λ_ _ _=>rfl) (Nat.le_refl _) (λ_ h _=>.inl h)) hz hc;refine(je6 (qa0 5) hp (.inr rfl) hb).mono ?_;rintro e w'⟨h1,r,e1,h2⟩;exact⟨h1,r,e1,h2.keep (λ_ _ _=>rfl) (Nat.le_refl _) (λb h _=>by rcases h with(h|h)|h<;>first|exact .inl h|(right;omega))⟩
theorem jq8{c:Co}{f:RF}{N:Nat->Prop}{w:World}(hf:RfAt N w c f):x9 (.un (qa0 5) c)=[40,78,79,84,32]++f.text++[41]:=by
 rw[hf.text];rfl
theorem qn2{c:Co}(o:Int)(hb:qv7 c)(hn:qd8 c=.un (qa0 5) c)(aI:opC c=o)(ho:∀n∈[[78,79,84],[65,78,68],[79,82],[60],[60,61],[84,82,85,69],[70,65,76,83,69]],(qb7 o==n)=false):jh6 c:=by
 intro N w f hf hN;rw[hn];rw[←aI]at ho;have key:∀n∈[[78,79,84],[65,78,68],[79,82],[60],[60,61],[84,82,85,69],[70,65,76,83,69]],(f.op.toList==n)=false:=λn hm=>by rw[hf.op,qc9];exact ho n hm
 refine jy0 (key _ (by simp)) (key _ (by simp)) (key _ (by simp)) (key _ (by simp)) (key _ (by simp)) (key _ (by simp)) (key _ (by simp)) (by rw[hf.text];exact hb.1) (jq8 hf) (den_hm hf hb) ?_;intro r w1 w' h1 h2 h3;exact qp9 hN h1 h2 h3
theorem va2:∀c,WT c->Tb c->SzC c->jh6 c:=by
 intro c
 induction c with
 | leaf p=>
  intro hw ht hz;obtain⟨op,nu,st,es⟩:=p;have h1:0<=op:=hw.1;have h2:op<=4:=hw.2;rcases(show op=0\/op=1\/op=2\/op=3\/op=4 by omega) with rfl|rfl|rfl|rfl|rfl
  ·exact qn2 0 hz.big rfl rfl (by decide)
  ·exact qn2 1 hz.big rfl rfl (by decide)
  ·exact qn2 2 hz.big rfl rfl (by decide)
  ·intro N w f hf hN
   refine je2 (P:=λr w1=>RfAt (λb=>N b\/w.heap.size+1+1<=b) w1 (.leaf (qa0 4)) r) (.inl ⟨rfl,rfl⟩) hf.op ?_ (λr w1 w'=>qp9 hN);intro W hb dC;exact(qx1 N (qa0 4) W).mono λe w' h=>va3 dC h.rf
  ·intro N w f hf hN
   refine je2 (P:=λr w1=>RfAt (λb=>N b\/w.heap.size+1+1<=b) w1 (.leaf (qa0 3)) r) (.inr ⟨rfl,rfl⟩) hf.op ?_ (λr w1 w'=>qp9 hN);intro W hb dC;exact(qx1 N (qa0 3) W).mono λe w' h=>va3 dC h.rf
 | un p x ih=>
  intro hw ht hz;obtain⟨op,nu,st,es⟩:=p;rcases hw.1 with e|e|e
  ·simp only at e
   subst e
   by_cases hx0:opC x=0
   ·intro N w f hf hN
    obtain⟨pb,g,e1,e2,R8,hg,hc⟩:=hf.one;have t7:qd8 (.un ⟨5,nu,st,es⟩ x)=.un (qa0 5) (.un ⟨5,nu,st,es⟩ x):=by simp[qd8,hx0]
    rw[t7];refine jy1 (cl:=g.cls) hf.op e1 e2 rfl R8 (hc 2 (by omega)) (by rw[hg.cls,hx0];decide) (by rw[hf.text];exact hz.big.1) (jq8 hf) (den_hm hf hz.big) (λr w1 w'=>qp9 hN)
   ·intro N w f hf hN
    obtain⟨pb,g,e1,e2,R8,hg,hc⟩:=hf.one;have t7:qd8 (.un ⟨5,nu,st,es⟩ x)=x:=by simp[qd8,hx0]
    rw[t7];have R7:g.cls=1:=by rw[hg.cls];exact((hw.2.1 rfl).resolve_left hx0)
    refine rden_side hf.op e1 e2 rfl R8 hc R7 ?_;intro w' hb;exact⟨hb,g,rfl,(hg.below hb).keep (λ_ _ _=>rfl) (Nat.le_refl _) (λ_ h _=>.inl h)⟩
  ·simp only at e
   subst e;exact qn2 22 hz.big rfl rfl (by decide)
  ·simp only at e
   subst e;exact qn2 23 hz.big rfl rfl (by decide)
 | bin p x y ihx ihy=>
  intro hw ht hz;obtain⟨op,nu,st,es⟩:=p
  have logic:∀o2,(op=6/\o2=7\/op=7/\o2=6)->qd8 (.bin ⟨op,nu,st,es⟩ x y)=j9 o2 (qd8 x) (qd8 y)->jh6 (.bin ⟨op,nu,st,es⟩ x y):=by
   intro o2 oQ t7 N w f hf hN;rw[t7];obtain⟨pb,g,k,e1,e2,R8,hg,hk,hc⟩:=hf.two;obtain⟨tx,ty⟩:=hw.2.1 (by rcases oQ with h|h;exact .inl h.1;exact .inr h.1);have hu:uC (.bin ⟨op,nu,st,es⟩ x y)=uC x+uC y:=by rcases oQ with⟨h,_⟩|⟨h,_⟩<;>subst h<;>rfl
   have C7:(x9 (.bin ⟨op,nu,st,es⟩ x y)).length=(x9 x).length+(x9 y).length+4+(qi6 op).length:=qj0 (p:=⟨op,nu,st,es⟩) hw.wf.1 x y;have U2:(qa6 (.bin ⟨op,nu,st,es⟩ x y)).length=(qa6 x).length+(qa6 y).length+1:=by simp[qa6];omega
   have zx:SzC x:=⟨by have:=hz.1;rw[hu,C7]at this;omega,by have:=hz.2;rw[hu,U2]at this;omega⟩;have zy:SzC y:=⟨by have:=hz.1;rw[hu,C7]at this;omega,by have:=hz.2;rw[hu,U2]at this;omega⟩;refine rden_both (O2:=BS (qb7 o2)) (P1:=λr w1=>RfAt (λb=>N b\/w.heap.size+1+1<=b) w1 (qd8 x) r) (P2:=λr w1=>RfAt (λb=>N b\/w.heap.size+1+1<=b) w1 (qd8 y) r) (P3:=λr w1=>RfAt (λb=>N b\/w.heap.size+1+1<=b) w1 (j9 o2 (qd8 x) (qd8 y)) r) ?_ hf.op e1 e2 rfl R8 hc ?_ ?_ ?_ (λr w1 w'=>qp9 hN)
   ·rcases oQ with⟨h,h'⟩|⟨h,h'⟩<;>subst h h'
    ·exact .inl ⟨rfl,rfl⟩
    ·exact .inr ⟨rfl,rfl⟩
   ·intro W hb dC
    exact(ihx hw.2.2.1 tx zx N W g (hg.below hb) (λb h=>Nat.lt_of_lt_of_le (hN b h) hb.size)).mono λe w' h=>va3 dC h
   ·intro W hb dC
    exact(ihy hw.2.2.2 ty zy N W k (hk.below hb) (λb h=>Nat.lt_of_lt_of_le (hN b h) hb.size)).mono λe w' h=>va3 dC h
   ·intro W w1 w2 g1 g2 hb h1 sV h2 B9 C8
    have q1:RfAt (λb=>(N b\/w.heap.size+1+1<=b)/\b<W.heap.size) W (qd8 x) g1:=(h1.below (j6 sV B9)).keep (λ_ _ _=>rfl) (Nat.le_refl _) (λb h hl=>⟨h,hl⟩);have q2:RfAt (λb=>(N b\/w.heap.size+1+1<=b)/\b<W.heap.size) W (qd8 y) g2:=(h2.below B9).keep (λ_ _ _=>rfl) (Nat.le_refl _) (λb h hl=>⟨h,hl⟩);refine(qy7 (by rcases oQ with⟨_,h'⟩|⟨_,h'⟩<;>subst h'<;>simp[qe8]) q1 q2 (zx.not hw.2.2.1) (zy.not hw.2.2.2) (λb h=>h.2)).mono ?_;rintro e w'⟨h3,r,e3,h4⟩;have RZ:w1.heap.size<=W.heap.size:=Nat.le_trans sV.size B9.size;exact⟨h3,r,e3,h4.keep (λ_ _ _=>rfl) (Nat.le_refl _) (λb h _=>by rcases h with h|h;exact h.1;right;omega)⟩
  have less:∀o2,(op=10/\o2=11\/op=11/\o2=10)->qd8 (.bin ⟨op,nu,st,es⟩ x y)=j9 o2 y x->jh6 (.bin ⟨op,nu,st,es⟩ x y):=by
   intro o2 oQ t7 N w f hf hN;rw[t7];obtain⟨pb,g,k,e1,e2,R8,hg,hk,hc⟩:=hf.two;have C7:(x9 (.bin ⟨op,nu,st,es⟩ x y)).length=(x9 x).length+(x9 y).length+4+(qi6 op).length:=qj0 (p:=⟨op,nu,st,es⟩) hw.wf.1 x y;have U2:(qa6 (.bin ⟨op,nu,st,es⟩ x y)).length=(qa6 x).length+(qa6 y).length+1:=by simp[qa6];omega
   have bx:qv7 x:=⟨by have:=hz.1;rw[C7]at this;omega,by have:=hz.2;rw[U2]at this;omega⟩;have by':qv7 y:=⟨by have:=hz.1;rw[C7]at this;omega,by have:=hz.2;rw[U2]at this;omega⟩
   refine rden_less (O2:=BS (qb7 o2)) (P:=λr w1=>RfAt (λb=>N b\/w.heap.size+1+1<=b) w1 (j9 o2 y x) r) ?_ hf.op e1 e2 rfl R8 hc ?_ (λr w1 w'=>qp9 hN)
   ·rcases oQ with⟨h,h'⟩|⟨h,h'⟩<;>subst h h'
    ·exact .inl ⟨rfl,rfl⟩
    ·exact .inr ⟨rfl,rfl⟩
   ·intro W hb dC
    exact(qy7 (by rcases oQ with⟨_,h'⟩|⟨_,h'⟩<;>subst h'<;>simp[qe8]) (hk.below hb) (hg.below hb) by' bx (λb h=>Nat.lt_of_lt_of_le (hN b h) hb.size)).mono λe w' h=>va3 dC h
  rcases hw.1 with e|e|e|e|e|e|e|e|e<;>(simp only at e;subst e)
  ·exact logic 7 (.inl ⟨rfl,rfl⟩) rfl
  ·exact logic 6 (.inr ⟨rfl,rfl⟩) rfl
  ·exact qn2 8 hz.big rfl rfl (by decide)
  ·exact less 11 (.inl ⟨rfl,rfl⟩) rfl
  ·exact less 10 (.inr ⟨rfl,rfl⟩) rfl
  ·exact qn2 16 hz.big rfl rfl (by decide)
  ·exact qn2 17 hz.big rfl rfl (by decide)
  ·exact qn2 18 hz.big rfl rfl (by decide)
  ·exact qn2 19 hz.big rfl rfl (by decide)
end
section
section
variable {x y z:List UInt8}
theorem bl_lt:Op.bytesLess x y=decide (x<y):=bytesLess_eq x y
theorem lt_tr(h:x<y)(k:y<z):x<z:=List.lt_trans h k
theorem lt_ir:¬x<x:=List.lt_irrefl x
theorem le_tot:x<=y\/y<=x:=List.le_total x y
theorem le_tr(h:x<=y)(k:y<=z):x<=z:=List.le_trans h k
theorem va0(h:x<=y)(k:x≠y):x<y:=by
 by_cases A1:x<y
 ·exact A1
 ·exact absurd (List.le_antisymm h (List.not_lt.1 A1)) k
theorem le_lt(h:x<=y)(k:y<z):x<z:=by
 by_cases e:x=y
 ·rw[e];exact k
 ·exact lt_tr (va0 h e) k
end
theorem sort_pw(ts:List (List UInt8)):(ts.mergeSort λx y=>decide (x<=y)).Pairwise (·<=·):=by
 have:=List.pairwise_mergeSort (le:=λx y:List UInt8=>decide (x<=y)) (λa b c h k=>by simp only[decide_eq_true_eq]at *;exact le_tr h k) (λa b=>by simp only[Bool.or_eq_true,decide_eq_true_eq];exact le_tot) ts;exact this.imp (λh=>by simpa using h)
theorem upto_mem{zs:List (List UInt8)}:∀m,m<=zs.length->∀j,j<m->zs.toArray[j]!∈Lib.compactUpTo zs.toArray m:=by
 intro m
 induction m with
 | zero=>intro _ j hj;omega
 | succ m ih=>
  intro hm j hj;rw[Lib.compactUpTo_succ]
  by_cases hjm:j=m
  ·subst hjm
   by_cases hk:Lib.keeps zs.toArray j=true
   ·rw[if_pos hk];exact List.mem_append_right _ (List.mem_singleton.2 rfl)
   ·have h0:0<j:=by
     apply Decidable.byContradiction;intro h0;exact hk (Lib.keeps_lt_one _ j (by omega))
    have he:zs.toArray[j]! = zs.toArray[j - 1]! := by
     apply Decidable.byContradiction;intro C1;exact hk (Lib.keeps_pos C1)
    rw[he];exact List.mem_append_left _ (ih (by omega) (j - 1) (by omega))
  ·exact List.mem_append_left _ (ih (by omega) j (by omega))
theorem vd5{ts:List (List UInt8)}{x:List UInt8}:x∈qe5 ts↔x∈ts:=by
 unfold qe5;have hs:x∈(ts.mergeSort λx y=>decide (x<=y))↔x∈ts:=List.mem_mergeSort;rw[←hs];generalize (ts.mergeSort λx y=>decide (x<=y))=zs;constructor
 ·intro h
  unfold Lib.compact Lib.compactUpTo at h;obtain⟨i,hi,rfl⟩:=List.mem_map.1 h;have:=List.mem_range.1 (List.mem_filter.1 hi).1;simp only[List.getElem!_toArray];rw[List.getElem!_eq_getElem?_getD,List.getElem?_eq_getElem this];exact List.getElem_mem _
 ·intro h
  obtain⟨j,hj⟩:=List.getElem?_of_mem h;have hl:=(List.getElem?_eq_some_iff.1 hj).1;have:=upto_mem zs.length (Nat.le_refl _) j hl;simp only[List.getElem!_toArray]at this;rw[List.getElem!_eq_getElem?_getD,hj]at this;exact this
theorem vj2(ts:List (List UInt8)):(qe5 ts).Pairwise (·<·):=by
 unfold qe5 Lib.compact Lib.compactUpTo;have hp:=sort_pw ts;generalize (ts.mergeSort λx y=>decide (x<=y))=zs at *;rw[List.pairwise_map];have hr:((List.range zs.length).filter (Lib.keeps zs.toArray)).Pairwise (·<·):=List.Pairwise.sublist List.filter_sublist List.pairwise_lt_range;refine hr.imp_of_mem ?_;intro a b ha hb aV;obtain⟨tC,kM⟩:=List.mem_filter.1 ha;obtain⟨A7,B9⟩:=List.mem_filter.1 hb;have la:=List.mem_range.1 tC;have lb:=List.mem_range.1 A7;have ge:∀i,i<zs.length->zs.toArray[i]! = zs[i]! := λi _=>by simp only[List.getElem!_toArray]
 have N8:∀i j (hi:i<zs.length) (hj:j<zs.length),i<=j->zs[i]!<=zs[j]! := by
  intro i j hi hj sG;rw[List.getElem!_eq_getElem?_getD,List.getElem!_eq_getElem?_getD,List.getElem?_eq_getElem hi,List.getElem?_eq_getElem hj]
  by_cases e:i=j
  ·subst e;exact List.le_refl _
  ·exact List.pairwise_iff_getElem.1 hp i j hi hj (by omega)
 have C1:zs.toArray[b]!≠zs.toArray[b - 1]! := by
  intro he;rw[Lib.keeps_neg (by omega) he]at B9;cases B9
 rw[ge b lb,ge (b - 1) (by omega)]at C1;rw[ge a la,ge b lb];exact le_lt (N8 a (b - 1) la (by omega) (by omega)) (va0 (N8 (b - 1) b (by omega) lb (by omega)) (λe=>C1 e.symm))
end
end Go.Proofs.YtfkcaldjphakpaaGreatDoor
