/- sign, signed, denied. signed. denied. isNull. -/
import Derived.Test.YtfkcaldjphakpaaGreatDoorM04
set_option maxHeartbeats 8000000
set_option maxRecDepth 100000
namespace Go.Proofs.YtfkcaldjphakpaaGreatDoor
open Go.RowKit Go.Proofs.Tryz
def qd9(s:ByteArray)(f:St->Res)(o:Int)(st:St):Res:=if st.op=12 then .err 3 st.place else match f (qk2 s st) with
 | .ok x st'=>.ok (.un ⟨o,st.place,0,[],[],[]⟩ x) { st' with op:=st.op }
 | .err en pl=>.err en pl
theorem vt1(rb:Nat)(s:ByteArray)(op:Nat)(H6:op<=12)(f:St->Res)(hf:op<12->qm4 301 rb s (op+1) f)(o:Int)(w:World)(st:St)(h:Ready rb s w st)(ho:st.op=op)(R0:st.tk.kind≠0):
  Calls prog 330 #[.pointer (some ⟨rb,0,none⟩),.int .i64 o] w (Gives rb s w op st.place (qd9 s f o st)):=by
 have H:=j3 h;have A1:=h.lt
 by_cases F9:st.op=12
 ·rw[qd9,if_pos F9]
  have jN:=j3 F9;clear h hf F9;go_enter func330,ntmps330
  go_wp2_with(go_at_call 199;refine(vu7 rb s st _ (q9 H).at' A1 (q9 jN)).mono ?_;rintro e w1⟨rfl,A0⟩;simp only[qd2])
  exact⟨rfl,A0,rfl⟩
 ·have J0:op<12:=by omega
  have HF:=j3 (hf J0);have N8:=h.fine.le R0;rw[qd9,if_neg F9];have HS:Hid (st.op<12):=j3 (by omega);have READY:∀w1,Kept rb w w1->RdAt w1 rb s (qk2 s st)->Ready rb s w1 (qk2 s st):=λw1 hk hr=>h.kept hk hr (h.fine.next.op _)
  have N9:=j3 READY;have dH:(qk2 s st).op=op+1:=by show st.op+1=op+1;omega
  have lC:=j3 dH;clear h hf F9 READY dH
  cases A8:f (qk2 s st) with
  | err en pl=>
   have D4:=j3 A8;clear A8;go_enter func330,ntmps330
   go_wp2_with(first|(go_at_call 199;refine(qt8 rb s st _ (q9 H).size (q9 H).fine.after (q9 H).at' A1 (q9 H).err (q9 H).glob (q9 HS)).mono ?_;rintro e w1⟨rfl,A4,A0⟩;have A4:=j3 A4;have A0:=j3 A0;simp only[tkV])|(go_at_call 301;refine(q9 HF _ (qk2 s st) ((q9 N9 _ (q9 A0) (q9 A4)).allocd _) (q9 lC)).mono ?_;rintro e w2⟨A3,h2⟩;rw[q9 D4]at h2;subst h2;simp only[qd2]))
   exact⟨rfl,((q9 A0).alloc _).trans A3,rfl⟩
  | ok x G4=>
   have D4:=j3 A8;clear A8;go_enter func330,ntmps330
   go_wp2_with(first|(go_at_call 199;refine(qt8 rb s st _ (q9 H).size (q9 H).fine.after (q9 H).at' A1 (q9 H).err (q9 H).glob (q9 HS)).mono ?_;rintro e w1⟨rfl,A4,A0⟩;have C8:=A0.size;have A4:=j3 A4;have A0:=j3 A0;have n1:¬w1.heap.size=rb:=(by omega);have n2:¬rb=w1.heap.size:=(by omega);simp only[tkV])|(go_at_call 301;refine(q9 HF _ (qk2 s st) ((q9 N9 _ (q9 A0) (q9 A4)).allocd _) (q9 lC)).mono ?_;rintro e w2⟨A3,h2⟩;rw[q9 D4]at h2;obtain⟨v2,rfl,G8,A5,H8,I2,S8⟩:=h2;obtain⟨vb,rfl⟩:=G8.ptr;have F8:w1.heap.size<w2.heap.size:=(by have:=A3.size;simp at this;omega);have q1:w2.cell? ⟨w1.heap.size,1,none⟩=some (.int .i64 st.place):=((qe1 A3).1 _ 1 (by simp) n1).trans (by simp);have d6:w2.cell? ⟨rb,6,none⟩=some (.int .i64 ((op:Int)+1)):=(by rw[A5.c6,I2];simp);have dz:=A5.fz;have A5:=j3 A5;have G8:=j3 G8;have A3:=j3 A3;have H8:=j3 H8;have I2:=j3 I2))
   go_ret;have L4:rb<w2.heap.size:=by omega
   refine⟨((((((q9 A0).alloc _).trans (q9 A3)).setCell 6 _).alloc _).alloc _),_,rfl, ?_, ?_,(q9 H8).op _,ho, ?_⟩
   ·have:=IsNode.one ((q9 G8).kept ((Kept.refl rb w2).setCell 6 (.int .i64 (op:Int)))) (by rw[size_setCell];exact L4) o st.place
    simpa using this
   ·exact(((q9 A5).setOp st.op _ (by omega)).allocd _ (by simpa using L4)).allocd _ (by simp;omega)
   ·have h2:(qk2 s st).place=(j4 s st).place:=rfl
    show st.place<=G4.place;omega
def qz4(o:Int)(st:St)(num:Int)(str:List UInt8):Ast:=.leaf ⟨o,st.place,num,str,[],[]⟩
def qc5(s:ByteArray)(fS fE:St->Res)(st:St):Res:=
 if st.tk.kind=22 then qd9 s fS 14 st else if st.tk.kind=23 then qd9 s fS 15 st else if st.tk.kind=26 then qd3 s fE st
 else if st.tk.kind=2 then .ok (qz4 0 st 0 st.tk.str) (j4 s st)
 else if st.tk.kind=3 then .ok (qz4 1 st st.tk.num []) (j4 s st)
 else if st.tk.kind=4 then .ok (qz4 2 st 0 st.tk.str) (j4 s st)
 else if st.tk.kind=8 then .ok (qz4 3 st 0 []) (j4 s st)
 else if st.tk.kind=9 then .ok (qz4 4 st 0 []) (j4 s st) else .err 2 st.place
theorem IsNode.leafed{rb:Nat}{w:World}(A1:rb<w.heap.size)(op place num:Int)(str:List UInt8):
  IsNode rb (w.alloc (.cells #[.int .i64 op,.int .i64 place,.slice none 0 0,.int .i64 num,.string (BS str),.string ⟨#[]⟩,.slice none 0 0] 102))
   (.pointer (some ⟨w.heap.size,0,none⟩)) (.leaf ⟨op,place,num,str,[],[]⟩):=
 ⟨w.heap.size,rfl,⟨A1,by simp,by simp,by simp,by simp,by simp,by simp,by simp[BS],.slice none 0 0,by simp,.inl ⟨rfl,rfl⟩⟩⟩
theorem jk3(k p n:Int)(b:ByteArray)(w:World):(Instr.field 91 (.agg #[.int .i64 k,.int .i64 p,.int .i64 n,.string b]) 1).run prog w=.ok (.int .i64 p) w:=by kernel_rfl
theorem jf5(rb:Nat)(s:ByteArray)(op:Nat)(H6:op<=12)(fS fE:St->Res)(hS:op<12->qm4 301 rb s (op+1) fS)(hE:op<12->qm4 55 rb s (op+1) fE):qm4 301 rb s op (qc5 s fS fE):=by
 intro w st h ho;have H:=j3 h;have HS:=j3 hS;have HE:=j3 hE;have A1:=h.lt;have n0:¬w.heap.size=rb:=by omega
 have N8:st.tk.kind≠0->st.place<=(j4 s st).place:=h.fine.le;have jL:=j3 h.fine.next;obtain⟨c0,c1,c2,c3,c4,c5,c6,fz⟩:=h.at';clear h hS hE
 by_cases hk:st.tk.kind=22
 ·have C1:st.tk.kind≠0:=by rw[hk];decide
  have iG:(st.tk.kind==22)=true:=by rw[hk];rfl
  rw[qc5,if_pos hk];have bX:=N8 C1;have iP:=j3 C1;clear hk N8 C1;go_enter func301,ntmps301
  go_wp2_with fail
  refine(vt1 rb s op H6 fS (q9 HS) 14 _ st ((q9 H).allocd _) ho (q9 iP)).mono ?_;rintro e w' hg;rcases hg.cases with⟨v,rfl,hg⟩|⟨en,pl,rfl,hg⟩
  ·have HG:=j3 (hg.from ((Kept.refl rb w).alloc _))
   clear hg
   go_wp2_with fail
   go_ret;exact q9 HG
  ·exact⟨rfl,hg.from ((Kept.refl rb w).alloc _)⟩
 have f9:=hk;clear hk
 by_cases hk:st.tk.kind=23
 ·have C1:st.tk.kind≠0:=by rw[hk];decide
  have iG:(st.tk.kind==22)=false:=by rw[hk];rfl
  have fV:(st.tk.kind==23)=true:=by rw[hk];rfl
  rw[qc5,if_neg (show ¬st.tk.kind=22 by rw[hk];decide),if_pos hk];have bX:=N8 C1;have iP:=j3 C1;clear hk N8 C1;go_enter func301,ntmps301
  go_wp2_with fail
  refine(vt1 rb s op H6 fS (q9 HS) 15 _ st ((q9 H).allocd _) ho (q9 iP)).mono ?_;rintro e w' hg;rcases hg.cases with⟨v,rfl,hg⟩|⟨en,pl,rfl,hg⟩
  ·have HG:=j3 (hg.from ((Kept.refl rb w).alloc _))
   clear hg
   go_wp2_with fail
   go_ret;exact q9 HG
  ·exact⟨rfl,hg.from ((Kept.refl rb w).alloc _)⟩
 have L9:=hk;clear hk
 by_cases hk:st.tk.kind=26
 ·have C1:st.tk.kind≠0:=by rw[hk];decide
  have iG:(st.tk.kind==22)=false:=by rw[hk];rfl
  have fV:(st.tk.kind==23)=false:=by rw[hk];rfl
  have tR:(st.tk.kind==26)=true:=by rw[hk];rfl
  rw[qc5,if_neg (show ¬st.tk.kind=22 by rw[hk];decide),if_neg (show ¬st.tk.kind=23 by rw[hk];decide),if_pos hk];have bX:=N8 C1;have iP:=j3 C1;clear hk N8 C1;go_enter func301,ntmps301
  go_wp2_with fail
  refine(jm2 rb s op H6 fE (q9 HE) _ st ((q9 H).allocd _) ho (q9 iP)).mono ?_;rintro e w' hg;rcases hg.cases with⟨v,rfl,hg⟩|⟨en,pl,rfl,hg⟩
  ·have HG:=j3 (hg.from ((Kept.refl rb w).alloc _))
   clear hg
   go_wp2_with fail
   go_ret;exact q9 HG
  ·exact⟨rfl,hg.from ((Kept.refl rb w).alloc _)⟩
 have S9:=hk;clear hk
 by_cases hk:st.tk.kind=2
 ·have C1:st.tk.kind≠0:=by rw[hk];decide
  have iG:(st.tk.kind==22)=false:=by rw[hk];rfl
  have fV:(st.tk.kind==23)=false:=by rw[hk];rfl
  have tR:(st.tk.kind==26)=false:=by rw[hk];rfl
  have e2:(st.tk.kind==2)=true:=by rw[hk];rfl
  rw[qc5,if_neg (show ¬st.tk.kind=22 by rw[hk];decide),if_neg (show ¬st.tk.kind=23 by rw[hk];decide),if_neg (show ¬st.tk.kind=26 by rw[hk];decide),if_pos hk];have bX:=N8 C1;have iP:=j3 C1;clear hk N8 C1;go_enter func301,ntmps301
  go_wp2_with(go_at_call 54;refine(qm3 rb s st _ (q9 H).size (q9 H).fine.after ((q9 H).at'.allocd _ A1) (by simp;omega) ((q9 H).err.alloc _)).mono ?_;rintro e w1⟨rfl,A4,A0⟩;have C8:w.heap.size<w1.heap.size:=(by have:=A0.size;simp at this;omega);have q1:w1.cell? ⟨w.heap.size,1,none⟩=some (.int .i64 st.place):=((qe1 A0).1 _ 1 (by simp) n0).trans (by simp);have q2:w1.cell? ⟨w.heap.size,2,none⟩=some (.int .i64 st.tk.num):=((qe1 A0).1 _ 2 (by simp) n0).trans (by simp);have q3:w1.cell? ⟨w.heap.size,3,none⟩=some (.string (BS st.tk.str)):=((qe1 A0).1 _ 3 (by simp) n0).trans (by simp);have A4:=j3 A4;have F3:=j3 (((Kept.refl rb w).alloc _).trans A0);clear A0)
  go_ret;refine⟨(q9 F3).alloc _,_,rfl, ?_,(q9 A4).allocd _ (by omega),q9 jL,ho,bX⟩;exact IsNode.leafed (by omega) 0 st.place (0) (st.tk.str)
 have h2:=hk;clear hk
 by_cases hk:st.tk.kind=3
 ·have C1:st.tk.kind≠0:=by rw[hk];decide
  have iG:(st.tk.kind==22)=false:=by rw[hk];rfl
  have fV:(st.tk.kind==23)=false:=by rw[hk];rfl
  have tR:(st.tk.kind==26)=false:=by rw[hk];rfl
  have e2:(st.tk.kind==2)=false:=by rw[hk];rfl
  have e3:(st.tk.kind==3)=true:=by rw[hk];rfl
  rw[qc5,if_neg (show ¬st.tk.kind=22 by rw[hk];decide),if_neg (show ¬st.tk.kind=23 by rw[hk];decide),if_neg (show ¬st.tk.kind=26 by rw[hk];decide),if_neg (show ¬st.tk.kind=2 by rw[hk];decide),if_pos hk];have bX:=N8 C1;have iP:=j3 C1;clear hk N8 C1;go_enter func301,ntmps301
  go_wp2_with(go_at_call 54;refine(qm3 rb s st _ (q9 H).size (q9 H).fine.after ((q9 H).at'.allocd _ A1) (by simp;omega) ((q9 H).err.alloc _)).mono ?_;rintro e w1⟨rfl,A4,A0⟩;have C8:w.heap.size<w1.heap.size:=(by have:=A0.size;simp at this;omega);have q1:w1.cell? ⟨w.heap.size,1,none⟩=some (.int .i64 st.place):=((qe1 A0).1 _ 1 (by simp) n0).trans (by simp);have q2:w1.cell? ⟨w.heap.size,2,none⟩=some (.int .i64 st.tk.num):=((qe1 A0).1 _ 2 (by simp) n0).trans (by simp);have q3:w1.cell? ⟨w.heap.size,3,none⟩=some (.string (BS st.tk.str)):=((qe1 A0).1 _ 3 (by simp) n0).trans (by simp);have A4:=j3 A4;have F3:=j3 (((Kept.refl rb w).alloc _).trans A0);clear A0)
  go_ret;refine⟨(q9 F3).alloc _,_,rfl, ?_,(q9 A4).allocd _ (by omega),q9 jL,ho,bX⟩;exact IsNode.leafed (by omega) 1 st.place (st.tk.num) ([])
 have h3:=hk;clear hk
 by_cases hk:st.tk.kind=4
 ·have C1:st.tk.kind≠0:=by rw[hk];decide
  have iG:(st.tk.kind==22)=false:=by rw[hk];rfl
  have fV:(st.tk.kind==23)=false:=by rw[hk];rfl
  have tR:(st.tk.kind==26)=false:=by rw[hk];rfl
  have e2:(st.tk.kind==2)=false:=by rw[hk];rfl
  have e3:(st.tk.kind==3)=false:=by rw[hk];rfl
  have e4:(st.tk.kind==4)=true:=by rw[hk];rfl
  rw[qc5,if_neg (show ¬st.tk.kind=22 by rw[hk];decide),if_neg (show ¬st.tk.kind=23 by rw[hk];decide),if_neg (show ¬st.tk.kind=26 by rw[hk];decide),if_neg (show ¬st.tk.kind=2 by rw[hk];decide),if_neg (show ¬st.tk.kind=3 by rw[hk];decide),if_pos hk];have bX:=N8 C1;have iP:=j3 C1;clear hk N8 C1;go_enter func301,ntmps301
  go_wp2_with(go_at_call 54;refine(qm3 rb s st _ (q9 H).size (q9 H).fine.after ((q9 H).at'.allocd _ A1) (by simp;omega) ((q9 H).err.alloc _)).mono ?_;rintro e w1⟨rfl,A4,A0⟩;have C8:w.heap.size<w1.heap.size:=(by have:=A0.size;simp at this;omega);have q1:w1.cell? ⟨w.heap.size,1,none⟩=some (.int .i64 st.place):=((qe1 A0).1 _ 1 (by simp) n0).trans (by simp);have q2:w1.cell? ⟨w.heap.size,2,none⟩=some (.int .i64 st.tk.num):=((qe1 A0).1 _ 2 (by simp) n0).trans (by simp);have q3:w1.cell? ⟨w.heap.size,3,none⟩=some (.string (BS st.tk.str)):=((qe1 A0).1 _ 3 (by simp) n0).trans (by simp);have A4:=j3 A4;have F3:=j3 (((Kept.refl rb w).alloc _).trans A0);clear A0)
  go_ret;refine⟨(q9 F3).alloc _,_,rfl, ?_,(q9 A4).allocd _ (by omega),q9 jL,ho,bX⟩;exact IsNode.leafed (by omega) 2 st.place (0) (st.tk.str)
 have h4:=hk;clear hk
 by_cases hk:st.tk.kind=8
 ·have C1:st.tk.kind≠0:=by rw[hk];decide
  have iG:(st.tk.kind==22)=false:=by rw[hk];rfl
  have fV:(st.tk.kind==23)=false:=by rw[hk];rfl
  have tR:(st.tk.kind==26)=false:=by rw[hk];rfl
  have e2:(st.tk.kind==2)=false:=by rw[hk];rfl
  have e3:(st.tk.kind==3)=false:=by rw[hk];rfl
  have e4:(st.tk.kind==4)=false:=by rw[hk];rfl
  have e8:(st.tk.kind==8)=true:=by rw[hk];rfl
  rw[qc5,if_neg (show ¬st.tk.kind=22 by rw[hk];decide),if_neg (show ¬st.tk.kind=23 by rw[hk];decide),if_neg (show ¬st.tk.kind=26 by rw[hk];decide),if_neg (show ¬st.tk.kind=2 by rw[hk];decide),if_neg (show ¬st.tk.kind=3 by rw[hk];decide),if_neg (show ¬st.tk.kind=4 by rw[hk];decide),if_pos hk];have bX:=N8 C1;have iP:=j3 C1;clear hk N8 C1;go_enter func301,ntmps301
  go_wp2_with(go_at_call 54;refine(qm3 rb s st _ (q9 H).size (q9 H).fine.after ((q9 H).at'.allocd _ A1) (by simp;omega) ((q9 H).err.alloc _)).mono ?_;rintro e w1⟨rfl,A4,A0⟩;have C8:w.heap.size<w1.heap.size:=(by have:=A0.size;simp at this;omega);have q1:w1.cell? ⟨w.heap.size,1,none⟩=some (.int .i64 st.place):=((qe1 A0).1 _ 1 (by simp) n0).trans (by simp);have q2:w1.cell? ⟨w.heap.size,2,none⟩=some (.int .i64 st.tk.num):=((qe1 A0).1 _ 2 (by simp) n0).trans (by simp);have q3:w1.cell? ⟨w.heap.size,3,none⟩=some (.string (BS st.tk.str)):=((qe1 A0).1 _ 3 (by simp) n0).trans (by simp);have A4:=j3 A4;have F3:=j3 (((Kept.refl rb w).alloc _).trans A0);clear A0)
  go_ret;refine⟨(q9 F3).alloc _,_,rfl, ?_,(q9 A4).allocd _ (by omega),q9 jL,ho,bX⟩;exact IsNode.leafed (by omega) 3 st.place (0) ([])
 have h8:=hk;clear hk;have iG:(st.tk.kind==22)=false:=beq_eq_false_iff_ne.2 f9;have fV:(st.tk.kind==23)=false:=beq_eq_false_iff_ne.2 L9;have tR:(st.tk.kind==26)=false:=beq_eq_false_iff_ne.2 S9;have e2:(st.tk.kind==2)=false:=beq_eq_false_iff_ne.2 h2;have e3:(st.tk.kind==3)=false:=beq_eq_false_iff_ne.2 h3;have e4:(st.tk.kind==4)=false:=beq_eq_false_iff_ne.2 h4;have e8:(st.tk.kind==8)=false:=beq_eq_false_iff_ne.2 h8;rw[qc5,if_neg f9,if_neg L9,if_neg S9,if_neg h2,if_neg h3,if_neg h4,if_neg h8];clear f9 L9 S9 h2 h3 h4 h8
 by_cases h9:st.tk.kind=9
 ·rw[if_pos h9]
  have bX:=N8 (by rw[h9];decide);have H9:=j3 h9;clear h9 N8;have SW:=jk3;go_enter func301,ntmps301
  go_wp2_with(go_at_call 56;refine(qd1 rb s st 9 _ (q9 H).size (q9 H).fine.after ((q9 H).at'.allocd _ A1) (by simp;omega) ((q9 H).err.alloc _) (q9 H9)).mono ?_;rintro e w1⟨rfl,A4,A0⟩;have C8:w.heap.size<w1.heap.size:=(by have:=A0.size;simp at this;omega);have A4:=j3 A4;have F3:=j3 (((Kept.refl rb w).alloc _).trans A0);clear A0;simp only[tkV])
  go_ret;refine⟨(q9 F3).alloc _,_,rfl, ?_,(q9 A4).allocd _ (by omega),q9 jL,ho,bX⟩;exact IsNode.leafed (by omega) 4 st.place 0 []
 ·rw[if_neg h9]
  have H9:=j3 h9;clear h9 N8;go_enter func301,ntmps301
  go_wp2_with(go_at_call 56;refine(qn0 rb s st 9 _ ((q9 H).at'.allocd _ A1) (by simp;omega) (q9 H9)).mono ?_;rintro e w1⟨rfl,A0⟩;simp only[qd2])
  exact⟨rfl,((Kept.refl rb w).alloc _).trans A0,rfl⟩
def qe0(s:ByteArray)(fD fT:St->Res)(st:St):Res:=if st.tk.kind=7 then qd9 s fD 5 st else fT st
theorem jv2(rb:Nat)(s:ByteArray)(op:Nat)(H6:op<=12)(f:St->Res)(hf:op<12->qm4 147 rb s (op+1) f)(w:World)(st:St)(h:Ready rb s w st)(ho:st.op=op)(V3:st.tk.kind=7):
  Calls prog 147 #[.pointer (some ⟨rb,0,none⟩)] w (Gives rb s w op st.place (qd9 s f 5 st)):=by
 have H:=j3 h;have A1:=h.lt;have R0:st.tk.kind≠0:=by rw[V3];decide
 have e7:(st.tk.kind != 7)=false:=by rw[V3];rfl
 obtain⟨c0,c1,c2,c3,c4,c5,c6,fz⟩:=h.at';clear V3
 by_cases F9:st.op=12
 ·rw[qd9,if_pos F9]
  have jN:=j3 F9;clear h hf F9;go_enter func147,ntmps147
  go_wp2_with(go_at_call 199;refine(vu7 rb s st _ (q9 H).at' A1 (q9 jN)).mono ?_;rintro e w1⟨rfl,A0⟩;simp only[qd2])
  exact⟨rfl,A0,rfl⟩
 ·have J0:op<12:=by omega
  have HF:=j3 (hf J0);have N8:=h.fine.le R0;rw[qd9,if_neg F9];have HS:Hid (st.op<12):=j3 (by omega);have READY:∀w1,Kept rb w w1->RdAt w1 rb s (qk2 s st)->Ready rb s w1 (qk2 s st):=λw1 hk hr=>h.kept hk hr (h.fine.next.op _)
  have N9:=j3 READY;have dH:(qk2 s st).op=op+1:=by show st.op+1=op+1;omega
  have lC:=j3 dH;clear h hf F9 READY dH
  cases A8:f (qk2 s st) with
  | err en pl=>
   have D4:=j3 A8;clear A8;go_enter func147,ntmps147
   go_wp2_with(first|(go_at_call 199;refine(qt8 rb s st _ (q9 H).size (q9 H).fine.after (q9 H).at' A1 (q9 H).err (q9 H).glob (q9 HS)).mono ?_;rintro e w1⟨rfl,A4,A0⟩;have A4:=j3 A4;have A0:=j3 A0;simp only[tkV])|(go_at_call 147;refine(q9 HF _ (qk2 s st) ((q9 N9 _ (q9 A0) (q9 A4)).allocd _) (q9 lC)).mono ?_;rintro e w2⟨A3,h2⟩;rw[q9 D4]at h2;subst h2;simp only[qd2]))
   exact⟨rfl,((q9 A0).alloc _).trans A3,rfl⟩
  | ok x G4=>
   have D4:=j3 A8;clear A8;go_enter func147,ntmps147
   go_wp2_with(first|(go_at_call 199;refine(qt8 rb s st _ (q9 H).size (q9 H).fine.after (q9 H).at' A1 (q9 H).err (q9 H).glob (q9 HS)).mono ?_;rintro e w1⟨rfl,A4,A0⟩;have C8:=A0.size;have A4:=j3 A4;have A0:=j3 A0;have n1:¬w1.heap.size=rb:=(by omega);have n2:¬rb=w1.heap.size:=(by omega);simp only[tkV])|(go_at_call 147;refine(q9 HF _ (qk2 s st) ((q9 N9 _ (q9 A0) (q9 A4)).allocd _) (q9 lC)).mono ?_;rintro e w2⟨A3,h2⟩;rw[q9 D4]at h2;obtain⟨v2,rfl,G8,A5,H8,I2,S8⟩:=h2;obtain⟨vb,rfl⟩:=G8.ptr;have F8:w1.heap.size<w2.heap.size:=(by have:=A3.size;simp at this;omega);have q1:w2.cell? ⟨w1.heap.size,1,none⟩=some (.int .i64 st.place):=((qe1 A3).1 _ 1 (by simp) n1).trans (by simp);have d6:w2.cell? ⟨rb,6,none⟩=some (.int .i64 ((op:Int)+1)):=(by rw[A5.c6,I2];simp);have dz:=A5.fz;have L4:rb<w2.heap.size:=(by omega);have A5:=j3 A5;have G8:=j3 G8;have A3:=j3 A3;have H8:=j3 H8;have I2:=j3 I2)|(go_at_call 200;refine(ve8 rb x _ _ _ ((q9 G8).kept ((Kept.refl rb w2).setCell 6 _)) (by rw[size_setCell];exact L4)).mono ?_;rintro e w3⟨⟨v3,rfl,bW⟩,E8⟩;have bW:=j3 bW;have E8:=j3 E8))
   go_ret;refine⟨((((q9 A0).alloc _).trans (q9 A3)).setCell 6 _).trans (Kept.of_below (q9 E8)),_,rfl,q9 bW, ?_,(q9 H8).op _,ho, ?_⟩
   ·exact((q9 A5).setOp st.op _ (by omega)).below (q9 E8) (by simpa using L4)
   ·have h2:(qk2 s st).place=(j4 s st).place:=rfl
    show st.place<=G4.place;omega
theorem jb3(rb:Nat)(s:ByteArray)(op:Nat)(H6:op<=12)(fD fT:St->Res)(hD:op<12->qm4 147 rb s (op+1) fD)(hT:qm4 198 rb s op fT):qm4 147 rb s op (qe0 s fD fT):=by
 intro w st h ho
 by_cases h7:st.tk.kind=7
 ·rw[qe0,if_pos h7]
  exact jv2 rb s op H6 fD hD w st h ho h7
 ·rw[qe0,if_neg h7]
  have e7:(st.tk.kind != 7)=true:=by simpa using h7
  obtain⟨c0,c1,c2,c3,c4,c5,c6,fz⟩:=h.at';have H:=j3 h;have HT:=j3 hT;clear h hT h7;go_enter func147,ntmps147
  go_wp2_with fail
  refine(q9 HT _ st (q9 H) ho).mono ?_;rintro e w' hg;rcases hg.cases with⟨v,rfl,hg⟩|⟨en,pl,rfl,hg⟩
  ·have HG:=j3 hg
   clear hg
   go_wp2_with fail
   go_ret;exact q9 HG
  ·exact⟨rfl,hg⟩
def nullOf(st:St)(l:Ast):Ast:=.un ⟨23,st.place,0,[],[],[]⟩ l
def qd0(s:ByteArray)(l:Ast)(st:St):Res:=
 if(j4 s st).tk.kind=7 then(if(j4 s (j4 s st)).tk.kind=15 then .ok (.un ⟨5,st.place,0,[],[],[]⟩ (nullOf st l)) (j4 s (j4 s (j4 s st))) else .err 2 (j4 s (j4 s st)).place)
 else if(j4 s st).tk.kind=15 then .ok (nullOf st l) (j4 s (j4 s st)) else .err 2 (j4 s st).place
theorem jw1(rb:Nat)(s:ByteArray)(op:Nat)(l:Ast)(lv:Value)(w:World)(st:St)(h:Ready rb s w st)(ho:st.op=op)(hl:IsNode rb w lv l)(h14:st.tk.kind=14):
  Calls prog 242 #[.pointer (some ⟨rb,0,none⟩),lv] w (Gives rb s w op st.place (qd0 s l st)):=by
 have H:=j3 h;have A1:=h.lt;have sA:=h.fine.le (by rw[h14];decide);have F7:=h.fine.next;have wY:=j3 h14;obtain⟨lb,rfl⟩:=hl.ptr;have HL:=j3 hl;have R1:Hid (∀w1,Kept rb w w1->RdAt w1 rb s (j4 s st)->Ready rb s w1 (j4 s st)):=j3 λw1 hk hr=>h.kept hk hr F7
 have R2:Hid (∀w1,Kept rb w w1->RdAt w1 rb s (j4 s (j4 s st))->Ready rb s w1 (j4 s (j4 s st))):=j3 λw1 hk hr=>h.kept hk hr F7.next
 clear h hl h14
 by_cases h7:(j4 s st).tk.kind=7
 ·have yK:=F7.le (by rw[h7];decide)
  by_cases h15:(j4 s (j4 s st)).tk.kind=15
  ·have rZ:=F7.next.le (by rw[h15];decide)
   rw[qd0,if_pos h7,if_pos h15];have H7:=j3 h7;have pL:=j3 h15;have jL:=j3 F7.next.next;clear h7 h15 F7;go_enter func242,ntmps242
   go_wp2_with(first|(go_at_call_of 56 (Value.int IntKind.i64 14);refine(qd1 rb s st 14 _ (q9 H).size (q9 H).fine.after (q9 H).at' A1 (q9 H).err (q9 wY)).mono ?_;rintro e w1⟨rfl,A4,A0⟩;have C8:=A0.size;have n1:¬w1.heap.size=rb:=(by omega);have G0:=j3 ((q9 R1 _ A0 A4).allocd (.cells #[.int .i64 st.tk.kind,.int .i64 st.place,.int .i64 st.tk.num,.string (BS st.tk.str)] 91));have F3:=j3 A0;clear A4 A0;simp only[tkV])|(go_at_call 267;refine(qy8 rb s (j4 s st) 7 _ (q9 G0).size (q9 G0).fine.after (q9 G0).at' (q9 G0).lt (q9 G0).err (q9 H7)).mono ?_;rintro e w2⟨rfl,A5,A3⟩;have F8:w1.heap.size<w2.heap.size:=(by have:=A3.size;simp at this;omega);have q1:w2.cell? ⟨w1.heap.size,1,none⟩=some (.int .i64 st.place):=((qe1 A3).1 _ 1 (by simp) n1).trans (by simp);have P5:=j3 (((q9 F3).alloc _).trans A3);have I1:=j3 (q9 R2 _ (((q9 F3).alloc _).trans A3) A5);clear A5 A3)|(go_at_call_of 56 (Value.int IntKind.i64 15);refine(qd1 rb s (j4 s (j4 s st)) 15 _ (q9 I1).size (q9 I1).fine.after (q9 I1).at' (q9 I1).lt (q9 I1).err (q9 pL)).mono ?_;rintro e w3⟨rfl,B8,A9⟩;have Q9:w1.heap.size<w3.heap.size:=(by have:=A9.size;omega);have q3:w3.cell? ⟨w1.heap.size,1,none⟩=some (.int .i64 st.place):=((qe1 A9).1 _ 1 F8 n1).trans q1;have B8:=j3 B8;have R9:=j3 ((q9 P5).trans A9);clear A9;simp only[tkV])|(go_at_call 200;refine(ve8 rb (nullOf st l) _ _ _ (IsNode.one ((q9 HL).kept (q9 R9)) (by omega) 23 st.place) (by simp;omega)).mono ?_;rintro e w4⟨⟨v4,rfl,fO⟩,L7⟩;have fO:=j3 fO;have L7:=j3 L7))
   go_ret;refine⟨(((q9 R9).alloc _).alloc _).trans (Kept.of_below (q9 L7)),_,rfl,q9 fO, ?_,q9 jL,ho,by omega⟩;exact(((q9 B8).allocd _ (by omega)).allocd _ (by simp;omega)).below (q9 L7) (by simp;omega)
  ·rw[qd0,if_pos h7,if_neg h15]
   have H7:=j3 h7;have pL:=j3 h15;clear h7 h15 F7;go_enter func242,ntmps242
   go_wp2_with(first|(go_at_call_of 56 (Value.int IntKind.i64 14);refine(qd1 rb s st 14 _ (q9 H).size (q9 H).fine.after (q9 H).at' A1 (q9 H).err (q9 wY)).mono ?_;rintro e w1⟨rfl,A4,A0⟩;have C8:=A0.size;have n1:¬w1.heap.size=rb:=(by omega);have G0:=j3 ((q9 R1 _ A0 A4).allocd (.cells #[.int .i64 st.tk.kind,.int .i64 st.place,.int .i64 st.tk.num,.string (BS st.tk.str)] 91));have F3:=j3 A0;clear A4 A0;simp only[tkV])|(go_at_call 267;refine(qy8 rb s (j4 s st) 7 _ (q9 G0).size (q9 G0).fine.after (q9 G0).at' (q9 G0).lt (q9 G0).err (q9 H7)).mono ?_;rintro e w2⟨rfl,A5,A3⟩;have F8:w1.heap.size<w2.heap.size:=(by have:=A3.size;simp at this;omega);have q1:w2.cell? ⟨w1.heap.size,1,none⟩=some (.int .i64 st.place):=((qe1 A3).1 _ 1 (by simp) n1).trans (by simp);have P5:=j3 (((q9 F3).alloc _).trans A3);have I1:=j3 (q9 R2 _ (((q9 F3).alloc _).trans A3) A5);clear A5 A3)|(go_at_call_of 56 (Value.int IntKind.i64 15);refine(qn0 rb s (j4 s (j4 s st)) 15 _ (q9 I1).at' (q9 I1).lt (q9 pL)).mono ?_;rintro e w3⟨rfl,A9⟩;simp only[qd2]))
   exact⟨rfl,(q9 P5).trans A9,rfl⟩
 ·by_cases h15:(j4 s st).tk.kind=15
  ·have rZ:=F7.le (by rw[h15];decide)
   rw[qd0,if_neg h7,if_pos h15];have H7:=j3 h7;have pL:=j3 h15;have jL:=j3 F7.next;clear h7 h15 F7;go_enter func242,ntmps242
   go_wp2_with(first|(go_at_call_of 56 (Value.int IntKind.i64 14);refine(qd1 rb s st 14 _ (q9 H).size (q9 H).fine.after (q9 H).at' A1 (q9 H).err (q9 wY)).mono ?_;rintro e w1⟨rfl,A4,A0⟩;have C8:=A0.size;have n1:¬w1.heap.size=rb:=(by omega);have G0:=j3 ((q9 R1 _ A0 A4).allocd (.cells #[.int .i64 st.tk.kind,.int .i64 st.place,.int .i64 st.tk.num,.string (BS st.tk.str)] 91));have F3:=j3 A0;clear A4 A0;simp only[tkV])|(go_at_call 267;refine(vp5 rb s (j4 s st) 7 _ (q9 G0).at' (q9 H7)).mono ?_;rintro e w2⟨rfl,rfl⟩)|(go_at_call_of 56 (Value.int IntKind.i64 15);refine(qd1 rb s (j4 s st) 15 _ (q9 G0).size (q9 G0).fine.after (q9 G0).at' (q9 G0).lt (q9 G0).err (q9 pL)).mono ?_;rintro e w3⟨rfl,B8,A9⟩;have Q9:w1.heap.size<w3.heap.size:=(by have:=A9.size;simp at this;omega);have q3:w3.cell? ⟨w1.heap.size,1,none⟩=some (.int .i64 st.place):=((qe1 A9).1 _ 1 (by simp) n1).trans (by simp);have B8:=j3 B8;have R9:=j3 (((q9 F3).alloc _).trans A9);clear A9;simp only[tkV]))
   go_ret;refine⟨((q9 R9).alloc _).alloc _,_,rfl,IsNode.one ((q9 HL).kept (q9 R9)) (by omega) 23 st.place,((q9 B8).allocd _ (by omega)).allocd _ (by simp;omega),q9 jL,ho,by omega⟩
  ·rw[qd0,if_neg h7,if_neg h15]
   have H7:=j3 h7;have pL:=j3 h15;clear h7 h15 F7;go_enter func242,ntmps242
   go_wp2_with(first|(go_at_call_of 56 (Value.int IntKind.i64 14);refine(qd1 rb s st 14 _ (q9 H).size (q9 H).fine.after (q9 H).at' A1 (q9 H).err (q9 wY)).mono ?_;rintro e w1⟨rfl,A4,A0⟩;have C8:=A0.size;have n1:¬w1.heap.size=rb:=(by omega);have G0:=j3 ((q9 R1 _ A0 A4).allocd (.cells #[.int .i64 st.tk.kind,.int .i64 st.place,.int .i64 st.tk.num,.string (BS st.tk.str)] 91));have F3:=j3 A0;clear A4 A0;simp only[tkV])|(go_at_call 267;refine(vp5 rb s (j4 s st) 7 _ (q9 G0).at' (q9 H7)).mono ?_;rintro e w2⟨rfl,rfl⟩)|(go_at_call_of 56 (Value.int IntKind.i64 15);refine(qn0 rb s (j4 s st) 15 _ (q9 G0).at' (q9 G0).lt (q9 pL)).mono ?_;rintro e w3⟨rfl,A9⟩;simp only[qd2]))
   exact⟨rfl,((q9 F3).alloc _).trans A9,rfl⟩
end Go.Proofs.YtfkcaldjphakpaaGreatDoor
