/- like. -/
import Derived.Test.YtfkcaldjphakpaaGreatDoorM06
import Derived.Test.YtfkcaldjphakpaaGreatDoorM33
set_option maxHeartbeats 64000000
set_option maxRecDepth 100000
namespace Go.Proofs.YtfkcaldjphakpaaGreatDoor
open Go.RowKit Go.Proofs.Tryz
def qb5(s:ByteArray)(l:Ast)(st:St):Res:=
 if(j4 s st).tk.kind=4 then
  (if(j4 s (j4 s st)).tk.kind=13 then
   (match qq3 s (j4 s st).tk (j4 s st).place (j4 s (j4 s (j4 s st))) with
    | .ok str st'=>.ok (.un ⟨22,st.place,0,(j4 s st).tk.str,str,[]⟩ l) st'
    | .err pl=>.err 2 pl)
  else .ok (.un ⟨22,st.place,0,(j4 s st).tk.str,[],[]⟩ l) (j4 s (j4 s st)))
 else .err 2 (j4 s st).place
theorem qw3{s:ByteArray}{ft:Tk}{fp:Nat}{st:St}{str:List UInt8}{st':St}(h:qq3 s ft fp st=.ok str st'):st.tk.kind=4/\st'=j4 s st:=by
 unfold qq3 at h
 split at h
 ·rename_i h4
  split at h
  ·split at h
   ·injection h with _ h2;exact⟨h4,h2.symm⟩
   ·cases h
  ·cases h
 ·cases h
theorem jw2(rb:Nat)(s:ByteArray)(op:Nat)(hs:s.size<=200):vz8 269 rb s op 12 (qb5 s):=by
 intro w st l lv h ho hl F9;have H:=j3 h;have A1:=h.lt;have F7:=h.fine.next;have U5:=h.fine.le (by rw[F9];decide);have jN:=j3 F9;obtain⟨lb,rfl⟩:=hl.ptr;have HL:=j3 hl;have RK:Hid (∀w1 A6,Fine s A6->Kept rb w w1->RdAt w1 rb s A6->Ready rb s w1 A6):=j3 λw1 A6 hf hk hr=>h.kept hk hr hf
 have bZ:(j4 s st).tk.str.length<=200:=Nat.le_trans (vg1 s st) hs;have K8:(j4 s st).op=op:=ho;unfold qb5;clear h hl F9;obtain⟨A6,h1⟩:∃x,j4 s st=x:=⟨_,rfl⟩;have S1:=j3 h1;rw[h1]at F7 bZ K8 U5 ⊢;clear h1;have cG:=j3 F7
 by_cases h4:A6.tk.kind=4
 ·rw[if_pos h4]
  have H4:=j3 h4;have H8:=F7.next;have S8:=F7.le (by rw[h4];decide);have I2:(j4 s A6).op=op:=K8;obtain⟨G4,h2⟩:∃x,j4 s A6=x:=⟨_,rfl⟩;have S2:=j3 h2;rw[h2]at H8 I2 S8 ⊢;have bR:=j3 H8;clear h4 h2 F7
  by_cases h13:G4.tk.kind=13
  ·rw[if_pos h13]
   have wZ:=j3 h13;have gU:=H8.next;have s9:=H8.le (by rw[h13];decide);have Y8:(j4 s G4).op=op:=I2;obtain⟨qS,h3⟩:∃x,j4 s G4=x:=⟨_,rfl⟩;have S3:=j3 h3;rw[h3]at gU Y8 s9 ⊢;have wU:=j3 gU;clear h13 h3 H8
   cases he:qq3 s A6.tk A6.place qS with
   | ok str st4=>
    obtain⟨D0,GN⟩:=qw3 he;have cA:=gU.next;have fN:=gU.le (by rw[D0];decide);have gK:(j4 s qS).op=op:=Y8;rw[←GN]at cA gK fN;have HE:=j3 he;have PQ:=j3 cA;clear he gU cA D0 GN;go_enter func269,ntmps269
    go_wp2_with(first|(go_at_call_of 56 (Value.int IntKind.i64 12);refine(qd1 rb s st 12 _ (q9 H).size (q9 H).fine.after (q9 H).at' A1 (q9 H).err (q9 jN)).mono ?_;rw[q9 S1];rintro e w1⟨rfl,A4,A0⟩;have C8:=A0.size;have n1:¬w1.heap.size=rb:=(by omega);have G0:=j3 ((q9 RK _ _ (q9 cG) A0 A4).allocd (.cells #[.int .i64 st.tk.kind,.int .i64 st.place,.int .i64 st.tk.num,.string (BS st.tk.str)] 91));have F3:=j3 (A0.alloc (.cells #[.int .i64 st.tk.kind,.int .i64 st.place,.int .i64 st.tk.num,.string (BS st.tk.str)] 91));clear A4 A0;simp only[tkV])|(go_at_call_of 56 (Value.int IntKind.i64 4);refine(qd1 rb s A6 4 _ (q9 G0).size (q9 G0).fine.after (q9 G0).at' (q9 G0).lt (q9 G0).err (q9 H4)).mono ?_;rw[q9 S2];rintro e w2⟨rfl,A5,A3⟩;have F8:w1.heap.size<w2.heap.size:=(by have:=A3.size;simp at this;omega);have n2:¬w2.heap.size=rb:=(by omega);have q2:(w2.alloc (.cells #[.int .i64 A6.tk.kind,.int .i64 A6.place,.int .i64 A6.tk.num,.string (BS A6.tk.str)] 91)).cell? ⟨w1.heap.size,1,none⟩=some (.int .i64 st.place):=(by rw[World.cell?_alloc_past _ _ _ (by first|omega|(simp;omega))];exact((qe1 A3).1 _ 1 (by simp) n1).trans (by simp));have P5:=j3 (((q9 F3).trans A3).alloc (.cells #[.int .i64 A6.tk.kind,.int .i64 A6.place,.int .i64 A6.tk.num,.string (BS A6.tk.str)] 91));have I1:=j3 ((q9 RK _ _ (q9 bR) ((q9 F3).trans A3) A5).allocd (.cells #[.int .i64 A6.tk.kind,.int .i64 A6.place,.int .i64 A6.tk.num,.string (BS A6.tk.str)] 91));clear A5 A3;simp only[tkV])|(go_at_call 267;refine(qy8 rb s G4 13 _ (q9 I1).size (q9 I1).fine.after (q9 I1).at' (q9 I1).lt (q9 I1).err (q9 wZ)).mono ?_;rw[q9 S3];rintro e w3⟨rfl,B8,A9⟩;have Q9:w2.heap.size<w3.heap.size:=(by have:=A9.size;simp at this;omega);obtain⟨kc,kf⟩:=qe1 A9;have r0:w3.cell? ⟨w2.heap.size,0,none⟩=some (.int .i64 A6.tk.kind):=(kc _ 0 (by simp) n2).trans (by simp);have r1:w3.cell? ⟨w2.heap.size,1,none⟩=some (.int .i64 A6.place):=(kc _ 1 (by simp) n2).trans (by simp);have r2:w3.cell? ⟨w2.heap.size,2,none⟩=some (.int .i64 A6.tk.num):=(kc _ 2 (by simp) n2).trans (by simp);have r3:w3.cell? ⟨w2.heap.size,3,none⟩=some (.string (BS A6.tk.str)):=(kc _ 3 (by simp) n2).trans (by simp);have q3:w3.cell? ⟨w1.heap.size,1,none⟩=some (.int .i64 st.place):=(kc _ 1 (by simp;omega) n1).trans q2;have R9:=j3 ((q9 P5).trans A9);have kN:=j3 (q9 RK _ _ (q9 wU) (q9 R9) B8);clear B8 A9 kc kf)|(go_at_call 302;refine(vr6 rb s A6.tk A6.place bZ _ qS (q9 kN)).mono ?_;rintro e w4⟨D0,h4⟩;rw[q9 HE]at h4;obtain⟨rfl,D9⟩:=h4;have ED:w2.heap.size<w4.heap.size:=(by have:=D0.size;omega);obtain⟨kc,kf⟩:=qe1 D0;have u3:w4.cell? ⟨w2.heap.size,3,none⟩=some (.string (BS A6.tk.str)):=(kc _ 3 Q9 n2).trans r3;have u1:w4.cell? ⟨w1.heap.size,1,none⟩=some (.int .i64 st.place):=(kc _ 1 (by omega) n1).trans q3;have oL:=j3 ((q9 R9).trans D0);have D9:=j3 D9;clear D0 kc kf))
    go_ret;have V7:rb<w4.heap.size:=Nat.lt_of_lt_of_le A1 (q9 oL).size;refine⟨((q9 oL).alloc _).alloc _,_,rfl,IsNode.texted ((q9 HL).kept (q9 oL)) V7 (.inl ⟨rfl,rfl⟩) 22 st.place _ _,((q9 D9).allocd _ V7).allocd _ (by simp;omega),q9 PQ,gK,by omega⟩
   | err pl=>
    have HE:=j3 he;clear he gU;go_enter func269,ntmps269
    go_wp2_with(first|(go_at_call_of 56 (Value.int IntKind.i64 12);refine(qd1 rb s st 12 _ (q9 H).size (q9 H).fine.after (q9 H).at' A1 (q9 H).err (q9 jN)).mono ?_;rw[q9 S1];rintro e w1⟨rfl,A4,A0⟩;have C8:=A0.size;have n1:¬w1.heap.size=rb:=(by omega);have G0:=j3 ((q9 RK _ _ (q9 cG) A0 A4).allocd (.cells #[.int .i64 st.tk.kind,.int .i64 st.place,.int .i64 st.tk.num,.string (BS st.tk.str)] 91));have F3:=j3 (A0.alloc (.cells #[.int .i64 st.tk.kind,.int .i64 st.place,.int .i64 st.tk.num,.string (BS st.tk.str)] 91));clear A4 A0;simp only[tkV])|(go_at_call_of 56 (Value.int IntKind.i64 4);refine(qd1 rb s A6 4 _ (q9 G0).size (q9 G0).fine.after (q9 G0).at' (q9 G0).lt (q9 G0).err (q9 H4)).mono ?_;rw[q9 S2];rintro e w2⟨rfl,A5,A3⟩;have F8:w1.heap.size<w2.heap.size:=(by have:=A3.size;simp at this;omega);have n2:¬w2.heap.size=rb:=(by omega);have q2:(w2.alloc (.cells #[.int .i64 A6.tk.kind,.int .i64 A6.place,.int .i64 A6.tk.num,.string (BS A6.tk.str)] 91)).cell? ⟨w1.heap.size,1,none⟩=some (.int .i64 st.place):=(by rw[World.cell?_alloc_past _ _ _ (by first|omega|(simp;omega))];exact((qe1 A3).1 _ 1 (by simp) n1).trans (by simp));have P5:=j3 (((q9 F3).trans A3).alloc (.cells #[.int .i64 A6.tk.kind,.int .i64 A6.place,.int .i64 A6.tk.num,.string (BS A6.tk.str)] 91));have I1:=j3 ((q9 RK _ _ (q9 bR) ((q9 F3).trans A3) A5).allocd (.cells #[.int .i64 A6.tk.kind,.int .i64 A6.place,.int .i64 A6.tk.num,.string (BS A6.tk.str)] 91));clear A5 A3;simp only[tkV])|(go_at_call 267;refine(qy8 rb s G4 13 _ (q9 I1).size (q9 I1).fine.after (q9 I1).at' (q9 I1).lt (q9 I1).err (q9 wZ)).mono ?_;rw[q9 S3];rintro e w3⟨rfl,B8,A9⟩;have Q9:w2.heap.size<w3.heap.size:=(by have:=A9.size;simp at this;omega);obtain⟨kc,kf⟩:=qe1 A9;have r0:w3.cell? ⟨w2.heap.size,0,none⟩=some (.int .i64 A6.tk.kind):=(kc _ 0 (by simp) n2).trans (by simp);have r1:w3.cell? ⟨w2.heap.size,1,none⟩=some (.int .i64 A6.place):=(kc _ 1 (by simp) n2).trans (by simp);have r2:w3.cell? ⟨w2.heap.size,2,none⟩=some (.int .i64 A6.tk.num):=(kc _ 2 (by simp) n2).trans (by simp);have r3:w3.cell? ⟨w2.heap.size,3,none⟩=some (.string (BS A6.tk.str)):=(kc _ 3 (by simp) n2).trans (by simp);have q3:w3.cell? ⟨w1.heap.size,1,none⟩=some (.int .i64 st.place):=(kc _ 1 (by simp;omega) n1).trans q2;have R9:=j3 ((q9 P5).trans A9);have kN:=j3 (q9 RK _ _ (q9 wU) (q9 R9) B8);clear B8 A9 kc kf)|(go_at_call 302;refine(vr6 rb s A6.tk A6.place bZ _ qS (q9 kN)).mono ?_;rintro e w4⟨D0,h4⟩;rw[q9 HE]at h4;subst h4;simp only[qd2]))
    exact⟨rfl,(q9 R9).trans D0,rfl⟩
  ·rw[if_neg h13]
   have wZ:=j3 h13;clear h13 H8;go_enter func269,ntmps269
   go_wp2_with(first|(go_at_call_of 56 (Value.int IntKind.i64 12);refine(qd1 rb s st 12 _ (q9 H).size (q9 H).fine.after (q9 H).at' A1 (q9 H).err (q9 jN)).mono ?_;rw[q9 S1];rintro e w1⟨rfl,A4,A0⟩;have C8:=A0.size;have n1:¬w1.heap.size=rb:=(by omega);have G0:=j3 ((q9 RK _ _ (q9 cG) A0 A4).allocd (.cells #[.int .i64 st.tk.kind,.int .i64 st.place,.int .i64 st.tk.num,.string (BS st.tk.str)] 91));have F3:=j3 (A0.alloc (.cells #[.int .i64 st.tk.kind,.int .i64 st.place,.int .i64 st.tk.num,.string (BS st.tk.str)] 91));clear A4 A0;simp only[tkV])|(go_at_call_of 56 (Value.int IntKind.i64 4);refine(qd1 rb s A6 4 _ (q9 G0).size (q9 G0).fine.after (q9 G0).at' (q9 G0).lt (q9 G0).err (q9 H4)).mono ?_;rw[q9 S2];rintro e w2⟨rfl,A5,A3⟩;have F8:w1.heap.size<w2.heap.size:=(by have:=A3.size;simp at this;omega);have n2:¬w2.heap.size=rb:=(by omega);have q2:(w2.alloc (.cells #[.int .i64 A6.tk.kind,.int .i64 A6.place,.int .i64 A6.tk.num,.string (BS A6.tk.str)] 91)).cell? ⟨w1.heap.size,1,none⟩=some (.int .i64 st.place):=(by rw[World.cell?_alloc_past _ _ _ (by first|omega|(simp;omega))];exact((qe1 A3).1 _ 1 (by simp) n1).trans (by simp));have P5:=j3 (((q9 F3).trans A3).alloc (.cells #[.int .i64 A6.tk.kind,.int .i64 A6.place,.int .i64 A6.tk.num,.string (BS A6.tk.str)] 91));have I1:=j3 ((q9 RK _ _ (q9 bR) ((q9 F3).trans A3) A5).allocd (.cells #[.int .i64 A6.tk.kind,.int .i64 A6.place,.int .i64 A6.tk.num,.string (BS A6.tk.str)] 91));clear A5 A3;simp only[tkV])|(go_at_call 267;refine(vp5 rb s G4 13 _ (q9 I1).at' (q9 wZ)).mono ?_;rintro e w3⟨rfl,rfl⟩))
   go_ret;have hK:=q9 P5;have V7:=(q9 I1).lt;have G6:=IsNode.texted (ts:=[]) ((q9 HL).kept hK) V7 (.inl ⟨rfl,rfl⟩) 22 st.place A6.tk.str [];refine⟨(hK.alloc _).alloc _,_,rfl,by simpa [BS]using G6,((q9 I1).at'.allocd _ V7).allocd _ (by simp;omega),q9 bR,I2,by omega⟩
 ·rw[if_neg h4]
  have H4:=j3 h4;clear h4 F7;go_enter func269,ntmps269
  go_wp2_with(first|(go_at_call_of 56 (Value.int IntKind.i64 12);refine(qd1 rb s st 12 _ (q9 H).size (q9 H).fine.after (q9 H).at' A1 (q9 H).err (q9 jN)).mono ?_;rw[q9 S1];rintro e w1⟨rfl,A4,A0⟩;have C8:=A0.size;have n1:¬w1.heap.size=rb:=(by omega);have G0:=j3 ((q9 RK _ _ (q9 cG) A0 A4).allocd (.cells #[.int .i64 st.tk.kind,.int .i64 st.place,.int .i64 st.tk.num,.string (BS st.tk.str)] 91));have F3:=j3 (A0.alloc (.cells #[.int .i64 st.tk.kind,.int .i64 st.place,.int .i64 st.tk.num,.string (BS st.tk.str)] 91));clear A4 A0;simp only[tkV])|(go_at_call_of 56 (Value.int IntKind.i64 4);refine(qn0 rb s A6 4 _ (q9 G0).at' (q9 G0).lt (q9 H4)).mono ?_;rintro e w2⟨rfl,A3⟩;simp only[qd2]))
  exact⟨rfl,(q9 F3).trans A3,rfl⟩
def opA:Ast->Int
 | .leaf p=>p.op
 | .un p _=>p.op
 | .bin p _ _=>p.op
 | .tri p _ _ _=>p.op
theorem IsNode.opAt{rb:Nat}{w:World}{v:Value}{t:Ast}(h:IsNode rb w v t):∃b,v=.pointer (some ⟨b,0,none⟩)/\w.cell? ⟨b,0,none⟩=some (.int .i64 (opA t)):=by
 cases t with
 | leaf p=>obtain⟨b,hv,h⟩:=h;exact⟨b,hv,h.c0⟩
 | un p x=>obtain⟨b,g,v1,hv,h,_⟩:=h;exact⟨b,hv,h.c0⟩
 | bin p x y=>obtain⟨b,g,v1,v2,hv,h,_⟩:=h;exact⟨b,hv,h.c0⟩
 | tri p x y z=>obtain⟨b,g,v1,v2,v3,hv,h,_⟩:=h;exact⟨b,hv,h.c0⟩
def ve7(st:St)(l:Ast):Bool:=st.tk.kind==2&&opA l==0
def qh8(s:ByteArray)(f:St->Res)(gI gL:Ast->St->Res)(bare:Bool)(l:Ast)(st:St):Res:=
 if st.tk.kind=16\/st.tk.kind=17\/st.tk.kind=18\/st.tk.kind=19\/st.tk.kind=20\/st.tk.kind=21 then qf1 s f st l
 else if st.tk.kind=14 then(if bare=true then qd0 s l st else .ok l st)
 else if st.tk.kind=7 then(match qb6 s f gI gL bare l (j4 s st) with
  | .ok t st'=>.ok (.un ⟨5,st.place,0,[],[],[]⟩ t) st'
  | .err en pl=>.err en pl)
 else if st.tk.kind=10\/st.tk.kind=11\/st.tk.kind=12 then qb6 s f gI gL bare l st
 else .ok l st
def qf6(s:ByteArray)(f:St->Res)(gI gL:Ast->St->Res)(st:St):Res:=match f st with
 | .ok l st'=>qh8 s f gI gL (ve7 st l) l st'
 | .err en pl=>.err en pl
theorem Gives.from'{rb:Nat}{s:ByteArray}{w w1:World}{op lo lo':Nat}{r:Res}{e:Ending}{w':World}(h:Gives rb s w1 op lo r e w')(hk:Kept rb w w1)(hl:lo'<=lo):Gives rb s w op lo' r e w':=by
 refine⟨hk.trans h.1, ?_⟩
 cases r with
 | ok t st=>obtain⟨_,v,h1,h2,h3,h4,h5,h6⟩:=h;exact⟨v,h1,h2,h3,h4,h5,Nat.le_trans hl h6⟩
 | err en pl=>exact h.2
theorem kind_bs{x k:Int}(hk:x=k):(x==16)=(k==16)/\(x==17)=(k==17)/\(x==18)=(k==18)/\(x==19)=(k==19)/\(x==20)=(k==20)/\(x==21)=(k==21)/\(x==14)=(k==14)/\(x==7)=(k==7)/\(x==10)=(k==10)/\(x==11)=(k==11)/\(x==12)=(k==12):=by subst hk;exact⟨rfl,rfl,rfl,rfl,rfl,rfl,rfl,rfl,rfl,rfl,rfl⟩
theorem tail_cs(s:ByteArray)(f:St->Res)(gI gL:Ast->St->Res)(l:Ast)(st:St):
  ((st.tk.kind=16\/st.tk.kind=17\/st.tk.kind=18\/st.tk.kind=19\/st.tk.kind=20\/st.tk.kind=21)/\∀b,qh8 s f gI gL b l st=qf1 s f st l) \/
  (st.tk.kind=14/\∀b,qh8 s f gI gL b l st=if b=true then qd0 s l st else .ok l st) \/
  (st.tk.kind=7/\∀b,qh8 s f gI gL b l st=(match qb6 s f gI gL b l (j4 s st) with|.ok t st'=>.ok (.un ⟨5,st.place,0,[],[],[]⟩ t) st'|.err en pl=>.err en pl)) \/
  ((st.tk.kind=10\/st.tk.kind=11\/st.tk.kind=12)/\∀b,qh8 s f gI gL b l st=qb6 s f gI gL b l st) \/
  (((st.tk.kind==16)=false/\(st.tk.kind==17)=false/\(st.tk.kind==18)=false/\(st.tk.kind==19)=false/\(st.tk.kind==20)=false/\(st.tk.kind==21)=false/\(st.tk.kind==14)=false/\(st.tk.kind==7)=false/\(st.tk.kind==10)=false/\(st.tk.kind==11)=false/\(st.tk.kind==12)=false)/\∀b,qh8 s f gI gL b l st=.ok l st):=by
 unfold qh8
 by_cases h1:st.tk.kind=16\/st.tk.kind=17\/st.tk.kind=18\/st.tk.kind=19\/st.tk.kind=20\/st.tk.kind=21
 ·exact .inl ⟨h1,λb=>if_pos h1⟩
 by_cases h2:st.tk.kind=14
 ·exact .inr (.inl ⟨h2,λb=>by rw[if_neg h1,if_pos h2]⟩)
 by_cases h3:st.tk.kind=7
 ·exact .inr (.inr (.inl ⟨h3,λb=>by rw[if_neg h1,if_neg h2,if_pos h3]⟩))
 by_cases h4:st.tk.kind=10\/st.tk.kind=11\/st.tk.kind=12
 ·exact .inr (.inr (.inr (.inl ⟨h4,λb=>by rw[if_neg h1,if_neg h2,if_neg h3,if_pos h4]⟩)))
 refine .inr (.inr (.inr (.inr ⟨?_,λb=>by rw[if_neg h1,if_neg h2,if_neg h3,if_neg h4]⟩)));simp only[beq_eq_false_iff_ne]
 (repeat' apply And.intro)<;>(intro;omega)
structure TT(rb:Nat)(s:ByteArray)(op:Nat)(f:St->Res)(gI gL:Ast->St->Res)(w:World)(st:St)(l:Ast)(A6:St):Prop where
 af:qm4 241 rb s op f
 ai:vz8 268 rb s op 11 gI
 al:vz8 269 rb s op 12 gL
 ah:Ready rb s w st
 ao:st.op=op
 ar:f st=.ok l A6
theorem test_tail{rb:Nat}{s:ByteArray}{op:Nat}{f:St->Res}{gI gL:Ast->St->Res}{w:World}{st:St}{l:Ast}{A6:St}(T:TT rb s op f gI gL w st l A6):
  Calls prog 198 #[.pointer (some ⟨rb,0,none⟩)] w (Gives rb s w op st.place (qh8 s f gI gL (ve7 st l) l A6)):=by
 obtain⟨hf,hI,hL,h,ho,A8⟩:=T;have H:=j3 h;have HF:=j3 hf;have HI:=j3 hI;have uM:=j3 hL;have D4:=j3 A8;have pT:∀(fn:Fn) (first cap:Array Value) (w:World),(Instr.makeFunc fn first cap).run prog w=.ok (.func fn first cap) w:=λ_ _ _ _=>rfl
 obtain⟨c0,c1,c2,c3,c4,c5,c6,fz⟩:=h.at';have A1:=h.lt;clear h hf hI hL A8;obtain⟨q0,T4⟩:∃q,(st.tk.kind==2)=q:=⟨_,rfl⟩;obtain⟨q1,A7⟩:∃q,(opA l==0)=q:=⟨_,rfl⟩;obtain⟨r,vO⟩:∃r,qb6 s f gI gL (q0&&q1) l (j4 s A6)=r:=⟨_,rfl⟩;rw[show ve7 st l=(q0&&q1) by unfold ve7;rw[T4,A7]];cases q0<;>cases q1<;>simp only[Bool.and_self,Bool.and_true,Bool.and_false]at vO ⊢
 all_goals
  rcases tail_cs s f gI gL l A6 with⟨hk|hk|hk|hk|hk|hk,hT⟩|⟨hk,hT⟩|⟨hk,hT⟩|⟨hk|hk|hk,hT⟩|⟨hk,hT⟩
 all_goals
  rw[hT]
  first|(rw[vO];have PH:=j3 vO;cases r)|(simp only[Bool.false_eq_true,if_true,if_false])|skip
 all_goals
  clear hT vO;have CC:=j3 hk
  first
   | (
    have E:=kind_bs hk;simp only[Int.reduceBEq]at E
    obtain⟨wG,wF,AR,AQ,oR,wE,eW,e7,iK,fW,dM⟩:=E)
   | obtain⟨wG,wF,AR,AQ,oR,wE,eW,e7,iK,fW,dM⟩:=hk
  try clear hk
  go_enter func198,ntmps198
  go_wp2_with(first|(go_at_call 241;refine(q9 HF _ st (q9 H) ho).mono ?_;rintro e w1⟨A0,h1⟩;rw[q9 D4]at h1;obtain⟨v1,rfl,aK,A4,F7,K8,U5⟩:=h1;obtain⟨b,rfl,cb⟩:=aK.opAt;obtain⟨d0,d1,d2,d3,d4,d5,d6,dz⟩:=A4;have G0:=j3 ((q9 H).kept A0 ⟨d0,d1,d2,d3,d4,d5,d6,dz⟩ F7);have aK:=j3 aK;have F3:=j3 A0;clear A0 d0 d3 d4 d5 d6)|(go_at_call 146;refine(vs1 (by decide) rb s op f (q9 HF) A6 l _ _ (q9 G0) K8 (q9 aK)).mono ?_;rintro e w' hg;have hg:=hg.from' (q9 F3) (Nat.le_trans U5 (Nat.le_of_lt (F7.long (by rw[q9 CC];decide))));rcases hg.cases with⟨v,rfl,hg⟩|⟨en,pl,rfl,hg⟩;rotate_left;(exact⟨rfl,hg⟩);have HG:=j3 hg;clear hg)|(go_at_call 242;refine(jw1 rb s op l _ _ A6 (q9 G0) K8 (q9 aK) (q9 CC)).mono ?_;rintro e w' hg;have hg:=hg.from' (q9 F3) U5;rcases hg.cases with⟨v,rfl,hg⟩|⟨en,pl,rfl,hg⟩;rotate_left;(exact⟨rfl,hg⟩);have HG:=j3 hg;clear hg)|(go_at_call 54;refine(qm3 rb s A6 _ (q9 G0).size (q9 G0).fine.after (q9 G0).at' (q9 G0).lt (q9 G0).err).mono ?_;rintro e w2⟨rfl,A5,A3⟩;have G8:=j3 ((q9 aK).kept A3);have P5:=j3 ((q9 F3).trans A3);have I1:=j3 ((q9 G0).kept A3 A5 ((q9 G0).fine.next));clear A5 A3)|(go_at_call 243;refine(vm4 rb s op f gI gL (q9 HF) (q9 HI) (q9 uM) _ _ (j4 s A6) l _ (q9 I1) K8 (q9 G8)).mono ?_;rintro e w3⟨A9,h3⟩;rw[q9 PH]at h3;(first|(subst h3;simp only[qd2])|(obtain⟨v3,rfl,bW,B8,gU,Y8,s9⟩:=h3;have bW:=j3 bW;have B8:=j3 B8;have R9:=j3 ((q9 P5).trans A9);have cO:rb<w3.heap.size:=Nat.lt_of_lt_of_le (q9 I1).lt A9.size;clear A9)))|(go_at_call 243;refine(vm4 rb s op f gI gL (q9 HF) (q9 HI) (q9 uM) _ _ A6 l _ (q9 G0) K8 (q9 aK)).mono ?_;rintro e w' hg;have hg:=hg.from' (q9 F3) U5;rcases hg.cases with⟨v,rfl,hg⟩|⟨en,pl,rfl,hg⟩;rotate_left;(exact⟨rfl,hg⟩);have HG:=j3 hg;clear hg)|(go_at_call 200;refine(ve8 rb _ _ _ _ (q9 bW) cO).mono ?_;rintro e w4⟨⟨v4,rfl,fO⟩,L7⟩;have fO:=j3 fO;have L7:=j3 L7))
  first
   | exact⟨rfl,(q9 P5).trans A9,rfl⟩
   | (
    go_ret
    first
     | exact q9 HG
     | (
      have bZ:=F7.le (by rw[q9 CC];decide)
      exact⟨(q9 R9).trans (Kept.of_below (q9 L7)),_,rfl,q9 fO,(q9 B8).below (q9 L7) cO,gU,Y8,by omega⟩)
     | exact⟨q9 F3,_,rfl,q9 aK,(q9 G0).at',F7,K8,U5⟩)
theorem za4(rb:Nat)(s:ByteArray)(op:Nat)(f:St->Res)(gI gL:Ast->St->Res)(hf:qm4 241 rb s op f)(hI:vz8 268 rb s op 11 gI)(hL:vz8 269 rb s op 12 gL):
  qm4 198 rb s op (qf6 s f gI gL):=by
 intro w st h ho
 cases A8:f st with
 | err en pl=>
  have hT:qf6 s f gI gL st=.err en pl:=by unfold qf6;rw[A8]
  rw[hT];obtain⟨c0,c1,c2,c3,c4,c5,c6,fz⟩:=h.at';have H:=j3 h;have HF:=j3 hf;have D4:=j3 A8;clear h hf hI hL A8 hT;cases T4:(st.tk.kind==2)
  all_goals
   go_enter func198,ntmps198
   go_wp2_with(go_at_call 241;refine(q9 HF _ st (q9 H) ho).mono ?_;rintro e w1⟨A0,h1⟩;rw[q9 D4]at h1;subst h1;simp only[qd2])
   exact⟨rfl,A0,rfl⟩
 | ok l A6=>
  have hT:qf6 s f gI gL st=qh8 s f gI gL (ve7 st l) l A6:=by unfold qf6;rw[A8]
  rw[hT];exact test_tail ⟨hf,hI,hL,h,ho,A8⟩
structure L3 where
 S:St->Res
 D:St->Res
 E:St->Res
def prodOf(s:ByteArray)(S:St->Res):St->Res:=qf0 s S [24,25]
def sumOf(s:ByteArray)(S:St->Res):St->Res:=qf0 s (prodOf s S) [22,23]
def testOf(s:ByteArray)(S:St->Res):St->Res:=qf6 s (sumOf s S) (qg7 s) (qb5 s)
def eitherOf(s:ByteArray)(D:St->Res):St->Res:=qf0 s (qf0 s D [5]) [6]
def up3(s:ByteArray)(L:L3):L3:=⟨qc5 s L.S L.E,qe0 s L.D (testOf s (qc5 s L.S L.E)),eitherOf s (qe0 s L.D (testOf s (qc5 s L.S L.E)))⟩
def lvl(s:ByteArray):Nat->L3
 | 0=>up3 s ⟨λ_=>.err 0 0,λ_=>.err 0 0,λ_=>.err 0 0⟩
 | d+1=>up3 s (lvl s d)
structure Reads3(rb:Nat)(s:ByteArray)(op:Nat)(L:L3):Prop where
 S:qm4 301 rb s op L.S
 D:qm4 147 rb s op L.D
 E:qm4 55 rb s op L.E
theorem jg8(rb:Nat)(s:ByteArray)(hs:s.size<=200)(op:Nat)(H6:op<=12)(L:L3)(h:op<12->Reads3 rb s (op+1) L):Reads3 rb s op (up3 s L):=by
 have hS:qm4 301 rb s op (qc5 s L.S L.E):=jf5 rb s op H6 L.S L.E (λk=>(h k).S) (λk=>(h k).E);have hP:=vx0 rb s op _ hS;have hU:=sum_reads rb s op _ hP;have hT:=za4 rb s op _ _ _ hU (in_reads rb s op hs) (jw2 rb s op hs);have hD:=jb3 rb s op H6 L.D _ (λk=>(h k).D) hT;exact⟨hS,hD,jb4 rb s op _ (ju0 rb s op _ hD)⟩
theorem lvl_reads(rb:Nat)(s:ByteArray)(hs:s.size<=200):∀(d op:Nat),op+d=12->Reads3 rb s op (lvl s d):=by
 intro d
 induction d with
 | zero=>intro op h;exact jg8 rb s hs op (by omega) _ (λk=>by omega)
 | succ d ih=>intro op h;exact jg8 rb s hs op (by omega) _ (λ_=>ih (op+1) (by omega))
def Good(f:St->Res):Prop:=∀st t st',f st=.ok t st'->WfA t
def GoodT(g:Ast->St->Res):Prop:=∀l st t st',WfA l->g l st=.ok t st'->WfA t
theorem Good.join{s:ByteArray}{f:St->Res}(h:Good f):∀st l t st',WfA l->qf1 s f st l=.ok t st'->WfA t:=by
 intro st l t st' hl he;unfold qf1 at he
 split at he
 ·rename_i r G4 hr;injection he with h1 _;subst h1;exact⟨hl,h _ _ _ hr⟩
 ·cases he
theorem Good.loop{s:ByteArray}{f:St->Res}{ks:List Int}(h:Good f):∀n l st t st',WfA l->qc7 s f ks n l st=.ok t st'->WfA t:=by
 intro n
 induction n with
 | zero=>intro l st t st' hl he;rw[qc7]at he;injection he with h1 _;subst h1;exact hl
 | succ n ih=>
  intro l st t st' hl he;rw[qc7]at he
  split at he
  ·split at he
   ·rename_i hj;exact ih _ _ _ _ (h.join _ _ _ _ hl hj) he
   ·cases he
  ·injection he with h1 _;subst h1;exact hl
theorem Good.row{s:ByteArray}{f:St->Res}{ks:List Int}(h:Good f):Good (qf0 s f ks):=by
 intro st t st' he;unfold qf0 at he
 split at he
 ·rename_i hr;exact h.loop _ _ _ _ _ (h _ _ _ hr) he
 ·cases he
theorem Good.sign{s:ByteArray}{f:St->Res}(h:Good f)(o:Int)(ho:¬o=8/\¬o=9):Good (qd9 s f o):=by
 intro st t st' he;unfold qd9 at he
 split at he
 ·cases he
 ·split at he
  ·rename_i hr;injection he with h1 _;subst h1;exact⟨ho,h _ _ _ hr⟩
  ·cases he
theorem Good.group{s:ByteArray}{f:St->Res}(h:Good f):Good (qd3 s f):=by
 intro st t st' he;unfold qd3 at he
 split at he
 ·cases he
 ·split at he
  ·rename_i hr;split at he
   ·injection he with h1 _;subst h1;exact h _ _ _ hr
   ·cases he
  ·cases he
theorem Good.signed{s:ByteArray}{fS fE:St->Res}(hS:Good fS)(hE:Good fE):Good (qc5 s fS fE):=by
 intro st t st' he;unfold qc5 at he
 split at he
 ·exact hS.sign 14 (by decide) _ _ _ he
 split at he
 ·exact hS.sign 15 (by decide) _ _ _ he
 split at he
 ·exact hE.group _ _ _ he
 split at he
 ·injection he with h1 _;subst h1;exact⟨by simp,by simp⟩
 split at he
 ·injection he with h1 _;subst h1;exact⟨by simp,by simp⟩
 split at he
 ·injection he with h1 _;subst h1;exact⟨by simp,by simp⟩
 split at he
 ·injection he with h1 _;subst h1;exact⟨by simp,by simp⟩
 split at he
 ·injection he with h1 _;subst h1;exact⟨by simp,by simp⟩
 ·cases he
theorem jk9{s:ByteArray}:GoodT (qd0 s):=by
 intro l st t st' hl he;unfold qd0 at he
 split at he
 ·split at he
  ·injection he with h1 _;subst h1;exact⟨⟨by simp,by simp⟩,⟨by simp,by simp⟩,hl⟩
  ·cases he
 ·split at he
  ·injection he with h1 _;subst h1;exact⟨⟨by simp,by simp⟩,hl⟩
  ·cases he
theorem jk8{s:ByteArray}{l:Ast}{pl:Nat}(hl:WfA l):∀n ts st t st',qf2 s l pl n ts st=.ok t st'->WfA t:=by
 intro n
 induction n with
 | zero=>intro ts st t st' he;rw[qf2]at he;cases he
 | succ n ih=>
  intro ts st t st' he;rw[qf2]at he
  split at he
  ·split at he
   ·exact ih _ _ _ _ he
   ·cases he
  ·split at he
   ·injection he with h1 _;subst h1;exact⟨⟨by simp,by simp⟩,hl⟩
   ·cases he
theorem good_in{s:ByteArray}:GoodT (qg7 s):=by
 intro l st t st' hl he;unfold qg7 at he
 split at he
 ·split at he
  ·exact jk8 hl _ _ _ _ _ he
  ·cases he
 ·cases he
theorem good_like{s:ByteArray}:GoodT (qb5 s):=by
 intro l st t st' hl he;unfold qb5 at he
 repeat' split at he
 all_goals first|(injection he with h1 _;subst h1;exact⟨⟨by simp,by simp⟩,hl⟩)|cases he
theorem Good.between{s:ByteArray}{f:St->Res}(h:Good f):GoodT (qa9 s f):=by
 intro l st t st' hl he;unfold qa9 at he
 split at he
 ·split at he
  ·rename_i h1;split at he
   ·split at he
    ·rename_i h2;injection he with h3 _;subst h3;exact⟨⟨by simp,by simp⟩,hl,h _ _ _ h1,h _ _ _ h2⟩
    ·cases he
   ·cases he
  ·cases he
 ·cases he
theorem Good.keyword{s:ByteArray}{f:St->Res}(h:Good f)(bare:Bool):GoodT (qb6 s f (qg7 s) (qb5 s) bare):=by
 intro l st t st' hl he;unfold qb6 at he
 split at he
 ·exact good_in _ _ _ _ hl he
 split at he
 ·exact good_like _ _ _ _ hl he
 ·exact h.between _ _ _ _ hl he
theorem Good.test{s:ByteArray}{f:St->Res}(h:Good f):Good (qf6 s f (qg7 s) (qb5 s)):=by
 intro st t st' he;unfold qf6 at he
 split at he
 ·rename_i hr
  have hl:=h _ _ _ hr;unfold qh8 at he
  split at he
  ·exact h.join _ _ _ _ hl he
  split at he
  ·split at he
   ·exact jk9 _ _ _ _ hl he
   ·injection he with h1 _;subst h1;exact hl
  split at he
  ·split at he
   ·rename_i hk;injection he with h1 _;subst h1;exact⟨⟨by simp,by simp⟩,h.keyword _ _ _ _ _ hl hk⟩
   ·cases he
  split at he
  ·exact h.keyword _ _ _ _ _ hl he
  ·injection he with h1 _;subst h1;exact hl
 ·cases he
theorem Good.denied{s:ByteArray}{fD fT:St->Res}(hD:Good fD)(hT:Good fT):Good (qe0 s fD fT):=by
 intro st t st' he;unfold qe0 at he
 split at he
 ·exact hD.sign 5 (by decide) _ _ _ he
 ·exact hT _ _ _ he
structure Good3(L:L3):Prop where
 S:Good L.S
 D:Good L.D
 E:Good L.E
theorem jt4{s:ByteArray}{L:L3}(h:Good3 L):Good3 (up3 s L):=by
 have hS:=Good.signed (s:=s) h.S h.E;have hD:=Good.denied (s:=s) h.D (Good.test (s:=s) ((hS.row (s:=s) (ks:=[24,25])).row (s:=s) (ks:=[22,23])));exact⟨hS,hD,(hD.row (s:=s) (ks:=[5])).row (s:=s) (ks:=[6])⟩
theorem lvl_good(s:ByteArray):∀d,Good3 (lvl s d):=by
 intro d
 induction d with
 | zero=>exact jt4 ⟨(λ_ _ _ h=>by cases h),(λ_ _ _ h=>by cases h),(λ_ _ _ h=>by cases h)⟩
 | succ d ih=>exact jt4 ih
def noPl(p:Pay):Pay:={ p with place:=0 }
def qm5:Ast->Ast
 | .leaf p=>.leaf (noPl p)
 | .un p x=>.un (noPl p) (qm5 x)
 | .bin p x y=>.bin (noPl p) (qm5 x) (qm5 y)
 | .tri p x y z=>.tri (noPl p) (qm5 x) (qm5 y) (qm5 z)
theorem jd4(t:Ast):opA (qm5 t)=opA t:=by cases t<;>rfl
structure TS where
 toks:List Tk
 op:Nat
inductive TRes where
 | ok (t:Ast) (ts:TS)
 | err (en:Int)
def hd(L:List Tk):Tk:=match L with
 | []=>j7 0
 | k::_=>k
def TS.tk(ts:TS):Tk:=hd ts.toks
def TS.next(ts:TS):TS:=⟨ts.toks.tail,ts.op⟩
def vh7(f:TS->TRes)(ts:TS)(l:Ast):TRes:=match f ts.next with
 | .ok r ts'=>.ok (.bin ⟨ve4 ts.tk.kind,0,0,[],[],[]⟩ l r) ts'
 | .err en=>.err en
def vd8(f:TS->TRes)(ks:List Int):Nat->Ast->TS->TRes
 | 0,l,ts=>.ok l ts
 | n+1,l,ts=>if ks.contains ts.tk.kind then(match vh7 f ts l with
   | .ok l' ts'=>vd8 f ks n l' ts'
   | .err en=>.err en) else .ok l ts
def jt0(f:TS->TRes)(ks:List Int)(ts:TS):TRes:=match f ts with
 | .ok l ts'=>vd8 f ks (ts'.toks.length+1) l ts'
 | .err en=>.err en
def tIn(ts:TS):TS:=⟨ts.toks.tail,ts.op+1⟩
def vh8(f:TS->TRes)(o:Int)(ts:TS):TRes:=if ts.op=12 then .err 3 else match f (tIn ts) with
 | .ok x ts'=>.ok (.un ⟨o,0,0,[],[],[]⟩ x) ⟨ts'.toks,ts.op⟩
 | .err en=>.err en
def qz6(f:TS->TRes)(ts:TS):TRes:=if ts.op=12 then .err 3 else match f (tIn ts) with
 | .ok t ts'=>if ts'.tk.kind=27 then .ok t ⟨ts'.toks.tail,ts.op⟩ else .err 2
 | .err en=>.err en
def jp9(o:Int)(num:Int)(str:List UInt8):Ast:=.leaf ⟨o,0,num,str,[],[]⟩
def qr0(fS fE:TS->TRes)(ts:TS):TRes:=
 if ts.tk.kind=22 then vh8 fS 14 ts else if ts.tk.kind=23 then vh8 fS 15 ts else if ts.tk.kind=26 then qz6 fE ts
 else if ts.tk.kind=2 then .ok (jp9 0 0 ts.tk.str) ts.next
 else if ts.tk.kind=3 then .ok (jp9 1 ts.tk.num []) ts.next
 else if ts.tk.kind=4 then .ok (jp9 2 0 ts.tk.str) ts.next
 else if ts.tk.kind=8 then .ok (jp9 3 0 []) ts.next
 else if ts.tk.kind=9 then .ok (jp9 4 0 []) ts.next else .err 2
def tNull(l:Ast):Ast:=.un ⟨23,0,0,[],[],[]⟩ l
def tIsNull(l:Ast)(ts:TS):TRes:=
 if ts.next.tk.kind=7 then(if ts.next.next.tk.kind=15 then .ok (.un ⟨5,0,0,[],[],[]⟩ (tNull l)) ts.next.next.next else .err 2)
 else if ts.next.tk.kind=15 then .ok (tNull l) ts.next.next else .err 2
def qn5(f:TS->TRes)(l:Ast)(ts:TS):TRes:=if ts.tk.kind=10 then(match f ts.next with
  | .ok lo U1=>if U1.tk.kind=5 then(match f U1.next with
    | .ok hi N5=>.ok (.tri ⟨20,0,0,[],[],[]⟩ l lo hi) N5
    | .err en=>.err en) else .err 2
  | .err en=>.err en) else .err 2
def qm9(l:Ast):Nat->List (List UInt8)->TS->TRes
 | 0,_,_=>.err 0
 | n+1,xs,ts=>if ts.tk.kind=28 then(if ts.next.tk.kind=4 then qm9 l n (xs++[ts.next.tk.str]) ts.next.next else .err 2)
   else if ts.tk.kind=27 then .ok (.un ⟨21,0,0,[],[],xs⟩ l) ts.next else .err 2
def tInRes(l:Ast)(ts:TS):TRes:=
 if ts.next.tk.kind=26 then(if ts.next.next.tk.kind=4 then qm9 l (ts.toks.length+1) [ts.next.next.tk.str] ts.next.next.next else .err 2) else .err 2
def tLike(l:Ast)(ts:TS):TRes:=
 if ts.next.tk.kind=4 then
  (if ts.next.next.tk.kind=13 then
   (if ts.next.next.next.tk.kind=4/\ts.next.next.next.tk.str.length=1/\(qs5 ts.next.next.next.tk.str ts.next.tk.str).isSome=true
    then .ok (.un ⟨22,0,0,ts.next.tk.str,ts.next.next.next.tk.str,[]⟩ l) ts.next.next.next.next else .err 2)
  else .ok (.un ⟨22,0,0,ts.next.tk.str,[],[]⟩ l) ts.next.next)
 else .err 2
def qj8(f:TS->TRes)(bare:Bool)(l:Ast)(ts:TS):TRes:=
 if ts.tk.kind=11/\bare=true then tInRes l ts else if ts.tk.kind=12/\bare=true then tLike l ts else qn5 f l ts
def vq7(f:TS->TRes)(bare:Bool)(l:Ast)(ts:TS):TRes:=
 if ts.tk.kind=16\/ts.tk.kind=17\/ts.tk.kind=18\/ts.tk.kind=19\/ts.tk.kind=20\/ts.tk.kind=21 then vh7 f ts l
 else if ts.tk.kind=14 then(if bare=true then tIsNull l ts else .ok l ts)
 else if ts.tk.kind=7 then(match qj8 f bare l ts.next with
  | .ok t ts'=>.ok (.un ⟨5,0,0,[],[],[]⟩ t) ts'
  | .err en=>.err en)
 else if ts.tk.kind=10\/ts.tk.kind=11\/ts.tk.kind=12 then qj8 f bare l ts
 else .ok l ts
def vq8(f:TS->TRes)(ts:TS):TRes:=match f ts with
 | .ok l ts'=>vq7 f (ts.tk.kind==2&&opA l==0) l ts'
 | .err en=>.err en
def qs1(fD fT:TS->TRes)(ts:TS):TRes:=if ts.tk.kind=7 then vh8 fD 5 ts else fT ts
structure T3 where
 S:TS->TRes
 D:TS->TRes
 E:TS->TRes
def tUp(L:T3):T3:=
 ⟨qr0 L.S L.E,qs1 L.D (vq8 (jt0 (jt0 (qr0 L.S L.E) [24,25]) [22,23])),jt0 (jt0 (qs1 L.D (vq8 (jt0 (jt0 (qr0 L.S L.E) [24,25]) [22,23]))) [5]) [6]⟩
def tLvl:Nat->T3
 | 0=>tUp ⟨λ_=>.err 0,λ_=>.err 0,λ_=>.err 0⟩
 | d+1=>tUp (tLvl d)
inductive Str (s:ByteArray):St->List Tk->Prop where
 | nil {st:St} (h:st.tk=j7 0):Str s st []
 | cons {st:St} {L:List Tk} (h:st.tk.kind≠0) (r:Str s (j4 s st) L):Str s st (st.tk::L)
theorem Str.tk{s:ByteArray}{st:St}{L:List Tk}(h:Str s st L):hd L=st.tk:=by
 cases h with
 | nil h=>exact h.symm
 | cons _ _=>rfl
theorem Str.next{s:ByteArray}{st:St}{L:List Tk}(h:Str s st L)(hk:st.tk.kind≠0):Str s (j4 s st) L.tail:=by
 cases h with
 | nil h=>rw[h]at hk;exact absurd rfl hk
 | cons _ r=>exact r
theorem Str.withOp{s:ByteArray}{st:St}{L:List Tk}(h:Str s st L)(n:Nat):Str s { st with op:=n } L:=by
 induction h generalizing n with
 | nil h=>exact .nil h
 | cons h r ih=>
  rename_i st L;exact .cons (st:={ st with op:=n }) h (ih n)
theorem Str.len{s:ByteArray}{st:St}{L:List Tk}(h:Str s st L):Fine s st->L.length<=s.size - st.place:=by
 induction h with
 | nil h=>intro _;simp
 | cons h r ih=>
  rename_i st L;intro hf;have h1:=ih hf.next;have h2:=hf.lt h;have h3:=hf.next.place;simp only[List.length_cons];omega
def SimR(s:ByteArray):Res->TRes->Prop
 | .ok t st,.ok t' ts=>qm5 t=t'/\Str s st ts.toks/\st.op=ts.op/\Fine s st
 | .err en _,.err en'=>en=en'
 | _,_=>False
def Sim(s:ByteArray)(f:St->Res)(f':TS->TRes):Prop:=∀st ts,Fine s st->Str s st ts.toks->st.op=ts.op->SimR s (f st) (f' ts)
theorem SimR.cases{s:ByteArray}{r:Res}{r':TRes}(h:SimR s r r'):(∃t st ts,r=.ok t st/\r'=.ok (qm5 t) ts/\Str s st ts.toks/\st.op=ts.op/\Fine s st)\/∃en pl,r=.err en pl/\r'=.err en:=by
 cases r with
 | ok t st=>
  cases r' with
  | ok t' ts=>obtain⟨rfl,h2,h3,h4⟩:=h;exact .inl ⟨t,st,ts,rfl,rfl,h2,h3,h4⟩
  | err en=>exact h.elim
 | err en pl=>
  cases r' with
  | ok t' ts=>exact h.elim
  | err en'=>obtain rfl:en=en':=h;exact .inr ⟨en,pl,rfl,rfl⟩
theorem qh5{s:ByteArray}{st:St}{ts:TS}(h:Str s st ts.toks):ts.tk=st.tk:=h.tk
theorem Sim.join{s:ByteArray}{f:St->Res}{f':TS->TRes}(h:Sim s f f')(st:St)(ts:TS)(l:Ast)(hf:Fine s st)(hs:Str s st ts.toks)(ho:st.op=ts.op)(hk:st.tk.kind≠0):SimR s (qf1 s f st l) (vh7 f' ts (qm5 l)):=by
 have:=h (j4 s st) ts.next hf.next (hs.next hk) ho;unfold qf1 vh7;rw[qh5 hs];rcases this.cases with⟨t,G4,N5,h1,h2,h3,h4,h5⟩|⟨en,pl,h1,h2⟩
 ·rw[h1,h2];exact⟨rfl,h3,h4,h5⟩
 ·rw[h1,h2];rfl
def Shr(f:TS->TRes):Prop:=∀ts t ts',f ts=.ok t ts'->ts'.toks.length<=ts.toks.length
def ShrT(g:Ast->TS->TRes):Prop:=∀l ts t ts',g l ts=.ok t ts'->ts'.toks.length<=ts.toks.length
theorem vg3(L:List Tk):L.tail.length<=L.length:=by rw[List.length_tail];omega
theorem qc6(ts:TS):ts.next.toks.length<=ts.toks.length:=vg3 _
theorem Shr.join{f:TS->TRes}(h:Shr f)(ts:TS)(l t:Ast)(ts':TS)(he:vh7 f ts l=.ok t ts'):ts'.toks.length<=ts.next.toks.length:=by
 unfold vh7 at he
 split at he
 ·rename_i hr;injection he with _ h2;subst h2;exact h _ _ _ hr
 ·cases he
theorem Shr.loop{f:TS->TRes}(h:Shr f)(ks:List Int):∀n l ts t ts',vd8 f ks n l ts=.ok t ts'->ts'.toks.length<=ts.toks.length:=by
 intro n
 induction n with
 | zero=>intro l ts t ts' he;rw[vd8]at he;injection he with _ h2;subst h2;exact Nat.le_refl _
 | succ n ih=>
  intro l ts t ts' he;rw[vd8]at he
  split at he
  ·split at he
   ·rename_i hj;exact Nat.le_trans (ih _ _ _ _ he) (Nat.le_trans (h.join _ _ _ _ hj) (qc6 _))
   ·cases he
  ·injection he with _ h2;subst h2;exact Nat.le_refl _
theorem Shr.row{f:TS->TRes}(h:Shr f)(ks:List Int):Shr (jt0 f ks):=by
 intro ts t ts' he;unfold jt0 at he
 split at he
 ·rename_i hr;exact Nat.le_trans (h.loop ks _ _ _ _ _ he) (h _ _ _ hr)
 ·cases he
theorem Shr.sign{f:TS->TRes}(h:Shr f)(o:Int):Shr (vh8 f o):=by
 intro ts t ts' he;unfold vh8 at he
 split at he
 ·cases he
 ·split at he
  ·rename_i hr
   have h3:=h _ _ _ hr;injection he with _ h2;subst h2;exact Nat.le_trans h3 (vg3 ts.toks)
  ·cases he
theorem Shr.group{f:TS->TRes}(h:Shr f):Shr (qz6 f):=by
 intro ts t ts' he;unfold qz6 at he
 split at he
 ·cases he
 ·split at he
  ·rename_i hr;split at he
   ·have h3:=h _ _ _ hr
    injection he with _ h2;subst h2;exact Nat.le_trans (vg3 _) (Nat.le_trans h3 (vg3 ts.toks))
   ·cases he
  ·cases he
theorem Shr.signed{fS fE:TS->TRes}(hS:Shr fS)(hE:Shr fE):Shr (qr0 fS fE):=by
 intro ts t ts' he;unfold qr0 at he
 split at he
 ·exact hS.sign 14 _ _ _ he
 split at he
 ·exact hS.sign 15 _ _ _ he
 split at he
 ·exact hE.group _ _ _ he
 split at he
 ·injection he with _ h2;subst h2;exact qc6 _
 split at he
 ·injection he with _ h2;subst h2;exact qc6 _
 split at he
 ·injection he with _ h2;subst h2;exact qc6 _
 split at he
 ·injection he with _ h2;subst h2;exact qc6 _
 split at he
 ·injection he with _ h2;subst h2;exact qc6 _
 ·cases he
theorem jz9:ShrT tIsNull:=by
 intro l ts t ts' he;unfold tIsNull at he
 split at he
 ·split at he
  ·injection he with _ h2;subst h2;exact Nat.le_trans (qc6 _) (Nat.le_trans (qc6 _) (qc6 _))
  ·cases he
 ·split at he
  ·injection he with _ h2;subst h2;exact Nat.le_trans (qc6 _) (qc6 _)
  ·cases he
theorem jz8(l:Ast):∀n xs ts t ts',qm9 l n xs ts=.ok t ts'->ts'.toks.length<=ts.toks.length:=by
 intro n
 induction n with
 | zero=>intro xs ts t ts' he;rw[qm9]at he;cases he
 | succ n ih=>
  intro xs ts t ts' he;rw[qm9]at he
  split at he
  ·split at he
   ·exact Nat.le_trans (ih _ _ _ _ he) (Nat.le_trans (qc6 _) (qc6 _))
   ·cases he
  ·split at he
   ·injection he with _ h2;subst h2;exact qc6 _
   ·cases he
theorem shr_in:ShrT tInRes:=by
 intro l ts t ts' he;unfold tInRes at he
 split at he
 ·split at he
  ·exact Nat.le_trans (jz8 l _ _ _ _ _ he) (Nat.le_trans (qc6 _) (Nat.le_trans (qc6 _) (qc6 _)))
  ·cases he
 ·cases he
theorem shr_like:ShrT tLike:=by
 intro l ts t ts' he;unfold tLike at he
 split at he
 ·split at he
  ·split at he
   ·injection he with _ h2;subst h2;exact Nat.le_trans (qc6 _) (Nat.le_trans (qc6 _) (Nat.le_trans (qc6 _) (qc6 _)))
   ·cases he
  ·injection he with _ h2;subst h2;exact Nat.le_trans (qc6 _) (qc6 _)
 ·cases he
theorem Shr.between{f:TS->TRes}(h:Shr f):ShrT (qn5 f):=by
 intro l ts t ts' he;unfold qn5 at he
 split at he
 ·split at he
  ·rename_i h1;split at he
   ·split at he
    ·rename_i h2;injection he with _ h3;subst h3
     exact Nat.le_trans (h _ _ _ h2) (Nat.le_trans (qc6 _) (Nat.le_trans (h _ _ _ h1) (qc6 _)))
    ·cases he
   ·cases he
  ·cases he
 ·cases he
theorem Shr.keyword{f:TS->TRes}(h:Shr f)(bare:Bool):ShrT (qj8 f bare):=by
 intro l ts t ts' he;unfold qj8 at he
 split at he
 ·exact shr_in _ _ _ _ he
 split at he
 ·exact shr_like _ _ _ _ he
 ·exact h.between _ _ _ _ he
theorem Shr.test{f:TS->TRes}(h:Shr f):Shr (vq8 f):=by
 intro ts t ts' he;unfold vq8 at he
 split at he
 ·rename_i hr
  refine Nat.le_trans ?_ (h _ _ _ hr);unfold vq7 at he
  split at he
  ·exact Nat.le_trans (h.join _ _ _ _ he) (qc6 _)
  split at he
  ·split at he
   ·exact jz9 _ _ _ _ he
   ·injection he with _ h2;subst h2;exact Nat.le_refl _
  split at he
  ·split at he
   ·rename_i hk;injection he with _ h2;subst h2;exact Nat.le_trans (h.keyword _ _ _ _ _ hk) (qc6 _)
   ·cases he
  split at he
  ·exact h.keyword _ _ _ _ _ he
  ·injection he with _ h2;subst h2;exact Nat.le_refl _
 ·cases he
theorem Shr.denied{fD fT:TS->TRes}(hD:Shr fD)(hT:Shr fT):Shr (qs1 fD fT):=by
 intro ts t ts' he;unfold qs1 at he
 split at he
 ·exact hD.sign 5 _ _ _ he
 ·exact hT _ _ _ he
end Go.Proofs.YtfkcaldjphakpaaGreatDoor
