/- The document's answer -/
import Derived.Test.YtfkcaldjphakpaaGreatDoorM11
set_option maxHeartbeats 64000000
set_option maxRecDepth 100000
namespace Go.Proofs.YtfkcaldjphakpaaGreatDoor
open Go.RowKit Go.Proofs.Tryz
variable{b:Bool}{s:mu}{e:Ending}{ns:List RN}{j lo m op rb:Nat}{r:Res}{st:St}{w w':World}
theorem REnds.from{c:World}{a:Nat}(h:REnds rb s c op m ns j lo r e w')(g:TKept rb w c)(f:a<=lo):REnds rb s w op m ns j a r e w':=by
 have h:=h.more (ad m) f;exact⟨g.trans h.1,h.2⟩
theorem REnds.ret(h:REnds rb s w op m ns j lo r e w'):∃v,e=.returned v:=by
 cases r with
 | ok t st=>obtain⟨_,_,rfl,_⟩:=h;exact⟨_,rfl⟩
 | err en pl=>obtain⟨_,_,rfl,_⟩:=h;exact⟨_,rfl⟩
theorem qqm(a:Int)(r:Res):vb1 false a r=r:=by cases r<;>rfl
structure T1(rb:Nat)(s:ByteArray)(op m:Nat)(f:St->Res)(w:World)(st:St)(ns:List RN)(j:Nat)(l:Ast)(A6:St):Prop where
 hs:s.size<=200
 m1:200<=m
 m2:m<=900
 f1:RReads 320 rb s op m f
 es:xh 320 rb s
 rt:RT w rb s ns j st
 op:st.op=op
 res:f st=.ok l A6
theorem qwr(rb:Nat)(s:mu)(op m:Nat)(f:St->Res)(w:World)(st:St)(ns:List RN)(j:Nat)(l:Ast)(a:St)(T:T1 rb s op m f w st ns j l a)(hk:16<=a.tk.kind/\a.tk.kind<=21):
  nz 294 #[.pointer (some ⟨rb,0,none⟩)] w (DEnds rb s w op (m+1) ns j st.place (jy s f a l)):=by
 obtain⟨X,hm,bG,Y,eS,h,ho,D4⟩:=T;obtain⟨k2,_⟩:=h.ct;have A0:=h.lt;have HC:=qd (Y w st ns j h ho);have HF:=qd Y;have ES:=qd eS;have J5:=qd D4;obtain⟨b0,F7⟩:∃b:Bool,(opA l==0)=b:=⟨_,rfl⟩;have rO:=qd F7;have bI:decide (16<=a.tk.kind/\a.tk.kind<=21)=true:=de hk;have WG:BS (qD (qcv a.tk.kind))=BS (tkS a):=by rw[qhi (.inr (.inr ⟨hk.1,mw⟩)),qxu mw]
 have HNM:=qd WG;clear WG;clear h Y eS D4 F7
 cases hres2:f (qg s a) with
 | ok r J1=>
  rw[kN hres2];have Q:=qd hres2;clear hres2;rcases(show(rK st.tk.kind==2)=true\/(rK st.tk.kind==2)=false by cases (rK st.tk.kind==2)<;>simp) with P|P
  all_goals
   go_enter func294,ntmps294
   go_wp2_with(first|(go_at_call 320;refine(HF _ (qg s a) (ns++new) (j+1) N9 P0).mono ?_;rintro e C⟨u,E⟩;rw[q9 Q]at E;obtain⟨eJ,n,J,tR,bR,nN⟩:=E;obtain⟨U,fK⟩:∃k:Nat,(ns++new).length+eJ.length - 1=k:=⟨_,rfl⟩;rw[fK]at n;subst n;have MS:=qd fK;have BV:=qd nN;clear fK nN;have o:=(q9 fR).kept u;have x1:Xc C c.heap.size 1 (.int .i64 a.place):=o.cell 1;have x3:Xc C c.heap.size 3 (.string (BS (tkS a))):=o.cell 3;have aS:=qd (P4.trans u);have U8:=qd J;clear u J o)|(go_at_call 320;refine HC.mono ?_;rintro e c⟨M,F⟩;rw[q9 J5]at F;obtain⟨new,n,g,P0,V8,y⟩:=F;obtain⟨W,i⟩:∃k:Nat,ns.length+new.length - 1=k:=⟨_,rfl⟩;rw[i]at n;subst n;obtain⟨Z,capN,LN,N,RK,dZ,cN,AQ⟩:=g.opAt y i;rw[q9 rO]at AQ;have c8:=g.c8;obtain⟨t2,t3,t4,t5,t6⟩:=g.ct;have eQ:=g.lt;have nL:¬rb=c.heap.size:=mw;have S:¬c.heap.size=rb:=mw;have rA:Z<c.heap.size:=ii c _ cN;have bL:=qd i;have x:=qd g;have I2:=qd M;have O4:=qd y;clear M g y i)|(go_at_call 321;refine(xu _ _ _ _ _ _).mono ?_;rintro e w2⟨rfl,B⟩;rw[yE a,bI];have H:=VN.new x 235 #[.int .i64 (rK a.tk.kind),.int .i64 a.place,.int .i64 (tkZ a),.string (BS (tkS a)),.int .i64 (tkN a)] rfl;have q:=(q9 x).alloc (.cells #[.int .i64 (rK a.tk.kind),.int .i64 a.place,.int .i64 (tkZ a),.string (BS (tkS a)),.int .i64 (tkN a)] 235);have t:=TKept.of_below B q.lt;have D:=H.kept t;have A:=q.below B;have L:=(I2.alloc A0 (.cells #[.int .i64 (rK a.tk.kind),.int .i64 a.place,.int .i64 (tkZ a),.string (BS (tkS a)),.int .i64 (tkN a)] 235)).trans t;have I4:=A.lt;have R:=qd D;have I8:=qd A;have J9:=qd L;clear B H q t D A L)|(go_at_call 172;refine(ju I8 X mw mw).mono ?_;rintro e w3⟨rfl,z,K⟩;have cF:=(q9 x).fine.step_place mw;have fR:=qd (R.kept z);have P4:=qd (J9.trans z);have N9:=qd K;clear z K)|(go_at_call 216;refine(qf9 U8 X ⟨qcv a.tk.kind,a.place,0,[],[],[]⟩ W U HNM rfl rfl rfl mx).mono ?_;rintro e w5⟨rfl,I,G⟩;have Z0:=qd (aS.trans I);have O:=qd G;clear I G))
   go_ret;refine⟨q9 Z0,new++eJ++[js ⟨qcv a.tk.kind,a.place,0,[],[],[]⟩ [ns.length+new.length - 1,ns.length+new.length+eJ.length - 1] false],j7 my, ?_,tR,mw,Flat.bin _ O4 (by have:=q9 BV;rwa [bu]at this)⟩;have:=q9 O;rw[←q9 bL,←q9 MS,bu]at this;simpa only[bi]using this
 | err en pl=>
  rw[yG hres2];have Q:=qd hres2;clear hres2;rcases(show(rK st.tk.kind==2)=true\/(rK st.tk.kind==2)=false by cases (rK st.tk.kind==2)<;>simp) with P|P
  all_goals
   go_enter func294,ntmps294
   go_wp2_with(first|(go_at_call 320;refine(HF _ (qg s a) (ns++new) (j+1) N9 P0).mono ?_;rintro e C⟨u,E⟩;rw[q9 Q]at E;obtain⟨U,rfl,J⟩:=E;have o:=(q9 fR).kept u;have x1:Xc C c.heap.size 1 (.int .i64 a.place):=o.cell 1;have x3:Xc C c.heap.size 3 (.string (BS (tkS a))):=o.cell 3;have aS:=qd (P4.trans u);have U8:=qd J;clear u J o)|(go_at_call 320;refine HC.mono ?_;rintro e c⟨M,F⟩;rw[q9 J5]at F;obtain⟨new,n,g,P0,V8,y⟩:=F;obtain⟨W,i⟩:∃k:Nat,ns.length+new.length - 1=k:=⟨_,rfl⟩;rw[i]at n;subst n;obtain⟨Z,capN,LN,N,RK,dZ,cN,AQ⟩:=g.opAt y i;rw[q9 rO]at AQ;have c8:=g.c8;obtain⟨t2,t3,t4,t5,t6⟩:=g.ct;have eQ:=g.lt;have nL:¬rb=c.heap.size:=mw;have S:¬c.heap.size=rb:=mw;have rA:Z<c.heap.size:=ii c _ cN;have bL:=qd i;have x:=qd g;have I2:=qd M;have O4:=qd y;clear M g y i)|(go_at_call 321;refine(xu _ _ _ _ _ _).mono ?_;rintro e w2⟨rfl,B⟩;rw[yE a,bI];have H:=VN.new x 235 #[.int .i64 (rK a.tk.kind),.int .i64 a.place,.int .i64 (tkZ a),.string (BS (tkS a)),.int .i64 (tkN a)] rfl;have q:=(q9 x).alloc (.cells #[.int .i64 (rK a.tk.kind),.int .i64 a.place,.int .i64 (tkZ a),.string (BS (tkS a)),.int .i64 (tkN a)] 235);have t:=TKept.of_below B q.lt;have D:=H.kept t;have A:=q.below B;have L:=(I2.alloc A0 (.cells #[.int .i64 (rK a.tk.kind),.int .i64 a.place,.int .i64 (tkZ a),.string (BS (tkS a)),.int .i64 (tkN a)] 235)).trans t;have I4:=A.lt;have R:=qd D;have I8:=qd A;have J9:=qd L;clear B H q t D A L)|(go_at_call 172;refine(ju I8 X mw mw).mono ?_;rintro e w3⟨rfl,z,K⟩;have cF:=(q9 x).fine.step_place mw;have fR:=qd (R.kept z);have P4:=qd (J9.trans z);have N9:=qd K;clear z K)|(go_at_call 216;refine(qc8 U8 mw (tkS a) a.place W U rfl mx).mono ?_;rintro e w5⟨i5,rfl,I,G⟩;have Z0:=qd (aS.trans I);have O:=qd G;clear I G))
   go_ret;exact⟨q9 Z0,i5,rfl,.inl O⟩
theorem RT.rd(h:RT w rb s ns j st)(g:st.tk.kind=11\/st.tk.kind=12)(c:st.op=op)(l:s.size<=200)(n:200<=m)(f:lo<=st.place):RD w rb s st.place op m lo:=by
 obtain⟨nv,i,k,a,o⟩:=h;have:=a.place;exact⟨ns,nv,st,c ▸ i,k,g,rfl,mw,f,a.place⟩
theorem qd4{l:Ast}{a:Bool}(c:pM st l=b)(f:(opA l==0)=a):((rK st.tk.kind==2)=false/\b=false)\/((rK st.tk.kind==2)=true/\a=false/\b=false)\/((rK st.tk.kind==2)=true/\a=true/\b=true):=by
 rw[←c,show pM st l=(rK st.tk.kind==2&&a) by unfold pM;rw[vn1,f]];cases (rK st.tk.kind==2)<;>cases a<;>simp
structure W2(st:St)(b14 b7:Bool):Prop where
 i14:(rK st.tk.kind==6&&((BS (tkS st)).toList==(⟨#[73,83]⟩:ByteArray).toList))=b14
 i7:(rK st.tk.kind==6&&((BS (tkS st)).toList==(⟨#[78,79,84]⟩:ByteArray).toList))=b7
structure W3(st:St)(b10 b11 b12:Bool):Prop where
 i10:(rK st.tk.kind==6&&((BS (tkS st)).toList==(⟨#[66,69,84,87,69,69,78]⟩:ByteArray).toList))=b10
 i11:(rK st.tk.kind==6&&((BS (tkS st)).toList==(⟨#[73,78]⟩:ByteArray).toList))=b11
 i12:(rK st.tk.kind==6&&((BS (tkS st)).toList==(⟨#[76,73,75,69]⟩:ByteArray).toList))=b12
theorem W2.lit{a f:Bool}(i:(st.tk.kind==14)=a)(g:(st.tk.kind==7)=f):W2 st a f:=⟨(isK (c:=14) rfl nh nh 6 rfl).trans i,(isK (c:=7) rfl nh nh 6 rfl).trans g⟩
theorem W3.lit{g f a:Bool}(k:(st.tk.kind==10)=g)(i:(st.tk.kind==11)=f)(l:(st.tk.kind==12)=a):W3 st g f a:=⟨(isK (c:=10) rfl nh nh 6 rfl).trans k,(isK (c:=11) rfl nh nh 6 rfl).trans i,(isK (c:=12) rfl nh nh 6 rfl).trans l⟩
theorem xS(rb:Nat)(s:mu)(op m:Nat)(f:St->Res)(w:World)(st:St)(ns:List RN)(j:Nat)(l:Ast)(a:St)(T:T1 rb s op m f w st ns j l a)(hb:pM st l=b)(bI:decide (16<=a.tk.kind/\a.tk.kind<=21)=false)
  (hC:(W2 a true false/\W3 a false false false/\a.tk.kind=14/\b=true/\r=jd s l a)\/(W2 a false false/\W3 a false false false/\True/\True/\r=.ok l a)\/(W2 a true false/\W3 a false false false/\True/\b=false/\r=.ok l a)\/(W2 a false false/\W3 a true false false/\a.tk.kind=10/\True/\r=qQ s f l a)\/(W2 a false false/\W3 a false true false/\a.tk.kind=11/\b=true/\r=xj s l a)\/(W2 a false false/\W3 a false false true/\a.tk.kind=12/\b=true/\r=vg s l a)\/(W2 a false false/\W3 a false true false/\a.tk.kind=11/\b=false/\r=.err 2 a.place)\/(W2 a false false/\W3 a false false true/\a.tk.kind=12/\b=false/\r=.err 2 a.place)) :
  nz 294 #[.pointer (some ⟨rb,0,none⟩)] w (DEnds rb s w op (m+1) ns j st.place r):=by
 obtain⟨E,hm,bG,R,eS,h,ho,D4⟩:=T;obtain⟨k2,_⟩:=h.ct;have A:=h.lt;have HC:=qd (R w st ns j h ho);have HF:=qd R;have ES:=qd eS;have J5:=qd D4;obtain⟨b0,W⟩:∃b:Bool,(opA l==0)=b:=⟨_,rfl⟩;have rO:=qd W;have hq:=qd4 hb W;clear h R eS D4 hb W;rcases hC with⟨⟨x,o⟩,⟨t,y,u⟩,i,n,rfl⟩|⟨⟨x,o⟩,⟨t,y,u⟩,i,n,rfl⟩|⟨⟨x,o⟩,⟨t,y,u⟩,i,n,rfl⟩|⟨⟨x,o⟩,⟨t,y,u⟩,i,n,rfl⟩|⟨⟨x,o⟩,⟨t,y,u⟩,i,n,rfl⟩|⟨⟨x,o⟩,⟨t,y,u⟩,i,n,rfl⟩|⟨⟨x,o⟩,⟨t,y,u⟩,i,n,rfl⟩|⟨⟨x,o⟩,⟨t,y,u⟩,i,n,rfl⟩
 all_goals
  rcases hq with⟨Z,I⟩|⟨Z,rfl,I⟩|⟨Z,rfl,I⟩
 all_goals
  first|exact absurd (n.symm.trans I) nh|skip
 all_goals
  clear n I;have D:=qd i;clear i;go_enter func294,ntmps294
  go_wp2_with(first|(go_at_call 320;refine HC.mono ?_;rintro e H⟨A5,h1⟩;rw[q9 J5]at h1;obtain⟨new,he,C,B,J,X⟩:=h1;obtain⟨q,K⟩:∃k:Nat,ns.length+new.length - 1=k:=⟨_,rfl⟩;rw[K]at he;subst he;obtain⟨gN,capN,LN,N,RK,dZ,cN,AQ⟩:=C.opAt X K;rw[q9 rO]at AQ;have c8:=C.c8;obtain⟨t2,t3,t4,t5,t6⟩:=C.ct;have eQ:=C.lt;have nL:¬rb=H.heap.size:=mw;have nL':¬H.heap.size=rb:=mw;have rA:gN<H.heap.size:=ii H _ cN;have F:=qd K;have G3:=qd C;have I2:=qd A5;have G:=qd X;clear A5 C X K)|(go_at_call 321;refine(xu _ _ _ _ _ _).mono ?_;rintro e z⟨rfl,Y⟩;rw[yE a,bI];have a8:=VN.new G3 235 #[.int .i64 (rK a.tk.kind),.int .i64 a.place,.int .i64 (tkZ a),.string (BS (tkS a)),.int .i64 (tkN a)] rfl;have S:=(q9 G3).alloc (.cells #[.int .i64 (rK a.tk.kind),.int .i64 a.place,.int .i64 (tkZ a),.string (BS (tkS a)),.int .i64 (tkN a)] 235);have U:=TKept.of_below Y S.lt;have mM:=a8.kept U;have O:=S.below Y;have A7:=(I2.alloc A (.cells #[.int .i64 (rK a.tk.kind),.int .i64 a.place,.int .i64 (tkZ a),.string (BS (tkS a)),.int .i64 (tkN a)] 235)).trans U;have I4:=O.lt;obtain⟨_,u3,_⟩:=O.ct;have nM1:¬rb=z.heap.size:=mw;have nM2:¬rb=z.heap.size+1:=mw;have nM3:¬z.heap.size=rb:=mw;have VM:¬z.heap.size+1=rb:=mw;have g:=qd O;have L:=qd A7;clear Y a8 S U mM O A7)|(go_at_call 215;(first|refine(qfi g).mono ?_|refine(qfi ((g.alloc _).alloc _)).mono ?_);rintro e w'⟨rfl,hw'⟩;subst w';simp only[x,o,t,y,u])|(go_at_call 323;refine(qac rb s E op m hm bG f HF ES _ a ns new j l ((g.alloc _).alloc _) B D G q F.symm z.heap.size ((VN.new g 3 #[.int .i64 q] rfl).alloc my _) false 0).mono ?_;rintro e P c;obtain⟨Q,rfl⟩:=c.ret;have M:=qd c;clear c)|(go_at_call 324;refine(qdf rb s E op (m+1) mw _ a ns new j l ((g.alloc _).alloc _) B D G q F.symm z.heap.size ((VN.new g 3 #[.int .i64 q] rfl).alloc my _) false 0).mono ?_;rintro e P c;obtain⟨Q,rfl⟩:=c.ret;have M:=qd c;clear c)|(go_at_call 325;refine(qhw rb s E op (m+1) mw _ a ns new j l ((g.alloc _).alloc _) B D G q F.symm z.heap.size ((VN.new g 3 #[.int .i64 q] rfl).alloc my _) false 0).mono ?_;rintro e P c;obtain⟨Q,rfl⟩:=c.ret;have M:=qd c;clear c)|(go_at_call 322;refine(qwj rb s E op (m+1) mw _ a ns new j l g B D G q F.symm).mono ?_;rintro e P c;obtain⟨Q,rfl⟩:=c.ret;have M:=qd c;clear c))
  go_ret
  first
   | (
    have:=q9 M
    first
     | (rw[qqm]at this;exact(this.from ((L.alloc A _).alloc A _) J).d)
     | exact(this.from L J).d)
   | exact⟨((L.alloc A _).alloc A _),new,j7 (by rw[q9 F]),(g.alloc _).alloc _,B,J,q9 G⟩
   | exact⟨((L.alloc A _).alloc A _),q,rfl,.inr ⟨rfl,((g.alloc _).alloc _).rd (by have:=q9 D;omega) B E mw J⟩⟩
theorem REnds.slack{j':Nat}(h:REnds rb s w op m ns j lo r e w')(c:j'<=j):REnds rb s w op m ns j' lo r e w':=by
 obtain⟨a,h⟩:=h;refine⟨a, ?_⟩
 cases r with
 | ok t st=>obtain⟨new,i,g,f⟩:=h;exact⟨new,i,g.less c,f⟩
 | err en pl=>exact h
theorem yu(rb:Nat)(s:mu)(op m:Nat)(f:St->Res)(w:World)(st:St)(ns:List RN)(j:Nat)(l:Ast)(a:St)(T:T1 rb s op m f w st ns j l a)(hb:pM st l=b)(G:a.tk.kind=7)
  (hC:(W3 (qg s a) true false false/\(qg s a).tk.kind=10/\True/\r=vb1 true a.place (qQ s f l (qg s a)))\/(W3 (qg s a) false true false/\(qg s a).tk.kind=11/\b=true/\r=vb1 true a.place (xj s l (qg s a)))\/(W3 (qg s a) false false true/\(qg s a).tk.kind=12/\b=true/\r=vb1 true a.place (vg s l (qg s a)))\/(W3 (qg s a) false false false/\True/\True/\r=.err 2 (qg s a).place)\/(W3 (qg s a) false true false/\True/\b=false/\r=.err 2 (qg s a).place)\/(W3 (qg s a) false false true/\True/\b=false/\r=.err 2 (qg s a).place)) :
  nz 294 #[.pointer (some ⟨rb,0,none⟩)] w (DEnds rb s w op (m+1) ns j st.place r):=by
 obtain⟨z,hm,bG,Q,eS,h,ho,D4⟩:=T;obtain⟨k2,_⟩:=h.ct;have M:=h.lt;have HC:=qd (Q w st ns j h ho);have HF:=qd Q;have ES:=qd eS;have J5:=qd D4;obtain⟨b0,F7⟩:∃b:Bool,(opA l==0)=b:=⟨_,rfl⟩;have rO:=qd F7;have hq:=qd4 hb F7;have bI:decide (16<=a.tk.kind/\a.tk.kind<=21)=false:=cw mw;obtain⟨bH,oZ⟩:W2 a false true:=.lit (by rw[G];rfl) (by rw[G];rfl);have P:=qd G;clear h Q eS D4 hb F7 G;rcases hC with⟨⟨t,u,x⟩,o,q,rfl⟩|⟨⟨t,u,x⟩,o,q,rfl⟩|⟨⟨t,u,x⟩,o,q,rfl⟩|⟨⟨t,u,x⟩,o,q,rfl⟩|⟨⟨t,u,x⟩,o,q,rfl⟩|⟨⟨t,u,x⟩,o,q,rfl⟩
 all_goals
  rcases hq with⟨q2,F⟩|⟨q2,rfl,F⟩|⟨q2,rfl,F⟩
 all_goals
  first|exact absurd (q.symm.trans F) nh|skip
 all_goals
  clear q F;have BO:=qd o;clear o;go_enter func294,ntmps294
  go_wp2_with(first|(go_at_call 320;refine HC.mono ?_;rintro e E⟨A5,h1⟩;rw[q9 J5]at h1;obtain⟨new,he,y,H,V8,E9⟩:=h1;obtain⟨n,I⟩:∃k:Nat,ns.length+new.length - 1=k:=⟨_,rfl⟩;rw[I]at he;subst he;obtain⟨gN,capN,LN,N,RK,dZ,cN,AQ⟩:=y.opAt E9 I;rw[q9 rO]at AQ;have c8:=y.c8;obtain⟨t2,t3,t4,t5,t6⟩:=y.ct;have eQ:=y.lt;have nL:¬rb=E.heap.size:=mw;have nL':¬E.heap.size=rb:=mw;have rA:gN<E.heap.size:=ii E _ cN;have R:=qd I;have Z:=qd y;have I2:=qd A5;have X:=qd E9;clear A5 y E9 I)|(go_at_call 321;refine(xu _ _ _ _ _ _).mono ?_;rintro e c⟨rfl,A3⟩;rw[yE a,bI];have B:=VN.new Z 235 #[.int .i64 (rK a.tk.kind),.int .i64 a.place,.int .i64 (tkZ a),.string (BS (tkS a)),.int .i64 (tkN a)] rfl;have S:=(q9 Z).alloc (.cells #[.int .i64 (rK a.tk.kind),.int .i64 a.place,.int .i64 (tkZ a),.string (BS (tkS a)),.int .i64 (tkN a)] 235);have U:=TKept.of_below A3 S.lt;have mM:=B.kept U;have L:=S.below A3;have A7:=(I2.alloc M (.cells #[.int .i64 (rK a.tk.kind),.int .i64 a.place,.int .i64 (tkZ a),.string (BS (tkS a)),.int .i64 (tkN a)] 235)).trans U;have I4:=L.lt;obtain⟨_,u3,_⟩:=L.ct;have nM1:¬rb=c.heap.size:=mw;have nM2:¬rb=c.heap.size+1:=mw;have nM3:¬c.heap.size=rb:=mw;have VM:¬c.heap.size+1=rb:=mw;have D:=qd L;have J9:=qd A7;clear A3 B S U mM L A7)|(go_at_call 215;(first|refine(qfi C).mono ?_|refine(qfi D).mono ?_|refine(qfi ((D.alloc _).alloc _)).mono ?_);rintro e w'⟨rfl,hw'⟩;subst w';simp only[bH,oZ,t,u,x])|(go_at_call 172;have FD:RT ((c.alloc (.cells #[.int .i64 n] 3)).alloc (.cells #[.string ⟨#[]⟩,.int .i64 0,.slice (some ⟨c.heap.size,0,none⟩) 1 1,.string ⟨#[]⟩,.string ⟨#[]⟩,.slice none 0 0,.int .i64 0,.bool true,.int .i64 0] 241)) rb s (ns++new) j a:=(D.alloc _).alloc _;refine(ju FD z (by have:=q9 P;omega) (by have:=q9 P;omega)).mono ?_;rintro e w3⟨rfl,K,J⟩;have fL:VN ((c.alloc (.cells #[.int .i64 n] 3)).alloc (.cells #[.string ⟨#[]⟩,.int .i64 0,.slice (some ⟨c.heap.size,0,none⟩) 1 1,.string ⟨#[]⟩,.string ⟨#[]⟩,.slice none 0 0,.int .i64 0,.bool true,.int .i64 0] 241)) rb c.heap.size 3 #[.int .i64 n]:=(VN.new D 3 #[.int .i64 n] rfl).alloc my _;have B:VN ((c.alloc (.cells #[.int .i64 n] 3)).alloc (.cells #[.string ⟨#[]⟩,.int .i64 0,.slice (some ⟨c.heap.size,0,none⟩) 1 1,.string ⟨#[]⟩,.string ⟨#[]⟩,.slice none 0 0,.int .i64 0,.bool true,.int .i64 0] 241)) rb (c.heap.size+1) 241 #[.string ⟨#[]⟩,.int .i64 0,.slice (some ⟨c.heap.size,0,none⟩) 1 1,.string ⟨#[]⟩,.string ⟨#[]⟩,.slice none 0 0,.int .i64 0,.bool true,.int .i64 0]:=VN.new (D.alloc _) _ _ mx;have A:=B.kept K;have WS:=fL.kept K;have hL3:=A.lt;have sE:=J.lt;obtain⟨_,u33,_⟩:=J.ct;have y0:∀i,w3.cell? ⟨c.heap.size+1,i,none⟩=(#[.string ⟨#[]⟩,.int .i64 0,.slice (some ⟨c.heap.size,0,none⟩) 1 1,.string ⟨#[]⟩,.string ⟨#[]⟩,.slice none 0 0,.int .i64 0,.bool true,.int .i64 0]:Array Value)[i]?:=(λi=>A.cell i);have yz:Xf w3 (c.heap.size+1):=A.frz;have cF:=(q9 Z).fine.step_place (by have:=q9 P;omega);have C:=qd (A.rt nh nh J 1 (.int .i64 (qg s a).place));have W:=qd (WS.setB mw VM 1 (.int .i64 (qg s a).place));have aS:=qd (((((J9.alloc M _).alloc M _).trans K).far M (p:=⟨c.heap.size+1,1,none⟩) (by show w.heap.size<=c.heap.size+1;have:=(q9 J9).size;omega) (.int .i64 (qg s a).place)));clear K J B fL A WS FD)|(go_at_call 323;refine(qac rb s z op m hm bG f HF ES _ (qg s a) ns new (j+1) l C H BO X n R.symm c.heap.size W true a.place).mono ?_;rintro e O g;obtain⟨v5,rfl⟩:=g.ret;have Y:=qd g;clear g)|(go_at_call 324;refine(qdf rb s z op (m+1) mw _ (qg s a) ns new (j+1) l C H BO X n R.symm c.heap.size W true a.place).mono ?_;rintro e O g;obtain⟨v5,rfl⟩:=g.ret;have Y:=qd g;clear g)|(go_at_call 325;refine(qhw rb s z op (m+1) mw _ (qg s a) ns new (j+1) l C H BO X n R.symm c.heap.size W true a.place).mono ?_;rintro e O g;obtain⟨v5,rfl⟩:=g.ret;have Y:=qd g;clear g)|(go_at_call 174;refine(kQ C z 2 (qg s a).place nh).mono ?_;rintro e O⟨rfl,Z8,aV⟩;have Z0:=qd (aS.trans Z8);have t7:=qd aV;clear Z8 aV))
  go_ret
  first
   | exact((Y.slack mw).from aS mw).d
   | exact⟨q9 Z0,n,rfl,.inl (H ▸ (q9 t7).more mw)⟩
theorem qws(rb:Nat)(s:mu)(op m:Nat)(f:St->Res)(g:RReads 320 rb s op m f)(w:World)(st:St)(ns:List RN)(j:Nat)(h:RT w rb s ns j st)(q:st.op=op){l c:Int}(n:f st=.err l c):
  nz 294 #[.pointer (some ⟨rb,0,none⟩)] w (DEnds rb s w op (m+1) ns j st.place (.err l c)):=by
 obtain⟨B,_⟩:=h.ct;have x:=qd (g w st ns j h q);have t:=qd n;clear h g n;go_enter func294,ntmps294
 go_wp2_with(go_at_call 320;refine x.mono ?_;rintro e z⟨o,k⟩;rw[q9 t]at k;obtain⟨i,rfl,a⟩:=k;obtain⟨c8,A⟩:=a.c8;have u:=qd o;have y:=qd a;clear o a)
 go_ret;exact⟨q9 u,i,rfl,.inl (y.more mw)⟩
theorem qm0(rb:Nat)(s:mu)(u:s.size<=200)(op m:Nat)(x:200<=m)(z:m<=900)(f:St->Res)(t:RReads 320 rb s op m f)(y:xh 320 rb s):DReads 294 rb s op (m+1) (jP s f (xj s) (vg s)):=by
 intro w st ns j h q
 cases D4:f st with
 | err en pl=>
  rw[show jP s f (xj s) (vg s) st=.err en pl by unfold jP;rw[D4]];exact qws rb s op m f t w st ns j h q D4
 | ok l A6=>
  rw[show jP s f (xj s) (vg s) st=jO s f (xj s) (vg s) (pM st l) l A6 by unfold jP;rw[D4]];have T:T1 rb s op m f w st ns j l A6:=⟨u,x,z,t,y,h,q,D4⟩;unfold jO
  split
  ·rename_i c;exact qwr rb s op m f w st ns j l A6 T mw
  split
  ·rename_i c
   split
   ·rename_i i;exact xS rb s op m f w st ns j l A6 T i (cw mw) (.inl ⟨.lit nj nj,.lit nj nj nj,c,rfl,rfl⟩)
   ·rename_i i;exact xS rb s op m f w st ns j l A6 T (ix.2 i) (cw mw) (.inr (.inr (.inl ⟨.lit nj nj,.lit nj nj nj,trivial,rfl,rfl⟩)))
  split
  ·rename_i g
   obtain⟨r,o⟩:∃r,vh s f (xj s) (vg s) (pM st l) l (qg s A6)=r:=⟨_,rfl⟩;rw[o];suffices hS:nz 294 #[.pointer (some ⟨rb,0,none⟩)] w (DEnds rb s w op (m+1) ns j st.place (vb1 true A6.place r)) by cases r<;>exact hS
   rw[←o];unfold vh
   split
   ·rename_i a;have:=a.1;exact yu rb s op m f w st ns j l A6 T a.2 g (.inr (.inl ⟨.lit nj nj nj,a.1,rfl,rfl⟩))
   rename_i k
   split
   ·rename_i a;have:=a.1;exact yu rb s op m f w st ns j l A6 T a.2 g (.inr (.inr (.inl ⟨.lit nj nj nj,a.1,rfl,rfl⟩)))
   rename_i n
   by_cases k10:(qg s A6).tk.kind=10
   ·exact yu rb s op m f w st ns j l A6 T rfl g (.inl ⟨.lit nj nj nj,k10,trivial,rfl⟩)
   ·rw[show qQ s f l (qg s A6)=.err 2 (qg s A6).place by unfold qQ;rw[aj k10]]
    show Calls _ _ _ _ (DEnds rb s w op (m+1) ns j st.place (.err 2 (qg s A6).place))
    by_cases k11:(qg s A6).tk.kind=11
    ·exact yu rb s op m f w st ns j l A6 T (by simpa [k11]using k) g (.inr (.inr (.inr (.inr (.inl ⟨.lit nj nj nj,trivial,rfl,rfl⟩)))))
    ·by_cases k12:(qg s A6).tk.kind=12
     ·exact yu rb s op m f w st ns j l A6 T (by simpa [k12]using n) g (.inr (.inr (.inr (.inr (.inr (⟨.lit nj nj nj,trivial,rfl,rfl⟩))))))
     ·exact yu rb s op m f w st ns j l A6 T rfl g (.inr (.inr (.inr (.inl ⟨.lit nj nj nj,trivial,trivial,rfl⟩))))
  split
  ·rename_i c
   unfold vh
   split
   ·rename_i a;have:=a.1;exact xS rb s op m f w st ns j l A6 T a.2 (cw mw) (.inr (.inr (.inr (.inr (.inl ⟨.lit nj nj,.lit nj nj nj,a.1,rfl,rfl⟩)))))
   rename_i k
   split
   ·rename_i a;have:=a.1;exact xS rb s op m f w st ns j l A6 T a.2 (cw mw) (.inr (.inr (.inr (.inr (.inr (.inl ⟨.lit nj nj,.lit nj nj nj,a.1,rfl,rfl⟩))))))
   rename_i n
   by_cases k10:A6.tk.kind=10
   ·exact xS rb s op m f w st ns j l A6 T rfl (cw mw) (.inr (.inr (.inr (.inl ⟨.lit nj nj,.lit nj nj nj,k10,trivial,rfl⟩))))
   ·rw[show qQ s f l A6=.err 2 A6.place by unfold qQ;rw[aj k10]]
    rcases c with c|c|c
    ·omega
    ·exact xS rb s op m f w st ns j l A6 T (by simpa [c]using k) (cw mw) (.inr (.inr (.inr (.inr (.inr (.inr (.inl ⟨.lit nj nj,.lit nj nj nj,c,rfl,rfl⟩)))))))
    ·exact xS rb s op m f w st ns j l A6 T (by simpa [c]using n) (cw mw) (.inr (.inr (.inr (.inr (.inr (.inr (.inr (⟨.lit nj nj,.lit nj nj nj,c,rfl,rfl⟩))))))))
  ·exact xS rb s op m f w st ns j l A6 T rfl (cw mw) (.inr (.inl ⟨.lit nj nj,.lit nj nj nj,trivial,trivial,rfl⟩))
structure RR3(rb:Nat)(s:ByteArray)(op m:Nat)(L:L3):Prop where
 S:RReads 351 rb s op m L.S
 D:DReads 259 rb s op m L.D
 E:DReads 173 rb s op m L.E
theorem vm8(rb:Nat)(s:mu):xh 320 rb s/\xh 259 rb s/\xh 173 rb s:=
 have c:=vda rb s (qhl rb s (qcj rb s));have a:=qjn rb s (qxs rb s c)
 ⟨c,a,qjp rb s (qsy rb s a)⟩
theorem veq(rb:Nat)(s:mu)(a:s.size<=200)(op m:Nat)(g:op<=12)(i:200<=m)(z:m<=800)(L:L3)(h:op<12->RR3 rb s (op+1) m L):RR3 rb s op (m+8) (up3 s L):=by
 obtain⟨u,y,x⟩:=vm8 rb s;have c:=qfp rb s a op m i mw g L.S L.E (λk=>(h k).S) (λk=>(h k).E) (qcj rb s) x;have o:=qdk (.inr ⟨rfl,rfl,rfl,rfl,rfl⟩) rb s a op (m+1) mw mw _ c;have l:=qdk (.inl ⟨rfl,rfl,rfl,rfl,rfl⟩) rb s a op (m+2) mw mw _ o;have n:=qm0 rb s a op (m+3) mw mw _ l u;have f:=qfg rb s a op (m+3) mw mw g L.D _ (λk=>(h k).D.more mw) y n;have t:=qae (.inl ⟨rfl,rfl,rfl,rfl⟩) rb s a op (m+4) mw mw _ f;have q:=qae (.inr ⟨rfl,rfl,rfl,rfl⟩) rb s a op (m+5) mw mw _ t;exact⟨c.more mw,f.more mw,q.more mw⟩
theorem qnb(rb:Nat)(s:mu)(a:s.size<=200):∀d op,op+d=12->RR3 rb s op (200+8 * (d+1)) (lvl s d):=by
 intro d
 induction d with
 | zero=>intro op h;exact veq rb s a op 200 mw mw mw _ (λk=>mw)
 | succ d ih=>intro op h;exact veq rb s a op (200+8 * (d+1)) mw mw mw _ (λ_=>ih (op+1) mw)
end Go.Proofs.YtfkcaldjphakpaaGreatDoor
