/- a test: no keyword, or -/
import Derived.Test.YtdmmmgodfceilaaGreatDoorM09
namespace Go.Proofs.YtdmmmgodfceilaaGreatDoor
open Go.RowKit
open Go renaming World->Ao
open Go.IntKind renaming i64->J
open Go.Obj renaming cells->Al
open Go.Value renaming int->I,pointer->Ag,string->Y
open Option renaming none->O,some->G
open Or renaming inr->An
variable{b:Bool}{st:St}
theorem RT.rd{w:Ao}{a:Nat}{s:tq}{c:List RN}{j:Nat}(h:RT w a s c j st)(k:st.tk.A=11\/st.tk.A=12){op m d:Nat}(g:st.op=op)(o:s.size<=200)(q:200<=m)(i:d<=st.M):RD w a s st.M op m d:=by
 obtain⟨f,l,n,e,r⟩:=h;have:=e.M;exact⟨c,f,st,g ▸ l,n,k,rfl,ub,i,e.M⟩
theorem qeq{l:Ast}{a:Bool}(c:qau st l=b)(d:(opA l==0)=a):((rK st.tk.A==2)=false/\b=false)\/((rK st.tk.A==2)=true/\a=false/\b=false)\/((rK st.tk.A==2)=true/\a=true/\b=true):=by
 rw[<-c,show qau st l=(rK st.tk.A==2&&a) by unfold qau;rw[vsg,d]];cases (rK st.tk.A==2)<;>cases a<;>simp
structure W2(st:St)(b14 b7:Bool):Prop where
 i14:(rK st.tk.A==6&&((BS (tkS st)).toList==(⟨#[73,83]⟩:ByteArray).toList))=b14
 i7:(rK st.tk.A==6&&((BS (tkS st)).toList==(⟨#[78,79,84]⟩:ByteArray).toList))=b7
structure W3(st:St)(b10 b11 b12:Bool):Prop where
 i10:(rK st.tk.A==6&&((BS (tkS st)).toList==(⟨#[66,69,84,87,69,69,78]⟩:ByteArray).toList))=b10
 i11:(rK st.tk.A==6&&((BS (tkS st)).toList==(⟨#[73,78]⟩:ByteArray).toList))=b11
 i12:(rK st.tk.A==6&&((BS (tkS st)).toList==(⟨#[76,73,75,69]⟩:ByteArray).toList))=b12
theorem W2.lit{a d:Bool}(f:(st.tk.A==14)=a)(e:(st.tk.A==7)=d):W2 st a d:=⟨(isK (c:=14) rfl ue ue 6 rfl).trans f,(isK (c:=7) rfl ue ue 6 rfl).trans e⟩
theorem W3.lit{e d a:Bool}(g:(st.tk.A==10)=e)(f:(st.tk.A==11)=d)(i:(st.tk.A==12)=a):W3 st e d a:=⟨(isK (c:=10) rfl ue ue 6 rfl).trans g,(isK (c:=11) rfl ue ue 6 rfl).trans f,(isK (c:=12) rfl ue ue 6 rfl).trans i⟩
set_option maxHeartbeats 64000000 in
set_option maxRecDepth 100000 in
theorem yw(d:Nat)(s:tq)(op m:Nat)(f:St->Res)(w:Ao)(st:St)(q:List RN)(j:Nat)(l:Ast)(a:St)(T:T1 d s op m f w st q j l a){r:Res}(hb:qau st l=b)(cB:decide (16<=a.tk.A/\a.tk.A<=21)=false)
  (hC:(W2 a true false/\W3 a false false false/\a.tk.A=14/\b=true/\r=jk s l a)\/(W2 a false false/\W3 a false false false/\True/\True/\r=.ok l a)\/(W2 a true false/\W3 a false false false/\True/\b=false/\r=.ok l a)\/(W2 a false false/\W3 a true false false/\a.tk.A=10/\True/\r=qX s f l a)\/(W2 a false false/\W3 a false true false/\a.tk.A=11/\b=true/\r=xE s l a)\/(W2 a false false/\W3 a false false true/\a.tk.A=12/\b=true/\r=vp s l a)\/(W2 a false false/\W3 a false true false/\a.tk.A=11/\b=false/\r=.err 2 a.M)\/(W2 a false false/\W3 a false false true/\a.tk.A=12/\b=false/\r=.err 2 a.M)) :
  Calls Tryz.prog 217 #[Ag (G ⟨d,0,O⟩)] w (DEnds d s w op (m+1) q j st.M r):=by
 obtain⟨D,hm,bZ,W,eS,h,ho,A9⟩:=T;obtain⟨k2,_⟩:=h.ct;have z:=h.lt;have HC:=qd (W w st q j h ho);have HF:=qd W;have ES:=qd eS;have L4:=qd A9;obtain⟨b0,G0⟩:∃b:Bool,(opA l==0)=b:=⟨_,rfl⟩;have fJ:=qd G0;have hq:=qeq hb G0;clear h W eS A9 hb G0;rcases hC with⟨⟨y,o⟩,⟨u,v,x⟩,i,n,rfl⟩|⟨⟨y,o⟩,⟨u,v,x⟩,i,n,rfl⟩|⟨⟨y,o⟩,⟨u,v,x⟩,i,n,rfl⟩|⟨⟨y,o⟩,⟨u,v,x⟩,i,n,rfl⟩|⟨⟨y,o⟩,⟨u,v,x⟩,i,n,rfl⟩|⟨⟨y,o⟩,⟨u,v,x⟩,i,n,rfl⟩|⟨⟨y,o⟩,⟨u,v,x⟩,i,n,rfl⟩|⟨⟨y,o⟩,⟨u,v,x⟩,i,n,rfl⟩
 all_goals
  rcases hq with⟨q2,K⟩|⟨q2,rfl,K⟩|⟨q2,rfl,K⟩
 all_goals
  first|exact absurd (n.symm.trans K) ue|skip
 all_goals
  clear n K;have C:=qd i;clear i;go_enter Tryz.func217,Tryz.ntmps217
  go_wp2_with(first|(go_at_call 238;refine HC.mono ?_;rintro e H⟨A4,h1⟩;rw[q9 L4]at h1;obtain⟨new,he,B,A,L,E6⟩:=h1;obtain⟨t,M⟩:∃k:Nat,q.length+new.length - 1=k:=⟨_,rfl⟩;rw[M]at he;subst he;obtain⟨gN,capN,LN,N,WV,eV,cN,DP⟩:=B.opAt E6 M;rw[q9 fJ]at DP;have c8:=B.c8;obtain⟨t2,t3,t4,t5,t6⟩:=B.ct;have dW:=B.lt;have nL:¬d=H.1.size:=ub;have nL':¬H.1.size=d:=ub;have sC:gN<H.1.size:=mq H _ cN;have E:=qd M;have G3:=qd B;have J8:=qd A4;have F:=qd E6;clear A4 B E6 M)|(go_at_call 239;refine be (xO _ _ _ _ _ _) λw2 A3=>?_;rw[kj a,cB];have iH:=VN.new G3 171 #[I J (rK a.tk.A),I J a.M,I J (tkZ a),Y (BS (tkS a)),I J (tkN a)] rfl;have X:=(q9 G3).alloc (Al #[I J (rK a.tk.A),I J a.M,I J (tkZ a),Y (BS (tkS a)),I J (tkN a)] 171);have Z:=TKept.of_below A3 X.lt;have iG:=iH.T Z;have R:=X.below A3;have A8:=(J8.alloc z (Al #[I J (rK a.tk.A),I J a.M,I J (tkZ a),Y (BS (tkS a)),I J (tkN a)] 171)).trans Z;have J9:=R.lt;obtain⟨_,u3,_⟩:=R.ct;have nM1:¬d=w2.1.size:=ub;have nM2:¬d=w2.1.size+1:=ub;have nM3:¬w2.1.size=d:=ub;have ZS:¬w2.1.size+1=d:=ub;have g:=qd R;have P:=qd A8;clear A3 iH X Z iG R A8)|(go_at_call 131;(first|refine(qhi g).mono ?_|refine(qhi ((g.alloc _).alloc _)).mono ?_);rintro e w'⟨rfl,hw'⟩;subst w';simp only[y,o,u,v,x])|(go_at_call 241;refine(qbl d s D op m hm bZ f HF ES _ a q new j l ((g.alloc _).alloc _) A C F t E.symm w2.1.size ((VN.new g 3 #[I J t] rfl).alloc ud _) false 0).mono ?_;rintro e S c;obtain⟨U,rfl⟩:=c.ret;have Q:=qd c;clear c)|(go_at_call 242;refine(qf3 d s D op (m+1) ub _ a q new j l ((g.alloc _).alloc _) A C F t E.symm w2.1.size ((VN.new g 3 #[I J t] rfl).alloc ud _) false 0).mono ?_;rintro e S c;obtain⟨U,rfl⟩:=c.ret;have Q:=qd c;clear c)|(go_at_call 243;refine(qjz d s D op (m+1) ub _ a q new j l ((g.alloc _).alloc _) A C F t E.symm w2.1.size ((VN.new g 3 #[I J t] rfl).alloc ud _) false 0).mono ?_;rintro e S c;obtain⟨U,rfl⟩:=c.ret;have Q:=qd c;clear c)|(go_at_call 240;refine(qzj d s D op (m+1) ub _ a q new j l g A C F t E.symm).mono ?_;rintro e S c;obtain⟨U,rfl⟩:=c.ret;have Q:=qd c;clear c))
  go_ret
  first
   | (
    have:=q9 Q
    first
     | (rw[qt5]at this;exact(this.from ((P.alloc z _).alloc z _) L).d)
     | exact(this.from P L).d)
   | exact⟨((P.alloc z _).alloc z _),new,jd (by rw[q9 E]),(g.alloc _).alloc _,A,L,q9 F⟩
   | exact⟨((P.alloc z _).alloc z _),t,rfl,An ⟨rfl,((g.alloc _).alloc _).rd (uu (q9 C)) A D ub L⟩⟩
end Go.Proofs.YtdmmmgodfceilaaGreatDoor
