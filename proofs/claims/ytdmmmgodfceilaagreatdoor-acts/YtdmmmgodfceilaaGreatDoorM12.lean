/- The document's answer -/
import Derived.Test.YtdmmmgodfceilaaGreatDoorM10
set_option maxHeartbeats 16000000
set_option maxRecDepth 100000
namespace Go.Proofs.YtdmmmgodfceilaaGreatDoor
open Go.RowKit Go.Proofs.Tryz
open Go renaming Value->Ap,World->Ao
open Go.Ending renaming returned->Ak
open Go.IntKind renaming i64->J
open Go.Obj renaming cells->Al
open Go.Value renaming agg->Ai,bool->Ah,int->I,pointer->Ag,slice->C,string->Y,tuple->Aj
open Option renaming none->O,some->G
variable{t:Ast}{neg:Bool}{s:tq}{ins:List Nat}{k l ns:List RN}{ds vs:List V}{b cap i n rb:Nat}{p:Pay}{m:RN}{st:St}{x y:V}{w:Ao}
def vii(rb:Nat)(w:Ao)(ns:List RN)(er pl:Int)(e:Ending)(w':Ao):Prop:=
 e=Ak (Aj #[I J er,I J pl])/\TKept rb w w'/\∃g LN cap cs,ClW w rb g LN cap ns cs w'
theorem qbm{g d:Nat}(h0:ClW w rb g d cap ns [] w)(hne:0<ns.length)(A7:ns.length<=1000)(hf:∀i n,ns[i]?=G n->∃o,NF i n o):
  ua 97 #[Ag (G ⟨rb,0,O⟩),I J ((ns.length - 1:Nat):Int)] w (vii rb w ns (qeu (yN [] ns) (ns.length - 1)).1 (qeu (yN [] ns) (ns.length - 1)).2):=by
 obtain⟨R,hR⟩:∃r,yN [] ns=r:=⟨_,rfl⟩;rw[hR];have HR:=qd hR
 have eV:d=ns.length:=by
  obtain⟨rs,_,ho,_⟩:=h0.nodes;rw[qkv]at ho;obtain⟨_,hx|⟨g',cap',cur,e,_⟩⟩:=ho;cases hx.1;injection e with _ e2 _
 obtain⟨L,rW⟩:∃t:Nat,ns.length - 1=t:=⟨_,rfl⟩;rw[rW];have V3:L<d:=ub;have H0:=qd h0;have HF:=qd hf;have cR:=qd eV;have XT:=qd A7;clear h0 hR hf eV rW A7 hne;go_enter func97,ntmps97
 go_wp2
 go_loopw [6] (λi wr=>∃cs:List Int,cs.length<=d/\i=I J (cs.length:Int)/\Hid (R=yN cs (ns.drop cs.length))/\Hid (ClW w rb g d cap ns cs wr)) (λi _=>d - (intOf i).toNat)
 exact⟨[],bt _,rfl,qd (by rw[iq,dw,q9 HR]),H0⟩;obtain⟨cs,U4,rfl,EN,F⟩:=hrel;obtain⟨i,hi⟩:=it cs.length;have f:=qd hi;rw[hi]at U4 EN |-;clear hi;have c0:=(q9 F).c0;have A1:=(q9 F).lt;have JX:=q9 XT;have WB:=q9 cR;have VJ:d<=1000:=ub;clear JX WB
 by_cases W9:i<d
 .have UJ:=uo i d
  have O8:=um i;obtain⟨n,hn⟩:∃n,ns[cs.length]?=G n:=⟨_,ag (by have:=q9 f;have:=q9 cR;omega)⟩;obtain⟨o,eC⟩:=q9 HF _ n hn;have bG:(zH ns cs)[cs.length]?=G n:=by rw[yC,hn];simp
  obtain⟨oX,iv,lv,aV,aA,D⟩:=(q9 F).nodes.cells bG;clear oX;rw[q9 f]at D;have e0:wr.cell? ⟨g,i * 9,O⟩=G (Y (BS (qH o))):=by have:=D 0 ub;rw[sd]at this;rw[<-eC.op];exact this
  have e1:wr.cell? ⟨g,i * 9+1,O⟩=G (I J n.at'):=D 1 ub;have e2:wr.cell? ⟨g,i * 9+2,O⟩=G iv:=D 2 ub;have e3:wr.cell? ⟨g,i * 9+3,O⟩=G (Y (BS n.V)):=D 3 ub;have e4:wr.cell? ⟨g,i * 9+4,O⟩=G (Y (BS n.h)):=D 4 ub;have e5:wr.cell? ⟨g,i * 9+5,O⟩=G lv:=D 5 ub;have e6:wr.cell? ⟨g,i * 9+6,O⟩=G (I J n.K):=D 6 ub;have e7:wr.cell? ⟨g,i * 9+7,O⟩=G (Ah n.neg):=D 7 ub;have e8:wr.cell? ⟨g,i * 9+8,O⟩=G (I J n.H):=D 8 ub;obtain⟨hS,PI,mV,hgz⟩:=(q9 F).set hn (hsc o);rw[q9 f]at hS PI;obtain⟨H,bQ⟩:∃x,wnt o=x:=⟨_,rfl⟩;obtain⟨z,OT⟩:∃x,hsc o=x:=⟨_,rfl⟩;have HWN:Hid (∀w,ua 133 #[Y (BS (qH o))] w λe w'=>e=Ak (Aj #[I J H,I J z])/\w'=w):=qd λw=>by rw[<-bQ,<-OT];exact qpj o eC.o0 eC.o23 w
  rw[OT]at hS PI;have HS:=qd hS;have NJ:=qd (aV.T PI);obtain⟨w8,OE⟩:=vd6 o eC.o0 eC.o23;have B:=qd eC;have HN:=qd hn;have HWT:=qd bQ;have HHS:=qd OT;obtain⟨ia,ic,rfl⟩:=aV.form;obtain⟨la,lc,rfl⟩:=aA.form;have nr:¬rb=wr.1.size:=ub;have ng:¬g=wr.1.size:=ub;obtain⟨A,oE⟩:∃x,(pP n.ins).length=x:=⟨_,rfl⟩;obtain⟨lT,mS⟩:∃x,(qx n.P).length=x:=⟨_,rfl⟩;rw[oE]at e2 NJ;rw[mS]at e5;have iT:Hid (n.ins.length=A):=qd (by rw[<-oE];simp[pP]);have rR:=qd e1;obtain⟨W,hW⟩:=uk ((wr.setCell ⟨g,i * 9+8,O⟩ (I J z)).alloc (Al #[Y (BS (qH o)),I J n.at',C ia A ic,Y (BS n.V),Y (BS n.h),C la lT lc,I J n.K,Ah n.neg,I J n.H] 178):Ao);have lY:Below (wr.setCell ⟨g,i * 9+8,O⟩ (I J z)).1.size (wr.setCell ⟨g,i * 9+8,O⟩ (I J z)) W:=hW ▸ uj.alloc ui _
  have uO:=qd (HS.below lY);have HIW:=qd (NJ.T (TKept.of_below lY HS.lt));have eG:∀k,W.cell? ⟨wr.1.size,k,O⟩=#[Y (BS (qH o)),I J n.at',C ia A ic,Y (BS n.V),Y (BS n.h),C la lT lc,I J n.K,Ah n.neg,I J n.H][k]?:=λk=>by rw[hW,ch _ _ _ _ uc]
  have mX:W.1.size=wr.1.size+1:=by rw[hW];simp
  have HW:=qd hW;have EK:=qd mX;have b9:=qd eG;clear hn eC bG aV aA D hS PI bQ OT oE mS lY eG hW mX
  go_wp2_with(go_at_call 133;refine be (HWN _) λw1 cU=>?_;subst w1)
  rw[<-q9 HW];clear e0 e1 e2 e3 e4 e5 e6 e7 e8;obtain⟨wo,rfl⟩:=uk (wr:Ao)
  go_loopw [10] (λk wq=>∃m:Nat,m<=A/\k=I J m/\Hid (∀j q,j<m->n.ins[j]?=G q->jm H (ji cs q)=false)/\Hid (Xb W wq)) (λk _=>A - (intOf k).toNat)
  exact⟨0,bt _,rfl,qd (λj q hj=>absurd hj ub),qd uj⟩;obtain⟨m,hm,rfl,HM,BM⟩:=hrel;obtain⟨L9,oK⟩:=qk BM;have LU:=(q9 uO).below BM;have d0:wr.cell? ⟨rb,0,O⟩=G (C (G ⟨g,0,O⟩) d cap):=LU.c0;have RM:=(q9 BM).size;have f0:wr.cell? ⟨wo.1.size,0,O⟩=G (Y (BS (qH o))):=(L9 _ 0 (uu (q9 EK))).trans (b9 0);have f1:wr.cell? ⟨wo.1.size,1,O⟩=G (I J n.at'):=(L9 _ 1 (uu (q9 EK))).trans (b9 1);have f2:wr.cell? ⟨wo.1.size,2,O⟩=G (C ia A ic):=(L9 _ 2 (uu (q9 EK))).trans (b9 2);have GS:=(q9 HIW).T (TKept.of_below BM uO.lt);have IJ:=qd LU;have UC:A<=3:=by have:=q9 iT;have:=(q9 B).few;omega
  by_cases dN:m<A
  .obtain⟨q,hq⟩:∃q,n.ins[m]?=G q:=⟨_,ag (uu (q9 iT))⟩
   have SY:q<i:=by have:=(q9 B).ins q (bg hq);rwa [q9 f]at this
   obtain⟨q0,ca,CF,JG⟩:=GS.get (k:=m) (u:=I J (q:Int)) (by simp[pP,hq]);injection CF with CF D4 P9;clear D4 P9;subst CF;have U4:=LU.H (k:=q) (by simp;have:=q9 f;omega) (by simp;have:=q9 f;have:=q9 cR;omega);rw[show ji (cs++[z]) q=ji cs q by unfold ji;rw[bi,bi,cg (uu (q9 f))]]at U4;obtain⟨c,P⟩:=it (ji cs q);rw[P]at U4
   have fH:Hid (jm H c=false->∀j r,j<m+1->n.ins[j]?=G r->jm H (ji cs r)=false):=qd λhf j r hj hr=>by
    by_cases GE:j=m
    subst GE;rw[hq]at hr;injection hr with hr;subst hr;rw[P];exact hf;exact q9 HM j r ub hr
   have HE:Hid (jm H c=true->qeu R L=(4,n.at')):=qd λhf=>by
    have Q:qif cs n=true:=by
     rw[qm9 (q9 B),ff]
     left
     rw[mh];exact⟨q,bg hq,by rw[q9 HWT,P];exact hf⟩
    rw[q9 EN,<-q9 f,qdx (q9 HN),bo Q];rfl
   have wE:=um m;have mR:=uo m A;have TA:=um q;have fO:=uo q d;clear hq P L9 oK LU GS HM uO HIW EN HN
   by_cases hw:0<=H
   .by_cases m9:c=0
    .subst m9
     go_wp2
     go_quiet (fail)
     go_wp2
     go_roundw
     case rel=>exact⟨m+1,ub,by go_num,qd (fH (by unfold jm;simp)),qd (ep BM _)⟩
     simp[intOf];omega
    by_cases l9:c=H
    .have b1:(c != 0)=true:=by simpa using m9
     have b2:(c != H)=false:=by rw[l9];simp
     go_wp2
     go_quiet (fail)
     go_wp2
     go_roundw
     case rel=>exact⟨m+1,ub,by go_num,qd (fH (by unfold jm;rw[b2];simp)),qd (ep BM _)⟩
     simp[intOf];omega
    have b1:(c != 0)=true:=by simpa using m9
    have b2:(c != H)=true:=by simpa using l9
    have II:=qd (HE (by unfold jm;rw[b1,b2,di hw];rfl));clear HE fH
    go_wp2
    go_quiet (fail)
    go_wp2
    go_quiet (fail)
    go_wp2
    have LV:=λa b=>IJ.below (ep (ep (Below.refl wr.1.size wr) a) b)
    exact tw ⟨by rw[q9 II],(LV _ _).T,g,d,cap,_,LV _ _⟩
   go_wp2
   go_quiet (fail)
   go_wp2
   go_roundw
   case rel=>exact⟨m+1,ub,by go_num,qd (fH (by unfold jm;rw[db ub];simp)),qd (ep BM _)⟩
   simp[intOf];omega
  have hml':=uq m A;have hmE:m=A:=ub
  have mH:Hid (∀q∈n.ins,jm H (ji cs q)=false):=qd λq hq=>by
   obtain⟨j,hj⟩:=dd hq;exact q9 HM j q (by have:=(aj.1 hj).1;have:=q9 iT;omega) hj
  have FG:Hid ((n.ins.any λk=>jm (wnt o) (ji cs k))=false):=qd (by
   rw[oz];intro q hq
   rw[q9 HWT,q9 mH q hq];simp)
  have K:Hid (qif cs n=false->R=yN (cs++[z]) (ns.drop (cs++[z]).length)):=qd λQ=>by
   rw[q9 EN,<-q9 f,qdx (q9 HN),ak (by rw[Q];simp),B.op,qa2 B.o0 B.o23,q9 HHS,ce];rfl
  have IG:Hid (qif cs n=true->qeu R L=(4,n.at')):=qd λQ=>by
   rw[q9 EN,<-q9 f,qdx (q9 HN),bo Q];rfl
  have T:Hid ((cs++[z]).length=i+1):=qd (by rw[ce,q9 f];rfl);clear L9 oK LU HM uO EN HN hmE
  by_cases h8:o=8\/o=9
  .obtain⟨a,b,S9⟩:=(q9 B).two h8
   have oF:A=2:=by have:=q9 iT;rw[S9]at this;exact this.symm
   have hai:a<i:=by have:=(q9 B).ins a (by rw[S9];simp);rwa [q9 f]at this
   have hbi:b<i:=by have:=(q9 B).ins b (by rw[S9];simp);rwa [q9 f]at this
   obtain⟨q0,ca,CF,SZ⟩:=GS.get (k:=0) (u:=I J (a:Int)) (by simp[pP,S9]);injection CF with CF D4 P9;clear D4 P9;subst CF;obtain⟨q1,cb,CE,hqb⟩:=GS.get (k:=1) (u:=I J (b:Int)) (by simp[pP,S9]);injection CE with CE D4 P9;injection CE with CE;injection CE with CE;clear D4 P9;subst CE;have hka:=(q9 IJ).H (k:=a) (by simp;have:=q9 f;omega) (by simp;have:=q9 f;have:=q9 cR;omega);have V9:=(q9 IJ).H (k:=b) (by simp;have:=q9 f;omega) (by simp;have:=q9 f;have:=q9 cR;omega)
   have hcut:∀q,q<i->ji (cs++[z]) q=ji cs q:=λq hq=>by
    unfold ji;rw[bi,bi,cg (uu (q9 f))]
   rw[hcut a hai]at hka;rw[hcut b hbi]at V9
   have tQ:qif cs n=(ji cs a != ji cs b&&ji cs a != 0&&ji cs b != 0):=by
    rw[qm9 (q9 B),q9 FG,mx,S9];rw[show(o==8||o==9)=true by rcases h8 with e|e<;>rw[e]<;>rfl,li];rfl
   obtain⟨x,hx⟩:=it (ji cs a);obtain⟨y,hy⟩:=it (ji cs b);rw[hx]at hka tQ;rw[hy]at V9 tQ;have M:=qd tQ;have GJ:=um a;have A0:=um b;have sF:=uo a d;have A3:=uo b d;have LV:=λu=>IJ.below (ep (Below.refl wr.1.size wr) u)
   have hz:((BS (qH o)).toList==[61])=true\/(((BS (qH o)).toList==[61])=false/\((BS (qH o)).toList==[60,62])=true):=by
    rcases h8 with e|e
    left;rw[w8,e];rfl
    right;exact⟨by rw[w8,e];rfl,by rw[OE,e];rfl⟩
   subst oF;have FE:=qd LV;have NP:=qd (λu v=>IJ.below (ep (ep (Below.refl wr.1.size wr) u) v))
   have KY:(x != y)=false\/((x != y)=true/\(x != 0)=false)\/((x != y)=true/\(x != 0)=true/\(y != 0)=false)\/((x != y)=true/\(x != 0)=true/\(y != 0)=true):=by
    cases (x != y)<;>cases (x != 0)<;>cases (y != 0)<;>simp
   clear hx hy tQ hcut GS w8 OE S9 FG mH LV h8;rcases KY with X|⟨X,x2⟩|⟨X,x2,x3⟩|⟨X,x2,x3⟩
   .rcases hz with U|⟨U,z9⟩
    all_goals
     have Z:=qd (K (by rw[q9 M,X];simp));clear K IG M
     go_wp2
     go_quiet (fail)
     go_wp2
     go_quiet (fail)
     go_wp2
     go_roundw
     case rel=>exact⟨cs++[z],by rw[q9 T];omega,by rw[q9 T];go_num,Z,qd (FE _)⟩
     simp[intOf];omega
   .rcases hz with U|⟨U,z9⟩
    all_goals
     have Z:=qd (K (by rw[q9 M,X,x2];simp));clear K IG M
     go_wp2
     go_quiet (fail)
     go_wp2
     go_quiet (fail)
     go_wp2
     go_roundw
     case rel=>exact⟨cs++[z],by rw[q9 T];omega,by rw[q9 T];go_num,Z,qd (FE _)⟩
     simp[intOf];omega
   .rcases hz with U|⟨U,z9⟩
    all_goals
     have Z:=qd (K (by rw[q9 M,X,x2,x3];simp));clear K IG M
     go_wp2
     go_quiet (fail)
     go_wp2
     go_quiet (fail)
     go_wp2
     go_roundw
     case rel=>exact⟨cs++[z],by rw[q9 T];omega,by rw[q9 T];go_num,Z,qd (FE _)⟩
     simp[intOf];omega
   rcases hz with U|⟨U,z9⟩
   all_goals
    have II:=qd (IG (by rw[q9 M,X,x2,x3];rfl));clear K IG M
    go_wp2
    go_quiet (fail)
    go_wp2
    go_quiet (fail)
    go_wp2
    go_quiet (fail)
    go_wp2
    exact tw ⟨by rw[q9 II],(NP _ _).T,g,d,cap,_,q9 NP _ _⟩
  have y8:((BS (qH o)).toList==[61])=false:=by rw[w8,bh];omega
  have y9:((BS (qH o)).toList==[60,62])=false:=by rw[OE,bh];omega
  have Q:qif cs n=false:=by
   rw[qm9 (q9 B),q9 FG,mx,oy]
   left
   rw[ii,bh,bh];omega
  have Z:=qd (K Q);clear GS w8 OE Q K IG h8
  go_wp2
  go_roundw
  case rel=>exact⟨cs++[z],by rw[q9 T];omega,by rw[q9 T];go_num,Z,IJ⟩
  simp[intOf];omega
 have UJ:=uq i d;have hiL:i=d:=ub;have AX:=um L;have htl':=uo L d;have ct:=(q9 F).H (k:=L) (uu (q9 f)) (by have:=q9 f;have:=q9 cR;omega);obtain⟨c,P⟩:=it (ji cs L);rw[P]at ct
 have HE:Hid (qeu R L=if c≠0/\c≠1 then(4,0) else(0,0)):=qd (by
  rw[q9 EN,eh (uu (q9 cR)),<-P];rfl)
 clear P
 by_cases h1:c=0
 .go_wp2
  exact tw ⟨by rw[q9 HE,ak ub],F.T,g,d,cap,cs,q9 F⟩
 by_cases h2:c=1
 .go_wp2
  exact tw ⟨by rw[q9 HE,ak ub],F.T,g,d,cap,cs,q9 F⟩
 have b1:(c != 0)=true:=by simpa using h1
 have b2:(c != 1)=true:=by simpa using h2
 go_wp2
 exact tw ⟨by rw[q9 HE,bo ⟨h1,h2⟩],F.T,g,d,cap,cs,q9 F⟩
theorem qd6{n:RN}(h:(l++[n])[i]?=G m):(i<l.length/\l[i]?=G m)\/(i=l.length/\n=m):=by
 by_cases hi:i<l.length
 rw[cg hi]at h;exact .inl ⟨hi,h⟩
 right
 have d:=(aj.1 h).1;simp at d;obtain rfl:i=l.length:=ub;exact⟨rfl,by simpa using h⟩
theorem qdk(h:(l++k)[i]?=G m):(i<l.length/\l[i]?=G m)\/(l.length<=i/\k[i - l.length]?=G m):=by
 by_cases hi:i<l.length
 rw[cg hi]at h;exact .inl ⟨hi,h⟩;rw[da ub]at h;exact .inr ⟨ub,h⟩
theorem qb2(g:0<=p.op)(h:p.op<=23)(e:∀k∈ins,k<i)(f:p.op=8\/p.op=9->∃a b,ins=[a,b])(d:ins.length<=3):∃o,NF i (jC p ins neg) o:=⟨p.op,g,h,rfl,e,f,d⟩
theorem qgs:∀{t:Ast} {off:Nat} {l:List RN},Flat t off l->ShA t->∀i n,l[i]?=G n->∃o,NF (off+i) n o:=by
 intro t off l h
 induction h with
 | leaf p off=>
  intro d i n e;rcases i with _|i;obtain rfl:jC p [] false=n:=by simpa using e
  exact qb2 d.1 (uu d.2) uc (uu d.2) uc;simp at e
 | @un p x off l hx ih=>
  intro d i n e;have hp:=hx.pos;have B:=d.1;rcases qd6 e with⟨v,g⟩|⟨rfl,rfl⟩;exact ih d.2.2.2 i n g;exact qb2 ub ub ud ub uc
 | @bin p x y off l k hx hy ihx ihy=>
  intro d i n e;have hp:=hx.pos;have hq:=hy.pos;have B:=d.1;rcases qd6 e with⟨v,g⟩|⟨rfl,rfl⟩
  .rcases qdk g with⟨u,f⟩|⟨u,f⟩
   exact ihx d.2.1 i n f;have:=ihy d.2.2 (i - l.length) n f;rwa [show off+l.length+(i - l.length)=off+i by omega]at this
  exact qb2 ub ub ud (λ_=>⟨_,_,rfl⟩) uc
 | @tri p x y z off l k r hx hy hz ihx ihy ihz=>
  intro d i n e;have hp:=hx.pos;have hq:=hy.pos;have C:=hz.pos;have B:=d.1;rcases qd6 e with⟨v,g⟩|⟨rfl,rfl⟩
  .rcases qdk g with⟨u,f⟩|⟨u,f⟩
   .rcases qdk f with⟨A,j⟩|⟨A,j⟩
    exact ihx d.2.1 i n j;have:=ihy d.2.2.1 (i - l.length) n j;rwa [show off+l.length+(i - l.length)=off+i by omega]at this
   have:=ihz d.2.2.2 (i - (l++k).length) n f;simp only[ce]at u;rwa [show off+l.length+k.length+(i - (l++k).length)=off+i by simp;omega]at this
  exact qb2 ub ub ud ub uc
 | @neg1 pl q x off l hq hx ih=>
  intro d i n e;have hp:=hx.pos;obtain⟨_,_,_,d⟩:=d;rcases qd6 e with⟨v,g⟩|⟨rfl,rfl⟩;exact ih d.2.2.2 i n g;exact qb2 ub ub ud ub uc
 | @neg3 pl q x y z off l k r hq hx hy hz ihx ihy ihz=>
  intro d i n e;have hp:=hx.pos;have D:=hy.pos;have C:=hz.pos;obtain⟨_,_,_,d⟩:=d;rcases qd6 e with⟨v,g⟩|⟨rfl,rfl⟩
  .rcases qdk g with⟨u,f⟩|⟨u,f⟩
   .rcases qdk f with⟨A,j⟩|⟨A,j⟩
    exact ihx d.2.1 i n j;have:=ihy d.2.2.1 (i - l.length) n j;rwa [show off+l.length+(i - l.length)=off+i by omega]at this
   have:=ihz d.2.2.2 (i - (l++k).length) n f;simp only[ce]at u;rwa [show off+l.length+k.length+(i - (l++k).length)=off+i by simp;omega]at this
  exact qb2 ub ub ud ub uc
theorem qkd(h:(lvl s 12).E (qh s st0)=.ok t st):ShA t:=by
 obtain⟨L,j⟩:=qgm _ s.data.toList ui;have o:Str s (qh s st0) L:=qe5 j st0 (bt _) (dw);have q:=qG s st0 (bt _);have g:=(qpn s 12).E (qh s st0) ⟨L,0⟩ q o rfl;rcases g.cases with⟨f,v,ts,d,e,_⟩|⟨u,r,d,e⟩;rw[d]at h;injection h with h _;subst h;exact qre f ((vhm 12).E _ _ _ e).1;rw[d]at h;cases h
theorem qw1(h:Flat t 0 ns)(e:ShA t):qeu (yN [] ns) (ns.length - 1)=match quu (qy t) with
  | none=>(0,0)
  | some q=>(4,q):=by
 have d:=vct h e [] rfl
 cases U4:qy t with
 | err q=>
  rw[U4]at d;have d:yN [] ns=.inl q:=d;rw[d];rfl
 | ok c=>
  rw[U4]at d;obtain⟨ds,g,j,f⟩:=d;rw[g,lj];show(if ds.getD (ns.length - 1) 0≠0/\ds.getD (ns.length - 1) 0≠1 then((4:Int),(0:Int)) else(0,0))=_;rw[f];rcases c4 (pu t c U4) with rfl|rfl|rfl|rfl<;>rfl
theorem RT.clw{j:Nat}(h:RT w rb s ns j st)(d:0<ns.length):∃g LN cap,ClW w rb g LN cap ns [] w:=by
 obtain⟨o,e,f,_⟩:=h;obtain⟨g,cap,rfl,_⟩:=f.opAt (i:=0) (n:=ns[0]) (ag d);exact⟨g,ns.length,cap,e.c0,by rw[qkv];exact f,TKept.refl rb w,e.lt⟩
theorem RE.c9{e d:Int}{op m:Nat}(h:RE w rb s e d op m):Xc w rb 9 (I J d):=by obtain⟨f,a,ns,h,_⟩:=h;exact h.c9
def qeh(n:RN):Pay:=⟨qns n.op,n.at',n.K,n.V,n.h,n.P⟩
theorem yr(d:0<=p.op)(e:p.op<=23):qeh (jC p ins neg)=p:=by
 show(⟨qns (qH p.op),p.M,p.K,p.V,p.h,p.P⟩:Pay)=p;rw[qa2 d e]
def qgu(ps:List Pr)(vs:List V)(n:RN):V:=if n.neg=true then yq (ofN ps (qeh n) (n.ins.map λk=>vs.getD k nV)) else ofN ps (qeh n) (n.ins.map λk=>vs.getD k nV)
def pk(ps:List Pr):List V->List RN->List V
 | vs,[]=>vs
 | vs,n::t=>pk ps (vs++[qgu ps vs n]) t
theorem qab(ps:List Pr)(vs:List V)(l k:List RN):pk ps vs (l++k)=pk ps (pk ps vs l) k:=by
 induction l generalizing vs with
 | nil=>rfl
 | cons n t ih=>rw[dk,pk,pk];exact ih _
theorem vg3(ps:List Pr):∀(l:List RN) (vs:List V),(pk ps vs l).length=vs.length+l.length:=by
 intro l
 induction l with
 | nil=>intro vs;rfl
 | cons n t ih=>intro vs;rw[pk,ih];simp;omega
theorem qxx(ps:List Pr)(vs:List V)(n:RN)(c:Int):qgu ps vs { n with H:=c }=qgu ps vs n:=rfl
def qv1(ps:List Pr)(vs:List V)(l:List RN)(x:V):Prop:=∃ds,pk ps vs l=vs++ds/\ds.length=l.length/\ds.getD (l.length - 1) nV=x
theorem qgf{es:List V}{k:Nat}(h:vs.length<=k)(d:k<vs.length+ds.length):(vs++ds++es).getD k nV=ds.getD (k - vs.length) nV:=by
 rw[bi,bi,bu,da h,cg ub]
theorem qge{k:Nat}(h:vs.length<=k)(d:k<vs.length+ds.length):(vs++ds).getD k nV=ds.getD (k - vs.length) nV:=by
 have:=qgf (vs:=vs) (ds:=ds) (es:=[]) h d;rwa [fw]at this
theorem vr5(l:List V)(v:V):(l++[v]).getD l.length nV=v:=uc
theorem qap{ps:List Pr}{n:RN}(h:pk ps vs l=vs++ds)(hd:ds.length=l.length)(d:qgu ps (vs++ds) n=x):qv1 ps vs (l++[n]) x:=by
 refine⟨ds++[x], ?_,by simp[hd], ?_⟩;rw[qab,h,pk,pk,d,bu];rw[show(l++[n]).length - 1=ds.length by simp[hd],vr5]
section
variable {ps:List Pr} {vs:List V} {off:Nat} {p:Pay} {neg:Bool}
theorem vbh(hv:vs.length=off)(r:0<l.length)(o:0<=p.op)(q:p.op<=23)(d:qv1 ps vs l x):qv1 ps vs (l++[jC p [off+l.length - 1] neg]) (if neg=true then yq (ofN ps p [x]) else ofN ps p [x]):=by
 obtain⟨ds,j,g,f⟩:=d;refine qap j g ?_;have e:(vs++ds).getD (off+l.length - 1) nV=x:=by rw[qge ub ub,show off+l.length - 1 - vs.length=l.length - 1 by omega];exact f
 unfold qgu;rw[yr o q];show(if neg=true then yq (ofN ps p [(vs++ds).getD (off+l.length - 1) nV]) else ofN ps p [(vs++ds).getD (off+l.length - 1) nV])=_;rw[e]
theorem vh1(hv:vs.length=off)(C:0<l.length)(D:0<k.length)(r:0<=p.op)(B:p.op<=23)(f:qv1 ps vs l x)(e:∀ds:List V,ds.length=l.length->qv1 ps (vs++ds) k y):qv1 ps vs (l++k++[jC p [off+l.length - 1,off+l.length+k.length - 1] false]) (ofN ps p [x,y]):=by
 obtain⟨ds,q,d,o⟩:=f;obtain⟨es,z,v,u⟩:=e ds d;have A:pk ps vs (l++k)=vs++(ds++es):=by rw[qab,q,z,bu]
 refine qap A (by simp[d,v]) ?_;have j:(vs++(ds++es)).getD (off+l.length - 1) nV=x:=by rw[<-bu,qgf ub ub,show off+l.length - 1 - vs.length=l.length - 1 by omega];exact o
 have g:(vs++(ds++es)).getD (off+l.length+k.length - 1) nV=y:=by rw[<-bu,qge ud ud,show off+l.length+k.length - 1 - (vs++ds).length=k.length - 1 by simp;omega];exact u
 unfold qgu;rw[yr r B];show ofN ps p [(vs++(ds++es)).getD (off+l.length - 1) nV,(vs++(ds++es)).getD (off+l.length+k.length - 1) nV]=_;rw[j,g]
theorem qrn{r:List RN}{z:V}(hv:vs.length=off)(M:0<l.length)(O:0<k.length)(P:0<r.length)(C:0<=p.op)(K:p.op<=23)(o:qv1 ps vs l x)(j:∀ds:List V,ds.length=l.length->qv1 ps (vs++ds) k y)(g:∀ds:List V,ds.length=l.length+k.length->qv1 ps (vs++ds) r z):
  qv1 ps vs (l++k++r++[jC p [off+l.length - 1,off+l.length+k.length - 1,off+l.length+k.length+r.length - 1] neg]) (if neg=true then yq (ofN ps p [x,y,z]) else ofN ps p [x,y,z]):=by
 obtain⟨ds,B,e,A⟩:=o;obtain⟨es,F,f,D⟩:=j ds e;have J:pk ps vs (l++k)=vs++(ds++es):=by rw[qab,B,F,bu]
 obtain⟨d,I,H,G⟩:=g (ds++es) (by simp[e,f]);have L:pk ps vs (l++k++r)=vs++(ds++es++d):=by rw[qab,J,I,bu]
 refine qap L (by simp[e,f,H]) ?_
 have v:(vs++(ds++es++d)).getD (off+l.length - 1) nV=x:=by
  rw[bu ds,<-bu vs,qgf ub ub,show off+l.length - 1 - vs.length=l.length - 1 by omega];exact A
 have u:(vs++(ds++es++d)).getD (off+l.length+k.length - 1) nV=y:=by
  rw[bu ds,<-bu vs,<-bu (vs++ds),qgf ud ud,show off+l.length+k.length - 1 - (vs++ds).length=k.length - 1 by simp;omega];exact D
 have q:(vs++(ds++es++d)).getD (off+l.length+k.length+r.length - 1) nV=z:=by
  rw[<-bu vs,qge ud ud,show off+l.length+k.length+r.length - 1 - (vs++(ds++es)).length=r.length - 1 by simp;omega];exact G
 unfold qgu;rw[yr C K];show(if neg=true then yq (ofN ps p [(vs++(ds++es++d)).getD (off+l.length - 1) nV,(vs++(ds++es++d)).getD (off+l.length+k.length - 1) nV,(vs++(ds++es++d)).getD (off+l.length+k.length+r.length - 1) nV]) else ofN ps p [(vs++(ds++es++d)).getD (off+l.length - 1) nV,(vs++(ds++es++d)).getD (off+l.length+k.length - 1) nV,(vs++(ds++es++d)).getD (off+l.length+k.length+r.length - 1) nV])=_;rw[v,u,q]
end
theorem vh2(ps:List Pr):∀{t:Ast} {off:Nat} {l:List RN},Flat t off l->ShA t->∀vs:List V,vs.length=off->qv1 ps vs l (ofA ps t):=by
 intro t off l h
 induction h with
 | leaf p off=>
  intro d vs hv;have f:=d.1;have g:=d.2;refine qap (l:=[]) (ds:=[]) (by rw[fw];rfl) rfl ?_;unfold qgu;rw[yr f ub];rfl
 | un p hx ih=>
  intro d vs hv;have e:=d.1;exact vbh (neg:=false) hv hx.pos ub ub (ih d.2.2.2 vs hv)
 | bin p hx hy ihx ihy=>
  intro d vs hv;have e:=d.1;exact vh1 hv hx.pos hy.pos ub ub (ihx d.2.1 vs hv) (λds hd=>ihy d.2.2 (vs++ds) ud)
 | tri p hx hy hz ihx ihy ihz=>
  intro d vs hv;have e:=d.1;exact qrn (neg:=false) hv hx.pos hy.pos hz.pos ub ub (ihx d.2.1 vs hv) (λds hd=>ihy d.2.2.1 (vs++ds) ud) (λds hd=>ihz d.2.2.2 (vs++ds) ud)
 | neg1 pl q hq hx ih=>
  intro d vs hv;obtain⟨_,_,_,d⟩:=d;exact vbh (neg:=true) hv hx.pos ub ub (ih d.2.2.2 vs hv)
 | neg3 pl q hq hx hy hz ihx ihy ihz=>
  intro d vs hv;obtain⟨_,_,_,d⟩:=d;exact qrn (neg:=true) hv hx.pos hy.pos hz.pos ub ub (ihx d.2.1 vs hv) (λds hd=>ihy d.2.2.1 (vs++ds) ud) (λds hd=>ihz d.2.2.2 (vs++ds) ud)
theorem vg2(ps:List Pr)(ns:List RN)(cs:List Int)(vs:List V):pk ps vs (zH ns cs)=pk ps vs ns:=by
 unfold zH
 have key:∀(l:List RN) (k:Nat) (vs:List V),pk ps vs ((l.zipIdx k).map λx=>{ x.1 with H:=if x.2<cs.length then cs.getD x.2 0 else x.1.H })=pk ps vs l:=by
  intro l
  induction l with
  | nil=>intro k vs;rfl
  | cons n t ih=>
   intro k vs;rw[List.zipIdx_cons,fu,pk,pk,qxx];exact ih _ _
 exact key ns 0 vs
section
variable {w:Ao} {a N c:Int} {iv lv inv ev:Ap} {S E:tq} {neg:Bool}
theorem vg5:ut 98 #[Ai #[Y ⟨#[110,117,109,98,101,114]⟩,I J a,iv,Y S,Y E,lv,I J N,Ah neg,I J c],inv,ev] w (vV (iV N)):=by
 go_enter func98,ntmps98
 go_wp2
 exact tw ⟨rfl,(uj.alloc ui _).alloc uc _⟩
theorem vg6:ut 98 #[Ai #[Y ⟨#[116,101,120,116]⟩,I J a,iv,Y S,Y E,lv,I J N,Ah neg,I J c],inv,ev] w (vV (tV S.data.toList)):=by
 go_enter func98,ntmps98
 go_wp2
 exact tw ⟨rfl,(uj.alloc ui _).alloc uc _⟩
theorem vg7:ut 98 #[Ai #[Y ⟨#[84,82,85,69]⟩,I J a,iv,Y S,Y E,lv,I J N,Ah neg,I J c],inv,ev] w (vV (bV true)):=by
 go_enter func98,ntmps98
 go_wp2_with(go_at_call 69;refine be (vQ _ _) λw' d=>?_;obtain⟨e,f⟩:=qk d;simp only[vV])
 refine bj (by simp[go_sem,e]<;>rfl) rfl ⟨rfl, ?_⟩;exact((((qg (qK _ _ _) d).setCell uc _).setCell uc _).setCell uc _)
theorem vg8:ut 98 #[Ai #[Y ⟨#[70,65,76,83,69]⟩,I J a,iv,Y S,Y E,lv,I J N,Ah neg,I J c],inv,ev] w (vV (bV false)):=by
 go_enter func98,ntmps98
 go_wp2_with(go_at_call 69;refine be (vQ _ _) λw' d=>?_;obtain⟨e,f⟩:=qk d;simp only[vV])
 refine bj (by simp[go_sem,e]<;>rfl) rfl ⟨rfl, ?_⟩;exact((((qg (qK _ _ _) d).setCell uc _).setCell uc _).setCell uc _)
theorem vg4{v:V}(h:∀w2,Xb w w2->ut 134 #[ev,Y S] w2 (vV v)):ut 98 #[Ai #[Y ⟨#[110,97,109,101]⟩,I J a,iv,Y S,Y E,lv,I J N,Ah neg,I J c],inv,ev] w (vV v):=by
 have H:=qd h;clear h;go_enter func98,ntmps98
 go_wp2_with(go_at_call 134;refine be (H _ (qK _ _ _)) λw' d=>?_;obtain⟨e,f⟩:=qk d;simp only[vV])
 refine bj (by simp[go_sem,e]<;>rfl) rfl ⟨rfl, ?_⟩;exact((((qg (qK _ _ _) d).setCell uc _).setCell uc _).setCell uc _)
theorem vg9(o:0<n)(u:b<w.1.size)(j:Xc w b 0 (I J x.A))(g:Xc w b 1 (I J x.K))(f:Xc w b 2 (Y (BS x.V))):
  ut 98 #[Ai #[Y ⟨#[78,79,84]⟩,I J a,iv,Y S,Y E,lv,I J N,Ah neg,I J c],C (G ⟨b,0,O⟩) n cap,ev] w (vV (yq x)):=by
 have r:=ur n;have RN:=qd (λw=>qhn x w);simp only[vV]at RN;go_enter func98,ntmps98
 go_wp2_with(go_at_call 99;refine be (RN _) λw' d=>?_;obtain⟨e,q⟩:=qk d)
 refine bj (by simp[go_sem,e]<;>rfl) rfl ⟨rfl, ?_⟩;exact((((qg (qK _ _ _) d).setCell uc _).setCell uc _).setCell uc _)
end
section
variable {w:Ao} {a N c:Int} {iv lv ev:Ap} {S E:tq} {neg:Bool}
theorem va3(g:0<n)(q:b<w.1.size)(f:Xc w b 0 (I J x.A)):
  ut 98 #[Ai #[Y ⟨#[78,85,76,76]⟩,I J a,iv,Y S,Y E,lv,I J N,Ah neg,I J c],C (G ⟨b,0,O⟩) n cap,ev] w (vV (bV (x.A==0))):=by
 have o:=ur n;go_enter func98,ntmps98
 go_wp2_with(go_at_call 69;refine be (vQ _ _) λw' d=>?_;obtain⟨e,j⟩:=qk d;simp only[vV])
 refine bj (by simp[go_sem,e]<;>rfl) rfl ⟨rfl, ?_⟩;exact((((qg (qK _ _ _) d).setCell uc _).setCell uc _).setCell uc _)
theorem vga(v:1<n)(B:b<w.1.size)(r:Xc w b 0 (I J x.A))(q:Xc w b 1 (I J x.K))(o:Xc w b 2 (Y (BS x.V)))(j:Xc w b 3 (I J y.A))(g:Xc w b 4 (I J y.K))(f:Xc w b 5 (Y (BS y.V))):
  ut 98 #[Ai #[Y ⟨#[65,78,68]⟩,I J a,iv,Y S,Y E,lv,I J N,Ah neg,I J c],C (G ⟨b,0,O⟩) n cap,ev] w (vV (qi3 x y)):=by
 have A:=ur n;have u:(1:Int)<(n:Int):=ub;have RN:=qd (λw=>qr0 x y w);simp only[vV]at RN;go_enter func98,ntmps98
 go_wp2
 go_region_with(go_at_call 136;refine be (RN _) λw' d=>?_;obtain⟨e,z⟩:=qk d)
 all_goals go_wp2
 all_goals refine bj (by simp[go_sem,e]<;>rfl) rfl ⟨rfl, ?_⟩
 all_goals exact((((qg (qK _ _ _).drew d).setCell uc _).setCell uc _).setCell uc _)
theorem vgb(v:1<n)(B:b<w.1.size)(r:Xc w b 0 (I J x.A))(q:Xc w b 1 (I J x.K))(o:Xc w b 2 (Y (BS x.V)))(j:Xc w b 3 (I J y.A))(g:Xc w b 4 (I J y.K))(f:Xc w b 5 (Y (BS y.V))):
  ut 98 #[Ai #[Y ⟨#[79,82]⟩,I J a,iv,Y S,Y E,lv,I J N,Ah neg,I J c],C (G ⟨b,0,O⟩) n cap,ev] w (vV (orV x y)):=by
 have A:=ur n;have u:(1:Int)<(n:Int):=ub;have RN:=qd (λw=>qzk x y w);simp only[vV]at RN;go_enter func98,ntmps98
 go_wp2
 go_region_with(go_at_call 137;refine be (RN _) λw' d=>?_;obtain⟨e,z⟩:=qk d)
 all_goals go_wp2
 all_goals refine bj (by simp[go_sem,e]<;>rfl) rfl ⟨rfl, ?_⟩
 all_goals exact((((qg (qK _ _ _).drew d).setCell uc _).setCell uc _).setCell uc _)
theorem vgc(v:1<n)(B:b<w.1.size)(r:Xc w b 0 (I J x.A))(q:Xc w b 1 (I J x.K))(o:Xc w b 2 (Y (BS x.V)))(j:Xc w b 3 (I J y.A))(g:Xc w b 4 (I J y.K))(f:Xc w b 5 (Y (BS y.V))):
  ut 98 #[Ai #[Y ⟨#[61]⟩,I J a,iv,Y S,Y E,lv,I J N,Ah neg,I J c],C (G ⟨b,0,O⟩) n cap,ev] w (vV (eqV x y)):=by
 have A:=ur n;have u:(1:Int)<(n:Int):=ub;have RN:=qd (λw=>qb7 x y w);simp only[vV]at RN;go_enter func98,ntmps98
 go_wp2
 go_region_with(go_at_call 138;refine be (RN _) λw' d=>?_;obtain⟨e,z⟩:=qk d)
 all_goals go_wp2
 all_goals refine bj (by simp[go_sem,e]<;>rfl) rfl ⟨rfl, ?_⟩
 all_goals exact((((qg (qK _ _ _).drew d).setCell uc _).setCell uc _).setCell uc _)
end
end Go.Proofs.YtdmmmgodfceilaaGreatDoor
