/- The document's answer -/
import Derived.Test.YtdmmmgodfceilaaGreatDoorM28
import Derived.Test.YtdmmmgodfceilaaGreatDoorM21
set_option maxHeartbeats 32000000
set_option maxRecDepth 100000
namespace Go.Proofs.YtdmmmgodfceilaaGreatDoor
open Go.RowKit Go.Proofs.Tryz
open Go renaming Value->Ap,World->Ao
open Go.Ending renaming returned->Ak
open Go.IntKind renaming i64->J
open Go.Obj renaming cells->Al
open Go.Value renaming agg->Ai,bool->Ah,int->I,pointer->Ag,slice->C,string->Y,tuple->Aj
open Option renaming none->O,some->G
open Or renaming inl->Am,inr->An
variable{t:Ast}{s:tq}{id n:Int}{ss:List tu}{hs:List (Nat×Nat)}{E:List Co}{ps:List Pr}{fs:List RF}{ns:List RN}{R:List Ru}{L:List Su}{Z:List Zu}{LN base cap g i k mb rb:Nat}{F R':Nat->Prop}{a:Option Addr}{f:RF}{hv v:Ap}{W Ad w:Ao}{z:Zu}
section
attribute [local go_sem ↓] vsj
theorem qss:(prog.info? 106).map (λi=>(i.zero,i.size,i.bytes))=G (G (Ai #[Y ⟨#[]⟩,Y ⟨#[]⟩,I J 0,C O 0 0,C O 0 0,C O 0 0]),6,112):=uh
def RfRow(w:Ao)(base:Nat)(v:Ap)(fs:List RF):Prop:=w.ownsRow base 106 6 v fs.length (fs.flatMap qw)
theorem RfRow.nil(w:Ao)(base:Nat):RfRow w base (C O 0 0) []:=dy _ _ _ _
theorem RfRow.below{w':Ao}(h:RfRow w base v fs)(c:Xb w w'):RfRow w' base v fs:=qE h c ui
theorem RfRow.form(h:RfRow w base v fs):∃a c,v=C a fs.length c:=by
 rcases h.2 with⟨rfl,d⟩|⟨g,cap,cur,rfl,_⟩;exact⟨O,0,by rw[d]⟩;exact⟨_,_,rfl⟩
theorem RfRow.all(h:RfRow w base v fs)(c:fs≠[]):∃g cap,v=C (G ⟨g,0,O⟩) fs.length cap/\base<=g/\g<w.1.size/\∀k,k<fs.length * 6->w.cell? ⟨g,k,O⟩=(fs.flatMap qw)[k]?:=by
 have j:=h;rcases h.2 with⟨rfl,e⟩|⟨g,cap,cur,rfl,l,m,_⟩;exact absurd (de e) c;exact⟨g,cap,rfl,l,(cf.1 m).1,λk d=>World.ownsRow.cellAt j k d⟩
theorem RfRow.cell(h:RfRow w base v fs)(c:fs[i]?=G f):∃g cap,v=C (G ⟨g,0,O⟩) fs.length cap/\base<=g/\g<w.1.size/\∀j,j<6->w.cell? ⟨g,i * 6+j,O⟩=(qw f)[j]?:=by
 have q:=(aj.1 c).1;obtain⟨g,cap,e,o,m,l⟩:=h.all (by intro e;rw[e]at c;cases c);exact⟨g,cap,e,o,m,λj d=>(l (i * 6+j) ub).trans (vp2 qw 6 (λ_=>rfl) fs i f c j d)⟩
theorem RfRow.app(h:RfRow W base v fs)(r:base<=W.1.size)(x:RF)(hn:fs.length<=1000)(H:Nat)(u:W.1.size=H):
  ∃g cap w5,(qe9 #[104,104] 104 #[v,C (G ⟨H,0,O⟩) 1 1]).run prog (W.alloc (Al #[Y x.op,Y (BS x.Q),I J x.H,C x.pa x.pn x.pc,C x.ta x.tn x.tc,C x.ra x.rn x.rc] 106))=.ok (C (G ⟨g,0,O⟩) (fs.length+1) cap) w5 /\
   Hid (RfRow w5 base (C (G ⟨g,0,O⟩) (fs.length+1) cap) (fs++[x]))/\Hid (Below base W w5)/\Hid (∀b,b<W.1.size->v.ownBlock≠G b->w5.1[b]?=W.1[b]?)/\Hid (v.ownBlock=G g\/W.1.size<g)/\Hid (W.1.size<=w5.1.size):=by
 subst u;obtain⟨l,q,D,S,Q⟩:=info_parts qss;have j:=World.ownsRow.alloc h (Al #[Y x.op,Y (BS x.Q),I J x.H,C x.pa x.pn x.pc,C x.ta x.tn x.tc,C x.ra x.rn x.rc] 106);obtain⟨g,cap,w5,m,T,d,K,_⟩:=run_append_lies (P:=prog) (W.alloc (Al #[Y x.op,Y (BS x.Q),I J x.H,C x.pa x.pn x.pc,C x.ta x.tn x.tc,C x.ra x.rn x.rc] 106)) 104 104 base 106 l _ 6 112 underlying104 q D S Q rfl ub v fs.length _ j
  ⟨W.1.size,0,O⟩ 1 1 (qw x) rfl (World.news_of_block (cs:=#[Y x.op,Y (BS x.Q),I J x.H,C x.pa x.pn x.pc,C x.ta x.tn x.tc,C x.ra x.rn x.rc]) (t:=106) (fr:=(0,0)) (heap_alloc_new W _)) (by simp[qw,Value.oneCell']) ub (by unfold maxLen;omega) ub ud _ rfl
 refine⟨g,cap,w5,m,qd ?_,qd ?_,qd ?_,qd ?_,qd ?_⟩
 .show World.ownsRow _ _ _ _ _ _ _
  rw[ce,du,mt];simpa using T
 exact Go.RowKit.Below.grown (((Below.refl base W).alloc r _)) d ud (λk o=>(j.lt k o).1);intro b y c;exact(d.block b ud (λe=>c e.symm)).trans (((Below.refl W.1.size W).alloc ui _).block b y);rcases K with h|h;exact Am h
 right;rw[h];simp
 have:=d.size;simp at this;omega
structure ClAt(w wr:Ao)(av:Ap)(cs:List Co)(fs:List RF):Prop where
 row:RfRow wr (w.1.size+1) av fs
 co:CsOf (λb=>w.1.size+1<=b/\av.ownBlock≠G b) wr cs fs
 u:Below (w.1.size+1) (w.alloc zoC) wr
section
variable {w wr w':Ao} {av:Ap} {cs:List Co} {fs:List RF}
theorem ClAt.bel0(h:ClAt w wr av cs fs):Xb w wr:=(uj.alloc ui _).trans (h.u.mono (Nat.le_succ _))
theorem ClAt.size(h:ClAt w wr av cs fs):w.1.size+1<=wr.1.size:=by have:=h.u.size;simpa using this
theorem ClAt.below(h:ClAt w wr av cs fs)(c:Xb wr w'):ClAt w w' av cs fs:=⟨h.row.below c,h.co.below c,h.u.trans (c.mono h.size)⟩
theorem ClAt.blk(h:ClAt w wr av cs fs){b:Nat}(c:av.ownBlock=G b):b<wr.1.size:=(h.row.lt b c).2
theorem ClAt.snoc(h:ClAt w wr av cs fs){c:Co}{j:Ap}{n:Nat}{w5:Ao}(D:RfAt (λb=>w.1.size+1<=b/\av.ownBlock≠G b) wr c f)(y:j=C (G ⟨g,0,O⟩) n cap)(I:RfRow w5 (w.1.size+1) j (fs++[f]))(H:Below (w.1.size+1) wr w5)(x:∀b,b<wr.1.size->av.ownBlock≠G b->w5.1[b]?=wr.1[b]?)(q:av.ownBlock=G g\/wr.1.size<g)(u:wr.1.size<=w5.1.size):ClAt w w5 j (cs++[c]) (fs++[f]):=by
 have r:∀b,(w.1.size+1<=b/\av.ownBlock≠G b)->b<wr.1.size->(w.1.size+1<=b/\j.ownBlock≠G b):=λb l o=>⟨l.1,λe=>by
  rw[y]at e;have e:g=b:=by simpa [Value.ownBlock]using e
  subst e;rcases q with q|q;exact l.2 q
  omega⟩
 refine⟨I,⟨by simp[h.co.1],λi d k hd m=>?_⟩,h.u.trans H⟩;have J:=h.co.1
 by_cases hi:i<cs.length
 rw[cg hi]at hd;rw[cg ub]at m;exact(h.co.2 i d k hd m).keep (λb l o=>x b o l.2) u r;rw[da ub]at hd;rw[da ub]at m
 have e:i=cs.length:=by
  have:=(aj.1 hd).1;simp at this;omega
 subst e;rw[ld]at hd;rw[J,ld]at m;obtain rfl:c=d:=by simpa using hd
 obtain rfl:f=k:=by simpa using m
 exact D.keep (λb l o=>x b o l.2) u r
end
def rf0:RF:=⟨⟨#[]⟩,[],0,O,0,0,O,0,0,O,0,0⟩
theorem qtx(c0:w.cell? ⟨rb,0,O⟩=G (C (G ⟨g,0,O⟩) LN cap))(hN:NodesAt w rb (C (G ⟨g,0,O⟩) LN cap) ns)(aM:rb<w.1.size)(hne:0<ns.length)(A7:ns.length<=1000)
  (hf:∀i n,ns[i]?=G n->∃o,NF i n o) (hg:∀n∈ns,∃p,NG n p) (M6:qm2 [] ns) :
  ua 56 #[Ag (G ⟨rb,0,O⟩)] w (xI (λ_=>False) w ((gB [] ns).getD (ns.length - 1) nC)):=by
 have eV:LN=ns.length:=by
  obtain⟨rs,_,ho,_⟩:=hN;obtain⟨_,T|⟨g',cap',cur,e,_⟩⟩:=ho;cases T.1;injection e with _ e2 _
 have mV:g<w.1.size:=by
  obtain⟨rs,_,ho,_⟩:=hN;exact(ho.lt g rfl).2
 obtain⟨R,hR⟩:∃r,(gB [] ns).getD (ns.length - 1) nC=r:=⟨_,rfl⟩;rw[hR];have HR:Hid ((gB [] (ns.take LN)).getD (LN - 1) nC=R):=qd (by rw[eV,im];exact hR);have HN:=qd hN;have HF:=qd hf;have HG:=qd hg;have cR:=qd eV;have rG:=qd M6;have aN:0<LN:=ub;have LZ:LN<=1000:=ub;clear hN hf hg eV hR hne A7 M6;go_enter func56,ntmps56
 go_wp2
 go_loopw [3,4] (λav i wr=>∃k:Nat,k<=LN/\i=I J k/\∃fs,Hid (ClAt w wr av (gB [] (ns.take k)) fs)) (λ_ i _=>LN - (intOf i).toNat)
 exact⟨0,bt _,rfl,[],qd ⟨RfRow.nil _ _,⟨rfl,λi c f h=>by simp[gB]at h⟩,uj⟩⟩;obtain⟨k,hk,rfl,fs,d⟩:=hrel;obtain⟨cs,I6⟩:=it (gB [] (ns.take k));rw[I6]at d;have fM:fs.length=k:=by rw[(q9 d).co.1,<-I6,vg1];have:=q9 cR;simp;omega
 have uF:=qd I6;have GY:=qd fM;have dG:=(q9 d).bel0;have Y6:=(q9 d).size;have d0:wr.cell? ⟨rb,0,O⟩=G (C (G ⟨g,0,O⟩) LN cap):=((qk dG).1 _ 0 aM).trans c0;have Y7:rb<wr.1.size:=ub
 by_cases A1:k<LN
 .obtain⟨n,hn⟩:∃n,ns[k]?=G n:=⟨_,ag (uu (q9 cR))⟩
  obtain⟨o,eC⟩:=q9 HF k n hn;have bH:=eC.ins;have J1:=eC.few;have tE:=vmu rG hn I6;obtain⟨p,⟨ins,neg,c,rfl,OZ⟩,BQ,fQ,cX,eH,lV⟩:=q9 HG n (bg hn);have BL:qeh { jC p ins neg with H:=c }=p:=yr (ins:=ins) (neg:=neg) BQ fQ;obtain⟨xs,mJ⟩:∃xs,ins.map (λq=>cs.getD q nC)=xs:=⟨_,rfl⟩
  have I5:NdC p neg xs:=by
   rw[BL]at tE;have e:viu cs { jC p ins neg with H:=c }=xs:=mJ;rw[e]at tE;exact tE
  have wO:=(q9 HN).below aM dG;obtain⟨oX,iv,lv,oH,oA,U7⟩:=wO.cells hn;have aV:RowOf wr rb 3 iv (pP ins):=oH;have aA:RowOf wr rb 9 lv (qx p.P):=oA;have bH:∀q∈ins,q<k:=bH;clear oX oH oA tE;have e0:wr.cell? ⟨g,k * 9,O⟩=G (Y (BS (qH p.op))):=by have:=U7 0 ub;rw[sd]at this;exact this
  have e1:wr.cell? ⟨g,k * 9+1,O⟩=G (I J p.M):=U7 1 ub;have e2:wr.cell? ⟨g,k * 9+2,O⟩=G iv:=U7 2 ub;have e3:wr.cell? ⟨g,k * 9+3,O⟩=G (Y (BS p.V)):=U7 3 ub;have e4:wr.cell? ⟨g,k * 9+4,O⟩=G (Y (BS p.h)):=U7 4 ub;have e5:wr.cell? ⟨g,k * 9+5,O⟩=G lv:=U7 5 ub;have e6:wr.cell? ⟨g,k * 9+6,O⟩=G (I J p.K):=U7 6 ub;have e7:wr.cell? ⟨g,k * 9+7,O⟩=G (Ah neg):=U7 7 ub;have e8:wr.cell? ⟨g,k * 9+8,O⟩=G (I J c):=U7 8 ub;have MP:=qd aA.txt;obtain⟨ia,ic,rfl,JU⟩:=aV.nums;obtain⟨la,lc,rfl,_⟩:=aA.txt;obtain⟨u,IT⟩:∃u,ins.map (λq=>fs.getD q rf0)=u:=⟨_,rfl⟩;have AU:u.length=ins.length:=by rw[<-IT,cd]
  obtain⟨aa,ac,rfl⟩:=(q9 d).row.form
  have YK:Hid (CsOf (λb=>w.1.size+1<=b/\(C aa fs.length ac).ownBlock≠G b) wr xs u):=qd ⟨by rw[<-mJ,<-IT];simp,λi x y T K=>by
   rw[<-mJ,cm]at T;rw[<-IT,cm]at K
   cases hq:ins[i]? with
   | none=>rw[hq]at T;cases T
   | some q=>
    rw[hq]at T K;have SX:=bH q (bg hq);have oF:=(q9 d).co.1;simp only[nl]at T K;injection T with T;injection K with K;rw[bi,ag ub]at T K
    exact d.co.2 q x y (by rw[<-T,ag ub];rfl) (by rw[<-K,ag ub];rfl)⟩
  have mK:xs.length=ins.length:=by rw[<-mJ,cd]
  obtain⟨r,hr⟩:=it (kY p xs)
  have RV:Hid (∀(N:Nat->Prop) (W:Ao) (inv:Ap),CsIn N W inv xs->(∀b,N b->b<W.1.size)->TxtAt W (C la p.P.length lc) p.P->ua 101 #[Ai #[Y (BS (qH p.op)),I J p.M,C ia ins.length ic,Y (BS p.V),Y (BS p.h),C la p.P.length lc,I J p.K,Ah neg,I J c],inv] W λe w'=>Xb W w'/\∃q:RF,e=Ak (Ai #[Y q.op,Y (BS q.Q),I J q.H,C q.pa q.pn q.pc,C q.ta q.tn q.tc,C q.ra q.rn q.rc])/\RfAt (λb=>N b\/W.1.size<=b) w' r q):=qd λN W inv h1 h2 h3=>by
   rw[<-hr];exact qyw h1 h2 h3 BQ fQ I5 cX eH lV
  have RN:Hid (neg=true->∀(N:Nat->Prop) (W:Ao) (f:RF),RfAt N W r f->(∀b,N b->b<W.1.size)->ua 102 #[Ai #[Y f.op,Y (BS f.Q),I J f.H,C f.pa f.pn f.pc,C f.ta f.tn f.tc,C f.ra f.rn f.rc]] W λe w'=>Xb W w'/\∃q:RF,e=Ak (Ai #[Y q.op,Y (BS q.Q),I J q.H,C q.pa q.pn q.pc,C q.ta q.tn q.tc,C q.ra q.rn q.rc])/\RfAt (λb=>N b\/W.1.size<=b) w' (vg r) q):=qd λh N W f h1 h2=>by
   rw[<-hr]at h1 |-;exact pD _ I5.all.wt (I5.no h) I5.all.sz N W f h1 h2
  have rF:Hid (gB [] (ns.take (k+1))=cs++[if neg=true then vg r else r]):=qd (by
   rw[qzu hn (q9 uF)]
   congr 2
   unfold qgt;rw[BL,show viu cs { jC p ins neg with H:=c }=xs from mJ,hr]
   rfl)
  have HYS:=qd IT;have ML:=qd AU;have GX:=qd mK;have EX:Hid (∀q∈ins,q<k):=qd bH;have h3:ins.length<=3:=J1;obtain⟨lI,oE⟩:∃x,ins.length=x:=⟨_,rfl⟩;have iT:=qd oE;obtain⟨lT,mS⟩:∃x,p.P.length=x:=⟨_,rfl⟩;rw[oE]at e2 RV h3;rw[mS]at e5 RV MP;have EU:=qd JU;have T9:=um k;have A4:=uo k LN;have ng:¬g=wr.1.size:=uu dG.size
  have nr:¬rb=wr.1.size:=ub;have N9:g<wr.1.size:=uu dG.size
  obtain⟨W,hW⟩:=uk (wr.alloc (Al #[Y (BS (qH p.op)),I J p.M,C ia lI ic,Y (BS p.V),Y (BS p.h),C la lT lc,I J p.K,Ah neg,I J c] 178):Ao);have lY:Xb wr W:=hW ▸ uj.alloc ui _
  have eG:∀k,W.cell? ⟨wr.1.size,k,O⟩=#[Y (BS (qH p.op)),I J p.M,C ia lI ic,Y (BS p.V),Y (BS p.h),C la lT lc,I J p.K,Ah neg,I J c][k]?:=λk=>by rw[hW,ch _ _ _ _ uc]
  have mX:W.1.size=wr.1.size+1:=by rw[hW];simp
  have HW:=qd hW;have MO:=qd lY;have EK:=qd mX;have b9:=qd eG;rw[fM]at d YK |-;clear hn eC bH J1 OZ BQ fQ cX eH lV wO aV aA U7 JU mJ IT mK AU hr oE mS hW lY eG mX I6 fM dG uF BL I5
  go_wp2
  rw[<-q9 HW];clear e0 e1 e2 e3 e4 e5 e6 e7 e8;obtain⟨P,rfl⟩:=uk (wr:Ao)
  go_loopw [6,7] (λnv j wq=>∃m:Nat,m<=lI/\j=I J m/\Hid (RfRow wq W.1.size nv (u.take m))/\Hid (Xb W wq)) (λ_ j _=>lI - (intOf j).toNat)
  exact⟨0,bt _,rfl,qd (RfRow.nil _ _),qd uj⟩;obtain⟨m,hm,rfl,HX,BM⟩:=hrel;obtain⟨L9,oK⟩:=qk BM;have RM:=(q9 BM).size;have mX:=q9 EK;have cI:=qd (qg MO BM);have f0:wr.cell? ⟨P.1.size,0,O⟩=G (Y (BS (qH p.op))):=(L9 _ 0 ub).trans (b9 0);have f1:wr.cell? ⟨P.1.size,1,O⟩=G (I J p.M):=(L9 _ 1 ub).trans (b9 1);have f2:wr.cell? ⟨P.1.size,2,O⟩=G (C ia lI ic):=(L9 _ 2 ub).trans (b9 2);have f3:wr.cell? ⟨P.1.size,3,O⟩=G (Y (BS p.V)):=(L9 _ 3 ub).trans (b9 3);have f4:wr.cell? ⟨P.1.size,4,O⟩=G (Y (BS p.h)):=(L9 _ 4 ub).trans (b9 4);have f5:wr.cell? ⟨P.1.size,5,O⟩=G (C la lT lc):=(L9 _ 5 ub).trans (b9 5);have f6:wr.cell? ⟨P.1.size,6,O⟩=G (I J p.K):=(L9 _ 6 ub).trans (b9 6);have f7:wr.cell? ⟨P.1.size,7,O⟩=G (Ah neg):=(L9 _ 7 ub).trans (b9 7);have f8:wr.cell? ⟨P.1.size,8,O⟩=G (I J c):=(L9 _ 8 ub).trans (b9 8);clear L9 oK
  by_cases dN:m<lI
  .obtain⟨q,hq⟩:∃q,ins[m]?=G q:=⟨_,ag (uu (q9 iT))⟩
   have SX:q<k:=q9 EX q (bg hq);obtain⟨lb,rfl,O0,oD⟩:=q9 EU m q hq;have JF:wr.cell? ⟨lb,m,O⟩=G (I J (q:Int)):=(cI.cell (p:=⟨lb,m,O⟩) O0).trans oD;obtain⟨y,K⟩:∃y,fs[q]?=G y:=⟨_,ag (uu (q9 GY))⟩;obtain⟨l,QF,DI,_,S9,D⟩:=(q9 d).row.cell K;injection DI with DI DH DG;subst DI DG;have a0:wr.cell? ⟨l,q * 6,O⟩=G (Y y.op):=(cI.cell (p:=⟨l,q * 6,O⟩) S9).trans (D 0 ub);have a1:wr.cell? ⟨l,q * 6+1,O⟩=G (Y (BS y.Q)):=(cI.cell (p:=⟨l,q * 6+1,O⟩) S9).trans (D 1 ub);have a2:wr.cell? ⟨l,q * 6+2,O⟩=G (I J y.H):=(cI.cell (p:=⟨l,q * 6+2,O⟩) S9).trans (D 2 ub);have a3:wr.cell? ⟨l,q * 6+3,O⟩=G (C y.pa y.pn y.pc):=(cI.cell (p:=⟨l,q * 6+3,O⟩) S9).trans (D 3 ub);have a4:wr.cell? ⟨l,q * 6+4,O⟩=G (C y.ta y.tn y.tc):=(cI.cell (p:=⟨l,q * 6+4,O⟩) S9).trans (D 4 ub);have a5:wr.cell? ⟨l,q * 6+5,O⟩=G (C y.ra y.rn y.rc):=(cI.cell (p:=⟨l,q * 6+5,O⟩) S9).trans (D 5 ub);have aK:u[m]?=G y:=by rw[<-q9 HYS,cm,hq,nl,bi,K];rfl
   have nH:(u.take m).length=m:=by rw[cw,q9 ML];have:=q9 iT;omega
   obtain⟨g5,I9,w5,O3,cP,T5,_⟩:=(q9 HX).app ub y ub wr.1.size rfl;rw[show u.take m++[y]=u.take (m+1) by rw[dn,aK];rfl,nH]at cP;rw[nH]at O3;obtain⟨na,nc,rfl⟩:=(q9 HX).form;rw[nH]at O3 |-;have wE:=um m;have mR:=uo m lI;have TA:=um q;have fO:=uo q k;clear hq oD D K aK nH HX f0 f1 f3 f4 f5 f6 f7 f8 DH
   go_wp2
   go_roundw
   case rel=>exact⟨m+1,ub,by go_num,cP,qd (BM.trans T5)⟩
   simp[intOf];omega
  have FZ:m=lI:=ub;have uR:u.take m=u:=fo (by have:=q9 ML;have:=q9 iT;omega);rw[uR]at HX;have dP:u.length=lI:=by have:=q9 ML;have:=q9 iT;omega
  have HLW:=qd (d.below cI);have JQ:∀b,(C aa k ac).ownBlock=G b->b<P.1.size:=λb h=>d.blk h
  have QQ:Hid (∀b,P.1.size<b->(C aa k ac).ownBlock≠G b):=qd λb h e=>uu (JQ b e)
  obtain⟨na,nc,rfl⟩:=(q9 HX).form
  have YN:Hid (CsIn (λb=>(w.1.size+1<=b/\(C aa k ac).ownBlock≠G b)/\b<wr.1.size) wr (C na u.length nc) xs):=qd (by
   refine⟨u,(YK.below cI).keep (λ_ h hl=>⟨h,hl⟩), ?_⟩
   by_cases i6:xs=[]
   exact Am i6
   right
   have dL:u≠[]:=λe=>i6 (de (by have:=q9 GX;have:=q9 ML;rw[e]at this;simp at this;omega))
   obtain⟨gb,gc,e,h1,h2,h3⟩:=(q9 HX).all dL;have oF:u.length=xs.length:=by have:=q9 GX;have:=q9 ML;omega
   exact⟨gb,gc,by rw[e,oF],⟨⟨ub,q9 QQ gb ub⟩,h2⟩,h2,λj hj=>h3 j ub⟩)
  rw[dP]at YN HX |-;have MH:=qd (MP.below cI);have OM:=uq m lI;have dJ:P.1.size<wr.1.size:=ub;have IZ:=q9 GY;have F5:w.1.size+1<=wr.1.size:=ub;have HRV:=qd (RV _ wr _ YN (λb h=>h.2) MH);clear uR FZ dP HX BM MO d JQ RV YN MH YK
  cases neg with
  | false=>
   go_wp2_with(go_at_call 101;refine HRV.mono ?_;rintro e w2⟨A3,rf,rfl,rY⟩;have D4:=A3.size;obtain⟨K7,L8⟩:=qk A3;have k7:=(K7 _ 7 dJ).trans f7;have AO:P.1.size<w2.1.size:=ub;have NI:=qd (HLW.below (A3.alloc A3.size (Al #[Y rf.op,Y (BS rf.Q),I J rf.H,C rf.pa rf.pn rf.pc,C rf.ta rf.tn rf.tc,C rf.ra rf.rn rf.rc] 106)));have cQ:=qd ((rY.keep (N':=λb=>w.1.size+1<=b/\(C aa k ac).ownBlock≠G b) (λ_ _ _=>rfl) ui (λb h _=>(by rcases h with h|h;exact h.1;exact⟨ub,q9 QQ b ub⟩))).below ((Below.refl w2.1.size w2).alloc ui (Al #[Y rf.op,Y (BS rf.Q),I J rf.H,C rf.pa rf.pn rf.pc,C rf.ta rf.tn rf.tc,C rf.ra rf.rn rf.rc] 106)));obtain⟨g5,I9,w5,O3,cP,T5,r9,IL,sN⟩:=(q9 NI).row.app ud rf ub (w2.1.size+1) uc;rw[IZ]at O3 cP;clear A3 K7 L8 rY)
   go_roundw
   case rel=>exact⟨k+1,ub,by go_num,_,qd (by rw[q9 rF];exact NI.snoc cQ rfl cP T5 r9 IL sN)⟩
   simp[intOf];omega
  | true=>
   have XL:=qd (RN rfl)
   go_wp2_with(first|(go_at_call 102;have _q:=U0;refine(XL (λb=>(w.1.size+1<=b/\(C aa k ac).ownBlock≠G b/\b≠w2.1.size)/\b<w2.1.size+1) (w2.alloc (Al #[Y rf.op,Y (BS rf.Q),I J rf.H,C rf.pa rf.pn rf.pc,C rf.ta rf.tn rf.tc,C rf.ra rf.rn rf.rc] 106)) rf cQ (λb h=>(by have:=h.2;simp;omega))).mono ?_;rintro e w3⟨D5,Q,rfl,hrg⟩;obtain⟨aH,lS⟩:=qk D5;have P9:w2.1.size+1<=w3.1.size:=(by have:=D5.size;simp at this;omega);have v0:w3.cell? ⟨w2.1.size,0,O⟩=G (Y rf.op):=(aH _ 0 uc).trans uc;have v1:w3.cell? ⟨w2.1.size,1,O⟩=G (Y (BS rf.Q)):=(aH _ 1 uc).trans uc;have v2:w3.cell? ⟨w2.1.size,2,O⟩=G (I J rf.H):=(aH _ 2 uc).trans uc;have v3:w3.cell? ⟨w2.1.size,3,O⟩=G (C rf.pa rf.pn rf.pc):=(aH _ 3 uc).trans uc;have v4:w3.cell? ⟨w2.1.size,4,O⟩=G (C rf.ta rf.tn rf.tc):=(aH _ 4 uc).trans uc;have v5:w3.cell? ⟨w2.1.size,5,O⟩=G (C rf.ra rf.rn rf.rc):=(aH _ 5 uc).trans uc;have vz:Xf w3 w2.1.size:=(λi=>(lS _ i uc).trans uc);have uZ:=yY w3 w2.1.size (Y Q.op) (Y (BS Q.Q)) (I J Q.H) (C Q.pa Q.pn Q.pc) (C Q.ta Q.tn Q.tc) (C Q.ra Q.rn Q.rc);have NI:=qd (HLW.below (uZ.u _ _ D4 (qg U0 D5)));have HRG:=qd (uZ.rf (N':=λb=>w.1.size+1<=b/\(C aa k ac).ownBlock≠G b) hrg (by rintro (h|h);exact h.1.2.2 rfl;simp at h;omega) (λb h _=>(by rcases h with h|h;exact⟨h.1.1,h.1.2.1⟩;simp at h;exact⟨ub,q9 QQ b ub⟩)));obtain⟨g5,I9,w5,O3,cP,T5,r9,IL,sN⟩:=(q9 NI).row.app (by rw[uZ.size];omega) Q ub w3.1.size uZ.size;rw[IZ]at O3 cP;clear D5 aH lS hrg uZ)|(go_at_call 101;refine HRV.mono ?_;rintro e w2⟨A3,rf,rfl,rY⟩;have D4:=A3.size;obtain⟨K7,L8⟩:=qk A3;have k7:=(K7 _ 7 dJ).trans f7;have AO:P.1.size<w2.1.size:=ub;have U0:=qd (A3.alloc A3.size (Al #[Y rf.op,Y (BS rf.Q),I J rf.H,C rf.pa rf.pn rf.pc,C rf.ta rf.tn rf.tc,C rf.ra rf.rn rf.rc] 106));have cQ:=qd ((rY.keep (N':=λb=>(w.1.size+1<=b/\(C aa k ac).ownBlock≠G b/\b≠w2.1.size)/\b<w2.1.size+1) (λ_ _ _=>rfl) ui (λb h hl=>(by rcases h with h|h;exact⟨⟨h.1.1,h.1.2,ub⟩,ub⟩;exact⟨⟨ub,q9 QQ b ub,ub⟩,ub⟩))).below ((Below.refl w2.1.size w2).alloc ui (Al #[Y rf.op,Y (BS rf.Q),I J rf.H,C rf.pa rf.pn rf.pc,C rf.ta rf.tn rf.tc,C rf.ra rf.rn rf.rc] 106)));clear A3 K7 L8 rY))
   go_roundw
   case rel=>exact⟨k+1,ub,by go_num,_,qd (by rw[q9 rF,bo trivial];exact NI.snoc HRG rfl cP T5 r9 IL sN)⟩
   simp[intOf];omega
 have aC:k=LN:=ub;subst aC;obtain⟨y,K⟩:∃y,fs[k - 1]?=G y:=⟨_,ag ub⟩;obtain⟨l,QF,rfl,_,S9,D⟩:=(q9 d).row.cell K
 have QM:Hid (RfAt (λb=>w.1.size+1<=b/\(C (G ⟨l,0,O⟩) fs.length QF).ownBlock≠G b) wr R y):=qd (d.co.2 (k - 1) R y (by
  have U4:cs.length=k:=uu ((q9 d).co.1)
  rw[<-q9 HR,q9 uF,bi,ag ub];rfl) K)
 obtain⟨S,rfl⟩:∃S,k=S+1:=⟨k - 1,ub⟩;rw[show S+1 - 1=S by omega]at D;have y0:wr.cell? ⟨l,S * 6,O⟩=G (Y y.op):=D 0 ub;have y1:wr.cell? ⟨l,S * 6+1,O⟩=G (Y (BS y.Q)):=D 1 ub;have y2:wr.cell? ⟨l,S * 6+2,O⟩=G (I J y.H):=D 2 ub;have y3:wr.cell? ⟨l,S * 6+3,O⟩=G (C y.pa y.pn y.pc):=D 3 ub;have y4:wr.cell? ⟨l,S * 6+4,O⟩=G (C y.ta y.tn y.tc):=D 4 ub;have y5:wr.cell? ⟨l,S * 6+5,O⟩=G (C y.ra y.rn y.rc):=D 5 ub;have r0:wr.cell? ⟨w.1.size,0,O⟩=G (Y ⟨#[]⟩):=(d.u.cell (p:=⟨w.1.size,0,O⟩) (dt _)).trans uc;have r1:wr.cell? ⟨w.1.size,1,O⟩=G (Y ⟨#[]⟩):=(d.u.cell (p:=⟨w.1.size,1,O⟩) (dt _)).trans uc;have r2:wr.cell? ⟨w.1.size,2,O⟩=G (I J 0):=(d.u.cell (p:=⟨w.1.size,2,O⟩) (dt _)).trans uc;have r3:wr.cell? ⟨w.1.size,3,O⟩=G (C O 0 0):=(d.u.cell (p:=⟨w.1.size,3,O⟩) (dt _)).trans uc;have r4:wr.cell? ⟨w.1.size,4,O⟩=G (C O 0 0):=(d.u.cell (p:=⟨w.1.size,4,O⟩) (dt _)).trans uc;have r5:wr.cell? ⟨w.1.size,5,O⟩=G (C O 0 0):=(d.u.cell (p:=⟨w.1.size,5,O⟩) (dt _)).trans uc;have rz:Xf wr w.1.size:=λi=>(d.u.frozen (p:=⟨w.1.size,i,O⟩) (dt _)).trans uc
 rw[fM];rw[fM]at QM;have K9:=qd dG;have A4:(S:Int)+1 - 1=(S:Int):=ub;clear K D I6 uF dG d
 go_wp2
 refine bj (by simp[go_sem,r0,r1,r2,r3,r4,r5]<;>rfl) rfl ?_;have uZ:=yY wr w.1.size (Y y.op) (Y (BS y.Q)) (I J y.H) (C y.pa y.pn y.pc) (C y.ta y.tn y.tc) (C y.ra y.rn y.rc);exact⟨uZ.u _ _ ui K9,y,rfl,uZ.rf QM (λh=>absurd h.1 ub) (λb h _=>An (uu h.1))⟩
end
theorem qml(h:vq s=.ok t):∃c,qy t=.ok c:=by
 unfold vq at h
 by_cases hs:s.size<=200
 rw[bo hs]at h
 cases he:(lvl s 12).E (qh s st0) with
 | err en pl=>rw[he]at h;cases h
 | ok t1 st=>
  rw[he]at h
  change qmy t1 st=_ at h
  unfold qmy at h
  split at h
  split at h
  rename_i d;injection h with h;subst h
  cases hc:qy t1 with
  | err q=>rw[hc]at d;cases d
  | ok c=>exact⟨c,rfl⟩
  cases h;cases h
 rw[ak hs]at h;cases h
theorem qqn(h:vq s=.ok t):GcA t:=by
 obtain⟨e,c,hs,d,l,hq⟩:=yO h;obtain⟨k,j⟩:=qml h;exact qwp t e c hs l d hq k j
theorem qty(r:vq s=.ok t){cs:List Int}(l:Flat t 0 ns)(q:ShA t)(P:ns.length<=200)(c0:Xc w rb 0 (C (G ⟨g,0,O⟩) LN cap))(y:NodesAt w rb (C (G ⟨g,0,O⟩) LN cap) (zH ns cs))(J:rb<w.1.size):
  ua 56 #[Ag (G ⟨rb,0,O⟩)] w (xI (λ_=>False) w (qj t)):=by
 have x:(zH ns cs).length=ns.length:=qe7 _ _;have Q:=l.pos;have u:=qju r;obtain⟨ds,I,K,H,D⟩:=qw7 l q (qqn r) [] rfl
 have key:=qtx c0 y J ub ub (λi n j=>by
   rw[yC]at j
   cases hm:ns[i]? with
   | none=>rw[hm]at j;cases j
   | some m=>
    rw[hm]at j;simp only[nl]at j;injection j with j;obtain⟨o,a,b,c,d,e,f⟩:=qgs l q i m hm;rw[ee]at d;subst j
    exact⟨o,a,b,c,d,e,f⟩) (qqs (qxw l q u.1 u.2 (qav r))) ((qrc ns cs).2 D)
 have hv:(gB [] (zH ns cs)).getD ((zH ns cs).length - 1) nC=qj t:=by
  rw[(qrc ns cs).1,x,I,lj];exact H
 rw[hv]at key;exact key
section
attribute [local go_sem ↓] vsj
def trC(c:Co):List (List UInt8×Nat):=(qF c).zip (jV c)
def g1T(a:List (List UInt8)×Nat)(s:List UInt8):List (List UInt8)×Nat:=match vq (BS s) with
 | .ok t=>(trC (qj t)).foldl yG a
 | .err _ _=>a
def gTs(ss:List (List UInt8))(k:Nat):List (List UInt8)×Nat:=(ss.take k).foldl g1T ([],0)
theorem qga{s:tu}(h:ss[k]?=G s):gTs ss (k+1)=g1T (gTs ss k) s:=by
 unfold gTs;rw[dn,h,List.foldl_append];rfl
theorem vgp:∀t,ShA t->qi6 t->BqA t->∀q∈jV (qj t),q<=200:=by
 have C:∀p:CP,p.V.length<=200->qf4 p<=200:=λp h=>by unfold qf4;split<;>omega
 have m:∀o,qf4 (qq o)<=200:=λo=>C _ (by show(0:Nat)<=200;omega)
 have e:∀(o:Int) (x y:Co),(∀q∈jV x,q<=200)->(∀q∈jV y,q<=200)->∀q∈jV (qp o x y),q<=200:=λo x y d l q hq=>by
  unfold qp at hq
  have two:∀u v:Co,(∀q∈jV u,q<=200)->(∀q∈jV v,q<=200)->q∈jV (.bin (qq o) u v)->q<=200:=λu v J hv h=>by
   rw[jV]at h;rcases cr.1 h with h|h;rcases cr.1 h with h|h;exact J q h;exact hv q h;rw[cu.1 h];exact m o
  split at hq
  exact two y x l d hq;exact two x y d l hq
 have I:∀(p:CP) (x:Co),qf4 p<=200->(∀q∈jV x,q<=200)->∀q∈jV (.un p x),q<=200:=λp x hp d q hq=>by
  rw[jV]at hq;rcases cr.1 hq with h|h;exact d q h;rw[cu.1 h];exact hp
 have T:∀c:Co,(∀q∈jV c,q<=200)->∀q∈jV (vg c),q<=200:=by
  intro c
  induction c with
  | leaf p=>
   intro h;unfold vg
   split
   intro q hq;rw[jV]at hq;rw[cu.1 hq];exact m 4
   split
   intro q hq;rw[jV]at hq;rw[cu.1 hq];exact m 3;exact I _ _ (m 5) h
  | un p x ih=>
   intro h;unfold vg
   split
   intro q hq;exact h q (by rw[jV];exact lp _ hq);exact I _ _ (m 5) h
  | bin p x y ihx ihy=>
   intro h;have H:∀q∈jV x,q<=200:=λq hq=>h q (by rw[jV];exact lp _ (lp _ hq))
   have G:∀q∈jV y,q<=200:=λq hq=>h q (by rw[jV];exact lp _ (ox _ hq))
   unfold vg
   split
   exact e _ _ _ (ihx H) (ihy G)
   split
   exact e _ _ _ (ihx H) (ihy G)
   split
   exact e _ _ _ G H
   split
   exact e _ _ _ G H;exact I _ _ (m 5) h
 have P:∀t:tu,t.length<=200->∀q∈jV (vi t),q<=200:=λt Y q hq=>by
  rw[vi,jV]at hq;rw[cu.1 hq];exact C _ Y
 have K:∀(x:Co),(∀q∈jV x,q<=200)->∀(r:List tu) (f:Co),(∀t∈r,t.length<=200)->(∀q∈jV f,q<=200)->∀q∈jV (za x f r),q<=200:=by
  intro x d r
  induction r with
  | nil=>intro f _ O;exact O
  | cons t r ih=>intro f Q O;exact ih _ (λu J=>Q u (fe _ J)) (e _ _ _ O (e _ _ _ d (P t (Q t ei))))
 intro t
 induction t with
 | leaf p=>intro _ j _ q hq;rw[qj,jV]at hq;rw[cu.1 hq];exact C _ j.1
 | un p x ih=>
  intro hs j hq;have d:=ih hs.2.2.2 j.2 hq.2;have D:∀q∈jV (kL 0),q<=200:=λq hq=>by rw[kL,jV]at hq;rw[cu.1 hq];exact C _ (by show(0:Nat)<=200;omega)
  rw[qj]
  split
  exact e _ _ _ D d
  split
  exact e _ _ _ D d
  split
  exact T _ d
  split
  unfold vI
  cases he:vo p.P with
  | nil=>exact d
  | cons u r=>
   have S:∀v∈u::r,v.length<=200:=λv hv=>hq.1.2 v (gD (by rw[he];exact hv))
   exact K _ d _ _ (λv hv=>S v (fe _ hv)) (e _ _ _ d (P u (S u ei)))
  exact I _ _ (C _ j.1.1) d
 | bin p x y ihx ihy=>
  intro hs j hq;have d:=ihx hs.2.1 j.2.1 hq.2.1;have l:=ihy hs.2.2 j.2.2 hq.2.2;rw[qj]
  split
  exact e _ _ _ l d
  split
  exact e _ _ _ l d
  split
  exact T _ (e _ _ _ d l);exact e _ _ _ d l
 | tri p x y z ihx ihy ihz=>
  intro hs j hq;have d:=ihx hs.2.1 j.2.1 hq.2.1;have l:=ihy hs.2.2.1 j.2.2.1 hq.2.2.1;have D:=ihz hs.2.2.2 j.2.2.2 hq.2.2.2;exact e _ _ _ (e _ _ _ l d) (e _ _ _ d D)
def GBnd(a:List (List UInt8)×Nat)(k:Nat):Prop:=a.1.length<=k/\a.2<=200 * k
theorem GBnd.mono{a:List tu×Nat}{c:Nat}(h:GBnd a k)(d:k<=c):GBnd a c:=⟨bs h.1 d,bs h.2 (si _ d)⟩
theorem qv6{a:List tu×Nat}{e:tu×Nat}(h:GBnd a k)(c:e.2<=200):GBnd (yG a e) (k+1):=by
 unfold yG
 split
 exact⟨uu h.1,uu h.2⟩;exact⟨by have:=h.1;simp;omega,by have:=h.2;simp only;omega⟩
theorem qqm:∀(l:List (tu×Nat)) {a:List tu×Nat} {k:Nat},GBnd a k->(∀e∈l,e.2<=200)->GBnd (l.foldl yG a) (k+l.length):=by
 intro l
 induction l with
 | nil=>intro a k h _;exact h
 | cons e l ih=>
  intro a k h c;have:=ih (qv6 h (c e ei)) (λf d=>c f (fe _ d));rw[sq,fk];rwa [show k+(l.length+1)=k+1+l.length by omega]
theorem vb4(h:vq s=.ok t):(trC (qj t)).length<=120000001/\(∀e∈trC (qj t),e.2<=200)/\(trC (qj t)).length=(qF (qj t)).length:=by
 obtain⟨o,l,hs,m,j,hq⟩:=yO h;have gc:=(qqn h).gc;have r:=ka _ gc.wt.wf;have q:=gc.len;have d:(trC (qj t)).length=(qF (qj t)).length:=by unfold trC;rw[List.length_zip,xj];omega
 refine⟨ub,λe c=>?_,d⟩;unfold trC at c;exact vgp t hs j hq _ (List.of_mem_zip (a:=e.1) (b:=e.2) c).2
theorem vjj(ss:List tu)(k:Nat):GBnd (gTs ss k) (k * 120000001):=by
 induction k with
 | zero=>exact⟨ui,ui⟩
 | succ k ih=>
  cases h:ss[k]? with
  | none=>
   have:gTs ss (k+1)=gTs ss k:=by unfold gTs;rw[dn,h];simp
   rw[this];exact ih.mono (rh _ (Nat.le_succ k))
  | some s=>
   rw[qga h];unfold g1T
   split
   rename_i t c;obtain⟨e,d,_⟩:=vb4 c;exact(qqm _ ih d).mono (by rw[Nat.succ_mul];exact Nat.add_le_add_left e _);exact ih.mono (rh _ (Nat.le_succ k))
structure GaAt(w W3:Ao)(B2:Nat)(wq:Ao)(lv:Ap)(ts:List (List UInt8)):Prop where
 row:TwRow wq w.1.size lv ts
 u:Below w.1.size w wq
 size:W3.1.size<=wq.1.size
 keep:∀b,B2<=b->b<W3.1.size->wq.1[b]?=W3.1[b]?
 own:∀k,lv.ownBlock=G k->k<B2\/W3.1.size<=k
section
variable {w W3 wq w5:Ao} {B2:Nat} {lv:Ap} {ts:List tu}
theorem GaAt.start(w:Ao):GaAt w w w.1.size w (C O 0 0) []:=⟨dy _ _ _ _,uj,ui,λ_ _ _=>rfl,λk h=>by cases h⟩
theorem GaAt.form(h:GaAt w W3 B2 wq lv ts):∃a c,lv=C a ts.length c:=by
 rcases h.row.2 with⟨rfl,d⟩|⟨g,cap,cur,rfl,_⟩;exact⟨O,0,by rw[d]⟩;exact⟨_,_,rfl⟩
theorem GaAt.next(h:GaAt w W3 B2 wq lv ts){w2 d:Ao}(c:Xb wq w2)(e:Xb w2 d):GaAt w d w2.1.size d lv ts:=
 ⟨qE h.row (qg c e) ui,qg h.u (qg c e),ui,λ_ _ _=>rfl,λk j=>Am (aq (h.row.lt k j).2 c.size)⟩
theorem GaAt.snoc(h:GaAt w W3 B2 wq lv ts){x:tu}{n:Nat}(u:TwRow w5 w.1.size (C (G ⟨g,0,O⟩) n cap) (ts++[x]))(r:Below w.1.size wq w5)(q:∀b,b<wq.1.size->lv.ownBlock≠G b->w5.1[b]?=wq.1[b]?)(c:lv.ownBlock=G g\/wq.1.size<g)(o:wq.1.size<=w5.1.size):GaAt w W3 B2 w5 (C (G ⟨g,0,O⟩) n cap) (ts++[x]):=by
 have d:=h.size;refine⟨u,h.u.trans r,bs d o,λb m j=>(q b (aq j d) (λe=>?_)).trans (h.keep b m j),λk l=>?_⟩;rcases h.own b e with h|h<;>omega
 obtain rfl:g=k:=by simpa [Value.ownBlock]using l
 rcases c with c|c;exact h.own g c
 right;omega
end
theorem qhh(h:TxIn w a ss)(h8:ss.length<=9):
  ut 62 #[C a ss.length cap] w (Aj #[I J ((gTs ss ss.length).1.length:Nat),I J ((gTs ss ss.length).2:Nat)]):=by
 have H:=qd h;obtain⟨n,hn⟩:=it ss.length;rw[hn]at h8 |-;have HN:=qd hn;go_enter func62,ntmps62
 go_wp2
 go_loopw [4,5,6] (λlv rv i wr=>∃(k:Nat) (W3:Ao) (B2:Nat),k<=n/\i=I J k/\rv=I J ((gTs ss k).2:Nat)/\Hid (GaAt w W3 B2 wr lv (gTs ss k).1)) (λ_ _ i _=>n - (intOf i).toNat)
 exact⟨0,w,w.1.size,bt _,rfl,rfl,qd (GaAt.start w)⟩;obtain⟨k,W3,B2,hk,rfl,rfl,K⟩:=hrel;have y:=vjj ss k;obtain⟨A,hA⟩:=it (gTs ss k);rw[hA]at y K |-;have HA:=qd hA;obtain⟨la,lc,rfl⟩:=(q9 K).form;have A0:A.1.length<=9 * 120000001:=bs y.1 (rh _ ub);have A3:A.2<=200 * (9 * 120000001):=bs y.2 (si _ (rh _ ub))
 by_cases A1:k<n
 .obtain⟨s,hs⟩:∃s,ss[k]?=G s:=⟨_,ag (uu (q9 HN))⟩
  obtain⟨V5,sb,so,rfl,hsb,s0⟩:=q9 H k s hs;have d0:wr.cell? ⟨sb,so+k,O⟩=G (Y (BS s)):=(K.u.cell (p:=⟨sb,so+k,O⟩) hsb).trans s0;have RD:=qd (gw (BS s) V5 wr);have HS:Hid (gTs ss (k+1)=g1T A s):=qd (by rw[qga hs,q9 HA])
  cases J2:vq (BS s) with
  | err en pl=>
   rw[J2]at RD;have TN:(en != 0)=true:=by rcases zo J2 with h|h|h|h<;>rw[h]<;>rfl
   have MT:Hid (gTs ss (k+1)=A):=qd (by rw[q9 HS];unfold g1T;rw[J2])
   go_wp2_with(go_at_call 53;refine RD.mono ?_;rintro e w2⟨A3,rfl⟩;have uN:=qd (K.next A3 uj))
   go_roundw
   case rel=>exact⟨k+1,w2,w2.1.size,A1,by go_num,by rw[q9 MT],by rw[q9 MT];exact uN⟩
   simp[intOf];omega
  | ok t=>
   rw[J2]at RD
   have CO:Hid (∀(W W':Ao) (rb:Nat),W.1.size=rb->xo W (.ok t) (Ak (Aj #[Ag (G ⟨rb,0,O⟩),I J 0,I J 0])) W'->ua 56 #[Ag (G ⟨rb,0,O⟩)] W' λe w'=>Xb W' w'/\∃r:RF,e=Ak (Ai #[Y r.op,Y (BS r.Q),I J r.H,C r.pa r.pn r.pc,C r.ta r.tn r.tc,C r.ra r.rn r.rc])/\RfAt (λb=>False\/W'.1.size<=b) w' (qj t) r):=qd (by
    rintro W W' _ rfl⟨_,_,A1,ns,cs,g,LN,cap,E6,aL,dH,c0,hN⟩
    exact qty J2 E6 aL dH c0 hN A1)
   have MT:Hid (gTs ss (k+1)=(trC (qj t)).foldl yG A):=qd (by rw[q9 HS];unfold g1T;rw[J2]);obtain⟨U8,FV,sZ⟩:=vb4 J2;obtain⟨Ac,hC⟩:=it (qj t);rw[hC]at CO MT U8 FV sZ;have MQ:=qd FV;have HT3:=qd sZ
   go_wp2_with(first|(go_at_call 56;have _q:=N2;refine(CO _ _ _ rfl N2).mono ?_;rintro e D⟨D5,r,rfl,hr⟩;have HR:=qd hr;have F9:=qd D5)|(go_at_call 53;refine RD.mono ?_;rintro e w2 B9;have N2:=qd B9;have B2':=qd B9.1;obtain⟨_,rfl,_⟩:=B9))
   obtain⟨W,hW⟩:=uk (D.alloc (Al #[Y r.op,Y (BS r.Q),I J r.H,C r.pa r.pn r.pc,C r.ta r.tn r.tc,C r.ra r.rn r.rc] 106):Ao);have lY:Xb D W:=hW ▸ uj.alloc ui _
   have eG:∀k,W.cell? ⟨D.1.size,k,O⟩=#[Y r.op,Y (BS r.Q),I J r.H,C r.pa r.pn r.pc,C r.ta r.tn r.tc,C r.ra r.rn r.rc][k]?:=λk=>by rw[hW,ch _ _ _ _ uc]
   have mX:W.1.size=D.1.size+1:=by rw[hW];simp
   have HG3:=qd (K.next B2' (qg F9 lY));have AR:=(q9 F9).size;obtain⟨⟨lt,tc,et,hNt,fV,dO⟩,d,rc,er,wO,KD,fZ⟩:=(HR.at'.below lY).terms;rw[xj]at er;have HCT:=qd dO;have HCR:=qd fZ;have hnt:w2.1.size<=lt:=by simpa using hNt
   have FY:w2.1.size<=d:=by simpa using wO
   obtain⟨c,Q⟩:∃x,(qF Ac).length=x:=⟨_,rfl⟩;have e4:W.cell? ⟨D.1.size,4,O⟩=G (C (G ⟨lt,0,O⟩) c tc):=by rw[eG 4,<-Q];exact congrArg G et
   have e5:W.cell? ⟨D.1.size,5,O⟩=G (C (G ⟨d,0,O⟩) c rc):=by rw[eG 5,<-Q];exact congrArg G er
   have hnT2:c<=120000001:=by rw[<-Q,<-q9 HT3];exact U8
   have HNT:Hid ((trC Ac).length=c):=qd (by rw[q9 HT3,Q]);have HTR:Hid (∀m u q,(qF Ac)[m]?=G u->(jV Ac)[m]?=G q->(trC Ac)[m]?=G (u,q)):=qd λm u q S hq=>by unfold trC;rw[sf];exact⟨S,hq⟩
   have dI:Hid ((qF Ac).length=c/\(jV Ac).length=c):=qd ⟨Q,by rw[xj,Q]⟩;rw[<-hW];obtain⟨l,rfl⟩:=uk (D:Ao)
   go_loopw [4,5,11] (λlv rv j wq=>∃m:Nat,m<=c/\j=I J m/\rv=I J ((((trC Ac).take m).foldl yG A).2:Nat)/\Hid (GaAt w W w2.1.size wq lv (((trC Ac).take m).foldl yG A).1)) (λ_ _ j _=>c - (intOf j).toNat)
   exact⟨0,bt _,rfl,rfl,HG3⟩;obtain⟨m,hm,rfl,rfl,o⟩:=hrel
   have y:GBnd (((trC Ac).take m).foldl yG A) (9 * 120000001+m):=by
    have:=qqm ((trC Ac).take m) (a:=A) (k:=9 * 120000001) ⟨A0,A3⟩ (λe he=>q9 MQ e (nw he));rwa [cw,q9 HNT,ot hm]at this
   obtain⟨X,hX⟩:=it (((trC Ac).take m).foldl yG A);rw[hX]at o y |-;have HX:=qd hX;have mM:=y.1;have sW:=y.2;obtain⟨qa,qc,rfl⟩:=(q9 o).form;have RM:=(q9 o).size;have P:=(q9 o).keep;have f4:wr.cell? ⟨l.1.size,4,O⟩=G (C (G ⟨lt,0,O⟩) c tc):=(aw (w:=W) (a:=⟨l.1.size,4,O⟩) (P l.1.size AR ub)).trans e4;have f5:wr.cell? ⟨l.1.size,5,O⟩=G (C (G ⟨d,0,O⟩) c rc):=(aw (w:=W) (a:=⟨l.1.size,5,O⟩) (P l.1.size AR ub)).trans e5;have U7:l.1.size<wr.1.size:=ub;clear hX y
   by_cases dN:m<c
   .obtain⟨u,S⟩:∃u,(qF Ac)[m]?=G u:=⟨_,ag (uu ((q9 dI).1))⟩
    obtain⟨q,hq⟩:∃q,(jV Ac)[m]?=G q:=⟨_,ag (uu ((q9 dI).2))⟩;have SK:=q9 HTR m u q S hq;have fO:q<=200:=q9 MQ (u,q) (bg SK);have g0:wr.cell? ⟨lt,m,O⟩=G (Y (BS u)):=(aw (w:=W) (a:=⟨lt,m,O⟩) (P lt hnt fV)).trans (HCT m u S);have g1:wr.cell? ⟨d,m,O⟩=G (I J (q:Int)):=(aw (w:=W) (a:=⟨d,m,O⟩) (P d FY KD)).trans (HCR m q hq);have TU:lt<wr.1.size:=ub;have rX:d<wr.1.size:=ub;have QL:Hid (((trC Ac).take (m+1)).foldl yG A=yG X (u,q)):=qd (by rw[dn,SK,List.foldl_append,q9 HX];rfl);have YV:=qd (vfq o.row ub u);obtain⟨R,T⟩:=it (X.1.contains u);rw[T]at YV;have wE:=um m;have mR:=uo m c;obtain⟨g5,I9,w5,O3,cP,T5,r9,IL,sN⟩:=(q9 o).row.app2 (uu ((q9 o).u.size)) u ub wr.1.size rfl;have nB:=qd (o.snoc cP T5 r9 IL sN);have i5:w5.cell? ⟨l.1.size,5,O⟩=G (C (G ⟨d,0,O⟩) c rc):=(aw (w:=W) (a:=⟨l.1.size,5,O⟩) (nB.keep l.1.size AR ub)).trans e5;have i1:w5.cell? ⟨d,m,O⟩=G (I J (q:Int)):=(aw (w:=W) (a:=⟨d,m,O⟩) (nB.keep d FY KD)).trans (HCR m q hq);clear S hq SK P cP T5 r9 IL sN
    cases R with
    | true=>
     have MR:Hid (yG X (u,q)=X):=qd (by unfold yG;rw[bo T]);clear O3 nB T i5 i1
     go_wp2_with(go_at_call 105;refine be YV λw8 h8'=>?_;subst w8)
     go_roundw
     case rel=>exact⟨m+1,dN,by go_num,by rw[q9 QL,q9 MR],by rw[q9 QL,q9 MR];exact o⟩
     simp[intOf];omega
    | false=>
     have MR:Hid (yG X (u,q)=(X.1++[u],X.2+q)):=qd (by unfold yG;rw[ak (by rw[T];decide)]);clear T
     go_wp2_with(go_at_call 105;refine be YV λw8 h8'=>?_;subst w8)
     go_roundw
     case rel=>exact⟨m+1,dN,by go_num,by rw[q9 QL,q9 MR];go_num,by rw[q9 QL,q9 MR];exact nB⟩
     simp[intOf];omega
   have FZ:m=c:=ub;have HF:Hid (gTs ss (k+1)=X):=qd (by rw[q9 MT,<-q9 HX,fo (by rw[q9 HNT];omega)]);have OM:=uq m c;clear P
   go_wp2
   go_roundw
   case rel=>exact⟨k+1,W,w2.1.size,A1,by go_num,by rw[q9 HF],by rw[q9 HF];exact o⟩
   simp[intOf];omega
 have aC:k=n:=ub;have HF:Hid (gTs ss n=A):=qd (by rw[<-aC];exact q9 HA);have Z0:=uq k n;have K9:=qd K.u;clear K
 go_wp2
 refine tw ⟨?_,q9 K9⟩;rw[q9 HF]
end
theorem qfb{n:Nat}(h:TxIn w a ss)(c:ss.length=n)(l:n<=9):
  ut 61 #[C a n cap] w (I J ((gTs ss n).1.length:Nat)):=by
 subst c;have e:=qd (qhh (cap:=cap) h l);obtain⟨x,d⟩:=it ((gTs ss ss.length).1.length);obtain⟨y,j⟩:=it ((gTs ss ss.length).2);obtain⟨n,c⟩:=it ss.length;rw[d,j]at e;rw[d];rw[c]at e |-;clear h l d j c;go_enter func61,ntmps61
 go_wp2_with(go_at_call 62;refine be e λw2 m=>?_)
 go_ret;exact⟨rfl,m⟩
section
attribute [local go_sem ↓] vsj
theorem qfc{Y:Ap}{l:List Rs}(h:MbAt w mb n Y l)(h8:l.length<=8):
  ua 70 #[Ag (G ⟨mb,0,O⟩)] w λe w'=>∃v,e=Ak v/\TwRow w' w.1.size v (l.map Rs.Q)/\Xb w w':=by
 have H:=qd h;obtain⟨a,c,rfl⟩:=qdw h.row;obtain⟨m,D⟩:=it l.length;have u:=qd D;rw[D]at h8 H;clear h D;go_enter func70,ntmps70
 go_wp2
 go_loopw [3,4] (λo i wr=>∃(k:Nat) (q:Option Addr) (j:Nat),k<=m/\i=I J k/\o=C q k j/\Hid (TwRow wr w.1.size (C q k j) ((l.take k).map Rs.Q))/\Hid (Xb w wr)) (λ_ i _=>m - (intOf i).toNat)
 exact⟨0,O,0,bt _,rfl,rfl,qd (dy _ _ _ _),qd uj⟩;obtain⟨k,q,j,hk,rfl,rfl,r,d⟩:=hrel;have y:=(q9 H).below d;obtain⟨c0,c1,cz⟩:=y.cells
 by_cases A1:k<m
 .obtain⟨x,hx⟩:∃x,l[k]?=G x:=⟨_,ag (uu (q9 u))⟩
  obtain⟨g,c',hv,hg,e0,e1,e2,ez⟩:=y.sub hx;rw[q9 u]at hv;simp at hv;obtain⟨rfl,rfl⟩:=hv;have T9:=um k;have A4:=uo k m;have K:((l.take k).map Rs.Q).length=k:=by rw[cd,cw];have:=q9 u;omega
  obtain⟨g5,I9,w5,O3,P,S⟩:=(q9 r).app1 d.size x.Q (by rw[K];omega) wr.1.size rfl;rw[K]at O3 P
  have Q:Hid (TwRow w5 w.1.size (C (G ⟨g5,0,O⟩) (k+1) I9) ((l.take (k+1)).map Rs.Q)):=qd (by
   rw[dn,hx,dq];exact q9 P)
  have T:Hid (Xb w w5):=qd (d.trans S);clear y hx K P S r d
  go_wp2
  go_roundw
  case rel=>exact⟨k+1,_,_,ub,by go_num,rfl,Q,T⟩
  simp[intOf];omega
 have fV:=uq k m
 have Q:Hid (TwRow wr w.1.size (C q k j) (l.map Rs.Q)):=qd (by
  have e:l.take k=l:=fo (uu (q9 u));have:=q9 r
  rw[e]at this;exact this)
 clear y r
 go_wp2
 go_ret;exact⟨_,rfl,q9 Q,q9 d⟩
def yS(R:List Ru)(id:Int):Nat:=(R.takeWhile λx=>decide (x.id<id)).length
def qbb(R:List Ru)(id:Int)(s:List UInt8):List Ru×Int×Int:=match R.findIdx? λx=>x.id==id with
 | some _=>(R,6,0)
 | none=>match vq (BS s) with
  | .err en pl=>(R,en,pl)
  | .ok _=>if 8<=R.length\/80<(gTs (R.map Ru.Q++[s]) (R.length+1)).1.length then(R,8,0) else(R.take (yS R id)++⟨id,s,[]⟩::R.drop (yS R id),0,0)
theorem qyh(l:∀j x,j<k->R[j]?=G x->x.id<id)(d:k<=R.length)(e:∀x,R[k]?=G x->¬x.id<id):yS R id=k:=by
 induction R generalizing k with
 | nil=>simp at d;subst d;rfl
 | cons a r ih=>
  unfold yS
  cases k with
  | zero=>
   have:=e a uc;rw[ro (by simpa using this)];rfl
  | succ k=>
   have:=l 0 a ub uc;rw[rm (by simpa using this),fk];have:=ih (k:=k) (λj x m c=>l (j+1) x ub (by simpa using c)) (by simpa using d) (λx c=>e x (by simpa using c));unfold yS at this;rw[this]
theorem vqj{ts:List tu}(h:TwRow W base v ts)(d:∀t∈ts,t.length<=140737488355328){n c:Nat}(hv:v=C a n c):TxIn W a ts:=λk s hs=>by
 obtain⟨g,cap,e,_,l,j⟩:=h.cell hs;rw[hv]at e;injection e with e _ _;exact⟨d s (bg hs),g,0,e,l,by rw[ee];exact j⟩
theorem vfy(h:RBr w F mb n R)(ht:∀x∈R,x.Q.length<=140737488355328)(id:Int)(s:tu)(hs:s.length<=140737488355328)
  (TMS:∀(W:Ao) (a:Option Addr) (cap m:Nat) (ss:List tu),TxIn W a ss->ss.length=m->m<=9->ut 61 #[C a m cap] W (I J ((gTs ss m).1.length:Nat)))
  (Q:Ending->Ao->Prop) (S:∀w',RBr w' (upF F w w') mb n (qbb R id s).1->Grow F w w'->Q (Ak (Aj #[I J (qbb R id s).2.1,I J (qbb R id s).2.2])) w') :
  ua 41 #[Ag (G ⟨mb,0,O⟩),I J id,Y (BS s)] w Q:=by
 have h':=h;obtain⟨hF,h8,sv,l,hB,hL,C3⟩:=h;have uD:l.length<=8:=by rw[<-hL,cd]at h8;exact h8
 have FD:=qd (qdu hB uD id);have F8:=qpd hL id;have SAME:∀q,Xb w q->RBr q (upF F w q) mb n R/\Grow F w q:=λq r=>⟨⟨λk D=>by rcases D with e|e;have:=hF k e;have:=r.size;omega;exact e.2,h8,sv,l,hB.below r,hL,λk D=>Am (C3 k D)⟩,Grow.of_below r⟩
 cases hfx:R.findIdx? (λx=>x.id==id) with
 | some i=>
  have hK:kT l id=i:=by rw[kT,F8,hfx]
  have A9:qbb R id s=(R,6,0):=by rw[qbb,hfx]
  rw[A9]at S;have H:=qd (S w h'.wide (Grow.same F w));rw[hK]at FD;go_enter func41,ntmps41
  go_wp2_with(go_at_call 75;refine be FD λw' hw=>?_;subst w')
  exact q9 H
 | none=>
  have hK:kT l id=-1:=by rw[kT,F8,hfx]
  rw[hK]at FD;have RD:=qd (gw (BS s) (by rw[qJ];exact hs) w)
  cases J2:vq (BS s) with
  | err en pl=>
   have A9:qbb R id s=(R,en,pl):=by rw[qbb,hfx];show(match vq (BS s) with|.err en pl=>_|.ok _=>_)=_;rw[J2]
   rw[A9]at S;rw[J2]at RD;have H:Hid (∀q,Xb w q->Q (Ak (Aj #[I J en,I J pl])) q):=qd λq r=>S q (SAME q r).1 (SAME q r).2
   have eT:(en==0)=false/\decide (en=0)=false:=by rcases zo J2 with rfl|rfl|rfl|rfl<;>exact⟨rfl,rfl⟩
   obtain⟨eT,hen2⟩:=eT;go_enter func41,ntmps41
   go_wp2_with(first|(go_at_call 75;refine be FD λw' hw=>?_;subst w')|(go_at_call 53;refine RD.mono ?_;rintro e q⟨r,rfl⟩;have EQ:=qd (H q r)))
   exact q9 EQ
  | ok t=>
   rw[J2]at RD;obtain⟨c0,c1,cz⟩:=hB.cells;have A1:=hB.lt;obtain⟨a,c,rfl⟩:=qdw hB.row;obtain⟨m,hm⟩:=it l.length;have DL:R.length=m:=by rw[<-hL,cd,hm]
   have V3:∀x∈l.map Rs.Q,x.length<=140737488355328:=λx d=>by
    obtain⟨y,hy,rfl⟩:=eg.1 d;exact ht y.ru (by rw[<-hL];exact eg.2 ⟨y,hy,rfl⟩)
   have LM:R.map Ru.Q=l.map Rs.Q:=by rw[<-hL,lq];rfl
   obtain⟨Af,hG⟩:=it ((gTs (l.map Rs.Q++[s]) (m+1)).1.length)
   have A9:qbb R id s=if 8<=m\/80<Af then(R,8,0) else(R.take (yS R id)++⟨id,s,[]⟩::R.drop (yS R id),0,0):=by
    rw[qbb,hfx];show(match vq (BS s) with|.err en pl=>_|.ok _=>_)=_;rw[J2,LM,DL,hG]
   rw[hm]at c0
   have TX:Hid (∀W,Xb w W->ua 70 #[Ag (G ⟨mb,0,O⟩)] W λe w'=>∃a5 c5 w5,∃tv:Ap,e=Ak tv/\(qe9 #[31,31] 31 #[tv,C (G ⟨w'.1.size,0,O⟩) 1 1]).run prog (w'.alloc (Al #[Y (BS s)] 9))=.ok (C a5 (m+1) c5) w5/\Hid (TxIn w5 a5 (l.map Rs.Q++[s]))/\Hid (Xb w w5)):=qd λW hb=>by
    refine(qfc (hB.below hb) uD).mono ?_;rintro e w'⟨tv,rfl,htw,K⟩;have AQ:=K.size;have dN:(l.map Rs.Q).length=m:=by rw[cd,hm]
    obtain⟨g5,I9,w5,O3,aJ,T5⟩:=htw.app1 AQ s (by rw[dN];omega) w'.1.size rfl;rw[dN]at O3
    exact⟨_,_,w5,tv,rfl,O3,qd (vqj aJ (λx d=>by
     rcases cr.1 d with e|e;exact V3 x e
     rw[cu.1 e];exact hs) rfl),qd (qg hb (K.trans T5))⟩
   have CW:Hid (∀W,Xb w W->Xc W mb 0 (C a m c)/\(Xf W mb)/\mb<W.1.size):=qd λW hb=>⟨((qk hb).1 _ _ A1).trans c0,λj=>((qk hb).2 _ _ A1).trans (cz j),aq A1 hb.size⟩
   have TM:Hid (∀W a5 c5,TxIn W a5 (l.map Rs.Q++[s])->ut 61 #[C a5 (m+1) c5] W (I J (Af:Nat))):=qd λW a5 c5 d=>by
    rw[<-hG];exact TMS W a5 c5 (m+1) _ d (by rw[ce,cd,hm];rfl) ub
   by_cases hfull:8<=m\/80<Af
   .rw[bo hfull]at A9
    rw[A9]at S;have H:Hid (∀q,Xb w q->Q (Ak (Aj #[I J 8,I J 0])) q):=qd λq r=>S q (SAME q r).1 (SAME q r).2
    have I6:(8<=m/\decide ((8:Int)<=(m:Int))=true)\/(¬8<=m/\decide ((8:Int)<=(m:Int))=false/\decide ((80:Int)<(Af:Int))=true):=by
     by_cases e:8<=m
     exact Am ⟨e,di ub⟩;exact An ⟨e,db ub,di ub⟩
    rcases I6 with⟨h1,h2⟩|⟨h1,h2,h3⟩
    all_goals
     go_enter func41,ntmps41
     go_wp2_with(first|(go_at_call 75;refine be FD λw' hw=>?_;subst w')|(go_at_call 53;refine RD.mono ?_;rintro e q⟨r,rfl,_⟩;have D6:=qd r)|(go_at_call 70;refine(TX _ D6).mono ?_;rintro e w2⟨a5,c5,w5,tv,rfl,O3,wX,T5⟩)|(go_at_call 61;refine be (TM _ _ _ wX) λw6 aW=>?_;obtain⟨c6,z6,l6⟩:=q9 CW w6 (qg T5 aW);have QP:=qd (H w6 (qg T5 aW))))
     exact q9 QP
   rw[ak hfull]at A9;rw[A9]at S;have h80d:decide ((80:Int)<(Af:Int))=false:=db ub;have hm8:m<8:=ub;have t7:=qd hB;have uG:=qd S;have IF:=qd hF;have NO:=qd C3;have HL:=qd hL;have HM:=qd hm;have MW:=qd DL;clear h' S hB hL C3 F8 hfx hK A9 h8 hF SAME TMS ht J2 V3 LM hG DL hfull c0 c1 cz uD hm;go_enter func41,ntmps41
   go_wp2_with(first|(go_at_call 75;refine be FD λw' hw=>?_;subst w')|(go_at_call 53;refine RD.mono ?_;rintro e q⟨r,rfl,_⟩;have D6:=qd r;clear r)|(go_at_call 70;refine(TX _ D6).mono ?_;rintro e w2⟨a5,c5,w5,tv,rfl,O3,wX,T5⟩)|(go_at_call 61;refine be (TM _ _ _ wX) λw6 aW=>?_;obtain⟨c6,z6,l6⟩:=q9 CW w6 (qg T5 aW);have IK:=qd (qg T5 aW);clear aW))
   go_loopw [14,15] (λo k wr=>∃(j:Nat) (oa:Option Addr) (oc:Nat),j<=m/\k=I J j/\o=C oa j oc/\Hid (wr.ownsRow w.1.size 133 3 (C oa j oc) j (qO (l.take j)))/\Hid (Xb w wr)/\Hid (∀(i:Nat) (x:Rs),i<j->l[i]?=G x->x.id<id)) (λ_ k _=>m - (intOf k).toNat)
   exact⟨0,O,0,bt _,rfl,rfl,qd (dy _ _ _ _),IK,qd λi x hi=>ub⟩;obtain⟨j,oa,oc,hj,rfl,rfl,bW,HB,dI⟩:=hrel;have K:=q9 HB;have Y6:=K.size;have uB:=(q9 t7).below K;obtain⟨d0,dz,dl⟩:=q9 CW wr K;have hj0:=um j
   by_cases l8:∃x,l[j]?=G x/\x.id<id
   .obtain⟨x,d,fW⟩:=l8
    have GE:j<m:=by have:=(aj.1 d).1;have:=q9 HM;omega
    obtain⟨g,c',hv,hg,e0,e1,e2,ez⟩:=uB.sub d;rw[q9 HM]at hv;simp at hv;obtain⟨rfl,rfl⟩:=hv;have OR:=uo j m;have hd:decide (x.id<id)=true:=di fW;have fA:Xc wr g (j * 3+2) (C x.qa x.ms.length x.qc):=e2;have BD:(wr.alloc (Al #[I J x.id,Y (BS x.Q),C x.qa x.ms.length x.qc] 133)).ownsRow w.1.size 133 3 (C oa j oc) j (qO (l.take j)):=World.ownsRow.alloc bW _;obtain⟨a7,c7,P,eI,IA,NN,_⟩:=kB (T:=40) (e:=133) (m:=1) (c:=1) (a:=G ⟨wr.1.size,0,O⟩) (news:=yd x) underlying40 pY rfl ub BD ud rfl (An ⟨_,rfl,World.news_of_block (cs:=#[I J x.id,Y (BS x.Q),C x.qa x.ms.length x.qc]) (t:=133) (fr:=(0,0)) (heap_alloc_new wr _)⟩) (qba x) ub ub;have tU:(qe9 #[40,40] 40 #[C oa j oc,C (G ⟨wr.1.size,0,O⟩) 1 1]).run prog (wr.alloc (Al #[I J x.id,Y (BS x.Q),C x.qa x.ms.length x.qc] 133))=.ok (C a7 (j+1) c7) P:=eI
    have XJ:Hid (P.ownsRow w.1.size 133 3 (C a7 (j+1) c7) (j+1) (qO (l.take (j+1)))):=qd (by
     rw[dn,d,pj];have e:qO (G x).toList=yd x:=by simp[qO]
     rw[e];exact q9 IA)
    have HB7:Hid (Xb w P):=qd ((K.alloc Y6 _).grown NN ud λk D=>(BD.lt k D).1)
    have XY:Hid (∀(i:Nat) (x:Rs),i<j+1->l[i]?=G x->x.id<id):=qd λi y hi hy=>by
     by_cases e:i=j
     subst e;rw[d]at hy;injection hy with hy;subst hy;exact fW;exact q9 dI i y ub hy
    clear uB d fW BD eI IA NN bW HB dI K e2
    go_wp2
    go_roundw
    case rel=>exact⟨j+1,a7,c7,ub,by go_num,rfl,XJ,HB7,XY⟩
    simp[intOf];omega
   have nU:yS R id=j:=qyh (λi x hi d=>by
    rw[<-q9 HL,cm]at d
    cases e:l[i]? with
    | none=>rw[e]at d;cases d
    | some y=>
     rw[e]at d;obtain rfl:y.ru=x:=by simpa using d
     exact q9 dI i y hi e) (uu (q9 MW)) (λx d fV=>by
    rw[<-q9 HL,cm]at d
    cases e:l[j]? with
    | none=>rw[e]at d;cases d
    | some y=>
     rw[e]at d;obtain rfl:y.ru=x:=by simpa using d
     exact l8 ⟨y,e,fV⟩)
   obtain⟨y,IV⟩:=uk (⟨id,s,O,0,[]⟩:Rs);have BD:(wr.alloc (Al #[I J id,Y (BS s),C O 0 0] 133)).ownsRow w.1.size 133 3 (C oa j oc) j (qO (l.take j)):=World.ownsRow.alloc bW _;obtain⟨a7,c7,P,eI,IA,NN,_⟩:=kB (T:=40) (e:=133) (m:=1) (c:=1) (a:=G ⟨wr.1.size,0,O⟩) (news:=yd y) underlying40 pY rfl ub BD ud rfl (An ⟨_,rfl,by rw[IV];exact World.news_of_block (cs:=#[I J id,Y (BS s),C O 0 0]) (t:=133) (fr:=(0,0)) (heap_alloc_new wr _)⟩) (qba y) ub ub;have tU:(qe9 #[40,40] 40 #[C oa j oc,C (G ⟨wr.1.size,0,O⟩) 1 1]).run prog (wr.alloc (Al #[I J id,Y (BS s),C O 0 0] 133))=.ok (C a7 (j+1) c7) P:=eI;have sE:Xb w P:=(K.alloc Y6 _).grown NN ud λk D=>(BD.lt k D).1
   obtain⟨f0,fz,fl⟩:=q9 CW P sE;have dN:l.length=m:=q9 HM
   obtain⟨sa,scap,V5⟩:∃(sa:Option Addr) (scap:Nat),(a=O/\m=0/\j=0/\c=0/\sa=O/\scap=0)\/(∃g,a=G ⟨g,0,O⟩/\((c=j/\m=j/\sa=G ⟨g,0,O⟩/\scap=0)\/(¬c=j/\sa=G ⟨g,j * 3,O⟩/\scap=c - j))):=by
    rcases(q9 t7).row.2 with⟨e,h0⟩|⟨g,cap,cur,e,_,_,Y8,_⟩;simp at e;refine⟨O,0,Am ⟨e.1,ub,ub,e.2.2,rfl,rfl⟩⟩;simp at e
    by_cases ec:c=j
    exact⟨_,_,An ⟨g,e.1,Am ⟨ec,ub,rfl,rfl⟩⟩⟩;exact⟨_,_,An ⟨g,e.1,An ⟨ec,rfl,rfl⟩⟩⟩
   have L6:∀g,a=G ⟨g,0,O⟩->∀i u,(qO l)[i]?=G u->Xc P g i u:=λg UR i u hu=>by
    have hr:=(t7.below sE).row;rw[UR]at hr;have:=World.ownsRow.cells hr (g:=g) rfl i u hu;rwa [vN,ee]at this
   obtain⟨a9,c9,w9,DF,rJ,HG9,_⟩:=kB (T:=40) (e:=133) (m:=m - j) (c:=scap) (a:=sa) (news:=qO (l.drop j)) underlying40 pY rfl ub IA sE.size (by rw[jS,dj,dN]) (by
    rcases V5 with⟨_,h1,h2,_,h3,h4⟩|⟨g,UR,⟨h1,h2,h3,h4⟩|⟨h1,h3,h4⟩⟩;exact Am ⟨h3,ub,h4⟩;refine An ⟨_,h3,λi u hu=>?_⟩;have:=(aj.1 hu).1;rw[jS,dj]at this;omega;refine An ⟨_,h3,λi u hu=>?_⟩;rw[vN];rw[<-gA,io]at hu
    exact L6 g UR _ u hu) (pI _) ub ub
   have tR:Xb w w9:=sE.grown HG9 sE.size (λk D=>(IA.lt k D).1);have e9:j+1+(m - j)=m+1:=ub;rw[e9]at DF rJ;have oV:(qe9 #[40,40] 40 #[C a7 (j+1) c7,C sa (m - j) scap]).run prog P=.ok (C a9 (m+1) c9) w9:=DF;have aQ:(l.take j++y::l.drop j).length=m+1:=by rw[ce,fk,cw,dj];omega
   obtain⟨T8,U9⟩:=RBr.put (l':=l.take j++y::l.drop j) IF NO t7 tR (by
    rw[aQ];have e:qO (l.take j++y::l.drop j)=qO (l.take j)++yd y++qO (l.drop j):=by simp[qO]
    rw[e];exact q9 rJ) (λx d=>by
    rcases cr.1 d with e|e
    .exact Am (nw e)
    .rcases eo.1 e with e|e
     right;rw[e,IV];exact⟨rfl,rfl,rfl⟩
     exact Am (ln e)) (by
    have dL:y.qv.ownBlock=O:=by rw[IV];rfl
    have hd:=(q9 t7).dis;rw[<-fh j l]at hd;obtain⟨p1,p2,p3⟩:=iy.1 hd;refine iy.2 ⟨p1,mf.2 ⟨(λz _ k D=>by rw[dL]at D;cases D),p2⟩,λz hz u hu=>?_⟩;rcases eo.1 hu with e|e;subst e;intro k _ D;rw[dL]at D;cases D
    exact p3 z hz u e) ub
   have hmp:(l.take j++y::l.drop j).map Rs.ru=R.take (yS R id)++⟨id,s,[]⟩::R.drop (yS R id):=by rw[nU,<-q9 HL,IV];simp[Rs.ru]
   rw[hmp]at T8;have H:=qd (uG _ T8 U9);obtain⟨k0,kz,kl⟩:=q9 CW w9 tR
   have nJ:(j=m/\¬(j:Int)<(m:Int))\/(∃g x,a=G ⟨g,0,O⟩/\(j:Int)<(m:Int)/\Xc wr g (j * 3) (I J x)/\decide (x<id)=false):=by
    by_cases e:j=m
    exact Am ⟨e,ub⟩;obtain⟨x,d⟩:∃x,l[j]?=G x:=⟨_,ag ub⟩;obtain⟨g,c',hv,_,e0,_⟩:=uB.sub d;simp at hv;exact An ⟨g,x.id,hv.1,ub,e0,db λhh=>l8 ⟨x,d,hh⟩⟩
   clear T8 U9 hmp aQ IA rJ NN HG9 BD L6 uB l8 nU bW HB dI K sE tR eI DF uG t7 IF NO HL HM MW IV dN;rcases V5 with⟨rfl,rfl,rfl,rfl,rfl,rfl⟩|⟨g,rfl,⟨hc,hmj,rfl,rfl⟩|⟨hc,rfl,rfl⟩⟩
   .rw[ld]at oV
    clear nJ
    go_wp2
    all_goals exact q9 H
   .rcases nJ with⟨e,h1⟩|⟨g',x,e,h1,h2,h3⟩
    .subst e
     subst hc;rw[ld]at oV
     go_wp2
     all_goals exact q9 H
    omega
   rcases nJ with⟨e,h1⟩|⟨g',x,e,h1,h2,h3⟩
   .subst e
    rw[ld]at oV
    go_wp2
    all_goals exact q9 H
   simp at e;subst e
   go_wp2
   all_goals exact q9 H
end
def coS(s:List UInt8):Co:=match vq (BS s) with
 | .ok t=>qj t
 | .err _ _=>.leaf ⟨3,0,[],[]⟩
theorem vhb{s:tu}(h:vq (BS s)=.ok t):coS s=qj t:=by unfold coS;rw[h]
theorem vkt(h:vq s=.ok t):OkC (qj t):=by
 obtain⟨_,_,hs,c,_,_⟩:=yO h;exact vks t hs (qav h) c
theorem vdj:∀c,qbi c->∀d∈qbf c,vbr (vey d):=by
 intro c
 induction c with
 | leaf p=>intro h d hd;obtain rfl:=cu.1 hd;exact h
 | un p x ih=>
  intro h d hd;rcases cr.1 hd with hd|hd;exact ih h.2 d hd;obtain rfl:=cu.1 hd;exact h.1
 | bin p x y ihx ihy=>
  intro h d hd;rcases cr.1 hd with hd|hd;rcases cr.1 hd with hd|hd;exact ihx h.2.1 d hd;exact ihy h.2.2 d hd;obtain rfl:=cu.1 hd;exact h.1
theorem Gath.mem{D l:List Co}(h:Gath D l E):∀c∈E,c∈D\/c∈l:=by
 induction h with
 | nil D=>intro c d;exact Am d
 | old _ _ ih=>intro c d;rcases ih c d with h|h;exact Am h;exact An (fe _ h)
 | new _ _ ih=>
  intro c d;rcases ih c d with h|h;rcases cr.1 h with h|h;exact Am h;rw[cu.1 h];exact An ei;exact An (fe _ h)
structure AdOk(ss:List (List UInt8))(k:Nat)(E:List Co):Prop where
 pr:PrT (jE (ss.map coS) k).1 E
 tx:gTs ss k=(E.map qt,qhq E)
 fld:∀c∈E,vbr (vey c)
theorem AdOk.zero(ss:List tu):AdOk ss 0 []:=⟨PrT.nil,rfl,uc⟩
theorem AdOk.step(h:AdOk ss k E){s:tu}(hs:ss[k]?=G s)(e:vq (BS s)=.ok t):∃F,AdOk ss (k+1) F:=by
 have q:=vkt e;obtain⟨F,o,hp,_⟩:=PrT.M (qj t) q _ E h.pr;have j:(ss.map coS).getD k (.leaf ⟨3,0,[],[]⟩)=qj t:=by rw[bi,cm,hs];exact vhb e
 refine⟨F, ?_, ?_,λc j=>?_⟩;rw[jE,j];exact hp
 .rw[qga hs,h.tx]
  unfold g1T;rw[e];show(trC (qj t)).foldl yG (E.map qt,qhq E)=_;rw[<-vjk o h.pr.ok (vmx _ q)]
  congr 1
  unfold trC;rw[(qfl (qj t)).1,(qfl (qj t)).2];generalize qbf (qj t)=l
  induction l with
  | nil=>rfl
  | cons d l ih=>rw[fu,fu,fu,List.zip_cons_cons,ih]
 rcases o.mem c j with m|m;exact h.fld c m;exact vdj _ (qg1 e).fld c m
theorem AdOk.len(h:AdOk ss k E):(jE (ss.map coS) k).1.length=(gTs ss k).1.length:=by
 rw[h.pr.len,h.tx];simp
section
variable {pv:Ap}
theorem zA{A B n size:Nat}{e:TypeId}{xs:List Ap}(h:W.ownsRow B e size v n xs)(d:A<=B):W.ownsRow A e size v n xs:=by
 refine⟨h.1, ?_⟩;rcases h.2 with c|⟨g,cap,cur,rfl,j,rest⟩;exact Am c;exact An ⟨g,cap,cur,rfl,ub,rest⟩
end
section
attribute [local go_sem ↓] vsl
theorem vcv(h:vq s=.ok t):∃k,qy t=.ok k:=by
 unfold vq at h
 by_cases hs:s.size<=200
 rw[bo hs]at h
 cases he:(lvl s 12).E (qh s st0) with
 | err en pl=>rw[he]at h;cases h
 | ok u st=>
  rw[he]at h
  change qmy u st=_ at h
  unfold qmy at h
  split at h
  split at h
  rename_i d;injection h with h;subst h
  cases hc:qy u with
  | err q=>rw[hc]at d;cases d
  | ok c=>exact⟨c,rfl⟩
  cases h;cases h
 rw[ak hs]at h;cases h
end
theorem vno(h:∀s∈ss,∃t,vq (BS s)=.ok t):∀k,k<=ss.length->∃E,AdOk ss k E:=by
 intro k
 induction k with
 | zero=>intro _;exact⟨_,AdOk.zero ss⟩
 | succ k ih=>
  intro e;obtain⟨E,d⟩:=ih ub;obtain⟨t,c⟩:=h ss[k] (fm _);exact d.step (ag ub) c
theorem vqn(h:∀z∈Z,∃t,vq (BS z.Q)=.ok t/\qj t=z.co):(jt (Z.map Zu.su)).1.length=(gTs (Z.map Zu.Q) Z.length).1.length:=by
 obtain⟨E,j⟩:=vno (ss:=Z.map Zu.Q) (λs hs=>by
  obtain⟨z,c,rfl⟩:=eg.1 hs;obtain⟨t,d,_⟩:=h z c
  exact⟨t,d⟩) Z.length uc
 rw[<-j.len];unfold jt;rw[cd,lq,lq]
 have e:Z.map (Su.co ∘ Zu.su)=Z.map (coS ∘ Zu.Q):=List.map_congr_left λz c=>by
  obtain⟨t,d,e⟩:=h z c;show z.co=coS z.Q;rw[vhb d,e]
 rw[e]
theorem vic(h:∀z∈Z,ZOk n z):∀x∈Z.map Zu.su,CoreOk x.co:=λx d=>by
 obtain⟨z,c,rfl⟩:=eg.1 d;obtain⟨t,j,e⟩:=(h z c).rd;show CoreOk z.co;rw[<-e];exact qg1 j
theorem qyk(hp:Z.Pairwise λa b=>a.id<b.id)(id:Int):xu (Z.map Zu.su) id=(Z.takeWhile λx=>decide (x.id<id)).length/\yS (Z.map Zu.ru) id=(Z.takeWhile λx=>decide (x.id<id)).length:=by
 induction Z with
 | nil=>exact⟨rfl,rfl⟩
 | cons a r ih=>
  obtain⟨m,l⟩:=mf.1 hp;obtain⟨d,c⟩:=ih l
  by_cases ha:a.id<id
  rw[rm (by simpa using ha),fk];constructor;unfold xu at d |-;rw[fu,List.countP_cons_of_pos (by exact di ha),d];unfold yS at c |-;rw[fu,rm (by exact di ha),fk,c];rw[ro (by simpa using ha)];constructor
  .unfold xu
   rw[fu,List.countP_cons_of_neg (by exact λe=>ha (of_decide_eq_true e))];refine List.countP_eq_zero.2 λx j=>?_
   obtain⟨z,h,rfl⟩:=eg.1 j;have:=m z h;show ¬decide (z.id<id)=true;rw[decide_eq_true_iff];omega
  unfold yS;rw[fu,ro (by exact λe=>ha (of_decide_eq_true e))];rfl
theorem vf0(hp:Z.Pairwise λa b=>a.id<b.id)(d:∀z∈Z,z.id≠id):(∀z∈Z.take (Z.takeWhile λx=>decide (x.id<id)).length,z.id<id)/\∀z∈Z.drop (Z.takeWhile λx=>decide (x.id<id)).length,id<z.id:=by
 induction Z with
 | nil=>exact⟨λz c=>by simp at c,λz c=>by simp at c⟩
 | cons a r ih=>
  obtain⟨l,j⟩:=mf.1 hp;obtain⟨h,e⟩:=ih j λz c=>d z (fe _ c)
  by_cases ha:a.id<id
  rw[rm (by simpa using ha),fk,List.take_succ_cons,lu]
  exact⟨λz c=>by
   rcases eo.1 c with rfl|c;exact ha
   exact h z c,e⟩
  rw[ro (by simpa using ha)];refine⟨λz c=>by simp at c,λz c=>?_⟩;have m:=d a ei;rcases eo.1 c with rfl|c;omega;have:=l z c;omega
theorem vrw(h:ZRel L R n Z)(h8:R.length<=8)(id:Int)(s:tu)(hs:s.length<=140737488355328):(qel L id s).2=(qbb R id s).2/\∃Z',ZRel (qel L id s).1 (qbb R id s).1 n Z':=by
 have o:=h;rcases h.find id with⟨G,D,h3⟩|⟨i,z,j,rfl,G,D,_⟩
 .unfold qel qbb
  rw[G,D];simp only[dg,if_false]
  cases J2:vq (BS s) with
  | err en pl=>exact⟨rfl,Z,o⟩
  | ok t=>
   simp only;obtain⟨rfl,rfl,T,hp⟩:=h;rw[cd]at h8;obtain⟨z,j⟩:=uk (⟨id,s,qj t,[],[]⟩:Zu)
   have dJ:ZOk n z:=by
    subst j;exact⟨⟨t,J2,rfl⟩,hs,λi x y l=>by simp at l,List.Perm.refl _,List.Pairwise.nil,λm Y=>by simp at Y,bt _⟩
   have H:∀y∈Z++[z],ZOk n y:=λy c=>by
    rcases cr.1 c with c|c;exact T y c;rw[cu.1 c];exact dJ
   obtain⟨O,K⟩:=qyk hp id
   have G1:∀y∈Z,y.id≠id:=λy c e=>by
    have:=List.find?_eq_none.1 h3 y.su (ik c);simp[Zu.su,e]at this
   obtain⟨J,q⟩:=vf0 hp G1;obtain⟨k,hk⟩:∃k,(Z.takeWhile λx=>decide (x.id<id)).length=k:=⟨_,rfl⟩;rw[hk]at O K J q;rw[O,K];have r:(⟨id,qj t,[]⟩:Su)=z.su:=by rw[j];rfl
   have u:(⟨id,s,[]⟩:Ru)=z.ru:=by rw[j];rfl
   rw[r,u];have hi:qgi (Z.map Zu.su) k z.su=(Z.take k++z::Z.drop k).map Zu.su:=by unfold qgi;rw[dq,fu,oe,og]
   have S:(Z.map Zu.ru).take k++z.ru::(Z.map Zu.ru).drop k=(Z.take k++z::Z.drop k).map Zu.ru:=by rw[dq,fu,oe,og]
   rw[hi,S]
   have I:∀y,y∈Z.take k++z::Z.drop k↔y∈Z++[z]:=λy=>by
    have e:y∈Z↔y∈Z.take k\/y∈Z.drop k:=by
     rw[<-cr,fh]
    simp only[cr,eo,mg,or_false,e];constructor;rintro (a|a|a);exact Am (Am a);exact An a;exact Am (An a);rintro ((a|a)|a);exact Am a;exact An (An a);exact An (Am a)
   have Q:∀y∈Z.take k++z::Z.drop k,ZOk n y:=λy c=>H y ((I y).1 c)
   have A7:(jt ((Z.take k++z::Z.drop k).map Zu.su)).1.length=(gTs ((Z.map Zu.ru).map Ru.Q++[s]) (Z.length+1)).1.length:=by
    have e1:=qh6 (vic H) (L':=(Z.take k++z::Z.drop k).map Zu.su) λx l=>by
     obtain⟨y,c,rfl⟩:=eg.1 l;exact⟨y.su,ik ((I y).1 c),rfl⟩
    have e2:=qh6 (vic Q) (L':=(Z++[z]).map Zu.su) λx l=>by
     obtain⟨y,c,rfl⟩:=eg.1 l;exact⟨y.su,ik ((I y).2 c),rfl⟩
    have P:=vqn (Z:=Z++[z]) λy c=>(H y c).rd
    rw[ce,du,dq (f:=Zu.Q)]at P;rw[lq,show Z.map (Ru.Q ∘ Zu.ru)=Z.map Zu.Q from rfl,show[s]=[z].map Zu.Q by rw[j];rfl,<-P];omega
   rw[cd,cd,A7]
   by_cases d:8<=Z.length\/80<(gTs ((Z.map Zu.ru).map Ru.Q++[s]) (Z.length+1)).1.length
   rw[bo d]
   by_cases e8:Z.length=8
   rw[bo e8];exact⟨rfl,Z,o⟩;rw[ak e8,bo (by rcases d with d|d;omega;exact d)];exact⟨rfl,Z,o⟩;rw[ak d,ak (λe=>d (Am ub)),ak (λe=>d (An e))];refine⟨rfl,Z.take k++z::Z.drop k,rfl,rfl,Q, ?_⟩;rw[iy,mf];have fW:z.id=id:=by rw[j]
   refine⟨hp.sublist (List.take_sublist ..),⟨λy c=>by rw[fW];exact q y c,hp.sublist (List.drop_sublist ..)⟩,λa ha b C=>?_⟩;have mW:=J a ha;rcases eo.1 C with rfl|C;omega;have:=q b C;omega
 unfold qel qbb;rw[G,D];exact⟨rfl,Z,o⟩
theorem vnc(h:ZRel L R n Z):(jt L).1.length=(gTs (R.map Ru.Q) R.length).1.length:=by
 obtain⟨rfl,rfl,d,_⟩:=h;rw[vqn λz c=>(d z c).rd,lq,cd];rfl
def qm0(ps:List Pr)(m:Mg)(z:Zu):Zu:=if qj8 ps z.ru=true/\z.q.length<6 then⟨z.id,z.Q,z.co,qbx z.hs m,z.q++[m]⟩ else z
theorem vng(ps:List Pr)(m:Mg)(z:Zu):(qm0 ps m z).ru=vf8 ps m z.ru:=by
 unfold qm0 vf8
 by_cases hc:qj8 ps z.ru=true/\z.q.length<6
 .rw[bo hc,bo (show qj8 ps z.ru=true/\z.ru.ms.length<6 from hc)];rfl
 rw[ak hc,ak (show ¬(qj8 ps z.ru=true/\z.ru.ms.length<6) from hc)]
theorem vbq(ps:List Pr)(m:Mg)(z:Zu):(qm0 ps m z).id=z.id:=by
 unfold qm0;split<;>rfl
theorem vnf{pri:Int}(h:ZOk n z):ZOk (n+1) (qm0 ps ⟨pri,n+1⟩ z):=by
 unfold qm0
 split
 .rename_i hc
  obtain⟨l,j⟩:=qyp h.hp ⟨pri,n+1⟩;refine⟨h.rd,h.tl,l,j.trans ((List.Perm.cons _ h.pm).trans (List.perm_append_singleton ..).symm), ?_,λm c=>?_, ?_⟩
  .rw[iy]
   refine⟨h.up,List.pairwise_singleton ..,λa e b d=>?_⟩;rw[cu.1 d];have:=h.le a e;show a.K<n+1;omega
  rcases cr.1 c with c|c;have:=h.le m c;omega;rw[cu.1 c];exact rq _;show(z.q++[(⟨pri,n+1⟩:Mg)]).length<=6;rw[ce,du];omega
 exact⟨h.rd,h.tl,h.hp,h.pm,h.up,λm c=>uu (h.le m c),h.l6⟩
theorem vid(l:∀z∈Z,ZOk n z)(j:ym ps=true)(h:Z[k]?=G z):(vC ps (((Z.map Zu.su).map Su.co).getD k (.leaf ⟨3,0,[],[]⟩))=bV true)↔qj8 ps z.ru=true:=by
 obtain⟨t,d,e⟩:=(l z (bg h)).rd;obtain⟨c,m⟩:=vcv d;rw[bi,cm,cm,h];show(vC ps z.co=bV true)↔decide ((qay (BS z.Q) ps).val=bV true)=true;rw[decide_eq_true_iff,<-e,(qsb t (kC d).1 c m).2 ps j,qay,d];simp only[j,if_true]
theorem vqm(j:∀z∈Z,ZOk n z)(l:ym ps=true)(m:Mg):∀k,k<=Z.length->(qpr ps ((Z.map Zu.su).map Su.co) k).foldl (ze m) (Z.map Zu.su,[],[])=(((Z.take k).map (qm0 ps m)++Z.drop k).map Zu.su,((Z.take k).filter λz=>qj8 ps z.ru).map Zu.id,((Z.take k).filter λz=>qj8 ps z.ru&&decide (6<=z.q.length)).map Zu.id):=by
 intro k
 induction k with
 | zero=>intro _;rfl
 | succ k ih=>
  intro x;obtain⟨z,c⟩:∃z,Z[k]?=G z:=⟨_,ag ub⟩;have q:Z[k]=z:=(aj.1 c).2;have o:=j z (bg c);have r:z.hs.length=z.q.length:=o.pm.length_eq;have y:=o.l6;rw[qpr,List.foldl_append,ih ub,dn,c];simp only[Option.toList,dq,List.filter_append,fu,List.map_nil];have hd:Z.drop k=z::Z.drop (k+1):=by rw[cj ub,q]
  have d:((Z.take k).map (qm0 ps m)).length=k:=by rw[cd,cw];omega
  by_cases hm:qj8 ps z.ru=true
  .rw[bo ((vid j l c).2 hm)]
   show ze m _ k=_;unfold ze
   have u:((((Z.take k).map (qm0 ps m)).map Zu.su)++(Z.drop k).map Zu.su)[k]?=G z.su:=by
    rw[da (by rw[cd,d];exact ui),cd,d,ld,hd];rfl
   simp only;rw[u];simp only;rw[show z.su.ms.length=z.q.length from r]
   by_cases hq:z.q.length=6
   rw[bo hq,List.filter_cons_of_pos (by exact hm),List.filter_cons_of_pos (by rw[hm,hq];rfl)];have:qm0 ps m z=z:=by unfold qm0;rw[ak (λe=>ub)]
   rw[this,hd];simp[Zu.su];rw[ak hq,List.filter_cons_of_pos (by exact hm),td (by rw[hm,db ub];simp)];have:qm0 ps m z=⟨z.id,z.Q,z.co,qbx z.hs m,z.q++[m]⟩:=by unfold qm0;rw[bo ⟨hm,ub⟩]
   rw[this,nh _ _ (by rw[cd,d];exact ui),cd,d,ld,hd];simp[Zu.su]
  rw[ak (λe=>hm ((vid j l c).1 e)),td (by exact hm),td (by simp[hm])];have:qm0 ps m z=z:=by unfold qm0;rw[ak (λe=>hm e.1)]
  rw[this,hd];simp
theorem vrv(h:ZRel L R n Z)(pri:Int)(ps:List Pr):(qar L n pri ps).1.2=(qa9 R n pri ps).1.2/\(qar L n pri ps).2=(qa9 R n pri ps).2/\∃Z',ZRel (qar L n pri ps).1.1 (qa9 R n pri ps).1.1 (qa9 R n pri ps).2.1 Z':=by
 have C:=h;unfold qar qa9
 by_cases d:0<=pri/\pri<=9/\ym ps=true
 .rw[bo d,bo d]
  obtain⟨rfl,rfl,l,hp⟩:=h
  have q:qkx ps (Z.map Zu.su)=qpr ps ((Z.map Zu.su).map Su.co) Z.length:=by
   unfold qkx jt
   have:=qxq ps (cs:=(Z.map Zu.su).map Su.co) λc d=>by
    obtain⟨x,u,rfl⟩:=eg.1 d;obtain⟨z,j,rfl⟩:=eg.1 u;obtain⟨t,m,e⟩:=(l z j).rd;show CoreOk z.co/\kP z.co;rw[<-e];exact⟨qg1 m,pV t (kC m).1⟩
   rw[cd,cd]at this;rw[cd];exact this
  have o:=vqm l d.2.2 (⟨pri,n+1⟩:Mg) Z.length ui;rw[im,List.drop_length,fw]at o;unfold vbs;rw[q,o];unfold xQ gk zV;rw[im,List.drop_length,fw,List.filter_map,List.filter_map];refine⟨by simp only[lq];rfl,rfl,Z.map (qm0 ps ⟨pri,n+1⟩),rfl, ?_,λz j=>?_, ?_⟩
  .show(Z.map Zu.ru).map (vf8 ps ⟨pri,n+1⟩)=_
   rw[lq,lq];exact List.map_congr_left λz _=>(vng ps _ z).symm
  obtain⟨y,r,rfl⟩:=eg.1 j;exact vnf (l y r);rw[nt];exact hp.imp λ{a b} D=>by rw[vbq,vbq];exact D
 rw[ak d,ak d];exact⟨rfl,rfl,Z,C⟩
section
variable {pv:Ap}
attribute [local go_sem ↓] vsl
theorem HsR.more{R:Nat->Prop}(h:HsR pv w R W hv hs)(j:Xb W Ad):HsR pv w (λk=>R k\/W.1.size<=k) Ad hv hs:=
 ⟨h.at'.below j,λx l=>((h.each x l).keep (λ_ _ _=>rfl) (λb d m=>⟨d.1,λe=>e.elim d.2 (Nat.not_le.2 m)⟩)).below j,λk c e=>e.elim (h.hf k c) (Nat.not_le.2 (by
  rcases c with c|c
  .exact(h.at'.row.lt k c).2
  .have:=h.at'.lt;omega))⟩
theorem vdz{R:Nat->Prop}{x bn:Nat}{m bv:Ap}{nxs bxs:List Ap}(h:HsR pv w R W hv hs)(Q:∀k,R' k->R k)(u:∀k,R' k->k<W.1.size)(C:W.ownsRow (w.1.size+1) 3 1 m x nxs)(y:W.ownsRow (w.1.size+1) 5 1 bv bn bxs)(o:∀k,m.ownBlock=G k\/bv.ownBlock=G k->R k/\¬R' k)(l:Ad=W.alloc (Al #[m,bv,I J 0] 74))(K:hs.length<=19300000000000)(D:x<=100000000)(H:bn<=100000000):
  ua 31 #[Ag (G ⟨w.1.size,0,O⟩),Ag (G ⟨W.1.size,0,O⟩)] Ad λe W'=>e=Ak (Aj #[])/\∃hv' r,HsR pv w R' W' hv' r/\r.length=hs.length+4/\(∀k,R' k->W'.1[k]?=W.1[k]?)/\W.1.size<=W'.1.size:=by
 have A1:=h.at'.lt;have q:Xb W Ad:=l ▸ uj.alloc ui _
 have hz:Ad.1.size=W.1.size+1:=by rw[l];simp
 have S:FmAt (w.1.size+1) Ad W.1.size 0 m bv x bn nxs bxs:=⟨ub,⟨_,by rw[l];exact heap_alloc_new W _⟩,by rw[l];simp,by rw[l];simp,by rw[l];simp,λi=>by rw[l];simp,qE C q ui,qE y q ui,λe=>uu ((C.lt _ e).2),λe=>uu ((y.lt _ e).2),λk e1 e2=>by
  obtain⟨c,P⟩:=yt C e1;obtain⟨d,hd⟩:=yt y e2
  exact absurd (qeo P hd) ue⟩
 refine(vpa (R:=R') (h.more q) (λk j=>Am (Q k j)) (λk j=>uu (u k j)) S (λk j=>?_) K D H).mono λe W' ⟨h1,hv',r,h2,h3,T,h5⟩=>⟨h1,hv',r,h2,h3,λk j=>(T k j).trans (q.block k (u k j)),ub⟩
 rcases j with j|j|j;exact⟨Am (o k (Am j)).1,(o k (Am j)).2⟩;exact⟨Am (o k (An j)).1,(o k (An j)).2⟩;exact⟨An ub,λe=>uu (u k e)⟩
section
variable {w W U Ad:Ao} {hv cv iv gv:Ap} {hs:List (Nat×Nat)} {N M Af A B Ac:Nat} {cxs ixs gxs:List Ap}
end
end
structure Pl where
 pb:Nat
 bb:Nat
 mb:Nat
 F:Nat->Prop
 G:Nat->Prop
 last:Int
 L:List Su
 R:List Ru
 Z:List Zu
def Pl.own(p:Pl)(k:Nat):Prop:=k=p.pb\/p.F k\/p.G k
structure PlAt(b:Nat)(W:Ao)(p:Pl):Prop where
 c0:W.cell? ⟨p.pb,0,O⟩=G (Ag (G ⟨p.bb,0,O⟩))
 c1:W.cell? ⟨p.pb,1,O⟩=G (Ag (G ⟨p.mb,0,O⟩))
 lt:p.pb<W.1.size
 br:Br W p.F p.bb p.last p.L
 good:kQ p.L
 rb:RBr W p.G p.mb p.last p.R
 z:ZRel p.L p.R p.last p.Z
 l0:0<=p.last
 fb:¬p.F p.pb
 gb:¬p.G p.pb
 fg:∀k,p.F k->¬p.G k
 lo:∀k,p.own k->b<k
section
variable {b:Nat} {W W':Ao} {p:Pl}
theorem PlAt.sz(h:PlAt b W p):∀k,p.own k->k<W.1.size:=λk c=>by
 rcases c with rfl|c|c
 .exact h.lt
 .exact h.br.1 k c
 .exact h.rb.1 k c
theorem PlAt.same(h:PlAt b W p)(d:∀k,p.own k->W'.1[k]?=W.1[k]?)(c:W.1.size<=W'.1.size):PlAt b W' p:=by
 have j:∀i,W'.cell? ⟨p.pb,i,O⟩=W.cell? ⟨p.pb,i,O⟩:=λi=>aw (w:=W) (a:=⟨p.pb,i,O⟩) (d p.pb (Am rfl))
 exact⟨(j 0).trans h.c0,(j 1).trans h.c1,aq h.lt c,h.br.frame c λk e=>d k (An (Am e)),h.good,h.rb.frame c λk e=>d k (An (An e)),h.z,h.l0,h.fb,h.gb,h.fg,h.lo⟩
end
theorem HsR.grow{pv:Ap}{W':Ao}{R:Nat->Prop}(h:HsR pv w R W hv hs)(d:Grow R W W')(D:∀k,R k->w.1.size<k)(y:∀k,R' k->R k\/W.1.size<=k):HsR pv w R' W' hv hs:=by
 have C:=h.at'.lt;have o:W'.1[w.1.size]?=W.1[w.1.size]?:=d.block _ C (h.hf _ (An rfl));have u:∀i,W'.cell? ⟨w.1.size,i,O⟩=W.cell? ⟨w.1.size,i,O⟩:=λi=>aw (w:=W) (a:=⟨w.1.size,i,O⟩) o
 have j:=h.at'.u;have r:∀x∈hs,HdAt (λk=>(w.1.size<k/\hv.ownBlock≠G k)/\¬R' k) W' x.1 x.2:=λx l=>(h.each x l).keep (λb m q=>d.block b q m.2) λb m q=>⟨m.1,λe=>(y b e).elim m.2 λe=>ub⟩
 refine⟨⟨⟨d.os.trans j.os,d.tape.trans j.tape,d.output.trans j.output,bs j.size d.size,λk c=>(d.block k ub λe=>uu (D k e)).trans (j.block k c)⟩,aq C d.size,(u 0).trans h.at'.c0,(u 1).trans h.at'.c1,λi=>(cn (w:=W) (a:=⟨w.1.size,i,O⟩) o).trans (h.at'.fz i),vj h.at'.row λk c=>d.block k (h.at'.row.lt k c).2 (h.hf k (Am c)),λx l=>⟨(r x l).keep (λ_ _ _=>rfl) (λ_ h _=>h.1),(h.at'.each x l).2⟩⟩,r,λk c e=>?_⟩;rcases y k e with e|e;exact h.hf k c e;rcases c with c|c;have:=(h.at'.row.lt k c).2;omega;omega
def ApR(pv:Ap)(ps:List Pl)(k:Nat):Prop:=pv.ownBlock=G k\/∃p∈ps,p.own k
def ptV(p:Pl):Ap:=Ag (G ⟨p.pb,0,O⟩)
structure ApAt(w W:Ao)(pv hv:Ap)(hs:List (Nat×Nat))(ps:List Pl)(X:Nat->Prop):Prop where
 hr:HsR pv w (λk=>ApR pv ps k\/X k) W hv hs
 row:W.ownsRow (w.1.size+1) 38 1 pv ps.length (ps.map ptV)
 each:∀p∈ps,PlAt w.1.size W p
 apart:∀(i j:Nat) (p q:Pl),i≠j->ps[i]?=G p->ps[j]?=G q->∀k,p.own k->¬q.own k
 pn:∀p∈ps,∀k,p.own k->pv.ownBlock≠G k
 xn:∀k,X k->¬ApR pv ps k
 xl:∀k,X k->w.1.size<k/\k<W.1.size
section
variable {w W W':Ao} {pv hv:Ap} {hs:List (Nat×Nat)} {ps:List Pl} {X X':Nat->Prop}
theorem ApAt.rlo(h:ApAt w W pv hv hs ps X):∀k,ApR pv ps k\/X k->w.1.size<k/\k<W.1.size:=λk c=>by
 rcases c with(c|⟨p,hp,c⟩)|c
 .have:=h.row.lt k c;omega
 .exact⟨(h.each p hp).lo k c,(h.each p hp).sz k c⟩
 .exact h.xl k c
theorem ApAt.below(h:ApAt w W pv hv hs ps X)(d:Xb W W'):ApAt w W' pv hv hs ps X:=
 ⟨h.hr.grow (Grow.of_below d) (λk c=>(h.rlo k c).1) λ_ c=>Am c,qE h.row d ui,λp hp=>(h.each p hp).same (λk c=>d.block k ((h.each p hp).sz k c)) d.size,h.apart,h.pn,h.xn,λk c=>⟨(h.xl k c).1,aq (h.xl k c).2 d.size⟩⟩
theorem ApAt.op(h:ApAt w W pv hv hs ps X){p m:Pl}(C:ps[i]?=G p)(o:Grow p.own W W')(hp:PlAt w.1.size W' m)(V8:m.pb=p.pb)(O:∀k,m.own k->p.own k\/W.1.size<=k)(J:∀k,X' k->X k\/(W.1.size<=k/\k<W'.1.size))(Q:∀k,X' k->¬m.own k):ApAt w W' pv hv hs (ps.set i m) X':=by
 have K:=bg C;have W9:=(aj.1 C).1;have Y7:=h.rlo;have sX:=h.hr.at'.lt;have S:∀k,pv.ownBlock=G k->k<W.1.size:=λk d=>(h.row.lt k d).2
 have u:∀j q,(ps.set i m)[j]?=G q->(j=i/\q=m)\/(i≠j/\ps[j]?=G q):=λj q l=>by
  rw[fq]at l
  split at l
  rename_i e;subst e;injection l with l;exact Am ⟨rfl,l.symm⟩;rename_i e;exact An ⟨e,l⟩
 have O4:(ps.set i m).map ptV=ps.map ptV:=by
  apply ix;intro j;rw[cm,cm,fq]
  split
  .rename_i e
   subst e;rw[C];show G (ptV m)=G (ptV p);unfold ptV;rw[V8]
  rfl
 have hR:∀k,ApR pv (ps.set i m) k\/X' k->(ApR pv ps k\/X k)\/W.1.size<=k:=λk d=>by
  rcases d with(d|⟨q,hq,d⟩)|d;exact Am (Am (Am d));obtain⟨j,l⟩:=dd hq;rcases u j q l with⟨_,rfl⟩|⟨_,l⟩;rcases O k d with e|e;exact Am (Am (An ⟨p,K,e⟩));exact An e;exact Am (Am (An ⟨q,bg l,d⟩));rcases J k d with e|e;exact Am (An e);exact An e.1
 refine⟨h.hr.grow ⟨o.os,o.tape,o.output,o.size,λk d hn=>o.block k d λe=>hn (Am (An ⟨p,K,e⟩))⟩ (λk d=>(Y7 k d).1) hR, ?_,λq hq=>?_,λa c x y T H r k=>?_,λq hq k d e=>?_,λk d e=>?_,λk d=>?_⟩;rw[eu,O4];exact vj h.row λk d=>o.block k (S k d) λe=>h.pn p K k e d
 obtain⟨j,l⟩:=dd hq;rcases u j q l with⟨_,rfl⟩|⟨P,l⟩;exact hp;have I:=h.each q (bg l);exact I.same (λk d=>o.block k (I.sz k d) λe=>h.apart i j p q P C l k e d) o.size;rcases u a x H with⟨ea,ex⟩|⟨ha,H⟩;rcases u c y r with⟨ec,_⟩|⟨Y,r⟩;exact absurd (ea.trans ec.symm) T;rw[ex];intro d e;rcases O k d with d|d;exact h.apart i c p y Y C r k d e;have:=(h.each y (bg r)).sz k e;omega;rcases u c y r with⟨ec,ey⟩|⟨Y,r⟩;rw[ey];intro d e;rcases O k e with e|e;exact h.apart i a p x ha C H k e d;have:=(h.each x (bg H)).sz k d;omega;exact h.apart a c x y T H r k;obtain⟨j,l⟩:=dd hq;rcases u j q l with⟨_,rfl⟩|⟨_,l⟩;rcases O k d with d|d;exact h.pn p K k d e;have:=S k e;omega;exact h.pn q (bg l) k d e
 have aO:∀(q:Pl) (j:Nat),ps[j]?=G q->q.own k->¬W.1.size<=k:=λ(q:Pl) (j:Nat) l e=>by
  have:=(h.each q (bg l)).sz k e;omega
 rcases e with e|⟨q,hq,e⟩;rcases J k d with D|D;exact h.xn k D (Am e);have:=S k e;omega;obtain⟨j,l⟩:=dd hq;rcases u j q l with⟨_,rfl⟩|⟨_,l⟩;exact Q k d e;rcases J k d with D|D;exact h.xn k D (An ⟨q,bg l,e⟩);exact aO q j l e D.1;rcases J k d with e|e;exact⟨(h.xl k e).1,aq (h.xl k e).2 o.size⟩;exact⟨ub,e.2⟩
theorem ApAt.start(w:Ao):ApAt w (w.alloc (Al #[C O 0 0,C O 0 0] 30)) (C O 0 0) (C O 0 0) [] [] (λ_=>False):=
 ⟨⟨HsAt.start w,λx d=>by simp at d,λk c e=>by
  rcases e with(e|⟨p,hp,_⟩)|e
  .simp[Value.ownBlock]at e
  .simp at hp
  .exact e⟩,dy _ _ _ _,λp hp=>by simp at hp,λi j p q _ h=>by simp at h,λp hp=>by simp at hp,λk c=>c.elim,λk c=>c.elim⟩
theorem ApAt.at(h:ApAt w W pv hv hs ps X){p:Pl}(d:ps[i]?=G p):∃g c,pv=C (G ⟨g,0,O⟩) ps.length c/\g<W.1.size/\W.cell? ⟨g,i,O⟩=G (ptV p):=by
 have m:=(aj.1 d).1;have e:=h.row;rcases h.row.2 with⟨rfl,l⟩|⟨g,cap,cur,rfl,o,j,_⟩;omega;refine⟨g,cap,rfl,(cf.1 j).1, ?_⟩;rw[World.ownsRow.cellAt e i ub,cm,d];rfl
end
section
variable {b:Nat} {W W1 W2:Ao} {p:Pl}
theorem PlAt.mid(h:PlAt b W p)(d:Grow p.F W W1):RBr W1 p.G p.mb p.last p.R:=h.rb.frame d.size λk c=>d.block k (h.rb.1 k c) λe=>h.fg k e c
theorem PlAt.two(h:PlAt b W p){m:Nat->Prop}(j:Br W1 m p.bb n L)(r:∀k,m k->upF p.F W W1 k)(I:kQ L)(l:Grow p.F W W1)(H:RBr W2 (upF p.G W1 W2) p.mb n R)(d:Grow p.G W1 W2)(C:ZRel L R n Z)(D:0<=n):
  PlAt b W2 ⟨p.pb,p.bb,p.mb,m,upF p.G W1 W2,n,L,R,Z⟩/\Grow p.own W W2/\∀k,(⟨p.pb,p.bb,p.mb,m,upF p.G W1 W2,n,L,R,Z⟩:Pl).own k->p.own k\/W.1.size<=k:=by
 have S:=l.size;have K:=d.size;have P:=h.lt;have q:=h.rb.1;have G:=h.br.1
 have o:∀k,m k->¬p.G k:=λk c e=>by
  rcases r k c with j|j;exact h.fg k j e;have:=q k e;omega
 have J:W2.1[p.pb]?=W.1[p.pb]?:=(d.block _ ub h.gb).trans (l.block _ P h.fb);have u:∀i,W2.cell? ⟨p.pb,i,O⟩=W.cell? ⟨p.pb,i,O⟩:=λi=>aw (w:=W) (a:=⟨p.pb,i,O⟩) J
 have Q:=h.lo p.pb (Am rfl)
 have y:∀k,(⟨p.pb,p.bb,p.mb,m,upF p.G W1 W2,n,L,R,Z⟩:Pl).own k->p.own k\/W.1.size<=k:=λk c=>by
  rcases c with c|c|c;exact Am (Am c);rcases r k c with e|e;exact Am (An (Am e));exact An e.1;rcases c with e|e;exact Am (An (An e));exact An ub
 refine⟨⟨(u 0).trans h.c0,(u 1).trans h.c1,by show p.pb<_;omega,j.frame K λk c=>d.block k (j.1 k c) (o k c),I,H,C,D,λe=>?_,λe=>?_,λk c e=>?_,λk c=>?_⟩,⟨d.os.trans l.os,d.tape.trans l.tape,d.output.trans l.output,ub,λk c x=>(d.block k ub λe=>x (An (An e))).trans (l.block k c λe=>x (An (Am e)))⟩,y⟩;rcases r _ e with e|e;exact h.fb e;have:W.1.size<=p.pb:=e.1;omega;rcases e with e|e;exact h.gb e;have:W1.1.size<=p.pb:=e.1;omega;rcases e with e|e;exact o k c e;have:=j.1 k c;have:W1.1.size<=k:=e.1;omega;rcases y k c with e|e;exact h.lo k e;show b<k;omega
end
section
variable {w W:Ao} {pv hv:Ap} {hs:List (Nat×Nat)} {ps:List Pl} {i:Nat} {p:Pl}
def AfPl(w:Ao)(pv hv:Ap)(hs:List (Nat×Nat))(ps:List Pl)(i:Nat)(n:Int)(W:Ao):Prop:=∃p',ApAt w W pv hv hs (ps.set i p') (λ_=>False)/\0<=p'.last/\p'.last<=n
theorem Grow.andB{W W1 V:Ao}(c:Grow F W W1)(d:Xb W1 V):Grow F W V:=⟨d.os.trans c.os,d.tape.trans c.tape,d.output.trans c.output,bs c.size d.size,λk e h=>(d.block k (aq e c.size)).trans (c.block k e h)⟩
theorem AfPl.of(h:ApAt w W pv hv hs ps (λ_=>False))(l:ps[i]?=G p){j W1 W2:Ao}(q:Br j (upF p.F W j) p.bb p.last L)(m:Xb j W1)(r:kQ L)(D:Grow p.F W W1)(o:RBr W2 (upF p.G W1 W2) p.mb p.last R)(C:Grow p.G W1 W2)(d:∃Z,ZRel L R p.last Z):AfPl w pv hv hs ps i p.last W2:=by
 obtain⟨Z,d⟩:=d;have hp:=h.each p (bg l);obtain⟨y,x,u⟩:=hp.two (q.below m) (λ_ c=>c.imp_right λe=>⟨e.1,aq e.2 m.size⟩) r D o C d hp.l0;exact⟨_,h.op l x y rfl u (λk c=>c.elim) (λk c=>c.elim),hp.l0,rq _⟩
theorem vnr(h:ApAt w W pv hv hs ps (λ_=>False))(u:ps[i]?=G p)(P:LibOk W)(id:Int)(s:tu)(q:s.length<=140737488355328):
  ua 40 #[Ag (G ⟨p.bb,0,O⟩),I J id,Y (BS s)] W λe W1=>e=Ak (Aj #[I J (qel p.L id s).2.1,I J (qel p.L id s).2.2])/\Grow p.own W W1/\Xc W1 p.pb 1 (Ag (G ⟨p.mb,0,O⟩)) /\
   ∀V,Xb W1 V->ua 41 #[Ag (G ⟨p.mb,0,O⟩),I J id,Y (BS s)] V λe W2=>e=Ak (Aj #[I J (qel p.L id s).2.1,I J (qel p.L id s).2.2])/\AfPl w pv hv hs ps i p.last W2:=by
 have hp:=h.each p (bg u);obtain⟨T,d⟩:=vrw hp.z hp.rb.2.1 id s q
 have y:∀x∈p.R,x.Q.length<=140737488355328:=λx r=>by
  obtain⟨_,K,C,_⟩:=hp.z;rw[K]at r;obtain⟨z,d,rfl⟩:=eg.1 r;exact(C z d).tl
 refine vmv W p.F p.bb p.last p.L hp.br hp.good id s q P _ λW1 o S c=>⟨rfl,⟨c.os,c.tape,c.output,c.size,λk H D=>c.block k H λe=>D (An (Am e))⟩,(aw (w:=W) (a:=⟨p.pb,1,O⟩) (c.block _ hp.lt hp.fb)).trans hp.c1,λV j=>?_⟩
 rw[T];exact vfy (hp.mid (c.andB j)) y id s q (λW a cap m ss o l Q=>qfb o l Q) _ λW2 l K5=>⟨rfl,AfPl.of h u o j S (c.andB j) l K5 d⟩
theorem vc3(h:ApAt w W pv hv hs ps (λ_=>False))(j:ps[i]?=G p)(id:Int):
  ua 42 #[Ag (G ⟨p.bb,0,O⟩),I J id] W λe W1=>e=Ak (I J (yB p.L id).2)/\Grow p.own W W1/\Xc W1 p.pb 1 (Ag (G ⟨p.mb,0,O⟩)) /\
   ∀V,Xb W1 V->ua 43 #[Ag (G ⟨p.mb,0,O⟩),I J id] V λe W2=>e=Ak (I J (yB p.L id).2)/\AfPl w pv hv hs ps i p.last W2:=by
 have hp:=h.each p (bg j);obtain⟨x,l⟩:=vnd hp.z id;refine vb8 W p.F p.bb p.last p.L hp.br hp.good id _ λW1 r u c=>⟨rfl,⟨c.os,c.tape,c.output,c.size,λk o m=>c.block k o λe=>m (An (Am e))⟩,(aw (w:=W) (a:=⟨p.pb,1,O⟩) (c.block _ hp.lt hp.fb)).trans hp.c1,λV d=>?_⟩
 rw[x];exact qu3 (hp.mid (c.andB d)) id _ λW2 q y=>⟨rfl,AfPl.of h j r d u (c.andB d) q y l⟩
theorem vit(h:ApAt w W pv hv hs ps (λ_=>False))(m:ps[i]?=G p)(id:Int):
  ua 44 #[Ag (G ⟨p.bb,0,O⟩),I J id] W λe W1=>e=Ak (Aj #[I J (yT p.L id).2.1,I J (yT p.L id).2.2])/\Grow p.own W W1/\Xc W1 p.pb 1 (Ag (G ⟨p.mb,0,O⟩)) /\
   ∀V,Xb W1 V->ua 45 #[Ag (G ⟨p.mb,0,O⟩),I J id] V λe W2=>e=Ak (Aj #[I J (yT p.L id).2.1,I J (yT p.L id).2.2])/\AfPl w pv hv hs ps i p.last W2:=by
 have hp:=h.each p (bg m);obtain⟨H,d⟩:=vqo hp.z id
 have y:∀x∈p.R,x.ms.length<=6:=λx l=>by
  obtain⟨_,u,o,_⟩:=hp.z;rw[u]at l;obtain⟨z,d,rfl⟩:=eg.1 l;exact(o z d).l6
 refine vf1 W p.F p.bb p.last p.L hp.br id _ λW1 D c=>⟨rfl,⟨c.os,c.tape,c.output,c.size,λk r q=>c.block k r λe=>q (An (Am e))⟩,(aw (w:=W) (a:=⟨p.pb,1,O⟩) (c.block _ hp.lt hp.fb)).trans hp.c1,λV j=>?_⟩
 rw[H];exact qzn (hp.mid (c.andB j)) y id _ λW2 C K=>⟨rfl,AfPl.of h m D j (qtd hp.good) (c.andB j) C K d⟩
end
end Go.Proofs.YtdmmmgodfceilaaGreatDoor
