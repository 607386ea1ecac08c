/- Publish -/
import Derived.Test.YtmepkbgodcffoaaGreatDoorM09
import Derived.Test.YtmepkbgodcffoaaGreatDoorM22
set_option maxHeartbeats 16000000
set_option maxRecDepth 100000
namespace Go.Proofs.YtmepkbgodcffoaaGreatDoor
open Go.RowKit Go.Proofs.Tryz
open _root_.List renaming length->A
open Go.World renaming setCell->B,ownsRow->ue
open Go.Value renaming ownBlock->ug,agg->Ai,bool->Ah,int->I,pointer->Ag,slice->C,string->Y,tuple->Aj
open Bool renaming false->uh,true->ui
open Go.Addr renaming mk->D
open _root_.Array renaming size->Z
open Go renaming Value->Ap,World->Ao
open Go.Ending renaming returned->Ak
open Go.IntKind renaming i64->J
open Go.Obj renaming cells->Al
open Option renaming none->O,some->G
open Or renaming inl->Am,inr->An
variable{t:Ast}{s:uj}{c x y:Co}{last o:Int}{ss ts:List uk}{E cs:List Co}{z:List Int}{pos:List Nat}{fs:List RF}{ns:List RN}{st:List Su×List Int×List Int}{l:List Sx}{LN b base bb cap g i k m n p rb:Nat}{F:Nat->Prop}{a:Option Addr}{f:RF}{fv inv mv posv rv sv tv v:Ap}{W w w' w2 wr wr':Ao}
def qvn(l:List Int):List Ap:=l.map λx=>I J x
def ZsAt(w:Ao)(base:Nat)(v:Ap)(l:List Int):Prop:=ue w base 3 1 v (A l) (qvn l)
theorem ZsAt.nil(w:Ao)(base:Nat):ZsAt w base (C O 0 0) []:=⟨rfl,Am ⟨rfl,rfl⟩⟩
theorem ZsAt.form{l:List Int}(h:ZsAt w base v l):∃a c,v=C a (A l) c:=by
 obtain⟨rfl,d⟩|⟨g,cap,cur,rfl,_⟩:=h.2<;>grind
theorem ZsAt.app{W':Ao}{l:List Int}(h:ZsAt W base v l)(Y:base<=Z W.1)(x:Int)(X:A l<=1000)(ty:TypeId)(H:Nat)(K:Z W.1=H)(B:W'=W.alloc (Al #[I J x] 3)):
  ∃g cap w5,(xb #[50,50] ty #[v,C (G (D H 0 O)) 1 1]).run prog W'=.ok (C (G (D g 0 O)) (A l+1) cap) w5 /\
   Hid (ZsAt w5 base (C (G (D g 0 O)) (A l+1) cap) (l++[x]))/\Hid (W.grownBy w5 (ug v))/\Hid (ug v=G g\/Z W.1<=g):=by
 subst K B;obtain⟨j,r,R,U,S⟩:=info_parts kA;have u:=World.ownsRow.alloc h (Al #[I J x] 3);obtain⟨g,cap,w5,q,B7,d,T,_⟩:=run_append_lies (P:=prog) (W.alloc (Al #[I J x] 3)) 50 ty base 3 j _ 1 8 underlying50 r R U S rfl uq v (A l) (qvn l) u
  ⟨Z W.1,0,O⟩ 1 1 [I J x] rfl (World.news_of_block (cs:=#[I J x]) (t:=3) (fr:=(0,0)) (heap_alloc_new W _)) (by simp[Value.oneCell']) uq (by unfold maxLen;omega) uq ut _ rfl
 have Q:=pZ W (Al #[I J x] 3);refine⟨g,cap,w5,q,qd ?_,qd ⟨d.os,d.tape,d.output, ?_,λk M L=>?_⟩,qd ?_⟩
 grind[qvn,ZsAt]
 have:=d.size;simp at this;omega;rw[d.block k ut L,Q.block k M];obtain e|e:=T;exact Am e
 right;simp at e;omega
def zF(m:Mg)(st:List Su×List Int×List Int)(p:Nat):List Su×List Int×List Int:=match st.1[p]? with
 | none=>st
 | some x=>if A x.ms=6 then(st.1,st.2.1++[x.id],st.2.2++[x.id]) else(st.1.set p { x with ms:=qdg x.ms m },st.2.1++[x.id],st.2.2)
def qav(m:Mg)(L:List Su)(pos:List Nat)(k:Nat):List Su×List Int×List Int:=(pos.take k).foldl (zF m) (L,[],[])
def vgn(m:Mg)(L:List Su)(pos:List Nat):List Su×List Int×List Int:=pos.foldl (zF m) (L,[],[])
theorem qfq(m:Mg)(L:List Su)(pos:List Nat)(k p:Nat)(h:pos[k]?=G p):qav m L pos (k+1)=zF m (qav m L pos k) p:=by
 unfold qav;rw[dt,h,List.foldl_append];rfl
theorem qgv(m:Mg)(st:List Su×List Int×List Int)(p:Nat):A (zF m st p).1=A st.1:=by
 grind[zF]
theorem qs9(m:Mg)(L:List Su)(pos:List Nat)(k:Nat):A (qav m L pos k).1=A L:=by
 induction k<;>grind[List.take_add_one,qav,qgv]
theorem qhi(m:Mg)(L:List Su)(pos:List Nat)(k:Nat):A (qav m L pos k).2.1<=k/\A (qav m L pos k).2.2<=k:=by
 induction k with
 | zero=>exact⟨ux,ux⟩
 | succ k ih=>
  cases h:pos[k]? with
  | none =>grind[List.take_add_one,qav]
  | some p=>
   rw[qfq m L pos k p h,zF]
   split
   omega
   grind
theorem BrAt.grown{r:Option Nat}(h:BrAt w bb last sv tv rv l)(j:w.grownBy w' r)(q:∀k,r=G k->¬qe3 bb sv tv rv l k):BrAt w' bb last sv tv rv l:=
 h.same j.size λk d=>j.block k (h.foot_lt d) λe=>q k e.symm d
structure PubAt(w w2:Ao)(F:Nat->Prop)(bb:Nat)(last:Int)(sv:Ap)(tv rv posv:Ap)(pos:List Nat)(st:List Su×List Int×List Int)(mv fv:Ap)(wr:Ao):Prop where
 ex:∃l,BrAt wr bb last sv tv rv l/\l.map Sx.su=st.1/\∀k,qe3 bb sv tv rv l k->F k\/(w.1.size<=k/\∃x∈l,ug x.hv=G k)
 grow:Grow F w wr
 hF:∀k,F k->k<w.1.size
 zw:w.1.size<=w2.1.size
 z:w2.1.size<=wr.1.size
 pos:IsAt wr w.1.size posv pos
 posb:∀k,ug posv=G k->k<w2.1.size
 met:ZsAt wr w2.1.size mv st.2.1
 full:ZsAt wr w2.1.size fv st.2.2
 ne:∀k,ug mv=G k->ug fv≠G k
theorem PubAt.h(h:PubAt w w2 F bb last sv tv rv posv pos st mv fv wr)(d:Xb wr wr'):PubAt w w2 F bb last sv tv rv posv pos st mv fv wr':=by
 obtain⟨l,r,q,j⟩:=h.ex;exact⟨⟨l,r.h d,q,j⟩,h.grow.trans' (Grow.x d),h.hF,h.zw,bu h.z d.size,qm h.pos λk e=>d.block k (h.pos.lt k e).2,h.posb,qm h.met λk e=>d.block k (h.met.lt k e).2,qm h.full λk e=>d.block k (h.full.lt k e).2,h.ne⟩
theorem PubAt.not_foot(j:∀k,F k->k<Z w.1)(e:Z w.1<=Z w2.1)(r:BrAt wr bb last sv tv rv l)(q:∀k,qe3 bb sv tv rv l k->F k\/(Z w.1<=k/\∃x∈l,ug x.hv=G k))(hv:ZsAt wr (Z w2.1) v z)(d:ug v=G k):¬qe3 bb sv tv rv l k:=by
 intro h;have u:=(hv.lt k d).1
 grind[xf,BrAt,ZsAt]
theorem PubAt.more_met{q:Ap}(h:PubAt w w2 F bb last sv tv rv posv pos st mv fv wr)
  (C:ZsAt wr' (Z w2.1) q z) (j:wr.grownBy wr' (ug mv)) (D:∀k,ug q=G k->ug mv=G k\/Z wr.1<=k):PubAt w w2 F bb last sv tv rv posv pos (st.1,z,st.2.2) q fv wr':=by
 obtain⟨l,u,J,r⟩:=h.ex;have B:∀k,ug mv=G k->¬qe3 bb sv tv rv l k:=λk d=>PubAt.not_foot h.hF h.zw u r h.met d
 refine⟨⟨l,u.grown j B,J,r⟩, ?_,h.hF,h.zw,bu h.z j.size,qm h.pos λk d=>j.block k (h.pos.lt k d).2 ?_,h.posb,C,qm h.full λk d=>j.block k (h.full.lt k d).2 (λe=>h.ne k e.symm d),λk d e=>?_⟩;have:=h.zw;have:=h.grow.size;exact⟨j.os.trans h.grow.os,j.tape.trans h.grow.tape,j.output.trans h.grow.output,bu h.grow.size j.size,λk I H=>(j.block k uq (λe=>md ((h.met.lt k e.symm).1))).trans (h.grow.block k I H)⟩;intro e;have:=(h.met.lt k e.symm).1;have:=h.posb k d;omega;obtain A|A:=D k d;exact h.ne k A e;have:=(h.full.lt k e).2;omega
theorem PubAt.more_full{q:Ap}(h:PubAt w w2 F bb last sv tv rv posv pos st mv fv wr)
  (C:ZsAt wr' (Z w2.1) q z) (j:wr.grownBy wr' (ug fv)) (D:∀k,ug q=G k->ug fv=G k\/Z wr.1<=k):PubAt w w2 F bb last sv tv rv posv pos (st.1,st.2.1,z) mv q wr':=by
 obtain⟨l,u,J,r⟩:=h.ex;have B:∀k,ug fv=G k->¬qe3 bb sv tv rv l k:=λk d=>PubAt.not_foot h.hF h.zw u r h.full d
 refine⟨⟨l,u.grown j B,J,r⟩, ?_,h.hF,h.zw,bu h.z j.size,qm h.pos λk d=>j.block k (h.pos.lt k d).2 ?_,h.posb,qm h.met λk d=>j.block k (h.met.lt k d).2 (λe=>h.ne k d e.symm),C,λk d e=>?_⟩;have:=h.zw;have:=h.grow.size;exact⟨j.os.trans h.grow.os,j.tape.trans h.grow.tape,j.output.trans h.grow.output,bu h.grow.size j.size,λk I H=>(j.block k uq (λe=>md ((h.full.lt k e.symm).1))).trans (h.grow.block k I H)⟩;intro e;have:=(h.full.lt k e.symm).1;have:=h.posb k d;omega;obtain A|A:=D k e;exact h.ne k d A;have:=(h.met.lt k d).2;omega
theorem PubAt.form(h:PubAt w w2 F bb last sv tv rv posv pos st mv fv wr){x:Su}(d:st.1[p]?=G x):∃g n c,sv=C (G (D g 0 O)) n c:=by
 obtain⟨l,j,e,r⟩:=h.ex;obtain⟨y,q,A⟩:=vty e d;obtain⟨_,u⟩|⟨g,c,hv⟩:=vI j.row<;>grind
theorem PubAt.facts{c:Nat}(h:PubAt w w2 F bb last (C (G (D g 0 O)) n c) tv rv posv pos st mv fv wr){x:Su}(B:st.1[p]?=G x):
  Xc wr bb 1 (C (G (D g 0 O)) n c)/\Xc wr bb 0 (I J last)/\Xc wr g (p * 3) (I J x.id)/\p<n/\A x.ms<=6/\∃hv,HqAt wr g (p * 3+2) hv 0 x.ms:=by
 obtain⟨l,d,L,R⟩:=h.ex;obtain⟨y,e,q⟩:=vty L B;obtain⟨a,S,hv,H⟩:=SbRow.subs d.row;obtain⟨M,Q,T,j,_,_⟩:=H p y.sb (by grind)
 have K:g=M:=by
  grind
 have P:n=A l:=by
  grind
 subst K;have u:y.sb.id=x.id:=by rw[<-q];rfl
 have r:y.ms=x.ms:=by rw[<-q];rfl
 rw[u]at j;refine⟨d.cells.2.1,d.cells.1,j, ?_, ?_,y.hv, ?_⟩
 grind
 rw[<-r];exact d.m6 y (bh e);rw[<-r];exact d.hq e
theorem PubAt.pushed{c:Nat}(h:PubAt w w2 F bb last (C (G (D g 0 O)) n c) tv rv posv pos st mv fv wr){x:Su}(S:st.1[p]?=G x){hv hv':Ap}{ms':List Mg}(fZ:HqAt wr g (p * 3+2) hv 0 x.ms)(hq:HqAt wr' g (p * 3+2) hv' 0 ms')(r:PqKept g (p * 3+2) hv hv' wr wr')(X:A ms'<=6):
  PubAt w w2 F bb last (C (G (D g 0 O)) n c) tv rv posv pos (st.1.set p { x with ms:=ms' },st.2.1,st.2.2) mv fv wr':=by
 obtain⟨l,q,h2,u⟩:=h.ex;obtain⟨y,B,Y9⟩:=vty h2 S;have L:=bh B
 have ehv:hv=y.hv:=by
  have M:=fZ.c;have J:=(q.hq B).c;rw[M]at J;simpa using J
 subst ehv;obtain⟨Q,M,J,a3,a4,a5,a6,aG⟩:=q.turned B hq r X;have keepZ:∀{b:Nat} {v:Ap} {m:Nat} {xs:List Ap},ue wr b 3 1 v m xs->∀k,ug v=G k->wr'.1[k]?=wr.1[k]?:=λH k K=>r.block k (H.lt k K).2 (λe=>by subst e;exact xf H q.row uu K rfl) (λe=>xf H (q.hps y L) uu K e)
 have T:F g:=by
  obtain e|⟨_,z,d,e⟩:=u g (Am (An (Am rfl)));exact e;exact absurd rfl (xf (q.hps z d) q.row uu e)
 have aO:=h.grow.size;refine⟨⟨l.set p Q,aG, ?_,λk U=>?_⟩, ?_,h.hF,h.zw,bu h.z r.size,qm h.pos (keepZ h.pos),h.posb,qm h.met (keepZ h.met),qm h.full (keepZ h.full),h.ne⟩
 grind[Sx.su,List.map_set]
 have two:∀k,qe3 bb (C (G (D g 0 O)) n c) tv rv l k->(∀z∈l,ug z.hv≠G k)->F k:=λk R I6=>by
  obtain e|⟨_,z,d,e⟩:=u k R;exact e
  grind
 have core:∀z∈l,z.lo<=k->k<z.hi->F k:=λz d e1 e2=>two k (An ⟨z,d,e1,e2⟩) λP U5 j=>by
  have:=q.out z d k (An (An (An (An ⟨P,U5,j⟩))));omega
 obtain (e|e|e|e|⟨z,d,e⟩)|⟨z,d,e⟩:=U;exact Am (two k (Am (Am e)) λz d j=>by rw[e]at j;exact ja (q.hps z d) q.blk uu j);exact Am (two k (Am (An (Am e))) λz d j=>xf (q.hps z d) q.row uu j e);exact Am (two k (Am (An (An (Am e)))) λz d j=>xf (q.hps z d) q.rows.ats uu j e);exact Am (two k (Am (An (An (An (Am e))))) λz d j=>xf (q.hps z d) q.rows.ars uu j e)
 by_cases hkw:Z w.1<=k
 grind
 left
 have old:∀z∈l,ug z.hv=G k->F k:=λz d e=>by
  obtain j|⟨j,_⟩:=u k (Am (An (An (An (An ⟨z,d,e⟩)))));exact j;omega
 obtain d|rfl:=lw d;exact old z d e
 grind[PqKept]
 grind
 refine⟨r.os.trans h.grow.os,r.tape.trans h.grow.tape,r.output.trans h.grow.output,bu aO r.size,λk Y I=>?_⟩;rw[r.block k uq (λe=>I (by rwa[e])) (λe=>?_)];exact h.grow.block k Y I;obtain j|⟨j,_⟩:=u k (Am (An (An (An (An ⟨y,L,e⟩)))));exact I j;omega
section
attribute [local go_sem ↓] vp
def vww(F:Nat->Prop)(w w':Ao)(mv fv:Ap)(k:Nat):Prop:=upF F w w' k/\ug mv≠G k/\ug fv≠G k
def qpu(ps:List Pr)(L:List Su):List Nat:=qz4 ps (jF L).1 (jF L).2
theorem vrn(ps:List Pr)(L:List Su):∀p∈qpu ps L,p<A L:=by
 intro p hp;have:=vrm _ _ _ p hp
 grind[jF,j7]
theorem qfa(ps:List Pr)(L:List Su):A (qpu ps L)<=A L:=by
 grind[qf9,jF,j7,qpu,qz4]
theorem PubAt.begun{q:Ao}{last':Int}(S:BrAt w bb last sv tv rv l)(R:∀k,F k->k<Z w.1)(M:∀k,qe3 bb sv tv rv l k->F k)(u:Xb w q)
  (r:Below (Z q.1) (B q (D bb 0 O) (I J last')) w2) (hp:IsAt w2 (Z q.1) posv pos):PubAt w w2 F bb last' sv tv rv posv pos (l.map Sx.su,[],[]) (C O 0 0) (C O 0 0) w2:=by
 have U:=u.size;have T:=r.size;rw[size_setCell]at T;have d:=S.h u
 have same:∀k,k<Z q.1->k≠bb->w2.1[k]?=q.1[k]?:=λk k1 G=>by
  rw[r.block k k1,bi _ ⟨bb,0,O⟩ _ k (by show k≠bb;exact G)]
 have X:=d.lt;have A:∀{b s m:Nat} {e:TypeId} {v:Ap} {xs:List Ap},ue q b e s v m xs->e≠54->ue w2 b e s v m xs:=λK L=>qm K λk j=>same k (K.lt k j).2 (λe=>by subst e;exact ja K d.blk L j)
 refine⟨⟨l,⟨?_,A d.row uu,⟨A d.rows.ats uu,A d.rows.ars uu,d.rows.ne⟩,λx H=>A (d.hps x H) uu,d.dis,λx H=>?_,d.out,d.up,d.n8,d.m6,d.prg⟩,rfl,λk j=>Am (M k j)⟩, ?_,R,uq,ux,vE hp U,λk j=>(hp.lt k j).2,ZsAt.nil _ _,ZsAt.nil _ _,λk j=>by simp[Value.ownBlock]at j⟩;rw[r.block bb X];exact vh7 d.blk _;obtain⟨Q,Y,P⟩:=d.cos x H;exact⟨CoAt.keep ux (λk k1 G=>same k uq (λe=>md (d.out x H k (Am e)))) uq Q,uq,P⟩;refine⟨r.os.trans u.os,r.tape.trans u.tape,r.output.trans u.output,uq,λk k1 G=>?_⟩;rw[same k uq (λe=>G (M k (Am (Am e)))),u.block k k1]
theorem PubAt.done(h:PubAt w w2 F bb last sv tv rv posv pos st mv fv wr):
  Br wr (vww F w wr mv fv) bb last st.1/\Grow F w wr/\ZsAt wr (Z w.1) mv st.2.1/\ZsAt wr (Z w.1) fv st.2.2:=by
 obtain⟨l,j,r,q⟩:=h.ex;have u:=h.grow.size;refine⟨⟨λk d=>?_,sv,tv,rv,l,j,r,λk d=>?_⟩,h.grow,vE h.met h.zw,vE h.full h.zw⟩;obtain e|e:=d.1;have:=h.hF k e;omega;exact e.2;refine⟨?_,λe=>PubAt.not_foot h.hF h.zw j q h.met e d,λe=>PubAt.not_foot h.hF h.zw j q h.full e d⟩;obtain e|⟨e,_⟩:=q k d;exact Am e;exact An ⟨e,j.foot_lt d⟩
theorem PubAt.pos_cell{c:Nat}(h:PubAt w w2 F bb last sv tv rv (C a m c) pos st mv fv wr)(hp:pos[k]?=G p):∃d,a=G (D d 0 O)/\Xc wr d k (I J p):=by
 obtain⟨_,j⟩|⟨g,q,hv⟩:=vI h.pos
 grind
 have e:a=G (D g 0 O):=by grind
 refine⟨g,e, ?_⟩;have:=World.ownsRow.cells h.pos (g:=g) (by rw[e];rfl) k (I J p) (by simp[zp,hp]);rwa [vW,ed]at this
theorem vvg(w:Ao)(F:Nat->Prop)(bb:Nat)(last:Int)(L:List Su)(h:Br w F bb last L)(pri:Int)(h0:0<=pri)(h9:pri<=9)(hlast:0<=last/\last<4611686018427387904)(ps:List Pr)(ev:Ap)
  (A7:∀w',Grow F w w'->EvIn w' ev ps) (hg:EvGood ps) (E9:zQ ps=ui)
  (Q:Ending->Ao->Prop) (hQ:∀w' mv fv,Br w' (vww F w w' mv fv) bb (last+1) (vgn ⟨pri,last+1⟩ L (qpu ps L)).1->Grow F w w'->ZsAt w' (Z w.1) mv (vgn ⟨pri,last+1⟩ L (qpu ps L)).2.1->ZsAt w' (Z w.1) fv (vgn ⟨pri,last+1⟩ L (qpu ps L)).2.2->(∀k,ug mv=G k->ug fv≠G k)->Q (Ak (Aj #[mv,fv,I J 0])) w') :
  uo 44 #[Ag (G (D bb 0 O)),I J pri,ev] w Q:=by
 obtain⟨hF,sv,tv,rv,l,Y,hL,D7⟩:=h;have iK:=A7 w (Grow.x uy);have HV:=qd (qbx iK hg);rw[E9]at HV;obtain⟨ea,en,ec,rfl⟩:=iK.slice;have rB:jF L=(tsX l,rsX l):=by rw[<-hL,pP]
 obtain⟨pos,t9⟩:=ie (qpu ps L);have rY:=vrn ps L;have wC:=qfa ps L;have hL8:A L<=8:=by rw[<-hL,cf];exact Y.n8
 rw[t9]at hQ rY wC;obtain⟨m,hm⟩:=ie (A pos);obtain⟨M,hM⟩:=il (⟨pri,last+1⟩:Mg);rw[<-hM]at hQ;have hMp:M.pri=pri:=by rw[hM]
 have hMn:M.M=last+1:=by rw[hM]
 have ZU:Hid (∀r,Below (Z w.1) w r->Xc r bb 0 (I J last)/\r.frozen? (D bb 0 O)=uh/\bb<Z r.1):=qd λr hb=>by
  have I7:=Y.h hb;exact⟨I7.cells.1,I7.cells.2.2.2.2 0,I7.lt⟩
 have PR:Hid (∀r,Below (Z w.1) w r->uo 64 #[Ag (G (D bb 2 O)),C ea en ec] (B r (D bb 0 O) (I J (last+1))) λe w2=>∃a c,e=Ak (C a m c)/\Hid (PubAt w w2 F bb (last+1) sv tv rv (C a m c) pos (qav M L pos 0) (C O 0 0) (C O 0 0) w2)):=qd (by
  intro r K;have I7:=Y.h K;have B9:=K.size;obtain⟨R,u⟩:=il (B r (D bb 0 O) (I J (last+1)));have TR:Z R.1=Z r.1:=by rw[u];simp
  have hP1:=PubAt.begun (last':=last+1) (w2:=R) (posv:=C O 0 0) (pos:=[]) Y hF D7 K (by rw[u];exact uy) (IsAt.nil _ _);obtain⟨l',b1,b2,_⟩:=hP1.ex;have NH:jF L=(tsX l',rsX l'):=by rw[<-pP,b2,hL]
  have H:ProgAt R bb 2 (jF L).1 (jF L).2:=by
   rw[NH];exact⟨b1.lt,⟨_,_,b1.cells.2.2.1,b1.rows.ats⟩,_,_,b1.cells.2.2.2.1,b1.rows.ars⟩
  have PG:Prg (jF L).1 (jF L).2:=by rw[NH];exact b1.prg
  have ZF:=A7 R ⟨by rw[u];exact K.os,by rw[u];exact K.tape,by rw[u];exact K.output,uq,λk k1 k2=>by
   rw[u,bi _ ⟨bb,0,O⟩ _ k (by show k≠bb;exact λe=>k2 (D7 k (Am (Am e)))),K.block k k1]⟩
  rw[<-u];refine(quq ps _ bb 2 _ _ R H PG (ZF.arg (qu1 E9)) hg.rng (qer E9)).mono ?_;rintro e w2⟨v,rfl,hi,A3⟩;have uI:IsAt w2 (Z R.1) v pos:=by rwa[<-t9]
  obtain⟨a,c,hv⟩:=uI.form;rw[hm]at hv;subst hv;refine⟨a,c,rfl,qd ?_⟩;have:=PubAt.begun (last':=last+1) Y hF D7 K (by rwa[<-u,<-TR]) (by rwa[<-TR]);rw[hL]at this
  exact this)
 have HPOS:Hid (∀k p,pos[k]?=G p->∃x,(qav M L pos k).1[p]?=G x):=qd λk p hp=>by
  have:=rY p (bh hp);exact⟨_,ag (by rw[qs9];exact this)⟩
 have HEND:Hid (∀w2 mv fv posv wr,PubAt w w2 F bb (last+1) sv tv rv posv pos (qav M L pos m) mv fv wr->Q (Ak (Aj #[mv,fv,I J 0])) wr):=qd (by
  intro w2 mv fv posv wr hP;have e:qav M L pos m=vgn M L pos:=by unfold qav vgn;rw[<-hm,ig]
  rw[e]at hP;obtain⟨q1,q2,q3,q4⟩:=hP.done
  exact hQ wr mv fv q1 q2 q3 q4 hP.ne)
 have hm8:m<=8:=uq;have HM:=qd hm;go_enter func44,ntmps44
 go_wp2_with(first|(go_at_call 48;refine be HV λr K=>?_;have B1:=qd K;obtain⟨c1,f1,l1⟩:=q9 ZU r K)|(refine(PR r B1).mono ?_;rintro e w2⟨a2,c2,rfl,P2⟩))
 go_loopw [9,10,38] (λmv fv i wr=>∃k:Nat,k<=m/\i=I J k/\Hid (PubAt w w2 F bb (last+1) sv tv rv (C a2 m c2) pos (qav M L pos k) mv fv wr)) (λ_ _ i _=>m - (intOf i).toNat)
 exact⟨0,bt _,rfl,P2⟩;obtain⟨k,hk,rfl,H⟩:=hrel
 by_cases A1:k<m
 .obtain⟨p,hp⟩:∃p,pos[k]?=G p:=⟨_,ag (md (q9 HM))⟩
  obtain⟨x,P⟩:=q9 HPOS k p hp;obtain⟨g,n,c,rfl⟩:=(q9 H).form P;have u:Hid (qav M L pos (k+1)=zF M (qav M L pos k) p):=qd (qfq M L pos k p hp);obtain⟨hsm1,hsm2⟩:=qhi M L pos k;obtain⟨f1,f0,fi,hpn,h6,hv,hq⟩:=(q9 H).facts P;obtain⟨d,hd⟩:=(q9 H).pos_cell hp;obtain⟨ma,mc,rfl⟩:=(q9 H).met.form;obtain⟨fa,fc,rfl⟩:=(q9 H).full.form;have uX:Z w2.1<=Z wr.1:=(q9 H).z;obtain⟨ml,fO⟩:=ie (A (qav M L pos k).2.1);obtain⟨fl,F9⟩:=ie (A (qav M L pos k).2.2);obtain⟨g5,J7,w5,r5,Z5,G5,N5⟩:=(q9 H).met.app uX x.id uq 50 (Z wr.1) rfl rfl
  have X:=(q9 H).more_met Z5 G5 (λj hj=>by
   have e:g5=j:=by simpa [Value.ownBlock]using hj
   rw[<-e];exact q9 N5)
  obtain⟨f51,f50,f5i,_,_,TZ,hq5⟩:=X.facts (x:=x) (p:=p) P;rw[fO]at r5;have P5:=qd X;rw[fO,F9]at P5;have LEN:=qd (vio g (p * 3+2) 0 TZ x.ms w5 hq5);have z5:Z w2.1<=Z w5.1:=(q9 P5).z;obtain⟨rfl,dc⟩:=hd;rw[fO,F9]
  by_cases h66:A x.ms=6
  .have cR:Hid (qav M L pos (k+1)=((qav M L pos k).1,(qav M L pos k).2.1++[x.id],(qav M L pos k).2.2++[x.id])):=qd (by
    rw[q9 u];unfold zF;rw[P];simp only
    rw[bs h66])
   rw[h66]at LEN;obtain⟨g6,m7,w6,r6,Z6,G6,N6⟩:=(q9 P5).full.app z5 x.id (by rw[F9];omega) 50 (Z w5.1) rfl rfl
   have P6:=qd (P5.more_full Z6 G6 (λj hj=>by
    have e:g6=j:=by simpa [Value.ownBlock]using hj
    rw[<-e];exact q9 N6))
   simp only[F9]at r6 P6;have HS6:Hid (∃q,q<=m/\(I J ((k:Int)+1))=I J (q:Nat)/\Hid (PubAt w w2 F bb (last+1) (C (G (D g 0 O)) n c) tv rv (C (G (D d 0 O)) m c2) pos (qav M L pos q) (C (G (D g5 0 O)) (ml+1) J7) (C (G (D g6 0 O)) (fl+1) m7) w6)):=qd ⟨k+1,uq,rfl,qd (by rw[q9 cR];exact q9 P6)⟩
   go_wp2_with(refine be LEN ?_;rintro w7 rfl)
   exact⟨q9 HS6,by simp[intOf];omega⟩
  have cR:Hid (qav M L pos (k+1)=((qav M L pos k).1.set p { x with ms:=qdg x.ms M },(qav M L pos k).2.1++[x.id],(qav M L pos k).2.2)):=qd (by
   rw[q9 u];unfold zF;rw[P];simp only
   rw[ak h66])
  have PUSH:Hid (∀U,Below (Z w5.1) w5 U->uo 77 #[Ag (G ⟨g,p * 3+2,O⟩),Ai #[I J pri,I J (last+1)]] U λe w'=>e=Ak (Aj #[])/\Hid (∃q,q<=m/\(I J ((k:Int)+1))=I J (q:Nat)/\Hid (PubAt w w2 F bb (last+1) (C (G (D g 0 O)) n c) tv rv (C (G (D d 0 O)) m c2) pos (qav M L pos q) (C (G (D g5 0 O)) (ml+1) J7) (C fa fl fc) w'))):=qd (by
   intro U hU;have T:=(q9 P5).h hU;obtain⟨_,_,_,_,_,hvU,S⟩:=T.facts (x:=x) (p:=p) P;have hmg:Ai #[I J pri,I J (last+1)]=mgV M:=by unfold mgV;rw[hMp,hMn]
   rw[hmg];refine(vkd g (p * 3+2) 0 hvU x.ms M uq U S (bt _)).mono ?_;rintro e w'⟨v',rfl,h1,h2⟩;refine⟨rfl,qd ⟨k+1,uq,rfl,qd ?_⟩⟩;rw[q9 cR]
   exact T.pushed (p:=p) P S h1 h2 (by rw[qnj];omega))
  obtain⟨q,hq⟩:=ie (A x.ms);rw[hq]at LEN h66
  go_wp2_with(refine be LEN ?_;rintro w7 rfl)
  go_region_with(go_at_call 77;refine be (PUSH _ (by repeat (first|exact uy|apply Below.drew))) λw8 S8=>?_)
  all_goals go_wp2_with(refine be (PUSH _ (by repeat (first|exact uy|apply Below.drew))) λw8 S8=>?_)
  all_goals exact⟨q9 S8,by simp[intOf];omega⟩
 have FQ:k=m:=uq;subst FQ;have HE:Hid _:=qd (HEND w2 _ _ _ wr H)
 go_wp2
 refine um ?_;exact q9 HE
end
section
attribute [local go_sem ↓] vr
theorem vkv(h:TwRow w base v ts)(T:A ts<=1000000000000)(t:uk):uo 103 #[v,Y (BS t)] w λe w'=>e=Ak (Ah (ts.contains t))/\w'=w:=by
 have Q:∃a c,v=C a (A ts) c:=by
  obtain⟨rfl,S⟩|⟨g,cap,cur,rfl,_⟩:=h.2;exact⟨O,0,by rw[S]⟩;exact⟨_,_,rfl⟩
 obtain⟨a,c,rfl⟩:=Q;have H:=qd h;obtain⟨n,K⟩:=ie (A ts);rw[K]at H T |-;have B:=qd K;obtain⟨R,P⟩:=ie (ts.contains t);rw[P];have L:=qd P;go_enter func103,ntmps103
 go_wp2
 go_loopw [5] (λi wr=>∃k:Nat,k<=n/\i=I J k/\wr=w/\Hid (∀j,j<k->ts[j]?≠G t)) (λi _=>n - (intOf i).toNat)
 exact⟨0,bt _,rfl,rfl,qd λj d=>uq⟩;obtain⟨k,U,rfl,rfl,M⟩:=hrel
 by_cases A1:k<n
 .obtain⟨u,hu⟩:∃u,ts[k]?=G u:=⟨_,ag (md (q9 B))⟩
  obtain⟨g,cap,e,_,X,q⟩:=TwRow.cell (show TwRow wr base (C a (A ts) c) ts by rw[q9 B];exact q9 H) hu;injection e with e _ _;subst e;have Z9:=it k;have A5:=je k n
  by_cases he:u=t
  .have hq:((BS u).toList==(BS t).toList)=ui:=by rw[he];exact mu _
   have r:Hid (R=ui):=qd (by rw[<-q9 L,List.contains_iff_mem,<-he];exact bh hu)
   go_wp2
   go_ret;exact⟨by rw[q9 r];rfl,rfl⟩
  have hq:((BS u).toList==(BS t).toList)=uh:=by rw[qP,qP];exact aw.2 he
  have D:Hid (∀j,j<k+1->ts[j]?≠G t):=qd λj d e=>by
   by_cases hjk:j=k
   rw[hjk,hu]at e;injection e with e;exact he e;exact q9 M j uq e
  go_wp2
  go_roundw
  case rel=>exact⟨k+1,A1,by go_num,by first|rfl|trivial,D⟩
  simp[intOf];omega
 have Z:k=n:=uq
 have r:Hid (R=uh):=qd (by
  rw[<-q9 L]
  cases q:ts.contains t with
  | false=>rfl
  | true=>
   rw[List.contains_iff_mem]at q;obtain⟨j,d⟩:=db q
   exact absurd d (M j (by have:=(aj.1 d).1;have:=q9 B;omega)))
 have UG:=jl k n
 go_wp2
 go_ret;exact⟨by rw[q9 r];rfl,rfl⟩
theorem TwRow.app2(h:TwRow W base v ts)(J:base<=Z W.1)(x:uk)(T:A ts<=1000000000000)(H:Nat)(K:Z W.1=H):
  ∃g cap w5,(appR #[31,31] 31 #[v,C (G (D H 0 O)) 1 1]).run prog (W.alloc (Al #[Y (BS x)] 9))=.ok (C (G (D g 0 O)) (A ts+1) cap) w5 /\
   Hid (TwRow w5 base (C (G (D g 0 O)) (A ts+1) cap) (ts++[x]))/\Hid (Below base W w5)/\Hid (∀b,b<Z W.1->ug v≠G b->w5.1[b]?=W.1[b]?)/\Hid (ug v=G g\/Z W.1<g)/\Hid (Z W.1<=Z w5.1):=by
 subst K;obtain⟨r,I,M,S,Q⟩:=info_parts qex;have q:=World.ownsRow.alloc h (Al #[Y (BS x)] 9);obtain⟨g,cap,w5,u,U,j,R,_⟩:=run_append_lies (P:=prog) (W.alloc (Al #[Y (BS x)] 9)) 31 31 base 9 r _ 1 16 underlying31 I M S Q rfl uq v (A ts) _ q
  ⟨Z W.1,0,O⟩ 1 1 [Y (BS x)] rfl (World.news_of_block (cs:=#[Y (BS x)]) (t:=9) (fr:=(0,0)) (heap_alloc_new W _)) (by simp[Value.oneCell']) uq (by unfold maxLen;omega) uq ut _ rfl
 refine⟨g,cap,w5,u,qd ?_,qd ?_,qd ?_,qd ?_,qd ?_⟩
 grind[qx,TwRow]
 exact Go.RowKit.Below.grown (((Below.refl base W).alloc J _)) j ut (λk B=>(q.lt k B).1);intro b L d;exact(j.block b ut (λe=>d e.symm)).trans (((Below.refl (Z W.1) W).alloc ux _).block b L);obtain h|h:=R;exact Am h
 right;rw[h];simp
 have:=j.size;simp at this;omega
end
section
variable {N N':Nat->Prop} {w w' W:Ao}
def CsOf(N:Nat->Prop)(w:Ao)(cs:List Co)(fs:List RF):Prop:=A fs=A cs/\∀(i:Nat) (c:Co) (f:RF),cs[i]?=G c->fs[i]?=G f->RfAt N w c f
theorem CsOf.h(h:CsOf N w cs fs)(d:Xb w w'):CsOf N w' cs fs:=by grind[RfAt.h,CsOf]
theorem CsOf.keep(h:CsOf N w cs fs)(d:∀b,N b->b<Z w.1->N' b):CsOf N' w cs fs:=⟨h.1,λi c f a b=>(h.2 i c f a b).keep (λ_ _ _=>rfl) ux d⟩
def CsIn(N:Nat->Prop)(w:Ao)(inv:Ap)(xs:List Co):Prop:=∃fs,CsOf N w xs fs/\(xs=[]\/∃b cap,inv=C (G (D b 0 O)) (A xs) cap/\N b/\b<Z w.1/\∀k,k<A xs * 6->w.cell? (D b k O)=(fs.flatMap qB)[k]?)
theorem CsIn.one(h:CsIn N w inv [x]):∃b cap g,inv=C (G (D b 0 O)) 1 cap/\N b/\b<Z w.1/\RfAt N w x g/\∀k,k<6->w.cell? (D b k O)=(qB g)[k]?:=by
 obtain⟨fs,⟨e,d⟩,h|⟨b,cap,rfl,r,u,q⟩⟩:=h;cases h
 match fs,e with
 | [g],_=>exact⟨b,cap,g,rfl,r,u,d 0 x g rfl rfl,λk j=>by have:=q k j;simpa using this⟩
theorem CsIn.two(h:CsIn N w inv [x,y]):∃b cap g k,inv=C (G (D b 0 O)) 2 cap/\b<Z w.1/\RfAt N w x g/\RfAt N w y k/\∀i,i<12->w.cell? (D b i O)=(qB g++qB k)[i]?:=by
 obtain⟨fs,⟨e,d⟩,h|⟨b,cap,rfl,u,r,q⟩⟩:=h;cases h
 match fs,e with
 | [g,k],_=>exact⟨b,cap,g,k,rfl,r,d 0 x g rfl rfl,d 1 y k rfl rfl,λi j=>by have:=q i j;simpa using this⟩
theorem CsIn.three{z:Co}(h:CsIn N w inv [x,y,z]):∃b cap g k j,inv=C (G (D b 0 O)) 3 cap/\b<Z w.1/\RfAt N w x g/\RfAt N w y k/\RfAt N w z j/\∀i,i<18->w.cell? (D b i O)=(qB g++qB k++qB j)[i]?:=by
 obtain⟨fs,⟨e,d⟩,h|⟨b,cap,rfl,A,q,u⟩⟩:=h;cases h
 match fs,e with
 | [g,k,j],_=>exact⟨b,cap,g,k,j,rfl,q,d 0 x g rfl rfl,d 1 y k rfl rfl,d 2 z j rfl rfl,λi r=>by grind⟩
theorem qdx{e:Ending}(u:Z w.1+1+1<=Z W.1)(h:yf (λb=>(N b\/Z w.1+1+1<=b)/\b<Z W.1) W c e w'):Xb W w'/\∃r:RF,e=Ak r.v/\RfAt (λb=>N b\/Z w.1+1+1<=b) w' c r:=by
 obtain⟨j,r,q,d⟩:=h;exact⟨j,r,q,d.keep (λ_ _ _=>rfl) ux (λb h _=>by grind)⟩
theorem qfy(h:RfAt N w c f)(e:Xb w W):RfAt (λb=>(N b\/Z w.1+1+1<=b)/\b<Z W.1) W c f:=(h.h e).keep (λ_ _ _=>rfl) ux (λ_ h d=>⟨Am h,d⟩)
theorem vvl(h:RfAt (λb=>N b\/Z w.1+1+1<=b) W c f):RfAt (λb=>(N b\/Z w.1+1+1<=b)/\b<Z W.1) W c f:=h.keep (λ_ _ _=>rfl) ux (λ_ h d=>⟨h,d⟩)
theorem qci:qu (gO 0)=[48]:=by
 show Lib.itoa ((0:Nat):Int)=[48];rw[Lib.itoa_nonneg,Lib.decDigits_one uu];rfl
theorem vtv(N:Nat->Prop)(w:Ao):yg w λz w'=>RfAt (λb=>N b\/Z w.1+1+1<=b) w' (gO 0) z:=by
 intro W _ d;have h:=pp N ⟨1,0,[],[]⟩ W;rw[show qu (.leaf ⟨1,0,[],[]⟩)=[48] from qci]at h;exact h.mono λe w' j=>qaj d j.rf
theorem qf7(p:CP)(d:Z w.1+1<Z W.1):uo 143 #[Y (BS (qJ p.op)),Y (BS (qu (.leaf p))),I J (qqk p.op),I J (qcm p:Nat)] W λe w'=>Xb W w'/\∃r:RF,e=Ak r.v/\RfAt (λb=>N b\/Z w.1+1+1<=b) w' (.leaf p) r:=
 (pp N p W).mono λ_ _ h=>qaj d h.rf
theorem qpl{g:RF}(A:vL o)(j:Z w.1+1<Z W.1)(u:RfAt (λb=>(N b\/Z w.1+1+1<=b)/\b<Z W.1) W x f)(q:RfAt (λb=>(N b\/Z w.1+1+1<=b)/\b<Z W.1) W y g)(B:gT x)(d:gT y):
  uo 146 #[Y (BS (qJ o)),f.v,g.v] W λe w'=>Xb W w'/\∃r:RF,e=Ak r.v/\RfAt (λb=>N b\/Z w.1+1+1<=b) w' (qq o x y) r:=
 (pT A u q B d (λ_ h=>h.2)).mono λ_ _ h=>qdx j h
theorem vuf(hd:qpz x)(d:Z w.1+1<Z W.1)(j:RfAt (λb=>(N b\/Z w.1+1+1<=b)/\b<Z W.1) W x f):
  uo 100 #[f.v] W λe w'=>Xb W w'/\∃r:RF,e=Ak r.v/\RfAt (λb=>N b\/Z w.1+1+1<=b) w' (vj x) r:=
 (hd _ W f j (λ_ h=>h.2)).mono λ_ _ h=>qdx d h
theorem qrr{p:CP}{g:RF}(q:Z w.1+1<Z W.1)(d:Xb w W)(u:RfAt N w x g)(H:N b)(j:b<Z w.1)(B:∀k,k<6->w.cell? (D b k O)=(qB g)[k]?)(K:gT x):
  uo 148 #[Y (BS (qJ p.op)),Y (BS (qu (.un p x))),I J (qqk p.op),C (G (D b 0 O)) 1 cap,I J (qcm p:Nat)] W λe w'=>Xb W w'/\∃r:RF,e=Ak r.v/\RfAt (λb=>N b\/Z w.1+1+1<=b) w' (.un p x) r:=
 (qnv p (vnx (qfy u d) (au j d.size) (λk A=>((qi d).1 _ _ j).trans (B k A))) ⟨Am H,au j d.size⟩ K).mono λ_ _ h=>qdx q h
theorem vpw(D:A (qu x)<=402)(e:WfC x){S:List uk}(G:A S<=1000)(q:∀t∈S,A t<=200)(i:Nat):gT (amK x S i):=by
 have C:A (S.getD 0 [])<=200:=by
  grind
 have B:WfC (qq 8 x (vl (S.getD 0 []))):=vX rfl e rfl;have d:WfC (amK x S i):=quj e _ _ B;have u:=qfj x ((S.drop 1).take (i - 1)) (qq 8 x (vl (S.getD 0 []))) (λt j=>q t (mj (List.mem_of_mem_take j)));rw[qN 8 rfl rfl]at u;have K:=xV _ C;have L:A (jJ 8)=1:=rfl;have r:A ((S.drop 1).take (i - 1))<=1000:=by rw[cw,dp];omega
 have J:A ((S.drop 1).take (i - 1)) * (A (qu x)+420)<=1000 * 822:=oy r uq
 have I:A (qu (amK x S i))<=400000+1000 * 822:=by
  show (A (qu (zC _ _ _)))<=_;omega
 have H:=kM _ d;exact⟨uq,uq⟩
theorem qum(h:vL o)(e:Gc x)(d:Gc y):gT (qq o x y):=by
 constructor<;>grind[vtk,qN,vf2,kM,vX,WT.wf,Gc]
theorem vmz{t:uk}(h:A t<=200):gT (vl t):=by
 have:=xV t h;exact⟨uq,by show(1:Nat)<=_;omega⟩
theorem vwl{g:RF}{la:Option Addr}{lc:Nat}(H:Z w.1+1<Z W.1)(D:Xb w W)(I:RfAt N w x g)(B:Gc x)(j:A (qu x)<=402)(J:TxtAt w (C la (A ts) lc) ts)(u:ts≠[])(G:A ts<=1000)(q:∀t∈ts,A t<=200):
  uo 147 #[g.v,C la (A ts) lc] W λe w'=>Xb W w'/\∃r:RF,e=Ak r.v/\RfAt (λb=>N b\/Z w.1+1+1<=b) w' (vO x ts) r:=by
 refine(qxx (qfy I D) (λ_ h=>h.2) (J.h D) u G (λt d=>md (q t d)) B.big (λt d=>vmz (q t d)) (λt d=>?_) (λi _ _=>vpw j B.wt.wf (bu (qbm ts) G) (λt d=>q t (pD d)) i)).mono λ_ _ h=>qdx H h
 have M:=xV t (q t d);have L:=qN 8 rfl rfl x (vl t);have O:A (jJ 8)=1:=rfl;have K:=kM (qq 8 x (vl t)) (vX rfl B.wt.wf rfl);exact⟨uq,uq⟩
theorem vk0(e:Gc x)(d:Gc y):qpz (qq 8 x y):=by
 have j:WT (qq 8 x y):=zK (by unfold vL;omega) e.wt d.wt uq;have C:=qN 8 rfl rfl x y;have D:A (jJ 8)=1:=rfl;have B:uC (qq 8 x y)=1:=by rw[ze];rfl
 have u:=kM _ j.wf;have r:=e.len;have q:=d.len;exact qai _ j (xD uq _ _) ⟨uq,uq⟩
end
section
variable {N:Nat->Prop} {w:Ao} {p:Pay} {neg:Bool} {c:Int} {iv inv:Ap} {la:Option Addr} {lc:Nat} {xs:List Co}
theorem len0{α:Type}{l:List α}(h:A l=0):l=[]:=dh h
theorem vtz{α:Type}{l:List α}(h:A l=1):∃a,l=[a]:=by
 match l,h with
 | [a],_=>exact⟨a,rfl⟩
theorem vw9{α:Type}{l:List α}(h:A l=2):∃a b,l=[a,b]:=by
 match l,h with
 | [a,b],_=>exact⟨a,b,rfl⟩
theorem vxr{α:Type}{l:List α}(h:A l=3):∃a b c,l=[a,b,c]:=by
 match l,h with
 | [a,b,c],_=>exact⟨a,b,c,rfl⟩
theorem vg2(h:vL o):∀l∈[[110,97,109,101],[110,117,109,98,101,114],[116,101,120,116],[84,82,85,69],[70,65,76,83,69],[78,79,84],[112],[110],[60,62],[62],[62,61],[66,69,84,87,69,69,78],[73,78],[78,85,76,76],[76,73,75,69]],((BS (qJ o)).toList==l)=uh:=by
 rw[qP];obtain rfl|rfl|rfl|rfl|rfl|rfl|rfl|rfl|rfl:=h<;>decide
theorem vdm(R:CsIn N w inv xs)(hN:∀b,N b->b<Z w.1)(cB:TxtAt w (C la (A p.i) lc) p.i)(h0:0<=p.op)(O9:p.op<=23)(B:NdC p neg xs)(eX:Rng p.M)(iM:Bp p)(eK:Bz p):
  uo 99 #[Ai #[Y (BS (qJ p.op)),I J p.U,iv,Y (BS p.str),Y (BS p.esc),C la (A p.i) lc,I J p.M,Ah neg,I J c],inv] w (yf N w (gZ p xs)):=by
 obtain⟨op,pl,num,str,esc,texts⟩:=p;have M:A xs=qab op:=B.few;have Q:∀{K W:Ao},Xb w K->Xb K W->Xb w W:=λa b=>qg a b
 have O:∀{K W:Ao},Z w.1+1<Z K.1->Xb K W->Z w.1+1<Z W.1:=λa b=>au a b.size
 have fin:∀{k:Co},jv w (λr w1=>RfAt (λb=>N b\/Z w.1+1+1<=b) w1 k r) (yf N w k):=λr w1 w' h1 U h3=>yn hN h1 U h3
 have L:=vtv N w
 by_cases U:vL op
 .obtain⟨x,y,rfl⟩:=vw9 (M.trans (qq6 (by unfold vL at U;omega)))
  obtain⟨b,cap,g,k,rfl,H,D,S,G⟩:=R.two;rw[show gZ ⟨op,pl,num,str,esc,texts⟩ [x,y]=qq op x y by unfold vL at U;unfold gZ;simp only;rw[ak ut,ak ut,ak ut]];exact vdo rfl ux H G (vg2 U) L (λK z W a b d f=>qpl U (O b f) (qfy D (Q a f)) (qfy S (Q a f)) (B.gc x ur).big (B.gc y ur).big) fin
 have h0:0<=op:=h0;have O9:op<=23:=O9;rcases(show op=0\/op=1\/op=2\/op=3\/op=4\/op=5\/op=9\/op=12\/op=13\/op=14\/op=15\/op=20\/op=21\/op=22\/op=23 by unfold vL at U;omega) with e|e|e|e|e|e|e|e|e|e|e|e|e|e|e<;>subst e
 obtain rfl:=len0 M;exact qxm L (λK z W a b d f=>qf7 ⟨0,num,str,esc⟩ (O b f)) fin
 .obtain rfl:=len0 M
  obtain⟨h1,rfl,rfl⟩:=eK.M rfl;obtain⟨u,rfl⟩:∃u:Nat,num=(u:Int):=⟨num.toNat,by grind⟩;have hu:u<=9223372036854775807:=by have:=eX.2;simp only at this;omega
  refine qnm (QB:=BS (Lib.decDigits u)) (qnz u hu) L (P:=λr w1=>RfAt (λb=>N b\/Z w.1+1+1<=b) w1 (.leaf ⟨1,(u:Int),[],[]⟩) r) (λK z W a b d f=>?_) fin;have:=qf7 (N:=N) ⟨1,(u:Int),[],[]⟩ (O b f);rwa [show qu (.leaf ⟨1,(u:Int),[],[]⟩)=Lib.decDigits u from Lib.itoa_nonneg u]at this
 obtain rfl:=len0 M;exact qxo (QB:=BS (qL str)) (yD (BS str) (by have h:A str<=200:=iM.1;rw[qI];omega)) L (λK z W a b d f=>qf7 ⟨2,num,str,esc⟩ (O b f)) fin;obtain rfl:=len0 M;exact qfu (Am rfl) L (λK z W a b d f=>qf7 ⟨3,num,str,esc⟩ (O b f)) fin;obtain rfl:=len0 M;exact qfu (An rfl) L (λK z W a b d f=>qf7 ⟨4,num,str,esc⟩ (O b f)) fin;obtain⟨x,rfl⟩:=vtz M;obtain⟨b,cap,g,rfl,X,H,D,G⟩:=R.one;have T:=B.gc x ur;exact vdn rfl ux H G L (λK z W a b d f=>vuf (qai x T.wt (B.tb rfl x ur) T.sz) (O b f) (qfy D (Q a f))) fin;obtain⟨x,y,rfl⟩:=vw9 M;obtain⟨b,cap,g,k,rfl,H,D,S,G⟩:=R.two;exact vkp rfl ux H G L D S hN (B.gc x ur).big (B.gc y ur).big (vk0 (B.gc x ur) (B.gc y ur));obtain⟨x,y,rfl⟩:=vw9 M;obtain⟨b,cap,g,k,rfl,H,D,S,G⟩:=R.two;exact qhm rfl ux H G (Am ⟨rfl,rfl⟩) L (λK z W a b d f=>qpl (o:=10) (by simp[vL]) (O b f) (qfy S (Q a f)) (qfy D (Q a f)) (B.gc y ur).big (B.gc x ur).big) fin;obtain⟨x,y,rfl⟩:=vw9 M;obtain⟨b,cap,g,k,rfl,H,D,S,G⟩:=R.two;exact qhm rfl ux H G (An ⟨rfl,rfl⟩) L (λK z W a b d f=>qpl (o:=11) (by simp[vL]) (O b f) (qfy S (Q a f)) (qfy D (Q a f)) (B.gc y ur).big (B.gc x ur).big) fin;obtain⟨x,rfl⟩:=vtz M;obtain⟨b,cap,g,rfl,X,H,D,G⟩:=R.one;exact qhn rfl ux H G (Am ⟨rfl,rfl⟩) L (λK z W a b d f=>qpl (o:=16) (by simp[vL]) (O b f) (vvl (d.h f)) (qfy D (Q a f)) ⟨by rw[qci];decide,uu⟩ (B.gc x ur).big) fin;obtain⟨x,rfl⟩:=vtz M;obtain⟨b,cap,g,rfl,X,H,D,G⟩:=R.one;exact qhn rfl ux H G (An ⟨rfl,rfl⟩) L (λK z W a b d f=>qpl (o:=17) (by simp[vL]) (O b f) (vvl (d.h f)) (qfy D (Q a f)) ⟨by rw[qci];decide,uu⟩ (B.gc x ur).big) fin;obtain⟨x,y,z,rfl⟩:=vxr M;obtain⟨b,cap,g,k,j,rfl,H,D,S,hz,G⟩:=R.three;exact qk3 rfl ux H G L D S hz hN (B.gc x ur).big (B.gc y ur).big (B.gc z ur).big (qum (by simp[vL]) (B.gc y ur) (B.gc x ur)) (qum (by simp[vL]) (B.gc x ur) (B.gc z ur));obtain⟨x,rfl⟩:=vtz M;obtain⟨b,cap,g,rfl,X,H,D,G⟩:=R.one;exact vko rfl ux H G L (λK z W a b d f=>vwl (O b f) (Q a f) D (B.gc x ur) (B.nm rfl x ur) cB (B.tx rfl).1 iM.2 (B.tx rfl).2) fin
 .obtain⟨x,rfl⟩:=vtz M
  obtain⟨b,cap,g,rfl,X,H,D,G⟩:=R.one;have T:=B.gc x ur;have dY:A str<=200:=iM.1;have ND:=qb8 str;have fY:=qb8 esc
  have ZI:A esc<=1:=by
   grind[CsIn,TxtAt,NdC,Rng,Bp,Bz,BS,yf]
  have B9:A g.K<=400000000:=by rw[D.K];exact T.big.1
  refine qn (q:=qL str) (q':=qL esc) (ua:=qu (.un ⟨22,num,str,esc⟩ x)) rfl ux H G ?_ B9 uq uq (yD (BS str) (by rw[qI];omega)) (yD (BS esc) (by rw[qI];omega)) L (λK z W a b' d f=>qrr (N:=N) (p:=⟨22,num,str,esc⟩) (cap:=cap) (O b' f) (Q a f) D X H G T.big) fin;rw[D.K,qP]
  cases esc with
  | nil=>exact Am ⟨rfl,by show[40]++qu x++[32,76,73,75,69,32]++qL str++[]++[41]=_;simp⟩
  | cons a t=>exact An ⟨rfl,by show[40]++qu x++[32,76,73,75,69,32]++qL str++([32,69,83,67,65,80,69,32]++qL (a::t))++[41]=_;simp⟩
 obtain⟨x,rfl⟩:=vtz M;obtain⟨b,cap,g,rfl,X,H,D,G⟩:=R.one;have T:=B.gc x ur;exact qxn (ua:=qu (.un ⟨23,num,str,esc⟩ x)) rfl ux H G (by rw[D.K];exact T.big.1) (by rw[D.K];rfl) L (λK z W a b' d f=>qrr (N:=N) (p:=⟨23,num,str,esc⟩) (cap:=cap) (O b' f) (Q a f) D X H G T.big) fin
end
section
attribute [local go_sem ↓] vr
theorem qws:(prog.info? 106).map (λi=>(i.zero,i.size,i.bytes))=G (G (Ai #[Y ⟨#[]⟩,Y ⟨#[]⟩,I J 0,C O 0 0,C O 0 0,C O 0 0]),6,112):=uw
def RfRow(w:Ao)(base:Nat)(v:Ap)(fs:List RF):Prop:=ue w base 106 6 v (A fs) (fs.flatMap qB)
theorem RfRow.nil(w:Ao)(base:Nat):RfRow w base (C O 0 0) []:=dw _ _ _ _
theorem RfRow.h(h:RfRow w base v fs)(d:Xb w w'):RfRow w' base v fs:=qp h d ux
theorem RfRow.form(h:RfRow w base v fs):∃a c,v=C a (A fs) c:=by
 obtain⟨rfl,d⟩|⟨g,cap,cur,rfl,_⟩:=h.2<;>grind
theorem RfRow.all(h:RfRow w base v fs)(d:fs≠[]):∃g cap,v=C (G (D g 0 O)) (A fs) cap/\base<=g/\g<Z w.1/\∀k,k<A fs * 6->w.cell? (D g k O)=(fs.flatMap qB)[k]?:=by
 have j:=h;obtain⟨rfl,e⟩|⟨g,cap,cur,rfl,q,r,_⟩:=h.2<;>grind[World.ownsRow.cellAt,RfRow]
theorem RfRow.cell(h:RfRow w base v fs)(d:fs[i]?=G f):∃g cap,v=C (G (D g 0 O)) (A fs) cap/\base<=g/\g<Z w.1/\∀j,j<6->w.cell? ⟨g,i * 6+j,O⟩=(qB f)[j]?:=by
 have H:=(aj.1 d).1;obtain⟨g,cap,e,B,u,r⟩:=h.all (by grind);exact⟨g,cap,e,B,u,λj q=>(r (i * 6+j) uq).trans (vuk qB 6 (λ_=>rfl) fs i f d j q)⟩
theorem RfRow.app(h:RfRow W base v fs)(L:base<=Z W.1)(x:RF)(X:A fs<=1000)(H:Nat)(M:Z W.1=H):
  ∃g cap w5,(appR #[104,104] 104 #[v,C (G (D H 0 O)) 1 1]).run prog (W.alloc (Al #[Y x.op,Y (BS x.K),I J x.u,C x.pa x.pn x.pc,C x.ta x.tn x.tc,C x.ra x.rn x.rc] 106))=.ok (C (G (D g 0 O)) (A fs+1) cap) w5 /\
   Hid (RfRow w5 base (C (G (D g 0 O)) (A fs+1) cap) (fs++[x]))/\Hid (Below base W w5)/\Hid (∀b,b<Z W.1->ug v≠G b->w5.1[b]?=W.1[b]?)/\Hid (ug v=G g\/Z W.1<g)/\Hid (Z W.1<=Z w5.1):=by
 subst M;obtain⟨r,K,R,U,S⟩:=info_parts qws;have q:=World.ownsRow.alloc h (Al #[Y x.op,Y (BS x.K),I J x.u,C x.pa x.pn x.pc,C x.ta x.tn x.tc,C x.ra x.rn x.rc] 106);obtain⟨g,cap,w5,u,B7,j,T,_⟩:=run_append_lies (P:=prog) (W.alloc (Al #[Y x.op,Y (BS x.K),I J x.u,C x.pa x.pn x.pc,C x.ta x.tn x.tc,C x.ra x.rn x.rc] 106)) 104 104 base 106 r _ 6 112 underlying104 K R U S rfl uq v (A fs) _ q
  ⟨Z W.1,0,O⟩ 1 1 (qB x) rfl (World.news_of_block (cs:=#[Y x.op,Y (BS x.K),I J x.u,C x.pa x.pn x.pc,C x.ta x.tn x.tc,C x.ra x.rn x.rc]) (t:=106) (fr:=(0,0)) (heap_alloc_new W _)) (by simp[qB,Value.oneCell']) uq (by unfold maxLen;omega) uq ut _ rfl
 refine⟨g,cap,w5,u,qd ?_,qd ?_,qd ?_,qd ?_,qd ?_⟩
 grind[RfRow]
 exact Go.RowKit.Below.grown (((Below.refl base W).alloc L _)) j ut (λk B=>(q.lt k B).1);intro b Q d;exact(j.block b ut (λe=>d e.symm)).trans (((Below.refl (Z W.1) W).alloc ux _).block b Q);obtain h|h:=T;exact Am h
 right;rw[h];simp
 have:=j.size;simp at this;omega
structure ClAt(w wr:Ao)(av:Ap)(cs:List Co)(fs:List RF):Prop where
 row:RfRow wr (w.1.size+1) av fs
 co:CsOf (λb=>w.1.size+1<=b/\ug av≠G b) wr cs fs
 bel:Below (w.1.size+1) (w.alloc zoC) wr
section
variable {w wr w':Ao} {av:Ap} {cs:List Co} {fs:List RF}
theorem ClAt.bel0(h:ClAt w wr av cs fs):Xb w wr:=(uy.alloc ux _).trans (h.bel.mono (Nat.le_succ _))
theorem ClAt.size(h:ClAt w wr av cs fs):Z w.1+1<=Z wr.1:=by have:=h.bel.size;simpa using this
theorem ClAt.h(h:ClAt w wr av cs fs)(d:Xb wr w'):ClAt w w' av cs fs:=⟨h.row.h d,h.co.h d,h.bel.trans (d.mono h.size)⟩
theorem ClAt.blk(h:ClAt w wr av cs fs)(d:ug av=G b):b<Z wr.1:=(h.row.lt b d).2
theorem ClAt.snoc(h:ClAt w wr av cs fs){j:Ap}{w5:Ao}(L:RfAt (λb=>Z w.1+1<=b/\ug av≠G b) wr c f)(K:j=C (G (D g 0 O)) n cap)(P:RfRow w5 (Z w.1+1) j (fs++[f]))(M:Below (Z w.1+1) wr w5)(J:∀b,b<Z wr.1->ug av≠G b->w5.1[b]?=wr.1[b]?)(B:ug av=G g\/Z wr.1<g)(I:Z wr.1<=Z w5.1):ClAt w w5 j (cs++[c]) (fs++[f]):=by
 have H:∀b,(Z w.1+1<=b/\ug av≠G b)->b<Z wr.1->(Z w.1+1<=b/\ug j≠G b):=λb q u=>⟨q.1,λe=>by
  rw[K]at e;have e:g=b:=by simpa [Value.ownBlock]using e
  subst e;obtain B|B:=B;exact q.2 B
  omega⟩
 refine⟨P,⟨by simp[h.co.1],λi d k hd r=>?_⟩,h.bel.trans M⟩;have Q:=h.co.1
 by_cases hi:i<A cs
 rw[cg hi]at hd;rw[cg uq]at r;exact(h.co.2 i d k hd r).keep (λb q u=>J b u q.2) I H;rw[cu uq]at hd;rw[cu uq]at r
 have e:i=A cs:=by
  have:=(aj.1 hd).1;simp at this;omega
 subst e;rw[iz]at hd;rw[Q,iz]at r;obtain rfl:c=d:=by simpa using hd
 obtain rfl:f=k:=by simpa using r
 exact L.keep (λb q u=>J b u q.2) I H
end
def rf0:RF:=⟨⟨#[]⟩,[],0,O,0,0,O,0,0,O,0,0⟩
theorem qy3(c0:w.cell? (D rb 0 O)=G (C (G (D g 0 O)) LN cap))(hN:NodesAt w rb (C (G (D g 0 O)) LN cap) ns)(cC:rb<Z w.1)(hne:0<A ns)(A6:A ns<=1000)
  (hf:∀i n,ns[i]?=G n->∃o,NF i n o) (hg:∀n∈ns,∃p,NG n p) (N7:qq0 [] ns) :
  uo 54 #[Ag (G (D rb 0 O))] w (yf (λ_=>False) w ((pB [] ns).getD (A ns - 1) nC)):=by
 have lF:LN=A ns:=by
  obtain⟨rs,_,ho,_⟩:=hN;obtain⟨_,S|⟨g',cap',cur,e,_⟩⟩:=ho;cases S.1;injection e with _ e2 _
 have oF:g<Z w.1:=by
  obtain⟨rs,_,ho,_⟩:=hN;exact(ho.lt g rfl).2
 obtain⟨R,hR⟩:=ie ((pB [] ns).getD (A ns - 1) nC);rw[hR];have HR:Hid ((pB [] (ns.take LN)).getD (LN - 1) nC=R):=qd (by rwa[lF,ig]);have HN:=qd hN;have HF:=qd hf;have HG:=qd hg;have cJ:=qd lF;have tI:=qd N7;have t9:0<LN:=uq;have PT:LN<=1000:=uq;clear hN hf hg lF hR hne A6 N7;go_enter func54,ntmps54
 go_wp2
 go_loopw [3,4] (λav i wr=>∃k:Nat,k<=LN/\i=I J k/\∃fs,Hid (ClAt w wr av (pB [] (ns.take k)) fs)) (λ_ i _=>LN - (intOf i).toNat)
 exact⟨0,bt _,rfl,[],qd ⟨RfRow.nil _ _,⟨rfl,λi c f h=>by simp[pB]at h⟩,uy⟩⟩;obtain⟨k,hk,rfl,fs,d⟩:=hrel;obtain⟨cs,J3⟩:=ie (pB [] (ns.take k));rw[J3]at d;have lP:A fs=k:=by rw[(q9 d).co.1,<-J3,vm6];have:=q9 cJ;simp;omega
 have AJ:=qd J3;have LL:=qd lP;have iR:=(q9 d).bel0;have aO:=(q9 d).size;have d0:wr.cell? (D rb 0 O)=G (C (G (D g 0 O)) LN cap):=((qi iR).1 _ 0 cC).trans c0;have aQ:rb<Z wr.1:=uq
 by_cases A1:k<LN
 .obtain⟨n,hn⟩:∃n,ns[k]?=G n:=⟨_,ag (md (q9 cJ))⟩
  obtain⟨o,iJ⟩:=q9 HF k n hn;have cU:=iJ.ins;have K7:=iJ.few;have wF:=vt8 tI hn J3;obtain⟨p,⟨ins,neg,c,rfl,UV⟩,FE,lS,eX,iM,eK⟩:=q9 HG n (bh hn);have FB:qgu { jR p ins neg with u:=c }=p:=yS (ins:=ins) (neg:=neg) FE lS;obtain⟨xs,oY⟩:=ie (ins.map (λq=>cs.getD q nC))
  have J9:NdC p neg xs:=by
   rw[FB]at wF;have e:vpz cs { jR p ins neg with u:=c }=xs:=oY;rwa[e]at wF
  have GY:=(q9 HN).h cC iR;obtain⟨AF,iv,lv,wJ,wH,X⟩:=GY.cells hn;have dJ:RowOf wr rb 3 iv (qau ins):=wJ;have cF:RowOf wr rb 9 lv (qx p.i):=wH;have cU:∀q∈ins,q<k:=cU;clear AF wJ wH wF;have e0:wr.cell? ⟨g,k * 9,O⟩=G (Y (BS (qJ p.op))):=by have:=X 0 uq;rwa[Nat.add_zero]at this
  have e1:wr.cell? ⟨g,k * 9+1,O⟩=G (I J p.U):=X 1 uq;have e2:wr.cell? ⟨g,k * 9+2,O⟩=G iv:=X 2 uq;have e3:wr.cell? ⟨g,k * 9+3,O⟩=G (Y (BS p.str)):=X 3 uq;have e4:wr.cell? ⟨g,k * 9+4,O⟩=G (Y (BS p.esc)):=X 4 uq;have e5:wr.cell? ⟨g,k * 9+5,O⟩=G lv:=X 5 uq;have e6:wr.cell? ⟨g,k * 9+6,O⟩=G (I J p.M):=X 6 uq;have e7:wr.cell? ⟨g,k * 9+7,O⟩=G (Ah neg):=X 7 uq;have e8:wr.cell? ⟨g,k * 9+8,O⟩=G (I J c):=X 8 uq;have QO:=qd cF.txt;obtain⟨ia,ic,rfl,NO⟩:=dJ.nums;obtain⟨la,lc,rfl,_⟩:=cF.txt;obtain⟨L,MH⟩:=ie (ins.map (λq=>fs.getD q rf0));have EJ:A L=A ins:=by rw[<-MH,cf]
  obtain⟨aa,ac,rfl⟩:=(q9 d).row.form
  have HCY:Hid (CsOf (λb=>Z w.1+1<=b/\ug (C aa (A fs) ac)≠G b) wr xs L):=qd ⟨by rw[<-oY,<-MH];simp,λi x y S K=>by
   rw[<-oY,cj]at S;rw[<-MH,cj]at K
   cases hq:ins[i]? with
   | none=>rw[hq]at S;cases S
   | some q=>
    rw[hq]at S K;have XV:=cU q (bh hq);have CH:=(q9 d).co.1;simp only[ny]at S K;injection S with S;injection K with K;rw[aq,ag uq]at S K
    exact d.co.2 q x y (by rw[<-S,ag uq];rfl) (by rw[<-K,ag uq];rfl)⟩
  have mI:A xs=A ins:=by rw[<-oY,cf]
  obtain⟨r,hr⟩:=ie (gZ p xs)
  have RV:Hid (∀(N:Nat->Prop) (W:Ao) (inv:Ap),CsIn N W inv xs->(∀b,N b->b<Z W.1)->TxtAt W (C la (A p.i) lc) p.i->uo 99 #[Ai #[Y (BS (qJ p.op)),I J p.U,C ia (A ins) ic,Y (BS p.str),Y (BS p.esc),C la (A p.i) lc,I J p.M,Ah neg,I J c],inv] W λe w'=>Xb W w'/\∃q:RF,e=Ak (Ai #[Y q.op,Y (BS q.K),I J q.u,C q.pa q.pn q.pc,C q.ta q.tn q.tc,C q.ra q.rn q.rc])/\RfAt (λb=>N b\/Z W.1<=b) w' r q):=qd λN W inv h1 h2 h3=>by
   rw[<-hr];exact vdm h1 h2 h3 FE lS J9 eX iM eK
  have RN:Hid (neg=ui->∀(N:Nat->Prop) (W:Ao) (f:RF),RfAt N W r f->(∀b,N b->b<Z W.1)->uo 100 #[Ai #[Y f.op,Y (BS f.K),I J f.u,C f.pa f.pn f.pc,C f.ta f.tn f.tc,C f.ra f.rn f.rc]] W λe w'=>Xb W w'/\∃q:RF,e=Ak (Ai #[Y q.op,Y (BS q.K),I J q.u,C q.pa q.pn q.pc,C q.ta q.tn q.tc,C q.ra q.rn q.rc])/\RfAt (λb=>N b\/Z W.1<=b) w' (vj r) q):=qd λh N W f h1 h2=>by
   rw[<-hr]at h1 |-;exact qai _ J9.all.wt (J9.no h) J9.all.sz N W f h1 h2
  have tH:Hid (pB [] (ns.take (k+1))=cs++[if neg=ui then vj r else r]):=qd (by
   rw[vek hn (q9 AJ)]
   congr 2
   unfold qjf;rw[FB,show vpz cs { jR p ins neg with u:=c }=xs from oY,hr]
   rfl)
  have HYS:=qd MH;have QK:=qd EJ;have LK:=qd mI;have JA:Hid (∀q∈ins,q<k):=qd cU;have h3:A ins<=3:=K7;obtain⟨lI,sH⟩:=ie (A ins);have nE:=qd sH;obtain⟨lT,sG⟩:=ie (A p.i);rw[sH]at e2 RV h3;rw[sG]at e5 RV QO;have IY:=qd NO;have Z9:=it k;have A5:=je k LN;have ng:¬g=Z wr.1:=md iR.size
  have nr:¬rb=Z wr.1:=uq;have S6:g<Z wr.1:=md iR.size
  obtain⟨W,hW⟩:=il (wr.alloc (Al #[Y (BS (qJ p.op)),I J p.U,C ia lI ic,Y (BS p.str),Y (BS p.esc),C la lT lc,I J p.M,Ah neg,I J c] 178):Ao);have rH:Xb wr W:=hW ▸ uy.alloc ux _
  have iL:∀k,W.cell? ⟨Z wr.1,k,O⟩=#[Y (BS (qJ p.op)),I J p.U,C ia lI ic,Y (BS p.str),Y (BS p.esc),C la lT lc,I J p.M,Ah neg,I J c][k]?:=λk=>by rw[hW,ce _ _ _ _ ur]
  have rG:Z W.1=Z wr.1+1:=by rw[hW];simp
  have HW:=qd hW;have QN:=qd rH;have IP:=qd rG;have bF:=qd iL;rw[lP]at d HCY |-;clear hn iJ cU K7 UV FE lS eX iM eK GY dJ cF X NO oY MH mI EJ hr sH sG hW rH iL rG J3 lP iR AJ FB J9
  go_wp2
  rw[<-q9 HW];clear e0 e1 e2 e3 e4 e5 e6 e7 e8;obtain⟨M,rfl⟩:=il (wr:Ao)
  go_loopw [6,7] (λnv j wq=>∃m:Nat,m<=lI/\j=I J m/\Hid (RfRow wq (Z W.1) nv (L.take m))/\Hid (Xb W wq)) (λ_ j _=>lI - (intOf j).toNat)
  exact⟨0,bt _,rfl,qd (RfRow.nil _ _),qd uy⟩;obtain⟨m,hm,rfl,HX,BM⟩:=hrel;obtain⟨Q6,sP⟩:=qi BM;have XA:=(q9 BM).size;have rG:=q9 IP;have eB:=qd (qg QN BM);have f0:wr.cell? ⟨Z M.1,0,O⟩=G (Y (BS (qJ p.op))):=(Q6 _ 0 uq).trans (bF 0);have f1:wr.cell? ⟨Z M.1,1,O⟩=G (I J p.U):=(Q6 _ 1 uq).trans (bF 1);have f2:wr.cell? ⟨Z M.1,2,O⟩=G (C ia lI ic):=(Q6 _ 2 uq).trans (bF 2);have f3:wr.cell? ⟨Z M.1,3,O⟩=G (Y (BS p.str)):=(Q6 _ 3 uq).trans (bF 3);have f4:wr.cell? ⟨Z M.1,4,O⟩=G (Y (BS p.esc)):=(Q6 _ 4 uq).trans (bF 4);have f5:wr.cell? ⟨Z M.1,5,O⟩=G (C la lT lc):=(Q6 _ 5 uq).trans (bF 5);have f6:wr.cell? ⟨Z M.1,6,O⟩=G (I J p.M):=(Q6 _ 6 uq).trans (bF 6);have f7:wr.cell? ⟨Z M.1,7,O⟩=G (Ah neg):=(Q6 _ 7 uq).trans (bF 7);have f8:wr.cell? ⟨Z M.1,8,O⟩=G (I J c):=(Q6 _ 8 uq).trans (bF 8);clear Q6 sP
  by_cases fO:m<lI
  .obtain⟨q,hq⟩:∃q,ins[m]?=G q:=⟨_,ag (md (q9 nE))⟩
   have XV:q<k:=q9 JA q (bh hq);obtain⟨lb,rfl,T0,uG⟩:=q9 IY m q hq;have MZ:wr.cell? (D lb m O)=G (I J (q:Int)):=(eB.cell (p:=D lb m O) T0).trans uG;obtain⟨y,K⟩:∃y,fs[q]?=G y:=⟨_,ag (md (q9 LL))⟩;obtain⟨B,VT,GU,_,Y7,H⟩:=(q9 d).row.cell K;injection GU with GU GT GS;subst GU GS;have a0:wr.cell? ⟨B,q * 6,O⟩=G (Y y.op):=(eB.cell (p:=⟨B,q * 6,O⟩) Y7).trans (H 0 uq);have a1:wr.cell? ⟨B,q * 6+1,O⟩=G (Y (BS y.K)):=(eB.cell (p:=⟨B,q * 6+1,O⟩) Y7).trans (H 1 uq);have a2:wr.cell? ⟨B,q * 6+2,O⟩=G (I J y.u):=(eB.cell (p:=⟨B,q * 6+2,O⟩) Y7).trans (H 2 uq);have a3:wr.cell? ⟨B,q * 6+3,O⟩=G (C y.pa y.pn y.pc):=(eB.cell (p:=⟨B,q * 6+3,O⟩) Y7).trans (H 3 uq);have a4:wr.cell? ⟨B,q * 6+4,O⟩=G (C y.ta y.tn y.tc):=(eB.cell (p:=⟨B,q * 6+4,O⟩) Y7).trans (H 4 uq);have a5:wr.cell? ⟨B,q * 6+5,O⟩=G (C y.ra y.rn y.rc):=(eB.cell (p:=⟨B,q * 6+5,O⟩) Y7).trans (H 5 uq);have bZ:L[m]?=G y:=by rw[<-q9 HYS,cj,hq,ny,aq,K];rfl
   have rO:A (L.take m)=m:=by rw[cw,q9 QK];have:=q9 nE;omega
   obtain⟨g5,J7,w5,M8,dO,L9,_⟩:=(q9 HX).app uq y uq (Z wr.1) rfl;rw[show L.take m++[y]=L.take (m+1) by rw[dt,bZ];rfl,rO]at dO;rw[rO]at M8;obtain⟨na,nc,rfl⟩:=(q9 HX).form;rw[rO]at M8 |-;have FN:=it m;have oA:=je m lI;have ND:=it q;have fY:=je q k;clear hq uG H K bZ rO HX f0 f1 f3 f4 f5 f6 f7 f8 GT
   go_wp2
   go_roundw
   case rel=>exact⟨m+1,uq,by go_num,dO,qd (BM.trans L9)⟩
   simp[intOf];omega
  have KA:m=lI:=uq;have BI:L.take m=L:=fo (by have:=q9 QK;have:=q9 nE;omega);rw[BI]at HX;have fW:A L=lI:=by have:=q9 QK;have:=q9 nE;omega
  have HLW:=qd (d.h eB);have NN:∀b,ug (C aa k ac)=G b->b<Z M.1:=λb h=>d.blk h
  have WD:Hid (∀b,Z M.1<b->ug (C aa k ac)≠G b):=qd λb h e=>md (NN b e)
  obtain⟨na,nc,rfl⟩:=(q9 HX).form
  have HCI:Hid (CsIn (λb=>(Z w.1+1<=b/\ug (C aa k ac)≠G b)/\b<Z wr.1) wr (C na (A L) nc) xs):=qd (by
   refine⟨L,(HCY.h eB).keep (λ_ h hl=>⟨h,hl⟩), ?_⟩
   by_cases aP:xs=[]
   exact Am aP
   right
   have eP:L≠[]:=λe=>aP (dh (by have:=q9 LK;have:=q9 QK;rw[e]at this;simp at this;omega))
   obtain⟨gb,gc,e,h1,h2,h3⟩:=(q9 HX).all eP;have CH:A L=A xs:=by have:=q9 LK;have:=q9 QK;omega
   exact⟨gb,gc,by rw[e,CH],⟨⟨uq,q9 WD gb uq⟩,h2⟩,h2,λj hj=>h3 j uq⟩)
  rw[fW]at HCI HX |-;have QH:=qd (QO.h eB);have UG:=jl m lI;have fM:Z M.1<Z wr.1:=uq;have MO:=q9 LL;have F5:Z w.1+1<=Z wr.1:=uq;have HRV:=qd (RV _ wr _ HCI (λb h=>h.2) QH);clear BI KA fW HX BM QN d NN RV HCI QH HCY
  cases neg with
  | false=>
   go_wp2_with(go_at_call 99;refine HRV.mono ?_;rintro e w2⟨T,rf,rfl,uB⟩;have D8:=T.size;obtain⟨L7,P9⟩:=qi T;have k7:=(L7 _ 7 fM).trans f7;have EC:Z M.1<Z w2.1:=uq;have RZ:=qd (HLW.h (T.alloc T.size (Al #[Y rf.op,Y (BS rf.K),I J rf.u,C rf.pa rf.pn rf.pc,C rf.ta rf.tn rf.tc,C rf.ra rf.rn rf.rc] 106)));have eM:=qd ((uB.keep (N':=λb=>Z w.1+1<=b/\ug (C aa k ac)≠G b) (λ_ _ _=>rfl) ux (λb h _=>(by obtain h|h:=h;exact h.1;exact⟨uq,q9 WD b uq⟩))).h ((Below.refl (Z w2.1) w2).alloc ux (Al #[Y rf.op,Y (BS rf.K),I J rf.u,C rf.pa rf.pn rf.pc,C rf.ta rf.tn rf.tc,C rf.ra rf.rn rf.rc] 106)));obtain⟨g5,J7,w5,M8,dO,L9,bP,LZ,uO⟩:=(q9 RZ).row.app ut rf uq (Z w2.1+1) ur;rw[MO]at M8 dO;clear T L7 P9 uB)
   go_roundw
   case rel=>exact⟨k+1,uq,by go_num,_,qd (by rw[q9 tH];exact RZ.snoc eM rfl dO L9 bP LZ uO)⟩
   simp[intOf];omega
  | true=>
   have IV:=qd (RN rfl)
   go_wp2_with(first|(go_at_call 100;have _q:=G3;refine(IV (λb=>(Z w.1+1<=b/\ug (C aa k ac)≠G b/\b≠Z w2.1)/\b<Z w2.1+1) (w2.alloc (Al #[Y rf.op,Y (BS rf.K),I J rf.u,C rf.pa rf.pn rf.pc,C rf.ta rf.tn rf.tc,C rf.ra rf.rn rf.rc] 106)) rf eM (λb h=>(by have:=h.2;simp;omega))).mono ?_;rintro e U⟨D5,P,rfl,hrg⟩;obtain⟨b9,mT⟩:=qi D5;have S4:Z w2.1+1<=Z U.1:=(by have:=D5.size;simp at this;omega);have v0:U.cell? ⟨Z w2.1,0,O⟩=G (Y rf.op):=(b9 _ 0 ur).trans ur;have v1:U.cell? ⟨Z w2.1,1,O⟩=G (Y (BS rf.K)):=(b9 _ 1 ur).trans ur;have v2:U.cell? ⟨Z w2.1,2,O⟩=G (I J rf.u):=(b9 _ 2 ur).trans ur;have v3:U.cell? ⟨Z w2.1,3,O⟩=G (C rf.pa rf.pn rf.pc):=(b9 _ 3 ur).trans ur;have v4:U.cell? ⟨Z w2.1,4,O⟩=G (C rf.ta rf.tn rf.tc):=(b9 _ 4 ur).trans ur;have v5:U.cell? ⟨Z w2.1,5,O⟩=G (C rf.ra rf.rn rf.rc):=(b9 _ 5 ur).trans ur;have vz:Xf U (Z w2.1):=(λi=>(mT _ i ur).trans ur);have BW:=kL U (Z w2.1) (Y P.op) (Y (BS P.K)) (I J P.u) (C P.pa P.pn P.pc) (C P.ta P.tn P.tc) (C P.ra P.rn P.rc);have RZ:=qd (HLW.h (BW.bel _ _ D8 (qg G3 D5)));have HRG:=qd (BW.rf (N':=λb=>Z w.1+1<=b/\ug (C aa k ac)≠G b) hrg (by rintro (h|h);exact h.1.2.2 rfl;simp at h;omega) (λb h _=>(by obtain h|h:=h;exact⟨h.1.1,h.1.2.1⟩;simp at h;exact⟨uq,q9 WD b uq⟩)));obtain⟨g5,J7,w5,M8,dO,L9,bP,LZ,uO⟩:=(q9 RZ).row.app (by rw[BW.size];omega) P uq (Z U.1) BW.size;rw[MO]at M8 dO;clear D5 b9 mT hrg BW)|(go_at_call 99;refine HRV.mono ?_;rintro e w2⟨T,rf,rfl,uB⟩;have D8:=T.size;obtain⟨L7,P9⟩:=qi T;have k7:=(L7 _ 7 fM).trans f7;have EC:Z M.1<Z w2.1:=uq;have G3:=qd (T.alloc T.size (Al #[Y rf.op,Y (BS rf.K),I J rf.u,C rf.pa rf.pn rf.pc,C rf.ta rf.tn rf.tc,C rf.ra rf.rn rf.rc] 106));have eM:=qd ((uB.keep (N':=λb=>(Z w.1+1<=b/\ug (C aa k ac)≠G b/\b≠Z w2.1)/\b<Z w2.1+1) (λ_ _ _=>rfl) ux (λb h hl=>(by obtain h|h:=h;exact⟨⟨h.1.1,h.1.2,uq⟩,uq⟩;exact⟨⟨uq,q9 WD b uq,uq⟩,uq⟩))).h ((Below.refl (Z w2.1) w2).alloc ux (Al #[Y rf.op,Y (BS rf.K),I J rf.u,C rf.pa rf.pn rf.pc,C rf.ta rf.tn rf.tc,C rf.ra rf.rn rf.rc] 106)));clear T L7 P9 uB))
   go_roundw
   case rel=>exact⟨k+1,uq,by go_num,_,qd (by rw[q9 tH,bs trivial];exact RZ.snoc HRG rfl dO L9 bP LZ uO)⟩
   simp[intOf];omega
 have bC:k=LN:=uq;subst bC;obtain⟨y,K⟩:∃y,fs[k - 1]?=G y:=⟨_,ag uq⟩;obtain⟨B,VT,rfl,_,Y7,H⟩:=(q9 d).row.cell K
 have VY:Hid (RfAt (λb=>Z w.1+1<=b/\ug (C (G (D B 0 O)) (A fs) VT)≠G b) wr R y):=qd (d.co.2 (k - 1) R y (by
  have M5:A cs=k:=md ((q9 d).co.1)
  rw[<-q9 HR,q9 AJ,aq,ag uq];rfl) K)
 obtain⟨Q,rfl⟩:∃Q,k=Q+1:=⟨k - 1,uq⟩;rw[show Q+1 - 1=Q by omega]at H;have y0:wr.cell? ⟨B,Q * 6,O⟩=G (Y y.op):=H 0 uq;have y1:wr.cell? ⟨B,Q * 6+1,O⟩=G (Y (BS y.K)):=H 1 uq;have y2:wr.cell? ⟨B,Q * 6+2,O⟩=G (I J y.u):=H 2 uq;have y3:wr.cell? ⟨B,Q * 6+3,O⟩=G (C y.pa y.pn y.pc):=H 3 uq;have y4:wr.cell? ⟨B,Q * 6+4,O⟩=G (C y.ta y.tn y.tc):=H 4 uq;have y5:wr.cell? ⟨B,Q * 6+5,O⟩=G (C y.ra y.rn y.rc):=H 5 uq;have r0:wr.cell? ⟨Z w.1,0,O⟩=G (Y ⟨#[]⟩):=(d.bel.cell (p:=⟨Z w.1,0,O⟩) (du _)).trans ur;have r1:wr.cell? ⟨Z w.1,1,O⟩=G (Y ⟨#[]⟩):=(d.bel.cell (p:=⟨Z w.1,1,O⟩) (du _)).trans ur;have r2:wr.cell? ⟨Z w.1,2,O⟩=G (I J 0):=(d.bel.cell (p:=⟨Z w.1,2,O⟩) (du _)).trans ur;have r3:wr.cell? ⟨Z w.1,3,O⟩=G (C O 0 0):=(d.bel.cell (p:=⟨Z w.1,3,O⟩) (du _)).trans ur;have r4:wr.cell? ⟨Z w.1,4,O⟩=G (C O 0 0):=(d.bel.cell (p:=⟨Z w.1,4,O⟩) (du _)).trans ur;have r5:wr.cell? ⟨Z w.1,5,O⟩=G (C O 0 0):=(d.bel.cell (p:=⟨Z w.1,5,O⟩) (du _)).trans ur;have rz:Xf wr (Z w.1):=λi=>(d.bel.frozen (p:=⟨Z w.1,i,O⟩) (du _)).trans ur
 rw[lP];rw[lP]at VY;have M9:=qd iR;have A5:(Q:Int)+1 - 1=(Q:Int):=uq;clear K H J3 AJ iR d
 go_wp2
 refine bo (by simp[go_sem,r0,r1,r2,r3,r4,r5]<;>rfl) rfl ?_;have BW:=kL wr (Z w.1) (Y y.op) (Y (BS y.K)) (I J y.u) (C y.pa y.pn y.pc) (C y.ta y.tn y.tc) (C y.ra y.rn y.rc);exact⟨BW.bel _ _ ux M9,y,rfl,BW.rf VY (λh=>absurd h.1 uq) (λb h _=>An (md h.1))⟩
end
theorem qql(h:qW s=.ok t):∃c,qC t=.ok c:=by
 unfold qW at h
 by_cases hs:s.size<=200
 rw[bs hs]at h
 cases he:(lvl s 12).E (qh s st0) with
 | err en pl=>rw[he]at h;cases h
 | ok t1 st=>
  rw[he]at h
  change qr3 t1 st=_ at h
  unfold qr3 at h
  split at h
  split at h
  rename_i d;injection h with h;subst h
  cases hc:qC t1 with
  | err q=>rw[hc]at d;cases d
  | ok c=>exact⟨c,rfl⟩
  cases h;cases h
 grind
theorem qu7(h:qW s=.ok t):GcA t:=by
 grind[ky,qql,vb5]
theorem qhu(u:qW s=.ok t){cs:List Int}(q:Flat t 0 ns)(r:ShA t)(R:A ns<=200)(c0:Xc w rb 0 (C (G (D g 0 O)) LN cap))(H:NodesAt w rb (C (G (D g 0 O)) LN cap) (xk ns cs))(J:rb<Z w.1):
  uo 54 #[Ag (G (D rb 0 O))] w (yf (λ_=>False) w (qj t)):=by
 have L:A (xk ns cs)=A ns:=qgk _ _;have K:=q.pos;have B:=pj u;obtain⟨ds,Q,P,M,I⟩:=van q r (qu7 u) [] rfl
 have key:=qy3 c0 H J uq uq (λi n j=>by
   rw[ke]at j
   cases hm:ns[i]? with
   | none=>grind
   | some m=>
    rw[hm]at j;simp only[ny]at j;injection j with j;obtain⟨o,a,b,c,d,e,f⟩:=qje q r i m hm;rw[ed]at d;subst j
    exact⟨o,a,b,c,d,e,f⟩) (quh (vcg q r B.1 B.2 (qc7 u))) ((qv5 ns cs).2 I)
 grind[qv5]
theorem qxl(s:uj)(A:s.size<=140737488355328)(w:Ao):uo 23 #[Y s] w (qe4 w (qW s)):=by
 have RD:=qd (yE s A w)
 cases F4:qW s with
 | ok t=>
  rw[F4]at RD
  have j:Hid (∀(W W':Ao) (rb:Nat),Z W.1=rb->xa W (.ok t) (Ak (Aj #[Ag (G (D rb 0 O)),I J 0,I J 0])) W'->uo 54 #[Ag (G (D rb 0 O))] W' λe w'=>Xb W' w'/\∃r:RF,e=Ak (Ai #[Y r.op,Y (BS (qu (qj t))),I J r.u,C r.pa r.pn r.pc,C r.ta r.tn r.tc,C r.ra r.rn r.rc])):=qd (by
   rintro W W' _ rfl⟨_,_,U,ns,cs,g,LN,cap,Q,u,M,c0,H⟩;refine(qhu F4 Q u M c0 H U).mono ?_;rintro e w'⟨L,r,rfl,K⟩;refine⟨L,r, ?_⟩;rw[<-K.K]
   rfl)
  obtain⟨S,B⟩:=ie (qu (qj t));unfold qe4;simp only;rw[B]at j |-;go_enter func23,ntmps23
  go_wp2_with(first|(go_at_call 54;refine(j _ _ _ rfl P).mono ?_;rintro e X⟨R,r,rfl⟩;have q:=qd (qg B2 R))|(refine RD.mono ?_;rintro e w2 d;have P:=qd d;have B2:=qd d.1;obtain⟨_,rfl,_⟩:=d))
  refine um ?_;exact⟨q.alloc q.size _,rfl⟩
 | err en pl=>
  rw[F4]at RD;have he:=vm F4;have hd:(en != 0)=ui:=ut;unfold qe4;simp only;go_enter func23,ntmps23
  go_wp2_with(refine RD.mono ?_;rintro e w2⟨T,rfl⟩;have B2:=qd T)
  refine um ?_;exact⟨q9 B2,rfl⟩
section
attribute [local go_sem ↓] vr
def trC(c:Co):List (List UInt8×Nat):=(qG c).zip (zq c)
def g1T(a:List (List UInt8)×Nat)(s:List UInt8):List (List UInt8)×Nat:=match qW (BS s) with
 | .ok t=>(trC (qj t)).foldl kj a
 | .err _ _=>a
def gTs(ss:List (List UInt8))(k:Nat):List (List UInt8)×Nat:=(ss.take k).foldl g1T ([],0)
theorem qiw{s:uk}(h:ss[k]?=G s):gTs ss (k+1)=g1T (gTs ss k) s:=by
 grind[gTs,List.take_add_one]
theorem vmv:∀t,ShA t->qi6 t->BqA t->∀q∈zq (qj t),q<=200:=by
 have D:∀p:CP,A p.str<=200->qcm p<=200:=λp h=>by unfold qcm;split<;>omega
 have R:∀o,qcm (qr o)<=200:=λo=>D _ (by show(0:Nat)<=200;omega)
 have e:∀(o:Int) (x y:Co),(∀q∈zq x,q<=200)->(∀q∈zq y,q<=200)->∀q∈zq (qq o x y),q<=200:=λo x y d C q hq=>by
  unfold qq at hq
  have two:∀u v:Co,(∀q∈zq u,q<=200)->(∀q∈zq v,q<=200)->q∈zq (.bin (qr o) u v)->q<=200:=λu v J hv h=>by
   rw[zq]at h;obtain h|h:=cr.1 h
   grind
   grind
  split at hq
  grind
  grind
 have Q:∀(p:CP) (x:Co),qcm p<=200->(∀q∈zq x,q<=200)->∀q∈zq (.un p x),q<=200:=λp x hp d q hq=>by
  rw[zq]at hq;obtain h|h:=cr.1 hq;exact d q h
  grind
 have M:∀c:Co,(∀q∈zq c,q<=200)->∀q∈zq (vj c),q<=200:=by
  intro c
  induction c with
  | leaf p =>grind[vj,zq]
  | un p x ih=>
   intro h;unfold vj
   split
   intro q hq;exact h q (by rw[zq];exact List.mem_append_left _ hq)
   grind
  | bin p x y ihx ihy =>grind[zq,vj]
 have O:∀t:uk,A t<=200->∀q∈zq (vl t),q<=200:=λt P q hq=>by
  rw[vl,zq]at hq;rw[dd.1 hq];exact D _ P
 have H:∀(x:Co),(∀q∈zq x,q<=200)->∀(r:List uk) (f:Co),(∀t∈r,A t<=200)->(∀q∈zq f,q<=200)->∀q∈zq (zC x f r),q<=200:=by
  intro x d r
  induction r with
  | nil=>intro f _ I;exact I
  | cons t r ih=>intro f K I;exact ih _ (λu J=>K u (fe _ J)) (e _ _ _ I (e _ _ _ d (O t (K t eu))))
 intro t
 induction t with
 | leaf p=>intro _ j _ q hq;rw[qj,zq]at hq;rw[dd.1 hq];exact D _ j.1
 | un p x ih=>
  intro B j hq;have d:=ih B.2.2.2 j.2 hq.2;have G:∀q∈zq (gO 0),q<=200:=λq hq=>by rw[gO,zq]at hq;rw[dd.1 hq];exact D _ (by show(0:Nat)<=200;omega)
  rw[qj]
  split
  exact e _ _ _ G d
  split
  exact e _ _ _ G d
  split
  exact M _ d
  split
  unfold vO
  cases he:vw p.i with
  | nil=>exact d
  | cons u r=>
   have L:∀v∈u::r,A v<=200:=λv hv=>hq.1.2 v (pD (by rwa[he]))
   exact H _ d _ _ (λv hv=>L v (fe _ hv)) (e _ _ _ d (O u (L u eu)))
  exact Q _ _ (D _ j.1.1) d
 | bin p x y ihx ihy=>
  intro B j hq;have d:=ihx B.2.1 j.2.1 hq.2.1;have C:=ihy B.2.2 j.2.2 hq.2.2;rw[qj]
  split
  exact e _ _ _ C d
  split
  exact e _ _ _ C d
  split
  exact M _ (e _ _ _ d C);exact e _ _ _ d C
 | tri p x y z ihx ihy ihz=>
  intro B j hq;have d:=ihx B.2.1 j.2.1 hq.2.1;have C:=ihy B.2.2.1 j.2.2.1 hq.2.2.1;have G:=ihz B.2.2.2 j.2.2.2 hq.2.2.2;exact e _ _ _ (e _ _ _ C d) (e _ _ _ d G)
def GBnd(a:List (List UInt8)×Nat)(k:Nat):Prop:=A a.1<=k/\a.2<=200 * k
theorem GBnd.mono{a:List uk×Nat}{d:Nat}(h:GBnd a k)(e:k<=d):GBnd a d:=by grind[GBnd]
theorem qzi{a:List uk×Nat}{e:uk×Nat}(h:GBnd a k)(d:e.2<=200):GBnd (kj a e) (k+1):=by
 grind[kj,GBnd]
theorem qu6:∀(l:List (uk×Nat)) {a:List uk×Nat} {k:Nat},GBnd a k->(∀e∈l,e.2<=200)->GBnd (l.foldl kj a) (k+A l):=by
 intro l
 induction l with
 | nil=>grind
 | cons e l ih=>
  intro a k h d;have:=ih (qzi h (d e eu)) (λf j=>d f (fe _ j));rw[List.foldl_cons,fj];rwa [show k+(A l+1)=k+1+A l by omega]
theorem vg0(h:qW s=.ok t):A (trC (qj t))<=120000001/\(∀e∈trC (qj t),e.2<=200)/\A (trC (qj t))=A (qG (qj t)):=by
 obtain⟨C,u,j,B,r,hq⟩:=ky h;have gc:=(qu7 h).gc;have G:=kM _ gc.wt.wf;have D:=gc.len;have q:A (trC (qj t))=A (qG (qj t)):=by grind[trC,xH]
 refine⟨uq,λe d=>?_,q⟩;unfold trC at d;exact vmv t j r hq _ (List.of_mem_zip (a:=e.1) (b:=e.2) d).2
theorem vb4(ss:List uk)(k:Nat):GBnd (gTs ss k) (k * 120000001):=by
 induction k with
 | zero=>exact⟨ux,ux⟩
 | succ k ih=>
  cases h:ss[k]? with
  | none =>grind[gTs,List.take_add_one,Below.mono,GBnd.mono,GBnd]
  | some s=>
   rw[qiw h];unfold g1T
   split
   rename_i t d;obtain⟨j,e,_⟩:=vg0 d;exact(qu6 _ ih e).mono (by grind);exact ih.mono (mi _ (Nat.le_succ k))
structure GaAt(w W3:Ao)(B2:Nat)(wq:Ao)(lv:Ap)(ts:List (List UInt8)):Prop where
 row:TwRow wq w.1.size lv ts
 bel:Below w.1.size w wq
 size:W3.1.size<=wq.1.size
 keep:∀b,B2<=b->b<W3.1.size->wq.1[b]?=W3.1[b]?
 own:∀k,ug lv=G k->k<B2\/W3.1.size<=k
section
variable {w W3 wq w5:Ao} {B2:Nat} {lv:Ap} {ts:List uk}
theorem GaAt.start(w:Ao):GaAt w w (Z w.1) w (C O 0 0) []:=⟨dw _ _ _ _,uy,ux,λ_ _ _=>rfl,λk h=>by cases h⟩
theorem GaAt.form(h:GaAt w W3 B2 wq lv ts):∃a c,lv=C a (A ts) c:=by
 obtain⟨rfl,d⟩|⟨g,cap,cur,rfl,_⟩:=h.row.2<;>grind
theorem GaAt.next(h:GaAt w W3 B2 wq lv ts){e:Ao}(d:Xb wq w2)(j:Xb w2 e):GaAt w e (Z w2.1) e lv ts:=
 ⟨qp h.row (qg d j) ux,qg h.bel (qg d j),ux,λ_ _ _=>rfl,λk q=>Am (au (h.row.lt k q).2 d.size)⟩
theorem GaAt.snoc(h:GaAt w W3 B2 wq lv ts){x:uk}(r:TwRow w5 (Z w.1) (C (G (D g 0 O)) n cap) (ts++[x]))(q:Below (Z w.1) wq w5)(j:∀b,b<Z wq.1->ug lv≠G b->w5.1[b]?=wq.1[b]?)(e:ug lv=G g\/Z wq.1<g)(d:Z wq.1<=Z w5.1):GaAt w W3 B2 w5 (C (G (D g 0 O)) n cap) (ts++[x]):=by
 grind[Below.trans,Value.ownBlock,GaAt]
end
theorem qbb(h:TxIn w a ss)(h8:A ss<=9):
  lz 60 #[C a (A ss) cap] w (Aj #[I J (A (gTs ss (A ss)).1:Nat),I J ((gTs ss (A ss)).2:Nat)]):=by
 have H:=qd h;obtain⟨n,hn⟩:=ie (A ss);rw[hn]at h8 |-;have HN:=qd hn;go_enter func60,ntmps60
 go_wp2
 go_loopw [4,5,6] (λlv rv i wr=>∃(k:Nat) (W3:Ao) (B2:Nat),k<=n/\i=I J k/\rv=I J ((gTs ss k).2:Nat)/\Hid (GaAt w W3 B2 wr lv (gTs ss k).1)) (λ_ _ i _=>n - (intOf i).toNat)
 exact⟨0,w,Z w.1,bt _,rfl,rfl,qd (GaAt.start w)⟩;obtain⟨k,W3,B2,hk,rfl,rfl,HG⟩:=hrel;have S:=vb4 ss k;obtain⟨K,hA⟩:=ie (gTs ss k);rw[hA]at S HG |-;have HA:=qd hA;obtain⟨la,lc,rfl⟩:=(q9 HG).form;have A0:A K.1<=9 * 120000001:=bu S.1 (mi _ uq);have A3:K.2<=200 * (9 * 120000001):=bu S.2 (ow _ (mi _ uq))
 by_cases A1:k<n
 .obtain⟨s,hs⟩:∃s,ss[k]?=G s:=⟨_,ag (md (q9 HN))⟩
  obtain⟨W9,sb,so,rfl,MS,s0⟩:=q9 H k s hs;have d0:wr.cell? ⟨sb,so+k,O⟩=G (Y (BS s)):=(HG.bel.cell (p:=⟨sb,so+k,O⟩) MS).trans s0;have RD:=qd (yE (BS s) W9 wr);have HS:Hid (gTs ss (k+1)=g1T K s):=qd (by rw[qiw hs,q9 HA])
  cases F4:qW (BS s) with
  | err en pl=>
   rw[F4]at RD;have FG:(en != 0)=ui:=by obtain h|h|h|h:=vm F4<;>rw[h]<;>rfl
   have QS:Hid (gTs ss (k+1)=K):=qd (by rw[q9 HS];unfold g1T;rw[F4])
   go_wp2_with(refine RD.mono ?_;rintro e w2⟨A3,rfl⟩;have AW:=qd (HG.next A3 uy))
   go_roundw
   case rel=>exact⟨k+1,w2,Z w2.1,A1,by go_num,by rw[q9 QS],by rwa[q9 QS]⟩
   simp[intOf];omega
  | ok t=>
   rw[F4]at RD
   have CO:Hid (∀(W W':Ao) (rb:Nat),Z W.1=rb->xa W (.ok t) (Ak (Aj #[Ag (G (D rb 0 O)),I J 0,I J 0])) W'->uo 54 #[Ag (G (D rb 0 O))] W' λe w'=>Xb W' w'/\∃r:RF,e=Ak (Ai #[Y r.op,Y (BS r.K),I J r.u,C r.pa r.pn r.pc,C r.ta r.tn r.tc,C r.ra r.rn r.rc])/\RfAt (λb=>False\/Z W'.1<=b) w' (qj t) r):=qd (by
    rintro W W' _ rfl⟨_,_,A1,ns,cs,g,LN,cap,F9,t8,dY,c0,hN⟩
    exact qhu F4 F9 t8 dY c0 hN A1)
   have QS:Hid (gTs ss (k+1)=(trC (qj t)).foldl kj K):=qd (by rw[q9 HS];unfold g1T;rw[F4]);obtain⟨bB,MR,JW⟩:=vg0 F4;obtain⟨B,hC⟩:=ie (qj t);rw[hC]at CO QS bB MR JW;have QP:=qd MR;have HT3:=qd JW
   go_wp2_with(first|(go_at_call 54;have _q:=N2;refine(CO _ _ _ rfl N2).mono ?_;rintro e Q⟨D5,r,rfl,hr⟩;have HR:=qd hr;have F6:=qd D5)|(refine RD.mono ?_;rintro e w2 C8;have N2:=qd C8;have B2':=qd C8.1;obtain⟨_,rfl,_⟩:=C8))
   obtain⟨W,hW⟩:=il (Q.alloc (Al #[Y r.op,Y (BS r.K),I J r.u,C r.pa r.pn r.pc,C r.ta r.tn r.tc,C r.ra r.rn r.rc] 106):Ao);have rH:Xb Q W:=hW ▸ uy.alloc ux _
   have iL:∀k,W.cell? ⟨Z Q.1,k,O⟩=#[Y r.op,Y (BS r.K),I J r.u,C r.pa r.pn r.pc,C r.ta r.tn r.tc,C r.ra r.rn r.rc][k]?:=λk=>by rw[hW,ce _ _ _ _ ur]
   have rG:Z W.1=Z Q.1+1:=by rw[hW];simp
   have HG3:=qd (HG.next B2' (qg F6 rH));have EH:=(q9 F6).size;obtain⟨⟨lt,tc,et,hNt,lW,eJ⟩,L,rc,er,GY,NZ,mV⟩:=(HR.at'.h rH).terms;rw[xH]at er;have HCT:=qd eJ;have HCR:=qd mV;have hnt:Z w2.1<=lt:=by simpa using hNt
   have CG:Z w2.1<=L:=by simpa using GY
   obtain⟨d,U⟩:=ie (A (qG B));have e4:W.cell? ⟨Z Q.1,4,O⟩=G (C (G (D lt 0 O)) d tc):=by rw[iL 4,<-U];exact congrArg G et
   have e5:W.cell? ⟨Z Q.1,5,O⟩=G (C (G (D L 0 O)) d rc):=by rw[iL 5,<-U];exact congrArg G er
   have hnT2:d<=120000001:=by rwa[<-U,<-q9 HT3]
   have HNT:Hid (A (trC B)=d):=qd (by rw[q9 HT3,U]);have HTR:Hid (∀m u q,(qG B)[m]?=G u->(zq B)[m]?=G q->(trC B)[m]?=G (u,q)):=qd λm u q hu hq=>by unfold trC;rw[List.getElem?_zip_eq_some];exact⟨hu,hq⟩
   have fL:Hid (A (qG B)=d/\A (zq B)=d):=qd ⟨U,by rw[xH,U]⟩;rw[<-hW];obtain⟨M,rfl⟩:=il (Q:Ao)
   go_loopw [4,5,11] (λlv rv j wq=>∃m:Nat,m<=d/\j=I J m/\rv=I J ((((trC B).take m).foldl kj K).2:Nat)/\Hid (GaAt w W (Z w2.1) wq lv (((trC B).take m).foldl kj K).1)) (λ_ _ j _=>d - (intOf j).toNat)
   exact⟨0,bt _,rfl,rfl,HG3⟩;obtain⟨m,hm,rfl,rfl,P⟩:=hrel
   have S:GBnd (((trC B).take m).foldl kj K) (9 * 120000001+m):=by
    have:=qu6 ((trC B).take m) (a:=K) (k:=9 * 120000001) ⟨A0,A3⟩ (λe he=>q9 QP e (List.mem_of_mem_take he));rwa [cw,q9 HNT,mg hm]at this
   obtain⟨X,hX⟩:=ie (((trC B).take m).foldl kj K);rw[hX]at P S |-;have HX:=qd hX;have mJ:=S.1;have wA:=S.2;obtain⟨qa,qc,rfl⟩:=(q9 P).form;have XA:=(q9 P).size;have aU:=(q9 P).keep;have f4:wr.cell? ⟨Z M.1,4,O⟩=G (C (G (D lt 0 O)) d tc):=(bg (w:=W) (a:=⟨Z M.1,4,O⟩) (aU (Z M.1) EH uq)).trans e4;have f5:wr.cell? ⟨Z M.1,5,O⟩=G (C (G (D L 0 O)) d rc):=(bg (w:=W) (a:=⟨Z M.1,5,O⟩) (aU (Z M.1) EH uq)).trans e5;have r9:Z M.1<Z wr.1:=uq
   by_cases fO:m<d
   .obtain⟨u,hu⟩:∃u,(qG B)[m]?=G u:=⟨_,ag (md ((q9 fL).1))⟩
    obtain⟨q,hq⟩:∃q,(zq B)[m]?=G q:=⟨_,ag (md ((q9 fL).2))⟩;have XO:=q9 HTR m u q hu hq;have fY:q<=200:=q9 QP (u,q) (bh XO);have g0:wr.cell? (D lt m O)=G (Y (BS u)):=(bg (w:=W) (a:=D lt m O) (aU lt hnt lW)).trans (HCT m u hu);have g1:wr.cell? (D L m O)=G (I J (q:Int)):=(bg (w:=W) (a:=D L m O) (aU L CG NZ)).trans (HCR m q hq);have hlw:lt<Z wr.1:=uq;have uA:L<Z wr.1:=uq;have VX:Hid (((trC B).take (m+1)).foldl kj K=kj X (u,q)):=qd (by rw[dt,XO,List.foldl_append,q9 HX];rfl);have T:=qd (vkv P.row uq u);obtain⟨R,hR⟩:=ie (X.1.contains u);rw[hR]at T;have FN:=it m;have oA:=je m d;obtain⟨g5,J7,w5,M8,dO,L9,bP,LZ,uO⟩:=(q9 P).row.app2 (md ((q9 P).bel.size)) u uq (Z wr.1) rfl;have rI:=qd (P.snoc dO L9 bP LZ uO);have i5:w5.cell? ⟨Z M.1,5,O⟩=G (C (G (D L 0 O)) d rc):=(bg (w:=W) (a:=⟨Z M.1,5,O⟩) (rI.keep (Z M.1) EH uq)).trans e5;have i1:w5.cell? (D L m O)=G (I J (q:Int)):=(bg (w:=W) (a:=D L m O) (rI.keep L CG NZ)).trans (HCR m q hq)
    cases R with
    | true=>
     have QQ:Hid (kj X (u,q)=X):=qd (by unfold kj;rw[bs hR])
     go_wp2_with(refine be T λw8 h8'=>?_;subst w8)
     go_roundw
     case rel=>exact⟨m+1,fO,by go_num,by rw[q9 VX,q9 QQ],by rwa[q9 VX,q9 QQ]⟩
     simp[intOf];omega
    | false=>
     have QQ:Hid (kj X (u,q)=(X.1++[u],X.2+q)):=qd (by unfold kj;rw[ak (by rw[hR];decide)])
     go_wp2_with(refine be T λw8 h8'=>?_;subst w8)
     go_roundw
     case rel=>exact⟨m+1,fO,by go_num,by rw[q9 VX,q9 QQ];go_num,by rwa[q9 VX,q9 QQ]⟩
     simp[intOf];omega
   have KA:m=d:=uq;have HF:Hid (gTs ss (k+1)=X):=qd (by rw[q9 QS,<-q9 HX,fo (by rw[q9 HNT];omega)]);have UG:=jl m d
   go_wp2
   go_roundw
   case rel=>exact⟨k+1,W,Z w2.1,A1,by go_num,by rw[q9 HF],by rwa[q9 HF]⟩
   simp[intOf];omega
 have bC:k=n:=uq;have HF:Hid (gTs ss n=K):=qd (by rw[<-bC];exact q9 HA);have aB:=jl k n;have M9:=qd HG.bel
 go_wp2
 refine um ⟨?_,q9 M9⟩;rw[q9 HF]
end
theorem TxIn.take(h:TxIn w a ss)(k:Nat):TxIn w a (ss.take k):=by grind[TxIn]
theorem vij(ss:List uk)(h:k<=m):gTs (ss.take m) k=gTs ss k:=by
 grind[gTs]
theorem qcs(h:TxIn w a ss)(d:A ss=n)(r:n<=9):
  lz 59 #[C a n cap] w (I J (A (gTs ss n).1:Nat)):=by
 subst d;have e:=qd (qbb (cap:=cap) h r);obtain⟨x,j⟩:=ie (A (gTs ss (A ss)).1);obtain⟨y,q⟩:=ie ((gTs ss (A ss)).2);obtain⟨n,d⟩:=ie (A ss);rw[j,q]at e;rw[j];rw[d]at e |-;go_enter func59,ntmps59
 go_wp2_with(refine be e λw2 u=>?_)
 go_ret;exact⟨rfl,u⟩
theorem veg(h:TxIn w a ss)(d:A ss=n)(e:n<=8):
  lz 28 #[C a n cap] w (I J ((16+16 * A (gTs ss n).1+4 * n+(gTs ss n).2:Nat):Int)):=by
 subst d;have j:=qd (qbb (cap:=cap) h uq);have q:=vb4 ss (A ss);have D:A (gTs ss (A ss)).1<=8 * 120000001:=bu q.1 (mi _ e);have B:(gTs ss (A ss)).2<=200 * (8 * 120000001):=bu q.2 (ow _ (mi _ e));obtain⟨x,u⟩:=ie (A (gTs ss (A ss)).1);obtain⟨y,r⟩:=ie ((gTs ss (A ss)).2);obtain⟨n,d⟩:=ie (A ss);rw[u,r]at j;rw[u]at D |-;rw[r]at B |-;rw[d]at j e |-;go_enter func28,ntmps28
 go_wp2_with(refine be j λw2 B=>?_)
 go_ret;exact⟨by go_num,by assumption⟩
def gY(ss:List (List UInt8))(k:Nat):Option Int:=match ss[k]? with
 | none=>O
 | some s=>match qW (BS s) with
  | .err en _=>G en
  | .ok _=>if 80<A (gTs ss (k+1)).1 then G 8 else O
def qbz(ss:List (List UInt8)):Nat->Nat->Int×Nat
 | 0,_=>(0,0)
 | f+1,k=>match gY ss k with
  | some e=>(e,k)
  | none=>qbz ss f (k+1)
def qa1(ss:List (List UInt8)):Int×Nat:=if 8<A ss then(8,0) else qbz ss (A ss) 0
theorem qgw(d:8<n):lz 26 #[C a n cap] w (Aj #[I J 8,I J 0]):=by
 have hd:decide ((n:Int) > 8)=ui:=de uq;go_enter func26,ntmps26
 go_wp2
 refine um ?_;exact⟨rfl,uy⟩
theorem qk2(h:TxIn w a ss)(aM:A ss<=cap)(h8:A ss<=8):
  lz 26 #[C a (A ss) cap] w (Aj #[I J (qbz ss (A ss) 0).1,I J ((qbz ss (A ss) 0).2:Nat)]):=by
 have H:=qd h;obtain⟨n,T⟩:=ie (A ss);rw[T]at h8 aM |-;have HN:=qd T;obtain⟨R,Z⟩:=ie (qbz ss n 0);rw[Z];have r:Hid (qbz ss (n - 0) 0=R):=qd Z;have hd:decide ((n:Int) > 8)=uh:=da uq;go_enter func26,ntmps26
 go_wp2
 go_loopw [4] (λi wr=>∃k:Nat,k<=n/\i=I J k/\Hid (qbz ss (n - k) k=R)/\Hid (Xb w wr)) (λi _=>n - (intOf i).toNat)
 exact⟨0,bt _,rfl,r,qd uy⟩;obtain⟨k,hk,rfl,r,q⟩:=hrel;have hz:=(q9 q).size
 by_cases A1:k<n
 .obtain⟨s,hs⟩:∃s,ss[k]?=G s:=⟨_,ag (md (q9 HN))⟩
  obtain⟨W9,sb,B,rfl,MS,s0⟩:=q9 H k s hs;have d0:Xc wr sb (B+k) (Y (BS s)):=(q.cell (p:=⟨sb,B+k,O⟩) MS).trans s0;have Z9:=it k;have A5:=je k n;have RD:=qd (yE (BS s) W9 wr)
  have M:Hid (qbz ss (n - k) k=match gY ss k with|some e=>(e,k)|none=>qbz ss (n - (k+1)) (k+1)):=qd (by
   obtain⟨f,hf⟩:∃f,n - k=f+1:=⟨n - k - 1,uq⟩
   rw[hf,qbz,show n - (k+1)=f by omega])
  cases F4:qW (BS s) with
  | err en pl=>
   rw[F4]at RD;have hne:(en==0)=uh:=by obtain h|h|h|h:=vm F4<;>rw[h]<;>rfl
   have FG:(en != 0)=ui:=by obtain h|h|h|h:=vm F4<;>rw[h]<;>rfl
   have j:Hid (R=(en,k)):=qd (by rw[<-q9 r,q9 M];unfold gY;rw[hs];simp only;rw[F4])
   go_wp2_with(refine RD.mono ?_;rintro e w2⟨A3,rfl⟩;have d:=qd (qg q A3))
   refine um ?_;exact⟨by rw[q9 j],q9 d⟩
  | ok t=>
   rw[F4]at RD
   have L:Hid (∀W:Ao,Xb wr W->lz 59 #[C (G (D sb B O)) (k+1) cap] W (I J (A (gTs ss (k+1)).1:Nat))):=qd λW hW=>by
    have:=qcs (cap:=cap) ((H.take (k+1)).h (qg q hW)) (by rw[cw];have:=q9 HN;omega) (show k+1<=9 by omega);rwa [vij ss ux]at this
   obtain⟨x,S⟩:=ie (A (gTs ss (k+1)).1);rw[S]at L;have HA:Hid (gY ss k=if 80<x then G 8 else O):=qd (by unfold gY;rw[hs];simp only;rw[F4];simp only;rw[S]);have hkc:k+1<=cap:=uq;have X:(k:Int)+1<=(cap:Int):=uq;have U:(k:Int)+1<=(n:Int):=uq
   by_cases U7:80<x
   .have j:Hid (R=(8,k)):=qd (by rw[<-q9 r,q9 M,q9 HA,bs U7])
    have K:decide ((x:Int) > 80)=ui:=de uq
    go_wp2_with(first|(go_at_call 59;have _q:=d;refine be (L _ d) λw3 Q=>?_;have P:=qd (qg q (qg d Q)))|(refine RD.mono ?_;rintro e w2 u;have d:=qd u.1;obtain⟨_,rfl,_⟩:=u))
    refine um ?_;exact⟨by rw[q9 j],q9 P⟩
   have j:Hid (qbz ss (n - (k+1)) (k+1)=R):=qd (by rw[<-q9 r,q9 M,q9 HA,ak U7]);have K:decide ((x:Int) > 80)=uh:=da uq
   go_wp2_with(first|(go_at_call 59;have _q:=d;refine be (L _ d) λw3 Q=>?_;have P:=qd (qg q (qg d Q)))|(refine RD.mono ?_;rintro e w2 u;have d:=qd u.1;obtain⟨_,rfl,_⟩:=u))
   go_roundw
   case rel=>exact⟨k+1,A1,by go_num,j,P⟩
   simp[intOf];omega
 have aB:=jl k n;have j:Hid (R=(0,0)):=qd (by rw[<-q9 r,show n - k=0 by omega];rfl)
 go_wp2
 refine um ?_;exact⟨by rw[q9 j];rfl,q9 q⟩
theorem ym(h:TxIn w a ss)(d:A ss<=cap):
  lz 26 #[C a (A ss) cap] w (Aj #[I J (qa1 ss).1,I J ((qa1 ss).2:Nat)]):=by
 grind[qa1,qgw,qk2]
def coS(s:List UInt8):Co:=match qW (BS s) with
 | .ok t=>qj t
 | .err _ _=>.leaf ⟨3,0,[],[]⟩
theorem qm9{s:uk}(h:qW (BS s)=.ok t):coS s=qj t:=by unfold coS;rw[h]
theorem vs3(h:qW s=.ok t):OkC (qj t):=by
 obtain⟨_,_,d,e,_,_⟩:=ky h
 grind[vs1,qc7]
theorem vih:∀c,qc4 c->∀d∈qcw c,qvp (qun d):=by
 intro c
 induction c with
 | leaf p=>intro h d hd;obtain rfl:=dd.1 hd;exact h
 | un p x ih=>
  intro h d hd;obtain hd|hd:=cr.1 hd;exact ih h.2 d hd;obtain rfl:=dd.1 hd;exact h.1
 | bin p x y ihx ihy=>
  intro h d hd;obtain hd|hd:=cr.1 hd
  grind[qc4]
  obtain rfl:=dd.1 hd;exact h.1
theorem Gath.mem{D l:List Co}(h:Gath D l E):∀c∈E,c∈D\/c∈l:=by
 induction h<;>grind
structure AdOk(ss:List (List UInt8))(k:Nat)(E:List Co):Prop where
 pr:PrT (vF (ss.map coS) k).1 E
 tx:gTs ss k=(E.map qu,qbf E)
 fld:∀c∈E,qvp (qun c)
theorem AdOk.zero(ss:List uk):AdOk ss 0 []:=⟨PrT.nil,rfl,ur⟩
theorem AdOk.step(h:AdOk ss k E){s:uk}(r:ss[k]?=G s)(e:qW (BS s)=.ok t):∃F,AdOk ss (k+1) F:=by
 have A:=vs3 e;obtain⟨F,u,hp,_⟩:=PrT.U (qj t) A _ E h.pr;have j:(ss.map coS).getD k (.leaf ⟨3,0,[],[]⟩)=qj t:=by rw[aq,cj,r];exact qm9 e
 refine⟨F, ?_, ?_,λc j=>?_⟩;rwa[vF,j]
 .rw[qiw r,h.tx]
  unfold g1T;rw[e];show(trC (qj t)).foldl kj (E.map qu,qbf E)=_;rw[<-vqo u h.pr.ok (vtb _ A)]
  congr 1
  unfold trC;rw[(qi3 (qj t)).1,(qi3 (qj t)).2];generalize qcw (qj t)=l
  induction l with
  | nil=>rfl
  | cons d l ih=>grind
 obtain q|q:=u.mem c j;exact h.fld c q;exact vih _ (qc9 e).fld c q
theorem AdOk.len(h:AdOk ss k E):A (vF (ss.map coS) k).1=A (gTs ss k).1:=by
 rw[h.pr.len,h.tx];simp
theorem qir{p:CP}(hp:qvp p)(a b:Nat):A (encT (zV p a b))<=16+qcm p:=by
 grind[encT,zV,qcm,jq,vy3,qvp]
theorem qkf{p:CP}(hp:qvp p){a:Nat}(e:a<=255)(d:b<=255):SmallT (zV p a b):=⟨e,d,by have:=hp.2.2.1;show A p.str<=255;omega,by have:=hp.2.2.2;show A p.esc<=255;omega⟩
theorem AdOk.at(h:AdOk ss k E)(K:A (gTs ss k).1<=80){t:Tm}(H:(vF (ss.map coS) k).1[i]?=G t)(D:E[i]?=G c):SmallT t/\qeb t/\A (encT t)<=16+qcm (qun c):=by
 obtain⟨u,q,hv⟩:=h.pr.at' i c D;rw[H]at q;injection q with q;subst q;have C:=bh D;have j:=h.fld c C;have r:=vs2 (h.pr.ok c C);have J:A E<=80:=by grind[AdOk]
 have lt:∀{a:Nat} {x:Co},E[a]?=G x->a<=255:=λ{a x} h=>by grind
 cases c with
 | leaf p=>
  have e:t=zV p 0 0:=hv;subst e;have d:=qkf (p:=p) j (a:=0) (b:=0) uq uq;refine⟨d,gE _ d ?_,qir j 0 0⟩;show p.op.toNat∈_;simp only at r;rcases(show p.op=0\/p.op=1\/p.op=2\/p.op=3\/p.op=4 by omega) with e|e|e|e|e<;>rw[e]<;>decide
 | un p x=>
  obtain⟨a,B,rfl⟩:=hv;have d:=qkf (p:=p) j (a:=a) (b:=0) (lt B) uq;refine⟨d,gE _ d ?_,qir j a 0⟩;show p.op.toNat∈_;simp only at r;obtain e|e|e:=r<;>rw[e]<;>decide
 | bin p x y=>
  obtain⟨a,b,B,I,rfl⟩:=hv;have d:=qkf (p:=p) j (a:=a) (b:=b) (lt B) (lt I);refine⟨d,gE _ d ?_,qir j a b⟩;show p.op.toNat∈_;simp only[jm]at r;rcases(show p.op=6\/p.op=7\/p.op=8\/p.op=10\/p.op=11\/p.op=16\/p.op=17\/p.op=18\/p.op=19 by omega) with e|e|e|e|e|e|e|e|e<;>rw[e]<;>decide
theorem AdOk.small(h:AdOk ss k E)(q:A (gTs ss k).1<=80){t:Tm}(e:t∈(vF (ss.map coS) k).1):SmallT t/\qeb t:=by
 obtain⟨i,d⟩:=db e;obtain⟨c,j⟩:∃c,E[i]?=G c:=⟨_,ag (by have:=(aj.1 d).1;have:=h.pr.len;omega)⟩;have:=h.at q d j
 grind
theorem vhx(hd:uk)(ts:List Tm):∀k,A (qhb hd ts k)=A hd+((List.range k).map λi=>A (encT (ts.getD i (.bare 3)))).sum:=by
 intro k
 induction k<;>grind[qhb,List.range_succ]
theorem vhy(hd:uk)(d:List Nat):∀k,A (qr0 hd d k)=A hd+k:=by
 intro k
 induction k<;>grind[qr0]
theorem AdOk.bytes(h:AdOk ss k E)(B:A (gTs ss k).1<=80):A (zL (vF (ss.map coS) k).1 (vF (ss.map coS) k).2)<=16+16 * A (gTs ss k).1+4 * k+(gTs ss k).2:=by
 obtain⟨ts,j⟩:=ie ((vF (ss.map coS) k).1);have C:∀(i:Nat) (t:Tm) (c:Co),ts[i]?=G t->E[i]?=G c->A (encT t)<=16+qcm (qun c):=λi t c e u=>(h.at B (by rwa[j]) u).2.2
 have r:A ts=A E:=by grind[AdOk.len,AdOk]
 have key:∀m,m<=A E->((List.range m).map λi=>A (encT (ts.getD i (.bare 3)))).sum<=16 * m+((E.take m).map λd=>qcm (qun d)).sum:=by
  intro m
  induction m with
  | zero=>intro _;simp
  | succ m ih =>grind[List.range_succ,List.take_add_one]
 have e:=key (A E) ux;rw[ig]at e;have q:=(j7 (ss.map coS) k).1;unfold zL;rw[vhy,vhx,q,j,h.tx,r];simp only[cf,fj,im];unfold qbf;omega
def qpy(ss:List (List UInt8))(R:Int×Nat)(w:Ao)(e:Ending)(w':Ao):Prop:=Below (Z w.1) w w'/\((R.1=0/\∃v,e=Ak (Aj #[v,I J 0,I J 0])/\OB w' (Z w.1) v (zL (vF (ss.map coS) (A ss)).1 (vF (ss.map coS) (A ss)).2))\/(R.1≠0/\e=Ak (Aj #[C O 0 0,I J R.1,I J (R.2:Nat)])))
theorem qma(ss:List uk)(d:8<n):uo 25 #[C a n cap] w (qpy ss (8,0) w):=by
 have hd:decide ((n:Int) > 8)=ui:=de uq;go_enter func25,ntmps25
 go_wp2
 refine um ?_;exact⟨uy,An ⟨uu,rfl⟩⟩
theorem qqo(ss:List uk)(h8:A ss<=8)(a:Option Addr)(cap:Nat)(w:Ao)(hL:LibOk w)(hss:TxIn w a ss):uo 25 #[C a (A ss) cap] w (qpy ss (qbz ss (A ss) 0) w):=by
 have HL:=qd hL;have HSS:=qd hss;have NM:=qd (qd2 w);obtain⟨n,L⟩:=ie (A ss);obtain⟨R,hR⟩:=ie (qbz ss (A ss) 0);rw[hR];rw[L]at h8 hR |-;have HN:=qd L;have P:Hid (qbz ss (n - 0) 0=R):=qd hR;have hd8:decide ((n:Int) > 8)=uh:=da uq;go_enter func25,ntmps25
 go_wp2_with(refine be NM ?_;rintro w1⟨oA,A0⟩;have M1:=qd oA;have B1:=qd A0)
 go_loopw [17] (λi wr=>∃(k:Nat) (tv rv:Ap),k<=n/\i=I J k/\Hid (MkAt wr (Z w.1+1) (Z w.1) (vF (ss.map coS) k).1 (vF (ss.map coS) k).2 tv rv)/\Hid (Xb w wr)/\Hid (qbz ss (n - k) k=R)/\Hid (A (gTs ss k).1<=80/\∃E,AdOk ss k E)) (λi _=>n - (intOf i).toNat)
 exact⟨0,_,_,bt _,rfl,M1,B1,P,qd ⟨bt _,[],AdOk.zero ss⟩⟩;obtain⟨k,tv,rv,hk,rfl,MK,q,P,HE⟩:=hrel
 by_cases A1:k<n
 .obtain⟨s,hs⟩:∃s,ss[k]?=G s:=⟨_,ag (md (q9 HN))⟩
  obtain⟨mN,sb,so,rfl,sblt,s0⟩:=q9 HSS k s hs;have eK:=(q9 q).size;have d0:Xc wr sb (so+k) (Y (BS s)):=(q.cell (p:=⟨sb,so+k,O⟩) sblt).trans s0;have Z9:=it k;have A5:=je k n;have RD:=qd (yT (BS s) wr (HL.h q ux).err (by rwa[qI]))
  have HC:Hid (qbz ss (n - k) k=match gY ss k with|some e=>(e,k)|none=>qbz ss (n - (k+1)) (k+1)):=qd (by
   obtain⟨f,hf⟩:∃f,n - k=f+1:=⟨n - k - 1,uq⟩;rw[hf,qbz,show n - (k+1)=f by omega]
   try(cases gY ss k<;>rfl))
  cases F4:qW (BS s) with
  | err en pl=>
   rw[F4]at RD;have t9:=vm F4;have hne:(en==0)=uh:=by obtain h|h|h|h:=t9<;>rw[h]<;>rfl
   have FG:(en != 0)=ui:=by obtain h|h|h|h:=t9<;>rw[h]<;>rfl
   have d:Hid (R=(en,k)/\en≠0):=qd ⟨by rw[<-q9 P,q9 HC];unfold gY;rw[hs];simp only;rw[F4],uq⟩
   go_wp2_with(refine RD.mono ?_;rintro e w2⟨K,rfl⟩;have G3:=qd (qg q K))
   refine um ?_;exact⟨q9 G3,An ⟨by rw[(q9 d).1];exact d.2,by rw[(q9 d).1]⟩⟩
  | ok t=>
   rw[F4]at RD;obtain⟨lX,E,M⟩:=q9 HE;obtain⟨F,hF⟩:=M.step hs F4;have US:=qc9 F4;obtain⟨c,cW⟩:=ie (qj t);rw[cW]at US;have hc:(ss.map coS).getD k (.leaf ⟨3,0,[],[]⟩)=c:=by rw[aq,cj,hs,<-cW];exact qm9 F4
   have CO:Hid (∀(lo:Nat) (U:Ao) (v:Ap),Xb wr U->IsNode lo U v t->uo 53 #[v] U (pH (Z wr.1) U c)):=qd λlo U v S L=>cW ▸ qej lo t (λ_=>qq4) (qcj F4) (Z wr.1) U v S.size (HL.h (qg q S) ux) L
   have hS:Hid (vF (ss.map coS) (k+1)=((qA (vF (ss.map coS) k).1 c).1,(vF (ss.map coS) k).2++[(qA (vF (ss.map coS) k).1 c).2])):=qd (by rw[vF,hc]);have m9:A (vF (ss.map coS) k).1<=80:=by rwa[M.len]
   have aQ:=(j7 (ss.map coS) k).1;have t7:=US.size
   have AD:Hid (∀(U:Ao) (v:Ap),Xb wr U->CoAt (Z wr.1) (Z U.1) U v c->uo 56 #[Ag (G ⟨Z w.1+1,0,O⟩),v] U λe w'=>∃u B,e=Ak (Aj #[])/\MkAt w' (Z w.1+1) (Z w.1) (vF (ss.map coS) (k+1)).1 (vF (ss.map coS) (k+1)).2 u B/\Xb w w'):=qd (by
    intro U v S ZR;have FM:=(q9 MK).h S;refine(vgu c (qu9 US.fld) (Z wr.1) _ _ U v _ _ tv rv FM ZR (λj hj=>Am (MK.own_lt hj)) uq uq).mono ?_;rintro e w'⟨u,B,rfl,h1,h2⟩;rw[q9 hS]
    exact⟨u,B,rfl,h1,qtf (qg q S) FM h2 ux⟩)
   have A6:=hF.len;have HA:Hid (gY ss k=if 80<A (vF (ss.map coS) (k+1)).1 then G 8 else O):=qd (by unfold gY;rw[hs];simp only;rw[F4];simp only;rw[A6]);have X:Hid (A (gTs ss (k+1)).1=A (vF (ss.map coS) (k+1)).1/\∃E,AdOk ss (k+1) E):=qd ⟨A6.symm,F,hF⟩;obtain⟨Q,hQ⟩:=ie (vF (ss.map coS) (k+1));rw[hQ]at AD HA X;have HQ:=qd hQ
   by_cases U7:80<A Q.1
   .have ZL:decide ((A Q.1:Int) > 80)=ui:=de uq
    have d:Hid (R=(8,k)):=qd (by rw[<-q9 P,q9 HC,q9 HA,bs U7])
    go_wp2_with(first|(go_at_call 47;refine RD.mono ?_;rintro e w2⟨K,v2,rfl,T⟩;obtain⟨vb,rfl⟩:=T.ptr;have N2:=qd T;have B2:=qd K)|(go_at_call 53;refine(CO _ _ _ B2 N2).mono ?_;rintro e w3⟨b3,rfl,b9,D5⟩;have C3:=qd b9;have B3:=qd (qg B2 D5))|(go_at_call 56;refine(AD _ _ B3 C3).mono ?_;rintro e w4⟨WR,rv4,rfl,H,G7⟩;have M4:=qd H;have B4:=qd G7;obtain⟨a4,c4,rfl⟩:=H.ats.form;have e4:=H.c0)|(refine be (qbq _ 0 _ _ _ _ e4) ?_;rintro w5 rfl))
    refine um ?_;exact⟨q9 B4,An ⟨by rw[q9 d];show(8:Int)≠0;decide,by rw[q9 d]⟩⟩
   have ZL:decide ((A Q.1:Int) > 80)=uh:=da uq;have d:Hid (qbz ss (n - (k+1)) (k+1)=R):=qd (by rw[<-q9 P,q9 HC,q9 HA,ak U7])
   go_wp2_with(first|(go_at_call 47;refine RD.mono ?_;rintro e w2⟨K,v2,rfl,T⟩;obtain⟨vb,rfl⟩:=T.ptr;have N2:=qd T;have B2:=qd K)|(go_at_call 53;refine(CO _ _ _ B2 N2).mono ?_;rintro e w3⟨b3,rfl,b9,D5⟩;have C3:=qd b9;have B3:=qd (qg B2 D5))|(go_at_call 56;refine(AD _ _ B3 C3).mono ?_;rintro e w4⟨WR,rv4,rfl,H,G7⟩;have M4:=qd H;have B4:=qd G7;obtain⟨a4,c4,rfl⟩:=H.ats.form;have e4:=H.c0)|(refine be (qbq _ 0 _ _ _ _ e4) ?_;rintro w5 rfl))
   exact⟨⟨k+1,_,_,uq,rfl,by rwa[q9 HQ],B4,d,qd ⟨by rw[(q9 X).1];omega,X.2⟩⟩,by simp[intOf];omega⟩
 have:k=n:=uq;subst this;have hP:=(q9 MK).prog;have rV:=j7 (ss.map coS) k;obtain⟨lX,E,M⟩:=q9 HE;have m9:A (vF (ss.map coS) k).1<=80:=by rwa[M.len]
 have BY:=qd (qxb (Z w.1+1) 0 _ _ wr hP uq uq (λt ht=>(M.small lX ht).1) (λt ht=>(M.small lX ht).2) (λr hr=>md (rV.2 r hr)) _ (λe w' h=>h));have d:Hid (R=(0,0)):=qd (by rw[<-q9 P,show k - k=0 by omega];rfl)
 go_wp2_with(refine BY.mono ?_;rintro e w2⟨v2,rfl,U3,K⟩;have O2:=qd U3;have B2:=qd K;obtain⟨a2,c2,rfl⟩:=U3.form)
 refine um ?_;refine⟨q.trans (B2.mono q.size),Am ⟨by rw[q9 d],_,rfl, ?_⟩⟩;rw[q9 HN];have h:=q9 O2;refine⟨h.1, ?_⟩;obtain L|⟨g,cap,cur,hv,J1,rest⟩:=h.2;exact Am L;exact An ⟨g,cap,cur,hv,bu q.size J1,rest⟩
theorem qad(ss:List uk)(a:Option Addr)(cap:Nat)(w:Ao)(e:LibOk w)(d:TxIn w a ss):uo 25 #[C a (A ss) cap] w (qpy ss (qa1 ss) w):=by
 grind[qa1,qma,qqo]
section
variable {pv:Ap}
theorem vud(ss:List uk):∀f k,k+f<=A ss->(qbz ss f k).1=0->(∃E,AdOk ss k E)->A (gTs ss k).1<=80->(∃E,AdOk ss (k+f) E)/\A (gTs ss (k+f)).1<=80:=by
 intro f
 induction f<;>grind[qbz,gY,vm,AdOk.step]
theorem qii(h:(qa1 ss).1=0):A ss<=8/\(∃E,AdOk ss (A ss) E)/\A (gTs ss (A ss)).1<=80:=by
 unfold qa1 at h
 by_cases h8:8<A ss
 grind
 rw[ak h8]at h;have:=vud ss (A ss) 0 uq h ⟨[],AdOk.zero ss⟩ (bt _);rw[ed]at this;exact⟨uq,this⟩
theorem vsx:∀(E:List Co),(∀c∈E,qvp (qun c))->qbf E<=200 * A E:=by
 intro E
 induction E<;>grind[qbf,qcm,qvp]
theorem qeg(h:(qa1 ss).1=0):A (zL (vF (ss.map coS) (A ss)).1 (vF (ss.map coS) (A ss)).2)<=16+16 * A (gTs ss (A ss)).1+4 * A ss+(gTs ss (A ss)).2/\A (zL (vF (ss.map coS) (A ss)).1 (vF (ss.map coS) (A ss)).2)<=100000:=by
 obtain⟨q,⟨E,d⟩,j⟩:=qii h;have e:=d.bytes j;have B:=vsx E d.fld;have u:(gTs ss (A ss)).2=qbf E:=by rw[d.tx]
 have r:A (gTs ss (A ss)).1=A E:=by rw[d.tx];simp
 exact⟨e,uq⟩
theorem qm5(ss:List uk):∀f k,(qbz ss f k).1=0->qbz ss f k=(0,0):=by
 intro f
 induction f<;>grind[qbz,gY,vm]
theorem qm7(h:(qa1 ss).1=0):qa1 ss=(0,0):=by
 grind[qa1,qm5]
theorem j9{d j n size:Nat}{e:TypeId}{xs:List Ap}(h:ue W j e size v n xs)(r:d<=j):ue W d e size v n xs:=by
 refine⟨h.1, ?_⟩;obtain q|⟨g,cap,cur,rfl,u,rest⟩:=h.2;exact Am q;exact An ⟨g,cap,cur,rfl,uq,rest⟩
end
end Go.Proofs.YtmepkbgodcffoaaGreatDoor
