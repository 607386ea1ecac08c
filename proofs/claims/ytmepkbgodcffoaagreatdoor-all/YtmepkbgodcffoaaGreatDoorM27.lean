/- The cores of what is r -/
import Derived.Test.YtmepkbgodcffoaaGreatDoorM21
import Derived.Test.YtmepkbgodcffoaaGreatDoorM07
import Derived.Test.YtmepkbgodcffoaaGreatDoorM26
import Derived.Lib.SliceRun
import Derived.Test.YtmepkbgodcffoaaGreatDoorShelf3
import Derived.Sort.OwnSorted
set_option maxHeartbeats 16000000
set_option maxRecDepth 100000
namespace Go.Proofs.YtmepkbgodcffoaaGreatDoor
open Go.RowKit Go.Proofs.Tryz
open _root_.List renaming length->A
open Go.World renaming setCell->B,ownsRow->ue
open Go.Value renaming ownBlock->ug,agg->Ai,bool->Ah,int->I,pointer->Ag,slice->C,string->Y,tuple->Aj
open Bool renaming false->uh,true->ui
open Go.Addr renaming mk->D
open _root_.Array renaming size->Z
open Go renaming Value->Ap,World->Ao
open Go.Ending renaming returned->Ak
open Go.IntKind renaming i64->J
open Go.Obj renaming cells->Al
open Option renaming none->O,some->G
open Or renaming inl->Am,inr->An
variable{cur:Array Ap}{p:CP}{x:Co}{m op:Int}{ts:List uk}{rs:List Nat}{l:List Sb}{xs:List Ap}{uc B' E b base c cap g j k lb mb mp n o vb:Nat}{a:Option Addr}{s:Sb}{t:Tm}{rv tv v:Ap}{W w:Ao}
def qvp(p:CP):Prop:=(0<=p.op/\p.op<=23)/\Rng p.M/\A p.str<=200/\A p.esc<=1
def qc4:Co->Prop
 | .leaf p=>qvp p
 | .un p x=>qvp p/\qc4 x
 | .bin p x y=>qvp p/\qc4 x/\qc4 y
theorem yB(h:0<=op/\op<=23):qvp (qr op):=⟨h,vp1,bt _,bt _⟩
theorem j6(f:0<=op/\op<=23){y:Co}(e:qc4 x)(d:qc4 y):qc4 (qq op x y):=by
 grind[qq,yB,qc4]
theorem vb1:∀{c:Co},qc4 c->qc4 (vj c):=by
 intro c
 induction c<;>grind[vj,yB,j6,qc4]
theorem qu5{t:uk}(h:A t<=200):qc4 (vl t):=by constructor<;>grind[vp1]
theorem vb2{n:Int}(h:Rng n):qc4 (gO n):=by constructor<;>grind
theorem vb3(e:qc4 x):∀(r:List uk) (f:Co),qc4 f->(∀t∈r,A t<=200)->qc4 (zC x f r):=by
 intro r
 induction r with
 | nil=>intro f d _;exact d
 | cons t r ih=>
  intro f d h;exact ih _ (j6 uu d (j6 uu e (qu5 (h t eu)))) λu q=>h u (fe _ q)
theorem vb0(d:qc4 x)(h:∀t∈ts,A t<=200):qc4 (vO x ts):=by
 grind[pD,vO,vb3,j6,qu5]
theorem vig:∀t,ShA t->qi9 t->qi6 t->BqA t->qc4 (qj t):=by
 intro t
 induction t with
 | leaf p=>intro f r q e;exact⟨⟨f.1,by have:=f.2;show p.op<=23;omega⟩,r,q.1,e.1⟩
 | un p x ih=>
  intro f r q e;have d:=ih f.2.2.2 r.2 q.2 e.2;rw[qj]
  split
  exact j6 uu (vb2 vp1) d
  split
  exact j6 uu (vb2 vp1) d
  split
  exact vb1 d
  split
  exact vb0 d e.1.2;exact⟨⟨by have:=f.1;show 0<=p.op/\p.op<=23;omega,r.1,q.1.1,e.1.1⟩,d⟩
 | bin p x y ihx ihy =>grind[qj,j6,vb1,ShA,qi9,qi6,BqA]
 | tri p x y z ihx ihy ihz =>grind[qj,j6,ShA,qi9,qi6,BqA]
theorem qu9:∀{c:Co},qc4 c->qe6 c:=by
 have hp:∀{p:CP},qvp p->GoodP p:=λh=>⟨h.1,h.2.1,md h.2.2.1,md h.2.2.2⟩
 intro c
 induction c<;>grind[qc4,qe6]
theorem qyi:∀{c:Co},WfC c->kt c<=2 * A (qu c)+1:=by
 intro c
 induction c<;>grind[qu,qK,unB,kt,jV,WfC]
structure CoreOk(c:Co):Prop where
 fld:qc4 c
 wf:WfC c
 size:kt c<=250000000
theorem qc9{s:uj}{t:Ast}(h:qW s=.ok t):CoreOk (qj t):=by
 obtain⟨d,e,u,r,q,f⟩:=ky h;refine⟨vig t u r q f,d.gd.wf, ?_⟩;have A:=qyi d.gd.wf;have z:=d.gd.len;have y:ndA t * ndA t<=200 * 200:=oy e e;omega
def qvo(ts:List Tm):Prop:=∀i t,ts[i]?=G t->FitsT i t
theorem qiv{ts:List Tm}(h:qvo ts)(d:FitsT (A ts) t):qvo (pW ts t).1:=by
 grind[pW,qvo]
theorem qrb(h:qvp p){l r:Nat}(d:5<=p.op->l<n/\r<n):FitsT n (zV p l r):=by
 obtain⟨⟨A,z⟩,y,u,q⟩:=h;refine⟨by show p.op.toNat<=23;omega,y,u,q,λf=>d ?_⟩;have e:5<=p.op.toNat:=f;omega
theorem qwl:∀(c:Co) (ts:List Tm),qc4 c->WfC c->qvo ts->qvo (qA ts c).1:=by
 intro c
 induction c<;>grind[qiv,qrb,jp,yu,qA,qc4,WfC,qvo]
section
attribute [local go_sem ↓] vp
def qeb(t:Tm):Prop:=∀(base:Nat) (v:Ap) (l:List UInt8) (W:Ao),OB W base v l->base<=Z W.1->A l<=800000->Calls prog 102 #[tmV t,v] W (yM base W (l++encT t))
theorem qkp(t:Tm)(d:SmallT t)(h:t.op∈[0,1,2,3,4,5,6,7,8,10,11,16,17,18,19,23]):qeb t:=by
 intro base v l W q f e;simp only[ep,ln,or_false]at h;obtain h|h|h|h|h|h|h|h|h|h|h|h|h|h|h|h:=h<;>grind[vtn,vto,vtp,vgi,vtq,gG,vnb]
def qhb(hd:List UInt8)(ts:List Tm):Nat->List UInt8
 | 0=>hd
 | k+1=>qhb hd ts k++encT (ts.getD k (.bare 3))
def qr0(hd:List UInt8)(rs:List Nat):Nat->List UInt8
 | 0=>hd
 | k+1=>qr0 hd rs k++[UInt8.ofNat (rs.getD k 0)]
def zL(ts:List Tm)(rs:List Nat):List UInt8:=qr0 (qhb [UInt8.ofNat (A ts),UInt8.ofNat (A rs)] ts (A ts)) rs (A rs)
theorem vy3(s:uk):A (qdd s)=A s+1:=rfl
theorem qr2(t:Tm)(d:SmallT t):A (encT t)<=1000:=by
 grind[encT,jq,vy3,SmallT]
theorem qqz(hd:uk)(ts:List Tm)(h:∀t∈ts,SmallT t)(k:Nat):A (qhb hd ts k)<=A hd+k * 1000:=by
 induction k with
 | zero=>simp[qhb]
 | succ k ih=>
  rw[qhb,cd]
  have:A (encT (ts.getD k (.bare 3)))<=1000:=by
   apply qr2;rw[aq]
   cases hk:ts[k]? with
   | none=>exact⟨bt _,bt _,bt _,bt _⟩
   | some t=>grind
  omega
theorem qr1(hd:uk)(rs:List Nat)(k:Nat):A (qr0 hd rs k)=A hd+k:=by
 induction k<;>grind[qr0]
theorem qxb(B o:Nat)(ts:List Tm)(rs:List Nat)(W:Ao)(hp:ProgAt W B o ts rs)(U7:A ts<=200)(h8:A rs<=200)(R:∀t∈ts,SmallT t)(hw:∀t∈ts,qeb t)(JX:∀r∈rs,r<=255)(Q:Ending->Ao->Prop)(hQ:∀e w',yM (Z W.1) W (zL ts rs) e w'->Q e w'):
  uo 58 #[Ag (G (D B o O))] W Q:=by
 have HQ:=qd hQ;clear hQ;unfold zL at HQ;obtain⟨plt,⟨tv,tb,c0,cB⟩,rv,rb,c1,XS⟩:=hp;obtain⟨ta,tc,rfl,S⟩:=cB.cells;obtain⟨ra,rc,rfl,T⟩:=XS.cells;have Y:Hid _:=qd S;have fV:Hid _:=qd T;have HW:=qd hw;have HRS:=qd JX;have cJ:Hid _:=qd (qqz [UInt8.ofNat (A ts),UInt8.ofNat (A rs)] ts R);obtain⟨n,F⟩:=il (A ts);obtain⟨m,H⟩:=il (A rs);have HN:=qd F;have HM:=qd H;rw[<-F]at c0 U7;rw[<-H]at c1 h8;rw[<-F,<-H]at HQ cJ;clear F H
 have O0:Hid (OB (W.alloc (Al #[I .u8 n,I .u8 m] 5)).drew (Z W.1) (C (G ⟨Z W.1,0,O⟩) 2 2) [UInt8.ofNat n,UInt8.ofNat m]):=qd (by
  refine⟨rfl,An ⟨Z W.1,2,#[I .u8 n,I .u8 m],rfl,ux,heap_alloc_new W _,ux,uu,rfl, ?_⟩⟩;show[I .u8 n,I .u8 m]=[I .u8 ((UInt8.ofNat n).toNat:Int),I .u8 ((UInt8.ofNat m).toNat:Int)]
  rw[<-qh2 uq,<-qh2 uq])
 have B0:Hid (Xb W (W.alloc (Al #[I .u8 n,I .u8 m] 5)).drew):=qd (uy.alloc ux _).drew;have HHD:Hid (A [UInt8.ofNat n,UInt8.ofNat m]=2):=qd rfl;generalize [UInt8.ofNat n,UInt8.ofNat m]=hd at *;go_enter func58,ntmps58
 go_wp2
 go_region
 all_goals go_wp2
 go_loopw [3,26] (λu i wr=>∃k:Nat,k<=n/\i=I J k/\Hid (OB wr (Z W.1) u (qhb hd ts k))/\Hid (Xb W wr)) (λ_ i _=>n - (intOf i).toNat)
 exact⟨0,bt _,rfl,O0,B0⟩;obtain⟨k,hk,rfl,M,y⟩:=hrel;have A6:A (qhb hd ts k)<=700000:=by have h1:=q9 cJ k;have h2:=q9 HHD;omega
 by_cases A1:k<n
 .obtain⟨t,ht⟩:∃t,ts[k]?=G t:=⟨_,ag (md (q9 HN))⟩
  obtain⟨g,rfl,glt,f,t1,t2,t3,t4,t5⟩:=q9 Y k t ht;have WT:Hid (∀(u:Ap) (U:Ao),OB U (Z W.1) u (qhb hd ts k)->Z W.1<=Z U.1->uo 102 #[tmV t,u] U (yM (Z W.1) U (qhb hd ts k++encT t))):=qd λu U h1 h2=>q9 HW t (bh ht) _ u _ U h1 h2 uq
  have q:Hid (qhb hd ts (k+1)=qhb hd ts k++encT t):=qd (by rw[qhb,aq,ht];rfl);obtain⟨L,hL⟩:=ie (qhb hd ts k);rw[hL]at M WT q A6;obtain⟨d,P⟩:=qi y;replace f:=(d g (k * 6) glt).trans f;replace t1:=(d g (k * 6+1) glt).trans t1;replace t2:=(d g (k * 6+2) glt).trans t2;replace t3:=(d g (k * 6+3) glt).trans t3;replace t4:=(d g (k * 6+4) glt).trans t4;replace t5:=(d g (k * 6+5) glt).trans t5;have X:=(q9 y).size;have TQ:g<Z wr.1:=uq;have O1:=qd (λo=>World.ownsRow.alloc M o);obtain⟨a',c',rfl⟩:=(q9 M).form;unfold tmV at WT;clear d P ht hL A6
  go_wp2_with(refine(WT _ _ (O1 _) ut).mono ?_;rintro e w2⟨v2,rfl,U3,A3⟩;have bX:=qd U3;have G3:=qd ((y.alloc X _).trans A3))
  exact⟨⟨k+1,uq,rfl,qd (by rw[q9 q];exact q9 bX),G3⟩,by simp[intOf];omega⟩
 have:k=n:=uq;subst this;have d1:Xc wr B (o+1) (C ra m rc):=(y.cell (p:=⟨B,o+1,O⟩) plt).trans c1;generalize qhb hd ts k=L at *
 go_wp2
 go_loopw [3,39] (λu i wr=>∃j:Nat,j<=m/\i=I J j/\Hid (OB wr (Z W.1) u (qr0 L rs j))/\Hid (Xb W wr)) (λ_ i _=>m - (intOf i).toNat)
 exact⟨0,bt _,rfl,M,y⟩;obtain⟨j,hj,rfl,K,z⟩:=hrel
 by_cases L5:j<m
 .obtain⟨r,hr⟩:∃r,rs[j]?=G r:=⟨_,ag (md (q9 HM))⟩
  obtain⟨g,rfl,glt,f⟩:=q9 fV j r hr;have MX:r<=255:=q9 HRS r (bh hr);have q:Hid (qr0 L rs (j+1)=qr0 L rs j++[UInt8.ofNat r]):=qd (by rw[qr0,aq,hr];rfl);have N:A (qr0 L rs j)<=1000000:=by rw[qr1];omega
  obtain⟨L2,KW⟩:=ie (qr0 L rs j);rw[KW]at K q N;obtain⟨d,P⟩:=qi z;replace f:=(d g j glt).trans f;have X:=(q9 z).size;obtain⟨g5,J7,w5,M8,oO,L9⟩:=OB.app K X (UInt8.ofNat r) (r:Int) (qh2 MX) N 65 _ rfl rfl;have dE:=qd (z.trans L9);obtain⟨a',c',rfl⟩:=OB.form K;clear d P hr KW N L9
  go_wp2
  exact⟨⟨j+1,uq,rfl,qd (by rw[q9 q];exact q9 oO),dE⟩,by simp[intOf];omega⟩
 have:j=m:=uq;subst this
 go_wp2
 exact q9 HQ _ _ ⟨_,rfl,q9 K,q9 z⟩
end
def vpo(lo:Nat)(t:Ast):Prop:=∀(uc:Nat) (w:Ao) (v:Ap),uc<=Z w.1->LibOk w->IsNode lo w v t->Calls prog 53 #[v] w (pH uc w (qj t))
theorem CellsC.lower{l r:Ap}{t:uk}(h:CellsC B' E w b p l r t)(d:uc<=B'):CellsC uc E w b p l r t:=by grind[CellsC]
theorem CoAt.lower(f:uc<=B'):∀{c:Co} {v:Ap},CoAt B' E w v c->CoAt uc E w v c:=by
 intro c
 induction c with
 | leaf p=>grind[CellsC.lower,CoAt]
 | un p x ih=>rintro v⟨b,d,rfl,h,e⟩;exact⟨b,d,rfl,h.lower f,ih e⟩
 | bin p x y ihx ihy=>rintro v⟨b,d,q,rfl,h,e,r⟩;grind[CellsC.lower,CoAt]
theorem CoAt.set{c:Co}(h:CoAt uc (Z w.1) w v c){p:Addr}(hp:p.block<uc)(u:Ap):CoAt uc (Z (B w p u).1) (B w p u) v c:=by
 have d:=size_setCell w p u;exact h.keep (by grind) (λk e _=>bi w p u k uq) (by grind)
def SideK(uc:Nat)(w:Ao)(t:Ast)(k j:Nat)(v:Ap):Prop:=(j<k/\SideIs uc w t j v)\/(¬j<k/\v=Ag O)
theorem SideIs.set{d:Ao}{t:Ast}(h:SideIs uc w t j v)(e:Xb w d){p:Addr}(hp:p.block<uc)(u:Ap):SideIs uc (B d p u) t j v:=by
 grind[SideIs,CoAt.h,CoAt.set]
theorem SideK.old{uc:Nat}{w d:Ao}{t:Ast}{k j:Nat}{v:Ap}(h:SideK uc w t k j v)(e:j≠k)(f:Xb w d){p:Addr}(hp:p.block<uc)(u:Ap):SideK uc (B d p u) t (k+1) j v:=by
 grind[SideIs.set,SideK]
theorem SideK.new{uc:Nat}{d:Ao}{t x:Ast}{k:Nat}{v:Ap}(e:(qw t)[k]?=G x)(h:CoAt uc (Z d.1) d v (qj x)){p:Addr}(hp:p.block<uc)(u:Ap):SideK uc (B d p u) t (k+1) k v:=by
 grind[SideIs,CoAt.set,SideK]
theorem SideK.done{t:Ast}(h:SideK uc w t (A (qw t)) j v):SideIs uc w t j v:=by
 grind[SideIs,SideK]
theorem qds(S:Nat)(t:Ast)(hA:qgq t->qc2)(E9:Ok t)(N9:∀x∈qw t,vpo S x):vpo S t:=by
 intro uc w v hB hL h
 suffices hs:uo 53 #[v] w (pH (Z w.1+1) w (qj t)) by
  refine hs.mono ?_;rintro e w'⟨b,rfl,hc,R⟩;exact⟨b,rfl,hc.lower uq,R⟩
 obtain⟨b,sv,rfl,A8,bH⟩:=h.parts;obtain⟨a,rfl,eC⟩:=bH.any;have lA:=qg8 t;have c2:=A8.c2;have I1:=A8.within;obtain⟨n,hn⟩:=ie (A (qw t));rw[hn]at c2 lA;have HN:=qd hn;have HS:=qd eC;have IT:=qd N9;have HL:=qd hL
 have JN:Hid (∀wr r q f,Xb w wr->Z w.1<Z wr.1->SideIs (Z w.1+1) wr t 0 r->SideIs (Z w.1+1) wr t 1 q->SideIs (Z w.1+1) wr t 2 f->uo 98 #[Ag (G (D b 0 O)),r,q,f] wr (pH (Z w.1+1) wr (qj t))):=
  qd (λwr r q f R hz h0 h1 h2=>va8 t hA E9 S _ uq (hL.h R ux) (A8.P (Kept.x R)) h0 h1 h2)
 go_enter func53,ntmps53
 go_wp2
 go_loopw [11] (λi wr=>∃(k:Nat) (r q f:Ap),k<=n/\i=I J k/\Hid (SideK (Z w.1+1) wr t k 0 r/\SideK (Z w.1+1) wr t k 1 q/\SideK (Z w.1+1) wr t k 2 f)/\Xc wr (Z w.1) 0 r/\Xc wr (Z w.1) 1 q/\Xc wr (Z w.1) 2 f/\(Xf wr (Z w.1))/\Z w.1<Z wr.1/\Hid (Xb w wr)) (λi _=>n - (intOf i).toNat)
 exact⟨0,Ag O,Ag O,Ag O,bt _,rfl,qd ⟨An ⟨uq,rfl⟩,An ⟨uq,rfl⟩,An ⟨uq,rfl⟩⟩,ur,ur,ur,λj=>ur,ur,qd (uy.alloc ux _)⟩;obtain⟨k,r,q,f,hk,rfl,H,X,U,T,fz,u,C⟩:=hrel
 by_cases A1:k<n
 .obtain⟨x,hx⟩:∃x,(qw t)[k]?=G x:=⟨_,ag (by rwa[q9 HN])⟩
  obtain⟨g,bx,rfl,J6,L6,mU,iC⟩:=q9 HS k x hx;have dx:=(C.cell (p:=D g k O) L6).trans mU;have CX:=qd (IT x (bh hx) (Z w.1+1) wr _ uq (HL.h C ux) (iC.P (Kept.x C)));have Y:=qd hx;rcases(show k=0\/k=1\/k=2 by omega) with rfl|rfl|rfl
  .go_wp2_with(refine CX.mono ?_;rintro e d⟨b1,rfl,k1,z⟩;obtain⟨B,P⟩:=qi z;have Q:Z w.1<Z d.1:=(md z.size);have M:Xc d (Z w.1) 0 r:=(B _ 0 u).trans X;have L:Xc d (Z w.1) 1 q:=(B _ 1 u).trans U;have K:Xc d (Z w.1) 2 f:=(B _ 2 u).trans T;have N:Xf d (Z w.1):=(λj=>(P _ j u).trans (fz j));have y:=qd z;have F:=qd k1)
   go_roundw
   case rel=>exact⟨1,_,q,f,uq,by go_num,qd ⟨SideK.new Y F ur _,H.2.1.old uu y ur _,H.2.2.old uu y ur _⟩,by simp[go_sem,M],by simp[go_sem,L],by simp[go_sem,K],λj=>by simp[go_sem,N],by simpa using Q,qd ((qg C y).setCell ur _)⟩
   simp[intOf];omega
  .go_wp2_with(refine CX.mono ?_;rintro e d⟨b1,rfl,k1,z⟩;obtain⟨B,P⟩:=qi z;have Q:Z w.1<Z d.1:=(md z.size);have M:Xc d (Z w.1) 0 r:=(B _ 0 u).trans X;have L:Xc d (Z w.1) 1 q:=(B _ 1 u).trans U;have K:Xc d (Z w.1) 2 f:=(B _ 2 u).trans T;have N:Xf d (Z w.1):=(λj=>(P _ j u).trans (fz j));have y:=qd z;have F:=qd k1)
   go_roundw
   case rel=>exact⟨2,r,_,f,uq,by go_num,qd ⟨H.1.old uu y ur _,SideK.new Y F ur _,H.2.2.old uu y ur _⟩,by simp[go_sem,M],by simp[go_sem,L],by simp[go_sem,K],λj=>by simp[go_sem,N],by simpa using Q,qd ((qg C y).setCell ur _)⟩
   simp[intOf];omega
  go_wp2_with(refine CX.mono ?_;rintro e d⟨b1,rfl,k1,z⟩;obtain⟨B,P⟩:=qi z;have Q:Z w.1<Z d.1:=(md z.size);have M:Xc d (Z w.1) 0 r:=(B _ 0 u).trans X;have L:Xc d (Z w.1) 1 q:=(B _ 1 u).trans U;have K:Xc d (Z w.1) 2 f:=(B _ 2 u).trans T;have N:Xf d (Z w.1):=(λj=>(P _ j u).trans (fz j));have y:=qd z;have F:=qd k1)
  go_roundw
  case rel=>exact⟨3,r,q,_,uq,by go_num,qd ⟨H.1.old uu y ur _,H.2.1.old uu y ur _,SideK.new Y F ur _⟩,by simp[go_sem,M],by simp[go_sem,L],by simp[go_sem,K],λj=>by simp[go_sem,N],by simpa using Q,qd ((qg C y).setCell ur _)⟩
  simp[intOf];omega
 have aB:k=A (qw t):=md (q9 HN)
 have HD:=qd (aB ▸ q9 H);have HJ:=qd (JN wr r q f C u HD.1.done HD.2.1.done HD.2.2.done)
 go_wp2_with(refine HJ.mono ?_;rintro e d⟨b1,rfl,k1,z⟩;have y:=qd (qg C z);have F:=qd k1)
 go_ret;exact⟨b1,rfl,q9 F,q9 y⟩
theorem qej(d:Nat):∀t,(qgq t->qc2)->Ok t->vpo d t:=by
 intro t
 induction t<;>grind[qds,qw,Ok.side,qgq]
def vF(cs:List Co):Nat->List Tm×List Nat
 | 0=>([],[])
 | k+1=>((qA (vF cs k).1 (cs.getD k (.leaf ⟨3,0,[],[]⟩))).1,(vF cs k).2++[(qA (vF cs k).1 (cs.getD k (.leaf ⟨3,0,[],[]⟩))).2])
theorem j7(cs:List Co)(k:Nat):A (vF cs k).2=k/\∀r∈(vF cs k).2,r<A (vF cs k).1:=by
 induction k<;>grind[vF,yu]
def vwe(s:List UInt8)(c:Co):Prop:=∃t,qW (BS s)=.ok t/\qj t=c/\(qgq t->qc2)/\qe6 c/\kt c<=250000000/\A s<=140737488355328
theorem MkAt.prog{ts:List Tm}(h:MkAt W mb mp ts rs tv rv):ProgAt W mb 0 ts rs:=by constructor<;>grind[MkAt]
theorem qtf{W':Ao}{ts:List Tm}{h q:Ap}(d:Xb w W)(r:MkAt W mb mp ts rs tv rv)(f:MkKept mb mp tv rv h q W W')(hp:Z w.1<=mp):Xb w W':=by
 have y:=r.lo;refine⟨f.os.trans d.os,f.tape.trans d.tape,f.output.trans d.output,bu d.size f.size,λk u=>(f.block k (md d.size) (λe=>?_)).trans (d.block k u)⟩;obtain rfl|rfl|e|e:=e;omega;omega;have:=(r.ats.lt k e).1;omega;have:=(r.ars.lt k e).1;omega
theorem vgu(c:Co)(u:qe6 c)(uc mb mp:Nat)(W:Ao)(v:Ap)(ts:List Tm)(rs:List Nat)(tv rv:Ap)(r:MkAt W mb mp ts rs tv rv)(d:CoAt uc (Z W.1) W v c)(h:Out uc (Z W.1) mb mp tv rv)(q:A ts+kt c<=2500000000)(f:A rs<=1000):
  uo 56 #[Ag (G (D mb 0 O)),v] W λe w'=>∃tv' rv',e=Ak (Aj #[])/\MkAt w' mb mp (qA ts c).1 (rs++[(qA ts c).2]) tv' rv'/\MkKept mb mp tv rv tv' rv' W w':=by grind[qud]
section
attribute [local go_sem ↓] vp
theorem SubsAt.form{d:Nat}(h:SubsAt w d v l):∃a c,v=C a (A l) c:=by
 grind[SubsAt]
theorem qaz(f:Nat)(l:List Sb)(id:Int)(v:Ap)(w:Ao)(B:Xc w f 1 v)(h:SubsAt w (Z w.1) v l)(u:xZ l)(r:A l<=8):
  lz 69 #[Ag (G (D f 0 O)),I J id] w (Aj #[I J (vt l id),Ah (l.any λs=>s.id==id)]):=by
 have BS:=qd (qqd l id v w h u r);obtain⟨a,c,rfl⟩:=h.form;obtain⟨F,e⟩:=ie ((l.any λs=>s.id==id));obtain⟨P,d⟩:=ie (vt l id);rw[e,d]at BS |-;clear e d h;go_enter func69,ntmps69
 go_wp2_with(refine be BS λz q=>?_;have y:=qd q;clear q)
 go_ret2
 exact⟨rfl,q9 y⟩
theorem vru(w:Ao):uo 9 #[] w λe w'=>e=Ak (Ag (G ⟨Z w.1,0,O⟩))/\w'=w.alloc (Al #[I J 0,C O 0 0,C O 0 0,C O 0 0] 54):=by
 go_enter func9,ntmps9
 go_wp2
 go_ret;exact⟨rfl,rfl⟩
theorem vcj(d n:Nat)(a:Option Addr)(c:Nat)(w:Ao)(h:Xc w d 2 (C a n c)):uo 34 #[Ag (G (D d 0 O))] w λe w'=>e=Ak (I J n)/\w'=w:=by
 have ua:=qd (qbq d 2 n a c w h);go_enter func34,ntmps34
 go_wp2_with(refine be ua ?_;rintro f rfl)
 go_ret;exact⟨rfl,rfl⟩
def qel(ats:Array TypeId)(ty:TypeId)(args:Array Ap):Sem Ap:=Builtin.copy_ ats ty args
theorem qmb(ats:Array TypeId)(ty:TypeId)(args:Array Ap):Builtin.copy_ ats ty args=qel ats ty args:=rfl
attribute [local go_sem ↓] qmb
theorem vW(g o j:Nat):(⟨g,o,O⟩:Addr).add j=⟨g,o+j,O⟩:=by grind[Addr.add]
theorem qmt(d:k<=A l)(s:Sb):qt (pV l k s)=(qt l).take (k * 3)++qX s++(qt l).drop (k * 3):=by
 unfold pV;rw[vT,qbj l k d,<-List.singleton_append,vT,qbi l k d,bw]
 congr 2
theorem vsi{a b:List Ap}(h:o+A a+A b<=cur.size):(jQ (jQ cur o a) (o+A a) b).toList.take (o+A a+A b)=cur.toList.take o++a++b:=by
 rw[zM,zM];have d:(cur.toList.take o++a++cur.toList.drop (o+A a)).take (o+A a)=cur.toList.take o++a:=List.take_left' ut;rw[d];exact List.take_left' ut
theorem vke{a b:List Ap}(h:o+A a+A b<=cur.size):(jQ (jQ cur (o+A a) b) o a).toList.take (o+A a+A b)=cur.toList.take o++a++b:=by
 rw[zM,zM]
 have e:(cur.toList.take (o+A a)++b++cur.toList.drop (o+A a+A b)).take o=cur.toList.take o:=by
  grind
 have d:(cur.toList.take (o+A a)++b++cur.toList.drop (o+A a+A b)).drop (o+A a)=b++cur.toList.drop (o+A a+A b):=by
  grind
 grind[List.take_left']
theorem vex{e:TypeId}(h:ue w base e 3 (C (G (D g 0 O)) n cap) n xs)(k:Nat):∀j v,(xs.drop k)[j]?=G v->w.cell? ((⟨g,k,O⟩:Addr).add j)=G v:=by
 intro j v d;rw[ix]at d;have:=World.ownsRow.cells h (g:=g) rfl (k+j) v d
 grind[vW]
theorem vis(S:A l=n)(h:SbRow w base (C (G (D g 0 O)) n c) l)(hk:k<n)(hc:c=n)(iZ:n<=1000)(hv:w.1[vb]?=G (Al (qX s).toArray 130 (0,0)))(K0:base<=Z w.1):
  ∃H Af w5 w6 w7,(xb #[48,3] 48 #[C (G (D g 0 O)) k c,I J ((n:Int)+1 - (k:Int))]).run prog w=.ok (C (G (D H 0 O)) (n+1) Af) w5 /\
   (∀ty e,(qel #[48,48] ty #[C (G ⟨H,k * 3,O⟩) (n+1 - k) e,C (G (D vb 0 O)) 1 1]).run prog w5=.ok (goInt 1) w6) /\
   (∀ty e y,(qel #[48,48] ty #[C (G ⟨H,(k+1) * 3,O⟩) (n - k) e,C (G ⟨g,k * 3,O⟩) (n - k) y]).run prog w6.drew=.ok (goInt ((n - k:Nat):Int)) w7) /\
   n+1<=Af/\Af<=maxLen/\Hid (SbRow w7 base (C (G (D H 0 O)) (n+1) Af) (pV l k s))/\Hid (w.grownBy w7 (G g))/\Hid (Z w.1<=H):=by
 subst hc;obtain⟨Q,T,F5,B9,D8⟩:=info_parts qce;have F:ue w base 130 3 (C (G (D g 0 O)) c c) c (qt l):=by grind
 obtain⟨J1,_,bU,cur,G0,J3,eJ⟩:=vM F;have N:(prog.info? 130).map (·.size)=G 3:=by rw[T];simp[B9]
 have oF:g<Z w.1:=(ch.1 G0).1;have lP:vb<Z w.1:=(ch.1 hv).1;have cG:=vJ l;rw[S]at cG;have X:A ((qt l).take (k * 3))=k * 3:=by grind
 have K:A ((qt l).drop (k * 3))=(c - k) * 3:=by grind
 have cD:(Builtin.firstCells Q.size k (C (G (D g 0 O)) k c)).run prog w.drew=.ok ((qt l).take (k * 3)).toArray w.drew:=by
  rw[B9]
  exact run_firstCells_some w.drew 3 k ⟨g,0,O⟩ k c ((qt l).take (k * 3)) X (λj v d=>by
   rw[li]at d
   split at d
   exact World.ownsRow.cells F (g:=g) rfl j v d
   cases d)
 have z:=Lib.run_append_grow_zeros w 48 3 48 130 Q _ J J underlying48 underlying3 T F5 (G (D g 0 O)) k c ((qt l).take (k * 3)) cD (c+1 - k) uq uq uq uq (by rw[D8];omega) (by rw[D8,show k+(c+1 - k)=c+1 by omega];exact growslice_fits uq uq);rw[show k+(c+1 - k)=c+1 by omega,show((c+1 - k:Nat):Int)=(c:Int)+1 - (k:Int) by omega]at z;have q:c+1<=grownCap w (c+1) c 130:=grownCap_ge w _ _ _;have VJ:grownCap w (c+1) c 130<=maxLen:=grownCap_le_maxLen w (c+1) c 130 (by unfold maxLen;omega);generalize grownCap w (c+1) c 130=Af at *;obtain⟨ROW,GW⟩:=il (((qt l).take (k * 3)).toArray++Builtin.zeroCells (Value.cells (Ai #[I J 0,Ag O,C O 0 0])) (c+1 - k)++Builtin.zeroCells (Value.cells (Ai #[I J 0,Ag O,C O 0 0])) (Af - (c+1)):Array Ap);rw[<-GW]at z;have CN:(Value.cells (Ai #[I J 0,Ag O,C O 0 0])).size=3:=by decide +kernel
 have VH:ROW.size=Af * 3:=by
  rw[GW];simp only[Array.size_append,List.size_toArray,X,Builtin.zeroCells,Array.size_map,Array.size_range,CN];omega
 have VG:ROW.toList.take (k * 3)=(qt l).take (k * 3):=by
  grind
 have M:(w.drew.alloc (Al ROW 130)).1[Z w.1]?=G (Al ROW 130 (0,0)):=heap_alloc_new w.drew _;have L:A (qX s)=3:=rfl;have f:Xb w (w.drew.alloc (Al ROW 130)):=uy.drew.alloc ux _;obtain⟨Y,_⟩:=qi f;have hA:=λty e=>yp (P:=prog) (w.drew.alloc (Al ROW 130)) 48 48 ty 130 3 (Z w.1) (k * 3) (c+1 - k) e 1 ⟨vb,0,O⟩ 1 1 ROW _ (qX s) underlying48 N M (by grind) L
  (λj v d=>by
   rw[vW,Y vb _ lP];have:=World.news_of_block (w:=w) (cs:=(qX s).toArray) (t:=130) (fr:=(0,0)) hv j v (by simpa using d);rw[vW]at this
   exact this) (by rw[L,VH];omega) (λu R=>jS [s] u (by grind[qt]))
 have U:((w.drew.alloc (Al ROW 130)).setRow (Z w.1) (jQ ROW (k * 3) (qX s))).1[Z w.1]?=G (Al (jQ ROW (k * 3) (qX s)) 130 (0,0)):=setRow_heap _ _ _ _ _ _ M;have B:(jQ ROW (k * 3) (qX s)).size=Af * 3:=by grind[yw]
 have hB:=λty e y=>yp (P:=prog) ((w.drew.alloc (Al ROW 130)).setRow (Z w.1) (jQ ROW (k * 3) (qX s))).drew 48 48 ty 130 3 (Z w.1) ((k+1) * 3) (c - k) e (c - k) ⟨g,k * 3,O⟩ (c - k) y (jQ ROW (k * 3) (qX s)) _ ((qt l).drop (k * 3)) underlying48 N U (by grind) K
  (λj v d=>by
   have:=vex F (k * 3) j v d;rw[vW]at this |-;show((w.drew.alloc (Al ROW 130)).setRow (Z w.1) (jQ ROW (k * 3) (qX s))).cell? _=_;rw[cell_setRow_other _ _ _ _ (by show g≠_;omega),Y g _ oF]
   exact this) (by rw[K,B];omega) (λu R=>jS l u (mj R))
 refine⟨Z w.1,Af,_,_,_,z,hA,hB,q,VJ,qd ?_,qd ?_,qd ux⟩
 .show ue _ base _ 3 _ (A (pV l k s)) (qt (pV l k s))
  rw[xy,S,qmt uq];refine⟨by grind,An ⟨Z w.1,Af,_,rfl,K0,setRow_heap _ _ _ _ _ _ U,q,VJ, ?_, ?_⟩⟩
  grind[yw]
  have:=vsi (cur:=ROW) (o:=k * 3) (a:=qX s) (b:=(qt l).drop (k * 3)) (by grind);rw[L,K,VG]at this;rw[show(c+1) * 3=k * 3+3+(c - k) * 3 by omega,show(k+1) * 3=k * 3+3 by omega];exact this
 refine qrk (g:=Z w.1) (b:=w.drew.alloc (Al ROW 130)) ⟨f.os,f.tape,f.output,f.size,λi h1 _=>f.block i h1⟩ ?_ ux;have r:=jD (w.drew.alloc (Al ROW 130)) (Z w.1) (jQ ROW (k * 3) (qX s));exact g9 (b:=((w.drew.alloc (Al ROW 130)).setRow (Z w.1) (jQ ROW (k * 3) (qX s))).drew) ⟨r.os,r.tape,r.output,r.size,r.block⟩ (jD _ _ _)
theorem qrn(l:List Sb)(s:Sb)(n k c g:Nat)(d:A l=n)(base vb:Nat)(w:Ao)(h:SbRow w base (C (G (D g 0 O)) n c) l)(y:k<n)(f:c=n)(u:n<=1000)(hv:w.1[vb]?=G (Al (qX s).toArray 130 (0,0)))(K:base<=Z w.1):
  uo 70 #[C (G (D g 0 O)) n c,I J k,C (G (D vb 0 O)) 1 1] w (ki w base (C (G (D g 0 O)) n c) (pV l k s)):=by
 obtain⟨H,q,S,R,r,U,z,T,B,F,L,M,P⟩:=vis d h y f u hv K
 have N:Hid (ki w base (C (G (D g 0 O)) n c) (pV l k s) (Ak (C (G (D H 0 O)) (n+1) q)) r):=qd (by
  have e:A (pV l k s)=n+1:=by rw[xy,d]
  refine⟨H,q,by rw[e], ?_,q9 M,An P⟩;have:=q9 L
  rwa [e])
 generalize ki w base (C (G (D g 0 O)) n c) (pV l k s)=Q at *;subst f;unfold maxLen at F;go_enter func70,ntmps70
 go_wp2
 go_region
 all_goals go_wp2
 all_goals exact q9 N
end
section
attribute [local go_sem ↓] vp
attribute [local go_sem ↓] qmb
theorem qs3{f:Nat}(d:vb≠g)(hv:w.1[vb]?=G (Al (qX s).toArray 130 (0,0)))(u:w.1[g]?=G (Al cur 130 (0,0)))(y:cur.size=cap)(z:cap≠0):
  (callFunc 112 #[C (G (D vb 0 O)) 1 1,C (G (D g o O)) lb f]).run prog w=.ok (.value (Ah uh)) w:=by
 obtain⟨B,r,F,A,H⟩:=info_parts qce;have q:∀w,(Go.sizeOf 130).run prog w=.ok 3 w:=λw=>by simp[sizeOf,typeInfo,r,A]
 rw[run_callFunc_extern func112 uw uw uw (e:=Extern.SlicesOverlaps.overlaps #[48,48] #[4]) uw,
  Lib.run_overlaps_apart w 48 4 130 underlying48 3 q ⟨vb,0,O⟩ ⟨g,o,O⟩ 1 1 lb f d 130 130 3 cap (by simp[World.shape?,hv,qX]) (by simp[World.shape?,u,y]) z (by simp[World.frozen?,hv]) (by simp[World.frozen?,hv])]
 rfl
theorem vit(H:A l=n)(h:SbRow w base (C (G (D g 0 O)) n c) l)(hk:k<n)(hc:n<c)(r:vb≠g)(hv:w.1[vb]?=G (Al (qX s).toArray 130 (0,0))):
  ∃w6 w7,(∀o lb K,(callFunc 112 #[C (G (D vb 0 O)) 1 1,C (G (D g o O)) lb K]).run prog w=.ok (.value (Ah uh)) w) /\
   (∀ty d f,(qel #[48,48] ty #[C (G ⟨g,(k+1) * 3,O⟩) (n - k) d,C (G ⟨g,k * 3,O⟩) (n+1 - k) f]).run prog w.drew=.ok (goInt ((n - k:Nat):Int)) w6) /\
   (∀ty d,(qel #[48,48] ty #[C (G ⟨g,k * 3,O⟩) (n+1 - k) d,C (G (D vb 0 O)) 1 1]).run prog w6=.ok (goInt 1) w7) /\
   c<=maxLen/\Hid (SbRow w7 base (C (G (D g 0 O)) (n+1) c) (pV l k s))/\Hid (w.grownBy w7 (G g)):=by
 obtain⟨Z,R,F5,Y,D8⟩:=info_parts qce;have J:ue w base 130 3 (C (G (D g 0 O)) n c) n (qt l):=by grind
 obtain⟨X,_,M,cur,z,Q,eJ⟩:=vM J;have B:(prog.info? 130).map (·.size)=G 3:=by rw[R];simp[Y]
 have U:=vJ l;rw[H]at U;have cT:A ((qt l).take (k * 3))=k * 3:=by grind
 have L:A ((qt l).drop (k * 3))=(n - k) * 3:=by grind
 have N:A (qX s)=3:=rfl;have T:=λty d f=>yp (P:=prog) w.drew 48 48 ty 130 3 g ((k+1) * 3) (n - k) d (n - k) ⟨g,k * 3,O⟩ (n+1 - k) f cur _ ((qt l).drop (k * 3)) underlying48 B z (by grind) L
  (λj v y=>vex J (k * 3) j v y) (by rw[L,Q];omega) (λu F=>jS l u (mj F))
 have I:(w.drew.setRow g (jQ cur ((k+1) * 3) ((qt l).drop (k * 3)))).1[g]?=G (Al (jQ cur ((k+1) * 3) ((qt l).drop (k * 3))) 130 (0,0)):=setRow_heap _ _ _ _ _ _ z;have q:(jQ cur ((k+1) * 3) ((qt l).drop (k * 3))).size=c * 3:=by grind[yw]
 have S:=λty d=>yp (P:=prog) (w.drew.setRow g (jQ cur ((k+1) * 3) ((qt l).drop (k * 3)))) 48 48 ty 130 3 g (k * 3) (n+1 - k) d 1 ⟨vb,0,O⟩ 1 1 (jQ cur ((k+1) * 3) ((qt l).drop (k * 3))) _ (qX s) underlying48 B I (by grind) N
  (λj v y=>by
   rw[vW,cell_setRow_other _ _ _ _ (by grind)];have:=World.news_of_block (w:=w) (cs:=(qX s).toArray) (t:=130) (fr:=(0,0)) hv j v (by simpa using y);rw[vW]at this
   exact this) (by rw[N,q];omega) (λu F=>jS [s] u (by grind[qt]))
 refine⟨_,_,λo lb K=>qs3 r hv z Q uq,T,S,M,qd ?_,qd ?_⟩
 .show ue _ base _ 3 _ (A (pV l k s)) (qt (pV l k s))
  rw[xy,H,qmt uq];refine⟨by grind,An ⟨g,c,_,rfl,X,setRow_heap _ _ _ _ _ _ I,uq,M, ?_, ?_⟩⟩
  grind[yw]
  grind[vke]
 have e:=jD w g (jQ cur ((k+1) * 3) ((qt l).drop (k * 3)));exact g9 (b:=w.drew.setRow g (jQ cur ((k+1) * 3) ((qt l).drop (k * 3)))) ⟨e.os,e.tape,e.output,e.size,e.block⟩ (jD _ _ _)
theorem qro(l:List Sb)(s:Sb)(n k c g:Nat)(f:A l=n)(base vb:Nat)(w:Ao)(h:SbRow w base (C (G (D g 0 O)) n c) l)(u:k<n)(z:n<c)(M:n<=1000)(d:vb≠g)(hv:w.1[vb]?=G (Al (qX s).toArray 130 (0,0))):
  uo 70 #[C (G (D g 0 O)) n c,I J k,C (G (D vb 0 O)) 1 1] w (ki w base (C (G (D g 0 O)) n c) (pV l k s)):=by
 obtain⟨L,r,q,y,N,B,F,H⟩:=vit f h u z d hv
 have K:Hid (ki w base (C (G (D g 0 O)) n c) (pV l k s) (Ak (C (G (D g 0 O)) (n+1) c)) r):=qd (by
  have e:A (pV l k s)=n+1:=by rw[xy,f]
  refine⟨g,c,by rw[e], ?_,q9 H,Am rfl⟩;have:=q9 F
  rwa [e])
 generalize ki w base (C (G (D g 0 O)) n c) (pV l k s)=Q at *;unfold maxLen at B;go_enter func70,ntmps70
 go_wp2_with(simp only[q])
 go_region
 all_goals go_wp2
 all_goals exact q9 K
theorem qwv(l:List Sb)(s:Sb)(k:Nat)(q:k<=A l)(f:A l<=1000)(v:Ap)(base vb:Nat)(w:Ao)(h:SbRow w base v l)(d:ug v≠G vb)(hv:w.1[vb]?=G (Al (qX s).toArray 130 (0,0)))(y:base<=Z w.1):
  uo 70 #[v,I J k,C (G (D vb 0 O)) 1 1] w (ki w base v (pV l k s)):=by
 by_cases he:k=A l
 grind[qww]
 obtain⟨_,r⟩|⟨g,c,rfl⟩:=vI h;omega;have u:=(vM h).2.1
 by_cases hc:c=A l
 grind[qrn]
 exact qro l s (A l) k c g rfl base vb w h uq uq f (λe=>d (by rw[e];rfl)) hv
def qku(w:Ao)(l:List Sb)(e:Ending)(w':Ao):Prop:=∃v',e=Ak v'/\SbRow w' (Z w.1) v' l/\Below (Z w.1) w w'
theorem vaf(M:A l<=1000)(h:SbRow w base (C (G (D g 0 O)) (A l) c) l):
  ∃v' w',(xb #[48,48] 48 #[C (G ⟨Z w.1,0,O⟩) 0 0,C (G (D g 0 O)) (A l) c]).run prog (w.alloc (Al #[] 130))=.ok v' w'/\Hid (qku w l (Ak v') w'):=by
 obtain⟨f,z,I,K,J⟩:=info_parts qce
 have N:g<Z w.1:=by
  obtain⟨_,_,_,cur,H,_⟩:=vM h;exact(ch.1 H).1
 have F:=World.ownsRow_made (base:=Z w.1) (e:=130) (size:=3) w #[] 0 ux (bt _) rfl;have B:=h.alloc (Al #[] 130);obtain⟨v',w',q,L,d,_,_⟩:=run_append_own_at (P:=prog) (w.alloc (Al #[] 130)) (Z w.1) 48 48 130 f _ 3 40 underlying48 z I K J rfl uq _ 0 [] F ⟨g,0,O⟩ (A l) c (qt l) (vJ l) (λj u y=>World.ownsRow.cells B (g:=g) rfl j u y) (jS l) (by unfold maxLen;omega) uq ur;refine⟨v',w',q,qd ⟨v',rfl, ?_, ?_⟩⟩
 grind
 refine⟨d.os,d.tape,d.output,by have:=d.size;simp at this;omega,λk r=>(d.block k ut (λe=>?_)).trans (ik w _ k r)⟩;simp[Value.ownBlock]at e;omega
theorem qqj(l:List Sb)(f:A l<=1000)(v:Ap)(base:Nat)(w:Ao)(h:SbRow w base v l):
  uo 71 #[v] w (qku w l):=by
 obtain⟨rfl,q⟩|⟨g,c,rfl⟩:=vI h
 .have d:Hid (qku w l (Ak (C O 0 0)) w):=qd ⟨_,rfl,by
   have e:l=[]:=List.length_eq_zero_iff.1 q;subst e
   exact dw _ _ _ _,uy⟩
  generalize qku w l=Q at *;have hq:=λw=>Lib.run_eql_slice_nil (P:=prog) w 48 _ O 0 0 0 0 underlying48
  simp only[Option.isNone_none]at hq;go_enter func71,ntmps71
  go_wp2
  exact q9 d
 obtain⟨v',w',r,d⟩:=vaf f h;generalize qku w l=Q at *;generalize (A l)=n at *;have hq:=λw=>Lib.run_eql_slice_nil (P:=prog) w 48 _ (G (D g 0 O)) n c 0 0 underlying48
 simp only[Option.isNone_some]at hq;go_enter func71,ntmps71
 go_wp2
 exact q9 d
end
section
open Go.RowKit Go.Sort Go.Shelf Go.Proofs.Tryz
def vvu(ts:List (List UInt8)):List Ap:=ts.map encStr
def qq1(w:Ao)(base:Nat)(v:Ap)(ts:List (List UInt8)):Prop:=ue w base 9 1 v (A ts) (vvu ts)
theorem qyz(a:Option Addr)(n cap:Nat)(w:Ao):uo 194 #[C a n cap] w λe w'=>e=Ak (.func (.func 219) #[] #[Ag (G ⟨Z w.1,0,O⟩)])/\w'=w.alloc (Al #[C a n cap] 31):=by
 go_enter func194,ntmps194
 go_wp2
 go_ret;exact⟨rfl,rfl⟩
theorem qqm(d b cap:Nat)(ts:List uk)(q:ts≠[])(K:A ts<=1000)(w:Ao)(B:b<Z w.1)(r:d<Z w.1)
  (z:Xc w d 0 (C (G (D b 0 O)) (A ts) cap)) (H:∀j,j<A ts->Xc w b j (Y (BS (ts[j]?.getD [])))) :
  uo 217 #[.func (.func 219) #[] #[Ag (G (D d 0 O))]] w λe w'=>∃g c,e=Ak (C (G (D g 0 O)) (A ts) c)/\qq1 w' (Z w.1) (C (G (D g 0 O)) (A ts) c) ts/\Xb w w':=by
 have y:Hid (uo 242 #[C O 0 0,.func (.func 219) #[] #[Ag (G (D d 0 O))]] w λe w'=>∃g c,e=Ak (C (G (D g 0 O)) (A ts) c)/\qq1 w' (Z w.1) (C (G (D g 0 O)) (A ts) c) ts/\Xb w w'):=qd (((callsIn_wide (n:=5)).1 (qky 5 uq d b cap ts K w B r z H)).mono (by
  rintro e w'⟨v,rfl,f,u⟩;obtain⟨_,F⟩|⟨g,c,rfl⟩:=vI f;exact absurd (dh F) q
  exact⟨g,c,rfl,f,u⟩))
 go_enter func217,ntmps217
 go_wp2_with(refine y.mono ?_;rintro e L⟨g,c,rfl,f,u⟩;have J:=qd f;have I:=qd u)
 go_ret;exact⟨g,c,rfl,q9 J,q9 I⟩
def vvb(ts:List (List UInt8)):List (List UInt8):=ts.mergeSort λx y=>decide (x<=y)
theorem yC(ts:List uk):A (vvb ts)=A ts:=List.length_mergeSort ts
theorem qyj(q b cap:Nat)(ts:List uk)(r:ts≠[])(A6:A ts<=1000)(w:Ao)(N:b<Z w.1)(u:q<Z w.1)
  (M:Xc w q 0 (C (G (D b 0 O)) (A ts) cap)) (S:∀j,j<A ts->Xc w b j (Y (BS (ts[j]?.getD [])))) :
  uo 193 #[.func (.func 219) #[] #[Ag (G (D q 0 O))]] w λe w'=>∃g c,e=Ak (C (G (D g 0 O)) (A ts) c)/\qq1 w' (Z w.1) (C (G (D g 0 O)) (A ts) c) (vvb ts)/\Xb w w':=by
 have J:=qd (qqm q b cap ts r A6 w N u M S)
 have F:Hid (∀g c d,qq1 d (Z w.1) (C (G (D g 0 O)) (A ts) c) ts->Xb w d->uo 218 #[C (G (D g 0 O)) (A ts) c] d λe w'=>e=Ak (Aj #[])/\Hid (qq1 w' (Z w.1) (C (G (D g 0 O)) (A ts) c) (vvb ts)/\Xb w w')):=qd (by
  intro g c d y f;obtain⟨H,R,Q,cur,z,X,B⟩:=vM y;rw[Nat.mul_one]at B;have P:Holds encStr d g 0 ts.toArray:=holds_of_block z B;refine be (Tryz.slices_Sort_string g 0 c ts d P (ch.1 z).1 uq) ?_;rintro w'⟨k,os,rfl⟩;refine⟨rfl,qd ⟨?_, ?_⟩⟩
  .have:=ownsRow_sorted (n:=k) (os:=os) (yC ts) H z R Q X
   show ue _ _ _ _ _ _ _;rw[yC];exact this
  exact f.grown (grownBy_sorted _) f.size (λj L=>by cases L;exact H))
 obtain⟨n,K⟩:=ie (A ts);rw[K]at J F |-;go_enter func193,ntmps193
 go_wp2_with(first|(go_at_call 217;refine J.mono ?_;rintro e d⟨g,c,rfl,y,f⟩;have U:=qd y;have T:=qd f)|(refine be (F g c d U T) λw2 I=>?_))
 go_ret;exact⟨g,c,rfl,I.1,I.2⟩
theorem qij(g c:Nat)(d:List uk)(base:Nat)(w:Ao)(h:qq1 w base (C (G (D g 0 O)) (A d) c) d)(S:A d<=1000):
  uo 192 #[C (G (D g 0 O)) (A d) c] w λe w'=>e=Ak (C (G (D g 0 O)) (A (Lib.compact d)) c)/\Hid ((∀j t,(Lib.compact d)[j]?=G t->Xc w' g j (Y (BS t)))/\base<=g/\g<Z w'.1/\w.grownBy w' (G g)):=by
 obtain⟨F,B,K,cur,u,M,z⟩:=vM h;rw[Nat.mul_one]at z;have J:Holds encStr w g 0 d.toArray:=holds_of_block u z;refine be (Tryz.slices_Compact_string g 0 c d w J uq B) ?_;rintro w'⟨q,rfl⟩;have R:A (Lib.compact d)<=A d:=qek d;obtain⟨f,L⟩:=ie (Lib.compact d++List.replicate (A d - A (Lib.compact d)) []);have N:A f=A d:=by grind
 have H:grow (putRow encStr (Sort.ahead w q) g 0 f.toArray) #[]=putRow encStr (Sort.ahead w q) g 0 f.toArray:=by simp[grow];rfl
 have y:=ownsRow_sorted (n:=q) (os:=#[]) N F u B K M;have r:=grownBy_sorted (w:=w) (g:=g) (n:=q) (os:=#[]) f.toArray;rw[H]at y r;rw[L];refine⟨rfl,qd ⟨λj t I=>?_,F, ?_,r⟩⟩;have P:=(aj.1 I).1;have Q:f[j]?=G t:=by grind
 have:=World.ownsRow.cells y (g:=g) rfl j (encStr t) (by grind);rwa [vW,ed]at this;have:=r.size;have:=(ch.1 u).1;omega
end
def vem(code:List UInt8)(ps:List Pr):List Nat×Int:=
 if zQ ps then(if(kr code).2.2 then(qz4 ps (kr code).1 (kr code).2.1,0) else([],9)) else([],7)
theorem BytesAt.h{w':Ao}{l:uk}(h:BytesAt w (Z w.1) v l)(d:Xb w w'):BytesAt w' (Z w'.1) v l:=by
 obtain⟨a,c,hv,r,f⟩:=h;refine⟨a,c,hv,r,λi x q=>?_⟩;obtain⟨b,o,u,e,y⟩:=f i x q;exact⟨b,o,u,au e d.size,(d.cell (p:=⟨b,o+i,O⟩) e).trans y⟩
def vnf(w:Ao)(r:List Nat×Int)(e:Ending)(w':Ao):Prop:=∃v,e=Ak (Aj #[v,I J r.2])/\IsAt w' (Z w.1) v r.1/\Below (Z w.1) w w'
theorem vt7(code:uk)(T:∀k,k<(qdh code).1->qtb (vU (qdi code).2 k).2 k)(F:Ap)(ps:List Pr)(ev:Ap)(w:Ao)(h:BytesAt w (Z w.1) F code)(K:EvIn w ev ps)(L:EvGood ps):
  uo 30 #[F,ev] w (vnf w (vem code ps)):=by
 have z:=qd (qbx K L);obtain⟨a,c,rfl,_⟩:∃a c,F=C a (A code) c/\True:=by obtain⟨a,c,B,_⟩:=h;exact⟨a,c,B,trivial⟩
 have HB:=qd h;have HE:=qd K;obtain⟨P,M,N,rfl⟩:=K.slice
 cases E9:zQ ps with
 | false=>
  have q:vem code ps=([],7):=by rw[vem,E9];rfl
  rw[q];rw[E9]at z;clear E9 q;go_enter func30,ntmps30
  go_wp2_with(refine be z λd f=>?_)
  go_ret2
  exact⟨_,rfl,IsAt.nil _ _,f⟩
 | true=>
  rw[E9]at z;have H8:=qu1 E9;have Q:=qd (qer E9);have H:=qd L.rng;have RD:Hid (∀d,Xb w d->uo 63 #[C a (A code) c] d (qia d (kr code))):=qd λd S=>vka code T _ d (HB.h S)
  cases hP:(kr code).2.2 with
  | false=>
   have q:vem code ps=([],9):=by rw[vem,E9,hP];rfl
   rw[q];unfold qia at RD;rw[hP]at RD;clear E9 q hP;go_enter func30,ntmps30
   go_wp2_with(first|(go_at_call 48;refine be z λd f=>?_;have f:=qd f)|(refine(RD _ f).mono ?_;rintro e w2⟨u,rfl,y,r⟩;have y:=qd y;have r:=qd r))
   go_ret2
   exact⟨_,rfl,IsAt.nil _ _,qg f r⟩
  | true=>
   have q:vem code ps=(qz4 ps (kr code).1 (kr code).2.1,0):=by rw[vem,E9,hP];rfl
   rw[q];have Y:=qd (qxq hP);unfold qia at RD;rw[hP]at RD;generalize (kr code).1=ts at *;generalize (kr code).2.1=rs at *;clear E9 q hP;obtain⟨R,q⟩:=ie (qz4 ps ts rs);have X:Hid (∀d u,EvArg d (C P M N) ps->ProgAt d u 0 ts rs->uo 64 #[Ag (G (D u 0 O)),C P M N] d (qzb d R)):=qd λd u B U=>q ▸ quq ps _ u 0 ts rs d U Y B H Q
   rw[q];clear q;go_enter func30,ntmps30
   go_wp2_with(first|(go_at_call 48;refine be z λd f=>?_;have f:=qd f)|(go_at_call 63;refine(RD _ f).mono ?_;rintro e w2⟨u,rfl,y,r⟩;have y:=qd y;have r:=qd r)|(refine(X _ _ ((HE.h (qg f r)).arg H8) y).mono ?_;rintro e w3⟨v,rfl,I,J⟩;have I:=qd I;have J:=qd J))
   go_ret2
   exact⟨_,rfl,IsAt.mono I (bu f.size r.size),qg (qg f r) J⟩
theorem vms(code:uk)(d:Ap)(ps:List Pr)(ev:Ap)(w:Ao)(h:BytesAt w (Z w.1) d code)(f:EvIn w ev ps)(e:EvGood ps):uo 30 #[d,ev] w (vnf w (vem code ps)):=by grind[vt7,qpg,qdh,Ps.upTo_le]
def vnr(l:List UInt8):Nat->Nat
 | 0=>0
 | k+1=>vnr l k+(l.getD k 0).toNat * 2 ^ (8 * k)
theorem vrq(l:uk)(k:Nat):vnr l k<2 ^ (8 * k):=by
 induction k with
 | zero=>exact Nat.zero_lt_one
 | succ k ih=>
  have f:(l.getD k 0).toNat<256:=UInt8.toNat_lt _;have d:2 ^ (8 * (k+1))=256 * 2 ^ (8 * k):=by grind
  have e:(l.getD k 0).toNat * 2 ^ (8 * k)<=255 * 2 ^ (8 * k):=mi _ uq;rw[vnr,d];omega
theorem vs8(d uc:Nat)(r:d<18446744073709551616)(q:uc<18446744073709551616):bits .or J (wrap64 (d:Int)) (wrap64 (uc:Int))=wrap64 ((d ||| uc:Nat):Int):=by
 have e:∀n:Nat,n<18446744073709551616->(BitVec.ofInt 64 (wrap64 (n:Int))).toNat=n:=λn f=>by
  rw[BitVec.toNat_ofInt];unfold wrap64;have:((2 ^ 64:Nat):Int)=18446744073709551616:=uu;rw[this];omega
 show IntKind.i64.wrap ((BitVec.ofInt 64 (wrap64 (d:Int)) ||| BitVec.ofInt 64 (wrap64 (uc:Int))).toNat:Int)=_
 grind[IntKind.wrap_i64,wrap64]
theorem vjn(l:uk)(k:Nat)(q:k<=8):vcq l k=wrap64 (vnr l k:Int):=by
 induction k with
 | zero=>simp[vcq,vnr,wrap64]
 | succ k ih=>
  have f:=vrq l k;have u:(l.getD k 0).toNat<256:=UInt8.toNat_lt _;have d:2 ^ (8 * k)<=2 ^ 56:=Nat.pow_le_pow_right uu uq;have r:(l.getD k 0).toNat * 2 ^ (8 * k)<=255 * 2 ^ 56:=oy uq d;have e:(((l.getD k 0).toNat:Int) * 2 ^ (8 * k))=(((l.getD k 0).toNat * 2 ^ (8 * k):Nat):Int):=by push_cast;rfl
  rw[vcq,vv5,ih uq,e,vs8 _ _ uq uq,vnr]
  congr 2
  rw[Nat.or_comm,<-Nat.shiftLeft_eq,<-Nat.shiftLeft_add_eq_or_of_lt f,Nat.add_comm]
theorem qx5(n:Int)(h:j<k):(xQ n k).getD j 0=vcb n j:=by
 induction k<;>grind[xQ,jq]
theorem vhw(n b:Int)(d:0<b):n % (b * 256)=n % b+n / b % 256 * b:=by
 have q:=Int.emod_add_mul_ediv n b;have f:=Int.emod_add_mul_ediv (n / b) 256;have A:=Int.emod_nonneg n (show b≠0 by omega);have z:=Int.emod_lt_of_pos n d;have b1:=Int.emod_nonneg (n / b) (show(256:Int)≠0 by decide);have b2:=Int.emod_lt_of_pos (n / b) (show(0:Int)<256 by decide);generalize n % b=s at *;generalize n / b % 256=r at *;generalize n / b / 256=p at *;have y:r * b<=255 * b:=Int.mul_le_mul_of_nonneg_right uq uq;have u:0<=r * b:=Int.mul_nonneg b1 uq
 have e:n=(s+r * b)+b * 256 * p:=by
  grind
 rw[e,Int.add_mul_emod_self_left,Int.emod_eq_of_lt uq uq]
theorem qrx(n:Int)(k:Nat)(d:k<=8):((vnr (xQ n 8) k:Nat):Int)=n % 2 ^ (8 * k):=by
 induction k<;>grind[vnr,qx5,qfd,vhw]
theorem vcr(n:Int)(h:Rng n):vcq (xQ n 8) 8=n:=by
 grind[qrx,vjn,wrap64,Rng]
def OpT(op:Nat):Prop:=op∈[0,1,2,3,4,5,6,7,8,10,11,16,17,18,19,22,23]
def qji(t:Tm):Tm:=
 if t.op=1 then⟨t.op,0,0,t.M,[],[]⟩
 else if t.op=22 then⟨t.op,t.left,0,0,t.str,t.esc⟩
 else if t.op=0\/t.op=2 then⟨t.op,0,0,0,t.str,[]⟩
 else if jH t.op then⟨t.op,t.left,t.right,0,[],[]⟩
 else if t.op=5\/t.op=23 then⟨t.op,t.left,0,0,[],[]⟩
 else .bare t.op
theorem qgg(l r:uk)(b:Bool):Ps.take ⟨l++r,b⟩ (A l)=(l,⟨r,b⟩):=by
 simp[Ps.take]
theorem qn9(x:UInt8)(r:uk)(b:Bool):Ps.next ⟨x::r,b⟩=(x,⟨r,b⟩):=by
 constructor<;>grind
theorem xW(h:(n:Int)<=m)(d:n<=255)(r:uk)(b:Bool):Ps.upTo ⟨UInt8.ofNat n::r,b⟩ m=(n,⟨r,b⟩):=by
 have e:(UInt8.ofNat n).toNat=n:=by rw[mx];omega
 grind[Ps.upTo,qn9]
theorem qgi{s:uk}(h:(A s:Int)<=m)(d:A s<=255)(r:uk)(b:Bool):Ps.K ⟨qdd s++r,b⟩ m=(s,⟨r,b⟩):=by
 grind[Ps.K,qdd,xW,qgg]
theorem qs0{n:Int}(h:Rng n)(r:uk)(b:Bool):Ps.number ⟨xQ n 8++r,b⟩=(n,⟨r,b⟩):=by
 grind[qgg,jq,Ps.number,vcr]
theorem vfn{d:Nat}(e:FitsT d t)(q:OpT t.op)(hp:d<=80)(r:uk)(b:Bool):Ps.term ⟨encT t++r,b⟩ d=(qji t,⟨r,b⟩):=by
 have y:(UInt8.ofNat t.op).toNat=t.op:=by have:=e.op;rw[mx];omega
 have f:∀(x:uk),Ps.term ⟨UInt8.ofNat t.op::x,b⟩ d=Ps.body ⟨x,b⟩ d t.op:=λx=>by unfold Ps.term;rw[qn9];simp only[y]
 have z:=e.str;have A:=e.esc;have u:=e.sides;unfold OpT at q;unfold encT qji
 by_cases h1:t.op=1
 .rw[bs h1,bs h1,di,f]
  unfold Ps.body;rw[ak uq,bs h1,qs0 e.M]
 rw[ak h1,ak h1]
 by_cases h2:t.op=22
 .obtain⟨h3,_⟩:=u uq
  rw[bs h2,bs h2,bw,bw,di,f];unfold Ps.body;rw[ak uq,ak h1,bs h2,di,ij,xW uq uq];simp only;rw[qgi uq uq];simp only;rw[qgi uq uq]
 rw[ak h2,ak h2]
 by_cases h3:t.op=0\/t.op=2
 .rw[bs h3,bs h3,di,f]
  unfold Ps.body;rw[ak uq,ak h1,ak h2,bs h3,qgi uq uq]
 rw[ak h3,ak h3]
 by_cases h4:jH t.op=ui
 .grind[jH,Ps.body,xW,OpT]
 rw[ak h4,ak h4]
 by_cases h6:t.op=5\/t.op=23
 .obtain⟨h7,_⟩:=u uq
  rw[bs h6,bs h6,di,f];unfold Ps.body;rw[ak uq,ak h1,ak h2,ak h3,ak h4,bs h6,di,ij,xW uq uq]
 rw[ak h6,ak h6,di,f];unfold Ps.body;rw[bs (by simp[jH]at h4;simp at q;omega)];rfl
theorem qt3(ts:List Tm)(e:∀i t,ts[i]?=G t->FitsT i t)(d:∀t∈ts,OpT t.op)(f:A ts<=80)(r:uk)(b:Bool):∀k,k<=A ts->vU ⟨ts.flatMap encT++r,b⟩ k=((ts.take k).map qji,⟨(ts.drop k).flatMap encT++r,b⟩):=by
 intro k
 induction k<;>grind[vU,List.drop_eq_getElem_cons,vfn]
theorem qsk(m:Int)(rs:List Nat)(d:∀r∈rs,(r:Int)<=m/\r<=255)(b:Bool):∀k,k<=A rs->jh m ⟨rs.map UInt8.ofNat,b⟩ k=(rs.take k,⟨(rs.drop k).map UInt8.ofNat,b⟩):=by
 intro k
 induction k<;>grind[jh,List.drop_eq_getElem_cons,xW]
theorem qmf(hd:uk)(ts:List Tm):∀k,k<=A ts->qhb hd ts k=hd++(ts.take k).flatMap encT:=by
 intro k
 induction k<;>grind[qhb,List.take_add_one]
theorem qmg(hd:uk)(rs:List Nat):∀k,k<=A rs->qr0 hd rs k=hd++(rs.take k).map UInt8.ofNat:=by
 intro k
 induction k<;>grind[qr0,List.take_add_one]
theorem qxp{ts:List Tm}(hp:Prg ts rs)(d:∀t∈ts,OpT t.op):kr (zL ts rs)=(ts.map qji,rs,ui):=by
 have y:=hp.terms;have e:=hp.roots
 have u:zL ts rs=UInt8.ofNat (A ts)::UInt8.ofNat (A rs)::(ts.flatMap encT++rs.map UInt8.ofNat):=by
  grind[zL,qmg,qmf]
 have r:qdh (zL ts rs)=(A ts,⟨UInt8.ofNat (A rs)::(ts.flatMap encT++rs.map UInt8.ofNat),uh⟩):=by
  grind[qdh,xW]
 have q:qdi (zL ts rs)=(A rs,⟨ts.flatMap encT++rs.map UInt8.ofNat,uh⟩):=by
  grind[qdi,xW]
 have h:qxr (zL ts rs)=(ts.map qji,⟨rs.map UInt8.ofNat,uh⟩):=by
  grind[qxr,qt3,Prg]
 have f:qnp (zL ts rs)=(rs,⟨[],uh⟩):=by
  grind[qnp,qsk,Prg]
 unfold kr<;>grind
theorem vjr(ps:List Pr)(vs:List V)(d:OpT t.op):ofT ps vs (qji t)=ofT ps vs t:=by
 obtain⟨op,l,r,n,s,e⟩:=t;unfold OpT at d;simp only[ep,ln,or_false]at d;obtain rfl|rfl|rfl|rfl|rfl|rfl|rfl|rfl|rfl|rfl|rfl|rfl|rfl|rfl|rfl|rfl|rfl:=d<;>simp[qji,ofT,jH,Tm.bare,jP]
theorem qyx(ps:List Pr)(ts:List Tm)(e:∀t∈ts,OpT t.op):∀k,k<=A ts->zJ ps (ts.map qji) k=zJ ps ts k:=by
 intro k
 induction k with
 | zero=>intro _;rfl
 | succ k ih=>
  intro f;have d:ts[k]?=G ts[k]:=ag uq;rw[zJ,zJ,ih uq,aq,cj,d,aq,d];simp only[ny,Option.getD_some];rw[vjr ps _ (e _ (fk _))]
theorem vc9(ps:List Pr)(ts:List Tm)(rs:List Nat)(d:∀t∈ts,OpT t.op):qz4 ps (ts.map qji) rs=qz4 ps ts rs:=by
 grind[qz4,qyx]
section
attribute [local go_sem ↓] pL
def qv8:List UInt8:=[115,112,97,114,101]
theorem qms:(prog.info? 9).map (λi=>(i.zero,i.size,i.bytes))=G (G (Y ⟨#[]⟩),1,16):=uw
def TsRow(W:Ao)(b:Nat)(ts:List (List UInt8))(i:Nat):Prop:=
 ∃f:Nat->Ap,W.rowIs b 9 (A ts+8) f/\(∀k t,ts[k]?=G t->f k=Y (BS t))/\∀k,k<i->f (A ts+k)=Y (BS qv8)
section
variable {W W':Ao} {b i:Nat} {ts:List uk}
theorem TsRow.of_block(h:TsRow W b ts i)(e:W'.1[b]?=W.1[b]?):TsRow W' b ts i:=by
 obtain⟨f,r,q,d⟩:=h;exact⟨f,r.of_block e,q,d⟩
theorem TsRow.lt(h:TsRow W b ts i):b<Z W.1:=by
 obtain⟨f,d,_⟩:=h;exact d.lt
theorem TsRow.h(h:TsRow W b ts i)(d:Xb W W'):TsRow W' b ts i:=h.of_block (d.block b h.lt)
theorem TsRow.cells(h:TsRow W b ts i)(d:k<A ts+8):∃v,Xc W b k v:=by
 obtain⟨f,e,_⟩:=h;exact⟨_,e.cell d⟩
theorem TsRow.fz(h:TsRow W b ts i)(k:Nat):W.frozen? (D b k O)=uh:=by
 obtain⟨f,d,_⟩:=h;exact d.frozen k
theorem TsRow.K(h:TsRow W b ts i){t:uk}(d:ts[k]?=G t):W.cell? (D b k O)=G (Y (BS t)):=by
 obtain⟨f,q,e,_⟩:=h;have r:=(aj.1 d).1;rw[q.cell uq,e k t d]
theorem TsRow.spare(h:TsRow W b ts i)(d:k<i)(r:i<=8):W.cell? ⟨b,A ts+k,O⟩=G (Y (BS qv8)):=by
 obtain⟨f,q,_,e⟩:=h;rw[q.cell uq,e k d]
theorem TsRow.step(h:TsRow W b ts i):TsRow (B W ⟨b,A ts+i,O⟩ (Y (BS qv8))) b ts (i+1):=by
 obtain⟨f,d,u,r⟩:=h;refine⟨_,d.set _ _,λk t e=>?_,λk q=>?_⟩<;>grind
theorem TsRow.tx(h:TsRow W b ts i)(e:∀t∈ts,A t<=140737488355328):TxIn W (G (D b 0 O)) ts:=λk s d=>⟨e s (bh d),b,0,rfl,h.lt,by rw[ed];exact h.K d⟩
end
theorem qw9{ty:TypeId}(z:TxIn W a ts)(Z:ue W b 9 1 (C (G (D b 0 O)) (A ts+8) (A ts+8)) (A ts+8) xs):
  ∃W',(cpR #[31,31] ty #[C (G (D b 0 O)) (A ts+8) (A ts+8),C a (A ts) c]).run prog W=.ok (goInt (A ts)) W'/\Hid (TsRow W' b ts 0)/\Hid (Below b W W'):=by
 obtain⟨i0,q,F5,Y,D8⟩:=info_parts qms;have J:(prog.info? 9).map (·.size)=G 1:=by rw[q];simp[Y]
 obtain⟨mI,Q|⟨g,cap,cur,e,J1,y,aA,_,U,eJ⟩⟩:=Z
 .cases Q.1
 injection e with d F T;injection d with d;injection d with d;subst d;have X:cur.size=A ts+8:=by rw[U,<-T];omega
 cases cB:ts with
 | nil=>
  subst cB;refine⟨W,qa9 W _ _ _ 9 _ _ _ _ _ 1 underlying31 J,qd ⟨λj=>cur.getD j undef,⟨cur,y,X,λi q=>?_⟩,λk p hp=>by simp at hp,λk f=>uq⟩,qd uy⟩;rw[Array.getElem?_eq_getElem uq];simp[Array.getD,show i<cur.size by omega]
 | cons t0 r0=>
  rw[<-cB];obtain⟨_,sb,off,R,_,_⟩:=z 0 t0 (by rw[cB];rfl);subst R;have H:Nat.min (A ts) (A ts+8)=A ts:=mg uq;have I:A (qx ts)=A ts:=by simp[qx]
  have K:=gB (P:=prog) W 31 31 ty 9 b 0 (A ts+8) (A ts+8) ⟨sb,off,O⟩ (A ts) c cur 9 (qx ts) 1 underlying31 J y (by rw[H,I];omega) (λj v hv=>by
    rw[qx,cj]at hv
    cases hu:ts[j]? with
    | none=>grind
    | some u=>
     rw[hu]at hv;injection hv with hv;obtain⟨_,N,M,r,_,S⟩:=z j u hu;injection r with r;injection r with d F
     rw[show(⟨sb,off,O⟩:Addr).add j=⟨sb,off+j,O⟩ by simp[Addr.add],d,F,S,<-hv]) (by grind) (λv hv=>by
    obtain⟨p,_,rfl⟩:=eh.1 hv
    rfl)
  rw[H]at K;refine⟨_,K,qd ?_,qd ⟨rfl,rfl,rfl,by simp[World.setRow],λk f=>setRow_other W b k _ uq⟩⟩;obtain⟨L,B⟩:=ie (cur.toList.take 0++qx ts++cur.toList.drop (0+A (qx ts)));rw[B];have AE:A L=A ts+8:=by grind
  refine⟨λj=>L.getD j undef,⟨L.toArray,setRow_heap W b cur _ _ _ y,by simpa using AE,λi q=>?_⟩,λk p hp=>?_,λk f=>uq⟩
  grind
  have f:=(aj.1 hp).1;show L.getD k undef=_;rw[aq,<-B,List.take_zero,ij,cg (by rwa[I]),qx,cj,hp];rfl
def qea(w:Ao)(ts:List (List UInt8))(e:Ending)(w':Ao):Prop:=e=Ak (C (G ⟨Z w.1,0,O⟩) (A ts+8) (A ts+8))/\TsRow w' (Z w.1) ts 8/\Below (Z w.1) w w'
theorem qph(U:TxIn w a ts)(D:16 * A ts<=140737488355328):uo 24 #[C a (A ts) c] w (qea w ts):=by
 obtain⟨B,F,R,T,S⟩:=info_parts qms;have K:=qd U;obtain⟨n,d⟩:=ie (A ts);have u:=qd d
 have CP:Hid (∀(W:Ao) (xs:List Ap),TxIn W a ts->ue W (Z w.1) 9 1 (C (G ⟨Z w.1,0,O⟩) (n+8) (n+8)) (n+8) xs->∃W',(cpR #[31,31] 3 #[C (G ⟨Z w.1,0,O⟩) (n+8) (n+8),C a n c]).run prog W=.ok (goInt n) W'/\Hid (TsRow W' (Z w.1) ts 0)/\Hid (Below (Z w.1) W W')):=qd λW xs H h2=>by
  have:=qw9 (ty:=3) (xs:=xs) (c:=c) H (by rwa[d]);rwa[d]at this
 rw[d]at D |-;go_enter func24,ntmps24
 go_wp2_with(at_make;refine wpList_make_full _ rfl _ _ 31 rfl (Z w.1) 9 B _ 1 underlying31 F R T J J _ _ (n+8) rfl rfl uq uq (by rw[S];omega) (by unfold maxLen;omega) ux ?_;intro f N L;have r:Xb w f:=(Go.RowKit.Below.grown uy L ux (λk q=>(by cases q)));obtain⟨w2,iL,z,P⟩:=q9 CP f _ (K.h r) N;have Q:=qd (r.trans P))
 go_loopw [4] (λi wr=>∃k:Nat,k<=8/\i=I J k/\Hid (TsRow wr (Z w.1) ts k)/\Hid (Xb w wr)) (λi _=>8 - (intOf i).toNat)
 exact⟨0,bt _,rfl,z,Q⟩;obtain⟨k,q,rfl,e,y⟩:=hrel
 by_cases A1:k<8
 .have A5:(k:Int)<8:=uq
  obtain⟨X,q0⟩:=(q9 e).cells (k:=n+k) uq;have Y:=(q9 e).fz
  go_wp2
  go_roundw
  case rel=>exact⟨k+1,uq,by go_num,qd (by have:=(q9 e).step;rwa[q9 u]at this),qd (y.setCell ux _)⟩
  simp[intOf];omega
 have M:k=8:=uq;subst M
 go_wp2
 go_ret;refine⟨?_,q9 e,q9 y⟩;rw[q9 u];rfl
theorem qv9(T:TsRow w lb ts 8)(U:TxIn w a ts)(H:16 * A ts<=140737488355328):
  lz 27 #[C (G (D lb 0 O)) (A ts+8) (A ts+8),C a (A ts) c] w (Ah ui):=by
 obtain⟨n,y⟩:=ie (A ts);have z:=qd y;rw[y]at H |-;have Q:=qd U;have P:=qd T;go_enter func27,ntmps27
 go_wp2
 go_loopw [5] (λi wr=>∃k:Nat,k<=n+8/\i=I J k/\Hid (Xb w wr)) (λi _=>n+8 - (intOf i).toNat)
 exact⟨0,bt _,rfl,qd uy⟩;obtain⟨k,K,rfl,f⟩:=hrel;have e:=q9 f;have r:=(q9 P).h e
 by_cases A1:k<n+8
 .have Z9:=it k
  have X:(k:Int)<(n:Int)+8:=uq
  by_cases aB:k<n
  .obtain⟨p,hp⟩:∃p,ts[k]?=G p:=⟨_,ag (md (q9 z))⟩
   obtain⟨_,b,off,rfl,N,R⟩:=q9 Q k p hp;have d:=r.K hp;rw[<-(qi e).1 _ _ N]at R;have hq:((BS p).toList==(BS p).toList)=ui:=mu _;have ZN:decide ((k:Int)<(n:Int))=ui:=by simpa using aB
   have OM:decide ((k:Int)≥(n:Int))=uh:=ut;have M:decide ((n:Int)<=(k:Int))=uh:=ut;have L:decide (n<=k)=uh:=ut;have S:decide (k<n)=ui:=by simpa using aB
   have B8:=je k n
   go_wp2
   go_quiet (fail)
   go_wp2
   go_roundw
   case rel=>exact⟨k+1,uq,by go_num,qd (eg f _)⟩
   simp[intOf];omega
  obtain⟨j,rfl⟩:∃j,k=n+j:=⟨k - n,uq⟩;have d:=r.spare (k:=j) uq ux;rw[q9 z]at d;obtain⟨B,u⟩:=ie (BS qv8);have Z:(B.toList==[115,112,97,114,101])=ui:=by rw[<-u,qP];decide
  rw[u]at d;obtain⟨q,hq⟩:=ie (n+j);rw[hq]at d K A1 Z9 X |-;have S:decide (q<n)=uh:=ut;have F2:(n:Int)<=(q:Int):=uq
  go_wp2
  go_quiet (fail)
  go_wp2
  go_roundw
  case rel=>exact⟨q+1,uq,by go_num,qd (eg f _)⟩
  simp[intOf];omega
 have Y:¬(k:Int)<(n:Int)+8:=uq;have F:=qd e
 go_wp2
 go_ret;exact⟨rfl,q9 F⟩
end
section
set_option linter.unusedSimpArgs false
set_option linter.unusedVariables false
attribute [local go_sem ↓] vp
theorem qdn{l:uk}{q:Nat}(S:WSt base W l q t w v)(s:uk)(hn:A l+A s<=900000)(hs:A s<=255):
  uo 150 #[v,Y (BS s)] w λe w'=>∃a n c,e=Ak (C a n c)/\OB w' base (C a n c) (l++qdd s)/\TmAt w' q t/\Below base W w'/\base<=Z w'.1:=by
 have B:(BS s).size=A s:=qI s;obtain⟨a,c,rfl⟩:=S.ob.form;obtain⟨m,y⟩:=ie (A l);obtain⟨g,cap,u,M8,M⟩:=S.app (UInt8.ofNat (A s)) (A s:Int) (by rw[mx];simp;omega) uq m y _ rfl;have d:=q9 M;obtain⟨X,K,N,R,Q⟩:=info_parts pd
 have F:ue u base 5 1 (C (G (D g 0 O)) (m+1) cap) (m+1) (vi (l++[UInt8.ofNat (A s)])):=by
  have:=d.ob;unfold OB at this;rwa[cd,dj,y]at this
 obtain⟨I,f,J,z,r,_⟩:=Lib.run_append_own_string (P:=prog) u base 65 9 65 5 X underlying65 underlying9 K N R Q _ (m+1) _ F (BS s) (by rw[B];unfold maxLen;omega) (by rw[B];omega) d.ge;have aD:(xb #[65,9] 65 #[C (G (D g 0 O)) (m+1) cap,Y (BS s)]).run prog u=.ok I f:=J
 have H:OB f base I (l++qdd s):=by
  rw[B,qge]at z;show ue _ _ _ _ _ _ _;have e:l++qdd s=(l++[UInt8.ofNat (A s)])++s:=by simp[qdd]
  rw[e,cd,cd,dj,y];unfold vi at z |-;rw[dq (l₁:=l++[UInt8.ofNat (A s)])];exact z
 obtain⟨a6,c6,rfl⟩:=H.form;have L:TmAt f q t:=d.tm.same (au d.tm.lt r.size) (r.block q d.tm.lt λe=>d.ne e.symm);have T:Below base W f:=d.bel.trans (Go.RowKit.Below.grown (Below.refl base u) r d.ge (λk hk=>(World.ownsRow.lt F k hk).1));have U:Hid (OB f base (C a6 (A (l++qdd s)) c6) (l++qdd s)/\TmAt f q t/\Below base W f/\base<=Z f.1):=qd ⟨H,L,T,bu d.ge r.size⟩;have hs0:=it (A s);have M3:(A s:Int)<256:=uq;rw[y]at M8 |-;generalize (A (l++qdd s))=n6 at *;clear H L T M d F J z r S K N R Q;go_enter func150,ntmps150
 go_wp2
 go_ret;exact⟨_,_,_,rfl,q9 U⟩
theorem vna(base:Nat)(v:Ap)(l:uk)(t:Tm)(W:Ao)(h:OB W base v l)(I:base<=Z W.1)(G:A l<=800000)(u:SmallT t)(F:t.op=22)(Q:Ending->Ao->Prop)(J:∀e w',yM base W (l++encT t) e w'->Q e w'):
  uo 102 #[tmV t,v] W Q:=by
 have K:encT t=[UInt8.ofNat 22,UInt8.ofNat t.left]++qdd t.esc++qdd t.str:=by simp[encT,F,jH]
 have R:=qd J;rw[K]at R;clear J;have z:=qd (WSt.start h I t 187);obtain⟨a,c,rfl⟩:=h.form;have H:=u.left;have FO:=it t.left;have lC:(t.left:Int)<256:=uq;obtain⟨n,y⟩:=ie (A l);rw[y]at z G |-;obtain⟨g1,Q7,w1,T7,P⟩:=(q9 z).app (UInt8.ofNat 22) 22 uu uq n y (Z W.1+1) ur;obtain⟨DY,a0,a1,a2,a3,a4,a5,af⟩:=(q9 P).tm;obtain⟨g2,aX,w2,aD,O⟩:=(q9 P).app (UInt8.ofNat t.left) (t.left:Int) (qh2 H) ut (n+1) (by simp[y]) _ rfl;obtain⟨X,b0,b1,b2,b3,b4,b5,bf⟩:=(q9 O).tm;have hs:=u.str;have he:=u.esc;have N:=qd (qdn O t.esc ut uq);have M:Hid (∀d r,OB d base r (l++[UInt8.ofNat 22]++[UInt8.ofNat t.left]++qdd t.esc)->base<=Z d.1->uo 150 #[r,Y (BS t.str)] d (yM base d (l++[UInt8.ofNat 22]++[UInt8.ofNat t.left]++qdd t.esc++qdd t.str))):=qd λd r h3 D5=>gF base r _ t.str d h3 D5 (by simp[qdd];omega) uq _ (λe w' h=>h)
 have hA:Hid (l++[UInt8.ofNat 22]++[UInt8.ofNat t.left]++qdd t.esc++qdd t.str=l++([UInt8.ofNat 22,UInt8.ofNat t.left]++qdd t.esc++qdd t.str)):=qd ur;unfold tmV;have L:(t.op:Int)=22:=uq;rw[L]at a0 T7 b0 |-;clear K F h H u y G I L z;go_enter func102,ntmps102
 go_wp2_with(first|(go_at_call 150;refine(M _ _ B.1 B.2.2).mono ?_;clear M;rintro e w4⟨v4,rfl,T,S⟩;have C:=qd T;have Z8:=qd S;clear T S)|(refine N.mono ?_;clear N;rintro e d⟨a3,n3,c3,rfl,D,⟨U,d0,d1,d2,d3,d4,d5,df⟩,q,f⟩;have B:=qd (And.intro D (And.intro q f));clear D q f))
 exact q9 R _ _ ⟨_,rfl,by have:=q9 C;rwa[q9 hA]at this,B.2.1.trans Z8⟩
theorem gE(t:Tm)(d:SmallT t)(h:t.op∈[0,1,2,3,4,5,6,7,8,10,11,16,17,18,19,22,23]):qeb t:=by
 by_cases T9:t.op=22
 grind[vna,qeb]
 refine qkp t d ?_;simp only[ep,ln,or_false]at h |-;omega
end
end Go.Proofs.YtmepkbgodcffoaaGreatDoor
