/- The document's answer -/
import Derived.Test.YtmepkbgodcffoaaGreatDoorM21
import Derived.Sort.Walk0
import Derived.Deep.CutBlock
set_option maxHeartbeats 32000000
set_option maxRecDepth 100000
namespace Go.Proofs.YtmepkbgodcffoaaGreatDoor
open Go.RowKit Go.Proofs.Tryz
open _root_.List renaming length->A
open Go.World renaming setCell->B,ownsRow->ue
open Bool renaming false->uh,true->ui
open Go.Addr renaming mk->D
open _root_.Array renaming size->Z,toList->T
open Go renaming Value->Ap,World->Ao
open Go.Ending renaming returned->Ak
open Go.IntKind renaming i64->J
open Go.Obj renaming cells->Al
open Go.Value renaming agg->Ai,bool->Ah,int->I,pointer->Ag,slice->C,string->Y
open Option renaming none->O,some->G
open Or renaming inl->Am,inr->An
variable{neg:Bool}{E Ae O1 O2 QB S:uj}{c x y:Co}{e:Ending}{Q:Ending->Ao->Prop}{a o:Int}{ts:List uk}{cs ds vs:List Co}{l ns:List RN}{ua t:uk}{xs:List Ap}{b base cap i k n ob pb q:Nat}{M N N':Nat->Prop}{p:Pay}{inv iv lv:Ap}{W w w' w1:Ao}
section
attribute [local go_sem ↓] vr
def PartsAt(N:Nat->Prop)(w:Ao)(pv:Ap)(cs:List Co):Prop:=
 ∃b cap,pv=C (G (D b 0 O)) (A cs) cap/\b<Z w.1/\∀(k:Nat) (c:Co),cs[k]?=G c->∃p1 t1 r1,SideAt w b (k * 6) c p1 t1 r1/\RcAt N w c p1 t1 r1
theorem PartsAt.h{pv:Ap}(h:PartsAt N w pv cs)(g:Xb w w'):PartsAt N w' pv cs:=by
 obtain⟨b,cap,e,j,A⟩:=h;refine⟨b,cap,e,au j g.size,λk c B=>?_⟩;obtain⟨v,m,u,D,C⟩:=A k c B;exact⟨v,m,u,D.keep (g.block b j),C.h g⟩
theorem TwRow.txt{v:Ap}(h:TwRow w base v ts)(m:ts≠[]):TxN (λb=>base<=b) w v ts:=by
 have u:=h;obtain⟨rfl,D⟩|⟨g,cap,cur,rfl,A,B,_⟩:=h.2
 grind
 refine⟨g,cap,rfl,A,(ch.1 B).1,λk t j=>?_⟩;have C:=(aj.1 j).1;rw[World.ownsRow.cellAt u k uq,qx,cj,j];rfl
theorem NmRow.nums{v:Ap}{l:List Nat}(h:NmRow w base v l)(m:l≠[]):NmN (λb=>base<=b) w v l:=by
 have u:=h;obtain⟨rfl,D⟩|⟨g,cap,cur,rfl,A,B,_⟩:=h.2
 grind
 refine⟨g,cap,rfl,A,(ch.1 B).1,λk t j=>?_⟩;have C:=(aj.1 j).1;rw[World.ownsRow.cellAt u k uq,pO,cj,j];rfl
theorem py{base e size n:Nat}{U:Ao}{v:Ap}(h:ue U base e size v n xs):∃a c,v=C a n c:=by
 obtain⟨rfl,j⟩|⟨g,cap,cur,rfl,_⟩:=h.2<;>grind
theorem vw7(b k:Nat):(⟨b,0,O⟩:Addr).add k=⟨b,k,O⟩:=by
 grind[Addr.add]
theorem qhz{base e size n q:Nat}{v:Ap}(h:ue W base e size v n xs)(hq:q<base)(a b c d f g:Ap):ue (B (B (B (B (B (B W (D q 0 O) a) (D q 1 O) b) (D q 2 O) c) (D q 3 O) d) (D q 4 O) f) (D q 5 O) g) base e size v n xs:=
 ownsRow_setCell_below (ownsRow_setCell_below (ownsRow_setCell_below (ownsRow_setCell_below (ownsRow_setCell_below (ownsRow_setCell_below h hq _) hq _) hq _) hq _) hq _) hq _
def vgq(w:Ao)(op:ByteArray)(text:List UInt8)(cl:Int)(pv:Ap)(ts:List (List UInt8))(rs:List Nat)(e:Ending)(w':Ao):Prop:=
 Below (Z w.1) w w'/\∃tv rv,e=Ak (Ai #[Y op,Y (BS text),I J cl,pv,tv,rv])/\TxN (λb=>Z w.1<=b) w' tv ts/\NmN (λb=>Z w.1<=b) w' rv rs
theorem qnw(op:uj)(text:uk)(cl:Int)(raw:Nat){pv:Ap}(hp:PartsAt N w pv cs)(K9:A cs<=2)(iO:A (cs.flatMap qG)<=900000000):
  uo 148 #[Y op,Y (BS text),I J cl,pv,I J (raw:Int)] w (vgq w op text cl pv (cs.flatMap qG++[text]) (cs.flatMap zq++[raw])):=by
 have aQ:A (cs.flatMap zq)=A (cs.flatMap qG):=by
  clear hp K9 iO
  induction cs with
  | nil=>rfl
  | cons c t ih=>grind[xH]
 have HP:=qd hp;obtain⟨pb,pcap,rfl,aI,iA⟩:=hp;have HPK:=qd iA;obtain⟨n,hn⟩:=ie (A cs);have HN:=qd hn;rw[hn]at K9 HP |-;have M0:Hid (MdAt w ((w.alloc zoC).alloc (Al #[Y op,Y (BS text),I J cl,C (G (D pb 0 O)) n pcap,C O 0 0,C O 0 0] 106)) op (BS text) cl (C (G (D pb 0 O)) n pcap) (C O 0 0) (C O 0 0) [] []):=qd ⟨ur,ur,ur,ur,ur,ur,λi=>ur,ur,uy.alloc ur _,dw _ _ _ _,dw _ _ _ _⟩;have nF:=qd iO;have VZ:=qd aQ;go_enter func148,ntmps148
 go_wp2
 go_loopw [12] (λi wr=>∃(k:Nat) (tv rv:Ap),k<=n/\i=I J k/\Hid (MdAt w wr op (BS text) cl (C (G (D pb 0 O)) n pcap) tv rv ((cs.take k).flatMap qG) ((cs.take k).flatMap zq))) (λi _=>n - (intOf i).toNat)
 exact⟨0,_,_,bt _,rfl,M0⟩;obtain⟨k,tv,rv,hk,rfl,u⟩:=hrel
 by_cases A1:k<n
 .obtain⟨c,hc⟩:∃c,cs[k]?=G c:=⟨_,ag (by grind)⟩
  obtain⟨p1,t1,r1,UB,BX⟩:=q9 HPK k c hc;have G9:=(q9 u).bel0;have hsr:=UB.keep (G9.block pb aI);obtain⟨tb,tc,rfl,_,rR,K⟩:=(BX.h G9).terms.1;have f4:Xc wr pb (k * 6+4) (C (G (D tb 0 O)) (A (qG c)) tc):=hsr 4 uq
  have GV:(cs.take (k+1)).flatMap qG=(cs.take k).flatMap qG++qG c/\(cs.take (k+1)).flatMap zq=(cs.take k).flatMap zq++zq c:=by
   grind[List.take_add_one]
  have N9:A ((cs.take (k+1)).flatMap qG)<=900000000:=by
   grind[List.take_append_drop]
  have lC:A ((cs.take k).flatMap qG)+A (qG c)<=900000000:=by grind
  have t9:0<A (qG c):=by grind[vfp]
  obtain⟨g5,J7,W5,mE,R,w5z,w5l,T⟩:=(q9 u).drew.appT (a:=D tb 0 O) (c:=tc) rfl t9 (λj t v=>by rw[vw7];exact K j t v) uq 31;obtain⟨X5,lE⟩:∃X,X=B W5 ⟨Z w.1+1,4,O⟩ (C (G (D g5 0 O)) (A ((cs.take k).flatMap qG)+A (qG c)) J7):=⟨_,rfl⟩;rw[<-lE]at T;have T5:=(q9 T).bel0;have MT:=UB.keep (T5.block pb aI);obtain⟨rb,rc,rfl,_,cC,UC⟩:=(BX.h T5).terms.2;have x5:Xc X5 pb (k * 6+5) (C (G (D rb 0 O)) (A (zq c)) rc):=MT 5 uq;have TF:=(q9 T).c5
  have MV:A ((cs.take k).flatMap zq)=A ((cs.take k).flatMap qG):=by
   have:∀l:List Co,A (l.flatMap zq)=A (l.flatMap qG):=by
    intro l
    induction l with
    | nil=>rfl
    | cons c t ih=>grind[xH]
   exact this _
  obtain⟨g6,m7,W6,fI,w65,w6z,w6l,LT⟩:=(q9 T).drew.appR' (a:=D rb 0 O) (c:=rc) rfl (by rwa[xH]) (λj t v=>by rw[vw7];exact UC j t v) (by grind[xH]) 50;rw[<-GV.1,<-GV.2]at LT;have m4:=(q9 u).c4;have mz:=(q9 u).fz;have tsl:∃a c,tv=C a (A ((cs.take k).flatMap qG)) c:=py u.tr;have rsl:∃a c,rv=C a (A ((cs.take k).flatMap zq)) c:=py u.rr;obtain⟨ta,tcc,rfl⟩:=tsl;obtain⟨ra,rcc,rfl⟩:=rsl;obtain⟨N1,HU⟩:=ie (A ((cs.take k).flatMap qG));obtain⟨N2,mF⟩:=ie (A ((cs.take k).flatMap zq));obtain⟨N3,VI⟩:=ie (A (qG c));obtain⟨N4,hN4⟩:=ie (A (zq c));rw[HU]at m4 mE lE R;rw[VI]at f4 mE lE;rw[mF]at TF fI w65 LT;rw[hN4]at x5 fI LT;have DI:=qd lE;clear hc UB BX G9 hsr K GV N9 lC t9 T5 MT UC MV HU mF VI hN4 lE u T
  go_wp2
  go_region
  all_goals go_wp2
  all_goals rw[<-q9 DI]
  all_goals clear R w5z w5l mE m4 mz f4 DI
  all_goals go_region
  all_goals go_wp2
  all_goals
   go_roundw
   case rel=>exact⟨k+1,_,_,uq,by go_num,LT⟩
   simp[intOf];omega
 have bC:k=n:=uq;have K:cs.take k=cs:=fo (md (q9 HN));rw[K]at u
 obtain⟨g7,cap7,W7,iP,P,w7z,w7l,U⟩:=(u.alloc (Al #[Y (BS text)] 9)).appT (a:=⟨Z wr.1,0,O⟩) (c:=1) (us:=[text]) (m:=1) rfl uq (λj t v=>by
  cases j with
  | zero=>
   obtain rfl:text=t:=by simpa using v
   rw[vw7];simp
  | succ j=>simp at v) (md (q9 nF)) 31
 obtain⟨X7,UZ⟩:∃X,X=B W7 ⟨Z w.1+1,4,O⟩ (C (G (D g7 0 O)) (A (cs.flatMap qG)+1) cap7):=⟨_,rfl⟩;rw[<-UZ]at U
 obtain⟨g8,cap8,W8,wW,L,w8z,w8l,g⟩:=(U.alloc (Al #[I J (raw:Int)] 3)).appR' (a:=⟨Z X7.1,0,O⟩) (c:=1) (us:=[raw]) (m:=1) rfl uq (λj t v=>by
  cases j with
  | zero=>
   obtain rfl:raw=t:=by simpa using v
   rw[vw7];simp
  | succ j=>simp at v) (by have:=q9 nF;have:=q9 VZ;omega) 50
 obtain⟨H,UY⟩:∃X,X=B W8 ⟨Z w.1+1,5,O⟩ (C (G (D g8 0 O)) (A (cs.flatMap zq)+1) cap8):=⟨_,rfl⟩;rw[<-UY]at g;have m4:=(q9 u).c4;have mz:=(q9 u).fz;have TF:=(q9 U).c5;have xz7:=(q9 U).fz;have tsl:∃a c,tv=C a (A (cs.flatMap qG)) c:=py u.tr;have rsl:∃a c,rv=C a (A (cs.flatMap zq)) c:=py u.rr;obtain⟨ta,tcc,rfl⟩:=tsl;obtain⟨ra,rcc,rfl⟩:=rsl;have y0:=(q9 g).c0;have y1:=(q9 g).c1;have y2:=(q9 g).c2;have y3:=(q9 g).c3;have y4:=(q9 g).c4;have y5:=(q9 g).c5;have yl:=(q9 g).lt;have F:=(q9 g).bel;have r0:Xc H (Z w.1) 0 (Y ⟨#[]⟩):=(F.cell (p:=⟨Z w.1,0,O⟩) (du _)).trans ur;have r1:Xc H (Z w.1) 1 (Y ⟨#[]⟩):=(F.cell (p:=⟨Z w.1,1,O⟩) (du _)).trans ur;have r2:Xc H (Z w.1) 2 (I J 0):=(F.cell (p:=⟨Z w.1,2,O⟩) (du _)).trans ur;have r3:Xc H (Z w.1) 3 (C O 0 0):=(F.cell (p:=⟨Z w.1,3,O⟩) (du _)).trans ur;have r4:Xc H (Z w.1) 4 (C O 0 0):=(F.cell (p:=⟨Z w.1,4,O⟩) (du _)).trans ur;have r5:Xc H (Z w.1) 5 (C O 0 0):=(F.cell (p:=⟨Z w.1,5,O⟩) (du _)).trans ur;have rz:Xf H (Z w.1):=λi=>(F.frozen (p:=⟨Z w.1,i,O⟩) (du _)).trans ur
 have rl:Z w.1<Z H.1:=uq;obtain⟨N1,HU⟩:=ie (A (cs.flatMap qG));obtain⟨N2,mF⟩:=ie (A (cs.flatMap zq));rw[HU]at m4 iP UZ P y4 g;rw[mF]at TF wW UY L y5 g;have HX7:=qd UZ;have HX8:=qd UY;clear bC K HU mF UZ UY F u U
 go_upto_region 8 with fail
 rw[<-q9 HX7];clear P w7z w7l iP m4 mz HX7
 go_upto_region 9 with fail
 rw[<-q9 HX8];clear L w8z w8l wW TF xz7 HX8
 go_wp2
 refine bo (by simp[go_sem,r0,r1,r2,r3,r4,r5]<;>rfl) rfl ⟨?_, ?_⟩;refine Below.setCell (Below.setCell (Below.setCell (Below.setCell (Below.setCell (Below.setCell g.bel0 ?_ _) ?_ _) ?_ _) ?_ _) ?_ _) ?_ _<;>exact ux
 refine⟨_,_,rfl, ?_, ?_⟩;exact(TwRow.txt (base:=Z w.1+2) (qhz g.tr uq _ _ _ _ _ _) ur).keep (λ_ _ _=>rfl) ux (λb hb _=>by grind);exact(NmRow.nums (base:=Z w.1+2) (qhz g.rr uq _ _ _ _ _ _) ur).keep (λ_ _ _=>rfl) ux (λb hb _=>by grind)
end
structure RF where
 op:ByteArray
 K:List UInt8
 u:Int
 pa:Option Addr
 pn:Nat
 pc:Nat
 ta:Option Addr
 tn:Nat
 tc:Nat
 ra:Option Addr
 rn:Nat
 rc:Nat
def RF.v(f:RF):Ap:=Ai #[Y f.op,Y (BS f.K),I J f.u,C f.pa f.pn f.pc,C f.ta f.tn f.tc,C f.ra f.rn f.rc]
def RF.pv(f:RF):Ap:=C f.pa f.pn f.pc
def RF.tv(f:RF):Ap:=C f.ta f.tn f.tc
def RF.rv(f:RF):Ap:=C f.ra f.rn f.rc
structure RfAt(N:Nat->Prop)(w:Ao)(c:Co)(f:RF):Prop where
 op:f.op=BS (qJ (opC c))
 K:f.K=qu c
 u:f.u=qqk (opC c)
 at':RcAt N w c f.pv f.tv f.rv
theorem RfAt.h{f:RF}(h:RfAt N w c f)(g:Xb w w'):RfAt N w' c f:=by grind[RcAt.h,RfAt]
theorem RfAt.keep{f:RF}(h:RfAt N w c f)(j:∀b,N b->b<Z w.1->w'.1[b]?=w.1[b]?)(g:Z w.1<=Z w'.1)(m:∀b,N b->b<Z w.1->N' b):RfAt N' w' c f:=by grind[RcAt.keep,RfAt]
theorem RcAt.rf{pv tv rv:Ap}(h:RcAt N w c pv tv rv):∃f:RF,f.v=rcV c pv tv rv/\RfAt N w c f:=by
 obtain⟨⟨a,n,k,rfl⟩,⟨b,m,l,rfl⟩,d,p,q,rfl⟩:=h.slices;exact⟨⟨_,qu c,_,a,n,k,b,m,l,d,p,q⟩,rfl,rfl,rfl,rfl,h⟩
def yf(N:Nat->Prop)(w:Ao)(c:Co)(e:Ending)(w':Ao):Prop:=Below (Z w.1) w w'/\∃f:RF,e=Ak f.v/\RfAt (λb=>N b\/Z w.1<=b) w' c f
theorem RcEnds.rf(h:RcEnds N w c e w'):yf N w c e w':=by
 grind[RcAt.rf,RcEnds,yf]
abbrev Kx1(W:Ao)(b:Nat)(g:RF):Prop:=Xc W b 0 (Y g.op)/\Xc W b 1 (Y (BS g.K))/\Xc W b 2 (I J g.u)/\Xc W b 3 (C g.pa g.pn g.pc)/\Xc W b 4 (C g.ta g.tn g.tc)/\Xc W b 5 (C g.ra g.rn g.rc)
abbrev Kt1(W:Ao)(b:Nat)(g:RF)(uc:Prop):Prop:=Xc W b 0 (Y g.op)/\Xc W b 1 (Y (BS g.K))/\Xc W b 2 (I J g.u)/\Xc W b 3 (C g.pa g.pn g.pc)/\Xc W b 4 (C g.ta g.tn g.tc)/\Xc W b 5 (C g.ra g.rn g.rc)/\uc
abbrev Kx2(W:Ao)(b:Nat)(g h:RF):Prop:=Xc W b 0 (Y g.op)/\Xc W b 1 (Y (BS g.K))/\Xc W b 2 (I J g.u)/\Xc W b 3 (C g.pa g.pn g.pc)/\Xc W b 4 (C g.ta g.tn g.tc)/\Xc W b 5 (C g.ra g.rn g.rc)/\Xc W b 6 (Y h.op)/\Xc W b 7 (Y (BS h.K))/\Xc W b 8 (I J h.u)/\Xc W b 9 (C h.pa h.pn h.pc)/\Xc W b 10 (C h.ta h.tn h.tc)/\Xc W b 11 (C h.ra h.rn h.rc)
abbrev Kx3(W:Ao)(b:Nat)(g h j:RF):Prop:=Xc W b 0 (Y g.op)/\Xc W b 1 (Y (BS g.K))/\Xc W b 2 (I J g.u)/\Xc W b 3 (C g.pa g.pn g.pc)/\Xc W b 4 (C g.ta g.tn g.tc)/\Xc W b 5 (C g.ra g.rn g.rc)/\Xc W b 6 (Y h.op)/\Xc W b 7 (Y (BS h.K))/\Xc W b 8 (I J h.u)/\Xc W b 9 (C h.pa h.pn h.pc)/\Xc W b 10 (C h.ta h.tn h.tc)/\Xc W b 11 (C h.ra h.rn h.rc)/\Xc W b 12 (Y j.op)/\Xc W b 13 (Y (BS j.K))/\Xc W b 14 (I J j.u)/\Xc W b 15 (C j.pa j.pn j.pc)/\Xc W b 16 (C j.ta j.tn j.tc)/\Xc W b 17 (C j.ra j.rn j.rc)
def qB(f:RF):List Ap:=[Y f.op,Y (BS f.K),I J f.u,C f.pa f.pn f.pc,C f.ta f.tn f.tc,C f.ra f.rn f.rc]
theorem vvc{f g:RF}(v:RfAt N w x f)(u:RfAt N w y g)(H:pb<Z w.1)(F:∀k,k<12->w.cell? (D pb k O)=(qB f++qB g)[k]?):PartsAt N w (C (G (D pb 0 O)) 2 2) [x,y]:=by
 refine⟨pb,2,rfl,H,λk c m=>?_⟩
 match k,m with
 | 0,m=>
  obtain rfl:x=c:=by simpa using m
  refine⟨f.pv,f.tv,f.rv,λj B=>?_,v.at'⟩;rw[show 0 * 6+j=j by omega,F j uq,cg (by exact B)];unfold qB qk1;rw[v.op,v.K,v.u];rfl
 | 1,m=>
  obtain rfl:y=c:=by simpa using m
  refine⟨g.pv,g.tv,g.rv,λj B=>?_,u.at'⟩;rw[show 1 * 6+j=6+j by omega,F (6+j) uq,cu (by show 6<=6+j;omega),show 6+j - A (qB f)=j by show 6+j - 6=j;omega];unfold qB qk1;rw[u.op,u.K,u.u];rfl
 | k+2,m=>simp at m
theorem vnx{f:RF}(h:RfAt N w x f)(v:pb<Z w.1)(u:∀k,k<6->w.cell? (D pb k O)=(qB f)[k]?):PartsAt N w (C (G (D pb 0 O)) 1 cap) [x]:=by
 refine⟨pb,cap,rfl,v,λk c g=>?_⟩
 match k,g with
 | 0,g=>
  obtain rfl:x=c:=by simpa using g
  refine⟨f.pv,f.tv,f.rv,λj m=>?_,h.at'⟩;rw[show 0 * 6+j=j by omega,u j m];unfold qB qk1;rw[h.op,h.K,h.u];rfl
 | k+1,g=>simp at g
def gT(c:Co):Prop:=A (qu c)<=400000000/\A (qG c)<=400000000
theorem ve0(o:Int)(ua:uk)(T:ua=qu (.bin (qr o) x y))(hr:o≠0/\o≠2/\o≠22)(hp:PartsAt N w (C (G (D pb 0 O)) 2 2) [x,y])(U:N pb)(R:gT x)(P:gT y):
  uo 148 #[Y (BS (qJ o)),Y (BS ua),I J (qqk o),C (G (D pb 0 O)) 2 2,I J 0] w (yf N w (.bin (qr o) x y)):=by
 subst T;have:=qnw (BS (qJ o)) (qu (.bin (qr o) x y)) (qqk o) 0 hp ur (by have:=R.2;have:=P.2;simp;omega);refine this.mono ?_;rintro e w'⟨j,tv,rv,rfl,h1,X⟩;refine RcEnds.rf ⟨j,_,tv,rv,rfl, ?_⟩;obtain⟨b,cap,e,A1,g⟩:=hp.h j;obtain⟨K,u,F,A,a1⟩:=g 0 x rfl;obtain⟨H,m,B,v,a2⟩:=g 1 y rfl;have dV:pb=b:=by grind
 refine⟨⟨b,cap,K,u,F,H,m,B,e,Am (dV ▸ U),A1,A,a1.mono (λ_ h _=>Am h),v,a2.mono (λ_ h _=>Am h)⟩, ?_, ?_⟩;have:=h1.keep (N':=λb=>N b\/Z w.1<=b) (λ_ _ _=>rfl) ux (λ_ h _=>An h);simpa [qG]using this;have L:qcm (qr o)=0:=by grind[qcm,qr]
 have:=X.keep (N':=λb=>N b\/Z w.1<=b) (λ_ _ _=>rfl) ux (λ_ h _=>An h);simpa [zq,L]using this
structure SixAt(q:Nat)(W W':Ao):Prop where
 block:∀k,k≠q->W'.1[k]?=W.1[k]?
 size:W'.1.size=W.1.size
 bel:∀(uc:Nat) (a:Ao),uc<=q->Below uc a W->Below uc a W'
theorem kL(W:Ao)(q:Nat)(a b c d f g:Ap):SixAt q W (B (B (B (B (B (B W (D q 0 O) a) (D q 1 O) b) (D q 2 O) c) (D q 3 O) d) (D q 4 O) f) (D q 5 O) g):=by
 refine⟨λk h=>?_,by simp only[mw],λB a hq j=>(((((j.setCell hq _).setCell hq _).setCell hq _).setCell hq _).setCell hq _).setCell hq _⟩;rw[bi _ ⟨q,5,O⟩ _ k h,bi _ ⟨q,4,O⟩ _ k h,bi _ ⟨q,3,O⟩ _ k h,bi _ ⟨q,2,O⟩ _ k h,bi _ ⟨q,1,O⟩ _ k h,bi _ ⟨q,0,O⟩ _ k h]
theorem SixAt.rf{W':Ao}{f:RF}(h:SixAt q W W')(g:RfAt N W c f)(hq:¬N q)(j:∀b,N b->b<Z W.1->N' b):RfAt N' W' c f:=by grind[RfAt.keep,SixAt]
theorem qy4{f g:RF}{cl:Int}{sw:Bool}(U:(Ae=⟨#[65,78,68]⟩/\cl=1/\sw=ui)\/(Ae=⟨#[79,82]⟩/\cl=1/\sw=ui)\/(Ae=⟨#[61]⟩/\cl=1/\sw=ui)\/(Ae=⟨#[60]⟩/\cl=1/\sw=uh)\/(Ae=⟨#[60,61]⟩/\cl=1/\sw=uh)\/(Ae=⟨#[43]⟩/\cl=2/\sw=ui)\/(Ae=⟨#[45]⟩/\cl=2/\sw=uh)\/(Ae=⟨#[42]⟩/\cl=2/\sw=ui)\/(Ae=⟨#[47]⟩/\cl=2/\sw=uh))(B:(sw&&Op.bytesLess g.K f.K)=uh)(z1:A f.K<=400000000)(z2:A g.K<=400000000)(X:ua=[40]++f.K++[32]++T Ae.data++[32]++g.K++[41])
  {P:RF->Ao->Prop} (HM:∀W,Xb w W->Z w.1+1+1+1<Z W.1->(∀k,k<12->W.cell? ⟨Z w.1+1+1+1,k,O⟩=(qB f++qB g)[k]?) ->
   uo 148 #[Y Ae,Y (BS ua),I J cl,C (G ⟨Z w.1+1+1+1,0,O⟩) 2 2,I J 0] W λe w'=>Xb W w'/\∃r:RF,e=Ak r.v/\P r w')
   (HQ:∀r w1 w',Xb w w1->P r w1->SixAt (Z w.1+1+1) w1 w'->Q (Ak r.v) w') :
  uo 146 #[Y Ae,f.v,g.v] w Q:=by
 have j:Ae.size<=3:=by obtain⟨rfl,rfl,rfl⟩|⟨rfl,rfl,rfl⟩|⟨rfl,rfl,rfl⟩|⟨rfl,rfl,rfl⟩|⟨rfl,rfl,rfl⟩|⟨rfl,rfl,rfl⟩|⟨rfl,rfl,rfl⟩|⟨rfl,rfl,rfl⟩|⟨rfl,rfl,rfl⟩:=U<;>decide
 obtain⟨R1,e1,R,a1⟩:=jA ⟨#[40]⟩ (BS f.K) 1 400000000 ux (by grind[qI]) uu;obtain⟨R2,e2,L,a2⟩:=jA R1 ⟨#[32]⟩ 400000001 1 R ux uu;obtain⟨R3,e3,K,a3⟩:=jA R2 Ae 400000002 3 L j uu;obtain⟨R4,e4,H,a4⟩:=jA R3 ⟨#[32]⟩ 400000005 1 K ux uu;obtain⟨R5,e5,F,a5⟩:=jA R4 (BS g.K) 400000006 400000000 H (by grind[qI]) uu;obtain⟨R6,e6,y6,a6⟩:=jA R5 ⟨#[41]⟩ 800000006 1 F ux uu
 have hR:BS ua=R6:=by
  rw[X,e6,e5,e4,e3,e2,e1,show(⟨#[40]⟩:uj)=BS [40] from rfl,show(⟨#[32]⟩:uj)=BS [32] from rfl,show(⟨#[41]⟩:uj)=BS [41] from rfl,show Ae=BS (T Ae.data) from(vpl Ae).symm,jB,jB,jB,jB,jB,jB,zW]
 have U9:Op.bytesLess (BS g.K).toList (BS f.K).toList=Op.bytesLess g.K f.K:=by grind[qP]
 have v:=qd HM;rw[hR]at v;have Q8:=qd HQ;simp only[RF.v]at v Q8 |-;have m:Hid (Xb w ((((w.alloc (Al #[Y f.op,Y (BS f.K),I J f.u,C f.pa f.pn f.pc,C f.ta f.tn f.tc,C f.ra f.rn f.rc] 106)).alloc (Al #[Y g.op,Y (BS g.K),I J g.u,C g.pa g.pn g.pc,C g.ta g.tn g.tc,C g.ra g.rn g.rc] 106)).alloc zoC).alloc (Al #[Y f.op,Y (BS f.K),I J f.u,C f.pa f.pn f.pc,C f.ta f.tn f.tc,C f.ra f.rn f.rc,Y g.op,Y (BS g.K),I J g.u,C g.pa g.pn g.pc,C g.ta g.tn g.tc,C g.ra g.rn g.rc] 106))/\Z w.1+1+1+1<Z ((((w.alloc (Al #[Y f.op,Y (BS f.K),I J f.u,C f.pa f.pn f.pc,C f.ta f.tn f.tc,C f.ra f.rn f.rc] 106)).alloc (Al #[Y g.op,Y (BS g.K),I J g.u,C g.pa g.pn g.pc,C g.ta g.tn g.tc,C g.ra g.rn g.rc] 106)).alloc zoC).alloc (Al #[Y f.op,Y (BS f.K),I J f.u,C f.pa f.pn f.pc,C f.ta f.tn f.tc,C f.ra f.rn f.rc,Y g.op,Y (BS g.K),I J g.u,C g.pa g.pn g.pc,C g.ta g.tn g.tc,C g.ra g.rn g.rc] 106)).1/\∀k,k<12->((((w.alloc (Al #[Y f.op,Y (BS f.K),I J f.u,C f.pa f.pn f.pc,C f.ta f.tn f.tc,C f.ra f.rn f.rc] 106)).alloc (Al #[Y g.op,Y (BS g.K),I J g.u,C g.pa g.pn g.pc,C g.ta g.tn g.tc,C g.ra g.rn g.rc] 106)).alloc zoC).alloc (Al #[Y f.op,Y (BS f.K),I J f.u,C f.pa f.pn f.pc,C f.ta f.tn f.tc,C f.ra f.rn f.rc,Y g.op,Y (BS g.K),I J g.u,C g.pa g.pn g.pc,C g.ta g.tn g.tc,C g.ra g.rn g.rc] 106)).cell? ⟨Z w.1+1+1+1,k,O⟩=(qB f++qB g)[k]?):=qd ⟨by grind[Below.refl,Below.alloc,World.alloc],ur,λk hk=>by rw[ce _ _ _ _ ur];match k,hk with|0,_=>rfl|1,_=>rfl|2,_=>rfl|3,_=>rfl|4,_=>rfl|5,_=>rfl|6,_=>rfl|7,_=>rfl|8,_=>rfl|9,_=>rfl|10,_=>rfl|11,_=>rfl⟩;clear HM HQ z1 z2 X hR e1 e2 e3 e4 e5 e6 R L K H F y6 j;obtain⟨rfl,rfl,rfl⟩|⟨rfl,rfl,rfl⟩|⟨rfl,rfl,rfl⟩|⟨rfl,rfl,rfl⟩|⟨rfl,rfl,rfl⟩|⟨rfl,rfl,rfl⟩|⟨rfl,rfl,rfl⟩|⟨rfl,rfl,rfl⟩|⟨rfl,rfl,rfl⟩:=U
 all_goals try(rw[mf]at B;rw[B]at U9)
 all_goals clear B
 all_goals go_enter func146,ntmps146
 all_goals go_wp2_with(refine(v _ m.1 m.2.1 m.2.2).mono ?_;rintro e w1⟨u,r,rfl,hp⟩;have D9:=qd (qg m.1 u);obtain⟨C9,G4⟩:=qi u;have r0:∀i,w1.cell? ⟨Z w.1+1+1,i,O⟩=(#[Y ⟨#[]⟩,Y ⟨#[]⟩,I J 0,C O 0 0,C O 0 0,C O 0 0]:Array Ap)[i]?:=(λi=>(C9 _ i uv).trans (by simp[go_sem]));have rz:Xf w1 (Z w.1+1+1):=(λi=>(G4 _ i uv).trans (by simp[go_sem]));have rl:Z w.1+1+1<Z w1.1:=(by have:=u.size;simp at this;omega);have cO:=qd hp;clear u C9 G4 hp)
 all_goals refine bo (by simp[go_sem,r0]<;>rfl) rfl ?_
 all_goals exact q9 Q8 r w1 _ D9 cO (kL _ _ _ _ _ _ _ _)
theorem qsh{x y:uk}(h:Op.bytesLess x y=ui):Op.bytesLess y x=uh:=by
 induction x generalizing y with
 | nil=>cases y<;>simp[Op.bytesLess]at h |-
 | cons a x ih=>
  cases y with
  | nil=>simp[Op.bytesLess]at h
  | cons b y=>
   simp only[Op.bytesLess,fh,dn,fw,ew,ir,Bool.and_eq_false_iff,decide_eq_false_iff_not]at h |-;obtain h|⟨rfl,h⟩:=h
   grind
   grind
theorem qy5{f g:RF}(H:Ae=⟨#[65,78,68]⟩\/Ae=⟨#[79,82]⟩\/Ae=⟨#[61]⟩\/Ae=⟨#[43]⟩\/Ae=⟨#[42]⟩)(R:Op.bytesLess g.K f.K=ui)
  {P:RF->Ao->Prop} (B:∀W,Xb w W->Z w.1+1+1+1<=Z W.1->uo 146 #[Y Ae,g.v,f.v] W λe w'=>Xb W w'/\∃r:RF,e=Ak r.v/\P r w')
   (A:∀r w1 w',Xb w w1->P r w1->SixAt (Z w.1+1+1) w1 w'->Q (Ak r.v) w') :
  uo 146 #[Y Ae,f.v,g.v] w Q:=by
 have X:Op.bytesLess (BS g.K).toList (BS f.K).toList=ui:=by grind[qP]
 have v:=qd B;have u:=qd A;simp only[RF.v]at v u |-;have m:Hid (Xb w (((w.alloc (Al #[Y f.op,Y (BS f.K),I J f.u,C f.pa f.pn f.pc,C f.ta f.tn f.tc,C f.ra f.rn f.rc] 106)).alloc (Al #[Y g.op,Y (BS g.K),I J g.u,C g.pa g.pn g.pc,C g.ta g.tn g.tc,C g.ra g.rn g.rc] 106)).alloc zoC)/\Z w.1+1+1+1<=Z (((w.alloc (Al #[Y f.op,Y (BS f.K),I J f.u,C f.pa f.pn f.pc,C f.ta f.tn f.tc,C f.ra f.rn f.rc] 106)).alloc (Al #[Y g.op,Y (BS g.K),I J g.u,C g.pa g.pn g.pc,C g.ta g.tn g.tc,C g.ra g.rn g.rc] 106)).alloc zoC).1):=qd ⟨(((uy.alloc ux _).alloc ur _).alloc uv _),ur⟩;clear B A R;obtain rfl|rfl|rfl|rfl|rfl:=H
 all_goals go_enter func146,ntmps146
 all_goals go_wp2_with(refine(v _ m.1 m.2).mono ?_;rintro e w1⟨j,r,rfl,hp⟩;have L:=qd (qg m.1 j);obtain⟨F,D⟩:=qi j;have G:∀i,w1.cell? ⟨Z w.1+1+1,i,O⟩=(#[Y ⟨#[]⟩,Y ⟨#[]⟩,I J 0,C O 0 0,C O 0 0,C O 0 0]:Array Ap)[i]?:=(λi=>(F _ i uv).trans (by simp[go_sem]));have T:Xf w1 (Z w.1+1+1):=(λi=>(D _ i uv).trans (by simp[go_sem]));have U:Z w.1+1+1<Z w1.1:=(by have:=j.size;simp at this;omega);have K:=qd hp;clear j F D hp)
 all_goals refine bo (by simp[go_sem,G]<;>rfl) rfl ?_
 all_goals exact q9 u r w1 _ L K (kL _ _ _ _ _ _ _ _)
def vL(o:Int):Prop:=o=6\/o=7\/o=8\/o=10\/o=11\/o=16\/o=17\/o=18\/o=19
theorem qp5{f g:RF}(A:vL o)(u:RfAt N w x f)(m:RfAt N w y g)(C:gT x)(j:gT y)(J:∀b,N b->b<Z w.1)(K:(yy o&&Op.bytesLess (qu y) (qu x))=uh):
  uo 146 #[Y (BS (qJ o)),f.v,g.v] w (yf N w (.bin (qr o) x y)):=by
 refine qy4 (cl:=qqk o) (sw:=yy o) (ua:=qu (.bin (qr o) x y)) (P:=λr w1=>RfAt (λb=>N b\/Z w.1+1+1+1<=b) w1 (.bin (qr o) x y) r) ?_ ?_ ?_ ?_ ?_ ?_ ?_;obtain rfl|rfl|rfl|rfl|rfl|rfl|rfl|rfl|rfl:=A;exact Am ⟨rfl,rfl,rfl⟩;exact An (Am ⟨rfl,rfl,rfl⟩);exact An (An (Am ⟨rfl,rfl,rfl⟩));exact An (An (An (Am ⟨rfl,rfl,rfl⟩)));exact An (An (An (An (Am ⟨rfl,rfl,rfl⟩))));exact An (An (An (An (An (Am ⟨rfl,rfl,rfl⟩)))));exact An (An (An (An (An (An (Am ⟨rfl,rfl,rfl⟩))))));exact An (An (An (An (An (An (An (Am ⟨rfl,rfl,rfl⟩)))))));exact An (An (An (An (An (An (An (An (⟨rfl,rfl,rfl⟩))))))));rwa[u.K,m.K];rw[u.K];exact C.1;rw[m.K];exact j.1
 rw[u.K,m.K];obtain rfl|rfl|rfl|rfl|rfl|rfl|rfl|rfl|rfl:=A<;>rfl
 intro W v D F;have hp:=vvc (N:=λb=>N b\/b=Z w.1+1+1+1) ((u.h v).keep (λ_ _ _=>rfl) ux (λ_ h _=>Am h)) ((m.h v).keep (λ_ _ _=>rfl) ux (λ_ h _=>Am h)) D F;refine(ve0 o _ rfl (by obtain rfl|rfl|rfl|rfl|rfl|rfl|rfl|rfl|rfl:=A<;>decide) hp (An rfl) C j).mono ?_;rintro e w'⟨H,r,I,G⟩;exact⟨H,r,I,G.keep (λ_ _ _=>rfl) ux (λb h _=>by grind)⟩;intro r w1 w' v hp B;refine⟨B.bel _ _ uq v,r,rfl,B.rf hp (by grind) (λb h _=>by grind)⟩
theorem pT{f g:RF}(B:vL o)(v:RfAt N w x f)(u:RfAt N w y g)(H:gT x)(m:gT y)(C:∀b,N b->b<Z w.1):
  uo 146 #[Y (BS (qJ o)),f.v,g.v] w (yf N w (qq o x y)):=by
 unfold qq
 by_cases h:(yy o&&Op.bytesLess (qu y) (qu x))=ui
 rw[bs h];rw[dn]at h;refine qy5 (P:=λr w1=>RfAt (λb=>N b\/Z w.1+1+1+1<=b) w1 (.bin (qr o) y x) r) ?_ ?_ ?_ ?_;obtain rfl|rfl|rfl|rfl|rfl|rfl|rfl|rfl|rfl:=B;exact Am rfl;exact An (Am rfl);exact An (An (Am rfl));exact absurd h.1 uu;exact absurd h.1 uu;exact An (An (An (Am rfl)));exact absurd h.1 uu;exact An (An (An (An (rfl))));exact absurd h.1 uu;rw[v.K,u.K];exact h.2;intro W j K
 have J:(yy o&&Op.bytesLess (qu x) (qu y))=uh:=by
  grind[qsh]
 refine(qp5 B (u.h j) (v.h j) m H (λb I=>au (C b I) j.size) J).mono ?_;rintro e w'⟨F,r,G,D⟩;exact⟨F,r,G,D.keep (λ_ _ _=>rfl) ux (λb h _=>by grind)⟩;intro r w1 w' j hp A;refine⟨A.bel _ _ uq j,r,rfl,A.rf hp (by grind) (λb h _=>by grind)⟩
 grind[qp5]
abbrev rfC(f:RF):Array Ap:=#[Y f.op,Y (BS f.K),I J f.u,C f.pa f.pn f.pc,C f.ta f.tn f.tc,C f.ra f.rn f.rc]
abbrev zrC:Array Ap:=#[Y ⟨#[]⟩,Y ⟨#[]⟩,I J 0,C O 0 0,C O 0 0,C O 0 0]
theorem qkr(g:(∀i,W.cell? (D q i O)=zrC[i]?)/\(Xf W q)/\q<Z W.1)(h:Xb W w1)(j:Xb w W):(∀i,w1.cell? (D q i O)=zrC[i]?)/\(Xf w1 q)/\q<Z w1.1/\Xb w w1:=
 ⟨λi=>((qi h).1 _ i g.2.2).trans (g.1 i),λi=>((qi h).2 _ i g.2.2).trans (g.2.1 i),au g.2.2 h.size,qg j h⟩
theorem vpj(w:Ao)(a:Array Ap):Xb w ((w.alloc (Al a 106)).alloc (Al zrC 106))/\(∀i,((w.alloc (Al a 106)).alloc (Al zrC 106)).cell? ⟨Z w.1+1,i,O⟩=zrC[i]?)/\(∀i,((w.alloc (Al a 106)).alloc (Al zrC 106)).frozen? ⟨Z w.1+1,i,O⟩=uh)/\Z w.1+1<Z ((w.alloc (Al a 106)).alloc (Al zrC 106)).1:=by grind[Below.refl,Below.alloc,World.alloc,World.cell?_alloc_at,World.frozen?_alloc_at]
theorem qno{f:RF}(hK:((f.op.toList==[78,79,84])=uh/\(f.op.toList==[65,78,68])=uh/\(f.op.toList==[79,82])=uh/\(f.op.toList==[60])=uh/\(f.op.toList==[60,61])=uh/\(f.op.toList==[84,82,85,69])=uh/\(f.op.toList==[70,65,76,83,69])=uh)\/∃pb cap cl,f.op=⟨#[78,79,84]⟩/\f.pa=G (D pb 0 O)/\f.pn=1/\f.pc=cap/\pb<Z w.1/\w.cell? (D pb 2 O)=G (I J cl)/\(cl==1)=uh)(U:A f.K<=400000000)(v:ua=[40,78,79,84,32]++f.K++[41])
  {P:RF->Ao->Prop} (R:∀W,Xb w W->Z w.1+1+1<Z W.1->(∀k,k<6->W.cell? ⟨Z w.1+1+1,k,O⟩=(qB f)[k]?) ->
   uo 148 #[Y ⟨#[78,79,84]⟩,Y (BS ua),I J 1,C (G ⟨Z w.1+1+1,0,O⟩) 1 1,I J 0] W λe w'=>Xb W w'/\∃r:RF,e=Ak r.v/\P r w')  (L:∀r w1 w',Xb w w1->P r w1->SixAt (Z w.1+1) w1 w'->Q (Ak r.v) w'):uo 100 #[f.v] w Q:=by
 obtain⟨R1,K,m,a1⟩:=jA ⟨#[40,78,79,84,32]⟩ (BS f.K) 5 400000000 ux (by grind[qI]) uu;obtain⟨R2,H,X,a2⟩:=jA R1 ⟨#[41]⟩ 400000005 1 m ux uu
 have B:BS ua=R2:=by
  rw[v,H,K,show(⟨#[40,78,79,84,32]⟩:uj)=BS [40,78,79,84,32] from rfl,show(⟨#[41]⟩:uj)=BS [41] from rfl,jB,jB]
 have g:Hid (uo _ _ (((w.alloc (Al (rfC f) 106)).alloc (Al zrC 106)).alloc (Al (rfC f) 106)) _):=qd (R _ (((uy.alloc ux _).alloc ur _).alloc uv _) ur (λk hk=>by rw[ce _ _ _ _ ur];simp[qB]));have j:=qd (vpj w (rfC f));rw[B]at g;have Q8:=qd L;simp only[RF.v]at g Q8 |-;clear R L U v B K H m X;obtain⟨k0,k1,k2,k3,k4,k5,k6⟩|⟨pb,cap,cl,h0,tE,lH,AI,aI,c2,u⟩:=hK
 all_goals
  first|(have np:¬pb=Z w.1:=uq;have nN:¬pb=Z w.1+1:=uq;simp only[rfC,h0,tE,lH,AI]at g j |-)|skip
  go_enter func100,ntmps100
  go_wp2_with(refine g.mono ?_;rintro e w1⟨T,r,rfl,hp⟩;obtain⟨r0,rz,rl,F⟩:=qkr j.2 (qg (uy.alloc ux _) T) j.1;have D9:=qd F;have cO:=qd hp;clear T F hp)
  refine bo (by simp[go_sem,r0]<;>rfl) rfl ?_
  grind[kL,Hid]
theorem vdr{f g:RF}(C:f.op=⟨#[78,79,84]⟩)(v:f.pa=G (D pb 0 O))(A:f.pn=1)(F:f.pc=cap)(J:pb<Z w.1)(B:∀k,k<6->w.cell? (D pb k O)=(qB g)[k]?)(j:g.u=1)
   (u:∀w',Xb w w'->Q (Ak g.v) w'):uo 100 #[f.v] w Q:=by
 simp only[qB,j]at B;have H:¬pb=Z w.1:=uq;have I:¬pb=Z w.1+1:=uq;have m:=qd u;simp only[RF.v]at m |-;rw[C,v,A,F];rw[j]at m;clear u j;go_enter func100,ntmps100
 go_wp2
 refine um ?_
 grind[Below.refl,Below.alloc,World.alloc,Hid]
theorem vdp{f g h:RF}(ho:(O1=⟨#[65,78,68]⟩/\O2=⟨#[79,82]⟩)\/(O1=⟨#[79,82]⟩/\O2=⟨#[65,78,68]⟩))(X:f.op=O1)(R:f.pa=G (D pb 0 O))(T:f.pn=2)(AI:f.pc=cap)(aI:pb<Z w.1)(U:∀k,k<12->w.cell? (D pb k O)=(qB g++qB h)[k]?)
  {P1 P2 P3:RF->Ao->Prop} (H1:∀W,Xb w W->Z w.1+1+1<=Z W.1->uo 100 #[g.v] W λe w'=>Xb W w'/\∃r:RF,e=Ak r.v/\P1 r w')
  (H2:∀W,Xb w W->Z w.1+1+1<=Z W.1->uo 100 #[h.v] W λe w'=>Xb W w'/\∃r:RF,e=Ak r.v/\P2 r w')
  (H3:∀W w1 w2 m A,Xb w W->P1 m w1->Xb w1 w2->P2 A w2->Xb w2 W->Z w.1+1+1<=Z w1.1->uo 146 #[Y O2,m.v,A.v] W λe w'=>Xb W w'/\∃r:RF,e=Ak r.v/\P3 r w')
   (HQ:∀r w1 w',Xb w w1->P3 r w1->SixAt (Z w.1+1) w1 w'->Q (Ak r.v) w'):uo 100 #[f.v] w Q:=by
 simp only[qB,di,ij]at U;have np:¬pb=Z w.1:=uq;have nN:¬pb=Z w.1+1:=uq;have D1:=qd H1;have D2:=qd H2;have D3:=qd H3;have Q8:=qd HQ;simp only[RF.v]at D1 D2 D3 Q8 |-;rw[X,R,T,AI];clear HQ H1 H2 H3 X R T AI;have K:=qd (vpj w #[Y O1,Y (BS f.K),I J f.u,C (G (D pb 0 O)) 2 cap,C f.ta f.tn f.tc,C f.ra f.rn f.rc]);obtain⟨rfl,rfl⟩|⟨rfl,rfl⟩:=ho
 all_goals
  go_enter func100,ntmps100
  go_wp2_with(first|(go_at_call 146;refine(D3 _ w1 w2 m A Z8 B TA L (uy.alloc ux _) B9).mono ?_;rintro e w5⟨T5,r,rfl,u⟩;obtain⟨r0,rz,rl,j⟩:=qkr Z2 (qg (uy.alloc ux _) T5) G3;have L9:=qd j;have cO:=qd u;clear T5 j u)|(go_at_call 100;have _q:=B;refine(D2 _ F ut).mono ?_;rintro e w2⟨H,A,rfl,M7⟩;have TA:=qd (qg ((Below.refl (Z w1.1) w1).alloc ux _) H);obtain⟨t0,t1,t2,j⟩:=qkr Z1 TA D9;have Z2:=qd (And.intro t0 (And.intro t1 t2));have G3:=qd j;have Z8:=qd (j.alloc j.size (Al (rfC A) 106));have L:=qd M7;have D8:Z w1.1+1<=Z w2.1:=(by have:=H.size;simp at this;omega);have v:∀i,w2.cell? ⟨Z w1.1,i,O⟩=(rfC m)[i]?:=(λi=>((qi H).1 _ i ur).trans ur);have nr1:¬Z w1.1=Z w2.1:=uq;have nr2:Z w1.1<Z w2.1:=uq;have nr3:¬Z w.1+1=Z w2.1:=uq;have nr4:Z w.1+1<Z w2.1:=uq;clear H M7 j)|(refine(D1 _ K.1 ur).mono ?_;rintro e w1⟨P,m,rfl,U8⟩;have B:=qd U8;obtain⟨s0,s1,s2,j⟩:=qkr K.2 P K.1;have Z1:=qd (And.intro s0 (And.intro s1 s2));have D9:=qd j;have F:=qd (j.alloc j.size (Al (rfC m) 106));have B9:Z w.1+1+1<=Z w1.1:=(by grind);have f3:Xc w1 (Z w.1) 3 (C (G (D pb 0 O)) 2 cap):=((qi P).1 _ 3 ut).trans (by simp[go_sem]);have d:∀k,k<12->w1.cell? (D pb k O)=_:=(λk hk=>(j.cell (p:=D pb k O) aI).trans (U k hk));have np3:pb<Z w1.1:=uq;have nq1:¬Z w.1=Z w1.1:=uq;have nq2:Z w.1<Z w1.1:=uq;have nq3:¬Z w.1+1=Z w1.1:=uq;have nq4:Z w.1+1<Z w1.1:=uq;have np4:¬pb=Z w1.1:=uq;clear P U8 j))
  refine bo (by simp[go_sem,r0]<;>rfl) rfl ?_
  grind[kL,Hid]
theorem vdq{f g h:RF}(ho:(O1=⟨#[60]⟩/\O2=⟨#[60,61]⟩)\/(O1=⟨#[60,61]⟩/\O2=⟨#[60]⟩))(K:f.op=O1)(B:f.pa=G (D pb 0 O))(H:f.pn=2)(AI:f.pc=cap)(u:pb<Z w.1)(j:∀k,k<12->w.cell? (D pb k O)=(qB g++qB h)[k]?)
  {P:RF->Ao->Prop} (T:∀W,Xb w W->Z w.1+1+1<=Z W.1->uo 146 #[Y O2,h.v,g.v] W λe w'=>Xb W w'/\∃r:RF,e=Ak r.v/\P r w')
   (R:∀r w1 w',Xb w w1->P r w1->SixAt (Z w.1+1) w1 w'->Q (Ak r.v) w'):uo 100 #[f.v] w Q:=by
 have c0:Xc w pb 0 (Y g.op):=j 0 uq;have c1:Xc w pb 1 (Y (BS g.K)):=j 1 uq;have c2:Xc w pb 2 (I J g.u):=j 2 uq;have c3:Xc w pb 3 (C g.pa g.pn g.pc):=j 3 uq;have c4:Xc w pb 4 (C g.ta g.tn g.tc):=j 4 uq;have c5:Xc w pb 5 (C g.ra g.rn g.rc):=j 5 uq;have c6:Xc w pb 6 (Y h.op):=j 6 uq;have c7:Xc w pb 7 (Y (BS h.K)):=j 7 uq;have c8:Xc w pb 8 (I J h.u):=j 8 uq;have c9:Xc w pb 9 (C h.pa h.pn h.pc):=j 9 uq;have IJ:Xc w pb 10 (C h.ta h.tn h.tc):=j 10 uq;have IG:Xc w pb 11 (C h.ra h.rn h.rc):=j 11 uq;have np:¬pb=Z w.1:=uq;have nN:¬pb=Z w.1+1:=uq;have tY:¬Z w.1+1=pb:=uq;have X:=qd T;have L:=qd R;simp only[RF.v]at X L |-;rw[K,B,H,AI];clear R T j K B H AI;have F:Hid (Xb w ((w.alloc (Al #[Y O1,Y (BS f.K),I J f.u,C (G (D pb 0 O)) 2 cap,C f.ta f.tn f.tc,C f.ra f.rn f.rc] 106)).alloc zoC)):=qd ((uy.alloc ux _).alloc ur _);obtain⟨rfl,rfl⟩|⟨rfl,rfl⟩:=ho
 all_goals
  go_enter func100,ntmps100
  go_wp2
  go_region_held3 (λW=>Xc W (Z w.1) 3 (C (G (D pb 0 O)) 2 cap)/\Kx2 W pb g h) (first|with_reducible assumption|(simp only[Kx2];go_keep)) ((go_at_call 146;refine(X _ F.drew (by show _<=Z ((w.alloc _).alloc _).1;simp)).mono ?_;rintro e w1⟨A,r,rfl,hp⟩;have m:=qd (qg F.drew A);obtain⟨v,U⟩:=qi A;have r0:Xc w1 (Z w.1+1) 0 (Y ⟨#[]⟩):=(v _ 0 (by show _<Z ((w.alloc _).alloc _).1;simp)).trans (by show((w.alloc _).alloc _).cell? _=_;simp[go_sem]);have r1:Xc w1 (Z w.1+1) 1 (Y ⟨#[]⟩):=(v _ 1 (by show _<Z ((w.alloc _).alloc _).1;simp)).trans (by show((w.alloc _).alloc _).cell? _=_;simp[go_sem]);have r2:Xc w1 (Z w.1+1) 2 (I J 0):=(v _ 2 (by show _<Z ((w.alloc _).alloc _).1;simp)).trans (by show((w.alloc _).alloc _).cell? _=_;simp[go_sem]);have r3:Xc w1 (Z w.1+1) 3 (C O 0 0):=(v _ 3 (by show _<Z ((w.alloc _).alloc _).1;simp)).trans (by show((w.alloc _).alloc _).cell? _=_;simp[go_sem]);have r4:Xc w1 (Z w.1+1) 4 (C O 0 0):=(v _ 4 (by show _<Z ((w.alloc _).alloc _).1;simp)).trans (by show((w.alloc _).alloc _).cell? _=_;simp[go_sem]);have r5:Xc w1 (Z w.1+1) 5 (C O 0 0):=(v _ 5 (by show _<Z ((w.alloc _).alloc _).1;simp)).trans (by show((w.alloc _).alloc _).cell? _=_;simp[go_sem]);have rz:Xf w1 (Z w.1+1):=(λi=>(U _ i (by show _<Z ((w.alloc _).alloc _).1;simp)).trans (by show((w.alloc _).alloc _).frozen? _=_;simp[go_sem]));have rl:Z w.1+1<Z w1.1:=(by have:=A.size;change (Z ((w.alloc _).alloc _).1)<=_ at this;simp at this;omega);have hS:(Xc w1 (Z w.1) 3 (C (G (D pb 0 O)) 2 cap)/\Kx2 w1 pb g h):=⟨(v _ 3 (by show _<Z ((w.alloc _).alloc _).1;simp;omega)).trans (by show((w.alloc _).alloc _).cell? _=_;simp[go_sem]),(m.cell (p:=D pb 0 O) u).trans c0,(m.cell (p:=D pb 1 O) u).trans c1,(m.cell (p:=D pb 2 O) u).trans c2,(m.cell (p:=D pb 3 O) u).trans c3,(m.cell (p:=D pb 4 O) u).trans c4,(m.cell (p:=D pb 5 O) u).trans c5,(m.cell (p:=D pb 6 O) u).trans c6,(m.cell (p:=D pb 7 O) u).trans c7,(m.cell (p:=D pb 8 O) u).trans c8,(m.cell (p:=D pb 9 O) u).trans c9,(m.cell (p:=D pb 10 O) u).trans IJ,(m.cell (p:=D pb 11 O) u).trans IG⟩;have cO:=qd hp;clear A v U hp))
  go_wp2
  refine bo (by simp[go_sem,r0,r1,r2,r3,r4,r5]<;>rfl) rfl ?_;exact q9 L r w1 _ m cO (kL _ _ _ _ _ _ _ _)
theorem qnn{f:RF}(U:(O1=⟨#[84,82,85,69]⟩/\O2=⟨#[70,65,76,83,69]⟩)\/(O1=⟨#[70,65,76,83,69]⟩/\O2=⟨#[84,82,85,69]⟩))(u:f.op=O1)
  {P:RF->Ao->Prop} (B:∀W,Xb w W->Z w.1+1+1<=Z W.1->uo 143 #[Y O2,Y O2,I J 1,I J 0] W λe w'=>Xb W w'/\∃r:RF,e=Ak r.v/\P r w')
   (A:∀r w1 w',Xb w w1->P r w1->SixAt (Z w.1+1) w1 w'->Q (Ak r.v) w'):uo 100 #[f.v] w Q:=by
 have F:=qd B;have v:=qd A;simp only[RF.v]at F v |-;rw[u];clear A B u;have m:Hid (Xb w ((w.alloc (Al #[Y O1,Y (BS f.K),I J f.u,C f.pa f.pn f.pc,C f.ta f.tn f.tc,C f.ra f.rn f.rc] 106)).alloc zoC)):=qd ((uy.alloc ux _).alloc ur _);obtain⟨rfl,rfl⟩|⟨rfl,rfl⟩:=U
 all_goals
  go_enter func100,ntmps100
  go_wp2_with(refine(F _ m ur).mono ?_;rintro e w1⟨j,r,rfl,hp⟩;have D9:=qd (qg m j);obtain⟨g,D⟩:=qi j;have T:Xc w1 (Z w.1+1) 0 (Y ⟨#[]⟩):=(g _ 0 ur).trans (by simp[go_sem]);have R:Xc w1 (Z w.1+1) 1 (Y ⟨#[]⟩):=(g _ 1 ur).trans (by simp[go_sem]);have L:Xc w1 (Z w.1+1) 2 (I J 0):=(g _ 2 ur).trans (by simp[go_sem]);have K:Xc w1 (Z w.1+1) 3 (C O 0 0):=(g _ 3 ur).trans (by simp[go_sem]);have H:Xc w1 (Z w.1+1) 4 (C O 0 0):=(g _ 4 ur).trans (by simp[go_sem]);have G:Xc w1 (Z w.1+1) 5 (C O 0 0):=(g _ 5 ur).trans (by simp[go_sem]);have rz:Xf w1 (Z w.1+1):=(λi=>(D _ i ur).trans (by simp[go_sem]));have rl:Z w.1+1<Z w1.1:=(by have:=j.size;simp at this;omega);have X:=qd hp;clear j g D hp)
  refine bo (by simp[go_sem,T,R,L,K,H,G]<;>rfl) rfl ?_;exact q9 v r w1 _ D9 X (kL _ _ _ _ _ _ _ _)
def Tb(c:Co):Prop:=opC c=0\/qqk (opC c)=1
def WT:Co->Prop
 | .leaf p=>0<=p.op/\p.op<=4
 | .un p x=>(p.op=5\/p.op=22\/p.op=23)/\(p.op=5->Tb x)/\WT x
 | .bin p x y=>vL p.op/\(p.op=6\/p.op=7->Tb x/\Tb y)/\WT x/\WT y
theorem WT.wf:∀{c:Co},WT c->WfC c
 | .leaf p,h=>by
  obtain⟨op,a,b,d⟩:=p;have j:0<=op:=h.1;have g:op<=4:=h.2;show jp op=ui;rcases(show op=0\/op=1\/op=2\/op=3\/op=4 by omega) with rfl|rfl|rfl|rfl|rfl<;>rfl
 | .un p x,h=>by
  obtain⟨op,a,b,d⟩:=p;refine⟨?_,WT.wf h.2.2⟩;show unB op=ui;obtain e|e|e:=h.1<;>(simp only at e;subst e;rfl)
 | .bin p x y,h=>by
  obtain⟨op,a,b,d⟩:=p;refine⟨?_,WT.wf h.2.2.1,WT.wf h.2.2.2⟩;show qvv op=ui;obtain e|e|e|e|e|e|e|e|e:=h.1<;>(simp only at e;subst e;rfl)
theorem pU(o:Int)(x y:Co):A (qG (qq o x y))=A (qG x)+A (qG y)+1:=by
 grind[qq,qG]
theorem vfq:∀c,A (qG (vj c))<=A (qG c)+uC c:=by
 intro c
 induction c<;>grind[vj,qG,uC,qve,pU]
def SzC(c:Co):Prop:=A (qu c)+7 * uC c<=400000000/\A (qG c)+uC c<=400000000
theorem SzC.big(h:SzC c):gT c:=by constructor<;>grind[SzC]
theorem SzC.not(h:SzC c)(g:WT c):gT (vj c):=⟨by have:=h.1;have:=xh c g.wf;omega,by grind[vfq,SzC]⟩
theorem yn{r:RF}(j:∀b,N b->b<Z w.1)(h:Xb w w1)(hp:RfAt (λb=>N b\/Z w.1+1+1<=b) w1 c r)(g:SixAt (Z w.1+1) w1 w'):yf N w c (Ak r.v) w':=by grind[SixAt.rf,SixAt,yf]
theorem qaj(u:Z w.1+1+1<=Z W.1)(h:yf N W c e w'):Xb W w'/\∃r:RF,e=Ak r.v/\RfAt (λb=>N b\/Z w.1+1+1<=b) w' c r:=by
 obtain⟨j,r,m,g⟩:=h;exact⟨j,r,m,g.keep (λ_ _ _=>rfl) ux (λb h _=>by grind)⟩
theorem qsw{o:Nat}{u g j:Ap}(h:SideAt w b o c u g j)(v:RcAt N w c u g j):∃f:RF,RfAt N w c f/\∀k,k<6->w.cell? ⟨b,o+k,O⟩=(qB f)[k]?:=by
 obtain⟨⟨a,n,k,rfl⟩,⟨A,m,l,rfl⟩,d,p,q,rfl⟩:=v.slices;exact⟨⟨_,qu c,_,a,n,k,A,m,l,d,p,q⟩,⟨rfl,rfl,rfl,v⟩,h⟩
theorem RfAt.one{p:CP}{f:RF}(h:RfAt N w (.un p x) f):∃pb g,f.pa=G (D pb 0 O)/\f.pn=1/\pb<Z w.1/\RfAt N w x g/\∀k,k<6->w.cell? (D pb k O)=(qB g)[k]?:=by
 obtain⟨⟨b,cap,A,u,v,e,_,I,m,j⟩,_⟩:=h.at';obtain⟨g,B,C⟩:=qsw m j;injection e with H F _
 grind
theorem RfAt.two{p:CP}{f:RF}(h:RfAt N w (.bin p x y) f):∃pb g k,f.pa=G (D pb 0 O)/\f.pn=2/\pb<Z w.1/\RfAt N w x g/\RfAt N w y k/\∀i,i<12->w.cell? (D pb i O)=(qB g++qB k)[i]?:=by
 obtain⟨⟨b,cap,U,L,R,T,K,P,e,_,J,u,m,H,j⟩,_⟩:=h.at';obtain⟨g,A,B⟩:=qsw u m;obtain⟨k,v,I⟩:=qsw H j;injection e with F C _;refine⟨b,g,k,F,C,J,A,v,λi X=>?_⟩
 by_cases h6:i<6
 rw[cg (by exact h6)];have:=B i h6;rwa [ed]at this;rw[cu (by show 6<=i;omega)];have:=I (i - 6) uq;rwa [show 6+(i - 6)=i by omega]at this
theorem qnv(p:CP)(hp:PartsAt N w (C (G (D pb 0 O)) 1 cap) [x])(F:N pb)(A:gT x):
  uo 148 #[Y (BS (qJ p.op)),Y (BS (qu (.un p x))),I J (qqk p.op),C (G (D pb 0 O)) 1 cap,I J (qcm p:Nat)] w (yf N w (.un p x)):=by
 have:=qnw (BS (qJ p.op)) (qu (.un p x)) (qqk p.op) (qcm p) hp ur (by have:=A.2;simp;omega);refine this.mono ?_;rintro e w'⟨g,tv,rv,rfl,K,H⟩;refine RcEnds.rf ⟨g,_,tv,rv,rfl, ?_⟩;obtain⟨b,cap',e,R,B⟩:=hp.h g;obtain⟨v,j,u,m,P⟩:=B 0 x rfl;have L:pb=b:=by grind
 refine⟨⟨b,cap',v,j,u,e,Am (L ▸ F),R,m,P.mono (λ_ h _=>Am h)⟩, ?_, ?_⟩;have:=K.keep (N':=λb=>N b\/Z w.1<=b) (λ_ _ _=>rfl) ux (λ_ h _=>An h);simpa [qG]using this;have:=H.keep (N':=λb=>N b\/Z w.1<=b) (λ_ _ _=>rfl) ux (λ_ h _=>An h);simpa [zq]using this
def qpz(c:Co):Prop:=∀(N:Nat->Prop) (w:Ao) (f:RF),RfAt N w c f->(∀b,N b->b<Z w.1)->Calls prog 100 #[f.v] w (yf N w (vj c))
theorem vnk{f:RF}(j:RfAt N w c f)(u:gT c):∀W,Xb w W->Z w.1+1+1<Z W.1->(∀k,k<6->W.cell? ⟨Z w.1+1+1,k,O⟩=(qB f)[k]?) ->
   uo 148 #[Y ⟨#[78,79,84]⟩,Y (BS (qu (.un (qr 5) c))),I J 1,C (G ⟨Z w.1+1+1,0,O⟩) 1 1,I J 0] W λe w'=>Xb W w'/\∃r:RF,e=Ak r.v/\RfAt (λb=>N b\/Z w.1+1+1<=b) w' (.un (qr 5) c) r:=by
 intro W D g m;have hp:=vnx (N:=λb=>N b\/b=Z w.1+1+1) (cap:=1) ((j.h D).keep (λ_ _ _=>rfl) ux (λ_ h _=>Am h)) g m;refine(qnv (qr 5) hp (An rfl) u).mono ?_;rintro e w'⟨A,r,B,v⟩;exact⟨A,r,B,v.keep (λ_ _ _=>rfl) ux (λb h _=>by grind)⟩
theorem qtx{f:RF}(g:RfAt N w c f):qu (.un (qr 5) c)=[40,78,79,84,32]++f.K++[41]:=by
 rw[g.K];rfl
theorem xG(o:Int)(m:gT c)(A:vj c=.un (qr 5) c)(v:opC c=o)(j:∀n∈[[78,79,84],[65,78,68],[79,82],[60],[60,61],[84,82,85,69],[70,65,76,83,69]],(qJ o==n)=uh):qpz c:=by
 intro N w f g B;rw[<-v]at j;have key:∀n∈[[78,79,84],[65,78,68],[79,82],[60],[60,61],[84,82,85,69],[70,65,76,83,69]],(f.op.toList==n)=uh:=λn u=>by rw[g.op,qP];exact j n u
 refine qno (Am ⟨key _ ur,key _ ur,key _ ur,key _ ur,key _ ur,key _ ur,key _ ur⟩) (by rw[g.K];exact m.1) (qtx g) (vnk g m) ?_
 grind[yn]
theorem qai:∀c,WT c->Tb c->SzC c->qpz c:=by
 intro c
 induction c with
 | leaf p=>
  intro B ht j;obtain⟨op,u,st,es⟩:=p;have h1:0<=op:=B.1;have h2:op<=4:=B.2;rcases(show op=0\/op=1\/op=2\/op=3\/op=4 by omega) with rfl|rfl|rfl|rfl|rfl;exact xG 0 j.big rfl rfl uu;exact xG 1 j.big rfl rfl uu;exact xG 2 j.big rfl rfl uu;intro N w f m D;refine qnn (P:=λr w1=>RfAt (λb=>N b\/Z w.1+1+1<=b) w1 (.leaf (qr 4)) r) (Am ⟨rfl,rfl⟩) m.op ?_ (λr w1 w'=>yn D);intro W v G;exact(pp N (qr 4) W).mono λe w' h=>qaj G h.rf
  intro N w f m D;refine qnn (P:=λr w1=>RfAt (λb=>N b\/Z w.1+1+1<=b) w1 (.leaf (qr 3)) r) (An ⟨rfl,rfl⟩) m.op ?_ (λr w1 w'=>yn D);intro W v G;exact(pp N (qr 3) W).mono λe w' h=>qaj G h.rf
 | un p x ih=>
  intro B ht j;obtain⟨op,u,st,es⟩:=p;obtain e|e|e:=B.1;simp only at e;subst e
  by_cases aP:opC x=0
  intro N w f m D;obtain⟨pb,g,K,J,L,H,I⟩:=m.one;have O:vj (.un ⟨5,u,st,es⟩ x)=.un (qr 5) (.un ⟨5,u,st,es⟩ x):=by simp[vj,aP]
  rw[O];refine qno (An ⟨_,_,g.u,m.op,K,J,rfl,L,I 2 uq,by rw[H.u,aP];decide⟩) (by rw[m.K];exact j.big.1) (qtx m) (vnk m j.big) (λr w1 w'=>yn D);intro N w f m D;obtain⟨pb,g,K,J,L,H,I⟩:=m.one;have O:vj (.un ⟨5,u,st,es⟩ x)=x:=by simp[vj,aP]
  rw[O];have M5:g.u=1:=by rw[H.u];exact((B.2.1 rfl).resolve_left aP)
  refine vdr m.op K J rfl L I M5 ?_;intro w' v;exact⟨v,g,rfl,(H.h v).keep (λ_ _ _=>rfl) ux (λ_ h _=>Am h)⟩;simp only at e;subst e;exact xG 22 j.big rfl rfl uu;simp only at e;subst e;exact xG 23 j.big rfl rfl uu
 | bin p x y ihx ihy=>
  intro B ht j;obtain⟨op,u,st,es⟩:=p
  have logic:∀C,(op=6/\C=7\/op=7/\C=6)->vj (.bin ⟨op,u,st,es⟩ x y)=qq C (vj x) (vj y)->qpz (.bin ⟨op,u,st,es⟩ x y):=by
   intro C R O N w f m D;rw[O];obtain⟨pb,g,k,K,J,L,H,U,I⟩:=m.two;obtain⟨tx,ty⟩:=B.2.1 (by grind);have hu:uC (.bin ⟨op,u,st,es⟩ x y)=uC x+uC y:=by obtain⟨h,_⟩|⟨h,_⟩:=R<;>subst h<;>rfl
   have A6:A (qu (.bin ⟨op,u,st,es⟩ x y))=A (qu x)+A (qu y)+4+A (jJ op):=jV (p:=⟨op,u,st,es⟩) B.wf.1 x y;have U0:A (qG (.bin ⟨op,u,st,es⟩ x y))=A (qG x)+A (qG y)+1:=by simp[qG];omega
   have zx:SzC x:=⟨by grind[SzC],by grind[SzC]⟩;have zy:SzC y:=⟨by grind[SzC],by grind[SzC]⟩;refine vdp (O2:=BS (qJ C)) (P1:=λr w1=>RfAt (λb=>N b\/Z w.1+1+1<=b) w1 (vj x) r) (P2:=λr w1=>RfAt (λb=>N b\/Z w.1+1+1<=b) w1 (vj y) r) (P3:=λr w1=>RfAt (λb=>N b\/Z w.1+1+1<=b) w1 (qq C (vj x) (vj y)) r) ?_ m.op K J rfl L I ?_ ?_ ?_ (λr w1 w'=>yn D);obtain⟨h,F⟩|⟨h,F⟩:=R<;>subst h F
   exact Am ⟨rfl,rfl⟩;exact An ⟨rfl,rfl⟩;intro W v G;exact(ihx B.2.2.1 tx zx N W g (H.h v) (λb h=>au (D b h) v.size)).mono λe w' h=>qaj G h
   intro W v G;exact(ihy B.2.2.2 ty zy N W k (U.h v) (λb h=>au (D b h) v.size)).mono λe w' h=>qaj G h
   intro W w1 w2 g1 g2 v h1 OS h2 Y B9;have q1:RfAt (λb=>(N b\/Z w.1+1+1<=b)/\b<Z W.1) W (vj x) g1:=(h1.h (qg OS Y)).keep (λ_ _ _=>rfl) ux (λb h T=>⟨h,T⟩);have q2:RfAt (λb=>(N b\/Z w.1+1+1<=b)/\b<Z W.1) W (vj y) g2:=(h2.h Y).keep (λ_ _ _=>rfl) ux (λb h T=>⟨h,T⟩);refine(pT (by obtain⟨_,F⟩|⟨_,F⟩:=R<;>subst F<;>simp[vL]) q1 q2 (zx.not B.2.2.1) (zy.not B.2.2.2) (λb h=>h.2)).mono ?_;rintro e w'⟨h3,r,e3,h4⟩;have EG:Z w1.1<=Z W.1:=bu OS.size Y.size;exact⟨h3,r,e3,h4.keep (λ_ _ _=>rfl) ux (λb h _=>by obtain h|h:=h;exact h.1;omega)⟩
  have less:∀C,(op=10/\C=11\/op=11/\C=10)->vj (.bin ⟨op,u,st,es⟩ x y)=qq C y x->qpz (.bin ⟨op,u,st,es⟩ x y):=by
   intro C R O N w f m D;rw[O];obtain⟨pb,g,k,K,J,L,H,U,I⟩:=m.two;have A6:A (qu (.bin ⟨op,u,st,es⟩ x y))=A (qu x)+A (qu y)+4+A (jJ op):=jV (p:=⟨op,u,st,es⟩) B.wf.1 x y;have U0:A (qG (.bin ⟨op,u,st,es⟩ x y))=A (qG x)+A (qG y)+1:=by simp[qG];omega
   have bx:gT x:=⟨md j.1,md j.2⟩;have X:gT y:=⟨md j.1,md j.2⟩
   refine vdq (O2:=BS (qJ C)) (P:=λr w1=>RfAt (λb=>N b\/Z w.1+1+1<=b) w1 (qq C y x) r) ?_ m.op K J rfl L I ?_ (λr w1 w'=>yn D);obtain⟨h,F⟩|⟨h,F⟩:=R<;>subst h F
   exact Am ⟨rfl,rfl⟩;exact An ⟨rfl,rfl⟩;intro W v G;exact(pT (by obtain⟨_,F⟩|⟨_,F⟩:=R<;>subst F<;>simp[vL]) (U.h v) (H.h v) X bx (λb h=>au (D b h) v.size)).mono λe w' h=>qaj G h
  obtain e|e|e|e|e|e|e|e|e:=B.1<;>(simp only at e;subst e)
  exact logic 7 (Am ⟨rfl,rfl⟩) rfl;exact logic 6 (An ⟨rfl,rfl⟩) rfl;exact xG 8 j.big rfl rfl uu;exact less 11 (Am ⟨rfl,rfl⟩) rfl;exact less 10 (An ⟨rfl,rfl⟩) rfl;exact xG 16 j.big rfl rfl uu;exact xG 17 j.big rfl rfl uu;exact xG 18 j.big rfl rfl uu;exact xG 19 j.big rfl rfl uu
section
variable {x y z:uk}
theorem qzy:Op.bytesLess x y=decide (x<y):=bytesLess_eq x y
theorem vj5(h:x<y)(k:y<z):x<z:=List.lt_trans h k
theorem vbz:¬x<x:=List.lt_irrefl x
end
theorem vt0(ts:List uk):(ts.mergeSort λx y=>decide (x<=y)).Pairwise (·<=·):=by
 grind[List.pairwise_mergeSort]
theorem vn3{g:List uk}:∀m,m<=A g->∀j,j<m->g.toArray[j]!∈Lib.compactUpTo g.toArray m:=by
 intro m
 induction m with
 | zero=>intro _ j v;omega
 | succ m ih=>
  intro D j v;rw[Lib.compactUpTo_succ]
  by_cases KH:j=m
  subst KH
  by_cases hk:Lib.keeps g.toArray j=ui
  grind
  have C:0<j:=by
   apply Decidable.byContradiction;intro C;exact hk (Lib.keeps_lt_one _ j uq)
  have B:g.toArray[j]! = g.toArray[j - 1]! := by
   apply Decidable.byContradiction;intro u;exact hk (Lib.keeps_pos u)
  rw[B];exact List.mem_append_left _ (ih uq (j - 1) uq)
  grind
theorem qbl{x:uk}:x∈vw ts↔x∈ts:=by
 unfold vw;have m:x∈(ts.mergeSort λx y=>decide (x<=y))↔x∈ts:=List.mem_mergeSort;rw[<-m];generalize (ts.mergeSort λx y=>decide (x<=y))=zs;constructor;intro h;obtain⟨i,v,rfl⟩:=eh.1 h;have:=lj.1 (ro.1 v).1;simp only[List.getElem!_toArray];rw[List.getElem!_eq_getElem?_getD,ag this];exact fk _;intro h;obtain⟨j,g⟩:=db h;have u:=(aj.1 g).1;have:=vn3 (A zs) ux j u;simp only[List.getElem!_toArray]at this;rwa[List.getElem!_eq_getElem?_getD,g]at this
theorem qe0(ts:List uk):(vw ts).Pairwise (·<·):=by
 unfold vw Lib.compact Lib.compactUpTo;have hp:=vt0 ts;generalize (ts.mergeSort λx y=>decide (x<=y))=zs at *;rw[ol];have m:((List.range (A zs)).filter (Lib.keeps zs.toArray)).Pairwise (·<·):=List.Pairwise.sublist List.filter_sublist List.pairwise_lt_range;refine m.imp_of_mem ?_;intro a b C B I;obtain⟨J,F⟩:=ro.1 C;obtain⟨D,g⟩:=ro.1 B;have lb:=lj.1 D;have H:∀i,i<A zs->zs.toArray[i]! = zs[i]! := λi _=>by grind
 have G:∀i j (hi:i<A zs) (hj:j<A zs),i<=j->zs[i]!<=zs[j]! := by
  grind[List.pairwise_iff_getElem]
 have u:zs.toArray[b]!≠zs.toArray[b - 1]! := by
  intro v;rw[Lib.keeps_neg uq v]at g;cases g
 grind
section
attribute [local go_sem ↓] vr
def qa6(S:List (List UInt8))(k:Nat)(t:List UInt8):Bool:=k==0||Op.bytesLess (S.getD (k - 1) []) t
def jg(ts S:List (List UInt8))(k:Nat):Nat->Int
 | 0=>-1
 | m+1=>if qa6 S k (ts.getD m [])&&(decide (jg ts S k m<0)||Op.bytesLess (ts.getD m []) (ts.getD (jg ts S k m).toNat [])) then m else jg ts S k m
theorem qif(ts S:List uk)(k:Nat):∀m,-1<=jg ts S k m/\jg ts S k m<m:=by
 intro m
 induction m<;>grind[jg]
theorem qzu(ts S:List uk)(k:Nat):∀m,m<=A ts->(jg ts S k m<0->∀i,i<m->qa6 S k (ts.getD i [])=uh)/\(0<=jg ts S k m->qa6 S k (ts.getD (jg ts S k m).toNat [])=ui/\∀i,i<m->qa6 S k (ts.getD i [])=ui->¬ts.getD i []<ts.getD (jg ts S k m).toNat []):=by
 intro m
 induction m with
 | zero=>grind[jg]
 | succ m ih=>
  intro g;obtain⟨j,u⟩:=ih uq;unfold jg
  by_cases hc:(qa6 S k (ts.getD m [])&&(decide (jg ts S k m<0)||Op.bytesLess (ts.getD m []) (ts.getD (jg ts S k m).toNat [])))=ui
  grind[qzy]
  grind[qzy]
theorem qiz(h:i<A ts):ts.getD i []∈ts:=by
 grind
theorem qja{x:uk}(h:x∈ts):∃i,i<A ts/\ts.getD i []=x:=by
 obtain⟨i,g⟩:=db h
 grind
theorem vsl{S:List uk}(h:S.Pairwise (·<·)){j:Nat}(m:j<A S)(g:i<j):S.getD i []<S.getD j []:=by
 grind[List.pairwise_iff_getElem]
theorem qj5{S:List uk}(h:S.Pairwise (·<·))(j:k<=A S)(m:i<A S):qa6 S k (S.getD i [])=decide (k<=i):=by
 unfold qa6
 by_cases h0:k=0
 subst h0;simp;rw[show(k==0)=uh by simpa using h0,oe,qzy]
 by_cases hki:k<=i
 grind[vsl]
 rw[da hki,da];intro g
 by_cases e:i=k - 1
 grind
 exact vbz (vj5 g (vsl h uq uq))
theorem qzw(m:k<=A (vw ts))(h:jg ts (vw ts) k (A ts)<0):k=A (vw ts):=by
 apply Decidable.byContradiction;intro g;have j:=qbl.1 (qiz (ts:=vw ts) (i:=k) uq)
 grind[qja,qzu,qj5,qe0]
theorem qzv(u:k<=A (vw ts))(h:0<=jg ts (vw ts) k (A ts)):k<A (vw ts)/\ts.getD (jg ts (vw ts) k (A ts)).toNat []=(vw ts).getD k []:=by
 have g:=qif ts (vw ts) k (A ts);obtain⟨m,B⟩:=(qzu ts (vw ts) k (A ts) ux).2 h;obtain⟨b,v⟩:=ie ((jg ts (vw ts) k (A ts)).toNat);have j:=qbl.2 (qiz (ts:=ts) (i:=b) uq)
 grind[qja,qj5,qe0,qbl,qiz,vsl]
theorem vbc(a b:uk):(!(Op.bytesLess a b||a==b))=Op.bytesLess b a:=by
 grind[qzy]
def vp6:Ap->Nat
 | C _ n _=>n
 | _=>0
structure SelAt(w:Ao)(f:RF)(W:Ao)(lv:Ap)(l:List (List UInt8)):Prop where
 row:TwRow W (w.1.size+1+1) lv l
 bel:Below (w.1.size+1+1) ((w.alloc (Al #[Y f.op,Y (BS f.K),I J f.u,C f.pa f.pn f.pc,C f.ta f.tn f.tc,C f.ra f.rn f.rc] 106)).alloc zoC) W
section
variable {w W:Ao} {f:RF} {lv:Ap} {l:List uk}
theorem SelAt.drewN(h:SelAt w f W lv l)(k:Nat):SelAt w f (W.drewN k) lv l:=⟨h.row,eg h.bel _⟩
theorem SelAt.bel0(h:SelAt w f W lv l):Xb w W:=((uy.alloc ux _).alloc ur _).trans (h.bel.mono uq)
theorem SelAt.size(h:SelAt w f W lv l):Z w.1+1+1<=Z W.1:=by have:=h.bel.size;simpa using this
theorem TwRow.cell{v:Ap}(h:TwRow w base v ts)(j:ts[k]?=G t):∃g cap,v=C (G (D g 0 O)) (A ts) cap/\base<=g/\g<Z w.1/\w.cell? (D g k O)=G (Y (BS t)):=by
 obtain⟨g,cap,e,B,u,m⟩:=h.txt (by grind)
 grind
theorem TwRow.app1{v:Ap}(h:TwRow W base v ts)(J:base<=Z W.1)(x:uk)(X:A ts<=1000000)(H:Nat)(K:Z W.1=H):
  ∃g cap j,(appR #[31,31] 31 #[v,C (G (D H 0 O)) 1 1]).run prog (W.alloc (Al #[Y (BS x)] 9))=.ok (C (G (D g 0 O)) (A ts+1) cap) j /\
   Hid (TwRow j base (C (G (D g 0 O)) (A ts+1) cap) (ts++[x]))/\Hid (Below base W j):=by
 subst K;obtain⟨u,I,L,T,R⟩:=info_parts qex;have m:=World.ownsRow.alloc h (Al #[Y (BS x)] 9);obtain⟨g,cap,j,B,B7,U,D6,_⟩:=run_append_lies (P:=prog) (W.alloc (Al #[Y (BS x)] 9)) 31 31 base 9 u _ 1 16 underlying31 I L T R rfl uq v (A ts) _ m
  ⟨Z W.1,0,O⟩ 1 1 [Y (BS x)] rfl (World.news_of_block (cs:=#[Y (BS x)]) (t:=9) (fr:=(0,0)) (heap_alloc_new W _)) (by simp[Value.oneCell']) uq (by unfold maxLen;omega) uq ut _ rfl
 refine⟨g,cap,j,B,qd ?_,qd ?_⟩
 grind[qx,TwRow]
 exact Go.RowKit.Below.grown (((Below.refl base W).alloc J _)) U ut (λk F=>(m.lt k F).1)
end
end
def TwC(N:Nat->Prop)(W:Ao)(S:ByteArray)(f g:RF)(c:Co):Prop:=Calls prog 146 #[Y S,Ai #[Y f.op,Y (BS f.K),I J f.u,C f.pa f.pn f.pc,C f.ta f.tn f.tc,C f.ra f.rn f.rc],Ai #[Y g.op,Y (BS g.K),I J g.u,C g.pa g.pn g.pc,C g.ta g.tn g.tc,C g.ra g.rn g.rc]] W λe w'=>Below (Z W.1) W w'/\∃r:RF,e=Ak (Ai #[Y r.op,Y (BS r.K),I J r.u,C r.pa r.pn r.pc,C r.ta r.tn r.tc,C r.ra r.rn r.rc])/\RfAt N w' c r
theorem ex6{a b c d f g:Ap}(C:Xc W q 0 a)(B:Xc W q 1 b)(A:Xc W q 2 c)(u:Xc W q 3 d)(m:Xc W q 4 f)(j:Xc W q 5 g)(k:Nat)(h:k<6):∃v,Xc W q k v:=by
 grind
structure OutAt(N:Nat->Prop)(w1 wr:Ao)(ob:Nat)(c:Co)(r:RF):Prop where
 bel:Below w1.1.size w1 wr
 ge:w1.1.size<=ob
 lt:ob<wr.1.size
 cells:∀k,k<6->wr.cell? ⟨ob,k,O⟩=(qB r)[k]?
 fz:∀i,wr.frozen? ⟨ob,i,O⟩=uh
 rf:RfAt (λb=>N b\/(w1.1.size<=b/\b≠ob)) wr c r
section
variable {N:Nat->Prop} {w1 wr w':Ao} {ob:Nat} {c d:Co} {r s:RF}
theorem OutAt.h(h:OutAt N w1 wr ob c r)(g:Xb wr w'):OutAt N w1 w' ob c r:=
 ⟨qg h.bel g,h.ge,au h.lt g.size,λk j=>((qi g).1 _ _ h.lt).trans (h.cells k j),λi=>((qi g).2 _ _ h.lt).trans (h.fz i),h.rf.h g⟩
theorem OutAt.new(g:Xb w1 wr)(m:RfAt (λb=>N b\/Z w1.1<=b) wr c r):
  OutAt N w1 (wr.alloc (Al #[Y r.op,Y (BS r.K),I J r.u,C r.pa r.pn r.pc,C r.ta r.tn r.tc,C r.ra r.rn r.rc] 106)) (Z wr.1) c r:=by
 have u:Xb wr (wr.alloc (Al #[Y r.op,Y (BS r.K),I J r.u,C r.pa r.pn r.pc,C r.ta r.tn r.tc,C r.ra r.rn r.rc] 106)):=uy.alloc ux _;refine⟨g.alloc g.size _,g.size,ur,λk j=>?_,λi=>ur, ?_⟩;rw[ce _ _ _ _ rfl]
 match k,j with
 | 0,_=>rfl
 | 1,_=>rfl
 | 2,_=>rfl
 | 3,_=>rfl
 | 4,_=>rfl
 | 5,_=>rfl
 grind[Below,BS,Below.refl,World.cell?_alloc_at,RcAt.keep,RfAt.keep,OutAt]
theorem vf6{a b c d f g:Ap}(F:∃v,Xc W q 0 v)(A:∃v,Xc W q 1 v)(u:∃v,Xc W q 2 v)(m:∃v,Xc W q 3 v)(j:∃v,Xc W q 4 v)(h:∃v,Xc W q 5 v):
  ∀k,k<6->(B (B (B (B (B (B W (D q 0 O) a) (D q 1 O) b) (D q 2 O) c) (D q 3 O) d) (D q 4 O) f) (D q 5 O) g).cell? (D q k O)=[a,b,c,d,f,g][k]?:=by
 obtain⟨U,F⟩:=F;obtain⟨T,A⟩:=A;obtain⟨R,u⟩:=u;obtain⟨P,m⟩:=m;obtain⟨L,j⟩:=j;obtain⟨K,h⟩:=h;intro k H
 match k,H with
 | 0,_=>simp[go_sem,F]
 | 1,_=>simp[go_sem,A]
 | 2,_=>simp[go_sem,u]
 | 3,_=>simp[go_sem,m]
 | 4,_=>simp[go_sem,j]
 | 5,_=>simp[go_sem,h]
theorem OutAt.put(F:Xb w1 wr)(m:Z w1.1<=ob)(lt:ob<Z wr.1)(G:∀b,N b->b<Z w1.1)(g:∀k,k<6->∃v,Xc wr ob k v)(A:Xf wr ob)(u:RfAt (λb=>N b\/(Z w1.1<=b/\b≠ob)) wr d s):
  OutAt N w1 (B (B (B (B (B (B wr (D ob 0 O) (Y s.op)) (D ob 1 O) (Y (BS s.K))) (D ob 2 O) (I J s.u)) (D ob 3 O) (C s.pa s.pn s.pc)) (D ob 4 O) (C s.ta s.tn s.tc)) (D ob 5 O) (C s.ra s.rn s.rc)) ob d s:=by
 have j:=kL wr ob (Y s.op) (Y (BS s.K)) (I J s.u) (C s.pa s.pn s.pc) (C s.ta s.tn s.tc) (C s.ra s.rn s.rc);refine⟨j.bel _ _ m F,m,by rwa[j.size],vf6 (g 0 uq) (g 1 uq) (g 2 uq) (g 3 uq) (g 4 uq) (g 5 uq),λi=>?_,j.rf u (by grind) (λ_ h _=>h)⟩;simp[go_sem,A i]
end
theorem qpk{f g:RF}(C:vL o)(D:Xb w1 W)(B:RfAt (λb=>N b\/(Z w1.1<=b/\b≠ob)) W x f)(A:RfAt (λb=>N b\/(Z w1.1<=b/\b≠ob)) W y g)(K:ob<Z W.1)(F:gT x)(m:gT y):
  uo 146 #[Y (BS (qJ o)),f.v,g.v] W λe w'=>Xb W w'/\∃r:RF,e=Ak r.v/\RfAt (λb=>N b\/(Z w1.1<=b/\b≠ob)) w' (qq o x y) r:=by
 have G:=D.size;have v:RfAt (λb=>(N b\/(Z w1.1<=b/\b≠ob))/\b<Z W.1) W x f:=B.keep (λ_ _ _=>rfl) ux (λb h j=>⟨h,j⟩);have u:RfAt (λb=>(N b\/(Z w1.1<=b/\b≠ob))/\b<Z W.1) W y g:=A.keep (λ_ _ _=>rfl) ux (λb h j=>⟨h,j⟩);refine(pT C v u F m (λb h=>h.2)).mono ?_;rintro e w'⟨I,r,J,H⟩
 grind
theorem vg1{f g:RF}(C:vL o)(D:Xb w1 W)(B:RfAt (λb=>N b\/Z w1.1<=b) W x f)(A:RfAt (λb=>N b\/Z w1.1<=b) W y g)(F:gT x)(m:gT y):
  uo 146 #[Y (BS (qJ o)),f.v,g.v] W λe w'=>Xb W w'/\∃r:RF,e=Ak r.v/\RfAt (λb=>N b\/Z w1.1<=b) w' (qq o x y) r:=by
 have G:=D.size;have v:RfAt (λb=>(N b\/Z w1.1<=b)/\b<Z W.1) W x f:=B.keep (λ_ _ _=>rfl) ux (λb h j=>⟨h,j⟩);have u:RfAt (λb=>(N b\/Z w1.1<=b)/\b<Z W.1) W y g:=A.keep (λ_ _ _=>rfl) ux (λb h j=>⟨h,j⟩);refine(pT C v u F m (λb h=>h.2)).mono ?_;rintro e w'⟨I,r,J,H⟩
 grind
theorem quw{w2:Ao}{g:RF}(h:RfAt (λb=>N b\/Z w1.1<=b) w2 c g)(o:Obj):RfAt (λb=>N b\/(Z w1.1<=b/\b≠Z w2.1)) (w2.alloc o) c g:=by grind[RcAt.keep,Below.refl,Below.alloc,World.alloc,RfAt]
theorem vjy(x:Co):∀(r:List uk) (f:Co) (t:uk),zC x f (r++[t])=qq 7 (zC x f r) (qq 8 x (vl t)):=by
 intro r
 induction r<;>grind[zC]
def amK(x:Co)(S:List (List UInt8))(i:Nat):Co:=zC x (qq 8 x (vl (S.getD 0 []))) ((S.drop 1).take (i - 1))
theorem vgw{S:List uk}(m:1<=i)(g:S[i]?=G t):amK x S (i+1)=qq 7 (amK x S i) (qq 8 x (vl t)):=by
 unfold amK;rw[<-vjy];obtain⟨j,rfl⟩:∃j,i=j+1:=⟨i - 1,uq⟩
 grind[List.take_add_one]
theorem vpv(g:vw ts≠[]):amK x (vw ts) (A (vw ts))=vO x ts:=by
 grind[amK,vO]
structure ZeroVar(w:Ao)(q:Nat):Prop where
 c0:w.cell? ⟨q,0,O⟩=G (Y ⟨#[]⟩)
 c1:w.cell? ⟨q,1,O⟩=G (Y ⟨#[]⟩)
 c2:w.cell? ⟨q,2,O⟩=G (I J 0)
 c3:w.cell? ⟨q,3,O⟩=G (C O 0 0)
 c4:w.cell? ⟨q,4,O⟩=G (C O 0 0)
 c5:w.cell? ⟨q,5,O⟩=G (C O 0 0)
 fz:∀i,w.frozen? ⟨q,i,O⟩=uh
 lt:q<w.1.size
theorem ZeroVar.h(h:ZeroVar w q)(g:Xb w w'):ZeroVar w' q:=
 ⟨((qi g).1 _ _ h.lt).trans h.c0,((qi g).1 _ _ h.lt).trans h.c1,((qi g).1 _ _ h.lt).trans h.c2,((qi g).1 _ _ h.lt).trans h.c3,((qi g).1 _ _ h.lt).trans h.c4,((qi g).1 _ _ h.lt).trans h.c5,λi=>((qi g).2 _ i h.lt).trans (h.fz i),au h.lt g.size⟩
theorem ZeroVar.drew(h:ZeroVar w q):ZeroVar w.drew q:=⟨h.c0,h.c1,h.c2,h.c3,h.c4,h.c5,h.fz,h.lt⟩
theorem kh(g:Ao):ZeroVar (g.alloc zoC) (Z g.1):=⟨ur,ur,ur,ur,ur,ur,λi=>ur,ur⟩
theorem gu{f:RF}(h:RfAt N W c f)(g:∀b,N b->b<Z W.1->N' b):RfAt N' W c f:=h.keep (λ_ _ _=>rfl) ux g
section
attribute [local go_sem ↓] vr
theorem qxx{f:RF}{la:Option Addr}{lc:Nat}(hx:RfAt N w x f)(hN:∀b,N b->b<Z w.1)(cB:TxtAt w (C la (A ts) lc) ts)(hne:ts≠[])(A6:A ts<=1000)(N7:∀t∈ts,A t<=1000)(bx:gT x)(A0:∀t∈ts,gT (vl t))(F:∀t∈ts,gT (qq 8 x (vl t)))(v:∀i,1<=i->i<=A (vw ts)->gT (amK x (vw ts) i)):
  uo 147 #[f.v,C la (A ts) lc] w (yf N w (vO x ts)):=by
 obtain⟨S,hS⟩:=ie (vw ts);obtain⟨n,hn⟩:=ie (A ts)
 have hSl:A S<=n:=by
  rw[<-hS,<-hn];exact qbm ts
 have HTS:Hid (∀k t,ts[k]?=G t->∃lb,la=G (D lb 0 O)/\lb<Z w.1/\Xc w lb k (Y (BS t))):=qd (by
  obtain⟨a,c,e,h⟩:=cB;injection e with e1 _ _;subst e1
  exact h)
 have HN:=qd hn;have HS:=qd hS;have HX:=qd hx;rw[hn]at A6 |-;have M0:Hid (SelAt w f ((w.alloc (Al #[Y f.op,Y (BS f.K),I J f.u,C f.pa f.pn f.pc,C f.ta f.tn f.tc,C f.ra f.rn f.rc] 106)).alloc zoC) (C O 0 0) (S.take 0)):=qd ⟨dw _ _ _ _,uy⟩;simp only[RF.v];go_enter func147,ntmps147
 go_upto_block 0 with fail
 go_cut [5] (λs5 wx=>∃a c,s5=C a (A S) c/\Hid (SelAt w f wx (C a (A S) c) S))
 case first=>
  go_wp2
  go_loopw [5] (λlv wr=>∃(k:Nat) (a:Option Addr) (c:Nat),k<=A S/\lv=C a k c/\Hid (SelAt w f wr (C a k c) (S.take k))) (λlv _=>n - vp6 lv)
  exact⟨0,O,0,bt _,rfl,M0⟩;obtain⟨k,a,c,hk,rfl,P⟩:=hrel
  by_cases aB:k<n
  .have FP:=je k n
   go_wp2
   obtain⟨wo,rfl⟩:=il (wr:Ao)
   go_loopw [6,7] (λb i wq=>∃m:Nat,m<=n/\i=I J m/\b=I J (jg ts S k m)/\Hid (SelAt w f wq (C a k c) (S.take k))) (λ_ i _=>n - (intOf i).toNat)
   exact⟨0,bt _,rfl,rfl,P⟩;obtain⟨m,hm,rfl,rfl,P⟩:=hrel;have R:=qif ts S k m;have G9:=(q9 P).bel0
   by_cases UG:m<n
   .obtain⟨t,ht⟩:∃t,ts[m]?=G t:=⟨_,ag (md (q9 HN))⟩
    obtain⟨lb,rfl,T0,uG⟩:=q9 HTS m t ht;have htg:ts.getD m []=t:=by rw[aq,ht];rfl
    have tl:Xc wr lb m (Y (BS t)):=((qi G9).1 _ _ T0).trans uG;obtain⟨X,hB⟩:=ie (jg ts S k m);obtain⟨L,hL⟩:=ie (qa6 S k t);have dZ:Hid (jg ts S k (m+1)=if L&&(decide (X<0)||Op.bytesLess t (ts.getD X.toNat [])) then(m:Int) else X):=qd (by rw[jg,htg,hB,hL]);rw[hB]at R |-;have fL:=qd hL
    go_wp2
    go_cut [8] (λs8 wx=>s8=Ah L/\Hid (SelAt w f wx (C a k c) (S.take k)))
    case first=>
     by_cases Z9:k=0
     .subst Z9
      have hLt:L=ui:=by rw[<-q9 fL];rfl
      subst hLt
      go_quiet (fail)
      go_wp2
      go_meet
      exact⟨rfl,qd (P.drewN _)⟩
     obtain⟨k',rfl⟩:∃k',k=k'+1:=⟨k - 1,uq⟩;obtain⟨u,hu⟩:∃u,S[k']?=G u:=⟨_,ag uq⟩;obtain⟨j,lcap,e,dI,OA,KD⟩:=(q9 P).row.cell (k:=k') (t:=u) (by rwa[List.getElem?_take_of_lt uq]);injection e with e1 e2 e3;subst e1
     have hLv:(!(Op.bytesLess (BS t).toList (BS u).toList||(BS t).toList==(BS u).toList))=L:=by
      rw[qP,qP,vbc,<-q9 fL];unfold qa6;rw[Nat.add_sub_cancel,aq,hu];simp
     have F5:(((k':Int)+1)==0)=uh:=by rw[aw];omega
     have U4:=it k';have fQ:(k':Int)<(k':Int)+1:=uq;clear hu e2 e3
     go_quiet (fail)
     go_wp2
     go_meet
     exact⟨by rw[<-hLv],qd (P.drewN _)⟩
    obtain⟨rfl,lL⟩:=hcut;have F:=(q9 lL).bel0;have tl2:Xc wc lb m (Y (BS t)):=((qi F).1 _ _ T0).trans ((((qi G9).1 _ _ T0).symm).trans tl);clear tl P
    cases L with
    | false=>
     go_wp2
     go_quiet (fail)
     go_wp2
     go_roundw
     case rel=>exact⟨m+1,uq,by go_num,by rw[q9 dZ];rfl,qd (lL.drewN _)⟩
     simp[intOf];omega
    | true=>
     by_cases hB:X<0
     .have DD:decide (X<0)=ui:=de hB
      go_wp2
      go_quiet (fail)
      go_wp2
      go_roundw
      case rel=>exact⟨m+1,uq,by go_num,by rw[q9 dZ,DD];rfl,qd (lL.drewN _)⟩
      simp[intOf];omega
     have DD:decide (X<0)=uh:=da hB;obtain⟨b,rfl⟩:∃b:Nat,X=b:=⟨X.toNat,uq⟩;obtain⟨u,hu⟩:∃u,ts[b]?=G u:=⟨_,ag (md (q9 HN))⟩;obtain⟨lb',e,hlb',KD⟩:=q9 HTS b u hu;injection e with e;injection e with e;subst e;have ul:Xc wc lb b (Y (BS u)):=((qi F).1 _ _ T0).trans KD;have ZW:=it b;have cY:=je b n
     have AL:Hid (jg ts S k (m+1)=if Op.bytesLess t u then(m:Int) else b):=qd (by
      rw[q9 dZ,DD,Int.toNat_natCast,aq,hu];simp)
     have U9:Op.bytesLess (BS t).toList (BS u).toList=Op.bytesLess t u:=by rw[qP,qP]
     clear dZ hu KD R
     cases hq:Op.bytesLess t u with
     | false=>
      rw[hq]at U9 AL
      go_wp2
      go_quiet (fail)
      go_wp2
      go_roundw
      case rel=>exact⟨m+1,uq,by go_num,by rw[q9 AL];rfl,qd (lL.drewN _)⟩
      simp[intOf];omega
     | true=>
      rw[hq]at U9 AL
      go_wp2
      go_quiet (fail)
      go_wp2
      go_roundw
      case rel=>exact⟨m+1,uq,by go_num,by rw[q9 AL];rfl,qd (lL.drewN _)⟩
      simp[intOf];omega
   have KA:m=n:=uq;have hmn':=jl m n;have F8:=q9 HN;obtain⟨X,hB⟩:=ie (jg ts S k m);have aG:jg ts (vw ts) k (A ts)=X:=by rwa[q9 HS,F8,<-KA]
   rw[hB]at R |-
   by_cases hBn:X<0
   .have FU:k=A S:=by have:=qzw (ts:=ts) (k:=k) (by rwa[q9 HS]) (by rwa[aG]);rw[this,q9 HS]
    have DD:decide (X<0)=ui:=de hBn;clear hB aG
    go_wp2
    go_meet
    subst FU;exact⟨a,c,rfl,by have:=q9 P;rw[ig]at this;exact qd this⟩
   have DD:decide (X<0)=uh:=da hBn;obtain⟨B8,iC⟩:=qzv (ts:=ts) (k:=k) (by rwa[q9 HS]) (by rw[aG];omega);rw[aG,q9 HS]at iC;rw[q9 HS]at B8;obtain⟨b,rfl⟩:∃b:Nat,X=b:=⟨X.toNat,uq⟩;obtain⟨u,hu⟩:∃u,ts[b]?=G u:=⟨_,ag uq⟩;obtain⟨lb,rfl,T0,KD⟩:=q9 HTS b u hu;have ul:Xc wr lb b (Y (BS u)):=((qi G9).1 _ _ T0).trans KD;have ZW:=it b;have cY:=je b n
   have KN:S.take (k+1)=S.take k++[u]:=by
    rw[dt,ag B8];rw[Int.toNat_natCast,aq,hu,aq,ag B8]at iC;rw[<-show u=S[k] from iC];rfl
   have U0:A (S.take k)=k:=by rw[cw];omega
   obtain⟨g5,J7,w5,M8,aE,L9⟩:=(q9 P).row.app1 P.size u uq (Z wr.1) rfl;rw[<-KN,U0]at aE;rw[U0]at M8;have tO:Hid (SelAt w f w5 (C (G (D g5 0 O)) (k+1) J7) (S.take (k+1))):=qd ⟨q9 aE,P.bel.trans L9⟩;clear hB aG iC hu KD KN U0 aE L9
   go_wp2
   go_roundw
   exact⟨k+1,_,_,uq,rfl,tO⟩;simp[vp6];omega
  have FP:=jl k n;have FU:k=A S:=uq
  go_wp2
  go_meet
  subst FU;exact⟨a,c,rfl,by have:=q9 P;rw[ig]at this;exact qd this⟩
 obtain⟨a,c,rfl,P⟩:=hcut;obtain⟨w1,rfl⟩:=il (wc:Ao);have OY:S≠[]:=by rw[<-q9 HS];exact qdz hne
 have VF:0<A S:=List.length_pos_iff.2 OY;obtain⟨H,EM⟩:∃t,S[0]?=G t:=⟨_,ag VF⟩;obtain⟨j,lcap,e,dI,OA,FO⟩:=(q9 P).row.cell (k:=0) EM;injection e with e1 _ _;subst e1;have B9:=(q9 P).size;have F7:=(q9 P).bel
 have XK:Kx1 w1 (Z w.1) f:=by
  refine⟨?_, ?_, ?_, ?_, ?_, ?_⟩
  all_goals exact(F7.cell (p:=⟨Z w.1,_,O⟩) (by show Z w.1<Z w.1+1+1;omega)).trans (by simp[go_sem])
 obtain⟨X0,X1,X2,X3,X4,X5⟩:=XK;obtain⟨Q0,Q1,Q2,Q3,Q4,Q5,QZ,-⟩:ZeroVar w1 (Z w.1+1):=by have:=(kh (w.alloc _)).h (F7.mono ur);simpa using this
 have wV:=(q9 P).bel0
 have QR:Hid (∀t∈S,A t<=1000/\gT (vl t)/\gT (qq 8 x (vl t))):=qd λt ht=>by
  have hm:=qbl.1 (show t∈vw ts by rwa[q9 HS]);exact⟨N7 t hm,A0 t hm,F t hm⟩
 have fK:=qd P.row;have HB01:=qd wV;have QM:Hid (∀W,Xb w1 W->RfAt N W x f):=qd λW hb=>(HX.h wV).h hb
 have AN:Hid (∀b,N b->b<Z w1.1):=qd λb h=>au (hN b h) wV.size
 have KXg:Hid (∀b W,Xb w1 b->Xb b W->∀(i:Nat) (t:uk),Xc w1 j i (Y (BS t))->(Kt1 W (Z w.1) f (Xc W j i (Y (BS t))))):=qd λb W K h2 i t hl=>by
  have hh:=qg K h2;refine⟨?_, ?_, ?_, ?_, ?_, ?_, ?_⟩;exact((qi hh).1 _ _ uq).trans X0;exact((qi hh).1 _ _ uq).trans X1;exact((qi hh).1 _ _ uq).trans X2;exact((qi hh).1 _ _ uq).trans X3;exact((qi hh).1 _ _ uq).trans X4;exact((qi hh).1 _ _ uq).trans X5;exact((qi hh).1 _ _ OA).trans hl
 have LFg:Hid (∀(t:uk) (W:Ao),uo 143 #[Y ⟨#[116,101,120,116]⟩,Y (BS (qL t)),I J 3,I J ((BS t).size:Int)] W λe w'=>Xb W w'/\∃r:RF,e=Ak (Ai #[Y r.op,Y (BS r.K),I J r.u,C r.pa r.pn r.pc,C r.ta r.tn r.tc,C r.ra r.rn r.rc])/\RfAt (λb=>N b\/Z W.1<=b) w' (vl t) r):=qd λt W=>(pp N ⟨2,0,t,[]⟩ W).mono λe w' h=>h.rf
 have QTg:Hid (∀(t:uk),A t<=1000->∀W,uo 145 #[Y (BS t)] W λe w'=>e=Ak (Y (BS (qL t)))/\w'=W):=qd λt ht W=>yD (BS t) ht W
 have sB:H∈S:=bh EM;obtain⟨QB,wZ⟩:=ie (BS (qL H));have LF:=qd (LFg H);have QT:=qd (QTg H ((QR H sB).1));have BT:=qd ((QR H sB).2.1);have KX:Hid (∀W,Xb w1 W->(Kt1 W (Z w.1) f (Xc W j 0 (Y (BS H))))):=qd λW hb=>q9 KXg w1 W uy hb 0 H FO
 have IN:=QM;have lK:=AN;rw[wZ]at LF QT;have hSl0:=lq (A S);have HT0:Hid (amK x S 1=qq 8 x (vl H)):=qd (by unfold amK;rw[iz,List.take_zero,aq,EM];rfl);clear F7 wV EM sB wZ P
 go_upto_region 13 with(go_at_call 145;refine be (QT _) λwq hq=>?_;subst wq)
 go_cut [10] (λs10 wx=>∃ob r,s10=Ag (G (D ob 0 O))/\Hid (OutAt N w1 wx ob (qq 8 x (vl H)) r))
 case first=>
  have YJ:j<Z w1.1:=uq;have TN:¬Z w.1=Z w1.1:=uq;have TL:¬Z w1.1=Z w.1:=uq;have na3:¬j=Z w1.1:=uq;have na4:¬Z w1.1=j:=uq;have na5:Z w.1<Z w1.1:=uq;have na6:j<Z w1.1:=uq;have TWA:Hid (∀(w2:Ao) (g:RF),Xb w1 w2->RfAt (λb=>N b\/(Z w1.1<=b/\b≠Z w1.1)) w2 (vl H) g->Z w1.1+1<=Z w2.1->TwC (λb=>N b\/(Z w1.1<=b/\b≠Z w1.1)) w2 ⟨#[61]⟩ f g (qq 8 x (vl H))):=qd λw2 g K h2 h3=>qpk (o:=8) (by simp[vL]) K ((IN w2 K).keep (λ_ _ _=>rfl) ux (λ_ h _=>Am h)) h2 uq bx BT
  have TWB:Hid (∀(w2:Ao) (g:RF),Xb w1 w2->RfAt (λb=>N b\/Z w1.1<=b) w2 (vl H) g->TwC (λb=>N b\/(Z w1.1<=b/\b≠Z w2.1)) (w2.alloc zoC) ⟨#[61]⟩ f g (qq 8 x (vl H))):=qd λw2 g K h2=>qpk (o:=8) (by simp[vL]) (qg K (uy.alloc ux _)) ((IN _ (qg K (uy.alloc ux zoC))).keep (λ_ _ _=>rfl) ux (λ_ h _=>Am h)) (quw h2 _) ur bx BT
  have TWC:Hid (∀(w2:Ao) (g:RF),Xb w1 w2->RfAt (λb=>N b\/Z w1.1<=b) w2 (vl H) g->TwC (λb=>N b\/Z w1.1<=b) w2 ⟨#[61]⟩ f g (qq 8 x (vl H))):=qd λw2 g K h2=>vg1 (o:=8) (by simp[vL]) K ((IN w2 K).keep (λ_ _ _=>rfl) ux (λ_ h _=>Am h)) h2 bx BT
  go_region_held3 (λW=>Kt1 W (Z w.1) f (Xc W j 0 (Y (BS H)))) (first|with_reducible assumption|(simp only[Kt1];go_keep)) (first|(go_at_call 146;have _q:=SJ;refine(TWA w2 g uT SJ D8).mono ?_;rintro e B⟨v,r3,rfl,U⟩;have lJ:=qd U;have T:=qd (qg uT v);obtain⟨p0,p1,p2,p3,p4,p5,pz,S4⟩:=(q9 HOV).h v;have cZ:=q9 KX B T;clear v U)|(go_at_call 146;have _q:=AV;refine(TWB w2 g bQ AV).mono ?_;rintro e B⟨v,r3,rfl,U⟩;have RB:=qd U;have T:=qd (qg (qg bQ (uy.alloc ux _)) v);obtain⟨p0,p1,p2,p3,p4,p5,pz,S4⟩:=(kh w2).h v;have cZ:=q9 KX B T;clear v U)|(go_at_call 146;have _q:=AV;refine(TWC w2 g bQ AV).mono ?_;rintro e B⟨v,r3,rfl,U⟩;have fV:=qd U;have T:=qd (qg bQ v);have uY:=v.size;have TI:¬Z w.1=Z B.1:=uq;have TH:¬Z B.1=Z w.1:=uq;have nc3:¬j=Z B.1:=uq;have nc4:¬Z B.1=j:=uq;have nc5:Z w.1<Z B.1:=uq;have nc6:j<Z B.1:=uq;have cZ:=q9 KX B T;clear v U)|(go_at_call 143;refine(LF (w1.alloc zoC).drew).mono ?_;rintro e w2⟨F,g,rfl,L6⟩;have uT:=qd (qg ((Below.refl (Z w1.1) w1).alloc ux zoC).drew F);have SJ:Hid (RfAt (λb=>N b\/(Z w1.1<=b/\b≠Z w1.1)) w2 (vl H) g):=qd (L6.keep (λ_ _ _=>rfl) ux (λb h _=>(by obtain h|h:=h;exact Am h;right;have h':Z (w1.alloc zoC).1<=b:=h;rw[mh]at h';exact⟨uq,uq⟩)));have wD:=(kh w1).drew.h F;have HOV:=qd wD;have D8:Z w1.1+1<=Z w2.1:=wD.lt;clear wD;have oM:=q9 KX w2 uT;clear F L6)|(go_at_call 143;refine(LF w1.drew).mono ?_;rintro e w2⟨F,g,rfl,L6⟩;have bQ:=qd (qg (Below.refl (Z w1.1) w1).drew F);have AV:Hid (RfAt (λb=>N b\/Z w1.1<=b) w2 (vl H) g):=qd L6;have D8:Z w1.1<=Z w2.1:=F.size;have mH:¬Z w.1=Z w2.1:=uq;have TJ:¬Z w2.1=Z w.1:=uq;have nb3:¬j=Z w2.1:=uq;have nb4:¬Z w2.1=j:=uq;have nb5:Z w.1<Z w2.1:=uq;have nb6:j<Z w2.1:=uq;have oM:=q9 KX w2 bQ;clear F L6))
  all_goals
   go_wp2
   go_meet
   first
    | (have _q:=lJ;exact⟨_,r3,rfl,qd (OutAt.put T ux S4 lK (ex6 p0 p1 p2 p3 p4 p5) pz lJ)⟩)
    | (have _q:=RB;exact⟨_,r3,rfl,qd (OutAt.put T bQ.size S4 lK (ex6 p0 p1 p2 p3 p4 p5) pz RB)⟩)
    | (have _q:=fV;exact⟨_,r3,rfl,qd (OutAt.new T fV)⟩)
 obtain⟨ob,r,rfl,HO⟩:=hcut;rw[<-q9 HT0]at HO;clear LF QT BT KX HT0 FO
 go_wp2
 go_loopw [11] (λi wr=>∃(k:Nat) (r:RF),1<=k/\k<=A S/\i=I J k/\Hid (OutAt N w1 wr ob (amK x S k) r)) (λi _=>A S - (intOf i).toNat)
 exact⟨1,r,ux,VF,rfl,HO⟩;clear HO r;obtain⟨k,r,A5,B8,rfl,HO⟩:=hrel;have R:=(q9 HO).bel;have aO:=R.size;have YC:=(q9 HO).ge;have holt:=(q9 HO).lt
 by_cases A1:k<A S
 .obtain⟨t,ht⟩:∃t,S[k]?=G t:=⟨_,ag A1⟩
  have V7:t∈S:=bh ht
  have eG:Xc w1 j k (Y (BS t)):=by
   obtain⟨lg',lcap',e,_,_,YN⟩:=(q9 fK).cell (k:=k) ht;injection e with e1 _ _;injection e1 with e1;injection e1 with e1;rwa[e1]
  have hlkr:Xc wr j k (Y (BS t)):=((qi R).1 _ _ OA).trans eG;have bY:=λk=>(qi R).1 (Z w.1) k uq
  obtain⟨Y0,Y1,Y2,Y3,Y4,Y5⟩:Kx1 wr (Z w.1) f:=⟨(bY _).trans X0,(bY _).trans X1,(bY _).trans X2,(bY _).trans X3,(bY _).trans X4,(bY _).trans X5⟩;clear bY;have tI:Hid (amK x S (k+1)=qq 7 (amK x S k) (qq 8 x (vl t))):=qd (vgw A5 ht);obtain⟨QB,wZ⟩:=ie (BS (qL t));have LF:=qd (LFg t);have QT:=qd (QTg t ((QR t V7).1));have BT:=qd ((QR t V7).2.1);have BP:=qd ((QR t V7).2.2);have BA:=qd (v k A5 (by rwa[q9 HS]));rw[q9 HS]at BA;have KX:Hid (∀W,Xb wr W->(Kt1 W (Z w.1) f (Xc W j k (Y (BS t))))):=qd λW hb=>q9 KXg wr W R hb k t eG
  have IN:Hid (∀W,Xb wr W->RfAt N W x f):=qd λW hb=>q9 QM W (qg R hb)
  have lK:Hid (∀b,N b->b<Z wr.1):=qd λb h=>au (AN b h) aO
  rw[wZ]at LF QT;have U4:=it k;have fQ:=je k (A S);clear ht V7 wZ eG
  go_upto_region 18 with(go_at_call 145;refine be (QT _) λwq hq=>?_;subst wq)
  go_cut [12] (λs12 wx=>∃eb re,s12=Ag (G (D eb 0 O))/\Hid (OutAt N wr wx eb (qq 8 x (vl t)) re))
  case first=>
   have YJ:j<Z wr.1:=uq;have TN:¬Z w.1=Z wr.1:=uq;have TL:¬Z wr.1=Z w.1:=uq;have na3:¬j=Z wr.1:=uq;have na4:¬Z wr.1=j:=uq;have na5:Z w.1<Z wr.1:=uq;have na6:j<Z wr.1:=uq;have TWA:Hid (∀(w2:Ao) (g:RF),Xb wr w2->RfAt (λb=>N b\/(Z wr.1<=b/\b≠Z wr.1)) w2 (vl t) g->Z wr.1+1<=Z w2.1->TwC (λb=>N b\/(Z wr.1<=b/\b≠Z wr.1)) w2 ⟨#[61]⟩ f g (qq 8 x (vl t))):=qd λw2 g K h2 h3=>qpk (o:=8) (by simp[vL]) K ((IN w2 K).keep (λ_ _ _=>rfl) ux (λ_ h _=>Am h)) h2 uq bx BT
   have TWB:Hid (∀(w2:Ao) (g:RF),Xb wr w2->RfAt (λb=>N b\/Z wr.1<=b) w2 (vl t) g->TwC (λb=>N b\/(Z wr.1<=b/\b≠Z w2.1)) (w2.alloc zoC) ⟨#[61]⟩ f g (qq 8 x (vl t))):=qd λw2 g K h2=>qpk (o:=8) (by simp[vL]) (qg K (uy.alloc ux _)) ((IN _ (qg K (uy.alloc ux zoC))).keep (λ_ _ _=>rfl) ux (λ_ h _=>Am h)) (quw h2 _) ur bx BT
   have TWC:Hid (∀(w2:Ao) (g:RF),Xb wr w2->RfAt (λb=>N b\/Z wr.1<=b) w2 (vl t) g->TwC (λb=>N b\/Z wr.1<=b) w2 ⟨#[61]⟩ f g (qq 8 x (vl t))):=qd λw2 g K h2=>vg1 (o:=8) (by simp[vL]) K ((IN w2 K).keep (λ_ _ _=>rfl) ux (λ_ h _=>Am h)) h2 bx BT
   go_region_held3 (λW=>Kt1 W (Z w.1) f (Xc W j k (Y (BS t)))) (first|with_reducible assumption|(simp only[Kt1];go_keep)) (first|(go_at_call 146;have _q:=SJ;refine(TWA w2 g uT SJ D8).mono ?_;rintro e B⟨v,r3,rfl,U⟩;have lJ:=qd U;have T:=qd (qg uT v);obtain⟨p0,p1,p2,p3,p4,p5,pz,S4⟩:=(q9 HOV).h v;have cZ:=q9 KX B T;clear v U)|(go_at_call 146;have _q:=AV;refine(TWB w2 g bQ AV).mono ?_;rintro e B⟨v,r3,rfl,U⟩;have RB:=qd U;have T:=qd (qg (qg bQ (uy.alloc ux _)) v);obtain⟨p0,p1,p2,p3,p4,p5,pz,S4⟩:=(kh w2).h v;have cZ:=q9 KX B T;clear v U)|(go_at_call 146;have _q:=AV;refine(TWC w2 g bQ AV).mono ?_;rintro e B⟨v,r3,rfl,U⟩;have fV:=qd U;have T:=qd (qg bQ v);have uY:=v.size;have TI:¬Z w.1=Z B.1:=uq;have TH:¬Z B.1=Z w.1:=uq;have nc3:¬j=Z B.1:=uq;have nc4:¬Z B.1=j:=uq;have nc5:Z w.1<Z B.1:=uq;have nc6:j<Z B.1:=uq;have cZ:=q9 KX B T;clear v U)|(go_at_call 143;refine(LF (wr.alloc zoC).drew).mono ?_;rintro e w2⟨F,g,rfl,L6⟩;have uT:=qd (qg ((Below.refl (Z wr.1) wr).alloc ux zoC).drew F);have SJ:Hid (RfAt (λb=>N b\/(Z wr.1<=b/\b≠Z wr.1)) w2 (vl t) g):=qd (L6.keep (λ_ _ _=>rfl) ux (λb h _=>(by obtain h|h:=h;exact Am h;right;have h':Z (wr.alloc zoC).1<=b:=h;rw[mh]at h';exact⟨uq,uq⟩)));have wD:=(kh wr).drew.h F;have HOV:=qd wD;have D8:Z wr.1+1<=Z w2.1:=wD.lt;clear wD;have oM:=q9 KX w2 uT;clear F L6)|(go_at_call 143;refine(LF wr.drew).mono ?_;rintro e w2⟨F,g,rfl,L6⟩;have bQ:=qd (qg (Below.refl (Z wr.1) wr).drew F);have AV:Hid (RfAt (λb=>N b\/Z wr.1<=b) w2 (vl t) g):=qd L6;have D8:Z wr.1<=Z w2.1:=F.size;have mH:¬Z w.1=Z w2.1:=uq;have TJ:¬Z w2.1=Z w.1:=uq;have nb3:¬j=Z w2.1:=uq;have nb4:¬Z w2.1=j:=uq;have nb5:Z w.1<Z w2.1:=uq;have nb6:j<Z w2.1:=uq;have oM:=q9 KX w2 bQ;clear F L6))
   all_goals
    go_wp2
    go_meet
    first
     | (have _q:=lJ;exact⟨_,r3,rfl,qd (OutAt.put T ux S4 lK (ex6 p0 p1 p2 p3 p4 p5) pz lJ)⟩)
     | (have _q:=RB;exact⟨_,r3,rfl,qd (OutAt.put T bQ.size S4 lK (ex6 p0 p1 p2 p3 p4 p5) pz RB)⟩)
     | (have _q:=fV;exact⟨_,r3,rfl,qd (OutAt.new T fV)⟩)
  obtain⟨eb,re,rfl,HE⟩:=hcut;have bX:=qd (HO.h HE.bel);have cE:=(q9 bX).cells;have GH:=(q9 HE).cells;have NL:=(q9 bX).lt;have helt:=(q9 HE).lt;have u0:Xc wc ob 0 (Y r.op):=cE 0 uq;have u1:Xc wc ob 1 (Y (BS r.K)):=cE 1 uq;have u2:Xc wc ob 2 (I J r.u):=cE 2 uq;have u3:Xc wc ob 3 (C r.pa r.pn r.pc):=cE 3 uq;have u4:Xc wc ob 4 (C r.ta r.tn r.tc):=cE 4 uq;have u5:Xc wc ob 5 (C r.ra r.rn r.rc):=cE 5 uq;have v0:Xc wc eb 0 (Y re.op):=GH 0 uq;have v1:Xc wc eb 1 (Y (BS re.K)):=GH 1 uq;have v2:Xc wc eb 2 (I J re.u):=GH 2 uq;have v3:Xc wc eb 3 (C re.pa re.pn re.pc):=GH 3 uq;have v4:Xc wc eb 4 (C re.ta re.tn re.tc):=GH 4 uq;have v5:Xc wc eb 5 (C re.ra re.rn re.rc):=GH 5 uq;have EF:=(q9 HE).bel.size
  have TWO:Hid (TwC (λb=>N b\/(Z w1.1<=b/\b≠ob)) wc ⟨#[79,82]⟩ r re (qq 7 (amK x S k) (qq 8 x (vl t)))):=qd (qpk (o:=7) (by simp[vL]) bX.bel bX.rf (HE.rf.keep (λ_ _ _=>rfl) ux (λb h _=>by
   obtain h|h:=h;exact Am h
   exact An ⟨uq,uq⟩)) NL BA BP)
  clear cE GH
  go_wp2_with(refine TWO.mono ?_;rintro e w5⟨T5,s,rfl,MT⟩;have oO:=qd (bX.h T5);have sV:=(q9 oO).cells;have x0:Xc w5 ob 0 (Y r.op):=sV 0 uq;have x1:Xc w5 ob 1 (Y (BS r.K)):=sV 1 uq;have x2:Xc w5 ob 2 (I J r.u):=sV 2 uq;have x3:Xc w5 ob 3 (C r.pa r.pn r.pc):=sV 3 uq;have x4:Xc w5 ob 4 (C r.ta r.tn r.tc):=sV 4 uq;have x5:Xc w5 ob 5 (C r.ra r.rn r.rc):=sV 5 uq;have xz:=(q9 oO).fz;have xl:=(q9 oO).lt;have HS5:=qd MT;clear T5 sV MT)
  go_roundw
  case rel=>exact⟨k+1,s,uq,uq,by go_num,qd (by rw[q9 tI];exact OutAt.put oO.bel YC xl AN (λk hk=>by match k,hk with|0,_=>exact⟨_,x0⟩|1,_=>exact⟨_,x1⟩|2,_=>exact⟨_,x2⟩|3,_=>exact⟨_,x3⟩|4,_=>exact⟨_,x4⟩|5,_=>exact⟨_,x5⟩) xz HS5)⟩
  simp[intOf];omega
 have bC:k=A S:=uq;have uF:=jl k (A S);have PJ:amK x S k=vO x ts:=by rw[bC,<-q9 HS];exact vpv (by rwa[q9 HS])
 rw[PJ]at HO;have cE:=(q9 HO).cells;have u0:Xc wr ob 0 (Y r.op):=cE 0 uq;have u1:Xc wr ob 1 (Y (BS r.K)):=cE 1 uq;have u2:Xc wr ob 2 (I J r.u):=cE 2 uq;have u3:Xc wr ob 3 (C r.pa r.pn r.pc):=cE 3 uq;have u4:Xc wr ob 4 (C r.ta r.tn r.tc):=cE 4 uq;have u5:Xc wr ob 5 (C r.ra r.rn r.rc):=cE 5 uq;have q0:Xc wr (Z w.1+1) 0 (Y ⟨#[]⟩):=((qi R).1 _ _ uq).trans Q0;have q1:Xc wr (Z w.1+1) 1 (Y ⟨#[]⟩):=((qi R).1 _ _ uq).trans Q1;have q2:Xc wr (Z w.1+1) 2 (I J 0):=((qi R).1 _ _ uq).trans Q2;have q3:Xc wr (Z w.1+1) 3 (C O 0 0):=((qi R).1 _ _ uq).trans Q3;have q4:Xc wr (Z w.1+1) 4 (C O 0 0):=((qi R).1 _ _ uq).trans Q4;have q5:Xc wr (Z w.1+1) 5 (C O 0 0):=((qi R).1 _ _ uq).trans Q5;have qz:Xf wr (Z w.1+1):=λi=>((qi R).2 _ i uq).trans (QZ i)
 have ql:Z w.1+1<Z wr.1:=uq;have nq:¬ob=Z w.1+1:=uq;have iU:=qd (qg HB01 R);clear bC PJ cE
 go_wp2
 refine bo (by simp[go_sem,q0,q1,q2,q3,q4,q5]<;>rfl) rfl ?_;have hs:=kL wr (Z w.1+1) (Y r.op) (Y (BS r.K)) (I J r.u) (C r.pa r.pn r.pc) (C r.ta r.tn r.tc) (C r.ra r.rn r.rc);exact⟨hs.bel _ _ uq iU,r,rfl,hs.rf HO.rf (by rintro (h|h);have:=q9 AN _ h;have:=hN _ h;omega;have:=h.1;omega) (λb h _=>by obtain h|h:=h;exact Am h;exact An (md h.1))⟩
end
abbrev cV(f:RF):Array Ap:=#[Y f.op,Y (BS f.K),I J f.u,C f.pa f.pn f.pc,C f.ta f.tn f.tc,C f.ra f.rn f.rc]
structure CnAt(w W:Ao)(x0 x1 x2 x3 x4 x5 x6 x7 x8:Ap):Prop where
 n0:W.cell? ⟨w.1.size,0,O⟩=G x0
 n1:W.cell? ⟨w.1.size,1,O⟩=G x1
 n2:W.cell? ⟨w.1.size,2,O⟩=G x2
 n3:W.cell? ⟨w.1.size,3,O⟩=G x3
 n4:W.cell? ⟨w.1.size,4,O⟩=G x4
 n5:W.cell? ⟨w.1.size,5,O⟩=G x5
 n6:W.cell? ⟨w.1.size,6,O⟩=G x6
 n7:W.cell? ⟨w.1.size,7,O⟩=G x7
 n8:W.cell? ⟨w.1.size,8,O⟩=G x8
 r0:W.cell? ⟨w.1.size+1,0,O⟩=G (Y ⟨#[]⟩)
 r1:W.cell? ⟨w.1.size+1,1,O⟩=G (Y ⟨#[]⟩)
 r2:W.cell? ⟨w.1.size+1,2,O⟩=G (I J 0)
 r3:W.cell? ⟨w.1.size+1,3,O⟩=G (C O 0 0)
 r4:W.cell? ⟨w.1.size+1,4,O⟩=G (C O 0 0)
 r5:W.cell? ⟨w.1.size+1,5,O⟩=G (C O 0 0)
 rz:∀i,W.frozen? ⟨w.1.size+1,i,O⟩=uh
 rl:w.1.size+1<W.1.size
 a0:¬w.1.size=W.1.size
 a1:¬w.1.size+1=W.1.size
 a2:¬W.1.size=w.1.size
 a3:¬W.1.size=w.1.size+1
section
variable {w W W':Ao} {x0 x1 x2 x3 x4 x5 x6 x7 x8:Ap}
theorem CnAt.h(h:CnAt w W x0 x1 x2 x3 x4 x5 x6 x7 x8)(g:Xb W W'):CnAt w W' x0 x1 x2 x3 x4 x5 x6 x7 x8:=by
 obtain⟨u,m⟩:=qi g;have j:=g.size
 grind[CnAt]
theorem CnAt.alloc(h:CnAt w W x0 x1 x2 x3 x4 x5 x6 x7 x8)(o:Obj):CnAt w (W.alloc o) x0 x1 x2 x3 x4 x5 x6 x7 x8:=h.h (uy.alloc ux o)
theorem CnAt.drew(h:CnAt w W x0 x1 x2 x3 x4 x5 x6 x7 x8):CnAt w W.drew x0 x1 x2 x3 x4 x5 x6 x7 x8:=⟨h.n0,h.n1,h.n2,h.n3,h.n4,h.n5,h.n6,h.n7,h.n8,h.r0,h.r1,h.r2,h.r3,h.r4,h.r5,h.rz,h.rl,h.a0,h.a1,h.a2,h.a3⟩
theorem vci:CnAt w ((w.alloc (Al #[x0,x1,x2,x3,x4,x5,x6,x7,x8] 178)).alloc zoC) x0 x1 x2 x3 x4 x5 x6 x7 x8:=by
 refine⟨?_, ?_, ?_, ?_, ?_, ?_, ?_, ?_, ?_, ?_, ?_, ?_, ?_, ?_, ?_,λi=>?_, ?_, ?_, ?_, ?_, ?_⟩<;>simp[go_sem]<;>omega
end
def yg(w:Ao)(PZ:RF->Ao->Prop):Prop:=∀W,Below (Z w.1) w W->Z w.1+1+1<=Z W.1->Calls prog 143 #[Y ⟨#[110,117,109,98,101,114]⟩,Y ⟨#[48]⟩,I J 2,I J 0] W λe w'=>Below (Z W.1) W w'/\∃z:RF,e=Ak z.v/\PZ z w'
def jG(w:Ao)(PZ P:RF->Ao->Prop)(fn:Nat)(args:RF->Array Ap):Prop:=∀wz z W,Below (Z w.1) w wz->Z w.1+1<Z wz.1->PZ z wz->Below (Z wz.1) wz W->Calls prog fn (args z) W λe w'=>Below (Z W.1) W w'/\∃r:RF,e=Ak r.v/\P r w'
def jv(w:Ao)(P:RF->Ao->Prop)(Q:Ending->Ao->Prop):Prop:=∀r w1 w',Below (Z w.1) w w1->P r w1->SixAt (Z w.1+1) w1 w'->Q (Ak r.v) w'
theorem jI{u:RF->Ao->Prop}(B:yg w u)(x0 x1 x2 x3 x4 x5 x6 x7 x8:Ap):Hid (uo 143 #[Y ⟨#[110,117,109,98,101,114]⟩,Y ⟨#[48]⟩,I J 2,I J 0] ((w.alloc (Al #[x0,x1,x2,x3,x4,x5,x6,x7,x8] 178)).alloc zoC) λe g=>∃z:RF,e=Ak (Ai #[Y z.op,Y (BS z.K),I J z.u,C z.pa z.pn z.pc,C z.ta z.tn z.tc,C z.ra z.rn z.rc])/\Hid (Xb w g)/\Hid (u z g)/\CnAt w g x0 x1 x2 x3 x4 x5 x6 x7 x8/\Hid (CnAt w (g.alloc (Al (cV z) 106)) x0 x1 x2 x3 x4 x5 x6 x7 x8)/\Hid (Xb g (g.alloc (Al (cV z) 106)))):=by
 have m:Xb w ((w.alloc (Al #[x0,x1,x2,x3,x4,x5,x6,x7,x8] 178)).alloc zoC):=(uy.alloc ux _).alloc ur _;exact qd ((B _ m ur).mono λe g ⟨j,z,A,v⟩=>⟨z,A,qd (qg m j),qd v,vci.h j,qd ((vci.h j).alloc _),qd (uy.alloc ux _)⟩)
theorem zo{p:Prop}(h:p:=by
 refine bo (by simp[go_sem,q0,q1,q2,q3,q4,q5]<;>rfl) rfl ?_
 exact q9 Q8 r w1 _ D9 cO (kL _ _ _ _ _ _ _ _)):p:=h
theorem vsw{g:RF}(j:∀k,k<6->W.cell? (D b k O)=(qB g)[k]?):Kx1 W b g:=⟨j 0 uq,j 1 uq,j 2 uq,j 3 uq,j 4 uq,j 5 uq⟩
theorem OutAt.k1{wr:Ao}{r:RF}(h:OutAt N w1 wr ob c r):Kx1 wr ob r:=vsw h.cells
theorem vwy{g h:RF}(j:∀k,k<12->W.cell? (D b k O)=(qB g++qB h)[k]?):Kx2 W b g h:=⟨j 0 uq,j 1 uq,j 2 uq,j 3 uq,j 4 uq,j 5 uq,j 6 uq,j 7 uq,j 8 uq,j 9 uq,j 10 uq,j 11 uq⟩
theorem vwz{g h j:RF}(m:∀k,k<18->W.cell? (D b k O)=(qB g++qB h++qB j)[k]?):Kx3 W b g h j:=⟨m 0 uq,m 1 uq,m 2 uq,m 3 uq,m 4 uq,m 5 uq,m 6 uq,m 7 uq,m 8 uq,m 9 uq,m 10 uq,m 11 uq,m 12 uq,m 13 uq,m 14 uq,m 15 uq,m 16 uq,m 17 uq⟩
theorem kb1{g:RF}(u:b<Z w.1)(j:∀k,k<6->w.cell? (D b k O)=(qB g)[k]?):Hid (∀W,Xb w W->(Kx1 W b g)):=qd λ_ m=>vsw λi h=>(m.cell (p:=D b i O) u).trans (j i h)
theorem kb2{g h:RF}(v:b<Z w.1)(m:∀k,k<12->w.cell? (D b k O)=(qB g++qB h)[k]?):Hid (∀W,Xb w W->(Kx2 W b g h)):=qd λ_ u=>vwy λi j=>(u.cell (p:=D b i O) v).trans (m i j)
theorem kb3{g h j:RF}(A:b<Z w.1)(u:∀k,k<18->w.cell? (D b k O)=(qB g++qB h++qB j)[k]?):Hid (∀W,Xb w W->(Kx3 W b g h j)):=qd λ_ v=>vwz λi m=>(v.cell (p:=D b i O) A).trans (u i m)
theorem qfu{N c:Int}(G:Ae=⟨#[84,82,85,69]⟩\/Ae=⟨#[70,65,76,83,69]⟩)
  {m P:RF->Ao->Prop} (A:yg w m) (C:jG w m P 143 λ_=>#[Y Ae,Y Ae,I J 1,I J 0])
   (B:jv w P Q):uo 99 #[Ai #[Y Ae,I J a,iv,Y S,Y E,lv,I J N,Ah neg,I J c],inv] w Q:=by
 have K:=jI A (Y Ae) (I J a) iv (Y S) (Y E) lv (I J N) (Ah neg) (I J c);have D:=qd C;have Q8:=qd B;simp only[jG,jv,RF.v]at D Q8;clear A C B;obtain rfl|rfl:=G
 all_goals go_enter func99,ntmps99
 all_goals go_wp2_with(first|(go_at_call 143;refine(D _ _ _ v F H u).mono ?_;rintro e w1⟨g,r,rfl,hp⟩;have D9:=qd (qg (qg v u) g);obtain⟨-,-,-,-,-,-,-,-,-,q0,q1,q2,q3,q4,q5,qz,ql,-,-,-,-⟩:=(q9 j).h g;have cO:=qd hp;clear g hp)|(refine K.mono ?_;rintro e L⟨z,rfl,v,H,⟨n0,-,-,-,-,-,-,-,-,r0,r1,r2,r3,r4,r5,rz,F,nM,nJ,nI,nH⟩,j,u⟩;obtain⟨m0,-,-,-,-,-,-,-,-,s0,Z,X,U,T,R,sz,O,-,-,-,-⟩:=q9 j))
 all_goals exact zo
theorem qxm{N c:Int}
  {m P:RF->Ao->Prop} (A:yg w m) (C:jG w m P 143 λ_=>#[Y ⟨#[110,97,109,101]⟩,Y S,I J 0,I J (S.size:Nat)])
   (B:jv w P Q):uo 99 #[Ai #[Y ⟨#[110,97,109,101]⟩,I J a,iv,Y S,Y E,lv,I J N,Ah neg,I J c],inv] w Q:=by
 have H:=jI A (Y ⟨#[110,97,109,101]⟩) (I J a) iv (Y S) (Y E) lv (I J N) (Ah neg) (I J c);have D:=qd C;have Q8:=qd B;simp only[jG,jv,RF.v]at D Q8;clear A C B;go_enter func99,ntmps99
 go_wp2_with(first|(go_at_call 143;refine(D _ _ _ v F G u).mono ?_;rintro e w1⟨g,r,rfl,hp⟩;have D9:=qd (qg (qg v u) g);obtain⟨-,-,-,-,-,-,-,-,-,q0,q1,q2,q3,q4,q5,qz,ql,-,-,-,-⟩:=(q9 j).h g;have cO:=qd hp;clear g hp)|(refine H.mono ?_;rintro e K⟨z,rfl,v,G,⟨n0,-,-,n3,-,-,-,-,-,r0,r1,r2,r3,r4,r5,rz,F,nM,nJ,nI,nH⟩,j,u⟩;obtain⟨m0,-,-,m3,-,-,-,-,-,Z,X,U,T,R,O,sz,L,-,-,-,-⟩:=q9 j))
 all_goals exact zo
theorem qnm{N c:Int}(C:∀W,lz 144 #[I J N] W (Y QB))
  {v P:RF->Ao->Prop} (B:yg w v) (F:jG w v P 143 λ_=>#[Y ⟨#[110,117,109,98,101,114]⟩,Y QB,I J 2,I J 0])
   (D:jv w P Q):uo 99 #[Ai #[Y ⟨#[110,117,109,98,101,114]⟩,I J a,iv,Y S,Y E,lv,I J N,Ah neg,I J c],inv] w Q:=by
 have L:=jI B (Y ⟨#[110,117,109,98,101,114]⟩) (I J a) iv (Y S) (Y E) lv (I J N) (Ah neg) (I J c);have G:=qd F;have Q8:=qd D;simp only[jG,jv,RF.v]at G Q8;clear B F D;have O:=qd C;clear C;go_enter func99,ntmps99
 go_wp2_with(first|(go_at_call 143;refine(G _ _ _ A H K j).mono ?_;rintro e w1⟨u,r,rfl,hp⟩;have D9:=qd (qg (qg A j) u);obtain⟨-,-,-,-,-,-,-,-,-,q0,q1,q2,q3,q4,q5,qz,ql,-,-,-,-⟩:=(q9 g).h u;have cO:=qd hp;clear u hp)|(go_at_call 144;refine be (O _) λT m=>?_;have j:=qd (qg j m);have g:=qd (g.h m);clear m)|(refine L.mono ?_;rintro e R⟨z,rfl,A,K,⟨n0,-,-,-,-,-,n6,-,-,r0,r1,r2,r3,r4,r5,rz,H,nM,nJ,nI,nH⟩,g,j⟩;obtain⟨m0,-,-,-,-,-,m6,-,-,s0,s1,s2,s3,Z,X,sz,U,-,-,-,-⟩:=q9 g))
 all_goals exact zo
theorem qxo{N c:Int}(B:∀W,uo 145 #[Y S] W λe w'=>e=Ak (Y QB)/\w'=W)
  {m P:RF->Ao->Prop} (A:yg w m) (D:jG w m P 143 λ_=>#[Y ⟨#[116,101,120,116]⟩,Y QB,I J 3,I J (S.size:Nat)])
   (C:jv w P Q):uo 99 #[Ai #[Y ⟨#[116,101,120,116]⟩,I J a,iv,Y S,Y E,lv,I J N,Ah neg,I J c],inv] w Q:=by
 have O:=jI A (Y ⟨#[116,101,120,116]⟩) (I J a) iv (Y S) (Y E) lv (I J N) (Ah neg) (I J c);have F:=qd D;have Q8:=qd C;simp only[jG,jv,RF.v]at F Q8;clear A D C;have R:=qd B;clear B;go_enter func99,ntmps99
 go_wp2_with(refine O.mono ?_;rintro e T⟨z,rfl,v,L,⟨n0,-,-,n3,-,-,-,-,-,r0,r1,r2,r3,r4,r5,rz,K,nM,nJ,nI,nH⟩,j,u⟩;obtain⟨m0,-,-,m3,-,-,-,-,-,s0,s1,s2,s3,s4,X,sz,U,-,-,-,-⟩:=q9 j)
 go_region_held3 (λW=>Xc W (Z w.1) 3 (Y S)) (first|with_reducible assumption|go_keep) (first|(go_at_call 143;refine(F _ _ _ v K L u.drew).mono ?_;rintro e w1⟨g,r,rfl,hp⟩;have D9:=qd (qg (qg v u.drew) g);obtain⟨-,-,-,H,-,-,-,-,-,q0,q1,q2,q3,q4,q5,qz,ql,-,-,-,-⟩:=(q9 j).drew.h g;have cO:=qd hp;have hS:(Xc w1 (Z w.1) 3 (Y S)):=H;clear g hp)|(go_at_call 145;refine be (R _) λG hq=>?_;subst G))
 go_wp2
 all_goals exact zo
theorem vdn{N c:Int}{g:RF}(X:inv=C (G (D b 0 O)) n cap)(hn:1<=n)(T0:b<Z w.1)(A:∀k,k<6->w.cell? (D b k O)=(qB g)[k]?)
  {F P:RF->Ao->Prop} (K:yg w F) (R:jG w F P 100 λ_=>#[g.v])
   (L:jv w P Q):uo 99 #[Ai #[Y ⟨#[78,79,84]⟩,I J a,iv,Y S,Y E,lv,I J N,Ah neg,I J c],inv] w Q:=by
 have DZ:=jI K (Y ⟨#[78,79,84]⟩) (I J a) iv (Y S) (Y E) lv (I J N) (Ah neg) (I J c);have T:=qd R;have Q8:=qd L;simp only[jG,jv,RF.v]at T Q8;clear K R L;have H:=kb1 T0 A;obtain⟨c0,c1,c2,c3,c4,c5⟩:=q9 H w uy;have np:¬b=Z w.1:=uq;have nN:¬b=Z w.1+1:=uq;have tY:¬Z w.1+1=b:=uq;have lB:0<n:=uq;have fA:=lq n;clear A;subst X;go_enter func99,ntmps99
 go_wp2_with(first|(go_at_call 100;refine(T _ _ _ m U bN j).mono ?_;rintro e w1⟨u,r,rfl,hp⟩;have D9:=qd (qg (qg m j) u);obtain⟨-,-,-,-,-,-,-,-,-,q0,q1,q2,q3,q4,q5,qz,ql,-,-,-,-⟩:=(q9 B).h u;have cO:=qd hp;clear u hp)|(refine DZ.mono ?_;rintro e v⟨z,rfl,m,bN,⟨n0,-,-,-,-,-,-,-,-,r0,r1,r2,r3,r4,r5,rz,U,nM,nJ,nI,nH⟩,B,j⟩;obtain⟨m0,-,-,-,-,-,-,-,-,s0,s1,s2,s3,s4,s5,sz,sl,-,-,-,-⟩:=q9 B;obtain⟨v0,v1,v2,v3,v4,v5⟩:=q9 H _ (qg m j);have uW:¬b=Z v.1:=uq;have mH:¬Z v.1=b:=uq))
 all_goals exact zo
theorem qhn{N c:Int}{g:RF}(hi:inv=C (G (D b 0 O)) n cap)(hn:1<=n)(T0:b<Z w.1)(A:∀k,k<6->w.cell? (D b k O)=(qB g)[k]?)(X:(Ae=⟨#[112]⟩/\O2=⟨#[43]⟩)\/(Ae=⟨#[110]⟩/\O2=⟨#[45]⟩))
  {F P:RF->Ao->Prop} (K:yg w F) (R:jG w F P 146 λz=>#[Y O2,z.v,g.v])
   (L:jv w P Q):uo 99 #[Ai #[Y Ae,I J a,iv,Y S,Y E,lv,I J N,Ah neg,I J c],inv] w Q:=by
 have DZ:=jI K (Y Ae) (I J a) iv (Y S) (Y E) lv (I J N) (Ah neg) (I J c);have T:=qd R;have Q8:=qd L;simp only[jG,jv,RF.v]at T Q8;clear K R L;have H:=kb1 T0 A;obtain⟨c0,c1,c2,c3,c4,c5⟩:=q9 H w uy;have np:¬b=Z w.1:=uq;have nN:¬b=Z w.1+1:=uq;have tY:¬Z w.1+1=b:=uq;have lB:0<n:=uq;have fA:=lq n;clear A;subst hi;obtain⟨rfl,rfl⟩|⟨rfl,rfl⟩:=X
 all_goals go_enter func99,ntmps99
 all_goals go_wp2_with(refine DZ.mono ?_;rintro e j⟨z,rfl,u,bN,⟨n0,-,-,-,-,-,-,-,-,r0,r1,r2,r3,r4,r5,rz,U,nM,nJ,nI,nH⟩,B,m⟩;obtain⟨m0,-,-,-,-,-,-,-,-,s0,s1,s2,s3,s4,s5,sz,sl,-,-,-,-⟩:=q9 B;obtain⟨v0,v1,v2,v3,v4,v5⟩:=q9 H _ (qg u m);have uW:¬b=Z j.1:=uq;have mH:¬Z j.1=b:=uq)
 all_goals go_region_held3 (λW=>Kt1 W (Z j.1) z (Kx1 W b g)) (first|with_reducible assumption|(simp only[Kt1,Kx1];go_keep)) (first|(go_at_call 146;refine(T _ _ _ u U bN m.drew).mono ?_;rintro e w1⟨v,r,rfl,hp⟩;have D9:=qd (qg (qg u m.drew) v);obtain⟨-,-,-,-,-,-,-,-,-,q0,q1,q2,q3,q4,q5,qz,ql,-,-,-,-⟩:=(q9 B).drew.h v;have cO:=qd hp;have hS:(Kt1 w1 (Z j.1) z (Kx1 w1 b g)):=(by grind[qi,World.alloc,Below.trans,World.cell?,Hid]);clear v hp))
 all_goals go_wp2
 all_goals exact zo
theorem qhm{N c:Int}{g h:RF}(hi:inv=C (G (D b 0 O)) n cap)(hn:2<=n)(T0:b<Z w.1)(B:∀k,k<12->w.cell? (D b k O)=(qB g++qB h)[k]?)(X:(Ae=⟨#[62]⟩/\O2=⟨#[60]⟩)\/(Ae=⟨#[62,61]⟩/\O2=⟨#[60,61]⟩))
  {H P:RF->Ao->Prop} (K:yg w H) (R:jG w H P 146 λ_=>#[Y O2,h.v,g.v])
   (L:jv w P Q):uo 99 #[Ai #[Y Ae,I J a,iv,Y S,Y E,lv,I J N,Ah neg,I J c],inv] w Q:=by
 have DZ:=jI K (Y Ae) (I J a) iv (Y S) (Y E) lv (I J N) (Ah neg) (I J c);have T:=qd R;have Q8:=qd L;simp only[jG,jv,RF.v]at T Q8;clear K R L;have u:=kb2 T0 B;obtain⟨c0,c1,c2,c3,c4,c5,c6,c7,c8,c9,IJ,IG⟩:=q9 u w uy;have np:¬b=Z w.1:=uq;have nN:¬b=Z w.1+1:=uq;have tY:¬Z w.1+1=b:=uq;have lB:0<n:=uq;have fA:=lq n;have Z7:1<n:=uq;have FF:(1:Int)<(n:Int):=uq;clear B;subst hi;obtain⟨rfl,rfl⟩|⟨rfl,rfl⟩:=X
 all_goals go_enter func99,ntmps99
 all_goals go_wp2_with(refine DZ.mono ?_;rintro e A⟨z,rfl,m,bN,⟨n0,-,-,-,-,-,-,-,-,r0,r1,r2,r3,r4,r5,rz,U,nM,nJ,nI,nH⟩,F,j⟩;obtain⟨m0,-,-,-,-,-,-,-,-,s0,s1,s2,s3,s4,s5,sz,sl,-,-,-,-⟩:=q9 F;obtain⟨v0,v1,v2,v3,v4,v5,v6,v7,v8,v9,DX,DW⟩:=q9 u _ (qg m j);have uW:¬b=Z A.1:=uq;have mH:¬Z A.1=b:=uq)
 all_goals go_region_held3 (λW=>Kx2 W b g h) (first|with_reducible assumption|(simp only[Kx2];go_keep)) (first|(go_at_call 146;refine(T _ _ _ m U bN j.drew).mono ?_;rintro e w1⟨v,r,rfl,hp⟩;have D9:=qd (qg (qg m j.drew) v);obtain⟨-,-,-,-,-,-,-,-,-,q0,q1,q2,q3,q4,q5,qz,ql,-,-,-,-⟩:=(q9 F).drew.h v;have cO:=qd hp;have hS:(Kx2 w1 b g h):=q9 u _ D9;clear v hp))
 all_goals go_wp2
 all_goals exact zo
theorem vdo{N c:Int}{g h:RF}(hi:inv=C (G (D b 0 O)) n cap)(hn:2<=n)(T0:b<Z w.1)(hc:∀k,k<12->w.cell? (D b k O)=(qB g++qB h)[k]?)(j:∀l∈[[110,97,109,101],[110,117,109,98,101,114],[116,101,120,116],[84,82,85,69],[70,65,76,83,69],[78,79,84],[112],[110],[60,62],[62],[62,61],[66,69,84,87,69,69,78],[73,78],[78,85,76,76],[76,73,75,69]],(Ae.toList==l)=uh)
  {H P:RF->Ao->Prop} (HZ:yg w H) (H1:jG w H P 146 λ_=>#[Y Ae,g.v,h.v])
   (HQ:jv w P Q):uo 99 #[Ai #[Y Ae,I J a,iv,Y S,Y E,lv,I J N,Ah neg,I J c],inv] w Q:=by
 have DZ:=jI HZ (Y Ae) (I J a) iv (Y S) (Y E) lv (I J N) (Ah neg) (I J c);have K:=qd H1;have Q8:=qd HQ;simp only[jG,jv,RF.v]at K Q8;have v:=kb2 T0 hc;obtain⟨c0,c1,c2,c3,c4,c5,c6,c7,c8,c9,IJ,IG⟩:=q9 v w uy;have tY:¬Z w.1+1=b:=uq;have lB:0<n:=uq;have FF:(1:Int)<(n:Int):=uq;subst hi;have k0:(Ae.toList==[110,97,109,101])=uh:=j _ ur;have k1:(Ae.toList==[110,117,109,98,101,114])=uh:=j _ ur;have k2:(Ae.toList==[116,101,120,116])=uh:=j _ ur;have k3:(Ae.toList==[84,82,85,69])=uh:=j _ ur;have k4:(Ae.toList==[70,65,76,83,69])=uh:=j _ ur;have k5:(Ae.toList==[78,79,84])=uh:=j _ ur;have k6:(Ae.toList==[112])=uh:=j _ ur;have k7:(Ae.toList==[110])=uh:=j _ ur;have k8:(Ae.toList==[60,62])=uh:=j _ ur;have k9:(Ae.toList==[62])=uh:=j _ ur;have k10:(Ae.toList==[62,61])=uh:=j _ ur;have X:(Ae.toList==[66,69,84,87,69,69,78])=uh:=j _ ur;have U:(Ae.toList==[73,78])=uh:=j _ ur;have T:(Ae.toList==[78,85,76,76])=uh:=j _ ur;have R:(Ae.toList==[76,73,75,69])=uh:=j _ ur;clear j;go_enter func99,ntmps99
 go_wp2_with(refine DZ.mono ?_;rintro e B⟨z,rfl,u,bN,⟨n0,-,-,-,-,-,-,-,-,r0,r1,r2,r3,r4,r5,rz,L,nM,nJ,nI,nH⟩,F,m⟩;obtain⟨m0,-,-,-,-,-,-,-,-,s0,s1,s2,s3,s4,s5,sz,sl,-,-,-,-⟩:=q9 F;obtain⟨v0,v1,v2,v3,v4,v5,v6,v7,v8,v9,DX,DW⟩:=q9 v _ (qg u m);have uW:¬b=Z B.1:=uq;have mH:¬Z B.1=b:=uq)
 go_region_held3 (λW=>Xc W (Z w.1) 0 (Y Ae)/\Kx2 W b g h) (first|with_reducible assumption|(simp only[Kx2];go_keep)) (first|(go_at_call 146;refine(K _ _ _ u L bN m.drew).mono ?_;rintro e w1⟨A,r,rfl,hp⟩;have D9:=qd (qg (qg u m.drew) A);obtain⟨VF,-,-,-,-,-,-,-,-,q0,q1,q2,q3,q4,q5,qz,ql,-,-,-,-⟩:=(q9 F).drew.h A;have cO:=qd hp;have hS:(Xc w1 (Z w.1) 0 (Y Ae)/\Kx2 w1 b g h):=⟨VF,q9 v _ D9⟩;clear A hp))
 go_wp2
 all_goals exact zo
theorem vko{N c:Int}{g:RF}(hi:inv=C (G (D b 0 O)) n cap)(hn:1<=n)(T0:b<Z w.1)(F:∀k,k<6->w.cell? (D b k O)=(qB g)[k]?)
  {K P:RF->Ao->Prop} (L:yg w K) (T:jG w K P 147 λ_=>#[g.v,lv])
   (R:jv w P Q):uo 99 #[Ai #[Y ⟨#[73,78]⟩,I J a,iv,Y S,Y E,lv,I J N,Ah neg,I J c],inv] w Q:=by
 have DZ:=jI L (Y ⟨#[73,78]⟩) (I J a) iv (Y S) (Y E) lv (I J N) (Ah neg) (I J c);have U:=qd T;have Q8:=qd R;simp only[jG,jv,RF.v]at U Q8;clear L T R;have v:=kb1 T0 F;obtain⟨c0,c1,c2,c3,c4,c5⟩:=q9 v w uy;have np:¬b=Z w.1:=uq;have nN:¬b=Z w.1+1:=uq;have tY:¬Z w.1+1=b:=uq;have lB:0<n:=uq;have fA:=lq n;clear F;subst hi;go_enter func99,ntmps99
 go_wp2_with(refine DZ.mono ?_;rintro e B⟨z,rfl,u,bN,⟨n0,-,-,-,-,n5,-,-,-,r0,r1,r2,r3,r4,r5,rz,X,nM,nJ,nI,nH⟩,H,m⟩;obtain⟨m0,-,-,-,-,m5,-,-,-,s0,s1,s2,s3,s4,s5,sz,sl,-,-,-,-⟩:=q9 H;obtain⟨v0,v1,v2,v3,v4,v5⟩:=q9 v _ (qg u m);have uW:¬b=Z B.1:=uq;have mH:¬Z B.1=b:=uq)
 go_region_held3 (λW=>Xc W (Z w.1) 5 (lv)/\Kx1 W b g) (first|with_reducible assumption|(simp only[Kx1];go_keep)) (first|(go_at_call 147;refine(U _ _ _ u X bN m.drew).mono ?_;rintro e w1⟨A,r,rfl,hp⟩;have D9:=qd (qg (qg u m.drew) A);obtain⟨-,-,-,-,-,j,-,-,-,q0,q1,q2,q3,q4,q5,qz,ql,-,-,-,-⟩:=(q9 H).drew.h A;have cO:=qd hp;have hS:(Xc w1 (Z w.1) 5 (lv)/\Kx1 w1 b g):=⟨j,q9 v _ D9⟩;clear A hp))
 go_wp2
 all_goals exact zo
theorem qxn{N c:Int}{g:RF}(hi:inv=C (G (D b 0 O)) n cap)(hn:1<=n)(T0:b<Z w.1)(H:∀k,k<6->w.cell? (D b k O)=(qB g)[k]?)(z1:A g.K<=400000000)(K:ua=[40]++g.K++[32,73,83,32,78,85,76,76,41])
  {X P:RF->Ao->Prop} (HZ:yg w X) (H1:jG w X P 148 λ_=>#[Y ⟨#[78,85,76,76]⟩,Y (BS ua),I J 1,C (G (D b 0 O)) n cap,I J 0])
   (HQ:jv w P Q):uo 99 #[Ai #[Y ⟨#[78,85,76,76]⟩,I J a,iv,Y S,Y E,lv,I J N,Ah neg,I J c],inv] w Q:=by
 have DZ:=jI HZ (Y ⟨#[78,85,76,76]⟩) (I J a) iv (Y S) (Y E) lv (I J N) (Ah neg) (I J c);have u:=qd H1;have Q8:=qd HQ;simp only[jG,jv,RF.v]at u Q8;obtain⟨R1,T,B,a1⟩:=jA ⟨#[40]⟩ (BS g.K) 1 400000000 ux (by grind[qI]) uu;obtain⟨R2,R,y2,a2⟩:=jA R1 ⟨#[32,73,83,32,78,85,76,76,41]⟩ 400000001 9 B ux uu
 have L:BS ua=R2:=by
  rw[K,R,T,show(⟨#[40]⟩:uj)=BS [40] from rfl,show(⟨#[32,73,83,32,78,85,76,76,41]⟩:uj)=BS [32,73,83,32,78,85,76,76,41] from rfl,jB,jB]
 rw[L]at u;clear K L T R B y2 z1;clear HZ H1 HQ;have KB:=kb1 T0 H;obtain⟨c0,c1,c2,c3,c4,c5⟩:=q9 KB w uy;have np:¬b=Z w.1:=uq;have nN:¬b=Z w.1+1:=uq;have tY:¬Z w.1+1=b:=uq;have lB:0<n:=uq;have fA:=lq n;clear H;subst hi;go_enter func99,ntmps99
 go_wp2_with(first|(go_at_call 148;refine(u _ _ _ m rl bN j).mono ?_;rintro e w1⟨v,r,rfl,hp⟩;have D9:=qd (qg (qg m j) v);obtain⟨-,-,-,-,-,-,-,-,-,q0,q1,q2,q3,q4,q5,qz,ql,-,-,-,-⟩:=(q9 U).h v;have cO:=qd hp;clear v hp)|(refine DZ.mono ?_;rintro e F⟨z,rfl,m,bN,⟨n0,-,-,-,-,-,-,-,-,r0,r1,r2,r3,r4,r5,rz,rl,nM,nJ,nI,nH⟩,U,j⟩;obtain⟨m0,-,-,-,-,-,-,-,-,s0,s1,s2,s3,s4,s5,sz,sl,-,-,-,-⟩:=q9 U;obtain⟨v0,v1,v2,v3,v4,v5⟩:=q9 KB _ (qg m j);have uW:¬b=Z F.1:=uq;have mH:¬Z F.1=b:=uq))
 all_goals exact zo
theorem vkp{N c:Int}{g h:RF}(hi:inv=C (G (D b 0 O)) n cap)(hn:2<=n)(T0:b<Z w.1)(hc:∀k,k<12->w.cell? (D b k O)=(qB g++qB h)[k]?)
  {PZ:RF->Ao->Prop} (HZ:yg w PZ)
  (hx:RfAt M w x g) (hy:RfAt M w y h) (U:∀b,M b->b<Z w.1) (zx:gT x) (zy:gT y) (HD:qpz (qq 8 x y)):uo 99 #[Ai #[Y ⟨#[60,62]⟩,I J a,iv,Y S,Y E,lv,I J N,Ah neg,I J c],inv] w (yf M w (vj (qq 8 x y))):=by
 have DZ:=jI HZ (Y ⟨#[60,62]⟩) (I J a) iv (Y S) (Y E) lv (I J N) (Ah neg) (I J c);clear HZ;have R:=kb2 T0 hc;obtain⟨c0,c1,c2,c3,c4,c5,c6,c7,c8,c9,IJ,IG⟩:=q9 R w uy;have np:¬b=Z w.1:=uq;have nN:¬b=Z w.1+1:=uq;have tY:¬Z w.1+1=b:=uq;have lB:0<n:=uq;have fA:=lq n;have Z7:1<n:=uq;have FF:(1:Int)<(n:Int):=uq;clear hc;subst hi;go_enter func99,ntmps99
 go_wp2_with(refine DZ.mono ?_;rintro e L⟨z,rfl,M9,bN,⟨n0,-,-,-,-,-,-,-,-,r0,r1,r2,A,r4,r5,rz,rl,nM,nJ,nI,nH⟩,R9,O7⟩;obtain⟨m0,-,-,-,-,-,-,-,-,s0,s1,s2,s3,s4,s5,sz,sl,-,-,-,-⟩:=q9 R9;obtain⟨v0,v1,v2,v3,v4,v5,v6,v7,v8,v9,DX,DW⟩:=q9 R _ (qg M9 O7);have uW:¬b=Z L.1:=uq;have mH:¬Z L.1=b:=uq)
 obtain⟨w1,X⟩:=il ((L.alloc (Al #[Y z.op,Y (BS z.K),I J z.u,C z.pa z.pn z.pc,C z.ta z.tn z.tc,C z.ra z.rn z.rc] 106)));have B9:Z L.1<Z w1.1:=by rw[X];simp
 have v:=qd (qg M9 O7);rw[<-X]at s0 s1 s2 s3 s4 s5 sz sl v0 v1 v2 v3 v4 v5 v6 v7 v8 v9 DX DW v R9 |-;clear X O7 bN m0 n0 r0 r1 r2 A r4 r5 rz c0 c1 c2 c3 c4 c5 c6 c7 c8 c9 IJ IG;have A0:b<Z w1.1:=uq;have KX:Hid (∀W,Xb w1 W->(Kx2 W b g h)):=qd λW B=>q9 R W (qg v B)
 have T:Hid (∀W,Xb w1 W->RfAt M W x g):=qd λW B=>hx.h (qg v B)
 have BXx:=qd zx;have IM:Hid (∀W,Xb w1 W->RfAt M W y h):=qd λW B=>hy.h (qg v B)
 have BXy:=qd zy;have lK:Hid (∀b,M b->b<Z w1.1):=qd λb h=>au (U b h) v.size
 have HNW:=qd U;clear U R hx zx hy zy;have DN:=qd HD;clear HD
 go_cut [6] (λs6 wx=>∃ob r,s6=Ag (G (D ob 0 O))/\Hid (OutAt M w1 wx ob (qq 8 x y) r))
 case first=>
  have UU:b<Z w1.1:=uq;have TN:¬b=Z w1.1:=uq;have TL:¬Z w1.1=b:=uq;have TWA:Hid (∀W:Ao,Xb w1 W->Z w1.1<Z W.1->TwC (λb=>M b\/(Z w1.1<=b/\b≠Z w1.1)) W ⟨#[61]⟩ g h (qq 8 x y)):=qd λW j h3=>qpk (o:=8) (by simp[vL]) j (gu (T W j) (λ_ h _=>Am h)) (gu (IM W j) (λ_ h _=>Am h)) h3 BXx BXy
  have TWC:Hid (∀W:Ao,Xb w1 W->TwC (λb=>M b\/Z w1.1<=b) W ⟨#[61]⟩ g h (qq 8 x y)):=qd λW j=>vg1 (o:=8) (by simp[vL]) j (gu (T W j) (λ_ h _=>Am h)) (gu (IM W j) (λ_ h _=>Am h)) BXx BXy
  go_region_held3 (λW=>Kx2 W b g h) (first|with_reducible assumption|(simp only[Kx2];go_keep)) (first|(go_at_call 146;refine(TWA (w1.alloc zoC).drew ((Below.refl (Z w1.1) w1).alloc ux zoC).drew (by show Z w1.1<Z (w1.alloc _).1;simp)).mono ?_;rintro e u⟨m,A,rfl,K⟩;have lJ:=qd K;have H:=qd (qg ((Below.refl (Z w1.1) w1).alloc ux zoC).drew m);obtain⟨p0,p1,p2,p3,p4,p5,pz,S4⟩:=(kh w1).drew.h m;have cZ:=(KX u H);clear m K)|(go_at_call 146;refine(TWC w1.drew (Below.refl (Z w1.1) w1).drew).mono ?_;rintro e u⟨m,A,rfl,K⟩;have fV:=qd K;have H:=qd (qg (Below.refl (Z w1.1) w1).drew m);have uY:Z w1.1<=Z u.1:=m.size;have TI:¬b=Z u.1:=uq;have TH:¬Z u.1=b:=uq;have cZ:=(KX u H);clear m K))
  all_goals
   go_wp2
   go_meet
   first
    | (have _q:=lJ;exact⟨_,A,rfl,qd (OutAt.put H ux S4 lK (ex6 p0 p1 p2 p3 p4 p5) pz lJ)⟩)
    | (have _q:=fV;exact⟨_,A,rfl,qd (OutAt.new H fV)⟩)
 obtain⟨ob,r,rfl,F⟩:=hcut;have P:=(q9 F).bel;obtain⟨o0,o1,o2,o3,o4,o5⟩:=(q9 F).k1;have HNC:=qd (R9.h P);have cE:ob<Z wc.1:=(q9 F).lt;have slc:Z w.1+1<Z wc.1:=au sl P.size;have SX:=qd (qg v P);have DNC:Hid (uo 100 #[Ai #[Y r.op,Y (BS r.K),I J r.u,C r.pa r.pn r.pc,C r.ta r.tn r.tc,C r.ra r.rn r.rc]] wc λe w'=>Xb wc w'/\∃q:RF,e=Ak (Ai #[Y q.op,Y (BS q.K),I J q.u,C q.pa q.pn q.pc,C q.ta q.tn q.tc,C q.ra q.rn q.rc])/\RfAt (λb=>M b\/Z w.1+1+1<=b) w' (vj (qq 8 x y)) q):=qd ((DN _ wc r (gu (N':=λb=>(M b\/Z w.1+1+1<=b)/\b<Z wc.1) F.rf (λb h hl=>⟨by obtain h|h:=h;exact Am h;right;omega,hl⟩)) (λb h=>h.2)).mono (by rintro e w'⟨j,q,e1,h2⟩;exact⟨j,q,e1,gu h2 (λb h _=>by obtain h|h:=h;exact h.1;right;omega)⟩));clear DN F P s0 s1 s2 s3 s4 s5 sz v0 v1 v2 v3 v4 v5 v6 v7 v8 v9 DX DW T IM KX
 go_wp2_with(refine DNC.mono ?_;rintro e w4⟨G7,q,rfl,hq⟩;have AK:=qd hq;have Z8:=qd (qg SX G7);obtain⟨-,-,-,-,-,-,-,-,-,q0,q1,q2,q3,q4,q5,qz,ql,-,-,-,-⟩:=(q9 HNC).h G7;clear G7 hq)
 all_goals refine bo (by simp[go_sem,q0,q1,q2,q3,q4,q5]<;>rfl) rfl ?_
 all_goals exact yn HNW Z8 AK (kL _ _ _ _ _ _ _ _)
theorem qk3{N c:Int}{u:Co}{g h j:RF}(hi:inv=C (G (D b 0 O)) n cap)(hn:3<=n)(T0:b<Z w.1)(hc:∀k,k<18->w.cell? (D b k O)=(qB g++qB h++qB j)[k]?)
  {PZ:RF->Ao->Prop} (HZ:yg w PZ)
  (hx:RfAt M w x g) (hy:RfAt M w y h) (hu:RfAt M w u j) (hN:∀b,M b->b<Z w.1) (zx:gT x) (zy:gT y) (zu:gT u) (byx:gT (qq 11 y x)) (bxu:gT (qq 11 x u)):uo 99 #[Ai #[Y ⟨#[66,69,84,87,69,69,78]⟩,I J a,iv,Y S,Y E,lv,I J N,Ah neg,I J c],inv] w (yf M w (qq 6 (qq 11 y x) (qq 11 x u))):=by
 have DZ:=jI HZ (Y ⟨#[66,69,84,87,69,69,78]⟩) (I J a) iv (Y S) (Y E) lv (I J N) (Ah neg) (I J c);clear HZ;have KB:=kb3 T0 hc;obtain⟨c0,c1,c2,c3,c4,c5,c6,c7,c8,c9,IJ,IG,c12,c13,c14,c15,c16,c17⟩:=q9 KB w uy;have np:¬b=Z w.1:=uq;have nN:¬b=Z w.1+1:=uq;have tY:¬Z w.1+1=b:=uq;have lB:0<n:=uq;have fA:=lq n;have Z7:1<n:=uq;have FF:(1:Int)<(n:Int):=uq;have K9:2<n:=uq;have hni2:(2:Int)<(n:Int):=uq;clear hc;subst hi;go_enter func99,ntmps99
 go_wp2_with(refine DZ.mono ?_;rintro e wz⟨z,rfl,M9,bN,⟨n0,-,-,-,-,-,-,-,-,r0,r1,r2,P,r4,r5,rz,rl,nM,nJ,nI,nH⟩,R9,O7⟩;obtain⟨m0,-,-,-,-,-,-,-,-,s0,s1,s2,s3,s4,s5,sz,sl,-,-,-,-⟩:=q9 R9;obtain⟨v0,v1,v2,v3,v4,v5,v6,v7,v8,v9,DX,DW,v12,v13,v14,v15,v16,v17⟩:=q9 KB _ (qg M9 O7);have uW:¬b=Z wz.1:=uq;have mH:¬Z wz.1=b:=uq)
 obtain⟨w1,eT⟩:=il ((wz.alloc (Al #[Y z.op,Y (BS z.K),I J z.u,C z.pa z.pn z.pc,C z.ta z.tn z.tc,C z.ra z.rn z.rc] 106)));have B9:Z wz.1<Z w1.1:=by rw[eT];simp
 have D9:=qd (qg M9 O7);rw[<-eT]at s0 s1 s2 s3 s4 s5 sz sl v0 v1 v2 v3 v4 v5 v6 v7 v8 v9 DX DW v12 v13 v14 v15 v16 v17 D9 R9 |-;clear eT O7 bN m0 n0 r0 r1 r2 P r4 r5 rz c0 c1 c2 c3 c4 c5 c6 c7 c8 c9 IJ IG c12 c13 c14 c15 c16 c17;have A0:b<Z w1.1:=uq;have R:Hid (∀W,Xb w1 W->(Kx3 W b g h j)):=qd λW A=>q9 KB W (qg D9 A)
 have T:Hid (∀W,Xb w1 W->RfAt M W x g):=qd λW A=>hx.h (qg D9 A)
 have BXx:=qd zx;have IM:Hid (∀W,Xb w1 W->RfAt M W y h):=qd λW A=>hy.h (qg D9 A)
 have BXy:=qd zy;have QL:Hid (∀W,Xb w1 W->RfAt M W u j):=qd λW A=>hu.h (qg D9 A)
 have BXu:=qd zu;have lK:Hid (∀b,M b->b<Z w1.1):=qd λb h=>au (hN b h) D9.size
 have HNW:=qd hN;clear hN KB hx zx hy zy hu zu;have BYX:=qd byx;have BXU:=qd bxu;clear byx bxu
 go_cut [7] (λs7 wx=>∃F r,s7=Ag (G (D F 0 O))/\Hid (OutAt M w1 wx F (qq 11 y x) r))
 case first=>
  have UU:b<Z w1.1:=uq;have TN:¬b=Z w1.1:=uq;have TL:¬Z w1.1=b:=uq;have TWA:Hid (∀W:Ao,Xb w1 W->Z w1.1<Z W.1->TwC (λb=>M b\/(Z w1.1<=b/\b≠Z w1.1)) W ⟨#[60,61]⟩ h g (qq 11 y x)):=qd λW v h3=>qpk (o:=11) (by simp[vL]) v (gu (IM W v) (λ_ h _=>Am h)) (gu (T W v) (λ_ h _=>Am h)) h3 BXy BXx
  have TWC:Hid (∀W:Ao,Xb w1 W->TwC (λb=>M b\/Z w1.1<=b) W ⟨#[60,61]⟩ h g (qq 11 y x)):=qd λW v=>vg1 (o:=11) (by simp[vL]) v (gu (IM W v) (λ_ h _=>Am h)) (gu (T W v) (λ_ h _=>Am h)) BXy BXx
  go_region_held3 (λW=>Kx3 W b g h j) (first|with_reducible assumption|(simp only[Kx3];go_keep)) (first|(go_at_call 146;refine(TWA (w1.alloc zoC).drew ((Below.refl (Z w1.1) w1).alloc ux zoC).drew (by show Z w1.1<Z (w1.alloc _).1;simp)).mono ?_;rintro e H⟨B,P,rfl,L⟩;have lJ:=qd L;have K:=qd (qg ((Below.refl (Z w1.1) w1).alloc ux zoC).drew B);obtain⟨p0,p1,p2,p3,p4,p5,pz,S4⟩:=(kh w1).drew.h B;have cZ:=(R H K);clear B L)|(go_at_call 146;refine(TWC w1.drew (Below.refl (Z w1.1) w1).drew).mono ?_;rintro e H⟨B,P,rfl,L⟩;have fV:=qd L;have K:=qd (qg (Below.refl (Z w1.1) w1).drew B);have uY:Z w1.1<=Z H.1:=B.size;have TI:¬b=Z H.1:=uq;have TH:¬Z H.1=b:=uq;have cZ:=(R H K);clear B L))
  all_goals
   go_wp2
   go_meet
   first
    | (have _q:=lJ;exact⟨_,P,rfl,qd (OutAt.put K ux S4 lK (ex6 p0 p1 p2 p3 p4 p5) pz lJ)⟩)
    | (have _q:=fV;exact⟨_,P,rfl,qd (OutAt.new K fV)⟩)
 obtain⟨F,ra,rfl,X⟩:=hcut;obtain⟨m,rfl⟩:=il (wc:Ao);have iN:=(q9 X).bel;have hza:=iN.size;obtain⟨u0,u1,u2,u3,u4,u5,u6,u7,u8,u9,u10,u11,u12,u13,u14,u15,u16,u17⟩:=q9 R m iN;have U:Hid (∀W,Xb m W->(Kx1 W F ra)):=qd λW A=>vsw λi hi=>(A.cell (p:=D F i O) X.lt).trans (X.cells i hi)
 obtain⟨o0,o1,o2,o3,o4,o5⟩:=q9 U m uy;have R9:=qd (R9.h iN);have cE:F<Z m.1:=(q9 X).lt;have hog:Z w1.1<=F:=(q9 X).ge;have hlba:b<Z m.1:=uq;have SX:=qd (qg D9 iN);have uS:=R;have HBO:=qd iN;have R:Hid (∀W,Xb m W->(Kx3 W b g h j)):=qd λW A=>q9 uS W (qg HBO A)
 have T:Hid (∀W,Xb m W->RfAt (λb=>(M b\/(Z w1.1<=b/\b≠F))/\b<Z m.1) W x g):=qd λW A=>gu (T W (qg HBO A)) (λb h _=>⟨Am h,au (lK b h) hza⟩)
 have QL:Hid (∀W,Xb m W->RfAt (λb=>(M b\/(Z w1.1<=b/\b≠F))/\b<Z m.1) W u j):=qd λW A=>gu (QL W (qg HBO A)) (λb h _=>⟨Am h,au (lK b h) hza⟩)
 have lK:Hid (∀b,(M b\/(Z w1.1<=b/\b≠F))/\b<Z m.1->b<Z m.1):=qd λb h=>h.2
 obtain⟨-,-,-,-,-,-,-,-,-,t0,t1,t2,t3,t4,t5,tz,tl,-,-,-,-⟩:=q9 R9;clear s0 s1 s2 s3 s4 s5 sz v0 v1 v2 v3 v4 v5 v6 v7 v8 v9 DX DW v12 v13 v14 v15 v16 v17 iN uS IM
 go_wp2
 go_cut [8] (λs8 wx=>∃ob r,s8=Ag (G (D ob 0 O))/\Hid (OutAt (λb=>(M b\/(Z w1.1<=b/\b≠F))/\b<Z m.1) m wx ob (qq 11 x u) r))
 case first=>
  have UU:b<Z m.1:=uq;have TN:¬b=Z m.1:=uq;have TL:¬Z m.1=b:=uq;have TWA:Hid (∀W:Ao,Xb m W->Z m.1<Z W.1->TwC (λb=>(λb=>(M b\/(Z w1.1<=b/\b≠F))/\b<Z m.1) b\/(Z m.1<=b/\b≠Z m.1)) W ⟨#[60,61]⟩ g j (qq 11 x u)):=qd λW v h3=>qpk (o:=11) (by simp[vL]) v (gu (T W v) (λ_ h _=>Am h)) (gu (QL W v) (λ_ h _=>Am h)) h3 BXx BXu
  have TWC:Hid (∀W:Ao,Xb m W->TwC (λb=>(λb=>(M b\/(Z w1.1<=b/\b≠F))/\b<Z m.1) b\/Z m.1<=b) W ⟨#[60,61]⟩ g j (qq 11 x u)):=qd λW v=>vg1 (o:=11) (by simp[vL]) v (gu (T W v) (λ_ h _=>Am h)) (gu (QL W v) (λ_ h _=>Am h)) BXx BXu
  go_region_held3 (λW=>Kx3 W b g h j) (first|with_reducible assumption|(simp only[Kx3];go_keep)) (first|(go_at_call 146;refine(TWA (m.alloc zoC).drew ((Below.refl (Z m.1) m).alloc ux zoC).drew (by show Z m.1<Z (m.alloc _).1;simp)).mono ?_;rintro e H⟨B,P,rfl,L⟩;have lJ:=qd L;have K:=qd (qg ((Below.refl (Z m.1) m).alloc ux zoC).drew B);obtain⟨p0,p1,p2,p3,p4,p5,pz,S4⟩:=(kh m).drew.h B;have cZ:=(R H K);clear B L)|(go_at_call 146;refine(TWC m.drew (Below.refl (Z m.1) m).drew).mono ?_;rintro e H⟨B,P,rfl,L⟩;have fV:=qd L;have K:=qd (qg (Below.refl (Z m.1) m).drew B);have uY:Z m.1<=Z H.1:=B.size;have TI:¬b=Z H.1:=uq;have TH:¬Z H.1=b:=uq;have cZ:=(R H K);clear B L))
  all_goals
   go_wp2
   go_meet
   first
    | (have _q:=lJ;exact⟨_,P,rfl,qd (OutAt.put K ux S4 lK (ex6 p0 p1 p2 p3 p4 p5) pz lJ)⟩)
    | (have _q:=fV;exact⟨_,P,rfl,qd (OutAt.new K fV)⟩)
 obtain⟨ob,rb,rfl,HP⟩:=hcut;have iM:=(q9 HP).bel;have hzp:=iM.size;obtain⟨a0,a1,a2,a3,a4,a5⟩:=q9 U wc iM;obtain⟨b0,b1,b2,b3,b4,b5⟩:=(q9 HP).k1;have HNC:=qd (R9.h iM);have hpc:ob<Z wc.1:=(q9 HP).lt;have hoc2:F<Z wc.1:=uq;have sld:Z w.1+1<Z wc.1:=uq;have nF:=qd (qg SX iM);have TW:Hid (TwC (λb=>M b\/Z w.1+1+1<=b) wc ⟨#[65,78,68]⟩ ra rb (qq 6 (qq 11 y x) (qq 11 x u))):=qd ((pT (o:=6) (by simp[vL]) (gu (N':=λb=>(M b\/Z w.1+1+1<=b)/\b<Z wc.1) (X.rf.h iM) (λb h hl=>⟨by obtain h|h:=h;exact Am h;right;omega,hl⟩)) (gu (N':=λb=>(M b\/Z w.1+1+1<=b)/\b<Z wc.1) HP.rf (λb h hl=>⟨by obtain h|h:=h;obtain h|h:=h.1;exact Am h;right;omega;right;omega,hl⟩)) BYX BXU (λb h=>h.2)).mono (by rintro e w'⟨v,q,e1,h2⟩;exact⟨v,q,e1,gu h2 (λb h _=>by obtain h|h:=h;exact h.1;right;omega)⟩));clear X HP iM T QL R U
 go_wp2_with(refine TW.mono ?_;rintro e w4⟨G7,q,rfl,hq⟩;have AK:=qd hq;have Z8:=qd (qg nF G7);obtain⟨-,-,-,-,-,-,-,-,-,q0,q1,q2,q3,q4,q5,qz,ql,-,-,-,-⟩:=(q9 HNC).h G7;clear G7 hq)
 all_goals refine bo (by simp[go_sem,q0,q1,q2,q3,q4,q5]<;>rfl) rfl ?_
 all_goals exact yn HNW Z8 AK (kL _ _ _ _ _ _ _ _)
theorem qn{N c:Int}{g:RF}(hi:inv=C (G (D b 0 O)) n cap)(hn:1<=n)(T0:b<Z w.1)(hc:∀k,k<6->w.cell? (D b k O)=(qB g)[k]?){q q':uk}(B:(E.toList==[])=ui/\ua=[40]++g.K++[32,76,73,75,69,32]++q++[41]\/(E.toList==[])=uh/\ua=[40]++g.K++[32,76,73,75,69,32]++q++[32,69,83,67,65,80,69,32]++q'++[41])(z1:A g.K<=400000000)(z2:A q<=100000)(z3:A q'<=100000)(HT:∀W,uo 145 #[Y S] W λe w'=>e=Ak (Y (BS q))/\w'=W)(QP:∀W,uo 145 #[Y E] W λe w'=>e=Ak (Y (BS q'))/\w'=W)
  {PZ P:RF->Ao->Prop} (HZ:yg w PZ) (H1:jG w PZ P 148 λ_=>#[Y ⟨#[76,73,75,69]⟩,Y (BS ua),I J 1,C (G (D b 0 O)) n cap,I J (S.size:Nat)])
   (HQ:jv w P Q):uo 99 #[Ai #[Y ⟨#[76,73,75,69]⟩,I J a,iv,Y S,Y E,lv,I J N,Ah neg,I J c],inv] w Q:=by
 have DZ:=jI HZ (Y ⟨#[76,73,75,69]⟩) (I J a) iv (Y S) (Y E) lv (I J N) (Ah neg) (I J c);have L:=qd H1;have Q8:=qd HQ;simp only[jG,jv,RF.v]at L Q8;obtain⟨R1,K,U,a1⟩:=jA ⟨#[40]⟩ (BS g.K) 1 400000000 ux (by rwa[qI]) uu;obtain⟨R2,H,T,a2⟩:=jA R1 ⟨#[32,76,73,75,69,32]⟩ 400000001 6 U ux uu;obtain⟨R3,F,v,a3⟩:=jA R2 (BS q) 400000007 100000 T (by rwa[qI]) uu;have DT:=qd HT;have u:=qd QP;obtain⟨QB,wZ⟩:=ie (BS q);rw[wZ]at DT;obtain⟨QC,j⟩:=ie (BS q');rw[j]at u;clear HZ H1 HQ;have KB:=kb1 T0 hc;obtain⟨c0,c1,c2,c3,c4,c5⟩:=q9 KB w uy;have np:¬b=Z w.1:=uq;have nN:¬b=Z w.1+1:=uq;have tY:¬Z w.1+1=b:=uq;have lB:0<n:=uq;have fA:=lq n;clear hc;subst hi;obtain⟨B,rfl⟩|⟨B,rfl⟩:=B
 all_goals first|(have _q:(E.toList==[])=ui:=B;obtain⟨R6,m,R,a6⟩:=jA R3 ⟨#[41]⟩ 400100007 1 v ux uu;rw[show BS ([40]++g.K++[32,76,73,75,69,32]++q++[41])=R6 by rw[m,F,H,K,show(⟨#[40]⟩:uj)=BS [40] from rfl,show(⟨#[41]⟩:uj)=BS [41] from rfl,show(⟨#[32,76,73,75,69,32]⟩:uj)=BS [32,76,73,75,69,32] from rfl,jB,jB,jB,jB]]at L;rw[wZ]at a3;clear _q HT QP K U H T F v m R z1 z2)|(obtain⟨R4,e4,y4,a4⟩:=jA R3 ⟨#[32,69,83,67,65,80,69,32]⟩ 400100007 8 v ux uu;obtain⟨R5,e5,y5,a5⟩:=jA R4 (BS q') 400100015 100000 y4 (by rwa[qI]) uu;obtain⟨R6,m,R,a6⟩:=jA R5 ⟨#[41]⟩ 400200015 1 y5 ux uu;rw[show BS ([40]++g.K++[32,76,73,75,69,32]++q++[32,69,83,67,65,80,69,32]++q'++[41])=R6 by rw[m,e5,e4,F,H,K,show(⟨#[40]⟩:uj)=BS [40] from rfl,show(⟨#[41]⟩:uj)=BS [41] from rfl,show(⟨#[32,76,73,75,69,32]⟩:uj)=BS [32,76,73,75,69,32] from rfl,show(⟨#[32,69,83,67,65,80,69,32]⟩:uj)=BS [32,69,83,67,65,80,69,32] from rfl,jB,jB,jB,jB,jB,jB]]at L;rw[wZ]at a3;rw[j]at a5;clear HT QP K U H T F v e4 y4 e5 y5 m R z1 z2)
 all_goals go_enter func99,ntmps99
 all_goals go_wp2_with(refine DZ.mono ?_;rintro e wz⟨z,rfl,M9,bN,⟨n0,-,-,n3,n4,-,-,-,-,r0,r1,r2,r3,r4,r5,rz,rl,nM,nJ,nI,nH⟩,R9,O7⟩;obtain⟨m0,-,-,m3,m4,-,-,-,-,s0,s1,s2,s3,s4,s5,sz,sl,-,-,-,-⟩:=q9 R9;obtain⟨v0,v1,v2,v3,v4,v5⟩:=q9 KB _ (qg M9 O7);have uW:¬b=Z wz.1:=uq;have mH:¬Z wz.1=b:=uq)
 all_goals go_region_held3 (λW=>Xc W (Z w.1) 3 (Y S)/\Xc W (Z w.1) 4 (Y E)/\Kx1 W b g) (first|with_reducible assumption|(simp only[Kx1];go_keep)) ((go_at_call 145;refine be (DT _) λX hq=>?_;subst X))
 all_goals go_wp2_with(first|(go_at_call 148;refine(L _ _ _ M9 rl bN O7.drew).mono ?_;rintro e w1⟨A0,r,rfl,hp⟩;have D9:=qd (qg (qg M9 O7.drew) A0);obtain⟨-,-,-,-,-,-,-,-,-,q0,q1,q2,q3,q4,q5,qz,ql,-,-,-,-⟩:=(q9 R9).drew.h A0;have cO:=qd hp;clear A0 hp)|(refine be (u _) λX hq=>?_;subst X))
 all_goals exact zo
def gZ(p:Pay):List Co->Co
 | []=>.leaf (yt p)
 | [x]=>if p.op==14 then qq 16 (gO 0) x else if p.op==15 then qq 17 (gO 0) x else if p.op==5 then vj x
   else if p.op==21 then vO x p.i else .un (yt p) x
 | [x,y]=>if p.op==12 then qq 10 y x else if p.op==13 then qq 11 y x else if p.op==9 then vj (qq 8 x y) else qq p.op x y
 | x::y::z::_=>qq 6 (qq 11 y x) (qq 11 x z)
def nC:Co:=.leaf (qr 3)
def vpz(cs:List Co)(n:RN):List Co:=n.ins.map λk=>cs.getD k nC
def qjf(cs:List Co)(n:RN):Co:=if n.neg=ui then vj (gZ (qgu n) (vpz cs n)) else gZ (qgu n) (vpz cs n)
def pB:List Co->List RN->List Co
 | cs,[]=>cs
 | cs,n::t=>pB (cs++[qjf cs n]) t
theorem qbg(cs:List Co)(l k:List RN):pB cs (l++k)=pB (pB cs l) k:=by
 induction l generalizing cs<;>grind[pB]
theorem vm6:∀(l:List RN) (cs:List Co),A (pB cs l)=A cs+A l:=by
 intro l
 induction l<;>grind[pB]
theorem vek{n:RN}(g:ns[k]?=G n)(hv:pB [] (ns.take k)=cs):pB [] (ns.take (k+1))=cs++[qjf cs n]:=by
 rw[dt,g,qbg,hv];rfl
theorem kM:∀c,WfC c->A (qG c)<=A (qu c)+1:=by
 intro c
 induction c<;>grind[qG,qu,qK,unB,jV,WfC]
structure Gc(c:Co):Prop where
 len:A (qu c)<=120000000
 un:uC c<=200
 wt:WT c
theorem Gc.sz(h:Gc c):SzC c:=by grind[kM,WT.wf,Gc,SzC]
theorem Gc.big(h:Gc c):gT c:=h.sz.big
theorem vtk(h:vL o):qvv o=ui/\jp o=uh/\unB o=uh:=by
 obtain rfl|rfl|rfl|rfl|rfl|rfl|rfl|rfl|rfl:=h<;>exact⟨rfl,rfl,rfl⟩
theorem vf2(o:Int):A (jJ o)<=3:=by
 grind[jJ]
theorem zK(u:vL o)(m:WT x)(j:WT y)(g:o=6\/o=7->Tb x/\Tb y):WT (qq o x y):=by
 unfold qq
 split
 exact⟨u,λh=>⟨(g h).2,(g h).1⟩,j,m⟩;exact⟨u,g,m,j⟩
theorem vs5(o:Int)(x y:Co):opC (qq o x y)=o:=by
 unfold qq
 split<;>rfl
theorem xD(h:o=6\/o=7\/o=8\/o=10\/o=11)(x y:Co):Tb (qq o x y):=by
 right
 rw[vs5];obtain rfl|rfl|rfl|rfl|rfl:=h<;>rfl
theorem vpf:∀{c:Co},WT c->Tb c->WT (vj c)/\Tb (vj c):=by
 intro c
 induction c with
 | leaf p=>
  intro h g;unfold vj
  split
  exact⟨⟨uu,uu⟩,An rfl⟩
  split
  exact⟨⟨uu,uu⟩,An rfl⟩;exact⟨⟨Am rfl,λ_=>g,h⟩,An rfl⟩
 | un p x ih=>
  intro h g;unfold vj
  split
  grind[WT]
  exact⟨⟨Am rfl,λ_=>g,h⟩,An rfl⟩
 | bin p x y ihx ihy=>
  intro h g
  have two:∀o,o=6\/o=7->(p.op=6\/p.op=7)->WT (qq o (vj x) (vj y))/\Tb (qq o (vj x) (vj y)):=λo j hp=>by
   obtain⟨tx,ty⟩:=h.2.1 hp;obtain⟨a,b⟩:=ihx h.2.2.1 tx;obtain⟨c,d⟩:=ihy h.2.2.2 ty;exact⟨zK (by unfold vL;omega) a c (λ_=>⟨b,d⟩),xD uq _ _⟩
  unfold vj
  split
  grind
  split
  grind
  split
  grind[zK,vL,xD,WT]
  split
  grind[zK,vL,xD,WT]
  exact⟨⟨Am rfl,λ_=>g,h⟩,An rfl⟩
theorem vtr(t:uk):WT (vl t):=by constructor<;>grind
theorem vpg(n:Int):WT (gO n):=by constructor<;>grind
theorem vw2(g:WT x)(t:uk):WT (qq 8 x (vl t))/\Tb (qq 8 x (vl t)):=by grind[zK,vL,vtr,xD]
theorem vnd(m:WT x):∀(r:List uk) (f:Co),WT f->Tb f->WT (zC x f r)/\Tb (zC x f r):=by
 intro r
 induction r with
 | nil=>intro f j g;exact⟨j,g⟩
 | cons t r ih=>
  intro f j g;obtain⟨a,b⟩:=vw2 m t;exact ih _ (zK (by unfold vL;omega) j a (λ_=>⟨g,b⟩)) (xD uq _ _)
theorem vnc(g:WT x)(h:ts≠[]):WT (vO x ts)/\Tb (vO x ts):=by
 grind[vO,qdz,vw2,vnd]
theorem qqv{want j c k:Int}{g:List CRes}(h:xq want j c g=.ok k):k=c:=by
 grind[xq]
theorem vnh{x:Ast}{k:Int}(m:ShA (.un p x))(g:qC (.un p x)=.ok k):∃d,qC x=.ok d/\(p.op=5->d=3\/d=0):=by
 have g:qR p.op p.U [qC x]=.ok k:=g;obtain e|e|e|e|e|e:=m.1
 .rw[e]at g
  obtain⟨d,j,u⟩:=ve (show xq 3 p.U 3 [qC x]=.ok k from g) (qC x) ur;exact⟨d,j,λ_=>u⟩
 .rw[e]at g
  obtain⟨d,j,_⟩:=ve (show xq 1 p.U 1 [qC x]=.ok k from g) (qC x) ur;exact⟨d,j,λh=>uq⟩
 .rw[e]at g
  obtain⟨d,j,_⟩:=ve (show xq 1 p.U 1 [qC x]=.ok k from g) (qC x) ur;exact⟨d,j,λh=>uq⟩
 all_goals
  obtain⟨q,rfl,v⟩:=xP m.2.2.2 (m.2.2.1 uq);exact⟨0,by show qR q.op q.U []=.ok 0;rw[v];rfl,λ_=>An rfl⟩
theorem vag{x y:Ast}{k:Int}(B:ShA (.bin p x y))(j:qC (.bin p x y)=.ok k):∃d e,qC x=.ok d/\qC y=.ok e/\(p.op=6\/p.op=7->(d=3\/d=0)/\(e=3\/e=0)):=by
 have j:qR p.op p.U [qC x,qC y]=.ok k:=j
 have C:∀w g,xq w p.U g [qC x,qC y]=.ok k->∃d e,qC x=.ok d/\qC y=.ok e/\(d=w\/d=0)/\(e=w\/e=0):=λw g h=>by
  obtain⟨d,A,v⟩:=ve h (qC x) ur;obtain⟨e,u,m⟩:=ve h (qC y) ur;exact⟨d,e,A,u,v,m⟩
 grind[qR,qay,ShA]
theorem vaj{x y z:Ast}{k:Int}(j:ShA (.tri p x y z))(g:qC (.tri p x y z)=.ok k):(∃d,qC x=.ok d)/\(∃d,qC y=.ok d)/\∃d,qC z=.ok d:=by
 have g:qR p.op p.U [qC x,qC y,qC z]=.ok k:=g;rw[j.1]at g;obtain⟨B,x1,_⟩:=ve g (qC x) ur;obtain⟨A,u,_⟩:=ve g (qC y) ur;obtain⟨v,m,_⟩:=ve g (qC z) ur
 grind
theorem vgj:∀t,ShA t->∀k,qC t=.ok k->WT (qj t)/\(k=3\/k=0->Tb (qj t)):=by
 intro t
 induction t with
 | leaf p=>
  intro g k j;refine⟨⟨g.1,g.2⟩,λD=>?_⟩;have j:qR p.op p.U []=.ok k:=j;show p.op=0\/qqk p.op=1;have A:=g.1;have v:=g.2;rcases(show p.op=0\/p.op=1\/p.op=2\/p.op=3\/p.op=4 by omega) with e|e|e|e|e<;>rw[e]at j |-
  exact Am rfl;simp[qR]at j;omega;simp[qR]at j;omega;exact An rfl;exact An rfl
 | un p x ih=>
  intro g k j;obtain⟨d,hd,G⟩:=vnh g j;obtain⟨m,tx⟩:=ih g.2.2.2 d hd;have j:qR p.op p.U [qC x]=.ok k:=j;obtain e|e|e|e|e|e:=g.1
  grind[qj,vpf]
  grind[qR,vnh,qC,qj,vpf,qq,gO,qqv,zK,vL,vpg]
  .rw[show qj (.un p x)=qq 17 (gO 0) (qj x) by rw[qj,e];rfl]
   rw[e]at j;have:=qqv (show xq 1 p.U 1 [qC x]=.ok k from j);exact⟨zK (by unfold vL;omega) (vpg 0) m uq,uq⟩
  grind[qj,vnc,ShA]
  .rw[show qj (.un p x)=.un (yt p) (qj x) by rw[qj,e];rfl]
   exact⟨⟨An (Am e),λh=>absurd (show p.op=5 from h) uq,m⟩,λ_=>An (by show qqk p.op=1;rw[e];rfl)⟩
  rw[show qj (.un p x)=.un (yt p) (qj x) by rw[qj,e];rfl];exact⟨⟨An (An e),λh=>absurd (show p.op=5 from h) uq,m⟩,λ_=>An (by show qqk p.op=1;rw[e];rfl)⟩
 | bin p x y ihx ihy=>
  intro g k j;obtain⟨d,e,A,v,u⟩:=vag g j;obtain⟨m,tx⟩:=ihx g.2.1 d A;obtain⟨B,ty⟩:=ihy g.2.2 e v
  by_cases I2:p.op=12
  .grind[qj,zK,vL,xD]
  by_cases i6:p.op=13
  .grind[qj,zK,vL,xD]
  by_cases h9:p.op=9
  .grind[qj,vpf,zK,vL,xD]
  rw[show qj (.bin p x y)=qq p.op (qj x) (qj y) by grind[qj]];refine⟨zK (by grind[vL,ShA]) m B λh=>⟨tx (u h).1,ty (u h).2⟩,λD=>xD ?_ _ _⟩;have F:=g.1
  by_cases h16:16<=p.op
  grind[qR,qC,qqv]
  omega
 | tri p x y z ihx ihy ihz=>
  intro g k j;obtain⟨⟨_,A⟩,⟨_,v⟩,_,u⟩:=vaj g j;have m:=(ihx g.2.1 _ A).1;have B:=(ihy g.2.2.1 _ v).1;have C:=(ihz g.2.2.2 _ u).1;exact⟨zK (by unfold vL;omega) (zK (by unfold vL;omega) B m uq) (zK (by unfold vL;omega) m C uq) (λ_=>⟨xD uq _ _,xD uq _ _⟩),λ_=>xD uq _ _⟩
def GcA:Ast->Prop
 | .leaf p=>Gc (qj (.leaf p))
 | .un p x=>Gc (qj (.un p x))/\(p.op=5->Tb (qj x))/\(p.op=21->A (qu (qj x))<=402/\p.i≠[]/\∀t∈p.i,A t<=200)/\GcA x
 | .bin p x y=>Gc (qj (.bin p x y))/\GcA x/\GcA y
 | .tri p x y z=>Gc (qj (.tri p x y z))/\GcA x/\GcA y/\GcA z
theorem GcA.gc{t:Ast}(h:GcA t):Gc (qj t):=by
 cases t<;>grind[GcA]
theorem qdt{t:Ast}(h:Gd t)(g:ndA t<=200)(j:ShA t){k:Int}(m:qC t=.ok k):Gc (qj t):=by
 refine⟨?_,bu h.un g,(vgj t j k m).1⟩;have v:=h.len;have u:ndA t * ndA t<=200 * 200:=oy g g;omega
theorem vb5:∀t,GdA t->ndA t<=200->ShA t->qi6 t->qi9 t->BqA t->∀k,qC t=.ok k->GcA t:=by
 intro t
 induction t with
 | leaf p=>grind[qdt,GdA,GcA]
 | un p x ih=>
  intro m B g v j hq k u;obtain⟨d,hd,C⟩:=vnh g u;have F:ndA (.un p x)=1+A p.i+ndA x:=rfl;refine⟨qdt m.1 B g u,λe=>(vgj x g.2.2.2 d hd).2 (C e),λe=>⟨?_,g.2.1 e,hq.1.2⟩,ih m.2 uq g.2.2.2 v.2 j.2 hq.2 d hd⟩;obtain⟨q,rfl,D⟩:=xP g.2.2.2 (g.2.2.1 uq);exact qb3 (yt q) v.2.1 j.2 (by unfold jp;simp[yt,D])
 | bin p x y ihx ihy =>grind[vag,ndA,qdt,GdA,ShA,qi6,qi9,BqA,GcA]
 | tri p x y z ihx ihy ihz =>grind[vaj,ndA,qdt,GdA,ShA,qi6,qi9,BqA,GcA]
structure NdC(p:Pay)(neg:Bool)(xs:List Co):Prop where
 few:A xs=qab p.op
 gc:∀x∈xs,Gc x
 all:Gc (gZ p xs)
 tb:p.op=5->∀x∈xs,Tb x
 no:neg=ui->Tb (gZ p xs)
 nm:p.op=21->∀x∈xs,A (qu x)<=402
 tx:p.op=21->p.i≠[]/\∀t∈p.i,A t<=200
def qq0:List Co->List RN->Prop
 | _,[]=>True
 | cs,n::t=>NdC (qgu n) n.neg (vpz cs n)/\qq0 (cs++[qjf cs n]) t
theorem qbn(cs:List Co)(l k:List RN):qq0 cs (l++k)↔qq0 cs l/\qq0 (pB cs l) k:=by
 induction l generalizing cs<;>grind[qq0,pB]
theorem vt8{n:RN}(h:qq0 [] ns)(g:ns[k]?=G n)(j:pB [] (ns.take k)=cs):NdC (qgu n) n.neg (vpz cs n):=by
 grind[List.drop_eq_getElem_cons,List.take_append_drop,qbn,qq0]
def qz7(cs:List Co)(l:List RN)(x:Co):Prop:=∃ds,pB cs l=cs++ds/\A ds=A l/\ds.getD (A l - 1) nC=x/\qq0 cs l
theorem qiy{es:List Co}(h:A vs<=k)(g:k<A vs+A ds):(vs++ds++es).getD k nC=ds.getD (k - A vs) nC:=by
 grind
theorem qix(h:A vs<=k)(_:k<A vs+A ds):(vs++ds).getD k nC=ds.getD (k - A vs) nC:=by
 grind
theorem qb2{ins:List Nat}{xs:List Co}(h:pB vs l=vs++ds)(hd:A ds=A l)(B:qq0 vs l)(m:0<=p.op)(u:p.op<=23)(g:ins.map (λk=>(vs++ds).getD k nC)=xs)(C:NdC p neg xs):
  qz7 vs (l++[jR p ins neg]) (if neg=ui then vj (gZ p xs) else gZ p xs):=by
 have j:vpz (vs++ds) (jR p ins neg)=xs:=g
 have v:qjf (vs++ds) (jR p ins neg)=if neg=ui then vj (gZ p xs) else gZ p xs:=by
  unfold qjf;rw[j,yS m u];rfl
 grind[jR,qbg,pB,qbn,yS,qq0,qz7]
section
variable {vs:List Co} {off:Nat} {p:Pay} {neg:Bool}
theorem qtt(hv:A vs=off)(C:0<A l)(u:0<=p.op)(v:p.op<=23)(g:qz7 vs l x)(B:NdC p neg [x]):qz7 vs (l++[jR p [off+A l - 1] neg]) (if neg=ui then vj (gZ p [x]) else gZ p [x]):=by
 obtain⟨ds,m,j,D,h⟩:=g;refine qb2 m j h u v ?_ B
 grind
theorem vam{k:List RN}(hv:A vs=off)(v:0<A l)(L:0<A k)(G:0<=p.op)(O:p.op<=23)(h:qz7 vs l x)(g:∀ds:List Co,A ds=A l->qz7 (vs++ds) k y)(P:NdC p uh [x,y]):qz7 vs (l++k++[jR p [off+A l - 1,off+A l+A k - 1] uh]) (gZ p [x,y]):=by
 obtain⟨ds,m,j,F,D⟩:=h;obtain⟨es,u,J,I,H⟩:=g ds j;have K:pB vs (l++k)=vs++(ds++es):=by rw[qbg,m,u,bw]
 have C:(vs++(ds++es)).getD (off+A l - 1) nC=x:=by grind
 have B:(vs++(ds++es)).getD (off+A l+A k - 1) nC=y:=by grind
 grind[qb2,qbn]
theorem qmc{k r:List RN}{z:Co}(hv:A vs=off)(I:0<A l)(Z:0<A k)(aQ:0<A r)(P:0<=p.op)(O9:p.op<=23)(v:qz7 vs l x)(u:∀ds:List Co,A ds=A l->qz7 (vs++ds) k y)(m:∀ds:List Co,A ds=A l+A k->qz7 (vs++ds) r z)(E9:NdC p neg [x,y,z]):
  qz7 vs (l++k++r++[jR p [off+A l - 1,off+A l+A k - 1,off+A l+A k+A r - 1] neg]) (if neg=ui then vj (gZ p [x,y,z]) else gZ p [x,y,z]):=by
 obtain⟨ds,B,j,O,L⟩:=v;obtain⟨es,D,C,T,R⟩:=u ds j;have G:pB vs (l++k)=vs++(ds++es):=by rw[qbg,B,D,bw]
 obtain⟨g,F,Y,X,U⟩:=m (ds++es) (by simp[j,C]);have KF:pB vs (l++k++r)=vs++(ds++es++g):=by rw[qbg,G,F,bw]
 have K:(vs++(ds++es++g)).getD (off+A l - 1) nC=x:=by
  rwa[bw ds,<-bw vs,qiy uq uq,show off+A l - 1 - A vs=A l - 1 by omega]
 have J:(vs++(ds++es++g)).getD (off+A l+A k - 1) nC=y:=by
  rwa[bw ds,<-bw vs,<-bw (vs++ds),qiy ut ut,show off+A l+A k - 1 - A (vs++ds)=A k - 1 by simp;omega]
 have H:(vs++(ds++es++g)).getD (off+A l+A k+A r - 1) nC=z:=by
  rwa[<-bw vs,qix ut ut,show off+A l+A k+A r - 1 - A (vs++(ds++es))=A r - 1 by simp;omega]
 grind[qb2,qbn]
end
theorem van:∀{t:Ast} {off:Nat} {l:List RN},Flat t off l->ShA t->GcA t->∀vs:List Co,A vs=off->qz7 vs l (qj t):=by
 intro t off l h
 induction h with
 | leaf p off=>
  intro j g vs hv;have B:=j.1;have v:=j.2;have:=qb2 (neg:=uh) (vs:=vs) (ds:=[]) (l:=[]) (p:=p) (ins:=[]) (xs:=[]) (by rw[gs];rfl) rfl trivial B uq rfl ⟨by rw[qzp v];rfl,ur,g,ur,ur,ur,uq⟩;exact this
 | un p hx ih=>
  intro j g vs hv;have u:=j.1;have:=qtt (neg:=uh) (p:=p) hv hx.pos uq uq (ih j.2.2.2 g.2.2.2 vs hv) ⟨by rw[qic uq];rfl,by simpa using g.2.2.2.gc,g.1,by simpa using g.2.1,ur,by grind[GcA],λe=>(g.2.2.1 e).2⟩;exact this
 | bin p hx hy ihx ihy=>
  intro j g vs hv;have u:=j.1;exact vam hv hx.pos hy.pos uq uq (ihx j.2.1 g.2.1 vs hv) (λds hd=>ihy j.2.2 g.2.2 (vs++ds) ut) ⟨by rw[qq6 uq];rfl,by grind[GcA.gc,GcA],g.1,uq,ur,uq,uq⟩
 | tri p hx hy hz ihx ihy ihz=>
  intro j g vs hv;have u:=j.1;have:=qmc (neg:=uh) hv hx.pos hy.pos hz.pos uq uq (ihx j.2.1 g.2.1 vs hv) (λds hd=>ihy j.2.2.1 g.2.2.1 (vs++ds) ut) (λds hd=>ihz j.2.2.2 g.2.2.2 (vs++ds) ut) (p:=p) ⟨by rw[qid u];rfl,by grind[GcA.gc,GcA],g.1,uq,ur,uq,uq⟩;exact this
 | neg1 pl q hq hx ih=>
  intro j g vs hv;obtain⟨_,_,_,j⟩:=j;obtain⟨_,m,_,g⟩:=g;exact qtt (neg:=ui) hv hx.pos uq uq (ih j.2.2.2 g.2.2.2 vs hv) ⟨by rw[qic uq];rfl,by simpa using g.2.2.2.gc,g.1,by simpa using g.2.1,λ_=>m rfl,by grind[GcA],λe=>(g.2.2.1 e).2⟩
 | neg3 pl q hq hx hy hz ihx ihy ihz=>
  intro j g vs hv;obtain⟨_,_,_,j⟩:=j;obtain⟨_,m,_,g⟩:=g;exact qmc (neg:=ui) hv hx.pos hy.pos hz.pos uq uq (ihx j.2.1 g.2.1 vs hv) (λds hd=>ihy j.2.2.1 g.2.2.1 (vs++ds) ut) (λds hd=>ihz j.2.2.2 g.2.2.2 (vs++ds) ut) ⟨by rw[qid hq];rfl,by grind[GcA.gc,GcA],g.1,uq,λ_=>m rfl,uq,uq⟩
theorem qv5(ns:List RN)(is:List Int):pB [] (xk ns is)=pB [] ns/\(qq0 [] ns->qq0 [] (xk ns is)):=by
 have key:∀(l:List RN) (k:Nat) (vs:List Co),pB vs ((l.zipIdx k).map λx=>{ x.1 with u:=if x.2<A is then is.getD x.2 0 else x.1.u })=pB vs l/\(qq0 vs l->qq0 vs ((l.zipIdx k).map λx=>{ x.1 with u:=if x.2<A is then is.getD x.2 0 else x.1.u })):=by
  intro l
  induction l with
  | nil=>intro k vs;exact⟨rfl,λh=>h⟩
  | cons n t ih=>
   intro k vs;refine⟨(ih _ _).1,λh=>⟨h.1, ?_⟩⟩;exact(ih _ _).2 h.2
 exact key ns 0 []
end Go.Proofs.YtmepkbgodcffoaaGreatDoor
