/- slices.Delete of one s -/
import Derived.Test.YtmepkbgodcffoaaGreatDoorM27
import Derived.Test.YtmepkbgodcffoaaGreatDoorM25
import Derived.Lib.OwnKind
import Derived.Test.YtmepkbgodcffoaaGreatDoorRows
import Derived.LaidLaws
import Derived.Lib.LaidU8
import Derived.MakeChecks
import Derived.Lib.LaidTab
import Derived.Shelf.Vars
set_option maxHeartbeats 16000000
set_option maxRecDepth 100000
namespace Go.Proofs.YtmepkbgodcffoaaGreatDoor
open Go.RowKit Go.Proofs.Tryz
open _root_.List renaming length->A
open Go.World renaming setCell->B,ownsRow->ue
open Go.Value renaming ownBlock->ug,agg->Ai,bool->Ah,int->I,pointer->Ag,slice->C,string->Y,tuple->Aj
open Bool renaming false->uh,true->ui
open Go.Addr renaming mk->D
open _root_.Array renaming size->Z
open Go renaming Value->Ap,World->Ao
open Go.Ending renaming returned->Ak
open Go.IntKind renaming i64->J
open Go.Obj renaming cells->Al
open Option renaming none->O,some->G
open Or renaming inl->Am,inr->An
variable{P:Co->Prop}{id last:Int}{zs:List uk}{cs:List Co}{ps:List Pr}{l:List Sb}{ts:List Tm}{x1 xs:List Ap}{b1 base bb c cap g i j k m mb n n1 qc s1 size:Nat}{F:Nat->Prop}{qa:Option Addr}{s:Sb}{e e1 t:TypeId}{a b d ev rv rv' sv sv' tv tv' v v1:Ap}{W w w' w1 w2:Ao}
section
attribute [local go_sem ↓] vp
def qto(ats:Array TypeId)(ty:TypeId)(args:Array Ap):Sem Ap:=Builtin.clear_ ats ty args
theorem qw3(ats:Array TypeId)(ty:TypeId)(args:Array Ap):Builtin.clear_ ats ty args=qto ats ty args:=rfl
attribute [local go_sem ↓] qw3
def qiq(l:List Sb)(k:Nat):List Sb:=l.take k++l.drop (k+1)
theorem kY(f:k<A l):A (qiq l k)=A l - 1:=by simp[qiq];omega
theorem vaq(f:k<A l):qt (qiq l k)=(qt l).take (k * 3)++(qt l).drop ((k+1) * 3):=by
 grind[qiq,vT,qbj,qbi]
def qi7(w:Ao)(base g c:Nat)(l:List Sb)(e:Ending)(w':Ao):Prop:=e=Ak (C (G (D g 0 O)) (A l) c)/\SbRow w' base (C (G (D g 0 O)) (A l) c) l/\w.grownBy w' (G g)
theorem var(B:A l=n+1)(h:SbRow w base (C (G (D g 0 O)) (n+1) c) l)(hk:k<=n)(a:Addr)(T:k<n->a=⟨g,(k+1) * 3,O⟩)(z:Nat):
  ∃w6 w7,(∀ty,(xb #[48,48] ty #[C (G (D g 0 O)) k c,C (G a) (n - k) z]).run prog w.drew=.ok (C (G (D g 0 O)) n c) w6) /\
   (∀ty x,(qto #[48] ty #[C (G ⟨g,n * 3,O⟩) 1 x]).run prog w6=.ok (Aj #[]) w7) /\
   n+1<=c/\c<=maxLen/\Hid (qi7 w base g c (qiq l k) (Ak (C (G (D g 0 O)) n c)) w7):=by
 obtain⟨Q,E,F5,B9,D8⟩:=info_parts qce;have L:ue w base 130 3 (C (G (D g 0 O)) (n+1) c) (n+1) (qt l):=by grind
 obtain⟨J1,X,M,cur,N,Z,eJ⟩:=vM L;have cG:=vJ l;have y:A ((qt l).drop ((k+1) * 3))=(n - k) * 3:=by grind
 have H:=λty=>qdj (P:=prog) w.drew 48 ty 130 Q 3 g k c (n - k) z a cur _ ((qt l).drop ((k+1) * 3)) underlying48 E B9 N y uq
  (λj v r=>by
   by_cases aB:k<n
   .rw[T aB]
    exact vex L ((k+1) * 3) j v r
   .rw[List.getElem?_eq_none (by rw[y];omega)]at r
    cases r) (by rw[y,Z];omega) (λu S=>jS l u (mj S))
 rw[show k+(n - k)=n by omega]at H;have K:(w.drew.setRow g (jQ cur (k * 3) ((qt l).drop ((k+1) * 3)))).1[g]?=G (Al (jQ cur (k * 3) ((qt l).drop ((k+1) * 3))) 130 (0,0)):=setRow_heap _ _ _ _ _ _ N;have q:(jQ cur (k * 3) ((qt l).drop ((k+1) * 3))).size=c * 3:=by grind[yw]
 have o:∀w,(zeroValue 130).run prog w=.ok (Ai #[I J 0,Ag O,C O 0 0]) w:=λw=>by simp[zeroValue,typeInfo,E,F5]
 have Y:(Value.cells (Ai #[I J 0,Ag O,C O 0 0])).size=3:=by decide +kernel
 have U:=λty x=>qy7 (P:=prog) (w.drew.setRow g (jQ cur (k * 3) ((qt l).drop ((k+1) * 3)))) 48 130 ty _ 3 g (n * 3) 0 x _ _ underlying48 o Y (by decide +kernel) K (by rw[q];omega)
 refine⟨_,_,H,U,X,M,qd ⟨by rw[kY uq,B];rfl, ?_, ?_⟩⟩
 .show ue _ base _ 3 _ (A (qiq l k)) (qt (qiq l k))
  rw[kY uq,B,vaq uq,show n+1 - 1=n by omega];have MF:=gR (Value.cells (Ai #[I J 0,Ag O,C O 0 0])) (0+1);refine⟨by grind,An ⟨g,c,_,rfl,J1,setRow_heap _ _ _ _ _ _ K,uq,M, ?_, ?_⟩⟩
  grind[yw]
  grind[zM,List.take_left']
 have f:=jD w g (jQ cur (k * 3) ((qt l).drop ((k+1) * 3)));exact g9 (b:=w.drew.setRow g (jQ cur (k * 3) ((qt l).drop ((k+1) * 3)))) ⟨f.os,f.tape,f.output,f.size,f.block⟩ (jD _ _ _)
theorem qwc(l:List Sb)(n k c g:Nat)(f:A l=n+1)(base:Nat)(w:Ao)(h:SbRow w base (C (G (D g 0 O)) (n+1) c) l)(r:k<=n)(B:n<=1000):
  uo 74 #[C (G (D g 0 O)) (n+1:Nat) c,I J k,I J ((k:Int)+1)] w (qi7 w base g c (qiq l k)):=by
 have E:=(vM (by have:=h;unfold SbRow at this;rwa [f]at this:ue w base 130 3 (C (G (D g 0 O)) (n+1) c) (n+1) (qt l))).2.1
 by_cases hck:c=k+1
 .obtain rfl:n=k:=uq
  subst hck;obtain⟨y,x,u,z,_,o,q⟩:=var f h r ⟨g,0,O⟩ (λh=>uq) 0;rw[iz]at u;generalize qi7 w base g (n+1) (qiq l n)=Q at *;unfold maxLen at o;go_enter func74,ntmps74
  go_wp2
  go_region
  all_goals go_wp2
  all_goals exact q9 q
 obtain⟨y,x,u,z,_,o,q⟩:=var f h r ⟨g,(k+1) * 3,O⟩ (λ_=>rfl) (c - (k+1));generalize qi7 w base g c (qiq l k)=Q at *;unfold maxLen at o;go_enter func74,ntmps74
 go_wp2
 go_region
 all_goals go_wp2
 all_goals exact q9 q
end
theorem CoAt.low{f o E:Nat}(q:o<=f):∀{c:Co} {v:Ap},CoAt f E w v c->CoAt o E w v c:=by
 have u:∀{b:Nat} {p:CP} {l r:Ap} {t:uk},CellsC f E w b p l r t->CellsC o E w b p l r t:=λh=>⟨bu q h.lo,h.hi,h.within,h.c0,h.c1,h.c2,h.c3,h.c4,h.c5,h.c6⟩
 intro c
 induction c<;>grind[CoAt]
theorem vE{base':Nat}(h:ue w base e size v n xs)(o:base'<=base):ue w base' e size v n xs:=by
 refine⟨h.1, ?_⟩;obtain f|⟨g,cap,cur,rfl,q,rest⟩:=h.2;exact Am f;exact An ⟨g,cap,cur,rfl,uq,rest⟩
structure RowsAt(w:Ao)(base:Nat)(tv rv:Ap)(ts:List Tm)(rs:List Nat):Prop where
 ats:TsAt w base tv ts
 ars:IsAt w base rv rs
 ne:∀g,ug tv=G g->ug rv≠G g
def qh3(w:Ao)(cs:List Co)(n:Nat)(e:Ending)(w':Ao):Prop:=∃tv rv,e=Ak (Ai #[tv,rv])/\RowsAt w' (Z w.1) tv rv (vF cs n).1 (vF cs n).2/\Below (Z w.1) w w'
theorem IsAt.form{l:List Nat}(h:IsAt w base v l):∃a c,v=C a (A l) c:=by
 obtain⟨rfl,f⟩|⟨g,cap,cur,rfl,_⟩:=h.2<;>grind
def vxn(w:Ao)(v:Ap)(c:Co):Prop:=CoAt 0 (Z w.1) w v c/\qe6 c/\kt c<=250000000
theorem qd9(l:List Sb)(cs:List Co)(A6:A cs=A l)(h8:A l<=8)(v:Ap)(w:Ao)(hv:SubsAt w (Z w.1) v l)(J3:∀(k:Nat) (s:Sb) (c:Co),l[k]?=G s->cs[k]?=G c->vxn w (Ag s.core) c):
  uo 72 #[v] w (qh3 w cs (A l)):=by
 have DR:=qd J3;have AQ:=qd A6;obtain⟨a,cap,rfl,hx⟩:=hv;have HX:=qd hx;obtain⟨f,M⟩:=il (w.alloc (Al #[C O 0 0,C O 0 0] 52));have B9:Z f.1=Z w.1+1:=by rw[M];simp
 have D9:Hid (Below (Z w.1) w f):=qd (by rw[M];exact(uy).alloc ux _);have X:Hid (f.cell? ⟨Z w.1,0,O⟩=G (C O 0 0)/\f.cell? ⟨Z w.1,1,O⟩=G (C O 0 0)/\∀j,f.frozen? ⟨Z w.1,j,O⟩=uh):=qd (by rw[M];simp[go_sem]);have NM:=qd (qd2 f)
 have HK:Hid (∀k,k<=A l->A (vF cs k).1<=k * 250000000/\A (vF cs k).2=k):=qd (by
  intro k
  induction k with
  | zero=>intro _;exact⟨by simp[vF],rfl⟩
  | succ k ih=>
   intro hk;obtain⟨i1,i2⟩:=ih uq;obtain⟨s,K⟩:∃s,l[k]?=G s:=⟨_,ag uq⟩;obtain⟨c,D⟩:∃c,cs[k]?=G c:=⟨_,ag uq⟩;have hz:=(J3 k s c K D).2.2;refine⟨?_,(j7 cs (k+1)).1⟩;have:=(yu (vF cs k).1 c).2.1;rw[vF,aq,D];show (A (qA (vF cs k).1 c).1)<=_
   omega)
 have HQ:Hid (∀e w',qh3 w cs (A l) e w'->qh3 w cs (A l) e w'):=qd λ_ _ h=>h
 obtain⟨Q,hQ⟩:=ie (qh3 w cs (A l));rw[hQ]at HQ |-;have Q8:Hid (∀e w',qh3 w cs (A l) e w'->Q e w'):=qd (by rw[<-hQ];exact λ_ _ h=>h);obtain⟨n,Y⟩:=ie (A l);rw[Y]at AQ HK Q8 h8 |-;have HN:=qd Y;go_enter func72,ntmps72
 go_wp2_with(go_at_call 55;rw[<-M];refine be NM ?_;rintro w1⟨oA,A0⟩;have M1:=qd oA;have B1:=qd A0;rw[B9]at M1 |-)
 go_loopw [9] (λi wr=>∃(k:Nat) (tv rv:Ap),k<=n/\i=I J k/\Hid (MkAt wr (Z w.1+1+1) (Z w.1+1) (vF cs k).1 (vF cs k).2 tv rv)/\Hid (Below (Z f.1) f wr)) (λi _=>n - (intOf i).toNat)
 exact⟨0,_,_,bt _,rfl,M1,B1⟩;obtain⟨k,tv,rv,hk,rfl,o,H⟩:=hrel;have u:Hid (Below (Z w.1) w wr):=qd (D9.trans (H.mono uq))
 by_cases A1:k<n
 .obtain⟨s,K⟩:∃s,l[k]?=G s:=⟨_,ag (md (q9 HN))⟩
  obtain⟨c,D⟩:∃c,cs[k]?=G c:=⟨_,ag (md (q9 AQ))⟩;obtain⟨g,rfl,glt,s0,s1,s2⟩:=q9 HX k s K;obtain⟨OO,b8,I9⟩:=q9 DR k s c K D;rw[<-(q9 u).cell (p:=⟨g,k * 3,O⟩) glt]at s0;rw[<-(q9 u).cell (p:=⟨g,k * 3+1,O⟩) glt]at s1;rw[<-(q9 u).cell (p:=⟨g,k * 3+2,O⟩) glt]at s2;have hS:Hid (vF cs (k+1)=((qA (vF cs k).1 c).1,(vF cs k).2++[(qA (vF cs k).1 c).2])):=qd (by rw[vF,aq,D];rfl);obtain⟨m9,aQ⟩:=q9 HK k hk
  have AD:Hid (∀(U:Ao),Below (Z wr.1) wr U->uo 56 #[Ag (G ⟨Z w.1+1+1,0,O⟩),Ag s.core] U λe w'=>∃tv' rv',e=Ak (Aj #[])/\MkAt w' (Z w.1+1+1) (Z w.1+1) (vF cs (k+1)).1 (vF cs (k+1)).2 tv' rv'/\Below (Z f.1) f w'):=qd (by
   intro U S;have L:=(q9 o).h S;have q:=qg u S;have ZR:CoAt 0 (Z w.1) U (Ag s.core) c:=CoAt.keep ux (λi _ T=>q.block i T) q.size OO;refine qud c b8 0 (Z w.1) _ _ U _ _ _ tv rv L ZR q.size (λj r=>?_) uq uq _ ?_;obtain rfl|rfl|r|r:=r
   right;omega
   right;omega
   right;have:=(L.ats.lt j r).1;omega
   right;have:=(L.ars.lt j r).1;omega
   intro w' tv' rv' h1 T;rw[q9 hS]
   exact⟨tv',rv',rfl,h1,qtf (qg H S) L T uq⟩)
  obtain⟨R,hR⟩:=ie (vF cs (k+1));rw[hR]at AD;have HR:=qd hR;have hU1:Below (Z wr.1) wr (wr.alloc (Al #[I J s.id,Ag s.core,C s.row s.len s.cap] 130)):=uy.alloc ux _
  go_wp2_with(refine(AD _ (by with_reducible assumption)).mono ?_;rintro e w4⟨WR,rv4,rfl,iD,G7⟩;have M4:=qd iD;have B4:=qd G7)
  exact⟨⟨k+1,_,_,uq,rfl,by rwa[q9 HR],B4⟩,by simp[intOf];omega⟩
 have:k=n:=uq;subst this;obtain⟨ta,tc,rfl⟩:=(q9 o).ats.form;obtain⟨ra,rc,rfl⟩:=(q9 o).ars.form;have m0:=(q9 o).c0;have m1:=(q9 o).c1;obtain⟨d0,d1,df⟩:=q9 X;rw[<-(q9 H).cell (p:=⟨Z w.1,0,O⟩) (by show Z w.1<_;omega)]at d0;rw[<-(q9 H).cell (p:=⟨Z w.1,1,O⟩) (by show Z w.1<_;omega)]at d1;have df':∀j,wr.frozen? ⟨Z w.1,j,O⟩=uh:=λj=>(H.frozen (p:=⟨Z w.1,j,O⟩) (by show Z w.1<_;omega)).trans (df j)
 have E:Hid (∀x y,qh3 w cs k (Ak (Ai #[C ta (A (vF cs k).1) tc,C ra (A (vF cs k).2) rc])) (B (B wr ⟨Z w.1,0,O⟩ x) ⟨Z w.1,1,O⟩ y)):=qd (by
  intro x y;have A3:Below (Z w.1) wr (B (B wr ⟨Z w.1,0,O⟩ x) ⟨Z w.1,1,O⟩ y):=(uy.setCell (by exact ux) _).setCell (by exact ux) _
  have z:∀j,Z w.1+1+1+1<=j->(B (B wr ⟨Z w.1,0,O⟩ x) ⟨Z w.1,1,O⟩ y).1[j]?=wr.1[j]?:=λj r=>
   (bi _ ⟨Z w.1,1,O⟩ y j (by show j≠Z w.1;omega)).trans (bi _ ⟨Z w.1,0,O⟩ x j (by show j≠Z w.1;omega))
  refine⟨_,_,rfl,⟨?_, ?_,o.ne⟩,u.trans A3⟩;have h:=(q9 o).ats;exact vE (qm h λg N=>z g (h.lt g N).1) uq;have h:=(q9 o).ars
  exact vE (qm h λg N=>z g (h.lt g N).1) uq)
 go_wp2
 refine bo (by simp[go_sem,d0,d1]<;>rfl) rfl ?_;exact q9 Q8 _ _ (E _ _)
structure Sx where
 id:Int
 cp:Option Addr
 lo:Nat
 hi:Nat
 co:Co
 row:Option Addr
 cap:Nat
 ms:List Mg
def Sx.sb(x:Sx):Sb:=⟨x.id,x.cp,x.row,A x.ms,x.cap⟩
def Sx.hv(x:Sx):Ap:=C x.row (A x.ms) x.cap
def vw6(bb:Nat)(sv tv rv:Ap)(l:List Sx)(k:Nat):Prop:=k=bb\/ug sv=G k\/ug tv=G k\/ug rv=G k\/∃x∈l,ug x.hv=G k
def qe3(bb:Nat)(sv tv rv:Ap)(l:List Sx)(k:Nat):Prop:=vw6 bb sv tv rv l k\/∃x∈l,x.lo<=k/\k<x.hi
def yO(l:List Sx):List Co:=l.map Sx.co
def tsX(l:List Sx):List Tm:=(vF (yO l) (A l)).1
def rsX(l:List Sx):List Nat:=(vF (yO l) (A l)).2
structure BrAt(w:Ao)(bb:Nat)(last:Int)(sv tv rv:Ap)(l:List Sx):Prop where
 blk:w.1[bb]?=G (Al #[I J last,sv,tv,rv] 54 (0,0))
 row:SbRow w 0 sv (l.map Sx.sb)
 rows:RowsAt w 0 tv rv (tsX l) (rsX l)
 hps:∀x∈l,ue w 0 142 2 x.hv (A x.ms) (qU x.ms)
 dis:l.Pairwise λx y=>∀k,ug x.hv=G k->ug y.hv≠G k
 cos:∀x∈l,CoAt x.lo x.hi w (Ag x.cp) x.co/\x.hi<=w.1.size/\qe6 x.co/\kt x.co<=250000000
 out:∀x∈l,∀k,vw6 bb sv tv rv l k->k<x.lo\/x.hi<=k
 up:xZ (l.map Sx.sb)
 n8:A l<=8
 m6:∀x∈l,A x.ms<=6
 prg:Prg (tsX l) (rsX l)
theorem BrAt.lt{l:List Sx}(h:BrAt w bb last sv tv rv l):bb<Z w.1:=by grind[BrAt]
theorem BrAt.cells{l:List Sx}(h:BrAt w bb last sv tv rv l):Xc w bb 0 (I J last)/\Xc w bb 1 sv/\Xc w bb 2 tv/\Xc w bb 3 rv/\Xf w bb:=by
 grind[World.cell?,World.frozen?,BrAt]
theorem BrAt.foot_lt{l:List Sx}(h:BrAt w bb last sv tv rv l)(f:qe3 bb sv tv rv l k):k<Z w.1:=by
 obtain (rfl|f|f|f|⟨x,o,f⟩)|⟨x,o,_,f⟩:=f;exact h.lt;exact(h.row.lt k f).2;exact(h.rows.ats.lt k f).2;exact(h.rows.ars.lt k f).2;exact((h.hps x o).lt k f).2
 grind[BrAt]
theorem BrAt.same{l:List Sx}(h:BrAt w bb last sv tv rv l)(q:Z w.1<=Z w'.1)(o:∀k,qe3 bb sv tv rv l k->w'.1[k]?=w.1[k]?):BrAt w' bb last sv tv rv l:=by
 refine⟨(o bb (Am (Am rfl))).trans h.blk,qm h.row λg f=>o g (Am (An (Am f))),⟨qm h.rows.ats λg f=>o g (Am (An (An (Am f)))),qm h.rows.ars λg f=>o g (Am (An (An (An (Am f))))),h.rows.ne⟩,λx p=>qm (h.hps x p) λg f=>o g (Am (An (An (An (An ⟨x,p,f⟩))))),h.dis,λx p=>?_,h.out,h.up,h.n8,h.m6,h.prg⟩;obtain⟨z,y,u⟩:=h.cos x p;exact⟨CoAt.keep ux (λk k1 r=>o k (An ⟨x,p,k1,r⟩)) q z,bu y q,u⟩
theorem BrAt.h{l:List Sx}(h:BrAt w bb last sv tv rv l)(f:Xb w w'):BrAt w' bb last sv tv rv l:=
 h.same f.size λk o=>f.block k (h.foot_lt o)
theorem SbRow.subs(h:SbRow w base v l):SubsAt w (Z w.1) v l:=by
 obtain⟨rfl,B⟩|⟨g,c,rfl⟩:=vI h
 grind[SubsAt]
 obtain⟨_,_,_,cur,z,_⟩:=vM h;refine⟨_,c,rfl,λi s r=>⟨g,rfl,(ch.1 z).1, ?_⟩⟩;have C:=(aj.1 r).1
 have f:∀j,j<3->(qt l)[i * 3+j]?=(qX s)[j]?:=by
  intro j A
  have y:l=l.take i++(s::l.drop (i+1)):=by
   grind[List.drop_eq_getElem_cons,List.take_append_drop]
  have x:qt l=qt (l.take i)++(qX s++qt (l.drop (i+1))):=by
   conv=>lhs;rw[y]
   rw[vT];rfl
  rw[x,cu (by rw[vJ,cw];omega),vJ,cw,cg (by show _<3;omega)]
  congr 1
  omega
 have o:∀j u,(qt l)[j]?=G u->Xc w g j u:=λj u q=>by
  have:=World.ownsRow.cells h (g:=g) rfl j u q;rwa [vW,ed]at this
 exact⟨o _ _ ((f 0 uq).trans rfl),o _ _ ((f 1 uq).trans rfl),o _ _ ((f 2 uq).trans rfl)⟩
theorem xf{b2 p q:Nat}{h:TypeId}{f:Ap}{o:List Ap}(y:ue w b1 e1 s1 v1 n1 x1)(x:ue w b2 h p f q o)(r:e1≠h)(u:ug v1=G k):ug f≠G k:=by
 intro z;obtain⟨H,D,B⟩:=Go.Lib.ownsRow_kind y k u;obtain⟨E,C,A⟩:=Go.Lib.ownsRow_kind x k z
 grind
theorem ja(o:ue w b1 e1 s1 v1 n1 x1){cs:Array Ap}{fr:Nat×Nat}(p:w.1[k]?=G (Al cs t fr))(f:e1≠t):ug v1≠G k:=by
 intro h;obtain⟨u,r,q⟩:=Go.Lib.ownsRow_kind o k h
 grind
theorem BrAt.hq{l:List Sx}(h:BrAt w bb last (C (G (D g 0 O)) n c) tv rv l){x:Sx}(q:l[i]?=G x):HqAt w g (i * 3+2) x.hv 0 x.ms:=by
 have f:=h.row;have o:=bh q
 have I:n=A l:=by
  grind[vI]
 have B:ue w 0 130 3 (C (G (D g 0 O)) (A (l.map Sx.sb)) c) (A (l.map Sx.sb)) (qt (l.map Sx.sb)):=by
  grind
 obtain⟨_,_,_,cur,E,_⟩:=vM B;obtain⟨a,K,hv,r⟩:=SbRow.subs f;obtain⟨z,J,H,_,_,y⟩:=r i x.sb (by grind)
 have e:g=z:=by
  grind
 subst e;refine⟨y,by simp[World.frozen?,E],H,h.hps x o, ?_⟩;exact λu=>xf (h.hps x o) f uu u rfl
theorem qp7{t:Sb}(f:l[i]?=G s)(o:t.id=s.id)(h:t.core=s.core):qt (l.set i t)=(qt l).set (i * 3+2) (C t.row t.len t.cap):=by
 induction l generalizing i with
 | nil=>simp at f
 | cons a r ih=>
  cases i with
  | zero =>grind[qt,qX]
  | succ i =>grind[qt,qX]
theorem pg{u:Ap}(h:ue w base e size (C (G (D g 0 O)) n cap) n xs)(f:w'.1[g]?=(B w (D g j O) u).1[g]?)(_hj:j<n * size):ue w' base e size (C (G (D g 0 O)) n cap) n (xs.set j u):=by
 obtain⟨y,r,q,cur,z,x,p⟩:=vM h
 have o:(B w (D g j O) u).1[g]?=G (Al (cur.setIfInBounds j u) e (0,0)):=by
  grind[setCell_eq_setRow,setRow_heap]
 refine⟨by rw[fm,h.1],An ⟨g,cap,cur.setIfInBounds j u,rfl,y,f.trans o,r,q,by simp[x], ?_⟩⟩;rw[Array.toList_setIfInBounds,List.take_set,p]
theorem BrAt.turned{v':Ap}{l:List Sx}(h:BrAt w bb last (C (G (D g 0 O)) n c) tv rv l){x:Sx}(N:l[i]?=G x){ms':List Mg}(hq:HqAt w' g (i * 3+2) v' 0 ms')(M:PqKept g (i * 3+2) x.hv v' w w')(h6:A ms'<=6):
  ∃f:Sx,f.hv=v'/\f.ms=ms'/\f.id=x.id/\f.co=x.co/\f.lo=x.lo/\f.hi=x.hi/\BrAt w' bb last (C (G (D g 0 O)) n c) tv rv (l.set i f):=by
 obtain⟨a,cp,rfl⟩:=hq.form;have Q:=bh N;have aK:=(aj.1 N).1;obtain⟨f,r⟩:=il ({ x with row:=a,cap:=cp,ms:=ms' }:Sx);have Y:f.hv=C a (A ms') cp:=by rw[r];rfl
 have CQ:f.co=x.co:=by rw[r]
 refine⟨f,Y,by rw[r],by rw[r],CQ,by rw[r],by rw[r], ?_⟩;have T:=h.row
 have sU:yO (l.set i f)=yO l:=by
  unfold yO;rw[oo,CQ];apply lh;intro j;rw[ii]
  split
  grind
  rfl
 have cB:tsX (l.set i f)=tsX l:=by unfold tsX;rw[sU,fm]
 have JX:rsX (l.set i f)=rsX l:=by unfold rsX;rw[sU,fm]
 have stay:∀k,k<Z w.1->k≠g->ug x.hv≠G k->w'.1[k]?=w.1[k]?:=M.block;have nx:∀{b s m:Nat} {e:TypeId} {v:Ap} {xs:List Ap},ue w b e s v m xs->e≠142->∀k,ug v=G k->ug x.hv≠G k:=λJ H k o=>xf J (h.hps x Q) H o
 have S:∀{b s m:Nat} {e:TypeId} {v:Ap} {xs:List Ap},ue w b e s v m xs->e≠130->∀k,ug v=G k->k≠g:=λJ H k o e=>by subst e;exact(xf J T H o) rfl
 have cI:w'.1[bb]?=w.1[bb]?:=stay bb h.lt (λe=>by subst e;exact(ja T h.blk uu) rfl) (ja (h.hps x Q) h.blk uu);have newown:∀k,ug f.hv=G k->ug x.hv=G k\/Z w.1<=k:=λk o=>M.row k (by rwa[<-Y])
 have V7:∀y∈l.set i f,y=f\/∃j,j≠i/\l[j]?=G y:=by
  grind[List.getElem?_of_mem]
 have disj:∀j y,j≠i->l[j]?=G y->∀k,ug y.hv=G k->ug x.hv≠G k:=by
  grind[List.pairwise_iff_getElem,BrAt]
 have ownold:∀k,vw6 bb (C (G (D g 0 O)) n c) tv rv (l.set i f) k->vw6 bb (C (G (D g 0 O)) n c) tv rv l k\/Z w.1<=k:=by
  intro k o;obtain e|e|e|e|⟨y,z,e⟩:=o;exact Am (Am e);exact Am (An (Am e));exact Am (An (An (Am e)));exact Am (An (An (An (Am e))));obtain rfl|⟨j,_,K⟩:=V7 y z;obtain B|B:=newown k e;exact Am (An (An (An (An ⟨x,Q,B⟩))));exact An B;exact Am (An (An (An (An ⟨y,bh K,e⟩))))
 have NJ:∀y∈l.set i f,∃u∈l,y.lo=u.lo/\y.hi=u.hi/\y.cp=u.cp/\y.co=u.co:=by
  grind
 have hn:n=A l:=by
  grind[vI]
 refine⟨cI.trans h.blk, ?_,⟨?_, ?_,h.rows.ne⟩, ?_, ?_, ?_, ?_, ?_,by rw[fm];exact h.n8, ?_,by rw[cB,JX];exact h.prg⟩
 .have P4:ue w 0 130 3 (C (G (D g 0 O)) n c) n (qt (l.map Sx.sb)):=by
   have:=T;simp only[SbRow,cf]at this;rwa [<-hn]at this
  have:=pg P4 M.hdr uq;show ue w' 0 _ 3 _ (A ((l.set i f).map Sx.sb)) (qt ((l.set i f).map Sx.sb));rw[cf,fm,<-hn,oo,qp7 (s:=x.sb) (by rw[cj,N];rfl) (by rw[r];rfl) (by rw[r];rfl)];rw[r];exact this
 rw[cB];exact qm h.rows.ats λk o=>stay k (h.rows.ats.lt k o).2 (S h.rows.ats uu k o) (nx h.rows.ats uu k o)
 rw[JX];exact qm h.rows.ars λk o=>stay k (h.rows.ars.lt k o).2 (S h.rows.ars uu k o) (nx h.rows.ars uu k o)
 intro y z;obtain rfl|⟨j,OE,K⟩:=V7 y z;have:=hq.own;rw[Y];have e:y.ms=ms':=by rw[r]
 rw[e];exact this;have X:=h.hps y (bh K);exact qm X λk o=>stay k (X.lt k o).2 (S X uu k o) (disj j y OE K k o)
 rw[ei];intro p q YB fZ XY k I;have hp:p<A l:=by rwa [fm]at YB
 have E:q<A l:=by rwa [fm]at fZ
 have hd:=ei.1 h.dis
 by_cases CB:p=i
 subst CB;rw[List.getElem_set_self]at I;rw[List.getElem_set_ne uq];intro e;obtain B|B:=newown k I;exact disj q _ uq (ag E) k e B;have:=((h.hps _ (fk E)).lt k e).2;omega;rw[List.getElem_set_ne (λe=>CB e.symm)]at I
 by_cases XW:q=i
 subst XW;rw[List.getElem_set_self];intro e;obtain B|B:=newown k e;exact disj p _ CB (ag hp) k I B;have:=((h.hps _ (fk hp)).lt k I).2;omega;rw[List.getElem_set_ne (λe=>XW e.symm)];exact hd p q hp E XY k I;intro y z;obtain⟨u,L,e1,U,e3,e4⟩:=NJ y z;obtain⟨h1,h2,h3⟩:=h.cos u L;rw[e1,U,e3,e4];refine⟨CoAt.keep ux (λk k1 k2=>stay k uq ?_ ?_) M.size h1,bu h2 M.size,h3⟩;intro e;have:=h.out u L k (An (Am (by rw[e];rfl)));omega;intro e;have:=h.out u L k (An (An (An (An ⟨x,Q,e⟩))));omega;intro y z k o;obtain⟨u,L,e1,U,_⟩:=NJ y z;rw[e1,U];obtain J|J:=ownold k o;exact h.out u L k J;have:=(h.cos u L).2.1;omega;have e:(l.set i f).map Sx.sb=(l.map Sx.sb).set i f.sb:=by rw[oo]
 rw[e];unfold xZ;rw[ei];intro p q hp E XY;have hu:=ei.1 h.up;rw[fm]at hp E
 have key:∀t (ht:t<A (l.map Sx.sb)),(((l.map Sx.sb).set i f.sb)[t]'(by rwa[fm])).id=((l.map Sx.sb)[t]).id:=by
  intro t ht;rw[List.getElem_set]
  split
  rename_i e;subst e
  have:(l.map Sx.sb)[i]=x.sb:=by
   rw[List.getElem_map,(aj.1 N).2]
  rw[this,r];rfl;rfl
 rw[key p hp,key q E];exact hu p q hp E XY;intro y z;obtain rfl|⟨j,_,K⟩:=V7 y z;rwa[r];exact h.m6 y (bh K)
structure Su where
 id:Int
 co:Co
 ms:List Mg
def Sx.su(x:Sx):Su:=⟨x.id,x.co,x.ms⟩
structure Grow(F:Nat->Prop)(w w':Ao):Prop where
 os:w'.os=w.os
 tape:w'.tape=w.tape
 output:w'.output=w.output
 size:w.1.size<=w'.1.size
 block:∀k,k<w.1.size->¬F k->w'.1[k]?=w.1[k]?
def upF(F:Nat->Prop)(w w':Ao)(k:Nat):Prop:=F k\/(Z w.1<=k/\k<Z w'.1)
def Br(w:Ao)(F:Nat->Prop)(bb:Nat)(last:Int)(L:List Su):Prop:=(∀k,F k->k<Z w.1)/\∃sv tv rv l,BrAt w bb last sv tv rv l/\l.map Sx.su=L/\∀k,qe3 bb sv tv rv l k->F k
theorem Grow.x(h:Xb w w'):Grow F w w':=⟨h.os,h.tape,h.output,h.size,λk f _=>h.block k f⟩
theorem Grow.trans'{a b c:Ao}(h:Grow F a b)(k:Grow F b c):Grow F a c:=by grind[Grow]
theorem Br.frame{L:List Su}(h:Br w F bb last L)(o:Z w.1<=Z w'.1)(q:∀k,F k->w'.1[k]?=w.1[k]?):Br w' F bb last L:=by
 obtain⟨x,sv,tv,rv,l,u,r,p⟩:=h;exact⟨λk f=>au (x k f) o,sv,tv,rv,l,u.same o λk f=>q k (p k f),r,p⟩
theorem Br.h{L:List Su}(h:Br w F bb last L)(f:Xb w w'):Br w' F bb last L:=h.frame f.size λk o=>f.block k (h.1 k o)
theorem Br.wide{f:Nat->Prop}{L:List Su}(h:Br w F bb last L)(p:∀k,F k->f k)(o:∀k,f k->k<Z w.1):Br w f bb last L:=by
 grind[Br]
theorem qjr(h:xZ l)(f:l[i]?=G s):vt l s.id=i/\(l.any λt=>t.id==s.id)=ui:=by
 have o:=kV h s.id;have y:¬i<vt l s.id:=λx=>by grind
 refine⟨?_,nh.2 ⟨s,bh f,ur⟩⟩;obtain u|z:=Nat.lt_or_ge (vt l s.id) i;have r:=(aj.1 f).1;have hp:=ei.1 h (vt l s.id) i uq r u;have q:=(aj.1 f).2;rw[q]at hp;have:=(o (vt l s.id) _ (ag uq)).1 hp;omega;omega
theorem vsb(o f:Nat)(v:Ap)(ms:List Mg)(u:A ms<=90)(w:Ao)(h:HqAt w o f v 0 ms):uo 75 #[Ag (G (D o f O))] w (qe9 o f 0 v ms w):=by
 cases ms with
 | nil=>exact vk7 o f 0 v w h
 | cons x r=>
  obtain⟨_,z⟩|⟨g,c,rfl⟩:=vI h.own;simp at z;obtain⟨y,q⟩:∃y,(x::r)[A r]?=G y:=⟨_,ag ur⟩;exact vk8 o f 0 g c (A r) (x::r) rfl u x y rfl q w h _ λe w' h=>h
theorem qs8(ms:List Mg):A (qgp ms)=A ms - 1:=by
 grind[qgp,qke,qd8,qcy]
def qrl(ms:List Mg):Int:=((ms.head?).getD ⟨0,0⟩).M
theorem vs9(w:Ao)(F:Nat->Prop)(bb:Nat)(last:Int)(L:List Su)(h:Br w F bb last L)(i:Nat)(x:Su)(K:L[i]?=G x)
  (Q:Ending->Ao->Prop) (hQ:∀w',Br w' (upF F w w') bb last (L.set i { x with ms:=qgp x.ms })->Grow F w w'->Q (Ak (Aj #[I J (qrl x.ms),I J 0])) w') :
  uo 42 #[Ag (G (D bb 0 O)),I J x.id] w Q:=by
 obtain⟨hF,sv,tv,rv,l,f,hL,X⟩:=h
 obtain⟨y,o,T⟩:∃y,l[i]?=G y/\y.su=x:=by
  rw[<-hL,cj]at K
  cases hl:l[i]? with
  | none=>rw[hl]at K;cases K
  | some y=>rw[hl]at K;exact⟨y,rfl,by simpa using K⟩
 have aK:=(aj.1 o).1
 obtain⟨g,c,rfl⟩:∃g c,sv=C (G (D g 0 O)) (A l) c:=by
  obtain⟨_,h0⟩|⟨g,c,hv⟩:=vI f.row;simp at h0;subst h0;simp at aK;exact⟨g,c,by simpa using hv⟩
 have U:=qjr f.up (i:=i) (s:=y.sb) (by rw[cj,o];rfl);have nO:y.sb.id=x.id:=by rw[<-T];rfl
 rw[nO]at U;have FD:=qd (qaz bb (l.map Sx.sb) x.id _ w f.cells.2.1 (SbRow.subs f.row) f.up (by rw[cf];exact f.n8));rw[U.1,U.2]at FD;have CELLS:Hid (∀w',Xb w w'->Xc w' bb 1 (C (G (D g 0 O)) (A l) c)):=qd λw' N=>(f.h N).cells.2.1
 have POP:Hid (∀w',Xb w w'->uo 75 #[Ag (G ⟨g,i * 3+2,O⟩)] w' (qe9 g (i * 3+2) 0 y.hv y.ms w')):=qd λw' N=>vsb _ _ _ _ (md (f.m6 y (bh o))) w' ((f.h N).hq o)
 have HE:Hid (∀w1 w2 H m,Xb w w1->qe9 g (i * 3+2) 0 y.hv y.ms w1 (Ak (Aj #[mgV m,Ah (decide (0<A y.ms))])) w2->Xb w2 H->Q (Ak (Aj #[I J m.M,I J 0])) H):=qd (by
  rintro w1 w2 H m q⟨v',Y,he,hm,hq,B⟩ E;have em:mgV m=mgV Y:=by injection he with e1;injection e1 with e2;simpa using e2
  have S:m.M=Y.M:=by simp[mgV]at em;exact em.2
  have I7:=f.h q;obtain⟨x',a1,a2,a3,a4,a5,a6,aG⟩:=I7.turned o hq B (by rw[qs8];have:=f.m6 y (bh o);omega);have iQ:=aG.h E;have B9:=q.size;have D8:=B.size;have S4:=E.size
  have PD:Grow F w H:=by
   refine⟨E.os.trans (B.os.trans q.os),E.tape.trans (B.tape.trans q.tape),E.output.trans (B.output.trans q.output),uq,λk A5 B8=>?_⟩;rw[E.block k uq,B.block k uq (λe=>B8 (X k (Am (An (Am (by rw[e];rfl)))))) (λe=>B8 (X k (Am (An (An (An (An ⟨y,bh o,e⟩))))))),q.block k A5]
  have eX:qrl x.ms=m.M:=by rw[S,hm,<-T];rfl
  rw[<-eX];refine hQ H ⟨?_,_,tv,rv,l.set i x',iQ, ?_, ?_⟩ PD;intro k r;obtain r|r:=r;have:=hF k r;omega;exact r.2;rw[oo,hL]
  congr 1
  rw[<-T];simp[Sx.su,a2,a3,a4];intro k r;have A1:=aG.foot_lt r
  by_cases hkw:Z w.1<=k
  exact An ⟨hkw,uq⟩
  left
  apply X;obtain (e|e|e|e|⟨z,u,e⟩)|⟨z,u,e⟩:=r;exact Am (Am e);exact Am (An (Am e));exact Am (An (An (Am e)));exact Am (An (An (An (Am e))));obtain u|rfl:=lw u;exact Am (An (An (An (An ⟨z,u,e⟩))));rw[a1]at e;obtain e'|e':=B.row k e;exact Am (An (An (An (An ⟨y,bh o,e'⟩))));omega;obtain u|rfl:=lw u;exact An ⟨z,u,e⟩;rw[a5,a6]at e
  exact An ⟨y,bh o,e⟩)
 have M:A l<=8:=f.n8;obtain⟨n,hn⟩:=ie (A l);rw[hn]at CELLS M aK;go_enter func42,ntmps42
 go_wp2_with(first|(go_at_call 69;refine be FD λw1 q=>?_;have B1:=qd q;have c1:=q9 CELLS w1 q)|(go_at_call 75;refine(POP _ B1).mono ?_;intro e w2 M7;have P2:=qd M7;obtain⟨v2,m2,rfl,D8⟩:=M7;clear D8;unfold mgV))
 exact q9 HE w1 w2 _ m2 B1 P2 (by first|exact(uy).alloc ux _|exact uy)
theorem qig{c:Ap}(h:w.1[bb]?=G (Al #[a,b,c,d] t (0,0)))(x:Ap):(B w (D bb 1 O) x).1[bb]?=G (Al #[a,x,c,d] t (0,0)):=by
 rw[setCell_eq_setRow w bb 1 _ t (0,0) x h]
 grind[setRow_heap]
theorem qth{c:Ap}(h:w.1[bb]?=G (Al #[a,b,c,d] t (0,0)))(x:Ap):(B w (D bb 2 O) x).1[bb]?=G (Al #[a,b,x,d] t (0,0)):=by
 rw[setCell_eq_setRow w bb 2 _ t (0,0) x h]
 grind[setRow_heap]
theorem qti{c:Ap}(h:w.1[bb]?=G (Al #[a,b,c,d] t (0,0)))(x:Ap):(B w (D bb 3 O) x).1[bb]?=G (Al #[a,b,c,x] t (0,0)):=by
 rw[setCell_eq_setRow w bb 3 _ t (0,0) x h]
 grind[setRow_heap]
theorem vh7{c:Ap}(h:w.1[bb]?=G (Al #[a,b,c,d] t (0,0)))(x:Ap):(B w (D bb 0 O) x).1[bb]?=G (Al #[x,b,c,d] t (0,0)):=by
 rw[setCell_eq_setRow w bb 0 _ t (0,0) x h]
 grind[setRow_heap]
theorem qm1{c:Ap}(h:w.1[bb]?=G (Al #[a,b,c,d] t (0,0))):Xc w bb 0 a/\Xc w bb 1 b/\Xc w bb 2 c/\Xc w bb 3 d/\(Xf w bb)/\bb<Z w.1:=by
 grind[World.cell?,World.frozen?]
def qgn(l:List Sx)(k:Nat):List Sx:=l.take k++l.drop (k+1)
theorem vap(l:List Sx)(k:Nat):(qgn l k).map Sx.sb=qiq (l.map Sx.sb) k:=by simp[qgn,qiq]
theorem qtw(l:List Sx)(k:Nat):(qgn l k).Sublist l:=by
 have h:(l.take k++l.drop (k+1)).Sublist (l.take k++l.drop k):=List.Sublist.append_left (by
  have:l.drop (k+1)=(l.drop k).drop 1:=by rw[List.drop_drop]
  rw[this]
  exact List.drop_sublist _ _) _
 rwa [fq]at h
theorem vty{L:List Su}{l:List Sx}(h:l.map Sx.su=L){x:Su}(f:L[i]?=G x):∃y,l[i]?=G y/\y.su=x:=by
 grind
def jF(L:List Su):List Tm×List Nat:=vF (L.map Su.co) (A L)
theorem pP(l:List Sx):jF (l.map Sx.su)=(tsX l,rsX l):=by
 unfold jF tsX rsX yO;rw[mq,cf];rfl
def PrgS(L:List Su):Prop:=Prg (jF L).1 (jF L).2
theorem qet{l:List Sx}(f:BrAt w bb last sv tv rv l)(o:∀x∈l,x.id≠id):lz 69 #[Ag (G (D bb 0 O)),I J id] w (Aj #[I J (vt (l.map Sx.sb) id),Ah uh]):=by
 have h:=qaz bb (l.map Sx.sb) id _ w f.cells.2.1 (SbRow.subs f.row) f.up (by rw[cf];exact f.n8)
 grind[Sx.sb]
theorem vsa(w:Ao)(F:Nat->Prop)(bb:Nat)(last:Int)(L:List Su)(h:Br w F bb last L)(id:Int)(q:∀x∈L,x.id≠id):
  lz 42 #[Ag (G (D bb 0 O)),I J id] w (Aj #[I J 0,I J 5]):=by
 obtain⟨z,sv,tv,rv,l,p,o,A⟩:=h;have r:=qd (qet p (id:=id) (λx f=>by have:=q x.su (by rw[<-o];exact ld f);exact this));generalize vt (l.map Sx.sb) id=P at *;go_enter func42,ntmps42
 go_wp2_with(refine be r λw1 y=>?_;have u:=qd y)
 go_ret2
 exact⟨rfl,q9 u⟩
theorem vn2(w:Ao)(F:Nat->Prop)(bb:Nat)(last:Int)(L:List Su)(h:Br w F bb last L)(id:Int)(q:∀x∈L,x.id≠id):
  lz 40 #[Ag (G (D bb 0 O)),I J id] w (I J 5):=by
 obtain⟨z,sv,tv,rv,l,p,o,A⟩:=h;have r:=qd (qet p (id:=id) (λx f=>by have:=q x.su (by rw[<-o];exact ld f);exact this));generalize vt (l.map Sx.sb) id=P at *;go_enter func40,ntmps40
 go_wp2_with(refine be r λw1 y=>?_;have u:=qd y)
 go_ret;exact⟨rfl,q9 u⟩
theorem BrAt.deleted{E:Ao}{l:List Sx}(h:BrAt w bb last (C (G (D g 0 O)) (n+1) c) tv rv l)
  (X:SbRow w1 0 (C (G (D g 0 O)) n c) (qiq (l.map Sx.sb) i)) (M:w.grownBy w1 (G g)) (H:E=B w1 (D bb 1 O) (C (G (D g 0 O)) n c))
  (r:RowsAt w2 (Z E.1) tv' rv' (tsX (qgn l i)) (rsX (qgn l i))) (K:Xb E w2) (hp:Prg (tsX (qgn l i)) (rsX (qgn l i))) :
  BrAt (B (B w2 (D bb 2 O) tv') (D bb 3 O) rv') bb last (C (G (D g 0 O)) n c) tv' rv' (qgn l i):=by
 have B9:=M.size;have TR:Z E.1=Z w1.1:=by rw[H];simp
 have D8:=K.size;have Y:=h.lt;have u:bb≠g:=λe=>by subst e;exact(ja h.row h.blk uu) rfl
 have T:w1.1[bb]?=G (Al #[I J last,C (G (D g 0 O)) (n+1) c,tv,rv] 54 (0,0)):=(M.block bb Y (λe=>u (by simpa using e))).trans h.blk;have blkS:=qig T (C (G (D g 0 O)) n c);rw[<-H]at blkS;have z:=(K.block bb uq).trans blkS;have U:=qti (qth z tv') rv'
 have keep:∀k,k<Z w.1->k≠bb->k≠g->(B (B w2 (D bb 2 O) tv') (D bb 3 O) rv').1[k]?=w.1[k]?:=λk Q q N=>by
  rw[bi _ ⟨bb,3,O⟩ _ k (by show k≠bb;exact q),bi _ ⟨bb,2,O⟩ _ k (by show k≠bb;exact q),K.block k uq,H,bi _ ⟨bb,1,O⟩ _ k (by show k≠bb;exact q)];exact M.block k Q (λe=>N (by simpa using e))
 have late:∀k,k≠bb->(B (B w2 (D bb 2 O) tv') (D bb 3 O) rv').1[k]?=w2.1[k]?:=λk q=>by
  rw[bi _ ⟨bb,3,O⟩ _ k (by show k≠bb;exact q),bi _ ⟨bb,2,O⟩ _ k (by show k≠bb;exact q)]
 have sub:=qtw l i;have oF:g<Z w.1:=(h.row.lt g rfl).2;refine⟨U, ?_,⟨?_, ?_,r.ne⟩,λx f=>?_,h.dis.sublist sub,λx f=>?_,λx f k o=>?_, ?_,bu sub.length_le h.n8,λx f=>h.m6 x (sub.subset f),hp⟩
 .show ue _ 0 _ 3 _ (A ((qgn l i).map Sx.sb)) (qt ((qgn l i).map Sx.sb))
  rw[vap];refine qm X λk o=>?_
  have e:g=k:=by simpa [Value.ownBlock]using o
  subst e;rw[late g (λe=>u e.symm),K.block g uq,H,bi _ ⟨bb,1,O⟩ _ g (by grind)]
 exact vE (qm r.ats λk o=>late k (λe=>md ((r.ats.lt k o).1))) (bt _);exact vE (qm r.ars λk o=>late k (λe=>md ((r.ars.lt k o).1))) (bt _);have L:=h.hps x (sub.subset f);exact qm L λk o=>keep k (L.lt k o).2 (λe=>by grind[ja,BrAt]) (λe=>by subst e;exact xf L h.row uu o rfl)
 obtain⟨Q,q,N⟩:=h.cos x (sub.subset f);refine⟨CoAt.keep ux (λk k1 k2=>keep k uq ?_ ?_) ut Q,ut,N⟩;intro e;have:=h.out x (sub.subset f) k (Am e);omega;intro e;have:=h.out x (sub.subset f) k (An (Am (by rw[e];rfl)));omega;have q:=(h.cos x (sub.subset f)).2.1;obtain e|e|e|e|⟨y,S,e⟩:=o;exact h.out x (sub.subset f) k (Am e);exact h.out x (sub.subset f) k (An (Am e));have:=(r.ats.lt k e).1;omega;have:=(r.ars.lt k e).1;omega;exact h.out x (sub.subset f) k (An (An (An (An ⟨y,sub.subset S,e⟩))));exact h.up.sublist (sub.map _)
theorem PrgS.at{l:List Sx}(h:PrgS (l.map Sx.su)):Prg (tsX l) (rsX l):=by
 grind[PrgS,pP]
theorem qeo{l:List Sx}(f:k<A l):A (qgn l k)=A l - 1:=by simp[qgn];omega
theorem vn1(w:Ao)(F:Nat->Prop)(bb:Nat)(last:Int)(L:List Su)(h:Br w F bb last L)(i:Nat)(x:Su)(hx:L[i]?=G x)(dQ:PrgS (L.take i++L.drop (i+1)))
  (Q:Ending->Ao->Prop) (hQ:∀w',Br w' (upF F w w') bb last (L.take i++L.drop (i+1))->Grow F w w'->Q (Ak (I J 0)) w') :
  uo 40 #[Ag (G (D bb 0 O)),I J x.id] w Q:=by
 obtain⟨hF,sv,tv,rv,l,f,hL,D7⟩:=h;obtain⟨y,hy,Y9⟩:=vty hL hx;have aK:=(aj.1 hy).1;obtain⟨n,U⟩:∃n,A l=n+1:=⟨A l - 1,uq⟩
 obtain⟨g,c,rfl⟩:∃g c,sv=C (G (D g 0 O)) (n+1) c:=by
  obtain⟨_,h0⟩|⟨g,c,hv⟩:=vI f.row;simp at h0;subst h0;simp at aK;exact⟨g,c,by rw[hv,cf,U]⟩
 have J5:=qjr f.up (i:=i) (s:=y.sb) (by rw[cj,hy];rfl);have nO:y.sb.id=x.id:=by rw[<-Y9];rfl
 rw[nO]at J5;have FD:=qd (qaz bb (l.map Sx.sb) x.id _ w f.cells.2.1 (SbRow.subs f.row) f.up (by rw[cf];exact f.n8));rw[J5.1,J5.2]at FD;have hdL:(qgn l i).map Sx.su=L.take i++L.drop (i+1):=by rw[<-hL];simp[qgn,List.map_take,List.map_drop]
 have uD:Prg (tsX (qgn l i)) (rsX (qgn l i)):=PrgS.at (by rwa[hdL]);have M:bb≠g:=λe=>by subst e;exact(ja f.row f.blk uu) rfl
 have CELLS:Hid (∀w',Xb w w'->Xc w' bb 1 (C (G (D g 0 O)) (n+1) c)):=qd λw' hb=>(f.h hb).cells.2.1
 have DEL:Hid (∀w',Xb w w'->uo 74 #[C (G (D g 0 O)) (n+1:Nat) c,I J i,I J ((i:Int)+1)] w' λe w''=>e=Ak (C (G (D g 0 O)) n c)/\Xc w'' bb 1 (C (G (D g 0 O)) (n+1) c)/\(Xf w'' bb)/\bb<Z w''.1/\Hid (SbRow w'' 0 (C (G (D g 0 O)) n c) (qiq (l.map Sx.sb) i))/\Hid (w'.grownBy w'' (G g))):=qd (by
  intro w' hb;have N:=f.h hb;refine be (qwc (l.map Sx.sb) n i c g (by rw[cf,U]) 0 w' N.row uq (md f.n8)) ?_;rintro w''⟨E6,q⟩;have hl:A (qiq (l.map Sx.sb) i)=n:=by rw[kY (by rwa[cf]),cf,U];rfl
  rw[hl]at E6 |-;obtain⟨_,b1,_,_,b4,b5⟩:=qm1 ((q.block bb N.lt (λe=>M (by simpa using e))).trans N.blk)
  exact⟨rfl,b1,b4,b5,qd E6,qd q⟩)
 have TG:Hid (∀w' w'',Xb w w'->SbRow w'' 0 (C (G (D g 0 O)) n c) (qiq (l.map Sx.sb) i)->w'.grownBy w'' (G g)->uo 72 #[C (G (D g 0 O)) n c] (B w'' (D bb 1 O) (C (G (D g 0 O)) n c)) λe E=>∃a2 n2 c2 a3 n3 c3,e=Ak (Ai #[C a2 n2 c2,C a3 n3 c3])/\(∃u2 u3,Xc E bb 2 u2/\Xc E bb 3 u3)/\(Xf E bb)/\bb<Z E.1/\Hid (Q (Ak (I J 0)) (B (B E (D bb 2 O) (C a2 n2 c2)) (D bb 3 O) (C a3 n3 c3)))):=qd (by
  intro w1 w2 u E6 q;have X:=f.h u;obtain⟨H,r⟩:=il (B w2 (D bb 1 O) (C (G (D g 0 O)) n c));rw[<-r];have TR:Z H.1=Z w2.1:=by rw[r];simp
  have B9:=u.size;have TQ:=q.size
  have MU:SbRow H 0 (C (G (D g 0 O)) n c) (qiq (l.map Sx.sb) i):=by
   rw[r]
   exact qm E6 λk o=>bi _ ⟨bb,1,O⟩ _ k (by
    have e:g=k:=by simpa [Value.ownBlock]using o
    show k≠bb
    exact λe'=>M (by rw[<-e',<-e]))
  have keepS:∀k,k<Z w1.1->k≠bb->k≠g->H.1[k]?=w1.1[k]?:=λk h1 h2 h3=>by
   rw[r,bi _ ⟨bb,1,O⟩ _ k (by show k≠bb;exact h2)];exact q.block k h1 (λe=>h3 (by simpa using e))
  have A6:A (qiq (l.map Sx.sb) i)=n:=by rw[kY (by rwa[cf]),cf,U];rfl
  have M5:A (yO (qgn l i))=n:=by unfold yO;rw[cf,qeo aK,U];rfl
  have sub:=qtw l i
  have ua:=qd9 (qiq (l.map Sx.sb) i) (yO (qgn l i)) (by rw[M5,A6]) (by rw[A6];have:=f.n8;omega) (C (G (D g 0 O)) n c) H (SbRow.subs MU) (by
   intro k s cc T hc;rw[<-vap,cj]at T;unfold yO at hc;rw[cj]at hc
   cases K:(qgn l i)[k]? with
   | none=>rw[K]at T;cases T
   | some z=>
    rw[K]at T hc;simp at T hc;subst T hc;have ED:=sub.subset (bh K);obtain⟨q1,q2,q3,q4⟩:=X.cos z ED;refine⟨?_,q3,q4⟩;have q5:CoAt z.lo (Z H.1) H (Ag z.cp) z.co:=CoAt.keep uq (λk k1 k2=>keepS k uq (λe=>md (X.out z ED k (Am e))) (λe=>by have:=X.out z ED k (An (Am (by rw[e];rfl)));omega)) uq q1
    exact CoAt.low (bt _) q5)
  refine ua.mono ?_;rintro e E⟨tv',rv',rfl,Y,S⟩;rw[A6]at Y
  have P4:RowsAt E (Z H.1) tv' rv' (tsX (qgn l i)) (rsX (qgn l i)):=by
   unfold tsX rsX;rwa[qeo aK,U]
  have S4:=S.size;have DD:=X.deleted E6 q r P4 S uD;obtain⟨a2,c2,rfl⟩:=Y.ats.form;obtain⟨a3,c3,rfl⟩:=Y.ars.form;have IL:=(q.block bb X.lt (λe=>M (by simpa using e))).trans X.blk;have blkS:=qig IL (C (G (D g 0 O)) n c);rw[<-r]at blkS;obtain⟨_,_,b2,b3,b4,b5⟩:=qm1 ((S.block bb (md f.lt)).trans blkS);refine⟨a2,_,c2,a3,_,c3,rfl,⟨_,_,b2,b3⟩,b4,b5,qd (hQ _ ⟨?_,_,_,_,qgn l i,DD,hdL, ?_⟩ ?_)⟩;intro k o;obtain o|o:=o;have:=hF k o;simp;omega;exact o.2;intro k o;have A1:=DD.foot_lt o
  by_cases hkw:Z w.1<=k
  exact An ⟨hkw,A1⟩
  left
  apply D7;obtain (e|e|e|e|⟨z,K,e⟩)|⟨z,K,e⟩:=o;exact Am (Am e);exact Am (An (Am e));have:=(Y.ats.lt k e).1;omega;have:=(Y.ars.lt k e).1;omega;exact Am (An (An (An (An ⟨z,sub.subset K,e⟩))));exact An ⟨z,sub.subset K,e⟩;refine⟨S.os.trans ?_,S.tape.trans ?_,S.output.trans ?_,ut,λk h1 h2=>?_⟩;rw[r];exact q.os.trans u.os;rw[r];exact q.tape.trans u.tape;rw[r];exact q.output.trans u.output;have aJ:k≠bb:=λe=>h2 (D7 k (Am (Am e)))
  have hkg:k≠g:=λe=>h2 (D7 k (Am (An (Am (by rw[e];rfl)))))
  rw[bi _ ⟨bb,3,O⟩ _ k (by show k≠bb;exact aJ),bi _ ⟨bb,2,O⟩ _ k (by show k≠bb;exact aJ),S.block k uq,keepS k uq aJ hkg]
  exact u.block k h1)
 have hi8:A l<=8:=f.n8;have iw:(i:Int)<=1000:=uq;go_enter func40,ntmps40
 go_wp2_with(first|(go_at_call 69;refine be FD λw1 u=>?_;have B1:=qd u;have c1:=q9 CELLS w1 u)|(go_at_call 74;refine be (DEL _ B1) ?_;rintro w2⟨c2,f2,l2,R2,G2⟩)|(refine(TG w1 w2 B1 R2 G2).mono ?_;rintro e E⟨a2,n2,cc2,a3,n3,cc3,rfl,⟨u2,u3,d2,d3⟩,f3,l3,E3⟩))
 exact q9 E3
def Rep(ts:List Tm):Nat->Co->Prop
 | i,.leaf p=>ts[i]?=G (zV p 0 0)
 | i,.un p x=>∃l,Rep ts l x/\ts[i]?=G (zV p l 0)
 | i,.bin p x y=>∃l r,Rep ts l x/\Rep ts r y/\ts[i]?=G (zV p l r)
def SubC:Co->Co->Prop
 | .leaf p,d=>d=.leaf p
 | .un p x,d=>d=.un p x\/SubC x d
 | .bin p x y,d=>d=.bin p x y\/SubC x d\/SubC y d
theorem Rep.more{us:List Tm}:∀{c:Co} {i:Nat},Rep ts i c->Rep (ts++us) i c:=by
 intro c
 induction c<;>grind[Rep]
theorem Rep.lt{c:Co}(h:Rep ts i c):i<A ts:=by
 cases c<;>grind[Rep]
theorem Rep.sub:∀{c d:Co} {i:Nat},Rep ts i c->SubC c d->∃j,Rep ts j d:=by
 intro c
 induction c<;>grind[Rep,SubC]
theorem qjh(h:ts.Nodup){t:Tm}(o:ts[i]?=G t)(f:ts[j]?=G t):i=j:=by
 grind[List.pairwise_iff_getElem]
theorem Rep.inj(f:ts.Nodup):∀{c:Co} {i j:Nat},Rep ts i c->Rep ts j c->i=j:=by
 intro c
 induction c<;>grind[qjh,Rep]
theorem yq{p q:CP}(hp:qvp p)(hq:qvp q){l r l' f:Nat}(h:zV p l r=zV q l' f):p=q/\l=l'/\r=f:=by
 grind[zV,CP,qvp]
theorem qx0{op:Int}:(jp op=ui->unB op=uh/\qvv op=uh)/\(unB op=ui->jp op=uh/\qvv op=uh):=by
 grind[qvv,jp,unB]
theorem Rep.func:∀{c d:Co} {i:Nat},qc4 c->WfC c->qc4 d->WfC d->Rep ts i c->Rep ts i d->c=d:=by
 intro c
 induction c with
 | leaf p=>
  intro d i A wc o B h f
  cases d with
  | leaf q=>
   have e:=yq A o (Option.some.inj (h.symm.trans f));rw[e.1]
  | un q y =>grind[yq,qx0,Rep,qc4,WfC]
  | bin q y z =>grind[yq,qx0,Rep,qc4,WfC]
 | un p x ih=>
  intro d i A wc o B h f;obtain⟨l,E,C⟩:=h
  cases d with
  | leaf q =>grind[yq,qx0,Rep,qc4,WfC]
  | un q y =>grind[yq,Rep,qc4,WfC]
  | bin q y z=>
   obtain⟨l',G,_,_,b2⟩:=f;have e:=yq A.1 o.1 (Option.some.inj (C.symm.trans b2));have:=(qx0.2 wc.1).2;rw[e.1,B.1]at this;cases this
 | bin p x y ihx ihy=>
  intro d i A wc o B h f;obtain⟨l,r,E,C,D⟩:=h
  cases d with
  | leaf q =>grind[yq,qx0,Rep,qc4,WfC]
  | un q z=>
   obtain⟨l',_,b2⟩:=f;have e:=yq A.1 o.1 (Option.some.inj (D.symm.trans b2));have:=(qx0.2 B.1).2;rw[<-e.1,wc.1]at this;cases this
  | bin q z u =>grind[yq,Rep,qc4,WfC]
theorem vum:∀(m n:Nat) (f:Nat->Nat),(∀i,i<n->f i<m)->(∀i j,i<n->j<n->f i=f j->i=j)->n<=m:=by
 intro m
 induction m with
 | zero=>
  intro n f h _
  cases n with
  | zero=>exact ux
  | succ n=>exact absurd (h 0 uq) uq
 | succ m ih=>
  intro n f h o
  cases n with
  | zero=>omega
  | succ k=>
   have:=ih k (λi=>if f i=m then f k else f i) (λi q=>by
    by_cases e:f i=m
    .grind
    .simp only[e,if_false]
     have:=h i uq
     omega) (λi j q r e=>by
    by_cases e1:f i=m<;>by_cases e2:f j=m
    grind
    grind
    grind
    simp only[e1,e2,if_false]at e
    exact o i j uq uq e)
   omega
structure Full(ts:List Tm)(P:Co->Prop):Prop where
 nodup:ts.Nodup
 all:∀i,i<A ts->∃d,P d/\Rep ts i d
theorem qjw(h:Full ts P){t:Tm}{d:Co}(hd:Rep (pW ts t).1 (pW ts t).2 d):Full (pW ts t).1 (λc=>P c\/c=d):=by
 unfold pW at hd |-
 cases hw:jj ts t with
 | some i=>grind[Full]
 | none=>
  have o:∀x∈ts,x≠t:=by
   grind[jj,kK]
  refine⟨?_,λi f=>?_⟩
  grind[Full]
  by_cases hl:i<A ts
  grind[Rep.more,Full]
  grind
theorem qsa(ts:List Tm)(t:Tm):(pW ts t).1[(pW ts t).2]?=G t/\∃us,(pW ts t).1=ts++us:=by
 unfold pW
 cases hw:jj ts t with
 | some i=>
  refine⟨?_,[],ur⟩;obtain⟨o,f,_⟩:=ip.1 hw;rw[aj];exact⟨o,(kK _ _).1 f⟩
 | none=>grind
theorem pi:∀(c:Co) (ts:List Tm),Rep (qA ts c).1 (qA ts c).2 c/\∃us,(qA ts c).1=ts++us:=by
 intro c
 induction c with
 | leaf p=>intro ts;exact qsa ts (zV p 0 0)
 | un p x ih=>
  intro ts;obtain⟨r,us,q⟩:=ih ts;obtain⟨f,vs,o⟩:=qsa (qA ts x).1 (zV p (qA ts x).2 0);refine⟨⟨(qA ts x).2, ?_,f⟩,us++vs, ?_⟩
  grind[qA,Rep.more]
  grind[qA]
 | bin p x y ihx ihy=>
  intro ts;obtain⟨r,us,q⟩:=ihx ts;obtain⟨k1,vs,u⟩:=ihy (qA ts x).1;obtain⟨f,h,o⟩:=qsa (qA (qA ts x).1 y).1 (zV p (qA ts x).2 (qA (qA ts x).1 y).2);refine⟨⟨(qA ts x).2,(qA (qA ts x).1 y).2, ?_, ?_,f⟩,us++vs++h, ?_⟩
  grind[qA,Rep.more]
  grind[qA,Rep.more]
  grind[qA]
theorem Full.weak{Q:Co->Prop}(h:Full ts P)(f:∀c,P c->Q c):Full ts Q:=by grind[Full]
theorem qxe:∀(c:Co) (ts:List Tm) (P:Co->Prop),Full ts P->Full (qA ts c).1 (λd=>P d\/SubC c d):=by
 intro c
 induction c with
 | leaf p=>
  intro ts P h;exact(qjw h (t:=zV p 0 0) (d:=.leaf p) (pi (.leaf p) ts).1).weak λd hd=>hd
 | un p x ih=>
  intro ts P h;have f:=ih ts P h;refine(qjw f (t:=zV p (qA ts x).2 0) (d:=.un p x) (pi (.un p x) ts).1).weak λd hd=>?_
  obtain (hd|hd)|hd:=hd;exact Am hd;exact An (An hd);exact An (Am hd)
 | bin p x y ihx ihy=>
  intro ts P h;have f:=ihy _ _ (ihx ts P h);refine(qjw f (t:=zV p (qA ts x).2 (qA (qA ts x).1 y).2) (d:=.bin p x y) (pi (.bin p x y) ts).1).weak λd hd=>?_
  obtain ((hd|hd)|hd)|hd:=hd;exact Am hd;exact An (An (Am hd));exact An (An (An hd));exact An (Am hd)
theorem qkx(cs:List Co):∀k,k<=A cs->Full (vF cs k).1 (λd=>∃j c,j<k/\cs[j]?=G c/\SubC c d)/\∀j c,j<k->cs[j]?=G c->∃i,Rep (vF cs k).1 i c:=by
 intro k
 induction k with
 | zero=>grind[vF,Full]
 | succ k ih=>
  intro z;obtain⟨y,u⟩:=ih uq;obtain⟨c,q⟩:∃c,cs[k]?=G c:=⟨_,ag uq⟩;have e:(vF cs (k+1)).1=(qA (vF cs k).1 c).1:=by rw[vF,aq,q];rfl
  rw[e];obtain⟨C,us,r⟩:=pi c (vF cs k).1;refine⟨(qxe c _ _ y).weak λd hd=>?_,λj x B f=>?_⟩
  grind
  by_cases ej:j=k
  grind
  obtain⟨i,o⟩:=u j x uq f;rw[r];exact⟨i,o.more⟩
theorem SubC.fld:∀{c d:Co},qc4 c->WfC c->SubC c d->qc4 d/\WfC d:=by
 intro c
 induction c<;>grind[SubC,qc4,WfC]
theorem vmy{cs':List Co}(E:∀c∈cs,CoreOk c)(C:∀c∈cs',c∈cs):A (vF cs' (A cs')).1<=A (vF cs (A cs)).1:=by
 obtain⟨u,_⟩:=qkx cs' (A cs') ux;obtain⟨U,I⟩:=qkx cs (A cs) ux
 have key:∀i,∃j,i<A (vF cs' (A cs')).1->∃d,Rep (vF cs' (A cs')).1 i d/\Rep (vF cs (A cs)).1 j d/\qc4 d/\WfC d:=by
  intro i
  by_cases f:i<A (vF cs' (A cs')).1
  obtain⟨d,⟨k,c,T,G,y⟩,D⟩:=u.all i f;have r:=C c (bh G);obtain⟨B,z⟩:=db r;obtain⟨S,J⟩:=I B c (aj.1 z).1 z;obtain⟨j,o⟩:=J.sub y;have q:=E c r;exact⟨j,λ_=>⟨d,D,o,y.fld q.fld q.wf⟩⟩;exact⟨0,λh=>absurd h f⟩
 have p:=λi=>Classical.choose_spec (key i)
 refine vum _ _ (λi=>Classical.choose (key i)) (λi f=>?_) (λi j f o e=>?_);obtain⟨d,_,H,_⟩:=p i f;exact H.lt;obtain⟨d,Q,x,O,N⟩:=p i f;obtain⟨X,b1,b2,M,L⟩:=p j o;have K:Classical.choose (key i)=Classical.choose (key j):=e;rw[K]at x;obtain rfl:=Rep.func O N M L x b2;exact Rep.inj u.nodup Q b1
theorem qec(q:∀c∈cs,CoreOk c):∀k,k<=A cs->qvo (vF cs k).1:=by
 intro k
 induction k with
 | zero=>grind[vF,qvo]
 | succ k ih=>
  intro r;obtain⟨c,o⟩:∃c,cs[k]?=G c:=⟨_,ag uq⟩;have e:(vF cs (k+1)).1=(qA (vF cs k).1 c).1:=by rw[vF,aq,o];rfl
  rw[e];have f:=q c (bh o);exact qwl c _ f.fld f.wf (ih uq)
theorem qup{L:List Su}(o:∀x∈L,CoreOk x.co)(r:A L<=8)(q:A (jF L).1<=80):PrgS L:=by
 have hg':∀c∈L.map Su.co,CoreOk c:=λc p=>by
  obtain⟨x,h,rfl⟩:=eh.1 p;exact o x h
 have f:=j7 (L.map Su.co) (A L);refine⟨q, ?_,qec hg' (A L) (by grind),f.2⟩;show (A (vF (L.map Su.co) (A L)).2)<=8;rwa[f.1]
theorem qjt{L L':List Su}(q:∀x∈L,CoreOk x.co)(p:∀x∈L',∃y∈L,x.co=y.co):A (jF L').1<=A (jF L).1:=by
 have:=vmy (cs:=L.map Su.co) (cs':=L'.map Su.co) (λc h=>by
  obtain⟨x,f,rfl⟩:=eh.1 h
  exact q x f) (λc h=>by
  obtain⟨x,f,rfl⟩:=eh.1 h;obtain⟨y,o,e⟩:=p x f;rw[e]
  exact ld o)
 rwa[cf,cf]at this
def qa5(l:List Sx)(k:Nat)(x:Sx):List Sx:=l.take k++x::l.drop k
def qj4(L:List Su)(k:Nat)(x:Su):List Su:=L.take k++x::L.drop k
def xR(L:List Su)(id:Int):Nat:=L.countP λs=>decide (s.id<id)
theorem qrm(l:List Sx)(k:Nat)(x:Sx):(qa5 l k x).map Sx.sb=pV (l.map Sx.sb) k x.sb:=by simp[qa5,pV]
theorem vr0(l:List Sx)(k:Nat)(x:Sx):(qa5 l k x).map Sx.su=qj4 (l.map Sx.su) k x.su:=by simp[qa5,qj4]
theorem qaf(l:List Sx)(k:Nat)(x:Sx):A (qa5 l k x)=A l+1:=by simp[qa5];omega
theorem yQ{l:List Sx}{x y:Sx}(h:y∈qa5 l k x):y=x\/y∈l:=by
 grind[qa5]
theorem vd4(l:List Sx)(id:Int):vt (l.map Sx.sb) id=xR (l.map Sx.su) id:=by
 unfold vt xR;rw[List.countP_map,List.countP_map];rfl
theorem jT(h:ue w base e size v n xs):∃a c,v=C a n c:=by
 grind[vI]
theorem qxd(l:List Sb)(id:Int):vt l id<=A l:=List.countP_le_length
theorem qxs(h:xZ l)(s:Sb)(q:∀t∈l,t.id≠s.id):xZ (pV l (vt l s.id) s):=by
 have f:=kV h s.id;unfold xZ pV
 have p:∀t∈l.take (vt l s.id),t.id<s.id:=by
  grind[List.getElem?_of_mem]
 have o:∀t∈l.drop (vt l s.id),s.id<t.id:=by
  grind[List.getElem?_of_mem]
 grind[List.pairwise_cons,xZ]
theorem BrAt.inserted{l:List Sx}(h:BrAt w bb last sv tv rv l){x:Sx}(I:Xb w W)
  (E6:SbRow W (Z w.1) sv' (pV (l.map Sx.sb) k x.sb)) (r:RowsAt W (Z w.1) tv' rv' (tsX (qa5 l k x)) (rsX (qa5 l k x)))
  (aP:x.row=O) (S:x.cap=0) (J:x.ms=[]) (CQ:CoAt x.lo x.hi W (Ag x.cp) x.co) (dI:Z w.1<=x.lo) (hhi:x.hi<=Z W.1) (K:qe6 x.co) (Q:kt x.co<=250000000)
  (X:∀k,ug sv'=G k\/ug tv'=G k\/ug rv'=G k->k<x.lo\/x.hi<=k)
  (BO:xZ (pV (l.map Sx.sb) k x.sb)) (h8:A l<8) (hp:Prg (tsX (qa5 l k x)) (rsX (qa5 l k x))) :
  BrAt (B (B (B W (D bb 1 O) sv') (D bb 2 O) tv') (D bb 3 O) rv') bb last sv' tv' rv' (qa5 l k x):=by
 have hz:=I.size;have A1:=h.lt;have IK:=qti (qth (qig ((I.block bb A1).trans h.blk) sv') tv') rv'
 have late:∀k,k≠bb->(B (B (B W (D bb 1 O) sv') (D bb 2 O) tv') (D bb 3 O) rv').1[k]?=W.1[k]?:=λk H=>by
  rw[bi _ ⟨bb,3,O⟩ _ k (by show k≠bb;exact H),bi _ ⟨bb,2,O⟩ _ k (by show k≠bb;exact H),bi _ ⟨bb,1,O⟩ _ k (by show k≠bb;exact H)]
 have E:x.hv=C O 0 0:=by unfold Sx.hv;rw[aP,S,J];rfl
 have L:∀k,ug x.hv≠G k:=λk=>by rw[E];simp[Value.ownBlock]
 refine⟨IK, ?_,⟨?_, ?_,r.ne⟩,λy f=>?_, ?_,λy f=>?_,λy f o Y=>?_, ?_,by rw[qaf];omega,λy f=>?_,hp⟩
 grind[ue,qrm]
 exact vE (qm r.ats λj q=>late j (λe=>md ((r.ats.lt j q).1))) (bt _);exact vE (qm r.ars λj q=>late j (λe=>md ((r.ars.lt j q).1))) (bt _);obtain rfl|f:=yQ f;rw[E,J];exact dw _ _ _ _;have hq:=h.hps y f
 exact qm hq λj q=>by
  have UJ:=(hq.lt j q).2;rw[late j (λe=>by subst e;exact ja hq h.blk uu q),I.block j UJ]
 unfold qa5;rw[List.pairwise_append];refine⟨h.dis.sublist (List.take_sublist _ _),my.2 ⟨λy _ j q=>absurd q (L j),h.dis.sublist (List.drop_sublist _ _)⟩,λa ha b M=>?_⟩;obtain rfl|M:=ep.1 M
 grind
 grind[List.take_append_drop,BrAt]
 obtain rfl|f:=yQ f;refine⟨CoAt.keep ux (λj U T=>late j uq) ur CQ,ut,K,Q⟩;obtain⟨h1,H,h3⟩:=h.cos y f;refine⟨CoAt.keep ux (λj U T=>?_) ut h1,ut,h3⟩;rw[late j (λe=>md (h.out y f j (Am e))),I.block j uq]
 have N:o=bb\/(∃z∈l,ug z.hv=G o)\/(Z w.1<=o/\(ug sv'=G o\/ug tv'=G o\/ug rv'=G o)):=by
  obtain e|e|e|e|⟨z,u,e⟩:=Y;exact Am e;exact An (An ⟨(E6.lt o e).1,Am e⟩);exact An (An ⟨(r.ats.lt o e).1,An (Am e)⟩);exact An (An ⟨(r.ars.lt o e).1,An (An e)⟩);obtain rfl|u:=yQ u;exact absurd e (L o);exact An (Am ⟨z,u,e⟩)
 obtain rfl|f:=yQ f;obtain e|⟨z,u,e⟩|⟨_,e⟩:=N
 left;omega
 have:=((h.hps z u).lt o e).2;omega;exact X o e;have H:=(h.cos y f).2.1;obtain e|⟨z,u,e⟩|⟨e,_⟩:=N;exact h.out y f o (Am e);exact h.out y f o (An (An (An (An ⟨z,u,e⟩))))
 right;omega
 rwa[qrm];obtain rfl|f:=yQ f;rw[J];exact bt _;exact h.m6 y f
structure SbReady(w:Ao)(ls:List Sb)(P n:Nat)(id:Int)(c:Co)(W:Ao)(g cap:Nat)(x:Sx):Prop where
 h:Below w.1.size w W
 row:SbRow W w.1.size (C (G ⟨g,0,O⟩) (n+1) cap) (pV ls P x.sb)
 core:CoAt x.lo x.hi W (Ag x.cp) c
 lo:w.1.size<=x.lo
 hi:x.hi<=W.1.size
 out:g<x.lo\/x.hi<=g
 eid:x.id=id
 eco:x.co=c
 e0:x.row=O
 e1:x.cap=0
 e2:x.ms=[]
theorem SbReady.more{o:List Sb}{P:Nat}{c:Co}{W':Ao}{x:Sx}(h:SbReady w o P n id c W g cap x)(f:Xb W W'):SbReady w o P n id c W' g cap x:=
 ⟨qg h.h f,qm h.row λk p=>f.block k (h.row.lt k p).2,CoAt.keep ux (λk _ q=>f.block k (md h.hi)) f.size h.core,h.lo,bu h.hi f.size,h.out,h.eid,h.eco,h.e0,h.e1,h.e2⟩
theorem vp9(w:Ao)(F:Nat->Prop)(bb:Nat)(last:Int)(L:List Su)(h:Br w F bb last L)(id:Int)(I6:∀x∈L,x.id≠id)(s:uk)(c:Co)(V5:vwe s c)(h8:A L<8)(hL:LibOk w)
  (dQ:A (jF (qj4 L (xR L id) ⟨id,c,[]⟩)).1<=80->PrgS (qj4 L (xR L id) ⟨id,c,[]⟩))
  (Q:Ending->Ao->Prop) (hQ:A (jF (qj4 L (xR L id) ⟨id,c,[]⟩)).1<=80->∀w',Br w' (upF F w w') bb last (qj4 L (xR L id) ⟨id,c,[]⟩)->Grow F w w'->Q (Ak (Aj #[I J 0,I J 0])) w') (hT:80<A (jF (qj4 L (xR L id) ⟨id,c,[]⟩)).1->∀w',Xb w w'->Q (Ak (Aj #[I J 8,I J 0])) w') :
  uo 38 #[Ag (G (D bb 0 O)),I J id,Y (BS s)] w Q:=by
 obtain⟨hF,sv,tv,rv,l,T,AE,D7⟩:=h;obtain⟨t,F4,cW,rD,b8,I9,mN⟩:=V5;have F8:∀x∈l,x.id≠id:=λx B=>by have:=I6 x.su (by rw[<-AE];exact ld B);exact this
 have cG:A l=A L:=by rw[<-AE,cf]
 have FD:=qd (qet T F8);obtain⟨P,hP⟩:=ie (vt (l.map Sx.sb) id);have hPS:xR L id=P:=by rw[<-hP,<-AE,vd4]
 have OZ:P<=A l:=by have:=qxd (l.map Sx.sb) id;rwa[cf,hP]at this
 rw[hP]at FD;rw[hPS]at dQ hQ hT
 obtain⟨a,cp,rfl⟩:∃a cp,sv=C a (A l) cp:=by
  obtain⟨a,cp,e⟩:=jT T.row;exact⟨a,cp,by rw[e,cf]⟩
 obtain⟨n,S⟩:=ie (A l);have iZ:n<8:=uq;have RD:Hid (∀w',Xb w w'->uo 47 #[Y (BS s)] w' (qdo w' (.ok t))):=qd λw' hb=>F4 ▸ yT (BS s) w' (hL.h hb ux).err (by rwa[qI])
 have CELLS:Hid (∀w',Xb w w'->Xc w' bb 1 (C a n cp)):=qd λw' hb=>by rw[<-S];exact(T.h hb).cells.2.1
 have CL:Hid (∀w',Xb w w'->uo 71 #[C a n cp] w' λe w''=>∃K H,e=Ak (C K n H)/\Hid (SbRow w'' (Z w'.1) (C K n H) (l.map Sx.sb))/\Hid (Xb w' w'')):=qd (by
  intro w' hb;have hr:=(T.h hb).row;rw[S]at hr;refine(qqj (l.map Sx.sb) (by rw[cf];omega) _ 0 w' hr).mono ?_;rintro e w''⟨v',rfl,h1,E⟩;obtain⟨K,H,e3⟩:=jT h1;rw[cf,S]at e3;subst e3
  exact⟨K,H,rfl,qd h1,qd E⟩)
 have CO:Hid (∀(lo:Nat) (U U':Ao) (v:Ap),Xb w U->Xb U U'->IsNode lo U v t->uo 53 #[v] U' (pH (Z U'.1) U' c)):=qd λlo U U' v u hU' J9=>cW ▸ qej lo t rD (qcj F4) (Z U'.1) U' v ux (hL.h (qg u hU') ux) (J9.above ⟨hU'.size,λk _ E=>hU'.block k E⟩)
 have INS:Hid (∀(w2 N o:Ao) (K:Option Addr) (H b4:Nat),Xb w w2->Xb w2 N->SbRow N (Z w2.1) (C K n H) (l.map Sx.sb)->Xb N o->CoAt (Z N.1) (Z o.1) o (Ag (G (D b4 0 O))) c ->
   uo 70 #[C K n H,I J P,C (G ⟨Z o.1,0,O⟩) 1 1] (o.alloc (Al #[I J id,Ag (G (D b4 0 O)),C O 0 0] 130)) λe W=>∃g cap x,e=Ak (C (G (D g 0 O)) (n+1) cap)/\Hid (SbReady w (l.map Sx.sb) P n id c W g cap x)):=qd (by
  intro w2 N o K H b4 A3 D5 F3 G7 KL;obtain⟨x,B⟩:=il (⟨id,G (D b4 0 O),Z N.1,Z o.1,c,O,0,[]⟩:Sx);have D8:=A3.size;have S4:=D5.size;have MG:=G7.size;obtain⟨w5,iY⟩:=il (o.alloc (Al #[I J id,Ag (G (D b4 0 O)),C O 0 0] 130));have rL:Z w5.1=Z o.1+1:=by rw[iY];simp
  have T5:Xb o w5:=by rw[iY];exact(uy).alloc ux _
  have cL:SbRow w5 (Z w2.1) (C K n H) (l.map Sx.sb):=qm F3 λk r=>by
   have:=(F3.lt k r).2;rw[T5.block k uq,G7.block k uq]
  have YF:ug (C K n H)≠G (Z o.1):=λe=>md ((F3.lt _ e).2)
  rw[<-iY];refine(qwv (l.map Sx.sb) x.sb P (by rwa[cf]) (by rw[cf];omega) _ (Z w2.1) (Z o.1) w5 cL YF (by rw[iY,B];exact heap_alloc_new o _) uq).mono ?_;rintro e W⟨g,cap,rfl,h1,E,h3⟩;rw[xy,cf,S]at h1 |-;have EG:=E.size
  have keep:∀k,Z N.1<=k->k<Z o.1->W.1[k]?=o.1[k]?:=λk k1 k2=>by
   rw[E.block k uq (λe=>md ((F3.lt _ e.symm).2)),T5.block k k2]
  refine⟨g,cap,x,rfl,qd ⟨⟨?_, ?_, ?_,uq,λk r=>?_⟩,vE h1 uq, ?_, ?_, ?_, ?_,by rw[B],by rw[B],by rw[B],by rw[B],by rw[B]⟩⟩
  .exact E.os.trans (T5.os.trans (G7.os.trans (D5.os.trans A3.os)))
  .exact E.tape.trans (T5.tape.trans (G7.tape.trans (D5.tape.trans A3.tape)))
  .exact E.output.trans (T5.output.trans (G7.output.trans (D5.output.trans A3.output)))
  .rw[E.block k uq (λe=>md ((F3.lt _ e.symm).1)),T5.block k uq,G7.block k uq,D5.block k uq,A3.block k r]
  .rw[B]
   exact CoAt.keep ux keep uq KL
  .rw[B];exact bu D8 S4
  .rw[B];show Z o.1<=_;omega
  .rw[B]
   show g<Z N.1\/Z o.1<=g;obtain e|e:=h3
   .left;exact(F3.lt _ e).2
   .right;omega)
 have TG:Hid (∀(W:Ao) (g cap:Nat) (x:Sx),SbReady w (l.map Sx.sb) P n id c W g cap x->uo 72 #[C (G (D g 0 O)) (n+1) cap] W λe W'=>∃X n7 c7 a8 n8 c8,e=Ak (Ai #[C X n7 c7,C a8 n8 c8])/\((n7<=80/\Hid (∀U,Xb W' U->Xc U bb 1 (C a n cp)/\(∃u2 u3,Xc U bb 2 u2/\Xc U bb 3 u3)/\(Xf U bb)/\bb<Z U.1/\Hid (Q (Ak (Aj #[I J 0,I J 0])) (((U.setCell (D bb 1 O) (C (G (D g 0 O)) (n+1) cap)).setCell (D bb 2 O) (C X n7 c7)).setCell (D bb 3 O) (C a8 n8 c8)))))\/(80<n7/\Hid (∀U,Xb W' U->Hid (Q (Ak (Aj #[I J 8,I J 0])) U))))):=qd (by
  intro W g cap x f;have A6:A (pV (l.map Sx.sb) P x.sb)=n+1:=by rw[xy,cf,S]
  have M5:A (yO (qa5 l P x))=n+1:=by unfold yO;rw[cf,qaf,S]
  have EG:=f.h.size
  have ua:=qd9 (pV (l.map Sx.sb) P x.sb) (yO (qa5 l P x)) (by rw[M5,A6]) (by rw[A6];omega) (C (G (D g 0 O)) (n+1) cap) W (SbRow.subs f.row) (by
   intro k s' cc hs hc;rw[<-qrm,cj]at hs;unfold yO at hc;rw[cj]at hc
   cases y:(qa5 l P x)[k]? with
   | none=>rw[y]at hs;cases hs
   | some z=>
    rw[y]at hs hc;simp at hs hc;subst hs hc;obtain rfl|ED:=yQ (bh y);refine⟨?_,by rwa[f.eco],by rwa[f.eco]⟩;have q:=f.core;rw[<-f.eco]at q;exact CoAt.low (bt _) (CoAt.keep f.hi (λ_ _ _=>rfl) ux q);obtain⟨q1,q2,q3,q4⟩:=(T.h f.h).cos z ED
    exact⟨CoAt.low (bt _) (CoAt.keep q2 (λ_ _ _=>rfl) ux q1),q3,q4⟩)
  refine ua.mono ?_;rintro e W'⟨tv',rv',rfl,hr,N8⟩;rw[A6]at hr
  have KN:(qa5 l P x).map Sx.su=qj4 L P ⟨id,c,[]⟩:=by
   rw[vr0,AE]
   congr 1
   unfold Sx.su;rw[f.eid,f.eco,f.e2]
  have hpS:=pP (qa5 l P x);rw[KN]at hpS
  have P4:RowsAt W' (Z W.1) tv' rv' (tsX (qa5 l P x)) (rsX (qa5 l P x)):=by
   unfold tsX rsX;rwa[qaf,S]
  rw[hpS]at dQ hQ hT;obtain⟨X,c7,e7⟩:=jT P4.ats;obtain⟨a8,c8,e8⟩:=jT P4.ars;subst e7 e8;refine⟨X,_,c7,a8,_,c8,rfl, ?_⟩
  by_cases U7:A (tsX (qa5 l P x))<=80
  case neg=>exact An ⟨uq,qd λU u=>qd (hT (by show 80<A (tsX (qa5 l P x));omega) U (qg (qg f.h N8) u))⟩
  refine Am ⟨U7,qd λU u=>?_⟩;have uD:Prg (tsX (qa5 l P x)) (rsX (qa5 l P x)):=PrgS.at (by rw[KN];exact dQ U7);have M:=(f.more N8).more u;have U5:=N8.size;have hzU:=u.size;have hBU:=T.h M.h;obtain⟨d0,d1,d2,d3,d4⟩:=hBU.cells;rw[S]at d1;have XT:RowsAt U (Z w.1) (C X (A (tsX (qa5 l P x))) c7) (C a8 (A (rsX (qa5 l P x))) c8) (tsX (qa5 l P x)) (rsX (qa5 l P x)):=⟨vE (qm P4.ats λk r=>u.block k (P4.ats.lt k r).2) EG,vE (qm P4.ars λk r=>u.block k (P4.ars.lt k r).2) EG,P4.ne⟩;have E6:=M.row
  have up:=qxs T.up x.sb (λt ht=>by
   obtain⟨z,y,rfl⟩:=eh.1 ht;have:=F8 z y;show z.id≠x.id;rw[f.eid]
   exact this)
  have exid:x.sb.id=id:=f.eid;rw[exid,hP]at up
  have hBi:=T.inserted M.h E6 XT f.e0 f.e1 f.e2 (by rw[f.eco];exact M.core) f.lo M.hi (by rwa[f.eco]) (by rwa[f.eco]) (by
   intro k r;obtain e|e|e:=r;have e':g=k:=by simpa [Value.ownBlock]using e
   rw[<-e'];exact f.out;have:=(P4.ats.lt k e).1;have:=f.hi;right;omega
   have:=(P4.ars.lt k e).1;have:=f.hi;right;omega) up uq uD
  refine⟨d1,⟨_,_,d2,d3⟩,d4,hBU.lt,qd (hQ U7 _ ⟨?_,_,_,_,qa5 l P x,hBi,KN, ?_⟩ ?_)⟩;intro k r;obtain r|r:=r;have:=hF k r;simp;omega;exact r.2;intro k r;have A1:=hBi.foot_lt r
  by_cases hkw:Z w.1<=k
  exact An ⟨hkw,A1⟩
  left
  apply D7;obtain (e|e|e|e|⟨z,y,e⟩)|⟨z,y,e⟩:=r;exact Am (Am e);have:=(E6.lt k e).1;omega;have:=(XT.ats.lt k e).1;omega;have:=(XT.ars.lt k e).1;omega;obtain rfl|y:=yQ y;unfold Sx.hv at e;rw[f.e0]at e;simp[Value.ownBlock]at e;exact Am (An (An (An (An ⟨z,y,e⟩))));obtain rfl|y:=yQ y;have:=f.lo;omega;exact An ⟨z,y,e⟩;refine⟨M.h.os,M.h.tape,M.h.output,ut,λk h1 E=>?_⟩;have aJ:k≠bb:=λe=>E (D7 k (Am (Am e)))
  rw[bi _ ⟨bb,3,O⟩ _ k (by show k≠bb;exact aJ),bi _ ⟨bb,2,O⟩ _ k (by show k≠bb;exact aJ),bi _ ⟨bb,1,O⟩ _ k (by show k≠bb;exact aJ)]
  exact M.h.block k h1)
 have hd8:decide ((n:Int)=8)=uh:=da uq;clear T AE D7 hQ hT S hF dQ rD F4 cW b8 I9 mN F8 cG OZ hL hPS hP I6;go_enter func38,ntmps38
 go_wp2_with(first|(go_at_call 69;refine be FD λw1 A0=>?_;have B1:=qd A0;clear A0)|(go_at_call 47;refine(RD _ B1).mono ?_;rintro e w2⟨A3,v2,rfl,K9⟩;obtain⟨vb,rfl⟩:=K9.ptr;have N2:=qd K9;have B2:=qd (qg B1 A3);have c2:=q9 CELLS w2 B2;clear K9 A3)|(go_at_call 71;refine(CL _ B2).mono ?_;rintro e N⟨K,H,rfl,R3,B3⟩)|(go_at_call 53;refine(CO _ _ _ _ B2 B3 N2).mono ?_;rintro e o⟨b4,rfl,KL,G7⟩;have C4:=qd KL;have B4:=qd G7;clear KL G7)|(go_at_call 70;refine(INS _ _ _ _ _ _ B2 B3 R3 B4 C4).mono ?_;rintro e w6⟨g6,m7,x6,rfl,R6⟩)|(go_at_call 72;refine(TG _ _ _ _ R6).mono ?_;rintro e w7⟨X,n7,c7,a8,n8,c8,rfl,⟨U7,E7⟩|⟨U7,E7⟩⟩)|(go_at_call 57;obtain⟨U,u⟩:=il (w7.alloc (Al #[C X n7 c7,C a8 n8 c8] 52));rw[<-u];have t0:U.cell? ⟨Z w7.1,0,O⟩=G (C X n7 c7):=(by rw[u];simp[go_sem]);have t1:U.cell? ⟨Z w7.1,1,O⟩=G (C a8 n8 c8):=(by rw[u];simp[go_sem]);(first|(obtain⟨d1,⟨u2,u3,d2,d3⟩,d4,dl,E8⟩:=q9 E7 U (by rw[u];exact pZ _ _))|have E8:=q9 E7 U (by rw[u];exact pZ _ _));clear u;refine be (qbq _ 0 n7 X c7 U t0) ?_;rintro w8 rfl))
 all_goals exact q9 E8
def gJ(x:Co):List (List UInt8)->Nat->Co
 | [],_=>x
 | t::r,k=>zC x (qq 8 x (vl t)) (r.take (k - 1))
theorem qx9(x:Co):∀(l:List uk) (f:Co) (t:uk),zC x f (l++[t])=qq 7 (zC x f l) (qq 8 x (vl t)):=by
 intro l
 induction l with
 | nil=>intro f t;rfl
 | cons a l ih=>intro f t;exact ih _ t
theorem qwq(x:Co){t:uk}(h:zs[0]?=G t):gJ x zs 1=qq 8 x (vl t):=by
 cases zs<;>grind[gJ,zC]
theorem qrc(x:Co){t:uk}(o:0<k)(h:zs[k]?=G t):gJ x zs (k+1)=qq 7 (gJ x zs k) (qq 8 x (vl t)):=by
 cases zs with
 | nil=>simp at h
 | cons a r=>
  obtain⟨j,rfl⟩:∃j,k=j+1:=⟨k - 1,uq⟩;have f:r[j]?=G t:=by simpa using h
  show zC x (qq 8 x (vl a)) (r.take (j+1+1 - 1))=qq 7 (zC x (qq 8 x (vl a)) (r.take (j+1 - 1))) _;rw[show j+1+1 - 1=j+1 by omega,show j+1 - 1=j by omega,dt,f];exact qx9 x _ _ t
theorem qwo(x:Co)(ts:List uk):gJ x (vw ts) (A (vw ts))=vO x ts:=by
 unfold vO
 cases vw ts with
 | nil=>rfl
 | cons a r=>
  show zC x _ (r.take (A r+1 - 1))=_;rw[show A r+1 - 1=A r by omega,ig]
theorem qwp(x:Co)(zs:List uk)(k:Nat)(h:∀t∈zs,A t<=200)(y:A zs<=200)(u:A (qu x)<=402):A (qu (gJ x zs k))<=1000000:=by
 cases zs with
 | nil=>show (A (qu x))<=_;omega
 | cons a r=>
  have q:=qfj x (r.take (k - 1)) (qq 8 x (vl a)) (λt f=>h t (fe _ (List.mem_of_mem_take f)));rw[qN 8 rfl rfl]at q;have B:=xV a (h a eu);have C:A (jJ 8)=1:=rfl
  have o:A (r.take (k - 1))<=200:=by
   grind
  have z:A (r.take (k - 1)) * (A (qu x)+420)<=200 * 822:=oy o uq;show (A (qu (zC x (qq 8 x (vl a)) (r.take (k - 1)))))<=_;omega
def vpq(uc:Nat)(W:Ao)(x:Co)(zs:List (List UInt8))(k:Nat)(v:Ap):Prop:=(k=0/\v=Ag O)\/(0<k/\∃b,v=Ag (G (D b 0 O))/\CoAt uc (Z W.1) W v (gJ x zs k))
theorem qq4:qc2:=by
 intro lo z w x vx tv ts hB hL hx u y dY A6 hsx;obtain⟨bx,rfl⟩:=hx.ptr
 obtain⟨b,cap,rfl,_,hb,O8⟩:∃g cap,tv=C (G (D g 0 O)) (A ts) cap/\lo<g/\g<Z w.1/\∀(j:Nat) (t:uk),ts[j]?=G t->Xc w g j (Y (BS t)):=by
  obtain⟨o,_⟩|h:=u;exact absurd o y;exact h
 obtain⟨w1,M⟩:=il (w.alloc (Al #[C (G (D b 0 O)) (A ts) cap] 31));have A0:Xb w w1:=by rw[M];exact(uy).alloc ux _
 have B9:Z w1.1=Z w.1+1:=by rw[M];simp
 have VA:=qd (qyz (G (D b 0 O)) (A ts) cap w);rw[<-M]at VA
 have SO:=qd (qyj (Z w.1) b cap ts y uq w1 uq uq (by rw[M];simp[go_sem]) (λj hj=>by
  have e:ts[j]?=G (ts[j]?.getD []):=by rw[ag hj];rfl
  exact(A0.cell (p:=D b j O) hb).trans (O8 j _ e)))
 have CP:Hid (∀g c w2,qq1 w2 (Z w1.1) (C (G (D g 0 O)) (A ts) c) (vvb ts)->Xb w1 w2->uo 192 #[C (G (D g 0 O)) (A ts) c] w2 λe K=>e=Ak (C (G (D g 0 O)) (A (vw ts)) c)/\Hid ((∀j t,(vw ts)[j]?=G t->Xc K g j (Y (BS t)))/\g<Z K.1/\Xb w K)):=qd (by
  intro g c w2 o f;have:=qij g c (vvb ts) (Z w1.1) w2 (by rwa[yC]) (by rw[yC];omega);rw[yC]at this;refine be this λK H=>?_;obtain⟨a1,a2,a3,a4⟩:=q9 H;refine⟨rfl,qd ⟨a1,a3, ?_⟩⟩;have A3:Xb w w2:=qg A0 f
  exact A3.grown a4 A3.size (λj hj=>by
   have e:g=j:=by simpa using hj
   omega))
 have HZ:Hid (∀t∈vw ts,A t<=200):=qd λt u=>A6 t (pD u)
 have sC:A (vw ts)<=200:=bu (qbm ts) dY;have FJ:A (vw ts)≠0:=λe=>qdz y (dh e)
 have iW:Hid (gJ x (vw ts) (A (vw ts))=vO x ts):=qd (qwo x ts);have HX:Hid (∀W,Xb w W->CoAt z (Z W.1) W (Ag (G (D bx 0 O))) x):=qd λW hW=>hx.h hW
 have E:Hid (∀W,Xb w W->LibOk W):=qd λW hW=>hL.h hW ux
 obtain⟨zs,BG⟩:=ie (vw ts);rw[BG]at CP HZ sC FJ iW;obtain⟨n,hn⟩:=ie (A ts);rw[hn]at VA SO CP |-;obtain⟨m,hm⟩:=ie (A zs);rw[hm]at CP sC FJ iW;have HM:=qd hm;clear BG hn hm M hL hx u y A6 O8;go_enter func141,ntmps141
 go_wp2_with(first|(go_at_call 194;refine be VA ?_;rintro w1' rfl)|(go_at_call 193;refine SO.mono ?_;rintro e w2⟨g2,c2,rfl,o,f⟩;have H1:=qd o;have H2:=qd f)|(go_at_call 192;refine be (CP g2 c2 w2 H1 H2) λK H3=>?_))
 go_loopw [5,14] (λv i wr=>∃k:Nat,k<=m/\i=I J k/\Hid (vpq z wr x zs k v)/\Hid (Xb K wr)) (λ_ i _=>m - (intOf i).toNat)
 exact⟨0,bt _,rfl,qd (Am ⟨rfl,rfl⟩),qd uy⟩;obtain⟨k,hk,rfl,FA,S⟩:=hrel
 by_cases A1:k<m
 .obtain⟨t,u⟩:∃t,zs[k]?=G t:=⟨_,ag (md (q9 HM))⟩
  have U0:A t<=200:=q9 HZ t (bh u);obtain⟨a1,a2,a3⟩:=q9 H3;have d0:Xc wr g2 k (Y (BS t)):=(S.cell (p:=D g2 k O) a2).trans (a1 k t u);have U:Xb w wr:=qg a3 S;have TP:=U.size;have SP:Hid (uo 142 #[Ai #[I J 2,Ag O,Ag O,I J 0,Y (BS t),Y ⟨#[]⟩,Y ⟨#[]⟩]] wr λe w'=>∃b,e=Ak (Ag (G (D b 0 O)))/\CoAt z (Z w'.1) w' (Ag (G (D b 0 O))) (vl t)/\Xb wr w'):=qd (xU ⟨2,0,t,[]⟩ rfl vp1 (by show A t<=_;omega) (bt _) uq (E wr U))
  have P8:Hid (∀q B,CoAt z (Z q.1) q (Ag (G (D B 0 O))) (vl t)->Xb wr q->uo 138 #[I J 8,Ag (G (D bx 0 O)),Ag (G (D B 0 O))] q λe w'=>∃b,e=Ak (Ag (G (D b 0 O)))/\CoAt z (Z w'.1) w' (Ag (G (D b 0 O))) (qq 8 x (vl t))/\Xb wr w'):=qd (by
   intro q B o f;have L:=qg U f;refine(jr 8 (md L.size) (E q L) (HX q L) o uq (md (xV t U0))).mono ?_;rintro e w'⟨b,rfl,q1,q2⟩
   exact⟨b,rfl,q1,qg f q2⟩)
  obtain⟨rfl,rfl⟩|⟨t9,Q,rfl,X⟩:=q9 FA
  .have H1C:Hid (gJ x zs 1=qq 8 x (vl t)):=qd (qwq x u)
   go_wp2_with(first|(go_at_call 142;refine SP.mono ?_;rintro e q⟨B,rfl,o,f⟩;have C4:=qd o;have B4:=qd f)|(go_at_call 138;refine(P8 q B C4 B4).mono ?_;rintro e r⟨Q,rfl,o,f⟩;have T:=qd o;have B5:=qd f))
   exact⟨⟨1,uq,rfl,qd (An ⟨uq,Q,rfl,by rw[q9 H1C];exact q9 T⟩),qd (qg S B5)⟩,by simp[intOf];omega⟩
  have HSC:Hid (gJ x zs (k+1)=qq 7 (gJ x zs k) (qq 8 x (vl t))):=qd (qrc x t9 u)
  have P7:Hid (∀r N,CoAt z (Z r.1) r (Ag (G (D N 0 O))) (qq 8 x (vl t))->Xb wr r->uo 138 #[I J 7,Ag (G (D Q 0 O)),Ag (G (D N 0 O))] r λe w'=>∃b,e=Ak (Ag (G (D b 0 O)))/\CoAt z (Z w'.1) w' (Ag (G (D b 0 O))) (gJ x zs (k+1))/\Xb wr w'):=qd (by
   intro r N o f;have L:=qg U f
   have UH:A (qu (qq 8 x (vl t)))<=1000000:=by
    rw[qN 8 rfl rfl];have:=xV t U0;have e8:A (jJ 8)=1:=rfl;omega
   have hlf:=qwp x zs k HZ (by rwa[q9 HM]) hsx;rw[q9 HSC];refine(jr 7 (md L.size) (E r L) (X.h f) o uq uq).mono ?_;rintro e w'⟨b,rfl,q1,q2⟩
   exact⟨b,rfl,q1,qg f q2⟩)
  go_wp2_with(first|(go_at_call 142;refine SP.mono ?_;rintro e q⟨B,rfl,o,f⟩;have C4:=qd o;have B4:=qd f;clear o f)|(go_at_call 138;refine(P8 q B C4 B4).mono ?_;clear P8;rintro e r⟨N,rfl,o,f⟩;have T:=qd o;have B5:=qd f)|(go_at_call 138;refine(P7 r N T B5).mono ?_;rintro e w6⟨b7,rfl,o,f⟩;have C6:=qd o;have B6:=qd f))
  exact⟨⟨k+1,uq,rfl,qd (An ⟨uq,b7,rfl,q9 C6⟩),qd (qg S B6)⟩,by simp[intOf];omega⟩
 have FQ:k=m:=uq;subst FQ;obtain⟨h0,_⟩|⟨_,Q,rfl,X⟩:=q9 FA;exact absurd h0 FJ;have T:=qd X;have HBw:Hid (Xb w wr):=qd (qg H3.2.2 S)
 go_wp2
 go_ret;exact⟨Q,rfl,by rw[<-q9 iW];exact q9 T,q9 HBw⟩
def qe4(w:Ao)(r:RRes)(e:Ending)(w':Ao):Prop:=Below (Z w.1) w w'/\match r with
 | .ok t=>e=Ak (Aj #[Y (BS (qu (qj t))),I J 0,I J 0])
 | .err en pl=>e=Ak (Aj #[Y ⟨#[]⟩,I J en,I J pl])
theorem va5(s:uj)(A:s.size<=140737488355328)(w:Ao)(x:LibOk w):uo 22 #[Y s] w (qe4 w (qW s)):=by
 have RD:=qd (yT s w x.err A)
 cases F4:qW s with
 | ok t=>
  rw[F4]at RD
  have z:Hid (∀(o:Nat) (U:Ao) (v:Ap),Xb w U->IsNode o U v t->uo 53 #[v] U λe w'=>∃b,e=Ak (Ag (G (D b 0 O)))/\Xc w' b 6 (Y (BS (qu (qj t))))/\Xb w w'):=qd (by
   intro o U v u B;refine(qej o t (λ_=>qq4) (qcj F4) (Z U.1) U v ux (x.h u ux) B).mono ?_;rintro e w'⟨b,rfl,I,H⟩;obtain⟨K,f,_,E⟩:=I.K;have J:b=K:=by injection f with f;injection f with f;injection f with f
   subst J
   exact⟨b,rfl,E,qg u H⟩)
  obtain⟨S,C⟩:=ie (qu (qj t));unfold qe4;simp only;rw[C]at z |-;go_enter func22,ntmps22
  go_wp2_with(first|(go_at_call 47;refine RD.mono ?_;rintro e w2⟨r,X,rfl,y⟩;obtain⟨T,rfl⟩:=y.ptr;have L:=qd y;have q:=qd r)|(refine(z _ _ _ q L).mono ?_;rintro e Q⟨b3,rfl,c3,M⟩;have N:=qd M))
  refine um ?_;exact⟨q9 N,rfl⟩
 | err en pl=>
  rw[F4]at RD;have he:=vm F4;have hd:(en != 0)=ui:=ut;unfold qe4;simp only;go_enter func22,ntmps22
  go_wp2_with(refine RD.mono ?_;rintro e w2⟨r,rfl⟩;have q:=qd r)
  refine um ?_;exact⟨q9 q,rfl⟩
theorem vfi(w:Ao)(F:Nat->Prop)(bb:Nat)(last:Int)(L:List Su)(h:Br w F bb last L)(i:Nat)(x:Su)(u:L[i]?=G x)(s:uj):
  lz 38 #[Ag (G (D bb 0 O)),I J x.id,Y s] w (Aj #[I J 6,I J 0]):=by
 obtain⟨E,sv,tv,rv,l,f,z,H⟩:=h;obtain⟨y,r,A⟩:=vty z u;have o:=qjr f.up (i:=i) (s:=y.sb) (by rw[cj,r];rfl);have q:y.sb.id=x.id:=by rw[<-A];rfl
 rw[q]at o;have p:=qd (qaz bb (l.map Sx.sb) x.id _ w f.cells.2.1 (SbRow.subs f.row) f.up (by rw[cf];exact f.n8));rw[o.1,o.2]at p;go_enter func38,ntmps38
 go_wp2_with(refine be p λw1 C=>?_;have B:=qd C)
 go_ret2
 exact⟨rfl,q9 B⟩
theorem vfh(w:Ao)(F:Nat->Prop)(bb:Nat)(last:Int)(L:List Su)(h:Br w F bb last L)(id:Int)(M:∀x∈L,x.id≠id)(s:uj)(z:s.size<=140737488355328)(t:Ast)(S:qW s=.ok t)(E:A L=8)(B:ErrOk w):
  lz 38 #[Ag (G (D bb 0 O)),I J id,Y s] w (Aj #[I J 8,I J 0]):=by
 obtain⟨hF,sv,tv,rv,l,p,q,D7⟩:=h;have Q:∀x∈l,x.id≠id:=λx y=>by have:=M x.su (by rw[<-q];exact ld y);exact this
 have H:A l=8:=by rw[<-E,<-q,cf]
 have N:=qd (qet p Q);generalize vt (l.map Sx.sb) id=P at *
 obtain⟨a,f,rfl⟩:∃a f,sv=C a 8 f:=by
  obtain⟨a,f,e⟩:=jT p.row;exact⟨a,f,by rw[e,cf,H]⟩
 have RD:Hid (∀w',Xb w w'->uo 47 #[Y s] w' (qdo w' (.ok t))):=qd λw' o=>S ▸ yT s w' (B.h o ux) z
 have CELLS:Hid (∀w',Xb w w'->Xc w' bb 1 (C a 8 f)):=qd λw' o=>(p.h o).cells.2.1
 go_enter func38,ntmps38
 go_wp2_with(first|(go_at_call 69;refine be N λw1 U=>?_;have u:=qd U)|(refine(RD _ u).mono ?_;rintro e w2⟨T,Z,rfl,K⟩;obtain⟨X,rfl⟩:=K.ptr;have r:=qd (qg u T);have c2:=q9 CELLS w2 r))
 go_ret2
 exact⟨rfl,q9 r⟩
structure Rs where
 id:Int
 K:List UInt8
 qa:Option Addr
 qc:Nat
 ms:List Mg
def Rs.qv(x:Rs):Ap:=C x.qa (A x.ms) x.qc
def yF(x:Rs):List Ap:=[I J x.id,Y (BS x.K),x.qv]
def qO(l:List Rs):List Ap:=l.flatMap yF
theorem zk(l:List Rs):A (qO l)=A l * 3:=by
 induction l<;>grind[qO,yF,Rs]
theorem qa7(l r:List Rs):qO (l++r)=qO l++qO r:=by simp[qO]
theorem pA(l:List Rs)(k:Nat):(qO l).drop (k * 3)=qO (l.drop k):=by
 induction k generalizing l with
 | zero=>simp
 | succ k ih=>
  cases l with
  | nil=>rfl
  | cons x l=>rw[qO,dy,<-qO,show(k+1) * 3=3+k * 3 by omega,<-List.drop_drop,List.drop_left' (by rfl),ih];rfl
theorem qp3(l:List Rs)(k:Nat):(qO l).take (k * 3)=qO (l.take k):=by
 induction k generalizing l with
 | zero=>simp[qO]
 | succ k ih=>
  cases l with
  | nil=>rfl
  | cons x l=>
   rw[qO,dy,<-qO,List.take_append,show (A (yF x))=3 from rfl,fo (by show 3<=_;omega),show(k+1) * 3 - 3=k * 3 by omega,ih];rfl
theorem qsn{l:List Rs}{x:Rs}(h:l[i]?=G x)(j:Nat)(q:j<3):(qO l)[i * 3+j]?=(yF x)[j]?:=by
 have hd:=pA l i;have o:=(aj.1 h);obtain⟨p,f⟩:=o;rw[cm p,f,qO,qO,dy]at hd;rw[<-ix,qO,hd,cg (by show j<3;omega)]
theorem qg2(h:ue w base e size v n xs):∃a c,v=C a n c:=by
 obtain⟨rfl,f⟩|⟨g,cap,cur,rfl,_⟩:=h.2<;>grind
structure MbAt(w:Ao)(mb:Nat)(n:Int)(sv:Ap)(l:List Rs):Prop where
 blk:w.1[mb]?=G (Al #[sv,I J n] 42 (0,0))
 row:ue w 0 133 3 sv (A l) (qO l)
 qs:∀x∈l,ue w 0 147 2 x.qv (A x.ms) (qU x.ms)
 dis:l.Pairwise λx y=>∀k,ug x.qv=G k->ug y.qv≠G k
def qi8(mb:Nat)(sv:Ap)(l:List Rs)(k:Nat):Prop:=k=mb\/ug sv=G k\/∃x∈l,ug x.qv=G k
section
variable {w w':Ao} {mb:Nat} {n:Int} {sv:Ap} {l:List Rs}
theorem MbAt.lt(h:MbAt w mb n sv l):mb<Z w.1:=by grind[MbAt]
theorem MbAt.cells(h:MbAt w mb n sv l):Xc w mb 0 sv/\Xc w mb 1 (I J n)/\Xf w mb:=by
 grind[World.cell?,World.frozen?,MbAt]
theorem MbAt.foot_lt(h:MbAt w mb n sv l)(f:qi8 mb sv l k):k<Z w.1:=by
 obtain rfl|f|⟨x,o,f⟩:=f;exact h.lt;exact(h.row.lt k f).2;exact((h.qs x o).lt k f).2
theorem MbAt.same(h:MbAt w mb n sv l)(f:∀k,qi8 mb sv l k->w'.1[k]?=w.1[k]?):MbAt w' mb n sv l:=by grind[qm,MbAt,qi8]
theorem MbAt.h(h:MbAt w mb n sv l)(o:Xb w w'):MbAt w' mb n sv l:=h.same λk f=>o.block k (h.foot_lt f)
theorem MbAt.sub(h:MbAt w mb n sv l){x:Rs}(q:l[i]?=G x):∃g c,sv=C (G (D g 0 O)) (A l) c/\g<Z w.1/\Xc w g (i * 3) (I J x.id)/\Xc w g (i * 3+1) (Y (BS x.K))/\Xc w g (i * 3+2) x.qv/\Xf w g:=by
 obtain⟨_,u⟩|⟨g,c,rfl⟩:=vI h.row
 grind
 have f:∀j v,j<3->(yF x)[j]?=G v->Xc w g (i * 3+j) v:=λj v o hv=>by
  have:=World.ownsRow.cells h.row (g:=g) rfl (i * 3+j) v (by rwa[qsn q j o]);rwa [vW,ed]at this
 refine⟨g,c,rfl,(h.row.lt g rfl).2,f 0 _ uq rfl,f 1 _ uq rfl,f 2 _ uq rfl, ?_⟩;obtain⟨e,_⟩|⟨y,z,cur,e,_,r,_⟩:=h.row.2;cases e
 grind[World.frozen?]
end
def gU(l:List Rs)(id:Int):Int:=match l.findIdx? λx=>x.id==id with
 | some i=>i
 | none=>-1
theorem vi9{l:List Rs}{x:Rs}(p:∀(j:Nat) (y:Rs),j<k->l[j]?=G y->y.id≠id)(f:l[k]?=G x)(h:x.id=id):gU l id=k:=by
 obtain⟨o,hv⟩:=aj.1 f
 have:l.findIdx? (λx=>x.id==id)=G k:=by
  grind[List.findIdx?_eq_some_iff_getElem]
 rw[gU,this]
theorem via{l:List Rs}(f:∀(j:Nat) (y:Rs),l[j]?=G y->y.id≠id):gU l id=-1:=by
 grind[List.getElem?_of_mem,gU]
theorem qg0{n:Int}{l:List Rs}(h:MbAt w mb n sv l)(K:A l<=8)(id:Int):
  uo 73 #[Ag (G (D mb 0 O)),I J id] w λe w'=>e=Ak (I J (gU l id))/\w'=w:=by
 obtain⟨c0,X,U⟩:=h.cells;have B:=qd λi x H=>h.sub (i:=i) (x:=x) H
 obtain⟨a,c,rfl⟩:=qg2 h.row;obtain⟨m,u⟩:=ie (A l);rw[u]at K c0 B;have E:=qd u;obtain⟨R,z⟩:=ie (gU l id);rw[z];have C:=qd z;go_enter func73,ntmps73
 go_wp2
 go_loop [5] (λi=>∃k:Nat,k<=m/\i=I J k/\Hid (∀j y,j<k->l[j]?=G y->y.id≠id)) (λi=>m - (intOf i).toNat)
 exact⟨0,bt _,rfl,qd λj y o=>uq⟩;obtain⟨k,M,rfl,q⟩:=hrel
 by_cases A1:k<m
 .obtain⟨x,hx⟩:∃x,l[k]?=G x:=⟨_,ag (md (q9 E))⟩
  obtain⟨g,Y,hv,N,T,e1,S,Q⟩:=q9 B k x hx;simp at hv;obtain⟨rfl,rfl⟩:=hv
  by_cases lY:x.id=id
  .have hd:(x.id==id)=ui:=by simpa using lY
   have Z:decide (x.id=id)=ui:=de lY;have r:Hid (R=(k:Int)):=qd (by rw[<-q9 C];exact vi9 q hx lY)
   go_wp2
   go_ret;exact⟨by rw[q9 r];rfl,rfl⟩
  have hd:(x.id==id)=uh:=by simpa using lY
  have L:Hid (∀j y,j<k+1->l[j]?=G y->y.id≠id):=qd λj y o f=>by
   by_cases e:j=k
   subst e;rw[hx]at f;injection f with f;subst f;exact lY;exact q9 q j y uq f
  go_wp2
  go_round
  case rel=>exact⟨k+1,uq,by go_num,L⟩
  simp[intOf];omega
 have r:Hid (R=-1):=qd (by
  rw[<-q9 C]
  exact via λj y o=>q9 q j y (by have:=(aj.1 o).1;have:=q9 E;omega) o)
 go_wp2
 go_ret;exact⟨by rw[q9 r];rfl,rfl⟩
theorem qu0 : prog.globalNamed "strconv.ErrRange" = G 3 := by kernel_rfl
theorem qmh:(prog.globals[3]?).map (·.type)=G 274:=uw
theorem vuh  {l:List (String × DataW Unit)} (hm : ("strconv.ErrRange", Rows.laid_strconv_ErrRange) ∈ l) (h : laidMet prog l W) : ErrOk W := by
 obtain⟨g,t,cs,fuel,p,h1,h2,h3,h4⟩:=Lib.laidMet.reads h hm;obtain rfl:3=g:=Option.some.inj (qu0.symm.trans h1);obtain rfl:274=t:=Option.some.inj (qmh.symm.trans h2);obtain⟨f1,u,v,J3,_,_⟩:=iface_of_trod underlying274 h4;unfold World.var? at h3;rw[qu0]at h3;simp only[Option.bind_some]at h3
 split at h3
 .rename_i c ty fz hh
  injection h3 with h3;subst h3;refine⟨(ch.1 hh).1,.iface u v, ?_,An ⟨u,v,rfl⟩⟩
  have h0:c[0]?=G (.iface u v):=by
   rw[<-Array.getElem?_toList,J3];rfl
  rw[World.cell?];simp[hh,h0]
 .cases h3
section
attribute [local go_sem ↓] vp
theorem qb1:(prog.info? 133).map (λi=>(i.zero,i.size,i.bytes))=G (G (Ai #[I J 0,Y ⟨#[]⟩,C O 0 0]),3,48):=uw
theorem qj3:(prog.info? 147).map (λi=>(i.zero,i.size,i.bytes))=G (G (Ai #[I J 0,I J 0]),2,16):=uw
theorem gA{base e size bytes n m c:Nat}{ua:TypeId}{z:Ap}{news:List Ap}{a:Option Addr}(E:prog.underlying ua=G (.slice e))(r:(prog.info? e).map (λi=>(i.zero,i.size,i.bytes))=G (G z,size,bytes))(X:z.cells.size=size)(y:0<size)
  (h:ue W base e size v n xs) (L:base<=Z W.1) (H:A news=m * size) (q:(a=O/\m=0/\c=0)\/∃x,a=G x/\∀j u,news[j]?=G u->W.cell? (x.add j)=G u) (Q:∀u∈news,u.oneCell'=ui) (K:n+m<=1000) (C:bytes<=1000) :
  ∃o f w',(xb #[ua,ua] ua #[v,.slice a m c]).run prog W=.ok (.slice o (n+m) f) w'/\Hid (ue w' base e size (.slice o (n+m) f) (n+m) (xs++news))/\Hid (W.grownBy w' (ug v))/\Hid (ug (Value.slice o (n+m) f)=ug v\/ug (Value.slice o (n+m) f)=G (Z W.1)):=by
 obtain⟨D,I,U,B9,Y⟩:=info_parts r;obtain⟨rfl,rfl,rfl⟩|⟨x,rfl,T⟩:=q;have B:=run_append_owned_none (P:=prog) W base ua ua e D size E I v n xs h;obtain rfl:news=[]:=dh (by rw[H,Nat.zero_mul]);obtain⟨a,c,rfl⟩:=qg2 h;exact⟨a,c,W,B,qd (by grind),qd ⟨rfl,rfl,rfl,ux,λ_ _ _=>rfl⟩,qd (Am rfl)⟩;have S:(n+m) * bytes<=140737488355328:=bu (oy K C) uu;obtain⟨v',w',B,J,N,_,M⟩:=run_append_own_at (P:=prog) W base ua ua e D z size bytes E I U B9 Y X y v n xs h x m c news H T Q (by unfold maxLen;omega) S L;obtain⟨o,f,rfl⟩:=qg2 J;exact⟨o,f,w',B,qd J,qd N,qd M⟩
theorem qcq(x:Rs):∀u∈yF x,u.oneCell'=ui:=by
 intro u f;simp[yF]at f;obtain rfl|rfl|rfl:=f<;>rfl
theorem qan(l:List Rs):∀u∈qO l,u.oneCell'=ui:=by
 intro u h;obtain⟨x,_,f⟩:=List.mem_flatMap.1 h;exact qcq x u f
theorem qfc(l:List Mg):∀u∈qU l,u.oneCell'=ui:=by
 intro u h;obtain⟨x,_,f⟩:=List.mem_flatMap.1 h;simp at f;obtain rfl|rfl:=f<;>rfl
structure Ru where
 id:Int
 K:List UInt8
 ms:List Mg
def Rs.ru(x:Rs):Ru:=⟨x.id,x.K,x.ms⟩
def RBr(w:Ao)(F:Nat->Prop)(mb:Nat)(n:Int)(R:List Ru):Prop:=(∀k,F k->k<Z w.1)/\A R<=8/\∃sv l,MbAt w mb n sv l/\l.map Rs.ru=R/\∀k,qi8 mb sv l k->F k
section
variable {w w':Ao} {F:Nat->Prop} {mb:Nat} {n:Int} {R:List Ru}
theorem RBr.frame(h:RBr w F mb n R)(p:Z w.1<=Z w'.1)(q:∀k,F k->w'.1[k]?=w.1[k]?):RBr w' F mb n R:=by
 obtain⟨y,r,sv,l,x,u,o⟩:=h;exact⟨λk f=>au (y k f) p,r,sv,l,x.same λk f=>q k (o k f),u,o⟩
end
theorem MbAt.put{n:Int}{l l':List Rs}(h:MbAt w mb n sv l)(z:Xb w w2)(q:ue w2 (Z w.1) 133 3 sv' (A l') (qO l'))
  (H:∀x∈l',x∈l\/(x.qa=O/\x.qc=0/\x.ms=[])) (hd:l'.Pairwise λx y=>∀k,ug x.qv=G k->ug y.qv≠G k):MbAt (B w2 (D mb 0 O) sv') mb n sv' l':=by
 have S:=h.lt;have p:w2.1[mb]?=G (Al #[sv,I J n] 42 (0,0)):=(z.block mb S).trans h.blk;have N:∀k,k≠mb->(B w2 (D mb 0 O) sv').1[k]?=w2.1[k]?:=λk K=>bi _ ⟨mb,0,O⟩ _ k (by show k≠mb;exact K)
 refine⟨?_, ?_,λx f=>?_,hd⟩;rw[setCell_eq_setRow w2 mb 0 _ _ (0,0) sv' p];exact setRow_heap w2 mb _ _ _ (0,0) p;refine⟨q.1, ?_⟩;obtain M|⟨g,cap,cur,rfl,u,Q,r⟩:=q.2;exact Am M
 grind
 obtain f|⟨U,T,L⟩:=H x f
 exact qm (h.qs x f) λg u=>by
  have E:=((h.qs x f).lt g u).2
  have o:g≠mb:=by
   rintro rfl;rcases(h.qs x f).2 with⟨e,_⟩|⟨X,cap,cur,e,_,Q,_⟩
   grind[Value.ownBlock]
   grind[Value.ownBlock,MbAt]
  exact(N g o).trans (z.block g E)
 have e:x.qv=C O 0 0:=by grind[Rs.qv]
 rw[e,L];exact dw _ _ _ _
end
section
attribute [local go_sem ↓] vp
theorem qsp{l:List Rs}{R:List Ru}(h:l.map Rs.ru=R)(id:Int):l.findIdx? (λx=>x.id==id)=R.findIdx? λx=>x.id==id:=by
 rw[<-h,List.findIdx?_map];rfl
def vgo(R:List Ru)(id:Int):List Ru×Int:=match R.findIdx? λx=>x.id==id with
 | none=>(R,5)
 | some i=>(R.take i++R.drop (i+1),0)
theorem RBr.wide{n:Int}{R:List Ru}(h:RBr w F mb n R):RBr w (upF F w w) mb n R:=by
 obtain⟨u,o,sv,l,r,q,p⟩:=h;exact⟨λk f=>by obtain e|e:=f;exact u k e;exact e.2,o,sv,l,r,q,λk f=>Am (p k f)⟩
theorem Grow.same(F:Nat->Prop)(w:Ao):Grow F w w:=by grind[Grow]
theorem RBr.put{n:Int}{l l':List Rs}(C:∀k,F k->k<Z w.1)(u:∀k,qi8 mb sv l k->F k)(h:MbAt w mb n sv l)(o:Xb w w2)(q:ue w2 (Z w.1) 133 3 sv' (A l') (qO l'))
  (r:∀x∈l',x∈l\/(x.qa=O/\x.qc=0/\x.ms=[])) (hd:l'.Pairwise λx y=>∀k,ug x.qv=G k->ug y.qv≠G k) (I:A l'<=8) :
  RBr (B w2 (D mb 0 O) sv') (upF F w (B w2 (D mb 0 O) sv')) mb n (l'.map Rs.ru)/\Grow F w (B w2 (D mb 0 O) sv'):=by
 have H:Z (B w2 (D mb 0 O) sv').1=Z w2.1:=ur;have M:=o.size;refine⟨⟨λk f=>?_,by grind,sv',l',h.put o q r hd,rfl,λk f=>?_⟩,o.os,o.tape,o.output,uq,λk E J=>?_⟩;obtain e|e:=f;have:=C k e;omega;exact e.2;obtain rfl|f|⟨x,z,f⟩:=f;exact Am (u _ (Am rfl));have:=q.lt k f;exact An ⟨this.1,uq⟩;obtain e|⟨e1,L,K⟩:=r x z;exact Am (u _ (An (An ⟨x,e,f⟩)))
 grind[Rs.qv,Value.ownBlock]
 rw[bi _ ⟨mb,0,O⟩ _ k (by grind[qi8])];exact o.block k E
theorem qy8{n:Int}{R:List Ru}(h:RBr w F mb n R)(id:Int)(Q:Ending->Ao->Prop)(y:∀w',RBr w' (upF F w w') mb n (vgo R id).1->Grow F w w'->Q (Ak (I J (vgo R id).2)) w'):
  uo 41 #[Ag (G (D mb 0 O)),I J id] w Q:=by
 have h':=h;obtain⟨hF,h8,sv,l,o,K,D7⟩:=h;have DE:A l<=8:=by rwa[<-K,cf]at h8
 have q:=qd (qg0 o DE id);have z:=qsp K id
 cases hfx:R.findIdx? (λx=>x.id==id) with
 | none=>
  have L:gU l id=-1:=by rw[gU,z,hfx]
  have N:vgo R id=(R,5):=by rw[vgo,hfx]
  rw[N]at y;have B:=qd (y w h'.wide (Grow.same F w));rw[L]at q;go_enter func41,ntmps41
  go_wp2_with(refine be q λw' U=>?_;subst w')
  exact q9 B
 | some i=>
  have L:gU l id=i:=by rw[gU,z,hfx]
  have N:vgo R id=(R.take i++R.drop (i+1),0):=by rw[vgo,hfx]
  rw[N]at y;rw[L]at q;rw[hfx]at z;have aK:i<A l:=(ip.1 z).1;obtain⟨c0,c1,cz⟩:=o.cells;have T:=o.lt
  obtain⟨g,c,rfl⟩:∃g c,sv=C (G (D g 0 O)) (A l) c:=by
   obtain⟨_,Y⟩|Y:=vI o.row;omega;exact Y
  obtain⟨m,X⟩:=ie (A l)
  have aM:m<=c:=by
   obtain⟨e,_⟩|⟨g',c',cur,e,_,_,H,_⟩:=o.row.2;cases e;simp at e;omega
  have O8:∀j u,(qO l)[j]?=G u->Xc w g j u:=λj u f=>by
   have:=World.ownsRow.cells o.row (g:=g) rfl j u f;rwa [vW,ed]at this
  have aL:=(o.row.lt g rfl).2;obtain⟨a1,QG,w1,T7,M,WM,DL⟩:=gA (ua:=40) (e:=133) (base:=Z w.1) (v:=C O 0 0) (n:=0) (xs:=[]) (m:=i) (c:=c) (a:=G (D g 0 O)) (news:=qO (l.take i)) underlying40 qb1 rfl uq (dw w _ _ _) ux (by rw[zk,cw,mg uq]) (An ⟨_,rfl,λj u f=>by rw[vW,ed];rw[<-qp3]at f;exact O8 j u (by rw[li]at f;split at f;exact f;cases f)⟩) (qan _) uq uq;rw[ed]at T7 M DL;rw[X]at c0 aK;have r:Xb w w1:=uy.grown WM ux (λk E=>by simp[Value.ownBlock]at E);have VS:Xc w1 mb 0 (C (G (D g 0 O)) m c):=((qi r).1 _ _ T).trans c0
  obtain⟨off,cc,cE⟩:∃off cc,(c=i+1/\off=0/\cc=0)\/(¬c=i+1/\off=(i+1) * 3/\cc=c - (i+1)):=by
   by_cases e:c=i+1
   exact⟨0,0,Am ⟨e,rfl,rfl⟩⟩;exact⟨_,_,An ⟨e,rfl,rfl⟩⟩
  have J6:∀j,w1.cell? (D g j O)=w.cell? (D g j O):=λj=>(qi r).1 _ _ aL
  obtain⟨a2,c2,w2,aD,J4,AW,bX⟩:=gA (ua:=40) (e:=133) (m:=m - (i+1)) (c:=cc) (a:=G (D g off O)) (news:=qO (l.drop (i+1))) underlying40 qb1 rfl uq M r.size (by rw[zk,dp,X]) (An ⟨_,rfl,λj u f=>by
   rw[vW,J6];rw[<-pA,ix]at f;obtain⟨e,_,_⟩|⟨_,e,_⟩:=cE;have A6:=(aj.1 f).1;rw[zk]at A6;omega
   rw[e];exact O8 _ u f⟩) (qan _) uq uq
  have S:Xb w w2:=r.grown AW r.size (λk E=>(M.lt k E).1);have e3:i+(m - (i+1))=m - 1:=uq;rw[e3]at aD J4;have YN:A (l.take i++l.drop (i+1))=m - 1:=by rw[cd,cw,dp];omega
  have N9:(l.take i++l.drop (i+1)).Sublist l:=by
   have:=(List.drop_sublist_drop_left l (show i<=i+1 by omega)).append_left (l.take i);rwa [fq]at this
  obtain⟨U8,M7⟩:=RBr.put (l':=l.take i++l.drop (i+1)) hF D7 o S (by rw[YN,qa7];exact q9 J4) (λx hx=>Am (N9.subset hx)) (o.dis.sublist N9) uq;rw[dq,List.map_take,List.map_drop,K]at U8;have B:=qd (y _ U8 M7);have c0'':Xc w2 mb 0 (C (G (D g 0 O)) m c):=((qi S).1 _ _ T).trans c0;have cz2:Xf w2 mb:=λj=>((qi S).2 _ _ T).trans (cz j)
  obtain⟨H,rfl,rfl⟩|⟨H,rfl,rfl⟩:=cE
  .subst H
   rw[show m - (i+1)=0 by omega]at aD;go_enter func41,ntmps41
   go_wp2_with(refine be q λw' U=>?_;subst w')
   all_goals exact q9 B
  go_enter func41,ntmps41
  go_wp2_with(refine be q λw' U=>?_;subst w')
  all_goals exact q9 B
theorem qso{l:List Rs}{s t:Rs}(f:l[i]?=G s)(o:t.id=s.id)(h:t.K=s.K):qO (l.set i t)=(qO l).set (i * 3+2) t.qv:=by
 induction l generalizing i with
 | nil=>simp at f
 | cons a r ih=>
  cases i with
  | zero =>grind[qO,yF]
  | succ i =>grind[qO,yF]
def Ru.ms'(x:Ru)(ms:List Mg):Ru:=⟨x.id,x.K,ms⟩
theorem MbAt.turn{n:Int}{l:List Rs}(h:MbAt w mb n (C (G (D g 0 O)) m c) l){x:Rs}(I:l[i]?=G x)(K:w.grownBy w2 (ug x.qv)){ms':List Mg}
  (hq:ue w2 0 147 2 (C qa (A ms') qc) (A ms') (qU ms')) (H:∀k,ug (C qa (A ms') qc)=G k->ug x.qv=G k\/Z w.1<=k) :
  MbAt (B w2 ⟨g,i * 3+2,O⟩ (C qa (A ms') qc)) mb n (C (G (D g 0 O)) m c) (l.set i ⟨x.id,x.K,qa,qc,ms'⟩):=by
 have T:=bh I;have aK:=(aj.1 I).1
 have hm:m=A l:=by
  grind[vI,MbAt]
 have X:=(h.row.lt g rfl).2;have U:ug x.qv≠G g:=λe=>xf (h.qs x T) h.row uu e rfl
 have XF:ug x.qv≠G mb:=ja (h.qs x T) h.blk uu;have J:mb≠g:=λe=>by subst e;exact(ja h.row h.blk uu) rfl
 have N:∀k,k≠g->(B w2 ⟨g,i * 3+2,O⟩ (C qa (A ms') qc)).1[k]?=w2.1[k]?:=λk f=>bi _ ⟨g,i * 3+2,O⟩ _ k (by show k≠g;exact f)
 have q:w2.1[g]?=w.1[g]?:=K.block g X (λe=>U e.symm)
 have z:ug (C qa (A ms') qc)≠G g:=λe=>by
  obtain e|e:=H g e;exact U e;omega
 have disj:∀j y,j≠i->l[j]?=G y->∀k,ug y.qv=G k->ug x.qv≠G k:=by
  grind[List.pairwise_iff_getElem,MbAt]
 refine⟨?_, ?_,λy Y=>?_, ?_⟩;rw[N mb J,K.block mb h.lt (λe=>XF e.symm)];exact h.blk;have e0:qO (l.set i ⟨x.id,x.K,qa,qc,ms'⟩)=(qO l).set (i * 3+2) (C qa (A ms') qc):=qso I rfl rfl;rw[fm,e0];have u:=h.row;rw[hm]at u |-;refine pg u ?_ uq;obtain⟨_,_,_,cur,r,_⟩:=vM u;rw[setCell_eq_setRow w g _ cur _ (0,0) _ r,setCell_eq_setRow w2 g _ cur _ (0,0) _ (q.trans r),setRow_heap w g cur _ _ (0,0) r,setRow_heap w2 g cur _ _ (0,0) (q.trans r)];obtain⟨j,o⟩:=db Y;rw[ii]at o
 split at o
 simp at o;obtain⟨_,rfl⟩:=o;exact qm hq λk f=>N k (λe=>by subst e;exact z f)
 rename_i E;have S:=h.qs y (bh o)
 exact qm S λk f=>by
  rw[N k (λe=>by subst e;exact xf S h.row uu f rfl)];exact K.block k (S.lt k f).2 (λe=>disj j y (λe=>E e.symm) o k f e.symm)
 rw[ei];intro a b M L Y7 k f;rw[fm]at M L;rw[List.getElem_set]at f |-;have hp:=ei.1 h.dis a b M L Y7
 split at f
 rename_i e;subst e;rw[ak uq];intro Q;obtain e|e:=H k f
 grind
 have:=((h.qs _ (fk L)).lt k Q).2;omega
 split
 rename_i hna e;subst e;intro Q;obtain e|e:=H k Q
 grind
 have:=((h.qs _ (fk M)).lt k f).2;omega;exact hp k f
theorem RBr.turn{n:Int}{l:List Rs}(I:∀k,F k->k<Z w.1)(L:A l<=8)(q:∀k,qi8 mb (C (G (D g 0 O)) m c) l k->F k)(h:MbAt w mb n (C (G (D g 0 O)) m c) l){x:Rs}(u:l[i]?=G x)(o:w.grownBy w2 (ug x.qv)){ms':List Mg}
  (hq:ue w2 0 147 2 (C qa (A ms') qc) (A ms') (qU ms')) (z:∀k,ug (C qa (A ms') qc)=G k->ug x.qv=G k\/Z w.1<=k) :
  RBr (B w2 ⟨g,i * 3+2,O⟩ (C qa (A ms') qc)) (upF F w (B w2 ⟨g,i * 3+2,O⟩ (C qa (A ms') qc))) mb n ((l.map Rs.ru).set i (x.ru.ms' ms'))/\Grow F w (B w2 ⟨g,i * 3+2,O⟩ (C qa (A ms') qc)):=by
 have K:Z (B w2 ⟨g,i * 3+2,O⟩ (C qa (A ms') qc)).1=Z w2.1:=ur;have M:=o.size;refine⟨⟨λk f=>?_,by grind,_,_,h.turn u o hq z,by rw[oo];rfl,λk f=>?_⟩,o.os,o.tape,o.output,uq,λk J E=>?_⟩;obtain e|e:=f;have:=I k e;omega;exact e.2;obtain rfl|f|⟨y,H,f⟩:=f;exact Am (q _ (Am rfl));exact Am (q _ (An (Am f)));obtain⟨j,r⟩:=db H;rw[ii]at r
 split at r
 simp at r;obtain⟨_,rfl⟩:=r;obtain e|e:=z k f;exact Am (q _ (An (An ⟨x,bh u,e⟩)));exact An ⟨e,md ((hq.lt k f).2)⟩;exact Am (q _ (An (An ⟨y,bh r,f⟩)));rw[bi _ ⟨g,i * 3+2,O⟩ _ k (by show k≠g;rintro rfl;exact E (q _ (An (Am rfl))))];exact o.block k J (λe=>E (q _ (An (An ⟨x,bh u,e.symm⟩))))
def xM(ms:List Mg):Nat->Nat
 | 0=>0
 | k+1=>if(ms.getD (xM ms k) ⟨0,0⟩).pri<(ms.getD k ⟨0,0⟩).pri then k else xM ms k
theorem qdq(ms:List Mg):∀k,0<k->xM ms k<k:=by
 intro k
 induction k with
 | zero=>intro h;omega
 | succ k ih=>
  intro _;rw[xM]
  split
  omega
  by_cases e:k=0
  grind[xM]
  grind
theorem qzt(ms:List Mg):xM ms 1=0:=by
 simp[xM]
def qqt(ms:List Mg):List Mg:=ms.take (xM ms (A ms))++ms.drop (xM ms (A ms)+1)
def gP(R:List Ru)(id:Int):List Ru×Int×Int:=match R.findIdx? λx=>x.id==id with
 | none=>(R,0,5)
 | some i=>match R[i]? with
  | none=>(R,0,5)
  | some x=>if A x.ms=0 then(R,0,0) else(R.set i (x.ms' (qqt x.ms)),(x.ms.getD (xM x.ms (A x.ms)) ⟨0,0⟩).M,0)
theorem qn5(l:List Mg)(k:Nat):(qU l).take (k * 2)=qU (l.take k):=by
 induction k generalizing l with
 | zero=>simp[qU]
 | succ k ih=>
  cases l with
  | nil=>rfl
  | cons x l =>grind[qU]
theorem qn4(l:List Mg)(k:Nat):(qU l).drop (k * 2)=qU (l.drop k):=by
 induction k generalizing l with
 | zero=>simp
 | succ k ih=>
  cases l with
  | nil=>rfl
  | cons x l=>grind[qU]
theorem qfb(l r:List Mg):qU (l++r)=qU l++qU r:=by simp[qU]
theorem RBr.up{n:Int}{R:List Ru}(o:Xb w w1)(h:RBr w' (upF F w1 w') mb n R)(f:Grow F w1 w')(u:∀k,F k->k<Z w.1):RBr w' (upF F w w') mb n R/\Grow F w w':=by
 have B:=o.size;have C:=f.size;obtain⟨_,x,sv,l,r,z,y⟩:=h;refine⟨⟨λk q=>by obtain e|e:=q;have:=u k e;omega;exact e.2,x,sv,l,r,z,λk q=>?_⟩,f.os.trans o.os,f.tape.trans o.tape,f.output.trans o.output,uq,λk A r=>(f.block k uq r).trans (o.block k A)⟩;obtain e|e:=y k q;exact Am e;exact An ⟨uq,e.2⟩
theorem vec{n:Int}{R:List Ru}(h:RBr w F mb n R)(h6:∀x∈R,A x.ms<=6)(id:Int)(Q:Ending->Ao->Prop)(S:∀w',RBr w' (upF F w w') mb n (gP R id).1->Grow F w w'->Q (Ak (Aj #[I J (gP R id).2.1,I J (gP R id).2.2])) w'):
  uo 43 #[Ag (G (D mb 0 O)),I J id] w Q:=by
 have h':=h;obtain⟨hF,h8,sv,l,U,hL,D7⟩:=h;have DE:A l<=8:=by rwa[<-hL,cf]at h8
 have FD:=qd (qg0 U DE id);have I5:=qsp hL id
 cases hfx:R.findIdx? (λx=>x.id==id) with
 | none=>
  have hK:gU l id=-1:=by rw[gU,I5,hfx]
  have T:gP R id=(R,0,5):=by rw[gP,hfx]
  rw[T]at S;have K:=qd (S w h'.wide (Grow.same F w));rw[hK]at FD;go_enter func43,ntmps43
  go_wp2_with(go_at_call 73;refine be FD λw' hw=>?_;subst w')
  exact q9 K
 | some i=>
  have hK:gU l id=i:=by rw[gU,I5,hfx]
  rw[hK]at FD;rw[hfx]at I5;have aK:i<A l:=(ip.1 I5).1;obtain⟨x,hx⟩:∃x,l[i]?=G x:=⟨_,ag aK⟩;have hxR:R[i]?=G x.ru:=by rw[<-hL,cj,hx];rfl
  have hx6:A x.ms<=6:=h6 x.ru (bh hxR)
  have T:gP R id=if A x.ms=0 then(R,0,0) else(R.set i (x.ru.ms' (qqt x.ms)),(x.ms.getD (xM x.ms (A x.ms)) ⟨0,0⟩).M,0):=by
   unfold gP;rw[hfx];show(match R[i]? with|none=>_|some x=>_)=_;rw[hxR];rfl
  obtain⟨c0,c1,cz⟩:=U.cells;obtain⟨g,c,e,hg,e0,e1,e2,ez⟩:=U.sub hx;subst e;have X:=U.qs x (bh hx);obtain⟨m,hm⟩:=ie (A l);have fP:=je i m;obtain⟨q,hq⟩:=ie (A x.ms);have lH:w.cell? ⟨g,i * 3+2,O⟩=G (C x.qa q x.qc):=by rw[e2,<-hq];rfl
  have hq6:q<=6:=uq
  by_cases fZ:q=0
  .rw[hq,bs fZ]at T
   rw[T]at S;have K:=qd (S w h'.wide (Grow.same F w));subst fZ;rw[hm]at c0;clear h' S D7 I5 hfx hK T h8 hF h6 X e2 U hL;go_enter func43,ntmps43
   go_wp2_with(go_at_call 73;refine be FD λw' hw=>?_;subst w')
   exact q9 K
  rw[hq,ak fZ]at T;rw[T]at S
  obtain⟨f,XX⟩:∃f,x.qa=G (D f 0 O):=by
   obtain⟨_,h0⟩|⟨f,cq,e⟩:=vI X;omega;exact⟨f,by unfold Rs.qv at e;simp at e;exact e.1⟩
  have EW:x.qv=C (G (D f 0 O)) q x.qc:=by unfold Rs.qv;rw[XX,hq]
  rw[XX]at lH;rw[EW,hq]at X;have MZ:f<Z w.1:=(X.lt f rfl).2
  have O8:∀j u,(qU x.ms)[j]?=G u->Xc w f j u:=λj u o=>by
   have:=World.ownsRow.cells X (g:=f) rfl j u o;rwa [vW,ed]at this
  have HC:Hid (∀wr,Xb w wr->∀j y,x.ms[j]?=G y->Xc wr f (j * 2) (I J y.pri)/\Xc wr f (j * 2+1) (I J y.M)):=qd λwr N j y hy=>by
   obtain⟨a,b⟩:=gi hy;exact⟨((qi N).1 _ _ MZ).trans (O8 _ _ a),((qi N).1 _ _ MZ).trans (O8 _ _ b)⟩
  have HE:Hid (∀wr,Xb w wr->Xc wr g (i * 3+2) (C (G (D f 0 O)) q x.qc)):=qd λwr N=>((qi N).1 _ _ hg).trans lH
  have AK:=qd S;have bQ:=qd U;have LW:=qd hF;have SL:=qd D7;have HX:=qd hx;have HXQ:=qd X;have HCC:=qd O8;have L:=qd hq;have HL:=qd hL;rw[hm]at c0;go_enter func43,ntmps43
  go_wp2_with(go_at_call 73;refine be FD λw' hw=>?_;subst w')
  go_loopw [8,9] (λb k wr=>∃j:Nat,1<=j/\j<=q/\k=I J j/\b=I J (xM x.ms j:Nat)/\Hid (Xb w wr)) (λ_ k _=>q - (intOf k).toNat)
  exact⟨1,ux,uq,rfl,by rw[qzt];rfl,qd uy⟩;obtain⟨j,UJ,hjq,rfl,rfl,HB⟩:=hrel;have E2:=q9 HE wr HB;have U9:=qdq x.ms j uq;obtain⟨b,N⟩:=ie (xM x.ms j);have lN:=qd N;rw[N]at U9 |-
  by_cases lW:j<q
  .obtain⟨y,hy⟩:∃y,x.ms[j]?=G y:=⟨_,ag (md (q9 L))⟩
   obtain⟨z,hz⟩:∃z,x.ms[b]?=G z:=⟨_,ag (md (q9 L))⟩;obtain⟨y1,y2⟩:=q9 HC wr HB j y hy;obtain⟨z1,z2⟩:=q9 HC wr HB b z hz
   have HN:Hid (xM x.ms (j+1)=if z.pri<y.pri then j else b):=qd (by
    rw[xM,q9 lN,aq,aq,hy,hz];rfl)
   have G9:=it b;have H:=je b q;clear hy hz lN
   by_cases hp:z.pri<y.pri
   .have hd:decide (z.pri<y.pri)=ui:=de hp
    rw[bs hp]at HN;clear hp
    go_wp2
    go_quiet (fail)
    go_wp2
    go_roundw
    case rel=>exact⟨j+1,uq,uq,by go_num,by rw[q9 HN],qd (eg HB _)⟩
    simp[intOf];omega
   have hd:decide (z.pri<y.pri)=uh:=da hp;rw[ak hp]at HN;clear hp
   go_wp2
   go_quiet (fail)
   go_wp2
   go_roundw
   case rel=>exact⟨j+1,uq,uq,by go_num,by rw[q9 HN],qd (eg HB _)⟩
   simp[intOf];omega
  have YR:j=q:=uq;subst YR;have L5:=jl j j;have E:=q9 HB;have hz:=E.size;have XU:f<Z wr.1:=uq;obtain⟨z,uX⟩:∃z,x.ms[b]?=G z:=⟨_,ag (md (q9 L))⟩;obtain⟨z1,z2⟩:=q9 HC wr E b z uX;have ML:=qp HXQ E ux
  have aM:j<=x.qc:=by
   obtain⟨e,_⟩|⟨g',c',cur,e,_,_,hc,_⟩:=ML.2;cases e;simp at e;omega
  have GM:∀k u,(qU x.ms)[k]?=G u->Xc wr f k u:=λk u o=>((qi E).1 _ _ MZ).trans (HCC k u o)
  obtain⟨qc,NA⟩:=ie x.qc;rw[NA]at aM E2;obtain⟨a1,QG,w1,T7,I8,WM,DL⟩:=gA (ua:=131) (e:=147) (base:=Z wr.1) (v:=C O 0 0) (n:=0) (xs:=[]) (m:=b) (c:=qc) (a:=G (D f 0 O)) (news:=qU (x.ms.take b)) underlying131 qj3 rfl uq (dw wr _ _ _) ux (by rw[zi,cw,mg (md (q9 L))]) (An ⟨_,rfl,λk u o=>by rw[vW,ed];rw[<-qn5]at o;exact GM k u (by rw[li]at o;split at o;exact o;cases o)⟩) (qfc _) uq uq;rw[ed]at T7 I8 DL;have A0:Xb wr w1:=uy.grown WM ux (λk M=>by simp[Value.ownBlock]at M);have E3:=q9 HE w1 (qg E A0);rw[NA]at E3
  obtain⟨off,cc,cE⟩:∃off cc,(qc=b+1/\off=0/\cc=0)\/(¬qc=b+1/\off=(b+1) * 2/\cc=qc - (b+1)):=by
   by_cases e:qc=b+1
   exact⟨0,0,Am ⟨e,rfl,rfl⟩⟩;exact⟨_,_,An ⟨e,rfl,rfl⟩⟩
  have J6:∀k,w1.cell? (D f k O)=wr.cell? (D f k O):=λk=>(qi A0).1 _ _ XU
  obtain⟨a2,c2,w2,aD,J4,AW,bX⟩:=gA (ua:=131) (e:=147) (m:=j - (b+1)) (c:=cc) (a:=G (D f off O)) (news:=qU (x.ms.drop (b+1))) underlying131 qj3 rfl uq I8 A0.size (by rw[zi,dp,q9 L]) (An ⟨_,rfl,λk u o=>by
   rw[vW,J6];rw[<-qn4,ix]at o;obtain⟨e,_,_⟩|⟨_,e,_⟩:=cE;have A6:=(aj.1 o).1;rw[zi]at A6;have:=q9 L;omega
   rw[e];exact GM _ u o⟩) (qfc _) uq uq
  have H:Xb wr w2:=A0.grown AW A0.size (λk M=>(I8.lt k M).1);have e3:b+(j - (b+1))=j - 1:=uq;rw[e3]at aD J4;have ZJ:qqt x.ms=x.ms.take b++x.ms.drop (b+1):=by unfold qqt;rw[q9 L,q9 lN]
  have cH:A (qqt x.ms)=j - 1:=by rw[ZJ,cd,cw,dp];have:=q9 L;omega
  have S6:wr.grownBy w2 (ug x.qv):=⟨H.os,H.tape,H.output,H.size,λk h1 _=>H.block k h1⟩
  have E6:ue w2 0 147 2 (C a2 (A (qqt x.ms)) c2) (A (qqt x.ms)) (qU (qqt x.ms)):=by
   rw[cH,ZJ,qfb];have:=q9 J4;refine⟨this.1, ?_⟩;obtain h0|⟨g',c',cur,e,_,r⟩:=this.2;exact Am h0;exact An ⟨g',c',cur,e,bt _,r⟩
  obtain⟨U8,M7⟩:=RBr.turn (λk M=>au (LW k M) hz) DE SL (bQ.h E) HX S6 E6 (λk M=>by
   right
   have:=(q9 J4).lt k (by rwa[cH]at M)
   exact this.1)
  rw[q9 HL]at U8;obtain⟨U8,M7⟩:=RBr.up E U8 M7 LW;have K:=qd (AK _ U8 M7);rw[q9 lN,aq,uX,cH]at K;replace K:Hid (Q (Ak (Aj #[I J z.M,I J 0])) (B w2 ⟨g,i * 3+2,O⟩ (C a2 (j - 1) c2))):=K;have E4:w2.cell? ⟨g,i * 3+2,O⟩=G (C (G (D f 0 O)) j qc):=by rw[q9 HE w2 (qg E H),NA]
  have cz2:Xf w2 g:=λk=>((qi (qg E H)).2 _ _ hg).trans (ez k)
  have sD:g<Z w2.1:=au hg (qg E H).size;have G9:=it b;have D5:=je b j;have G7:(b:Int)+1<=(j:Int):=uq;clear U8 M7 E6 S6 cH ZJ e3 I8 J4 WM AW DL bX J6 GM ML uX lN A0 H E AK bQ LW SL HX HXQ HCC HL HE HC NA;obtain⟨hc,rfl,rfl⟩|⟨hc,rfl,rfl⟩:=cE
  .subst hc
   rw[show j - (b+1)=0 by omega]at aD
   go_wp2
   all_goals exact q9 K
  go_wp2
  all_goals exact q9 K
end
theorem OB.bytes{l:uk}(h:OB w base v l):BytesAt w (Z w.1) v l:=by
 have o:=h;obtain⟨rfl,u⟩|⟨g,cap,cur,rfl,y,r,p,_⟩:=h.2
 grind[BytesAt]
 refine⟨_,cap,rfl,p,λi x f=>⟨g,0,rfl,(ch.1 r).1, ?_⟩⟩;have:=World.ownsRow.cells o (g:=g) rfl i (I .u8 (x.toNat:Int)) (by simp[vi,f]);have q:(⟨g,0,O⟩:Addr).add i=⟨g,i,O⟩:=by grind[Addr.add]
 rw[q]at this;rw[ed];exact this
section
attribute [local go_sem ↓] pL
def qaw(w:Ao)(ps:List Pr)(e:Ending)(w':Ao):Prop:=e=Ak (C (G ⟨Z w.1,0,O⟩) (A ps+8) (A ps+8))/\EvRow w' (Z w.1) ps 8/\Below (Z w.1) w w'
theorem qes(E:EvIn w ev ps)(L:48 * A ps<=140737488355328):uo 18 #[ev] w (qaw w ps):=by
 obtain⟨K,M,F5,B9,D8⟩:=info_parts qmr;have Q:=qd E;obtain⟨n,f⟩:=ie (A ps);have x:=qd f
 have X:∃a c,ev=C a n c:=by
  obtain⟨rfl,a,cap,rfl⟩|⟨b,off,cap,rfl,_⟩:=E;exact⟨a,cap,by rw[<-f];rfl⟩;exact⟨_,_,by rw[<-f]⟩
 obtain⟨a,c,rfl⟩:=X;rw[f]at L
 have CP:Hid (∀(W:Ao) (xs:List Ap),EvIn W (C a n c) ps->ue W (Z w.1) 89 4 (C (G ⟨Z w.1,0,O⟩) (n+8) (n+8)) (n+8) xs->∃W',(cpR #[32,32] 3 #[C (G ⟨Z w.1,0,O⟩) (n+8) (n+8),C a n c]).run prog W=.ok (goInt n) W'/\Hid (EvRow W' (Z w.1) ps 0)/\Hid (Below (Z w.1) W W')):=qd λW xs N h2=>by
  have:=qw8 (ty:=3) (xs:=xs) N (by rwa[f]);rwa[f]at this
 have D:=qd (λw=>qh7 w);simp only[prV]at D;go_enter func18,ntmps18
 go_wp2_with(at_make;refine wpList_make_full _ rfl _ _ 32 rfl (Z w.1) 89 K _ 4 underlying32 M F5 B9 J J _ _ (n+8) rfl rfl uq uq (by rw[D8];omega) (by unfold maxLen;omega) ux ?_;intro w1 Y S;have u:Xb w w1:=(Go.RowKit.Below.grown uy S ux (λk r=>(by cases r)));obtain⟨w2,iL,H,G3⟩:=q9 CP w1 _ (Q.h u) Y;have F6:=qd (u.trans G3))
 go_loopw [4] (λi wr=>∃k:Nat,k<=8/\i=I J k/\Hid (EvRow wr (Z w.1) ps k)/\Hid (Xb w wr)) (λi _=>8 - (intOf i).toNat)
 exact⟨0,bt _,rfl,H,F6⟩;obtain⟨k,r,rfl,y,z⟩:=hrel
 by_cases A1:k<8
 .have A5:(k:Int)<8:=uq
  go_wp2_with(refine be (D _) λw4 B=>?_;have o:=(q9 y).h B;obtain⟨v0,q0⟩:=o.cells (k:=(n+k) * 4) uq;obtain⟨v1,q1⟩:=o.cells (k:=(n+k) * 4+1) uq;obtain⟨v2,q2⟩:=o.cells (k:=(n+k) * 4+2) uq;obtain⟨v3,q3⟩:=o.cells (k:=(n+k) * 4+3) uq;have qz:=o.fz;have q:=qd o;have U:=qd (qg z B))
  go_roundw
  case rel=>exact⟨k+1,uq,by go_num,qd (by have:=(q9 q).step;rwa[q9 x]at this),qd ((((U.setCell ux _).setCell ux _).setCell ux _).setCell ux _)⟩
  simp[intOf];omega
 have T:k=8:=uq;subst T
 go_wp2
 go_ret;refine⟨?_,q9 y,q9 z⟩;rw[q9 x];rfl
end
theorem vnu(p:Pr)(w:Ao):(binOp .neq 89 (prV p) (prV p)).run prog w=.ok (Ah uh) w:=by
 simp[prV,go_sem]
theorem qgd{lb:Nat}(E6:EvRow w lb ps 8)(X:EvIn w ev ps)(hl:48 * A ps<=140737488355328):
  lz 21 #[C (G (D lb 0 O)) (A ps+8) (A ps+8),ev] w (Ah ui):=by
 obtain⟨n,f⟩:=ie (A ps);have T:=qd f
 have W9:∃a c,ev=C a n c:=by
  obtain⟨rfl,a,cap,rfl⟩|⟨b,off,cap,rfl,_⟩:=X;exact⟨a,cap,by rw[<-f];rfl⟩;exact⟨_,_,by rw[<-f]⟩
 obtain⟨a,c,rfl⟩:=W9;rw[f]at hl |-
 have eO:Hid (∀(k:Nat) (p:Pr),ps[k]?=G p->∃b off,a=G (D b off O)/\b<Z w.1/\EvAt w b off ps):=qd λk p hp=>by
  obtain⟨h0,_⟩|⟨b,off,cap,e,_,K,Q⟩:=X;rw[h0]at hp;cases hp;injection e with e;exact⟨b,off,e,Q,K⟩
 have fK:=qd E6;have U:=qd (λw=>qh7 w);simp only[prV]at U;go_enter func21,ntmps21
 go_wp2_with(refine be (U _) λw1 A0=>?_;have D9:=qd A0)
 obtain⟨r,y⟩:∃W:Ao,w1.alloc (Al #[Y (BS jd.j),I J jd.val.Q,I J jd.val.M,Y (BS jd.val.str)] 89)=W:=⟨_,rfl⟩;have wU:Xb w1 r:=y ▸ uy.alloc ux _
 have iL:∀k,r.cell? ⟨Z w1.1,k,O⟩=#[Y (BS jd.j),I J jd.val.Q,I J jd.val.M,Y (BS jd.val.str)][k]?:=λk=>by rw[<-y,ce _ _ _ _ ur]
 have rG:Z r.1=Z w1.1+1:=by rw[<-y];simp
 have eB:=qd (qg D9 wU);have o:=qd iL;rw[y]
 go_loopw [6] (λi wr=>∃k:Nat,k<=n+8/\i=I J k/\Hid (Xb r wr)) (λi _=>n+8 - (intOf i).toNat)
 exact⟨0,bt _,rfl,qd uy⟩;obtain⟨k,hk,rfl,x⟩:=hrel;have M:=qg eB x;have iU:=qd M;have S:=(q9 fK).h M
 by_cases Q:k<n+8
 .have Z9:=it k
  have A5:(k:Int)<(n:Int)+8:=uq
  by_cases aB:k<n
  .obtain⟨p,hp⟩:∃p,ps[k]?=G p:=⟨_,ag (md (q9 T))⟩
   obtain⟨b,off,rfl,hb,K⟩:=q9 eO k p hp;obtain⟨H,E,B,z⟩:=S.prop hp;obtain⟨e0,e1,e2,e3⟩:=K k p hp;rw[<-(qi M).1 _ _ hb]at e0 e1 e2 e3;have N:=λw=>vnu p w
   simp only[prV]at N;have ZN:decide ((k:Int)<(n:Int))=ui:=by simpa using aB
   have OM:decide ((k:Int)≥(n:Int))=uh:=ut;have hd3:decide ((n:Int)<=(k:Int))=uh:=ut;have L:decide (n<=k)=uh:=ut;have ZM:decide (k<n)=ui:=by simpa using aB
   have B8:=je k n
   go_wp2
   go_quiet (fail)
   go_wp2
   go_roundw
   case rel=>exact⟨k+1,uq,by go_num,qd (eg x _)⟩
   simp[intOf];omega
  obtain⟨j,rfl⟩:∃j,k=n+j:=⟨k - n,uq⟩;obtain⟨H,E,B,z⟩:=S.spare (k:=j) uq ux;rw[q9 T]at H E B z;obtain⟨u,_⟩:=qi x;have s0:wr.cell? ⟨Z w1.1,0,O⟩=G (Y (BS jd.j)):=(u _ 0 uq).trans (o 0);have s1:wr.cell? ⟨Z w1.1,1,O⟩=G (I J jd.val.Q):=(u _ 1 uq).trans (o 1);have s2:wr.cell? ⟨Z w1.1,2,O⟩=G (I J jd.val.M):=(u _ 2 uq).trans (o 2);have s3:wr.cell? ⟨Z w1.1,3,O⟩=G (Y (BS jd.val.str)):=(u _ 3 uq).trans (o 3);have N:=λw=>vnu jd w
  simp only[prV]at N;obtain⟨q,hq⟩:=ie (n+j);rw[hq]at H E B z hk Q Z9 A5 |-;have L:decide (n<=q)=ui:=ut;have ZM:decide (q<n)=uh:=ut;have B8:=jl q n;generalize jd=sp at *
  go_wp2
  go_quiet (fail)
  go_wp2
  go_roundw
  case rel=>exact⟨q+1,uq,by go_num,qd (eg x _)⟩
  simp[intOf];omega
 have uF:¬(k:Int)<(n:Int)+8:=uq
 go_wp2
 go_ret;exact⟨rfl,q9 iU⟩
section
open Go.ChangeShapes Go.WideShapes Go.RowKit Go.Proofs.Tryz
theorem vk9 : prog.globalNamed "internal/strconv.uint64pow10" = G 1 := by kernel_rfl
theorem vv1(h:W.ShapedOpen prog):4<Z W.1/\∃m,Xc W (4) 0 (I J m):=by
 obtain⟨m,f⟩:=cell_of_shapedOpen_int (g:=4) (zero:=#[I J 0]) (t:=3) h (of_decide_eq_true uw) uw rfl uw uw underlying3;exact⟨block_lt_of_cell f,m,f⟩
theorem vsd:(prog.globals[1]?).map (·.type)=G 339:=uw
theorem vhe:prog.cellsOf 339=20:=uw
theorem vhf:prog.cellsOf 269=1:=uw
theorem vsc:(Rows.laid_internal_strconv_uint64pow10:DataW Unit)=Lib.tabData .u64 Lib.pow10Tab:=uw
theorem vve  {l:List (String × DataW Unit)} (hm : ("internal/strconv.uint64pow10", Rows.laid_internal_strconv_uint64pow10) ∈ l) (h : laidMet prog l W) : Lib.TabIs prog W "internal/strconv.uint64pow10" .u64 Lib.pow10Tab := by
 obtain⟨g,t,cs,fuel,p,h1,h2,h3,h4⟩:=Lib.laidMet.reads h hm;obtain rfl:1=g:=Option.some.inj (vk9.symm.trans h1);obtain rfl:339=t:=Option.some.inj (vsd.symm.trans h2);rw[vsc]at h4;unfold Lib.TabIs;rw[h3,<-Lib.cells_of_tab underlying339 underlying269 vhf vhe h4]
end
end Go.Proofs.YtmepkbgodcffoaaGreatDoor
