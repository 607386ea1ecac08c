/- Terms by their sides -/
import Derived.Test.YtmepkbgodcffoaaGreatDoorM14
import Derived.Test.YtmepkbgodcffoaaGreatDoorM11
set_option maxHeartbeats 32000000
set_option maxRecDepth 100000
namespace Go.Proofs.YtmepkbgodcffoaaGreatDoor
open Go.RowKit Go.Proofs.Tryz
open _root_.List renaming length->A
open Go.World renaming setCell->B
open Bool renaming false->uh,true->ui
open Go.Addr renaming mk->D
open _root_.Array renaming size->Z,toList->T
open Go renaming Value->Ap,World->Ao
open Go.Ending renaming returned->Ak
open Go.IntKind renaming i64->J
open Go.Obj renaming cells->Al
open Go.Value renaming agg->Ai,bool->Ah,int->I,pointer->Ag,slice->C,string->Y,tuple->Aj
open Option renaming none->O,some->G
open Or renaming inl->Am,inr->An
variable{a:Act}{next:Act->Ao->Prop}{fit:Bool}{Q:Exit->Act->Ao->Prop}{pl want:Int}{ps:List Pr}{b cap id j k lo n off:Nat}{p:Pr}{r x:V}{w:Ao}
def qZ:Ast->Pay
 | .leaf p=>p
 | .un p _=>p
 | .bin p _ _=>p
 | .tri p _ _ _=>p
def qw:Ast->List Ast
 | .leaf _=>[]
 | .un _ x=>[x]
 | .bin _ x y=>[x,y]
 | .tri _ x y z=>[x,y,z]
def SidesAt(lo:Nat)(w:Ao)(sv:Ap)(ts:List Ast):Prop:=
 (ts=[]/\sv=C O 0 0)\/∃g,sv=C (G (D g 0 O)) (A ts) (A ts)/\lo<g/\g<Z w.1/\∀(j:Nat) (x:Ast),ts[j]?=G x->∃b,w.cell? (D g j O)=G (Ag (G (D b 0 O)))/\IsNode lo w (Ag (G (D b 0 O))) x
theorem IsNode.parts{v:Ap}{t:Ast}(h:IsNode lo w v t):∃b sv,v=Ag (G (D b 0 O))/\NodeAt lo w b (qZ t) sv/\SidesAt lo w sv (qw t):=by
 cases t with
 | leaf p=>obtain⟨b,rfl,h⟩:=h;exact⟨b,_,rfl,h,Am ⟨rfl,rfl⟩⟩
 | un p x=>
  obtain⟨b,g,i,rfl,h,f,e,m,l⟩:=h;refine⟨b,_,rfl,h,An ⟨g,rfl,f,e,λj y d=>?_⟩⟩
  match j,d with
  | 0,d =>grind[qw,IsNode.ptr]
  | j+1,d=>simp[qw]at d
 | bin p x y=>
  obtain⟨b,g,i,o,rfl,h,f,e,m,s,l,q⟩:=h;refine⟨b,_,rfl,h,An ⟨g,rfl,f,e,λj z d=>?_⟩⟩
  match j,d with
  | 0,d =>grind[qw,IsNode.ptr]
  | 1,d =>grind[qw,IsNode.ptr]
  | j+2,d=>simp[qw]at d
 | tri p x y z=>
  obtain⟨b,g,i,o,A,rfl,h,f,e,m,s,F,l,q,B⟩:=h;refine⟨b,_,rfl,h,An ⟨g,rfl,f,e,λj u d=>?_⟩⟩
  match j,d with
  | 0,d =>grind[qw,IsNode.ptr]
  | 1,d =>grind[qw,IsNode.ptr]
  | 2,d =>grind[qw,IsNode.ptr]
  | j+3,d=>simp[qw]at d
theorem SidesAt.any{d:Ap}{ts:List Ast}(h:SidesAt lo w d ts):∃a,d=C a (A ts) (A ts)/\∀(j:Nat) (x:Ast),ts[j]?=G x->∃g b,a=G (D g 0 O)/\lo<g/\g<Z w.1/\Xc w g j (Ag (G (D b 0 O)))/\IsNode lo w (Ag (G (D b 0 O))) x:=by
 grind[SidesAt]
theorem qg8(t:Ast):A (qw t)<=3:=by cases t<;>simp[qw]
inductive CRes where
 | ok (c:Int)
 | err (pl:Int)
def dem(want pl:Int):List CRes->Bool->Option Int
 | [],fit=>if fit then O else G pl
 | .err q::_,_=>G q
 | .ok c::t,fit=>dem want pl t (fit&&(c==want||c==0))
def xq(want pl c:Int)(rs:List CRes):CRes:=match dem want pl rs ui with
 | none=>.ok c
 | some q=>.err q
def xp(pl:Int):CRes->CRes->CRes
 | .err q,_=>.err q
 | .ok _,.err q=>.err q
 | .ok l,.ok r=>if(l != r&&l != 0&&r != 0)=ui then .err pl else .ok 3
def qR(op pl:Int)(rs:List CRes):CRes:=
 if op==0 then .ok 0 else if op==1 then .ok 1 else if op==2 then .ok 2
 else if op==5||op==6||op==7 then xq 3 pl 3 rs
 else if op==10||op==11||op==12||op==13||op==20 then xq 1 pl 3 rs
 else if op==14||op==15||op==16||op==17||op==18||op==19 then xq 1 pl 1 rs
 else if op==8||op==9 then(match rs with
  | [a,b]=>xp pl a b
  | _=>.ok 3)
 else .ok 3
def qC:Ast->CRes
 | .leaf p=>qR p.op p.U []
 | .un p x=>qR p.op p.U [qC x]
 | .bin p x y=>qR p.op p.U [qC x,qC y]
 | .tri p x y z=>qR p.op p.U [qC x,qC y,qC z]
theorem kn(t:Ast):qC t=qR (qZ t).op (qZ t).U ((qw t).map qC):=by cases t<;>rfl
def WfA:Ast->Prop
 | .leaf p=>¬p.op=8/\¬p.op=9
 | .un p x=>(¬p.op=8/\¬p.op=9)/\WfA x
 | .bin _ x y=>WfA x/\WfA y
 | .tri p x y z=>(¬p.op=8/\¬p.op=9)/\WfA x/\WfA y/\WfA z
def vpm(w:Ao)(r:CRes)(e:Ending)(w':Ao):Prop:=
 Below (Z w.1) w w'/\match r with
 | .ok c=>e=Ak (I J c)
 | .err pl=>e=vg 4 pl
def qc3(lo:Nat)(t:Ast):Prop:=∀(w:Ao) (v:Ap),IsNode lo w v t->Calls prog 120 #[v] w (vpm w (qC t))
theorem vqd{q:Int}{d:List CRes}(h:d[j]?=G (.err q)):dem want pl (d.drop j) fit=G q:=by
 obtain⟨e,f⟩:=aj.1 h;rw[cm e,f];rfl
theorem vue{c:Int}{d:List CRes}(h:d[j]?=G (.ok c)):dem want pl (d.drop j) fit=dem want pl (d.drop (j+1)) (fit&&(c==want||c==0)):=by
 obtain⟨e,f⟩:=aj.1 h;rw[cm e,f];rfl
theorem vqc{d:List CRes}(h:A d<=j):dem want pl (d.drop j) fit=if fit then O else G pl:=by
 rw[eo h];rfl
def qz6(w:Ao)(r:Option Int)(e:Ending)(w':Ao):Prop:=Below (Z w.1) w w'/\match r with
 | none=>e=Ak (Aj #[])
 | some q=>e=vg 4 q
theorem qwd(lo:Nat)(t:Ast)(o:∀x∈qw t,qc3 lo x)(want:Int)(w:Ao)(v:Ap)(h:IsNode lo w v t):
  uo 169 #[v,I J want] w (qz6 w (dem want (qZ t).U ((qw t).map qC) ui)):=by
 obtain⟨R,C⟩:=ie (dem want (qZ t).U ((qw t).map qC) ui);rw[C];have K:=qd C;obtain⟨b,sv,rfl,A8,bH⟩:=h.parts;obtain⟨a,rfl,X⟩:=bH.any;have U:=qg8 t;obtain⟨Y7,I1,c0,H,Y,c3,c4,c5,c6⟩:=A8;obtain⟨n,z⟩:=ie (A (qw t));rw[z]at Y U;have L:=qd z;have HS:=qd X;have HC:=qd o;obtain⟨pl,J5⟩:=ie ((qZ t).U);rw[J5]at H K;go_enter func169,ntmps169
 go_wp2
 go_loopw [4,13] (λfit i wr=>∃(j:Nat) (f:Bool),j<=n/\i=I J j/\fit=Ah f/\Hid (R=dem want pl (((qw t).map qC).drop j) f)/\Xb w wr) (λ_ i _=>n - (intOf i).toNat)
 exact⟨0,ui,bt _,rfl,rfl,qd (by rw[ee,q9 K]),uy⟩;obtain⟨j,f,hj,rfl,rfl,u,m⟩:=hrel;have d1:=(m.cell (p:=D b 1 O) I1).trans H
 by_cases A1:j<n
 .obtain⟨x,hx⟩:∃x,(qw t)[j]?=G x:=⟨_,ag (by rwa[q9 L])⟩
  obtain⟨g,bx,rfl,J6,L6,T,W⟩:=q9 HS j x hx;have dx:=(m.cell (p:=D g j O) L6).trans T;have Z:x∈qw t:=bh hx;have F:=qd (W.P (Kept.x m));have B:((qw t).map qC)[j]?=G (qC x):=by rw[cj,hx];rfl
  have M:=qd (HC x Z)
  cases M5:qC x with
  | err q=>
   have d:Hid (R=G q):=qd (by rw[q9 u,vqd (by rw[B,M5])]);have l:=qd M5
   go_wp2_with(refine(M _ _ F).mono ?_;rintro e P⟨y,s⟩;rw[q9 l]at s;subst s;simp only[vg])
   rw[q9 d];exact⟨rfl,qg m y,rfl⟩
  | ok c=>
   have d:Hid (R=dem want pl (((qw t).map qC).drop (j+1)) (f&&(c==want||c==0))):=qd (by rw[q9 u,vue (by rw[B,M5])]);have l:=qd M5;cases f<;>cases dK:(c==want)<;>cases bW:(c==0)
   all_goals
    rw[dK,bW]at d;simp only[nl,lu,Bool.or_true,nj,Bool.or_self,Bool.and_self]at d
    go_wp2_with(refine(M _ _ F).mono ?_;rintro e P⟨y,s⟩;rw[q9 l]at s;subst s)
    go_roundw
    case rel=>exact⟨j+1,_,uq,by go_num,rfl,d,qg m y⟩
    simp[intOf];omega
 have d:Hid (R=if f then O else G pl):=qd (by rw[q9 u,vqc (by rw[cf,q9 L];omega)]);cases f
 .go_wp2
  rw[q9 d];exact⟨rfl,m,rfl⟩
 go_wp2
 go_end0
 rw[q9 d];exact⟨m,rfl⟩
def qz3:CRes->Option Int
 | .err q=>G q
 | .ok c=>if(c != 3&&c != 0)=ui then G 0 else O
def jP(op:Int)(x y:V):V:=
 if op=5 then yR x else if op=6 then qib x y else if op=7 then orV x y else if op=8 then eqV x y else if op=9 then yR (eqV x y)
 else if op=12 then kC y x else if op=10 then kC x y else if op=13 then leV y x else if op=11 then leV x y
 else if op=14 then qpt (iV 0) x else if op=16 then qpt x y else if op=15 then qym (iV 0) x else if op=17 then qym x y
 else if op=18 then qpv x y else if op=19 then qwf x y else bV (x.Q==0)
def x9(op:Int)(x y r:V):Prop:=∀w:Ao,Calls prog 126 #[I J op,vV x,vV y] w λe w'=>e=Ak (vV r)/\Below (Z w.1) w w'
theorem pF(h:Q (.exit n) a w):Exit.then next Q (.exit n) a w:=h
theorem xd(d:(n==id)=uh)(h:Q (.exit n) a w):Exit.inBlock id Q (.exit n) a w:=by
 grind[Exit.inBlock]
theorem xO(h:Q .normal a w):Exit.inBlock id Q (.exit id) a w:=by
 grind[Exit.inBlock]
theorem zI(h:next a w):Exit.then next Q .normal a w:=h
theorem vp1:Rng 0:=by simp[Rng]
theorem ya{p:Prop}(h:p:=by
  intro w
  conv=>arg 3;simp only[vV]
  go_enter func126,ntmps126
  repeat ((fail_if_success (with_reducible refine wp_exit ?_));go_step)
  with_reducible refine wp_exit ?_
  repeat (first|(with_reducible refine pF ?_)|(with_reducible refine xO ?_)|((with_reducible refine xd ?hne ?_);(case hne=>rfl)))
  with_reducible refine zI ?_
  go_wp2_with((first|go_at_call 178|go_at_call 122|go_at_call 175|go_at_call 176|go_at_call 179|go_at_call 123|go_at_call 180|go_at_call 181|go_at_call 182|go_at_call 183);refine be (CON _) λw1 A0=>?_;obtain⟨C9,G4⟩:=qi A0;have B9:w.1.size+2<w1.1.size:=(by have:=A0.size;simp at this;omega);simp only[vV])
  refine bo (by simp[go_sem,C9]<;>rfl) rfl ⟨rfl, ?_⟩
  exact((((qg (jK _ _ _ _) A0).setCell ut _).setCell ut _).setCell ut _)):p:=h
theorem xj(s:uj)(e:s.size<=140737488355328)(w:Ao):
  lz 83 #[Y s] w (Ah (jW (T s.data))):=by
 unfold jW;rw[qy];obtain⟨g,d⟩:=ie (kD (T s.data));rw[d];have f:=qd d
 by_cases h:s.size<=16
 .go_enter func83,ntmps83
  go_wp2_with(refine be (qwx _ e _) λw' i=>?_;rw[q9 f])
  all_goals(go_ret;exact⟨vd (by simp_all),by assumption⟩)
 go_enter func83,ntmps83
 go_wp2
 go_ret;exact⟨vd uv,uy⟩
theorem qta(l:uk):(BS l).toList.isEmpty=l.isEmpty:=by rw[qP]
theorem xL(v:V)(hv:A v.str<=140737488355328)(w:Ao):
  Calls prog 84 #[vV v] w λe w'=>e=Ak (Ah (pY v))/\Xb w w':=by
 have d:=qta v.str;have g:=qI v.str;unfold pY;obtain⟨h,f⟩:=ie v.str.isEmpty;rw[f]at d |-
 conv=>arg 3;simp only[vV]
 cases h0:(v.Q==0)
 .cases h1:(v.Q==1)
  .cases h2:(v.Q==2)
   .cases h3:(v.Q==3)
    .simp only[dk,if_false]
     go_enter func84,ntmps84
     go_wp2
     go_ret;exact⟨rfl,uy.alloc ux _⟩
    simp only[dk,if_false,if_true];go_enter func84,ntmps84
    go_wp2
    all_goals(go_ret;exact⟨vd (by simp_all<;>omega),uy.alloc ux _⟩)
   simp only[dk,if_false,if_true];go_enter func84,ntmps84
   go_wp2
   all_goals(go_ret;exact⟨vd (by simp_all<;>omega),uy.alloc ux _⟩)
  simp only[dk,if_false,if_true];go_enter func84,ntmps84
  go_wp2
  all_goals(go_ret;exact⟨vd (by simp_all<;>omega),uy.alloc ux _⟩)
 simp only[if_true];go_enter func84,ntmps84
 go_wp2
 all_goals(go_ret;exact⟨vd (by simp_all<;>omega),uy.alloc ux _⟩)
def qgo(ps:List Pr)(k:Nat):Bool:=match ps[k]? with
 | some p=>jW p.j&&pY p.val&&!qkt (ps.take k) p.j
 | none=>ui
def zQ(ps:List Pr):Bool:=decide (A ps<=8)&&(List.range (A ps)).all (qgo ps)
theorem qmj(h:¬A ps<=8):zQ ps=uh:=by grind[zQ]
theorem vi7(d:k<A ps)(h:qgo ps k=uh):zQ ps=uh:=by
 grind[zQ]
theorem qmi(d:A ps<=8)(h:∀j,j<A ps->qgo ps j=ui):zQ ps=ui:=by
 simp_all [zQ]
theorem EvAt.take(h:EvAt w b off ps)(k:Nat):EvAt w b off (ps.take k):=by
 grind[EvAt]
def qzc(ps:List Pr):Prop:=∀p∈ps,A p.j<=140737488355328/\A p.val.str<=140737488355328
theorem vqt{d:List Pr}(hq:A d=k)(cap:Nat)(s:uj)(w:Ao)(f:k<=8)(e:EvAt w b off d)(g:b<Z w.1):
  lz 85 #[C (G (D b off O)) k cap,Y s] w (Ah (qkt d (T s.data))):=by
 grind[vqs]
theorem EvAt.later{W d w2:Ao}{o:Obj}(h:EvAt w b off ps)(g:W=(w.alloc o).drew)(m:b<Z w.1)(f:Xb W d)(l:Xb d w2):EvAt w2 b off ps:=by
 subst g;have i:EvAt (w.alloc o).drew b off ps:=h.h (uy.alloc ux o).drew m;have e:b<(w.alloc o).drew.1.size:=by show b<Z (w.alloc o).1;simp;omega
 exact(i.h f e).h l (au e f.size)
theorem qyu(b off cap:Nat)(ps:List Pr)(w:Ao)(aM:A ps<=cap)(fH:A ps<=140737488355328)(z:qzc ps)(K:EvAt w b off ps)(v:b<Z w.1)(d:zQ ps=ui):
  lz 48 #[C (G (D b off O)) (A ps) cap] w (Ah ui):=by
 obtain⟨h8,M⟩:A ps<=8/\∀j,j<A ps->qgo ps j=ui:=by
  unfold zQ at d;rw[dn,fw,List.all_eq_true]at d;exact⟨d.1,λj e=>d.2 j (lj.2 e)⟩
 have HG:=qd M;go_enter func48,ntmps48
 go_wp2
 go_loopw [3,4,10] (λ_ _ i wr=>∃k:Nat,k<=A ps/\i=I J k/\Hid (∀j,j<k->qgo ps j=ui)/\Xb w wr) (λ_ _ i _=>A ps - (intOf i).toNat)
 exact⟨0,bt _,rfl,qd (λj e=>absurd e uq),uy⟩;obtain⟨k,hk,rfl,L,f⟩:=hrel
 by_cases L5:k<A ps
 .obtain⟨p,hp⟩:∃p,ps[k]?=G p:=⟨_,ag L5⟩
  have s:=K.h f v;have H:b<Z wr.1:=au v f.size;obtain⟨h1,h2,h3,h4⟩:=s k p hp;obtain⟨W,R⟩:=z p (bh hp);have d:qgo ps k=(jW p.j&&pY p.val&&!qkt (ps.take k) p.j):=by unfold qgo;rw[hp]
  have U:A (ps.take k)=k:=by rw[cw];omega
  have B:=qd (s.take k);have HL:=qd U;have m:=q9 HG k L5;rw[d]at m;simp only[dn,Bool.not_eq_true']at m;obtain⟨⟨u,hv⟩,t⟩:=m;have HN:=qd u;have Y:=qd hv
  have o:Hid (∀j,j<k+1->qgo ps j=ui):=qd (λj e=>by
   by_cases hjk:j<k
   exact q9 L j hjk;have:j=k:=uq
   rw[this,d,u,hv,t];rfl)
  have HH:=qd t
  go_wp2
  go_region_with(first|(go_at_call 83;refine be (xj _ (by exact W) _) λq l=>?_;rw[show jW (T (BS p.j).data)=ui from q9 HN];obtain⟨C9,G4⟩:=qi l;have B9:Z wr.1<Z q.1:=(by have:=l.size;simp at this;omega);have X:Xb w q:=qg (jf f _).drew l)|(go_at_call 84;refine be (xL p.val R _) λw2 g=>?_;rw[q9 Y];obtain⟨L7,P9⟩:=qi g;have D8:Z wr.1<Z w2.1:=(md g.size);have P:Xb w w2:=qg X g)|(go_at_call 85;refine be (vqt HL cap (BS p.j) _ uq (by exact B.later rfl H l g) uq) λy D5=>?_;rw[show qkt (ps.take k) (T (BS p.j).data)=uh from q9 HH];have F:Xb w y:=qg P D5))
  all_goals(go_wp2)
  all_goals exact⟨⟨k+1,uq,by go_num,o,F⟩,by simp[intOf];omega⟩
 go_wp2
 go_ret;exact⟨rfl,f⟩
theorem qus(x y:V)(w:Ao):lz 134 #[vV x,vV y] w (vV (qib x y)):=qj6 (An (An (Am ⟨rfl,rfl,rfl,rfl⟩))) vQ x y w
theorem ve9(x y:V)(w:Ao):lz 135 #[vV x,vV y] w (vV (orV x y)):=qj6 (An (An (An ⟨rfl,rfl,rfl,rfl⟩))) vQ x y w
section
variable {w:Ao} {a N c:Int} {iv lv ev:Ap} {S E:uj} {neg:Bool}
theorem ves{y z p q:V}(hn:2<n)(s:b<Z w.1)(x0:Xc w b 0 (I J x.Q))(x1:Xc w b 1 (I J x.M))(x2:Xc w b 2 (Y (BS x.str)))(y0:Xc w b 3 (I J y.Q))(y1:Xc w b 4 (I J y.M))(y2:Xc w b 5 (Y (BS y.str)))(z0:Xc w b 6 (I J z.Q))(z1:Xc w b 7 (I J z.M))(z2:Xc w b 8 (Y (BS z.str)))
  (HG:∀w,lz 133 #[Y ⟨#[62,61]⟩,vV x,vV y] w (vV (p))) (HL:∀w,lz 133 #[Y ⟨#[60,61]⟩,vV x,vV z] w (vV (q))) (HA:∀w,lz 134 #[vV p,vV q] w (vV (r))) :
  lz 96 #[Ai #[Y ⟨#[66,69,84,87,69,69,78]⟩,I J a,iv,Y S,Y E,lv,I J N,Ah neg,I J c],C (G (D b 0 O)) n cap,ev] w (vV r):=by
 have cM:=lq n;have Z7:(1:Int)<(n:Int):=uq;have K9:(2:Int)<(n:Int):=uq;have lB:0<n:=uq;have oA:1<n:=uq;have nb:¬b=Z w.1:=uq;have mH:¬b=Z w.1+1:=uq;have TJ:¬Z w.1+1=b:=uq;have RG:=qd HG;have X:=qd HL;have RA:=qd HA;simp only[vV]at RG X RA;go_enter func96,ntmps96
 go_wp2
 go_region_held3 (λW=>Xc W b 0 (I J x.Q)/\Xc W b 1 (I J x.M)/\Xc W b 2 (Y (BS x.str))/\Xc W b 3 (I J y.Q)/\Xc W b 4 (I J y.M)/\Xc W b 5 (Y (BS y.str))/\Xc W b 6 (I J z.Q)/\Xc W b 7 (I J z.M)/\Xc W b 8 (Y (BS z.str))) (first|with_reducible assumption|go_keep) (first|(go_at_call 134;refine be (RA _) λl t=>?_;obtain⟨e,mT⟩:=qi t;have iQ:=qg aG t;have tA:(Xc l b 0 (I J x.Q)/\Xc l b 1 (I J x.M)/\Xc l b 2 (Y (BS x.str))/\Xc l b 3 (I J y.Q)/\Xc l b 4 (I J y.M)/\Xc l b 5 (Y (BS y.str))/\Xc l b 6 (I J z.Q)/\Xc l b 7 (I J z.M)/\Xc l b 8 (Y (BS z.str))):=(by obtain⟨P,M,L,K,H,F,B,A,v⟩:=R;exact⟨(e _ 0 o).trans P,(e _ 1 o).trans M,(e _ 2 o).trans L,(e _ 3 o).trans K,(e _ 4 o).trans H,(e _ 5 o).trans F,(e _ 6 o).trans B,(e _ 7 o).trans A,(e _ 8 o).trans v⟩);have U:b<Z l.1:=(md t.size);have S4:Z w.1+2<=Z l.1:=(md t.size);have u0:=(e _ 0 uq).trans t0;have u1:=(e _ 1 uq).trans t1;have u2:=(e _ 2 uq).trans t2;have uz:=(λi=>(mT (Z w.1+1) i uq).trans (tz i)))|(go_at_call 133;have _q:=I7;refine be (X _) λw2 u=>?_;obtain⟨f,P9⟩:=qi u;have aG:=qg I7 u;have R:(Xc w2 b 0 (I J x.Q)/\Xc w2 b 1 (I J x.M)/\Xc w2 b 2 (Y (BS x.str))/\Xc w2 b 3 (I J y.Q)/\Xc w2 b 4 (I J y.M)/\Xc w2 b 5 (Y (BS y.str))/\Xc w2 b 6 (I J z.Q)/\Xc w2 b 7 (I J z.M)/\Xc w2 b 8 (Y (BS z.str))):=(by obtain⟨P,M,L,K,H,F,B,A,v⟩:=KO;exact⟨(f _ 0 m).trans P,(f _ 1 m).trans M,(f _ 2 m).trans L,(f _ 3 m).trans K,(f _ 4 m).trans H,(f _ 5 m).trans F,(f _ 6 m).trans B,(f _ 7 m).trans A,(f _ 8 m).trans v⟩);have o:b<Z w2.1:=(md u.size);have D8:Z w.1+2<=Z w2.1:=(md u.size);have t0:=(f _ 0 uq).trans s0;have t1:=(f _ 1 uq).trans s1;have t2:=(f _ 2 uq).trans s2;have tz:=(λi=>(P9 (Z w.1+1) i uq).trans (sz i)))|(go_at_call 133;refine be (RG _) λd T=>?_;have I7:=qg (qM w _ _).drew T;obtain⟨g,G4⟩:=qi T;have B9:Z w.1+2<=Z d.1:=(by have:=T.size;change (Z ((w.alloc _).alloc _).1)<=_ at this;simp at this;omega);have m:b<Z d.1:=uq;have KO:(Xc d b 0 (I J x.Q)/\Xc d b 1 (I J x.M)/\Xc d b 2 (Y (BS x.str))/\Xc d b 3 (I J y.Q)/\Xc d b 4 (I J y.M)/\Xc d b 5 (Y (BS y.str))/\Xc d b 6 (I J z.Q)/\Xc d b 7 (I J z.M)/\Xc d b 8 (Y (BS z.str))):=⟨(g _ 0 (by show _<Z ((w.alloc _).alloc _).1;simp;omega)).trans ((qi (qM w _ _)).1 b 0 s |>.trans x0),(g _ 1 (by show _<Z ((w.alloc _).alloc _).1;simp;omega)).trans ((qi (qM w _ _)).1 b 1 s |>.trans x1),(g _ 2 (by show _<Z ((w.alloc _).alloc _).1;simp;omega)).trans ((qi (qM w _ _)).1 b 2 s |>.trans x2),(g _ 3 (by show _<Z ((w.alloc _).alloc _).1;simp;omega)).trans ((qi (qM w _ _)).1 b 3 s |>.trans y0),(g _ 4 (by show _<Z ((w.alloc _).alloc _).1;simp;omega)).trans ((qi (qM w _ _)).1 b 4 s |>.trans y1),(g _ 5 (by show _<Z ((w.alloc _).alloc _).1;simp;omega)).trans ((qi (qM w _ _)).1 b 5 s |>.trans y2),(g _ 6 (by show _<Z ((w.alloc _).alloc _).1;simp;omega)).trans ((qi (qM w _ _)).1 b 6 s |>.trans z0),(g _ 7 (by show _<Z ((w.alloc _).alloc _).1;simp;omega)).trans ((qi (qM w _ _)).1 b 7 s |>.trans z1),(g _ 8 (by show _<Z ((w.alloc _).alloc _).1;simp;omega)).trans ((qi (qM w _ _)).1 b 8 s |>.trans z2)⟩;have s0:Xc d (Z w.1+1) 0 (I J 0):=(g _ 0 (by show _<Z ((w.alloc _).alloc _).1;simp)).trans (by show((w.alloc _).alloc _).cell? _=_;simp);have s1:Xc d (Z w.1+1) 1 (I J 0):=(g _ 1 (by show _<Z ((w.alloc _).alloc _).1;simp)).trans (by show((w.alloc _).alloc _).cell? _=_;simp);have s2:Xc d (Z w.1+1) 2 (Y ⟨#[]⟩):=(g _ 2 (by show _<Z ((w.alloc _).alloc _).1;simp)).trans (by show((w.alloc _).alloc _).cell? _=_;simp);have sz:Xf d (Z w.1+1):=(λi=>(G4 _ i (by show _<Z ((w.alloc _).alloc _).1;simp)).trans (by show((w.alloc _).alloc _).frozen? _=_;simp))))
 all_goals go_wp2
 all_goals refine bo (by simp[go_sem,u0,u1,u2]<;>rfl) rfl ⟨rfl, ?_⟩
 all_goals exact(((iQ.setCell ur _).setCell ur _).setCell ur _)
theorem veu(s:0<n)(e:b<Z w.1)(l:Xc w b 0 (I J x.Q))(i:Xc w b 1 (I J x.M))(g:Xc w b 2 (Y (BS x.str)))
  (m:∀w,lz 137 #[vV x,Y S,Y E] w (vV (r))) :
  lz 96 #[Ai #[Y ⟨#[76,73,75,69]⟩,I J a,iv,Y S,Y E,lv,I J N,Ah neg,I J c],C (G (D b 0 O)) n cap,ev] w (vV r):=by
 have v:=lq n;have o:¬b=Z w.1:=uq;have q:¬b=Z w.1+1:=uq;have y:¬Z w.1+1=b:=uq;have RN:=qd m;simp only[vV]at RN;go_enter func96,ntmps96
 go_wp2
 go_region_held3 (λW=>Xc W (Z w.1) 3 (Y S)/\Xc W (Z w.1) 4 (Y E)/\Xc W b 0 (I J x.Q)/\Xc W b 1 (I J x.M)/\Xc W b 2 (Y (BS x.str))) (first|with_reducible assumption|go_keep) ((go_at_call 137;refine be (RN _) λw' f=>?_;obtain⟨d,t⟩:=qi f;have u:(Xc w' (Z w.1) 3 (Y S)/\Xc w' (Z w.1) 4 (Y E)/\Xc w' b 0 (I J x.Q)/\Xc w' b 1 (I J x.M)/\Xc w' b 2 (Y (BS x.str))):=⟨(d _ 3 (by show _<Z ((w.alloc _).alloc _).1;simp;try omega)).trans (by show((w.alloc _).alloc _).cell? _=_;simp),(d _ 4 (by show _<Z ((w.alloc _).alloc _).1;simp;try omega)).trans (by show((w.alloc _).alloc _).cell? _=_;simp),(d _ 0 (by show _<Z ((w.alloc _).alloc _).1;simp;omega)).trans ((qi (qM w _ _)).1 b 0 e |>.trans l),(d _ 1 (by show _<Z ((w.alloc _).alloc _).1;simp;omega)).trans ((qi (qM w _ _)).1 b 1 e |>.trans i),(d _ 2 (by show _<Z ((w.alloc _).alloc _).1;simp;omega)).trans ((qi (qM w _ _)).1 b 2 e |>.trans g)⟩))
 all_goals go_wp2
 all_goals refine bo (by simp[go_sem,d]<;>rfl) rfl ⟨rfl, ?_⟩
 all_goals exact((((qg (qM _ _ _).drew f).setCell ur _).setCell ur _).setCell ur _)
end
theorem vr4(x y:V):x9 13 x y (leV y x):=by
 have CON:=qd (λw=>xK y x w);exact ya
theorem vr7(x y:V)(e:Rng x.M)(d:Rng y.M):x9 16 x y (qpt x y):=by
 have CON:=qd (λw=>qvf x y e d w);exact ya
theorem vr8(x y:V)(e:Rng x.M)(d:Rng y.M):x9 17 x y (qym x y):=by
 have CON:=qd (λw=>qbw x y e d w);exact ya
theorem vr9(x y:V)(e:Rng x.M)(d:Rng y.M):x9 18 x y (qpv x y):=by
 have CON:=qd (λw=>qkm x y e d w);exact ya
theorem vra(x y:V)(d:Rng x.M):x9 19 x y (qwf x y):=by
 have CON:=qd (λw=>qt6 x y d w);exact ya
theorem vbl(op:Int)(x y:V)(z:¬op=5)(v:¬op=6)(u:¬op=7)(t:¬op=8)(s:¬op=9)(F:¬op=12)(D:¬op=10)(q:¬op=13)(C:¬op=11)(B:¬op=14)(m:¬op=16)(A:¬op=15)(l:¬op=17)(i:¬op=18)(g:¬op=19):x9 op x y (bV (x.Q==0)):=by
 intro w;have CON:=qd (λw=>qt7 x w);obtain⟨r,f⟩:=ie (bV (x.Q==0));rw[f]at CON |-
 conv=>arg 3;simp only[vV]
 go_enter func126,ntmps126
 repeat ((fail_if_success (with_reducible refine wp_exit ?_));go_step)
 with_reducible refine wp_exit ?_
 repeat (first|(with_reducible refine pF ?_)|(with_reducible refine xO ?_)|((with_reducible refine xd ?hne ?_);(case hne=>rfl)))
 with_reducible refine zI ?_
 go_wp2_with(refine be (CON _) λe d=>?_;obtain⟨o,G⟩:=qi d;have H:Z w.1+2<Z e.1:=(by have:=d.size;simp at this;omega);simp only[vV])
 refine bo (by simp[go_sem,o]<;>rfl) rfl ⟨rfl, ?_⟩;exact((((qg (jK _ _ _ _) d).setCell ut _).setCell ut _).setCell ut _)
theorem vtc{a b n:Int}(e:Rng a)(d:Rng b)(h:n=a+b):yh n=((decide (a<0) != decide (b<0))||(decide (wrap64 n<0)==decide (a<0))):=by
 grind[Rng,yh,wrap64]
theorem vqe{a b n:Int}(e:Rng a)(d:Rng b)(h:n=a - b):yh n=((decide (a<0)==decide (b<0))||(decide (wrap64 n<0)==decide (a<0))):=by
 grind[Rng,yh,wrap64]
theorem quv{d:uj}{n:Int}(x y:V)(w:Ao)(g:d=⟨#[43]⟩/\n=x.M+y.M/\yh n=((decide (x.M<0) != decide (y.M<0))||(decide (wrap64 n<0)==decide (x.M<0)))\/d=⟨#[45]⟩/\n=x.M - y.M/\yh n=((decide (x.M<0)==decide (y.M<0))||(decide (wrap64 n<0)==decide (x.M<0)))):Calls prog 133 #[Y d,vV x,vV y] w λe w'=>e=Ak (vV (if jO x y&&yh n then iV n else nV))/\Xb w w':=by
 cases h:jO x y with
 | false=>exact qba _ x y h w
 | true=>
  have m:(x.Q != 2)=uh:=by unfold jO at h;simp at h;simp[h.1]
  have l:(y.Q != 2)=uh:=by unfold jO at h;simp at h;simp[h.2]
  have i:Hid (yh n=ui->wrap64 n=n):=qd kg;rw[mf];generalize yh n=f at *
  conv=>arg 3;simp only[vV]
  by_cases h1:x.M<0<;>by_cases h2:y.M<0<;>by_cases h3:wrap64 n<0
  all_goals
   simp only[h1,h2,h3,decide_true,decide_false,bne_self_eq_false,mu,Bool.true_bne,Bool.false_bne,Bool.true_beq,Bool.false_beq,rq,sn,Bool.or_true,nj]at g;obtain⟨rfl,rfl,rfl⟩|⟨rfl,rfl,rfl⟩:=g
   all_goals
    simp only[if_true,if_false,dk];go_enter func133,ntmps133
    go_wp2
    refine bo (by simp[go_sem]<;>first|rfl|exact⟨rfl,rfl,rfl⟩) rfl ⟨?_, ?_⟩
    .first|rfl|(rw[q9 i trivial];rfl)
    repeat' (first|exact jK _ _ _ _|refine Below.setCell ?_ ur _)
theorem qut(x y:V)(e:Rng x.M)(d:Rng y.M)(w:Ao):lz 133 #[Y ⟨#[43]⟩,vV x,vV y] w (vV (qpt x y)):=quv x y w (Am ⟨rfl,rfl,vtc e d rfl⟩)
theorem quu(x y:V)(e:Rng x.M)(d:Rng y.M)(w:Ao):lz 133 #[Y ⟨#[45]⟩,vV x,vV y] w (vV (qym x y)):=quv x y w (An ⟨rfl,rfl,vqe e d rfl⟩)
theorem vks(x y:V)(g:Rng x.M)(f:Rng y.M)(w:Ao):Calls prog 133 #[Y ⟨#[42]⟩,vV x,vV y] w λe w'=>e=Ak (vV (qpv x y))/\Xb w w':=by
 cases h:jO x y with
 | false=>
  have e:qpv x y=nV:=by unfold qpv;rw[h];rfl
  rw[e];exact qba _ x y h w
 | true=>
  have e:qpv x y=if yh (x.M * y.M) then iV (x.M * y.M) else nV:=by unfold qpv;rw[h,mf]
  rw[e];have q:(x.Q != 2)=uh:=by unfold jO at h;simp at h;simp[h.1]
  have o:(y.Q != 2)=uh:=by unfold jO at h;simp at h;simp[h.2]
  have m:=qd (qp1 x.M y.M g f);cases hf:yh (x.M * y.M)
  all_goals
   have d:=qd hf
   conv=>arg 3;simp only[vV]
   go_enter func133,ntmps133
   go_wp2_with(refine(m _).mono ?_;rintro e w'⟨n,ok,rfl,l,i,rfl⟩;rw[l,q9 d];try rw[i (q9 d)])
   refine bo (by simp[go_sem]<;>first|rfl|exact⟨rfl,rfl,rfl⟩) rfl ⟨rfl, ?_⟩
   repeat' (first|exact jK _ _ _ _|refine Below.setCell ?_ ur _)
theorem vkr(x y:V)(l:Rng x.M)(w:Ao):Calls prog 133 #[Y ⟨#[47]⟩,vV x,vV y] w λe w'=>e=Ak (vV (qwf x y))/\Xb w w':=by
 cases h:jO x y with
 | false=>
  have e:qwf x y=nV:=by unfold qwf;rw[h];rfl
  rw[e];exact qba _ x y h w
 | true=>
  have e:qwf x y=if(!(y.M==0)&&yh (x.M.tdiv y.M)) then iV (x.M.tdiv y.M) else nV:=by unfold qwf;rw[h,mf]
  rw[e];have s:(x.Q != 2)=uh:=by unfold jO at h;simp at h;simp[h.1]
  have o:(y.Q != 2)=uh:=by unfold jO at h;simp at h;simp[h.2]
  have d:=qtz (b:=y.M) l;have m:Hid (yh (x.M.tdiv y.M)=ui->wrap64 (x.M.tdiv y.M)=x.M.tdiv y.M):=qd kg;generalize yh (x.M.tdiv y.M)=f at *;obtain⟨p,hp⟩:=ie ((x.M==-9223372036854775808));obtain⟨q,hq⟩:=ie ((y.M==-1));obtain⟨r,g⟩:=ie ((y.M==0));have i:r=uh->¬y.M=0:=λh=>by rw[h]at g;simpa using g
  have E:∀a b:Int,(a != b)=!(a==b):=λ_ _=>rfl
  rw[hp,hq]at d;rw[g]
  conv=>arg 3;simp only[vV]
  cases p<;>cases q<;>cases r<;>cases f<;>first|exact absurd d uu|skip
  all_goals
   try have i:=i rfl
   go_enter func133,ntmps133
   go_wp2
   refine bo (by simp[go_sem]<;>first|rfl|exact⟨rfl,rfl,rfl⟩) rfl ⟨?_, ?_⟩
   .first|rfl|(rw[q9 m (by trivial)];rfl)
   repeat' (first|exact jK _ _ _ _|refine Below.setCell ?_ ur _)
def qz5(w:Ao)(r:CRes)(e:Ending)(w':Ao):Prop:=Below (Z w.1) w w'/\match r with
 | .ok _=>e=Ak (Aj #[])
 | .err q=>e=vg 4 q
theorem qzk(lo:Nat)(p:Pay)(x y:Ast)(hx:qc3 lo x)(hy:qc3 lo y)(w:Ao)(v:Ap)(h:IsNode lo w v (.bin p x y)):
  uo 170 #[v] w (qz5 w (xp p.U (qC x) (qC y))):=by
 obtain⟨b,g,v1,v2,rfl,hn,J6,s,W,U,H,F⟩:=h;obtain⟨b1,rfl⟩:=H.ptr;obtain⟨b2,rfl⟩:=F.ptr;obtain⟨Y7,z,c0,Y,X,c3,c4,c5,c6⟩:=hn;obtain⟨pl,J5⟩:=ie p.U;rw[J5]at Y |-;have u:=qd (H.P ((Kept.refl lo w).drew));have N2:=qd F;have B:=qd hx;have CY:=qd hy
 cases tZ:qC x with
 | err q=>
  have t:=qd tZ;rw[xp];go_enter func170,ntmps170
  go_wp2
  go_region_with(first|(go_at_call_of 120 (Ag (G { block:=b1,off:=0 }));refine(B _ _ u).mono ?_;rintro e i⟨d,l⟩;rw[q9 t]at l;subst l;refine vw8 (w:=i) ⟨rfl,((Below.refl (Z w.1) w).drew).trans d,rfl⟩ ?_))
  all_goals trivial
 | ok cx=>
  have t:=qd tZ
  cases hyc:qC y with
  | err q=>
   have A:=qd hyc;rw[xp];go_enter func170,ntmps170
   go_wp2
   go_region_with(first|(go_at_call_of 120 (Ag (G { block:=b1,off:=0 }));refine(B _ _ u).mono ?_;rintro e i⟨d,l⟩;rw[q9 t]at l;subst l;have d:Xb w i:=((Below.refl (Z w.1) w).drew).trans d;obtain⟨f,P⟩:=qi d;have M:Xc i b 2 (C (G (D g 0 O)) 2 2):=(f _ 2 z).trans X;have L:Xc i g 0 (Ag (G (D b1 0 O))):=(f _ 0 s).trans W;have K:Xc i g 1 (Ag (G (D b2 0 O))):=(f _ 1 s).trans U;have z1:=d.size;have d:=qd d)|(go_at_call_of 120 (Ag (G { block:=b2,off:=0 }));refine(CY _ _ (N2.P (Kept.x d))).mono ?_;rintro e w2⟨o,m⟩;rw[q9 A]at m;subst m;refine vw8 (w:=w2) ⟨rfl,qg d o,rfl⟩ ?_))
   all_goals trivial
  | ok cy=>
   have A:=qd hyc;rw[xp];obtain⟨R,T⟩:∃r,(if(cx != cy&&cx != 0&&cy != 0)=ui then CRes.err pl else CRes.ok 3)=r:=⟨_,rfl⟩;rw[T];have HR:=qd T;go_enter func170,ntmps170
   go_wp2
   go_region_held3 (λw'=>Xc w' b 2 (C (G (D g 0 O)) 2 2)/\Xc w' g 0 (Ag (G (D b1 0 O)))/\Xc w' g 1 (Ag (G (D b2 0 O)))) (go_keep) (first|(go_at_call_of 120 (Ag (G { block:=b1,off:=0 }));refine(B _ _ u).mono ?_;rintro e i⟨d,l⟩;rw[q9 t]at l;subst l;have d:Xb w i:=((Below.refl (Z w.1) w).drew).trans d;obtain⟨f,P⟩:=qi d;have M:Xc i b 2 (C (G (D g 0 O)) 2 2):=(f _ 2 z).trans X;have L:Xc i g 0 (Ag (G (D b1 0 O))):=(f _ 0 s).trans W;have K:Xc i g 1 (Ag (G (D b2 0 O))):=(f _ 1 s).trans U;have z1:=d.size;have d:=qd d)|(go_at_call_of 120 (Ag (G { block:=b2,off:=0 }));refine(CY _ _ (N2.P (Kept.x d))).mono ?_;rintro e w2⟨o,m⟩;rw[q9 A]at m;subst m;obtain⟨f,P⟩:=qi o;have j1:Xc w2 b 1 (I J pl):=(f _ 1 uq).trans (((qi d).1 _ 1 z).trans Y);have l2:Xc w2 b 2 (C (G (D g 0 O)) 2 2):=(f _ 2 uq).trans M;have l3:Xc w2 g 0 (Ag (G (D b1 0 O))):=(f _ 0 uq).trans L;have l4:Xc w2 g 1 (Ag (G (D b2 0 O))):=(f _ 1 uq).trans K;have o:=qd (qg d o)))
   cases l:(cx != cy)<;>cases m:(cx != 0)<;>cases h3:(cy != 0)
   all_goals
    rw[l,m,h3]at HR
    go_wp2
    rw[<-q9 HR]
    first|exact⟨rfl,q9 o,rfl⟩|(go_end0;exact⟨q9 o,rfl⟩)
theorem vun(x y:V):x9 5 x y (yR x):=by
 have CON:=qd (λw=>qvi x w);exact ya
theorem vuo(x y:V):x9 6 x y (qib x y):=by
 have CON:=qd (λw=>qvg x y w);exact ya
theorem vup(x y:V):x9 7 x y (orV x y):=by
 have CON:=qd (λw=>vg9 x y w);exact ya
theorem vuq(x y:V):x9 8 x y (eqV x y):=by
 have CON:=qd (λw=>qcz x y w);exact ya
theorem vur(x y:V):x9 9 x y (yR (eqV x y)):=by
 intro w;have CON:=qd (λw=>qcz x y w);have d:=qd (λw=>qvi (eqV x y) w)
 conv=>arg 3;simp only[vV]
 go_enter func126,ntmps126
 repeat ((fail_if_success (with_reducible refine wp_exit ?_));go_step)
 with_reducible refine wp_exit ?_
 repeat (first|(with_reducible refine pF ?_)|(with_reducible refine xO ?_)|((with_reducible refine xd ?hne ?_);(case hne=>rfl)))
 with_reducible refine zI ?_
 go_wp2_with(first|(go_at_call 176;refine be (CON _) λm i=>?_)|(refine be (d _) λf g=>?_;have e:=qg i g;obtain⟨l,o⟩:=qi e;have q:Z w.1+2<Z f.1:=(by have:=e.size;simp at this;omega);simp only[vV]))
 refine bo (by simp[go_sem,l]<;>rfl) rfl ⟨rfl, ?_⟩;exact((((qg (jK _ _ _ _) e).setCell ut _).setCell ut _).setCell ut _)
theorem vr1(x y:V):x9 10 x y (kC x y):=by
 have CON:=qd (λw=>qpo x y w);exact ya
theorem vr2(x y:V):x9 11 x y (leV x y):=by
 have CON:=qd (λw=>xK x y w);exact ya
theorem vr3(x y:V):x9 12 x y (kC y x):=by
 have CON:=qd (λw=>qpo y x w);exact ya
theorem qa4(h:Q .normal a w):Exit.inBlock id Q .normal a w:=h
structure SignAt(w W2:Ao)(x:V):Prop where
 a0:W2.cell? ⟨w.1.size,0,O⟩=G (I J (iV 0).Q)
 a1:W2.cell? ⟨w.1.size,1,O⟩=G (I J (iV 0).M)
 a2:W2.cell? ⟨w.1.size,2,O⟩=G (Y (BS (iV 0).str))
 b0:W2.cell? ⟨w.1.size+1,0,O⟩=G (I J x.Q)
 b1:W2.cell? ⟨w.1.size+1,1,O⟩=G (I J x.M)
 b2:W2.cell? ⟨w.1.size+1,2,O⟩=G (Y (BS x.str))
 r0:W2.cell? ⟨w.1.size+2,0,O⟩=G (I J 0)
 r1:W2.cell? ⟨w.1.size+2,1,O⟩=G (I J 0)
 r2:W2.cell? ⟨w.1.size+2,2,O⟩=G (Y ⟨#[]⟩)
 fz:∀j,W2.frozen? ⟨w.1.size+2,j,O⟩=uh
 lt:w.1.size+2<W2.1.size
 h:Below w.1.size w W2
theorem qhy(w e W2:Ao)(x y:V)(f:Below (Z ((((w.alloc (Al #[I J x.Q,I J x.M,Y (BS x.str)] 57)).alloc (Al #[I J y.Q,I J y.M,Y (BS y.str)] 57)).alloc (Al #[I J 0,I J 0,Y ⟨#[]⟩] 57)).drew).1) ((((w.alloc (Al #[I J x.Q,I J x.M,Y (BS x.str)] 57)).alloc (Al #[I J y.Q,I J y.M,Y (BS y.str)] 57)).alloc (Al #[I J 0,I J 0,Y ⟨#[]⟩] 57)).drew) e)(C:(B (B (B (B (B (B e ⟨Z w.1,0,O⟩ (I J (iV 0).Q)) ⟨Z w.1,1,O⟩ (I J (iV 0).M)) ⟨Z w.1,2,O⟩ (Y (BS (iV 0).str))) ⟨Z w.1+1,0,O⟩ (I J x.Q)) ⟨Z w.1+1,1,O⟩ (I J x.M)) ⟨Z w.1+1,2,O⟩ (Y (BS x.str)))=W2):SignAt w W2 x:=by
 subst C;have z:=f.size;simp at z;obtain⟨d,A⟩:=qi f;have v:=(d (Z w.1) 0 ut).trans (show _=G (I J x.Q) by rw[ll,bj _ _ _ ut,bj _ _ _ ur,ce _ _ _ _ rfl];rfl);have u:=(d (Z w.1) 1 ut).trans (show _=G (I J x.M) by rw[ll,bj _ _ _ ut,bj _ _ _ ur,ce _ _ _ _ rfl];rfl);have t:=(d (Z w.1) 2 ut).trans (show _=G (Y (BS x.str)) by rw[ll,bj _ _ _ ut,bj _ _ _ ur,ce _ _ _ _ rfl];rfl);have s:=(d (Z w.1+1) 0 ur).trans (show _=G (I J y.Q) by rw[ll,bj _ _ _ ur,ce _ _ _ _ ur];rfl);have q:=(d (Z w.1+1) 1 ur).trans (show _=G (I J y.M) by rw[ll,bj _ _ _ ur,ce _ _ _ _ ur];rfl);have o:=(d (Z w.1+1) 2 ur).trans (show _=G (Y (BS y.str)) by rw[ll,bj _ _ _ ur,ce _ _ _ _ ur];rfl);have m:=(d (Z w.1+2) 0 ur).trans (show _=G (I J 0) by rw[ll,ce _ _ _ _ ur];rfl);have l:=(d (Z w.1+2) 1 ur).trans (show _=G (I J 0) by rw[ll,ce _ _ _ _ ur];rfl);have i:=(d (Z w.1+2) 2 ur).trans (show _=G (Y ⟨#[]⟩) by rw[ll,ce _ _ _ _ ur];rfl);have g:Xf e (Z w.1+2):=λj=>(A (Z w.1+2) j ur).trans (by rw[World.frozen?_drew,iq _ _ _ _ ur])
 refine⟨?_, ?_, ?_, ?_, ?_, ?_, ?_, ?_, ?_,λj=>?_, ?_, ?_⟩
 .simp[go_sem,v]
 .simp[go_sem,u]
 .simp[go_sem,t]
 .simp[go_sem,s]
 .simp[go_sem,q]
 .simp[go_sem,o]
 .simp[go_sem,m]
 .simp[go_sem,l]
 .simp[go_sem,i]
 .simp[go_sem,g]
 simp;omega;exact(((((((qg ((jK w _ _ _).drew) f).setCell ur _).setCell ur _).setCell ur _).setCell ur _).setCell ur _).setCell ur _)
theorem vr5(x y:V)(t:Rng x.M):x9 14 x y (qpt (iV 0) x):=by
 intro w;have CON:=qd (λw=>qvf (iV 0) x vp1 t w);obtain⟨r,u⟩:=ie (qpt (iV 0) x);rw[u]at CON |-
 conv=>arg 3;simp only[vV]
 go_enter func126,ntmps126
 repeat ((fail_if_success (with_reducible refine wp_exit ?_));go_step)
 with_reducible refine wp_exit ?_
 repeat (first|(with_reducible refine pF ?_)|(with_reducible refine xO ?_)|((with_reducible refine xd ?hne ?_);(case hne=>rfl)))
 with_reducible refine zI ?_
 go_wp2
 go_region_with(go_at_call 87;refine be (kd 0 _) λg f=>?_;obtain⟨C,K⟩:=qi f;have L:Z w.1+2<Z g.1:=(by have:=f.size;simp at this;omega);simp only[vV])
 all_goals(repeat (first|(with_reducible refine qa4 ?_)|(with_reducible refine zI ?_)))
 all_goals
  generalize mX:B _ _ _=W2;have v:=qd (qhy w g W2 x y f mX);obtain⟨H,G,F,D,b1,b2,s,q,o,fz,lt,bel⟩:=q9 v
  go_wp2_with(refine be (CON _) λe d=>?_;have m:Xc e (Z w.1+2) 0 (I J 0):=((qi d).1 _ 0 lt).trans s;have l:Xc e (Z w.1+2) 1 (I J 0):=((qi d).1 _ 1 lt).trans q;have i:Xc e (Z w.1+2) 2 (Y ⟨#[]⟩):=((qi d).1 _ 2 lt).trans o;have A:Xf e (Z w.1+2):=(λj=>((qi d).2 _ j lt).trans (fz j));have z:=qd (qg bel d);simp only[vV])
  refine bo (by simp[go_sem,m,l,i]<;>rfl) rfl ⟨rfl, ?_⟩;exact((z.setCell ut _).setCell ut _).setCell ut _
theorem vr6(x y:V)(t:Rng x.M):x9 15 x y (qym (iV 0) x):=by
 intro w;have CON:=qd (λw=>qbw (iV 0) x vp1 t w);obtain⟨r,u⟩:=ie (qym (iV 0) x);rw[u]at CON |-
 conv=>arg 3;simp only[vV]
 go_enter func126,ntmps126
 repeat ((fail_if_success (with_reducible refine wp_exit ?_));go_step)
 with_reducible refine wp_exit ?_
 repeat (first|(with_reducible refine pF ?_)|(with_reducible refine xO ?_)|((with_reducible refine xd ?hne ?_);(case hne=>rfl)))
 with_reducible refine zI ?_
 go_wp2
 go_region_with(go_at_call 87;refine be (kd 0 _) λg f=>?_;obtain⟨C,K⟩:=qi f;have L:Z w.1+2<Z g.1:=(by have:=f.size;simp at this;omega);simp only[vV])
 all_goals(repeat (first|(with_reducible refine qa4 ?_)|(with_reducible refine zI ?_)))
 all_goals
  generalize mX:B _ _ _=W2;have v:=qd (qhy w g W2 x y f mX);obtain⟨H,G,F,D,b1,b2,s,q,o,fz,lt,bel⟩:=q9 v
  go_wp2_with(refine be (CON _) λe d=>?_;have m:Xc e (Z w.1+2) 0 (I J 0):=((qi d).1 _ 0 lt).trans s;have l:Xc e (Z w.1+2) 1 (I J 0):=((qi d).1 _ 1 lt).trans q;have i:Xc e (Z w.1+2) 2 (Y ⟨#[]⟩):=((qi d).1 _ 2 lt).trans o;have A:Xf e (Z w.1+2):=(λj=>((qi d).2 _ j lt).trans (fz j));have z:=qd (qg bel d);simp only[vV])
  refine bo (by simp[go_sem,m,l,i]<;>rfl) rfl ⟨rfl, ?_⟩;exact((z.setCell ut _).setCell ut _).setCell ut _
theorem qsm(v:V)(hv:A v.str<=140737488355328)(w:Ao):
  Calls prog 66 #[vV v] w λe w'=>e=Ak (Ah (pY v))/\Xb w w':=by
 have d:=qta v.str;have g:=qI v.str;unfold pY;obtain⟨h,f⟩:=ie v.str.isEmpty;rw[f]at d |-
 conv=>arg 3;simp only[vV]
 cases h0:(v.Q==0)
 .cases h1:(v.Q==1)
  .cases h2:(v.Q==2)
   .cases h3:(v.Q==3)
    .simp only[dk,if_false]
     go_enter func66,ntmps66
     go_wp2
     go_ret;exact⟨rfl,uy.alloc ux _⟩
    simp only[dk,if_false,if_true];go_enter func66,ntmps66
    go_wp2
    all_goals(go_ret;exact⟨vd (by simp_all<;>omega),uy.alloc ux _⟩)
   simp only[dk,if_false,if_true];go_enter func66,ntmps66
   go_wp2
   all_goals(go_ret;exact⟨vd (by simp_all<;>omega),uy.alloc ux _⟩)
  simp only[dk,if_false,if_true];go_enter func66,ntmps66
  go_wp2
  all_goals(go_ret;exact⟨vd (by simp_all<;>omega),uy.alloc ux _⟩)
 simp only[if_true];go_enter func66,ntmps66
 go_wp2
 all_goals(go_ret;exact⟨vd (by simp_all<;>omega),uy.alloc ux _⟩)
theorem qxv(s:uj)(w:Ao):lz 65 #[Y s] w (Ah (jW (T s.data))):=by
 have v:=qy s
 by_cases h0:s.size=0
 .have d:jW (T s.data)=uh:=by
   have F:T s.data=[]:=dh uq;rw[F];rfl
  rw[d];have D:(s.size:Int)<1:=uq;clear d;go_enter func65,ntmps65
  go_wp2
  go_ret;exact⟨rfl,uy⟩
 have D:¬(s.size:Int)<1:=uq
 by_cases h16:s.size<=16
 .have g:¬(s.size:Int) > 16:=uq
  have h16'':¬(16:Int)<(s.size:Int):=uq;have B:0<s.size:=uq
  have hd:T s.data=s[0]::s.data.toList.drop 1:=by
   have:=cm (l:=T s.data) (i:=0) (by rwa[qy]);rwa[ee,qF s 0 B]at this
  have q:jW (T s.data)=kD (T s.data):=by unfold jW;rw[v,de h16,mf]
  rw[q]
  cases hb:km s[0] with
  | false=>
   have d:kD (T s.data)=uh:=by
    unfold kD;rw[hd];simp[qE,hb]
   rw[d];have u:=qd hb;clear hd q d hb;go_enter func65,ntmps65
   go_wp2_with(go_at_call 107;refine be (jt _ _) ?_;rintro w' rfl;rw[show qd0 (s[0].toNat:Int)=uh from q9 u])
   go_ret;exact⟨rfl,uy⟩
  | true=>
   have W:=qp6 s uq 0 B hb;rw[ee,ed]at W;obtain⟨z,f⟩:=ie (qE (T s.data));have G:=xE (T s.data);have H:0<z:=by rw[<-f,hd];simp[qE,hb]
   rw[f]at W G;have o:jk (T s.data)=if yI (s.data.toList.take z)=2 then⟨2,0,s.data.toList.take z⟩ else qk (yI (s.data.toList.take z)):=by rw[<-f];rfl
   have t:kD (T s.data)=(decide (z=s.size)&&(yI (T s.data)==2)):=by
    unfold kD;rw[f,v,de H,mf]
   have u:=qd hb
   by_cases hk:yI (s.data.toList.take z)=2
   .rw[o,bs hk,qur]at W
    have d:kD (T s.data)=((z:Int)==(s.size:Int)):=by
     rw[t]
     by_cases e:z=s.size
     rw[fo uq]at hk;simp[e,hk];rw[da e,rh,aw.2 (show ¬(z:Int)=(s.size:Int) by omega)]
    rw[d];unfold rtV at W;have A:=qd W;clear hd q d hb W o t hk f;go_enter func65,ntmps65
    go_wp2_with(first|(go_at_call 107;refine be (jt _ _) ?_;rintro w' rfl;rw[show qd0 (s[0].toNat:Int)=ui from q9 u])|(go_at_call 108;refine be (A _) λC m=>?_))
    all_goals(go_ret;exact⟨vd (by simp_all),m.alloc m.size _⟩)
   rw[o,ak hk]at W;have y:5<=yI (s.data.toList.take z)/\yI (s.data.toList.take z)<=15:=(vbq (l:=Lib.toUpperA (s.data.toList.take z)) hk).2;rw[vny rfl y.1 y.2]at W
   have d:kD (T s.data)=uh:=by
    rw[t]
    by_cases e:z=s.size
    rw[fo uq]at hk;rw[aw.2 hk,lu];rw[da e,rh]
   rw[d];unfold rtV at W;have A:=qd W;clear hd q d hb W o t hk f y;go_enter func65,ntmps65
   go_wp2_with(first|(go_at_call 107;refine be (jt _ _) ?_;rintro w' rfl;rw[show qd0 (s[0].toNat:Int)=ui from q9 u])|(go_at_call 108;refine be (A _) λC m=>?_))
   all_goals(go_ret;exact⟨rfl,m.alloc m.size _⟩)
 have d:jW (T s.data)=uh:=by unfold jW;rw[v,da h16,rh]
 rw[d];have g:(s.size:Int) > 16:=uq;have h16'':(16:Int)<(s.size:Int):=uq;clear d;go_enter func65,ntmps65
 go_wp2
 go_ret;exact⟨rfl,uy⟩
theorem qjl(hp:ps[k]?=G p)(h:jW p.j=uh\/pY p.val=uh\/∃j q,j<k/\ps[j]?=G q/\(q.j==p.j)=ui):qgo ps k=uh:=by
 unfold qgo;rw[hp];simp only;obtain h|h|⟨j,q,d,hq,e⟩:=h;rw[h];rfl
 grind
 have:qkt (ps.take k) p.j=ui:=nh.2 ⟨q,bh (i:=j) (by grind),e⟩;rw[this,rq,lu]
theorem vcu(hp:ps[k]?=G p)(f:jW p.j=ui)(e:pY p.val=ui)(d:∀j q,j<k->ps[j]?=G q->(q.j==p.j)=uh):qgo ps k=ui:=by
 grind[qgo,qkt,List.getElem?_of_mem]
theorem qsf(a:Option Addr)(n cap:Nat)(d:8<n)(w:Ao):lz 31 #[C a n cap] w (Ah uh):=by
 go_enter func31,ntmps31
 go_wp2
 go_ret;exact⟨rfl,uy⟩
theorem vdv(b off cap:Nat)(ps:List Pr)(w:Ao)(h8:A ps<=8)(t8:qzc ps)(hw:EvAt w b off ps)(R:b<Z w.1):
  lz 31 #[C (G (D b off O)) (A ps) cap] w (Ah (zQ ps)):=by
 obtain⟨n,K⟩:=ie (A ps);obtain⟨E,M⟩:=ie (zQ ps);rw[M,K];have P:Hid (∀k,k<n->qgo ps k=uh->E=uh):=qd λk hk h=>by rw[<-M];exact vi7 uq h
 have SI:Hid ((∀j,j<n->qgo ps j=ui)->E=ui):=qd λh=>by rw[<-M];exact qmi h8 (λj f=>h j uq)
 have HW:=qd hw;have nB:=qd t8;have HN:=qd K;rw[K]at h8;go_enter func31,ntmps31
 go_wp2
 go_loopw [3] (λi wr=>∃k:Nat,k<=n/\i=I J k/\Hid (∀j,j<k->qgo ps j=ui)/\Hid (Xb w wr)) (λi _=>n - (intOf i).toNat)
 exact⟨0,bt _,rfl,qd (λj f=>absurd f uq),qd uy⟩;obtain⟨k,hk,rfl,HK,e⟩:=hrel
 by_cases aB:k<n
 .obtain⟨p,hp⟩:∃p,ps[k]?=G p:=⟨_,ag (md (q9 HN))⟩
  have B:=(q9 HW).h e R;obtain⟨c0,c1,c2,c3⟩:=B k p hp;have eK:b<Z wr.1:=au R e.size;have l:=qd (qsm p.val (nB p (bh hp)).2);have F:Hid (∀w,lz 65 #[Y (BS p.j)] w (Ah (jW p.j))):=qd λw=>qxv (BS p.j) w
  obtain⟨nb,fB⟩:=ie (jW p.j);obtain⟨vb,EK⟩:=ie (pY p.val);rw[fB]at F;rw[EK]at l;have t:=qd fB;have s:=qd EK;have u:=qd hp;simp only[vV]at l
  cases nb with
  | false=>
   have o:=q9 P k aB (qjl u (Am t))
   go_wp2_with(first|(go_at_call 65;refine be (F _) λT d=>?_;obtain⟨X,W⟩:=qi d;have y:=qd (qg e d);have B9:=d.size)|(refine be (l _) λw2 z=>?_;have v:=qd (qg y z)))
   go_ret;exact⟨by rw[o];rfl,q9 v⟩
  | true=>
   cases vb with
   | false=>
    have o:=q9 P k aB (qjl u (An (Am s)))
    go_wp2_with(first|(go_at_call 65;refine be (F _) λT d=>?_;obtain⟨X,W⟩:=qi d;have y:=qd (qg e d);have B9:=d.size)|(refine be (l _) λw2 z=>?_;have v:=qd (qg y z)))
    go_ret;exact⟨by rw[o];rfl,q9 v⟩
   | true=>
    go_wp2_with(first|(go_at_call 65;refine be (F _) λT d=>?_;obtain⟨X,W⟩:=qi d;have y:=qd (qg e d))|(refine be (l _) λw2 z=>?_;have v:=qd (qg y z)))
    go_loopw [6] (λi wr=>∃m:Nat,m<=k/\i=I J m/\Hid (∀j q,j<m->ps[j]?=G q->(q.j==p.j)=uh)/\Hid (Xb w wr)) (λi _=>k - (intOf i).toNat)
    exact⟨0,bt _,rfl,qd (λj q f=>absurd f uq),v⟩;obtain⟨m,hm,rfl,HM,H⟩:=hrel
    by_cases NU:m<k
    .obtain⟨q,hq⟩:∃q,ps[m]?=G q:=⟨_,ag (md (q9 HN))⟩
     have B:=(q9 HW).h H R;obtain⟨d0,_,_,_⟩:=B m q hq;obtain⟨e0,_,_,_⟩:=B k p u;have N7:((BS q.j).toList==(BS p.j).toList)=(q.j==p.j):=by rw[qP,qP]
     cases hx:(q.j==p.j) with
     | true=>
      rw[hx]at N7;have o:=q9 P k aB (qjl u (An (An ⟨m,q,NU,hq,hx⟩)))
      go_wp2
      go_quiet (fail)
      go_wp2
      go_ret;exact⟨by rw[o];rfl,eg H _⟩
     | false=>
      rw[hx]at N7
      have lL:Hid (∀j r,j<m+1->ps[j]?=G r->(r.j==p.j)=uh):=qd λj r f g=>by
       by_cases KH:j=m
       subst KH;rw[hq]at g;injection g with g;subst g;exact hx;exact q9 HM j r uq g
      go_wp2
      go_quiet (fail)
      go_wp2
      exact⟨⟨m+1,uq,rfl,lL,qd (eg H _)⟩,by simp[intOf];omega⟩
    have U:=jl m k
    have Q9:Hid (∀j,j<k+1->qgo ps j=ui):=qd λj f=>by
     by_cases hjk:j=k
     subst hjk;exact vcu u t s (λi q hi hq=>q9 HM i q uq hq);exact q9 HK j uq
    go_wp2
    exact⟨⟨k+1,uq,rfl,Q9,H⟩,by simp[intOf];omega⟩
 have FP:k=n:=uq;subst FP;have L:=q9 SI HK
 go_wp2
 go_ret;exact⟨by rw[L];rfl,q9 e⟩
theorem qp2(a:Option Addr)(cap:Nat)(ps:List Pr)(s:uj)(w:Ao)(t:A ps<=1000)(q:∀(k:Nat) (p:Pr),ps[k]?=G p->∃b off,a=G (D b off O)/\b<Z w.1/\EvAt w b off ps):
  lz 132 #[C a (A ps) cap,Y s] w (vV (yA ps (T s.data))):=by
 obtain⟨F,l⟩:=ie (yA ps (T s.data));obtain⟨n,f⟩:=ie (A ps);rw[l,f];have v:=qd l;have o:=qd f;have u:=qd q;rw[f]at t;go_enter func132,ntmps132
 go_wp2
 go_loop [5] (λi=>∃k:Nat,k<=n/\i=I J k/\Hid (F=yA (ps.drop k) (T s.data))) (λi=>n - (intOf i).toNat)
 exact⟨0,bt _,rfl,qd (by rw[ee,q9 v])⟩;obtain⟨k,z,rfl,g⟩:=hrel
 by_cases L5:k<n
 .obtain⟨p,hp⟩:∃p,ps[k]?=G p:=⟨_,ag (md (q9 o))⟩
  obtain⟨b,off,rfl,P,y⟩:=q9 u k p hp;obtain⟨L,K,H,B⟩:=y k p hp;have e:=qml (n:=T s.data) hp;have m:((BS p.j).toList==s.toList)=(p.j==T s.data):=by rw[qP,io]
  have M:=je k n
  cases he:(p.j==T s.data) with
  | true=>
   rw[he,bs rfl]at e;rw[he]at m;have d:Hid (F=p.val):=qd (by rw[q9 g,e])
   go_wp2
   refine um ⟨?_, ?_⟩;rw[q9 d];rfl
   repeat' (first|exact(uy).alloc ux _|refine Below.setCell ?_ ur _)
  | false=>
   rw[he,ak ur]at e;rw[he]at m;have d:Hid (F=yA (ps.drop (k+1)) (T s.data)):=qd (by rw[q9 g,e])
   go_wp2
   go_round
   case rel=>exact⟨k+1,uq,by go_num,d⟩
   simp[intOf];omega
 have d:Hid (F=nV):=qd (by rw[q9 g,eo (md (q9 o))];rfl)
 go_wp2
 refine um ⟨?_, ?_⟩;rw[q9 d];rfl
 repeat' (first|exact(uy).alloc ux _|refine Below.setCell ?_ ur _)
end Go.Proofs.YtmepkbgodcffoaaGreatDoor
