/- Terms by their sides -/
import Derived.Test.YtdmmmgodfceilaaGreatDoorM01
import Derived.Test.YtdmmmgodfceilaaGreatDoorM11
set_option maxHeartbeats 32000000
set_option maxRecDepth 100000
namespace Go.Proofs.YtdmmmgodfceilaaGreatDoor
open Go.RowKit Go.Proofs.Tryz
open Go renaming Value->Ap,World->Ao
open Go.Ending renaming returned->Ak
open Go.IntKind renaming i64->J
open Go.Value renaming agg->Ai,bool->Ah,int->I,pointer->Ag,slice->C,string->Y,tuple->Aj
open Option renaming none->O,some->G
open Or renaming inl->Am,inr->An
variable{a:Act}{next:Act->Ao->Prop}{fit:Bool}{Q:Exit->Act->Ao->Prop}{pl want:Int}{ps:List Pr}{b cap id j k lo n off:Nat}{r x:V}{w:Ao}
def jc:Ast->Pay
 | .leaf p=>p
 | .un p _=>p
 | .bin p _ _=>p
 | .tri p _ _ _=>p
def qM:Ast->List Ast
 | .leaf _=>[]
 | .un _ x=>[x]
 | .bin _ x y=>[x,y]
 | .tri _ x y z=>[x,y,z]
def SidesAt(lo:Nat)(w:Ao)(sv:Ap)(ts:List Ast):Prop:=
 (ts=[]/\sv=C O 0 0)\/∃g,sv=C (G ⟨g,0,O⟩) ts.length ts.length/\lo<g/\g<w.1.size/\∀(j:Nat) (x:Ast),ts[j]?=G x->∃b,w.cell? ⟨g,j,O⟩=G (Ag (G ⟨b,0,O⟩))/\IsNode lo w (Ag (G ⟨b,0,O⟩)) x
theorem IsNode.parts{v:Ap}{t:Ast}(h:IsNode lo w v t):∃b sv,v=Ag (G ⟨b,0,O⟩)/\NodeAt lo w b (jc t) sv/\SidesAt lo w sv (qM t):=by
 cases t with
 | leaf p=>obtain⟨b,rfl,h⟩:=h;exact⟨b,_,rfl,h,Am ⟨rfl,rfl⟩⟩
 | un p x=>
  obtain⟨b,g,q,rfl,h,l,i,m,e⟩:=h;refine⟨b,_,rfl,h,An ⟨g,rfl,l,i,λj y d=>?_⟩⟩
  match j,d with
  | 0,d=>
   obtain rfl:x=y:=by simpa [qM]using d
   obtain⟨b1,rfl⟩:=e.ptr;exact⟨b1,m,e⟩
  | j+1,d=>simp[qM]at d
 | bin p x y=>
  obtain⟨b,g,q,A,rfl,h,l,i,m,o,e,f⟩:=h;refine⟨b,_,rfl,h,An ⟨g,rfl,l,i,λj z d=>?_⟩⟩
  match j,d with
  | 0,d=>
   obtain rfl:x=z:=by simpa [qM]using d
   obtain⟨b1,rfl⟩:=e.ptr;exact⟨b1,m,e⟩
  | 1,d=>
   obtain rfl:y=z:=by simpa [qM]using d
   obtain⟨b1,rfl⟩:=f.ptr;exact⟨b1,o,f⟩
  | j+2,d=>simp[qM]at d
 | tri p x y z=>
  obtain⟨b,g,q,A,C,rfl,h,l,i,m,o,B,e,f,s⟩:=h;refine⟨b,_,rfl,h,An ⟨g,rfl,l,i,λj u d=>?_⟩⟩
  match j,d with
  | 0,d=>
   obtain rfl:x=u:=by simpa [qM]using d
   obtain⟨b1,rfl⟩:=e.ptr;exact⟨b1,m,e⟩
  | 1,d=>
   obtain rfl:y=u:=by simpa [qM]using d
   obtain⟨b1,rfl⟩:=f.ptr;exact⟨b1,o,f⟩
  | 2,d=>
   obtain rfl:z=u:=by simpa [qM]using d
   obtain⟨b1,rfl⟩:=s.ptr;exact⟨b1,B,s⟩
  | j+3,d=>simp[qM]at d
theorem SidesAt.any{e:Ap}{ts:List Ast}(h:SidesAt lo w e ts):∃a,e=C a ts.length ts.length/\∀(j:Nat) (x:Ast),ts[j]?=G x->∃g b,a=G ⟨g,0,O⟩/\lo<g/\g<w.1.size/\Xc w g j (Ag (G ⟨b,0,O⟩))/\IsNode lo w (Ag (G ⟨b,0,O⟩)) x:=by
 rcases h with⟨rfl,rfl⟩|⟨g,rfl,o,m,l⟩;exact⟨O,rfl,λj x d=>by simp at d⟩;exact⟨G ⟨g,0,O⟩,rfl,λj x d=>by obtain⟨b,i,f⟩:=l j x d;exact⟨g,b,rfl,o,m,i,f⟩⟩
theorem qke(t:Ast):(qM t).length<=3:=by cases t<;>simp[qM]
inductive CRes where
 | ok (c:Int)
 | err (pl:Int)
def dem(want pl:Int):List CRes->Bool->Option Int
 | [],fit=>if fit then O else G pl
 | .err q::_,_=>G q
 | .ok c::t,fit=>dem want pl t (fit&&(c==want||c==0))
def zN(want pl c:Int)(rs:List CRes):CRes:=match dem want pl rs true with
 | none=>.ok c
 | some q=>.err q
def zM(pl:Int):CRes->CRes->CRes
 | .err q,_=>.err q
 | .ok _,.err q=>.err q
 | .ok l,.ok r=>if(l != r&&l != 0&&r != 0)=true then .err pl else .ok 3
def qR(op pl:Int)(rs:List CRes):CRes:=
 if op==0 then .ok 0 else if op==1 then .ok 1 else if op==2 then .ok 2
 else if op==5||op==6||op==7 then zN 3 pl 3 rs
 else if op==10||op==11||op==12||op==13||op==20 then zN 1 pl 3 rs
 else if op==14||op==15||op==16||op==17||op==18||op==19 then zN 1 pl 1 rs
 else if op==8||op==9 then(match rs with
  | [a,b]=>zM pl a b
  | _=>.ok 3)
 else .ok 3
def qy:Ast->CRes
 | .leaf p=>qR p.op p.M []
 | .un p x=>qR p.op p.M [qy x]
 | .bin p x y=>qR p.op p.M [qy x,qy y]
 | .tri p x y z=>qR p.op p.M [qy x,qy y,qy z]
theorem yI(t:Ast):qy t=qR (jc t).op (jc t).M ((qM t).map qy):=by cases t<;>rfl
def WfA:Ast->Prop
 | .leaf p=>¬p.op=8/\¬p.op=9
 | .un p x=>(¬p.op=8/\¬p.op=9)/\WfA x
 | .bin _ x y=>WfA x/\WfA y
 | .tri p x y z=>(¬p.op=8/\¬p.op=9)/\WfA x/\WfA y/\WfA z
def vih(w:Ao)(r:CRes)(e:Ending)(w':Ao):Prop:=
 Below w.1.size w w'/\match r with
 | .ok c=>e=Ak (I J c)
 | .err pl=>e=ve 4 pl
def qat(lo:Nat)(t:Ast):Prop:=∀(w:Ao) (v:Ap),IsNode lo w v t->Calls prog 122 #[v] w (vih w (qy t))
theorem vj8{q:Int}{d:List CRes}(h:d[j]?=G (.err q)):dem want pl (d.drop j) fit=G q:=by
 obtain⟨e,f⟩:=aj.1 h;rw[cj e,f];rfl
theorem vnw{c:Int}{d:List CRes}(h:d[j]?=G (.ok c)):dem want pl (d.drop j) fit=dem want pl (d.drop (j+1)) (fit&&(c==want||c==0)):=by
 obtain⟨e,f⟩:=aj.1 h;rw[cj e,f];rfl
theorem vj7{d:List CRes}(h:d.length<=j):dem want pl (d.drop j) fit=if fit then O else G pl:=by
 rw[eh h];rfl
def quw(w:Ao)(r:Option Int)(e:Ending)(w':Ao):Prop:=Below w.1.size w w'/\match r with
 | none=>e=Ak (Aj #[])
 | some q=>e=ve 4 q
theorem qsf(lo:Nat)(t:Ast)(m:∀x∈qM t,qat lo x)(want:Int)(w:Ao)(v:Ap)(h:IsNode lo w v t):
  ua 171 #[v,I J want] w (quw w (dem want (jc t).M ((qM t).map qy) true)):=by
 obtain⟨R,B⟩:∃r,dem want (jc t).M ((qM t).map qy) true=r:=⟨_,rfl⟩;rw[B];have F:=qd B;obtain⟨b,sv,rfl,J6,W⟩:=h.parts;obtain⟨a,rfl,P⟩:=W.any;have T:=qke t;obtain⟨S9,G4,c0,D,X,c3,c4,c5,c6⟩:=J6;obtain⟨n,z⟩:=it ((qM t).length);rw[z]at X T;have H:=qd z;have HS:=qd P;have HC:=qd m;obtain⟨pl,Z⟩:=it ((jc t).M);rw[Z]at D F;go_enter func171,ntmps171
 go_wp2
 go_loopw [4,13] (λfit i wr=>∃(j:Nat) (f:Bool),j<=n/\i=I J j/\fit=Ah f/\Hid (R=dem want pl (((qM t).map qy).drop j) f)/\Xb w wr) (λ_ i _=>n - (intOf i).toNat)
 exact⟨0,true,bt _,rfl,rfl,qd (by rw[dw,q9 F]),uj⟩;obtain⟨j,f,hj,rfl,rfl,s,l⟩:=hrel;have d1:=(l.cell (p:=⟨b,1,O⟩) G4).trans D
 by_cases A1:j<n
 .obtain⟨x,hx⟩:∃x,(qM t)[j]?=G x:=⟨_,ag (by rw[q9 H];exact A1)⟩
  obtain⟨g,bx,rfl,I4,K5,M,U⟩:=q9 HS j x hx;have dx:=(l.cell (p:=⟨g,j,O⟩) K5).trans M;have Y:x∈qM t:=bg hx;have C:=qd (U.T (Kept.of_below l));have A:((qM t).map qy)[j]?=G (qy x):=by rw[cm,hx];rfl
  have K:=qd (HC x Y)
  cases U4:qy x with
  | err q=>
   have d:Hid (R=G q):=qd (by rw[q9 s,vj8 (by rw[A,U4])]);have u:=qd U4
   go_wp2_with(go_at_call 122;refine(K _ _ C).mono ?_;rintro e L⟨y,o⟩;rw[q9 u]at o;subst o;simp only[ve])
   rw[q9 d];exact⟨rfl,qg l y,rfl⟩
  | ok c=>
   have d:Hid (R=dem want pl (((qM t).map qy).drop (j+1)) (f&&(c==want||c==0))):=qd (by rw[q9 s,vnw (by rw[A,U4])]);have u:=qd U4;cases f<;>cases l9:(c==want)<;>cases m9:(c==0)
   all_goals
    rw[l9,m9]at d;simp only[mn,iz,Bool.or_true,mj,Bool.or_self,Bool.and_self]at d
    go_wp2_with(go_at_call 122;refine(K _ _ C).mono ?_;rintro e L⟨y,o⟩;rw[q9 u]at o;subst o)
    go_roundw
    case rel=>exact⟨j+1,_,ub,by go_num,rfl,d,qg l y⟩
    simp[intOf];omega
 have d:Hid (R=if f then O else G pl):=qd (by rw[q9 s,vj7 (by rw[cd,q9 H];omega)]);cases f
 .go_wp2
  rw[q9 d];exact⟨rfl,l,rfl⟩
 go_wp2
 go_end0
 rw[q9 d];exact⟨l,rfl⟩
def quu:CRes->Option Int
 | .err q=>G q
 | .ok c=>if(c != 3&&c != 0)=true then G 0 else O
def jY(op:Int)(x y:V):V:=
 if op=5 then yq x else if op=6 then qi3 x y else if op=7 then orV x y else if op=8 then eqV x y else if op=9 then yq (eqV x y)
 else if op=12 then yQ y x else if op=10 then yQ x y else if op=13 then leV y x else if op=11 then leV x y
 else if op=14 then qkw (iV 0) x else if op=16 then qkw x y else if op=15 then quf (iV 0) x else if op=17 then quf x y
 else if op=18 then qky x y else if op=19 then qsh x y else bV (x.A==0)
def zL(op:Int)(x y r:V):Prop:=∀w:Ao,Calls prog 128 #[I J op,vV x,vV y] w λe w'=>e=Ak (vV r)/\Below w.1.size w w'
theorem gF(h:Q (.exit n) a w):Exit.then next Q (.exit n) a w:=h
theorem zq(d:(n==id)=false)(h:Q (.exit n) a w):Exit.inBlock id Q (.exit n) a w:=by
 have e:¬n=id:=by simpa using d
 simp only[Exit.inBlock,e,if_false];exact h
theorem xr(h:Q .normal a w):Exit.inBlock id Q (.exit id) a w:=by
 simp only[Exit.inBlock,if_true];exact h
theorem zi(h:next a w):Exit.then next Q .normal a w:=h
theorem vhw:Rng 0:=⟨ue,ue⟩
theorem xF{p:Prop}(h:p:=by
  intro w
  conv=>arg 3;simp only[vV]
  go_enter func128,ntmps128
  repeat ((fail_if_success (with_reducible refine wp_exit ?_));go_step)
  with_reducible refine wp_exit ?_
  repeat (first|(with_reducible refine gF ?_)|(with_reducible refine xr ?_)|((with_reducible refine zq ?hne ?_);(case hne=>rfl)))
  with_reducible refine zi ?_
  go_wp2_with((first|go_at_call 180|go_at_call 124|go_at_call 177|go_at_call 178|go_at_call 181|go_at_call 125|go_at_call 182|go_at_call 183|go_at_call 184|go_at_call 185);refine be (CON _) λw1 A0=>?_;obtain⟨C9,G8⟩:=qk A0;have B8:w.1.size+2<w1.1.size:=(by have:=A0.size;simp at this;omega);simp only[vV])
  refine bj (by simp[go_sem,C9]<;>rfl) rfl ⟨rfl, ?_⟩
  exact((((qg (zk _ _ _ _) A0).setCell ud _).setCell ud _).setCell ud _)):p:=h
theorem zG(s:tq)(e:s.size<=140737488355328)(w:Ao):
  ut 85 #[Y s] w (Ah (jI s.data.toList)):=by
 unfold jI;rw[qu];obtain⟨g,d⟩:=it (yR s.data.toList);rw[d];have f:=qd d;clear d
 by_cases h:s.size<=16
 .go_enter func85,ntmps85
  go_wp2_with(go_at_call 123;refine be (qsx _ e _) λw' i=>?_;rw[q9 f])
  all_goals(go_ret;exact⟨qY (by simp_all),by assumption⟩)
 go_enter func85,ntmps85
 go_wp2
 go_ret;exact⟨qY ug,uj⟩
theorem qpx(l:tu):(BS l).toList.isEmpty=l.isEmpty:=by rw[qP]
theorem xm(v:V)(hv:v.V.length<=140737488355328)(w:Ao):
  Calls prog 86 #[vV v] w λe w'=>e=Ak (Ah (gY v))/\Xb w w':=by
 have f:=qpx v.V;have g:=qJ v.V;unfold gY;obtain⟨h,d⟩:=it v.V.isEmpty;rw[d]at f |-;clear d
 conv=>arg 3;simp only[vV]
 cases h0:(v.A==0)
 .cases h1:(v.A==1)
  .cases h2:(v.A==2)
   .cases h3:(v.A==3)
    .simp only[dg,if_false]
     go_enter func86,ntmps86
     go_wp2
     go_ret;exact⟨rfl,uj.alloc ui _⟩
    simp only[dg,if_false,if_true];go_enter func86,ntmps86
    go_wp2
    all_goals(go_ret;exact⟨qY (by simp_all<;>omega),uj.alloc ui _⟩)
   simp only[dg,if_false,if_true];go_enter func86,ntmps86
   go_wp2
   all_goals(go_ret;exact⟨qY (by simp_all<;>omega),uj.alloc ui _⟩)
  simp only[dg,if_false,if_true];go_enter func86,ntmps86
  go_wp2
  all_goals(go_ret;exact⟨qY (by simp_all<;>omega),uj.alloc ui _⟩)
 simp only[if_true];go_enter func86,ntmps86
 go_wp2
 all_goals(go_ret;exact⟨qY (by simp_all<;>omega),uj.alloc ui _⟩)
def qeb(ps:List Pr)(k:Nat):Bool:=match ps[k]? with
 | some p=>jI p.N&&gY p.val&&!qi5 (ps.take k) p.N
 | none=>true
def ym(ps:List Pr):Bool:=decide (ps.length<=8)&&(List.range ps.length).all (qeb ps)
theorem qiq(h:¬ps.length<=8):ym ps=false:=by unfold ym;rw[db h];rfl
theorem vd9(d:k<ps.length)(h:qeb ps k=false):ym ps=false:=by
 unfold ym;rw[oy];right;rw[List.all_eq_false];exact⟨k,ip.2 d,by rw[h];simp⟩
theorem qip(e:ps.length<=8)(h:∀j,j<ps.length->qeb ps j=true):ym ps=true:=by
 unfold ym;rw[di e,li,List.all_eq_true];exact λj d=>h j (ip.1 d)
theorem EvAt.take(h:EvAt w b off ps)(k:Nat):EvAt w b off (ps.take k):=by
 intro j p d;rw[ll]at d
 split at d
 exact h j p d;cases d
def qv0(ps:List Pr):Prop:=∀p∈ps,p.N.length<=140737488355328/\p.val.V.length<=140737488355328
theorem vjo{d:List Pr}(hq:d.length=k)(cap:Nat)(s:tq)(w:Ao)(f:k<=8)(e:EvAt w b off d)(g:b<w.1.size):
  ut 87 #[C (G ⟨b,off,O⟩) k cap,Y s] w (Ah (qi5 d s.data.toList)):=by
 subst hq;exact vjn b off cap d s w f e g
theorem EvAt.later{W d w2:Ao}{o:Obj}(h:EvAt w b off ps)(g:W=(w.alloc o).drew)(m:b<w.1.size)(f:Xb W d)(l:Xb d w2):EvAt w2 b off ps:=by
 subst g;have i:EvAt (w.alloc o).drew b off ps:=h.below (uj.alloc ui o).drew m;have e:b<(w.alloc o).drew.1.size:=by show b<(w.alloc o).1.size;simp;omega
 exact(i.below f e).below l (aq e f.size)
theorem qul(b off cap:Nat)(ps:List Pr)(w:Ao)(dA:ps.length<=cap)(dE:ps.length<=140737488355328)(L:qv0 ps)(F:EvAt w b off ps)(z:b<w.1.size)(d:ym ps=true):
  ut 50 #[C (G ⟨b,off,O⟩) ps.length cap] w (Ah true):=by
 obtain⟨h8,v⟩:ps.length<=8/\∀j,j<ps.length->qeb ps j=true:=by
  unfold ym at d;rw[dh,fj,List.all_eq_true]at d;exact⟨d.1,λj e=>d.2 j (ip.2 e)⟩
 have Z:=qd v;clear v d;go_enter func50,ntmps50
 go_wp2
 go_loopw [3,4,10] (λ_ _ i wr=>∃k:Nat,k<=ps.length/\i=I J k/\Hid (∀j,j<k->qeb ps j=true)/\Xb w wr) (λ_ _ i _=>ps.length - (intOf i).toNat)
 exact⟨0,bt _,rfl,qd (λj e=>absurd e ub),uj⟩;obtain⟨k,hk,rfl,u,f⟩:=hrel
 by_cases J9:k<ps.length
 .obtain⟨p,hp⟩:∃p,ps[k]?=G p:=⟨_,ag J9⟩
  have q:=F.below f z;have H:b<wr.1.size:=aq z f.size;obtain⟨h1,h2,h3,h4⟩:=q k p hp;obtain⟨P,R⟩:=L p (bg hp);have d:qeb ps k=(jI p.N&&gY p.val&&!qi5 (ps.take k) p.N):=by unfold qeb;rw[hp]
  have y:(ps.take k).length=k:=by rw[cw];omega
  have D:=qd (q.take k);have X:=qd y;clear hp q y;have s:=q9 Z k J9;rw[d]at s;simp only[dh,Bool.not_eq_true']at s;obtain⟨⟨o,hv⟩,m⟩:=s;have W:=qd o;have U:=qd hv
  have M:Hid (∀j,j<k+1->qeb ps j=true):=qd (λj e=>by
   by_cases hjk:j<k
   exact q9 u j hjk;have:j=k:=ub
   rw[this,d,o,hv,m];rfl)
  have Y:=qd m;clear o d hv m
  go_wp2
  go_region_with(first|(go_at_call 85;refine be (zG _ (by exact P) _) λt l=>?_;rw[show jI (BS p.N).data.toList=true from q9 W];obtain⟨C9,G8⟩:=qk l;have B8:wr.1.size<t.1.size:=(by have:=l.size;simp at this;omega);have T:Xb w t:=qg (j4 f _).drew l)|(go_at_call 86;refine be (xm p.val R _) λw2 g=>?_;rw[q9 U];obtain⟨K7,L8⟩:=qk g;have D4:wr.1.size<w2.1.size:=(uu g.size);have K:Xb w w2:=qg T g)|(go_at_call 87;refine be (vjo X cap (BS p.N) _ ub (by exact D.later rfl H l g) ub) λA D5=>?_;rw[show qi5 (ps.take k) (BS p.N).data.toList=false from q9 Y];have B:Xb w A:=qg K D5))
  all_goals(go_wp2)
  all_goals exact⟨⟨k+1,ub,by go_num,M,B⟩,by simp[intOf];omega⟩
 clear u
 go_wp2
 go_ret;exact⟨rfl,f⟩
theorem vmy{a b n:Int}(e:Rng a)(d:Rng b)(h:n=a+b):xK n=((decide (a<0) != decide (b<0))||(decide (wrap64 n<0)==decide (a<0))):=by
 unfold Rng at e d;rw[lw];simp[xK,wrap64];omega
theorem vj9{a b n:Int}(e:Rng a)(d:Rng b)(h:n=a - b):xK n=((decide (a<0)==decide (b<0))||(decide (wrap64 n<0)==decide (a<0))):=by
 unfold Rng at e d;rw[lw];simp[xK,wrap64];omega
theorem qr3{d:tq}{n:Int}(x y:V)(w:Ao)(g:d=⟨#[43]⟩/\n=x.K+y.K/\xK n=((decide (x.K<0) != decide (y.K<0))||(decide (wrap64 n<0)==decide (x.K<0)))\/d=⟨#[45]⟩/\n=x.K - y.K/\xK n=((decide (x.K<0)==decide (y.K<0))||(decide (wrap64 n<0)==decide (x.K<0)))):Calls prog 135 #[Y d,vV x,vV y] w λe w'=>e=Ak (vV (if jA x y&&xK n then iV n else nV))/\Xb w w':=by
 cases h:jA x y with
 | false=>exact qa6 _ x y h w
 | true=>
  have m:(x.A != 2)=false:=by unfold jA at h;simp at h;simp[h.1]
  have l:(y.A != 2)=false:=by unfold jA at h;simp at h;simp[h.2]
  have i:Hid (xK n=true->wrap64 n=n):=qd yD;rw[li];generalize xK n=f at *
  conv=>arg 3;simp only[vV]
  by_cases h1:x.K<0<;>by_cases h2:y.K<0<;>by_cases h3:wrap64 n<0
  all_goals
   simp only[h1,h2,h3,decide_true,decide_false,bne_self_eq_false,om,Bool.true_bne,Bool.false_bne,Bool.true_beq,Bool.false_beq,ow,ry,Bool.or_true,mj]at g;rcases g with⟨rfl,rfl,rfl⟩|⟨rfl,rfl,rfl⟩
   all_goals
    simp only[if_true,if_false,dg];go_enter func135,ntmps135
    go_wp2
    refine bj (by simp[go_sem]<;>first|rfl|exact⟨rfl,rfl,rfl⟩) rfl ⟨?_, ?_⟩
    .first|rfl|(rw[q9 i trivial];rfl)
    repeat' (first|exact zk _ _ _ _|refine Below.setCell ?_ uc _)
theorem qr1(x y:V)(e:Rng x.K)(d:Rng y.K)(w:Ao):ut 135 #[Y ⟨#[43]⟩,vV x,vV y] w (vV (qkw x y)):=qr3 x y w (Am ⟨rfl,rfl,vmy e d rfl⟩)
theorem qr2(x y:V)(e:Rng x.K)(d:Rng y.K)(w:Ao):ut 135 #[Y ⟨#[45]⟩,vV x,vV y] w (vV (quf x y)):=qr3 x y w (An ⟨rfl,rfl,vj9 e d rfl⟩)
theorem vfn(x y:V)(g:Rng x.K)(f:Rng y.K)(w:Ao):Calls prog 135 #[Y ⟨#[42]⟩,vV x,vV y] w λe w'=>e=Ak (vV (qky x y))/\Xb w w':=by
 cases h:jA x y with
 | false=>
  have e:qky x y=nV:=by unfold qky;rw[h];rfl
  rw[e];exact qa6 _ x y h w
 | true=>
  have e:qky x y=if xK (x.K * y.K) then iV (x.K * y.K) else nV:=by unfold qky;rw[h,li]
  rw[e];have q:(x.A != 2)=false:=by unfold jA at h;simp at h;simp[h.1]
  have o:(y.A != 2)=false:=by unfold jA at h;simp at h;simp[h.2]
  have m:=qd (qk5 x.K y.K g f);cases hf:xK (x.K * y.K)
  all_goals
   have d:=qd hf
   conv=>arg 3;simp only[vV]
   go_enter func135,ntmps135
   go_wp2_with(go_at_call 191;refine(m _).mono ?_;rintro e w'⟨n,ok,rfl,l,i,rfl⟩;rw[l,q9 d];try rw[i (q9 d)])
   refine bj (by simp[go_sem]<;>first|rfl|exact⟨rfl,rfl,rfl⟩) rfl ⟨rfl, ?_⟩
   repeat' (first|exact zk _ _ _ _|refine Below.setCell ?_ uc _)
theorem vfm(x y:V)(l:Rng x.K)(w:Ao):Calls prog 135 #[Y ⟨#[47]⟩,vV x,vV y] w λe w'=>e=Ak (vV (qsh x y))/\Xb w w':=by
 cases h:jA x y with
 | false=>
  have e:qsh x y=nV:=by unfold qsh;rw[h];rfl
  rw[e];exact qa6 _ x y h w
 | true=>
  have e:qsh x y=if(!(y.K==0)&&xK (x.K.tdiv y.K)) then iV (x.K.tdiv y.K) else nV:=by unfold qsh;rw[h,li]
  rw[e];have s:(x.A != 2)=false:=by unfold jA at h;simp at h;simp[h.1]
  have o:(y.A != 2)=false:=by unfold jA at h;simp at h;simp[h.2]
  have d:=qqh (b:=y.K) l;have m:Hid (xK (x.K.tdiv y.K)=true->wrap64 (x.K.tdiv y.K)=x.K.tdiv y.K):=qd yD;generalize xK (x.K.tdiv y.K)=f at *;obtain⟨p,hp⟩:=it ((x.K==-9223372036854775808));obtain⟨q,hq⟩:=it ((y.K==-1));obtain⟨r,g⟩:=it ((y.K==0));have i:r=false->¬y.K=0:=λh=>by rw[h]at g;simpa using g
  have E:∀a b:Int,(a != b)=!(a==b):=λ_ _=>rfl
  rw[hp,hq]at d;rw[g]
  conv=>arg 3;simp only[vV]
  cases p<;>cases q<;>cases r<;>cases f<;>first|exact absurd d ue|skip
  all_goals
   try have i:=i rfl
   go_enter func135,ntmps135
   go_wp2
   refine bj (by simp[go_sem]<;>first|rfl|exact⟨rfl,rfl,rfl⟩) rfl ⟨?_, ?_⟩
   .first|rfl|(rw[q9 m (by trivial)];rfl)
   repeat' (first|exact zk _ _ _ _|refine Below.setCell ?_ uc _)
theorem qr0(x y:V)(w:Ao):ut 136 #[vV x,vV y] w (vV (qi3 x y)):=qgk (An (An (Am ⟨rfl,rfl,rfl,rfl⟩))) vQ x y w
theorem qzk(x y:V)(w:Ao):ut 137 #[vV x,vV y] w (vV (orV x y)):=qgk (An (An (An ⟨rfl,rfl,rfl,rfl⟩))) vQ x y w
section
variable {w:Ao} {a N c:Int} {iv lv ev:Ap} {S E:tq} {neg:Bool}
theorem va0{y z p q:V}(hn:2<n)(s:b<w.1.size)(x0:Xc w b 0 (I J x.A))(x1:Xc w b 1 (I J x.K))(x2:Xc w b 2 (Y (BS x.V)))(y0:Xc w b 3 (I J y.A))(y1:Xc w b 4 (I J y.K))(y2:Xc w b 5 (Y (BS y.V)))(z0:Xc w b 6 (I J z.A))(z1:Xc w b 7 (I J z.K))(z2:Xc w b 8 (Y (BS z.V)))
  (HG:∀w,ut 135 #[Y ⟨#[62,61]⟩,vV x,vV y] w (vV (p))) (HL:∀w,ut 135 #[Y ⟨#[60,61]⟩,vV x,vV z] w (vV (q))) (HA:∀w,ut 136 #[vV p,vV q] w (vV (r))) :
  ut 98 #[Ai #[Y ⟨#[66,69,84,87,69,69,78]⟩,I J a,iv,Y S,Y E,lv,I J N,Ah neg,I J c],C (G ⟨b,0,O⟩) n cap,ev] w (vV r):=by
 have bG:=ur n;have t9:(1:Int)<(n:Int):=ub;have O7:(2:Int)<(n:Int):=ub;have eO:0<n:=ub;have mR:1<n:=ub;have nb:¬b=w.1.size:=ub;have iE:¬b=w.1.size+1:=ub;have OA:¬w.1.size+1=b:=ub;have RG:=qd HG;have RL:=qd HL;have RA:=qd HA;clear HG HL HA;simp only[vV]at RG RL RA;go_enter func98,ntmps98
 go_wp2
 go_region_held3 (λW=>Xc W b 0 (I J x.A)/\Xc W b 1 (I J x.K)/\Xc W b 2 (Y (BS x.V))/\Xc W b 3 (I J y.A)/\Xc W b 4 (I J y.K)/\Xc W b 5 (Y (BS y.V))/\Xc W b 6 (I J z.A)/\Xc W b 7 (I J z.K)/\Xc W b 8 (Y (BS z.V))) (first|with_reducible assumption|go_keep) (first|(go_at_call 136;refine be (RA _) λl t=>?_;obtain⟨e,lS⟩:=qk t;have oY:=qg b8 t;have mY:(Xc l b 0 (I J x.A)/\Xc l b 1 (I J x.K)/\Xc l b 2 (Y (BS x.V))/\Xc l b 3 (I J y.A)/\Xc l b 4 (I J y.K)/\Xc l b 5 (Y (BS y.V))/\Xc l b 6 (I J z.A)/\Xc l b 7 (I J z.K)/\Xc l b 8 (Y (BS z.V))):=(by obtain⟨P,M,L,K,H,F,D,B,A⟩:=R;exact⟨(e _ 0 o).trans P,(e _ 1 o).trans M,(e _ 2 o).trans L,(e _ 3 o).trans K,(e _ 4 o).trans H,(e _ 5 o).trans F,(e _ 6 o).trans D,(e _ 7 o).trans B,(e _ 8 o).trans A⟩);have hbw3:b<l.1.size:=(uu t.size);have P9:w.1.size+2<=l.1.size:=(uu t.size);have u0:=(e _ 0 ub).trans t0;have u1:=(e _ 1 ub).trans Z;have u2:=(e _ 2 ub).trans X;have uz:=(λi=>(lS (w.1.size+1) i ub).trans (U i));clear t e lS t0 Z X U)|(go_at_call 135;have _q:=T;refine be (RL _) λw2 u=>?_;obtain⟨f,L8⟩:=qk u;have b8:=qg T u;have R:(Xc w2 b 0 (I J x.A)/\Xc w2 b 1 (I J x.K)/\Xc w2 b 2 (Y (BS x.V))/\Xc w2 b 3 (I J y.A)/\Xc w2 b 4 (I J y.K)/\Xc w2 b 5 (Y (BS y.V))/\Xc w2 b 6 (I J z.A)/\Xc w2 b 7 (I J z.K)/\Xc w2 b 8 (Y (BS z.V))):=(by obtain⟨P,M,L,K,H,F,D,B,A⟩:=GL;exact⟨(f _ 0 m).trans P,(f _ 1 m).trans M,(f _ 2 m).trans L,(f _ 3 m).trans K,(f _ 4 m).trans H,(f _ 5 m).trans F,(f _ 6 m).trans D,(f _ 7 m).trans B,(f _ 8 m).trans A⟩);have o:b<w2.1.size:=(uu u.size);have D4:w.1.size+2<=w2.1.size:=(uu u.size);have t0:=(f _ 0 ub).trans s0;have Z:=(f _ 1 ub).trans s1;have X:=(f _ 2 ub).trans s2;have U:=(λi=>(L8 (w.1.size+1) i ub).trans (sz i));clear u f L8 s0 s1 s2 sz T)|(go_at_call 135;refine be (RG _) λd v=>?_;have T:=qg (qK w _ _).drew v;obtain⟨g,G8⟩:=qk v;have B8:w.1.size+2<=d.1.size:=(by have:=v.size;change ((w.alloc _).alloc _).1.size<=_ at this;simp at this;omega);have m:b<d.1.size:=ub;have GL:(Xc d b 0 (I J x.A)/\Xc d b 1 (I J x.K)/\Xc d b 2 (Y (BS x.V))/\Xc d b 3 (I J y.A)/\Xc d b 4 (I J y.K)/\Xc d b 5 (Y (BS y.V))/\Xc d b 6 (I J z.A)/\Xc d b 7 (I J z.K)/\Xc d b 8 (Y (BS z.V))):=⟨(g _ 0 (by show _<((w.alloc _).alloc _).1.size;simp;omega)).trans ((qk (qK w _ _)).1 b 0 s |>.trans x0),(g _ 1 (by show _<((w.alloc _).alloc _).1.size;simp;omega)).trans ((qk (qK w _ _)).1 b 1 s |>.trans x1),(g _ 2 (by show _<((w.alloc _).alloc _).1.size;simp;omega)).trans ((qk (qK w _ _)).1 b 2 s |>.trans x2),(g _ 3 (by show _<((w.alloc _).alloc _).1.size;simp;omega)).trans ((qk (qK w _ _)).1 b 3 s |>.trans y0),(g _ 4 (by show _<((w.alloc _).alloc _).1.size;simp;omega)).trans ((qk (qK w _ _)).1 b 4 s |>.trans y1),(g _ 5 (by show _<((w.alloc _).alloc _).1.size;simp;omega)).trans ((qk (qK w _ _)).1 b 5 s |>.trans y2),(g _ 6 (by show _<((w.alloc _).alloc _).1.size;simp;omega)).trans ((qk (qK w _ _)).1 b 6 s |>.trans z0),(g _ 7 (by show _<((w.alloc _).alloc _).1.size;simp;omega)).trans ((qk (qK w _ _)).1 b 7 s |>.trans z1),(g _ 8 (by show _<((w.alloc _).alloc _).1.size;simp;omega)).trans ((qk (qK w _ _)).1 b 8 s |>.trans z2)⟩;have s0:Xc d (w.1.size+1) 0 (I J 0):=(g _ 0 (by show _<((w.alloc _).alloc _).1.size;simp)).trans (by show((w.alloc _).alloc _).cell? _=_;simp);have s1:Xc d (w.1.size+1) 1 (I J 0):=(g _ 1 (by show _<((w.alloc _).alloc _).1.size;simp)).trans (by show((w.alloc _).alloc _).cell? _=_;simp);have s2:Xc d (w.1.size+1) 2 (Y ⟨#[]⟩):=(g _ 2 (by show _<((w.alloc _).alloc _).1.size;simp)).trans (by show((w.alloc _).alloc _).cell? _=_;simp);have sz:Xf d (w.1.size+1):=(λi=>(G8 _ i (by show _<((w.alloc _).alloc _).1.size;simp)).trans (by show((w.alloc _).alloc _).frozen? _=_;simp));clear v g G8))
 all_goals go_wp2
 all_goals refine bj (by simp[go_sem,u0,u1,u2]<;>rfl) rfl ⟨rfl, ?_⟩
 all_goals exact(((oY.setCell uc _).setCell uc _).setCell uc _)
theorem va2(s:0<n)(e:b<w.1.size)(m:Xc w b 0 (I J x.A))(l:Xc w b 1 (I J x.K))(i:Xc w b 2 (Y (BS x.V)))
  (g:∀w,ut 139 #[vV x,Y S,Y E] w (vV (r))) :
  ut 98 #[Ai #[Y ⟨#[76,73,75,69]⟩,I J a,iv,Y S,Y E,lv,I J N,Ah neg,I J c],C (G ⟨b,0,O⟩) n cap,ev] w (vV r):=by
 have v:=ur n;have o:¬b=w.1.size:=ub;have q:¬b=w.1.size+1:=ub;have y:¬w.1.size+1=b:=ub;have RN:=qd g;clear g;simp only[vV]at RN;go_enter func98,ntmps98
 go_wp2
 go_region_held3 (λW=>Xc W w.1.size 3 (Y S)/\Xc W w.1.size 4 (Y E)/\Xc W b 0 (I J x.A)/\Xc W b 1 (I J x.K)/\Xc W b 2 (Y (BS x.V))) (first|with_reducible assumption|go_keep) ((go_at_call 139;refine be (RN _) λw' f=>?_;obtain⟨d,t⟩:=qk f;have u:(Xc w' w.1.size 3 (Y S)/\Xc w' w.1.size 4 (Y E)/\Xc w' b 0 (I J x.A)/\Xc w' b 1 (I J x.K)/\Xc w' b 2 (Y (BS x.V))):=⟨(d _ 3 (by show _<((w.alloc _).alloc _).1.size;simp;try omega)).trans (by show((w.alloc _).alloc _).cell? _=_;simp),(d _ 4 (by show _<((w.alloc _).alloc _).1.size;simp;try omega)).trans (by show((w.alloc _).alloc _).cell? _=_;simp),(d _ 0 (by show _<((w.alloc _).alloc _).1.size;simp;omega)).trans ((qk (qK w _ _)).1 b 0 e |>.trans m),(d _ 1 (by show _<((w.alloc _).alloc _).1.size;simp;omega)).trans ((qk (qK w _ _)).1 b 1 e |>.trans l),(d _ 2 (by show _<((w.alloc _).alloc _).1.size;simp;omega)).trans ((qk (qK w _ _)).1 b 2 e |>.trans i)⟩))
 all_goals go_wp2
 all_goals refine bj (by simp[go_sem,d]<;>rfl) rfl ⟨rfl, ?_⟩
 all_goals exact((((qg (qK _ _ _).drew f).setCell uc _).setCell uc _).setCell uc _)
end
end Go.Proofs.YtdmmmgodfceilaaGreatDoor
