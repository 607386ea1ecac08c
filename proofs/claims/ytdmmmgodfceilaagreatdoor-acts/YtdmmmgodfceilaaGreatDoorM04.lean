/- Program.Run -/
import Derived.Test.YtdmmmgodfceilaaGreatDoorM03
import Derived.Test.YtdmmmgodfceilaaGreatDoorM19
import Derived.Lib.AppendStr
import Derived.Lib.OwnKind
import Derived.Test.YtdmmmgodfceilaaGreatDoorShelf3
import Derived.Sort.OwnSorted
set_option maxHeartbeats 16000000
set_option maxRecDepth 100000
namespace Go.Proofs.YtdmmmgodfceilaaGreatDoor
open Go.RowKit Go.Proofs.Tryz
open Go renaming Value->Ap,World->Ao
open Go.Ending renaming returned->Ak
open Go.IntKind renaming i64->J
open Go.Obj renaming cells->Al
open Go.Value renaming agg->Ai,bool->Ah,int->I,pointer->Ag,slice->C,string->Y,tuple->Aj
open Option renaming none->O,some->G
open Or renaming inl->Am,inr->An
variable{p:Addr}{t:Ast}{x y:Co}{id last:Int}{zs:List tu}{l:List Nat}{ps:List Pr}{ts:List Tm}{vs:List V}{x1 xs:List Ap}{B B' E b b1 base bb c g i j k lo m mb n n1 qc s1 size vb:Nat}{F:Nat->Prop}{qa:Option Addr}{s:Sb}{e e1:TypeId}{rv sv sv' tv v v1 v2 vx vy:Ap}{W W' w w' w1 w2 wr:Ao}
def xg(ps:List Pr)(ts:List Tm):Nat->List V
 | 0=>[]
 | k+1=>xg ps ts k++[ofT ps (xg ps ts k) (ts.getD k (.bare 0))]
def qnn(vs:List V)(rs:List Nat):Nat->List Nat
 | 0=>[]
 | k+1=>qnn vs rs k++(if vs.getD (rs.getD k 0) nV=bV true then[k] else[])
def vnj(ps:List Pr)(ts:List Tm)(rs:List Nat):List Nat:=qnn (xg ps ts ts.length) rs rs.length
theorem j7(ps:List Pr)(ts:List Tm)(k:Nat):(xg ps ts k).length=k:=by
 induction k with
 | zero=>rfl
 | succ k ih=>rw[xg,ce,ih];rfl
theorem qd9(vs:List V)(a:List Nat)(k:Nat):(qnn vs a k).length<=k:=by
 induction k with
 | zero=>exact ui
 | succ k ih=>rw[qnn,ce];split<;>simp<;>omega
theorem vkg(vs:List V)(d:List Nat)(k:Nat):∀x∈qnn vs d k,x<k:=by
 induction k with
 | zero=>intro x a;simp[qnn]at a
 | succ k ih=>
  intro x a;rw[qnn,cr]at a;rcases a with a|a;have:=ih x a;omega
  split at a
  simp at a;omega;simp at a
def Gv(v:V):Prop:=Rng v.K/\Sh v
theorem vs1:Gv nV:=⟨qa8,qe0⟩
theorem veo(h:qfq ps)(d:vh7 ps){t:Tm}(a:FitsT k t):Gv (ofT ps vs t):=by
 unfold ofT
 split
 .refine⟨qr8 h _, ?_⟩
  unfold yh
  split
  rename_i p hp;exact d p (nj hp);exact qe0
 split
 .exact⟨a.K,vhz _⟩
 split
 .exact⟨vhw,by have:=a.V;show t.V.length<=1000;omega⟩
 split
 .exact⟨pG _,qdz _⟩
 split
 unfold qbu;exact⟨jM (pG _) qa8,vd (qdz _) qe0⟩;exact⟨qr9 _ _ _,va7 _ _ _⟩
theorem qun(h:qfq ps)(o:vh7 ps)(q:∀i t,ts[i]?=G t->FitsT i t)(k:Nat)(r:k<=ts.length):∀i,Gv ((xg ps ts k).getD i nV):=by
 induction k with
 | zero=>intro i;exact vs1
 | succ k ih=>
  intro i;have ih:=ih ub i;have f:ts[k]?=G ts[k]:=ag ub;rw[xg,bi];rw[bi]at ih;rcases Nat.lt_or_ge i k with a|a;rw[cg (by rw[j7];exact a)];exact ih;rw[da (by rw[j7];exact a),j7];rcases Nat.eq_zero_or_pos (i - k) with d|d
  .rw[d]
   show Gv (ofT _ _ _);rw[bi,f];exact veo h o (q k _ f)
  rw[lz ud];exact vs1
theorem vn4{ev:Ap}{t:Tm}(a:EvArg w ev ps)(hv:ValsAt w vb n vs)(q:vb<w.1.size)(d:∀i,Gv (vs.getD i nV))(f:FitsT k t)(r:k<=n):kU w ps ev (C (G ⟨vb,0,O⟩) n c) vs t:=by
 have o:=a.slice
 by_cases h0:t.op=0
 .exact vrl w ps ev _ n c vs t a h0
 by_cases h1:t.op=1
 .exact vrm w ps ev _ n c vs t a h1
 by_cases h2:t.op=2
 .exact vrn w ps ev _ n c vs t a h2
 by_cases h3:t.op=3
 .exact vro w ps ev _ n c vs t a h3
 by_cases h4:t.op=4
 .exact vrp w ps ev _ n c vs t a h4
 have u:=f.sides ub
 by_cases h22:t.op=22
 exact vqg w ps ev vb n c vs t o hv q ub f.V (d _).2 h22;exact vrq w ps ev vb n c vs t o hv q ub ub (d _).1 (d _).1 h0 h1 h2 h3 h4 h22
theorem qsu:(prog.info? 57).map (λi=>(i.zero,i.size,i.bytes))=G (G (Ai #[I J 0,I J 0,Y ⟨#[]⟩]),3,32):=uh
structure RunAt(w wr:Ao)(vb n:Nat)(vs:List V):Prop where
 vals:ValsAt wr vb n vs
 fz:∀j,wr.frozen? ⟨vb,j,O⟩=false
 ge:w.1.size<=vb
 lt:vb<wr.1.size
 u:Below w.1.size w wr
theorem RunAt.next(h:RunAt w wr vb n vs)(a:Xb wr w'):RunAt w w' vb n vs:=
 ⟨h.vals.below a h.lt,λj=>(a.frozen (p:=⟨vb,j,O⟩) h.lt).trans (h.fz j),h.ge,aq h.lt a.size,qg h.u a⟩
theorem RunAt.made(h:w1.ownsRow w.1.size 57 3 (C (G ⟨w.1.size,0,O⟩) n n) n (madeCells (Ai #[I J 0,I J 0,Y ⟨#[]⟩]).cells (n * 3)).toList)(a:w.grownBy w1 O):RunAt w w1 w.1.size n []:=by
 have q:=h.lt w.1.size rfl;refine⟨λi K=>?_,λj=>?_,ui,q.2,⟨a.os,a.tape,a.output,a.size,λk r=>a.block k r uc⟩⟩;have f:=h.cells (g:=w.1.size) rfl;have o:∀j,(⟨w.1.size,0,O⟩:Addr).add j=⟨w.1.size,j,O⟩:=λj=>by unfold Addr.add;split<;>simp_all
 have d:∀j,j<3->(madeCells (Ai #[I J 0,I J 0,Y ⟨#[]⟩]).cells (n * 3)).toList[i * 3+j]?=([I J 0,I J 0,Y ⟨#[]⟩]:List Ap)[j]?:=by
  intro j u;have A:i * 3+j<n * 3:=ub;have z:(i * 3+j) % 3=j:=ub;have D:(Ai #[I J 0,I J 0,Y ⟨#[]⟩]).cells=#[I J 0,I J 0,Y ⟨#[]⟩]:=by rfl
  rw[D];simp[madeCells,A,z]
  match j,u with
  | 0,_=>rfl
  | 1,_=>rfl
  | 2,_=>rfl
 refine⟨?_, ?_, ?_⟩;have:=f (i * 3+0) _ (d 0 ue);rwa [o]at this;have:=f (i * 3+1) _ (d 1 ue);rwa [o]at this;have:=f (i * 3+2) _ (d 2 ue);rwa [o]at this;rcases h.2 with⟨hv,_⟩|⟨g,cap,cur,hv,_,H,_⟩;simp at hv;simp at hv;obtain⟨rfl,_⟩:=hv;simp[World.frozen?,H]
theorem RunAt.store(h:RunAt w wr vb n vs)(f:vs.length=k)(o:k<n)(x:V):
  RunAt w (((wr.setCell ⟨vb,k * 3,O⟩ (I J x.A)).setCell ⟨vb,k * 3+1,O⟩ (I J x.K)).setCell ⟨vb,k * 3+2,O⟩ (Y (BS x.V))) vb n (vs++[x]):=by
 have a:=h.ge;refine⟨λi q=>?_,λj=>by simp[go_sem,h.fz],a,by have:=h.lt;simpa using this,((h.u.setCell (by exact a) _).setCell (by exact a) _).setCell (by exact a) _⟩;obtain⟨C,A,z⟩:=h.vals k o
 by_cases he:i=k
 .subst he
  have d:(vs++[x]).getD i nV=x:=by rw[bi,da ub,f,ld];rfl
  rw[d];refine⟨?_, ?_, ?_⟩<;>simp[go_sem,C,A,z]
 have d:(vs++[x]).getD i nV=vs.getD i nV:=by
  rw[bi,bi];rcases Nat.lt_or_ge i k with r|r;rw[cg ub];rw[lz ud,lz ub]
 rw[d];obtain⟨u,b1,b2⟩:=h.vals i q;refine⟨?_, ?_, ?_⟩
 .simp[go_sem,u]
 .simp[go_sem,b1]
 simp[go_sem,b2]
theorem TsAt.cells(h:TsAt w base v ts):∃a c,v=C a ts.length c/\∀(k:Nat) (t:Tm),ts[k]?=G t->∃g,a=G ⟨g,0,O⟩/\g<w.1.size /\
  w.cell? ⟨g,k * 6,O⟩=G (I J t.op)/\w.cell? ⟨g,k * 6+1,O⟩=G (I J t.left)/\w.cell? ⟨g,k * 6+2,O⟩=G (I J t.right)/\w.cell? ⟨g,k * 6+3,O⟩=G (I J t.K)/\w.cell? ⟨g,k * 6+4,O⟩=G (Y (BS t.V))/\w.cell? ⟨g,k * 6+5,O⟩=G (Y (BS t.h)):=by
 have r:=h;rcases h.2 with⟨rfl,o⟩|⟨g,cap,cur,rfl,D,A,_⟩;refine⟨O,0,by rw[o],λk t f=>?_⟩;have:=(aj.1 f).1;omega;refine⟨_,cap,rfl,λk t f=>⟨g,rfl,(cf.1 A).1, ?_⟩⟩;have z:∀j,(⟨g,0,O⟩:Addr).add j=⟨g,j,O⟩:=λj=>by unfold Addr.add;split<;>simp_all
 have d:∀j u,(gG t)[j]?=G u->w.cell? ⟨g,k * 6+j,O⟩=G u:=λj u q=>by
  have:=World.ownsRow.cells r (g:=g) rfl (k * 6+j) u (qkm f q);rwa [z]at this
 exact⟨d 0 _ rfl,d 1 _ rfl,d 2 _ rfl,d 3 _ rfl,d 4 _ rfl,d 5 _ rfl⟩
theorem IsAt.cells(h:IsAt w base v l):∃a c,v=C a l.length c/\∀(k:Nat) (x:Nat),l[k]?=G x->∃g,a=G ⟨g,0,O⟩/\g<w.1.size/\w.cell? ⟨g,k,O⟩=G (I J x):=by
 have o:=h;rcases h.2 with⟨rfl,f⟩|⟨g,cap,cur,rfl,u,r,_⟩;refine⟨O,0,by rw[f],λk t d=>?_⟩;have:=(aj.1 d).1;omega;refine⟨_,cap,rfl,λk x d=>⟨g,rfl,(cf.1 r).1, ?_⟩⟩;have q:∀j,(⟨g,0,O⟩:Addr).add j=⟨g,j,O⟩:=λj=>by unfold Addr.add;split<;>simp_all
 have:=World.ownsRow.cells o (g:=g) rfl k (I J x) (by simp[yp,d]);rwa [q]at this
def gW(B:Nat)(w:Ao)(c:Co)(e:Ending)(w':Ao):Prop:=∃b,e=Ak (Ag (G ⟨b,0,O⟩))/\CoAt B w'.1.size w' (Ag (G ⟨b,0,O⟩)) c/\Below w.1.size w w'
theorem qcn(n:Int)(a:Rng n)(f:B<=w.1.size)(d:LibOk w):ua 141 #[I J n] w (gW B w (kL n)):=by
 have S:Hid (ua 144 #[Ai #[I J 1,Ag O,Ag O,I J n,Y ⟨#[]⟩,Y ⟨#[]⟩,Y ⟨#[]⟩]] w (gW B w (kL n))):=qd (xx ⟨1,n,[],[]⟩ rfl a (bt _) (bt _) f d);go_enter func141,ntmps141
 go_wp2_with(go_at_call 144;refine S.mono ?_;rintro e w1⟨b1,rfl,h,o⟩)
 go_ret;exact⟨b1,rfl,h,o⟩
def Lm(c:Co):Prop:=(qt c).length<=200000000/\uC c<=1000/\WfC c
theorem Gd.lm(h:Gd t)(a:ndA t<=200):Lm (qj t):=by
 have f:=h.len;have d:=h.un;have:ndA t * ndA t<=200 * 200:=ri a a;exact⟨ub,ub,h.wf⟩
theorem vcn(lo:Nat)(p:Pay)(sv:Ap)(o:B<=w.1.size)(f:LibOk w)(A:NodeAt lo w b p sv)(z:p.op=14)(d:CoAt B w.1.size w vx x)(r:Lm x):
  ua 100 #[Ag (G ⟨b,0,O⟩),vx,Ag O,Ag O] w (gW B w (qp 16 (kL 0) x)):=by
 obtain⟨D,rfl⟩:=d.ptr;have c0:=A.c0;have L:Hid (ua 141 #[I J 0] w (gW B w (kL 0))):=qd (qcn 0 ⟨ue,ue⟩ o f)
 have K:Hid (∀w1 v1,Xb w w1->CoAt B w1.1.size w1 v1 (kL 0)->ua 140 #[I J 16,v1,Ag (G ⟨D,0,O⟩)] w1 (gW B w1 (qp 16 (kL 0) x))):=
  qd (λw1 v1 a C=>jb 16 (bs o a.size) (f.below a ui) C (d.below a) (bs qc7 ue) (bs r.1 ue))
 have S:(p.op==14)=true:=by rw[z];rfl
 go_enter func100,ntmps100
 go_wp2_with(first|(go_at_call 141;refine L.mono ?_;rintro e w1⟨b1,rfl,k1,Q⟩;have q:=qd Q;have N:=qd k1)|(go_at_call 140;refine(K _ _ q N).mono ?_;rintro e w2⟨b2,rfl,u,P⟩;have H:=qd (qg q P);have M:=qd u))
 go_ret;exact⟨b2,rfl,q9 M,q9 H⟩
theorem vco(lo:Nat)(p:Pay)(sv:Ap)(o:B<=w.1.size)(f:LibOk w)(A:NodeAt lo w b p sv)(z:p.op=15)(d:CoAt B w.1.size w vx x)(r:Lm x):
  ua 100 #[Ag (G ⟨b,0,O⟩),vx,Ag O,Ag O] w (gW B w (qp 17 (kL 0) x)):=by
 obtain⟨D,rfl⟩:=d.ptr;have c0:=A.c0;have L:Hid (ua 141 #[I J 0] w (gW B w (kL 0))):=qd (qcn 0 ⟨ue,ue⟩ o f)
 have K:Hid (∀w1 v1,Xb w w1->CoAt B w1.1.size w1 v1 (kL 0)->ua 140 #[I J 17,v1,Ag (G ⟨D,0,O⟩)] w1 (gW B w1 (qp 17 (kL 0) x))):=
  qd (λw1 v1 a C=>jb 17 (bs o a.size) (f.below a ui) C (d.below a) (bs qc7 ue) (bs r.1 ue))
 have S:(p.op==15)=true:=by rw[z];rfl
 go_enter func100,ntmps100
 go_wp2_with(first|(go_at_call 141;refine L.mono ?_;rintro e w1⟨b1,rfl,k1,Q⟩;have q:=qd Q;have N:=qd k1)|(go_at_call 140;refine(K _ _ q N).mono ?_;rintro e w2⟨b2,rfl,u,P⟩;have H:=qd (qg q P);have M:=qd u))
 go_ret;exact⟨b2,rfl,q9 M,q9 H⟩
theorem vcl(lo:Nat)(p:Pay)(sv:Ap)(A:B<=w.1.size)(z:LibOk w)(u:NodeAt lo w b p sv)(K:p.op=12)(f:CoAt B w.1.size w vx x)(d:CoAt B w.1.size w vy y)(q:Lm x)(o:Lm y):
  ua 100 #[Ag (G ⟨b,0,O⟩),vx,vy,Ag O] w (gW B w (qp 10 y x)):=by
 obtain⟨C,rfl⟩:=f.ptr;obtain⟨a,rfl⟩:=d.ptr;have c0:=u.c0
 have D:Hid (ua 140 #[I J 10,Ag (G ⟨a,0,O⟩),Ag (G ⟨C,0,O⟩)] w (gW B w (qp 10 y x))):=
  qd (jb 10 A z d f (bs o.1 ue) (bs q.1 ue))
 go_enter func100,ntmps100
 go_wp2_with(go_at_call 140;refine D.mono ?_;rintro e w2⟨b2,rfl,r,H⟩)
 go_ret;exact⟨b2,rfl,r,H⟩
theorem vcm(lo:Nat)(p:Pay)(sv:Ap)(A:B<=w.1.size)(z:LibOk w)(u:NodeAt lo w b p sv)(K:p.op=13)(f:CoAt B w.1.size w vx x)(d:CoAt B w.1.size w vy y)(q:Lm x)(o:Lm y):
  ua 100 #[Ag (G ⟨b,0,O⟩),vx,vy,Ag O] w (gW B w (qp 11 y x)):=by
 obtain⟨C,rfl⟩:=f.ptr;obtain⟨a,rfl⟩:=d.ptr;have c0:=u.c0
 have D:Hid (ua 140 #[I J 11,Ag (G ⟨a,0,O⟩),Ag (G ⟨C,0,O⟩)] w (gW B w (qp 11 y x))):=
  qd (jb 11 A z d f (bs o.1 ue) (bs q.1 ue))
 go_enter func100,ntmps100
 go_wp2_with(go_at_call 140;refine D.mono ?_;rintro e w2⟨b2,rfl,r,H⟩)
 go_ret;exact⟨b2,rfl,r,H⟩
theorem vj5(lo:Nat)(p:Pay)(sv:Ap)(z:B<=w.1.size)(u:LibOk w)(D:NodeAt lo w b p sv)(Y:p.op=9)(q:CoAt B w.1.size w vx x)(o:CoAt B w.1.size w vy y)(d:Lm x)(a:Lm y):
  ua 100 #[Ag (G ⟨b,0,O⟩),vx,vy,Ag O] w (gW B w (vg (qp 8 x y))):=by
 obtain⟨K,rfl⟩:=q.ptr;obtain⟨f,rfl⟩:=o.ptr;have c0:=D.c0;have X:=d.1;have U:=a.1
 have M:Hid (ua 140 #[I J 8,Ag (G ⟨K,0,O⟩),Ag (G ⟨f,0,O⟩)] w (gW B w (qp 8 x y))):=
  qd (jb 8 z u q o (bs d.1 ue) (bs a.1 ue))
 have N:Hid (∀w1 v1,Xb w w1->CoAt B w1.1.size w1 v1 (qp 8 x y)->ua 142 #[v1] w1 (gW B w1 (vg (qp 8 x y)))):=
  qd (λw1 v1 r H=>qjg _ (vO rfl d.2.2 a.2.2) (by rw[qN 8 rfl rfl,jN];have Z:(jw 8).length=1:=rfl;show _+7 * 1<=_;omega) B w1 v1 (bs z r.size) (u.below r ui) H)
 go_enter func100,ntmps100
 go_wp2_with(first|(go_at_call 140;refine M.mono ?_;rintro e w1⟨b1,rfl,k1,T⟩;have A:=qd T;have Q:=qd k1)|(go_at_call 142;refine(N _ _ A Q).mono ?_;rintro e w2⟨b2,rfl,C,S⟩;have L:=qd (qg A S);have P:=qd C))
 go_ret;exact⟨b2,rfl,q9 P,q9 L⟩
theorem vj4(lo:Nat)(p:Pay)(sv:Ap)(r:B<=w.1.size)(q:LibOk w)(o:NodeAt lo w b p sv)(H:p.op=5)(d:CoAt B w.1.size w vx x)(a:Lm x):
  ua 100 #[Ag (G ⟨b,0,O⟩),vx,Ag O,Ag O] w (gW B w (vg x)):=by
 obtain⟨u,rfl⟩:=d.ptr;have c0:=o.c0;have D:=a.1;have C:=a.2.1;have z:Hid (ua 142 #[Ag (G ⟨u,0,O⟩)] w (gW B w (vg x))):=qd (qjg x a.2.2 ub B w _ r q d);go_enter func100,ntmps100
 go_wp2_with(go_at_call 142;refine z.mono ?_;rintro e w2⟨b2,rfl,f,A⟩)
 go_ret;exact⟨b2,rfl,f,A⟩
theorem vcp(lo:Nat)(p:Pay)(sv:Ap)(o:B<=w.1.size)(f:LibOk w)(S:NodeAt lo w b p sv)(ho:p.op=20){z:Co}{r:Ap}(d:CoAt B w.1.size w vx x)(A:CoAt B w.1.size w vy y)(u:CoAt B w.1.size w r z)(N:Lm x)(M:Lm y)(L:Lm z):
  ua 100 #[Ag (G ⟨b,0,O⟩),vx,vy,r] w (gW B w (qp 6 (qp 11 y x) (qp 11 x z))):=by
 obtain⟨C,rfl⟩:=d.ptr;obtain⟨q,rfl⟩:=A.ptr;obtain⟨X,rfl⟩:=u.ptr;have c0:=S.c0;have z1:=N.1;have z2:=M.1;have z3:=L.1
 have P1:Hid (ua 140 #[I J 11,Ag (G ⟨q,0,O⟩),Ag (G ⟨C,0,O⟩)] w (gW B w (qp 11 y x))):=
  qd (jb 11 o f A d ub ub)
 have P2:Hid (∀w1,Xb w w1->ua 140 #[I J 11,Ag (G ⟨C,0,O⟩),Ag (G ⟨X,0,O⟩)] w1 (gW B w1 (qp 11 x z))):=
  qd (λw1 a=>jb 11 (bs o a.size) (f.below a ui) (d.below a) (u.below a) ub ub)
 have GV:(jw 11).length=2:=rfl
 have P3:Hid (∀w1 v1 v2,Xb w w1->CoAt B w1.1.size w1 v1 (qp 11 y x)->CoAt B w1.1.size w1 v2 (qp 11 x z)->ua 140 #[I J 6,v1,v2] w1 (gW B w1 (qp 6 (qp 11 y x) (qp 11 x z)))):=
  qd (λw1 v1 v2 a U T=>jb 6 (bs o a.size) (f.below a ui) U T (by rw[qN 11 rfl rfl];omega) (by rw[qN 11 rfl rfl];omega))
 go_enter func100,ntmps100
 go_wp2_with fail
 refine P1.mono ?_;rintro e w1⟨b1,rfl,k1,A0⟩;have H:=qd A0;have K1:=qd k1
 go_wp2_with fail
 refine(P2 _ H).mono ?_;rintro e w2⟨b2,rfl,Q,K⟩;have D:=qd (qg H K);have Z:=qd (K1.below K);have K2:=qd Q
 go_wp2_with fail
 refine(P3 _ _ _ D Z K2).mono ?_;rintro e w3⟨Y,rfl,P,D5⟩;have F9:=qd (qg D D5);have K3:=qd P
 go_wp2
 go_ret;exact⟨Y,rfl,q9 K3,q9 F9⟩
theorem qvs(lo:Nat)(p:Pay)(sv:Ap)(A:B<=w.1.size)(z:LibOk w)(u:NodeAt lo w b p sv)(H:¬p.op=14)(L:¬p.op=15)(N:¬p.op=12)(K:¬p.op=13)(Q:¬p.op=9)(S:¬p.op=5)(C:¬p.op=20)(U:¬p.op=21)(f:CoAt B w.1.size w vx x)(d:CoAt B w.1.size w vy y)(q:Lm x)(o:Lm y):
  ua 100 #[Ag (G ⟨b,0,O⟩),vx,vy,Ag O] w (gW B w (qp p.op x y)):=by
 obtain⟨D,rfl⟩:=f.ptr;obtain⟨a,rfl⟩:=d.ptr;have c0:=u.c0
 have M:Hid (ua 140 #[I J p.op,Ag (G ⟨D,0,O⟩),Ag (G ⟨a,0,O⟩)] w (gW B w (qp p.op x y))):=
  qd (jb p.op A z f d (bs q.1 ue) (bs o.1 ue))
 have Z:(p.op==14)=false:=bh.2 H;have X:(p.op==15)=false:=bh.2 L;have Y:(p.op==12)=false:=bh.2 N;have T:(p.op==13)=false:=bh.2 K;go_enter func100,ntmps100
 go_wp2_with(go_at_call 140;refine M.mono ?_;rintro e w2⟨b2,rfl,r,P⟩)
 go_ret;exact⟨b2,rfl,r,P⟩
theorem qet(lo:Nat)(p:Pay)(sv:Ap)(a:NodeAt lo w b p sv)(Q:¬p.op=14)(U:¬p.op=15)(Z:¬p.op=12)(T:¬p.op=13)(H:¬p.op=9)(K:¬p.op=5)(u:¬p.op=20)(X:¬p.op=21)(c:Co)(h:Option Addr)
  (r:∀w1,Xb w w1->ua 144 #[Ai #[I J p.op,Ag h,Ag O,I J p.K,Y (BS p.V),Y (BS p.h),Y ⟨#[]⟩]] w1 (gW B w1 c)) :
  ua 100 #[Ag (G ⟨b,0,O⟩),Ag h,Ag O,Ag O] w (gW B w c):=by
 have c0:=a.c0;have c3:=a.c3;have c4:=a.c4;have c5:=a.c5;have f:=a.within;have S:=qd r;have o:Hid (Xb w w.drew):=qd uj.drew;go_enter func100,ntmps100
 go_wp2
 go_region_held3 (λW=>Xc W b 0 (I J p.op)/\Xc W b 3 (I J p.K)/\Xc W b 4 (Y (BS p.V))/\Xc W b 5 (Y (BS p.h))) (go_keep) (first|(go_at_call 144;refine(S _ o).mono ?_;rintro e D⟨z,rfl,q,C⟩;have d:=qd (qg o C);have P:=(d.cell (p:=⟨b,0,O⟩) f).trans c0;have N:=(d.cell (p:=⟨b,3,O⟩) f).trans c3;have M:=(d.cell (p:=⟨b,4,O⟩) f).trans c4;have L:=(d.cell (p:=⟨b,5,O⟩) f).trans c5;have A:=qd q))
 all_goals(go_wp2;go_ret;exact⟨z,rfl,q9 A,q9 d⟩)
def qas:Prop:=∀(lo B:Nat) (w:Ao) (x:Co) (vx tv:Ap) (ts:List (List UInt8)),B<=w.1.size->LibOk w->CoAt B w.1.size w vx x->TextsAt lo w tv ts->ts≠[]->ts.length<=200->(∀t∈ts,t.length<=200)->(qt x).length<=402 ->
 Calls prog 143 #[vx,tv] w (gW B w (vI x ts))
def qee:Ast->Prop
 | .leaf _=>False
 | .un p x=>p.op=21\/qee x
 | .bin _ x y=>qee x\/qee y
 | .tri _ x y z=>qee x\/qee y\/qee z
theorem vcq(H:qas)(lo:Nat)(p:Pay)(sv:Ap)(D:B<=w.1.size)(A:LibOk w)(h:NodeAt lo w b p sv)(P:p.op=21)(f:CoAt B w.1.size w vx x)(d:p.P≠[])(u:p.P.length<=200)(z:∀t∈p.P,t.length<=200)(q:(qt x).length<=402):
  ua 100 #[Ag (G ⟨b,0,O⟩),vx,Ag O,Ag O] w (gW B w (vI x p.P)):=by
 obtain⟨I,rfl⟩:=f.ptr;have c0:=h.c0;obtain⟨tv,c6,o⟩:=h.c6;have J:Hid (ua 143 #[Ag (G ⟨I,0,O⟩),tv] w (gW B w (vI x p.P))):=qd (H lo B w x _ tv _ D A f o d u z q)
 obtain⟨N,L,M,rfl⟩:∃a n c,tv=C a n c:=by
  rcases o with⟨_,rfl⟩|⟨g,cap,rfl,_⟩;exact⟨_,_,_,rfl⟩;exact⟨_,_,_,rfl⟩
 go_enter func100,ntmps100
 go_wp2_with(go_at_call 143;refine J.mono ?_;rintro e w2⟨b2,rfl,r,K⟩)
 go_ret;exact⟨b2,rfl,r,K⟩
structure Ok(t:Ast):Prop where
 gd:GdA t
 nd:ndA t<=200
 sh:ShA t
 K:qia t
 bnd:qi6 t
 bq:BqA t
theorem qt7{s:tq}(h:vq s=.ok t):Ok t:=by
 obtain⟨a,b,c,d,e,f⟩:=yO h;exact⟨a,b,c,d,e,f⟩
theorem Ok.side{x:Ast}(h:Ok t)(a:x∈qM t):Ok x:=by
 obtain⟨g,n,s,u,b,q⟩:=h
 cases t with
 | leaf p=>simp[qM]at a
 | un p y=>
  simp[qM]at a;subst a;have:ndA (.un p x)=1+p.P.length+ndA x:=rfl;exact⟨g.2,ub,s.2.2.2,u.2,b.2,q.2⟩
 | bin p y z=>
  have:ndA (.bin p y z)=1+ndA y+ndA z:=rfl;simp[qM]at a;rcases a with rfl|rfl;exact⟨g.2.1,ub,s.2.1,u.2.1,b.2.1,q.2.1⟩;exact⟨g.2.2,ub,s.2.2,u.2.2,b.2.2,q.2.2⟩
 | tri p y z v=>
  have:ndA (.tri p y z v)=1+ndA y+ndA z+ndA v:=rfl;simp[qM]at a;rcases a with rfl|rfl|rfl;exact⟨g.2.1,ub,s.2.1,u.2.1,b.2.1,q.2.1⟩;exact⟨g.2.2.1,ub,s.2.2.1,u.2.2.1,b.2.2.1,q.2.2.1⟩;exact⟨g.2.2.2,ub,s.2.2.2,u.2.2.2,b.2.2.2,q.2.2.2⟩
theorem Ok.lm(h:Ok t):Lm (qj t):=h.gd.gd.lm h.nd
def SideIs(B:Nat)(w:Ao)(t:Ast)(j:Nat)(v:Ap):Prop:=match (qM t)[j]? with
 | some x=>CoAt B w.1.size w v (qj x)
 | none=>v=Ag O
theorem qvr(t:Ast)(K:qee t->qas)(a:Ok t)(lo:Nat)(sv:Ap)(A:B<=w.1.size)(u:LibOk w)(r:NodeAt lo w b (jc t) sv){D:Ap}(d:SideIs B w t 0 D)(f:SideIs B w t 1 v1)(o:SideIs B w t 2 v2):
  ua 100 #[Ag (G ⟨b,0,O⟩),D,v1,v2] w (gW B w (qj t)):=by
 cases t with
 | leaf p=>
  have d:D=Ag O:=d;have f:v1=Ag O:=f;have o:v2=Ag O:=o;subst d f o;have N:0<=p.op/\p.op<=4:=a.sh;exact qet lo p sv r ub ub ub ub ub ub ub ub (.leaf (xU p)) O
   (λw1 H=>xx (xU p) (by unfold js xU;simp only[ff,ew];omega) a.K (bs a.bnd.1 ue) (bs a.bq.1 ue) (bs A H.size) (u.below H ui))
 | un p x=>
  have d:CoAt B w.1.size w D (qj x):=d;have f:v1=Ag O:=f;have o:v2=Ag O:=o;subst f o;have J:=a.side (x:=x) (by simp[qM]);have C:=J.lm;have P:1+p.P.length+ndA x<=200:=a.nd;rcases a.sh.1 with e|e|e|e|e|e
  .rw[show qj (.un p x)=vg (qj x) by rw[qj,e];rfl]
   exact vj4 lo p sv A u r e d C
  .rw[show qj (.un p x)=qp 16 (kL 0) (qj x) by rw[qj,e];rfl]
   exact vcn lo p sv A u r e d C
  .rw[show qj (.un p x)=qp 17 (kL 0) (qj x) by rw[qj,e];rfl]
   exact vco lo p sv A u r e d C
  .rw[show qj (.un p x)=vI (qj x) p.P by rw[qj,e];rfl]
   obtain⟨q,rfl,L⟩:=xt a.sh.2.2.2 (a.sh.2.2.1 ub);exact vcq (K (Am e)) lo p sv A u r e d (a.sh.2.1 e) ub a.bq.1.2 (qa0 (xU q) a.bnd.2.1 a.K.2 (by unfold js;simp[xU,L]))
  all_goals
   obtain⟨M,rfl⟩:=d.ptr;rw[show qj (.un p x)=.un (xU p) (qj x) by rw[qj,e];rfl];exact qet lo p sv r ub ub ub ub ub ub ub ub (.un (xU p) (qj x)) (G ⟨M,0,O⟩)
    (λw1 H=>pL (xU p) (by unfold unB;simp[xU,e]) a.K.1 (bs a.bnd.1.1 ue) (bs a.bq.1.1 ue) (bs A H.size) (u.below H ui) (d.below H) (bs C.1 ue))
 | bin p x y=>
  have d:CoAt B w.1.size w D (qj x):=d;have f:CoAt B w.1.size w v1 (qj y):=f;have o:v2=Ag O:=o;subst o;have C:=(a.side (x:=x) (by simp[qM])).lm;have I:=(a.side (x:=y) (by simp[qM])).lm
  by_cases F6:p.op=12
  .rw[show qj (.bin p x y)=qp 10 (qj y) (qj x) by rw[qj,F6];rfl]
   exact vcl lo p sv A u r F6 d f C I
  by_cases T4:p.op=13
  .rw[show qj (.bin p x y)=qp 11 (qj y) (qj x) by rw[qj,T4];rfl]
   exact vcm lo p sv A u r T4 d f C I
  by_cases h9:p.op=9
  .rw[show qj (.bin p x y)=vg (qp 8 (qj x) (qj y)) by rw[qj,h9];rfl]
   exact vj5 lo p sv A u r h9 d f C I
  rw[show qj (.bin p x y)=qp p.op (qj x) (qj y) by rw[qj,ak (by simpa using F6),ak (by simpa using T4),ak (by simpa using h9)]];have:=a.sh.1;exact qvs lo p sv A u r ub ub F6 T4 h9 ub ub ub d f C I
 | tri p x y z=>
  have d:CoAt B w.1.size w D (qj x):=d;have f:CoAt B w.1.size w v1 (qj y):=f;have o:CoAt B w.1.size w v2 (qj z):=o;exact vcp lo p sv A u r a.sh.1 d f o (a.side (x:=x) (by simp[qM])).lm (a.side (x:=y) (by simp[qM])).lm (a.side (x:=z) (by simp[qM])).lm
def vij(lo:Nat)(t:Ast):Prop:=∀(B:Nat) (w:Ao) (v:Ap),B<=w.1.size->LibOk w->IsNode lo w v t->Calls prog 55 #[v] w (gW B w (qj t))
theorem CellsC.lower{p:CP}{l r:Ap}{t:tu}(h:CellsC B' E w b p l r t)(a:B<=B'):CellsC B E w b p l r t:=
 ⟨bs a h.lo,h.hi,h.within,h.c0,h.c1,h.c2,h.c3,h.c4,h.c5,h.c6⟩
theorem CoAt.lower(d:B<=B'):∀{c:Co} {v:Ap},CoAt B' E w v c->CoAt B E w v c:=by
 intro c
 induction c with
 | leaf p=>rintro v⟨b,rfl,h⟩;exact⟨b,rfl,h.lower d⟩
 | un p x ih=>rintro v⟨b,vx,rfl,h,a⟩;exact⟨b,vx,rfl,h.lower d,ih a⟩
 | bin p x y ihx ihy=>rintro v⟨b,vx,vy,rfl,h,a,f⟩;exact⟨b,vx,vy,rfl,h.lower d,ihx a,ihy f⟩
theorem CoAt.set{c:Co}(h:CoAt B w.1.size w v c)(hp:p.block<B)(u:Ap):CoAt B (w.setCell p u).1.size (w.setCell p u) v c:=by
 have a:=size_setCell w p u;exact h.keep (by rw[a];exact ui) (λk d _=>au w p u k ub) (by rw[a];exact ui)
def SideK(B:Nat)(w:Ao)(t:Ast)(k j:Nat)(v:Ap):Prop:=(j<k/\SideIs B w t j v)\/(¬j<k/\v=Ag O)
theorem SideIs.set(h:SideIs B w t j v)(a:Xb w w1)(hp:p.block<B)(u:Ap):SideIs B (w1.setCell p u) t j v:=by
 unfold SideIs at h |-
 cases hx:(qM t)[j]? with
 | none=>rw[hx]at h;exact h
 | some x=>rw[hx]at h;exact(h.below a).set hp u
theorem SideK.old{B:Nat}{w w1:Ao}{t:Ast}{k j:Nat}{v:Ap}(h:SideK B w t k j v)(o:j≠k)(d:Xb w w1){p:Addr}(hp:p.block<B)(u:Ap):SideK B (w1.setCell p u) t (k+1) j v:=by
 rcases h with⟨f,a⟩|⟨f,a⟩;exact Am ⟨ub,a.set d hp u⟩;exact An ⟨ub,a⟩
theorem SideK.new{B:Nat}{w1:Ao}{t x:Ast}{k:Nat}{v:Ap}(a:(qM t)[k]?=G x)(h:CoAt B w1.1.size w1 v (qj x)){p:Addr}(hp:p.block<B)(u:Ap):SideK B (w1.setCell p u) t (k+1) k v:=by
 refine Am ⟨ub, ?_⟩;unfold SideIs;rw[a];exact h.set hp u
theorem SideK.done(h:SideK B w t (qM t).length j v):SideIs B w t j v:=by
 rcases h with⟨_,a⟩|⟨d,a⟩;exact a;unfold SideIs;rw[lz ub];exact a
theorem qc4(lo:Nat)(t:Ast)(hA:qee t->qas)(E9:Ok t)(S4:∀x∈qM t,vij lo x):vij lo t:=by
 intro B w v hB hL h
 suffices hs:ua 55 #[v] w (gW (w.1.size+1) w (qj t)) by
  refine hs.mono ?_;rintro e w'⟨b,rfl,hc,N⟩;exact⟨b,rfl,hc.lower ub,N⟩
 obtain⟨b,sv,rfl,T,fN⟩:=h.parts;obtain⟨a,rfl,nO⟩:=fN.any;have lM:=qke t;have c2:=T.c2;have G4:=T.within;obtain⟨n,Z⟩:=it ((qM t).length);rw[Z]at c2 lM;have HN:=qd Z;have HS:=qd nO;have XH:=qd S4;have HL:=qd hL
 have JN:Hid (∀wr d v1 v2,Xb w wr->w.1.size<wr.1.size->SideIs (w.1.size+1) wr t 0 d->SideIs (w.1.size+1) wr t 1 v1->SideIs (w.1.size+1) wr t 2 v2->ua 100 #[Ag (G ⟨b,0,O⟩),d,v1,v2] wr (gW (w.1.size+1) wr (qj t))):=
  qd (λwr d v1 v2 N hz h0 h1 h2=>qvr t hA E9 lo _ ub (hL.below N ui) (T.T (Kept.of_below N)) h0 h1 h2)
 go_enter func55,ntmps55
 go_wp2
 go_loopw [11] (λi wr=>∃(k:Nat) (d v1 v2:Ap),k<=n/\i=I J k/\Hid (SideK (w.1.size+1) wr t k 0 d/\SideK (w.1.size+1) wr t k 1 v1/\SideK (w.1.size+1) wr t k 2 v2)/\Xc wr w.1.size 0 d/\Xc wr w.1.size 1 v1/\Xc wr w.1.size 2 v2/\(Xf wr w.1.size)/\w.1.size<wr.1.size/\Hid (Xb w wr)) (λi _=>n - (intOf i).toNat)
 exact⟨0,Ag O,Ag O,Ag O,bt _,rfl,qd ⟨An ⟨ub,rfl⟩,An ⟨ub,rfl⟩,An ⟨ub,rfl⟩⟩,uc,uc,uc,λj=>uc,uc,qd (uj.alloc ui _)⟩;obtain⟨k,d,v1,v2,hk,rfl,A,S,Q,P,fz,f,u⟩:=hrel
 by_cases A1:k<n
 .obtain⟨x,hx⟩:∃x,(qM t)[k]?=G x:=⟨_,ag (by rw[q9 HN];exact A1)⟩
  obtain⟨g,bx,rfl,I4,K5,oO,iJ⟩:=q9 HS k x hx;have dx:=(u.cell (p:=⟨g,k,O⟩) K5).trans oO;have Y:=qd (XH x (bg hx) (w.1.size+1) wr _ ub (HL.below u ui) (iJ.T (Kept.of_below u)));have U:=qd hx;rcases(show k=0\/k=1\/k=2 by omega) with rfl|rfl|rfl
  .go_wp2_with(go_at_call 55;refine Y.mono ?_;rintro e w1⟨b1,rfl,k1,q⟩;obtain⟨r,L⟩:=qk q;have M:w.1.size<w1.1.size:=(uu q.size);have H:Xc w1 w.1.size 0 d:=(r _ 0 f).trans S;have D:Xc w1 w.1.size 1 v1:=(r _ 1 f).trans Q;have C:Xc w1 w.1.size 2 v2:=(r _ 2 f).trans P;have K:Xf w1 w.1.size:=(λj=>(L _ j f).trans (fz j));have o:=qd q;have z:=qd k1)
   go_roundw
   case rel=>exact⟨1,_,v1,v2,ub,by go_num,qd ⟨SideK.new U z uc _,A.2.1.old ue o uc _,A.2.2.old ue o uc _⟩,by simp[go_sem,H],by simp[go_sem,D],by simp[go_sem,C],λj=>by simp[go_sem,K],by simpa using M,qd ((qg u o).setCell uc _)⟩
   simp[intOf];omega
  .go_wp2_with(go_at_call 55;refine Y.mono ?_;rintro e w1⟨b1,rfl,k1,q⟩;obtain⟨r,L⟩:=qk q;have M:w.1.size<w1.1.size:=(uu q.size);have H:Xc w1 w.1.size 0 d:=(r _ 0 f).trans S;have D:Xc w1 w.1.size 1 v1:=(r _ 1 f).trans Q;have C:Xc w1 w.1.size 2 v2:=(r _ 2 f).trans P;have K:Xf w1 w.1.size:=(λj=>(L _ j f).trans (fz j));have o:=qd q;have z:=qd k1)
   go_roundw
   case rel=>exact⟨2,d,_,v2,ub,by go_num,qd ⟨A.1.old ue o uc _,SideK.new U z uc _,A.2.2.old ue o uc _⟩,by simp[go_sem,H],by simp[go_sem,D],by simp[go_sem,C],λj=>by simp[go_sem,K],by simpa using M,qd ((qg u o).setCell uc _)⟩
   simp[intOf];omega
  go_wp2_with(go_at_call 55;refine Y.mono ?_;rintro e w1⟨b1,rfl,k1,q⟩;obtain⟨r,L⟩:=qk q;have M:w.1.size<w1.1.size:=(uu q.size);have H:Xc w1 w.1.size 0 d:=(r _ 0 f).trans S;have D:Xc w1 w.1.size 1 v1:=(r _ 1 f).trans Q;have C:Xc w1 w.1.size 2 v2:=(r _ 2 f).trans P;have K:Xf w1 w.1.size:=(λj=>(L _ j f).trans (fz j));have o:=qd q;have z:=qd k1)
  go_roundw
  case rel=>exact⟨3,d,v1,_,ub,by go_num,qd ⟨A.1.old ue o uc _,A.2.1.old ue o uc _,SideK.new U z uc _⟩,by simp[go_sem,H],by simp[go_sem,D],by simp[go_sem,C],λj=>by simp[go_sem,K],by simpa using M,qd ((qg u o).setCell uc _)⟩
  simp[intOf];omega
 have Z0:k=(qM t).length:=uu (q9 HN)
 have X:=qd (Z0 ▸ q9 A);have HJ:=qd (JN wr d v1 v2 u f X.1.done X.2.1.done X.2.2.done)
 go_wp2_with(go_at_call 100;refine HJ.mono ?_;rintro e w1⟨b1,rfl,k1,q⟩;have o:=qd (qg u q);have z:=qd k1)
 go_ret;exact⟨b1,rfl,q9 z,q9 o⟩
theorem qw5(lo:Nat):∀t,(qee t->qas)->Ok t->vij lo t:=by
 intro t
 induction t with
 | leaf p=>intro a d;exact qc4 lo _ a d (λx C=>by simp[qM]at C)
 | un p x ih=>
  intro a d;refine qc4 lo _ a d (λy o=>?_);have D:=o;simp[qM]at o;subst o;exact ih (λh=>a (An h)) (d.side D)
 | bin p x y ihx ihy=>
  intro a d;refine qc4 lo _ a d (λz f=>?_);have A:=f;simp[qM]at f;rcases f with rfl|rfl;exact ihx (λh=>a (Am h)) (d.side A);exact ihy (λh=>a (An h)) (d.side A)
 | tri p x y z ihx ihy ihz=>
  intro a d;refine qc4 lo _ a d (λu q=>?_);have r:=q;simp[qM]at q;rcases q with rfl|rfl|rfl;exact ihx (λh=>a (Am h)) (d.side r);exact ihy (λh=>a (An (Am h))) (d.side r);exact ihz (λh=>a (An (An h))) (d.side r)
def jE(cs:List Co):Nat->List Tm×List Nat
 | 0=>([],[])
 | k+1=>((qC (jE cs k).1 (cs.getD k (.leaf ⟨3,0,[],[]⟩))).1,(jE cs k).2++[(qC (jE cs k).1 (cs.getD k (.leaf ⟨3,0,[],[]⟩))).2])
theorem zW(cs:List Co)(k:Nat):(jE cs k).2.length=k/\∀r∈(jE cs k).2,r<(jE cs k).1.length:=by
 induction k with
 | zero=>exact⟨rfl,λr a=>by simp[jE]at a⟩
 | succ k ih=>
  have hp:=xV (jE cs k).1 (cs.getD k (.leaf ⟨3,0,[],[]⟩));refine⟨by rw[jE,ce,ih.1];rfl,λr a=>?_⟩;rw[jE,cr]at a;rw[jE];rcases a with a|a
  .have:=ih.2 r a
   show r<(qC (jE cs k).1 (cs.getD k (.leaf ⟨3,0,[],[]⟩))).1.length;omega
  simp at a;subst a;exact hp.2.2
def vqw(s:List UInt8)(c:Co):Prop:=∃t,vq (BS s)=.ok t/\qj t=c/\(qee t->qas)/\qed c/\yZ c<=250000000/\s.length<=140737488355328
theorem vc8{q:Nat}{u:List Nat}{h o:Ap}(a:Xb w W)(r:MkAt W mb q ts u tv rv)(f:MkKept mb q tv rv h o W W')(hp:w.1.size<=q):Xb w W':=by
 have A:=r.lo;refine⟨f.os.trans a.os,f.tape.trans a.tape,f.output.trans a.output,bs a.size f.size,λk z=>(f.block k (uu a.size) (λd=>?_)).trans (a.block k z)⟩;rcases d with rfl|rfl|d|d;omega;omega;have:=(r.ats.lt k d).1;omega;have:=(r.ars.lt k d).1;omega
section
attribute [local go_sem ↓] vsk
def vip(w:Ao)(l:List Nat)(e:Ending)(w':Ao):Prop:=∃v,e=Ak v/\IsAt w' w.1.size v l/\Below w.1.size w w'
theorem IsAt.mono{a:Nat}(h:IsAt w a v l)(f:lo<=a):IsAt w lo v l:=by
 refine⟨h.1, ?_⟩;rcases h.2 with d|⟨g,cap,cur,rfl,o,rest⟩;exact Am d;exact An ⟨g,cap,cur,rfl,ub,rest⟩
theorem IsAt.app(h:IsAt W base v l)(u:base<=W.1.size)(x:Nat)(L:l.length<=1000)(ty:TypeId):
  ∃g cap a,(kH #[50,50] ty #[v,C (G ⟨W.1.size,0,O⟩) 1 1]).run prog (W.alloc (Al #[I J x] 3))=.ok (C (G ⟨g,0,O⟩) (l.length+1) cap) a /\
   Hid (IsAt a base (C (G ⟨g,0,O⟩) (l.length+1) cap) (l++[x]))/\Hid (Below base W a):=by
 obtain⟨f,r,z,D,A⟩:=info_parts pX;have d:=World.ownsRow.alloc h (Al #[I J x] 3);obtain⟨g,cap,a,o,H,K,M,_⟩:=run_append_lies (P:=prog) (W.alloc (Al #[I J x] 3)) 50 ty base 3 f _ 1 8 underlying50 r z D A rfl ub v l.length (yp l) d
  ⟨W.1.size,0,O⟩ 1 1 [I J x] rfl (World.news_of_block (cs:=#[I J x]) (t:=3) (fr:=(0,0)) (heap_alloc_new W _)) (by simp[Value.oneCell']) ub (by unfold maxLen;omega) ub ud _ rfl
 refine⟨g,cap,a,o,qd ?_,qd ?_⟩
 .show World.ownsRow _ _ _ _ _ _ _
  rw[ce,du,yp,dq];exact H
 exact Go.RowKit.Below.grown (((Below.refl base W).alloc u _)) K ud (λk q=>(d.lt k q).1)
theorem IsAt.app'(h:IsAt W base v l)(d:base<=W.1.size)(x:Nat)(a:l.length<=1000)(ty:TypeId)(H:Nat)(o:W.1.size=H)(f:W'=W.alloc (Al #[I J x] 3)):
  ∃g cap w5,(kH #[50,50] ty #[v,C (G ⟨H,0,O⟩) 1 1]).run prog W'=.ok (C (G ⟨g,0,O⟩) (l.length+1) cap) w5 /\
   Hid (IsAt w5 base (C (G ⟨g,0,O⟩) (l.length+1) cap) (l++[x]))/\Hid (Below base W w5):=by
 subst o f;exact h.app d x a ty
theorem RunAt.nextB(h:RunAt w wr vb n vs)(a:Below B wr w')(d:vb<B):RunAt w w' vb n vs:=
 ⟨h.vals.below a d,λj=>(a.frozen (p:=⟨vb,j,O⟩) d).trans (h.fz j),h.ge,aq h.lt a.size,h.u.trans (a.mono (uu h.ge))⟩
theorem IsAt.below(h:IsAt w base v l)(a:Below B w w')(d:w.1.size<=B):IsAt w' base v l:=qE h a d
theorem gZ(w:Ao)(o:Obj):Xb w (w.alloc o):=uj.alloc ui o
theorem vf7(ps:List Pr)(ev:Ap)(L o:Nat)(ts:List Tm)(a:List Nat)(w:Ao)(hp:ProgAt w L o ts a)(P:Prg ts a)(C8:EvArg w ev ps)(z:qfq ps)(hs:vh7 ps):
  ua 66 #[Ag (G ⟨L,o,O⟩),ev] w (vip w (vnj ps ts a)):=by
 obtain⟨i0,hi,F5,B8,D4⟩:=info_parts qsu;obtain⟨i1,hj,dL,hy1,hy2⟩:=info_parts pX;obtain⟨plt,⟨tv,tb,c0,lG⟩,rv,rb,c1,OI⟩:=hp;have rQ:=qd C8;obtain⟨ea,en,ec,rfl⟩:=C8.slice;obtain⟨ta,tc,rfl,U⟩:=lG.cells;obtain⟨ra,rc,rfl,X⟩:=OI.cells;have HTC:Hid _:=qd U;have fB:Hid _:=qd X;have HG:=qd P;have K:Hid (∀k,k<=ts.length->∀i,Gv ((xg ps ts k).getD i nV)):=qd λk hk=>qun z hs P.fits k hk
 have eX:=P.terms;have h8:=P.roots;obtain⟨n,M⟩:=uk ts.length;obtain⟨m,N⟩:=uk a.length;have S:Hid (n=ts.length):=qd M;have HM:Hid (m=a.length):=qd N;rw[<-M]at c0 eX;rw[<-N]at c1 h8;obtain⟨R,Z⟩:=it (vnj ps ts a);have HR:Hid (R=qnn (xg ps ts n) a m):=qd (by rw[M,N,<-Z];rfl);rw[Z];clear M N Z;go_enter func66,ntmps66
 go_wp2_with(at_make;refine wpList_make_full _ rfl _ _ 176 rfl w.1.size 57 i0 _ 3 underlying176 hi F5 B8 J J _ _ n rfl rfl rfl rfl (by rw[D4];omega) (by unfold maxLen;omega) ui ?_;intro w1 J5 bI;have R0:=qd (RunAt.made J5 bI);have d0:=bI.cell c0 uc)
 go_loopw [22] (λi wr=>∃k:Nat,k<=n/\i=I J k/\Hid (RunAt w wr w.1.size n (xg ps ts k))) (λi _=>n - (intOf i).toNat)
 exact⟨0,bt _,rfl,R0⟩;obtain⟨k,hk,rfl,u⟩:=hrel
 by_cases A1:k<n
 .obtain⟨t,ht⟩:∃t,ts[k]?=G t:=⟨_,ag (uu (q9 S))⟩
  obtain⟨g,rfl,glt,A,t1,t2,t3,t4,t5⟩:=q9 HTC k t ht;have hB:=(q9 u).u;obtain⟨f,T⟩:=qk hB;replace A:=(f g (k * 6) glt).trans A;replace t1:=(f g (k * 6+1) glt).trans t1;replace t2:=(f g (k * 6+2) glt).trans t2;replace t3:=(f g (k * 6+3) glt).trans t3;replace t4:=(f g (k * 6+4) glt).trans t4;replace t5:=(f g (k * 6+5) glt).trans t5;have q:Hid (xg ps ts (k+1)=xg ps ts k++[ofT ps (xg ps ts k) t]):=qd (by rw[xg,bi,ht];rfl);have H:Hid ((xg ps ts k).length=k):=qd (j7 _ _ _);have Y6:=(q9 u).lt;have RQ:g<wr.1.size:=uu hB.size
  have Q:Hid (∀W,EvArg W (C ea en ec) ps->ValsAt W w.1.size n (xg ps ts k)->w.1.size<W.1.size->kU W ps (C ea en ec) (C (G ⟨w.1.size,0,O⟩) n n) (xg ps ts k) t):=qd λW h1 h2 h3=>vn4 h1 h2 h3 (K k (uu (q9 S))) (HG.fits k t ht) ub
  generalize xg ps ts k=vs at *;obtain⟨x,D⟩:=it (ofT ps vs t);unfold kU at Q;rw[D]at Q q;simp only[tmV]at Q;clear f T hB ht D
  go_wp2_with(go_at_call 108;refine be (Q _ (rQ.below (qg u.u (gZ wr _))) (u.vals.below (gZ wr _) Y6) ud) λw2 A3=>?_;have d:=qd (u.next (qg (gZ wr _) A3));have fz2:=(q9 d).fz;obtain⟨v0,v1,v2⟩:=(q9 d).vals k A1;simp only[vV])
  case roundEnd=>exact⟨⟨k+1,ub,rfl,qd (by rw[q9 q];exact d.store H A1 x)⟩,by simp[intOf];omega⟩
 have:k=n:=ub;subst this;have d2:Xc wr L (o+1) (C ra m rc):=(u.u.cell (p:=⟨L,o+1,O⟩) plt).trans c1;obtain⟨hVG,H⟩:Hid (∀i,Gv ((xg ps ts k).getD i nV))/\Hid ((xg ps ts k).length=k):=⟨qd (K k (uu (q9 S))),qd (j7 _ _ _)⟩;generalize xg ps ts k=vs at *
 go_wp2
 go_loopw [8,40] (λv i wr=>∃j:Nat,j<=m/\i=I J j/\Hid (RunAt w wr w.1.size k vs)/\Hid (IsAt wr (w.1.size+1) v (qnn vs a j))) (λ_ i _=>m - (intOf i).toNat)
 exact⟨0,bt _,rfl,u,qd (IsAt.nil _ _)⟩;obtain⟨j,OQ,rfl,d,HI⟩:=hrel
 by_cases J9:j<m
 .obtain⟨r,z⟩:∃r,a[j]?=G r:=⟨_,ag (uu (q9 HM))⟩
  obtain⟨g,rfl,glt,A⟩:=q9 fB j r z;have OJ:r<k:=by have h1:=(q9 HG).below r (bg z);have h2:=q9 S;omega
  have q:Hid (qnn vs a (j+1)=qnn vs a j++(if vs.getD r nV=bV true then[j] else[])):=qd (by rw[qnn,bi (l:=a),z];rfl);have hML:Hid ((qnn vs a j).length<=j):=qd (qd9 _ _ _);obtain⟨f,T⟩:=qk d.u;replace A:=(f g j glt).trans A;obtain⟨v0,v1,v2⟩:=(q9 d).vals r OJ;have hzr2:=(q9 d).lt;have RQ:g<wr.1.size:=uu ((q9 d).u.size)
  have hj0:=um j;have OR:=uo j m;have eM:=um r;have C7:=uo r k;obtain⟨x,D⟩:=it (vs.getD r nV);rw[D]at v0 v1 v2 q;have ex:=λw=>qmz x (bV true) w
  simp only[vV]at ex;clear f T z D
  by_cases hb:x=bV true
  .have hd:decide (x=bV true)=true:=di hb
   simp only[hd]at ex;rw[bo hb]at q;clear hd hb;have aI:Xb wr (wr.alloc (Al #[I J (bV true).A,I J (bV true).K,Y (BS (bV true).V)] 57)).drew:=(gZ wr _).drew;obtain⟨g5,I9,w5,O3,HI5,T5⟩:=IsAt.app' (W':=((wr.alloc (Al #[I J (bV true).A,I J (bV true).K,Y (BS (bV true).V)] 57)).alloc (Al #[I J j] 3)).drew) (HI.below aI ui) ud j (uu (q9 hML)) 50 (wr.1.size+1) uc rfl;have HL5:=qd ((d.next aI).nextB T5 (dt _));clear aI T5
   go_wp2
   go_region_with(go_at_call 91;refine be (qrl _ _) ?_;rintro w' rfl;simp only[vV])
   all_goals go_wp2
   all_goals exact⟨⟨j+1,ub,rfl,HL5,qd (by rw[q9 q];exact q9 HI5)⟩,by simp[intOf];omega⟩
  have hd:decide (x=bV true)=false:=db hb;simp only[hd]at ex;rw[ak hb]at q;clear hd hb
  go_wp2
  go_region_with(go_at_call 91;refine be (qrl _ _) ?_;rintro w' rfl;simp only[vV])
  all_goals go_wp2
  all_goals exact⟨⟨j+1,ub,rfl,qd (d.next (by repeat (first|exact uj|apply Below.drew|apply qcj))),qd (by rw[q9 q,fw];exact IsAt.below HI (by repeat (first|exact uj|apply Below.drew|apply qcj)) ui)⟩,by simp[intOf];omega⟩
 have:j=m:=ub;subst this;have HI':=qd (IsAt.mono HI (Nat.le_succ _));have HB':=qd d.u
 go_wp2
 go_ret;exact⟨_,rfl,by rw[q9 HR];exact q9 HI',q9 HB'⟩
theorem SubsAt.form{l:List Sb}(h:SubsAt w lo v l):∃a c,v=C a l.length c:=by
 obtain⟨a,c,hv,_⟩:=h;exact⟨a,c,hv⟩
theorem pU(bb:Nat)(l:List Sb)(id:Int)(v:Ap)(w:Ao)(z:Xc w bb 1 v)(h:SubsAt w w.1.size v l)(q:xD l)(r:l.length<=8):
  ut 71 #[Ag (G ⟨bb,0,O⟩),I J id] w (Aj #[I J (vl l id),Ah (l.any λs=>s.id==id)]):=by
 have BS:=qd (qme l id v w h q r);obtain⟨a,c,rfl⟩:=h.form;obtain⟨F,f⟩:∃F,(l.any λs=>s.id==id)=F:=⟨_,rfl⟩;obtain⟨P,d⟩:=it (vl l id);rw[f,d]at BS |-;clear f d h;go_enter func71,ntmps71
 go_wp2_with(go_at_call 111;refine be BS λw1 o=>?_;have u:=qd o;clear o)
 go_ret2
 exact⟨rfl,q9 u⟩
theorem vkn(w:Ao):ua 11 #[] w λe w'=>e=Ak (Ag (G ⟨w.1.size,0,O⟩))/\w'=w.alloc (Al #[I J 0,C O 0 0,C O 0 0,C O 0 0] 54):=by
 go_enter func11,ntmps11
 go_wp2
 go_ret;exact⟨rfl,rfl⟩
theorem qxz(bb n:Nat)(a:Option Addr)(c:Nat)(w:Ao)(h:Xc w bb 2 (C a n c)):ua 36 #[Ag (G ⟨bb,0,O⟩)] w λe w'=>e=Ak (I J n)/\w'=w:=by
 have T:=qd (qkl bb 2 n a c w h);go_enter func36,ntmps36
 go_wp2_with(go_at_call 59;refine be T ?_;rintro w1 rfl)
 go_ret;exact⟨rfl,rfl⟩
end
theorem CoAt.low(o:B'<=B):∀{c:Co} {v:Ap},CoAt B E w v c->CoAt B' E w v c:=by
 have d:∀{b:Nat} {p:CP} {l r:Ap} {t:tu},CellsC B E w b p l r t->CellsC B' E w b p l r t:=λh=>⟨bs o h.lo,h.hi,h.within,h.c0,h.c1,h.c2,h.c3,h.c4,h.c5,h.c6⟩
 intro c
 induction c with
 | leaf p=>rintro v⟨b,rfl,h⟩;exact⟨b,rfl,d h⟩
 | un p x ih=>rintro v⟨b,vx,rfl,h,a⟩;exact⟨b,vx,rfl,d h,ih a⟩
 | bin p x y ihx ihy=>rintro v⟨b,vx,vy,rfl,h,a,f⟩;exact⟨b,vx,vy,rfl,d h,ihx a,ihy f⟩
theorem vt{base':Nat}(h:w.ownsRow base e size v n xs)(d:base'<=base):w.ownsRow base' e size v n xs:=by
 refine⟨h.1, ?_⟩;rcases h.2 with a|⟨g,cap,cur,rfl,f,rest⟩;exact Am a;exact An ⟨g,cap,cur,rfl,ub,rest⟩
structure RowsAt(w:Ao)(base:Nat)(tv rv:Ap)(ts:List Tm)(rs:List Nat):Prop where
 ats:TsAt w base tv ts
 ars:IsAt w base rv rs
 ne:∀g,tv.ownBlock=G g->rv.ownBlock≠G g
def qep(w:Ao)(cs:List Co)(n:Nat)(e:Ending)(w':Ao):Prop:=∃tv rv,e=Ak (Ai #[tv,rv])/\RowsAt w' w.1.size tv rv (jE cs n).1 (jE cs n).2/\Below w.1.size w w'
theorem IsAt.form(h:IsAt w base v l):∃a c,v=C a l.length c:=by
 rcases h.2 with⟨rfl,d⟩|⟨g,cap,cur,rfl,_⟩;exact⟨O,0,by rw[d]⟩;exact⟨_,_,rfl⟩
def vs7(w:Ao)(v:Ap)(c:Co):Prop:=CoAt 0 w.1.size w v c/\qed c/\yZ c<=250000000
theorem qbq(l:List Sb)(cs:List Co)(A7:cs.length=l.length)(h8:l.length<=8)(v:Ap)(w:Ao)(hv:SubsAt w w.1.size v l)(I6:∀(k:Nat) (s:Sb) (c:Co),l[k]?=G s->cs[k]?=G c->vs7 w (Ag s.core) c):
  ua 74 #[v] w (qep w cs l.length):=by
 have AH:=qd I6;have NH:=qd A7;obtain⟨a,cap,rfl,hx⟩:=hv;have HX:=qd hx;obtain⟨d,H⟩:=uk (w.alloc (Al #[C O 0 0,C O 0 0] 52));have B8:d.1.size=w.1.size+1:=by rw[H];simp
 have D6:Hid (Xb w d):=qd (by rw[H];exact(uj).alloc ui _);have X:Hid (Xc d w.1.size 0 (C O 0 0)/\Xc d w.1.size 1 (C O 0 0)/\Xf d w.1.size):=qd (by rw[H];simp[go_sem]);have NM:=qd (qjd d)
 have HK:Hid (∀k,k<=l.length->(jE cs k).1.length<=k * 250000000/\(jE cs k).2.length=k):=qd (by
  intro k
  induction k with
  | zero=>intro _;exact⟨by simp[jE],rfl⟩
  | succ k ih=>
   intro Z;obtain⟨i1,i2⟩:=ih ub;obtain⟨s,K⟩:∃s,l[k]?=G s:=⟨_,ag ub⟩;obtain⟨c,A⟩:∃c,cs[k]?=G c:=⟨_,ag ub⟩;have hz:=(I6 k s c K A).2.2;refine⟨?_,(zW cs (k+1)).1⟩;have:=(xV (jE cs k).1 c).2.1;rw[jE,bi,A];show(qC (jE cs k).1 c).1.length<=_
   omega)
 have HQ:Hid (∀e w',qep w cs l.length e w'->qep w cs l.length e w'):=qd λ_ _ h=>h
 obtain⟨Q,hQ⟩:=it (qep w cs l.length);rw[hQ]at HQ |-;have M5:Hid (∀e w',qep w cs l.length e w'->Q e w'):=qd (by rw[<-hQ];exact λ_ _ h=>h);obtain⟨n,Y⟩:=it l.length;rw[Y]at NH HK M5 h8 |-;have HN:=qd Y;go_enter func74,ntmps74
 go_wp2_with(go_at_call 57;rw[<-H];refine be NM ?_;rintro w1⟨mR,A0⟩;have M1:=qd mR;have B1:=qd A0;rw[B8]at M1 |-)
 go_loopw [9] (λi wr=>∃(k:Nat) (tv rv:Ap),k<=n/\i=I J k/\Hid (MkAt wr (w.1.size+1+1) (w.1.size+1) (jE cs k).1 (jE cs k).2 tv rv)/\Hid (Xb d wr)) (λi _=>n - (intOf i).toNat)
 exact⟨0,_,_,bt _,rfl,M1,B1⟩;obtain⟨k,tv,rv,Z,rfl,f,D⟩:=hrel;have u:Hid (Xb w wr):=qd (D6.trans (D.mono ub))
 by_cases A1:k<n
 .obtain⟨s,K⟩:∃s,l[k]?=G s:=⟨_,ag (uu (q9 HN))⟩
  obtain⟨c,A⟩:∃c,cs[k]?=G c:=⟨_,ag (uu (q9 NH))⟩;obtain⟨g,rfl,glt,s0,s1,s2⟩:=q9 HX k s K;obtain⟨wL,R9,I2⟩:=q9 AH k s c K A;rw[<-(q9 u).cell (p:=⟨g,k * 3,O⟩) glt]at s0;rw[<-(q9 u).cell (p:=⟨g,k * 3+1,O⟩) glt]at s1;rw[<-(q9 u).cell (p:=⟨g,k * 3+2,O⟩) glt]at s2;have hS:Hid (jE cs (k+1)=((qC (jE cs k).1 c).1,(jE cs k).2++[(qC (jE cs k).1 c).2])):=qd (by rw[jE,bi,A];rfl);obtain⟨aB,Y7⟩:=q9 HK k Z
  have AD:Hid (∀(U:Ao),Xb wr U->ua 58 #[Ag (G ⟨w.1.size+1+1,0,O⟩),Ag s.core] U λe w'=>∃o q,e=Ak (Aj #[])/\MkAt w' (w.1.size+1+1) (w.1.size+1) (jE cs (k+1)).1 (jE cs (k+1)).2 o q/\Xb d w'):=qd (by
   intro U P;have L:=(q9 f).below P;have T:=qg u P;have N:CoAt 0 w.1.size U (Ag s.core) c:=CoAt.keep ui (λi _ S=>T.block i S) T.size wL;refine ve8 c R9 0 w.1.size _ _ U _ _ _ tv rv L N T.size (λj r=>?_) ub ub _ ?_;rcases r with rfl|rfl|r|r
   right;omega
   right;omega
   right;have:=(L.ats.lt j r).1;omega
   right;have:=(L.ars.lt j r).1;omega
   intro w' o q h1 S;rw[q9 hS]
   exact⟨o,q,rfl,h1,vc8 (qg D P) L S ub⟩)
  obtain⟨R,hR⟩:=it (jE cs (k+1));rw[hR]at AD;have HR:=qd hR;have hU1:Xb wr (wr.alloc (Al #[I J s.id,Ag s.core,C s.row s.len s.cap] 130)):=uj.alloc ui _
  go_wp2_with(go_at_call 58;refine(AD _ (by with_reducible assumption)).mono ?_;rintro e w4⟨tv4,rv4,rfl,wD,K8⟩;have M4:=qd wD;have B4:=qd K8)
  exact⟨⟨k+1,_,_,ub,rfl,by rw[q9 HR];exact M4,B4⟩,by simp[intOf];omega⟩
 have:k=n:=ub;subst this;obtain⟨ta,tc,rfl⟩:=(q9 f).ats.form;obtain⟨ra,rc,rfl⟩:=(q9 f).ars.form;have m0:=(q9 f).c0;have m1:=(q9 f).c1;obtain⟨d0,d1,df⟩:=q9 X;have d0:=((q9 D).cell (p:=⟨w.1.size,0,O⟩) (by show w.1.size<_;omega)).trans d0;have d1:=((q9 D).cell (p:=⟨w.1.size,1,O⟩) (by show w.1.size<_;omega)).trans d1;have df':Xf wr w.1.size:=λj=>(D.frozen (p:=⟨w.1.size,j,O⟩) (by show w.1.size<_;omega)).trans (df j)
 have VY:Hid (∀x y,qep w cs k (Ak (Ai #[C ta (jE cs k).1.length tc,C ra (jE cs k).2.length rc])) ((wr.setCell ⟨w.1.size,0,O⟩ x).setCell ⟨w.1.size,1,O⟩ y)):=qd (by
  intro x y;have A3:Below w.1.size wr ((wr.setCell ⟨w.1.size,0,O⟩ x).setCell ⟨w.1.size,1,O⟩ y):=(uj.setCell (by exact ui) _).setCell (by exact ui) _
  have z:∀j,w.1.size+1+1+1<=j->((wr.setCell ⟨w.1.size,0,O⟩ x).setCell ⟨w.1.size,1,O⟩ y).1[j]?=wr.1[j]?:=λj r=>
   (au _ ⟨w.1.size,1,O⟩ y j (by show j≠w.1.size;omega)).trans (au _ ⟨w.1.size,0,O⟩ x j (by show j≠w.1.size;omega))
  refine⟨_,_,rfl,⟨?_, ?_,f.ne⟩,u.trans A3⟩;have h:=(q9 f).ats;exact vt (qm h λg M=>z g (h.lt g M).1) ub;have h:=(q9 f).ars
  exact vt (qm h λg M=>z g (h.lt g M).1) ub)
 go_wp2
 refine bj (by simp[go_sem,d0,d1]<;>rfl) rfl ?_;exact q9 M5 _ _ (VY _ _)
structure Sx where
 id:Int
 cp:Option Addr
 lo:Nat
 hi:Nat
 co:Co
 row:Option Addr
 cap:Nat
 ms:List Mg
def Sx.sb(x:Sx):Sb:=⟨x.id,x.cp,x.row,x.ms.length,x.cap⟩
def Sx.hv(x:Sx):Ap:=C x.row x.ms.length x.cap
def vqp(bb:Nat)(sv tv rv:Ap)(l:List Sx)(k:Nat):Prop:=k=bb\/sv.ownBlock=G k\/tv.ownBlock=G k\/rv.ownBlock=G k\/∃x∈l,x.hv.ownBlock=G k
def qcf(bb:Nat)(sv tv rv:Ap)(l:List Sx)(k:Nat):Prop:=vqp bb sv tv rv l k\/∃x∈l,x.lo<=k/\k<x.hi
def yk(l:List Sx):List Co:=l.map Sx.co
def tsX(l:List Sx):List Tm:=(jE (yk l) l.length).1
def rsX(l:List Sx):List Nat:=(jE (yk l) l.length).2
structure BrAt(w:Ao)(bb:Nat)(last:Int)(sv tv rv:Ap)(l:List Sx):Prop where
 blk:w.1[bb]?=G (Al #[I J last,sv,tv,rv] 54 (0,0))
 row:SbRow w 0 sv (l.map Sx.sb)
 rows:RowsAt w 0 tv rv (tsX l) (rsX l)
 hps:∀x∈l,w.ownsRow 0 142 2 x.hv x.ms.length (qU x.ms)
 dis:l.Pairwise λx y=>∀k,x.hv.ownBlock=G k->y.hv.ownBlock≠G k
 cos:∀x∈l,CoAt x.lo x.hi w (Ag x.cp) x.co/\x.hi<=w.1.size/\qed x.co/\yZ x.co<=250000000
 out:∀x∈l,∀k,vqp bb sv tv rv l k->k<x.lo\/x.hi<=k
 up:xD (l.map Sx.sb)
 n8:l.length<=8
 m6:∀x∈l,x.ms.length<=6
 prg:Prg (tsX l) (rsX l)
theorem BrAt.lt{l:List Sx}(h:BrAt w bb last sv tv rv l):bb<w.1.size:=(cf.1 h.blk).1
theorem BrAt.cells{l:List Sx}(h:BrAt w bb last sv tv rv l):Xc w bb 0 (I J last)/\Xc w bb 1 sv/\Xc w bb 2 tv/\Xc w bb 3 rv/\Xf w bb:=by
 have a:=h.blk;simp[World.cell?,World.frozen?,a]
theorem BrAt.foot_lt{l:List Sx}(h:BrAt w bb last sv tv rv l)(a:qcf bb sv tv rv l k):k<w.1.size:=by
 rcases a with(rfl|a|a|a|⟨x,hx,a⟩)|⟨x,hx,_,a⟩;exact h.lt;exact(h.row.lt k a).2;exact(h.rows.ats.lt k a).2;exact(h.rows.ars.lt k a).2;exact((h.hps x hx).lt k a).2;have:=(h.cos x hx).2.1;omega
theorem BrAt.same{l:List Sx}(h:BrAt w bb last sv tv rv l)(o:w.1.size<=w'.1.size)(d:∀k,qcf bb sv tv rv l k->w'.1[k]?=w.1[k]?):BrAt w' bb last sv tv rv l:=by
 refine⟨(d bb (Am (Am rfl))).trans h.blk,qm h.row λg a=>d g (Am (An (Am a))),⟨qm h.rows.ats λg a=>d g (Am (An (An (Am a)))),qm h.rows.ars λg a=>d g (Am (An (An (An (Am a))))),h.rows.ne⟩,λx f=>qm (h.hps x f) λg a=>d g (Am (An (An (An (An ⟨x,f,a⟩))))),h.dis,λx f=>?_,h.out,h.up,h.n8,h.m6,h.prg⟩;obtain⟨z,u,r⟩:=h.cos x f;exact⟨CoAt.keep ui (λk k1 q=>d k (An ⟨x,f,k1,q⟩)) o z,bs u o,r⟩
theorem BrAt.below{l:List Sx}(h:BrAt w bb last sv tv rv l)(a:Xb w w'):BrAt w' bb last sv tv rv l:=
 h.same a.size λk d=>a.block k (h.foot_lt d)
theorem SbRow.subs{l:List Sb}(h:SbRow w base v l):SubsAt w w.1.size v l:=by
 rcases vB h with⟨rfl,z⟩|⟨g,c,rfl⟩;have e:l=[]:=List.length_eq_zero_iff.1 z;subst e;exact⟨O,0,rfl,λi s a=>by simp at a⟩;obtain⟨_,_,_,cur,C,_⟩:=vG h;refine⟨_,c,rfl,λi s a=>⟨g,rfl,(cf.1 C).1, ?_⟩⟩;have A:=(aj.1 a).1
 have d:∀j,j<3->(qr l)[i * 3+j]?=(qW s)[j]?:=by
  intro j D
  have r:l=l.take i++(s::l.drop (i+1)):=by
   have e:=cj A;rw[(aj.1 a).2]at e;rw[<-e,fh]
  have q:qr l=qr (l.take i)++(qW s++qr (l.drop (i+1))):=by
   conv=>lhs;rw[r]
   rw[vM];rfl
  rw[q,da (by rw[vD,cw];omega),vD,cw,cg (by show _<3;omega)]
  congr 1
  omega
 have f:∀j u,(qr l)[j]?=G u->Xc w g j u:=λj u o=>by
  have:=World.ownsRow.cells h (g:=g) rfl j u o;rwa [vN,ee]at this
 exact⟨f _ _ ((d 0 ub).trans rfl),f _ _ ((d 1 ub).trans rfl),f _ _ ((d 2 ub).trans rfl)⟩
theorem zC{b2 o q:Nat}{f:TypeId}{h:List Ap}(z:w.ownsRow b1 e1 s1 v1 n1 x1)(u:w.ownsRow b2 f o v2 q h)(a:e1≠f)(r:v1.ownBlock=G k):v2.ownBlock≠G k:=by
 intro C;obtain⟨J,H,A⟩:=Go.Lib.ownsRow_kind z k r;obtain⟨I,D,d⟩:=Go.Lib.ownsRow_kind u k C;rw[A]at d;simp at d;exact a d.2.1
theorem vW(h:w.ownsRow b1 e1 s1 v1 n1 x1){cs:Array Ap}{t:TypeId}{fr:Nat×Nat}(d:w.1[k]?=G (Al cs t fr))(a:e1≠t):v1.ownBlock≠G k:=by
 intro f;obtain⟨r,q,o⟩:=Go.Lib.ownsRow_kind h k f;rw[o]at d;simp at d;exact a d.2.1
theorem BrAt.heap{l:List Sx}(h:BrAt w bb last (C (G ⟨g,0,O⟩) n c) tv rv l){x:Sx}(f:l[i]?=G x):HqAt w g (i * 3+2) x.hv 0 x.ms:=by
 have d:=h.row;have q:=bg f
 have u:n=l.length:=by
  rcases vB d with⟨hv,_⟩|⟨o,H,hv⟩;simp at hv;simp at hv;exact hv.2.1
 have I:w.ownsRow 0 130 3 (C (G ⟨g,0,O⟩) (l.map Sx.sb).length c) (l.map Sx.sb).length (qr (l.map Sx.sb)):=by
  have:=d;rw[u]at this;simpa [SbRow]using this
 obtain⟨_,_,_,cur,J,_⟩:=vG I;obtain⟨a,H,hv,r⟩:=SbRow.subs d;obtain⟨o,A,K,_,_,D⟩:=r i x.sb (by rw[cm,f];rfl)
 have e:g=o:=by
  rw[A]at hv;simp at hv;exact hv.1
 subst e;refine⟨D,by simp[World.frozen?,J],K,h.hps x q, ?_⟩;exact λz=>zC (h.hps x q) d ue z rfl
theorem qkb{l:List Sb}{t:Sb}(d:l[i]?=G s)(q:t.id=s.id)(o:t.core=s.core):qr (l.set i t)=(qr l).set (i * 3+2) (C t.row t.len t.cap):=by
 induction l generalizing i with
 | nil=>simp at d
 | cons a r ih=>
  cases i with
  | zero=>
   simp at d;subst d;simp[qr,qW,q,o]
  | succ i=>
   have:=ih (i:=i) (by simpa using d);have e1:∀f:List Sb,qr (a::f)=qW a++qr f:=λf=>dp
   rw[List.set_cons_succ,e1,e1,this];have e:(i+1) * 3+2=(qW a).length+(i * 3+2):=by simp[qW];omega
   rw[e,nh _ _ ub]
   congr 2
   omega
theorem ga{cap:Nat}{u:Ap}(h:w.ownsRow base e size (C (G ⟨g,0,O⟩) n cap) n xs)(d:w'.1[g]?=(w.setCell ⟨g,j,O⟩ u).1[g]?)(_hj:j<n * size):w'.ownsRow base e size (C (G ⟨g,0,O⟩) n cap) n (xs.set j u):=by
 obtain⟨z,r,q,cur,a,A,o⟩:=vG h
 have f:(w.setCell ⟨g,j,O⟩ u).1[g]?=G (Al (cur.setIfInBounds j u) e (0,0)):=by
  rw[setCell_eq_setRow w g j cur e (0,0) u a];exact setRow_heap w g cur _ e (0,0) a
 refine⟨by rw[eu,h.1],An ⟨g,cap,cur.setIfInBounds j u,rfl,z,d.trans f,r,q,by simp[A], ?_⟩⟩;rw[Array.toList_setIfInBounds,List.take_set,o]
theorem BrAt.turned{v':Ap}{l:List Sx}(h:BrAt w bb last (C (G ⟨g,0,O⟩) n c) tv rv l){x:Sx}(I:l[i]?=G x){ms':List Mg}(hq:HqAt w' g (i * 3+2) v' 0 ms')(M:PqKept g (i * 3+2) x.hv v' w w')(h6:ms'.length<=6):
  ∃d:Sx,d.hv=v'/\d.ms=ms'/\d.id=x.id/\d.co=x.co/\d.lo=x.lo/\d.hi=x.hi/\BrAt w' bb last (C (G ⟨g,0,O⟩) n c) tv rv (l.set i d):=by
 obtain⟨a,cp,rfl⟩:=hq.form;have N:=bg I;have X:=(aj.1 I).1;obtain⟨d,o⟩:=uk ({ x with row:=a,cap:=cp,ms:=ms' }:Sx);have Y:d.hv=C a ms'.length cp:=by rw[o];rfl
 have wM:d.co=x.co:=by rw[o]
 refine⟨d,Y,by rw[o],by rw[o],wM,by rw[o],by rw[o], ?_⟩;have P:=h.row
 have oQ:yk (l.set i d)=yk l:=by
  unfold yk;rw[ny,wM];apply ix;intro j;rw[fq]
  split
  rename_i e;subst e;simp[X,(aj.1 I).2];rfl
 have lG:tsX (l.set i d)=tsX l:=by unfold tsX;rw[oQ,eu]
 have OI:rsX (l.set i d)=rsX l:=by unfold rsX;rw[oQ,eu]
 have stay:∀k,k<w.1.size->k≠g->x.hv.ownBlock≠G k->w'.1[k]?=w.1[k]?:=M.block;have nx:∀{b s m:Nat} {e:TypeId} {v:Ap} {xs:List Ap},w.ownsRow b e s v m xs->e≠142->∀k,v.ownBlock=G k->x.hv.ownBlock≠G k:=λJ A k f=>zC J (h.hps x N) A f
 have S:∀{b s m:Nat} {e:TypeId} {v:Ap} {xs:List Ap},w.ownsRow b e s v m xs->e≠130->∀k,v.ownBlock=G k->k≠g:=λJ A k f e=>by subst e;exact(zC J P A f) rfl
 have aI:w'.1[bb]?=w.1[bb]?:=stay bb h.lt (λe=>by subst e;exact(vW P h.blk ue) rfl) (vW (h.hps x N) h.blk ue);have newown:∀k,d.hv.ownBlock=G k->x.hv.ownBlock=G k\/w.1.size<=k:=λk f=>M.row k (by rw[<-Y];exact f)
 have Q:∀y∈l.set i d,y=d\/∃j,j≠i/\l[j]?=G y:=by
  intro y r;obtain⟨j,u⟩:=dd r;rw[fq]at u
  split at u
  left
  simp at u;exact u.symm;rename_i A;exact An ⟨j,λe=>A e.symm,u⟩
 have disj:∀j y,j≠i->l[j]?=G y->∀k,y.hv.ownBlock=G k->x.hv.ownBlock≠G k:=by
  intro j y KJ r k IU mL;have hp:=ed.1 h.dis;obtain⟨jl,je⟩:=aj.1 r;obtain⟨_,ie⟩:=aj.1 I;rcases Nat.lt_or_gt_of_ne KJ with A1|CI;have:=hp j i jl X A1 k (by rw[je];exact IU);rw[ie]at this;exact this mL;have:=hp i j X jl CI k (by rw[ie];exact mL);rw[je]at this;exact this IU
 have ownold:∀k,vqp bb (C (G ⟨g,0,O⟩) n c) tv rv (l.set i d) k->vqp bb (C (G ⟨g,0,O⟩) n c) tv rv l k\/w.1.size<=k:=by
  intro k f;rcases f with e|e|e|e|⟨y,r,e⟩;exact Am (Am e);exact Am (An (Am e));exact Am (An (An (Am e)));exact Am (An (An (An (Am e))));rcases Q y r with rfl|⟨j,_,u⟩;rcases newown k e with D|D;exact Am (An (An (An (An ⟨x,N,D⟩))));exact An D;exact Am (An (An (An (An ⟨y,bg u,e⟩))))
 have JM:∀y∈l.set i d,∃z∈l,y.lo=z.lo/\y.hi=z.hi/\y.cp=z.cp/\y.co=z.co:=by
  intro y r;rcases Q y r with rfl|⟨j,_,u⟩;exact⟨x,N,by rw[o],by rw[o],by rw[o],by rw[o]⟩;exact⟨y,bg u,rfl,rfl,rfl,rfl⟩
 have hn:n=l.length:=by
  rcases vB P with⟨hv,_⟩|⟨g',c',hv⟩;simp at hv;simp at hv;exact hv.2.1
 refine⟨aI.trans h.blk, ?_,⟨?_, ?_,h.rows.ne⟩, ?_, ?_, ?_, ?_, ?_,by rw[eu];exact h.n8, ?_,by rw[lG,OI];exact h.prg⟩
 .have T7:w.ownsRow 0 130 3 (C (G ⟨g,0,O⟩) n c) n (qr (l.map Sx.sb)):=by
   have:=P;simp only[SbRow,cd]at this;rwa [<-hn]at this
  have:=ga T7 M.hdr ub;show w'.ownsRow 0 _ 3 _ ((l.set i d).map Sx.sb).length (qr ((l.set i d).map Sx.sb));rw[cd,eu,<-hn,ny,qkb (s:=x.sb) (by rw[cm,I];rfl) (by rw[o];rfl) (by rw[o];rfl)];rw[o];exact this
 rw[lG];exact qm h.rows.ats λk f=>stay k (h.rows.ats.lt k f).2 (S h.rows.ats ue k f) (nx h.rows.ats ue k f)
 rw[OI];exact qm h.rows.ars λk f=>stay k (h.rows.ars.lt k f).2 (S h.rows.ars ue k f) (nx h.rows.ars ue k f)
 intro y r;rcases Q y r with rfl|⟨j,KJ,u⟩;have:=hq.own;rw[Y];have e:y.ms=ms':=by rw[o]
 rw[e];exact this;have U:=h.hps y (bg u);exact qm U λk f=>stay k (U.lt k f).2 (S U ue k f) (disj j y KJ u k f)
 rw[ed];intro p q TH dR Z k K;have hp:p<l.length:=by rwa [eu]at TH
 have H:q<l.length:=by rwa [eu]at dR
 have hd:=ed.1 h.dis
 by_cases wB:p=i
 subst wB;rw[List.getElem_set_self]at K;rw[List.getElem_set_ne ub];intro e;rcases newown k K with D|D;exact disj q _ ub (ag H) k e D;have:=((h.hps _ (fm H)).lt k e).2;omega;rw[List.getElem_set_ne (λe=>wB e.symm)]at K
 by_cases SY:q=i
 subst SY;rw[List.getElem_set_self];intro e;rcases newown k e with D|D;exact disj p _ wB (ag hp) k K D;have:=((h.hps _ (fm hp)).lt k K).2;omega;rw[List.getElem_set_ne (λe=>SY e.symm)];exact hd p q hp H Z k K;intro y r;obtain⟨z,L,e1,T,e3,e4⟩:=JM y r;obtain⟨h1,h2,h3⟩:=h.cos z L;rw[e1,T,e3,e4];refine⟨CoAt.keep ui (λk k1 k2=>stay k ub ?_ ?_) M.size h1,bs h2 M.size,h3⟩;intro e;have:=h.out z L k (An (Am (by rw[e];rfl)));omega;intro e;have:=h.out z L k (An (An (An (An ⟨x,N,e⟩))));omega;intro y r k f;obtain⟨z,L,e1,T,_⟩:=JM y r;rw[e1,T];rcases ownold k f with J|J;exact h.out z L k J;have:=(h.cos z L).2.1;omega;have e:(l.set i d).map Sx.sb=(l.map Sx.sb).set i d.sb:=by rw[ny]
 rw[e];unfold xD;rw[ed];intro p q hp H Z;have hu:=ed.1 h.up;rw[eu]at hp H
 have key:∀t (ht:t<(l.map Sx.sb).length),(((l.map Sx.sb).set i d.sb)[t]'(by rw[eu];exact ht)).id=((l.map Sx.sb)[t]).id:=by
  intro t ht;rw[List.getElem_set]
  split
  rename_i e;subst e
  have:(l.map Sx.sb)[i]=x.sb:=by
   rw[List.getElem_map,(aj.1 I).2]
  rw[this,o];rfl;rfl
 rw[key p hp,key q H];exact hu p q hp H Z;intro y r;rcases Q y r with rfl|⟨j,_,u⟩;rw[o];exact h6;exact h.m6 y (bg u)
structure Su where
 id:Int
 co:Co
 ms:List Mg
def Sx.su(x:Sx):Su:=⟨x.id,x.co,x.ms⟩
structure Grow(F:Nat->Prop)(w w':Ao):Prop where
 os:w'.os=w.os
 tape:w'.tape=w.tape
 output:w'.output=w.output
 size:w.1.size<=w'.1.size
 block:∀k,k<w.1.size->¬F k->w'.1[k]?=w.1[k]?
def upF(F:Nat->Prop)(w w':Ao)(k:Nat):Prop:=F k\/(w.1.size<=k/\k<w'.1.size)
def Br(w:Ao)(F:Nat->Prop)(bb:Nat)(last:Int)(L:List Su):Prop:=(∀k,F k->k<w.1.size)/\∃sv tv rv l,BrAt w bb last sv tv rv l/\l.map Sx.su=L/\∀k,qcf bb sv tv rv l k->F k
theorem Grow.of_below(h:Xb w w'):Grow F w w':=⟨h.os,h.tape,h.output,h.size,λk a _=>h.block k a⟩
theorem Grow.trans'{a b c:Ao}(h:Grow F a b)(k:Grow F b c):Grow F a c:=
 ⟨k.os.trans h.os,k.tape.trans h.tape,k.output.trans h.output,bs h.size k.size,λi f d=>(k.block i (aq f h.size) d).trans (h.block i f d)⟩
theorem Br.frame{L:List Su}(h:Br w F bb last L)(d:w.1.size<=w'.1.size)(o:∀k,F k->w'.1[k]?=w.1[k]?):Br w' F bb last L:=by
 obtain⟨u,sv,tv,rv,l,r,q,f⟩:=h;exact⟨λk a=>aq (u k a) d,sv,tv,rv,l,r.same d λk a=>o k (f k a),q,f⟩
theorem Br.below{L:List Su}(h:Br w F bb last L)(a:Xb w w'):Br w' F bb last L:=h.frame a.size λk d=>a.block k (h.1 k d)
theorem Br.wide{a:Nat->Prop}{L:List Su}(h:Br w F bb last L)(o:∀k,F k->a k)(f:∀k,a k->k<w.1.size):Br w a bb last L:=by
 obtain⟨_,sv,tv,rv,l,u,r,q⟩:=h;exact⟨f,sv,tv,rv,l,u,r,λk d=>o k (q k d)⟩
theorem qh4{l:List Sb}(h:xD l)(a:l[i]?=G s):vl l s.id=i/\(l.any λt=>t.id==s.id)=true:=by
 have d:=km h s.id;have u:¬i<vl l s.id:=λf=>uu ((d i s a).2 f)
 refine⟨?_,mh.2 ⟨s,bg a,uc⟩⟩;rcases Nat.lt_or_ge (vl l s.id) i with r|z;have q:=(aj.1 a).1;have hp:=ed.1 h (vl l s.id) i ub q r;have o:=(aj.1 a).2;rw[o]at hp;have:=(d (vl l s.id) _ (ag ub)).1 hp;omega;omega
theorem vm0(d a:Nat)(v:Ap)(ms:List Mg)(o:ms.length<=90)(w:Ao)(h:HqAt w d a v 0 ms):ua 77 #[Ag (G ⟨d,a,O⟩)] w (qch d a 0 v ms w):=by
 cases ms with
 | nil=>exact vf4 d a 0 v w h
 | cons x r=>
  rcases vB h.own with⟨_,q⟩|⟨g,c,rfl⟩;simp at q;obtain⟨y,f⟩:∃y,(x::r)[r.length]?=G y:=⟨_,ag uc⟩;exact vf5 d a 0 g c r.length (x::r) rfl o x y rfl f w h _ λe w' h=>h
theorem qny(ms:List Mg):(qec ms).length=ms.length - 1:=by
 unfold qec
 split
 rw[qht,qbp];unfold qbh;rw[cw,eu];omega;rename_i h;have:ms=[]:=List.getLast?_eq_none_iff.1 h;subst this;rfl
def qnf(ms:List Mg):Int:=((ms.head?).getD ⟨0,0⟩).K
theorem vky(w:Ao)(F:Nat->Prop)(bb:Nat)(last:Int)(L:List Su)(h:Br w F bb last L)(i:Nat)(x:Su)(D:L[i]?=G x)
  (Q:Ending->Ao->Prop) (hQ:∀w',Br w' (upF F w w') bb last (L.set i { x with ms:=qec x.ms })->Grow F w w'->Q (Ak (Aj #[I J (qnf x.ms),I J 0])) w') :
  ua 44 #[Ag (G ⟨bb,0,O⟩),I J x.id] w Q:=by
 obtain⟨hF,sv,tv,rv,l,a,U,S⟩:=h
 obtain⟨y,d,N⟩:∃y,l[i]?=G y/\y.su=x:=by
  rw[<-U,cm]at D
  cases hl:l[i]? with
  | none=>rw[hl]at D;cases D
  | some y=>rw[hl]at D;exact⟨y,rfl,by simpa using D⟩
 have W9:=(aj.1 d).1
 obtain⟨g,c,rfl⟩:∃g c,sv=C (G ⟨g,0,O⟩) l.length c:=by
  rcases vB a.row with⟨_,X⟩|⟨g,c,hv⟩;simp at X;subst X;simp at W9;exact⟨g,c,by simpa using hv⟩
 have P:=qh4 a.up (i:=i) (s:=y.sb) (by rw[cm,d];rfl);have lD:y.sb.id=x.id:=by rw[<-N];rfl
 rw[lD]at P;have FD:=qd (pU bb (l.map Sx.sb) x.id _ w a.cells.2.1 (SbRow.subs a.row) a.up (by rw[cd];exact a.n8));rw[P.1,P.2]at FD;have CELLS:Hid (∀w',Xb w w'->Xc w' bb 1 (C (G ⟨g,0,O⟩) l.length c)):=qd λw' K=>(a.below K).cells.2.1
 have POP:Hid (∀w',Xb w w'->ua 77 #[Ag (G ⟨g,i * 3+2,O⟩)] w' (qch g (i * 3+2) 0 y.hv y.ms w')):=qd λw' K=>vm0 _ _ _ _ (uu (a.m6 y (bg d))) w' ((a.below K).heap d)
 have HE:Hid (∀w1 w2 A m,Xb w w1->qch g (i * 3+2) 0 y.hv y.ms w1 (Ak (Aj #[mgV m,Ah (decide (0<y.ms.length))])) w2->Xb w2 A->Q (Ak (Aj #[I J m.K,I J 0])) A):=qd (by
  rintro w1 w2 A m f⟨v',T,he,hm,hq,r⟩ u;have Y:mgV m=mgV T:=by injection he with e1;injection e1 with e2;simpa using e2
  have M:m.K=T.K:=by simp[mgV]at Y;exact Y.2
  have I1:=a.below f;obtain⟨x',a1,a2,a3,a4,a5,a6,b8⟩:=I1.turned d hq r (by rw[qny];have:=a.m6 y (bg d);omega);have oY:=b8.below u;have B8:=f.size;have D4:=r.size;have P9:=u.size
  have LS:Grow F w A:=by
   refine⟨u.os.trans (r.os.trans f.os),u.tape.trans (r.tape.trans f.tape),u.output.trans (r.output.trans f.output),ub,λk A4 A8=>?_⟩;rw[u.block k ub,r.block k ub (λe=>A8 (S k (Am (An (Am (by rw[e];rfl)))))) (λe=>A8 (S k (Am (An (An (An (An ⟨y,bg d,e⟩))))))),f.block k A4]
  have cX:qnf x.ms=m.K:=by rw[M,hm,<-N];rfl
  rw[<-cX];refine hQ A ⟨?_,_,tv,rv,l.set i x',oY, ?_, ?_⟩ LS;intro k o;rcases o with o|o;have:=hF k o;omega;exact o.2;rw[ny,U]
  congr 1
  rw[<-N];simp[Sx.su,a2,a3,a4];intro k o;have A1:=b8.foot_lt o
  by_cases hkw:w.1.size<=k
  exact An ⟨hkw,ub⟩
  left
  apply S;rcases o with(e|e|e|e|⟨z,q,e⟩)|⟨z,q,e⟩;exact Am (Am e);exact Am (An (Am e));exact Am (An (An (Am e)));exact Am (An (An (An (Am e))));rcases lh q with q|rfl;exact Am (An (An (An (An ⟨z,q,e⟩))));rw[a1]at e;rcases r.row k e with Z|Z;exact Am (An (An (An (An ⟨y,bg d,Z⟩))));omega;rcases lh q with q|rfl;exact An ⟨z,q,e⟩;rw[a5,a6]at e
  exact An ⟨y,bg d,e⟩)
 have H:l.length<=8:=a.n8;obtain⟨n,hn⟩:=it l.length;rw[hn]at CELLS H W9;go_enter func44,ntmps44
 go_wp2_with(first|(go_at_call 71;refine be FD λw1 f=>?_;have B1:=qd f;have c1:=q9 CELLS w1 f)|(go_at_call 77;refine(POP _ B1).mono ?_;intro e w2 U9;have P2:=qd U9;obtain⟨v2,m2,rfl,D4⟩:=U9;clear D4;unfold mgV))
 exact q9 HE w1 w2 _ m2 B1 P2 (by first|exact(uj).alloc ui _|exact uj)
section
open Go.RowKit Go.Sort Go.Shelf Go.Proofs.Tryz
def vqd(ts:List (List UInt8)):List Ap:=ts.map encStr
def qm3(w:Ao)(base:Nat)(v:Ap)(ts:List (List UInt8)):Prop:=w.ownsRow base 9 1 v ts.length (vqd ts)
theorem quq(a:Option Addr)(n cap:Nat)(w:Ao):ua 196 #[C a n cap] w λe w'=>e=Ak (.func (.func 221) #[] #[Ag (G ⟨w.1.size,0,O⟩)])/\w'=w.alloc (Al #[C a n cap] 31):=by
 go_enter func196,ntmps196
 go_wp2
 go_ret;exact⟨rfl,rfl⟩
theorem qmm(a b cap:Nat)(ts:List tu)(f:ts≠[])(J:ts.length<=1000)(w:Ao)(u:b<w.1.size)(o:a<w.1.size)
  (r:Xc w a 0 (C (G ⟨b,0,O⟩) ts.length cap)) (D:∀j,j<ts.length->Xc w b j (Y (BS (ts[j]?.getD [])))) :
  ua 219 #[.func (.func 221) #[] #[Ag (G ⟨a,0,O⟩)]] w λe w'=>∃g c,e=Ak (C (G ⟨g,0,O⟩) ts.length c)/\qm3 w' w.1.size (C (G ⟨g,0,O⟩) ts.length c) ts/\Xb w w':=by
 have A:Hid (ua 244 #[C O 0 0,.func (.func 221) #[] #[Ag (G ⟨a,0,O⟩)]] w λe w'=>∃g c,e=Ak (C (G ⟨g,0,O⟩) ts.length c)/\qm3 w' w.1.size (C (G ⟨g,0,O⟩) ts.length c) ts/\Xb w w'):=qd (((callsIn_wide (n:=5)).1 (qie 5 ub a b cap ts J w u o r D)).mono (by
  rintro e w'⟨v,rfl,d,q⟩;rcases vB d with⟨_,z⟩|⟨g,c,rfl⟩;exact absurd (de z) f
  exact⟨g,c,rfl,d,q⟩))
 go_enter func219,ntmps219
 go_wp2_with(go_at_call 244;refine A.mono ?_;rintro e w1⟨g,c,rfl,d,q⟩;have I:=qd d;have H:=qd q)
 go_ret;exact⟨g,c,rfl,q9 I,q9 H⟩
def vpt(ts:List (List UInt8)):List (List UInt8):=ts.mergeSort λx y=>decide (x<=y)
theorem y7(ts:List tu):(vpt ts).length=ts.length:=List.length_mergeSort ts
theorem que(d b cap:Nat)(ts:List tu)(f:ts≠[])(X:ts.length<=1000)(w:Ao)(L:b<w.1.size)(o:d<w.1.size)
  (K:Xc w d 0 (C (G ⟨b,0,O⟩) ts.length cap)) (Q:∀j,j<ts.length->Xc w b j (Y (BS (ts[j]?.getD [])))) :
  ua 195 #[.func (.func 221) #[] #[Ag (G ⟨d,0,O⟩)]] w λe w'=>∃g c,e=Ak (C (G ⟨g,0,O⟩) ts.length c)/\qm3 w' w.1.size (C (G ⟨g,0,O⟩) ts.length c) (vpt ts)/\Xb w w':=by
 have H:=qd (qmm d b cap ts f X w L o K Q)
 have z:Hid (∀g c w1,qm3 w1 w.1.size (C (G ⟨g,0,O⟩) ts.length c) ts->Xb w w1->ua 220 #[C (G ⟨g,0,O⟩) ts.length c] w1 λe w'=>e=Ak (Aj #[])/\Hid (qm3 w' w.1.size (C (G ⟨g,0,O⟩) ts.length c) (vpt ts)/\Xb w w')):=qd (by
  intro g c w1 q a;obtain⟨A,P,N,cur,r,U,u⟩:=vG q;rw[Nat.mul_one]at u;have M:Holds encStr w1 g 0 ts.toArray:=holds_of_block r u;refine be (Tryz.slices_Sort_string g 0 c ts w1 M (cf.1 r).1 ub) ?_;rintro w'⟨k,os,rfl⟩;refine⟨rfl,qd ⟨?_, ?_⟩⟩
  .have:=ownsRow_sorted (n:=k) (os:=os) (y7 ts) A r P N U
   show World.ownsRow _ _ _ _ _ _ _;rw[y7];exact this
  exact a.grown (grownBy_sorted _) a.size (λj J=>by cases J;exact A))
 obtain⟨n,I⟩:=it ts.length;rw[I]at H z |-;go_enter func195,ntmps195
 go_wp2_with(first|(go_at_call 219;refine H.mono ?_;rintro e w1⟨g,c,rfl,q,a⟩;have T:=qd q;have S:=qd a)|(go_at_call 220;refine be (z g c w1 T S) λw2 D=>?_))
 go_ret;exact⟨g,c,rfl,D.1,D.2⟩
theorem qfy(g c:Nat)(zs:List tu)(base:Nat)(w:Ao)(h:qm3 w base (C (G ⟨g,0,O⟩) zs.length c) zs)(Q:zs.length<=1000):
  ua 194 #[C (G ⟨g,0,O⟩) zs.length c] w λe w'=>e=Ak (C (G ⟨g,0,O⟩) (Lib.compact zs).length c)/\Hid ((∀j t,(Lib.compact zs)[j]?=G t->Xc w' g j (Y (BS t)))/\base<=g/\g<w'.1.size/\w.grownBy w' (G g)):=by
 obtain⟨D,A,L,cur,o,N,z⟩:=vG h;rw[Nat.mul_one]at z;have J:Holds encStr w g 0 zs.toArray:=holds_of_block o z;refine be (Tryz.slices_Compact_string g 0 c zs w J ub A) ?_;rintro w'⟨q,rfl⟩;have P:(Lib.compact zs).length<=zs.length:=qco zs;obtain⟨a,d⟩:=it (Lib.compact zs++List.replicate (zs.length - (Lib.compact zs).length) []);have I:a.length=zs.length:=by rw[<-d];simp;omega
 have H:grow (putRow encStr (Sort.ahead w q) g 0 a.toArray) #[]=putRow encStr (Sort.ahead w q) g 0 a.toArray:=by simp[grow];rfl
 have r:=ownsRow_sorted (n:=q) (os:=#[]) I D o A L N;have f:=grownBy_sorted (w:=w) (g:=g) (n:=q) (os:=#[]) a.toArray;rw[H]at r f;rw[d];refine⟨rfl,qd ⟨λj t u=>?_,D, ?_,f⟩⟩;have K:=(aj.1 u).1;have M:a[j]?=G t:=by rw[<-d,cg K];exact u
 have:=World.ownsRow.cells r (g:=g) rfl j (encStr t) (by rw[cm,M];rfl);rwa [vN,ee]at this;have:=f.size;have:=(cf.1 o).1;omega
end
def kI(x:Co):List (List UInt8)->Nat->Co
 | [],_=>x
 | t::r,k=>za x (qp 8 x (vi t)) (r.take (k - 1))
theorem qt8(x:Co):∀(l:List tu) (f:Co) (t:tu),za x f (l++[t])=qp 7 (za x f l) (qp 8 x (vi t)):=by
 intro l
 induction l with
 | nil=>intro f t;rfl
 | cons a l ih=>intro f t;exact ih _ t
theorem qsq(x:Co){t:tu}(h:zs[0]?=G t):kI x zs 1=qp 8 x (vi t):=by
 cases zs with
 | nil=>simp at h
 | cons a r=>simp at h;subst h;simp[kI,za]
theorem qn6(x:Co){t:tu}(f:0<k)(h:zs[k]?=G t):kI x zs (k+1)=qp 7 (kI x zs k) (qp 8 x (vi t)):=by
 cases zs with
 | nil=>simp at h
 | cons a r=>
  obtain⟨j,rfl⟩:∃j,k=j+1:=⟨k - 1,ub⟩;have d:r[j]?=G t:=by simpa using h
  show za x (qp 8 x (vi a)) (r.take (j+1+1 - 1))=qp 7 (za x (qp 8 x (vi a)) (r.take (j+1 - 1))) _;rw[show j+1+1 - 1=j+1 by omega,show j+1 - 1=j by omega,dn,d];exact qt8 x _ _ t
theorem qso(x:Co)(ts:List tu):kI x (vo ts) (vo ts).length=vI x ts:=by
 unfold vI
 cases vo ts with
 | nil=>rfl
 | cons a r=>
  show za x _ (r.take (r.length+1 - 1))=_;rw[show r.length+1 - 1=r.length by omega,im]
theorem qsp(x:Co)(zs:List tu)(k:Nat)(h:∀t∈zs,t.length<=200)(f:zs.length<=200)(u:(qt x).length<=402):(qt (kI x zs k)).length<=1000000:=by
 cases zs with
 | nil=>show(qt x).length<=_;omega
 | cons a r=>
  have q:=qdi x (r.take (k - 1)) (qp 8 x (vi a)) (λt d=>h t (fe _ (nw d)));rw[qN 8 rfl rfl]at q;have C:=xy a (h a ei);have D:(jw 8).length=1:=rfl
  have o:(r.take (k - 1)).length<=200:=by
   have:=List.length_take_le (k - 1) r;simp at f;have A:(r.take (k - 1)).length<=r.length:=by rw[cw];omega
   omega
  have z:(r.take (k - 1)).length * ((qt x).length+420)<=200 * 822:=ri o ub;show(qt (za x (qp 8 x (vi a)) (r.take (k - 1)))).length<=_;omega
def vil(B:Nat)(W:Ao)(x:Co)(zs:List (List UInt8))(k:Nat)(v:Ap):Prop:=(k=0/\v=Ag O)\/(0<k/\∃b,v=Ag (G ⟨b,0,O⟩)/\CoAt B W.1.size W v (kI x zs k))
theorem vis:qas:=by
 intro lo B w x vx tv ts hB hL Z q r dH A7 hsx;obtain⟨bx,rfl⟩:=Z.ptr
 obtain⟨b,cap,rfl,_,hb,L6⟩:∃g cap,tv=C (G ⟨g,0,O⟩) ts.length cap/\lo<g/\g<w.1.size/\∀(j:Nat) (t:tu),ts[j]?=G t->Xc w g j (Y (BS t)):=by
  rcases q with⟨d,_⟩|h;exact absurd d r;exact h
 obtain⟨w1,D⟩:=uk (w.alloc (Al #[C (G ⟨b,0,O⟩) ts.length cap] 31));have A0:Xb w w1:=by rw[D];exact(uj).alloc ui _
 have B8:w1.1.size=w.1.size+1:=by rw[D];simp
 have VA:=qd (quq (G ⟨b,0,O⟩) ts.length cap w);rw[<-D]at VA
 have SO:=qd (que w.1.size b cap ts r ub w1 ub ub (by rw[D];simp[go_sem]) (λj hj=>by
  have e:ts[j]?=G (ts[j]?.getD []):=by rw[ag hj];rfl
  exact(A0.cell (p:=⟨b,j,O⟩) hb).trans (L6 j _ e)))
 have CP:Hid (∀g c w2,qm3 w2 w1.1.size (C (G ⟨g,0,O⟩) ts.length c) (vpt ts)->Xb w1 w2->ua 194 #[C (G ⟨g,0,O⟩) ts.length c] w2 λe z=>e=Ak (C (G ⟨g,0,O⟩) (vo ts).length c)/\Hid ((∀j t,(vo ts)[j]?=G t->Xc z g j (Y (BS t)))/\g<z.1.size/\Xb w z)):=qd (by
  intro g c w2 d a;have:=qfy g c (vpt ts) w1.1.size w2 (by rw[y7];exact d) (by rw[y7];omega);rw[y7]at this;refine be this λz H=>?_;obtain⟨a1,a2,a3,a4⟩:=q9 H;refine⟨rfl,qd ⟨a1,a3, ?_⟩⟩;have A3:Xb w w2:=qg A0 a
  exact A3.grown a4 A3.size (λj hj=>by
   have e:g=j:=by simpa using hj
   omega))
 have HZ:Hid (∀t∈vo ts,t.length<=200):=qd λt q=>A7 t (gD q)
 have T:(vo ts).length<=200:=bs (qag ts) dH;have BW:(vo ts).length≠0:=λe=>qcb r (de e)
 have U:Hid (kI x (vo ts) (vo ts).length=vI x ts):=qd (qso x ts);have HX:Hid (∀W,Xb w W->CoAt B W.1.size W (Ag (G ⟨bx,0,O⟩)) x):=qd λW hW=>Z.below hW
 have XZ:Hid (∀W,Xb w W->LibOk W):=qd λW hW=>hL.below hW ui
 obtain⟨zs,FO⟩:=it (vo ts);rw[FO]at CP HZ T BW U;obtain⟨n,hn⟩:=it ts.length;rw[hn]at VA SO CP |-;obtain⟨m,hm⟩:=it zs.length;rw[hm]at CP T BW U;have HM:=qd hm;clear FO hn hm D hL Z q r A7 L6;go_enter func143,ntmps143
 go_wp2_with(first|(go_at_call 196;refine be VA ?_;rintro w1' rfl)|(go_at_call 195;refine SO.mono ?_;rintro e w2⟨g2,c2,rfl,d,a⟩;have H1:=qd d;have H2:=qd a)|(go_at_call 194;refine be (CP g2 c2 w2 H1 H2) λz H3=>?_))
 go_loopw [5,14] (λv i wr=>∃k:Nat,k<=m/\i=I J k/\Hid (vil B wr x zs k v)/\Hid (Xb z wr)) (λ_ i _=>m - (intOf i).toNat)
 exact⟨0,bt _,rfl,qd (Am ⟨rfl,rfl⟩),qd uj⟩;obtain⟨k,hk,rfl,FA,M⟩:=hrel
 by_cases A1:k<m
 .obtain⟨t,q⟩:∃t,zs[k]?=G t:=⟨_,ag (uu (q9 HM))⟩
  have V3:t.length<=200:=q9 HZ t (bg q);obtain⟨a1,a2,a3⟩:=q9 H3;have d0:Xc wr g2 k (Y (BS t)):=(M.cell (p:=⟨g2,k,O⟩) a2).trans (a1 k t q);have P:Xb w wr:=qg a3 M;have IQ:=P.size;have SP:Hid (ua 144 #[Ai #[I J 2,Ag O,Ag O,I J 0,Y (BS t),Y ⟨#[]⟩,Y ⟨#[]⟩]] wr λe w'=>∃b,e=Ak (Ag (G ⟨b,0,O⟩))/\CoAt B w'.1.size w' (Ag (G ⟨b,0,O⟩)) (vi t)/\Xb wr w'):=qd (xx ⟨2,0,t,[]⟩ rfl vhw (by show t.length<=_;omega) (bt _) ub (XZ wr P))
  have P8:Hid (∀f u,CoAt B f.1.size f (Ag (G ⟨u,0,O⟩)) (vi t)->Xb wr f->ua 140 #[I J 8,Ag (G ⟨bx,0,O⟩),Ag (G ⟨u,0,O⟩)] f λe w'=>∃b,e=Ak (Ag (G ⟨b,0,O⟩))/\CoAt B w'.1.size w' (Ag (G ⟨b,0,O⟩)) (qp 8 x (vi t))/\Xb wr w'):=qd (by
   intro f u d a;have A:=qg P a;refine(jb 8 (uu A.size) (XZ f A) (HX f A) d ub (uu (xy t V3))).mono ?_;rintro e w'⟨b,rfl,S,Q⟩
   exact⟨b,rfl,S,qg a Q⟩)
  rcases q9 FA with⟨rfl,rfl⟩|⟨aN,L,rfl,X⟩
  .have H1C:Hid (kI x zs 1=qp 8 x (vi t)):=qd (qsq x q)
   go_wp2_with(first|(go_at_call 144;refine SP.mono ?_;rintro e f⟨u,rfl,d,a⟩;have C4:=qd d;have B4:=qd a)|(go_at_call 140;refine(P8 f u C4 B4).mono ?_;rintro e o⟨L,rfl,d,a⟩;have N:=qd d;have B5:=qd a))
   exact⟨⟨1,ub,rfl,qd (An ⟨ub,L,rfl,by rw[q9 H1C];exact q9 N⟩),qd (qg M B5)⟩,by simp[intOf];omega⟩
  have HSC:Hid (kI x zs (k+1)=qp 7 (kI x zs k) (qp 8 x (vi t))):=qd (qn6 x aN q)
  have P7:Hid (∀o K,CoAt B o.1.size o (Ag (G ⟨K,0,O⟩)) (qp 8 x (vi t))->Xb wr o->ua 140 #[I J 7,Ag (G ⟨L,0,O⟩),Ag (G ⟨K,0,O⟩)] o λe w'=>∃b,e=Ak (Ag (G ⟨b,0,O⟩))/\CoAt B w'.1.size w' (Ag (G ⟨b,0,O⟩)) (kI x zs (k+1))/\Xb wr w'):=qd (by
   intro o K d a;have A:=qg P a
   have OP:(qt (qp 8 x (vi t))).length<=1000000:=by
    rw[qN 8 rfl rfl];have:=xy t V3;have e8:(jw 8).length=1:=rfl;omega
   have hlf:=qsp x zs k HZ (by rw[q9 HM];exact T) hsx;rw[q9 HSC];refine(jb 7 (uu A.size) (XZ o A) (X.below a) d ub ub).mono ?_;rintro e w'⟨b,rfl,S,Q⟩
   exact⟨b,rfl,S,qg a Q⟩)
  go_wp2_with(first|(go_at_call 144;refine SP.mono ?_;rintro e f⟨u,rfl,d,a⟩;have C4:=qd d;have B4:=qd a;clear d a)|(go_at_call 140;refine(P8 f u C4 B4).mono ?_;clear P8;rintro e o⟨K,rfl,d,a⟩;have N:=qd d;have B5:=qd a)|(go_at_call 140;refine(P7 o K N B5).mono ?_;rintro e w6⟨b7,rfl,d,a⟩;have C6:=qd d;have B6:=qd a))
  exact⟨⟨k+1,ub,rfl,qd (An ⟨ub,b7,rfl,q9 C6⟩),qd (qg M B6)⟩,by simp[intOf];omega⟩
 have CB:k=m:=ub;subst CB;rcases q9 FA with⟨h0,_⟩|⟨_,L,rfl,X⟩;exact absurd h0 BW;have N:=qd X;have HBw:Hid (Xb w wr):=qd (qg H3.2.2 M)
 go_wp2
 go_ret;exact⟨L,rfl,by rw[<-q9 U];exact q9 N,q9 HBw⟩
structure Rs where
 id:Int
 Q:List UInt8
 qa:Option Addr
 qc:Nat
 ms:List Mg
def Rs.qv(x:Rs):Ap:=C x.qa x.ms.length x.qc
def yd(x:Rs):List Ap:=[I J x.id,Y (BS x.Q),x.qv]
def qO(l:List Rs):List Ap:=l.flatMap yd
theorem jS(l:List Rs):(qO l).length=l.length * 3:=by
 induction l with
 | nil=>rfl
 | cons x l ih=>rw[qO,dp,ce,<-qO,ih,fk];simp[yd];omega
theorem pj(l r:List Rs):qO (l++r)=qO l++qO r:=by simp[qO]
theorem gA(l:List Rs)(k:Nat):(qO l).drop (k * 3)=qO (l.drop k):=by
 induction k generalizing l with
 | zero=>simp
 | succ k ih=>
  cases l with
  | nil=>rfl
  | cons x l=>rw[qO,dp,<-qO,show(k+1) * 3=3+k * 3 by omega,<-th,List.drop_left' (by rfl),ih];rfl
theorem qk7(l:List Rs)(k:Nat):(qO l).take (k * 3)=qO (l.take k):=by
 induction k generalizing l with
 | zero=>simp[qO]
 | succ k ih=>
  cases l with
  | nil=>rfl
  | cons x l=>
   rw[qO,dp,<-qO,List.take_append,show(yd x).length=3 from rfl,fo (by show 3<=_;omega),show(k+1) * 3 - 3=k * 3 by omega,ih];rfl
theorem qpb{l:List Rs}{x:Rs}(h:l[i]?=G x)(j:Nat)(o:j<3):(qO l)[i * 3+j]?=(yd x)[j]?:=by
 have hd:=gA l i;have d:=(aj.1 h);obtain⟨f,a⟩:=d;rw[cj f,a,qO,qO,dp]at hd;rw[<-io,qO,hd,cg (by show j<3;omega)]
theorem qdw(h:w.ownsRow base e size v n xs):∃a c,v=C a n c:=by
 rcases h.2 with⟨rfl,d⟩|⟨g,cap,cur,rfl,_⟩;exact⟨O,0,by rw[d]⟩;exact⟨_,_,rfl⟩
structure MbAt(w:Ao)(mb:Nat)(n:Int)(sv:Ap)(l:List Rs):Prop where
 blk:w.1[mb]?=G (Al #[sv,I J n] 42 (0,0))
 row:w.ownsRow 0 133 3 sv l.length (qO l)
 qs:∀x∈l,w.ownsRow 0 147 2 x.qv x.ms.length (qU x.ms)
 dis:l.Pairwise λx y=>∀k,x.qv.ownBlock=G k->y.qv.ownBlock≠G k
def qfr(mb:Nat)(sv:Ap)(l:List Rs)(k:Nat):Prop:=k=mb\/sv.ownBlock=G k\/∃x∈l,x.qv.ownBlock=G k
section
variable {w w':Ao} {mb:Nat} {n:Int} {sv:Ap} {l:List Rs}
theorem MbAt.lt(h:MbAt w mb n sv l):mb<w.1.size:=(cf.1 h.blk).1
theorem MbAt.cells(h:MbAt w mb n sv l):Xc w mb 0 sv/\Xc w mb 1 (I J n)/\Xf w mb:=by
 have a:=h.blk;simp[World.cell?,World.frozen?,a]
theorem MbAt.foot_lt(h:MbAt w mb n sv l)(a:qfr mb sv l k):k<w.1.size:=by
 rcases a with rfl|a|⟨x,d,a⟩;exact h.lt;exact(h.row.lt k a).2;exact((h.qs x d).lt k a).2
theorem MbAt.same(h:MbAt w mb n sv l)(d:∀k,qfr mb sv l k->w'.1[k]?=w.1[k]?):MbAt w' mb n sv l:=
 ⟨(d mb (Am rfl)).trans h.blk,qm h.row λg a=>d g (An (Am a)),λx f=>qm (h.qs x f) λg a=>d g (An (An ⟨x,f,a⟩)),h.dis⟩
theorem MbAt.below(h:MbAt w mb n sv l)(d:Xb w w'):MbAt w' mb n sv l:=h.same λk a=>d.block k (h.foot_lt a)
theorem MbAt.sub(h:MbAt w mb n sv l){x:Rs}(d:l[i]?=G x):∃g c,sv=C (G ⟨g,0,O⟩) l.length c/\g<w.1.size/\Xc w g (i * 3) (I J x.id)/\Xc w g (i * 3+1) (Y (BS x.Q))/\Xc w g (i * 3+2) x.qv/\Xf w g:=by
 rcases vB h.row with⟨_,u⟩|⟨g,c,rfl⟩;have:=(aj.1 d).1;omega
 have a:∀j v,j<3->(yd x)[j]?=G v->Xc w g (i * 3+j) v:=λj v f hv=>by
  have:=World.ownsRow.cells h.row (g:=g) rfl (i * 3+j) v (by rw[qpb d j f];exact hv);rwa [vN,ee]at this
 refine⟨g,c,rfl,(h.row.lt g rfl).2,a 0 _ ub rfl,a 1 _ ub rfl,a 2 _ ub rfl, ?_⟩;rcases h.row.2 with⟨e,_⟩|⟨q,r,cur,e,_,o,_⟩;cases e;obtain⟨rfl,_⟩:g=q/\c=r:=by simpa using e
 intro j;simp[World.frozen?,o]
end
def kT(l:List Rs)(id:Int):Int:=match l.findIdx? λx=>x.id==id with
 | some i=>i
 | none=>-1
theorem vda{l:List Rs}{x:Rs}(o:∀(j:Nat) (y:Rs),j<k->l[j]?=G y->y.id≠id)(a:l[k]?=G x)(h:x.id=id):kT l id=k:=by
 obtain⟨d,hv⟩:=aj.1 a
 have:l.findIdx? (λx=>x.id==id)=G k:=by
  rw[ib];refine⟨d,by rw[hv];simpa using h,λj f=>?_⟩;have:=o j _ f (ag ub);simpa using this
 rw[kT,this]
theorem vdb{l:List Rs}(f:∀(j:Nat) (y:Rs),l[j]?=G y->y.id≠id):kT l id=-1:=by
 have:l.findIdx? (λx=>x.id==id)=O:=by
  rw[sg];intro x a;obtain⟨j,d⟩:=dd a;simpa using f j x d
 rw[kT,this]
theorem qdu{n:Int}{l:List Rs}(h:MbAt w mb n sv l)(H:l.length<=8)(id:Int):
  ua 75 #[Ag (G ⟨mb,0,O⟩),I J id] w λe w'=>e=Ak (I J (kT l id))/\w'=w:=by
 obtain⟨c0,T,S⟩:=h.cells;have z:=qd λi x D=>h.sub (i:=i) (x:=x) D
 obtain⟨a,c,rfl⟩:=qdw h.row;obtain⟨m,r⟩:=it l.length;rw[r]at H c0 z;have C:=qd r;obtain⟨R,u⟩:=it (kT l id);rw[u];have A:=qd u;go_enter func75,ntmps75
 go_wp2
 go_loop [5] (λi=>∃k:Nat,k<=m/\i=I J k/\Hid (∀j y,j<k->l[j]?=G y->y.id≠id)) (λi=>m - (intOf i).toNat)
 exact⟨0,bt _,rfl,qd λj y f=>ub⟩;obtain⟨k,L,rfl,o⟩:=hrel
 by_cases A1:k<m
 .obtain⟨x,hx⟩:∃x,l[k]?=G x:=⟨_,ag (uu (q9 C))⟩
  obtain⟨g,U,hv,M,Q,e1,P,N⟩:=q9 z k x hx;simp at hv;obtain⟨rfl,rfl⟩:=hv
  by_cases fW:x.id=id
  .have hd:(x.id==id)=true:=by simpa using fW
   have X:decide (x.id=id)=true:=di fW;have q:Hid (R=(k:Int)):=qd (by rw[<-q9 A];exact vda o hx fW)
   go_wp2
   go_ret;exact⟨by rw[q9 q];rfl,rfl⟩
  have hd:(x.id==id)=false:=by simpa using fW
  have K:Hid (∀j y,j<k+1->l[j]?=G y->y.id≠id):=qd λj y f d=>by
   by_cases e:j=k
   subst e;rw[hx]at d;injection d with d;subst d;exact fW;exact q9 o j y ub d
  go_wp2
  go_round
  case rel=>exact⟨k+1,ub,by go_num,K⟩
  simp[intOf];omega
 have q:Hid (R=-1):=qd (by
  rw[<-q9 A]
  exact vdb λj y f=>q9 o j y (by have:=(aj.1 f).1;have:=q9 C;omega) f)
 go_wp2
 go_ret;exact⟨by rw[q9 q];rfl,rfl⟩
section
attribute [local go_sem ↓] vsk
theorem pY:(prog.info? 133).map (λi=>(i.zero,i.size,i.bytes))=G (G (Ai #[I J 0,Y ⟨#[]⟩,C O 0 0]),3,48):=uh
theorem qgh:(prog.info? 147).map (λi=>(i.zero,i.size,i.bytes))=G (G (Ai #[I J 0,I J 0]),2,16):=uh
theorem kB{e bytes:Nat}{T:TypeId}{z:Ap}{news:List Ap}{a:Option Addr}(I:prog.underlying T=G (.slice e))(q:(prog.info? e).map (λi=>(i.zero,i.size,i.bytes))=G (G z,size,bytes))(Z:z.cells.size=size)(A:0<size)
  (h:W.ownsRow base e size v n xs) (N:base<=W.1.size) (J:news.length=m * size) (o:(a=O/\m=0/\c=0)\/∃r,a=G r/\∀j u,news[j]?=G u->W.cell? (r.add j)=G u) (U:∀u∈news,u.oneCell'=true) (M:n+m<=1000) (D:bytes<=1000) :
  ∃f d w',(kH #[T,T] T #[v,.slice a m c]).run prog W=.ok (.slice f (n+m) d) w'/\Hid (w'.ownsRow base e size (.slice f (n+m) d) (n+m) (xs++news))/\Hid (W.grownBy w' v.ownBlock)/\Hid ((Value.slice f (n+m) d).ownBlock=v.ownBlock\/(Value.slice f (n+m) d).ownBlock=G W.1.size):=by
 obtain⟨H,K,F5,B8,D4⟩:=info_parts q;rcases o with⟨rfl,rfl,rfl⟩|⟨r,rfl,Y⟩;have C:=run_append_owned_none (P:=prog) W base T T e H size I K v n xs h;obtain rfl:news=[]:=de (by rw[J,tg]);obtain⟨a,c,rfl⟩:=qdw h;exact⟨a,c,W,C,qd (by rw[fw];exact h),qd ⟨rfl,rfl,rfl,ui,λ_ _ _=>rfl⟩,qd (Am rfl)⟩;have X:(n+m) * bytes<=140737488355328:=bs (ri M D) ue;obtain⟨v',w',C,L,S,_,Q⟩:=run_append_own_at (P:=prog) W base T T e H z size bytes I K F5 B8 D4 Z A v n xs h r m c news J Y U (by unfold maxLen;omega) X N;obtain⟨f,d,rfl⟩:=qdw L;exact⟨f,d,w',C,qd L,qd S,qd Q⟩
theorem qba(x:Rs):∀u∈yd x,u.oneCell'=true:=by
 intro u a;simp[yd]at a;rcases a with rfl|rfl|rfl<;>rfl
theorem pI(l:List Rs):∀u∈qO l,u.oneCell'=true:=by
 intro u d;obtain⟨x,_,a⟩:=List.mem_flatMap.1 d;exact qba x u a
theorem qdc(l:List Mg):∀u∈qU l,u.oneCell'=true:=by
 intro u d;obtain⟨x,_,a⟩:=List.mem_flatMap.1 d;simp at a;rcases a with rfl|rfl<;>rfl
structure Ru where
 id:Int
 Q:List UInt8
 ms:List Mg
def Rs.ru(x:Rs):Ru:=⟨x.id,x.Q,x.ms⟩
def RBr(w:Ao)(F:Nat->Prop)(mb:Nat)(n:Int)(R:List Ru):Prop:=(∀k,F k->k<w.1.size)/\R.length<=8/\∃sv l,MbAt w mb n sv l/\l.map Rs.ru=R/\∀k,qfr mb sv l k->F k
section
variable {w w':Ao} {F:Nat->Prop} {mb:Nat} {n:Int} {R:List Ru}
theorem RBr.frame(h:RBr w F mb n R)(f:w.1.size<=w'.1.size)(o:∀k,F k->w'.1[k]?=w.1[k]?):RBr w' F mb n R:=by
 obtain⟨z,q,sv,l,u,r,d⟩:=h;exact⟨λk a=>aq (z k a) f,q,sv,l,u.same λk a=>o k (d k a),r,d⟩
end
theorem MbAt.put{n:Int}{l l':List Rs}(h:MbAt w mb n sv l)(u:Xb w w2)(q:w2.ownsRow w.1.size 133 3 sv' l'.length (qO l'))
  (K:∀x∈l',x∈l\/(x.qa=O/\x.qc=0/\x.ms=[])) (hd:l'.Pairwise λx y=>∀k,x.qv.ownBlock=G k->y.qv.ownBlock≠G k):MbAt (w2.setCell ⟨mb,0,O⟩ sv') mb n sv' l':=by
 have S:=h.lt;have z:w2.1[mb]?=G (Al #[sv,I J n] 42 (0,0)):=(u.block mb S).trans h.blk;have D:∀k,k≠mb->(w2.setCell ⟨mb,0,O⟩ sv').1[k]?=w2.1[k]?:=λk L=>au _ ⟨mb,0,O⟩ _ k (by show k≠mb;exact L)
 refine⟨?_, ?_,λx d=>?_,hd⟩;rw[setCell_eq_setRow w2 mb 0 _ _ (0,0) sv' z];exact setRow_heap w2 mb _ _ _ (0,0) z;refine⟨q.1, ?_⟩;rcases q.2 with P|⟨g,cap,cur,rfl,a,f,r⟩;exact Am P;exact An ⟨g,cap,cur,rfl,bt _,(D g ub).trans f,r⟩;rcases K x d with d|⟨N,M,A⟩
 exact qm (h.qs x d) λg a=>by
  have H:=((h.qs x d).lt g a).2
  have o:g≠mb:=by
   rintro rfl;rcases(h.qs x d).2 with⟨e,_⟩|⟨Q,cap,cur,e,_,f,_⟩;rw[e]at a;simp[Value.ownBlock]at a;rw[e]at a;have:Q=g:=by simpa [Value.ownBlock]using a
   subst this;rw[h.blk]at f;simp at f
  exact(D g o).trans (u.block g H)
 have e:x.qv=C O 0 0:=by unfold Rs.qv;rw[N,M,A];rfl
 rw[e,A];exact dy _ _ _ _
end
section
attribute [local go_sem ↓] vsk
theorem qpd{l:List Rs}{R:List Ru}(h:l.map Rs.ru=R)(id:Int):l.findIdx? (λx=>x.id==id)=R.findIdx? λx=>x.id==id:=by
 rw[<-h,List.findIdx?_map];rfl
def vbt(R:List Ru)(id:Int):List Ru×Int:=match R.findIdx? λx=>x.id==id with
 | none=>(R,5)
 | some i=>(R.take i++R.drop (i+1),0)
theorem RBr.wide{n:Int}{R:List Ru}(h:RBr w F mb n R):RBr w (upF F w w) mb n R:=by
 obtain⟨r,d,sv,l,q,o,f⟩:=h;exact⟨λk a=>by rcases a with e|e;exact r k e;exact e.2,d,sv,l,q,o,λk a=>Am (f k a)⟩
theorem Grow.same(F:Nat->Prop)(w:Ao):Grow F w w:=⟨rfl,rfl,rfl,ui,λ_ _ _=>rfl⟩
theorem RBr.put{n:Int}{l l':List Rs}(u:∀k,F k->k<w.1.size)(f:∀k,qfr mb sv l k->F k)(h:MbAt w mb n sv l)(d:Xb w w2)(o:w2.ownsRow w.1.size 133 3 sv' l'.length (qO l'))
  (q:∀x∈l',x∈l\/(x.qa=O/\x.qc=0/\x.ms=[])) (hd:l'.Pairwise λx y=>∀k,x.qv.ownBlock=G k->y.qv.ownBlock≠G k) (z:l'.length<=8) :
  RBr (w2.setCell ⟨mb,0,O⟩ sv') (upF F w (w2.setCell ⟨mb,0,O⟩ sv')) mb n (l'.map Rs.ru)/\Grow F w (w2.setCell ⟨mb,0,O⟩ sv'):=by
 have D:(w2.setCell ⟨mb,0,O⟩ sv').1.size=w2.1.size:=uc;have J:=d.size;refine⟨⟨λk a=>?_,by rw[cd];exact z,sv',l',h.put d o q hd,rfl,λk a=>?_⟩,d.os,d.tape,d.output,ub,λk C A=>?_⟩;rcases a with e|e;have:=u k e;omega;exact e.2;rcases a with rfl|a|⟨x,r,a⟩;exact Am (f _ (Am rfl));have:=o.lt k a;exact An ⟨this.1,ub⟩;rcases q x r with e|⟨e1,I,H⟩;exact Am (f _ (An (An ⟨x,e,a⟩)));unfold Rs.qv at a;rw[e1]at a;simp[Value.ownBlock]at a;rw[au _ ⟨mb,0,O⟩ _ k (by show k≠mb;rintro rfl;exact A (f _ (Am rfl)))];exact d.block k C
theorem qu3{n:Int}{R:List Ru}(h:RBr w F mb n R)(id:Int)(Q:Ending->Ao->Prop)(r:∀w',RBr w' (upF F w w') mb n (vbt R id).1->Grow F w w'->Q (Ak (I J (vbt R id).2)) w'):
  ua 43 #[Ag (G ⟨mb,0,O⟩),I J id] w Q:=by
 have h':=h;obtain⟨hF,Y,sv,l,f,K,C3⟩:=h;have uD:l.length<=8:=by rw[<-K,cd]at Y;exact Y
 have o:=qd (qdu f uD id);have A:=qpd K id
 cases hfx:R.findIdx? (λx=>x.id==id) with
 | none=>
  have L:kT l id=-1:=by rw[kT,A,hfx]
  have N:vbt R id=(R,5):=by rw[vbt,hfx]
  rw[N]at r;have z:=qd (r w h'.wide (Grow.same F w));rw[L]at o;go_enter func43,ntmps43
  go_wp2_with(go_at_call 75;refine be o λw' U=>?_;subst w')
  exact q9 z
 | some i=>
  have L:kT l id=i:=by rw[kT,A,hfx]
  have N:vbt R id=(R.take i++R.drop (i+1),0):=by rw[vbt,hfx]
  rw[N]at r;rw[L]at o;rw[hfx]at A;have W9:i<l.length:=(ib.1 A).1;obtain⟨c0,c1,cz⟩:=f.cells;have S:=f.lt
  obtain⟨g,c,rfl⟩:∃g c,sv=C (G ⟨g,0,O⟩) l.length c:=by
   rcases vB f.row with⟨_,Z⟩|Z;omega;exact Z
  obtain⟨m,X⟩:=it l.length
  have dA:m<=c:=by
   rcases f.row.2 with⟨e,_⟩|⟨g',c',cur,e,_,_,H,_⟩;cases e;simp at e;omega
  have L6:∀j u,(qO l)[j]?=G u->Xc w g j u:=λj u d=>by
   have:=World.ownsRow.cells f.row (g:=g) rfl j u d;rwa [vN,ee]at this
  have V2:=(f.row.lt g rfl).2;obtain⟨a1,MG,w1,lX,M,QS,AA⟩:=kB (T:=40) (e:=133) (base:=w.1.size) (v:=C O 0 0) (n:=0) (xs:=[]) (m:=i) (c:=c) (a:=G ⟨g,0,O⟩) (news:=qO (l.take i)) underlying40 pY rfl ub (dy w _ _ _) ui (by rw[jS,cw,ot ub]) (An ⟨_,rfl,λj u d=>by rw[vN,ee];rw[<-qk7]at d;exact L6 j u (by rw[ll]at d;split at d;exact d;cases d)⟩) (pI _) ub ub;rw[ee]at lX M AA;rw[X]at c0 W9;have q:Xb w w1:=uj.grown QS ui (λk D=>by simp[Value.ownBlock]at D);have QE:Xc w1 mb 0 (C (G ⟨g,0,O⟩) m c):=((qk q).1 _ _ S).trans c0
  obtain⟨off,cc,aP⟩:∃off cc,(c=i+1/\off=0/\cc=0)\/(¬c=i+1/\off=(i+1) * 3/\cc=c - (i+1)):=by
   by_cases e:c=i+1
   exact⟨0,0,Am ⟨e,rfl,rfl⟩⟩;exact⟨_,_,An ⟨e,rfl,rfl⟩⟩
  have I4:∀j,w1.cell? ⟨g,j,O⟩=w.cell? ⟨g,j,O⟩:=λj=>(qk q).1 _ _ V2
  obtain⟨a2,c2,w2,cE,J0,uN,fF⟩:=kB (T:=40) (e:=133) (m:=m - (i+1)) (c:=cc) (a:=G ⟨g,off,O⟩) (news:=qO (l.drop (i+1))) underlying40 pY rfl ub M q.size (by rw[jS,dj,X]) (An ⟨_,rfl,λj u d=>by
   rw[vN,I4];rw[<-gA,io]at d;rcases aP with⟨e,_,_⟩|⟨_,e,_⟩;have A7:=(aj.1 d).1;rw[jS]at A7;omega
   rw[e];exact L6 _ u d⟩) (pI _) ub ub
  have P:Xb w w2:=q.grown uN q.size (λk D=>(M.lt k D).1);have e3:i+(m - (i+1))=m - 1:=ub;rw[e3]at cE J0;have UE:(l.take i++l.drop (i+1)).length=m - 1:=by rw[ce,cw,dj];omega
  have S4:(l.take i++l.drop (i+1)).Sublist l:=by
   have:=(List.drop_sublist_drop_left l (show i<=i+1 by omega)).append_left (l.take i);rwa [fh]at this
  obtain⟨T8,U9⟩:=RBr.put (l':=l.take i++l.drop (i+1)) hF C3 f P (by rw[UE,pj];exact q9 J0) (λx hx=>Am (S4.subset hx)) (f.dis.sublist S4) ub;rw[dq,oe,og,K]at T8;have z:=qd (r _ T8 U9);have c0'':Xc w2 mb 0 (C (G ⟨g,0,O⟩) m c):=((qk P).1 _ _ S).trans c0;have cz2:Xf w2 mb:=λj=>((qk P).2 _ _ S).trans (cz j)
  rcases aP with⟨H,rfl,rfl⟩|⟨H,rfl,rfl⟩
  .subst H
   rw[show m - (i+1)=0 by omega]at cE;go_enter func43,ntmps43
   go_wp2_with(go_at_call 75;refine be o λw' U=>?_;subst w')
   all_goals exact q9 z
  go_enter func43,ntmps43
  go_wp2_with(go_at_call 75;refine be o λw' U=>?_;subst w')
  all_goals exact q9 z
theorem qpc{l:List Rs}{s t:Rs}(d:l[i]?=G s)(q:t.id=s.id)(o:t.Q=s.Q):qO (l.set i t)=(qO l).set (i * 3+2) t.qv:=by
 induction l generalizing i with
 | nil=>simp at d
 | cons a r ih=>
  cases i with
  | zero=>
   simp at d;subst d;simp[qO,yd,q,o]
  | succ i=>
   have:=ih (i:=i) (by simpa using d);have e1:∀f:List Rs,qO (a::f)=yd a++qO f:=λf=>dp
   rw[List.set_cons_succ,e1,e1,this];have e:(i+1) * 3+2=(yd a).length+(i * 3+2):=by simp[yd];omega
   rw[e,nh _ _ ub]
   congr 2
   omega
def Ru.ms'(x:Ru)(ms:List Mg):Ru:=⟨x.id,x.Q,ms⟩
theorem MbAt.turn{n:Int}{l:List Rs}(h:MbAt w mb n (C (G ⟨g,0,O⟩) m c) l){x:Rs}(q:l[i]?=G x)(M:w.grownBy w2 x.qv.ownBlock){ms':List Mg}
  (hq:w2.ownsRow 0 147 2 (C qa ms'.length qc) ms'.length (qU ms')) (K:∀k,(C qa ms'.length qc).ownBlock=G k->x.qv.ownBlock=G k\/w.1.size<=k) :
  MbAt (w2.setCell ⟨g,i * 3+2,O⟩ (C qa ms'.length qc)) mb n (C (G ⟨g,0,O⟩) m c) (l.set i ⟨x.id,x.Q,qa,qc,ms'⟩):=by
 have Y:=bg q;have Z:=(aj.1 q).1
 have hm:m=l.length:=by
  rcases vB h.row with⟨e,_⟩|⟨g',c',e⟩;cases e;simp at e;exact e.2.1
 have mV:=(h.row.lt g rfl).2;have Q:x.qv.ownBlock≠G g:=λe=>zC (h.qs x Y) h.row ue e rfl
 have RZ:x.qv.ownBlock≠G mb:=vW (h.qs x Y) h.blk ue;have L:mb≠g:=λe=>by subst e;exact(vW h.row h.blk ue) rfl
 have N:∀k,k≠g->(w2.setCell ⟨g,i * 3+2,O⟩ (C qa ms'.length qc)).1[k]?=w2.1[k]?:=λk d=>au _ ⟨g,i * 3+2,O⟩ _ k (by show k≠g;exact d)
 have o:w2.1[g]?=w.1[g]?:=M.block g mV (λe=>Q e.symm)
 have I:(C qa ms'.length qc).ownBlock≠G g:=λe=>by
  rcases K g e with e|e;exact Q e;omega
 have disj:∀j y,j≠i->l[j]?=G y->∀k,y.qv.ownBlock=G k->x.qv.ownBlock≠G k:=by
  intro j y KJ D k IU S;have hp:=ed.1 h.dis;obtain⟨T,U⟩:=aj.1 D;obtain⟨_,X⟩:=aj.1 q;rcases Nat.lt_or_gt_of_ne KJ with A1|CI;have:=hp j i T Z A1 k (by rw[U];exact IU);rw[X]at this;exact this S;have:=hp i j Z T CI k (by rw[X];exact S);rw[U]at this;exact this IU
 refine⟨?_, ?_,λy D=>?_, ?_⟩;rw[N mb L,M.block mb h.lt (λe=>RZ e.symm)];exact h.blk;have e0:qO (l.set i ⟨x.id,x.Q,qa,qc,ms'⟩)=(qO l).set (i * 3+2) (C qa ms'.length qc):=qpc q rfl rfl;rw[eu,e0];have H:=h.row;rw[hm]at H |-;refine ga H ?_ ub;obtain⟨_,_,_,cur,A,_⟩:=vG H;rw[setCell_eq_setRow w g _ cur _ (0,0) _ A,setCell_eq_setRow w2 g _ cur _ (0,0) _ (o.trans A),setRow_heap w g cur _ _ (0,0) A,setRow_heap w2 g cur _ _ (0,0) (o.trans A)];obtain⟨j,f⟩:=dd D;rw[fq]at f
 split at f
 simp at f;obtain⟨_,rfl⟩:=f;exact qm hq λk d=>N k (λe=>by subst e;exact I d)
 rename_i J;have P:=h.qs y (bg f)
 exact qm P λk d=>by
  rw[N k (λe=>by subst e;exact zC P h.row ue d rfl)];exact M.block k (P.lt k d).2 (λe=>disj j y (λe=>J e.symm) f k d e.symm)
 rw[ed];intro a b u r S9 k d;rw[eu]at u r;rw[List.getElem_set]at d |-;have hp:=ed.1 h.dis a b u r S9
 split at d
 rename_i e;subst e;rw[ak ub];intro z;rcases K k d with e|e;exact disj b _ ub (ag r) k z e;have:=((h.qs _ (fm r)).lt k z).2;omega
 split
 rename_i hna e;subst e;intro z;rcases K k z with e|e;exact disj a _ ub (ag u) k d e;have:=((h.qs _ (fm u)).lt k d).2;omega;exact hp k d
theorem RBr.turn{n:Int}{l:List Rs}(A:∀k,F k->k<w.1.size)(D:l.length<=8)(f:∀k,qfr mb (C (G ⟨g,0,O⟩) m c) l k->F k)(h:MbAt w mb n (C (G ⟨g,0,O⟩) m c) l){x:Rs}(q:l[i]?=G x)(d:w.grownBy w2 x.qv.ownBlock){ms':List Mg}
  (hq:w2.ownsRow 0 147 2 (C qa ms'.length qc) ms'.length (qU ms')) (r:∀k,(C qa ms'.length qc).ownBlock=G k->x.qv.ownBlock=G k\/w.1.size<=k) :
  RBr (w2.setCell ⟨g,i * 3+2,O⟩ (C qa ms'.length qc)) (upF F w (w2.setCell ⟨g,i * 3+2,O⟩ (C qa ms'.length qc))) mb n ((l.map Rs.ru).set i (x.ru.ms' ms'))/\Grow F w (w2.setCell ⟨g,i * 3+2,O⟩ (C qa ms'.length qc)):=by
 have I:(w2.setCell ⟨g,i * 3+2,O⟩ (C qa ms'.length qc)).1.size=w2.1.size:=uc;have J:=d.size;refine⟨⟨λk a=>?_,by rw[eu,cd];exact D,_,_,h.turn q d hq r,by rw[ny];rfl,λk a=>?_⟩,d.os,d.tape,d.output,ub,λk H u=>?_⟩;rcases a with e|e;have:=A k e;omega;exact e.2;rcases a with rfl|a|⟨y,z,a⟩;exact Am (f _ (Am rfl));exact Am (f _ (An (Am a)));obtain⟨j,o⟩:=dd z;rw[fq]at o
 split at o
 simp at o;obtain⟨_,rfl⟩:=o;rcases r k a with e|e;exact Am (f _ (An (An ⟨x,bg q,e⟩)));exact An ⟨e,uu ((hq.lt k a).2)⟩;exact Am (f _ (An (An ⟨y,bg o,a⟩)));rw[au _ ⟨g,i * 3+2,O⟩ _ k (by show k≠g;rintro rfl;exact u (f _ (An (Am rfl))))];exact d.block k H (λe=>u (f _ (An (An ⟨x,bg q,e.symm⟩))))
end
end Go.Proofs.YtdmmmgodfceilaaGreatDoor
