/- The laws by the docume -/
import Derived.Test.YtdmmmgodfceilaaGreatDoorM29
import Derived.Test.YtdmmmgodfceilaaGreatDoorM23
set_option maxHeartbeats 16000000
set_option maxRecDepth 100000
namespace Go.Proofs.YtdmmmgodfceilaaGreatDoor
open Go.RowKit Go.Proofs.Tryz
open Go renaming Value->Ap,World->Ao
open Go.Ending renaming returned->Ak
open Go.IntKind renaming i64->J
open Go.Obj renaming cells->Al
open Go.Value renaming bool->Ah,int->I,pointer->Ag,slice->C,string->Y,tuple->Aj
open Option renaming none->O,some->G
section
variable {w W:Ao} {pv hv:Ap} {hs:List (Nat×Nat)} {ps:List Pl} {i:Nat} {p:Pl} {x:Ox}
theorem qm4(h:ApAt w W pv hv hs ps (λ_=>False))(f:ps[i]?=G p)(o:OxOk W x)(q:x.A=7):
  ua 18 #[Ag (G ⟨w.1.size,0,O⟩),ptV p,oxV x] W λe W'=>e=Ak (Ah true)/\AfPl w pv hv hs ps i p.last W':=by
 obtain⟨u,s,t,D⟩:=o.ev.slice;have hp:=h.each p (bg f);have c0:=hp.c0;have plt:=hp.lt;have pne:¬p.pb=W.1.size:=ub;have g:=qd λ(U:Ao) (hb:Xb W U)=>vc3 (h.below hb) f x.id
 have z:=qd λ(U c:Ao) (hg:Grow p.own U c) (hU:U.1=(W.alloc (Al #[I J 7,I J x.n,I J x.id,Y (BS x.Q),C x.la x.ts.length x.lc,C u s t] 34)).1)=>qnt hp.sz hU hg
 generalize (yB p.L x.id).2=E at g;have l:=qd ((Below.refl W.1.size W).alloc ui (Al #[I J 7,I J x.n,I J x.id,Y (BS x.Q),C x.la x.ts.length x.lc,C u s t] 34));unfold oxV ptV;rw[q,D];clear h o q D hp f;go_enter func18,ntmps18
 go_wp2
 go_cut [11] (λd a=>d=I J E/\Hid ((W.1.size<a.1.size/\Xc a W.1.size 2 (I J x.id)/\Xc a W.1.size 3 (Y (BS x.Q))/\Xc a p.pb 1 (Ag (G ⟨p.mb,0,O⟩)))/\∀V,Xb a V->ua 43 #[Ag (G ⟨p.mb,0,O⟩),I J x.id] V λe W2=>e=Ak (I J E)/\AfPl w pv hv hs ps i p.last W2))
 case first=>
  go_region_with(go_at_call 42;refine be (g _ (by first|exact q9 l|exact l.drew)) ?_;rintro c⟨A,v,b⟩;have j:=qd b;obtain⟨n,m⟩:=q9 z _ _ A rfl;have b2:Xc c W.1.size 2 (I J x.id):=(m 2).trans uc;have y:Xc c W.1.size 3 (Y (BS x.Q)):=(m 3).trans uc;clear A b m)
  all_goals
   go_wp2
   go_meet
   exact⟨rfl,qd ⟨⟨n,b2,y,v⟩,q9 j⟩⟩
 obtain⟨rfl,B⟩:=hcut;obtain⟨⟨n,b2,y,v⟩,b⟩:=q9 B;have j:=qd b;clear b B g z l c0
 go_wp2
 go_region_with(go_at_call 43;refine be (j _ (by first|exact uj|exact(uj).drew)) λw2 r=>?_;have F:=qd r;clear r)
 all_goals
  go_wp2
  go_ret;exact⟨rfl,q9 F⟩
theorem qru(h:ApAt w W pv hv hs ps (λ_=>False))(j:ps[i]?=G p)(q:OxOk W x)(r:x.A=9):
  ua 18 #[Ag (G ⟨w.1.size,0,O⟩),ptV p,oxV x] W λe W'=>e=Ak (Ah true)/\AfPl w pv hv hs ps i p.last W':=by
 obtain⟨v,t,u,F⟩:=q.ev.slice;have hp:=h.each p (bg j);have c0:=hp.c0;have plt:=hp.lt;have pne:¬p.pb=W.1.size:=ub;have d:=qd λ(U:Ao) (hb:Xb W U)=>vit (h.below hb) j x.id
 have A:=qd λ(U c:Ao) (hg:Grow p.own U c) (hU:U.1=(W.alloc (Al #[I J 9,I J x.n,I J x.id,Y (BS x.Q),C x.la x.ts.length x.lc,C v t u] 34)).1)=>qnt hp.sz hU hg
 generalize (yT p.L x.id).2.1=E at d;generalize (yT p.L x.id).2.2=P at d;have m:=qd ((Below.refl W.1.size W).alloc ui (Al #[I J 9,I J x.n,I J x.id,Y (BS x.Q),C x.la x.ts.length x.lc,C v t u] 34));unfold oxV ptV;rw[r,F];clear h q r F hp j;go_enter func18,ntmps18
 go_wp2
 go_cut [13,14] (λg f a=>g=I J E/\f=I J P/\Hid ((W.1.size<a.1.size/\Xc a W.1.size 2 (I J x.id)/\Xc a W.1.size 3 (Y (BS x.Q))/\Xc a p.pb 1 (Ag (G ⟨p.mb,0,O⟩)))/\∀V,Xb a V->ua 45 #[Ag (G ⟨p.mb,0,O⟩),I J x.id] V λe W2=>e=Ak (Aj #[I J E,I J P])/\AfPl w pv hv hs ps i p.last W2))
 case first=>
  go_region_with(go_at_call 44;refine be (d _ (by first|exact q9 m|exact m.drew)) ?_;rintro c⟨B,y,b⟩;have l:=qd b;obtain⟨o,n⟩:=q9 A _ _ B rfl;have b2:Xc c W.1.size 2 (I J x.id):=(n 2).trans uc;have z:Xc c W.1.size 3 (Y (BS x.Q)):=(n 3).trans uc;clear B b n)
  all_goals
   go_wp2
   go_meet
   exact⟨rfl,rfl,qd ⟨⟨o,b2,z,y⟩,q9 l⟩⟩
 obtain⟨rfl,rfl,D⟩:=hcut;obtain⟨⟨o,b2,z,y⟩,b⟩:=q9 D;have l:=qd b;clear b D d A m c0
 go_wp2
 go_region_with(go_at_call 45;refine be (l _ (by first|exact uj|exact(uj).drew)) λw2 s=>?_;have H:=qd s;clear s)
 all_goals
  go_wp2
  go_ret;exact⟨rfl,q9 H⟩
end
def qd8(c n:Int):Int:=if c<0 then -(c+1).tmod n else c % n
theorem qxe(c:Int){n:Int}(a:0<n):0<=qd8 c n/\qd8 c n<n:=by
 unfold qd8
 split
 .have h1:=Int.tmod_nonneg n (show 0<=-(c+1) by omega)
  have b:=Int.tmod_lt_of_pos (-(c+1)) a;rw[Int.neg_tmod]at h1 b;exact⟨h1,b⟩
 exact⟨Int.emod_nonneg _ ub,Int.emod_lt_of_pos _ a⟩
theorem qxf(c n:Int)(a:Rng c)(b:0<n)(w:Ao):ua 16 #[I J c,I J n] w λe w'=>e=Ak (I J (qd8 c n))/\w'=w:=by
 have d:=a.1;unfold qd8
 by_cases h:c<0
 .rw[bo h]
  have hd:decide (c<0)=true:=di h;go_enter func16,ntmps16
  go_wp2
  go_ret;exact⟨rfl,rfl⟩
 rw[ak h];go_enter func16,ntmps16
 go_wp2
 go_ret;exact⟨rfl,rfl⟩
def ApOk(w:Ao)(k:Nat)(W:Ao):Prop:=∃pv hv hs ps,ApAt w W pv hv hs ps (λ_=>False)/\ps.length<=k/\(∀p∈ps,p.last<=k)/\hs.length<=12 * k
section
variable {w W W':Ao} {pv hv:Ap} {hs:List (Nat×Nat)} {ps:List Pl} {i k:Nat} {p p':Pl} {x:Ox}
theorem ApOk.below(h:ApOk w k W)(a:Xb W W'):ApOk w k W':=by
 obtain⟨pv,hv,hs,ps,c,b⟩:=h;exact⟨pv,hv,hs,ps,c.below a,b⟩
theorem ApOk.u(h:ApOk w k W):Xb w W:=by
 obtain⟨pv,hv,hs,ps,a,b⟩:=h;exact a.hr.at'.u
theorem ApOk.more(h:ApOk w k W):ApOk w (k+1) W:=by
 obtain⟨pv,hv,hs,ps,b,d,a,c⟩:=h;exact⟨pv,hv,hs,ps,b,ub,λp hp=>uu (a p hp),ub⟩
theorem ApOk.start(w:Ao):ApOk w 0 (w.alloc (Al #[C O 0 0,C O 0 0] 30)):=⟨_,_,[],[],ApAt.start w,bt _,λp hp=>by simp at hp,bt _⟩
theorem ApOk.set(c:ps.length<=k)(a:∀p∈ps,p.last<=k)(b:hs.length<=12 * k+12)(hp:p'.last<=k+1)(h:ApAt w W pv hv hs (ps.set i p') (λ_=>False)):ApOk w (k+1) W:=
 ⟨pv,hv,hs,_,h,by rw[eu];omega,λq hq=>by
  rcases lh hq with hq|rfl
  .have:=a q hq;omega
  .omega,ub⟩
theorem qv3(h:ApAt w W pv hv hs ps (λ_=>False))(c:ps[i]?=G p)(m:ps.length<=k)(d:∀p∈ps,p.last<=k)(t:hs.length<=12 * k)(s:k<=1599289640401)(j:OxOk w x)(o:LibOk w)(hd:x.A=6\/x.A=7\/x.A=8\/x.A=9):
  ua 18 #[Ag (G ⟨w.1.size,0,O⟩),ptV p,oxV x] W λe W'=>e=Ak (Ah true)/\ApOk w (k+1) W':=by
 have l:=h.hr.at'.u;have g:=j.below l;have hp:=d p (bg c);have f:∀W',AfPl w pv hv hs ps i p.last W'->ApOk w (k+1) W':=λW' ⟨p',a,b,n⟩=>ApOk.set m d ub ub a
 rcases hd with hd|hd|hd|hd;exact(qv5 h c g (o.below l ui) hd).mono λe W' ⟨a,b⟩=>⟨a,f W' b⟩
 exact(qm4 h c g hd).mono λe W' ⟨a,b⟩=>⟨a,f W' b⟩
 exact(qv4 h c j hd ub ub).mono λe W' ⟨a,p',hv',u,b,n,r,q⟩=>⟨a,ApOk.set m d ub ub b⟩
 exact(qru h c g hd).mono λe W' ⟨a,b⟩=>⟨a,f W' b⟩
theorem qvd(h:ApAt w W pv hv hs ps (λ_=>False))(c:ps[i]?=G p)(l:ps.length<=k)(d:∀p∈ps,p.last<=k)(j:hs.length<=12 * k)(n:k<=1599289640401)(g:OxOk w x)(hd:x.A=10\/x.A=11):
  ua 17 #[Ag (G ⟨w.1.size,0,O⟩),ptV p,oxV x] W λe W'=>e=Ak (Ah true)/\ApOk w (k+1) W':=by
 have f:=g.below h.hr.at'.u;rcases hd with hd|hd;exact(qm8 h c f hd).mono λe W' ⟨b,a⟩=>⟨b,ApOk.more ⟨_,_,_,_,a,l,d,j⟩⟩
 exact(qrw h c f hd ub).mono λe W' ⟨b,hv',o,a,m⟩=>⟨b,_,_,_,_,a,ub,λq hq=>uu (d q hq),ub⟩
end
section
variable {w W:Ao} {k:Nat} {x:Ox}
theorem vgo(h:ApOk w k W)(b:OxOk w x)(y:k<=1599289640401)(hd:x.A=5):ua 9 #[Ag (G ⟨w.1.size,0,O⟩),oxV x] W λe W'=>e=Ak (Ah true)/\ApOk w (k+1) W':=by
 obtain⟨s,o,r,d⟩:=b.ev.slice
 have v:Hid (∀U,Xb W U->ua 8 #[Ag (G ⟨w.1.size,0,O⟩)] U λe W'=>e=Ak (Ah true)/\ApOk w (k+1) W'):=qd λU l=>by
  obtain⟨pv,hv,hs,ps,n,A,m,z⟩:=h.below l
  exact(qcp n ub).mono λe W' ⟨j,a,p,g,f⟩=>⟨j,a,hv,hs,_,g,by rw[ce,du];omega,λq hq=>by
   rcases cr.1 hq with hq|hq;have:=m q hq;omega
   rw[cu.1 hq,f];omega,ub⟩
 have u:=qd ((Below.refl W.1.size W).alloc ui (Al #[I J 5,I J x.n,I J x.id,Y (BS x.Q),C x.la x.ts.length x.lc,C s o r] 34));unfold oxV;rw[hd,d];clear h b hd d;go_enter func9,ntmps9
 go_wp2_with(go_at_call 8;refine be (v _ u) λw2 c=>?_;have t:=qd c;clear c)
 go_ret;exact⟨rfl,q9 t⟩
theorem vak(h:ApOk w k W)(d:OxOk w x)(Q:LibOk w)(H:k<=1599289640401)(hd:6<=x.A):ua 9 #[Ag (G ⟨w.1.size,0,O⟩),oxV x] W λe W'=>e=Ak (Ah true)/\ApOk w (k+1) W':=by
 obtain⟨Z,T,X,l⟩:=d.ev.slice;obtain⟨K,f⟩:=it x.A;have o:=(Below.refl W.1.size W).alloc ui (Al #[I J K,I J x.n,I J x.id,Y (BS x.Q),C x.la x.ts.length x.lc,C Z T X] 34);have s:=qd o;have B:=qd (h.below o).more;obtain⟨pv,hv,hs,ps,b,A,z,y⟩:=h;have wlt:=b.hr.at'.lt;have wne:¬w.1.size=W.1.size:=ub;have c0:=b.hr.at'.c0;rw[f]at hd;have k1:¬K=1:=ub;have k2:¬K=2:=ub;have k3:¬K=3:=ub;have k4:¬K=4:=ub;have k5:¬K=5:=ub;have k6:¬K<6:=ub
 by_cases k11:11<K
 .obtain⟨pa,pc,j⟩:=jF b.row
  rw[j]at c0;unfold oxV;rw[f,l];clear b d l f o;go_enter func9,ntmps9
  go_wp2
  go_ret;exact⟨rfl,q9 B⟩
 by_cases hps:ps.length=0
 .obtain⟨pa,pc,j⟩:=jF b.row
  rw[j,hps]at c0;unfold oxV;rw[f,l];clear b d l f o;go_enter func9,ntmps9
  go_wp2
  go_ret;exact⟨rfl,q9 B⟩
 obtain⟨n,F⟩:=it ps.length;have L:=ur n;obtain⟨S,R⟩:=qxe x.n L;obtain⟨q,hq⟩:∃q:Nat,qd8 x.n (n:Int)=(q:Int):=⟨(qd8 x.n n).toNat,ub⟩;have P:q<n:=ub;obtain⟨p,r⟩:∃p,ps[q]?=G p:=⟨_,ag ub⟩;obtain⟨g,c,j,gl,cq⟩:=b.at r;rw[j,F]at c0
 have M:Hid (∀U,ua 16 #[I J x.n,I J n] U λe w'=>e=Ak (I J (q:Nat))/\w'=U):=qd λU=>by
  have:=qxf x.n n d.n L U;rw[hq]at this;exact this
 have gne:¬g=W.1.size:=ub;have q0:=um q;have q1:=uo q n;have n0:¬(n:Int)=0:=ub;have N:¬n=0:=ub;have u:Hid (K<10->∀U,Xb W U->ua 18 #[Ag (G ⟨w.1.size,0,O⟩),ptV p,oxV x] U λe W'=>e=Ak (Ah true)/\ApOk w (k+1) W'):=qd λa U v=>qv3 (b.below v) r A z y H d Q ub
 have t:Hid (¬K<10->∀U,Xb W U->ua 17 #[Ag (G ⟨w.1.size,0,O⟩),ptV p,oxV x] U λe W'=>e=Ak (Ah true)/\ApOk w (k+1) W'):=qd λa U v=>qvd (b.below v) r A z y H d ub
 unfold oxV ptV at *;rw[f,l]at u t |-;clear b A z y d l f o B r j hq S R F hps
 by_cases a:K<10
 .have KI:¬10<=K:=ub
  have E:=qd (u a);clear t u;go_enter func9,ntmps9
  go_wp2
  go_quiet ((go_at_call 16;exact ol (M _)))
  go_wp2_with(go_at_call 18;refine be (E _ (by first|exact q9 s|exact ep s _)) λw2 m=>?_;have D:=qd m;clear m)
  go_ret;exact⟨rfl,q9 D⟩
 have KI:10<=K:=ub;have E:=qd (t a);clear t u;go_enter func9,ntmps9
 go_wp2
 go_quiet ((go_at_call 16;exact ol (M _)))
 go_wp2_with(go_at_call 17;refine be (E _ (by first|exact q9 s|exact ep s _)) λw2 m=>?_;have D:=qd m;clear m)
 go_ret;exact⟨rfl,q9 D⟩
theorem vaj(h:ApOk w k W)(a:OxOk w x)(c:LibOk w)(b:k<=1599289640401)(hd:5<=x.A):ua 9 #[Ag (G ⟨w.1.size,0,O⟩),oxV x] W λe W'=>e=Ak (Ah true)/\ApOk w (k+1) W':=by
 by_cases h5:x.A=5
 exact vgo h a b h5;exact vak h a c b ub
end
theorem ve4{w W:Ao}{k:Nat}(h:ApOk w k W)(f:k<=1599289640401):ua 10 #[Ag (G ⟨w.1.size,0,O⟩)] W λe W'=>e=Ak (Ah true)/\ApOk w k W':=by
 have d:=h;obtain⟨pv,hv,hs,ps,c,l,j,g⟩:=h;exact(qxd c.hr.at' ub).mono λe W' ⟨b,a⟩=>⟨b,d.below a⟩
theorem OpsAt.below{W W':Ao}{v:Ap}{l:List Ox}(h:OpsAt W v l)(c:Xb W W'):OpsAt W' v l:=by
 obtain⟨a,cap,e,r,q,o⟩:=h
 exact⟨a,cap,e,r,q,λi x n=>by
  obtain⟨j,b,off,g,d,f⟩:=o i x n
  exact⟨j.below c,b,off,g,aq d c.size,λk m=>((qk c).1 _ _ d).trans (f k m)⟩⟩
theorem vbb(le a:Int)(n:5<=le)(w:Ao)(v:Ap)(l:List Ox)(b:OpsAt w v l)(g:LibOk w):ut 7 #[v,I J le,I J a] w (I J (-1)):=by
 have o:88 * l.length<=140737488355328:=by obtain⟨_,_,_,_,h,_⟩:=b;exact h
 exact(quk le a (ApOk w) w v l b (ApOk.start w) (λk W h=>h.u) (λk W W' h f=>h.below f) (λk W h=>h.more) (λk W x d h c hd=>vaj h c g ub ub) (λk W d h=>ve4 h ub)).mono λe w' ⟨m,j⟩=>⟨m,j.u⟩
theorem vby(w:Ao)(v:Ap)(l:List Ox)(c:OpsAt w v l)(e:LibOk w):ut 3 #[v] w (Ah true):=by
 have g:=qd (ve9 w);have f:Hid (∀W,Xb w W->ut 7 #[v,I J 5,I J 9] W (I J (-1))):=qd λW d=>vbb 5 9 ue W v l (c.below d) (e.below d ui)
 obtain⟨a,cap,rfl,_⟩:=c;clear e;go_enter func3,ntmps3
 go_wp2_with(first|(go_at_call 6;refine be g λm b=>?_)|(go_at_call 7;refine be (f _ (by first|exact b|exact b.drew)) λw2 j=>?_))
 go_ret;exact⟨rfl,qg (by first|exact b|exact b.drew) j⟩
theorem vsi(w:Ao)(v:Ap)(l:List Ox)(c:OpsAt w v l)(e:LibOk w):ut 4 #[v] w (Ah true):=by
 have g:=qd (ve9 w);have f:Hid (∀W,Xb w W->ut 7 #[v,I J 10,I J 11] W (I J (-1))):=qd λW d=>vbb 10 11 ue W v l (c.below d) (e.below d ui)
 obtain⟨a,cap,rfl,_⟩:=c;clear e;go_enter func4,ntmps4
 go_wp2_with(first|(go_at_call 6;refine be g λm b=>?_)|(go_at_call 7;refine be (f _ (by first|exact b|exact b.drew)) λw2 j=>?_))
 go_ret;exact⟨rfl,qg (by first|exact b|exact b.drew) j⟩
end Go.Proofs.YtdmmmgodfceilaaGreatDoor
