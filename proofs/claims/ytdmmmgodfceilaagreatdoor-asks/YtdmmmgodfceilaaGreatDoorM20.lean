/- The document's answer -/
import Derived.Test.YtdmmmgodfceilaaGreatDoorM17
import Derived.Test.YtdmmmgodfceilaaGreatDoorM25
set_option maxHeartbeats 16000000
set_option maxRecDepth 100000
namespace Go.Proofs.YtdmmmgodfceilaaGreatDoor
open Go.RowKit Go.Proofs.Tryz
open Go renaming Value->Ap,World->Ao
open Go.Ending renaming returned->Ak
open Go.IntKind renaming i64->J
open Go.Obj renaming cells->Al
open Go.Value renaming agg->Ai,bool->Ah,int->I,pointer->Ag,slice->C,string->Y,tuple->Aj
open Option renaming none->O,some->G
open Or renaming inl->Am,inr->An
variable{neg:Bool}{E Ae O2 S:tq}{x y:Co}{Q:Ending->Ao->Prop}{N a c o:Int}{ts:List tu}{hs:List (Nat×Nat)}{D cs ds vs:List Co}{ps:List Pr}{l ns:List RN}{bxs nxs xs:List Ap}{b base bn bytes cap gb hb k m n nn:Nat}{R R0:Nat->Prop}{p:Pay}{g h:RF}{P PZ:RF->Ao->Prop}{t:Tm}{T e:TypeId}{i0:TypeInfo}{bv ev hv inv iv lv nv v z:Ap}{W w:Ao}
section
attribute [local go_sem ↓] vsj
theorem vfq(h:TwRow w base v ts)(U:ts.length<=1000000000000)(t:tu):ua 105 #[v,Y (BS t)] w λe w'=>e=Ak (Ah (ts.contains t))/\w'=w:=by
 have L:∃a c,v=C a ts.length c:=by
  rcases h.2 with⟨rfl,M⟩|⟨g,cap,cur,rfl,_⟩;exact⟨O,0,by rw[M]⟩;exact⟨_,_,rfl⟩
 obtain⟨a,c,rfl⟩:=L;have H:=qd h;obtain⟨n,f⟩:=it ts.length;rw[f]at H U |-;have s:=qd f;obtain⟨R,B⟩:=it (ts.contains t);rw[B];have F:=qd B;clear h f B;go_enter func105,ntmps105
 go_wp2
 go_loopw [5] (λi wr=>∃k:Nat,k<=n/\i=I J k/\wr=w/\Hid (∀j,j<k->ts[j]?≠G t)) (λi _=>n - (intOf i).toNat)
 exact⟨0,bt _,rfl,rfl,qd λj d=>ub⟩;obtain⟨k,X,rfl,rfl,K⟩:=hrel
 by_cases A1:k<n
 .obtain⟨u,hu⟩:∃u,ts[k]?=G u:=⟨_,ag (uu (q9 s))⟩
  obtain⟨g,cap,e,_,Z,q⟩:=TwRow.cell (show TwRow wr base (C a ts.length c) ts by rw[q9 s];exact q9 H) hu;injection e with e _ _;subst e;have T9:=um k;have A4:=uo k n
  by_cases he:u=t
  .have hq:((BS u).toList==(BS t).toList)=true:=by rw[he];exact om _
   have r:Hid (R=true):=qd (by rw[<-q9 F,tj,<-he];exact bg hu);clear hu he
   go_wp2
   go_ret;exact⟨by rw[q9 r];rfl,rfl⟩
  have hq:((BS u).toList==(BS t).toList)=false:=by rw[qP,qP];exact bh.2 he
  have A:Hid (∀j,j<k+1->ts[j]?≠G t):=qd λj d e=>by
   by_cases hjk:j=k
   rw[hjk,hu]at e;injection e with e;exact he e;exact q9 K j ub e
  clear hu he
  go_wp2
  go_roundw
  case rel=>exact⟨k+1,A1,by go_num,by first|rfl|trivial,A⟩
  simp[intOf];omega
 have Z0:k=n:=ub
 have r:Hid (R=false):=qd (by
  rw[<-q9 F]
  cases q:ts.contains t with
  | false=>rfl
  | true=>
   rw[tj]at q;obtain⟨j,d⟩:=dd q
   exact absurd d (K j (by have:=(aj.1 d).1;have:=q9 s;omega)))
 have OM:=uq k n
 go_wp2
 go_ret;exact⟨by rw[q9 r];rfl,rfl⟩
theorem TwRow.app2(h:TwRow W base v ts)(hb:base<=W.1.size)(x:tu)(L:ts.length<=1000000000000)(H:Nat)(u:W.1.size=H):
  ∃g cap d,(qe9 #[31,31] 31 #[v,C (G ⟨H,0,O⟩) 1 1]).run prog (W.alloc (Al #[Y (BS x)] 9))=.ok (C (G ⟨g,0,O⟩) (ts.length+1) cap) d /\
   Hid (TwRow d base (C (G ⟨g,0,O⟩) (ts.length+1) cap) (ts++[x]))/\Hid (Below base W d)/\Hid (∀b,b<W.1.size->v.ownBlock≠G b->d.1[b]?=W.1[b]?)/\Hid (v.ownBlock=G g\/W.1.size<g)/\Hid (W.1.size<=d.1.size):=by
 subst u;obtain⟨i0,s,B,J,I⟩:=info_parts qcy;have j:=World.ownsRow.alloc h (Al #[Y (BS x)] 9);obtain⟨g,cap,d,q,K,i,F,_⟩:=run_append_lies (P:=prog) (W.alloc (Al #[Y (BS x)] 9)) 31 31 base 9 i0 _ 1 16 underlying31 s B J I rfl ub v ts.length _ j
  ⟨W.1.size,0,O⟩ 1 1 [Y (BS x)] rfl (World.news_of_block (cs:=#[Y (BS x)]) (t:=9) (fr:=(0,0)) (heap_alloc_new W _)) (by simp[Value.oneCell']) ub (by unfold maxLen;omega) ub ud _ rfl
 refine⟨g,cap,d,q,qd ?_,qd ?_,qd ?_,qd ?_,qd ?_⟩
 .show World.ownsRow _ _ _ _ _ _ _
  rw[ce,du,qx,dq];exact K
 exact Go.RowKit.Below.grown (((Below.refl base W).alloc hb _)) i ud (λk r=>(j.lt k r).1);intro b A f;exact(i.block b ud (λe=>f e.symm)).trans (((Below.refl W.1.size W).alloc ui _).block b A);rcases F with h|h;exact Am h
 right;rw[h];simp
 have:=i.size;simp at this;omega
end
theorem qyx(M:inv=C (G ⟨b,0,O⟩) n cap)(hn:1<=n)(U:b<w.1.size)(q:∀k,k<6->w.cell? ⟨b,k,O⟩=(qw g)[k]?)
   (A:xJ w PZ) (F:ju w PZ P 102 λ_=>#[g.v])
   (B:jh w P Q):ua 101 #[Ai #[Y ⟨#[78,79,84]⟩,I J a,iv,Y S,Y E,lv,I J N,Ah neg,I J c],inv] w Q:=by
 have X:=jv A (Y ⟨#[78,79,84]⟩) (I J a) iv (Y S) (Y E) lv (I J N) (Ah neg) (I J c);have H:=qd F;have M5:=qd B;simp only[ju,jh,RF.v]at H M5;clear A F B;have u:=kb1 U q;obtain⟨c0,c1,c2,c3,c4,c5⟩:=q9 u w uj;have np:¬b=w.1.size:=ub;have lC:¬b=w.1.size+1:=ub;have rU:¬w.1.size+1=b:=ub;have eO:0<n:=ub;have cY:=ur n;clear q;subst M;go_enter func101,ntmps101
 go_wp2_with(first|(go_at_call 102;refine(H _ _ _ f K L d).mono ?_;rintro e w1⟨i,r,rfl,hp⟩;have D6:=qd (qg (qg f d) i);obtain⟨-,-,-,-,-,-,-,-,-,q0,q1,q2,q3,q4,q5,qz,ql,-,-,-,-⟩:=(q9 s).below i;have bB:=qd hp;clear i hp)|(go_at_call 145;refine X.mono ?_;rintro e j⟨z,rfl,f,L,⟨n0,-,-,-,-,-,-,-,-,r0,r1,r2,r3,r4,r5,rz,K,lB,lA,iZ,iY⟩,s,d⟩;obtain⟨m0,-,-,-,-,-,-,-,-,s0,s1,s2,s3,s4,s5,sz,sl,-,-,-,-⟩:=q9 s;obtain⟨v0,v1,v2,v3,v4,Z⟩:=q9 u _ (qg f d);have sS:¬b=j.1.size:=ub;have iE:¬j.1.size=b:=ub))
 all_goals exact jU
theorem qf6(X:inv=C (G ⟨b,0,O⟩) n cap)(hn:1<=n)(Z:b<w.1.size)(u:∀k,k<6->w.cell? ⟨b,k,O⟩=(qw g)[k]?)(U:(Ae=⟨#[112]⟩/\O2=⟨#[43]⟩)\/(Ae=⟨#[110]⟩/\O2=⟨#[45]⟩))
   (B:xJ w PZ) (H:ju w PZ P 148 λz=>#[Y O2,z.v,g.v])
   (F:jh w P Q):ua 101 #[Ai #[Y Ae,I J a,iv,Y S,Y E,lv,I J N,Ah neg,I J c],inv] w Q:=by
 have DZ:=jv B (Y Ae) (I J a) iv (Y S) (Y E) lv (I J N) (Ah neg) (I J c);have K:=qd H;have M5:=qd F;simp only[ju,jh,RF.v]at K M5;clear B H F;have q:=kb1 Z u;obtain⟨c0,c1,c2,c3,c4,c5⟩:=q9 q w uj;have np:¬b=w.1.size:=ub;have lC:¬b=w.1.size+1:=ub;have rU:¬w.1.size+1=b:=ub;have eO:0<n:=ub;have cY:=ur n;clear u;subst X;rcases U with⟨rfl,rfl⟩|⟨rfl,rfl⟩
 all_goals go_enter func101,ntmps101
 all_goals go_wp2_with(go_at_call 145;refine DZ.mono ?_;rintro e d⟨z,rfl,s,M,⟨n0,-,-,-,-,-,-,-,-,r0,r1,r2,r3,r4,r5,rz,L,lB,lA,iZ,iY⟩,A,j⟩;obtain⟨m0,-,-,-,-,-,-,-,-,s0,s1,s2,s3,s4,s5,sz,sl,-,-,-,-⟩:=q9 A;obtain⟨v0,v1,v2,v3,v4,v5⟩:=q9 q _ (qg s j);have sS:¬b=d.1.size:=ub;have iE:¬d.1.size=b:=ub)
 all_goals go_region_held3 (λW=>Kt1 W d.1.size z (Kx1 W b g)) (first|with_reducible assumption|(simp only[Kt1,Kx1];go_keep)) (first|(go_at_call 148;refine(K _ _ _ s L M j.drew).mono ?_;rintro e w1⟨i,r,rfl,hp⟩;have D6:=qd (qg (qg s j.drew) i);obtain⟨-,-,-,-,-,-,-,-,-,q0,q1,q2,q3,q4,q5,qz,ql,-,-,-,-⟩:=(q9 A).drew.below i;have bB:=qd hp;have hS:(Kt1 w1 d.1.size z (Kx1 w1 b g)):=(by have f:=(qk i).1;exact⟨(f _ 0 (by show d.1.size<(d.alloc _).1.size;simp)).trans (by show(d.alloc _).cell? _=_;simp[go_sem]),(f _ 1 (by show d.1.size<(d.alloc _).1.size;simp)).trans (by show(d.alloc _).cell? _=_;simp[go_sem]),(f _ 2 (by show d.1.size<(d.alloc _).1.size;simp)).trans (by show(d.alloc _).cell? _=_;simp[go_sem]),(f _ 3 (by show d.1.size<(d.alloc _).1.size;simp)).trans (by show(d.alloc _).cell? _=_;simp[go_sem]),(f _ 4 (by show d.1.size<(d.alloc _).1.size;simp)).trans (by show(d.alloc _).cell? _=_;simp[go_sem]),(f _ 5 (by show d.1.size<(d.alloc _).1.size;simp)).trans (by show(d.alloc _).cell? _=_;simp[go_sem]),q9 q _ D6⟩);clear i hp))
 all_goals go_wp2
 all_goals exact jU
theorem qf5(U:inv=C (G ⟨b,0,O⟩) n cap)(hn:2<=n)(X:b<w.1.size)(s:∀k,k<12->w.cell? ⟨b,k,O⟩=(qw g++qw h)[k]?)(M:(Ae=⟨#[62]⟩/\O2=⟨#[60]⟩)\/(Ae=⟨#[62,61]⟩/\O2=⟨#[60,61]⟩))
   (A:xJ w PZ) (F:ju w PZ P 148 λ_=>#[Y O2,h.v,g.v])
   (B:jh w P Q):ua 101 #[Ai #[Y Ae,I J a,iv,Y S,Y E,lv,I J N,Ah neg,I J c],inv] w Q:=by
 have Z:=jv A (Y Ae) (I J a) iv (Y S) (Y E) lv (I J N) (Ah neg) (I J c);have H:=qd F;have M5:=qd B;simp only[ju,jh,RF.v]at H M5;clear A F B;have f:=kb2 X s;obtain⟨c0,c1,c2,c3,c4,c5,c6,c7,c8,c9,ED,EC⟩:=q9 f w uj;have np:¬b=w.1.size:=ub;have lC:¬b=w.1.size+1:=ub;have rU:¬w.1.size+1=b:=ub;have eO:0<n:=ub;have cY:=ur n;have t9:1<n:=ub;have BR:(1:Int)<(n:Int):=ub;clear s;subst U;rcases M with⟨rfl,rfl⟩|⟨rfl,rfl⟩
 all_goals go_enter func101,ntmps101
 all_goals go_wp2_with(go_at_call 145;refine Z.mono ?_;rintro e q⟨z,rfl,i,L,⟨n0,-,-,-,-,-,-,-,-,r0,r1,r2,r3,r4,r5,rz,K,lB,lA,iZ,iY⟩,u,d⟩;obtain⟨m0,-,-,-,-,-,-,-,-,s0,s1,s2,s3,s4,s5,sz,sl,-,-,-,-⟩:=q9 u;obtain⟨v0,v1,v2,v3,v4,v5,v6,v7,v8,v9,AK,AJ⟩:=q9 f _ (qg i d);have sS:¬b=q.1.size:=ub;have iE:¬q.1.size=b:=ub)
 all_goals go_region_held3 (λW=>Kx2 W b g h) (first|with_reducible assumption|(simp only[Kx2];go_keep)) (first|(go_at_call 148;refine(H _ _ _ i K L d.drew).mono ?_;rintro e w1⟨j,r,rfl,hp⟩;have D6:=qd (qg (qg i d.drew) j);obtain⟨-,-,-,-,-,-,-,-,-,q0,q1,q2,q3,q4,q5,qz,ql,-,-,-,-⟩:=(q9 u).drew.below j;have bB:=qd hp;have hS:(Kx2 w1 b g h):=q9 f _ D6;clear j hp))
 all_goals go_wp2
 all_goals exact jU
theorem qyy(X:inv=C (G ⟨b,0,O⟩) n cap)(hn:2<=n)(O0:b<w.1.size)(Z:∀k,k<12->w.cell? ⟨b,k,O⟩=(qw g++qw h)[k]?)(d:∀l∈[[110,97,109,101],[110,117,109,98,101,114],[116,101,120,116],[84,82,85,69],[70,65,76,83,69],[78,79,84],[112],[110],[60,62],[62],[62,61],[66,69,84,87,69,69,78],[73,78],[78,85,76,76],[76,73,75,69]],(Ae.toList==l)=false)
   (HZ:xJ w PZ) (H1:ju w PZ P 148 λ_=>#[Y Ae,g.v,h.v])
   (HQ:jh w P Q):ua 101 #[Ai #[Y Ae,I J a,iv,Y S,Y E,lv,I J N,Ah neg,I J c],inv] w Q:=by
 have DZ:=jv HZ (Y Ae) (I J a) iv (Y S) (Y E) lv (I J N) (Ah neg) (I J c);have A:=qd H1;have M5:=qd HQ;simp only[ju,jh,RF.v]at A M5;have i:=kb2 O0 Z;obtain⟨c0,c1,c2,c3,c4,c5,c6,c7,c8,c9,ED,EC⟩:=q9 i w uj;have rU:¬w.1.size+1=b:=ub;have eO:0<n:=ub;have BR:(1:Int)<(n:Int):=ub;subst X;have k0:(Ae.toList==[110,97,109,101])=false:=d _ uc;have k1:(Ae.toList==[110,117,109,98,101,114])=false:=d _ uc;have k2:(Ae.toList==[116,101,120,116])=false:=d _ uc;have k3:(Ae.toList==[84,82,85,69])=false:=d _ uc;have k4:(Ae.toList==[70,65,76,83,69])=false:=d _ uc;have k5:(Ae.toList==[78,79,84])=false:=d _ uc;have k6:(Ae.toList==[112])=false:=d _ uc;have k7:(Ae.toList==[110])=false:=d _ uc;have k8:(Ae.toList==[60,62])=false:=d _ uc;have k9:(Ae.toList==[62])=false:=d _ uc;have U:(Ae.toList==[62,61])=false:=d _ uc;have M:(Ae.toList==[66,69,84,87,69,69,78])=false:=d _ uc;have L:(Ae.toList==[73,78])=false:=d _ uc;have K:(Ae.toList==[78,85,76,76])=false:=d _ uc;have H:(Ae.toList==[76,73,75,69])=false:=d _ uc;clear d;go_enter func101,ntmps101
 go_wp2_with(go_at_call 145;refine DZ.mono ?_;rintro e s⟨z,rfl,j,F,⟨n0,-,-,-,-,-,-,-,-,r0,r1,r2,r3,r4,r5,rz,B,lB,lA,iZ,iY⟩,u,f⟩;obtain⟨m0,-,-,-,-,-,-,-,-,s0,s1,s2,s3,s4,s5,sz,sl,-,-,-,-⟩:=q9 u;obtain⟨v0,v1,v2,v3,v4,v5,v6,v7,v8,v9,AK,AJ⟩:=q9 i _ (qg j f);have sS:¬b=s.1.size:=ub;have iE:¬s.1.size=b:=ub)
 go_region_held3 (λW=>Xc W w.1.size 0 (Y Ae)/\Kx2 W b g h) (first|with_reducible assumption|(simp only[Kx2];go_keep)) (first|(go_at_call 148;refine(A _ _ _ j B F f.drew).mono ?_;rintro e w1⟨q,r,rfl,hp⟩;have D6:=qd (qg (qg j f.drew) q);obtain⟨PJ,-,-,-,-,-,-,-,-,q0,q1,q2,q3,q4,q5,qz,ql,-,-,-,-⟩:=(q9 u).drew.below q;have bB:=qd hp;have hS:(Xc w1 w.1.size 0 (Y Ae)/\Kx2 w1 b g h):=⟨PJ,q9 i _ D6⟩;clear q hp))
 go_wp2
 all_goals exact jU
theorem vfj(U:inv=C (G ⟨b,0,O⟩) n cap)(hn:1<=n)(X:b<w.1.size)(u:∀k,k<6->w.cell? ⟨b,k,O⟩=(qw g)[k]?)
   (B:xJ w PZ) (H:ju w PZ P 149 λ_=>#[g.v,lv])
   (F:jh w P Q):ua 101 #[Ai #[Y ⟨#[73,78]⟩,I J a,iv,Y S,Y E,lv,I J N,Ah neg,I J c],inv] w Q:=by
 have Z:=jv B (Y ⟨#[73,78]⟩) (I J a) iv (Y S) (Y E) lv (I J N) (Ah neg) (I J c);have K:=qd H;have M5:=qd F;simp only[ju,jh,RF.v]at K M5;clear B H F;have i:=kb1 X u;obtain⟨c0,c1,c2,c3,c4,c5⟩:=q9 i w uj;have np:¬b=w.1.size:=ub;have lC:¬b=w.1.size+1:=ub;have rU:¬w.1.size+1=b:=ub;have eO:0<n:=ub;have cY:=ur n;clear u;subst U;go_enter func101,ntmps101
 go_wp2_with(go_at_call 145;refine Z.mono ?_;rintro e s⟨z,rfl,j,M,⟨n0,-,-,-,-,n5,-,-,-,r0,r1,r2,r3,r4,r5,rz,L,lB,lA,iZ,iY⟩,A,f⟩;obtain⟨m0,-,-,-,-,m5,-,-,-,s0,s1,s2,s3,s4,s5,sz,sl,-,-,-,-⟩:=q9 A;obtain⟨v0,v1,v2,v3,v4,v5⟩:=q9 i _ (qg j f);have sS:¬b=s.1.size:=ub;have iE:¬s.1.size=b:=ub)
 go_region_held3 (λW=>Xc W w.1.size 5 (lv)/\Kx1 W b g) (first|with_reducible assumption|(simp only[Kx1];go_keep)) (first|(go_at_call 149;refine(K _ _ _ j L M f.drew).mono ?_;rintro e w1⟨q,r,rfl,hp⟩;have D6:=qd (qg (qg j f.drew) q);obtain⟨-,-,-,-,-,d,-,-,-,q0,q1,q2,q3,q4,q5,qz,ql,-,-,-,-⟩:=(q9 A).drew.below q;have bB:=qd hp;have hS:(Xc w1 w.1.size 5 (lv)/\Kx1 w1 b g):=⟨d,q9 i _ D6⟩;clear q hp))
 go_wp2
 all_goals exact jU
theorem qtk(hi:inv=C (G ⟨b,0,O⟩) n cap)(hn:1<=n)(O0:b<w.1.size)(A:∀k,k<6->w.cell? ⟨b,k,O⟩=(qw g)[k]?){T:tu}(q:g.Q.length<=400000000)(B:T=[40]++g.Q++[32,73,83,32,78,85,76,76,41])
   (U:xJ w PZ) (Z:ju w PZ P 150 λ_=>#[Y ⟨#[78,85,76,76]⟩,Y (BS T),I J 1,C (G ⟨b,0,O⟩) n cap,I J 0])
   (X:jh w P Q):ua 101 #[Ai #[Y ⟨#[78,85,76,76]⟩,I J a,iv,Y S,Y E,lv,I J N,Ah neg,I J c],inv] w Q:=by
 have DZ:=jv U (Y ⟨#[78,85,76,76]⟩) (I J a) iv (Y S) (Y E) lv (I J N) (Ah neg) (I J c);have i:=qd Z;have M5:=qd X;simp only[ju,jh,RF.v]at i M5;obtain⟨R1,K,s,a1⟩:=jn ⟨#[40]⟩ (BS g.Q) 1 400000000 ui (by rw[qJ];exact q) ue;obtain⟨R2,H,y2,a2⟩:=jn R1 ⟨#[32,73,83,32,78,85,76,76,41]⟩ 400000001 9 s ui ue
 have F:BS T=R2:=by
  rw[B,H,K,show(⟨#[40]⟩:tq)=BS [40] from rfl,show(⟨#[32,73,83,32,78,85,76,76,41]⟩:tq)=BS [32,73,83,32,78,85,76,76,41] from rfl,jo,jo]
 rw[F]at i;clear B F K H s y2 q;clear U Z X;have M:=kb1 O0 A;obtain⟨c0,c1,c2,c3,c4,c5⟩:=q9 M w uj;have np:¬b=w.1.size:=ub;have lC:¬b=w.1.size+1:=ub;have rU:¬w.1.size+1=b:=ub;have eO:0<n:=ub;have cY:=ur n;clear A;subst hi;go_enter func101,ntmps101
 go_wp2_with(first|(go_at_call 150;refine(i _ _ _ f rl o9 d).mono ?_;rintro e w1⟨j,r,rfl,hp⟩;have D6:=qd (qg (qg f d) j);obtain⟨-,-,-,-,-,-,-,-,-,q0,q1,q2,q3,q4,q5,qz,ql,-,-,-,-⟩:=(q9 L).below j;have bB:=qd hp;clear j hp)|(go_at_call 145;refine DZ.mono ?_;rintro e u⟨z,rfl,f,o9,⟨n0,-,-,-,-,-,-,-,-,r0,r1,r2,r3,r4,r5,rz,rl,lB,lA,iZ,iY⟩,L,d⟩;obtain⟨m0,-,-,-,-,-,-,-,-,s0,s1,s2,s3,s4,s5,sz,sl,-,-,-,-⟩:=q9 L;obtain⟨v0,v1,v2,v3,v4,v5⟩:=q9 M _ (qg f d);have sS:¬b=u.1.size:=ub;have iE:¬u.1.size=b:=ub))
 all_goals exact jU
def kY(p:Pay):List Co->Co
 | []=>.leaf (xU p)
 | [x]=>if p.op==14 then qp 16 (kL 0) x else if p.op==15 then qp 17 (kL 0) x else if p.op==5 then vg x
   else if p.op==21 then vI x p.P else .un (xU p) x
 | [x,y]=>if p.op==12 then qp 10 y x else if p.op==13 then qp 11 y x else if p.op==9 then vg (qp 8 x y) else qp p.op x y
 | x::y::z::_=>qp 6 (qp 11 y x) (qp 11 x z)
def nC:Co:=.leaf (qq 3)
def viu(cs:List Co)(n:RN):List Co:=n.ins.map λk=>cs.getD k nC
def qgt(cs:List Co)(n:RN):Co:=if n.neg=true then vg (kY (qeh n) (viu cs n)) else kY (qeh n) (viu cs n)
def gB:List Co->List RN->List Co
 | cs,[]=>cs
 | cs,n::t=>gB (cs++[qgt cs n]) t
theorem qaa(cs:List Co)(l k:List RN):gB cs (l++k)=gB (gB cs l) k:=by
 induction l generalizing cs with
 | nil=>rfl
 | cons n t ih=>rw[dk,gB,gB];exact ih _
theorem vg1:∀(l:List RN) (cs:List Co),(gB cs l).length=cs.length+l.length:=by
 intro l
 induction l with
 | nil=>intro cs;rfl
 | cons n t ih=>intro cs;rw[gB,ih];simp;omega
theorem qzu{n:RN}(d:ns[k]?=G n)(hv:gB [] (ns.take k)=cs):gB [] (ns.take (k+1))=cs++[qgt cs n]:=by
 rw[dn,d,qaa,hv];rfl
theorem ka:∀c,WfC c->(qF c).length<=(qt c).length+1:=by
 intro c
 induction c with
 | leaf p=>intro _;simp[qF]
 | un p x ih=>
  intro h;have i:=ih h.2
  have f:(qt x).length+1<=(qt (.un p x)).length:=by
   show _<=(qI p (qt x) []).length;have d:=h.1;unfold unB at d;simp only[ff,ew]at d;rcases d with(e|e)|e<;>(unfold qI;simp[e]<;>omega)
  simp[qF];omega
 | bin p x y ihx ihy=>
  intro h;have i:=ihx h.2.1;have f:=ihy h.2.2;have j:=jH h.1 x y;simp[qF];omega
structure Gc(c:Co):Prop where
 len:(qt c).length<=120000000
 un:uC c<=200
 wt:WT c
theorem Gc.sz{c:Co}(h:Gc c):SzC c:=⟨by have:=h.len;have:=h.un;omega,by have:=h.len;have:=h.un;have:=ka c h.wt.wf;omega⟩
theorem Gc.big{c:Co}(h:Gc c):kS c:=h.sz.big
theorem vn6(h:vF o):qrz o=true/\js o=false/\unB o=false:=by
 rcases h with rfl|rfl|rfl|rfl|rfl|rfl|rfl|rfl|rfl<;>exact⟨rfl,rfl,rfl⟩
theorem va9(o:Int):(jw o).length<=3:=by
 unfold jw
 repeat' split
 all_goals simp
theorem zj(j:vF o)(i:WT x)(f:WT y)(d:o=6\/o=7->Tb x/\Tb y):WT (qp o x y):=by
 unfold qp
 split
 exact⟨j,λh=>⟨(d h).2,(d h).1⟩,f,i⟩;exact⟨j,d,i,f⟩
theorem vkv(o:Int)(x y:Co):opC (qp o x y)=o:=by
 unfold qp
 split<;>rfl
theorem xf(h:o=6\/o=7\/o=8\/o=10\/o=11)(x y:Co):Tb (qp o x y):=by
 right
 rw[vkv];rcases h with rfl|rfl|rfl|rfl|rfl<;>rfl
theorem via:∀{c:Co},WT c->Tb c->WT (vg c)/\Tb (vg c):=by
 intro c
 induction c with
 | leaf p=>
  intro h f;unfold vg
  split
  exact⟨⟨ue,ue⟩,An rfl⟩
  split
  exact⟨⟨ue,ue⟩,An rfl⟩;exact⟨⟨Am rfl,λ_=>f,h⟩,An rfl⟩
 | un p x ih=>
  intro h f;unfold vg
  split
  rename_i i;simp only[dh,ew]at i;exact⟨h.2.2,h.2.1 i.1⟩;exact⟨⟨Am rfl,λ_=>f,h⟩,An rfl⟩
 | bin p x y ihx ihy=>
  intro h f
  have two:∀o,o=6\/o=7->(p.op=6\/p.op=7)->WT (qp o (vg x) (vg y))/\Tb (qp o (vg x) (vg y)):=λo q hp=>by
   obtain⟨j,ty⟩:=h.2.1 hp;obtain⟨a,b⟩:=ihx h.2.2.1 j;obtain⟨c,d⟩:=ihy h.2.2.2 ty;exact⟨zj (by unfold vF;omega) a c (λ_=>⟨b,d⟩),xf ub _ _⟩
  unfold vg
  split
  rename_i e;exact two 7 (An rfl) (Am (eq_of_beq e))
  split
  rename_i e;exact two 6 (Am rfl) (An (eq_of_beq e))
  split
  exact⟨zj (by unfold vF;omega) h.2.2.2 h.2.2.1 ub,xf ub _ _⟩
  split
  exact⟨zj (by unfold vF;omega) h.2.2.2 h.2.2.1 ub,xf ub _ _⟩;exact⟨⟨Am rfl,λ_=>f,h⟩,An rfl⟩
theorem vna(t:tu):WT (vi t):=⟨by show(0:Int)<=2;decide,by show(2:Int)<=4;decide⟩
theorem vib(n:Int):WT (kL n):=⟨by show(0:Int)<=1;decide,by show(1:Int)<=4;decide⟩
theorem vql(d:WT x)(t:tu):WT (qp 8 x (vi t))/\Tb (qp 8 x (vi t)):=⟨zj (by unfold vF;omega) d (vna t) ub,xf ub _ _⟩
theorem vh6(j:WT x):∀(r:List tu) (f:Co),WT f->Tb f->WT (za x f r)/\Tb (za x f r):=by
 intro r
 induction r with
 | nil=>intro f i d;exact⟨i,d⟩
 | cons t r ih=>
  intro f i d;obtain⟨a,b⟩:=vql j t;exact ih _ (zj (by unfold vF;omega) i a (λ_=>⟨d,b⟩)) (xf ub _ _)
theorem vh5(d:WT x)(f:ts≠[]):WT (vI x ts)/\Tb (vI x ts):=by
 unfold vI
 cases h:vo ts with
 | nil=>exact absurd h (qcb f)
 | cons t r=>
  obtain⟨a,b⟩:=vql d t;exact vh6 d r _ a b
theorem qmu{want f k:Int}{d:List CRes}(h:zN want f c d=.ok k):k=c:=by
 unfold zN at h
 split at h
 injection h with h;exact h.symm;cases h
theorem vha{x:Ast}{k:Int}(hs:ShA (.un p x))(f:qy (.un p x)=.ok k):∃d,qy x=.ok d/\(p.op=5->d=3\/d=0):=by
 have f:qR p.op p.M [qy x]=.ok k:=f;rcases hs.1 with e|e|e|e|e|e
 .rw[e]at f
  obtain⟨d,i,j⟩:=qZ (show zN 3 p.M 3 [qy x]=.ok k from f) (qy x) uc;exact⟨d,i,λ_=>j⟩
 .rw[e]at f
  obtain⟨d,i,_⟩:=qZ (show zN 1 p.M 1 [qy x]=.ok k from f) (qy x) uc;exact⟨d,i,λh=>ub⟩
 .rw[e]at f
  obtain⟨d,i,_⟩:=qZ (show zN 1 p.M 1 [qy x]=.ok k from f) (qy x) uc;exact⟨d,i,λh=>ub⟩
 all_goals
  obtain⟨q,rfl,r⟩:=xt hs.2.2.2 (hs.2.2.1 ub);exact⟨0,by show qR q.op q.M []=.ok 0;rw[r];rfl,λ_=>An rfl⟩
theorem qw0{x y:Ast}{k:Int}(hs:ShA (.bin p x y))(i:qy (.bin p x y)=.ok k):∃d e,qy x=.ok d/\qy y=.ok e/\(p.op=6\/p.op=7->(d=3\/d=0)/\(e=3\/e=0)):=by
 have i:qR p.op p.M [qy x,qy y]=.ok k:=i
 have B:∀w s,zN w p.M s [qy x,qy y]=.ok k->∃d e,qy x=.ok d/\qy y=.ok e/\(d=w\/d=0)/\(e=w\/e=0):=λw s h=>by
  obtain⟨d,q,j⟩:=qZ h (qy x) uc;obtain⟨e,u,F⟩:=qZ h (qy y) uc;exact⟨d,e,q,u,j,F⟩
 have r:∀s,zN 1 p.M s [qy x,qy y]=.ok k->¬(p.op=6\/p.op=7)->∃d e,qy x=.ok d/\qy y=.ok e/\(p.op=6\/p.op=7->(d=3\/d=0)/\(e=3\/e=0)):=λs h A=>by
  obtain⟨d,e,q,j,_⟩:=B 1 s h;exact⟨d,e,q,j,λh=>absurd h A⟩
 have C:zM p.M (qy x) (qy y)=.ok k->¬(p.op=6\/p.op=7)->∃d e,qy x=.ok d/\qy y=.ok e/\(p.op=6\/p.op=7->(d=3\/d=0)/\(e=3\/e=0)):=λh A=>by
  obtain⟨⟨d,q⟩,e,j⟩:=pS h;exact⟨d,e,q,j,λh=>absurd h A⟩
 rcases(show p.op=6\/p.op=7\/p.op=8\/p.op=9\/p.op=10\/p.op=11\/p.op=12\/p.op=13\/p.op=16\/p.op=17\/p.op=18\/p.op=19 by have:=hs.1;omega) with e|e|e|e|e|e|e|e|e|e|e|e<;>rw[e]at i
 obtain⟨d,f,q,j,u⟩:=B 3 3 i;exact⟨d,f,q,j,λ_=>u⟩;obtain⟨d,f,q,j,u⟩:=B 3 3 i;exact⟨d,f,q,j,λ_=>u⟩;exact C i ub;exact C i ub;exact r 3 i ub;exact r 3 i ub;exact r 3 i ub;exact r 3 i ub;exact r 1 i ub;exact r 1 i ub;exact r 1 i ub;exact r 1 i ub
theorem qw3{x y z:Ast}{k:Int}(hs:ShA (.tri p x y z))(f:qy (.tri p x y z)=.ok k):(∃d,qy x=.ok d)/\(∃d,qy y=.ok d)/\∃d,qy z=.ok d:=by
 have f:qR p.op p.M [qy x,qy y,qy z]=.ok k:=f;rw[hs.1]at f;have f:zN 1 p.M 3 [qy x,qy y,qy z]=.ok k:=f;obtain⟨u,q,_⟩:=qZ f (qy x) uc;obtain⟨s,j,_⟩:=qZ f (qy y) uc;obtain⟨r,i,_⟩:=qZ f (qy z) uc;exact⟨⟨_,q⟩,⟨_,j⟩,_,i⟩
theorem vbo:∀t,ShA t->∀k,qy t=.ok k->WT (qj t)/\(k=3\/k=0->Tb (qj t)):=by
 intro t
 induction t with
 | leaf p=>
  intro hs k f;refine⟨⟨hs.1,hs.2⟩,λB=>?_⟩;have f:qR p.op p.M []=.ok k:=f;show p.op=0\/qmk p.op=1;have s:=hs.1;have r:=hs.2;rcases(show p.op=0\/p.op=1\/p.op=2\/p.op=3\/p.op=4 by omega) with e|e|e|e|e<;>rw[e]at f |-
  exact Am rfl;simp[qR]at f;omega;simp[qR]at f;omega;exact An rfl;exact An rfl
 | un p x ih=>
  intro hs k f;obtain⟨d,hd,C⟩:=vha hs f;obtain⟨i,u⟩:=ih hs.2.2.2 d hd;have f:qR p.op p.M [qy x]=.ok k:=f;rcases hs.1 with e|e|e|e|e|e
  .rw[show qj (.un p x)=vg (qj x) by rw[qj,e];rfl]
   have:=via i (u (C e));exact⟨this.1,λ_=>this.2⟩
  .rw[show qj (.un p x)=qp 16 (kL 0) (qj x) by rw[qj,e];rfl]
   rw[e]at f;have:=qmu (show zN 1 p.M 1 [qy x]=.ok k from f);exact⟨zj (by unfold vF;omega) (vib 0) i ub,ub⟩
  .rw[show qj (.un p x)=qp 17 (kL 0) (qj x) by rw[qj,e];rfl]
   rw[e]at f;have:=qmu (show zN 1 p.M 1 [qy x]=.ok k from f);exact⟨zj (by unfold vF;omega) (vib 0) i ub,ub⟩
  .rw[show qj (.un p x)=vI (qj x) p.P by rw[qj,e];rfl]
   have:=vh5 i (hs.2.1 e);exact⟨this.1,λ_=>this.2⟩
  .rw[show qj (.un p x)=.un (xU p) (qj x) by rw[qj,e];rfl]
   exact⟨⟨An (Am e),λh=>absurd (show p.op=5 from h) ub,i⟩,λ_=>An (by show qmk p.op=1;rw[e];rfl)⟩
  rw[show qj (.un p x)=.un (xU p) (qj x) by rw[qj,e];rfl];exact⟨⟨An (An e),λh=>absurd (show p.op=5 from h) ub,i⟩,λ_=>An (by show qmk p.op=1;rw[e];rfl)⟩
 | bin p x y ihx ihy=>
  intro hs k f;obtain⟨d,e,s,r,q⟩:=qw0 hs f;obtain⟨i,u⟩:=ihx hs.2.1 d s;obtain⟨j,ty⟩:=ihy hs.2.2 e r
  by_cases F6:p.op=12
  .rw[show qj (.bin p x y)=qp 10 (qj y) (qj x) by rw[qj,F6];rfl]
   exact⟨zj (by unfold vF;omega) j i ub,λ_=>xf ub _ _⟩
  by_cases T4:p.op=13
  .rw[show qj (.bin p x y)=qp 11 (qj y) (qj x) by rw[qj,T4];rfl]
   exact⟨zj (by unfold vF;omega) j i ub,λ_=>xf ub _ _⟩
  by_cases h9:p.op=9
  .rw[show qj (.bin p x y)=vg (qp 8 (qj x) (qj y)) by rw[qj,h9];rfl]
   have:=via (zj (by unfold vF;omega) i j ub) (xf (o:=8) ub (qj x) (qj y));exact⟨this.1,λ_=>this.2⟩
  rw[show qj (.bin p x y)=qp p.op (qj x) (qj y) by rw[qj,ak (by simpa using F6),ak (by simpa using T4),ak (by simpa using h9)]];refine⟨zj (by have:=hs.1;unfold vF;omega) i j λh=>⟨u (q h).1,ty (q h).2⟩,λB=>xf ?_ _ _⟩;have F:=hs.1
  by_cases h16:16<=p.op
  .have f:qR p.op p.M [qy x,qy y]=.ok k:=f
   have:zN 1 p.M 1 [qy x,qy y]=.ok k:=by
    rcases(show p.op=16\/p.op=17\/p.op=18\/p.op=19 by omega) with e|e|e|e<;>(rw[e]at f;exact f)
   have:=qmu this;omega
  omega
 | tri p x y z ihx ihy ihz=>
  intro hs k f;obtain⟨⟨_,s⟩,⟨_,r⟩,_,q⟩:=qw3 hs f;have i:=(ihx hs.2.1 _ s).1;have j:=(ihy hs.2.2.1 _ r).1;have A:=(ihz hs.2.2.2 _ q).1;exact⟨zj (by unfold vF;omega) (zj (by unfold vF;omega) j i ub) (zj (by unfold vF;omega) i A ub) (λ_=>⟨xf ub _ _,xf ub _ _⟩),λ_=>xf ub _ _⟩
def GcA:Ast->Prop
 | .leaf p=>Gc (qj (.leaf p))
 | .un p x=>Gc (qj (.un p x))/\(p.op=5->Tb (qj x))/\(p.op=21->(qt (qj x)).length<=402/\p.P≠[]/\∀t∈p.P,t.length<=200)/\GcA x
 | .bin p x y=>Gc (qj (.bin p x y))/\GcA x/\GcA y
 | .tri p x y z=>Gc (qj (.tri p x y z))/\GcA x/\GcA y/\GcA z
theorem GcA.gc{t:Ast}(h:GcA t):Gc (qj t):=by
 cases t with
 | leaf p=>exact h
 | un p x=>exact h.1
 | bin p x y=>exact h.1
 | tri p x y z=>exact h.1
theorem qc5{t:Ast}(h:Gd t)(d:ndA t<=200)(hs:ShA t){k:Int}(f:qy t=.ok k):Gc (qj t):=by
 refine⟨?_,bs h.un d,(vbo t hs k f).1⟩;have j:=h.len;have i:ndA t * ndA t<=200 * 200:=ri d d;omega
theorem qwp:∀t,GdA t->ndA t<=200->ShA t->qi6 t->qia t->BqA t->∀k,qy t=.ok k->GcA t:=by
 intro t
 induction t with
 | leaf p=>intro f r hs _ _ _ k i;exact qc5 f r hs i
 | un p x ih=>
  intro f r hs hb j hq k i;obtain⟨d,hd,B⟩:=vha hs i;have A:ndA (.un p x)=1+p.P.length+ndA x:=rfl;refine⟨qc5 f.1 r hs i,λe=>(vbo x hs.2.2.2 d hd).2 (B e),λe=>⟨?_,hs.2.1 e,hq.1.2⟩,ih f.2 ub hs.2.2.2 hb.2 j.2 hq.2 d hd⟩;obtain⟨q,rfl,F⟩:=xt hs.2.2.2 (hs.2.2.1 ub);exact qa0 (xU q) hb.2.1 j.2 (by unfold js;simp[xU,F])
 | bin p x y ihx ihy=>
  intro f r hs hb j hq k i;obtain⟨d,e,u,s,_⟩:=qw0 hs i;have A:ndA (.bin p x y)=1+ndA x+ndA y:=rfl;exact⟨qc5 f.1 r hs i,ihx f.2.1 ub hs.2.1 hb.2.1 j.2.1 hq.2.1 d u,ihy f.2.2 ub hs.2.2 hb.2.2 j.2.2 hq.2.2 e s⟩
 | tri p x y z ihx ihy ihz=>
  intro f r hs hb j hq k i;obtain⟨⟨_,u⟩,⟨_,s⟩,_,C⟩:=qw3 hs i;have A:ndA (.tri p x y z)=1+ndA x+ndA y+ndA z:=rfl;exact⟨qc5 f.1 r hs i,ihx f.2.1 ub hs.2.1 hb.2.1 j.2.1 hq.2.1 _ u,ihy f.2.2.1 ub hs.2.2.1 hb.2.2.1 j.2.2.1 hq.2.2.1 _ s,ihz f.2.2.2 ub hs.2.2.2 hb.2.2.2 j.2.2.2 hq.2.2.2 _ C⟩
structure NdC(p:Pay)(neg:Bool)(xs:List Co):Prop where
 few:xs.length=pt p.op
 gc:∀x∈xs,Gc x
 all:Gc (kY p xs)
 tb:p.op=5->∀x∈xs,Tb x
 no:neg=true->Tb (kY p xs)
 nm:p.op=21->∀x∈xs,(qt x).length<=402
 tx:p.op=21->p.P≠[]/\∀t∈p.P,t.length<=200
def qm2:List Co->List RN->Prop
 | _,[]=>True
 | cs,n::t=>NdC (qeh n) n.neg (viu cs n)/\qm2 (cs++[qgt cs n]) t
theorem qah(cs:List Co)(l k:List RN):qm2 cs (l++k)↔qm2 cs l/\qm2 (gB cs l) k:=by
 induction l generalizing cs with
 | nil=>simp[qm2,gB]
 | cons n t ih=>rw[dk,qm2,qm2,ih,gB,and_assoc]
theorem vmu{n:RN}(h:qm2 [] ns)(d:ns[k]?=G n)(j:gB [] (ns.take k)=cs):NdC (qeh n) n.neg (viu cs n):=by
 have f:=(aj.1 d);obtain⟨i,q⟩:=f;have e:ns=ns.take k++(n::ns.drop (k+1)):=by rw[<-q,<-cj i,fh]
 rw[e,qah,j]at h;exact h.2.1
def qux(cs:List Co)(l:List RN)(x:Co):Prop:=∃ds,gB cs l=cs++ds/\ds.length=l.length/\ds.getD (l.length - 1) nC=x/\qm2 cs l
theorem qgc{es:List Co}(h:vs.length<=k)(d:k<vs.length+ds.length):(vs++ds++es).getD k nC=ds.getD (k - vs.length) nC:=by
 rw[bi,bi,bu,da h,cg ub]
theorem qgb(h:vs.length<=k)(d:k<vs.length+ds.length):(vs++ds).getD k nC=ds.getD (k - vs.length) nC:=by
 have:=qgc (vs:=vs) (ds:=ds) (es:=[]) h d;rwa [fw]at this
theorem vr4(l:List Co)(v:Co):(l++[v]).getD l.length nC=v:=uc
theorem pZ{ins:List Nat}{xs:List Co}(h:gB vs l=vs++ds)(hd:ds.length=l.length)(r:qm2 vs l)(f:0<=p.op)(i:p.op<=23)(q:ins.map (λk=>(vs++ds).getD k nC)=xs)(s:NdC p neg xs):
  qux vs (l++[jC p ins neg]) (if neg=true then vg (kY p xs) else kY p xs):=by
 have d:viu (vs++ds) (jC p ins neg)=xs:=q
 have j:qgt (vs++ds) (jC p ins neg)=if neg=true then vg (kY p xs) else kY p xs:=by
  unfold qgt;rw[d,yr f i];rfl
 refine⟨ds++[qgt (vs++ds) (jC p ins neg)], ?_,by simp[hd], ?_, ?_⟩;rw[qaa,h,gB,gB,bu]
 .rw[show(l++[jC p ins neg]).length - 1=ds.length by simp[hd],vr4,j]
 rw[qah,h];refine⟨r, ?_,trivial⟩;rw[d,yr f i];exact s
section
variable {vs:List Co} {off:Nat} {p:Pay} {neg:Bool}
theorem qqb(hv:vs.length=off)(B:0<l.length)(s:0<=p.op)(u:p.op<=23)(d:qux vs l x)(A:NdC p neg [x]):qux vs (l++[jC p [off+l.length - 1] neg]) (if neg=true then vg (kY p [x]) else kY p [x]):=by
 obtain⟨ds,r,q,j,i⟩:=d;refine pZ r q i s u ?_ A;have f:(vs++ds).getD (off+l.length - 1) nC=x:=by rw[qgb ub ub,show off+l.length - 1 - vs.length=l.length - 1 by omega];exact j
 rw[fu,List.map_nil,f]
theorem qw6{k:List RN}(hv:vs.length=off)(K:0<l.length)(L:0<k.length)(A:0<=p.op)(I:p.op<=23)(j:qux vs l x)(i:∀ds:List Co,ds.length=l.length->qux (vs++ds) k y)(J:NdC p false [x,y]):qux vs (l++k++[jC p [off+l.length - 1,off+l.length+k.length - 1] false]) (kY p [x,y]):=by
 obtain⟨ds,f,d,u,s⟩:=j;obtain⟨es,G,F,C,B⟩:=i ds d;have H:gB vs (l++k)=vs++(ds++es):=by rw[qaa,f,G,bu]
 have r:(vs++(ds++es)).getD (off+l.length - 1) nC=x:=by rw[<-bu,qgc ub ub,show off+l.length - 1 - vs.length=l.length - 1 by omega];exact u
 have q:(vs++(ds++es)).getD (off+l.length+k.length - 1) nC=y:=by rw[<-bu,qgb ud ud,show off+l.length+k.length - 1 - (vs++ds).length=k.length - 1 by simp;omega];exact C
 have:=pZ (neg:=false) H (by simp[d,F]) (by rw[qah,f];exact⟨s,B⟩) A I (ins:=[off+l.length - 1,off+l.length+k.length - 1]) (xs:=[x,y]) (by rw[fu,fu,List.map_nil,r,q]) J;simpa using this
theorem qil{k r:List RN}{z:Co}(hv:vs.length=off)(hl:0<l.length)(cM:0<k.length)(Y7:0<r.length)(I:0<=p.op)(Y:p.op<=23)(A:qux vs l x)(u:∀ds:List Co,ds.length=l.length->qux (vs++ds) k y)(s:∀ds:List Co,ds.length=l.length+k.length->qux (vs++ds) r z)(E9:NdC p neg [x,y,z]):
  qux vs (l++k++r++[jC p [off+l.length - 1,off+l.length+k.length - 1,off+l.length+k.length+r.length - 1] neg]) (if neg=true then vg (kY p [x,y,z]) else kY p [x,y,z]):=by
 obtain⟨ds,i,f,H,G⟩:=A;obtain⟨es,L,j,K,J⟩:=u ds f;have q:gB vs (l++k)=vs++(ds++es):=by rw[qaa,i,L,bu]
 obtain⟨d,X,U,O,M⟩:=s (ds++es) (by simp[f,j]);have Z:gB vs (l++k++r)=vs++(ds++es++d):=by rw[qaa,q,X,bu]
 have F:(vs++(ds++es++d)).getD (off+l.length - 1) nC=x:=by
  rw[bu ds,<-bu vs,qgc ub ub,show off+l.length - 1 - vs.length=l.length - 1 by omega];exact H
 have C:(vs++(ds++es++d)).getD (off+l.length+k.length - 1) nC=y:=by
  rw[bu ds,<-bu vs,<-bu (vs++ds),qgc ud ud,show off+l.length+k.length - 1 - (vs++ds).length=k.length - 1 by simp;omega];exact K
 have B:(vs++(ds++es++d)).getD (off+l.length+k.length+r.length - 1) nC=z:=by
  rw[<-bu vs,qgb ud ud,show off+l.length+k.length+r.length - 1 - (vs++(ds++es)).length=r.length - 1 by simp;omega];exact O
 exact pZ Z (by simp[f,j,U]) (by rw[qah,qah,i,q];exact⟨⟨G,J⟩,M⟩) I Y (by rw[fu,fu,fu,List.map_nil,F,C,B]) E9
end
theorem qw7:∀{t:Ast} {off:Nat} {l:List RN},Flat t off l->ShA t->GcA t->∀vs:List Co,vs.length=off->qux vs l (qj t):=by
 intro t off l h
 induction h with
 | leaf p off=>
  intro hs d vs hv;have j:=hs.1;have r:=hs.2;have:=pZ (neg:=false) (vs:=vs) (ds:=[]) (l:=[]) (p:=p) (ins:=[]) (xs:=[]) (by rw[fw];rfl) rfl trivial j ub rfl ⟨by rw[qvc r];rfl,uc,d,uc,uc,uc,ub⟩;exact this
 | un p hx ih=>
  intro hs d vs hv;have i:=hs.1;have:=qqb (neg:=false) (p:=p) hv hx.pos ub ub (ih hs.2.2.2 d.2.2.2 vs hv) ⟨by rw[qfs ub];rfl,by simpa using d.2.2.2.gc,d.1,by simpa using d.2.1,uc,by simpa using λe=>(d.2.2.1 e).1,λe=>(d.2.2.1 e).2⟩;exact this
 | bin p hx hy ihx ihy=>
  intro hs d vs hv;have i:=hs.1;exact qw6 hv hx.pos hy.pos ub ub (ihx hs.2.1 d.2.1 vs hv) (λds hd=>ihy hs.2.2 d.2.2 (vs++ds) ud) ⟨by rw[qm7 ub];rfl,by simpa using⟨d.2.1.gc,d.2.2.gc⟩,d.1,ub,uc,ub,ub⟩
 | tri p hx hy hz ihx ihy ihz=>
  intro hs d vs hv;have i:=hs.1;have:=qil (neg:=false) hv hx.pos hy.pos hz.pos ub ub (ihx hs.2.1 d.2.1 vs hv) (λds hd=>ihy hs.2.2.1 d.2.2.1 (vs++ds) ud) (λds hd=>ihz hs.2.2.2 d.2.2.2 (vs++ds) ud) (p:=p) ⟨by rw[qft i];rfl,by simpa using⟨d.2.1.gc,d.2.2.1.gc,d.2.2.2.gc⟩,d.1,ub,uc,ub,ub⟩;exact this
 | neg1 pl q hq hx ih=>
  intro hs d vs hv;obtain⟨_,_,_,hs⟩:=hs;obtain⟨_,f,_,d⟩:=d;exact qqb (neg:=true) hv hx.pos ub ub (ih hs.2.2.2 d.2.2.2 vs hv) ⟨by rw[qfs ub];rfl,by simpa using d.2.2.2.gc,d.1,by simpa using d.2.1,λ_=>f rfl,by simpa using λe=>(d.2.2.1 e).1,λe=>(d.2.2.1 e).2⟩
 | neg3 pl q hq hx hy hz ihx ihy ihz=>
  intro hs d vs hv;obtain⟨_,_,_,hs⟩:=hs;obtain⟨_,f,_,d⟩:=d;exact qil (neg:=true) hv hx.pos hy.pos hz.pos ub ub (ihx hs.2.1 d.2.1 vs hv) (λds hd=>ihy hs.2.2.1 d.2.2.1 (vs++ds) ud) (λds hd=>ihz hs.2.2.2 d.2.2.2 (vs++ds) ud) ⟨by rw[qft hq];rfl,by simpa using⟨d.2.1.gc,d.2.2.1.gc,d.2.2.2.gc⟩,d.1,ub,λ_=>f rfl,ub,ub⟩
theorem qjf(cs:List Co)(n:RN)(c:Int):qgt cs { n with H:=c }=qgt cs n:=rfl
theorem qrc(ns:List RN)(is:List Int):gB [] (zH ns is)=gB [] ns/\(qm2 [] ns->qm2 [] (zH ns is)):=by
 unfold zH
 have key:∀(l:List RN) (k:Nat) (vs:List Co),gB vs ((l.zipIdx k).map λx=>{ x.1 with H:=if x.2<is.length then is.getD x.2 0 else x.1.H })=gB vs l/\(qm2 vs l->qm2 vs ((l.zipIdx k).map λx=>{ x.1 with H:=if x.2<is.length then is.getD x.2 0 else x.1.H })):=by
  intro l
  induction l with
  | nil=>intro k vs;exact⟨rfl,λh=>h⟩
  | cons n t ih=>
   intro k vs;rw[List.zipIdx_cons,fu,gB,gB,qjf];refine⟨(ih _ _).1,λh=>⟨h.1, ?_⟩⟩;rw[qjf];exact(ih _ _).2 h.2
 exact key ns 0 []
theorem qjw(a:Option Addr)(cap:Nat)(w:Ao):ut 33 #[C a 0 cap] w (Ah true):=by
 go_enter func33,ntmps33
 go_wp2
 go_loopw [3] (λi wr=>i=I J 0/\wr=w) (λ_ _=>0)
 exact⟨rfl,rfl⟩;obtain⟨rfl,rfl⟩:=hrel
 go_wp2
 go_ret;exact⟨rfl,uj⟩
theorem qb8(h:EvIn w ev ps)(d:EvGood ps):ut 33 #[ev] w (Ah (ym ps)):=by
 rcases h with⟨rfl,a,cap,rfl⟩|⟨b,off,cap,rfl,j,f,i⟩;exact qjw a cap w
 by_cases h8:ps.length<=8
 exact qz6 b off cap ps w h8 d.short f i;rw[qiq h8];exact qp5 _ _ _ ub w
theorem qpf{s:tq}{t:Ast}(F:vq s=.ok t){q g B:Nat}{cs:List Int}(r:Flat t 0 ns)(u:ShA t)(Y:ns.length<=200)(c0:Xc w q 0 (C (G ⟨g,0,O⟩) B cap))(J:NodesAt w q (C (G ⟨g,0,O⟩) B cap) (zH ns cs))(M:q<w.1.size)(U:EvArg w ev ps)(H:qfq ps)(hs:vh7 ps):
  ut 54 #[Ag (G ⟨q,0,O⟩),ev] w (vV (ofA ps t)):=by
 have I:(zH ns cs).length=ns.length:=qe7 _ _;have Z:=r.pos;have A:=qju F
 have key:=qpg c0 J M ub ub U H hs (λi n j=>by
   rw[yC]at j
   cases hm:ns[i]? with
   | none=>rw[hm]at j;cases j
   | some m=>
    rw[hm]at j;simp only[nl]at j;injection j with j;obtain⟨o,a,b,c,d,e,f⟩:=qgs r u i m hm;rw[ee]at d;subst j
    exact⟨o,a,b,c,d,e,f⟩) (qqs (qxw r u A.1 A.2 (qav F)))
 obtain⟨ds,L,X,K⟩:=vh2 ps r u [] rfl
 have hv:(pk ps [] (zH ns cs)).getD ((zH ns cs).length - 1) nV=ofA ps t:=by
  rw[vg2,I,L,lj];exact K
 rw[hv]at key;exact key
theorem qz5(s:tq)(hs:s.size<=140737488355328)(i q:Int)(u:vq s=.err i q)(ev:Ap)(w:Ao)(K:∃a n c,ev=C a n c):
  ut 22 #[Y s,ev] w (Aj #[vV nV,I J i,I J q]):=by
 have RD:=qd (gw s hs (w.alloc (Al #[I J 0,I J 0,Y ⟨#[]⟩] 57)));rw[u]at RD;have G:=(Below.refl w.1.size w).alloc ui (Al #[I J 0,I J 0,Y ⟨#[]⟩] 57);obtain⟨a,n,c,rfl⟩:=K;have r:(i==0)=false:=by rcases zo u with h|h|h|h<;>rw[h]<;>rfl
 go_enter func22,ntmps22
 go_wp2_with(first|(go_at_call 53;refine RD.mono ?_;rintro e f⟨d,rfl⟩;have M:w.1.size<f.1.size:=(by have:=d.size;simp at this;omega);have F:Xc f w.1.size 0 (I J 0):=((qk d).1 _ 0 uc).trans uc;have B:Xc f w.1.size 1 (I J 0):=((qk d).1 _ 1 uc).trans uc;have A:Xc f w.1.size 2 (Y ⟨#[]⟩):=((qk d).1 _ 2 uc).trans uc;have L:Xf f w.1.size:=(λj=>((qk d).2 _ j uc).trans uc);have H:=qd (qg G d)))
 refine bj (by simp[go_sem,F,B,A]<;>rfl) rfl ⟨rfl, ?_⟩;exact((H.setCell uc _).setCell uc _).setCell uc _
theorem qz4(s:tq)(hs:s.size<=140737488355328)(t:Ast)(X:vq s=.ok t)(ps:List Pr)(ev:Ap)(w:Ao)(A:EvIn w ev ps)(H:EvGood ps)(E9:ym ps=false):
  ut 22 #[Y s,ev] w (Aj #[vV nV,I J 7,I J 0]):=by
 have RD:=qd (gw s hs (w.alloc (Al #[I J 0,I J 0,Y ⟨#[]⟩] 57)));rw[X]at RD;have r:=(Below.refl w.1.size w).alloc ui (Al #[I J 0,I J 0,Y ⟨#[]⟩] 57);have EVA:=qd (A.below r);obtain⟨a,n,c,rfl⟩:=A.slice;have u:=qd (λd (h:EvIn d (C a n c) ps)=>qb8 h H);rw[E9]at u;go_enter func22,ntmps22
 go_wp2_with(first|(go_at_call 53;refine RD.mono ?_;rintro e d⟨f,rfl,_⟩;have q:w.1.size<d.1.size:=(by have:=f.size;simp at this;omega);have U:=qd (EVA.below f);have M:Xc d w.1.size 0 (I J 0):=((qk f).1 _ 0 uc).trans uc;have L:Xc d w.1.size 1 (I J 0):=((qk f).1 _ 1 uc).trans uc;have K:Xc d w.1.size 2 (Y ⟨#[]⟩):=((qk f).1 _ 2 uc).trans uc;have B:Xf d w.1.size:=(λj=>((qk f).2 _ j uc).trans uc);have Z:=qd (qg r f))|(go_at_call 33;refine be (u _ U) λw2 i=>?_;have D4:w.1.size<w2.1.size:=(uu i.size);have G:Xc w2 w.1.size 0 (I J 0):=((qk i).1 _ 0 q).trans M;have k1:Xc w2 w.1.size 1 (I J 0):=((qk i).1 _ 1 q).trans L;have F:Xc w2 w.1.size 2 (Y ⟨#[]⟩):=((qk i).1 _ 2 q).trans K;have z2:Xf w2 w.1.size:=(λj=>((qk i).2 _ j q).trans (B j));have O:=qd (qg Z i)))
 refine bj (by simp[go_sem,G,k1,F]<;>rfl) rfl ⟨rfl, ?_⟩;exact((O.setCell uc _).setCell uc _).setCell uc _
theorem vfp(s:tq)(hs:s.size<=140737488355328)(t:Ast)(J2:vq s=.ok t)(ps:List Pr)(ev:Ap)(w:Ao)(C8:EvIn w ev ps)(U:EvGood ps)(M:ym ps=true):
  ut 22 #[Y s,ev] w (Aj #[vV (ofA ps t),I J 0,I J 0]):=by
 have RD:=qd (gw s hs (w.alloc (Al #[I J 0,I J 0,Y ⟨#[]⟩] 57)));rw[J2]at RD;have Z:=(Below.refl w.1.size w).alloc ui (Al #[I J 0,I J 0,Y ⟨#[]⟩] 57);have EVA:=qd (C8.below Z);obtain⟨a,n,c,rfl⟩:=C8.slice;have HV:=qd (λf (h:EvIn f (C a n c) ps)=>qb8 h U);rw[M]at HV
 have K:Hid (∀(w:Ao) (q g B cap:Nat) (ns:List RN) (cs:List Int),Flat t 0 ns->ShA t->ns.length<=200->Xc w q 0 (C (G ⟨g,0,O⟩) B cap)->NodesAt w q (C (G ⟨g,0,O⟩) B cap) (zH ns cs)->q<w.1.size->EvArg w (C a n c) ps ->
  ut 54 #[Ag (G ⟨q,0,O⟩),C a n c] w (vV (ofA ps t))):=qd λw q g B cap ns cs h1 h2 h3 h4 h5 h6 h7=>qpf J2 h1 h2 h3 h4 h5 h6 h7 U.rng (qwd M)
 have NR:=qd (vhf M);obtain⟨r,hr⟩:=it (ofA ps t);rw[hr]at K |-;simp only[vV]at K;go_enter func22,ntmps22
 go_wp2_with(first|(go_at_call 53;refine RD.mono ?_;rintro e f⟨i,rfl,L,ns,cs,g,B,cap,E6,aL,dH,c0,X⟩;have V4:(w.alloc (Al #[I J 0,I J 0,Y ⟨#[]⟩] 57)).1.size=w.1.size+1:=uc;rw[V4]at c0 X L;have H:w.1.size<f.1.size:=(by have:=i.size;simp at this;omega);have QX:=qd (EVA.below i);have g0:Xc f w.1.size 0 (I J 0):=((qk i).1 _ 0 uc).trans uc;have g1:Xc f w.1.size 1 (I J 0):=((qk i).1 _ 1 uc).trans uc;have g2:Xc f w.1.size 2 (Y ⟨#[]⟩):=((qk i).1 _ 2 uc).trans uc;have z0:Xf f w.1.size:=(λj=>((qk i).2 _ j uc).trans uc);have I1:=qd (qg Z i);have mG:=qd c0;have HN:=qd X;have P4:=qd E6;have mZ:=qd aL;have YZ:=qd dH)|(go_at_call 33;refine be (HV _ QX) λw2 d=>?_;have F:w.1.size<w2.1.size:=(uu d.size);have RJ:w.1.size+1<w2.1.size:=(uu d.size);have QW:=qd (QX.below d);have k0:Xc w2 w.1.size 0 (I J 0):=((qk d).1 _ 0 H).trans g0;have k1:Xc w2 w.1.size 1 (I J 0):=((qk d).1 _ 1 H).trans g1;have k2:Xc w2 w.1.size 2 (Y ⟨#[]⟩):=((qk d).1 _ 2 H).trans g2;have z2:Xf w2 w.1.size:=(λj=>((qk d).2 _ j H).trans (z0 j));have NQ:=qd (((qk d).1 _ 0 L).trans mG);have IB:=qd (HN.below L d);have b8:=qd (qg I1 d))|(go_at_call 54;refine be (K _ _ _ _ _ _ _ P4 mZ YZ NQ IB RJ (QW.arg NR)) λA u=>?_;have m0:Xc A w.1.size 0 (I J 0):=((qk u).1 _ 0 F).trans k0;have m1:Xc A w.1.size 1 (I J 0):=((qk u).1 _ 1 F).trans k1;have m2:Xc A w.1.size 2 (Y ⟨#[]⟩):=((qk u).1 _ 2 F).trans k2;have z3:Xf A w.1.size:=(λj=>((qk u).2 _ j F).trans (z2 j));have oY:=qd (qg b8 u)))
 refine bj (by simp[go_sem,m0,m1,m2]<;>rfl) rfl ⟨rfl, ?_⟩;exact((oY.setCell uc _).setCell uc _).setCell uc _
theorem qz3(s:tq)(hs:s.size<=140737488355328)(ps:List Pr)(ev:Ap)(w:Ao)(d:EvIn w ev ps)(f:EvGood ps):
  ut 22 #[Y s,ev] w (Aj #[vV (qay s ps).val,I J (qay s ps).errno,I J (qay s ps).M]):=by
 unfold qay
 cases J2:vq s with
 | err en pl=>exact qz5 s hs en pl J2 ev w d.slice
 | ok t=>
  cases E9:ym ps with
  | true=>exact vfp s hs t J2 ps ev w d f E9
  | false=>exact qz4 s hs t J2 ps ev w d f E9
def qbf:Co->List Co
 | .leaf p=>[.leaf p]
 | .un p x=>qbf x++[.un p x]
 | .bin p x y=>qbf x++qbf y++[.bin p x y]
def vey:Co->CP
 | .leaf p=>p
 | .un p _=>p
 | .bin p _ _=>p
theorem qfl:∀c,qF c=(qbf c).map qt/\jV c=(qbf c).map λd=>qf4 (vey d):=by
 intro c
 induction c with
 | leaf p=>exact⟨rfl,rfl⟩
 | un p x ih=>exact⟨by simp[qF,qbf,ih.1],by simp[jV,qbf,ih.2,vey]⟩
 | bin p x y ihx ihy=>exact⟨by simp[qF,qbf,ihx.1,ihy.1],by simp[jV,qbf,ihx.2,ihy.2,vey]⟩
theorem vmx:∀c,OkC c->∀d∈qbf c,OkC d:=by
 intro c
 induction c with
 | leaf p=>intro h d hd;obtain rfl:=cu.1 hd;exact h
 | un p x ih=>
  intro h d hd;rcases cr.1 hd with hd|hd;exact ih h.1 d hd;obtain rfl:=cu.1 hd;exact h
 | bin p x y ihx ihy=>
  intro h d hd;rcases cr.1 hd with hd|hd;rcases cr.1 hd with hd|hd;exact ihx h.1 d hd;exact ihy h.2.1 d hd;obtain rfl:=cu.1 hd;exact h
inductive Gath:List Co->List Co->List Co->Prop
 | nil (D:List Co):Gath D [] D
 | old {D l E:List Co} {c:Co}:c∈D->Gath D l E->Gath D (c::l) E
 | new {D l E:List Co} {c:Co}:c∉D->Gath (D++[c]) l E->Gath D (c::l) E
theorem Gath.app{l E:List Co}(h:Gath D l E){m F:List Co}(d:Gath E m F):Gath D (l++m) F:=by
 induction h with
 | nil D=>exact d
 | old hc _ ih=>exact .old hc (ih d)
 | new hc _ ih=>exact .new hc (ih d)
theorem Gath.pre{l E:List Co}(h:Gath D l E):∃N,E=D++N:=by
 induction h with
 | nil D=>exact⟨[],uc⟩
 | old _ _ ih=>exact ih
 | @new _ _ _ c _ _ ih=>obtain⟨N,e⟩:=ih;exact⟨c::N,by rw[e];simp⟩
def TmC(D:List Co):Co->Tm->Prop
 | .leaf p,t=>t=zK p 0 0
 | .un p x,t=>∃a,D[a]?=G x/\t=zK p a 0
 | .bin p x y,t=>∃a b,D[a]?=G x/\D[b]?=G y/\t=zK p a b
theorem TmC.more{N:List Co}{c:Co}(h:TmC D c t):TmC (D++N) c t:=by
 have key:∀{a:Nat} {x:Co},D[a]?=G x->(D++N)[a]?=G x:=λ{a x} h=>by rw[cg (aj.1 h).1];exact h
 cases c with
 | leaf p=>exact h
 | un p x=>obtain⟨a,f,d⟩:=h;exact⟨a,key f,d⟩
 | bin p x y=>obtain⟨a,b,f,d,i⟩:=h;exact⟨a,b,key f,key d,i⟩
theorem vpr{c:Co}(h:OkC c):match c with
  | .leaf p=>0<=p.op/\p.op<=4
  | .un p _=>p.op=5\/p.op=22\/p.op=23
  | .bin p _ _=>jp p.op:=by
 cases c with
 | leaf p=>
  show 0<=p.op/\p.op<=4;rcases h with⟨a,_⟩|⟨a,_⟩|⟨a,_⟩|⟨a,_⟩<;>omega
 | un p x=>
  show p.op=5\/p.op=22\/p.op=23;obtain⟨_,rfl|⟨_,rfl|f⟩⟩:=h;exact Am rfl;exact An (An rfl);exact An (Am f.1)
 | bin p x y=>obtain⟨_,_,op,d,rfl⟩:=h;exact d
theorem qaj{p q:CP}{a f d:Nat}(F:0<=p.op)(C:0<=q.op)(h:zK p a b=zK q f d):p=q/\a=f/\b=d:=by
 obtain⟨o,n,s,e⟩:=p;obtain⟨i,H,G,J⟩:=q;unfold zK at h;simp only at h F C;injection h with I B A u r j;have:o=i:=ub;subst this u r j;exact⟨rfl,B,A⟩
theorem TmC.inj{c d:Co}(C:OkC c)(hd:OkC d)(h:TmC D c t)(i:TmC D d t):c=d:=by
 have j:=vpr C;have f:=vpr hd
 cases c with
 | leaf p=>
  simp only at j
  cases d with
  | leaf q=>rw[show t=zK p 0 0 from h]at i;rw[(qaj j.1 f.1 (show zK p 0 0=zK q 0 0 from i)).1]
  | un q x=>
   simp only at f;obtain⟨a,_,e⟩:=i;rw[show t=zK p 0 0 from h]at e;obtain⟨rfl,_⟩:=qaj j.1 ub e;omega
  | bin q x y=>
   simp only[jp]at f;obtain⟨a,b,_,_,e⟩:=i;rw[show t=zK p 0 0 from h]at e;obtain⟨rfl,_⟩:=qaj j.1 ub e;omega
 | un p x=>
  simp only at j;obtain⟨a,s,rfl⟩:=h
  cases d with
  | leaf q=>
   simp only at f;obtain⟨rfl,_⟩:=qaj ub f.1 (show zK p a 0=zK q 0 0 from i);omega
  | un q x'=>
   simp only at f;obtain⟨u,r,e⟩:=i;obtain⟨rfl,rfl,_⟩:=qaj ub ub e;rw[s]at r;injection r with e;rw[e]
  | bin q x' y'=>
   simp only[jp]at f;obtain⟨u,H,_,_,e⟩:=i;obtain⟨rfl,_⟩:=qaj ub ub e;omega
 | bin p x y=>
  simp only[jp]at j;obtain⟨a,b,s,B,rfl⟩:=h
  cases d with
  | leaf q=>
   simp only at f;obtain⟨rfl,_⟩:=qaj ub f.1 (show zK p a b=zK q 0 0 from i);omega
  | un q x'=>
   simp only at f;obtain⟨u,_,e⟩:=i;obtain⟨rfl,_⟩:=qaj ub ub e;omega
  | bin q x' y'=>
   simp only[jp]at f;obtain⟨u,H,r,A,e⟩:=i;obtain⟨rfl,rfl,rfl⟩:=qaj ub ub e;rw[s]at r;rw[B]at A;injection r with G;injection A with F;rw[G,F]
theorem vkl(f:D.Nodup){a:Nat}(d:D[a]?=G x)(hb:D[b]?=G x):a=b:=by
 exact(List.getElem?_inj (aj.1 d).1 f).1 (d.trans hb.symm)
theorem TmC.one(d:D.Nodup){c:Co}{u:Tm}(h:TmC D c t)(j:TmC D c u):t=u:=by
 cases c with
 | leaf p=>exact(show t=_ from h).trans (show u=_ from j).symm
 | un p x=>
  obtain⟨a,i,rfl⟩:=h;obtain⟨b,f,rfl⟩:=j;rw[vkl d i f]
 | bin p x y=>
  obtain⟨a,b,i,f,rfl⟩:=h;obtain⟨A,s,r,q,rfl⟩:=j;rw[vkl d i r,vkl d f q]
structure PrT(ts:List Tm)(D:List Co):Prop where
 len:ts.length=D.length
 ok:∀c∈D,OkC c
 nd:D.Nodup
 at':∀(i:Nat) (c:Co),D[i]?=G c->∃t,ts[i]?=G t/\TmC D c t
theorem PrT.nil:PrT [] []:=⟨rfl,uc,uc,λi c h=>by simp at h⟩
theorem PrT.put{ts:List Tm}(h:PrT ts D){c:Co}(C:OkC c)(s:TmC D c t):∃E,Gath D [c] E/\PrT (pC ts t).1 E/\E[(pC ts t).2]?=G c:=by
 unfold pC
 cases hw:j8 ts t with
 | some i=>
  unfold j8 at hw;obtain⟨J,B,_⟩:=ib.1 hw;have B:ts[i]=t:=(yX _ _).1 B;obtain⟨d,hd⟩:∃d,D[i]?=G d:=⟨_,ag (uu h.len)⟩;obtain⟨u,f,hv⟩:=h.at' i d hd;have r:u=t:=by rw[ag J,B]at f;injection f with f;exact f.symm
  subst r;have A:c=d:=TmC.inj C (h.ok d (bg hd)) s hv;subst A;exact⟨D,.old (bg hd) (.nil _),h,hd⟩
 | none=>
  have K:∀u∈ts,¬u=t:=by
   unfold j8 at hw;have:=sg.1 hw;intro u f e;have:=this u f;rw[(yX u t).2 e]at this;cases this
  have q:c∉D:=by
   intro F;obtain⟨j,H⟩:=dd F;obtain⟨u,f,hv⟩:=h.at' j c H;exact K u (bg f) (TmC.one h.nd hv s)
  refine⟨D++[c],.new q (.nil _),⟨by simp[h.len], ?_, ?_, ?_⟩, ?_⟩;intro d hd;rcases cr.1 hd with hd|hd;exact h.ok d hd;obtain rfl:=cu.1 hd;exact C;rw[List.nodup_append];refine⟨h.nd,uc,λa I b hb=>?_⟩;obtain rfl:=cu.1 hb;exact λe=>q (e ▸ I)
  intro i d hd
  by_cases hi:i<D.length
  rw[cg hi]at hd;obtain⟨u,f,hv⟩:=h.at' i d hd;exact⟨u,by rw[cg (uu h.len)];exact f,hv.more⟩;rw[da ub]at hd
  have e:i=D.length:=by
   have:=(aj.1 hd).1;simp at this;omega
  subst e;obtain rfl:c=d:=by simpa using hd
  exact⟨t,by rw[<-h.len];simp,s.more⟩;show(D++[c])[ts.length]?=G c;rw[h.len];simp
theorem PrT.M:∀(c:Co),OkC c->∀(ts:List Tm) (D:List Co),PrT ts D->∃E,Gath D (qbf c) E/\PrT (qC ts c).1 E/\E[(qC ts c).2]?=G c:=by
 intro c
 induction c with
 | leaf p=>intro d ts D h;exact h.put d rfl
 | un p x ih=>
  intro d ts D h;obtain⟨E,r,q,i⟩:=ih d.1 ts D h;obtain⟨F,f,j,s⟩:=q.put (c:=.un p x) (t:=zK p (qC ts x).2 0) d ⟨_,i,rfl⟩;exact⟨F,r.app f,j,s⟩
 | bin p x y ihx ihy=>
  intro d ts D h;obtain⟨E,r,q,i⟩:=ihx d.1 ts D h;obtain⟨F,f,j,s⟩:=ihy d.2.1 _ E q;obtain⟨N,A⟩:=f.pre;have u:F[(qC ts x).2]?=G x:=by rw[A,cg (aj.1 i).1];exact i
  obtain⟨I,C,B,H⟩:=j.put (c:=.bin p x y) (t:=zK p (qC ts x).2 (qC (qC ts x).1 y).2) d ⟨_,_,u,s,rfl⟩;exact⟨I,(r.app f).app C,B,H⟩
def yG(a:List (List UInt8)×Nat)(e:List UInt8×Nat):List (List UInt8)×Nat:=if a.1.contains e.1 then a else(a.1++[e.1],a.2+e.2)
def qhq(D:List Co):Nat:=(D.map λd=>qf4 (vey d)).sum
theorem vjk{l E:List Co}(h:Gath D l E)(j:∀c∈D,OkC c)(f:∀c∈l,OkC c):(l.map λd=>(qt d,qf4 (vey d))).foldl yG (D.map qt,qhq D)=(E.map qt,qhq E):=by
 induction h with
 | nil D=>rfl
 | @old D l E c hc _ ih=>
  rw[fu,sq]
  have i:((D.map qt).contains (qt c))=true:=by
   rw[tj];exact ik hc
  rw[show yG (D.map qt,qhq D) (qt c,qf4 (vey c))=(D.map qt,qhq D) by unfold yG;rw[bo i]];exact ih j (λd hd=>f d (fe _ hd))
 | @new D l E c hc _ ih=>
  rw[fu,sq]
  have i:¬((D.map qt).contains (qt c))=true:=by
   rw[tj];intro h;obtain⟨d,hd,e⟩:=eg.1 h;exact hc (vag (j d hd) (f c ei) e ▸ hd)
  rw[show yG (D.map qt,qhq D) (qt c,qf4 (vey c))=((D++[c]).map qt,qhq (D++[c])) by unfold yG qhq;rw[ak i];simp];refine ih (λd hd=>?_) (λd hd=>f d (fe _ hd));rcases cr.1 hd with hd|hd;exact j d hd;obtain rfl:=cu.1 hd;exact f d ei
section
attribute [local go_sem ↓] vsj
theorem vdt:(prog.info? 5).map (λi=>(i.zero,i.size,i.bytes))=G (G (I .u8 0),1,1):=uh
structure RoAt(base:Nat)(e:TypeId)(W W5:Ao)(v:Ap)(g:Nat)(x:Ap):Prop where
 u:Below base W W5
 block:∀b,b<W.1.size->v.ownBlock≠G b->W5.1[b]?=W.1[b]?
 at':v.ownBlock=G g\/W.1.size<g
 old:∀b,v.ownBlock=G b->(∃cur,W5.1[b]?=G (Al cur e (0,0)))/\∀j,W.cell? ⟨b,j,O⟩=G x->W5.cell? ⟨b,j,O⟩=G x
 size:W.1.size<W5.1.size
theorem qzl{x:Ap}(u:prog.underlying T=G (.slice e))(B:prog.info? e=G i0)(F:i0.zero=G z)(J:i0.size=1)(I:i0.bytes=bytes)(FP:z.cells.size=1)(h:W.ownsRow base e 1 v n xs)(hb:base<=W.1.size)(s:x.oneCell'=true)(hn:n<=20000000000000)(C:((n+1)+(n+1) / 4+192) * bytes<=281474976710656)(H:Nat)(U:W.1.size=H):
  ∃g cap d,(qe9 #[T,T] T #[v,.slice (G ⟨H,0,O⟩) 1 1]).run prog (W.alloc (Al #[x] e)).drew=.ok (.slice (G ⟨g,0,O⟩) (n+1) cap) d/\Hid (d.ownsRow base e 1 (.slice (G ⟨g,0,O⟩) (n+1) cap) (n+1) (xs++[x]))/\Hid (RoAt base e W d v g x):=by
 subst U;have i:(W.alloc (Al #[x] e)).drew.ownsRow base e 1 v n xs:=World.ownsRow.alloc h (Al #[x] e);have r:(W.alloc (Al #[x] e)).drew.cell? ⟨W.1.size,0,O⟩=G x:=by show(W.alloc (Al #[x] e)).cell? _=_;simp
 have V4:(W.alloc (Al #[x] e)).drew.1.size=W.1.size+1:=by show(W.alloc (Al #[x] e)).1.size=_;simp
 obtain⟨g,cap,d,A,B7,q,F3⟩:=qpz (ty:=T) u B F J I FP i r s C (by unfold maxLen;omega) ub;have hs:=q.size;refine⟨g,cap,d,A,qd B7,qd ⟨Go.RowKit.Below.grown (((Below.refl base W).alloc hb _).drew) q ub (λk L=>(i.lt k L).1),λb Z f=>(q.block b ub (λe=>f e.symm)).trans (((Below.refl W.1.size W).alloc ui _).block b Z), ?_,λb hv=>?_,ub⟩⟩;rcases F3 with h|h;exact Am h
 right;rw[h];omega
 have K:=(h.lt b hv).2;obtain⟨Y,X⟩:=qye u B F J I i r s C ub A b hv;exact⟨Y,λj M=>X j ((aw (w:=W) (a:=⟨b,j,O⟩) (((Below.refl W.1.size W).alloc ui _).block b K)).trans M)⟩
theorem qrb{x:Ap}(u:prog.underlying T=G (.slice e))(B:prog.info? e=G i0)(F:i0.zero=G z)(J:i0.size=1)(I:i0.bytes=bytes)(FP:z.cells.size=1)(h:W.ownsRow base e 1 v n xs)(hb:base<=W.1.size)(s:x.oneCell'=true)(hn:n<=20000000000000)(C:((n+1)+(n+1) / 4+192) * bytes<=281474976710656)(H:Nat)(U:W.1.size=H):
  ∃g cap d,(qe9 #[T,T] T #[v,.slice (G ⟨H,0,O⟩) 1 1]).run prog (W.alloc (Al #[x] e))=.ok (.slice (G ⟨g,0,O⟩) (n+1) cap) d/\Hid (d.ownsRow base e 1 (.slice (G ⟨g,0,O⟩) (n+1) cap) (n+1) (xs++[x]))/\Hid (RoAt base e W d v g x):=by
 subst U;have i:(W.alloc (Al #[x] e)).ownsRow base e 1 v n xs:=World.ownsRow.alloc h (Al #[x] e);have r:Xc (W.alloc (Al #[x] e)) W.1.size 0 x:=by show(W.alloc (Al #[x] e)).cell? _=_;simp
 have V4:(W.alloc (Al #[x] e)).1.size=W.1.size+1:=by show(W.alloc (Al #[x] e)).1.size=_;simp
 obtain⟨g,cap,d,A,B7,q,F3⟩:=qpz (ty:=T) u B F J I FP i r s C (by unfold maxLen;omega) ub;have hs:=q.size;refine⟨g,cap,d,A,qd B7,qd ⟨Go.RowKit.Below.grown (((Below.refl base W).alloc hb _)) q ub (λk L=>(i.lt k L).1),λb Z f=>(q.block b ub (λe=>f e.symm)).trans (((Below.refl W.1.size W).alloc ui _).block b Z), ?_,λb hv=>?_,ub⟩⟩;rcases F3 with h|h;exact Am h
 right;rw[h];omega
 have K:=(h.lt b hv).2;obtain⟨Y,X⟩:=qye u B F J I i r s C ub A b hv;exact⟨Y,λj M=>X j ((aw (w:=W) (a:=⟨b,j,O⟩) (((Below.refl W.1.size W).alloc ui _).block b K)).trans M)⟩
structure LgAt(base:Nat)(W W':Ao)(nv bv:Ap)(m:Nat):Prop where
 u:Below base W W'
 size:W.1.size<W'.1.size
 block:∀b,b<W.1.size->nv.ownBlock≠G b->bv.ownBlock≠G b->W'.1[b]?=W.1[b]?
 oldN:∀b,nv.ownBlock=G b->(∃cur,W'.1[b]?=G (Al cur 3 (0,0)))/\∀j,W.cell? ⟨b,j,O⟩=G (qdh m)->W'.cell? ⟨b,j,O⟩=G (qdh m)
 oldB:∀b,bv.ownBlock=G b->(∃cur,W'.1[b]?=G (Al cur 5 (0,0)))/\∀j,W.cell? ⟨b,j,O⟩=G (qcl m)->W'.cell? ⟨b,j,O⟩=G (qcl m)
theorem vfo(n:Nat)(x:Ap):List.replicate n x++[x]=List.replicate (n+1) x:=by rw[List.replicate_succ']
theorem qt3(h:FmAt base W gb m nv bv nn bn (List.replicate nn (qdh m)) (List.replicate bn (qcl m)))(hm:m<=20000000000000)(tC:nn<=1000000000)(oS:bn<=1000000000):
  ua 64 #[Ag (G ⟨gb,0,O⟩)] W λe W'=>e=Ak (Ag (G ⟨W.1.size,0,O⟩))/\(∃nv' bv',FmAt base W' W.1.size m nv' bv' (nn+1) (bn+1) (List.replicate (nn+1) (qdh m)) (List.replicate (bn+1) (qcl m))/\(∀k,nv'.ownBlock=G k->nv.ownBlock=G k\/W.1.size<=k)/\∀k,bv'.ownBlock=G k->bv.ownBlock=G k\/W.1.size<=k)/\LgAt base W W' nv bv m:=by
 have TJ:∃a c,nv=C a nn c:=by
  rcases h.nr.2 with⟨rfl,h0⟩|⟨g,cap,cur,rfl,_⟩;exact⟨O,0,by rw[h0]⟩;exact⟨_,_,rfl⟩
 have VG:∃a c,bv=C a bn c:=by
  rcases h.br.2 with⟨rfl,h0⟩|⟨g,cap,cur,rfl,_⟩;exact⟨O,0,by rw[h0]⟩;exact⟨_,_,rfl⟩
 have hw:IntKind.i64.wrap (-1099511627776 - (m:Int))=-1099511627776 - (m:Int):=by
  have DD:IntKind.i64.bits=64:=rfl;have AY:IntKind.i64.signed=true:=rfl;simp[IntKind.wrap,DD,AY];omega
 have eP:=h.lo;have A1:=h.lt;obtain⟨V,K⟩:=uk (W.alloc (Al #[C O 0 0,C O 0 0,I J (m:Int)] 74):Ao);have sI:Xb W V:=K ▸ uj.alloc ui _
 have sH:V.1.size=W.1.size+1:=by rw[K];simp
 have DJ:∀i,V.cell? ⟨W.1.size,i,O⟩=#[C O 0 0,C O 0 0,I J (m:Int)][i]?:=λi=>by rw[K,ch _ _ _ _ uc]
 have hVf:Xf V W.1.size:=λi=>by rw[K];simp
 obtain⟨i0,hi,F5,B8,D4⟩:=info_parts qix;obtain⟨f,L,s,iC,aJ,ET⟩:=qzl (T:=50) underlying50 hi F5 B8 D4 rfl (W:=V) (qE h.nr sI ui) (show base<=V.1.size by omega) (x:=qdh m) rfl ub ub (W.1.size+1) sH;have GO:=q9 ET;have nW:∀k,nv.ownBlock=G k->k<W.1.size:=λk r=>(h.nr.lt k r).2
 have dD:∀k,bv.ownBlock=G k->k<W.1.size:=λk r=>(h.br.lt k r).2
 have TP:nv.ownBlock≠G W.1.size:=λe=>uu (nW _ e)
 have sD:bv.ownBlock≠G W.1.size:=λe=>uu (dD _ e)
 have nE:V.1.size<s.1.size:=GO.size;have k5:∀b,b<V.1.size->nv.ownBlock≠G b->s.1[b]?=V.1[b]?:=GO.block;have tK:f<s.1.size/\(nv.ownBlock=G f\/V.1.size<f):=⟨(aJ.lt f rfl).2,GO.at'⟩;have tJ:f≠W.1.size:=λe=>by rcases tK.2 with q|q;exact TP (e ▸ q);omega
 have CQ:bv.ownBlock≠G f:=λe=>by rcases tK.2 with q|q;exact h.nb f q e;have:=dD _ e;omega
 obtain⟨d,F⟩:∃X:Ao,X=s.setCell ⟨W.1.size,0,O⟩ (C (G ⟨f,0,O⟩) (nn+1) L):=⟨_,rfl⟩;have VP:d.1.size=s.1.size:=by rw[F,md]
 have M:∀b,b≠W.1.size->d.1[b]?=s.1[b]?:=λb hb=>by rw[F];exact au _ ⟨W.1.size,0,O⟩ _ b hb
 have Y:s.1[W.1.size]?=V.1[W.1.size]?:=k5 _ ub TP;have p0:s.cell? ⟨W.1.size,0,O⟩=G (C O 0 0):=(aw (w:=V) (a:=⟨W.1.size,0,O⟩) Y).trans (DJ 0);have p1:s.cell? ⟨W.1.size,1,O⟩=G (C O 0 0):=(aw (w:=V) (a:=⟨W.1.size,1,O⟩) Y).trans (DJ 1);have p2:s.cell? ⟨W.1.size,2,O⟩=G (I J (m:Int)):=(aw (w:=V) (a:=⟨W.1.size,2,O⟩) Y).trans (DJ 2);have pz:Xf s W.1.size:=λi=>(cn (w:=V) (a:=⟨W.1.size,i,O⟩) Y).trans (hVf i)
 have kVW:∀b,b<W.1.size->V.1[b]?=W.1[b]?:=λb hb=>sI.block b hb
 have CJ:d.1[gb]?=W.1[gb]?:=(M gb ub).trans ((k5 gb ub h.nd).trans (kVW gb A1));have v0:V.cell? ⟨gb,0,O⟩=G nv:=(aw (w:=W) (a:=⟨gb,0,O⟩) (kVW gb A1)).trans h.c0;have v2:V.cell? ⟨gb,2,O⟩=G (I J (m:Int)):=(aw (w:=W) (a:=⟨gb,2,O⟩) (kVW gb A1)).trans h.c2;have x1:d.cell? ⟨gb,1,O⟩=G bv:=(aw (w:=W) (a:=⟨gb,1,O⟩) CJ).trans h.c1;have x2:d.cell? ⟨gb,2,O⟩=G (I J (m:Int)):=(aw (w:=W) (a:=⟨gb,2,O⟩) CJ).trans h.c2
 have LC:d.ownsRow base 5 1 bv bn (List.replicate bn (qcl m)):=vj h.br λk r=>by
  have A8:=dD k r;exact(M k ub).trans ((k5 k ub (λe=>h.nb k e r)).trans (kVW k A8))
 have q0:d.cell? ⟨W.1.size,0,O⟩=G (C (G ⟨f,0,O⟩) (nn+1) L):=by rw[F];simp[go_sem,p0]
 have q1:d.cell? ⟨W.1.size,1,O⟩=G (C O 0 0):=by rw[F];simp[go_sem,p1]
 have q2:d.cell? ⟨W.1.size,2,O⟩=G (I J (m:Int)):=by rw[F];simp[go_sem,p2]
 have qz:Xf d W.1.size:=λi=>by rw[F];simp[go_sem,pz i]
 obtain⟨j0,hj,dL,hy1,hy2⟩:=info_parts vdt;obtain⟨A,U5,u,cD,EP,HO6⟩:=qzl (T:=65) underlying65 hj dL hy1 hy2 rfl (W:=d) LC (show base<=d.1.size by omega) (x:=qcl m) rfl ub ub d.1.size rfl;have GN:=q9 HO6;have ZY:d.1.size<u.1.size:=GN.size;have k6:∀b,b<d.1.size->bv.ownBlock≠G b->u.1[b]?=d.1[b]?:=GN.block;have OU:bv.ownBlock=G A\/d.1.size<A:=GN.at';have CN:A≠W.1.size:=λe=>by rcases OU with q|q;exact sD (e ▸ q);omega
 have Z:u.1[W.1.size]?=d.1[W.1.size]?:=k6 _ ub sD;have s0:u.cell? ⟨W.1.size,0,O⟩=G (C (G ⟨f,0,O⟩) (nn+1) L):=(aw (w:=d) (a:=⟨W.1.size,0,O⟩) Z).trans q0;have s1:u.cell? ⟨W.1.size,1,O⟩=G (C O 0 0):=(aw (w:=d) (a:=⟨W.1.size,1,O⟩) Z).trans q1;have s2:u.cell? ⟨W.1.size,2,O⟩=G (I J (m:Int)):=(aw (w:=d) (a:=⟨W.1.size,2,O⟩) Z).trans q2;have sz:Xf u W.1.size:=λi=>(cn (w:=d) (a:=⟨W.1.size,i,O⟩) Z).trans (qz i)
 obtain⟨H,B⟩:∃X:Ao,X=u.setCell ⟨W.1.size,1,O⟩ (C (G ⟨A,0,O⟩) (bn+1) U5):=⟨_,rfl⟩;have U:∀b,b≠W.1.size->H.1[b]?=u.1[b]?:=λb hb=>by rw[B];exact au _ ⟨W.1.size,1,O⟩ _ b hb
 have VO:H.1.size=u.1.size:=by rw[B,md]
 have aU:Below base W d:=by
  rw[F];exact Below.setCell ((sI.mono ub).trans GO.u) (by show base<=W.1.size;omega) _
 have aW:Below base W H:=by
  rw[B];exact Below.setCell (aU.trans GN.u) (by show base<=W.1.size;omega) _
 have keepB:∀b,b<W.1.size->nv.ownBlock≠G b->bv.ownBlock≠G b->H.1[b]?=W.1[b]?:=λb hb q h2=>(U b ub).trans ((k6 b ub h2).trans ((M b ub).trans ((k5 b ub q).trans (kVW b hb))))
 have ZP:∃cur,H.1[W.1.size]?=G (Al cur 74 (0,0)):=by
  have tV:V.1[W.1.size]?=G (Al #[C O 0 0,C O 0 0,I J (m:Int)] 74 (0,0)):=by rw[K];exact heap_alloc_new W _
  have t5:=Y.trans tV;have tX5:d.1[W.1.size]?=G (Al (Array.setIfInBounds #[C O 0 0,C O 0 0,I J (m:Int)] 0 (C (G ⟨f,0,O⟩) (nn+1) L)) 74 (0,0)):=by rw[F];simp[World.setCell,ij,t5]
  have t6:=Z.trans tX5;refine⟨Array.setIfInBounds (Array.setIfInBounds #[C O 0 0,C O 0 0,I J (m:Int)] 0 (C (G ⟨f,0,O⟩) (nn+1) L)) 1 (C (G ⟨A,0,O⟩) (bn+1) U5), ?_⟩;rw[B];simp[World.setCell,ij,t6]
 have HFM:Hid (FmAt base H W.1.size m (C (G ⟨f,0,O⟩) (nn+1) L) (C (G ⟨A,0,O⟩) (bn+1) U5) (nn+1) (bn+1) (List.replicate (nn+1) (qdh m)) (List.replicate (bn+1) (qcl m))):=qd (by
  have r5:=q9 aJ;have r6:=q9 EP;rw[vfo]at r5 r6;refine⟨ub,ZP,by rw[B];simp[go_sem,s0],by rw[B];simp[go_sem,s1],by rw[B];simp[go_sem,s2],λi=>by rw[B];simp[go_sem,sz i], ?_, ?_,λe=>tJ (by simpa [Value.ownBlock]using e),λe=>CN (by simpa [Value.ownBlock]using e),λk r A8=>?_⟩;refine vj r5 λk r=>?_
  obtain rfl:f=k:=by simpa [Value.ownBlock]using r
  exact(U f tJ).trans ((k6 f ub CQ).trans (M f tJ));refine vj r6 λk r=>?_
  obtain rfl:A=k:=by simpa [Value.ownBlock]using r
  exact U A CN;obtain rfl:f=k:=by simpa [Value.ownBlock]using r
  obtain rfl:A=f:=by simpa [Value.ownBlock]using A8
  rcases OU with q|q;exact CQ q
  have:=tK.1;omega)
 have HLG:Hid (LgAt base W H nv bv m):=qd ⟨aW,ub,keepB,λb hb=>by
   have hl:=nW b hb;have cZ:bv.ownBlock≠G b:=λe=>h.nb b hb e
   obtain⟨⟨cur,q⟩,h2⟩:=GO.old b hb;have hx:H.1[b]?=s.1[b]?:=(U b ub).trans ((k6 b ub cZ).trans (M b ub))
   exact⟨⟨cur,hx.trans q⟩,λj hj=>(aw (w:=s) (a:=⟨b,j,O⟩) hx).trans (h2 j ((aw (w:=W) (a:=⟨b,j,O⟩) (kVW b hl)).trans hj))⟩,λb hb=>by
   have hl:=dD b hb;have cZ:nv.ownBlock≠G b:=λe=>h.nb b e hb
   obtain⟨⟨cur,q⟩,h2⟩:=GN.old b hb;have hx5:d.1[b]?=W.1[b]?:=(M b ub).trans ((k5 b ub cZ).trans (kVW b hl))
   exact⟨⟨cur,(U b ub).trans q⟩,λj hj=>(aw (w:=u) (a:=⟨b,j,O⟩) (U b ub)).trans (h2 j ((aw (w:=W) (a:=⟨b,j,O⟩) hx5).trans hj))⟩⟩
 have fG:Hid ((∀k,(C (G ⟨f,0,O⟩) (nn+1) L).ownBlock=G k->nv.ownBlock=G k\/W.1.size<=k)/\∀k,(C (G ⟨A,0,O⟩) (bn+1) U5).ownBlock=G k->bv.ownBlock=G k\/W.1.size<=k):=qd ⟨λk r=>by
   obtain rfl:f=k:=by simpa [Value.ownBlock]using r
   exact tK.2.imp id (λ_=>ub),λk r=>by
   obtain rfl:A=k:=by simpa [Value.ownBlock]using r
   exact OU.imp id (λ_=>ub)⟩
 have HV:=qd K;have wX:=qd F;have HX6:=qd B;have g2:=h.c2;obtain⟨na,nc,rfl⟩:=TJ;obtain⟨ba,bc,rfl⟩:=VG;unfold qdh at iC;unfold qcl at cD;have n6:gb<d.1.size:=ub;have n8:W.1.size<s.1.size:=ub;have n9:W.1.size<u.1.size:=ub;clear h sI DJ hVf aJ ET GO nW dD TP sD k5 tK tJ CQ F M Y kVW CJ LC EP HO6 GN k6 OU CN Z B U aU aW keepB K VP VO ZP;go_enter func64,ntmps64
 go_wp2
 rw[<-q9 HV]
 go_region
 all_goals go_wp2
 all_goals rw[<-q9 wX]
 all_goals go_region
 all_goals go_wp2
 all_goals rw[<-q9 HX6]
 all_goals go_ret
 all_goals exact⟨rfl,⟨_,_,q9 HFM,fG.1,fG.2⟩,q9 HLG⟩
end
section
variable {pv:Ap}
attribute [local go_sem ↓] vsj
theorem vjr:(prog.info? 47).map (λi=>(i.zero,i.size,i.bytes))=G (G (Ag O),1,8):=uh
theorem yt{e size:Nat}{U:Ao}(h:U.ownsRow base e size v n xs)(d:v.ownBlock=G k):∃c,U.1[k]?=G (Al c e (0,0)):=by
 rcases h.2 with⟨rfl,_⟩|⟨g,cap,cur,rfl,_,f,_⟩;cases d;obtain rfl:g=k:=by simpa [Value.ownBlock]using d
 exact⟨cur,f⟩
theorem qeo{a:Nat}{c d:Array Ap}(i:W.1[k]?=G (Al c a (0,0)))(f:W.1[k]?=G (Al d b (0,0))):a=b:=by
 rw[i]at f;injection f with f;injection f with _ f _
theorem vhl{N:Nat->Prop}{T:Nat}{x:Ap}(h:W.ownsRow base T 1 v n (List.replicate n x))(f:n<=1000000000)(q:∀k,v.ownBlock=G k->N k):MkS N T W v x:=by
 rcases h.2 with⟨rfl,r⟩|⟨g,cap,cur,rfl,_,i,_⟩;exact⟨O,0,0,rfl,ub,λj d=>ub⟩;refine⟨_,n,cap,rfl,f,λj d=>⟨g,cur,rfl,q g rfl,i, ?_⟩⟩;rw[World.ownsRow.cellAt h j ub,List.getElem?_replicate,bo d]
theorem FmAt.hd{N:Nat->Prop}(h:FmAt base W gb m nv bv nn bn (List.replicate nn (qdh m)) (List.replicate bn (qcl m)))(d:nn<=1000000000)(hb:bn<=1000000000)(j:N gb)(i:∀k,nv.ownBlock=G k->N k)(f:∀k,bv.ownBlock=G k->N k):HdAt N W gb m:=
 ⟨j,h.ty,⟨nv,bv,h.c0,h.c1,vhl h.nr d i,vhl h.br hb f⟩,h.c2⟩
section
variable {N:Nat->Prop} {base:Nat} {W W':Ao} {gb m nn bn b:Nat} {nv bv:Ap} {nxs bxs:List Ap}
theorem vr2(h:HdAt N W b m)(B:FmAt base W gb m nv bv nn bn nxs bxs)(r:LgAt base W W' nv bv m):HdAt N W' b m:=by
 obtain⟨cur,H⟩:=h.ty
 have U:nv.ownBlock≠G b:=λe=>by
  obtain⟨c,d⟩:=yt B.nr e;exact absurd (qeo H d) ue
 have cZ:bv.ownBlock≠G b:=λe=>by
  obtain⟨c,d⟩:=yt B.br e;exact absurd (qeo H d) ue
 have hb:=r.block b (p9 H) U cZ;have d:∀i,W'.cell? ⟨b,i,O⟩=W.cell? ⟨b,i,O⟩:=λi=>aw (w:=W) (a:=⟨b,i,O⟩) hb
 obtain⟨Z,b1,h0,h1,⟨a2,Y,c2,e2,O7,h2⟩,a3,X,c3,e3,lM,h3⟩:=h.lists;refine⟨h.nb,⟨cur,hb.trans H⟩,⟨Z,b1,(d 0).trans h0,(d 1).trans h1,⟨a2,Y,c2,e2,O7,λj J=>?_⟩,a3,X,c3,e3,lM,λj J=>?_⟩,(d 2).trans h.mark⟩;obtain⟨k,K,s,A,f,u⟩:=h2 j J
 have F:bv.ownBlock≠G k:=λe=>by
  obtain⟨c,d⟩:=yt B.br e;exact absurd (qeo f d) ue
 by_cases C:nv.ownBlock=G k
 obtain⟨⟨L,I⟩,M⟩:=r.oldN k C;exact⟨k,L,s,A,I,M j u⟩;have q:=r.block k (p9 f) C F;exact⟨k,K,s,A,q.trans f,(aw (w:=W) (a:=⟨k,j,O⟩) q).trans u⟩;obtain⟨k,K,s,A,f,u⟩:=h3 j J
 have C:nv.ownBlock≠G k:=λe=>by
  obtain⟨c,d⟩:=yt B.nr e;exact absurd (qeo f d) ue
 by_cases F:bv.ownBlock=G k
 obtain⟨⟨L,I⟩,M⟩:=r.oldB k F;exact⟨k,L,s,A,I,M j u⟩;have q:=r.block k (p9 f) C F;exact⟨k,K,s,A,q.trans f,(aw (w:=W) (a:=⟨k,j,O⟩) q).trans u⟩
end
structure HsR(pv:Ap)(w:Ao)(R:Nat->Prop)(W:Ao)(hv:Ap)(hs:List (Nat×Nat)):Prop where
 at':HsAt pv w W hv hs
 each:∀x∈hs,HdAt (λk=>(w.1.size<k/\hv.ownBlock≠G k)/\¬R k) W x.1 x.2
 hf:∀k,hv.ownBlock=G k\/w.1.size=k->¬R k
structure KpAt(pv:Ap)(w:Ao)(R0 R:Nat->Prop)(W0:Ao)(m:Nat)(W:Ao)(hv:Ap)(hs:List (Nat×Nat))(gb:Nat)(nv bv:Ap)(nn bn:Nat):Prop where
 u:Below w.1.size w W
 c0:W.cell? ⟨w.1.size,0,O⟩=G pv
 c1:W.cell? ⟨w.1.size,1,O⟩=G hv
 fz:∀i,W.frozen? ⟨w.1.size,i,O⟩=false
 row:W.ownsRow (w.1.size+1) 47 1 hv hs.length (hs.map hpV)
 fam:FmAt (w.1.size+1) W gb m nv bv nn bn (List.replicate nn (qdh m)) (List.replicate bn (qcl m))
 gne:hv.ownBlock≠G gb
 each:∀h∈hs,(h.2=m/\HdAt (λk=>(w.1.size<k/\hv.ownBlock≠G k)/\¬R k) W h.1 m)\/HdAt (λk=>((w.1.size<k/\hv.ownBlock≠G k)/\¬R k)/\¬R0 k/\k<W0.1.size) W h.1 h.2
 zz:W0.1.size<=W.1.size
 fr:∀k,R k->W.1[k]?=W0.1[k]?
 rz:∀k,R k->k<W0.1.size
 nf:∀k,nv.ownBlock=G k\/bv.ownBlock=G k\/gb=k->(R0 k/\¬R k)\/W0.1.size<=k
 hf:∀k,hv.ownBlock=G k\/w.1.size=k->¬R k
section
variable {w W W' W5 W0:Ao} {R0 R:Nat->Prop} {m gb gb' nn bn g cap:Nat} {hv nv bv nv' bv':Ap} {hs:List (Nat×Nat)}
theorem KpAt.lt(h:KpAt pv w R0 R W0 m W hv hs gb nv bv nn bn):w.1.size<W.1.size:=by
 have:=h.fam.lt;have:=h.fam.lo;omega
theorem KpAt.nR(h:KpAt pv w R0 R W0 m W hv hs gb nv bv nn bn)(d:R k):nv.ownBlock≠G k/\bv.ownBlock≠G k/\gb≠k:=by
 have key:¬(nv.ownBlock=G k\/bv.ownBlock=G k\/gb=k):=λe=>by
  have:=h.rz k d;rcases h.nf k e with f|f;exact f.2 d;omega
 exact⟨λe=>key (Am e),λe=>key (An (Am e)),λe=>key (An (An e))⟩
theorem KpAt.n0(h:KpAt pv w R0 R W0 m W hv hs gb nv bv nn bn)(f:¬R0 k)(i:k<W0.1.size):nv.ownBlock≠G k/\bv.ownBlock≠G k:=by
 have key:¬(nv.ownBlock=G k\/bv.ownBlock=G k\/gb=k):=λe=>by
  rcases h.nf k e with d|d;exact f d.1;omega
 exact⟨λe=>key (Am e),λe=>key (An (Am e))⟩
theorem KpAt.long(h:KpAt pv w R0 R W0 m W hv hs gb nv bv nn bn)(F:FmAt (w.1.size+1) W' W.1.size m nv' bv' (nn+1) (bn+1) (List.replicate (nn+1) (qdh m)) (List.replicate (bn+1) (qcl m)))(j:LgAt (w.1.size+1) W W' nv bv m)(B:∀k,nv'.ownBlock=G k->nv.ownBlock=G k\/W.1.size<=k)(hb:∀k,bv'.ownBlock=G k->bv.ownBlock=G k\/W.1.size<=k):KpAt pv w R0 R W0 m W' hv hs W.1.size nv' bv' (nn+1) (bn+1):=by
 have I:=h.lt;have J:=h.zz;have s:∀k,nv.ownBlock=G k->w.1.size+1<=k:=λk f=>(h.fam.nr.lt k f).1
 have H:∀k,bv.ownBlock=G k->w.1.size+1<=k:=λk f=>(h.fam.br.lt k f).1
 have u:W'.1[w.1.size]?=W.1[w.1.size]?:=j.block _ I (λe=>uu (s _ e)) (λe=>uu (H _ e));have q:∀i,W'.cell? ⟨w.1.size,i,O⟩=W.cell? ⟨w.1.size,i,O⟩:=λi=>aw (w:=W) (a:=⟨w.1.size,i,O⟩) u
 refine⟨h.u.trans (j.u.mono ub),(q 0).trans h.c0,(q 1).trans h.c1,λi=>(cn (w:=W) (a:=⟨w.1.size,i,O⟩) u).trans (h.fz i), ?_,F,λe=>?_,λx A=>?_,uu j.size,λk f=>(j.block k (uu (h.rz k f)) (h.nR f).1 (h.nR f).2.1).trans (h.fr k f),h.rz,λk f=>?_,h.hf⟩;refine vj h.row λk f=>?_
 obtain⟨c,q⟩:=yt h.row f;refine j.block k (p9 q) (λe=>?_) (λe=>?_);obtain⟨d,hd⟩:=yt h.fam.nr e;exact absurd (qeo q hd) ue;obtain⟨d,hd⟩:=yt h.fam.br e;exact absurd (qeo q hd) ue;have:=(h.row.lt _ e).2;omega;rcases h.each x A with⟨e,hd⟩|hd;exact Am ⟨e,vr2 hd h.fam j⟩;exact An (hd.keep (λb hb C=>j.block b C (h.n0 hb.2.1 hb.2.2).1 (h.n0 hb.2.1 hb.2.2).2) (λ_ h _=>h));rcases f with f|f|f;rcases B k f with r|r;exact h.nf k (Am r);exact An ub;rcases hb k f with r|r;exact h.nf k (An (Am r));exact An ub;exact An ub
theorem KpAt.put(h:KpAt pv w R0 R W0 m W hv hs gb nv bv nn bn)(tC:nn<=1000000000)(oS:bn<=1000000000)(U:W5.ownsRow (w.1.size+1) 47 1 (C (G ⟨g,0,O⟩) (hs.length+1) cap) (hs.length+1) (hs.map hpV++[Ag (G ⟨gb,0,O⟩)]))(B:RoAt (w.1.size+1) 47 W W5 hv g (Ag (G ⟨gb,0,O⟩))):
  KpAt pv w R0 R W0 m (W5.setCell ⟨w.1.size,1,O⟩ (C (G ⟨g,0,O⟩) (hs.length+1) cap)) (C (G ⟨g,0,O⟩) (hs.length+1) cap) (hs++[(gb,m)]) gb nv bv nn bn:=by
 have A1:=h.lt;have cS:=h.zz;obtain⟨X,q⟩:=uk (W5.setCell ⟨w.1.size,1,O⟩ (C (G ⟨g,0,O⟩) (hs.length+1) cap):Ao);rw[<-q];have SF:∀k,hv.ownBlock=G k->w.1.size+1<=k/\k<W.1.size:=λk f=>h.row.lt k f
 have SE:hv.ownBlock≠G w.1.size:=λe=>uu ((SF _ e).1)
 have I4:w.1.size+1<=g:=(U.lt g rfl).1;have M:∀b,b≠w.1.size->X.1[b]?=W5.1[b]?:=λb hb=>by rw[q];exact au _ ⟨w.1.size,1,O⟩ _ b hb
 have A:∀b,b<W.1.size->b≠w.1.size->hv.ownBlock≠G b->X.1[b]?=W.1[b]?:=λb hb r h2=>(M b r).trans (B.block b hb h2)
 have Z:W5.1[w.1.size]?=W.1[w.1.size]?:=B.block _ A1 SE;have c5:∀i,W5.cell? ⟨w.1.size,i,O⟩=W.cell? ⟨w.1.size,i,O⟩:=λi=>aw (w:=W) (a:=⟨w.1.size,i,O⟩) Z
 have u:∀b,b<W.1.size->hv.ownBlock≠G b->(C (G ⟨g,0,O⟩) (hs.length+1) cap).ownBlock≠G b:=λb hb I e=>by
  obtain rfl:g=b:=by simpa [Value.ownBlock]using e
  rcases B.at' with r|r;exact I r;omega
 have glt:=h.fam.lt;have glo:=h.fam.lo
 have s:∀k,nv.ownBlock=G k->k<W.1.size/\w.1.size+1<=k/\hv.ownBlock≠G k:=λk f=>⟨(h.fam.nr.lt k f).2,(h.fam.nr.lt k f).1,λe=>by
  obtain⟨c,J⟩:=yt h.row e;obtain⟨d,hd⟩:=yt h.fam.nr f
  exact absurd (qeo J hd) ue⟩
 have F:∀k,bv.ownBlock=G k->k<W.1.size/\w.1.size+1<=k/\hv.ownBlock≠G k:=λk f=>⟨(h.fam.br.lt k f).2,(h.fam.br.lt k f).1,λe=>by
  obtain⟨c,J⟩:=yt h.row e;obtain⟨d,hd⟩:=yt h.fam.br f
  exact absurd (qeo J hd) ue⟩
 have L:X.1[gb]?=W.1[gb]?:=A gb glt ub h.gne;have K:∀i,X.cell? ⟨gb,i,O⟩=W.cell? ⟨gb,i,O⟩:=λi=>aw (w:=W) (a:=⟨gb,i,O⟩) L
 have Y:FmAt (w.1.size+1) X gb m nv bv nn bn (List.replicate nn (qdh m)) (List.replicate bn (qcl m)):=by
  obtain⟨cur,F2⟩:=h.fam.ty;exact⟨glo,⟨cur,L.trans F2⟩,(K 0).trans h.fam.c0,(K 1).trans h.fam.c1,(K 2).trans h.fam.c2,λi=>(cn (w:=W) (a:=⟨gb,i,O⟩) L).trans (h.fam.fz i),vj h.fam.nr λk f=>A k (s k f).1 (uu ((s k f).2.1)) (s k f).2.2,vj h.fam.br λk f=>A k (F k f).1 (uu ((F k f).2.1)) (F k f).2.2,h.fam.nd,h.fam.bd,h.fam.nb⟩
 refine⟨?_, ?_, ?_,λi=>?_, ?_,Y,u gb glt h.gne,λx H=>?_,by have:=B.size;rw[q,md];omega,λk f=>(A k (uu (h.rz k f)) (λe=>h.hf k (An e.symm) f) (λe=>h.hf k (Am e) f)).trans (h.fr k f),h.rz,h.nf,λk f=>?_⟩;rw[q];exact Below.setCell (h.u.trans (B.u.mono ub)) ui _
 .rw[q];simp[go_sem,c5,h.c0]
 .rw[q];simp[go_sem,c5,h.c1]
 .rw[q];simp[go_sem,(cn (w:=W) (a:=⟨w.1.size,i,O⟩) Z).trans (h.fz i)]
 rw[ce,dq]
 exact vj U λk f=>M k (by
  obtain rfl:g=k:=by simpa [Value.ownBlock]using f
  omega)
 rcases cr.1 H with H|H;rcases h.each x H with⟨e,hd⟩|hd;exact Am ⟨e,hd.keep (λb hb j=>A b j ub hb.1.2) (λb hb j=>⟨⟨hb.1.1,u b j hb.1.2⟩,hb.2⟩)⟩;exact An (hd.keep (λb hb j=>A b j ub hb.1.1.2) (λb hb j=>⟨⟨⟨hb.1.1.1,u b j hb.1.1.2⟩,hb.1.2⟩,hb.2⟩));obtain rfl:=cu.1 H;exact Am ⟨rfl,Y.hd tC oS ⟨⟨ub,u gb glt h.gne⟩,λe=>(h.nR e).2.2 rfl⟩ (λk f=>⟨⟨uu ((s k f).2.1),u k (s k f).1 (s k f).2.2⟩,λe=>(h.nR e).1 f⟩) (λk f=>⟨⟨uu ((F k f).2.1),u k (F k f).1 (F k f).2.2⟩,λe=>(h.nR e).2.1 f⟩)⟩;rcases f with f|f;obtain rfl:g=k:=by simpa [Value.ownBlock]using f
 rcases B.at' with r|r;exact h.hf g (Am r);exact λe=>uu (h.rz g e)
 exact h.hf k (An f)
theorem KpAt.done(h:KpAt pv w R0 R W0 m W hv hs gb nv bv nn bn)(f:∀x∈hs,x.2<=hs.length):HsR pv w R W hv hs:=by
 have each:∀x∈hs,HdAt (λk=>(w.1.size<k/\hv.ownBlock≠G k)/\¬R k) W x.1 x.2:=λx d=>by
  rcases h.each x d with⟨e,hd⟩|hd;rw[e];exact hd;exact hd.keep (λ_ _ _=>rfl) (λ_ h _=>h.1)
 exact⟨⟨h.u,h.lt,h.c0,h.c1,h.fz,h.row,λx d=>⟨(each x d).keep (λ_ _ _=>rfl) (λ_ h _=>h.1),f x d⟩⟩,each,h.hf⟩
end
end
section
variable {pv:Ap}
attribute [local go_sem ↓] vsj
theorem FmAt.mark{f:Nat}(h:FmAt base W gb f nv bv nn bn nxs bxs)(m:Nat):FmAt base (W.setCell ⟨gb,2,O⟩ (I J (m:Int))) gb m nv bv nn bn nxs bxs:=by
 obtain⟨cur,j⟩:=h.ty;have c2:=h.c2;refine⟨h.lo,⟨cur.setIfInBounds 2 (I J (m:Int)),by simp[World.setCell,ij,j]⟩,by simp[go_sem,h.c0],by simp[go_sem,h.c1],by simp[go_sem,c2],λi=>by simp[go_sem,h.fz i],vj h.nr λk d=>au _ ⟨gb,2,O⟩ _ k (λe=>h.nd (by have e:k=gb:=e;rw[<-e];exact d)),vj h.br λk d=>au _ ⟨gb,2,O⟩ _ k (λe=>h.bd (by have e:k=gb:=e;rw[<-e];exact d)),h.nd,h.bd,h.nb⟩
theorem ve0{w W W2:Ao}(h:HsR pv w R0 W hv hs)(A:∀k,R k->R0 k)(C:∀k,R k->k<W.1.size)(L:hv.ownBlock≠G hb)(f:∀k,nv.ownBlock=G k\/bv.ownBlock=G k\/hb=k->R0 k/\¬R k)
  (B:FmAt (w.1.size+1) W2 hb m nv bv nn bn (List.replicate nn (qdh m)) (List.replicate bn (qcl m))) (j:MrkAt (w.1.size+1) (W.setCell ⟨hb,2,O⟩ (I J (m:Int))) W2 nv bv):KpAt pv w R0 R W m W2 hv hs hb nv bv nn bn:=by
 have X:=B.lo;have q:∀k,¬R0 k->W2.1[k]?=W.1[k]?:=λk d=>(j.block k (λe=>d (f k (Am e)).1) (λe=>d (f k (An (Am e))).1)).trans (au _ ⟨hb,2,O⟩ _ k (λe=>d (f k (An (An (Eq.symm e)))).1))
 have F:∀k,R k->W2.1[k]?=W.1[k]?:=λk d=>(j.block k (λe=>(f k (Am e)).2 d) (λe=>(f k (An (Am e))).2 d)).trans (au _ ⟨hb,2,O⟩ _ k (λe=>(f k (An (An (Eq.symm e)))).2 d))
 have s:=q _ (h.hf _ (An rfl));have u:∀i,W2.cell? ⟨w.1.size,i,O⟩=W.cell? ⟨w.1.size,i,O⟩:=λi=>aw (w:=W) (a:=⟨w.1.size,i,O⟩) s
 have U:W2.1.size=W.1.size:=by rw[j.size,md]
 exact⟨(Below.setCell h.at'.u (by show w.1.size<=hb;omega) _).trans (j.u.mono ub),(u 0).trans h.at'.c0,(u 1).trans h.at'.c1,λi=>(cn (w:=W) (a:=⟨w.1.size,i,O⟩) s).trans (h.at'.fz i),vj h.at'.row λk d=>q k (h.hf k (Am d)),B,L,λx H=>An ((h.each x H).keep (λb M _=>q b M.2) (λb r K=>⟨⟨r.1,λe=>r.2 (A b e)⟩,r.2,K⟩)),ub,F,C,λk d=>Am (f k d),λk d e=>h.hf k d (A k e)⟩
theorem vpa(h:HsR pv w R0 W hv hs)(hR:∀k,R k->R0 k)(rz:∀k,R k->k<W.1.size)(u:FmAt (w.1.size+1) W hb 0 nv bv nn bn nxs bxs)(nf:∀k,nv.ownBlock=G k\/bv.ownBlock=G k\/hb=k->R0 k/\¬R k)(hn:hs.length<=19300000000000)(tC:nn<=100000000)(oS:bn<=100000000):
  ua 31 #[Ag (G ⟨w.1.size,0,O⟩),Ag (G ⟨hb,0,O⟩)] W λe W'=>e=Ak (Aj #[])/\∃hv' N8,HsR pv w R W' hv' N8/\N8.length=hs.length+4/\(∀k,R k->W'.1[k]?=W.1[k]?)/\W.1.size<=W'.1.size:=by
 obtain⟨n,M⟩:=it hs.length;have HL:=qd M;have c1:=h.at'.c1;have sX:=h.at'.lt;have b2:=u.c2;have bz:=u.fz;have bl:=u.lt;obtain⟨a,c,rfl⟩:=h.at'.form
 have hT:(C a hs.length c).ownBlock≠G hb:=λe=>by
  obtain⟨d,hd⟩:=yt h.at'.row e;obtain⟨f,H⟩:=u.ty;exact absurd (qeo hd H) ue
 have MK:=qd (qxp (u.mark (n+1)) ub ub ub);have HK:Hid (∀W2,FmAt (w.1.size+1) W2 hb (n+1) nv bv nn bn (List.replicate nn (qdh (n+1))) (List.replicate bn (qcl (n+1)))->MrkAt (w.1.size+1) (W.setCell ⟨hb,2,O⟩ (I J ((n+1:Nat):Int))) W2 nv bv->KpAt pv w R0 R W (n+1) W2 (C a hs.length c) hs hb nv bv nn bn):=qd λW2 Z Y=>ve0 h hR rz hT nf Z Y
 have HM:Hid (∀x∈hs,x.2<=n+1):=qd λx r=>uu ((h.at'.each x r).2)
 rw[M]at c1 HK hn |-;have nwb:¬w.1.size=hb:=uu u.lo
 have nbw:¬hb=w.1.size:=ub;have LA:((n+1:Nat):Int)=(n:Int)+1:=ub;rw[LA]at MK HK;clear h u M hT nf hR rz;go_enter func31,ntmps31
 have PUT:Hid (∀(U:Ao) (hv:Ap) (l:List (Nat×Nat)) (gb:Nat) (nv bv:Ap) (p q:Nat),KpAt pv w R0 R W (n+1) U hv l gb nv bv p q->p<=1000000000->q<=1000000000->l.length<=19300000000005->∃g cap j,(qe9 #[28,28] 28 #[hv,C (G ⟨U.1.size,0,O⟩) 1 1]).run prog (U.alloc (Al #[Ag (G ⟨gb,0,O⟩)] 47))=.ok (C (G ⟨g,0,O⟩) (l.length+1) cap) j/\Xc j w.1.size 1 hv/\(Xf j w.1.size)/\w.1.size<j.1.size/\Hid (KpAt pv w R0 R W (n+1) (j.setCell ⟨w.1.size,1,O⟩ (C (G ⟨g,0,O⟩) (l.length+1) cap)) (C (G ⟨g,0,O⟩) (l.length+1) cap) (l++[(gb,n+1)]) gb nv bv p q)):=qd λU hv l gb nv bv p q s hp hq M=>by
  obtain⟨i0,hi,F5,B8,D4⟩:=info_parts vjr;have A1:=s.lt;obtain⟨g,cap,j,hr,HR,HO⟩:=qrb (T:=28) underlying28 hi F5 B8 D4 rfl (W:=U) s.row ub (x:=Ag (G ⟨gb,0,O⟩)) rfl ub ub U.1.size rfl;have hO:=q9 HO;have SE:hv.ownBlock≠G w.1.size:=λe=>uu ((s.row.lt _ e).1)
  have dQ:=hO.block _ A1 SE;exact⟨g,cap,j,hr,(aw (w:=U) (a:=⟨w.1.size,1,O⟩) dQ).trans s.c1,λi=>(cn (w:=U) (a:=⟨w.1.size,i,O⟩) dQ).trans (s.fz i),uu hO.size,qd (s.put hp hq HR hO)⟩
 go_wp2_with(go_at_call 63;refine be MK ?_;rintro w2⟨L8,sA⟩;have L:=q9 HK w2 L8 sA;have N7:=qd L;obtain⟨g3,WU,w3,LH,r3,z3,l3,R8⟩:=q9 PUT w2 _ _ _ _ _ _ _ L ub ub (uu (q9 HL));rw[q9 HL]at LH R8;have d1:=L.c1;have dl:=L.lt;clear L8 sA L)
 obtain⟨X3,K⟩:∃X:Ao,X=w3.setCell ⟨w.1.size,1,O⟩ (C (G ⟨g3,0,O⟩) (n+1) WU):=⟨_,rfl⟩;rw[<-K]at R8 |-;clear K LH r3 z3 l3 N7 d1 dl
 go_loopw [4,5] (λgp i wr=>∃(k gb p q:Nat) (hv nv bv:Ap) (l:List (Nat×Nat)),k<=3/\i=I J k/\gp=Ag (G ⟨gb,0,O⟩)/\p=nn+k/\q=bn+k/\Hid (KpAt pv w R0 R W (n+1) wr hv l gb nv bv p q)/\Hid (l.length=n+1+k/\∀x∈l,x.2<=n+1)) (λ_ i _=>3 - (intOf i).toNat)
 exact⟨0,hb,nn,bn,_,nv,bv,hs++[(hb,n+1)],ub,rfl,rfl,rfl,rfl,R8,qd ⟨by have:=q9 HL;simp;omega,λx r=>by rcases cr.1 r with h|h;exact q9 HM x h;rw[cu.1 h];exact ui⟩⟩;clear R8 MK HK b2 bz bl c1;obtain⟨k,gb,p,q,hv,nv,bv,l,s,rfl,rfl,hp,hq,A,B⟩:=hrel
 by_cases D7:k<3
 .have A4:(k:Int)<3:=ub
  have LG:=qd (qt3 A.fam ub ub ub)
  have PUT':Hid (∀W',(∃nv' bv',FmAt (w.1.size+1) W' wr.1.size (n+1) nv' bv' (p+1) (q+1) (List.replicate (p+1) (qdh (n+1))) (List.replicate (q+1) (qcl (n+1)))/\(∀k,nv'.ownBlock=G k->nv.ownBlock=G k\/wr.1.size<=k)/\∀k,bv'.ownBlock=G k->bv.ownBlock=G k\/wr.1.size<=k)->LgAt (w.1.size+1) wr W' nv bv (n+1)->∃(g cap:Nat) (j:Ao) (nv' bv':Ap),(qe9 #[28,28] 28 #[hv,C (G ⟨W'.1.size,0,O⟩) 1 1]).run prog (W'.alloc (Al #[Ag (G ⟨wr.1.size,0,O⟩)] 47))=.ok (C (G ⟨g,0,O⟩) (l.length+1) cap) j/\Xc j w.1.size 1 hv/\(Xf j w.1.size)/\w.1.size<j.1.size/\Xc W' w.1.size 1 hv/\w.1.size<W'.1.size/\Hid (KpAt pv w R0 R W (n+1) (j.setCell ⟨w.1.size,1,O⟩ (C (G ⟨g,0,O⟩) (l.length+1) cap)) (C (G ⟨g,0,O⟩) (l.length+1) cap) (l++[(wr.1.size,n+1)]) wr.1.size nv' bv' (p+1) (q+1))):=qd λW' H KF=>by
   obtain⟨nv',bv',H,G8,L8⟩:=H;have I3:=(q9 A).long H KF G8 L8;obtain⟨g,cap,j,Z,Y,h3,h4,h5⟩:=q9 PUT W' hv l wr.1.size nv' bv' (p+1) (q+1) I3 ub ub (uu ((q9 B).1));exact⟨g,cap,j,nv',bv',Z,Y,h3,h4,I3.c1,I3.lt,h5⟩
  have hvf:∃a c,hv=C a l.length c:=by
   rcases(q9 A).row.2 with⟨rfl,h0⟩|⟨g,cap,cur,rfl,_⟩;exact⟨O,0,by rw[h0]⟩;exact⟨_,_,rfl⟩
  obtain⟨va,vc,rfl⟩:=hvf
  go_wp2_with(go_at_call 64;refine be LG ?_;rintro w4⟨wI,F⟩;obtain⟨g6,U5,w6,nv6,bv6,cD,r6,z6,l6,d6,dl6,HK6⟩:=q9 PUT' w4 wI F;clear wI F)
  go_roundw
  case rel=>exact⟨k+1,wr.1.size,p+1,q+1,_,nv6,bv6,l++[(wr.1.size,n+1)],ub,by go_num,rfl,ub,ub,HK6,qd ⟨by have:=(q9 B).1;simp;omega,λx r=>by rcases cr.1 r with h|h;exact B.2 x h;rw[cu.1 h];exact ui⟩⟩
  simp[intOf];omega
 have aC:k=3:=ub;subst aC;have Z0:¬((3:Nat):Int)<3:=ub;have HD:Hid (∃hv' N8,HsR pv w R wr hv' N8/\N8.length=n+4/\(∀k,R k->wr.1[k]?=W.1[k]?)/\W.1.size<=wr.1.size):=qd ⟨hv,l,A.done (λx r=>by have Z:=(q9 B).2 x r;have Y:=(q9 B).1;omega),uu ((q9 B).1),A.fr,A.zz⟩
 go_wp2
 first
  | exact⟨rfl,q9 HD⟩
  | (go_end0;exact⟨rfl,q9 HD⟩)
end
end Go.Proofs.YtdmmmgodfceilaaGreatDoor
