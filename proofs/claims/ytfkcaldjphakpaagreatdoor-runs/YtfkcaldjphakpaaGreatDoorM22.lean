/- The document's answer -/
import Derived.Test.YtfkcaldjphakpaaGreatDoorM21
set_option maxHeartbeats 16000000
set_option maxRecDepth 100000
namespace Go.Proofs.YtfkcaldjphakpaaGreatDoor
open Go.RowKit Go.Proofs.Tryz
variable{neg:Bool}{E O O2 S:mu}{x y:Co}{Q:Ending->World->Prop}{N a c:Int}{ts:List mv}{ds vs:List Co}{l:List RN}{q:mv}{b base cap k n:Nat}{M:Nat->Prop}{g h:RF}{P PZ:RF->World->Prop}{inv iv lv v:Value}{w:World}
section
attribute [local go_sem ↓] vk
theorem vca(h:TwRow w base v ts)(J:ts.length<=1000000000000)(t:mv):nz 180 #[v,.string (BS t)] w λe w'=>e=.returned (.bool (ts.contains t))/\w'=w:=by
 have G:∃a c,v=.slice a ts.length c:=by
  rcases h.2 with⟨rfl,I⟩|⟨g,cap,cur,rfl,_⟩
  ·exact⟨none,0,by rw[I]⟩
  ·exact⟨_,_,rfl⟩
 obtain⟨a,c,rfl⟩:=G;have H:=qd h;obtain⟨n,o⟩:∃n,ts.length=n:=⟨_,rfl⟩;rw[o]at H J ⊢;have z:=qd o;obtain⟨R,B⟩:∃R,ts.contains t=R:=⟨_,rfl⟩;rw[B];have C:=qd B;clear h o B;go_enter func180,ntmps180
 go_wp2_with fail
 go_loopw [5] (λi wr=>∃k:Nat,k<=n/\i=.int .i64 k/\wr=w/\Hid (∀j,j<k->ts[j]?≠some t)) (λi _=>n - (intOf i).toNat)
 case atStart=>exact⟨0,bj _,rfl,rfl,qd λj m=>mw⟩
 case round=>
  obtain⟨k,K,rfl,rfl,D⟩:=hrel
  by_cases A0:k<n
  ·obtain⟨u,f⟩:∃u,ts[k]?=some u:=⟨_,ag (by have:=q9 z;omega)⟩
   obtain⟨g,cap,e,_,L,r⟩:=TwRow.cell (show TwRow wr base (.slice a ts.length c) ts by rw[q9 z];exact q9 H) f;injection e with e _ _;subst e;have U:(0:Int)<=(k:Int):=mw;have X:(k:Int)<(n:Int):=mw
   by_cases he:u=t
   ·have F:((BS u).toList==(BS t).toList)=true:=by rw[he];exact ip _
    have s:Hid (R=true):=qd (by rw[←q9 C,mt,←he];exact ch f);clear f he
    go_wp2_with fail
    go_ret;exact⟨by rw[q9 s];rfl,rfl⟩
   ·have F:((BS u).toList==(BS t).toList)=false:=by rw[qM,qM];exact ae.2 he
    have A:Hid (∀j,j<k+1->ts[j]?≠some t):=qd λj m e=>by
     by_cases hjk:j=k
     ·rw[hjk,f]at e;injection e with e;exact he e
     ·exact q9 D j mw e
    clear f he
    go_wp2_with fail
    go_roundw
    case rel=>exact⟨k+1,A0,by go_num,by first|rfl|trivial,A⟩
    case measure=>simp[intOf];omega
  ·have T:k=n:=mw
   have s:Hid (R=false):=qd (by
    rw[←q9 C]
    cases r:ts.contains t with
    | false=>rfl
    | true=>
     rw[mt]at r;obtain⟨j,m⟩:=dy r
     exact absurd m (D j (by have:=(au.1 m).1;have:=q9 z;omega)))
   have W:¬(k:Int)<(n:Int):=mw
   go_wp2_with fail
   go_ret;exact⟨by rw[q9 s];rfl,rfl⟩
theorem TwRow.app2{W:World}(h:TwRow W base v ts)(z:base<=W.heap.size)(x:mv)(J:ts.length<=1000000000000)(H:Nat)(A:W.heap.size=H):
  ∃g cap f,(appR #[62,62] 62 #[v,.slice (some ⟨H,0,none⟩) 1 1]).run prog (W.alloc (.cells #[.string (BS x)] 9))=.ok (.slice (some ⟨g,0,none⟩) (ts.length+1) cap) f /\
   Hid (TwRow f base (.slice (some ⟨g,0,none⟩) (ts.length+1) cap) (ts++[x]))/\Hid (Below base W f)/\Hid (∀b,b<W.heap.size->v.ownBlock≠some b->f.heap[b]?=W.heap[b]?)/\Hid (v.ownBlock=some g\/W.heap.size<g)/\Hid (W.heap.size<=f.heap.size):=by
 subst A;obtain⟨o,u,C,G,D⟩:=info_parts qbi;have m:=World.ownsRow.alloc h (.cells #[.string (BS x)] 9);obtain⟨g,cap,f,r,I,j,F,_⟩:=run_append_lies (P:=prog) (W.alloc (.cells #[.string (BS x)] 9)) 62 62 base 9 o _ 1 16 underlying62 u C G D rfl mw v ts.length _ m
  ⟨W.heap.size,0,none⟩ 1 1 [.string (BS x)] rfl (World.news_of_block (cs:=#[.string (BS x)]) (t:=9) (fr:=(0,0)) (heap_alloc_new W _)) (by simp[Value.oneCell']) mw (by unfold maxLen;omega) mw my _ rfl
 refine⟨g,cap,f,r,qd ?_,qd ?_,qd ?_,qd ?_,qd ?_⟩
 ·show World.ownsRow _ _ _ _ _ _ _
  rw[bu,da,qu,dt];exact I
 ·exact Go.RowKit.Below.grown (((Below.refl base W).alloc z _)) j my (λk s=>(m.lt k s).1)
 ·intro b B i
  exact(j.block b my (λe=>i e.symm)).trans (((Below.refl W.heap.size W).alloc nt _).block b B)
 ·rcases F with h|h
  ·exact .inl h
  ·right;rw[h];simp
 ·have:=j.size;simp at this;omega
end
section
theorem qw0(hi:inv=.slice (some ⟨b,0,none⟩) n cap)(hn:1<=n)(L9:b<w.heap.size)(t:∀k,k<6->w.cell? ⟨b,k,none⟩=(qt g)[k]?)
   (G:vI w PZ) (I:jj w PZ P 179 λ_=>#[g.v])
   (H:ja w P Q):nz 178 #[.agg #[.string ⟨#[78,79,84]⟩,.int .i64 a,iv,.string S,.string E,lv,.int .i64 N,.bool neg,.int .i64 c],inv] w Q:=by
 have J:=qd G;have K:=qd I;have F:=qd H;simp only[vI,jj,ja,RF.v]at J K F;have D:Hid (Xb w ((w.alloc (.cells #[.string ⟨#[78,79,84]⟩,.int .i64 a,iv,.string S,.string E,lv,.int .i64 N,.bool neg,.int .i64 c] 241)).alloc zoC)):=qd ((nw.alloc nt _).alloc mx _);clear G I H;have C:=kb1 L9 t;obtain⟨c0,c1,c2,c3,c4,c5⟩:=q9 C w nw;have np:¬b=w.heap.size:=mw;have iH:¬b=w.heap.size+1:=mw;have oR:¬w.heap.size+1=b:=mw;have mW:0<n:=mw;have cH:(0:Int)<(n:Int):=mw;clear t;subst hi;go_enter func178,ntmps178
 go_wp2_with(first|(go_at_call 179;refine(K _ _ _ j R Y8 i).mono ?_;rintro e L⟨o,r,rfl,s⟩;have C9:=qd (qf (qf j i) o);obtain⟨-,-,-,-,-,-,-,-,-,Z,Y,X,W,U,T,qz,ql,-,-,-,-⟩:=(q9 B).below o;have Q9:=qd s;clear o s)|(go_at_call 224;refine(J _ D mx).mono ?_;rintro e f⟨m,z,rfl,A⟩;have j:=qd (qf D m);have u:=jZ.below m;have B:=qd (u.alloc (.cells (cV z) 184));have i:=qd ((Below.refl f.heap.size f).alloc nt (.cells (cV z) 184));have Y8:=qd A;obtain⟨n0,-,-,-,-,-,-,-,-,r0,r1,r2,r3,r4,r5,rz,R,iG,iF,iE,iD⟩:=u;obtain⟨m0,-,-,-,-,-,-,-,-,s0,s1,s2,s3,s4,s5,sz,sl,-,-,-,-⟩:=q9 B;clear m A;obtain⟨v0,v1,v2,v3,v4,v5⟩:=q9 C _ (qf j i);have rR:¬b=f.heap.size:=mw;have fB:¬f.heap.size=b:=mw))
 all_goals refine ak (by simp[go_sem,Z,Y,X,W,U,T]<;>rfl) rfl ?_
 all_goals exact q9 F r L _ C9 Q9 (jm _ _ _ _ _ _ _ _)
theorem qdh(hi:inv=.slice (some ⟨b,0,none⟩) n cap)(hn:1<=n)(L9:b<w.heap.size)(B:∀k,k<6->w.cell? ⟨b,k,none⟩=(qt g)[k]?)(ho:(O=⟨#[112]⟩/\O2=⟨#[43]⟩)\/(O=⟨#[110]⟩/\O2=⟨#[45]⟩))
   (I:vI w PZ) (K:jj w PZ P 227 λz=>#[.string O2,z.v,g.v])
   (J:ja w P Q):nz 178 #[.agg #[.string O,.int .i64 a,iv,.string S,.string E,lv,.int .i64 N,.bool neg,.int .i64 c],inv] w Q:=by
 have L:=qd I;have R:=qd K;have H:=qd J;simp only[vI,jj,ja,RF.v]at L R H;have G:Hid (Xb w ((w.alloc (.cells #[.string O,.int .i64 a,iv,.string S,.string E,lv,.int .i64 N,.bool neg,.int .i64 c] 241)).alloc zoC)):=qd ((nw.alloc nt _).alloc mx _);clear I K J;have o:=kb1 L9 B;obtain⟨c0,c1,c2,c3,c4,c5⟩:=q9 o w nw;have np:¬b=w.heap.size:=mw;have iH:¬b=w.heap.size+1:=mw;have oR:¬w.heap.size+1=b:=mw;have mW:0<n:=mw;have cH:(0:Int)<(n:Int):=mw;clear B;subst hi;rcases ho with⟨rfl,rfl⟩|⟨rfl,rfl⟩
 all_goals go_enter func178,ntmps178
 all_goals go_wp2_with(go_at_call 224;refine(L _ G mx).mono ?_;rintro e f⟨u,z,rfl,D⟩;have t:=qd (qf G u);have C:=jZ.below u;have F:=qd (C.alloc (.cells (cV z) 184));have s:=qd ((Below.refl f.heap.size f).alloc nt (.cells (cV z) 184));have Y8:=qd D;obtain⟨n0,-,-,-,-,-,-,-,-,r0,r1,r2,r3,r4,r5,rz,U,iG,iF,iE,iD⟩:=C;obtain⟨m0,-,-,-,-,-,-,-,-,s0,s1,s2,s3,s4,s5,sz,sl,-,-,-,-⟩:=q9 F;clear u D;obtain⟨v0,v1,v2,v3,v4,v5⟩:=q9 o _ (qf t s);have rR:¬b=f.heap.size:=mw;have fB:¬f.heap.size=b:=mw)
 all_goals go_region_held3 (λW=>Kt1 W f.heap.size z (Kx1 W b g)) (first|with_reducible assumption|(simp only[Kt1,Kx1];go_keep)) (first|(go_at_call 227;refine(R _ _ _ t U Y8 s.drew).mono ?_;rintro e m⟨j,r,rfl,A⟩;have T:=qd (qf (qf t s.drew) j);obtain⟨-,-,-,-,-,-,-,-,-,q0,q1,q2,Z,Y,X,qz,ql,-,-,-,-⟩:=(q9 F).drew.below j;have Q9:=qd A;have hS:(Kt1 m f.heap.size z (Kx1 m b g)):=(by have i:=(qj j).1;exact⟨(i _ 0 (by show f.heap.size<(f.alloc _).heap.size;simp)).trans (by show(f.alloc _).cell? _=_;simp[go_sem]),(i _ 1 (by show f.heap.size<(f.alloc _).heap.size;simp)).trans (by show(f.alloc _).cell? _=_;simp[go_sem]),(i _ 2 (by show f.heap.size<(f.alloc _).heap.size;simp)).trans (by show(f.alloc _).cell? _=_;simp[go_sem]),(i _ 3 (by show f.heap.size<(f.alloc _).heap.size;simp)).trans (by show(f.alloc _).cell? _=_;simp[go_sem]),(i _ 4 (by show f.heap.size<(f.alloc _).heap.size;simp)).trans (by show(f.alloc _).cell? _=_;simp[go_sem]),(i _ 5 (by show f.heap.size<(f.alloc _).heap.size;simp)).trans (by show(f.alloc _).cell? _=_;simp[go_sem]),q9 o _ T⟩);clear j A))
 all_goals go_wp2_with fail
 all_goals refine ak (by simp[go_sem,q0,q1,q2,Z,Y,X]<;>rfl) rfl ?_
 all_goals exact q9 H r m _ T Q9 (jm _ _ _ _ _ _ _ _)
theorem qdg(hi:inv=.slice (some ⟨b,0,none⟩) n cap)(hn:2<=n)(L9:b<w.heap.size)(A:∀k,k<12->w.cell? ⟨b,k,none⟩=(qt g++qt h)[k]?)(ho:(O=⟨#[62]⟩/\O2=⟨#[60]⟩)\/(O=⟨#[62,61]⟩/\O2=⟨#[60,61]⟩))
   (H:vI w PZ) (J:jj w PZ P 227 λ_=>#[.string O2,h.v,g.v])
   (I:ja w P Q):nz 178 #[.agg #[.string O,.int .i64 a,iv,.string S,.string E,lv,.int .i64 N,.bool neg,.int .i64 c],inv] w Q:=by
 have K:=qd H;have L:=qd J;have G:=qd I;simp only[vI,jj,ja,RF.v]at K L G;have F:Hid (Xb w ((w.alloc (.cells #[.string O,.int .i64 a,iv,.string S,.string E,lv,.int .i64 N,.bool neg,.int .i64 c] 241)).alloc zoC)):=qd ((nw.alloc nt _).alloc mx _);clear H J I;have i:=kb2 L9 A;obtain⟨c0,c1,c2,c3,c4,c5,c6,c7,c8,c9,AY,AX⟩:=q9 i w nw;have np:¬b=w.heap.size:=mw;have iH:¬b=w.heap.size+1:=mw;have oR:¬w.heap.size+1=b:=mw;have mW:0<n:=mw;have cH:(0:Int)<(n:Int):=mw;have U4:1<n:=mw;have wN:(1:Int)<(n:Int):=mw;clear A;subst hi;rcases ho with⟨rfl,rfl⟩|⟨rfl,rfl⟩
 all_goals go_enter func178,ntmps178
 all_goals go_wp2_with(go_at_call 224;refine(K _ F mx).mono ?_;rintro e f⟨o,z,rfl,C⟩;have m:=qd (qf F o);have B:=jZ.below o;have D:=qd (B.alloc (.cells (cV z) 184));have j:=qd ((Below.refl f.heap.size f).alloc nt (.cells (cV z) 184));have Y8:=qd C;obtain⟨n0,-,-,-,-,-,-,-,-,r0,r1,r2,r3,r4,r5,rz,T,iG,iF,iE,iD⟩:=B;obtain⟨m0,-,-,-,-,-,-,-,-,s0,s1,s2,s3,s4,s5,sz,sl,-,-,-,-⟩:=q9 D;clear o C;obtain⟨v0,v1,v2,v3,v4,v5,v6,v7,v8,v9,uV,uU⟩:=q9 i _ (qf m j);have rR:¬b=f.heap.size:=mw;have fB:¬f.heap.size=b:=mw)
 all_goals go_region_held3 (λW=>Kx2 W b g h) (first|with_reducible assumption|(simp only[Kx2];go_keep)) (first|(go_at_call 227;refine(L _ _ _ m T Y8 j.drew).mono ?_;rintro e t⟨s,r,rfl,u⟩;have R:=qd (qf (qf m j.drew) s);obtain⟨-,-,-,-,-,-,-,-,-,q0,q1,Z,Y,X,U,qz,ql,-,-,-,-⟩:=(q9 D).drew.below s;have Q9:=qd u;have hS:(Kx2 t b g h):=q9 i _ R;clear s u))
 all_goals go_wp2_with fail
 all_goals refine ak (by simp[go_sem,q0,q1,Z,Y,X,U]<;>rfl) rfl ?_
 all_goals exact q9 G r t _ R Q9 (jm _ _ _ _ _ _ _ _)
end
section
theorem qw1(hi:inv=.slice (some ⟨b,0,none⟩) n cap)(hn:2<=n)(L9:b<w.heap.size)(B:∀k,k<12->w.cell? ⟨b,k,none⟩=(qt g++qt h)[k]?)(f:∀l∈[[110,97,109,101],[110,117,109,98,101,114],[116,101,120,116],[84,82,85,69],[70,65,76,83,69],[78,79,84],[112],[110],[60,62],[62],[62,61],[66,69,84,87,69,69,78],[73,78],[78,85,76,76],[76,73,75,69]],(O.toList==l)=false)
   (I:vI w PZ) (K:jj w PZ P 227 λ_=>#[.string O,g.v,h.v])
   (J:ja w P Q):nz 178 #[.agg #[.string O,.int .i64 a,iv,.string S,.string E,lv,.int .i64 N,.bool neg,.int .i64 c],inv] w Q:=by
 have L:=qd I;have R:=qd K;have H:=qd J;simp only[vI,jj,ja,RF.v]at L R H;have G:Hid (Xb w ((w.alloc (.cells #[.string O,.int .i64 a,iv,.string S,.string E,lv,.int .i64 N,.bool neg,.int .i64 c] 241)).alloc zoC)):=qd ((nw.alloc nt _).alloc mx _);clear I K J;have m:=kb2 L9 B;obtain⟨c0,c1,c2,c3,c4,c5,c6,c7,c8,c9,AY,AX⟩:=q9 m w nw;have np:¬b=w.heap.size:=mw;have iH:¬b=w.heap.size+1:=mw;have oR:¬w.heap.size+1=b:=mw;have mW:0<n:=mw;have cH:(0:Int)<(n:Int):=mw;have U4:1<n:=mw;have wN:(1:Int)<(n:Int):=mw;clear B;subst hi;have k0:(O.toList==[110,97,109,101])=false:=f _ mx;have k1:(O.toList==[110,117,109,98,101,114])=false:=f _ mx;have k2:(O.toList==[116,101,120,116])=false:=f _ mx;have k3:(O.toList==[84,82,85,69])=false:=f _ mx;have k4:(O.toList==[70,65,76,83,69])=false:=f _ mx;have k5:(O.toList==[78,79,84])=false:=f _ mx;have k6:(O.toList==[112])=false:=f _ mx;have k7:(O.toList==[110])=false:=f _ mx;have k8:(O.toList==[60,62])=false:=f _ mx;have k9:(O.toList==[62])=false:=f _ mx;have k10:(O.toList==[62,61])=false:=f _ mx;have k11:(O.toList==[66,69,84,87,69,69,78])=false:=f _ mx;have k12:(O.toList==[73,78])=false:=f _ mx;have k13:(O.toList==[78,85,76,76])=false:=f _ mx;have k14:(O.toList==[76,73,75,69])=false:=f _ mx;clear f;go_enter func178,ntmps178
 go_wp2_with(go_at_call 224;refine(L _ G mx).mono ?_;rintro e i⟨t,z,rfl,D⟩;have s:=qd (qf G t);have C:=jZ.below t;have F:=qd (C.alloc (.cells (cV z) 184));have o:=qd ((Below.refl i.heap.size i).alloc nt (.cells (cV z) 184));have Y8:=qd D;obtain⟨n0,-,-,-,-,-,-,-,-,r0,r1,r2,r3,r4,r5,rz,U,iG,iF,iE,iD⟩:=C;obtain⟨m0,-,-,-,-,-,-,-,-,s0,s1,s2,s3,s4,s5,sz,sl,-,-,-,-⟩:=q9 F;clear t D;obtain⟨v0,v1,v2,v3,v4,v5,v6,v7,v8,v9,uV,uU⟩:=q9 m _ (qf s o);have rR:¬b=i.heap.size:=mw;have fB:¬i.heap.size=b:=mw)
 go_region_held3 (λW=>Xc W w.heap.size 0 (.string O)/\Kx2 W b g h) (first|with_reducible assumption|(simp only[Kx2];go_keep)) (first|(go_at_call 227;refine(R _ _ _ s U Y8 o.drew).mono ?_;rintro e j⟨u,r,rfl,A⟩;have T:=qd (qf (qf s o.drew) u);obtain⟨LR,-,-,-,-,-,-,-,-,q0,q1,q2,Z,Y,X,qz,ql,-,-,-,-⟩:=(q9 F).drew.below u;have Q9:=qd A;have hS:(Xc j w.heap.size 0 (.string O)/\Kx2 j b g h):=⟨LR,q9 m _ T⟩;clear u A))
 go_wp2_with fail
 all_goals refine ak (by simp[go_sem,q0,q1,q2,Z,Y,X]<;>rfl) rfl ?_
 all_goals exact q9 H r j _ T Q9 (jm _ _ _ _ _ _ _ _)
end
section
theorem vc2(hi:inv=.slice (some ⟨b,0,none⟩) n cap)(hn:1<=n)(L9:b<w.heap.size)(B:∀k,k<6->w.cell? ⟨b,k,none⟩=(qt g)[k]?)
   (I:vI w PZ) (K:jj w PZ P 228 λ_=>#[g.v,lv])
   (J:ja w P Q):nz 178 #[.agg #[.string ⟨#[73,78]⟩,.int .i64 a,iv,.string S,.string E,lv,.int .i64 N,.bool neg,.int .i64 c],inv] w Q:=by
 have L:=qd I;have R:=qd K;have H:=qd J;simp only[vI,jj,ja,RF.v]at L R H;have G:Hid (Xb w ((w.alloc (.cells #[.string ⟨#[73,78]⟩,.int .i64 a,iv,.string S,.string E,lv,.int .i64 N,.bool neg,.int .i64 c] 241)).alloc zoC)):=qd ((nw.alloc nt _).alloc mx _);clear I K J;have m:=kb1 L9 B;obtain⟨c0,c1,c2,c3,c4,c5⟩:=q9 m w nw;have np:¬b=w.heap.size:=mw;have iH:¬b=w.heap.size+1:=mw;have oR:¬w.heap.size+1=b:=mw;have mW:0<n:=mw;have cH:(0:Int)<(n:Int):=mw;clear B;subst hi;go_enter func178,ntmps178
 go_wp2_with(go_at_call 224;refine(L _ G mx).mono ?_;rintro e f⟨t,z,rfl,D⟩;have s:=qd (qf G t);have C:=jZ.below t;have F:=qd (C.alloc (.cells (cV z) 184));have o:=qd ((Below.refl f.heap.size f).alloc nt (.cells (cV z) 184));have Y8:=qd D;obtain⟨n0,-,-,-,-,n5,-,-,-,r0,r1,r2,r3,r4,r5,rz,U,iG,iF,iE,iD⟩:=C;obtain⟨m0,-,-,-,-,m5,-,-,-,s0,s1,s2,s3,s4,s5,sz,sl,-,-,-,-⟩:=q9 F;clear t D;obtain⟨v0,v1,v2,v3,v4,v5⟩:=q9 m _ (qf s o);have rR:¬b=f.heap.size:=mw;have fB:¬f.heap.size=b:=mw)
 go_region_held3 (λW=>Xc W w.heap.size 5 (lv)/\Kx1 W b g) (first|with_reducible assumption|(simp only[Kx1];go_keep)) (first|(go_at_call 228;refine(R _ _ _ s U Y8 o.drew).mono ?_;rintro e i⟨u,r,rfl,A⟩;have T:=qd (qf (qf s o.drew) u);obtain⟨-,-,-,-,-,j,-,-,-,q0,q1,q2,Z,Y,X,qz,ql,-,-,-,-⟩:=(q9 F).drew.below u;have Q9:=qd A;have hS:(Xc i w.heap.size 5 (lv)/\Kx1 i b g):=⟨j,q9 m _ T⟩;clear u A))
 go_wp2_with fail
 all_goals refine ak (by simp[go_sem,q0,q1,q2,Z,Y,X]<;>rfl) rfl ?_
 all_goals exact q9 H r i _ T Q9 (jm _ _ _ _ _ _ _ _)
theorem qqz(hi:inv=.slice (some ⟨b,0,none⟩) n cap)(hn:1<=n)(L9:b<w.heap.size)(B:∀k,k<6->w.cell? ⟨b,k,none⟩=(qt g)[k]?){T:mv}(t:g.text.length<=400000000)(C:T=[40]++g.text++[32,73,83,32,78,85,76,76,41])
   (U:vI w PZ) (X:jj w PZ P 229 λ_=>#[.string ⟨#[78,85,76,76]⟩,.string (BS T),.int .i64 1,.slice (some ⟨b,0,none⟩) n cap,.int .i64 0])
   (W:ja w P Q):nz 178 #[.agg #[.string ⟨#[78,85,76,76]⟩,.int .i64 a,iv,.string S,.string E,lv,.int .i64 N,.bool neg,.int .i64 c],inv] w Q:=by
 have Y:=qd U;have o:=qd X;have R:=qd W;simp only[vI,jj,ja,RF.v]at Y o R;obtain⟨R1,G,u,a1⟩:=jg ⟨#[40]⟩ (BS g.text) 1 400000000 nt (by rw[qG];exact t) nh;obtain⟨R2,F,Z,a2⟩:=jg R1 ⟨#[32,73,83,32,78,85,76,76,41]⟩ 400000001 9 u nt nh
 have D:BS T=R2:=by
  rw[C,F,G,show(⟨#[40]⟩:mu)=BS [40] from rfl,show(⟨#[32,73,83,32,78,85,76,76,41]⟩:mu)=BS [32,73,83,32,78,85,76,76,41] from rfl,jh,jh]
 rw[D]at o;clear C D G F u Z t;have L:Hid (Xb w ((w.alloc (.cells #[.string ⟨#[78,85,76,76]⟩,.int .i64 a,iv,.string S,.string E,lv,.int .i64 N,.bool neg,.int .i64 c] 241)).alloc zoC)):=qd ((nw.alloc nt _).alloc mx _);clear U X W;have K:=kb1 L9 B;obtain⟨c0,c1,c2,c3,c4,c5⟩:=q9 K w nw;have np:¬b=w.heap.size:=mw;have iH:¬b=w.heap.size+1:=mw;have oR:¬w.heap.size+1=b:=mw;have mW:0<n:=mw;have cH:(0:Int)<(n:Int):=mw;clear B;subst hi;go_enter func178,ntmps178
 go_wp2_with(first|(go_at_call 229;refine(o _ _ _ j rl Y8 i).mono ?_;rintro e w1⟨s,r,rfl,A⟩;have C9:=qd (qf (qf j i) s);obtain⟨-,-,-,-,-,-,-,-,-,q0,q1,q2,q3,q4,q5,qz,ql,-,-,-,-⟩:=(q9 J).below s;have Q9:=qd A;clear s A)|(go_at_call 224;refine(Y _ L mx).mono ?_;rintro e f⟨m,z,rfl,I⟩;have j:=qd (qf L m);have H:=jZ.below m;have J:=qd (H.alloc (.cells (cV z) 184));have i:=qd ((Below.refl f.heap.size f).alloc nt (.cells (cV z) 184));have Y8:=qd I;obtain⟨n0,-,-,-,-,-,-,-,-,r0,r1,r2,r3,r4,r5,rz,rl,iG,iF,iE,iD⟩:=H;obtain⟨m0,-,-,-,-,-,-,-,-,s0,s1,s2,s3,s4,s5,sz,sl,-,-,-,-⟩:=q9 J;clear m I;obtain⟨v0,v1,v2,v3,v4,v5⟩:=q9 K _ (qf j i);have rR:¬b=f.heap.size:=mw;have fB:¬f.heap.size=b:=mw))
 all_goals refine ak (by simp[go_sem,q0,q1,q2,q3,q4,q5]<;>rfl) rfl ?_
 all_goals exact q9 R r w1 _ C9 Q9 (jm _ _ _ _ _ _ _ _)
end
section
theorem vc3(hi:inv=.slice (some ⟨b,0,none⟩) n cap)(hn:2<=n)(L9:b<w.heap.size)(hc:∀k,k<12->w.cell? ⟨b,k,none⟩=(qt g++qt h)[k]?)
   (HZ:vI w PZ)
  (hx:RfAt M w x g) (hy:RfAt M w y h) (J:∀b,M b->b<w.heap.size) (zx:kg x) (Z:kg y) (HD:qiu (qk 8 x y)):nz 178 #[.agg #[.string ⟨#[60,62]⟩,.int .i64 a,iv,.string S,.string E,lv,.int .i64 N,.bool neg,.int .i64 c],inv] w (xo M w (qW (qk 8 x y))):=by
 have DZ:=qd HZ;simp only[vI,RF.v]at DZ;have J4:Hid (Xb w ((w.alloc (.cells #[.string ⟨#[60,62]⟩,.int .i64 a,iv,.string S,.string E,lv,.int .i64 N,.bool neg,.int .i64 c] 241)).alloc zoC)):=qd ((nw.alloc nt _).alloc mx _);clear HZ;have H:=kb2 L9 hc;obtain⟨c0,c1,c2,c3,c4,c5,c6,c7,c8,c9,AY,AX⟩:=q9 H w nw;have np:¬b=w.heap.size:=mw;have iH:¬b=w.heap.size+1:=mw;have oR:¬w.heap.size+1=b:=mw;have mW:0<n:=mw;have cH:(0:Int)<(n:Int):=mw;have U4:1<n:=mw;have wN:(1:Int)<(n:Int):=mw;clear hc;subst hi;go_enter func178,ntmps178
 go_wp2_with(go_at_call 224;refine(DZ _ J4 mx).mono ?_;rintro e m⟨X,z,rfl,N6⟩;have J0:=qd (qf J4 X);have N7:=jZ.below X;have R:=qd (N7.alloc (.cells (cV z) 184));have U:=qd ((Below.refl m.heap.size m).alloc nt (.cells (cV z) 184));have Y8:=qd N6;obtain⟨n0,-,-,-,-,-,-,-,-,r0,r1,r2,u,r4,r5,rz,rl,iG,iF,iE,iD⟩:=N7;obtain⟨m0,-,-,-,-,-,-,-,-,s0,s1,s2,s3,s4,s5,sz,sl,-,-,-,-⟩:=q9 R;clear X N6;obtain⟨v0,v1,v2,v3,v4,v5,v6,v7,v8,v9,uV,uU⟩:=q9 H _ (qf J0 U);have rR:¬b=m.heap.size:=mw;have fB:¬m.heap.size=b:=mw)
 obtain⟨f,K⟩:∃f,f=(m.alloc (.cells #[.string z.op,.string (BS z.text),.int .i64 z.cls,.slice z.pa z.pn z.pc,.slice z.ta z.tn z.tc,.slice z.ra z.rn z.rc] 184)):=⟨_,rfl⟩;have B9:m.heap.size<f.heap.size:=by rw[K];simp
 have t:=qd (qf J0 U);rw[←K]at s0 s1 s2 s3 s4 s5 sz sl v0 v1 v2 v3 v4 v5 v6 v7 v8 v9 uV uU t R ⊢;clear K U Y8 m0 n0 r0 r1 r2 u r4 r5 rz c0 c1 c2 c3 c4 c5 c6 c7 c8 c9 AY AX;have A1:b<f.heap.size:=mw;have T:Hid (∀W,Xb f W->(Kx2 W b g h)):=qd λW A=>q9 H W (qf t A)
 have I:Hid (∀W,Xb f W->RfAt M W x g):=qd λW A=>hx.below (qf t A)
 have BXx:=qd zx;have Y:Hid (∀W,Xb f W->RfAt M W y h):=qd λW A=>hy.below (qf t A)
 have BXy:=qd Z;have eC:Hid (∀b,M b->b<f.heap.size):=qd λb h=>bg (J b h) t.size
 have SU:=qd J;clear J H hx zx hy Z;have DN:=qd HD;clear HD
 go_cut [6] (λs6 wx=>∃F r,s6=.pointer (some ⟨F,0,none⟩)/\Hid (OutAt M f wx F (qk 8 x y) r))
 case first=>
  have LI:b<f.heap.size:=mw;have KJ:¬b=f.heap.size:=mw;have KI:¬f.heap.size=b:=mw;have TWA:Hid (∀W:World,Xb f W->f.heap.size<W.heap.size->TwC (λb=>M b\/(f.heap.size<=b/\b≠f.heap.size)) W ⟨#[61]⟩ g h (qk 8 x y)):=qd λW i h3=>qii (o:=8) (by simp[vq]) i (yO (I W i) (λ_ h _=>.inl h)) (yO (Y W i) (λ_ h _=>.inl h)) h3 BXx BXy
  have TWC:Hid (∀W:World,Xb f W->TwC (λb=>M b\/f.heap.size<=b) W ⟨#[61]⟩ g h (qk 8 x y)):=qd λW i=>qy2 (o:=8) (by simp[vq]) i (yO (I W i) (λ_ h _=>.inl h)) (yO (Y W i) (λ_ h _=>.inl h)) BXx BXy
  go_region_held3 (λW=>Kx2 W b g h) (first|with_reducible assumption|(simp only[Kx2];go_keep)) (first|(go_at_call 227;refine(TWA (f.alloc zoC).drew ((Below.refl f.heap.size f).alloc nt zoC).drew (by show f.heap.size<(f.alloc _).heap.size;simp)).mono ?_;rintro e s⟨j,u,rfl,D⟩;have eB:=qd D;have C:=qd (qf ((Below.refl f.heap.size f).alloc nt zoC).drew j);obtain⟨p0,p1,p2,p3,p4,p5,pz,S4⟩:=(xZ f).drew.below j;have aK:=(T s C);clear j D)|(go_at_call 227;refine(TWC f.drew (Below.refl f.heap.size f).drew).mono ?_;rintro e s⟨j,u,rfl,D⟩;have cY:=qd D;have C:=qd (qf (Below.refl f.heap.size f).drew j);have rT:f.heap.size<=s.heap.size:=j.size;have KG:¬b=s.heap.size:=mw;have KF:¬s.heap.size=b:=mw;have aK:=(T s C);clear j D))
  all_goals
   go_wp2_with fail
   go_meet
   first
    | (have _q:=eB;exact⟨_,u,rfl,qd (OutAt.put C nt S4 eC (ex6 p0 p1 p2 p3 p4 p5) pz eB)⟩)
    | (have _q:=cY;exact⟨_,u,rfl,qd (OutAt.new C cY)⟩)
 case rest=>
  obtain⟨F,r,rfl,B⟩:=hcut;have G:=(q9 B).bel;obtain⟨o0,o1,o2,o3,o4,o5⟩:=(q9 B).k1;have SV:=qd (R.below G);have cG:F<wc.heap.size:=(q9 B).lt;have slc:w.heap.size+1<wc.heap.size:=bg sl G.size;have UF:=qd (qf t G);have DNC:Hid (nz 179 #[.agg #[.string r.op,.string (BS r.text),.int .i64 r.cls,.slice r.pa r.pn r.pc,.slice r.ta r.tn r.tc,.slice r.ra r.rn r.rc]] wc λe w'=>Xb wc w'/\∃q:RF,e=.returned (.agg #[.string q.op,.string (BS q.text),.int .i64 q.cls,.slice q.pa q.pn q.pc,.slice q.ta q.tn q.tc,.slice q.ra q.rn q.rc])/\RfAt (λb=>M b\/w.heap.size+1+1<=b) w' (qW (qk 8 x y)) q):=qd ((DN _ wc r (yO (N':=λb=>(M b\/w.heap.size+1+1<=b)/\b<wc.heap.size) B.rf (λb h hl=>⟨by rcases h with h|h;exact .inl h;right;omega,hl⟩)) (λb h=>h.2)).mono (by rintro e w'⟨i,q,e1,h2⟩;exact⟨i,q,e1,yO h2 (λb h _=>by rcases h with h|h;exact h.1;right;omega)⟩));clear DN B G s0 s1 s2 s3 s4 s5 sz v0 v1 v2 v3 v4 v5 v6 v7 v8 v9 uV uU I Y T
  go_wp2_with(go_at_call 179;refine DNC.mono ?_;rintro e w4⟨L,q,rfl,hq⟩;have SJ:=qd hq;have t8:=qd (qf UF L);obtain⟨-,-,-,-,-,-,-,-,-,q0,q1,q2,q3,q4,q5,qz,ql,-,-,-,-⟩:=(q9 SV).below L;clear L hq)
  all_goals refine ak (by simp[go_sem,q0,q1,q2,q3,q4,q5]<;>rfl) rfl ?_
  all_goals exact xw SU t8 SJ (jm _ _ _ _ _ _ _ _)
theorem qff{u:Co}{j:RF}(hi:inv=.slice (some ⟨b,0,none⟩) n cap)(hn:3<=n)(L9:b<w.heap.size)(hc:∀k,k<18->w.cell? ⟨b,k,none⟩=(qt g++qt h++qt j)[k]?)
   (HZ:vI w PZ)
  (hx:RfAt M w x g) (hy:RfAt M w y h) (hu:RfAt M w u j) (hN:∀b,M b->b<w.heap.size) (zx:kg x) (zy:kg y) (zu:kg u) (byx:kg (qk 11 y x)) (bxu:kg (qk 11 x u)):nz 178 #[.agg #[.string ⟨#[66,69,84,87,69,69,78]⟩,.int .i64 a,iv,.string S,.string E,lv,.int .i64 N,.bool neg,.int .i64 c],inv] w (xo M w (qk 6 (qk 11 y x) (qk 11 x u))):=by
 have DZ:=qd HZ;simp only[vI,RF.v]at DZ;have J4:Hid (Xb w ((w.alloc (.cells #[.string ⟨#[66,69,84,87,69,69,78]⟩,.int .i64 a,iv,.string S,.string E,lv,.int .i64 N,.bool neg,.int .i64 c] 241)).alloc zoC)):=qd ((nw.alloc nt _).alloc mx _);clear HZ;have KB:=kb3 L9 hc;obtain⟨c0,c1,c2,c3,c4,c5,c6,c7,c8,c9,AY,AX,c12,c13,c14,c15,c16,c17⟩:=q9 KB w nw;have np:¬b=w.heap.size:=mw;have iH:¬b=w.heap.size+1:=mw;have oR:¬w.heap.size+1=b:=mw;have mW:0<n:=mw;have cH:(0:Int)<(n:Int):=mw;have U4:1<n:=mw;have wN:(1:Int)<(n:Int):=mw;have J7:2<n:=mw;have hni2:(2:Int)<(n:Int):=mw;clear hc;subst hi;go_enter func178,ntmps178
 go_wp2_with(go_at_call 224;refine(DZ _ J4 mx).mono ?_;rintro e L⟨F8,z,rfl,N6⟩;have J0:=qd (qf J4 F8);have N7:=jZ.below F8;have U:=qd (N7.alloc (.cells (cV z) 184));have J6:=qd ((Below.refl L.heap.size L).alloc nt (.cells (cV z) 184));have Y8:=qd N6;obtain⟨n0,-,-,-,-,-,-,-,-,r0,r1,r2,G,r4,r5,rz,rl,iG,iF,iE,iD⟩:=N7;obtain⟨m0,-,-,-,-,-,-,-,-,s0,s1,s2,s3,s4,s5,sz,sl,-,-,-,-⟩:=q9 U;clear F8 N6;obtain⟨v0,v1,v2,v3,v4,v5,v6,v7,v8,v9,uV,uU,VE,VD,VC,VB,UZ,UY⟩:=q9 KB _ (qf J0 J6);have rR:¬b=L.heap.size:=mw;have fB:¬L.heap.size=b:=mw)
 obtain⟨m,cD⟩:∃m,m=(L.alloc (.cells #[.string z.op,.string (BS z.text),.int .i64 z.cls,.slice z.pa z.pn z.pc,.slice z.ta z.tn z.tc,.slice z.ra z.rn z.rc] 184)):=⟨_,rfl⟩;have B9:L.heap.size<m.heap.size:=by rw[cD];simp
 have K:=qd (qf J0 J6);rw[←cD]at s0 s1 s2 s3 s4 s5 sz sl v0 v1 v2 v3 v4 v5 v6 v7 v8 v9 uV uU VE VD VC VB UZ UY K U ⊢;clear cD J6 Y8 m0 n0 r0 r1 r2 G r4 r5 rz c0 c1 c2 c3 c4 c5 c6 c7 c8 c9 AY AX c12 c13 c14 c15 c16 c17;have A1:b<m.heap.size:=mw;have H:Hid (∀W,Xb m W->(Kx3 W b g h j)):=qd λW t=>q9 KB W (qf K t)
 have I:Hid (∀W,Xb m W->RfAt M W x g):=qd λW t=>hx.below (qf K t)
 have BXx:=qd zx;have AZ:Hid (∀W,Xb m W->RfAt M W y h):=qd λW t=>hy.below (qf K t)
 have BXy:=qd zy;have IX:Hid (∀W,Xb m W->RfAt M W u j):=qd λW t=>hu.below (qf K t)
 have BXu:=qd zu;have X:Hid (∀b,M b->b<m.heap.size):=qd λb h=>bg (hN b h) K.size
 have SU:=qd hN;clear hN KB hx zx hy zy hu zu;have BYX:=qd byx;have BXU:=qd bxu;clear byx bxu
 go_cut [7] (λs7 wx=>∃B r,s7=.pointer (some ⟨B,0,none⟩)/\Hid (OutAt M m wx B (qk 11 y x) r))
 case first=>
  have LI:b<m.heap.size:=mw;have KJ:¬b=m.heap.size:=mw;have KI:¬m.heap.size=b:=mw;have TWA:Hid (∀W:World,Xb m W->m.heap.size<W.heap.size->TwC (λb=>M b\/(m.heap.size<=b/\b≠m.heap.size)) W ⟨#[60,61]⟩ h g (qk 11 y x)):=qd λW s h3=>qii (o:=11) (by simp[vq]) s (yO (AZ W s) (λ_ h _=>.inl h)) (yO (I W s) (λ_ h _=>.inl h)) h3 BXy BXx
  have TWC:Hid (∀W:World,Xb m W->TwC (λb=>M b\/m.heap.size<=b) W ⟨#[60,61]⟩ h g (qk 11 y x)):=qd λW s=>qy2 (o:=11) (by simp[vq]) s (yO (AZ W s) (λ_ h _=>.inl h)) (yO (I W s) (λ_ h _=>.inl h)) BXy BXx
  go_region_held3 (λW=>Kx3 W b g h j) (first|with_reducible assumption|(simp only[Kx3];go_keep)) (first|(go_at_call 227;refine(TWA (m.alloc zoC).drew ((Below.refl m.heap.size m).alloc nt zoC).drew (by show m.heap.size<(m.alloc _).heap.size;simp)).mono ?_;rintro e C⟨A,G,rfl,F⟩;have Y:=qd F;have D:=qd (qf ((Below.refl m.heap.size m).alloc nt zoC).drew A);obtain⟨p0,p1,p2,p3,p4,p5,pz,S4⟩:=(xZ m).drew.below A;have aK:=(H C D);clear A F)|(go_at_call 227;refine(TWC m.drew (Below.refl m.heap.size m).drew).mono ?_;rintro e C⟨A,G,rfl,F⟩;have Z:=qd F;have D:=qd (qf (Below.refl m.heap.size m).drew A);have rT:m.heap.size<=C.heap.size:=A.size;have KG:¬b=C.heap.size:=mw;have KF:¬C.heap.size=b:=mw;have aK:=(H C D);clear A F))
  all_goals
   go_wp2_with fail
   go_meet
   first
    | (have _q:=Y;exact⟨_,G,rfl,qd (OutAt.put D nt S4 X (ex6 p0 p1 p2 p3 p4 p5) pz Y)⟩)
    | (have _q:=Z;exact⟨_,G,rfl,qd (OutAt.new D Z)⟩)
 case rest=>
  obtain⟨B,ra,rfl,J⟩:=hcut;obtain⟨f,rfl⟩:∃f:World,f=wc:=⟨_,rfl⟩;have R:=(q9 J).bel;have VT:=R.size;obtain⟨u0,u1,u2,u3,u4,u5,u6,u7,u8,u9,u10,u11,u12,u13,u14,u15,u16,u17⟩:=q9 H f R;have SQ:Hid (∀W,Xb f W->(Kx1 W B ra)):=qd λW t=>vhs λi hi=>(t.cell (p:=⟨B,i,none⟩) J.lt).trans (J.cells i hi)
  obtain⟨o0,o1,o2,o3,o4,o5⟩:=q9 SQ f nw;have U:=qd (U.below R);have cG:B<f.heap.size:=(q9 J).lt;have hog:m.heap.size<=B:=(q9 J).ge;have hlba:b<f.heap.size:=mw;have UF:=qd (qf K R);have rJ:=H;have UE:=qd R;have H:Hid (∀W,Xb f W->(Kx3 W b g h j)):=qd λW t=>q9 rJ W (qf UE t)
  have I:Hid (∀W,Xb f W->RfAt (λb=>(M b\/(m.heap.size<=b/\b≠B))/\b<f.heap.size) W x g):=qd λW t=>yO (I W (qf UE t)) (λb h _=>⟨.inl h,bg (X b h) VT⟩)
  have IX:Hid (∀W,Xb f W->RfAt (λb=>(M b\/(m.heap.size<=b/\b≠B))/\b<f.heap.size) W u j):=qd λW t=>yO (IX W (qf UE t)) (λb h _=>⟨.inl h,bg (X b h) VT⟩)
  have X:Hid (∀b,(M b\/(m.heap.size<=b/\b≠B))/\b<f.heap.size->b<f.heap.size):=qd λb h=>h.2
  obtain⟨-,-,-,-,-,-,-,-,-,t0,t1,t2,t3,t4,t5,tz,tl,-,-,-,-⟩:=q9 U;clear s0 s1 s2 s3 s4 s5 sz v0 v1 v2 v3 v4 v5 v6 v7 v8 v9 uV uU VE VD VC VB UZ UY R rJ AZ
  go_wp2_with fail
  go_cut [8] (λs8 wx=>∃ob r,s8=.pointer (some ⟨ob,0,none⟩)/\Hid (OutAt (λb=>(M b\/(m.heap.size<=b/\b≠B))/\b<f.heap.size) f wx ob (qk 11 x u) r))
  case first=>
   have LI:b<f.heap.size:=mw;have KJ:¬b=f.heap.size:=mw;have KI:¬f.heap.size=b:=mw;have TWA:Hid (∀W:World,Xb f W->f.heap.size<W.heap.size->TwC (λb=>(λb=>(M b\/(m.heap.size<=b/\b≠B))/\b<f.heap.size) b\/(f.heap.size<=b/\b≠f.heap.size)) W ⟨#[60,61]⟩ g j (qk 11 x u)):=qd λW s h3=>qii (o:=11) (by simp[vq]) s (yO (I W s) (λ_ h _=>.inl h)) (yO (IX W s) (λ_ h _=>.inl h)) h3 BXx BXu
   have TWC:Hid (∀W:World,Xb f W->TwC (λb=>(λb=>(M b\/(m.heap.size<=b/\b≠B))/\b<f.heap.size) b\/f.heap.size<=b) W ⟨#[60,61]⟩ g j (qk 11 x u)):=qd λW s=>qy2 (o:=11) (by simp[vq]) s (yO (I W s) (λ_ h _=>.inl h)) (yO (IX W s) (λ_ h _=>.inl h)) BXx BXu
   go_region_held3 (λW=>Kx3 W b g h j) (first|with_reducible assumption|(simp only[Kx3];go_keep)) (first|(go_at_call 227;refine(TWA (f.alloc zoC).drew ((Below.refl f.heap.size f).alloc nt zoC).drew (by show f.heap.size<(f.alloc _).heap.size;simp)).mono ?_;rintro e C⟨A,G,rfl,F⟩;have Y:=qd F;have D:=qd (qf ((Below.refl f.heap.size f).alloc nt zoC).drew A);obtain⟨p0,p1,p2,p3,p4,p5,pz,S4⟩:=(xZ f).drew.below A;have aK:=(H C D);clear A F)|(go_at_call 227;refine(TWC f.drew (Below.refl f.heap.size f).drew).mono ?_;rintro e C⟨A,G,rfl,F⟩;have Z:=qd F;have D:=qd (qf (Below.refl f.heap.size f).drew A);have rT:f.heap.size<=C.heap.size:=A.size;have KG:¬b=C.heap.size:=mw;have KF:¬C.heap.size=b:=mw;have aK:=(H C D);clear A F))
   all_goals
    go_wp2_with fail
    go_meet
    first
     | (have _q:=Y;exact⟨_,G,rfl,qd (OutAt.put D nt S4 X (ex6 p0 p1 p2 p3 p4 p5) pz Y)⟩)
     | (have _q:=Z;exact⟨_,G,rfl,qd (OutAt.new D Z)⟩)
  case rest=>
   obtain⟨ob,rb,rfl,HP⟩:=hcut;have T:=(q9 HP).bel;have hzp:=T.size;obtain⟨a0,a1,a2,a3,a4,a5⟩:=q9 SQ wc T;obtain⟨b0,b1,b2,b3,b4,b5⟩:=(q9 HP).k1;have SV:=qd (U.below T);have hpc:ob<wc.heap.size:=(q9 HP).lt;have hoc2:B<wc.heap.size:=mw;have sld:w.heap.size+1<wc.heap.size:=mw;have iA:=qd (qf UF T);have TW:Hid (TwC (λb=>M b\/w.heap.size+1+1<=b) wc ⟨#[65,78,68]⟩ ra rb (qk 6 (qk 11 y x) (qk 11 x u))):=qd ((kS (o:=6) (by simp[vq]) (yO (N':=λb=>(M b\/w.heap.size+1+1<=b)/\b<wc.heap.size) (J.rf.below T) (λb h hl=>⟨by rcases h with h|h;exact .inl h;right;omega,hl⟩)) (yO (N':=λb=>(M b\/w.heap.size+1+1<=b)/\b<wc.heap.size) HP.rf (λb h hl=>⟨by rcases h with h|h;rcases h.1 with h|h;exact .inl h;right;omega;right;omega,hl⟩)) BYX BXU (λb h=>h.2)).mono (by rintro e w'⟨s,q,e1,h2⟩;exact⟨s,q,e1,yO h2 (λb h _=>by rcases h with h|h;exact h.1;right;omega)⟩));clear J HP T I IX H SQ
   go_wp2_with(go_at_call 227;refine TW.mono ?_;rintro e w4⟨M5,q,rfl,hq⟩;have SJ:=qd hq;have t8:=qd (qf iA M5);obtain⟨-,-,-,-,-,-,-,-,-,q0,q1,q2,q3,q4,q5,qz,ql,-,-,-,-⟩:=(q9 SV).below M5;clear M5 hq)
   all_goals refine ak (by simp[go_sem,q0,q1,q2,q3,q4,q5]<;>rfl) rfl ?_
   all_goals exact xw SU t8 SJ (jm _ _ _ _ _ _ _ _)
end
section
theorem qkr(hi:inv=.slice (some ⟨b,0,none⟩) n cap)(hn:1<=n)(L9:b<w.heap.size)(F:∀k,k<6->w.cell? ⟨b,k,none⟩=(qt g)[k]?)(hE:E=⟨#[]⟩)(u:g.text.length<=400000000)(t:q.length<=100000)(HT:∀W,nz 226 #[.string S] W λe w'=>e=.returned (.string (BS q))/\w'=W)
   (Z:vI w PZ) (H1:jj w PZ P 229 λ_=>#[.string ⟨#[76,73,75,69]⟩,.string (BS ([40]++g.text++[32,76,73,75,69,32]++q++[41])),.int .i64 1,.slice (some ⟨b,0,none⟩) n cap,.int .i64 (S.size:Nat)])
   (HQ:ja w P Q):nz 178 #[.agg #[.string ⟨#[76,73,75,69]⟩,.int .i64 a,iv,.string S,.string E,lv,.int .i64 N,.bool neg,.int .i64 c],inv] w Q:=by
 have DZ:=qd Z;have o:=qd H1;have Y:=qd HQ;simp only[vI,jj,ja,RF.v]at DZ o Y;obtain⟨R1,K,C,a1⟩:=jg ⟨#[40]⟩ (BS g.text) 1 400000000 nt (by rw[qG];exact u) nh;obtain⟨R2,J,B,a2⟩:=jg R1 ⟨#[32,76,73,75,69,32]⟩ 400000001 6 C nt nh;obtain⟨R3,I,A,a3⟩:=jg R2 (BS q) 400000007 100000 B (by rw[qG];exact t) nh;obtain⟨R6,H,y6,a6⟩:=jg R3 ⟨#[41]⟩ 400100007 1 A nt nh
 have G:BS ([40]++g.text++[32,76,73,75,69,32]++q++[41])=R6:=by
  rw[H,I,J,K,show(⟨#[40]⟩:mu)=BS [40] from rfl,show(⟨#[41]⟩:mu)=BS [41] from rfl,show(⟨#[32,76,73,75,69,32]⟩:mu)=BS [32,76,73,75,69,32] from rfl,jh,jh,jh,jh]
 rw[G]at o;have DT:=qd HT;obtain⟨QB,sQ⟩:∃x,BS q=x:=⟨_,rfl⟩;rw[sQ]at DT a3;subst hE;clear HT G K C J B I A H y6 u t;have X:Hid (Xb w ((w.alloc (.cells #[.string ⟨#[76,73,75,69]⟩,.int .i64 a,iv,.string S,.string ⟨#[]⟩,lv,.int .i64 N,.bool neg,.int .i64 c] 241)).alloc zoC)):=qd ((nw.alloc nt _).alloc mx _);clear Z H1 HQ;have U:=kb1 L9 F;obtain⟨c0,c1,c2,c3,c4,c5⟩:=q9 U w nw;have np:¬b=w.heap.size:=mw;have iH:¬b=w.heap.size+1:=mw;have oR:¬w.heap.size+1=b:=mw;have mW:0<n:=mw;have cH:(0:Int)<(n:Int):=mw;clear F;subst hi;go_enter func178,ntmps178
 go_wp2_with(go_at_call 224;refine(DZ _ X mx).mono ?_;rintro e f⟨m,z,rfl,R⟩;have j:=qd (qf X m);have L:=jZ.below m;have T:=qd (L.alloc (.cells (cV z) 184));have i:=qd ((Below.refl f.heap.size f).alloc nt (.cells (cV z) 184));have Y8:=qd R;obtain⟨n0,-,-,n3,n4,-,-,-,-,r0,r1,r2,r3,r4,r5,rz,rl,iG,iF,iE,iD⟩:=L;obtain⟨m0,-,-,m3,m4,-,-,-,-,s0,s1,s2,s3,s4,s5,sz,sl,-,-,-,-⟩:=q9 T;clear m R;obtain⟨v0,v1,v2,v3,v4,v5⟩:=q9 U _ (qf j i);have rR:¬b=f.heap.size:=mw;have fB:¬f.heap.size=b:=mw)
 go_region_held3 (λW=>Xc W w.heap.size 3 (.string S)/\Xc W w.heap.size 4 (.string ⟨#[]⟩)/\Kx1 W b g) (first|with_reducible assumption|(simp only[Kx1];go_keep)) ((go_at_call 226;refine(DT _).mono ?_;rintro e wq⟨rfl,hq⟩;subst wq))
 go_wp2_with(first|(go_at_call 229;refine(o _ _ _ j rl Y8 i.drew).mono ?_;rintro e w1⟨s,r,rfl,D⟩;have C9:=qd (qf (qf j i.drew) s);obtain⟨-,-,-,-,-,-,-,-,-,q0,q1,q2,q3,q4,q5,qz,ql,-,-,-,-⟩:=(q9 T).drew.below s;have Q9:=qd D;clear s D))
 all_goals refine ak (by simp[go_sem,q0,q1,q2,q3,q4,q5]<;>rfl) rfl ?_
 all_goals exact q9 Y r w1 _ C9 Q9 (jm _ _ _ _ _ _ _ _)
theorem qks(hi:inv=.slice (some ⟨b,0,none⟩) n cap)(hn:1<=n)(L9:b<w.heap.size)(J:∀k,k<6->w.cell? ⟨b,k,none⟩=(qt g)[k]?){q':mv}(hE:(E.toList==[])=false)(B:g.text.length<=400000000)(A:q.length<=100000)(z3:q'.length<=100000)(HT:∀W,nz 226 #[.string S] W λe w'=>e=.returned (.string (BS q))/\w'=W)(JC:∀W,nz 226 #[.string E] W λe w'=>e=.returned (.string (BS q'))/\w'=W)
   (HZ:vI w PZ) (H1:jj w PZ P 229 λ_=>#[.string ⟨#[76,73,75,69]⟩,.string (BS ([40]++g.text++[32,76,73,75,69,32]++q++[32,69,83,67,65,80,69,32]++q'++[41])),.int .i64 1,.slice (some ⟨b,0,none⟩) n cap,.int .i64 (S.size:Nat)])
   (HQ:ja w P Q):nz 178 #[.agg #[.string ⟨#[76,73,75,69]⟩,.int .i64 a,iv,.string S,.string E,lv,.int .i64 N,.bool neg,.int .i64 c],inv] w Q:=by
 have DZ:=qd HZ;have t:=qd H1;have I6:=qd HQ;simp only[vI,jj,ja,RF.v]at DZ t I6;obtain⟨R1,Y,H,a1⟩:=jg ⟨#[40]⟩ (BS g.text) 1 400000000 nt (by rw[qG];exact B) nh;obtain⟨R2,X,G,a2⟩:=jg R1 ⟨#[32,76,73,75,69,32]⟩ 400000001 6 H nt nh;obtain⟨R3,U,F,a3⟩:=jg R2 (BS q) 400000007 100000 G (by rw[qG];exact A) nh;obtain⟨R4,T,D,a4⟩:=jg R3 ⟨#[32,69,83,67,65,80,69,32]⟩ 400100007 8 F nt nh;obtain⟨R5,R,C,a5⟩:=jg R4 (BS q') 400100015 100000 D (by rw[qG];exact z3) nh;obtain⟨R6,L,y6,a6⟩:=jg R5 ⟨#[41]⟩ 400200015 1 C nt nh
 have K:BS ([40]++g.text++[32,76,73,75,69,32]++q++[32,69,83,67,65,80,69,32]++q'++[41])=R6:=by
  rw[L,R,T,U,X,Y,show(⟨#[40]⟩:mu)=BS [40] from rfl,show(⟨#[41]⟩:mu)=BS [41] from rfl,show(⟨#[32,76,73,75,69,32]⟩:mu)=BS [32,76,73,75,69,32] from rfl,show(⟨#[32,69,83,67,65,80,69,32]⟩:mu)=BS [32,69,83,67,65,80,69,32] from rfl,jh,jh,jh,jh,jh,jh]
 rw[K]at t;have DT:=qd HT;have Z:=qd JC;obtain⟨QB,sQ⟩:∃x,BS q=x:=⟨_,rfl⟩;rw[sQ]at DT a3;obtain⟨QC,j⟩:∃x,BS q'=x:=⟨_,rfl⟩;rw[j]at Z a5;clear HT JC K Y H X G U F T D R C L y6 B A;have J4:Hid (Xb w ((w.alloc (.cells #[.string ⟨#[76,73,75,69]⟩,.int .i64 a,iv,.string S,.string E,lv,.int .i64 N,.bool neg,.int .i64 c] 241)).alloc zoC)):=qd ((nw.alloc nt _).alloc mx _);clear HZ H1 HQ;have KB:=kb1 L9 J;obtain⟨c0,c1,c2,c3,c4,c5⟩:=q9 KB w nw;have np:¬b=w.heap.size:=mw;have iH:¬b=w.heap.size+1:=mw;have oR:¬w.heap.size+1=b:=mw;have mW:0<n:=mw;have cH:(0:Int)<(n:Int):=mw;clear J;subst hi;go_enter func178,ntmps178
 go_wp2_with(go_at_call 224;refine(DZ _ J4 mx).mono ?_;rintro e f⟨s,z,rfl,N6⟩;have o:=qd (qf J4 s);have N7:=jZ.below s;have L8:=qd (N7.alloc (.cells (cV z) 184));have m:=qd ((Below.refl f.heap.size f).alloc nt (.cells (cV z) 184));have Y8:=qd N6;obtain⟨n0,-,-,n3,n4,-,-,-,-,r0,r1,r2,r3,r4,r5,rz,rl,iG,iF,iE,iD⟩:=N7;obtain⟨m0,-,-,m3,m4,-,-,-,-,s0,s1,s2,s3,s4,s5,sz,sl,-,-,-,-⟩:=q9 L8;clear s N6;obtain⟨v0,v1,v2,v3,v4,v5⟩:=q9 KB _ (qf o m);have rR:¬b=f.heap.size:=mw;have fB:¬f.heap.size=b:=mw)
 go_region_held3 (λW=>Xc W w.heap.size 3 (.string S)/\Xc W w.heap.size 4 (.string E)/\Kx1 W b g) (first|with_reducible assumption|(simp only[Kx1];go_keep)) ((go_at_call 226;refine(DT _).mono ?_;rintro e i⟨rfl,hq⟩;subst i))
 go_wp2_with(first|(go_at_call 229;refine(t _ _ _ o rl Y8 m.drew).mono ?_;rintro e w1⟨u,r,rfl,I⟩;have C9:=qd (qf (qf o m.drew) u);obtain⟨-,-,-,-,-,-,-,-,-,q0,q1,q2,q3,q4,q5,qz,ql,-,-,-,-⟩:=(q9 L8).drew.below u;have Q9:=qd I;clear u I)|(go_at_call 226;refine(Z _).mono ?_;rintro e i⟨rfl,hq⟩;subst i))
 all_goals refine ak (by simp[go_sem,q0,q1,q2,q3,q4,q5]<;>rfl) rfl ?_
 all_goals exact q9 I6 r w1 _ C9 Q9 (jm _ _ _ _ _ _ _ _)
end
section
structure NdC(p:Pay)(neg:Bool)(xs:List Co):Prop where
 few:xs.length=gk p.op
 gc:∀x∈xs,Gc x
 all:Gc (kn p xs)
 tb:p.op=5->∀x∈xs,Tb x
 no:neg=true->Tb (kn p xs)
 nm:p.op=21->∀x∈xs,(qp x).length<=402
 tx:p.op=21->p.texts≠[]/\∀t∈p.texts,t.length<=200
def qiw:List Co->List RN->Prop
 | _,[]=>True
 | cs,n::t=>NdC (qcx n) n.neg (vfa cs n)/\qiw (cs++[qev cs n]) t
theorem py(cs:List Co)(l k:List RN):qiw cs (l++k)↔qiw cs l/\qiw (kB cs l) k:=by
 induction l generalizing cs with
 | nil=>simp[qiw,kB]
 | cons n t ih=>rw[cm,qiw,qiw,ih,kB,and_assoc]
theorem vi4{f:List RN}{n:RN}{cs:List Co}(h:qiw [] f)(i:f[k]?=some n)(o:kB [] (f.take k)=cs):NdC (qcx n) n.neg (vfa cs n):=by
 have j:=(au.1 i);obtain⟨m,r⟩:=j;have e:f=f.take k++(n::f.drop (k+1)):=by rw[←r,←ce m,List.take_append_drop]
 rw[e,py,o]at h;exact h.2.1
def qsd(cs:List Co)(l:List RN)(x:Co):Prop:=∃ds,kB cs l=cs++ds/\ds.length=l.length/\ds.getD (l.length - 1) nC=x/\qiw cs l
theorem qef{es:List Co}(h:vs.length<=k)(e:k<vs.length+ds.length):(vs++ds++es).getD k nC=ds.getD (k - vs.length) nC:=by
 rw[aq,aq,bi,cj h,bw mw]
theorem qee(h:vs.length<=k)(e:k<vs.length+ds.length):(vs++ds).getD k nC=ds.getD (k - vs.length) nC:=by
 have:=qef (vs:=vs) (ds:=ds) (es:=[]) h e;rwa [ew]at this
theorem vkz(l:List Co)(v:Co):(l++[v]).getD l.length nC=v:=mx
theorem gU{p:Pay}{ins:List Nat}{xs:List Co}(h:kB vs l=vs++ds)(hd:ds.length=l.length)(o:qiw vs l)(f:0<=p.op)(i:p.op<=23)(m:ins.map (λk=>(vs++ds).getD k nC)=xs)(r:NdC p neg xs):
  qsd vs (l++[js p ins neg]) (if neg=true then qW (kn p xs) else kn p xs):=by
 have e:vfa (vs++ds) (js p ins neg)=xs:=m
 have j:qev (vs++ds) (js p ins neg)=if neg=true then qW (kn p xs) else kn p xs:=by
  unfold qev;rw[e,xQ f i];rfl
 refine⟨ds++[qev (vs++ds) (js p ins neg)], ?_,by simp[hd], ?_, ?_⟩
 ·rw[pm,h,kB,kB,bi]
 ·rw[show(l++[js p ins neg]).length - 1=ds.length by simp[hd],vkz,j]
 ·rw[py,h]
  refine⟨o, ?_,trivial⟩;rw[e,xQ f i];exact r
section
variable {vs:List Co} {off:Nat} {p:Pay} {neg:Bool}
theorem qmz(u:vs.length=off)(z:0<l.length)(r:0<=p.op)(s:p.op<=23)(e:qsd vs l x)(t:NdC p neg [x]):qsd vs (l++[js p [off+l.length - 1] neg]) (if neg=true then qW (kn p [x]) else kn p [x]):=by
 obtain⟨ds,o,m,j,i⟩:=e;refine gU o m i r s ?_ t;have f:(vs++ds).getD (off+l.length - 1) nC=x:=by rw[qee mw mw,show off+l.length - 1 - vs.length=l.length - 1 by omega];exact j
 rw[fe,List.map_nil,f]
theorem qti{k:List RN}(H:vs.length=off)(I:0<l.length)(G:0<k.length)(t:0<=p.op)(D:p.op<=23)(j:qsd vs l x)(i:∀ds:List Co,ds.length=l.length->qsd (vs++ds) k y)(F:NdC p false [x,y]):qsd vs (l++k++[js p [off+l.length - 1,off+l.length+k.length - 1] false]) (kn p [x,y]):=by
 obtain⟨ds,f,e,s,r⟩:=j;obtain⟨es,B,A,z,u⟩:=i ds e;have C:kB vs (l++k)=vs++(ds++es):=by rw[pm,f,B,bi]
 have o:(vs++(ds++es)).getD (off+l.length - 1) nC=x:=by rw[←bi,qef mw mw,show off+l.length - 1 - vs.length=l.length - 1 by omega];exact s
 have m:(vs++(ds++es)).getD (off+l.length+k.length - 1) nC=y:=by rw[←bi,qee my my,show off+l.length+k.length - 1 - (vs++ds).length=k.length - 1 by simp;omega];exact z
 have:=gU (neg:=false) C (by simp[e,A]) (by rw[py,f];exact⟨r,u⟩) t D (ins:=[off+l.length - 1,off+l.length+k.length - 1]) (xs:=[x,y]) (by rw[fe,fe,List.map_nil,o,m]) F;simpa using this
theorem qgk{k r:List RN}{z:Co}(Y:vs.length=off)(Z:0<l.length)(X:0<k.length)(V3:0<r.length)(F:0<=p.op)(T:p.op<=23)(t:qsd vs l x)(s:∀ds:List Co,ds.length=l.length->qsd (vs++ds) k y)(o:∀ds:List Co,ds.length=l.length+k.length->qsd (vs++ds) r z)(U:NdC p neg [x,y,z]):
  qsd vs (l++k++r++[js p [off+l.length - 1,off+l.length+k.length - 1,off+l.length+k.length+r.length - 1] neg]) (if neg=true then qW (kn p [x,y,z]) else kn p [x,y,z]):=by
 obtain⟨ds,i,f,D,C⟩:=t;obtain⟨es,I,j,H,G⟩:=s ds f;have m:kB vs (l++k)=vs++(ds++es):=by rw[pm,i,I,bi]
 obtain⟨e,R,L,K,J⟩:=o (ds++es) (by simp[f,j]);have W:kB vs (l++k++r)=vs++(ds++es++e):=by rw[pm,m,R,bi]
 have B:(vs++(ds++es++e)).getD (off+l.length - 1) nC=x:=by
  rw[bi ds,←bi vs,qef mw mw,show off+l.length - 1 - vs.length=l.length - 1 by omega];exact D
 have A:(vs++(ds++es++e)).getD (off+l.length+k.length - 1) nC=y:=by
  rw[bi ds,←bi vs,←bi (vs++ds),qef my my,show off+l.length+k.length - 1 - (vs++ds).length=k.length - 1 by simp;omega];exact H
 have u:(vs++(ds++es++e)).getD (off+l.length+k.length+r.length - 1) nC=z:=by
  rw[←bi vs,qee my my,show off+l.length+k.length+r.length - 1 - (vs++(ds++es)).length=r.length - 1 by simp;omega];exact K
 exact gU W (by simp[f,j,L]) (by rw[py,py,i,m];exact⟨⟨C,G⟩,J⟩) F T (by rw[fe,fe,fe,List.map_nil,B,A,u]) U
end
theorem qtj:∀{t:Ast} {off:Nat} {l:List RN},Flat t off l->ShA t->GcA t->∀vs:List Co,vs.length=off->qsd vs l (qi t):=by
 intro t off l h
 induction h with
 | leaf p off=>
  intro i f vs j;have s:=i.1;have r:=i.2;have:=gU (neg:=false) (vs:=vs) (ds:=[]) (l:=[]) (p:=p) (ins:=[]) (xs:=[]) (by rw[ew];rfl) rfl trivial s mw rfl ⟨by rw[qso r];rfl,mx,f,mx,mx,mx,mw⟩;exact this
 | un p hx ih=>
  intro i f vs j;have o:=i.1;have:=qmz (neg:=false) (p:=p) j hx.pos mw mw (ih i.2.2.2 f.2.2.2 vs j) ⟨by rw[qdz mw];rfl,by simpa using f.2.2.2.gc,f.1,by simpa using f.2.1,mx,by simpa using λe=>(f.2.2.1 e).1,λe=>(f.2.2.1 e).2⟩;exact this
 | bin p hx hy ihx ihy=>
  intro i f vs j;have o:=i.1;exact qti j hx.pos hy.pos mw mw (ihx i.2.1 f.2.1 vs j) (λds hd=>ihy i.2.2 f.2.2 (vs++ds) my) ⟨by rw[qiz mw];rfl,by simpa using⟨f.2.1.gc,f.2.2.gc⟩,f.1,mw,mx,mw,mw⟩
 | tri p hx hy hz ihx ihy ihz=>
  intro i f vs j;have o:=i.1;have:=qgk (neg:=false) j hx.pos hy.pos hz.pos mw mw (ihx i.2.1 f.2.1 vs j) (λds hd=>ihy i.2.2.1 f.2.2.1 (vs++ds) my) (λds hd=>ihz i.2.2.2 f.2.2.2 (vs++ds) my) (p:=p) ⟨by rw[qe0 o];rfl,by simpa using⟨f.2.1.gc,f.2.2.1.gc,f.2.2.2.gc⟩,f.1,mw,mx,mw,mw⟩;exact this
 | neg1 pl q hq hx ih=>
  intro i f vs j;obtain⟨_,_,_,i⟩:=i;obtain⟨_,m,_,f⟩:=f;exact qmz (neg:=true) j hx.pos mw mw (ih i.2.2.2 f.2.2.2 vs j) ⟨by rw[qdz mw];rfl,by simpa using f.2.2.2.gc,f.1,by simpa using f.2.1,λ_=>m rfl,by simpa using λe=>(f.2.2.1 e).1,λe=>(f.2.2.1 e).2⟩
 | neg3 pl q hq hx hy hz ihx ihy ihz=>
  intro i f vs j;obtain⟨_,_,_,i⟩:=i;obtain⟨_,m,_,f⟩:=f;exact qgk (neg:=true) j hx.pos hy.pos hz.pos mw mw (ihx i.2.1 f.2.1 vs j) (λds hd=>ihy i.2.2.1 f.2.2.1 (vs++ds) my) (λds hd=>ihz i.2.2.2 f.2.2.2 (vs++ds) my) ⟨by rw[qe0 hq];rfl,by simpa using⟨f.2.1.gc,f.2.2.1.gc,f.2.2.2.gc⟩,f.1,mw,λ_=>m rfl,mw,mw⟩
theorem qhe(cs:List Co)(n:RN)(c:Int):qev cs { n with cls:=c }=qev cs n:=rfl
theorem qny(e:List RN)(is:List Int):kB [] (ze e is)=kB [] e/\(qiw [] e->qiw [] (ze e is)):=by
 unfold ze
 have key:∀(l:List RN) (k:Nat) (vs:List Co),kB vs ((l.zipIdx k).map λx=>{ x.1 with cls:=if x.2<is.length then is.getD x.2 0 else x.1.cls })=kB vs l/\(qiw vs l->qiw vs ((l.zipIdx k).map λx=>{ x.1 with cls:=if x.2<is.length then is.getD x.2 0 else x.1.cls })):=by
  intro l
  induction l with
  | nil=>intro k vs;exact⟨rfl,λh=>h⟩
  | cons n t ih=>
   intro k vs;rw[List.zipIdx_cons,fe,kB,kB,qhe];refine⟨(ih _ _).1,λh=>⟨h.1, ?_⟩⟩;rw[qhe];exact(ih _ _).2 h.2
 exact key e 0 []
end
end Go.Proofs.YtfkcaldjphakpaaGreatDoor
