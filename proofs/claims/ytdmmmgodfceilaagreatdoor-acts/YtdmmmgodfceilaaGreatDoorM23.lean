/- The laws by the docume -/
import Derived.Test.YtdmmmgodfceilaaGreatDoorM22
set_option maxHeartbeats 16000000
set_option maxRecDepth 100000
namespace Go.Proofs.YtdmmmgodfceilaaGreatDoor
open Go.RowKit Go.Proofs.Tryz
open Go renaming Value->Ap,World->Ao
open Go.Ending renaming returned->Ak
open Go.IntKind renaming i64->J
open Go.Obj renaming cells->Al
open Go.Value renaming bool->Ah,int->I,pointer->Ag,slice->C,string->Y,tuple->Aj
open Option renaming none->O,some->G
open Or renaming inl->Am,inr->An
variable{last:Int}{L:List Su}{bb mb:Nat}{F Af:Nat->Prop}{U w:Ao}
theorem qy0(h:Br w F bb last L):ua 36 #[Ag (G ⟨bb,0,O⟩)] w λe w'=>e=Ak (I J ((jt L).1.length:Nat))/\w'=w:=by
 obtain⟨m,k,tv,rv,l,d,j,n⟩:=h;obtain⟨a,c,e⟩:=jF d.rows.ats;have b:=d.cells.2.2.1;rw[e]at b;have f:(tsX l).length=(jt L).1.length:=by rw[<-j,gR]
 rw[f]at b;exact qxz bb _ a c w b
theorem qtq{n:Int}{R:List Ru}(h:RBr w F mb n R)(j:∀x∈R,x.Q.length<=140737488355328):ut 37 #[Ag (G ⟨mb,0,O⟩)] w (I J ((gTs (R.map Ru.Q) R.length).1.length:Nat)):=by
 obtain⟨_,z,P,l,k,b,_⟩:=h;have m:R.map Ru.Q=l.map Rs.Q:=by rw[<-b,lq];rfl
 have d:R.length=l.length:=by rw[<-b,cd]
 have A:=qd (qfc k ub)
 have D:Hid (∀(W:Ao) (v:Ap),TwRow W w.1.size v (l.map Rs.Q)->∃a c,v=C a R.length c/\ut 61 #[C a R.length c] W (I J ((gTs (R.map Ru.Q) R.length).1.length:Nat))):=qd λW v hv=>by
  have u:∃a c,v=C a R.length c:=by
   obtain⟨a,c,e⟩:=gu hv;exact⟨a,c,by rw[e,cd,d]⟩
  obtain⟨a,c,e⟩:=u;refine⟨a,c,e, ?_⟩;rw[m]
  exact qfb (vqj hv (λt E=>by
   obtain⟨y,s,rfl⟩:=eg.1 E
   exact j y.ru (by rw[<-b];exact ik s)) e) (by rw[cd,d]) ub
 clear k b m d z j;go_enter func37,ntmps37
 go_wp2_with(first
  | (go_at_call 70;refine A.mono ?_;rintro e M⟨N,rfl,f,r⟩;obtain⟨S,Q,rfl,o⟩:=q9 D _ _ f;have T1:=qd o;have K:=qd r;clear f r o)
  | (go_at_call 61;refine be T1 λw2 q=>?_;have H:=qd (qg K q);clear q))
 go_ret;exact⟨rfl,q9 H⟩
section
variable {w W:Ao} {pv hv:Ap} {hs:List (Nat×Nat)} {ps:List Pl} {i:Nat} {p:Pl} {X:Nat->Prop}
theorem qpy(h:ApAt w W pv hv hs ps X)(d:ps[i]?=G p):ua 36 #[Ag (G ⟨p.bb,0,O⟩)] W (λe w'=>e=Ak (I J ((jt p.L).1.length:Nat))/\w'=W)/\ut 37 #[Ag (G ⟨p.mb,0,O⟩)] W (I J ((jt p.L).1.length:Nat)):=by
 have hp:=h.each p (bg d);refine⟨qy0 hp.br, ?_⟩;rw[vnc hp.z]
 exact qtq hp.rb λx a=>by
  obtain⟨_,f,c,_⟩:=hp.z;rw[f]at a;obtain⟨z,b,rfl⟩:=eg.1 a;exact(c z b).tl
theorem qva(h:ApAt w W pv hv hs ps X)(a:ps[i]?=G p):ua 38 #[Ag (G ⟨p.bb,0,O⟩)] W (λe w'=>∃v,e=Ak v/\ZsAt w' W.1.size v (p.L.map Su.id)/\Xb W w')/\ua 39 #[Ag (G ⟨p.mb,0,O⟩)] W λe w'=>∃v,e=Ak v/\ZsAt w' W.1.size v (p.L.map Su.id)/\Xb W w':=by
 have hp:=h.each p (bg a)
 have e:p.L.map Su.id=p.R.map Ru.id:=by
  obtain⟨c,b,_,_⟩:=hp.z;rw[c,b,lq,lq];rfl
 refine⟨ve3 W p.F p.bb p.last p.L hp.br, ?_⟩;rw[e];exact qza hp.rb
end
section
variable {w W:Ao} {pv hv:Ap} {hs:List (Nat×Nat)} {ps:List Pl} {i:Nat} {p:Pl} {x:Ox}
theorem qm8(h:ApAt w W pv hv hs ps (λ_=>False))(b:ps[i]?=G p)(d:OxOk W x)(f:x.A=10):
  ua 17 #[Ag (G ⟨w.1.size,0,O⟩),ptV p,oxV x] W λe W'=>e=Ak (Ah true)/\ApAt w W' pv hv hs ps (λ_=>False):=by
 obtain⟨t,r,s,n⟩:=d.ev.slice;have hp:=h.each p (bg b);have c0:=hp.c0;have c1:=hp.c1;have plt:=hp.lt;have pne:¬p.pb=W.1.size:=ub;have m:=qd λ(U:Ao) (c:Xb W U)=>(qpy (h.below c) b).1
 have k:Hid (∀U,Xb W U->ua 37 #[Ag (G ⟨p.mb,0,O⟩)] U λe w'=>e=Ak (I J ((jt p.L).1.length:Nat))/\ApAt w w' pv hv hs ps (λ_=>False)):=qd λU c=>(qpy (h.below c) b).2.mono λe w' ⟨q,o⟩=>⟨q,(h.below c).below o⟩
 generalize (jt p.L).1.length=E at m k;have a:=qd ((Below.refl W.1.size W).alloc ui (Al #[I J 10,I J x.n,I J x.id,Y (BS x.Q),C x.la x.ts.length x.lc,C t r s] 34));unfold oxV ptV;rw[f,n];clear h d f n hp b;go_enter func17,ntmps17
 go_wp2_with(first
  | (go_at_call 36;refine be (m _ (by first|exact q9 a|exact a.drew|exact a.drew.drew)) ?_;rintro y rfl)
  | (go_at_call 37;refine be (k _ (by first|exact q9 a|exact a.drew|exact a.drew.drew)) λw2 j=>?_;have u:=qd j;clear j))
 go_ret;exact⟨rfl,q9 u⟩
end
theorem ZsAt.cellz{base:Nat}{v:Ap}{l:List Int}(h:ZsAt w base v l):∃a c,v=C a l.length c/\∀k x,l[k]?=G x->∃g,a=G ⟨g,0,O⟩/\g<w.1.size/\w.cell? ⟨g,k,O⟩=G (I J x):=by
 have e:=h;rcases h.2 with⟨rfl,d⟩|⟨g,cap,cur,rfl,m,f,_⟩;exact⟨O,0,by rw[d],λk x b=>uu ((aj.1 b).1)⟩;refine⟨_,cap,rfl,λk x b=>⟨g,rfl,(cf.1 f).1, ?_⟩⟩;have j:=(aj.1 b).1;rw[World.ownsRow.cellAt e k ub,qrs,cm,b];rfl
theorem qe8(l:List Int)(d c:Ap)(y bb:Nat)(w:Ao)(q:ZsAt w y d l)(o:ZsAt w bb c l)(t:l.length<=8):
  ut 35 #[d,c] w (Ah true):=by
 obtain⟨M,H,rfl,s⟩:=q.cellz;obtain⟨K,E,rfl,r⟩:=o.cellz;have C:=qd s;have A:=qd r;obtain⟨n,f⟩:=it l.length;rw[f]at t |-;have z:=qd f;go_enter func35,ntmps35
 go_wp2
 go_loopw [5] (λi wr=>∃k:Nat,k<=n/\i=I J k/\Hid (Xb w wr)) (λi _=>n - (intOf i).toNat)
 exact⟨0,bt _,rfl,qd uj⟩;obtain⟨k,D,rfl,b⟩:=hrel
 by_cases A1:k<n
 .obtain⟨x,hx⟩:∃x,l[k]?=G x:=⟨_,ag (uu (q9 z))⟩
  obtain⟨g,rfl,glt,e⟩:=q9 C k x hx;obtain⟨u,rfl,glt',m⟩:=q9 A k x hx;obtain⟨a,j⟩:=qk b;replace e:=(a g k glt).trans e;rw[<-a u k glt']at m;clear a j hx
  go_wp2
  go_quiet (fail)
  go_wp2
  exact⟨⟨k+1,ub,rfl,qd (Go.below_drewN b _)⟩,by simp[intOf];omega⟩
 have:k=n:=ub;subst this
 go_wp2
 go_ret;exact⟨rfl,q9 b⟩
section
variable {w W W1 Ad:Ao} {pv hv v:Ap} {hs:List (Nat×Nat)} {ps:List Pl} {i B:Nat} {p:Pl} {x:Ox} {X X':Nat->Prop} {l:List Int}
theorem ApAt.aside(h:ApAt w W pv hv hs ps X)(c:Xb W W1)(d:∀k,X' k->X k\/(W.1.size<=k/\k<W1.1.size)):ApAt w W1 pv hv hs ps X':=by
 have f:=h.hr.at'.lt;refine⟨h.hr.grow (Grow.of_below c) (λk a=>(h.rlo k a).1) λk a=>?_,qE h.row c ui,λp hp=>(h.each p hp).same (λk a=>c.block k ((h.each p hp).sz k a)) c.size,h.apart,h.pn,λk a e=>?_,λk a=>?_⟩;rcases a with a|a;exact Am (Am a);rcases d k a with e|e;exact Am (An e);exact An e.1;rcases d k a with b|b;exact h.xn k b e;have:=(h.rlo k (Am e)).2;omega;rcases d k a with b|b;exact⟨(h.xl k b).1,aq (h.xl k b).2 c.size⟩;exact⟨ub,b.2⟩
theorem qm6(h:ApAt w W pv hv hs ps X)(n:ZsAt W B v l)(y:w.1.size<B)(j:∀k,v.ownBlock=G k->X k)(b:∀k,X' k->X k/\v.ownBlock≠G k)(r:Ad=W.alloc (Al #[v,C O 0 0,I J 0] 74))(o:hs.length<=19300000000000)(q:l.length<=100000000):
  ua 31 #[Ag (G ⟨w.1.size,0,O⟩),Ag (G ⟨W.1.size,0,O⟩)] Ad λe W'=>e=Ak (Aj #[])/\∃hv' c,ApAt w W' pv hv' c ps X'/\c.length=hs.length+4/\(∀k,X' k->W'.1[k]?=W.1[k]?)/\W.1.size<=W'.1.size:=by
 have m:∀k,ApR pv ps k\/X' k->ApR pv ps k\/X k:=λk a=>a.imp_right λe=>(b k e).1
 refine(vdz (R':=λk=>ApR pv ps k\/X' k) (bn:=0) (bv:=C O 0 0) h.hr m (λk a=>(h.rlo k (m k a)).2) (zA n ub) (dy _ _ _ _) (λk a=>?_) r o q (bt _)).mono λe W' ⟨u,hv',c,t,s,f,d⟩=>⟨u,hv',c,⟨t,vj h.row λk a=>f k (Am (Am a)),λp hp=>(h.each p hp).same (λk a=>f k (Am (An ⟨p,hp,a⟩))) d,h.apart,h.pn,λk a=>h.xn k (b k a).1,λk a=>⟨(h.xl k (b k a).1).1,aq (h.xl k (b k a).1).2 d⟩⟩,s,λk a=>f k (An a),d⟩
 rcases a with a|a;exact⟨An (j k a),λe=>e.elim (h.xn k (j k a)) λe=>(b k e).2 a⟩;simp[Value.ownBlock]at a
end
section
variable {w W W5:Ao} {pv pv' hv:Ap} {hs:List (Nat×Nat)} {ps:List Pl} {p:Pl} {R R':Nat->Prop} {g cap:Nat} {T:TypeId} {x:Ap}
theorem HsR.players(h:HsR pv w R W hv hs)(n:∀k,pv.ownBlock=G k->R k)(m:RoAt (w.1.size+1) T W W5 pv g x)(s:∀k,R' k->R k\/W.1.size<=k):HsR pv' w R' (W5.setCell ⟨w.1.size,0,O⟩ pv') hv hs:=by
 have E:=h.at'.lt;have A:=m.size;obtain⟨X,f⟩:=uk (W5.setCell ⟨w.1.size,0,O⟩ pv':Ao);rw[<-f];have z:∀b,b≠w.1.size->X.1[b]?=W5.1[b]?:=λb d=>by rw[f];exact au _ ⟨w.1.size,0,O⟩ _ b d
 have o:∀b,b<W.1.size->b≠w.1.size->¬R b->X.1[b]?=W.1[b]?:=λb d D C=>(z b D).trans (m.block b d λe=>C (n b e))
 have t:W5.1[w.1.size]?=W.1[w.1.size]?:=m.block _ E λe=>h.hf _ (An rfl) (n _ e)
 have u:∀i,W5.cell? ⟨w.1.size,i,O⟩=W.cell? ⟨w.1.size,i,O⟩:=λi=>aw (w:=W) (a:=⟨w.1.size,i,O⟩) t
 have r:∀y∈hs,HdAt (λk=>(w.1.size<k/\hv.ownBlock≠G k)/\¬R' k) X y.1 y.2:=λy j=>(h.each y j).keep (λb d q=>o b q (uu d.1.1) d.2) λb d q=>⟨d.1,λe=>(s b e).elim d.2 λe=>ub⟩
 refine⟨⟨?_,by rw[f,md];omega, ?_, ?_,λi=>?_,vj h.at'.row λk c=>o k (h.at'.row.lt k c).2 (uu ((h.at'.row.lt k c).1)) (h.hf k (Am c)),λy j=>⟨(r y j).keep (λ_ _ _=>rfl) (λ_ h _=>h.1),(h.at'.each y j).2⟩⟩,r,λk c e=>?_⟩;rw[f];exact Below.setCell (h.at'.u.trans (m.u.mono ub)) ui _
 .rw[f];simp[go_sem,u,h.at'.c0]
 .rw[f];simp[go_sem,u,h.at'.c1]
 .rw[f];simp[go_sem,(cn (w:=W) (a:=⟨w.1.size,i,O⟩) t).trans (h.at'.fz i)]
 rcases s k e with e|e;exact h.hf k c e;rcases c with c|c;have:=(h.at'.row.lt k c).2;omega;omega
theorem ApAt.more(h:ApAt w W pv hv hs ps p.own)(hp:PlAt w.1.size W p)(o:W5.ownsRow (w.1.size+1) 38 1 (C (G ⟨g,0,O⟩) (ps.length+1) cap) (ps.length+1) (ps.map ptV++[ptV p]))(r:RoAt (w.1.size+1) T W W5 pv g x):
  ApAt w (W5.setCell ⟨w.1.size,0,O⟩ (C (G ⟨g,0,O⟩) (ps.length+1) cap)) (C (G ⟨g,0,O⟩) (ps.length+1) cap) hv hs (ps++[p]) (λ_=>False):=by
 have K:=r.size;have I4:w.1.size+1<=g:=(o.lt g rfl).1;have A:∀k,(C (G ⟨g,0,O⟩) (ps.length+1) cap).ownBlock=G k->g=k:=λk d=>by simpa [Value.ownBlock]using d
 have J:∀b,b<W.1.size->w.1.size<b->pv.ownBlock≠G b->(W5.setCell ⟨w.1.size,0,O⟩ (C (G ⟨g,0,O⟩) (ps.length+1) cap)).1[b]?=W.1[b]?:=λb N h1 P=>(au _ ⟨w.1.size,0,O⟩ _ b (by show b≠w.1.size;omega)).trans (r.block b N P)
 have Z:W.1.size<=(W5.setCell ⟨w.1.size,0,O⟩ (C (G ⟨g,0,O⟩) (ps.length+1) cap)).1.size:=by rw[md];omega
 have t:∀k,p.own k->pv.ownBlock≠G k:=λk d e=>h.xn k d (Am e)
 have n:∀q∈ps++[p],(∀k,q.own k->pv.ownBlock≠G k)/\PlAt w.1.size W q:=λq hq=>by
  rcases cr.1 hq with hq|hq;exact⟨h.pn q hq,h.each q hq⟩;rw[cu.1 hq];exact⟨t,hp⟩
 refine⟨h.hr.players (λk d=>Am (Am d)) r λk d=>?_, ?_,λq hq=>(n q hq).2.same (λk d=>J k ((n q hq).2.sz k d) ((n q hq).2.lo k d) ((n q hq).1 k d)) Z,λa c y z I s m k=>?_,λq hq k d e=>?_,λk d=>d.elim,λk d=>d.elim⟩;rcases d with(d|⟨q,hq,d⟩)|d;obtain rfl:=A k d;rcases r.at' with e|e;exact Am (Am (Am e));exact An ub;rcases cr.1 hq with hq|hq;exact Am (Am (An ⟨q,hq,d⟩));rw[cu.1 hq]at d;exact Am (An d);exact d.elim
 .rw[ce,du,dq]
  exact vj o λk d=>au _ ⟨w.1.size,0,O⟩ _ k (by have:=A k d;show k≠w.1.size;omega)
 have D:∀(j:Nat) (u:Pl),(ps++[p])[j]?=G u->ps[j]?=G u\/(j=ps.length/\u=p):=λj u f=>by
  rw[List.getElem?_append]at f
  split at f
  exact Am f;rename_i U6;have M:=(aj.1 f).1;simp at M;have Y:j - ps.length=0:=ub;rw[Y]at f;injection f with f;exact An ⟨ub,f.symm⟩
 intro d e;rcases D a y s with s|⟨ea,Q⟩;rcases D c z m with m|⟨S,E⟩;exact h.apart a c y z I s m k d e;rw[E]at e;exact h.xn k e (An ⟨y,bg s,d⟩);rcases D c z m with m|⟨S,E⟩;rw[Q]at d;exact h.xn k d (An ⟨z,bg m,e⟩);omega;obtain rfl:=A k e;rcases r.at' with H|H;exact(n q hq).1 g d H;have:=(n q hq).2.sz g d;omega
end
section
attribute [local go_sem ↓] vsj
theorem vjt:(prog.info? 38).map (λi=>(i.zero,i.size,i.bytes))=G (G (Ag O),1,8):=uh
theorem vmd(h:U.1[mb]?=G (Al #[C O 0 0,I J 0] 42 (0,0))):RBr U (λk=>k=mb) mb 0 []:=by
 refine⟨λk b=>by rw[b];exact p9 h,bt _,C O 0 0,[],⟨h,dy _ _ _ _,λx a=>by simp at a,List.Pairwise.nil⟩,rfl,λk b=>?_⟩;rcases b with e|e|⟨x,a,_⟩;exact e;simp[Value.ownBlock]at e;simp at a
theorem vpv{b a:Nat}(q:Br U (λk=>k=bb) bb 0 [])(m:U.1[mb]?=G (Al #[C O 0 0,I J 0] 42 (0,0)))(s:Xc U a 0 (Ag (G ⟨bb,0,O⟩)))(r:Xc U a 1 (Ag (G ⟨mb,0,O⟩)))(n:a<U.1.size)(f:a≠bb)(d:a≠mb)(c:bb≠mb)(D:b<a)(A:b<bb)(y:b<mb):PlAt b U ⟨a,bb,mb,λk=>k=bb,λk=>k=mb,0,[],[],[]⟩:=
 ⟨s,r,n,q,λx j=>by simp at j,vmd m,⟨rfl,rfl,λz h=>by simp at h,List.Pairwise.nil⟩,rq _,f,d,λk u t=>c (u.symm.trans t),λk o=>by
  rcases o with e|e|e
  .have e:k=a:=e
   omega
  .have e:k=bb:=e
   omega
  .have e:k=mb:=e
   omega⟩
theorem qcp{W:Ao}{pv hv:Ap}{hs:List (Nat×Nat)}{ps:List Pl}(h:ApAt w W pv hv hs ps (λ_=>False))(hn:ps.length<=10000000000000):
  ua 8 #[Ag (G ⟨w.1.size,0,O⟩)] W λe W'=>e=Ak (Ah true)/\∃pv' p,ApAt w W' pv' hv hs (ps++[p]) (λ_=>False)/\p.last=0:=by
 have c0:=h.hr.at'.c0;have wlt:=h.hr.at'.lt;obtain⟨pa,pc,D⟩:=jF h.row;obtain⟨V,d⟩:=uk ((W.alloc (Al #[I J 0,C O 0 0,C O 0 0,C O 0 0] 54)).alloc (Al #[C O 0 0,I J 0] 42):Ao);have r:V.1.size=W.1.size+1+1:=by rw[d,my,my]
 obtain⟨U,f⟩:=uk (V.alloc (Al #[Ag (G ⟨W.1.size,0,O⟩),Ag (G ⟨W.1.size+1,0,O⟩)] 44):Ao);have M:U.1.size=W.1.size+1+1+1:=by rw[f,my,r]
 have u:Xb V U:=by rw[f];exact(uj).alloc ui _
 have N:Below (W.alloc (Al #[I J 0,C O 0 0,C O 0 0,C O 0 0] 54)).1.size (W.alloc (Al #[I J 0,C O 0 0,C O 0 0,C O 0 0] 54)) V:=by rw[d];exact(uj).alloc ui _
 have z:=qg N u;have K:Xb W U:=qg ((Below.refl W.1.size W).alloc ui (Al #[I J 0,C O 0 0,C O 0 0,C O 0 0] 54)) z
 have E:U.1[W.1.size+1]?=G (Al #[C O 0 0,I J 0] 42 (0,0)):=by
  refine(u.block (W.1.size+1) ub).trans ?_;rw[d];have:=heap_alloc_new (W.alloc (Al #[I J 0,C O 0 0,C O 0 0,C O 0 0] 54)) (Al #[C O 0 0,I J 0] 42);rw[my]at this;exact this
 have hq:∀j,U.cell? ⟨W.1.size+1+1,j,O⟩=[Ag (G ⟨W.1.size,0,O⟩),Ag (G ⟨W.1.size+1,0,O⟩)][j]?:=λj=>by
  rw[f,<-r]
  match j with
  | 0=>simp
  | 1=>simp
  | j+2=>simp
 obtain⟨p,m⟩:∃p:Pl,p=⟨W.1.size+1+1,W.1.size,W.1.size+1,λk=>k=W.1.size,λk=>k=W.1.size+1,0,[],[],[]⟩:=⟨_,rfl⟩
 have B7:∀k,p.own k->W.1.size<=k/\k<U.1.size:=λk c=>by
  rw[m]at c;rcases c with e|e|e;have e:k=W.1.size+1+1:=e;omega;have e:k=W.1.size:=e;omega;have e:k=W.1.size+1:=e;omega
 have hp:PlAt w.1.size U p:=by
  rw[m];refine vpv ((vdp W).br.below z) E (hq 0) (hq 1) ub ub ub ub ub ub ub
 have b:ApAt w U pv hv hs ps p.own:=h.aside K λk c=>An (B7 k c)
 have y:ptV p=Ag (G ⟨W.1.size+1+1,0,O⟩):=by rw[m];rfl
 obtain⟨i0,H,Z,B8,D4⟩:=info_parts vjt;obtain⟨g,cap,n,q,P,Q⟩:=qrb (T:=27) underlying27 H Z B8 D4 rfl (W:=U) b.row ub (x:=ptV p) (by rw[y];rfl) ub ub (W.1.size+1+1+1) M;have s:=q9 Q;have o:Xc U w.1.size 0 pv:=b.hr.at'.c0;have t:n.1[w.1.size]?=U.1[w.1.size]?:=s.block _ ub λe=>uu ((b.row.lt _ e).1)
 have A:Xc n w.1.size 0 pv:=(aw (w:=U) (a:=⟨w.1.size,0,O⟩) t).trans o;have z5:Xf n w.1.size:=λi=>(cn (w:=U) (a:=⟨w.1.size,i,O⟩) t).trans (b.hr.at'.fz i)
 have Y:=qd (b.more hp P s);have S:Hid (p.last=0):=qd (by rw[m]);rw[y]at q;rw[f,d]at q;rw[D]at q A c0;go_enter func8,ntmps8
 go_wp2_with(go_at_call 11;refine be (vkn _) ?_;rintro w1 rfl)
 go_ret;exact⟨rfl,_,p,q9 Y,q9 S⟩
end
theorem ve9(w:Ao):ut 6 #[] w (Ah true):=by
 have c:Hid (ua 8 #[Ag (G ⟨w.1.size,0,O⟩)] (w.alloc (Al #[C O 0 0,C O 0 0] 30)) λe W'=>e=Ak (Ah true)/\Xb w W'):=qd ((qcp (ApAt.start w) (bt _)).mono λe W' ⟨b,_,_,a,_⟩=>⟨b,a.hr.at'.u⟩);go_enter func6,ntmps6
 go_wp2_with(go_at_call 8;refine be c λw2 d=>?_)
 go_ret;exact⟨rfl,d⟩
theorem qtf{pri:Int}{ps:List Pr}(h:L.length<=8):(qar L last pri ps).1.2.1.length<=8/\(qar L last pri ps).1.2.2.length<=8:=by
 unfold qar
 split
 have b:=qda ps L;have a:=qf0 ⟨pri,last+1⟩ L (qkx ps L) (qkx ps L).length;have e:pQ ⟨pri,last+1⟩ L (qkx ps L) (qkx ps L).length=vbs ⟨pri,last+1⟩ L (qkx ps L):=by unfold pQ vbs;rw[im]
 rw[e]at a;exact⟨bs a.1 ub,bs a.2 ub⟩;exact⟨bt _,bt _⟩
structure PbAt(w:Ao)(pv hv:Ap)(hs:List (Nat×Nat))(ps:List Pl)(mv fv cv dv:Ap)(met drp:List Int)(W:Ao):Prop where
 ap:ApAt w W pv hv hs ps (λk=>mv.ownBlock=G k\/fv.ownBlock=G k)
 m:ZsAt W (w.1.size+1) mv met
 f:ZsAt W (w.1.size+1) fv drp
 c:ZsAt W (w.1.size+1) cv met
 d:ZsAt W (w.1.size+1) dv drp
 ne:∀k,fv.ownBlock=G k->mv.ownBlock≠G k
section
variable {w W W1 Ad:Ao} {pv hv mv fv cv dv:Ap} {hs:List (Nat×Nat)} {ps:List Pl} {met drp:List Int} {i:Nat} {p:Pl}
theorem PbAt.below(h:PbAt w pv hv hs ps mv fv cv dv met drp W)(a:Xb W W1):PbAt w pv hv hs ps mv fv cv dv met drp W1:=
 ⟨h.ap.below a,qE h.m a ui,qE h.f a ui,qE h.c a ui,qE h.d a ui,h.ne⟩
theorem PbAt.keep1(h:PbAt w pv hv hs ps mv fv cv dv met drp W)(c:Ad=W.alloc (Al #[mv,C O 0 0,I J 0] 74))(n:hs.length<=19200000000000)(o:met.length<=8):
  ua 31 #[Ag (G ⟨w.1.size,0,O⟩),Ag (G ⟨W.1.size,0,O⟩)] Ad λe W'=>e=Ak (Aj #[])/\∃hv' b,ApAt w W' pv hv' b ps (λk=>fv.ownBlock=G k)/\b.length=hs.length+4/\ZsAt W' (w.1.size+1) fv drp:=
 (qm6 (X':=λk=>fv.ownBlock=G k) h.ap h.m (dt _) (λ_ a=>Am a) (λk a=>⟨An a,h.ne k a⟩) c ub ub).mono λe W' ⟨m,hv',b,j,f,d,_⟩=>⟨m,hv',b,j,f,qm h.f d⟩
theorem vc2(h:∃hv' a,ApAt w W pv hv' a ps (λk=>fv.ownBlock=G k)/\a.length=hs.length+4/\ZsAt W (w.1.size+1) fv drp)(c:Ad=W.alloc (Al #[fv,C O 0 0,I J 0] 74))(o:hs.length<=19200000000000)(q:drp.length<=8):
  ua 31 #[Ag (G ⟨w.1.size,0,O⟩),Ag (G ⟨W.1.size,0,O⟩)] Ad λe W'=>e=Ak (Aj #[])/\∃hv' a,ApAt w W' pv hv' a ps (λ_=>False)/\a.length=hs.length+8:=by
 obtain⟨n,t,m,s,j⟩:=h;exact(qm6 (X':=λ_=>False) m j (dt _) (λ_ b=>b) (λk b=>b.elim) c ub ub).mono λe W' ⟨f,hv',a,d,r,_⟩=>⟨f,hv',a,d,ub⟩
theorem PlAt.grow1(a:Grow p.F W W1):Grow p.own W W1:=⟨a.os,a.tape,a.output,a.size,λk c b=>a.block k c λe=>b (An (Am e))⟩
theorem Grow.two(a:Grow F W W1)(b:Grow Af W1 U):Grow (λk=>F k\/Af k) W U:=⟨b.os.trans a.os,b.tape.trans a.tape,b.output.trans a.output,bs a.size b.size,λk d c=>(b.block k (aq d a.size) λe=>c (An e)).trans (a.block k d λe=>c (Am e))⟩
theorem Grow.wide(h:Grow F W W1)(c:∀k,F k->Af k):Grow Af W W1:=⟨h.os,h.tape,h.output,h.size,λk b a=>h.block k b λe=>a (c k e)⟩
theorem vnq(h:ApAt w W pv hv hs ps (λ_=>False))(hi:ps[i]?=G p)(pri:Int)(Y:p.last<4611686018427387904){es:List Pr}{ev c:Ap}(A:EvGood es)(h1:∀U,Grow p.own W U->EvIn U ev es)(h2:∀U,Grow p.own W U->EvIn U c es):
  ua 46 #[Ag (G ⟨p.bb,0,O⟩),I J pri,ev] W λe W1=>∃mv fv,e=Ak (Aj #[mv,fv,I J (qar p.L p.last pri es).2.2])/\ZsAt W1 (w.1.size+1) mv (qar p.L p.last pri es).1.2.1/\ZsAt W1 (w.1.size+1) fv (qar p.L p.last pri es).1.2.2/\Grow p.own W W1/\Xc W1 p.pb 0 (Ag (G ⟨p.bb,0,O⟩))/\Xc W1 p.pb 1 (Ag (G ⟨p.mb,0,O⟩)) /\
   ∀V,Xb W1 V->ua 47 #[Ag (G ⟨p.mb,0,O⟩),I J pri,c] V λe W2=>∃cv dv,e=Ak (Aj #[cv,dv,I J (qar p.L p.last pri es).2.2])/\Grow p.own W W2/\Xc W2 p.pb 1 (Ag (G ⟨p.mb,0,O⟩))/\∃p',PbAt w pv hv hs (ps.set i p') mv fv cv dv (qar p.L p.last pri es).1.2.1 (qar p.L p.last pri es).1.2.2 W2/\0<=p'.last/\p'.last<=p.last+1:=by
 have hp:=h.each p (bg hi);obtain⟨e1,e2,Z,m⟩:=vrv hp.z pri es;have sX:=h.hr.at'.lt
 have r:∀x∈p.R,x.ms.length<=6/\x.Q.length<=140737488355328:=λx j=>by
  obtain⟨_,r,Q,_⟩:=hp.z;rw[r]at j;obtain⟨z,m,rfl⟩:=eg.1 j;exact⟨(Q z m).l6,(Q z m).tl⟩
 have S:0<=(qar p.L p.last pri es).2.1/\(qar p.L p.last pri es).2.1<=p.last+1:=by
  have:=hp.l0;unfold qar
  split
  .exact⟨by show 0<=p.last+1;omega,rq _⟩
  exact⟨this,by show p.last<=p.last+1;omega⟩
 refine vm4 W p.F p.bb p.last p.L hp.br pri ⟨hp.l0,Y⟩ es ev (λU D=>h1 U (PlAt.grow1 D)) A _ λW1 mv fv b1 n d f y=>⟨mv,fv,rfl,zA d ub,zA f ub,PlAt.grow1 n,(aw (w:=W) (a:=⟨p.pb,0,O⟩) (n.block _ hp.lt hp.fb)).trans hp.c0,(aw (w:=W) (a:=⟨p.pb,1,O⟩) (n.block _ hp.lt hp.fb)).trans hp.c1,λV o=>?_⟩
 have H:=n.andB o;have u:=o.size;have AQ:=n.size;refine vfw (hp.mid H) (λx j=>(r x j).1) (λx j=>(r x j).2) ⟨hp.l0,Y⟩ pri (λU D=>h2 U ((H.two D).wide λk b=>b.elim (λe=>An (Am e)) λe=>An (An e))) (λU C=>qb8 C A) (λU s hs C=>qz3 (BS s) hs es c U C A) _ λW2 cv dv b2 E M K=>?_
 rw[<-e2]at b2 m |-;rw[<-e1]at M K;obtain⟨a1,a2,a3⟩:=hp.two (b1.below o) (λk b=>b.1.imp_right λe=>⟨e.1,aq e.2 u⟩) (qyo hp.good) H b2 E m S.1;have D4:=E.size;have P:∀k,W.1.size<=k->k<W1.1.size->W2.1[k]?=W1.1[k]?:=λk N t=>(E.block k ub λe=>uu (hp.rb.1 k e)).trans (o.block k t)
 refine⟨cv,dv,rfl,a2,a1.c1,_,⟨h.op (X':=λk=>mv.ownBlock=G k\/fv.ownBlock=G k) hi a2 a1 rfl a3 (λk b=>An ?_) (λk b e=>?_),zA (qm d λk b=>P k (d.lt k b).1 (d.lt k b).2) ub,zA (qm f λk b=>P k (f.lt k b).1 (f.lt k b).2) ub,zA M ub,zA K ub,λk N t=>y k t N⟩,S⟩;have:W.1.size<=k/\k<W1.1.size:=b.elim (d.lt k) (f.lt k);omega;have q:W.1.size<=k/\k<W1.1.size:=b.elim (d.lt k) (f.lt k);rcases e with e|e|e;have:=hp.lt;have e:k=p.pb:=e;omega;exact b.elim e.2.1 e.2.2;rcases e with e|e;have:=hp.rb.1 k e;omega;have:V.1.size<=k:=e.1;omega
end
section
variable {w W:Ao} {pv hv:Ap} {hs:List (Nat×Nat)} {ps:List Pl} {i:Nat} {p:Pl} {x:Ox}
theorem Grow.base(a:Xb w W)(b:Grow F W U)(d:∀k,F k->w.1.size<k):Xb w U:=
 ⟨b.os.trans a.os,b.tape.trans a.tape,b.output.trans a.output,bs a.size b.size,λk c=>(b.block k (aq c a.size) λe=>uu (d k e)).trans (a.block k c)⟩
theorem qv4(h:ApAt w W pv hv hs ps (λ_=>False))(hi:ps[i]?=G p)(hx:OxOk w x)(hk:x.A=8)(hn:hs.length<=19200000000000)(hl:p.last<4611686018427387904):
  ua 18 #[Ag (G ⟨w.1.size,0,O⟩),ptV p,oxV x] W λe W'=>e=Ak (Ah true)/\∃z hv' N8,ApAt w W' pv hv' N8 (ps.set i z) (λ_=>False)/\0<=z.last/\z.last<=p.last+1/\N8.length=hs.length+8:=by
 obtain⟨kind,Q,id,text,Z,S,ts,ev,es⟩:=x;have hk:kind=8:=hk;subst hk;have sD:=h.hr.at'.u;have eF:EvIn w ev es:=hx.ev;have hg:EvGood es:=hx.good;have KU:48 * es.length<=140737488355328:=hx.el;have hp:=h.each p (bg hi);have c0:=hp.c0;have plt:=hp.lt;have pne:¬p.pb=W.1.size:=ub;have psz:=hp.sz;have plo:∀k,p.own k->w.1.size<k:=hp.lo;have h8:=qtf (last:=p.last) (pri:=id) (ps:=es) (show p.L.length<=8 from hp.br.rising.2.1);obtain⟨n,U6⟩:=it ts.length;obtain⟨m,hm⟩:=it es.length
 obtain⟨o,j,rfl⟩:∃a c,ev=C a m c:=by
  obtain⟨a,q,c,rfl⟩:=eF.slice;exact⟨a,c,by rw[<-hm,eF.len]⟩
 obtain⟨V,hV⟩:=uk (W.alloc (Al #[I J 8,I J Q,I J id,Y (BS text),C Z n S,C o m j] 34):Ao);have sI:Xb W V:=hV ▸ uj.alloc ui _
 have sH:V.1.size=W.1.size+1:=by rw[hV];simp
 have DJ:∀i,V.cell? ⟨W.1.size,i,O⟩=(#[I J 8,I J Q,I J id,Y (BS text),C Z n S,C o m j]:Array Ap)[i]?:=λi=>by rw[hV];simp
 have OPV:Hid (∀U,Xb V U->(∀i,U.cell? ⟨W.1.size,i,O⟩=(#[I J 8,I J Q,I J id,Y (BS text),C Z n S,C o m j]:Array Ap)[i]?)/\W.1.size<U.1.size/\Xc U p.pb 0 (Ag (G ⟨p.bb,0,O⟩))/\p.pb<U.1.size):=qd λU H=>⟨λi=>((qk H).1 _ i ub).trans (DJ i),uu H.size,((qk (qg sI H)).1 _ 0 plt).trans c0,uu H.size⟩
 have EVT:Hid (ua 20 #[C o m j] V λe w'=>e=Ak (C (G ⟨W.1.size+1,0,O⟩) (m+8) (m+8))/\EvRow w' (W.1.size+1) es 8/\Xb V w'):=qd (by
  have:=qwe (eF.below (qg sD sI)) KU;unfold qi8 at this;rw[hm]at this;rw[<-sH];exact this)
 obtain⟨A,hA⟩:=it (qar p.L p.last id es);rw[hA]at h8;obtain⟨FIN,DS⟩:∃M:Option Addr->Nat->Option Addr->Nat->Option Addr->Nat->Option Addr->Nat->Ao->Prop,∀f k1 d b y t u s U,M f k1 d b y t u s U↔((∀i,U.cell? ⟨W.1.size,i,O⟩=(#[I J 8,I J Q,I J id,Y (BS text),C Z n S,C o m j]:Array Ap)[i]?)/\W.1.size<U.1.size/\Xc U p.pb 1 (Ag (G ⟨p.mb,0,O⟩))/\(EvRow U (W.1.size+1) es 8/\EvIn U (C o m j) es)/\∃z,PbAt w pv hv hs (ps.set i z) (C f A.1.2.1.length k1) (C d A.1.2.2.length b) (C y A.1.2.1.length t) (C u A.1.2.2.length s) A.1.2.1 A.1.2.2 U/\0<=z.last/\z.last<=p.last+1):=⟨_,λ_ _ _ _ _ _ _ _ _=>Iff.rfl⟩;obtain⟨MID,DQ⟩:∃M:Option Addr->Nat->Option Addr->Nat->Ao->Prop,∀f k1 d b r,M f k1 d b r↔(((∀i,r.cell? ⟨W.1.size,i,O⟩=(#[I J 8,I J Q,I J id,Y (BS text),C Z n S,C o m j]:Array Ap)[i]?)/\W.1.size<r.1.size/\Xc r p.pb 0 (Ag (G ⟨p.bb,0,O⟩))/\Xc r p.pb 1 (Ag (G ⟨p.mb,0,O⟩)))/\∀V1,Xb r V1->ua 47 #[Ag (G ⟨p.mb,0,O⟩),I J id,C o m j] V1 λe U2=>∃y t u s,e=Ak (Aj #[C y A.1.2.1.length t,C u A.1.2.2.length s,I J A.2.2])/\FIN f k1 d b y t u s U2):=⟨_,λ_ _ _ _ _=>Iff.rfl⟩
 have PUB:Hid (∀U,Xb V U->EvRow U (W.1.size+1) es 8->ua 46 #[Ag (G ⟨p.bb,0,O⟩),I J id,C (G ⟨W.1.size+1,0,O⟩) m (m+8)] U λe r=>∃f k1 d b,e=Ak (Aj #[C f A.1.2.1.length k1,C d A.1.2.2.length b,I J A.2.2])/\MID f k1 d b r):=qd λU H D9=>by
  have hWU:=qg sI H;have VU:=H.size;have Y7:=D9.lt;have G0:∀X,Grow p.own U X->EvIn X (C o m j) es:=λX K=>eF.below (Grow.base (qg sD hWU) K plo)
  have rX:∀X,Grow p.own U X->EvRow X (W.1.size+1) es 8:=λX K=>D9.of_block (K.block _ Y7 λe=>uu (psz _ e))
  have U4:∀X,Grow p.own U X->(∀i,X.cell? ⟨W.1.size,i,O⟩=(#[I J 8,I J Q,I J id,Y (BS text),C Z n S,C o m j]:Array Ap)[i]?)/\W.1.size<X.1.size:=λX K=>⟨λi=>(aw (w:=U) (a:=⟨W.1.size,i,O⟩) (K.block W.1.size ub λe=>uu (psz W.1.size e))).trans ((OPV U H).1 i),uu K.size⟩
  refine(vnq (h.below hWU) hi id hl hg (λX K=>An ⟨W.1.size+1,0,m+8,by rw[hm],by rw[hm];omega,(rX X K).ev,(rX X K).lt⟩) G0).mono λe r ⟨mv,fv,q1,q2,q3,q4,q0,q5,q6⟩=>?_
  rw[hA]at q1 q2 q3 q6;obtain⟨f,k1,e1⟩:=q2.form;obtain⟨d,b,e2⟩:=q3.form;subst e1 e2;refine⟨f,k1,d,b,q1,(DQ _ _ _ _ _).2 ⟨⟨(U4 r q4).1,(U4 r q4).2,q0,q5⟩,λV1 PH=>(q6 V1 PH).mono λe U2 ⟨cv,dv,r1,r2,r5,z,r3,r4⟩=>?_⟩⟩;obtain⟨y,t,e3⟩:=r3.c.form;obtain⟨u,s,e4⟩:=r3.d.form;subst e3 e4;exact⟨y,t,u,s,r1,(DS _ _ _ _ _ _ _ _ _).2 ⟨(U4 U2 r2).1,(U4 U2 r2).2,r5,⟨rX U2 r2,G0 U2 r2⟩,z,r3,r4⟩⟩
 obtain⟨met,lN⟩:∃l,A.1.2.1=l:=⟨_,rfl⟩;obtain⟨drp,tO⟩:∃l,A.1.2.2=l:=⟨_,rfl⟩;obtain⟨E,hE⟩:∃l,A.2.2=l:=⟨_,rfl⟩;have mF:=qd DS;have R7:=qd DQ;rw[lN,tO]at mF;rw[lN,tO,hE]at R7 PUB;rw[lN,tO]at h8;obtain⟨N,hN⟩:∃l,met.length=l:=⟨_,rfl⟩;obtain⟨D,hD⟩:∃l,drp.length=l:=⟨_,rfl⟩;rw[hN,hD]at mF R7 PUB
 have STL:Hid (∀U,EvRow U (W.1.size+1) es 8/\EvIn U (C o m j) es->ut 23 #[C (G ⟨W.1.size+1,0,O⟩) (m+8) (m+8),C o m j] U (Ah true)):=qd λU hr=>by
  have:=vam hr.1 hr.2 KU;rw[hm]at this;exact this
 have XA:Hid (∀U B a k a' k',ZsAt U B (C a N k) met->ZsAt U B (C a' N k') met->ut 35 #[C a N k,C a' N k'] U (Ah true)):=qd λU B a k a' k' z1 z2=>qe8 met _ _ _ _ U z1 z2 h8.1
 have WZ:Hid (∀U B a k a' k',ZsAt U B (C a D k) drp->ZsAt U B (C a' D k') drp->ut 35 #[C a D k,C a' D k'] U (Ah true)):=qd λU B a k a' k' z1 z2=>qe8 drp _ _ _ _ U z1 z2 h8.2
 have H8:=qd (And.intro h8 hn);have HB:=qd sI;unfold oxV ptV;simp only;rw[U6];have m0:=um m;have m8:(m:Int)<=(m:Int)+8:=ub;have m8':m<=m+8:=ub;clear DS DQ h hi hx sD eF hg KU hp psz plo h8 hA lN tO hE U6 hm sI sH DJ hN hD hl hn;subst hV;go_enter func18,ntmps18
 go_upto_region 15 with(go_at_call 20;refine be EVT ?_;rintro w1⟨C7,A0⟩;have G3:=qd C7;have D6:=qd A0;obtain⟨o1,l1,d1,y1⟩:=q9 OPV _ A0;have z1:W.1.size+1<w1.1.size:=C7.lt;clear C7 A0)
 go_cut [18,19,20] (λs18 s19 s20 wx=>∃f k1 d b,s18=C f N k1/\s19=C d D b/\s20=I J E/\Hid (MID f k1 d b wx))
 case first=>
  have PB1:Hid (∀U,Xb w1 U->ua 46 #[Ag (G ⟨p.bb,0,O⟩),I J id,C (G ⟨W.1.size+1,0,O⟩) m (m+8)] U λe r=>∃f k1 d b,e=Ak (Aj #[C f N k1,C d D b,I J E])/\MID f k1 d b r):=qd λU H=>q9 PUB U (D6.trans (H.mono D6.size)) (G3.below H)
  clear PUB EVT OPV mF STL XA WZ H8
  go_region_held3 (λX=>(∀i,X.cell? ⟨W.1.size,i,O⟩=(#[I J 8,I J Q,I J id,Y (BS text),C Z n S,C o m j]:Array Ap)[i]?)/\Xc X p.pb 0 (Ag (G ⟨p.bb,0,O⟩))) (first|exact⟨o1,d1⟩|with_reducible assumption|go_keep) ((go_at_call 46;refine(PB1 _ (by first|exact uj|exact(uj).drew)).mono ?_;rintro e w2⟨f,k1,d,b,rfl,hM⟩;have P:=qd hM;obtain⟨⟨GL,l2,mY,hS4⟩,_⟩:=(R7 _ _ _ _ _).1 hM;have sJ:=And.intro GL mY;clear hM))
  all_goals
   go_wp2
   go_meet
   exact⟨_,_,_,_,rfl,rfl,rfl,P⟩
 obtain⟨f,k1,d,b,rfl,rfl,rfl,P⟩:=hcut;obtain⟨⟨o2,l2,d2,d3⟩,hR⟩:=(R7 _ _ _ _ _).1 P;have RP:=qd hR;clear hR P R7 o1 d1 y1 z1 l1 G3 D6 PUB EVT OPV HB c0
 go_upto_region 16 with(fail)
 go_cut [21,22,23] (λs21 s22 s23 wx=>∃y t u s,s21=C y N t/\s22=C u D s/\s23=I J E/\Hid (FIN f k1 d b y t u s wx))
 case first=>
  clear STL XA WZ H8
  go_region_held3 (λX=>(∀i,X.cell? ⟨W.1.size,i,O⟩=(#[I J 8,I J Q,I J id,Y (BS text),C Z n S,C o m j]:Array Ap)[i]?)/\Xc X p.pb 1 (Ag (G ⟨p.mb,0,O⟩))) (first|exact⟨o2,d3⟩|with_reducible assumption|go_keep) ((go_at_call 47;refine(RP _ (by first|exact uj|exact(uj).drew)).mono ?_;rintro e w3⟨y,t,u,s,rfl,hM⟩;have P:=qd hM;obtain⟨GL,l3,mY,_⟩:=(mF _ _ _ _ _ _ _ _ _).1 hM;have sJ:=And.intro GL mY;clear hM))
  all_goals
   go_wp2
   go_meet
   exact⟨_,_,_,_,rfl,rfl,rfl,P⟩
 obtain⟨y,t,u,s,rfl,rfl,rfl,P⟩:=hcut;obtain⟨o3,l3,_,oL,z,hP3,rZ⟩:=(mF _ _ _ _ _ _ _ _ _).1 P;have EV3:=qd oL;have B3:=qd hP3;have HP':=qd rZ;obtain⟨⟨h8a,h8b⟩,hn⟩:=q9 H8;have MY:=qd h8a;have HD8:=qd h8b;have HHN:=qd hn;clear oL hP3 rZ P mF o2 l2 d2 d3 RP h8a h8b hn H8
 go_wp2_with(first
  | (go_at_call 31;have _q:=K1;refine be (vc2 K1 rfl HHN HD8) λw8 hf=>?_;have HF:=qd hf;clear hf K1)
  | (go_at_call 31;have _q:=B6;refine be (B6.keep1 rfl HHN MY) λw7 hf=>?_;have K1:=qd hf;clear hf B6)
  | (go_at_call 35;have _q:=B5;refine be (WZ _ _ _ _ _ _ B5.f B5.d) λw6 hb=>?_;have B6:=qd (B5.below hb);clear hb B5)
  | (go_at_call 35;have _q:=B4;refine be (XA _ _ _ _ _ _ B4.m B4.c) λw5 hb=>?_;have B5:=qd (B4.below hb);clear hb B4)
  | (go_at_call 23;refine be (STL _ EV3) λw4 hb=>?_;have B4:=qd (B3.below hb);clear hb B3))
 go_ret;obtain⟨hv',N8,q1,q2⟩:=q9 HF;obtain⟨q3,q4⟩:=q9 HP';exact⟨rfl,z,hv',N8,q1,q3,q4,q2⟩
theorem qrw(h:ApAt w W pv hv hs ps (λ_=>False))(u:ps[i]?=G p)(hx:OxOk W x)(f:x.A=11)(hn:hs.length<=19300000000000):
  ua 17 #[Ag (G ⟨w.1.size,0,O⟩),ptV p,oxV x] W λe W'=>e=Ak (Ah true)/\∃hv' o,ApAt w W' pv hv' o ps (λ_=>False)/\o.length=hs.length+4:=by
 obtain⟨ea,en,ec,C8⟩:=hx.ev.slice;have hp:=h.each p (bg u);have c0:=hp.c0;have plt:=hp.lt;have pne:¬p.pb=W.1.size:=ub;have sX:=h.hr.at'.lt;have E:(p.L.map Su.id).length<=8:=by rw[cd];exact hp.br.rising.2.1
 obtain⟨ids,t⟩:∃l,p.L.map Su.id=l:=⟨_,rfl⟩;obtain⟨n,N⟩:=it ids.length;rw[t]at E;have Z:Hid (∀U,Xb W U->Xc U p.pb 1 (Ag (G ⟨p.mb,0,O⟩))/\W.1.size<=U.1.size/\p.pb<U.1.size):=qd λU b=>⟨((qk b).1 _ _ plt).trans hp.c1,b.size,aq plt b.size⟩
 have L1:Hid (∀U,Xb W U->ua 38 #[Ag (G ⟨p.bb,0,O⟩)] U λe m=>∃a c,e=Ak (C a n c)/\Hid (ZsAt m W.1.size (C a n c) ids)/\Xb U m):=qd λU b=>(qva (h.below b) u).1.mono λe m ⟨v,j,d,r⟩=>by
  rw[t]at d;obtain⟨a,c,s⟩:=d.form;rw[N]at s;subst s;exact⟨a,c,j,qd (zA d b.size),r⟩
 have L2:Hid (∀U,Xb W U->ua 39 #[Ag (G ⟨p.mb,0,O⟩)] U λe m=>∃a c,e=Ak (C a n c)/\Hid (ZsAt m W.1.size (C a n c) ids)/\Xb U m):=qd λU b=>(qva (h.below b) u).2.mono λe m ⟨v,j,d,r⟩=>by
  rw[t]at d;obtain⟨a,c,s⟩:=d.form;rw[N]at s;subst s;exact⟨a,c,j,qd (zA d b.size),r⟩
 have y:Hid (∀(U P:Ao) (v:Ap),ZsAt U W.1.size v ids->Xb U P->ZsAt P W.1.size v ids):=qd λU P v q b=>qE q b ui
 have SM:Hid (∀(U:Ao) (a:Option Addr) (c:Nat) (K:Option Addr) (H:Nat),ZsAt U W.1.size (C a n c) ids->ZsAt U W.1.size (C K n H) ids->ut 35 #[C a n c,C K n H] U (Ah true)):=qd λU a c K H j d=>qe8 ids _ _ _ _ U j d E
 have KE:Hid (∀(U Ad:Ao) (a:Option Addr) (c:Nat),Xb W U->ZsAt U W.1.size (C a n c) ids->Ad=U.alloc (Al #[C a n c,C O 0 0,I J 0] 74)->ua 31 #[Ag (G ⟨w.1.size,0,O⟩),Ag (G ⟨U.1.size,0,O⟩)] Ad λe W'=>e=Ak (Aj #[])/\∃hv' o,ApAt w W' pv hv' o ps (λ_=>False)/\o.length=hs.length+4):=qd λU Ad a c b q hY=>
  (qm6 (X:=λk=>(C a n c).ownBlock=G k) (X':=λ_=>False) (h.aside b λk f=>An ⟨(World.ownsRow.lt q k f).1,(World.ownsRow.lt q k f).2⟩) q sX (λ_ h=>h) (λk f=>f.elim) hY hn ub).mono λe W' ⟨j,hv',o,d,r,_⟩=>⟨j,hv',o,d,r⟩
 have z:=qd ((Below.refl W.1.size W).alloc ui (Al #[I J 11,I J x.n,I J x.id,Y (BS x.Q),C x.la x.ts.length x.lc,C ea en ec] 34));unfold oxV ptV;rw[f,C8];clear h hx f C8 hp u t N E hn;go_enter func17,ntmps17
 go_wp2_with(first
  | (go_at_call 38;refine(L1 _ (by first|exact q9 z|exact z.drew)).mono ?_;rintro e w1⟨a1,k1,rfl,Z1,A0⟩;have A:=qd (show Xb W w1 from qg (by first|exact q9 z|exact z.drew) A0);obtain⟨d1,z1,y1⟩:=q9 Z _ A;clear A0)
  | (go_at_call 39;refine(L2 _ (by first|exact q9 A|exact A.drew)).mono ?_;rintro e w2⟨a2,k2,rfl,Z2,A3⟩;have D:Xb w1 w2:=(by first|exact A3|exact qg uj.drew A3);have B2:=qd (qg A D);have M:=qd (y _ _ _ Z1 D);obtain⟨_,z2,y2⟩:=q9 Z _ B2;clear A3 D)
  | (go_at_call 35;refine be (SM _ _ _ _ _ (by first|exact q9 M|exact q9 y _ _ _ M uj.drew) (by first|exact q9 Z2|exact q9 y _ _ _ Z2 uj.drew)) λw3 S=>?_;have Q:Xb w2 w3:=(by first|exact S|exact qg uj.drew S);have B3:=qd (qg B2 Q);have Z4:=qd (y _ _ _ M Q);obtain⟨_,z3,y3⟩:=q9 Z _ B3;clear S Q)
  | (go_at_call 31;refine be (KE _ _ _ _ B3 Z4 rfl) λw4 hf=>?_;have HF:=qd hf;clear hf))
 go_ret;exact⟨rfl,q9 HF⟩
end
end Go.Proofs.YtdmmmgodfceilaaGreatDoor
