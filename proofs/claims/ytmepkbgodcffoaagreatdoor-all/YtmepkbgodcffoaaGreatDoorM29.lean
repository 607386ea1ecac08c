/- The laws by the docume -/
import Derived.Test.YtmepkbgodcffoaaGreatDoorM30
set_option maxHeartbeats 16000000
set_option maxRecDepth 100000
namespace Go.Proofs.YtmepkbgodcffoaaGreatDoor
open Go.RowKit Go.Proofs.Tryz
open _root_.List renaming length->A
open Go.World renaming setCell->B,ownsRow->ue
open Go.Value renaming ownBlock->ug,bool->Ah,int->I,pointer->Ag,slice->C,string->Y,tuple->Aj
open Bool renaming false->uh,true->ui
open Go.Addr renaming mk->D
open _root_.Array renaming size->Z
open Go renaming Value->Ap,World->Ao
open Go.Ending renaming returned->Ak
open Go.IntKind renaming i64->J
open Go.Obj renaming cells->Al
open Option renaming none->O,some->G
open Or renaming inl->Am,inr->An
variable{last n:Int}{hs:List (Nat×Nat)}{pls:List Pl}{L:List Su}{bb mb:Nat}{F Af:Nat->Prop}{x:Ox}{hv v:Ap}{U W w:Ao}
theorem vck(h:Br w F bb last L):uo 34 #[Ag (G (D bb 0 O))] w λe w'=>e=Ak (I J (A (jF L).1:Nat))/\w'=w:=by
 obtain⟨m,d,tv,rv,l,b,j,o⟩:=h;obtain⟨a,c,e⟩:=jT b.rows.ats;have f:=b.cells.2.2.1
 grind[pP,vcj]
theorem qxw{R:List Ru}(h:RBr w F mb n R)(m:∀x∈R,A x.K<=140737488355328):lz 35 #[Ag (G (D mb 0 O))] w (I J (A (gTs (R.map Ru.K) (A R)).1:Nat)):=by
 obtain⟨_,E,Y,l,o,b,_⟩:=h;have q:R.map Ru.K=l.map Rs.K:=by rw[<-b,mq];rfl
 have f:A R=A l:=by rw[<-b,cf]
 have H:=qd (qht o uq)
 have K:Hid (∀(W:Ao) (v:Ap),TwRow W (Z w.1) v (l.map Rs.K)->∃a c,v=C a (A R) c/\lz 59 #[C a (A R) c] W (I J (A (gTs (R.map Ru.K) (A R)).1:Nat))):=qd λW v hv=>by
  have B:∃a c,v=C a (A R) c:=by
   obtain⟨a,c,e⟩:=py hv;exact⟨a,c,by rw[e,cf,f]⟩
  obtain⟨a,c,e⟩:=B;refine⟨a,c,e, ?_⟩;rw[q]
  exact qcs (vw0 hv (λt d=>by
   obtain⟨y,z,rfl⟩:=eh.1 d
   exact m y.ru (by rw[<-b];exact ld z)) e) (by rw[cf,f]) uq
 clear o b q f E m;go_enter func35,ntmps35
 go_wp2_with(first
  | (go_at_call 68;refine H.mono ?_;rintro e S⟨T,rfl,j,u⟩;obtain⟨a1,c1,rfl,r⟩:=q9 K _ _ j;have T1:=qd r;have Q:=qd u;clear j u r)
  | (go_at_call 59;refine be T1 λw2 s=>?_;have P:=qd (qg Q s);clear s))
 go_ret;exact⟨rfl,q9 P⟩
section
variable {w W:Ao} {pv hv:Ap} {hs:List (Nat×Nat)} {ps:List Pl} {i:Nat} {p:Pl} {X:Nat->Prop}
theorem qtd(h:ApAt w W pv hv hs ps X)(d:ps[i]?=G p):uo 34 #[Ag (G (D p.bb 0 O))] W (λe w'=>e=Ak (I J (A (jF p.L).1:Nat))/\w'=W)/\lz 35 #[Ag (G (D p.mb 0 O))] W (I J (A (jF p.L).1:Nat)):=by
 have hp:=h.each p (bh d);refine⟨vck hp.br, ?_⟩;rw[vtt hp.z]
 exact qxw hp.rb λx a=>by
  obtain⟨_,f,c,_⟩:=hp.z;rw[f]at a;obtain⟨z,b,rfl⟩:=eh.1 a;exact(c z b).tl
theorem qzn(h:ApAt w W pv hv hs ps X)(a:ps[i]?=G p):uo 36 #[Ag (G (D p.bb 0 O))] W (λe w'=>∃v,e=Ak v/\ZsAt w' (Z W.1) v (p.L.map Su.id)/\Xb W w')/\uo 37 #[Ag (G (D p.mb 0 O))] W λe w'=>∃v,e=Ak v/\ZsAt w' (Z W.1) v (p.L.map Su.id)/\Xb W w':=by
 have hp:=h.each p (bh a)
 have e:p.L.map Su.id=p.R.map Ru.id:=by
  obtain⟨c,b,_,_⟩:=hp.z;rw[c,b,mq,mq];rfl
 refine⟨vj3 W p.F p.bb p.last p.L hp.br, ?_⟩;rw[e];exact vdz hp.rb
end
section
variable {w W:Ao} {pv hv:Ap} {hs:List (Nat×Nat)} {ps:List Pl} {i:Nat} {p:Pl} {x:Ox}
theorem qq7(h:ApAt w W pv hv hs ps (λ_=>False))(b:ps[i]?=G p)(d:OxOk W x)(f:x.Q=10):
  uo 15 #[Ag (G ⟨Z w.1,0,O⟩),ptV p,oxV x] W λe W'=>e=Ak (Ah ui)/\ApAt w W' pv hv hs ps (λ_=>False):=by
 obtain⟨y,t,u,q⟩:=d.ev.slice;have hp:=h.each p (bh b);have c0:=hp.c0;have c1:=hp.c1;have plt:=hp.lt;have pne:¬p.pb=Z W.1:=uq;have o:=qd λ(U:Ao) (c:Xb W U)=>(qtd (h.h c) b).1
 have m:Hid (∀U,Xb W U->uo 35 #[Ag (G (D p.mb 0 O))] U λe w'=>e=Ak (I J (A (jF p.L).1:Nat))/\ApAt w w' pv hv hs ps (λ_=>False)):=qd λU c=>(qtd (h.h c) b).2.mono λe w' ⟨s,r⟩=>⟨s,(h.h c).h r⟩
 generalize (A (jF p.L).1)=E at o m;have a:=qd ((Below.refl (Z W.1) W).alloc ux (Al #[I J 10,I J x.n,I J x.id,Y (BS x.K),C x.la (A x.ts) x.lc,C y t u] 34));unfold oxV ptV;rw[f,q];clear h d f q hp b;go_enter func15,ntmps15
 go_wp2_with(first
  | (go_at_call 34;refine be (o _ (by first|exact q9 a|exact a.drew|exact a.drew.drew)) ?_;rintro B rfl)
  | (go_at_call 35;refine be (m _ (by first|exact q9 a|exact a.drew|exact a.drew.drew)) λw2 j=>?_;have z:=qd j;clear j))
 go_ret;exact⟨rfl,q9 z⟩
end
theorem ZsAt.cellz{base:Nat}{l:List Int}(h:ZsAt w base v l):∃a c,v=C a (A l) c/\∀k x,l[k]?=G x->∃g,a=G (D g 0 O)/\g<Z w.1/\w.cell? (D g k O)=G (I J x):=by
 have d:=h;obtain⟨rfl,j⟩|⟨g,cap,cur,rfl,m,e,_⟩:=h.2
 grind
 refine⟨_,cap,rfl,λk x b=>⟨g,rfl,(ch.1 e).1, ?_⟩⟩;have f:=(aj.1 b).1;rw[World.ownsRow.cellAt d k uq,qvn,cj,b];rfl
theorem qgm(l:List Int)(d c:Ap)(y bb:Nat)(w:Ao)(q:ZsAt w y d l)(o:ZsAt w bb c l)(t:A l<=8):
  lz 33 #[d,c] w (Ah ui):=by
 obtain⟨O,H,rfl,s⟩:=q.cellz;obtain⟨K,E,rfl,r⟩:=o.cellz;have C:=qd s;have B:=qd r;obtain⟨n,f⟩:=ie (A l);rw[f]at t |-;have z:=qd f;go_enter func33,ntmps33
 go_wp2
 go_loopw [5] (λi wr=>∃k:Nat,k<=n/\i=I J k/\Hid (Xb w wr)) (λi _=>n - (intOf i).toNat)
 exact⟨0,bt _,rfl,qd uy⟩;obtain⟨k,D,rfl,b⟩:=hrel
 by_cases A1:k<n
 .obtain⟨x,hx⟩:∃x,l[k]?=G x:=⟨_,ag (md (q9 z))⟩
  obtain⟨g,rfl,glt,e⟩:=q9 C k x hx;obtain⟨u,rfl,glt',j⟩:=q9 B k x hx;obtain⟨a,m⟩:=qi b;replace e:=(a g k glt).trans e;rw[<-a u k glt']at j;clear a m hx
  go_wp2
  go_quiet (fail)
  go_wp2
  exact⟨⟨k+1,uq,rfl,qd (eg b _)⟩,by simp[intOf];omega⟩
 have:k=n:=uq;subst this
 go_wp2
 go_ret;exact⟨rfl,q9 b⟩
section
variable {w W W1 Ad:Ao} {pv hv v:Ap} {hs:List (Nat×Nat)} {ps:List Pl} {i uc:Nat} {p:Pl} {x:Ox} {X X':Nat->Prop} {l:List Int}
theorem ApAt.aside(h:ApAt w W pv hv hs ps X)(b:Xb W W1)(d:∀k,X' k->X k\/(Z W.1<=k/\k<Z W1.1)):ApAt w W1 pv hv hs ps X':=by
 have f:=h.hr.at'.lt;refine⟨h.hr.grow (Grow.x b) (λk a=>(h.rlo k a).1) λk a=>?_,qp h.row b ux,λp hp=>(h.each p hp).same (λk a=>b.block k ((h.each p hp).sz k a)) b.size,h.apart,h.pn,λk a e=>?_,λk a=>?_⟩
 grind
 grind[ApAt.rlo,ApAt]
 obtain c|c:=d k a;exact⟨(h.xl k c).1,au (h.xl k c).2 b.size⟩;exact⟨uq,c.2⟩
theorem qq5(h:ApAt w W pv hv hs ps X)(o:ZsAt W uc v l)(z:Z w.1<uc)(j:∀k,ug v=G k->X k)(b:∀k,X' k->X k/\ug v≠G k)(s:Ad=W.alloc (Al #[v,C O 0 0,I J 0] 74))(q:A hs<=19300000000000)(r:A l<=100000000):
  uo 29 #[Ag (G ⟨Z w.1,0,O⟩),Ag (G ⟨Z W.1,0,O⟩)] Ad λe W'=>e=Ak (Aj #[])/\∃hv' c,ApAt w W' pv hv' c ps X'/\A c=A hs+4/\(∀k,X' k->W'.1[k]?=W.1[k]?)/\Z W.1<=Z W'.1:=by
 have m:∀k,ApR pv ps k\/X' k->ApR pv ps k\/X k:=λk a=>a.imp_right λe=>(b k e).1
 refine(qub (R':=λk=>ApR pv ps k\/X' k) (bn:=0) (bv:=C O 0 0) h.hr m (λk a=>(h.rlo k (m k a)).2) (j9 o uq) (dw _ _ _ _) (λk a=>?_) s q r (bt _)).mono λe W' ⟨y,hv',c,u,t,f,d⟩=>⟨y,hv',c,⟨u,vo h.row λk a=>f k (Am (Am a)),λp hp=>(h.each p hp).same (λk a=>f k (Am (An ⟨p,hp,a⟩))) d,h.apart,h.pn,λk a=>h.xn k (b k a).1,λk a=>⟨(h.xl k (b k a).1).1,au (h.xl k (b k a).1).2 d⟩⟩,t,λk a=>f k (An a),d⟩
 obtain a|a:=a;exact⟨An (j k a),λe=>e.elim (h.xn k (j k a)) λe=>(b k e).2 a⟩;simp[Value.ownBlock]at a
end
section
variable {w W W5:Ao} {pv pv' hv:Ap} {hs:List (Nat×Nat)} {ps:List Pl} {p:Pl} {R R':Nat->Prop} {g cap:Nat} {ua:TypeId} {x:Ap}
theorem HsR.players(h:HsR pv w R W hv hs)(o:∀k,ug pv=G k->R k)(m:RoAt (Z w.1+1) ua W W5 pv g x)(u:∀k,R' k->R k\/Z W.1<=k):HsR pv' w R' (B W5 ⟨Z w.1,0,O⟩ pv') hv hs:=by
 have H:=h.at'.lt;have C:=m.size;obtain⟨X,f⟩:=il (B W5 ⟨Z w.1,0,O⟩ pv':Ao);rw[<-f];have A:∀b,b≠Z w.1->X.1[b]?=W5.1[b]?:=λb d=>by grind[Below.heap_setCell]
 have q:∀b,b<Z W.1->b≠Z w.1->¬R b->X.1[b]?=W.1[b]?:=λb d E D=>(A b E).trans (m.block b d λe=>D (o b e))
 have r:W5.1[Z w.1]?=W.1[Z w.1]?:=m.block _ H λe=>h.hf _ (An rfl) (o _ e)
 have z:∀i,W5.cell? ⟨Z w.1,i,O⟩=W.cell? ⟨Z w.1,i,O⟩:=λi=>bg (w:=W) (a:=⟨Z w.1,i,O⟩) r
 have t:∀y∈hs,HdAt (λk=>(Z w.1<k/\ug hv≠G k)/\¬R' k) X y.1 y.2:=λy j=>(h.each y j).keep (λb d s=>q b s (md d.1.1) d.2) λb d s=>⟨d.1,λe=>(u b e).elim d.2 λe=>uq⟩
 refine⟨⟨?_,by rw[f,mw];omega, ?_, ?_,λi=>?_,vo h.at'.row λk c=>q k (h.at'.row.lt k c).2 (md ((h.at'.row.lt k c).1)) (h.hf k (Am c)),λy j=>⟨(t y j).keep (λ_ _ _=>rfl) (λ_ h _=>h.1),(h.at'.each y j).2⟩⟩,t,λk c e=>?_⟩;rw[f];exact Below.setCell (h.at'.bel.trans (m.bel.mono uq)) ux _
 .rw[f];simp[go_sem,z,h.at'.c0]
 .rw[f];simp[go_sem,z,h.at'.c1]
 .rw[f];simp[go_sem,(cn (w:=W) (a:=⟨Z w.1,i,O⟩) r).trans (h.at'.fz i)]
 obtain e|e:=u k e;exact h.hf k c e;obtain c|c:=c;have:=(h.at'.row.lt k c).2;omega;omega
theorem ApAt.more(h:ApAt w W pv hv hs ps p.own)(hp:PlAt (Z w.1) W p)(t:ue W5 (Z w.1+1) 38 1 (C (G (D g 0 O)) (A ps+1) cap) (A ps+1) (ps.map ptV++[ptV p]))(m:RoAt (Z w.1+1) ua W W5 pv g x):
  ApAt w (B W5 ⟨Z w.1,0,O⟩ (C (G (D g 0 O)) (A ps+1) cap)) (C (G (D g 0 O)) (A ps+1) cap) hv hs (ps++[p]) (λ_=>False):=by
 have K:=m.size;have J6:Z w.1+1<=g:=(t.lt g rfl).1;have OG:∀k,ug (C (G (D g 0 O)) (A ps+1) cap)=G k->g=k:=λk d=>by simpa [Value.ownBlock]using d
 have J:∀b,b<Z W.1->Z w.1<b->ug pv≠G b->(B W5 ⟨Z w.1,0,O⟩ (C (G (D g 0 O)) (A ps+1) cap)).1[b]?=W.1[b]?:=λb Q h1 S=>(bi _ ⟨Z w.1,0,O⟩ _ b (by grind)).trans (m.block b Q S)
 have I:Z W.1<=(B W5 ⟨Z w.1,0,O⟩ (C (G (D g 0 O)) (A ps+1) cap)).1.size:=by rw[mw];omega
 have P:∀k,p.own k->ug pv≠G k:=λk d e=>h.xn k d (Am e)
 have o:∀q∈ps++[p],(∀k,q.own k->ug pv≠G k)/\PlAt (Z w.1) W q:=λq hq=>by
  obtain hq|hq:=cr.1 hq
  grind[ApAt]
  grind
 refine⟨h.hr.players (λk d=>Am (Am d)) m λk d=>?_, ?_,λq hq=>(o q hq).2.same (λk d=>J k ((o q hq).2.sz k d) ((o q hq).2.lo k d) ((o q hq).1 k d)) I,λa c y z bM r f k=>?_,λq hq k d e=>?_,λk d=>d.elim,λk d=>d.elim⟩;obtain (d|⟨q,hq,d⟩)|d:=d;obtain rfl:=OG k d;obtain e|e:=m.at';exact Am (Am (Am e));exact An uq;obtain hq|hq:=cr.1 hq;exact Am (Am (An ⟨q,hq,d⟩))
 grind
 exact d.elim
 grind[vo,Below.heap_setCell]
 have E:∀(j:Nat) (u:Pl),(ps++[p])[j]?=G u->ps[j]?=G u\/(j=A ps/\u=p):=λj u s=>by
  rw[List.getElem?_append]at s
  split at s
  exact Am s
  grind
 intro d e;obtain r|⟨ea,T⟩:=E a y r;obtain f|⟨Y,H⟩:=E c z f
 grind[ApAt]
 rw[H]at e;exact h.xn k e (An ⟨y,bh r,d⟩);obtain f|⟨Y,H⟩:=E c z f;rw[T]at d;exact h.xn k d (An ⟨z,bh f,e⟩);omega
 grind[PlAt.sz,RoAt]
end
section
attribute [local go_sem ↓] vr
theorem vqy:(prog.info? 38).map (λi=>(i.zero,i.size,i.bytes))=G (G (Ag O),1,8):=uw
theorem vsp(h:U.1[mb]?=G (Al #[C O 0 0,I J 0] 42 (0,0))):RBr U (λk=>k=mb) mb 0 []:=by
 refine⟨λk b=>by grind,bt _,C O 0 0,[],⟨h,dw _ _ _ _,λx a=>by simp at a,List.Pairwise.nil⟩,rfl,λk b=>?_⟩;obtain e|e|⟨x,a,_⟩:=b;exact e;simp[Value.ownBlock]at e;simp at a
theorem vvd{b a:Nat}(r:Br U (λk=>k=bb) bb 0 [])(m:U.1[mb]?=G (Al #[C O 0 0,I J 0] 42 (0,0)))(t:Xc U a 0 (Ag (G (D bb 0 O))))(s:Xc U a 1 (Ag (G (D mb 0 O))))(o:a<Z U.1)(f:a≠bb)(d:a≠mb)(c:bb≠mb)(E:b<a)(B:b<bb)(A:b<mb):PlAt b U ⟨a,bb,mb,λk=>k=bb,λk=>k=mb,0,[],[],[]⟩:=
 ⟨t,s,o,r,λx j=>by simp at j,vsp m,⟨rfl,rfl,λz h=>by simp at h,List.Pairwise.nil⟩,Int.le_refl _,f,d,λk y u=>c (y.symm.trans u),λk q=>by
  obtain e|e|e:=q
  .grind
  .grind
  .have e:k=mb:=e
   omega⟩
theorem qem{pv:Ap}{ps:List Pl}(h:ApAt w W pv hv hs ps (λ_=>False))(hn:A ps<=10000000000000):
  uo 6 #[Ag (G ⟨Z w.1,0,O⟩)] W λe W'=>e=Ak (Ah ui)/\∃pv' p,ApAt w W' pv' hv hs (ps++[p]) (λ_=>False)/\p.last=0:=by
 have c0:=h.hr.at'.c0;have wlt:=h.hr.at'.lt;obtain⟨pa,pc,K⟩:=jT h.row;obtain⟨V,m⟩:=il ((W.alloc (Al #[I J 0,C O 0 0,C O 0 0,C O 0 0] 54)).alloc (Al #[C O 0 0,I J 0] 42):Ao);have E:Z V.1=Z W.1+1+1:=by rw[m,mh,mh]
 obtain⟨U,o⟩:=il (V.alloc (Al #[Ag (G ⟨Z W.1,0,O⟩),Ag (G ⟨Z W.1+1,0,O⟩)] 44):Ao);have t:Z U.1=Z W.1+1+1+1:=by rw[o,mh,E]
 have c:Below (Z V.1) V U:=by rw[o];exact(uy).alloc ux _
 have s:Below (Z (W.alloc (Al #[I J 0,C O 0 0,C O 0 0,C O 0 0] 54)).1) (W.alloc (Al #[I J 0,C O 0 0,C O 0 0,C O 0 0] 54)) V:=by rw[m];exact(uy).alloc ux _
 have H:=qg s c;have T:Below (Z W.1) W U:=qg ((Below.refl (Z W.1) W).alloc ux (Al #[I J 0,C O 0 0,C O 0 0,C O 0 0] 54)) H
 have Q:U.1[Z W.1+1]?=G (Al #[C O 0 0,I J 0] 42 (0,0)):=by
  refine(c.block (Z W.1+1) uq).trans ?_;rw[m];have:=heap_alloc_new (W.alloc (Al #[I J 0,C O 0 0,C O 0 0,C O 0 0] 54)) (Al #[C O 0 0,I J 0] 42);rwa[mh]at this
 have hq:∀j,U.cell? ⟨Z W.1+1+1,j,O⟩=[Ag (G ⟨Z W.1,0,O⟩),Ag (G ⟨Z W.1+1,0,O⟩)][j]?:=λj=>by
  rw[o,<-E]
  match j with
  | 0=>simp
  | 1=>simp
  | j+2=>simp
 obtain⟨p,q⟩:∃p:Pl,p=⟨Z W.1+1+1,Z W.1,Z W.1+1,λk=>k=Z W.1,λk=>k=Z W.1+1,0,[],[],[]⟩:=⟨_,rfl⟩
 have B7:∀k,p.own k->Z W.1<=k/\k<Z U.1:=λk f=>by
  rw[q]at f;obtain e|e|e:=f;have e:k=Z W.1+1+1:=e;omega;have e:k=Z W.1:=e;omega;have e:k=Z W.1+1:=e;omega
 have hp:PlAt (Z w.1) U p:=by
  rw[q];refine vvd ((vin W).br.h H) Q (hq 0) (hq 1) uq uq uq uq uq uq uq
 have d:ApAt w U pv hv hs ps p.own:=h.aside T λk f=>An (B7 k f)
 have b:ptV p=Ag (G ⟨Z W.1+1+1,0,O⟩):=by rw[q];rfl
 obtain⟨i0,S,F5,B9,D8⟩:=info_parts vqy;obtain⟨g,cap,r,y,HR,HO⟩:=qv4 (ua:=27) underlying27 S F5 B9 D8 rfl (W:=U) d.row uq (x:=ptV p) (by rw[b];rfl) uq uq (Z W.1+1+1+1) t;have B:=q9 HO;have u:Xc U (Z w.1) 0 pv:=d.hr.at'.c0;have z:r.1[Z w.1]?=U.1[Z w.1]?:=B.block _ uq λe=>md ((d.row.lt _ e).1)
 have P:Xc r (Z w.1) 0 pv:=(bg (w:=U) (a:=⟨Z w.1,0,O⟩) z).trans u;have z5:Xf r (Z w.1):=λi=>(cn (w:=U) (a:=⟨Z w.1,i,O⟩) z).trans (d.hr.at'.fz i)
 have HF:=qd (d.more hp HR B);have HL:Hid (p.last=0):=qd (by rw[q]);rw[b]at y;rw[o,m]at y;rw[K]at y P c0;go_enter func6,ntmps6
 go_wp2_with(refine be (vru _) ?_;rintro w1 rfl)
 go_ret;exact⟨rfl,_,p,q9 HF,q9 HL⟩
end
theorem vj8(w:Ao):lz 4 #[] w (Ah ui):=by
 have c:Hid (uo 6 #[Ag (G ⟨Z w.1,0,O⟩)] (w.alloc (Al #[C O 0 0,C O 0 0] 30)) λe W'=>e=Ak (Ah ui)/\Xb w W'):=qd ((qem (ApAt.start w) (bt _)).mono λe W' ⟨b,_,_,a,_⟩=>⟨b,a.hr.at'.bel⟩);go_enter func4,ntmps4
 go_wp2_with(refine be c λw2 d=>?_)
 go_ret;exact⟨rfl,d⟩
theorem qs2{a:Ao}{p:Pl}(b:∀k,p.own k->k<Z W.1){o:Obj}(d:U.1=(W.alloc o).1)(c:Grow p.own U a):Z W.1<Z a.1/\∀j,a.cell? ⟨Z W.1,j,O⟩=(W.alloc o).cell? ⟨Z W.1,j,O⟩:=by
 grind[World.cell?_of_block,World.alloc,Grow]
section
variable {w W:Ao} {pv hv:Ap} {hs:List (Nat×Nat)} {ps:List Pl} {i:Nat} {p:Pl} {x:Ox}
theorem qzh(h:ApAt w W pv hv hs ps (λ_=>False))(j:ps[i]?=G p)(f:OxOk W x)(u:LibOk W)(s:x.Q=6):
  uo 16 #[Ag (G ⟨Z w.1,0,O⟩),ptV p,oxV x] W λe W'=>e=Ak (Ah ui)/\AfPl w pv hv hs ps i p.last W':=by
 obtain⟨B,y,z,A7⟩:=f.ev.slice;have hp:=h.each p (bh j);have c0:=hp.c0;have plt:=hp.lt;have pne:¬p.pb=Z W.1:=uq;have d:=qd λ(U:Ao) (hb:Xb W U)=>vu8 (h.h hb) j (u.h hb ux) x.id x.K f.K
 have Q:=qd λ(U c:Ao) (hg:Grow p.own U c) (hU:U.1=(W.alloc (Al #[I J 6,I J x.n,I J x.id,Y (BS x.K),C x.la (A x.ts) x.lc,C B y z] 34)).1)=>qs2 hp.sz hU hg
 generalize (qgy p.L x.id x.K).2.1=E at d;generalize (qgy p.L x.id x.K).2.2=P at d;have o:=qd ((Below.refl (Z W.1) W).alloc ux (Al #[I J 6,I J x.n,I J x.id,Y (BS x.K),C x.la (A x.ts) x.lc,C B y z] 34));unfold oxV ptV;rw[s,A7];clear h f u s A7 hp j;go_enter func16,ntmps16
 go_wp2
 go_cut [7,8] (λs7 s8 a=>s7=I J E/\s8=I J P/\Hid ((Z W.1<Z a.1/\Xc a (Z W.1) 2 (I J x.id)/\Xc a (Z W.1) 3 (Y (BS x.K))/\Xc a p.pb 1 (Ag (G (D p.mb 0 O))))/\∀V,Xb a V->uo 39 #[Ag (G (D p.mb 0 O)),I J x.id,Y (BS x.K)] V λe W2=>e=Ak (Aj #[I J E,I J P])/\AfPl w pv hv hs ps i p.last W2))
 case first=>
  go_region_with(go_at_call 38;refine be (d _ (by first|exact q9 o|exact o.drew)) ?_;rintro c⟨S,H,b⟩;have m:=qd b;obtain⟨r,q⟩:=q9 Q _ _ S rfl;have b2:Xc c (Z W.1) 2 (I J x.id):=(q 2).trans ur;have K:Xc c (Z W.1) 3 (Y (BS x.K)):=(q 3).trans ur;clear S b q)
  all_goals
   go_wp2
   go_meet
   exact⟨rfl,rfl,qd ⟨⟨r,b2,K,H⟩,q9 m⟩⟩
 obtain⟨rfl,rfl,T⟩:=hcut;obtain⟨⟨r,b2,K,H⟩,b⟩:=q9 T;have m:=qd b;clear b T d Q o c0
 go_wp2
 go_region_with(go_at_call 39;refine be (m _ (by first|exact uy|exact(uy).drew)) λw2 t=>?_;have HF:=qd t;clear t)
 all_goals
  go_wp2
  go_ret;exact⟨rfl,q9 HF⟩
theorem qq2(h:ApAt w W pv hv hs ps (λ_=>False))(f:ps[i]?=G p)(s:OxOk W x)(t:x.Q=7):
  uo 16 #[Ag (G ⟨Z w.1,0,O⟩),ptV p,oxV x] W λe W'=>e=Ak (Ah ui)/\AfPl w pv hv hs ps i p.last W':=by
 obtain⟨B,y,z,T⟩:=s.ev.slice;have hp:=h.each p (bh f);have c0:=hp.c0;have plt:=hp.lt;have pne:¬p.pb=Z W.1:=uq;have j:=qd λ(U:Ao) (hb:Xb W U)=>vh0 (h.h hb) f x.id
 have P:=qd λ(U c:Ao) (hg:Grow p.own U c) (hU:U.1=(W.alloc (Al #[I J 7,I J x.n,I J x.id,Y (BS x.K),C x.la (A x.ts) x.lc,C B y z] 34)).1)=>qs2 hp.sz hU hg
 generalize (yZ p.L x.id).2=E at j;have o:=qd ((Below.refl (Z W.1) W).alloc ux (Al #[I J 7,I J x.n,I J x.id,Y (BS x.K),C x.la (A x.ts) x.lc,C B y z] 34));unfold oxV ptV;rw[t,T];clear h s t T hp f;go_enter func16,ntmps16
 go_wp2
 go_cut [11] (λd a=>d=I J E/\Hid ((Z W.1<Z a.1/\Xc a (Z W.1) 2 (I J x.id)/\Xc a (Z W.1) 3 (Y (BS x.K))/\Xc a p.pb 1 (Ag (G (D p.mb 0 O))))/\∀V,Xb a V->uo 41 #[Ag (G (D p.mb 0 O)),I J x.id] V λe W2=>e=Ak (I J E)/\AfPl w pv hv hs ps i p.last W2))
 case first=>
  go_region_with(go_at_call 40;refine be (j _ (by first|exact q9 o|exact o.drew)) ?_;rintro c⟨Q,H,b⟩;have m:=qd b;obtain⟨r,q⟩:=q9 P _ _ Q rfl;have b2:Xc c (Z W.1) 2 (I J x.id):=(q 2).trans ur;have K:Xc c (Z W.1) 3 (Y (BS x.K)):=(q 3).trans ur;clear Q b q)
  all_goals
   go_wp2
   go_meet
   exact⟨rfl,qd ⟨⟨r,b2,K,H⟩,q9 m⟩⟩
 obtain⟨rfl,S⟩:=hcut;obtain⟨⟨r,b2,K,H⟩,b⟩:=q9 S;have m:=qd b;clear b S j P o c0
 go_wp2
 go_region_with(go_at_call 41;refine be (m _ (by first|exact uy|exact(uy).drew)) λw2 u=>?_;have HF:=qd u;clear u)
 all_goals
  go_wp2
  go_ret;exact⟨rfl,q9 HF⟩
theorem qvq(h:ApAt w W pv hv hs ps (λ_=>False))(m:ps[i]?=G p)(t:OxOk W x)(u:x.Q=9):
  uo 16 #[Ag (G ⟨Z w.1,0,O⟩),ptV p,oxV x] W λe W'=>e=Ak (Ah ui)/\AfPl w pv hv hs ps i p.last W':=by
 obtain⟨H,z,B,A7⟩:=t.ev.slice;have hp:=h.each p (bh m);have c0:=hp.c0;have plt:=hp.lt;have pne:¬p.pb=Z W.1:=uq;have d:=qd λ(U:Ao) (hb:Xb W U)=>vpy (h.h hb) m x.id
 have S:=qd λ(U c:Ao) (hg:Grow p.own U c) (hU:U.1=(W.alloc (Al #[I J 9,I J x.n,I J x.id,Y (BS x.K),C x.la (A x.ts) x.lc,C H z B] 34)).1)=>qs2 hp.sz hU hg
 generalize (kG p.L x.id).2.1=E at d;generalize (kG p.L x.id).2.2=P at d;have q:=qd ((Below.refl (Z W.1) W).alloc ux (Al #[I J 9,I J x.n,I J x.id,Y (BS x.K),C x.la (A x.ts) x.lc,C H z B] 34));unfold oxV ptV;rw[u,A7];clear h t u A7 hp m;go_enter func16,ntmps16
 go_wp2
 go_cut [13,14] (λj f a=>j=I J E/\f=I J P/\Hid ((Z W.1<Z a.1/\Xc a (Z W.1) 2 (I J x.id)/\Xc a (Z W.1) 3 (Y (BS x.K))/\Xc a p.pb 1 (Ag (G (D p.mb 0 O))))/\∀V,Xb a V->uo 43 #[Ag (G (D p.mb 0 O)),I J x.id] V λe W2=>e=Ak (Aj #[I J E,I J P])/\AfPl w pv hv hs ps i p.last W2))
 case first=>
  go_region_with(go_at_call 42;refine be (d _ (by first|exact q9 q|exact q.drew)) ?_;rintro c⟨T,K,b⟩;have o:=qd b;obtain⟨s,r⟩:=q9 S _ _ T rfl;have b2:Xc c (Z W.1) 2 (I J x.id):=(r 2).trans ur;have Q:Xc c (Z W.1) 3 (Y (BS x.K)):=(r 3).trans ur;clear T b r)
  all_goals
   go_wp2
   go_meet
   exact⟨rfl,rfl,qd ⟨⟨s,b2,Q,K⟩,q9 o⟩⟩
 obtain⟨rfl,rfl,HC⟩:=hcut;obtain⟨⟨s,b2,Q,K⟩,b⟩:=q9 HC;have o:=qd b;clear b HC d S q c0
 go_wp2
 go_region_with(go_at_call 43;refine be (o _ (by first|exact uy|exact(uy).drew)) λw2 y=>?_;have HF:=qd y;clear y)
 all_goals
  go_wp2
  go_ret;exact⟨rfl,q9 HF⟩
end
theorem qxh{pri:Int}{ps:List Pr}(h:A L<=8):A (qc1 L last pri ps).1.2.1<=8/\A (qc1 L last pri ps).1.2.2<=8:=by
 unfold qc1
 split
 have b:=qfa ps L;have a:=qhi ⟨pri,last+1⟩ L (qpu ps L) (A (qpu ps L));have e:qav ⟨pri,last+1⟩ L (qpu ps L) (A (qpu ps L))=vgn ⟨pri,last+1⟩ L (qpu ps L):=by unfold qav vgn;rw[ig]
 rw[e]at a;exact⟨bu a.1 uq,bu a.2 uq⟩
 grind
structure PbAt(w:Ao)(pv hv:Ap)(hs:List (Nat×Nat))(ps:List Pl)(mv fv cv dv:Ap)(met drp:List Int)(W:Ao):Prop where
 ap:ApAt w W pv hv hs ps (λk=>ug mv=G k\/ug fv=G k)
 m:ZsAt W (w.1.size+1) mv met
 f:ZsAt W (w.1.size+1) fv drp
 c:ZsAt W (w.1.size+1) cv met
 d:ZsAt W (w.1.size+1) dv drp
 ne:∀k,ug fv=G k->ug mv≠G k
section
variable {w W W1 Ad:Ao} {pv hv mv fv cv dv:Ap} {hs:List (Nat×Nat)} {ps:List Pl} {met drp:List Int} {i:Nat} {p:Pl}
theorem PbAt.h(h:PbAt w pv hv hs ps mv fv cv dv met drp W)(a:Xb W W1):PbAt w pv hv hs ps mv fv cv dv met drp W1:=
 ⟨h.ap.h a,qp h.m a ux,qp h.f a ux,qp h.c a ux,qp h.d a ux,h.ne⟩
theorem PbAt.keep1(h:PbAt w pv hv hs ps mv fv cv dv met drp W)(c:Ad=W.alloc (Al #[mv,C O 0 0,I J 0] 74))(o:A hs<=19200000000000)(q:A met<=8):
  uo 29 #[Ag (G ⟨Z w.1,0,O⟩),Ag (G ⟨Z W.1,0,O⟩)] Ad λe W'=>e=Ak (Aj #[])/\∃hv' b,ApAt w W' pv hv' b ps (λk=>ug fv=G k)/\A b=A hs+4/\ZsAt W' (Z w.1+1) fv drp:=
 (qq5 (X':=λk=>ug fv=G k) h.ap h.m (du _) (λ_ a=>Am a) (λk a=>⟨An a,h.ne k a⟩) c uq uq).mono λe W' ⟨m,hv',b,j,f,d,_⟩=>⟨m,hv',b,j,f,qm h.f d⟩
theorem vgz(h:∃hv' a,ApAt w W pv hv' a ps (λk=>ug fv=G k)/\A a=A hs+4/\ZsAt W (Z w.1+1) fv drp)(c:Ad=W.alloc (Al #[fv,C O 0 0,I J 0] 74))(q:A hs<=19200000000000)(r:A drp<=8):
  uo 29 #[Ag (G ⟨Z w.1,0,O⟩),Ag (G ⟨Z W.1,0,O⟩)] Ad λe W'=>e=Ak (Aj #[])/\∃hv' a,ApAt w W' pv hv' a ps (λ_=>False)/\A a=A hs+8:=by
 obtain⟨o,u,m,t,j⟩:=h;exact(qq5 (X':=λ_=>False) m j (du _) (λ_ b=>b) (λk b=>b.elim) c uq uq).mono λe W' ⟨f,hv',a,d,s,_⟩=>⟨f,hv',a,d,uq⟩
theorem PlAt.grow1(a:Grow p.F W W1):Grow p.own W W1:=⟨a.os,a.tape,a.output,a.size,λk c b=>a.block k c λe=>b (An (Am e))⟩
theorem Grow.two(b:Grow F W W1)(a:Grow Af W1 U):Grow (λk=>F k\/Af k) W U:=by grind[Grow]
theorem Grow.wide(h:Grow F W W1)(c:∀k,F k->Af k):Grow Af W W1:=⟨h.os,h.tape,h.output,h.size,λk b a=>h.block k b λe=>a (c k e)⟩
theorem vu7(h:ApAt w W pv hv hs ps (λ_=>False))(hi:ps[i]?=G p)(pri:Int)(hl:p.last<4611686018427387904){es:List Pr}{ev c:Ap}(C:EvGood es)(h1:∀U,Grow p.own W U->EvIn U ev es)(h2:∀U,Grow p.own W U->EvIn U c es):
  uo 44 #[Ag (G (D p.bb 0 O)),I J pri,ev] W λe W1=>∃mv fv,e=Ak (Aj #[mv,fv,I J (qc1 p.L p.last pri es).2.2])/\ZsAt W1 (w.1.size+1) mv (qc1 p.L p.last pri es).1.2.1/\ZsAt W1 (w.1.size+1) fv (qc1 p.L p.last pri es).1.2.2/\Grow p.own W W1/\Xc W1 p.pb 0 (Ag (G (D p.bb 0 O)))/\Xc W1 p.pb 1 (Ag (G (D p.mb 0 O))) /\
   ∀V,Xb W1 V->uo 45 #[Ag (G (D p.mb 0 O)),I J pri,c] V λe W2=>∃cv dv,e=Ak (Aj #[cv,dv,I J (qc1 p.L p.last pri es).2.2])/\Grow p.own W W2/\Xc W2 p.pb 1 (Ag (G (D p.mb 0 O)))/\∃p',PbAt w pv hv hs (ps.set i p') mv fv cv dv (qc1 p.L p.last pri es).1.2.1 (qc1 p.L p.last pri es).1.2.2 W2/\0<=p'.last/\p'.last<=p.last+1:=by
 have hp:=h.each p (bh hi);obtain⟨e1,e2,Z,m⟩:=vxc hp.z pri es;have BJ:=h.hr.at'.lt
 have t:∀x∈p.R,A x.ms<=6/\A x.K<=140737488355328:=λx j=>by
  obtain⟨_,t,ho,_⟩:=hp.z;rw[t]at j;obtain⟨z,m,rfl⟩:=eh.1 j;exact⟨(ho z m).l6,(ho z m).tl⟩
 have hn:0<=(qc1 p.L p.last pri es).2.1/\(qc1 p.L p.last pri es).2.1<=p.last+1:=by
  have:=hp.l0;unfold qc1
  split
  grind
  grind
 refine vsg W p.F p.bb p.last p.L hp.br pri ⟨hp.l0,hl⟩ es ev (λU H=>h1 U (PlAt.grow1 H)) C _ λW1 mv fv b1 o d f B=>⟨mv,fv,rfl,j9 d uq,j9 f uq,PlAt.grow1 o,(bg (w:=W) (a:=D p.pb 0 O) (o.block _ hp.lt hp.fb)).trans hp.c0,(bg (w:=W) (a:=D p.pb 1 O) (o.block _ hp.lt hp.fb)).trans hp.c1,λV r=>?_⟩
 have P:=o.andB r;have y:=r.size;have EG:=o.size;refine vm1 (hp.mid P) (λx j=>(t x j).1) (λx j=>(t x j).2) ⟨hp.l0,hl⟩ pri (λU H=>h2 U ((P.two H).wide λk b=>b.elim (λe=>An (Am e)) λe=>An (An e))) (λU E=>pR E C) (λU s hs E=>qfx (BS s) hs es c U E C) _ λW2 cv dv b2 K S Q=>?_
 rw[<-e2]at b2 m |-;rw[<-e1]at S Q;obtain⟨a1,a2,a3⟩:=hp.two (b1.h r) (λk b=>b.1.imp_right λe=>⟨e.1,au e.2 y⟩) (vdd hp.good) P b2 K m hn.1;have D8:=K.size;have Y:∀k,W.1.size<=k->k<W1.1.size->W2.1[k]?=W1.1[k]?:=λk T u=>(K.block k uq λe=>md (hp.rb.1 k e)).trans (r.block k u)
 refine⟨cv,dv,rfl,a2,a1.c1,_,⟨h.op (X':=λk=>ug mv=G k\/ug fv=G k) hi a2 a1 rfl a3 (λk b=>An ?_) (λk b e=>?_),j9 (qm d λk b=>Y k (d.lt k b).1 (d.lt k b).2) uq,j9 (qm f λk b=>Y k (f.lt k b).1 (f.lt k b).2) uq,j9 S uq,j9 Q uq,λk T u=>B k u T⟩,hn⟩;have:W.1.size<=k/\k<W1.1.size:=b.elim (d.lt k) (f.lt k);omega;have q:W.1.size<=k/\k<W1.1.size:=b.elim (d.lt k) (f.lt k);obtain e|e|e:=e;have:=hp.lt;have e:k=p.pb:=e;omega;exact b.elim e.2.1 e.2.2;obtain e|e:=e;have:=hp.rb.1 k e;omega;have:V.1.size<=k:=e.1;omega
end
section
variable {w W:Ao} {pv hv:Ap} {hs:List (Nat×Nat)} {ps:List Pl} {i:Nat} {p:Pl} {x:Ox}
theorem Grow.base(a:Xb w W)(b:Grow F W U)(d:∀k,F k->Z w.1<k):Xb w U:=
 ⟨b.os.trans a.os,b.tape.trans a.tape,b.output.trans a.output,bu a.size b.size,λk c=>(b.block k (au c a.size) λe=>md (d k e)).trans (a.block k c)⟩
theorem qzg(h:ApAt w W pv hv hs ps (λ_=>False))(hi:ps[i]?=G p)(hx:OxOk w x)(hk:x.Q=8)(hn:A hs<=19200000000000)(hl:p.last<4611686018427387904):
  uo 16 #[Ag (G ⟨Z w.1,0,O⟩),ptV p,oxV x] W λe W'=>e=Ak (Ah ui)/\∃p' hv' G1,ApAt w W' pv hv' G1 (ps.set i p') (λ_=>False)/\0<=p'.last/\p'.last<=p.last+1/\A G1=A hs+8:=by
 obtain⟨kind,nn,id,text,P,K,ts,ev,es⟩:=x;have hk:kind=8:=hk;subst hk;have wU:=h.hr.at'.bel;have iK:EvIn w ev es:=hx.ev;have hg:EvGood es:=hx.good;have oG:48 * A es<=140737488355328:=hx.el;have hp:=h.each p (bh hi);have c0:=hp.c0;have plt:=hp.lt;have pne:¬p.pb=Z W.1:=uq;have psz:=hp.sz;have plo:∀k,p.own k->Z w.1<k:=hp.lo;have h8:=qxh (last:=p.last) (pri:=id) (ps:=es) (show A p.L<=8 from hp.br.rising.2.1);obtain⟨n,F8⟩:=ie (A ts);obtain⟨m,hm⟩:=ie (A es)
 obtain⟨o,j,rfl⟩:∃a c,ev=C a m c:=by
  obtain⟨a,q,c,rfl⟩:=iK.slice;exact⟨a,c,by rw[<-hm,iK.len]⟩
 obtain⟨V,hV⟩:=il (W.alloc (Al #[I J 8,I J nn,I J id,Y (BS text),C P n K,C o m j] 34):Ao);have V2:Below (Z W.1) W V:=hV ▸ uy.alloc ux _
 have fR:Z V.1=Z W.1+1:=by rw[hV];simp
 have fJ:∀i,V.cell? ⟨Z W.1,i,O⟩=(#[I J 8,I J nn,I J id,Y (BS text),C P n K,C o m j]:Array Ap)[i]?:=λi=>by rw[hV];simp
 have OPV:Hid (∀U,Below (Z V.1) V U->(∀i,U.cell? ⟨Z W.1,i,O⟩=(#[I J 8,I J nn,I J id,Y (BS text),C P n K,C o m j]:Array Ap)[i]?)/\Z W.1<Z U.1/\Xc U p.pb 0 (Ag (G ⟨p.bb,0,O⟩))/\p.pb<Z U.1):=qd λU z=>⟨λi=>((qi z).1 _ i uq).trans (fJ i),md z.size,((qi (qg V2 z)).1 _ 0 plt).trans c0,md z.size⟩
 have EVT:Hid (uo 18 #[C o m j] V λe w'=>e=Ak (C (G ⟨Z W.1+1,0,O⟩) (m+8) (m+8))/\EvRow w' (Z W.1+1) es 8/\Below (Z V.1) V w'):=qd (by
  have:=qes (iK.h (qg wU V2)) oG;unfold qaw at this;rw[hm,fR]at this;rw[fR]
  exact this)
 obtain⟨ud,hA⟩:=ie (qc1 p.L p.last id es);rw[hA]at h8;obtain⟨FIN,IB⟩:∃M:Option Addr->Nat->Option Addr->Nat->Option Addr->Nat->Option Addr->Nat->Ao->Prop,∀f k1 d b y t u s U,M f k1 d b y t u s U↔((∀i,U.cell? ⟨Z W.1,i,O⟩=(#[I J 8,I J nn,I J id,Y (BS text),C P n K,C o m j]:Array Ap)[i]?)/\Z W.1<Z U.1/\Xc U p.pb 1 (Ag (G ⟨p.mb,0,O⟩))/\(EvRow U (Z W.1+1) es 8/\EvIn U (C o m j) es)/\∃p',PbAt w pv hv hs (ps.set i p') (C f (A ud.1.2.1) k1) (C d (A ud.1.2.2) b) (C y (A ud.1.2.1) t) (C u (A ud.1.2.2) s) ud.1.2.1 ud.1.2.2 U/\0<=p'.last/\p'.last<=p.last+1):=⟨_,λ_ _ _ _ _ _ _ _ _=>Iff.rfl⟩;obtain⟨MID,IA⟩:∃M:Option Addr->Nat->Option Addr->Nat->Ao->Prop,∀f k1 d b r,M f k1 d b r↔(((∀i,r.cell? ⟨Z W.1,i,O⟩=(#[I J 8,I J nn,I J id,Y (BS text),C P n K,C o m j]:Array Ap)[i]?)/\Z W.1<Z r.1/\Xc r p.pb 0 (Ag (G ⟨p.bb,0,O⟩))/\Xc r p.pb 1 (Ag (G ⟨p.mb,0,O⟩)))/\∀V1,Below (Z r.1) r V1->uo 45 #[Ag (G ⟨p.mb,0,O⟩),I J id,C o m j] V1 λe U2=>∃y t u s,e=Ak (Aj #[C y (A ud.1.2.1) t,C u (A ud.1.2.2) s,I J ud.2.2])/\FIN f k1 d b y t u s U2):=⟨_,λ_ _ _ _ _=>Iff.rfl⟩
 have PUB:Hid (∀U,Below (Z V.1) V U->EvRow U (Z W.1+1) es 8->uo 44 #[Ag (G ⟨p.bb,0,O⟩),I J id,C (G ⟨Z W.1+1,0,O⟩) m (m+8)] U λe r=>∃f k1 d b,e=Ak (Aj #[C f (A ud.1.2.1) k1,C d (A ud.1.2.2) b,I J ud.2.2])/\MID f k1 d b r):=qd λU z E6=>by
  have hWU:=qg V2 z;have hUz:=z.size;have aQ:=E6.lt;have G9:∀X,Grow p.own U X->EvIn X (C o m j) es:=λX B=>iK.h (Grow.base (qg wU hWU) B plo)
  have uA:∀X,Grow p.own U X->EvRow X (Z W.1+1) es 8:=λX B=>E6.of_block (B.block _ aQ λe=>md (psz _ e))
  have M5:∀X,Grow p.own U X->(∀i,X.cell? ⟨Z W.1,i,O⟩=(#[I J 8,I J nn,I J id,Y (BS text),C P n K,C o m j]:Array Ap)[i]?)/\Z W.1<Z X.1:=λX B=>⟨λi=>(bg (w:=U) (a:=⟨Z W.1,i,O⟩) (B.block (Z W.1) uq λe=>md (psz (Z W.1) e))).trans ((OPV U z).1 i),md B.size⟩
  refine(vu7 (h.h hWU) hi id hl hg (λX B=>An ⟨Z W.1+1,0,m+8,by rw[hm],by rw[hm];omega,(uA X B).ev,(uA X B).lt⟩) G9).mono λe r ⟨mv,fv,q1,q2,q3,q4,q0,q5,q6⟩=>?_
  rw[hA]at q1 q2 q3 q6;obtain⟨f,k1,e1⟩:=q2.form;obtain⟨d,b,e2⟩:=q3.form;subst e1 e2;refine⟨f,k1,d,b,q1,(IA _ _ _ _ _).2 ⟨⟨(M5 r q4).1,(M5 r q4).2,q0,q5⟩,λV1 hV1=>(q6 V1 hV1).mono λe U2 ⟨cv,dv,r1,r2,r5,p',r3,r4⟩=>?_⟩⟩;obtain⟨y,t,e3⟩:=r3.c.form;obtain⟨u,s,e4⟩:=r3.d.form;subst e3 e4;exact⟨y,t,u,s,r1,(IB _ _ _ _ _ _ _ _ _).2 ⟨(M5 U2 r2).1,(M5 U2 r2).2,r5,⟨uA U2 r2,G9 U2 r2⟩,p',r3,r4⟩⟩
 obtain⟨met,nZ⟩:=ie ud.1.2.1;obtain⟨drp,wQ⟩:=ie ud.1.2.2;obtain⟨E,hE⟩:=ie ud.2.2;have oT:=qd IB;have V9:=qd IA;rw[nZ,wQ]at oT;rw[nZ,wQ,hE]at V9 PUB;rw[nZ,wQ]at h8;obtain⟨N,hN⟩:=ie (A met);obtain⟨D,hD⟩:=ie (A drp);rw[hN,hD]at oT V9 PUB
 have STL:Hid (∀U,EvRow U (Z W.1+1) es 8/\EvIn U (C o m j) es->uo 21 #[C (G ⟨Z W.1+1,0,O⟩) (m+8) (m+8),C o m j] U λe w'=>e=Ak (Ah ui)/\Below (Z U.1) U w'):=qd λU hr=>by
  have:=qgd hr.1 hr.2 oG;rwa[hm]at this
 have SM1:Hid (∀U uc a k a' S,ZsAt U uc (C a N k) met->ZsAt U uc (C a' N S) met->uo 33 #[C a N k,C a' N S] U λe w'=>e=Ak (Ah ui)/\Below (Z U.1) U w'):=qd λU uc a k a' S z1 z2=>qgm met _ _ _ _ U z1 z2 h8.1
 have SM2:Hid (∀U uc a k a' S,ZsAt U uc (C a D k) drp->ZsAt U uc (C a' D S) drp->uo 33 #[C a D k,C a' D S] U λe w'=>e=Ak (Ah ui)/\Below (Z U.1) U w'):=qd λU uc a k a' S z1 z2=>qgm drp _ _ _ _ U z1 z2 h8.2
 have H8:=qd (And.intro h8 hn);have HB:=qd V2;unfold oxV ptV;simp only;rw[F8];rw[fR]at PUB OPV EVT;have m0:=it m;have m8:(m:Int)<=(m:Int)+8:=uq;have m8':m<=m+8:=uq;clear IB IA h hi hx wU iK hg oG hp psz plo h8 hA nZ wQ hE F8 hm V2 fR fJ hN hD hl hn;subst hV;go_enter func16,ntmps16
 go_upto_region 15 with(go_at_call 18;refine be EVT ?_;rintro w1⟨C7,A0⟩;have I8:=qd C7;have D9:=qd A0;obtain⟨o1,l1,d1,y1⟩:=q9 OPV _ A0;have z1:Z W.1+1<Z w1.1:=C7.lt;clear C7 A0)
 go_cut [18,19,20] (λs18 s19 s20 wx=>∃f k1 d b,s18=C f N k1/\s19=C d D b/\s20=I J E/\Hid (MID f k1 d b wx))
 case first=>
  have PB1:Hid (∀U,Below (Z w1.1) w1 U->uo 44 #[Ag (G ⟨p.bb,0,O⟩),I J id,C (G ⟨Z W.1+1,0,O⟩) m (m+8)] U λe r=>∃f k1 d b,e=Ak (Aj #[C f N k1,C d D b,I J E])/\MID f k1 d b r):=qd λU z=>q9 PUB U (D9.trans (z.mono uq)) (I8.h z)
  clear PUB EVT OPV oT STL SM1 SM2 H8
  go_region_held3 (λX=>(∀i,X.cell? ⟨Z W.1,i,O⟩=(#[I J 8,I J nn,I J id,Y (BS text),C P n K,C o m j]:Array Ap)[i]?)/\Xc X p.pb 0 (Ag (G ⟨p.bb,0,O⟩))) (first|exact⟨o1,d1⟩|with_reducible assumption|go_keep) ((go_at_call 44;refine(PB1 _ (by first|exact uy|exact(uy).drew)).mono ?_;rintro e w2⟨f,k1,d,b,rfl,T⟩;have H:=qd T;obtain⟨⟨KO,l2,tA,hS4⟩,_⟩:=(V9 _ _ _ _ _).1 T;have oM:=And.intro KO tA;clear T))
  all_goals
   go_wp2
   go_meet
   exact⟨_,_,_,_,rfl,rfl,rfl,H⟩
 obtain⟨f,k1,d,b,rfl,rfl,rfl,H⟩:=hcut;obtain⟨⟨o2,l2,d2,d3⟩,hR⟩:=(V9 _ _ _ _ _).1 H;have RP:=qd hR;clear hR H V9 o1 d1 y1 z1 l1 I8 D9 PUB EVT OPV HB c0
 go_upto_region 16 with(fail)
 go_cut [21,22,23] (λs21 s22 s23 wx=>∃y t u s,s21=C y N t/\s22=C u D s/\s23=I J E/\Hid (FIN f k1 d b y t u s wx))
 case first=>
  clear STL SM1 SM2 H8
  go_region_held3 (λX=>(∀i,X.cell? ⟨Z W.1,i,O⟩=(#[I J 8,I J nn,I J id,Y (BS text),C P n K,C o m j]:Array Ap)[i]?)/\Xc X p.pb 1 (Ag (G ⟨p.mb,0,O⟩))) (first|exact⟨o2,d3⟩|with_reducible assumption|go_keep) ((go_at_call 45;refine(RP _ (by first|exact uy|exact(uy).drew)).mono ?_;rintro e w3⟨y,t,u,s,rfl,T⟩;have H:=qd T;obtain⟨KO,l3,tA,_⟩:=(oT _ _ _ _ _ _ _ _ _).1 T;have oM:=And.intro KO tA;clear T))
  all_goals
   go_wp2
   go_meet
   exact⟨_,_,_,_,rfl,rfl,rfl,H⟩
 obtain⟨y,t,u,s,rfl,rfl,rfl,H⟩:=hcut;obtain⟨o3,l3,_,sQ,p',hP3,uD⟩:=(oT _ _ _ _ _ _ _ _ _).1 H;have EV3:=qd sQ;have B3:=qd hP3;have RC:=qd uD;obtain⟨⟨VM,VL⟩,hn⟩:=q9 H8;have RK:=qd VM;have HD8:=qd VL;have JC:=qd hn;clear sQ hP3 uD H oT o2 l2 d2 d3 RP VM VL hn H8
 go_wp2_with(first
  | (go_at_call 29;have _q:=K1;refine be (vgz K1 rfl JC HD8) λw8 hf=>?_;have HF:=qd hf;clear hf K1)
  | (go_at_call 29;have _q:=B6;refine be (B6.keep1 rfl JC RK) λw7 hf=>?_;have K1:=qd hf;clear hf B6)
  | (go_at_call 33;have _q:=B5;refine be (SM2 _ _ _ _ _ _ B5.f B5.d) λw6 Q=>?_;have B6:=qd (B5.h Q);clear Q B5)
  | (go_at_call 33;have _q:=B4;refine be (SM1 _ _ _ _ _ _ B4.m B4.c) λw5 Q=>?_;have B5:=qd (B4.h Q);clear Q B4)
  | (go_at_call 21;refine be (STL _ EV3) λw4 Q=>?_;have B4:=qd (B3.h Q);clear Q B3))
 go_ret;obtain⟨hv',G1,q1,q2⟩:=q9 HF;obtain⟨q3,q4⟩:=q9 RC;exact⟨rfl,p',hv',G1,q1,q3,q4,q2⟩
theorem qvs(h:ApAt w W pv hv hs ps (λ_=>False))(u:ps[i]?=G p)(hx:OxOk W x)(f:x.Q=11)(hn:A hs<=19300000000000):
  uo 15 #[Ag (G ⟨Z w.1,0,O⟩),ptV p,oxV x] W λe W'=>e=Ak (Ah ui)/\∃hv' o,ApAt w W' pv hv' o ps (λ_=>False)/\A o=A hs+4:=by
 obtain⟨ea,en,ec,A7⟩:=hx.ev.slice;have hp:=h.each p (bh u);have c0:=hp.c0;have plt:=hp.lt;have pne:¬p.pb=Z W.1:=uq;have BJ:=h.hr.at'.lt;have H:A (p.L.map Su.id)<=8:=by rw[cf];exact hp.br.rising.2.1
 obtain⟨ids,t⟩:=ie (p.L.map Su.id);obtain⟨n,F8⟩:=ie (A ids);rw[t]at H;have C1:Hid (∀U,Xb W U->Xc U p.pb 1 (Ag (G (D p.mb 0 O)))/\Z W.1<=Z U.1/\p.pb<Z U.1):=qd λU b=>⟨((qi b).1 _ _ plt).trans hp.c1,b.size,au plt b.size⟩
 have L1:Hid (∀U,Xb W U->uo 36 #[Ag (G (D p.bb 0 O))] U λe m=>∃a c,e=Ak (C a n c)/\Hid (ZsAt m (Z W.1) (C a n c) ids)/\Xb U m):=qd λU b=>(qzn (h.h b) u).1.mono λe m ⟨v,j,d,r⟩=>by
  rw[t]at d;obtain⟨a,c,s⟩:=d.form;rw[F8]at s;subst s;exact⟨a,c,j,qd (j9 d b.size),r⟩
 have L2:Hid (∀U,Xb W U->uo 37 #[Ag (G (D p.mb 0 O))] U λe m=>∃a c,e=Ak (C a n c)/\Hid (ZsAt m (Z W.1) (C a n c) ids)/\Xb U m):=qd λU b=>(qzn (h.h b) u).2.mono λe m ⟨v,j,d,r⟩=>by
  rw[t]at d;obtain⟨a,c,s⟩:=d.form;rw[F8]at s;subst s;exact⟨a,c,j,qd (j9 d b.size),r⟩
 have y:Hid (∀(U S:Ao) (v:Ap),ZsAt U (Z W.1) v ids->Xb U S->ZsAt S (Z W.1) v ids):=qd λU S v q b=>qp q b ux
 have SM:Hid (∀(U:Ao) (a:Option Addr) (c:Nat) (P:Option Addr) (K:Nat),ZsAt U (Z W.1) (C a n c) ids->ZsAt U (Z W.1) (C P n K) ids->lz 33 #[C a n c,C P n K] U (Ah ui)):=qd λU a c P K j d=>qgm ids _ _ _ _ U j d H
 have KE:Hid (∀(U Ad:Ao) (a:Option Addr) (c:Nat),Xb W U->ZsAt U (Z W.1) (C a n c) ids->Ad=U.alloc (Al #[C a n c,C O 0 0,I J 0] 74)->uo 29 #[Ag (G ⟨Z w.1,0,O⟩),Ag (G ⟨Z U.1,0,O⟩)] Ad λe W'=>e=Ak (Aj #[])/\∃hv' o,ApAt w W' pv hv' o ps (λ_=>False)/\A o=A hs+4):=qd λU Ad a c b q hY=>
  (qq5 (X:=λk=>ug (C a n c)=G k) (X':=λ_=>False) (h.aside b λk f=>An ⟨(World.ownsRow.lt q k f).1,(World.ownsRow.lt q k f).2⟩) q BJ (λ_ h=>h) (λk f=>f.elim) hY hn uq).mono λe W' ⟨j,hv',o,d,r,_⟩=>⟨j,hv',o,d,r⟩
 have z:=qd ((Below.refl (Z W.1) W).alloc ux (Al #[I J 11,I J x.n,I J x.id,Y (BS x.K),C x.la (A x.ts) x.lc,C ea en ec] 34));unfold oxV ptV;rw[f,A7];clear h hx f A7 hp u t F8 H hn;go_enter func15,ntmps15
 go_wp2_with(first
  | (go_at_call 36;refine(L1 _ (by first|exact q9 z|exact z.drew)).mono ?_;rintro e w1⟨a1,k1,rfl,Z1,A0⟩;have B:=qd (show Xb W w1 from qg (by first|exact q9 z|exact z.drew) A0);obtain⟨d1,z1,y1⟩:=q9 C1 _ B;clear A0)
  | (go_at_call 37;refine(L2 _ (by first|exact q9 B|exact B.drew)).mono ?_;rintro e w2⟨a2,k2,rfl,Z2,A3⟩;have E:Xb w1 w2:=(by first|exact A3|exact qg uy.drew A3);have B2:=qd (qg B E);have Q:=qd (y _ _ _ Z1 E);obtain⟨_,z2,y2⟩:=q9 C1 _ B2;clear A3 E)
  | (go_at_call 33;refine be (SM _ _ _ _ _ (by first|exact q9 Q|exact q9 y _ _ _ Q uy.drew) (by first|exact q9 Z2|exact q9 y _ _ _ Z2 uy.drew)) λw3 D5=>?_;have T:Xb w2 w3:=(by first|exact D5|exact qg uy.drew D5);have B3:=qd (qg B2 T);have Z4:=qd (y _ _ _ Q T);obtain⟨_,z3,y3⟩:=q9 C1 _ B3;clear D5 T)
  | (go_at_call 29;refine be (KE _ _ _ _ B3 Z4 rfl) λw4 hf=>?_;have HF:=qd hf;clear hf))
 go_ret;exact⟨rfl,q9 HF⟩
end
def qf8(c n:Int):Int:=if c<0 then -(c+1).tmod n else c % n
theorem vbw(c:Int)(a:0<n):0<=qf8 c n/\qf8 c n<n:=by
 unfold qf8
 split
 .have h1:=Int.tmod_nonneg n (show 0<=-(c+1) by omega)
  have b:=Int.tmod_lt_of_pos (-(c+1)) a;rw[Int.neg_tmod]at h1 b;exact⟨h1,b⟩
 exact⟨Int.emod_nonneg _ uq,Int.emod_lt_of_pos _ a⟩
theorem vbx(c n:Int)(a:Rng c)(b:0<n)(w:Ao):uo 14 #[I J c,I J n] w λe w'=>e=Ak (I J (qf8 c n))/\w'=w:=by
 have d:=a.1;unfold qf8
 by_cases h:c<0
 .rw[bs h]
  have hd:decide (c<0)=ui:=de h;go_enter func14,ntmps14
  go_wp2
  go_ret;exact⟨rfl,rfl⟩
 rw[ak h];go_enter func14,ntmps14
 go_wp2
 go_ret;exact⟨rfl,rfl⟩
def ApOk(w:Ao)(k:Nat)(W:Ao):Prop:=∃pv hv hs ps,ApAt w W pv hv hs ps (λ_=>False)/\A ps<=k/\(∀p∈ps,p.last<=k)/\A hs<=12 * k
section
variable {w W W':Ao} {pv hv:Ap} {hs:List (Nat×Nat)} {ps:List Pl} {i k:Nat} {p p':Pl} {x:Ox}
theorem ApOk.h(h:ApOk w k W)(a:Xb W W'):ApOk w k W':=by
 obtain⟨pv,hv,hs,ps,c,b⟩:=h;exact⟨pv,hv,hs,ps,c.h a,b⟩
theorem ApOk.bel(h:ApOk w k W):Xb w W:=by
 obtain⟨pv,hv,hs,ps,a,b⟩:=h;exact a.hr.at'.bel
theorem ApOk.more(h:ApOk w k W):ApOk w (k+1) W:=by
 grind[ApOk]
theorem ApOk.start(w:Ao):ApOk w 0 (w.alloc (Al #[C O 0 0,C O 0 0] 30)):=by grind[ApAt.start,ApOk]
theorem ApOk.set(c:A ps<=k)(b:∀p∈ps,p.last<=k)(a:A hs<=12 * k+12)(hp:p'.last<=k+1)(h:ApAt w W pv hv hs (ps.set i p') (λ_=>False)):ApOk w (k+1) W:=by grind[ApOk]
theorem qzf(h:ApAt w W pv hv hs ps (λ_=>False))(c:ps[i]?=G p)(r:A ps<=k)(j:∀p∈ps,p.last<=k)(u:A hs<=12 * k)(t:k<=1599289640401)(o:OxOk w x)(q:LibOk w)(hd:x.Q=6\/x.Q=7\/x.Q=8\/x.Q=9):
  uo 16 #[Ag (G ⟨Z w.1,0,O⟩),ptV p,oxV x] W λe W'=>e=Ak (Ah ui)/\ApOk w (k+1) W':=by
 have f:=h.hr.at'.bel;have d:=o.h f;have hp:=j p (bh c);have m:∀W',AfPl w pv hv hs ps i p.last W'->ApOk w (k+1) W':=λW' ⟨p',a,b,s⟩=>ApOk.set r j uq uq a
 obtain hd|hd|hd|hd:=hd;exact(qzh h c d (q.h f ux) hd).mono λe W' ⟨a,b⟩=>⟨a,m W' b⟩
 grind[qq2,Below.mono,Calls.mono,ApAt,OxOk,LibOk,ApOk]
 grind[qzg,Below.mono,Calls.mono,ApOk.set,ApAt,OxOk,LibOk,ApOk]
 exact(qvq h c d hd).mono λe W' ⟨a,b⟩=>⟨a,m W' b⟩
theorem qzq(h:ApAt w W pv hv hs ps (λ_=>False))(d:ps[i]?=G p)(o:A ps<=k)(f:∀p∈ps,p.last<=k)(m:A hs<=12 * k)(s:k<=1599289640401)(j:OxOk w x)(hd:x.Q=10\/x.Q=11):
  uo 15 #[Ag (G ⟨Z w.1,0,O⟩),ptV p,oxV x] W λe W'=>e=Ak (Ah ui)/\ApOk w (k+1) W':=by
 have c:=j.h h.hr.at'.bel;obtain hd|hd:=hd;exact(qq7 h d c hd).mono λe W' ⟨b,a⟩=>⟨b,ApOk.more ⟨_,_,_,_,a,o,f,m⟩⟩
 exact(qvs h d c hd uq).mono λe W' ⟨b,hv',t,a,r⟩=>⟨b,_,_,_,_,a,uq,λq hq=>md (f q hq),uq⟩
end
section
variable {w W:Ao} {k:Nat} {x:Ox}
theorem vmu(h:ApOk w k W)(a:OxOk w x)(E:k<=1599289640401)(hd:x.Q=5):uo 7 #[Ag (G ⟨Z w.1,0,O⟩),oxV x] W λe W'=>e=Ak (Ah ui)/\ApOk w (k+1) W':=by
 obtain⟨u,s,t,c⟩:=a.ev.slice
 have B:Hid (∀U,Xb W U->uo 6 #[Ag (G ⟨Z w.1,0,O⟩)] U λe W'=>e=Ak (Ah ui)/\ApOk w (k+1) W'):=qd λU m=>by
  obtain⟨pv,hv,hs,ps,r,K,o,H⟩:=h.h m
  exact(qem r uq).mono λe W' ⟨j,pv',p,f,d⟩=>⟨j,pv',hv,hs,_,f,by rw[cd,dj];omega,λq hq=>by
   obtain hq|hq:=cr.1 hq;have:=o q hq;omega
   rw[dd.1 hq,d];omega,uq⟩
 have z:=qd ((Below.refl (Z W.1) W).alloc ux (Al #[I J 5,I J x.n,I J x.id,Y (BS x.K),C x.la (A x.ts) x.lc,C u s t] 34));unfold oxV;rw[hd,c];clear h a hd c;go_enter func7,ntmps7
 go_wp2_with(refine be (B _ z) λw2 b=>?_;have y:=qd b;clear b)
 go_ret;exact⟨rfl,q9 y⟩
theorem vff(h:ApOk w k W)(d:OxOk w x)(hL:LibOk w)(hk:k<=1599289640401)(hd:6<=x.Q):uo 7 #[Ag (G ⟨Z w.1,0,O⟩),oxV x] W λe W'=>e=Ak (Ah ui)/\ApOk w (k+1) W':=by
 obtain⟨ea,en,ec,m⟩:=d.ev.slice;obtain⟨K,f⟩:=ie x.Q;have r:=(Below.refl (Z W.1) W).alloc ux (Al #[I J K,I J x.n,I J x.id,Y (BS x.K),C x.la (A x.ts) x.lc,C ea en ec] 34);have t:=qd r;have H:=qd (h.h r).more;obtain⟨pv,hv,hs,ps,b,E,D,B⟩:=h;have wlt:=b.hr.at'.lt;have wne:¬Z w.1=Z W.1:=uq;have c0:=b.hr.at'.c0;rw[f]at hd;have k1:¬K=1:=uq;have k2:¬K=2:=uq;have k3:¬K=3:=uq;have k4:¬K=4:=uq;have k5:¬K=5:=uq;have k6:¬K<6:=uq
 by_cases k11:11<K
 .obtain⟨pa,pc,j⟩:=jT b.row
  rw[j]at c0;unfold oxV;rw[f,m];clear b d m f r;go_enter func7,ntmps7
  go_wp2
  go_ret;exact⟨rfl,q9 H⟩
 by_cases hps:A ps=0
 .obtain⟨pa,pc,j⟩:=jT b.row
  rw[j,hps]at c0;unfold oxV;rw[f,m];clear b d m f r;go_enter func7,ntmps7
  go_wp2
  go_ret;exact⟨rfl,q9 H⟩
 obtain⟨n,T⟩:=ie (A ps);have S:=lq n;obtain⟨g1,g2⟩:=vbw x.n S;obtain⟨q,hq⟩:∃q:Nat,qf8 x.n (n:Int)=(q:Int):=⟨(qf8 x.n n).toNat,uq⟩;have hqn:q<n:=uq;obtain⟨p,s⟩:∃p,ps[q]?=G p:=⟨_,ag uq⟩;obtain⟨g,c,j,gl,cq⟩:=b.at s;rw[j,T]at c0
 have PK:Hid (∀U,uo 14 #[I J x.n,I J n] U λe w'=>e=Ak (I J (q:Nat))/\w'=U):=qd λU=>by
  have:=vbx x.n n d.n S U;rwa[hq]at this
 have gne:¬g=Z W.1:=uq;have q0:=it q;have q1:=je q n;have n0:¬(n:Int)=0:=uq;have n0':¬n=0:=uq;have y:Hid (K<10->∀U,Xb W U->uo 16 #[Ag (G ⟨Z w.1,0,O⟩),ptV p,oxV x] U λe W'=>e=Ak (Ah ui)/\ApOk w (k+1) W'):=qd λa U z=>qzf (b.h z) s E D B hk d hL uq
 have u:Hid (¬K<10->∀U,Xb W U->uo 15 #[Ag (G ⟨Z w.1,0,O⟩),ptV p,oxV x] U λe W'=>e=Ak (Ah ui)/\ApOk w (k+1) W'):=qd λa U z=>qzq (b.h z) s E D B hk d uq
 unfold oxV ptV at *;rw[f,m]at y u |-;clear b E D B d m f r H s j hq g1 g2 T hps
 by_cases a:K<10
 .have OD:¬10<=K:=uq
  have Q:=qd (y a);clear u y;go_enter func7,ntmps7
  go_wp2
  go_quiet ((go_at_call 14;exact ox (PK _)))
  go_wp2_with(refine be (Q _ (by first|exact q9 t|exact eg t _)) λw2 o=>?_;have P:=qd o;clear o)
  go_ret;exact⟨rfl,q9 P⟩
 have OD:10<=K:=uq;have Q:=qd (u a);clear u y;go_enter func7,ntmps7
 go_wp2
 go_quiet ((go_at_call 14;exact ox (PK _)))
 go_wp2_with(refine be (Q _ (by first|exact q9 t|exact eg t _)) λw2 o=>?_;have P:=qd o;clear o)
 go_ret;exact⟨rfl,q9 P⟩
theorem vfd(h:ApOk w k W)(a:OxOk w x)(c:LibOk w)(b:k<=1599289640401)(hd:5<=x.Q):uo 7 #[Ag (G ⟨Z w.1,0,O⟩),oxV x] W λe W'=>e=Ak (Ah ui)/\ApOk w (k+1) W':=by
 grind[vmu,vff]
end
theorem vj4{k:Nat}(h:ApOk w k W)(f:k<=1599289640401):uo 8 #[Ag (G ⟨Z w.1,0,O⟩)] W λe W'=>e=Ak (Ah ui)/\ApOk w k W':=by
 have d:=h;obtain⟨pv,hv,hs,ps,c,o,m,j⟩:=h;exact(vbv c.hr.at' uq).mono λe W' ⟨b,a⟩=>⟨b,d.h a⟩
theorem OpsAt.h{W':Ao}{l:List Ox}(h:OpsAt W v l)(c:Xb W W'):OpsAt W' v l:=by
 obtain⟨a,cap,e,t,s,r⟩:=h
 exact⟨a,cap,e,t,s,λi x q=>by
  obtain⟨m,b,off,j,d,f⟩:=r i x q
  exact⟨m.h c,b,off,j,au d c.size,λk o=>((qi c).1 _ _ d).trans (f k o)⟩⟩
section
variable {w W U Ad:Ao} {pv hv nv bv cv iv gv:Ap} {hs:List (Nat×Nat)} {pls:List Pl} {ud uc Ac N M Af nn bn:Nat} {X X':Nat->Prop} {nxs bxs cxs ixs gxs:List Ap}
theorem qdp(h:ApAt w W pv hv hs pls X)(B:ue W uc 3 1 nv nn nxs)(z:ue W uc 5 1 bv bn bxs)(E:Z w.1<uc)(d:∀k,ug nv=G k\/ug bv=G k->X k/\¬X' k)(b:∀k,X' k->X k)(s:Ad=W.alloc (Al #[nv,bv,I J 0] 74))(r:A hs<=19300000000000)(o:nn<=100000000)(q:bn<=100000000):
  uo 29 #[Ag (G ⟨Z w.1,0,O⟩),Ag (G ⟨Z W.1,0,O⟩)] Ad λe W'=>e=Ak (Aj #[])/\∃hv' c,ApAt w W' pv hv' c pls X'/\A c=A hs+4/\∀k,X' k->W'.1[k]?=W.1[k]?:=by
 have m:∀k,ApR pv pls k\/X' k->ApR pv pls k\/X k:=λk a=>a.imp_right (b k)
 exact(qub (R':=λk=>ApR pv pls k\/X' k) h.hr m (λk a=>(h.rlo k (m k a)).2) (j9 B uq) (j9 z uq) (λk a=>⟨An (d k a).1,λe=>e.elim (h.xn k (d k a).1) (d k a).2⟩) s r o q).mono λe W' ⟨y,hv',c,u,t,f,j⟩=>⟨y,hv',c,⟨u,vo h.row λk a=>f k (Am (Am a)),λp hp=>(h.each p hp).same (λk a=>f k (Am (An ⟨p,hp,a⟩))) j,h.apart,h.pn,λk a=>h.xn k (b k a),λk a=>⟨(h.xl k (b k a)).1,au (h.xl k (b k a)).2 j⟩⟩,t,λk a=>f k (An a)⟩
theorem qtc(h:ApAt w W pv hv hs pls (λ_=>False))(m:Xb W U)(c:ue U uc 5 1 bv bn bxs)(o:Z W.1<=uc)(j:Ad=U.alloc (Al #[C O 0 0,bv,I J 0] 74))(f:A hs<=19300000000000)(d:bn<=100000000):
  uo 29 #[Ag (G ⟨Z w.1,0,O⟩),Ag (G ⟨Z U.1,0,O⟩)] Ad λe W'=>e=Ak (Aj #[])/\∃hv' b,ApAt w W' pv hv' b pls (λ_=>False)/\A b=A hs+4:=by
 have t:=h.hr.at'.lt;exact(qdp (X:=λk=>ug bv=G k) (X':=λ_=>False) (nv:=C O 0 0) (nn:=0) (h.aside m λk a=>An ⟨bu o (c.lt k a).1,(c.lt k a).2⟩) (dw _ _ _ _) c uq (λk a=>a.elim (λe=>by simp[Value.ownBlock]at e) λe=>⟨e,id⟩) (λ_ h=>h.elim) j f (bt _) d).mono λe W' ⟨s,hv',b,r,q,_⟩=>⟨s,hv',b,r,q⟩
def KtA(pv:Ap)(w:Ao)(pls:List Pl)(hs:List (Nat×Nat))(j:Nat)(gv:Ap)(Af:Nat)(gxs:List Ap)(R:Nat->Prop)(W:Ao):Prop:=∃hv' G1,ApAt w W pv hv' G1 pls (λk=>R k\/ug gv=G k)/\A G1=A hs+j/\ue W (Z w.1+1) 3 1 gv Af gxs
theorem vrb(h:ApAt w W pv hv hs pls (λ_=>False))(m:Xb W U)(d:ue U ud 5 1 cv N cxs)(b:ue U uc 5 1 iv M ixs)(c:ue U Ac 3 1 gv Af gxs)(s:Z W.1<=ud)(r:Z W.1<=uc)(q:Z W.1<=Ac)(hd:∀k,ug cv=G k->ug iv≠G k)(j:Ad=U.alloc (Al #[C O 0 0,cv,I J 0] 74))(B:A hs<=19200000000000)(o:N<=100000000):
  uo 29 #[Ag (G ⟨Z w.1,0,O⟩),Ag (G ⟨Z U.1,0,O⟩)] Ad λe W'=>e=Ak (Aj #[])/\KtA pv w pls hs 4 gv Af gxs (λk=>ug iv=G k) W'/\ue W' (Z w.1+1) 5 1 iv M ixs:=by
 have E:=h.hr.at'.lt;refine(qdp (X:=λk=>ug cv=G k\/ug iv=G k\/ug gv=G k) (X':=λk=>ug iv=G k\/ug gv=G k) (nn:=0) (nv:=C O 0 0) (h.aside m λk a=>An ?_) (dw _ _ _ _) d uq (λk a=>?_) (λk a=>An a) j uq (bt _) o).mono λe W' ⟨y,hv',z,u,t,f⟩=>⟨y,⟨hv',z,u,t,qm (j9 c uq) λk a=>f k (An a)⟩,qm (j9 b uq) λk a=>f k (Am a)⟩
 obtain a|a|a:=a;exact⟨bu s (d.lt k a).1,(d.lt k a).2⟩;exact⟨bu r (b.lt k a).1,(b.lt k a).2⟩;exact⟨bu q (c.lt k a).1,(c.lt k a).2⟩
 grind[Value.ownBlock,xu]
theorem vbo(h:KtA pv w pls hs 4 gv Af gxs (λk=>ug iv=G k) U)(b:ue U (Z w.1+1) 5 1 iv M ixs)(d:Ad=U.alloc (Al #[C O 0 0,iv,I J 0] 74))(t:A hs<=19200000000000)(f:M<=100000000):
  uo 29 #[Ag (G ⟨Z w.1,0,O⟩),Ag (G ⟨Z U.1,0,O⟩)] Ad λe W'=>e=Ak (Aj #[])/\KtA pv w pls hs 8 gv Af gxs (λ_=>False) W':=by
 obtain⟨s,z,q,y,c⟩:=h;refine(qdp (X':=λk=>False\/ug gv=G k) (nn:=0) (nv:=C O 0 0) q (dw _ _ _ _) b (du _) (λk a=>?_) (λk a=>An (a.elim False.elim id)) d uq (bt _) f).mono λe W' ⟨o,hv',r,m,u,j⟩=>⟨o,hv',r,m,uq,qm c λk a=>j k (An a)⟩
 grind[Value.ownBlock,xu]
theorem vbn(h:KtA pv w pls hs 8 gv Af gxs (λ_=>False) U)(d:Ad=U.alloc (Al #[gv,C O 0 0,I J 0] 74))(r:A hs<=19200000000000)(f:Af<=100000000):
  uo 29 #[Ag (G ⟨Z w.1,0,O⟩),Ag (G ⟨Z U.1,0,O⟩)] Ad λe W'=>e=Ak (Aj #[])/\∃hv' a,ApAt w W' pv hv' a pls (λ_=>False)/\A a=A hs+12:=by
 obtain⟨q,u,o,t,c⟩:=h;exact(qdp (X':=λ_=>False) (bn:=0) (bv:=C O 0 0) o c (dw _ _ _ _) (du _) (λk b=>b.elim (λe=>⟨An e,id⟩) λe=>by simp[Value.ownBlock]at e) (λ_ h=>h.elim) d uq f (bt _)).mono λe W' ⟨m,hv',a,j,s,_⟩=>⟨m,hv',a,j,uq⟩
end
section
variable {pv:Ap}
theorem qik(h:ApAt w W pv hv hs pls (λ_=>False))(m:OxOk W x)(hL:LibOk W)(hn:A hs<=19300000000000)(f:(qa1 x.ts).1≠0):uo 12 #[Ag (G ⟨Z w.1,0,O⟩),oxV x] W λe W'=>e=Ak (Ah ui)/\∃hv' G1,ApAt w W' pv hv' G1 pls (λ_=>False)/\A G1=A hs+4:=by
 obtain⟨kind,nn,id,text,b,a,ts,ev,ps⟩:=x;obtain⟨ea,en,ec,A7⟩:=m.ev.slice;have A7:ev=C ea en ec:=A7;subst A7;have r:TxIn W b ts:=m.tx;have P:16 * A ts<=140737488355328:=m.tl;have nS:A ts<=a:=m.tc;have f:(qa1 ts).1≠0:=f
 have N7:∀t∈ts,A t<=140737488355328:=λt ht=>by
  obtain⟨k,hk⟩:=db ht;exact(r k t hk).1
 obtain⟨n,s⟩:=ie (A ts);obtain⟨V,y⟩:=il (W.alloc (Al #[I J kind,I J nn,I J id,Y (BS text),C b n a,C ea en ec] 34):Ao);have j:Below (Z W.1) W V:=y ▸ uy.alloc ux _
 have fR:Z V.1=Z W.1+1:=by rw[y];simp
 have K:V.cell? ⟨Z W.1,4,O⟩=G (C b n a):=by rw[y];simp
 have TXT:=qd (qph (c:=a) (r.h j) P)
 have CMP:Hid (∀U,Below (Z V.1) V U->TsRow U (Z V.1) ts 8->uo 25 #[C (G ⟨Z V.1,0,O⟩) n (n+8)] U λe w'=>Below (Z U.1) U w'/\e=Ak (Aj #[C O 0 0,I J (qa1 ts).1,I J ((qa1 ts).2:Nat)])):=qd λU d E=>by
  have:=qad ts (G ⟨Z V.1,0,O⟩) (n+8) U (hL.h (qg j d) ux) (E.tx N7);rw[s]at this;refine this.mono ?_;rintro e w'⟨h1,⟨H,_⟩|⟨_,H⟩⟩;exact absurd H f;exact⟨h1,H⟩
 have CMD:Hid (∀U,Below (Z V.1) V U->uo 26 #[C b n a] U λe w'=>e=Ak (Aj #[I J (qa1 ts).1,I J ((qa1 ts).2:Nat)])/\Below (Z U.1) U w'):=qd λU d=>by
  have:=ym (r.h (qg j d)) nS;rwa[s]at this
 have STY:Hid (∀U,Below (Z V.1) V U->TsRow U (Z V.1) ts 8->uo 27 #[C (G ⟨Z V.1,0,O⟩) (n+8) (n+8),C b n a] U λe w'=>e=Ak (Ah ui)/\Below (Z U.1) U w'):=qd λU d E=>by
  have:=qv9 (c:=a) E (r.h (qg j d)) P;rwa[s]at this
 have KEEP:Hid (∀U Ad:Ao,Below (Z V.1) V U->Ad=U.alloc (Al #[C O 0 0,C O 0 0,I J 0] 74)->uo 29 #[Ag (G ⟨Z w.1,0,O⟩),Ag (G ⟨Z U.1,0,O⟩)] Ad λe W'=>e=Ak (Aj #[])/\∃hv' G1,ApAt w W' pv hv' G1 pls (λ_=>False)/\A G1=A hs+4):=qd λU Ad d hY=>by
  exact qtc (bv:=C O 0 0) (bn:=0) (bxs:=[]) h (qg j d) (dw _ _ _ _) ux hY hn (bt _)
 obtain⟨R,o⟩:=ie (qa1 ts);rw[o]at CMP CMD f;have GX:(R.1==0)=uh:=by simpa using f
 unfold qea at TXT;rw[s]at TXT;have CZ:Z W.1<Z W.1+1:=du _;rw[fR]at TXT CMP CMD STY KEEP;unfold oxV;simp only;rw[s];have VM:=it n;have VL:(n:Int)<=(n:Int)+8:=uq;clear h m hL r P nS N7 j o f fR;subst y;go_enter func12,ntmps12
 go_wp2_with(first|(go_at_call 29;have _q:=L9;refine be (KEEP _ _ L9 rfl) λw6 mR=>?_;have SF:=qd mR;clear mR)|(go_at_call 27;have _q:=q;refine be (STY _ q aH) λw5 T5=>?_;have L9:=qd (q.trans (T5.mono (show Z W.1+1<=Z B.1 by omega)));clear T5)|(go_at_call 26;have _q:=u;refine be (CMD _ u) λB Q=>?_;have q:=qd (u.trans (Q.mono (show Z W.1+1<=Z D.1 by omega)));have aH:=qd (T8.h Q);have o4':Xc B (Z W.1) 4 (C b n a):=(q.cell (p:=⟨Z W.1,4,O⟩) CZ).trans K;have l4:Z W.1<Z B.1:=(by have:=(q9 q).size;simp at this;omega);clear Q)|(go_at_call 25;have _q:=S;refine(CMP _ S J4).mono ?_;rintro e D⟨T,rfl⟩;have u:=qd (S.trans (T.mono (show Z W.1+1<=Z w2.1 by omega)));have T8:=qd (J4.h T);have o3':Xc D (Z W.1) 4 (C b n a):=(u.cell (p:=⟨Z W.1,4,O⟩) CZ).trans K;have l3:Z W.1<Z D.1:=(by have:=(q9 u).size;simp at this;omega);clear T)|(refine be TXT ?_;rintro w2⟨C8,z⟩;have S:=qd z;have J4:=qd C8;have o2':Xc w2 (Z W.1) 4 (C b n a):=(z.cell (p:=⟨Z W.1,4,O⟩) CZ).trans K;have l2:Z W.1<Z w2.1:=(by have:=z.size;simp at this;omega);clear z C8))
 go_ret;exact⟨rfl,q9 SF⟩
theorem qgr(h:ApAt w W pv hv hs pls (λ_=>False))(u:OxOk W x)(hL:LibOk W)(hn:A hs<=19300000000000)(m:(qa1 x.ts).1=0):uo 12 #[Ag (G ⟨Z w.1,0,O⟩),oxV x] W λe W'=>e=Ak (Ah ui)/\∃hv' G1,ApAt w W' pv hv' G1 pls (λ_=>False)/\A G1=A hs+4:=by
 obtain⟨kind,nn,id,text,d,b,ts,ev,ps⟩:=x;obtain⟨ea,en,ec,A7⟩:=u.ev.slice;have A7:ev=C ea en ec:=A7;subst A7;have r:TxIn W d ts:=u.tx;have U0:16 * A ts<=140737488355328:=u.tl;have nS:A ts<=b:=u.tc;have m:(qa1 ts).1=0:=m;obtain⟨t7,eU⟩:=qeg m;obtain⟨h8,_⟩:=qii m;have aW:=qm7 m;obtain⟨s,DC⟩:=ie (zL (vF (ts.map coS) (A ts)).1 (vF (ts.map coS) (A ts)).2);obtain⟨N,hN⟩:=ie (A s);rw[DC,hN]at t7 eU
 have N7:∀t∈ts,A t<=140737488355328:=λt ht=>by
  obtain⟨k,hk⟩:=db ht;exact(r k t hk).1
 obtain⟨n,q⟩:=ie (A ts);obtain⟨V,Q⟩:=il (W.alloc (Al #[I J kind,I J nn,I J id,Y (BS text),C d n b,C ea en ec] 34):Ao);have o:Below (Z W.1) W V:=Q ▸ uy.alloc ux _
 have fR:Z V.1=Z W.1+1:=by rw[Q];simp
 have T:V.cell? ⟨Z W.1,4,O⟩=G (C d n b):=by rw[Q];simp
 have TXT:=qd (qph (c:=b) (r.h o) U0)
 have CMP:Hid (∀U,Below (Z V.1) V U->TsRow U (Z V.1) ts 8->uo 25 #[C (G ⟨Z V.1,0,O⟩) n (n+8)] U λe w'=>Below (Z U.1) U w'/\∃a c,e=Ak (Aj #[C a N c,I J 0,I J 0])/\ue w' (Z U.1) 5 1 (C a N c) N (vi s)):=qd λU f hr=>by
  have:=qad ts (G ⟨Z V.1,0,O⟩) (n+8) U (hL.h (qg o f) ux) (hr.tx N7);rw[q]at this;refine this.mono ?_;rintro e w'⟨h1,⟨_,v,S,h3⟩|⟨S,_⟩⟩;rw[DC]at h3;obtain⟨a,c,rfl⟩:=h3.form;have PQ:ue w' (Z U.1) 5 1 (C a (A s) c) (A s) (vi s):=h3;rw[hN]at S PQ;exact⟨h1,a,c,S,PQ⟩;exact absurd m S
 have CMD:Hid (∀U,Below (Z V.1) V U->uo 26 #[C d n b] U λe w'=>e=Ak (Aj #[I J (qa1 ts).1,I J ((qa1 ts).2:Nat)])/\Below (Z U.1) U w'):=qd λU f=>by
  have:=ym (r.h (qg o f)) nS;rwa[q]at this
 have SIZ:Hid (∀U,Below (Z V.1) V U->uo 28 #[C d n b] U λe w'=>e=Ak (I J ((16+16 * A (gTs ts n).1+4 * n+(gTs ts n).2:Nat):Int))/\Below (Z U.1) U w'):=qd λU f=>veg (r.h (qg o f)) q uq
 have STY:Hid (∀U,Below (Z V.1) V U->TsRow U (Z V.1) ts 8->uo 27 #[C (G ⟨Z V.1,0,O⟩) (n+8) (n+8),C d n b] U λe w'=>e=Ak (Ah ui)/\Below (Z U.1) U w'):=qd λU f hr=>by
  have:=qv9 (c:=b) hr (r.h (qg o f)) U0;rwa[q]at this
 have KEEP:Hid (∀(uc:Nat) (U Ad:Ao) (a:Option Addr) (c:Nat),Below (Z V.1) V U->Z W.1<=uc->ue U uc 5 1 (C a N c) N (vi s)->Ad=U.alloc (Al #[C O 0 0,C a N c,I J 0] 74)->uo 29 #[Ag (G ⟨Z w.1,0,O⟩),Ag (G ⟨Z U.1,0,O⟩)] Ad λe W'=>e=Ak (Aj #[])/\∃hv' G1,ApAt w W' pv hv' G1 pls (λ_=>False)/\A G1=A hs+4):=qd λB U Ad a c f I7 hO hY=>by
  exact qtc h (qg o f) hO I7 hY hn uq
 rw[aW]at CMD;obtain⟨SZ,j⟩:=ie (16+16 * A (gTs ts n).1+4 * n+(gTs ts n).2);rw[q,j]at t7;rw[j]at SIZ;have m9:(N:Int)<=(SZ:Int):=uq;unfold qea at TXT;rw[q]at TXT;have CZ:Z W.1<Z W.1+1:=du _;rw[fR]at TXT CMP CMD STY KEEP SIZ;unfold oxV;simp only;rw[q];have VM:=it n;have VL:(n:Int)<=(n:Int)+8:=uq;clear h u hL r U0 nS N7 o m aW fR DC hN t7 j h8;subst Q;go_enter func12,ntmps12
 go_wp2_with(first|(go_at_call 29;have _q:=WO;refine be (KEEP _ _ _ _ _ WO ZT HO7 rfl) λw6 mR=>?_;have SF:=qd mR;clear mR)|(go_at_call 28;have _q:=L9;refine be (SIZ _ L9) λw7 dW=>?_;have WO:=qd (L9.trans (dW.mono (show Z W.1+1<=Z H.1 by omega)));have HO7:=qd (qp oO dW ux);have hbb2:Z w2.1<=Z w7.1:=(md dW.size);clear dW)|(go_at_call 27;have _q:=y;refine be (STY _ y aH) λH z=>?_;have L9:=qd (y.trans (z.mono (show Z W.1+1<=Z K.1 by omega)));have oO:=qd (qp HO4 z ux);have o5':Xc H (Z W.1) 4 (C d n b):=(L9.cell (p:=⟨Z W.1,4,O⟩) CZ).trans T;have l5:Z W.1<Z H.1:=(md z.size);have z5:Z w2.1<=Z H.1:=(md z.size);clear z)|(go_at_call 26;have _q:=E;refine be (CMD _ E) λK D=>?_;have y:=qd (E.trans (D.mono (show Z W.1+1<=Z P.1 by omega)));have aH:=qd (T8.h D);have o4':Xc K (Z W.1) 4 (C d n b):=(y.cell (p:=⟨Z W.1,4,O⟩) CZ).trans T;have l4:Z W.1<Z K.1:=(by have:=(q9 y).size;simp at this;omega);have HO4:=qd (qp HO3 D ux);have z4:Z w2.1<=Z K.1:=(md D.size);clear D)|(go_at_call 25;have _q:=G3;refine(CMP _ G3 J4).mono ?_;rintro e P⟨D5,ca,cc,rfl,CE⟩;have HO3:=qd CE;have z3:Z w2.1<=Z P.1:=D5.size;have ZT:Z W.1<=Z w2.1:=uq;have E:=qd (G3.trans (D5.mono (show Z W.1+1<=Z w2.1 by omega)));have T8:=qd (J4.h D5);have o3':Xc P (Z W.1) 4 (C d n b):=(E.cell (p:=⟨Z W.1,4,O⟩) CZ).trans T;have l3:Z W.1<Z P.1:=(by have:=(q9 E).size;simp at this;omega);clear D5 CE)|(refine be TXT ?_;rintro w2⟨C8,A3⟩;have G3:=qd A3;have J4:=qd C8;have o2':Xc w2 (Z W.1) 4 (C d n b):=(A3.cell (p:=⟨Z W.1,4,O⟩) CZ).trans T;have l2:Z W.1<Z w2.1:=(by have:=A3.size;simp at this;omega);clear A3 C8))
 go_ret;exact⟨rfl,q9 SF⟩
end
section
variable {pv:Ap}
attribute [local go_sem ↓] pL
theorem vdl(h:ApAt w W pv hv hs pls (λ_=>False))(hx:OxOk W x)(hL:LibOk W)(hn:A hs<=19200000000000)(hR:(qa1 x.ts).1=0):Calls prog 13 #[Ag (G ⟨Z w.1,0,O⟩),oxV x] W λe W'=>e=Ak (Ah ui)/\∃hv' G1,ApAt w W' pv hv' G1 pls (λ_=>False)/\A G1=A hs+12:=by
 obtain⟨kind,nn,id,text,z,u,ts,ev,ps⟩:=x;have A7:EvIn W ev ps:=hx.ev;have hg:EvGood ps:=hx.good;have oG:48 * A ps<=140737488355328:=hx.el;have V5:TxIn W z ts:=hx.tx;have nS:A ts<=u:=hx.tc;have hR:(qa1 ts).1=0:=hR;have eU:=(qeg hR).2;have h8:=(qii hR).1;have aW:=qm7 hR;have L4:=vep hR ps;obtain⟨o,DC⟩:=ie (zL (vF (ts.map coS) (A ts)).1 (vF (ts.map coS) (A ts)).2);have PC:2<=A o:=by rw[<-DC];exact va4 _ _
 rw[DC]at eU L4;obtain⟨N,hN⟩:=ie (A o);have hNs:N<=100000:=uq;obtain⟨n,F8⟩:=ie (A ts);obtain⟨m,hm⟩:=ie (A ps)
 obtain⟨P,H,rfl⟩:∃a c,ev=C a m c:=by
  obtain⟨a,q,c,rfl⟩:=A7.slice;exact⟨a,c,by rw[<-hm,A7.len]⟩
 obtain⟨V,hV⟩:=il (W.alloc (Al #[I J kind,I J nn,I J id,Y (BS text),C z n u,C P m H] 34):Ao);have Q:Below (Z W.1) W V:=hV ▸ uy.alloc ux _
 have fR:Z V.1=Z W.1+1:=by rw[hV];simp
 have fJ:∀i,V.cell? ⟨Z W.1,i,O⟩=(#[I J kind,I J nn,I J id,Y (BS text),C z n u,C P m H]:Array Ap)[i]?:=λi=>by rw[hV];simp
 have OPV:Hid (∀U,Below (Z V.1) V U->(∀i,U.cell? ⟨Z W.1,i,O⟩=(#[I J kind,I J nn,I J id,Y (BS text),C z n u,C P m H]:Array Ap)[i]?)/\Z W.1<Z U.1):=qd λU d=>⟨λi=>((qi d).1 _ i uq).trans (fJ i),md d.size⟩
 have CMD:Hid (∀U,Below (Z V.1) V U->Calls prog 26 #[C z n u] U λe w'=>e=Ak (Aj #[I J 0,I J 0])/\Below (Z U.1) U w'):=qd λU d=>by
  have:=ym (V5.h (qg Q d)) nS;rwa[F8,aW]at this
 have CMP:Hid (∀U,Below (Z V.1) V U->Calls prog 25 #[C z n u] U λe w'=>Below (Z U.1) U w'/\∃g c,e=Ak (Aj #[C (G (D g 0 O)) N c,I J 0,I J 0])/\ue w' (Z U.1) 5 1 (C (G (D g 0 O)) N c) N (vi o)):=qd λU d=>by
  have:=qad ts z u U (hL.h (qg Q d) ux) (V5.h (qg Q d));rw[F8]at this;refine this.mono ?_;rintro e w'⟨t,⟨_,v,f,E⟩|⟨f,_⟩⟩;rw[DC]at E;have PQ:ue w' (Z U.1) 5 1 v N (vi o):=by rwa[<-hN]
  obtain⟨_,h0⟩|⟨g,cap,cur,rfl,_⟩:=PQ.2;omega;exact⟨t,g,cap,f,PQ⟩;exact absurd hR f
 have EVT:Hid (∀U,Below (Z V.1) V U->Calls prog 18 #[C P m H] U λe w'=>e=Ak (C (G ⟨Z U.1,0,O⟩) (m+8) (m+8))/\EvRow w' (Z U.1) ps 8/\Below (Z U.1) U w'):=qd λU d=>by
  have:=qes (A7.h (qg Q d)) oG;unfold qaw at this;rwa[hm]at this
 have STL:Hid (∀U lb,Below (Z V.1) V U->EvRow U lb ps 8->Calls prog 21 #[C (G (D lb 0 O)) (m+8) (m+8),C P m H] U λe w'=>e=Ak (Ah ui)/\Below (Z U.1) U w'):=qd λU lb d hr=>by
  have:=qgd hr (A7.h (qg Q d)) oG;rwa[hm]at this
 have RUN:Hid (∀U b lb base,SpR U base b o->EvRow U lb ps 8->Calls prog 30 #[C (G (D b 0 O)) N (N+8),C (G (D lb 0 O)) m (m+8)] U λe w'=>∃v,e=Ak (Aj #[v,I J (if zQ ps then 0 else 7)])/\IsAt w' (Z U.1) v (if zQ ps then qru ps ts n else[])/\Below (Z U.1) U w'):=qd λU b lb base t f=>by
  have hb:=t.bytes;rw[hN]at hb;have:=vms o _ ps (C (G (D lb 0 O)) m (m+8)) U hb (An ⟨lb,0,m+8,by rw[hm],by rw[hm];omega,f.ev,f.lt⟩) hg;rw[L4]at this;refine this.mono ?_;rintro e w'⟨v,E,h4,h5⟩;rw[F8]at E h4;cases T:zQ ps;rw[T]at E h4;exact⟨v,E,h4,h5⟩;rw[T]at E h4;exact⟨v,E,h4,h5⟩
 have EVE:Hid (∀U,Below (Z V.1) V U->Calls prog 31 #[C P m H] U λe w'=>e=Ak (Ah (zQ ps))/\Below (Z U.1) U w'):=qd λU d=>pR (A7.h (qg Q d)) hg
 have MET:Hid (zQ ps=ui->∀U,Below (Z V.1) V U->Calls prog 32 #[C z n u,C P m H] U λe w'=>∃v,e=Ak v/\IsAt w' (Z U.1) v (qru ps ts n)/\Below (Z U.1) U w'):=qd λT U d=>by
  have:=vkx (cap:=u) (V5.h (qg Q d)) h8 (A7.h (qg Q d)) hg (vat hR T);rwa[F8]at this
 have AP:Hid (A (qru ps ts n)<=8):=qd (md (quf ps ts n))
 have CPY:Hid (∀U base g c b b0,ue U b0 5 1 (C (G (D g 0 O)) N c) N (vi o)->ue U base 5 1 (C (G (D b 0 O)) (N+8) (N+8)) (N+8) (madeCells #[I .u8 0] ((N+8) * 1)).toList->∃W',(cpR #[65,65] 3 #[C (G (D b 0 O)) (N+8) (N+8),C (G (D g 0 O)) N c]).run prog U=.ok (goInt N) W'/\Hid (SpR W' base b o)/\Hid (Below base U W')):=qd λU base g c b b0 t f=>by
  subst hN;refine qw7 (off:=0) (λj x hj=>?_) f;have:=World.ownsRow.cells t (g:=g) rfl j (I .u8 (x.toNat:Int)) (by simp[vi,hj]);rwa [show(⟨g,0,O⟩:Addr).add j=⟨g,0+j,O⟩ by unfold Addr.add;split<;>simp_all]at this
 obtain⟨i0,hi,F5,B9,D8⟩:=info_parts vbh;obtain⟨K,B⟩:=ie ((if zQ ps then 0 else 7):Int);obtain⟨Af,y⟩:=ie ((if zQ ps then qru ps ts n else[]));rw[B,y]at RUN;have HKG:=qd (And.intro B y)
 have KC:Hid (∀(U Ad:Ao) (g cc ib ud uc Ac:Nat) (gv:Ap),Below (Z V.1) V U->ue U ud 5 1 (C (G (D g 0 O)) N cc) N (vi o)->SpR U uc ib o->IsAt U Ac gv Af->Z W.1<=ud->Z W.1<=uc->Z W.1<=Ac->g≠ib->Ad=U.alloc (Al #[C O 0 0,C (G (D g 0 O)) N cc,I J 0] 74)->Calls prog 29 #[Ag (G ⟨Z w.1,0,O⟩),Ag (G ⟨Z U.1,0,O⟩)] Ad λe W'=>e=Ak (Aj #[])/\KtA pv w pls hs 4 gv (A Af) (zp Af) (λk=>ug (C (G (D ib 0 O)) (N+8) (N+8))=G k) W'/\ue W' (Z w.1+1) 5 1 (C (G (D ib 0 O)) (N+8) (N+8)) (N+8) (vi o++List.replicate 8 (I .u8 0))):=qd λU Ad g cc ib ud uc Ac gv d t f E hA hB hC hne hY=>by
  unfold SpR at f;rw[hN]at f;exact vrb h (qg Q d) t f E hA hB hC (λk e1 e2=>hne (by simp[Value.ownBlock]at e1 e2;omega)) hY hn uq
 unfold oxV;simp only;rw[F8];have BLW:Hid (∀U X,Below (Z V.1) V U->Below (Z U.1) U X->Below (Z V.1) V X):=qd λU X t f=>qg t f
 rw[fR]at KC BLW OPV CMD CMP EVT STL EVE MET;have m0:=it m;have n8:(N:Int)<=(N:Int)+8:=uq;have m8:(m:Int)<=(m:Int)+8:=uq;have n8':N<=N+8:=uq;have uR:=qd (And.intro hN PC);subst hV;go_enter func13,ntmps13
 go_upto_region 8 with(first
  | (go_at_call 18;have _q:=Z8;refine be (EVT _ Z8) ?_;rintro w5⟨cL,T5⟩;have aE:=qd cL;have SV:=qd (qp HC4 T5 ux);have JB:=qd (HI4.h T5);have L9:=qd (BLW _ _ Z8 T5);obtain⟨o5,l5⟩:=q9 OPV _ L9)
  | (at_make;have _q:=G3;refine wpList_make_full _ rfl _ _ 65 rfl (Z w2.1) 5 i0 _ 1 underlying65 hi F5 B9 J J _ _ (N+8) rfl rfl uq uq (by rw[D8];omega) (by unfold maxLen;omega) ux ?_;intro w3 CC sN;have iQ:Below (Z w2.1) w2 w3:=(Go.RowKit.Below.grown uy sN ux (λk hk=>(by cases hk)));have hO3:=qp AY iQ ux;obtain⟨w4,iL,HI4,SY⟩:=q9 CPY w3 _ _ _ _ _ hO3 CC;have JM:=qd (iQ.trans SY);have HC4:=qd (qp AY JM ux);have Z8:=qd (BLW _ _ G3 JM);obtain⟨o4,l4⟩:=q9 OPV _ Z8)
  | (go_at_call 25;have _q:=D9;refine(CMP _ D9).mono ?_;rintro e w2⟨A3,g,cc,rfl,L7⟩;have G3:=qd (BLW _ _ D9 A3);have AY:=qd L7;obtain⟨o2,l2⟩:=q9 OPV _ G3;have z2:=A3.size;have oF:g<Z w2.1:=(L7.lt g rfl).2;clear A3 L7)
  | (go_at_call 26;refine be (CMD _ uy) λw1 A0=>?_;have D9:=qd ((A0.mono (show Z W.1+1<=_ by simp)));obtain⟨o1,l1⟩:=q9 OPV _ D9;clear A0))
 have CEL:=qd o5
 go_cut [12,13] (λs12 s13 wx=>s13=I J K/\Hid (IsAt wx (Z w5.1) s12 Af)/\Hid (Below (Z w5.1) w5 wx))
 case first=>
  go_region_held3 (λX=>∀i,X.cell? ⟨Z W.1,i,O⟩=(#[I J kind,I J nn,I J id,Y (BS text),C z n u,C P m H]:Array Ap)[i]?) (first|with_reducible assumption|go_keep) ((go_at_call 30;refine((λhb=>q9 RUN _ _ _ _ (JB.h hb) (aE.h hb)) (by first|exact(uy).drew|exact(uy))).mono ?_;rintro e w6⟨v,rfl,MP,aN⟩;have HV6:=qd MP;have dE:=qd aN;have oM:∀i,w6.cell? ⟨Z W.1,i,O⟩=(#[I J kind,I J nn,I J id,Y (BS text),C z n u,C P m H]:Array Ap)[i]?:=λi=>((qi aN).1 _ i ut).trans (CEL i);clear MP aN))
  all_goals
   go_wp2
   go_meet
   exact⟨rfl,HV6,qd (qg uy.drew dE)⟩
 obtain⟨rfl,oS,dE⟩:=hcut;obtain⟨ga,gc,rfl,_⟩:=(q9 oS).cells;obtain⟨Ab,hJ⟩:=ie (A Af);have HJ:=qd hJ;rw[hJ]at oS |-;have uQ:=qd (aE.h dE);have HI6:=qd (JB.h dE);have HC6:=qd (qp SV dE ux);have AZ:=qd (BLW _ _ L9 dE);obtain⟨o6,l6⟩:=q9 OPV _ AZ;have z6:=(q9 dE).size;clear o1 o2 o4 o5 CEL iL hJ JB SV aE L9 Z8 HC4 HI4 JM G3 AY D9
 go_upto_region 10 with(go_at_call 21;refine be (STL _ _ AZ uQ) λw7 dW=>?_;have DP:=qd (qp oS dW ux);have WJ:=qd (HI6.h dW);have HC7:=qd (qp HC6 dW ux);have JJ:=qd (BLW _ _ AZ dW);obtain⟨o7,l7⟩:=q9 OPV _ JJ;have z7:=dW.size;clear dW)
 clear o6
 have HCV:Hid (∀X,Below (Z w7.1) w7 X->(convert 65 9 (C (G ⟨Z w2.1,0,O⟩) N (N+8))).run prog X=.ok (Y (BS o)) X/\(convert 65 9 (C (G (D g 0 O)) N cc)).run prog X=.ok (Y (BS o)) X):=qd λX hX=>by
  have t:=(WJ.h hX).bytes;rw[(q9 uR).1]at t;have f:=qp HC7 hX ux;exact⟨qc8 t,qc8 (OB.bytes (l:=o) (by unfold OB;rwa[(q9 uR).1]))⟩
 have cv1:=λk=>(HCV (w7.drewN k) (eg uy k)).1
 have cv2:=λk=>(HCV (w7.drewN k) (eg uy k)).2
 obtain⟨BL,hBL⟩:=ie (BS o);simp only[hBL]at cv1 cv2;have hq:(BL.toList==BL.toList)=ui:=mu _;clear hBL
 go_quiet (fail)
 go_wp2
 clear cv1 cv2 hq o7
 go_loopw [15,16] (λs i wr=>∃q:Nat,N<=q/\q<=N+8/\s=Ah ui/\i=I J (q:Int)/\Hid (Below (Z w7.1) w7 wr)) (λ_ i _=>N+8 - (intOf i).toNat)
 exact⟨N,ux,n8',rfl,rfl,qd (eg uy _)⟩;obtain⟨q,ND,fY,rfl,rfl,S⟩:=hrel;have z8:=(q9 S).size;have Z9:=it q
 by_cases A1:q<N+8
 .have A5:(q:Int)<(N:Int)+8:=uq
  have q0:=(WJ.h S).zero (j:=q) (by rwa[(q9 uR).1]) (by rwa[(q9 uR).1])
  go_wp2
  go_roundw
  case rel=>exact⟨q+1,uq,uq,rfl,by go_num,S⟩
  simp[intOf];omega
 obtain rfl:q=N+8:=uq;have A5:¬((N+8:Nat):Int)<(N:Int)+8:=uq;have HG8:=qd (qp DP S ux);have HI8:=qd (WJ.h S);have HC8:=qd (qp HC7 S ux);have tU:=qd (BLW _ _ JJ S);obtain⟨o8,l8⟩:=q9 OPV _ tU;clear DP WJ HC7 JJ S oS HI6 HC6 AZ uQ dE;have JC:=qd hn;obtain⟨B,y⟩:=q9 HKG;cases T:zQ ps
 .rw[T]at EVE B y
  simp only[dk,if_false]at B y;have hJ0:=q9 HJ;rw[<-y]at hJ0;obtain rfl:Ab=0:=hJ0.symm;subst B;have HGL:Hid (A Af<=100000000):=qd (by rw[q9 HJ];omega);clear y hJ0 MET AP
  go_wp2_with(first
   | (go_at_call 29;have _q:=SD;refine be (vbn SD rfl JC HGL) λw13 sJ=>?_;have HKE:=qd sJ;clear sJ)
   | (go_at_call 29;have _q:=uS;refine be (vbo uS SC rfl JC uq) λw12 sK=>?_;have SD:=qd sK;clear sK uS SC)
   | (go_at_call 29;have _q:=SU;refine be (KC _ _ _ _ _ _ _ _ _ oV SU HI9 LU uq uq uq uq rfl) ?_;rintro w11⟨sL,aV⟩;have uS:=qd sL;have SC:=qd aV;clear sL aV SU)
   | (go_at_call 31;refine be (EVE _ tU) λw9 r=>?_;have LU:=qd (qp HG8 r ux);have HI9:=qd (HI8.h r);have SU:=qd (qp HC8 r ux);have oV:=qd (BLW _ _ tU r);obtain⟨o9,l9⟩:=q9 OPV _ oV;have z9:=r.size;clear r))
  go_ret;exact⟨rfl,q9 HKE⟩
 rw[T]at EVE B y;simp only[if_true]at B y;have MET:=qd (MET T);rw[y]at MET AP;have HGL:Hid (A Af<=100000000):=qd (md (q9 AP));subst B;clear y
 go_wp2_with(first
  | (go_at_call 29;have _q:=SD;refine be (vbn SD rfl JC HGL) λw13 sJ=>?_;have HKE:=qd sJ;clear sJ)
  | (go_at_call 29;have _q:=uS;refine be (vbo uS SC rfl JC uq) λw12 sK=>?_;have SD:=qd sK;clear sK uS SC)
  | (go_at_call 29;have _q:=JI;refine be (KC _ _ _ _ _ _ _ _ _ DS JI HI11 HG11 uq uq uq uq rfl) ?_;rintro w11⟨sL,aV⟩;have uS:=qd sL;have SC:=qd aV;clear sL aV JI)
  | (go_at_call 33;refine be (vby Af _ _ _ _ _ SK HW10 AP) λw11 oI=>?_;have HG11:=qd (qp SK oI ux);have HI11:=qd (HI10.h oI);have JI:=qd (qp HC10 oI ux);have DS:=qd (BLW _ _ DU oI);obtain⟨o11,l11⟩:=q9 OPV _ DS;have z11:=oI.size;clear oI)
  | (go_at_call 32;refine(MET _ oV).mono ?_;rintro e w10⟨v,rfl,XI,oJ⟩;have HW10:=qd XI;have SK:=qd (qp LU oJ ux);have HI10:=qd (HI9.h oJ);have HC10:=qd (qp SU oJ ux);have DU:=qd (BLW _ _ oV oJ);obtain⟨o10,l10⟩:=q9 OPV _ DU;have z10:=oJ.size;clear oJ)
  | (go_at_call 31;refine be (EVE _ tU) λw9 r=>?_;have LU:=qd (qp HG8 r ux);have HI9:=qd (HI8.h r);have SU:=qd (qp HC8 r ux);have oV:=qd (BLW _ _ tU r);obtain⟨o9,l9⟩:=q9 OPV _ oV;have z9:=r.size;clear r))
 go_ret;exact⟨rfl,q9 HKE⟩
theorem vkm(h:ApAt w W pv hv hs pls (λ_=>False))(a:OxOk W x)(b:(qa1 x.ts).1≠0):uo 13 #[Ag (G ⟨Z w.1,0,O⟩),oxV x] W λe W'=>e=Ak (Ah ui)/\ApAt w W' pv hv hs pls (λ_=>False):=by
 obtain⟨kind,nn,id,text,d,c,ts,ev,ps⟩:=x;obtain⟨u,s,t,o⟩:=a.ev.slice;have o:ev=C u s t:=o;subst o;have y:TxIn W d ts:=a.tx;have q:A ts<=c:=a.tc;have b:(qa1 ts).1≠0:=b;obtain⟨n,m⟩:=ie (A ts);obtain⟨V,r⟩:=il (W.alloc (Al #[I J kind,I J nn,I J id,Y (BS text),C d n c,C u s t] 34):Ao);have j:Xb W V:=r ▸ uy.alloc ux _
 obtain⟨E,P,f⟩:∃E P,qa1 ts=(E,P):=⟨_,_,rfl⟩
 have CMD:Hid (uo 26 #[C d n c] V λe w'=>e=Ak (Aj #[I J E,I J (P:Nat)])/\ApAt w w' pv hv hs pls (λ_=>False)):=qd (by
  have:=ym (y.h j) q;rw[m,f]at this
  exact this.mono λe w' ⟨K,H⟩=>⟨K,h.h (qg j H)⟩)
 have B:¬E=0:=by rwa[f]at b
 unfold oxV;simp only;rw[m];clear h a y q j b f m;subst r;go_enter func13,ntmps13
 go_wp2_with(refine be CMD λw2 z=>?_;have Q:=qd z;clear z)
 go_ret;exact⟨rfl,q9 Q⟩
end
section
variable {w W:Ao} {k:Nat} {x:Ox}
theorem vfe(h:ApOk w k W)(f:OxOk w x)(q:LibOk w)(K:k<=1599289640401)(hd:x.Q=3\/x.Q=4):uo 7 #[Ag (G ⟨Z w.1,0,O⟩),oxV x] W λe W'=>e=Ak (Ah ui)/\ApOk w (k+1) W':=by
 obtain⟨H,B,E,u⟩:=f.ev.slice
 have o:Hid (∀U,Xb W U->uo 12 #[Ag (G ⟨Z w.1,0,O⟩),oxV x] U (λe W'=>e=Ak (Ah ui)/\ApOk w (k+1) W')/\uo 13 #[Ag (G ⟨Z w.1,0,O⟩),oxV x] U λe W'=>e=Ak (Ah ui)/\ApOk w (k+1) W'):=qd λU y=>by
  obtain⟨pv,hv,hs,pls,m,Q,z,P⟩:=h.h y;have b:=m.hr.at'.bel;have e:∀(W':Ao) (hv':Ap) (a:List (Nat×Nat)),ApAt w W' pv hv' a pls (λ_=>False)->A a<=A hs+12->ApOk w (k+1) W':=λW' hv' a c d=>⟨pv,hv',a,pls,c,uq,λp hp=>md (z p hp),uq⟩
  by_cases hR:(qa1 x.ts).1=0
  exact⟨(qgr m (f.h b) (q.h b ux) uq hR).mono λ_ W' ⟨c,hv',a,d,s⟩=>⟨c,e W' hv' a d uq⟩,(vdl m (f.h b) (q.h b ux) uq hR).mono λ_ W' ⟨c,hv',a,d,s⟩=>⟨c,e W' hv' a d uq⟩⟩;exact⟨(qik m (f.h b) (q.h b ux) uq hR).mono λ_ W' ⟨c,hv',a,d,s⟩=>⟨c,e W' hv' a d uq⟩,(vkm m (f.h b) hR).mono λ_ W' ⟨c,d⟩=>⟨c,e W' hv hs d uq⟩⟩
 have r:=qd ((Below.refl (Z W.1) W).alloc ux (Al #[I J x.Q,I J x.n,I J x.id,Y (BS x.K),C x.la (A x.ts) x.lc,C H B E] 34));unfold oxV at o |-;rw[u]at o |-;clear h f q u;obtain hd|hd:=hd
 all_goals
  rw[hd]at o r |-;clear hd;go_enter func7,ntmps7
  go_wp2_with(first|(go_at_call 12;refine(o _ r).1.mono ?_;rintro e w2⟨rfl,j⟩;have t:=qd j;clear j)|(refine(o _ r).2.mono ?_;rintro e w2⟨rfl,j⟩;have t:=qd j;clear j))
  go_ret;exact⟨rfl,q9 t⟩
theorem qyl(h:ApOk w k W)(d:OxOk w x)(f:LibOk w)(m:k<=1599289640401)(hd:1<=x.Q):uo 7 #[Ag (G ⟨Z w.1,0,O⟩),oxV x] W λe W'=>e=Ak (Ah ui)/\ApOk w (k+1) W':=by
 have j:=d.h h.bel;have a:=f.h h.bel ux;rcases(show x.Q=1\/x.Q=2\/(x.Q=3\/x.Q=4)\/5<=x.Q by omega) with hd|hd|hd|hd;exact(vfc j a.err hd).mono λe W' ⟨c,b⟩=>⟨c,(h.h b).more⟩
 exact(qyk j a hd).mono λe W' ⟨c,b⟩=>⟨c,(h.h b).more⟩
 exact vfe h d f m hd;exact vfd h d f m hd
end
theorem vpu(w:Ao)(v:Ap)(l:List Ox)(b:OpsAt w v l)(f:LibOk w):lz 3 #[v] w (Ah ui):=by
 have s:=qd (vj8 w)
 have r:Hid (∀W,Xb w W->lz 5 #[v,I J 1,I J 11] W (I J (-1))):=qd λW c=>by
  have b:=b.h c;have y:88 * A l<=140737488355328:=by obtain⟨_,_,_,_,h,_⟩:=b;exact h
  exact(qyt 1 11 (ApOk W) W v l b (ApOk.start W) (λk V h=>h.bel) (λk V z h c=>h.h c) (λk V h=>h.more) (λk V x m h j hd=>qyl h j (f.h c ux) uq uq) (λk V m h=>vj4 h uq)).mono λe w' ⟨q,o⟩=>⟨q,o.bel⟩
 obtain⟨a,cap,rfl,_⟩:=b;clear f;go_enter func3,ntmps3
 go_wp2_with(first|(go_at_call 4;refine be s λu d=>?_)|(refine be (r _ (by first|exact d|exact d.drew)) λw2 t=>?_))
 go_ret;exact⟨rfl,qg (by first|exact d|exact d.drew) t⟩
end Go.Proofs.YtmepkbgodcffoaaGreatDoor
