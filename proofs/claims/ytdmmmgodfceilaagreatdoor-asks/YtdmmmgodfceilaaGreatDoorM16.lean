/- The document's answer -/
import Derived.Test.YtdmmmgodfceilaaGreatDoorM12
import Derived.Test.YtdmmmgodfceilaaGreatDoorM15
set_option maxHeartbeats 16000000
set_option maxRecDepth 100000
namespace Go.Proofs.YtdmmmgodfceilaaGreatDoor
open Go.RowKit Go.Proofs.Tryz
open Go renaming Value->Ap,World->Ao
open Go.Ending renaming returned->Ak
open Go.IntKind renaming i64->J
open Go.Obj renaming cells->Al
open Go.Value renaming agg->Ai,bool->Ah,int->I,pointer->Ag,slice->C,string->Y,tuple->Aj
open Option renaming none->O,some->G
open Or renaming inl->Am,inr->An
variable{a:Addr}{t:Ast}{neg:Bool}{c:Co}{o:Int}{ts:List tu}{cs:List Int}{l:List Nat}{ps:List Pr}{ns:List RN}{vs:List V}{xs:List Ap}{b base cap k m n pb rb:Nat}{N:Nat->Prop}{p:Pay}{st:St}{x y:V}{av ev:Ap}{U W w w' wr:Ao}
section
variable {w:Ao} {a N c:Int} {iv lv ev:Ap} {S E:tq} {neg:Bool}
theorem qzy(q:0<n)(u:b<w.1.size)(j:Xc w b 0 (I J x.A))(i:Xc w b 1 (I J x.K))(g:Xc w b 2 (Y (BS x.V)))(e:Rng x.K):
  ut 98 #[Ai #[Y ⟨#[112]⟩,I J a,iv,Y S,Y E,lv,I J N,Ah neg,I J c],C (G ⟨b,0,O⟩) n cap,ev] w (vV (qkw (iV 0) x)):=by
 have s:=ur n;have RN:=qd (λw=>qr1 (iV 0) x ⟨ue,ue⟩ e w);simp only[vV,iV]at RN;go_enter func98,ntmps98
 go_wp2_with(go_at_call 135;refine be (RN _) λw' d=>?_;obtain⟨f,r⟩:=qk d)
 refine bj (by simp[go_sem,f]<;>rfl) rfl ⟨rfl, ?_⟩;exact((((qg (qK _ _ _) d).setCell uc _).setCell uc _).setCell uc _)
theorem qzz(q:0<n)(u:b<w.1.size)(j:Xc w b 0 (I J x.A))(i:Xc w b 1 (I J x.K))(g:Xc w b 2 (Y (BS x.V)))(e:Rng x.K):
  ut 98 #[Ai #[Y ⟨#[110]⟩,I J a,iv,Y S,Y E,lv,I J N,Ah neg,I J c],C (G ⟨b,0,O⟩) n cap,ev] w (vV (quf (iV 0) x)):=by
 have s:=ur n;have RN:=qd (λw=>qr2 (iV 0) x ⟨ue,ue⟩ e w);simp only[vV,iV]at RN;go_enter func98,ntmps98
 go_wp2_with(go_at_call 135;refine be (RN _) λw' d=>?_;obtain⟨f,r⟩:=qk d)
 refine bj (by simp[go_sem,f]<;>rfl) rfl ⟨rfl, ?_⟩;exact((((qg (qK _ _ _) d).setCell uc _).setCell uc _).setCell uc _)
theorem vgd(X:1<n)(G0:b<w.1.size)(Q:Xc w b 0 (I J x.A))(P:Xc w b 1 (I J x.K))(M:Xc w b 2 (Y (BS x.V)))(L:Xc w b 3 (I J y.A))(K:Xc w b 4 (I J y.K))(H:Xc w b 5 (Y (BS y.V))):
  ut 98 #[Ai #[Y ⟨#[60,62]⟩,I J a,iv,Y S,Y E,lv,I J N,Ah neg,I J c],C (G ⟨b,0,O⟩) n cap,ev] w (vV (yq (eqV x y))):=by
 have Z:=ur n;have R:(1:Int)<(n:Int):=ub;have RE:=qd (λw=>qb7 x y w);have RN:=qd (λw=>qhn (eqV x y) w);simp only[vV]at RE RN;go_enter func98,ntmps98
 go_wp2
 go_region_with(first|(go_at_call 138;refine be (RE _) λd g=>?_;have F:=qg (qK w _ _).drew g;obtain⟨f,v⟩:=qk g;have B8:w.1.size+2<=d.1.size:=(by have:=g.size;change ((w.alloc _).alloc _).1.size<=_ at this;simp at this;omega);have s:Xc d (w.1.size+1) 0 (I J 0):=(f _ 0 (by show _<((w.alloc _).alloc _).1.size;simp)).trans (by show((w.alloc _).alloc _).cell? _=_;simp);have r:Xc d (w.1.size+1) 1 (I J 0):=(f _ 1 (by show _<((w.alloc _).alloc _).1.size;simp)).trans (by show((w.alloc _).alloc _).cell? _=_;simp);have q:Xc d (w.1.size+1) 2 (Y ⟨#[]⟩):=(f _ 2 (by show _<((w.alloc _).alloc _).1.size;simp)).trans (by show((w.alloc _).alloc _).cell? _=_;simp);have sz:Xf d (w.1.size+1):=(λi=>(v _ i (by show _<((w.alloc _).alloc _).1.size;simp)).trans (by show((w.alloc _).alloc _).frozen? _=_;simp));clear g f v)|(go_at_call 99;refine be (RN _) λw' j=>?_;obtain⟨e,u⟩:=qk j;have D:=qg F j;have B:=(e _ 0 ub).trans s;have A:=(e _ 1 ub).trans r;have z:=(e _ 2 ub).trans q;have T:=(λi=>(u _ i ub).trans (sz i));clear j e u s r q sz))
 all_goals go_wp2
 all_goals refine bj (by simp[go_sem,B,A,z]<;>rfl) rfl ⟨rfl, ?_⟩
 all_goals exact(((D.setCell uc _).setCell uc _).setCell uc _)
theorem yy(f:tq)(i:([[110,97,109,101],[110,117,109,98,101,114],[116,101,120,116],[84,82,85,69],[70,65,76,83,69],[112],[110],[78,79,84],[65,78,68],[79,82],[61],[60,62],[66,69,84,87,69,69,78],[76,73,75,69],[78,85,76,76],[73,78]].any (f.toList==·))=false){r:V}(hn:1<n)(e:b<w.1.size)(A:Xc w b 0 (I J x.A))(z:Xc w b 1 (I J x.K))(v:Xc w b 2 (Y (BS x.V)))(u:Xc w b 3 (I J y.A))(s:Xc w b 4 (I J y.K))(q:Xc w b 5 (Y (BS y.V)))
  (j:∀w,ut 135 #[Y f,vV x,vV y] w (vV r)) :
  ut 98 #[Ai #[Y f,I J a,iv,Y S,Y E,lv,I J N,Ah neg,I J c],C (G ⟨b,0,O⟩) n cap,ev] w (vV r):=by
 simp only[List.any_cons,List.any_nil,ii,mj]at i;obtain⟨k0,k1,k2,k3,Z,X,T,R,Q,P,K,H,F,D,B,FJ⟩:=i;have bG:=ur n;have L:(1:Int)<(n:Int):=ub;have M:¬b=w.1.size:=ub;have iE:¬b=w.1.size+1:=ub;have OA:¬w.1.size+1=b:=ub;have eO:0<n:=ub;have RN:=qd j;clear j;simp only[vV]at RN;go_enter func98,ntmps98
 go_wp2
 go_region_held3 (λW=>Xc W w.1.size 0 (Y f)/\Xc W b 0 (I J x.A)/\Xc W b 1 (I J x.K)/\Xc W b 2 (Y (BS x.V))/\Xc W b 3 (I J y.A)/\Xc W b 4 (I J y.K)/\Xc W b 5 (Y (BS y.V))) (first|with_reducible assumption|go_keep) ((go_at_call 135;refine be (RN _) λw' g=>?_;obtain⟨d,hf⟩:=qk g;have hS:(Xc w' w.1.size 0 (Y f)/\Xc w' b 0 (I J x.A)/\Xc w' b 1 (I J x.K)/\Xc w' b 2 (Y (BS x.V))/\Xc w' b 3 (I J y.A)/\Xc w' b 4 (I J y.K)/\Xc w' b 5 (Y (BS y.V))):=⟨(d _ 0 (by show _<((w.alloc _).alloc _).1.size;simp;try omega)).trans (by show((w.alloc _).alloc _).cell? _=_;simp),(d _ 0 (by show _<((w.alloc _).alloc _).1.size;simp;omega)).trans ((qk (qK w _ _)).1 b 0 e |>.trans A),(d _ 1 (by show _<((w.alloc _).alloc _).1.size;simp;omega)).trans ((qk (qK w _ _)).1 b 1 e |>.trans z),(d _ 2 (by show _<((w.alloc _).alloc _).1.size;simp;omega)).trans ((qk (qK w _ _)).1 b 2 e |>.trans v),(d _ 3 (by show _<((w.alloc _).alloc _).1.size;simp;omega)).trans ((qk (qK w _ _)).1 b 3 e |>.trans u),(d _ 4 (by show _<((w.alloc _).alloc _).1.size;simp;omega)).trans ((qk (qK w _ _)).1 b 4 e |>.trans s),(d _ 5 (by show _<((w.alloc _).alloc _).1.size;simp;omega)).trans ((qk (qK w _ _)).1 b 5 e |>.trans q)⟩))
 all_goals go_wp2
 all_goals refine bj (by simp[go_sem,d]<;>rfl) rfl ⟨rfl, ?_⟩
 all_goals exact((((qg (qK _ _ _).drew g).setCell uc _).setCell uc _).setCell uc _)
end
def pt(o:Int):Nat:=if o<=4 then 0 else if o=5\/o=14\/o=15\/o=21\/o=22\/o=23 then 1 else if o=20 then 3 else 2
structure NG(n:RN)(p:Pay):Prop where
 is:∃ins neg c,n={ jC p ins neg with H:=c }/\pt p.op<=ins.length
 o0:0<=p.op
 o23:p.op<=23
 K:Rng p.K
 bp:Bp p
 bz:Bz p
theorem qb3{ins:List Nat}(g:pt p.op<=ins.length)(h:0<=p.op)(i:p.op<=23)(e:Rng p.K)(f:Bp p)(d:Bz p):∃q,NG (jC p ins neg) q:=⟨p,⟨ins,neg,0,rfl,g⟩,h,i,e,f,d⟩
theorem qfs(h:o=5\/o=14\/o=15\/o=21\/o=22\/o=23):pt o=1:=by unfold pt;rw[ak ub,bo h]
theorem qm7(h:6<=o/\o<=13\/16<=o/\o<=19):pt o=2:=by unfold pt;rw[ak ub,ak ub,ak ub]
theorem qft(h:o=20):pt o=3:=by unfold pt;rw[ak ub,ak ub,bo h]
theorem qvc(h:o<=4):pt o=0:=by unfold pt;rw[bo h]
theorem qxw:∀{t:Ast} {off:Nat} {l:List RN},Flat t off l->ShA t->qia t->qi6 t->BzA t->∀n∈l,∃p,NG n p:=by
 intro t off l h
 induction h with
 | leaf p off=>
  intro d f g e n i;obtain rfl:=cu.1 i;have s:=d.1;have r:=d.2;exact qb3 (by rw[qvc r];exact bt _) s ub f g e
 | un p hx ih=>
  intro d f g e n i;rcases cr.1 i with h|h;exact ih d.2.2.2 f.2 g.2 e.2 n h;obtain rfl:=cu.1 h;have j:=d.1;exact qb3 (by rw[qfs j];exact ui) ub ub f.1 g.1 e.1
 | bin p hx hy ihx ihy=>
  intro d f g e n i;rcases cr.1 i with h|h;rcases cr.1 h with h|h;exact ihx d.2.1 f.2.1 g.2.1 e.2.1 n h;exact ihy d.2.2 f.2.2 g.2.2 e.2.2 n h;obtain rfl:=cu.1 h;have j:=d.1;exact qb3 (by rw[qm7 j];exact ui) ub ub f.1 g.1 e.1
 | tri p hx hy O9 ihx ihy ihz=>
  intro d f g e n i;rcases cr.1 i with h|h;rcases cr.1 h with h|h;rcases cr.1 h with h|h;exact ihx d.2.1 f.2.1 g.2.1 e.2.1 n h;exact ihy d.2.2.1 f.2.2.1 g.2.2.1 e.2.2.1 n h;exact ihz d.2.2.2 f.2.2.2 g.2.2.2 e.2.2.2 n h;obtain rfl:=cu.1 h;have j:=d.1;exact qb3 (by rw[qft j];exact ui) ub ub f.1 g.1 e.1
 | neg1 pl q hq hx ih=>
  intro d f g e n i;obtain⟨_,_,_,d⟩:=d;obtain⟨_,f⟩:=f;obtain⟨_,g⟩:=g;obtain⟨_,e⟩:=e;rcases cr.1 i with h|h;exact ih d.2.2.2 f.2 g.2 e.2 n h;obtain rfl:=cu.1 h;have j:=d.1;exact qb3 (by rw[qfs j];exact ui) ub ub f.1 g.1 e.1
 | neg3 pl q hq hx hy O9 ihx ihy ihz=>
  intro d f g e n i;obtain⟨_,_,_,d⟩:=d;obtain⟨_,f⟩:=f;obtain⟨_,g⟩:=g;obtain⟨_,e⟩:=e;rcases cr.1 i with h|h;rcases cr.1 h with h|h;rcases cr.1 h with h|h;exact ihx d.2.1 f.2.1 g.2.1 e.2.1 n h;exact ihy d.2.2.1 f.2.2.1 g.2.2.1 e.2.2.1 n h;exact ihz d.2.2.2 f.2.2.2 g.2.2.2 e.2.2.2 n h;obtain rfl:=cu.1 h;have j:=d.1;exact qb3 (by rw[qft j];exact ui) ub ub f.1 g.1 e.1
theorem vbm{n:RN}(h:n∈zH ns cs):∃m∈ns,∃c,n={ m with H:=c }:=by
 obtain⟨i,d⟩:=dd h;rw[yC]at d
 cases hm:ns[i]? with
 | none=>rw[hm]at d;cases d
 | some m=>
  rw[hm]at d;simp only[nl]at d;injection d with d;exact⟨m,bg hm,_,d.symm⟩
theorem qqs(h:∀n∈ns,∃p,NG n p):∀n∈zH ns cs,∃p,NG n p:=by
 intro n d;obtain⟨m,e,c,rfl⟩:=vbm d;obtain⟨p,⟨ins,neg,s,rfl,f⟩,q,r,j,i,g⟩:=h m e;exact⟨p,⟨ins,neg,c,rfl,f⟩,q,r,j,i,g⟩
theorem vcx(h:Bz p)(f:p.op=22):(zJ p.h p.V).isSome=true:=by
 rcases(h.like f).2 with e|⟨_,e⟩
 .rw[e]
  have:∀l:tu,(zJ [] l).isSome=true:=by
   intro l
   induction l with
   | nil=>rfl
   | cons c t ih=>
    cases t with
    | nil=>rfl
    | cons d r=>rw[zJ,ak uc];rw[Option.isSome_map];exact ih
  exact this _
 exact e
theorem qtn(x:V)(A:Sh x)(P E:tu)(D:P.length<=1000)(C:(zJ E P).isSome=true)(w:Ao):
  Calls prog 139 #[vV x,Y (BS P),Y (BS E)] w λe w'=>e=Ak (vV (qbu x P E))/\Xb w w':=by
 obtain⟨ps,d⟩:=Option.isSome_iff_exists.1 C;have H:=qd (λw=>qz7 (BS x.V) (BS P) (BS E) A D d w);have B:qiv P E x.V=ko ps (BS x.V).data.toList (λj=>j==0):=by unfold qiv;rw[d];rfl
 rw[<-B]at H;unfold qbu;generalize qiv P E x.V=R at *;generalize BS P=pb at *;generalize BS E=eb at *;have RT:=qd (λw=>vQ R w);clear A D C d B;cases hk:(x.A==3)
 .have Q:(x.A != 3)=true:=by simp[bne,hk]
  simp only[dg,if_false]
  conv=>arg 3;simp only[vV]
  go_enter func139,ntmps139
  go_wp2
  exact tw ⟨rfl,qK _ _ _⟩
 have Q:(x.A != 3)=false:=by simp[bne,hk]
 simp only[if_true]
 conv=>arg 3;simp only[vV]
 go_enter func139,ntmps139
 go_wp2_with(first|(go_at_call 192;refine be (H _) λf r=>?_;have T:=qg (qK w _ _) r;obtain⟨q,G⟩:=qk r;have Z:w.1.size+2<=f.1.size:=(by have:=r.size;simp at this;omega);have z:Xc f (w.1.size+1) 0 (I J 0):=(q _ 0 uc).trans uc;have v:Xc f (w.1.size+1) 1 (I J 0):=(q _ 1 uc).trans uc;have u:Xc f (w.1.size+1) 2 (Y ⟨#[]⟩):=(q _ 2 uc).trans uc;have sz:Xf f (w.1.size+1):=(λi=>(G _ i uc).trans uc);clear r q G)|(go_at_call 69;refine be (RT _) λw2 s=>?_;have O:=qg T s;obtain⟨g,F⟩:=qk s;have M:=(g _ 0 ub).trans z;have L:=(g _ 1 ub).trans v;have K:=(g _ 2 ub).trans u;have X:=(λi=>(F (w.1.size+1) i ub).trans (sz i));clear s g F z v u sz;simp only[vV]))
 refine bj (by simp[go_sem,M,L,K]<;>rfl) rfl ⟨rfl, ?_⟩;exact(((O.setCell uc _).setCell uc _).setCell uc _)
def vio(w:Ao)(v:Ap)(xs:List V):Prop:=
 (∃a cap,v=C a xs.length cap)/\(xs≠[]->∃b cap,v=C (G ⟨b,0,O⟩) xs.length cap/\b<w.1.size /\
  ∀(k:Nat) (x:V),xs[k]?=G x->w.cell? ⟨b,k * 3,O⟩=G (I J x.A)/\w.cell? ⟨b,k * 3+1,O⟩=G (I J x.K)/\w.cell? ⟨b,k * 3+2,O⟩=G (Y (BS x.V)))
def TxtAt(w:Ao)(v:Ap)(ts:List (List UInt8)):Prop:=
 ∃la lc,v=C la ts.length lc/\∀k t,ts[k]?=G t->∃lb,la=G ⟨lb,0,O⟩/\lb<w.1.size/\w.cell? ⟨lb,k,O⟩=G (Y (BS t))
theorem qu4{inv iv lv:Ap}{c:Int}{xs:List V}(C8:EvArg w ev ps)(h0:0<=p.op)(M9:p.op<=23)(ha:pt p.op<=xs.length)(X:∀x∈xs,Rng x.K/\Sh x)(hp:Bp p)(hz:Bz p)(Z:vio w inv xs)(aA:TxtAt w lv p.P):
  ut 98 #[Ai #[Y (BS (qH p.op)),I J p.M,iv,Y (BS p.V),Y (BS p.h),lv,I J p.K,Ah neg,I J c],inv,ev] w (vV (ofN ps p xs)):=by
 have R:1<=xs.length->∃x b cap,xs[0]?=G x/\0<xs.length/\inv=C (G ⟨b,0,O⟩) xs.length cap/\b<w.1.size/\Rng x.K/\Sh x/\Xc w b 0 (I J x.A)/\Xc w b 1 (I J x.K)/\Xc w b 2 (Y (BS x.V)):=by
  intro h;obtain⟨b,cap,e,d,K⟩:=Z.2 (λe=>by rw[e]at h;simp at h);have L:xs[0]?=G xs[0]:=ag ub;have:=K 0 _ L;exact⟨xs[0],b,cap,L,ub,e,d,(X _ (fm _)).1,(X _ (fm _)).2,by simpa using this.1,by simpa using this.2.1,by simpa using this.2.2⟩
 have H:2<=xs.length->∃x y b cap,xs[0]?=G x/\xs[1]?=G y/\1<xs.length/\inv=C (G ⟨b,0,O⟩) xs.length cap/\b<w.1.size/\Rng x.K/\Rng y.K/\Xc w b 0 (I J x.A)/\Xc w b 1 (I J x.K)/\Xc w b 2 (Y (BS x.V))/\Xc w b 3 (I J y.A)/\Xc w b 4 (I J y.K)/\Xc w b 5 (Y (BS y.V)):=by
  intro h;obtain⟨b,cap,e,d,K⟩:=Z.2 (λe=>by rw[e]at h;simp at h);have L:xs[0]?=G xs[0]:=ag ub;have T:xs[1]?=G xs[1]:=ag ub;have P:=K 0 _ L;have M:=K 1 _ T;exact⟨xs[0],xs[1],b,cap,L,T,ub,e,d,(X _ (fm _)).1,(X _ (fm _)).1,by simpa using P.1,by simpa using P.2.1,by simpa using P.2.2,by simpa using M.1,by simpa using M.2.1,by simpa using M.2.2⟩
 have B:∀x,xs[0]?=G x->xs.getD 0 nV=x:=λx h=>by rw[bi,h];rfl
 have F:∀x,xs[1]?=G x->xs.getD 1 nV=x:=λx h=>by rw[bi,h];rfl
 have D2:∀x,xs[2]?=G x->xs.getD 2 nV=x:=λx h=>by rw[bi,h];rfl
 have q:∀r:V,ofN ps p xs=r->(ut 98 #[Ai #[Y (BS (qH p.op)),I J p.M,iv,Y (BS p.V),Y (BS p.h),lv,I J p.K,Ah neg,I J c],inv,ev] w (vV r))->(ut 98 #[Ai #[Y (BS (qH p.op)),I J p.M,iv,Y (BS p.V),Y (BS p.h),lv,I J p.K,Ah neg,I J c],inv,ev] w (vV (ofN ps p xs))):=λr e h=>by rw[e];exact h
 have one:pt p.op=1->1<=xs.length:=λe=>ub
 have two:pt p.op=2->2<=xs.length:=λe=>ub
 have hcut:=vcx hz;obtain⟨op,place,num,str,esc,texts⟩:=p
 have K:op=0\/op=1\/op=2\/op=3\/op=4\/op=5\/op=6\/op=7\/op=8\/op=9\/op=10\/op=11\/op=12\/op=13\/op=14\/op=15\/op=16\/op=17\/op=18\/op=19\/op=20\/op=21\/op=22\/op=23:=by
  simp only at h0 M9;omega
 rcases K with rfl|rfl|rfl|rfl|rfl|rfl|rfl|rfl|rfl|rfl|rfl|rfl|rfl|rfl|rfl|rfl|rfl|rfl|rfl|rfl|rfl|rfl|rfl|rfl;refine q (yh ps str) rfl (vg4 λw2 d=>?_);have oM:=C8.below d;obtain⟨h8,I6⟩:=oM;rcases I6 with⟨rfl,a,cap,rfl⟩|⟨b,off,cap,rfl,he,A1⟩;exact qk6 a cap [] (BS str) w2 uc (λk p h=>by simp at h);exact qk6 _ cap ps (BS str) w2 ub (λk p h=>⟨b,off,rfl,A1,he⟩);exact q (iV num) rfl vg5;exact q (tV str) rfl vg6;exact q (bV true) rfl vg7;exact q (bV false) rfl vg8;obtain⟨x,b,cap,e,g,rfl,d,z,Q,f,j,i⟩:=R (one rfl);exact q (yq x) (by rw[<-B x e];rfl) (vg9 g d f j i);obtain⟨x,y,b,cap,e,A,g,rfl,d,z,D,f,j,i,v,u,s⟩:=H (two rfl);exact q (qi3 x y) (by rw[<-B x e,<-F y A];rfl) (vga g d f j i v u s);obtain⟨x,y,b,cap,e,A,g,rfl,d,z,D,f,j,i,v,u,s⟩:=H (two rfl);exact q (orV x y) (by rw[<-B x e,<-F y A];rfl) (vgb g d f j i v u s);obtain⟨x,y,b,cap,e,A,g,rfl,d,z,D,f,j,i,v,u,s⟩:=H (two rfl);exact q (eqV x y) (by rw[<-B x e,<-F y A];rfl) (vgc g d f j i v u s);obtain⟨x,y,b,cap,e,A,g,rfl,d,z,D,f,j,i,v,u,s⟩:=H (two rfl);exact q (yq (eqV x y)) (by rw[<-B x e,<-F y A];rfl) (vgd g d f j i v u s);obtain⟨x,y,b,cap,e,A,g,rfl,d,z,D,f,j,i,v,u,s⟩:=H (two rfl);exact q (yQ x y) (by rw[<-B x e,<-F y A];rfl) (yy ⟨#[60]⟩ uh g d f j i v u s λw=>gS w (Am ⟨rfl,rfl⟩));obtain⟨x,y,b,cap,e,A,g,rfl,d,z,D,f,j,i,v,u,s⟩:=H (two rfl);exact q (leV x y) (by rw[<-B x e,<-F y A];rfl) (yy ⟨#[60,61]⟩ uh g d f j i v u s λw=>gS w (An (Am ⟨rfl,rfl⟩)));obtain⟨x,y,b,cap,e,A,g,rfl,d,z,D,f,j,i,v,u,s⟩:=H (two rfl);exact q (yQ y x) (by rw[<-B x e,<-F y A];rfl) (yy ⟨#[62]⟩ uh g d f j i v u s λw=>gS w (An (An (Am ⟨rfl,rfl⟩))));obtain⟨x,y,b,cap,e,A,g,rfl,d,z,D,f,j,i,v,u,s⟩:=H (two rfl);exact q (leV y x) (by rw[<-B x e,<-F y A];rfl) (yy ⟨#[62,61]⟩ uh g d f j i v u s λw=>gS w (An (An (An ⟨rfl,rfl⟩))));obtain⟨x,b,cap,e,g,rfl,d,z,Q,f,j,i⟩:=R (one rfl);exact q (qkw (iV 0) x) (by rw[<-B x e];rfl) (qzy g d f j i z);obtain⟨x,b,cap,e,g,rfl,d,z,Q,f,j,i⟩:=R (one rfl);exact q (quf (iV 0) x) (by rw[<-B x e];rfl) (qzz g d f j i z);obtain⟨x,y,b,cap,e,A,g,rfl,d,z,D,f,j,i,v,u,s⟩:=H (two rfl);exact q (qkw x y) (by rw[<-B x e,<-F y A];rfl) (yy ⟨#[43]⟩ uh g d f j i v u s λw=>qr1 x y z D w);obtain⟨x,y,b,cap,e,A,g,rfl,d,z,D,f,j,i,v,u,s⟩:=H (two rfl);exact q (quf x y) (by rw[<-B x e,<-F y A];rfl) (yy ⟨#[45]⟩ uh g d f j i v u s λw=>qr2 x y z D w);obtain⟨x,y,b,cap,e,A,g,rfl,d,z,D,f,j,i,v,u,s⟩:=H (two rfl);exact q (qky x y) (by rw[<-B x e,<-F y A];rfl) (yy ⟨#[42]⟩ uh g d f j i v u s λw=>vfn x y z D w);obtain⟨x,y,b,cap,e,A,g,rfl,d,z,D,f,j,i,v,u,s⟩:=H (two rfl);exact q (qsh x y) (by rw[<-B x e,<-F y A];rfl) (yy ⟨#[47]⟩ uh g d f j i v u s λw=>vfm x y z w);have h3:3<=xs.length:=ha;obtain⟨b,cap,rfl,d,K⟩:=Z.2 (λe=>by rw[e]at h3;simp at h3);have L:xs[0]?=G xs[0]:=ag ub;have T:xs[1]?=G xs[1]:=ag ub;have D4:xs[2]?=G xs[2]:=ag ub;have P:=K 0 _ L;have M:=K 1 _ T;have O9:=K 2 _ D4;exact q (qi3 (leV xs[1] xs[0]) (leV xs[0] xs[2])) (by rw[<-B _ L,<-F _ T,<-D2 _ D4];rfl) (va0 ub d (by simpa using P.1) (by simpa using P.2.1) (by simpa using P.2.2) (by simpa using M.1) (by simpa using M.2.1) (by simpa using M.2.2) (by simpa using O9.1) (by simpa using O9.2.1) (by simpa using O9.2.2) (λw=>gS w (An (An (An ⟨rfl,rfl⟩)))) (λw=>gS w (An (Am ⟨rfl,rfl⟩))) (λw=>qr0 _ _ w));obtain⟨x,b,cap,e,g,rfl,d,z,Q,f,j,i⟩:=R (one rfl);obtain⟨la,lc,rfl,hl⟩:=aA;exact q (pT x texts) (by rw[<-B x e];rfl) (va1 g d f j i hp.2 hl);obtain⟨x,b,cap,e,g,rfl,d,z,Q,f,j,i⟩:=R (one rfl);exact q (qbu x str esc) (by rw[<-B x e];rfl) (va2 g d f j i (λw=>qtn x Q str esc (bs hp.1 ue) (hcut rfl) w));obtain⟨x,b,cap,e,g,rfl,d,z,Q,f,j,i⟩:=R (one rfl);exact q (bV (x.A==0)) (by rw[<-B x e];rfl) (va3 g d f)
def xo(w:Ao)(r:RRes)(e:Ending)(w':Ao):Prop:=Below w.1.size w w'/\match r with
 | .ok t=>e=Ak (Aj #[Ag (G ⟨w.1.size,0,O⟩),I J 0,I J 0])/\w.1.size<w'.1.size/\∃ns cs g LN cap,Flat t 0 ns/\ShA t/\ns.length<=200/\w'.cell? ⟨w.1.size,0,O⟩=G (C (G ⟨g,0,O⟩) LN cap)/\NodesAt w' w.1.size (C (G ⟨g,0,O⟩) LN cap) (zH ns cs)
 | .err en pl=>e=Ak (Aj #[Ag O,I J en,I J pl])
theorem xT(w:Ao)(s:tq):TrC (w.alloc (Al #[C O 0 0,Y s,I J 0,I J 0,I J 0,Y ⟨#[]⟩,I J 0,I J 0,I J 0,I J 0] 173)) w.1.size (C O 0 0) s 0 0 (0:Nat) ⟨#[]⟩ 0 0 0 0:=by
 refine⟨uc, ?_, ?_, ?_, ?_, ?_, ?_, ?_, ?_, ?_, ?_,λj=>?_⟩
 all_goals simp
theorem kd{s:tq}(h:TKept w.1.size (w.alloc (Al #[C O 0 0,Y s,I J 0,I J 0,I J 0,Y ⟨#[]⟩,I J 0,I J 0,I J 0,I J 0] 173)) w'):Xb w w':=by
 have d:Xb w (w.alloc (Al #[C O 0 0,Y s,I J 0,I J 0,I J 0,Y ⟨#[]⟩,I J 0,I J 0,I J 0,I J 0] 173)):=uj.alloc ui _;refine⟨h.os.trans d.os,h.tape.trans d.tape,h.output.trans d.output,bs d.size h.size,λk g=>(h.block k ud ?_).trans (d.block k g)⟩;rintro (e|⟨j,f,i⟩);omega;rw[(xT w s).c0]at f;injection f with f;subst f;cases i
theorem qtt(s:tq)(h:¬s.size<=200)(d:s.size<=140737488355328)(w:Ao):
  ua 53 #[Y s] w (xo w (.err 1 0)):=by
 have e:(200:Int)<(s.size:Int):=ub;go_enter func53,ntmps53
 go_wp2
 exact bj (by simp[go_sem]) rfl ⟨uj,rfl⟩
theorem qzp(s:tq)(v:s.size<=200)(w:Ao){B u:Int}(z:(lvl s 12).E (qh s st0)=.err B u):
  ua 53 #[Y s] w (xo w (.err B u)):=by
 have T:=qd (yu (xT w s) v (bt _) (yK s st0));have V4:¬(200:Int)<(s.size:Int):=ub;have Z:=qd z;clear z;go_enter func53,ntmps53
 go_upto_region 6 with(first|(go_at_call 94;refine be T ?_;rintro r⟨j,L⟩;have C:=TKept.of_kept L (j.c0.trans (xT w s).c0.symm);have F:=qd C;have G3:Hid (RT r w.1.size s [] 0 (qh s st0)):=qd ⟨_,j,NodesAt.nil _ _,qG s st0 (bt _),bt _⟩;clear j L C)|(go_at_call 95;refine((qqq w.1.size s v 12 0 rfl).E r (qh s st0) [] 0 G3 rfl).mono ?_;rintro e w2⟨K,A⟩;rw[q9 Z]at A;obtain⟨i,rfl,d⟩:=A;have q:=qd d;have D:=qd K;have oF:=d.lt;clear K d))
 rcases q9 q with d|⟨rfl,d⟩
 .obtain⟨c8,eT⟩:=d.c8
  have c9:=d.c9;clear d q
  go_wp2
  go_quiet (fail)
  go_wp2
  exact bj (by simp[go_sem]) rfl ⟨ep (kd (F.trans D)) _,rfl⟩
 obtain⟨ns,M,st,f,R,P,rfl,hm,eP,Q⟩:=d;have c8:=f.c8;have c3:=f.c3;have c2:=f.c2;rw[show rK st.tk.A=6 by rcases P with e|e<;>rw[e]<;>rfl]at c2;have FL:Hid (ua 96 #[Ag (G ⟨w.1.size,0,O⟩),I J 2,I J st.M] w2 λe w'=>e=Ak (Aj #[])/\TrC w' w.1.size M s 1 st.M 0 ⟨#[]⟩ 0 (0:Nat) 2 st.M/\Kept w.1.size w2 w'):=qd (kA f 2 st.M);have C0:=qd f.c0;clear f R q
 go_wp2_with(go_at_call 96;refine be FL ?_;rintro w3⟨g,H⟩;have e8:=g.c8;have e9:=g.c9;have UC:=g.lt;have X:=qd (TKept.of_kept H (g.c0.trans C0.symm));clear g H)
 go_quiet (fail)
 go_wp2
 exact bj (by simp[go_sem]) rfl ⟨ep (kd ((F.trans D).trans X)) _,rfl⟩
theorem qtu(s:tq)(g:s.size<=200)(w:Ao)(q:(lvl s 12).E (qh s st0)=.ok t st)(M:¬st.tk.A=0):
  ua 53 #[Y s] w (xo w (.err 2 st.M)):=by
 have B:=qd (yu (xT w s) g (bt _) (yK s st0));have T:¬(200:Int)<(s.size:Int):=ub;have G:=qd q;clear q;have T9:¬rK st.tk.A=0:=by unfold rK;split<;>(try split)<;>omega
 go_enter func53,ntmps53
 go_wp2_with(first|(go_at_call 94;refine be B ?_;rintro j⟨i,A⟩;have u:=TKept.of_kept A (i.c0.trans (xT w s).c0.symm);have F:=qd u;have H:Hid (RT j w.1.size s [] 0 (qh s st0)):=qd ⟨_,i,NodesAt.nil _ _,qG s st0 (bt _),bt _⟩;clear i A u)|(go_at_call 95;refine((qqq w.1.size s g 12 0 rfl).E j (qh s st0) [] 0 H rfl).mono ?_;rintro e w2⟨z,r⟩;rw[q9 G]at r;obtain⟨new,rfl,d,R,Z,J⟩:=r;have I:=qd (gT d g 2 st.M ue);have c8:=d.c8;obtain⟨Q,P,_⟩:=d.ct;have L:=d.lt;have D:=qd z;clear z d J)|(go_at_call 96;refine be I ?_;rintro K⟨v,f⟩;obtain⟨c8,O⟩:=f.c8;have c9:=f.c9;have X:=f.lt;have C:=qd v;clear v f))
 go_quiet (fail)
 go_wp2
 exact bj (by simp[go_sem]) rfl ⟨ep (kd ((F.trans D).trans C)) _,rfl⟩
theorem qzo(s:tq)(D:s.size<=200)(w:Ao)(f:(lvl s 12).E (qh s st0)=.ok t st)(F:st.tk.A=0){q:Int}(H:quu (qy t)=G q):
  ua 53 #[Y s] w (xo w (.err 4 q)):=by
 have X:=qd (yu (xT w s) D (bt _) (yK s st0));have V4:¬(200:Int)<(s.size:Int):=ub;have HE:=qd f;have B:=qd (qkd f);have T:=qd H;have P:Hid (rK st.tk.A=0):=qd (by rw[F];rfl);clear f H F;go_enter func53,ntmps53
 go_wp2_with(first|(go_at_call 94;refine be X ?_;rintro z⟨u,O⟩;have J:=TKept.of_kept O (u.c0.trans (xT w s).c0.symm);have J8:=qd J;have G3:Hid (RT z w.1.size s [] 0 (qh s st0)):=qd ⟨_,u,NodesAt.nil _ _,qG s st0 (bt _),bt _⟩;clear u O J)|(go_at_call 95;refine((qqq w.1.size s D 12 0 rfl).E z (qh s st0) [] 0 G3 rfl).mono ?_;rintro e w2⟨M,I⟩;rw[q9 HE]at I;obtain⟨new,f,d,Z9,U9,j⟩:=I;rw[lj]at d;have K:=j.pos;have J1:=d.few;have UU:=d.U.M;obtain⟨g,LN,cap,A⟩:=d.clw K;have v:=qd (qbm A K ub (λi n Q=>by have:=qgs j B i n Q;rwa [iq,ee]at this));rw[qw1 (by have:=j;rwa [iq]at this) B,q9 T]at v;obtain⟨tp,r⟩:∃x:Nat,new.length - 1=x:=⟨_,rfl⟩;rw[iq,ee,r]at f;rw[r]at v;subst f;have c8:=d.c8;obtain⟨R,_⟩:=d.ct;rw[q9 P]at R;have oF:=d.lt;have N7:=qd M;have P4:=qd j;clear M d j A r)|(go_at_call 97;refine be v ?_;rintro w3⟨L,C⟩;have Z:=qd L;have uO:=qd C;clear L C))
 exact bj (by simp[go_sem]) rfl ⟨kd ((J8.trans N7).trans Z),rfl⟩
theorem vfx(s:tq)(D:s.size<=200)(w:Ao)(f:(lvl s 12).E (qh s st0)=.ok t st)(F:st.tk.A=0)(G:quu (qy t)=O):
  ua 53 #[Y s] w (xo w (.ok t)):=by
 have ST:=qd (yu (xT w s) D (bt _) (yK s st0));have V4:¬(200:Int)<(s.size:Int):=ub;have HE:=qd f;have u:=qd (qkd f);have YM:=qd G;have R:Hid (rK st.tk.A=0):=qd (by rw[F];rfl);clear f G F;go_enter func53,ntmps53
 go_wp2_with(first|(go_at_call 94;refine be ST ?_;rintro B⟨v,P⟩;have I:=TKept.of_kept P (v.c0.trans (xT w s).c0.symm);have J8:=qd I;have G3:Hid (RT B w.1.size s [] 0 (qh s st0)):=qd ⟨_,v,NodesAt.nil _ _,qG s st0 (bt _),bt _⟩;clear v P I)|(go_at_call 95;refine((qqq w.1.size s D 12 0 rfl).E B (qh s st0) [] 0 G3 rfl).mono ?_;rintro e w2⟨M,H⟩;rw[q9 HE]at H;obtain⟨new,f,d,Z9,U9,q⟩:=H;rw[lj]at d;have K:=q.pos;have J1:=d.few;have UU:=d.U.M;obtain⟨g,LN,cap,C⟩:=d.clw K;have A:=qd (qbm C K ub (λi n T=>by have:=qgs q u i n T;rwa [iq,ee]at this));rw[qw1 (by have:=q;rwa [iq]at this) u,q9 YM]at A;obtain⟨tp,r⟩:∃x:Nat,new.length - 1=x:=⟨_,rfl⟩;rw[iq,ee,r]at f;rw[r]at A;subst f;have c8:=d.c8;obtain⟨Z,_⟩:=d.ct;rw[q9 R]at Z;have oF:=d.lt;have N7:=qd M;have P4:=qd q;clear M d q C r)|(go_at_call 97;refine be A ?_;rintro w3⟨L,j⟩;have J:=qd L;have Q:=qd j;clear L j))
 refine bj (by simp[go_sem]) rfl ⟨kd ((J8.trans N7).trans J),rfl,uu ((q9 J).size), ?_⟩;obtain⟨X,z,cap',cs',j⟩:=q9 Q;exact⟨new,cs',X,z,cap',by have:=q9 P4;rwa [iq]at this,q9 u,ub,j.c0,j.nodes⟩
theorem gw(s:tq)(d:s.size<=140737488355328)(w:Ao):ua 53 #[Y s] w (xo w (vq s)):=by
 unfold vq
 by_cases h:s.size<=200
 .rw[bo h]
  cases he:(lvl s 12).E (qh s st0) with
  | err en pl=>exact qzp s h w he
  | ok t st=>
   show Calls _ _ _ _ (xo w (qmy t st));unfold qmy
   by_cases hk:st.tk.A=0
   rw[bo hk]
   cases hc:quu (qy t) with
   | none=>exact vfx s h w he hk hc
   | some q=>exact qzo s h w he hk hc
   rw[ak hk];exact qtu s h w he hk
 rw[ak h];exact qtt s h d w
section
attribute [local go_sem ↓] vsj
def qkr(x:V):List Ap:=[I J x.A,I J x.K,Y (BS x.V)]
def VsAt(w:Ao)(base:Nat)(v:Ap)(vs:List V):Prop:=w.ownsRow base 57 3 v vs.length (vs.flatMap qkr)
theorem qwz:(prog.info? 57).map (λi=>(i.zero,i.size,i.bytes))=G (G (Ai #[I J 0,I J 0,Y ⟨#[]⟩]),3,32):=uh
theorem vp2{α:Type}(f:α->List Ap)(m:Nat)(d:∀a,(f a).length=m):∀(l:List α) (i:Nat) (a:α),l[i]?=G a->∀k,k<m->(l.flatMap f)[i * m+k]?=(f a)[k]?:=by
 intro l
 induction l with
 | nil=>intro i a h;simp at h
 | cons c t ih=>
  intro i a h k e
  cases i with
  | zero=>
   simp at h;subst h;rw[dp,tg,ee,cg (by rw[d];exact e)]
  | succ i=>
   rw[dp,da (by rw[d,Nat.succ_mul];omega),d,show(i+1) * m+k - m=i * m+k by rw[Nat.succ_mul];omega];exact ih i a (by simpa using h) k e
theorem VsAt.nil(w:Ao)(base:Nat):VsAt w base (C O 0 0) []:=dy _ _ _ _
theorem VsAt.below{v:Ap}(h:VsAt w base v vs)(d:Xb w w'):VsAt w' base v vs:=qE h d ui
theorem VsAt.ins{v:Ap}(h:VsAt w base v vs):vio w v vs:=by
 have q:=h;rcases h.2 with⟨rfl,e⟩|⟨g,cap,cur,rfl,u,r,_⟩;exact⟨⟨O,0,by rw[e]⟩,λf=>absurd (de e) f⟩;refine⟨⟨_,_,rfl⟩,λ_=>⟨g,cap,rfl,(cf.1 r).1,λk x d=>?_⟩⟩;have s:=(aj.1 d).1
 have key:∀j,j<3->w.cell? ⟨g,k * 3+j,O⟩=(qkr x)[j]?:=λj i=>by
  rw[World.ownsRow.cellAt q (k * 3+j) ub];exact vp2 qkr 3 (λ_=>rfl) vs k x d j i
 exact⟨key 0 ub,key 1 ub,key 2 ub⟩
theorem VsAt.app{v:Ap}(h:VsAt W base v vs)(r:base<=W.1.size)(x:V)(F:vs.length<=1000)(H:Nat)(s:W.1.size=H):
  ∃g cap d,(qe9 #[176,176] 176 #[v,C (G ⟨H,0,O⟩) 1 1]).run prog (W.alloc (Al #[I J x.A,I J x.K,Y (BS x.V)] 57))=.ok (C (G ⟨g,0,O⟩) (vs.length+1) cap) d /\
   Hid (VsAt d base (C (G ⟨g,0,O⟩) (vs.length+1) cap) (vs++[x]))/\Hid (Below base W d):=by
 subst s;obtain⟨f,q,u,A,z⟩:=info_parts qwz;have e:=World.ownsRow.alloc h (Al #[I J x.A,I J x.K,Y (BS x.V)] 57);obtain⟨g,cap,d,i,B,D,K,_⟩:=run_append_lies (P:=prog) (W.alloc (Al #[I J x.A,I J x.K,Y (BS x.V)] 57)) 176 176 base 57 f _ 3 32 underlying176 q u A z rfl ub v vs.length _ e
  ⟨W.1.size,0,O⟩ 1 1 (qkr x) rfl (World.news_of_block (cs:=#[I J x.A,I J x.K,Y (BS x.V)]) (t:=57) (fr:=(0,0)) (heap_alloc_new W _)) (by simp[qkr,Value.oneCell']) ub (by unfold maxLen;omega) ub ud _ rfl
 refine⟨g,cap,d,i,qd ?_,qd ?_⟩
 .show World.ownsRow _ _ _ _ _ _ _
  rw[ce,du,mt];simpa using B
 exact Go.RowKit.Below.grown (((Below.refl base W).alloc r _)) D ud (λk j=>(e.lt k j).1)
structure VlAt(w wr:Ao)(av:Ap)(vs:List V):Prop where
 row:VsAt wr (w.1.size+1) av vs
 u:Below (w.1.size+1) (w.alloc (Al #[I J 0,I J 0,Y ⟨#[]⟩] 57)) wr
 good:∀x∈vs,Rng x.K/\Sh x
theorem VlAt.bel0(h:VlAt w wr av vs):Xb w wr:=(uj.alloc ui _).trans (h.u.mono (Nat.le_succ _))
theorem VlAt.size(h:VlAt w wr av vs):w.1.size+1<=wr.1.size:=by have:=h.u.size;simpa using this
theorem vft(h:qfq ps)(d:vh7 ps)(hp:Rng p.K)(e:Bp p)(xs:List V)(neg:Bool):Rng (if neg=true then yq (ofN ps p xs) else ofN ps p xs).K/\Sh (if neg=true then yq (ofN ps p xs) else ofN ps p xs):=by
 split
 exact⟨qp8 _,by unfold yq;exact vd (qdz _) qe0⟩;exact⟨vq7 h hp xs,vri d e.1 xs⟩
theorem RowOf.txt{v:Ap}(h:RowOf w rb 9 v (qx ts)):TxtAt w v ts:=by
 obtain⟨a,c,e⟩:=h.form;refine⟨a,c,by rw[e];simp[qx],λk t j=>?_⟩;have i:(qx ts)[k]?=G (Y (BS t)):=by simp[qx,j]
 obtain⟨q,cap,f,s⟩:=h.get i;rw[e]at f;injection f with f;refine⟨q,f, ?_,s⟩;rcases h with⟨u,_⟩|⟨g,cap',z,fr,d,_,r,_⟩;rw[u]at i;simp at i;rw[e]at d;injection d with d;rw[f]at d;injection d with d;injection d with d;subst d;exact(cf.1 r).1
theorem TxtAt.below{v:Ap}(h:TxtAt w v ts)(d:Xb w w'):TxtAt w' v ts:=by
 obtain⟨i,g,e,q⟩:=h;refine⟨i,g,e,λk t j=>?_⟩;obtain⟨lb,s,f,r⟩:=q k t j;exact⟨lb,s,aq f d.size,((qk d).1 _ _ f).trans r⟩
def vnl(w:Ao)(v:Ap)(l:List Nat):Prop:=
 ∃la lc,v=C la l.length lc/\∀(k q:Nat),l[k]?=G q->∃lb,la=G ⟨lb,0,O⟩/\lb<w.1.size/\w.cell? ⟨lb,k,O⟩=G (I J (q:Int))
theorem RowOf.nums{v:Ap}(h:RowOf w rb 3 v (pP l)):vnl w v l:=by
 obtain⟨a,c,e⟩:=h.form;refine⟨a,c,by rw[e];simp[pP],λk t j=>?_⟩;have i:(pP l)[k]?=G (I J (t:Int)):=by simp[pP,j]
 obtain⟨q,cap,f,s⟩:=h.get i;rw[e]at f;injection f with f;refine⟨q,f, ?_,s⟩;rcases h with⟨u,_⟩|⟨g,cap',z,fr,d,_,r,_⟩;rw[u]at i;simp at i;rw[e]at d;injection d with d;rw[f]at d;injection d with d;injection d with d;subst d;exact(cf.1 r).1
theorem qzw{n:RN}(d:ns[k]?=G n)(hv:pk ps [] (ns.take k)=vs):pk ps [] (ns.take (k+1))=vs++[qgu ps vs n]:=by
 rw[dn,d,qab,hv];rfl
theorem qpg{g f:Nat}(c0:w.cell? ⟨rb,0,O⟩=G (C (G ⟨g,0,O⟩) f cap))(hN:NodesAt w rb (C (G ⟨g,0,O⟩) f cap) ns)(aM:rb<w.1.size)(hne:0<ns.length)(A7:ns.length<=1000)(C8:EvArg w ev ps)(Q:qfq ps)(hs:vh7 ps)
  (hf:∀i n,ns[i]?=G n->∃o,NF i n o) (hg:∀n∈ns,∃p,NG n p) :
  ut 54 #[Ag (G ⟨rb,0,O⟩),ev] w (vV ((pk ps [] ns).getD (ns.length - 1) nV)):=by
 have eV:f=ns.length:=by
  obtain⟨rs,_,ho,_⟩:=hN;obtain⟨_,F|⟨g',cap',cur,e,_⟩⟩:=ho;cases F.1;injection e with _ e2 _
 have mV:g<w.1.size:=by
  obtain⟨rs,_,ho,_⟩:=hN;exact(ho.lt g rfl).2
 obtain⟨R,hR⟩:∃r,(pk ps [] ns).getD (ns.length - 1) nV=r:=⟨_,rfl⟩;rw[hR];have HR:Hid ((pk ps [] (ns.take f)).getD (f - 1) nV=R):=qd (by rw[eV,im];exact hR);obtain⟨ea,en,ec,rfl⟩:=C8.slice;have HN:=qd hN;have rQ:=qd C8;have HF:=qd hf;have HG:=qd hg;have cR:=qd eV;have XL:=qd Q;have mZ:=qd hs;have aN:0<f:=ub;have LZ:f<=1000:=ub;clear hN C8 hf hg eV hR hne A7 Q hs;go_enter func54,ntmps54
 go_wp2
 go_loopw [5,6] (λav i wr=>∃k:Nat,k<=f/\i=I J k/\Hid (VlAt w wr av (pk ps [] (ns.take k)))) (λ_ i _=>f - (intOf i).toNat)
 exact⟨0,bt _,rfl,qd ⟨VsAt.nil _ _,uj,λx F=>by simp[pk]at F⟩⟩;obtain⟨k,hk,rfl,d⟩:=hrel;obtain⟨vs,IY⟩:=it (pk ps [] (ns.take k));rw[IY]at d;have fM:vs.length=k:=by rw[<-IY,vg3];have:=q9 cR;simp;omega
 have uF:=qd IY;have GY:=qd fM;have dG:=(q9 d).bel0;have Y6:=(q9 d).size;have d0:wr.cell? ⟨rb,0,O⟩=G (C (G ⟨g,0,O⟩) f cap):=((qk dG).1 _ 0 aM).trans c0;have Z:=(q9 d).row.ins
 by_cases A1:k<f
 .obtain⟨n,hn⟩:∃n,ns[k]?=G n:=⟨_,ag (uu (q9 cR))⟩
  obtain⟨o,eC⟩:=q9 HF k n hn;have bH:=eC.ins;have J1:=eC.few;obtain⟨p,⟨ins,neg,c,rfl,OZ⟩,BQ,fQ,cX,eH,lV⟩:=q9 HG n (bg hn);have wO:=(q9 HN).below aM dG;obtain⟨oX,iv,lv,oH,oA,z⟩:=wO.cells hn;have aV:RowOf wr rb 3 iv (pP ins):=oH;have aA:RowOf wr rb 9 lv (qx p.P):=oA;have bH:∀q∈ins,q<k:=bH;have e0:wr.cell? ⟨g,k * 9,O⟩=G (Y (BS (qH p.op))):=by have:=z 0 ub;rw[sd]at this;exact this
  have e1:wr.cell? ⟨g,k * 9+1,O⟩=G (I J p.M):=z 1 ub;have e2:wr.cell? ⟨g,k * 9+2,O⟩=G iv:=z 2 ub;have e3:wr.cell? ⟨g,k * 9+3,O⟩=G (Y (BS p.V)):=z 3 ub;have e4:wr.cell? ⟨g,k * 9+4,O⟩=G (Y (BS p.h)):=z 4 ub;have e5:wr.cell? ⟨g,k * 9+5,O⟩=G lv:=z 5 ub;have e6:wr.cell? ⟨g,k * 9+6,O⟩=G (I J p.K):=z 6 ub;have e7:wr.cell? ⟨g,k * 9+7,O⟩=G (Ah neg):=z 7 ub;have e8:wr.cell? ⟨g,k * 9+8,O⟩=G (I J c):=z 8 ub;have MP:=qd aA.txt;obtain⟨ia,ic,rfl,JU⟩:=aV.nums;obtain⟨la,lc,rfl,_⟩:=aA.txt;obtain⟨xs,mJ⟩:∃xs,ins.map (λq=>vs.getD q nV)=xs:=⟨_,rfl⟩;have mK:xs.length=ins.length:=by rw[<-mJ,cd]
  have uQ:∀x∈xs,Rng x.K/\Sh x:=by
   intro x F;rw[<-mJ]at F;obtain⟨q,hq,rfl⟩:=eg.1 F;have SX:=bH q hq;rw[bi,ag ub];exact d.good _ (fm _)
  obtain⟨r,Q⟩:=it (ofN ps p xs);have RV:=qd (λ(w:Ao) (inv:Ap) (h1:EvArg w (C ea en ec) ps) (h2:vio w inv xs) (h3:TxtAt w (C la p.P.length lc) p.P)=>qu4 (iv:=C ia ins.length ic) (neg:=neg) (c:=c) h1 BQ fQ (by rw[mK];exact OZ) uQ eH lV h2 h3);rw[Q]at RV;have RN:=qd (λw=>qhn r w);simp only[vV]at RV RN
  have rG:Hid (pk ps [] (ns.take (k+1))=vs++[if neg=true then yq r else r]):=qd (by
   rw[qzw hn (q9 uF)]
   congr 2
   show(if neg=true then yq (ofN ps (qeh (jC p ins neg)) (ins.map λq=>vs.getD q nV)) else ofN ps (qeh (jC p ins neg)) (ins.map λq=>vs.getD q nV))=_
   rw[yr BQ fQ,mJ,Q])
  have YD:Hid (∀x∈vs++[if neg=true then yq r else r],Rng x.K/\Sh x):=qd (by
   intro x F;rcases cr.1 F with h|h;exact d.good x h;rw[cu.1 h,<-Q]
   exact vft XL mZ cX eH xs neg)
  have HXS:=qd mJ;have GX:=qd mK;have EX:Hid (∀q∈ins,q<k):=qd bH;have h3:ins.length<=3:=J1;obtain⟨v,oE⟩:∃x,ins.length=x:=⟨_,rfl⟩;have iT:=qd oE;obtain⟨lT,mS⟩:∃x,p.P.length=x:=⟨_,rfl⟩;rw[oE]at e2 RV h3;rw[mS]at e5 RV MP;have EU:=qd JU;have A4:=uo k f;obtain⟨W,hW⟩:=uk (wr.alloc (Al #[Y (BS (qH p.op)),I J p.M,C ia v ic,Y (BS p.V),Y (BS p.h),C la lT lc,I J p.K,Ah neg,I J c] 178):Ao);have lY:Xb wr W:=hW ▸ uj.alloc ui _
  have eG:∀k,W.cell? ⟨wr.1.size,k,O⟩=#[Y (BS (qH p.op)),I J p.M,C ia v ic,Y (BS p.V),Y (BS p.h),C la lT lc,I J p.K,Ah neg,I J c][k]?:=λk=>by rw[hW,ch _ _ _ _ uc]
  have mX:W.1.size=wr.1.size+1:=by rw[hW];simp
  have HW:=qd hW;have MO:=qd lY;have EK:=qd mX;have B:=qd eG;obtain⟨aa,ac,rfl⟩:=Z.1;rw[fM]at Z |-;have HI:=qd Z;clear hn eC bH J1 OZ BQ fQ cX eH lV wO aV aA z JU mJ mK uQ Q oE mS hW lY eG mX Z IY fM dG uF
  go_wp2
  rw[<-q9 HW];clear e0 e1 e2 e3 e4 e5 e6 e7 e8;obtain⟨u,rfl⟩:=uk (wr:Ao)
  go_loopw [8,9] (λnv j wq=>∃m:Nat,m<=v/\j=I J m/\Hid (VsAt wq W.1.size nv (xs.take m))/\Hid (Xb W wq)) (λ_ j _=>v - (intOf j).toNat)
  exact⟨0,bt _,rfl,qd (VsAt.nil _ _),qd uj⟩;obtain⟨m,hm,rfl,L,BM⟩:=hrel;obtain⟨A,oK⟩:=qk BM;have RM:=(q9 BM).size;have mX:=q9 EK;have K:=qd (qg MO BM);have f0:wr.cell? ⟨u.1.size,0,O⟩=G (Y (BS (qH p.op))):=(A _ 0 ub).trans (B 0);have f1:wr.cell? ⟨u.1.size,1,O⟩=G (I J p.M):=(A _ 1 ub).trans (B 1);have f2:wr.cell? ⟨u.1.size,2,O⟩=G (C ia v ic):=(A _ 2 ub).trans (B 2);have f3:wr.cell? ⟨u.1.size,3,O⟩=G (Y (BS p.V)):=(A _ 3 ub).trans (B 3);have f4:wr.cell? ⟨u.1.size,4,O⟩=G (Y (BS p.h)):=(A _ 4 ub).trans (B 4);have f5:wr.cell? ⟨u.1.size,5,O⟩=G (C la lT lc):=(A _ 5 ub).trans (B 5);have f6:wr.cell? ⟨u.1.size,6,O⟩=G (I J p.K):=(A _ 6 ub).trans (B 6);have f7:wr.cell? ⟨u.1.size,7,O⟩=G (Ah neg):=(A _ 7 ub).trans (B 7);have f8:wr.cell? ⟨u.1.size,8,O⟩=G (I J c):=(A _ 8 ub).trans (B 8);clear A oK
  by_cases dN:m<v
  .obtain⟨q,hq⟩:∃q,ins[m]?=G q:=⟨_,ag (uu (q9 iT))⟩
   have SX:q<k:=q9 EX q (bg hq);obtain⟨lb,rfl,O0,oD⟩:=q9 EU m q hq;have JF:wr.cell? ⟨lb,m,O⟩=G (I J (q:Int)):=(K.cell (p:=⟨lb,m,O⟩) O0).trans oD;obtain⟨T,QF,DI,S9,o7⟩:=(q9 HI).2 (λe=>by have:=q9 GY;rw[e]at this;simp at this;omega);injection DI with DI DH DG;subst DI DG;obtain⟨y,P⟩:∃y,vs[q]?=G y:=⟨_,ag (uu (q9 GY))⟩;obtain⟨y0,y1,y2⟩:=o7 q y P;have a0:wr.cell? ⟨T,q * 3,O⟩=G (I J y.A):=(K.cell (p:=⟨T,q * 3,O⟩) S9).trans y0;have a1:wr.cell? ⟨T,q * 3+1,O⟩=G (I J y.K):=(K.cell (p:=⟨T,q * 3+1,O⟩) S9).trans y1;have a2:wr.cell? ⟨T,q * 3+2,O⟩=G (Y (BS y.V)):=(K.cell (p:=⟨T,q * 3+2,O⟩) S9).trans y2;have aK:xs[m]?=G y:=by rw[<-q9 HXS,cm,hq,nl,bi,P];rfl
   have nH:(xs.take m).length=m:=by rw[cw,q9 GX];have:=q9 iT;omega
   obtain⟨g5,I9,w5,O3,H,T5⟩:=(q9 L).app ub y ub wr.1.size rfl;rw[show xs.take m++[y]=xs.take (m+1) by rw[dn,aK];rfl,nH]at H;rw[nH]at O3;obtain⟨na,nc,rfl⟩:=(q9 L).ins.1;rw[nH]at O3 |-;have wE:=um m;have mR:=uo m v;have TA:=um q;have fO:=uo q k;clear hq oD o7 P y0 y1 y2 aK nH L f0 f1 f3 f4 f5 f6 f7 f8 DH
   go_wp2
   go_roundw
   case rel=>exact⟨m+1,ub,by go_num,H,qd (BM.trans T5)⟩
   simp[intOf];omega
  have FZ:m=v:=ub;have uR:xs.take m=xs:=fo (by have:=q9 GX;have:=q9 iT;omega);rw[uR]at L;have XC:=qd L.ins;have dP:xs.length=v:=by have:=q9 GX;have:=q9 iT;omega
  obtain⟨na,nc,rfl⟩:=(q9 L).ins.1;rw[dP]at XC L |-;have HVA:=qd (d.row.below K);have sP:=qd (d.u.trans (K.mono Y6));have QW:=qd (rQ.below (qg d.bel0 K));have MH:=qd (MP.below K);have OM:=uq m v;have dJ:u.1.size<wr.1.size:=ub;have IZ:=q9 GY;have F5:w.1.size+1<=wr.1.size:=ub;clear uR FZ dP L BM MO d
  cases neg with
  | false=>
   go_wp2_with(go_at_call 98;refine be (RV _ _ QW XC MH) λw2 s=>?_;have D4:=s.size;obtain⟨K7,L8⟩:=qk s;have k7:=(K7 _ 7 dJ).trans f7;have AO:u.1.size<w2.1.size:=ub;have iP:=qd (HVA.below (s.alloc s.size (Al #[I J r.A,I J r.K,Y (BS r.V)] 57)));have F9:=qd (sP.trans ((s.alloc s.size (Al #[I J r.A,I J r.K,Y (BS r.V)] 57)).mono F5));obtain⟨g5,I9,w5,O3,H,T5⟩:=(q9 iP).app ud r ub (w2.1.size+1) uc;rw[IZ]at O3 H;clear s K7 L8)
   go_roundw
   case rel=>exact⟨k+1,ub,by go_num,qd ⟨by rw[q9 rG];exact q9 H,F9.trans T5,by rw[q9 rG];exact q9 YD⟩⟩
   simp[intOf];omega
  | true=>
   obtain⟨D,B9⟩:∃x,yq r=x:=⟨_,rfl⟩;rw[B9]at RN;have rF:Hid (pk ps [] (ns.take (k+1))=vs++[D]):=qd (by rw[q9 rG,bo rfl,B9]);have YC:Hid (∀x∈vs++[D],Rng x.K/\Sh x):=qd (by have:=q9 YD;rw[bo rfl,B9]at this;exact this);clear rG YD B9
   go_wp2_with(first|(go_at_call 98;refine be (RV _ _ QW XC MH) λw2 s=>?_;have D4:=s.size;obtain⟨K7,L8⟩:=qk s;have k7:=(K7 _ 7 dJ).trans f7;have AO:u.1.size<w2.1.size:=ub;have U0:=qd (s.alloc s.size (Al #[I J r.A,I J r.K,Y (BS r.V)] 57));clear s K7 L8)|(go_at_call 99;refine be (RN _) λM D5=>?_;obtain⟨aH,lS⟩:=qk D5;have P9:w2.1.size+1<=M.1.size:=(by have:=D5.size;simp at this;omega);have v0:M.cell? ⟨w2.1.size,0,O⟩=G (I J r.A):=(aH _ 0 uc).trans uc;have v1:M.cell? ⟨w2.1.size,1,O⟩=G (I J r.K):=(aH _ 1 uc).trans uc;have v2:M.cell? ⟨w2.1.size,2,O⟩=G (Y (BS r.V)):=(aH _ 2 uc).trans uc;have vz:Xf M w2.1.size:=(λi=>(lS _ i uc).trans uc);have WG:Xb wr (((M.setCell ⟨w2.1.size,0,O⟩ (I J D.A)).setCell ⟨w2.1.size,1,O⟩ (I J D.K)).setCell ⟨w2.1.size,2,O⟩ (Y (BS D.V))):=((((qg U0 D5).setCell D4 _).setCell D4 _).setCell D4 _);have iP:=qd (HVA.below WG);have F9:=qd (sP.trans (WG.mono F5));obtain⟨g5,I9,w5,O3,H,T5⟩:=(q9 iP).app ud D ub M.1.size uc;rw[IZ]at O3 H;clear D5 aH lS WG))
   go_roundw
   case rel=>exact⟨k+1,ub,by go_num,qd ⟨by rw[q9 rF];exact q9 H,F9.trans T5,by rw[q9 rF];exact q9 YC⟩⟩
   simp[intOf];omega
 have aC:k=f:=ub;subst aC;obtain⟨T,QF,rfl,S9,o7⟩:=Z.2 (λe=>by rw[e]at fM;simp at fM;omega);obtain⟨y,P⟩:∃y,vs[k - 1]?=G y:=⟨_,ag ub⟩;obtain⟨y0,y1,y2⟩:=o7 (k - 1) y P;have QM:Hid (R=y):=qd (by rw[<-q9 HR,q9 uF,bi,P];rfl);obtain⟨X,rfl⟩:∃X,k=X+1:=⟨k - 1,ub⟩;rw[show X+1 - 1=X by omega]at y0 y1 y2;have r0:wr.cell? ⟨w.1.size,0,O⟩=G (I J 0):=(d.u.cell (p:=⟨w.1.size,0,O⟩) (dt _)).trans uc;have r1:wr.cell? ⟨w.1.size,1,O⟩=G (I J 0):=(d.u.cell (p:=⟨w.1.size,1,O⟩) (dt _)).trans uc;have D:wr.cell? ⟨w.1.size,2,O⟩=G (Y ⟨#[]⟩):=(d.u.cell (p:=⟨w.1.size,2,O⟩) (dt _)).trans uc;have rz:Xf wr w.1.size:=λi=>(d.u.frozen (p:=⟨w.1.size,i,O⟩) (dt _)).trans uc
 rw[fM];have K9:=qd dG;have A4:(X:Int)+1 - 1=(X:Int):=ub;clear P o7 Z IY uF dG d
 go_wp2
 refine bj (by simp[go_sem,r0,r1,D]<;>rfl) rfl ⟨?_, ?_⟩;rw[q9 QM];rfl;exact(((K9.setCell ui _).setCell ui _).setCell ui _)
end
section
abbrev zoC:Obj:=Al #[Y ⟨#[]⟩,Y ⟨#[]⟩,I J 0,C O 0 0,C O 0 0,C O 0 0] 106
attribute [local go_sem ↓] vsj
def qmk(o:Int):Int:=if o=0 then 0 else if o=1 then 2 else if o=2 then 3 else if 16<=o/\o<=19 then 2 else 1
def qf4(p:CP):Nat:=if p.op=0\/p.op=2\/p.op=22 then p.V.length else 0
def qF:Co->List (List UInt8)
 | .leaf p=>[qt (.leaf p)]
 | .un p x=>qF x++[qt (.un p x)]
 | .bin p x y=>qF x++qF y++[qt (.bin p x y)]
def jV:Co->List Nat
 | .leaf p=>[qf4 p]
 | .un p x=>jV x++[qf4 p]
 | .bin p x y=>jV x++jV y++[qf4 p]
theorem vat(c:Co):qF c≠[]:=by cases c<;>simp[qF]
theorem xj:∀c:Co,(jV c).length=(qF c).length
 | .leaf _=>rfl
 | .un _ x=>by simp[jV,qF,xj x]
 | .bin _ x y=>by simp[jV,qF,xj x,xj y]
def qhd(c:Co)(pv tv rv:Ap):List Ap:=[Y (BS (qH (opC c))),Y (BS (qt c)),I J (qmk (opC c)),pv,tv,rv]
def SideAt(w:Ao)(b o:Nat)(c:Co)(p1 t1 r1:Ap):Prop:=∀k,k<6->w.cell? ⟨b,o+k,O⟩=(qhd c p1 t1 r1)[k]?
def TxN(N:Nat->Prop)(w:Ao)(v:Ap)(ts:List (List UInt8)):Prop:=∃lb c,v=C (G ⟨lb,0,O⟩) ts.length c/\N lb/\lb<w.1.size/\∀(k:Nat) (t:List UInt8),ts[k]?=G t->w.cell? ⟨lb,k,O⟩=G (Y (BS t))
def NmN(N:Nat->Prop)(w:Ao)(v:Ap)(l:List Nat):Prop:=∃lb c,v=C (G ⟨lb,0,O⟩) l.length c/\N lb/\lb<w.1.size/\∀(k t:Nat),l[k]?=G t->w.cell? ⟨lb,k,O⟩=G (I J (t:Int))
def RcAt(N:Nat->Prop)(w:Ao):Co->Ap->Ap->Ap->Prop
 | .leaf p,pv,tv,rv=>pv=C O 0 0/\TxN N w tv (qF (.leaf p))/\NmN N w rv (jV (.leaf p))
 | .un p x,pv,tv,rv=>(∃b cap p1 t1 r1,pv=C (G ⟨b,0,O⟩) 1 cap/\N b/\b<w.1.size/\SideAt w b 0 x p1 t1 r1/\RcAt N w x p1 t1 r1)/\TxN N w tv (qF (.un p x))/\NmN N w rv (jV (.un p x))
 | .bin p x y,pv,tv,rv=>(∃b cap p1 t1 r1 p2 t2 r2,pv=C (G ⟨b,0,O⟩) 2 cap/\N b/\b<w.1.size/\SideAt w b 0 x p1 t1 r1/\RcAt N w x p1 t1 r1/\SideAt w b 6 y p2 t2 r2/\RcAt N w y p2 t2 r2)/\TxN N w tv (qF (.bin p x y))/\NmN N w rv (jV (.bin p x y))
section
variable {N N':Nat->Prop} {w w':Ao}
theorem TxN.keep{v:Ap}(h:TxN N w v ts)(j:∀b,N b->b<w.1.size->w'.1[b]?=w.1[b]?)(g:w.1.size<=w'.1.size)(r:∀b,N b->b<w.1.size->N' b):TxN N' w' v ts:=by
 obtain⟨lb,c,e,f,d,q⟩:=h;exact⟨lb,c,e,r _ f d,aq d g,λk t i=>(aw (w:=w) (a:=⟨lb,k,O⟩) (j lb f d)).trans (q k t i)⟩
theorem NmN.keep{v:Ap}{ts:List Nat}(h:NmN N w v ts)(j:∀b,N b->b<w.1.size->w'.1[b]?=w.1[b]?)(g:w.1.size<=w'.1.size)(r:∀b,N b->b<w.1.size->N' b):NmN N' w' v ts:=by
 obtain⟨lb,c,e,f,d,q⟩:=h;exact⟨lb,c,e,r _ f d,aq d g,λk t i=>(aw (w:=w) (a:=⟨lb,k,O⟩) (j lb f d)).trans (q k t i)⟩
theorem SideAt.keep{o:Nat}{f d e:Ap}(h:SideAt w b o c f d e)(g:w'.1[b]?=w.1[b]?):SideAt w' b o c f d e:=λk i=>(aw (w:=w) (a:=⟨b,o+k,O⟩) g).trans (h k i)
theorem RcAt.keep(d:∀b,N b->b<w.1.size->w'.1[b]?=w.1[b]?)(f:w.1.size<=w'.1.size)(g:∀b,N b->b<w.1.size->N' b):∀{c:Co} {pv tv rv:Ap},RcAt N w c pv tv rv->RcAt N' w' c pv tv rv:=by
 intro c
 induction c with
 | leaf p=>rintro pv tv rv⟨F,q,j⟩;exact⟨F,q.keep d f g,j.keep d f g⟩
 | un p x ih=>
  rintro pv tv rv⟨⟨b,cap,u,r,s,e,i,h,z,v⟩,q,j⟩;exact⟨⟨b,cap,u,r,s,e,g _ i h,aq h f,z.keep (d b i h),ih v⟩,q.keep d f g,j.keep d f g⟩
 | bin p x y ihx ihy=>
  rintro pv tv rv⟨⟨b,cap,u,r,s,C,A,B,e,i,h,z,v,G,D⟩,q,j⟩;exact⟨⟨b,cap,u,r,s,C,A,B,e,g _ i h,aq h f,z.keep (d b i h),ihx v,G.keep (d b i h),ihy D⟩,q.keep d f g,j.keep d f g⟩
theorem RcAt.below(d:Xb w w'){pv tv rv:Ap}(h:RcAt N w c pv tv rv):RcAt N w' c pv tv rv:=h.keep (λb _ e=>d.block b e) d.size (λ_ h _=>h)
theorem RcAt.mono{pv tv rv:Ap}(h:RcAt N w c pv tv rv)(d:∀b,N b->b<w.1.size->N' b):RcAt N' w c pv tv rv:=h.keep (λ_ _ _=>rfl) ui d
theorem RcAt.terms{pv tv rv:Ap}(h:RcAt N w c pv tv rv):TxN N w tv (qF c)/\NmN N w rv (jV c):=by
 cases c with
 | leaf p=>exact⟨h.2.1,h.2.2⟩
 | un p x=>exact⟨h.2.1,h.2.2⟩
 | bin p x y=>exact⟨h.2.1,h.2.2⟩
theorem RcAt.slices{pv tv rv:Ap}(h:RcAt N w c pv tv rv):(∃a n k,pv=C a n k)/\(∃a n k,tv=C a n k)/\∃a n k,rv=C a n k:=by
 obtain⟨⟨a,k,e,_⟩,⟨b,m,i,_⟩⟩:=h.terms;refine⟨?_,⟨_,_,_,e⟩,_,_,_,i⟩
 cases c with
 | leaf p=>exact⟨_,_,_,h.1⟩
 | un p x=>obtain⟨⟨b,cap,g,d,f,e,_⟩,_⟩:=h;exact⟨_,_,_,e⟩
 | bin p x y=>obtain⟨⟨b,cap,g,d,f,r,j,q,e,_⟩,_⟩:=h;exact⟨_,_,_,e⟩
end
def rcV(c:Co)(pv tv rv:Ap):Ap:=Ai #[Y (BS (qH (opC c))),Y (BS (qt c)),I J (qmk (opC c)),pv,tv,rv]
def RcEnds(N:Nat->Prop)(w:Ao)(c:Co)(e:Ending)(w':Ao):Prop:=Below w.1.size w w'/\∃pv tv rv,e=Ak (rcV c pv tv rv)/\RcAt (λb=>N b\/w.1.size<=b) w' c pv tv rv
theorem qz9(op text:tq)(c r:Int)(w:Ao):ua 145 #[Y op,Y text,I J c,I J r] w λe w'=>Xb w w'/\∃b1 b2,e=Ak (Ai #[Y op,Y text,I J c,C O 0 0,C (G ⟨b1,0,O⟩) 1 1,C (G ⟨b2,0,O⟩) 1 1])/\w.1.size<=b1/\w.1.size<=b2/\b1<w'.1.size/\b2<w'.1.size/\Xc w' b1 0 (Y text)/\Xc w' b2 0 (I J r):=by
 go_enter func145,ntmps145
 go_wp2
 refine tw ⟨?_, ?_⟩
 .repeat' (first|exact uj|refine Below.setCell ?_ uc _|refine Below.alloc ?_ ug _)
 refine⟨w.1.size+1,w.1.size+1+1,rfl,ub,ub,uc,uc, ?_, ?_⟩
 .simp[go_sem]
 simp[go_sem]
theorem gj(N:Nat->Prop)(p:CP)(w:Ao):ua 145 #[Y (BS (qH p.op)),Y (BS (qt (.leaf p))),I J (qmk p.op),I J (qf4 p:Nat)] w (RcEnds N w (.leaf p)):=by
 refine(qz9 _ _ _ _ w).mono ?_;rintro e w'⟨f,b1,b2,rfl,r,q,j,i,h,g⟩;refine⟨f,_,_,_,rfl,rfl,⟨b1,1,rfl,An r,j,λk t d=>?_⟩,⟨b2,1,rfl,An q,i,λk t d=>?_⟩⟩
 cases k with
 | zero=>
  obtain rfl:qt (.leaf p)=t:=by simpa [qF]using d
  exact h
 | succ k=>simp[qF]at d
 cases k with
 | zero=>
  obtain rfl:qf4 p=t:=by simpa [jV]using d
  exact g
 | succ k=>simp[jV]at d
end
section
attribute [local go_sem ↓] vsj
theorem qcy:(prog.info? 9).map (λi=>(i.zero,i.size,i.bytes))=G (G (Y ⟨#[]⟩),1,16):=uh
theorem qix:(prog.info? 3).map (λi=>(i.zero,i.size,i.bytes))=G (G (I J 0),1,8):=uh
def gQ(l:List Nat):List Ap:=l.map λn:Nat=>I J (n:Int)
def TwRow(w:Ao)(base:Nat)(v:Ap)(ts:List (List UInt8)):Prop:=w.ownsRow base 9 1 v ts.length (qx ts)
def NmRow(w:Ao)(base:Nat)(v:Ap)(l:List Nat):Prop:=w.ownsRow base 3 1 v l.length (gQ l)
structure MdAt(w W:Ao)(op text:ByteArray)(cl:Int)(pv tv rv:Ap)(ts:List (List UInt8))(rs:List Nat):Prop where
 c0:W.cell? ⟨w.1.size+1,0,O⟩=G (Y op)
 c1:W.cell? ⟨w.1.size+1,1,O⟩=G (Y text)
 c2:W.cell? ⟨w.1.size+1,2,O⟩=G (I J cl)
 c3:W.cell? ⟨w.1.size+1,3,O⟩=G pv
 c4:W.cell? ⟨w.1.size+1,4,O⟩=G tv
 c5:W.cell? ⟨w.1.size+1,5,O⟩=G rv
 fz:∀i,W.frozen? ⟨w.1.size+1,i,O⟩=false
 lt:w.1.size+1<W.1.size
 u:Below (w.1.size+1) (w.alloc zoC) W
 tr:TwRow W (w.1.size+2) tv ts
 rr:NmRow W (w.1.size+2) rv rs
section
variable {w W:Ao} {op text:tq} {cl:Int} {pv tv rv:Ap} {ts:List tu} {rs:List Nat}
theorem MdAt.bel0(h:MdAt w W op text cl pv tv rv ts rs):Xb w W:=(uj.alloc ui _).trans (h.u.mono (Nat.le_succ _))
theorem MdAt.drew(h:MdAt w W op text cl pv tv rv ts rs):MdAt w W.drew op text cl pv tv rv ts rs:=⟨h.c0,h.c1,h.c2,h.c3,h.c4,h.c5,h.fz,h.lt,h.u.drew,h.tr,h.rr⟩
theorem MdAt.alloc(h:MdAt w W op text cl pv tv rv ts rs)(o:Obj):MdAt w (W.alloc o) op text cl pv tv rv ts rs:=by
 have f:Xb W (W.alloc o):=uj.alloc ui o;obtain⟨e,g⟩:=qk f;have d:=h.lt;exact⟨(e _ _ d).trans h.c0,(e _ _ d).trans h.c1,(e _ _ d).trans h.c2,(e _ _ d).trans h.c3,(e _ _ d).trans h.c4,(e _ _ d).trans h.c5,λi=>(g _ i d).trans (h.fz i),aq d f.size,h.u.trans (f.mono ub),qE h.tr f ui,qE h.rr f ui⟩
theorem qca{base e size n:Nat}{v:Ap}(h:U.ownsRow base e size v n xs)(d:v.ownBlock=G k):∃c,U.1[k]?=G (Al c e (0,0)):=by
 rcases h.2 with⟨rfl,_⟩|⟨g,cap,cur,rfl,_,f,_⟩;cases d;obtain rfl:g=k:=by simpa [Value.ownBlock]using d
 exact⟨cur,f⟩
theorem MdAt.grown{d:Ao}{v v':Ap}(h:MdAt w W op text cl pv tv rv ts rs)(f:W.grownBy d v.ownBlock)(hv:∀k,v.ownBlock=G k->w.1.size+2<=k)(j:Nat):
  (∀k,k<W.1.size->k≠w.1.size+1->v.ownBlock≠G k->(d.setCell ⟨w.1.size+1,j,O⟩ v').1[k]?=W.1[k]?)/\d.1[w.1.size+1]?=W.1[w.1.size+1]?/\w.1.size+1<d.1.size/\Below (w.1.size+1) (w.alloc zoC) (d.setCell ⟨w.1.size+1,j,O⟩ v'):=by
 have q:=h.lt;have s:=f.size;refine⟨λk i g r=>(au d ⟨w.1.size+1,j,O⟩ v' k g).trans (f.block k i (λe=>r e.symm)),f.block _ q (λe=>uu (hv _ e.symm)),ub, ?_⟩;exact Below.setCell (Go.RowKit.Below.grown h.u f ub (λk i=>uu (hv k i))) ui _
theorem MdAt.appT(h:MdAt w W op text cl pv tv rv ts rs){c:Nat}{us:List tu}(K:us.length=m)(z:0<m)(v:∀k t,us[k]?=G t->W.cell? (a.add k)=G (Y (BS t)))(iA:ts.length+m<=1000000000)(ty:TypeId):
  ∃g cap d,(qe9 #[31,31] ty #[tv,C (G a) m c]).run prog W=.ok (C (G ⟨g,0,O⟩) (ts.length+m) cap) d /\
   d.cell? ⟨w.1.size+1,4,O⟩=G tv/\(∀i,d.frozen? ⟨w.1.size+1,i,O⟩=false)/\w.1.size+1<d.1.size /\
   Hid (MdAt w (d.setCell ⟨w.1.size+1,4,O⟩ (C (G ⟨g,0,O⟩) (ts.length+m) cap)) op text cl pv (C (G ⟨g,0,O⟩) (ts.length+m) cap) rv (ts++us) rs):=by
 subst K;obtain⟨I,L,Q,X,T⟩:=info_parts qcy;have A1:=h.lt;obtain⟨g,cap,d,J,Z,A5,F3,mV⟩:=run_append_lies (P:=prog) W 31 ty (w.1.size+2) 9 I _ 1 16 underlying31 L Q X T rfl ub tv ts.length _ h.tr
  a us.length c (qx us) (by simp[qx]) (λj u f=>by
   rw[qx,cm]at f
   cases s:us[j]? with
   | none=>rw[s]at f;cases f
   | some t=>rw[s]at f;injection f with f;rw[<-f];exact v j t s) (λu s=>by
   obtain⟨t,_,rfl⟩:=eg.1 s;rfl) z (by unfold maxLen;omega) ub ub W.1.size rfl
 obtain⟨A,F,H,R⟩:=h.grown A5 (λk A=>(h.tr.lt k A).1) 4 (v':=C (G ⟨g,0,O⟩) (ts.length+us.length) cap);have q:∀j,d.cell? ⟨w.1.size+1,j,O⟩=W.cell? ⟨w.1.size+1,j,O⟩:=λj=>aw (w:=W) (a:=⟨w.1.size+1,j,O⟩) F
 have D:∀j,d.frozen? ⟨w.1.size+1,j,O⟩=false:=λj=>(cn (w:=W) (a:=⟨w.1.size+1,j,O⟩) F).trans (h.fz j)
 refine⟨g,cap,d,J,(q 4).trans h.c4,D,H,qd ⟨?_, ?_, ?_, ?_, ?_, ?_,λi=>?_,by simpa using H,R, ?_, ?_⟩⟩
 .simp[go_sem,q,h.c0]
 .simp[go_sem,q,h.c1]
 .simp[go_sem,q,h.c2]
 .simp[go_sem,q,h.c3]
 .simp[go_sem,q,h.c4]
 .simp[go_sem,q,h.c5]
 .simp[go_sem,D i]
 .show World.ownsRow _ _ _ _ _ _ _
  rw[ce,qx,dq];exact ownsRow_setCell_below Z (by show w.1.size+1<w.1.size+2;omega) _
 refine vj h.rr λk B=>A k (h.rr.lt k B).2 (uu ((h.rr.lt k B).1)) (λe=>?_)
 obtain⟨c1,M⟩:=qca h.rr B;obtain⟨c2,r⟩:=qca h.tr e;rw[M]at r;injection r with r;injection r with _ r _;exact absurd r ue
theorem MdAt.appR'(h:MdAt w W op text cl pv tv rv ts rs){c:Nat}{us:List Nat}(M:us.length=m)(z:0<m)(v:∀k (t:Nat),us[k]?=G t->W.cell? (a.add k)=G (I J (t:Int)))(iA:rs.length+m<=1000000000)(ty:TypeId):
  ∃g cap d,(qe9 #[50,50] ty #[rv,C (G a) m c]).run prog W=.ok (C (G ⟨g,0,O⟩) (rs.length+m) cap) d /\
   d.cell? ⟨w.1.size+1,5,O⟩=G rv/\(∀i,d.frozen? ⟨w.1.size+1,i,O⟩=false)/\w.1.size+1<d.1.size /\
   Hid (MdAt w (d.setCell ⟨w.1.size+1,5,O⟩ (C (G ⟨g,0,O⟩) (rs.length+m) cap)) op text cl pv tv (C (G ⟨g,0,O⟩) (rs.length+m) cap) ts (rs++us)):=by
 subst M;obtain⟨K,Q,T,Z,Y⟩:=info_parts qix;have A1:=h.lt;obtain⟨g,cap,d,L,B7,A5,F3,mV⟩:=run_append_lies (P:=prog) W 50 ty (w.1.size+2) 3 K _ 1 8 underlying50 Q T Z Y rfl ub rv rs.length _ h.rr
  a us.length c (gQ us) (by simp[gQ]) (λj u f=>by
   rw[gQ,cm]at f
   cases s:us[j]? with
   | none=>rw[s]at f;cases f
   | some t=>rw[s]at f;injection f with f;rw[<-f];exact v j t s) (λu s=>by
   obtain⟨t,_,rfl⟩:=eg.1 s;rfl) z (by unfold maxLen;omega) ub ub W.1.size rfl
 obtain⟨A,F,H,X⟩:=h.grown A5 (λk A=>(h.rr.lt k A).1) 5 (v':=C (G ⟨g,0,O⟩) (rs.length+us.length) cap);have q:∀j,d.cell? ⟨w.1.size+1,j,O⟩=W.cell? ⟨w.1.size+1,j,O⟩:=λj=>aw (w:=W) (a:=⟨w.1.size+1,j,O⟩) F
 have D:∀j,d.frozen? ⟨w.1.size+1,j,O⟩=false:=λj=>(cn (w:=W) (a:=⟨w.1.size+1,j,O⟩) F).trans (h.fz j)
 refine⟨g,cap,d,L,(q 5).trans h.c5,D,H,qd ⟨?_, ?_, ?_, ?_, ?_, ?_,λi=>?_,by simpa using H,X, ?_, ?_⟩⟩
 .simp[go_sem,q,h.c0]
 .simp[go_sem,q,h.c1]
 .simp[go_sem,q,h.c2]
 .simp[go_sem,q,h.c3]
 .simp[go_sem,q,h.c4]
 .simp[go_sem,q,h.c5]
 .simp[go_sem,D i]
 refine vj h.tr λk B=>A k (h.tr.lt k B).2 (uu ((h.tr.lt k B).1)) (λe=>?_)
 obtain⟨c1,R⟩:=qca h.tr B;obtain⟨c2,r⟩:=qca h.rr e;rw[R]at r;injection r with r;injection r with _ r _;exact absurd r ue;show World.ownsRow _ _ _ _ _ _ _;rw[ce,gQ,dq];exact ownsRow_setCell_below B7 (by show w.1.size+1<w.1.size+2;omega) _
end
end
section
attribute [local go_sem ↓] vsj
def PartsAt(N:Nat->Prop)(w:Ao)(pv:Ap)(cs:List Co):Prop:=
 ∃b cap,pv=C (G ⟨b,0,O⟩) cs.length cap/\b<w.1.size/\∀(k:Nat) (c:Co),cs[k]?=G c->∃p1 t1 r1,SideAt w b (k * 6) c p1 t1 r1/\RcAt N w c p1 t1 r1
theorem PartsAt.below{pv:Ap}{cs:List Co}(h:PartsAt N w pv cs)(d:Xb w w'):PartsAt N w' pv cs:=by
 obtain⟨b,cap,e,f,q⟩:=h;refine⟨b,cap,e,aq f d.size,λk c r=>?_⟩;obtain⟨j,g,i,u,s⟩:=q k c r;exact⟨j,g,i,u.keep (d.block b f),s.below d⟩
theorem TwRow.txt{v:Ap}(h:TwRow w base v ts)(d:ts≠[]):TxN (λb=>base<=b) w v ts:=by
 have i:=h;rcases h.2 with⟨rfl,f⟩|⟨g,cap,cur,rfl,j,q,_⟩;exact absurd (de f) d;refine⟨g,cap,rfl,j,(cf.1 q).1,λk t e=>?_⟩;have r:=(aj.1 e).1;rw[World.ownsRow.cellAt i k ub,qx,cm,e];rfl
theorem NmRow.nums{v:Ap}(h:NmRow w base v l)(d:l≠[]):NmN (λb=>base<=b) w v l:=by
 have i:=h;rcases h.2 with⟨rfl,f⟩|⟨g,cap,cur,rfl,j,q,_⟩;exact absurd (de f) d;refine⟨g,cap,rfl,j,(cf.1 q).1,λk t e=>?_⟩;have r:=(aj.1 e).1;rw[World.ownsRow.cellAt i k ub,gQ,cm,e];rfl
theorem gu{base e size n:Nat}{v:Ap}(h:U.ownsRow base e size v n xs):∃a c,v=C a n c:=by
 rcases h.2 with⟨rfl,d⟩|⟨g,cap,cur,rfl,_⟩;exact⟨O,0,by rw[d]⟩;exact⟨_,_,rfl⟩
theorem vqq(b k:Nat):(⟨b,0,O⟩:Addr).add k=⟨b,k,O⟩:=by
 cases k<;>simp[Addr.add]
theorem qfh{base e size n q:Nat}{v:Ap}(h:W.ownsRow base e size v n xs)(hq:q<base)(a b c d f g:Ap):((((((W.setCell ⟨q,0,O⟩ a).setCell ⟨q,1,O⟩ b).setCell ⟨q,2,O⟩ c).setCell ⟨q,3,O⟩ d).setCell ⟨q,4,O⟩ f).setCell ⟨q,5,O⟩ g).ownsRow base e size v n xs:=
 ownsRow_setCell_below (ownsRow_setCell_below (ownsRow_setCell_below (ownsRow_setCell_below (ownsRow_setCell_below (ownsRow_setCell_below h hq _) hq _) hq _) hq _) hq _) hq _
def vbv(w:Ao)(op:ByteArray)(text:List UInt8)(cl:Int)(pv:Ap)(ts:List (List UInt8))(rs:List Nat)(e:Ending)(w':Ao):Prop:=
 Below w.1.size w w'/\∃tv rv,e=Ak (Ai #[Y op,Y (BS text),I J cl,pv,tv,rv])/\TxN (λb=>w.1.size<=b) w' tv ts/\NmN (λb=>w.1.size<=b) w' rv rs
theorem qk1(op:tq)(text:tu)(cl:Int)(raw:Nat){pv:Ap}{cs:List Co}(hp:PartsAt N w pv cs)(O7:cs.length<=2)(iA:(cs.flatMap qF).length<=900000000):
  ua 150 #[Y op,Y (BS text),I J cl,pv,I J (raw:Int)] w (vbv w op text cl pv (cs.flatMap qF++[text]) (cs.flatMap jV++[raw])):=by
 have Y7:(cs.flatMap jV).length=(cs.flatMap qF).length:=by
  clear hp O7 iA
  induction cs with
  | nil=>rfl
  | cons c t ih=>rw[dp,dp,ce,ce,ih,xj]
 have HP:=qd hp;obtain⟨pb,pcap,rfl,V8,dM⟩:=hp;have HPK:=qd dM;obtain⟨n,hn⟩:=it cs.length;have HN:=qd hn;rw[hn]at O7 HP |-;have M0:Hid (MdAt w ((w.alloc zoC).alloc (Al #[Y op,Y (BS text),I J cl,C (G ⟨pb,0,O⟩) n pcap,C O 0 0,C O 0 0] 106)) op (BS text) cl (C (G ⟨pb,0,O⟩) n pcap) (C O 0 0) (C O 0 0) [] []):=qd ⟨uc,uc,uc,uc,uc,uc,λi=>uc,uc,uj.alloc uc _,dy _ _ _ _,dy _ _ _ _⟩;have iU:=qd iA;have QN:=qd Y7;go_enter func150,ntmps150
 go_wp2
 go_loopw [12] (λi wr=>∃(k:Nat) (tv rv:Ap),k<=n/\i=I J k/\Hid (MdAt w wr op (BS text) cl (C (G ⟨pb,0,O⟩) n pcap) tv rv ((cs.take k).flatMap qF) ((cs.take k).flatMap jV))) (λi _=>n - (intOf i).toNat)
 exact⟨0,_,_,bt _,rfl,M0⟩;obtain⟨k,tv,rv,hk,rfl,e⟩:=hrel
 by_cases A1:k<n
 .obtain⟨c,hc⟩:∃c,cs[k]?=G c:=⟨_,ag (uu (q9 HN))⟩
  obtain⟨p1,t1,r1,OH,T⟩:=q9 HPK k c hc;have G0:=(q9 e).bel0;have SR:=OH.keep (G0.block pb V8);obtain⟨tb,tc,rfl,_,nM,r⟩:=(T.below G0).terms.1;have f4:Xc wr pb (k * 6+4) (C (G ⟨tb,0,O⟩) (qF c).length tc):=SR 4 ub
  have Q:(cs.take (k+1)).flatMap qF=(cs.take k).flatMap qF++qF c/\(cs.take (k+1)).flatMap jV=(cs.take k).flatMap jV++jV c:=by
   rw[dn,hc];simp
  have S4:((cs.take (k+1)).flatMap qF).length<=900000000:=by
   refine bs ?_ iU;rw[show cs.flatMap qF=(cs.take (k+1)).flatMap qF++(cs.drop (k+1)).flatMap qF by rw[<-mt,fh],ce];omega
  have tG:((cs.take k).flatMap qF).length+(qF c).length<=900000000:=by rw[Q.1,ce]at S4;exact S4
  have aN:0<(qF c).length:=List.length_pos_iff.2 (vat c);obtain⟨g5,I9,W5,iC,ZH,w5z,w5l,s⟩:=(q9 e).drew.appT (a:=⟨tb,0,O⟩) (c:=tc) rfl aN (λj t f=>by rw[vqq];exact r j t f) ub 31;obtain⟨X5,B⟩:∃X,X=W5.setCell ⟨w.1.size+1,4,O⟩ (C (G ⟨g5,0,O⟩) (((cs.take k).flatMap qF).length+(qF c).length) I9):=⟨_,rfl⟩;rw[<-B]at s;have aU:=(q9 s).bel0;have JA:=OH.keep (aU.block pb V8);obtain⟨rb,rc,rfl,_,aM,OJ⟩:=(T.below aU).terms.2;have x5:Xc X5 pb (k * 6+5) (C (G ⟨rb,0,O⟩) (jV c).length rc):=JA 5 ub;have M:=(q9 s).c5
  have JC:((cs.take k).flatMap jV).length=((cs.take k).flatMap qF).length:=by
   have:∀l:List Co,(l.flatMap jV).length=(l.flatMap qF).length:=by
    intro l
    induction l with
    | nil=>rfl
    | cons c t ih=>rw[dp,dp,ce,ce,ih,xj]
   exact this _
  obtain⟨g6,U5,W6,cD,Z,w6z,w6l,P⟩:=(q9 s).drew.appR' (a:=⟨rb,0,O⟩) (c:=rc) rfl (by rw[xj];exact aN) (λj t f=>by rw[vqq];exact OJ j t f) (by rw[xj,JC];omega) 50;rw[<-Q.1,<-Q.2]at P;have v:=(q9 e).c4;have mz:=(q9 e).fz;have tsl:∃a c,tv=C a ((cs.take k).flatMap qF).length c:=gu e.tr;have rsl:∃a c,rv=C a ((cs.take k).flatMap jV).length c:=gu e.rr;obtain⟨ta,tcc,rfl⟩:=tsl;obtain⟨ra,rcc,rfl⟩:=rsl;obtain⟨N1,D⟩:∃N,((cs.take k).flatMap qF).length=N:=⟨_,rfl⟩;obtain⟨N2,u⟩:∃N,((cs.take k).flatMap jV).length=N:=⟨_,rfl⟩;obtain⟨N3,PN⟩:∃N,(qF c).length=N:=⟨_,rfl⟩;obtain⟨N4,A⟩:∃N,(jV c).length=N:=⟨_,rfl⟩;rw[D]at v iC B ZH;rw[PN]at f4 iC B;rw[u]at M cD Z P;rw[A]at x5 cD P;have wX:=qd B;clear hc OH T G0 SR r Q S4 tG aN aU JA OJ JC D u PN A B e s
  go_wp2
  go_region
  all_goals go_wp2
  all_goals rw[<-q9 wX]
  all_goals clear ZH w5z w5l iC v mz f4 wX
  all_goals go_region
  all_goals go_wp2
  all_goals
   go_roundw
   case rel=>exact⟨k+1,_,_,ub,by go_num,P⟩
   simp[intOf];omega
 have aC:k=n:=ub;have r:cs.take k=cs:=fo (uu (q9 HN));rw[r]at e
 obtain⟨g7,WS,W7,eI,ZG,w7z,w7l,z⟩:=(e.alloc (Al #[Y (BS text)] 9)).appT (a:=⟨wr.1.size,0,O⟩) (c:=1) (us:=[text]) (m:=1) rfl ub (λj t f=>by
  cases j with
  | zero=>
   obtain rfl:text=t:=by simpa using f
   rw[vqq];simp
  | succ j=>simp at f) (uu (q9 iU)) 31
 obtain⟨X7,K⟩:∃X,X=W7.setCell ⟨w.1.size+1,4,O⟩ (C (G ⟨g7,0,O⟩) ((cs.flatMap qF).length+1) WS):=⟨_,rfl⟩;rw[<-K]at z
 obtain⟨g8,WR,W8,tU,ZF,w8z,w8l,d⟩:=(z.alloc (Al #[I J (raw:Int)] 3)).appR' (a:=⟨X7.1.size,0,O⟩) (c:=1) (us:=[raw]) (m:=1) rfl ub (λj t f=>by
  cases j with
  | zero=>
   obtain rfl:raw=t:=by simpa using f
   rw[vqq];simp
  | succ j=>simp at f) (by have:=q9 iU;have:=q9 QN;omega) 50
 obtain⟨q,L⟩:∃X,X=W8.setCell ⟨w.1.size+1,5,O⟩ (C (G ⟨g8,0,O⟩) ((cs.flatMap jV).length+1) WR):=⟨_,rfl⟩;rw[<-L]at d;have v:=(q9 e).c4;have mz:=(q9 e).fz;have M:=(q9 z).c5;have R:=(q9 z).fz;have tsl:∃a c,tv=C a (cs.flatMap qF).length c:=gu e.tr;have rsl:∃a c,rv=C a (cs.flatMap jV).length c:=gu e.rr;obtain⟨ta,tcc,rfl⟩:=tsl;obtain⟨ra,rcc,rfl⟩:=rsl;have y0:=(q9 d).c0;have y1:=(q9 d).c1;have y2:=(q9 d).c2;have y3:=(q9 d).c3;have y4:=(q9 d).c4;have y5:=(q9 d).c5;have yl:=(q9 d).lt;have g:=(q9 d).u;have r0:Xc q w.1.size 0 (Y ⟨#[]⟩):=(g.cell (p:=⟨w.1.size,0,O⟩) (dt _)).trans uc;have r1:Xc q w.1.size 1 (Y ⟨#[]⟩):=(g.cell (p:=⟨w.1.size,1,O⟩) (dt _)).trans uc;have r2:Xc q w.1.size 2 (I J 0):=(g.cell (p:=⟨w.1.size,2,O⟩) (dt _)).trans uc;have r3:Xc q w.1.size 3 (C O 0 0):=(g.cell (p:=⟨w.1.size,3,O⟩) (dt _)).trans uc;have r4:Xc q w.1.size 4 (C O 0 0):=(g.cell (p:=⟨w.1.size,4,O⟩) (dt _)).trans uc;have r5:Xc q w.1.size 5 (C O 0 0):=(g.cell (p:=⟨w.1.size,5,O⟩) (dt _)).trans uc;have rz:Xf q w.1.size:=λi=>(g.frozen (p:=⟨w.1.size,i,O⟩) (dt _)).trans uc
 have rl:w.1.size<q.1.size:=ub;obtain⟨N1,D⟩:∃N,(cs.flatMap qF).length=N:=⟨_,rfl⟩;obtain⟨N2,u⟩:∃N,(cs.flatMap jV).length=N:=⟨_,rfl⟩;rw[D]at v eI K ZG y4 d;rw[u]at M tU L ZF y5 d;have H:=qd K;have F:=qd L;clear aC r D u K L g e z
 go_upto_region 8 with fail
 rw[<-q9 H];clear ZG w7z w7l eI v mz H
 go_upto_region 9 with fail
 rw[<-q9 F];clear ZF w8z w8l tU M R F
 go_wp2
 refine bj (by simp[go_sem,r0,r1,r2,r3,r4,r5]<;>rfl) rfl ⟨?_, ?_⟩;refine Below.setCell (Below.setCell (Below.setCell (Below.setCell (Below.setCell (Below.setCell d.bel0 ?_ _) ?_ _) ?_ _) ?_ _) ?_ _) ?_ _<;>exact ui
 refine⟨_,_,rfl, ?_, ?_⟩
 .exact(TwRow.txt (base:=w.1.size+2) (qfh d.tr ub _ _ _ _ _ _) uc).keep (λ_ _ _=>rfl) ui (λb hb _=>by have M7:w.1.size+2<=b:=hb;show w.1.size<=b;omega)
 exact(NmRow.nums (base:=w.1.size+2) (qfh d.rr ub _ _ _ _ _ _) uc).keep (λ_ _ _=>rfl) ui (λb hb _=>by have M7:w.1.size+2<=b:=hb;show w.1.size<=b;omega)
end
structure RF where
 op:ByteArray
 Q:List UInt8
 H:Int
 pa:Option Addr
 pn:Nat
 pc:Nat
 ta:Option Addr
 tn:Nat
 tc:Nat
 ra:Option Addr
 rn:Nat
 rc:Nat
def RF.v(f:RF):Ap:=Ai #[Y f.op,Y (BS f.Q),I J f.H,C f.pa f.pn f.pc,C f.ta f.tn f.tc,C f.ra f.rn f.rc]
def RF.pv(f:RF):Ap:=C f.pa f.pn f.pc
def RF.tv(f:RF):Ap:=C f.ta f.tn f.tc
def RF.rv(f:RF):Ap:=C f.ra f.rn f.rc
structure RfAt(N:Nat->Prop)(w:Ao)(c:Co)(f:RF):Prop where
 op:f.op=BS (qH (opC c))
 Q:f.Q=qt c
 H:f.H=qmk (opC c)
 at':RcAt N w c f.pv f.tv f.rv
theorem RfAt.below{f:RF}(h:RfAt N w c f)(d:Xb w w'):RfAt N w' c f:=⟨h.op,h.Q,h.H,h.at'.below d⟩
theorem RfAt.keep{N':Nat->Prop}{f:RF}(h:RfAt N w c f)(e:∀b,N b->b<w.1.size->w'.1[b]?=w.1[b]?)(d:w.1.size<=w'.1.size)(g:∀b,N b->b<w.1.size->N' b):RfAt N' w' c f:=⟨h.op,h.Q,h.H,h.at'.keep e d g⟩
theorem RcAt.rf{pv tv rv:Ap}(h:RcAt N w c pv tv rv):∃f:RF,f.v=rcV c pv tv rv/\RfAt N w c f:=by
 obtain⟨⟨a,n,k,rfl⟩,⟨b,m,l,rfl⟩,d,p,q,rfl⟩:=h.slices;exact⟨⟨_,qt c,_,a,n,k,b,m,l,d,p,q⟩,rfl,rfl,rfl,rfl,h⟩
def xI(N:Nat->Prop)(w:Ao)(c:Co)(e:Ending)(w':Ao):Prop:=Below w.1.size w w'/\∃f:RF,e=Ak f.v/\RfAt (λb=>N b\/w.1.size<=b) w' c f
theorem RcEnds.rf{e:Ending}(h:RcEnds N w c e w'):xI N w c e w':=by
 obtain⟨i,pv,tv,rv,rfl,d⟩:=h;obtain⟨f,e,g⟩:=d.rf;exact⟨i,f,by rw[e],g⟩
abbrev Kx1(W:Ao)(b:Nat)(g:RF):Prop:=Xc W b 0 (Y g.op)/\Xc W b 1 (Y (BS g.Q))/\Xc W b 2 (I J g.H)/\Xc W b 3 (C g.pa g.pn g.pc)/\Xc W b 4 (C g.ta g.tn g.tc)/\Xc W b 5 (C g.ra g.rn g.rc)
abbrev Kt1(W:Ao)(b:Nat)(g:RF)(B:Prop):Prop:=Xc W b 0 (Y g.op)/\Xc W b 1 (Y (BS g.Q))/\Xc W b 2 (I J g.H)/\Xc W b 3 (C g.pa g.pn g.pc)/\Xc W b 4 (C g.ta g.tn g.tc)/\Xc W b 5 (C g.ra g.rn g.rc)/\B
abbrev Kx2(W:Ao)(b:Nat)(g h:RF):Prop:=Xc W b 0 (Y g.op)/\Xc W b 1 (Y (BS g.Q))/\Xc W b 2 (I J g.H)/\Xc W b 3 (C g.pa g.pn g.pc)/\Xc W b 4 (C g.ta g.tn g.tc)/\Xc W b 5 (C g.ra g.rn g.rc)/\Xc W b 6 (Y h.op)/\Xc W b 7 (Y (BS h.Q))/\Xc W b 8 (I J h.H)/\Xc W b 9 (C h.pa h.pn h.pc)/\Xc W b 10 (C h.ta h.tn h.tc)/\Xc W b 11 (C h.ra h.rn h.rc)
abbrev Kx3(W:Ao)(b:Nat)(g h j:RF):Prop:=Xc W b 0 (Y g.op)/\Xc W b 1 (Y (BS g.Q))/\Xc W b 2 (I J g.H)/\Xc W b 3 (C g.pa g.pn g.pc)/\Xc W b 4 (C g.ta g.tn g.tc)/\Xc W b 5 (C g.ra g.rn g.rc)/\Xc W b 6 (Y h.op)/\Xc W b 7 (Y (BS h.Q))/\Xc W b 8 (I J h.H)/\Xc W b 9 (C h.pa h.pn h.pc)/\Xc W b 10 (C h.ta h.tn h.tc)/\Xc W b 11 (C h.ra h.rn h.rc)/\Xc W b 12 (Y j.op)/\Xc W b 13 (Y (BS j.Q))/\Xc W b 14 (I J j.H)/\Xc W b 15 (C j.pa j.pn j.pc)/\Xc W b 16 (C j.ta j.tn j.tc)/\Xc W b 17 (C j.ra j.rn j.rc)
def qw(f:RF):List Ap:=[Y f.op,Y (BS f.Q),I J f.H,C f.pa f.pn f.pc,C f.ta f.tn f.tc,C f.ra f.rn f.rc]
theorem vpu{x y:Co}{f g:RF}(i:RfAt N w x f)(e:RfAt N w y g)(s:pb<w.1.size)(r:∀k,k<12->w.cell? ⟨pb,k,O⟩=(qw f++qw g)[k]?):PartsAt N w (C (G ⟨pb,0,O⟩) 2 2) [x,y]:=by
 refine⟨pb,2,rfl,s,λk c d=>?_⟩
 match k,d with
 | 0,d=>
  obtain rfl:x=c:=by simpa using d
  refine⟨f.pv,f.tv,f.rv,λj q=>?_,i.at'⟩;rw[show 0 * 6+j=j by omega,r j ub,cg (by exact q)];unfold qw qhd;rw[i.op,i.Q,i.H];rfl
 | 1,d=>
  obtain rfl:y=c:=by simpa using d
  refine⟨g.pv,g.tv,g.rv,λj q=>?_,e.at'⟩;rw[show 1 * 6+j=6+j by omega,r (6+j) ub,da (by show 6<=6+j;omega),show 6+j - (qw f).length=j by show 6+j - 6=j;omega];unfold qw qhd;rw[e.op,e.Q,e.H];rfl
 | k+2,d=>simp at d
theorem vhs{x:Co}{f:RF}(e:RfAt N w x f)(i:pb<w.1.size)(h:∀k,k<6->w.cell? ⟨pb,k,O⟩=(qw f)[k]?):PartsAt N w (C (G ⟨pb,0,O⟩) 1 cap) [x]:=by
 refine⟨pb,cap,rfl,i,λk c d=>?_⟩
 match k,d with
 | 0,d=>
  obtain rfl:x=c:=by simpa using d
  refine⟨f.pv,f.tv,f.rv,λj g=>?_,e.at'⟩;rw[show 0 * 6+j=j by omega,h j g];unfold qw qhd;rw[e.op,e.Q,e.H];rfl
 | k+1,d=>simp at d
def kS(c:Co):Prop:=(qt c).length<=400000000/\(qF c).length<=400000000
theorem qzb(o:Int)(T:tu){x y:Co}(D:T=qt (.bin (qq o) x y))(R:o≠0/\o≠2/\o≠22)(hp:PartsAt N w (C (G ⟨pb,0,O⟩) 2 2) [x,y])(F:N pb)(B:kS x)(A:kS y):
  ua 150 #[Y (BS (qH o)),Y (BS T),I J (qmk o),C (G ⟨pb,0,O⟩) 2 2,I J 0] w (xI N w (.bin (qq o) x y)):=by
 subst D;have:=qk1 (BS (qH o)) (qt (.bin (qq o) x y)) (qmk o) 0 hp uc (by have:=B.2;have:=A.2;simp;omega);refine this.mono ?_;rintro e w'⟨f,tv,rv,rfl,K,H⟩;refine RcEnds.rf ⟨f,_,tv,rv,rfl, ?_⟩;obtain⟨b,cap,e,Q,d⟩:=hp.below f;obtain⟨v,i,s,q,P⟩:=d 0 x rfl;obtain⟨u,g,r,j,M⟩:=d 1 y rfl;have L:pb=b:=by injection e with e;injection e with e;injection e
 refine⟨⟨b,cap,v,i,s,u,g,r,e,Am (L ▸ F),Q,q,P.mono (λ_ h _=>Am h),j,M.mono (λ_ h _=>Am h)⟩, ?_, ?_⟩;have:=K.keep (N':=λb=>N b\/w.1.size<=b) (λ_ _ _=>rfl) ui (λ_ h _=>An h);simpa [qF]using this;have z:qf4 (qq o)=0:=by unfold qf4 qq;rw[ak (by simp only;omega)]
 have:=H.keep (N':=λb=>N b\/w.1.size<=b) (λ_ _ _=>rfl) ui (λ_ h _=>An h);simpa [jV,z]using this
end Go.Proofs.YtdmmmgodfceilaaGreatDoor
