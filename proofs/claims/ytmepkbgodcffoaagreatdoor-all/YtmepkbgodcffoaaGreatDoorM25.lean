/- ud heap's order -/
import Derived.Test.YtmepkbgodcffoaaGreatDoorM07
import Derived.Test.YtmepkbgodcffoaaGreatDoorM21
import Derived.Test.YtmepkbgodcffoaaGreatDoorM26
set_option maxHeartbeats 16000000
set_option maxRecDepth 100000
namespace Go.Proofs.YtmepkbgodcffoaaGreatDoor
open Go.RowKit Go.Proofs.Tryz
open _root_.List renaming length->A
open Go.World renaming setCell->B,ownsRow->ue
open Go.Value renaming ownBlock->ug,bool->Ah,int->I,pointer->Ag,slice->C,string->Y,tuple->Aj
open Bool renaming false->uh,true->ui
open _root_.Array renaming size->Z
open Go renaming Value->Ap,World->Ao
open Go.Ending renaming returned->Ak
open Go.IntKind renaming i64->J
open Go.Obj renaming cells->Al
open Option renaming none->O,some->G
open Or renaming inl->Am,inr->An
variable{p:CP}{c d:Co}{op:Int}{hs:List (Nat×Nat)}{D E l:List Co}{ms:List Mg}{ps:List Pr}{r s:List Tk}{bxs nxs xs:List Ap}{x y:Mg}{a b base bn bytes gb hb i j k m n nn:Nat}{N R R0:Nat->Prop}{t:Tm}{ua e:TypeId}{i0:TypeInfo}{bv ev hv nv v z:Ap}{W w:Ao}
deriving instance DecidableEq for Mg
theorem qie(x y:Mg):bef x y=ui↔y.pri<x.pri\/(x.pri=y.pri/\x.M<y.M):=by
 grind[bef]
theorem vcc(x y:Mg):bef x y=uh↔x.pri<y.pri\/(x.pri=y.pri/\y.M<=x.M):=by
 grind[qie]
theorem qdu{z:Mg}(h:bef x y=uh)(f:bef y z=uh):bef x z=uh:=by
 grind[vcc]
theorem vrr(h:bef x y=ui):bef y x=uh:=by
 grind[vcc,Mg]
theorem qry(x:Mg):bef x x=uh:=by
 rw[vcc];omega
theorem qu8(x y:Mg)(h:i<A ms)(f:j<A ms)(t:Nat):((ms.set i y).set j x)[t]?=if t=j then G x else if t=i then G y else ms[t]?:=by
 grind
theorem qpe(q:ms[i]?=G x)(h:ms[j]?=G y)(f:i≠j):((ms.set i y).set j x).Perm ms:=by
 grind
def HeapL(ms:List Mg):Prop:=∀(i:Nat) (x y:Mg),ms[i+1]?=G x->ms[i / 2]?=G y->bef x y=uh
theorem HeapL.nil:HeapL []:=by simp[HeapL]
theorem HeapL.head(h:HeapL ms){t:Mg}(u:ms[0]?=G t):∀(n i:Nat),i<n->∀x,ms[i]?=G x->bef x t=uh:=by
 intro n
 induction n with
 | zero=>intro i f;omega
 | succ n ih=>
  intro i f x q
  cases i with
  | zero =>grind[qry]
  | succ i =>grind[qdu,HeapL]
def vxl(ms:List Mg)(k:Nat):Prop:=(∀(i:Nat) (x y:Mg),i+1≠k->ms[i+1]?=G x->ms[i / 2]?=G y->bef x y=uh)/\(∀(i:Nat) (x y:Mg),i / 2=k->0<k->ms[i+1]?=G x->ms[(k - 1) / 2]?=G y->bef x y=uh)
theorem vdx:∀(n:Nat) (ms:List Mg) (k:Nat),k<=n->k<A ms->vxl ms k->HeapL (qbc n ms k)/\(qbc n ms k).Perm ms:=by
 intro n
 induction n with
 | zero=>
  intro ms k J C q;have:k=0:=uq;exact⟨λi x y=>q.1 i x y uq,List.Perm.refl _⟩
 | succ n ih=>
  intro ms k J C q
  cases k with
  | zero =>grind[qhr]
  | succ k=>
   obtain⟨x,I⟩:∃x,ms[k+1]?=G x:=⟨_,ag C⟩;obtain⟨y,f⟩:∃y,ms[k / 2]?=G y:=⟨_,ag uq⟩
   cases hb:bef x y with
   | false =>grind[qhq,vxl,HeapL]
   | true=>
    rw[quy I f hb];have P:=vrr hb;have F:k+1≠k / 2:=uq;have M:=qu8 (ms:=ms) (i:=k+1) (j:=k / 2) x y C uq
    have:=ih ((ms.set (k+1) y).set (k / 2) x) (k / 2) uq ut (by
     constructor
     grind[qdu,vxl]
     intro i a b K O u H;rw[M]at u H;rw[ak uq,ak uq]at H;have B:bef y b=uh:=q.1 (k / 2 - 1) y b uq (by grind) H;rw[ak uq]at u
     by_cases h5:i+1=k+1
     grind
     rw[ak h5]at u;rw[<-K]at f
     exact qdu (q.1 i a y h5 u f) B)
    exact⟨this.1,this.2.trans (qpe I f F)⟩
theorem vde(h:HeapL ms)(m:Mg):HeapL (qdg ms m)/\(qdg ms m).Perm (m::ms):=by
 unfold qdg qns
 have:=vdx (A ms+1) (ms++[m]) (A ms) uq ur (by
  constructor
  grind[HeapL]
  intro i x y C B q u;have f:=(aj.1 q).1;simp at f
  omega)
 grind
theorem qr8(ms:List Mg)(k:Nat)(C:k<A ms):∃f x,yP ms k=f/\ms[f]?=G x/\(f=k\/(f=2 * k+1\/f=2 * k+2)/\(∀z,ms[k]?=G z->bef x z=ui))/\(∀(i:Nat) (a:Mg),i / 2=k->ms[i+1]?=G a->bef a x=uh):=by
 obtain⟨z,H⟩:∃z,ms[k]?=G z:=⟨_,ag C⟩;unfold yP
 by_cases h1:2 * k+1<A ms
 obtain⟨a,J⟩:∃a,ms[2 * k+1]?=G a:=⟨_,ag h1⟩;have K:∀f x,ms[f]?=G x->(f=k/\x=z/\bef a z=uh\/f=2 * k+1/\x=a/\bef a z=ui) ->
   ∃g y,jN ms 1 (2 * k+1+1) f=g/\ms[g]?=G y/\(g=k\/(g=2 * k+1\/g=2 * k+2)/\(∀z,ms[k]?=G z->bef y z=ui))/\(∀(i:Nat) (a:Mg),i / 2=k->ms[i+1]?=G a->bef a y=uh):=by
  intro f x q I
  have M:bef a x=uh:=by
   grind[qry]
  by_cases h2:2 * k+1+1<A ms
  .obtain⟨b,hb⟩:∃b,ms[2 * k+1+1]?=G b:=⟨_,ag h2⟩
   rw[jN,bs h2,jN,qdf,hb,q];simp only
   cases OQ:bef b x with
   | true=>
    refine⟨2 * k+1+1,b,ur,hb,An ⟨An rfl,λF O=>?_⟩,λi c u B=>?_⟩
    .grind[qie]
    .grind[qdu,vrr]
   | false=>
    refine⟨f,x,ur,q, ?_,λi c u B=>?_⟩
    .grind
    .grind
  .rw[jN,ak h2]
   refine⟨f,x,rfl,q, ?_,λi c u B=>?_⟩
   .grind
   .grind
 rw[jN,bs h1]
 cases hb:bef a z with
 | true =>grind[qdf]
 | false =>grind[qdf]
 grind[jN]
def vxm(ms:List Mg)(k:Nat):Prop:=(∀(i:Nat) (x y:Mg),i / 2≠k->ms[i+1]?=G x->ms[i / 2]?=G y->bef x y=uh)/\(∀(i:Nat) (x y:Mg),i / 2=k->0<k->ms[i+1]?=G x->ms[(k - 1) / 2]?=G y->bef x y=uh)
theorem vf5:∀(n:Nat) (ms:List Mg) (k:Nat),A ms<k+n->k<A ms->vxm ms k->HeapL (qbk n ms k)/\(qbk n ms k).Perm ms:=by
 intro n
 induction n with
 | zero=>grind
 | succ n ih=>
  intro ms k Q u M;obtain⟨f,y,J,q,K,T⟩:=qr8 ms k u;obtain⟨x,F⟩:∃x,ms[k]?=G x:=⟨_,ag u⟩;rw[qbk,J]
  by_cases hfk:f=k
  grind[vxm,HeapL]
  rw[ak hfk,F,q]
  obtain⟨I,U⟩:(f=2 * k+1\/f=2 * k+2)/\(∀z,ms[k]?=G z->bef y z=ui):=by
   obtain h|h:=K;exact absurd h hfk;exact h
  have H:=(aj.1 q).1;have P:=qu8 (ms:=ms) (i:=k) (j:=f) x y u H
  have:=ih ((ms.set k y).set f x) f ut (by simpa using H) (by
   constructor
   grind[vrr,Mg,vxm]
   intro i a b O S C B;rw[P]at C B;rw[ak uq,bs uq]at B;cases B;rw[ak uq,ak uq]at C
   exact M.1 i a y uq C (by rwa[O]))
  exact⟨this.1,this.2.trans (qpe F q (λe=>hfk e.symm))⟩
theorem vk6(h:HeapL ms){t:Mg}(B:ms.head?=G t):HeapL (qgp ms)/\(t::qgp ms).Perm ms:=by
 obtain⟨r,rfl⟩:∃r,ms=t::r:=by
  cases ms with
  | nil=>simp at B
  | cons a r=>grind
 rcases(by obtain e|⟨f,y,e⟩:=List.eq_nil_or_concat r;exact Am e;exact An ⟨f,y,by grind⟩:r=[]\/∃f y,r=f++[y]) with rfl|⟨f,y,rfl⟩
 have e:qgp [t]=[]:=by
  rfl
 exact⟨HeapL.nil,List.Perm.refl _⟩
 have e:qgp (t::(f++[y]))=qke (y::f) 0:=by
  have q:(t::(f++[y])).getLast?=G y:=by
   grind
  simp only[qgp,q];unfold qcy;simp
 have hs:=vf5 (A (y::f)+1) (y::f) 0 uq ur (by
  constructor;intro i a b H u F;have q:=(aj.1 u).1;have I:i<A f:=by simpa using q
  obtain⟨j,C⟩:∃j,i / 2=j+1:=⟨i / 2 - 1,uq⟩;refine h i a b ?_ ?_
  grind
  grind
  intro i a b _ u
  omega)
 rw[e];refine⟨hs.1,(List.Perm.cons t hs.2).trans ?_⟩;exact List.Perm.cons t (List.perm_append_comm (l₁:=[y]) (l₂:=f))
theorem vda{L:List Mg}(h:HeapL ms)(hp:ms.Perm (x::L))(H:∀a∈L,bef x a=ui):ms.head?=G x/\HeapL (qgp ms)/\(qgp ms).Perm L:=by
 obtain⟨t,f⟩:∃t,ms.head?=G t:=by
  cases ms with
  | nil=>exact absurd hp.symm ur
  | cons a r=>exact⟨a,rfl⟩
 have B:ms[0]?=G t:=by rwa[<-rm]
 have C:x∈ms:=hp.symm.subset ur;obtain⟨i,q⟩:=db C;have F:bef x t=uh:=h.head B (i+1) i uq x q
 have e:t=x:=by
  grind
 subst e;obtain⟨A,u⟩:=vk6 h f;exact⟨f,A,List.Perm.cons_inv (u.trans hp)⟩
theorem qnr(a:Option Addr)(cap:Nat)(w:Ao):lz 31 #[C a 0 cap] w (Ah ui):=by
 go_enter func31,ntmps31
 go_wp2
 go_loopw [3] (λi wr=>i=I J 0/\wr=w) (λ_ _=>0)
 exact⟨rfl,rfl⟩;obtain⟨rfl,rfl⟩:=hrel
 go_wp2
 go_ret;exact⟨rfl,uy⟩
theorem pR(h:EvIn w ev ps)(f:EvGood ps):lz 31 #[ev] w (Ah (zQ ps)):=by
 obtain⟨rfl,a,cap,rfl⟩|⟨b,off,cap,rfl,u,q,A⟩:=h;exact qnr a cap w
 grind[vdv,qmj,qsf,EvGood]
theorem qsr{s:uj}{t:Ast}(K:qW s=.ok t){B g J cap:Nat}{q:List RN}{cs:List Int}(F:Flat t 0 q)(H:ShA t)(dY:A q<=200)(c0:Xc w B 0 (C (G ⟨g,0,O⟩) J cap))(P:NodesAt w B (C (G ⟨g,0,O⟩) J cap) (xk q cs))(Q:B<Z w.1)(S:EvArg w ev ps)(M:qe5 ps)(hs:vgm ps):
  lz 52 #[Ag (G ⟨B,0,O⟩),ev] w (vV (ofA ps t)):=by
 have U:A (xk q cs)=A q:=qgk _ _;have T:=F.pos;have I:=pj K
 have key:=qss c0 P Q uq uq S M hs (λi n u=>by
   rw[ke]at u
   cases hm:q[i]? with
   | none=>grind
   | some m=>
    rw[hm]at u;injection u with u;obtain⟨o,a,b,c,d,e,f⟩:=qje F H i m hm;rw[ed]at d;subst u
    exact⟨o,a,b,c,d,e,f⟩) (quh (vcg F H I.1 I.2 (qc7 K)))
 obtain⟨ds,h1,Y,X⟩:=vn7 ps F H [] rfl
 grind[vm7]
theorem vdu(s:uj)(hs:s.size<=140737488355328)(u A:Int)(B:qW s=.err u A)(ev:Ap)(w:Ao)(O:∃a n c,ev=C a n c):
  lz 20 #[Y s,ev] w (Aj #[vV nV,I J u,I J A]):=by
 have RD:=qd (yE s hs (w.alloc (Al #[I J 0,I J 0,Y ⟨#[]⟩] 57)));rw[B]at RD;have K:=(Below.refl (Z w.1) w).alloc ux (Al #[I J 0,I J 0,Y ⟨#[]⟩] 57);obtain⟨a,n,c,rfl⟩:=O;have Q:(u==0)=uh:=by obtain h|h|h|h:=vm B<;>rw[h]<;>rfl
 go_enter func20,ntmps20
 go_wp2_with(first|(refine RD.mono ?_;rintro e q⟨f,rfl⟩;have S:Z w.1<Z q.1:=(by have:=f.size;simp at this;omega);have H:Xc q (Z w.1) 0 (I J 0):=((qi f).1 _ 0 ur).trans ur;have G:Xc q (Z w.1) 1 (I J 0):=((qi f).1 _ 1 ur).trans ur;have F:Xc q (Z w.1) 2 (Y ⟨#[]⟩):=((qi f).1 _ 2 ur).trans ur;have P:Xf q (Z w.1):=(λj=>((qi f).2 _ j ur).trans ur);have M:=qd (qg K f)))
 refine bo (by simp[go_sem,H,G,F]<;>rfl) rfl ⟨rfl, ?_⟩;exact((M.setCell ur _).setCell ur _).setCell ur _
theorem vku(s:uj)(hs:s.size<=140737488355328)(t:Ast)(F4:qW s=.ok t)(ps:List Pr)(ev:Ap)(w:Ao)(A7:EvIn w ev ps)(X:EvGood ps)(b:Bool)(Q:zQ ps=b):
  lz 20 #[Y s,ev] w (Aj #[vV (cond b (ofA ps t) nV),I J (cond b 0 7),I J 0]):=by
 have RD:=qd (yE s hs (w.alloc (Al #[I J 0,I J 0,Y ⟨#[]⟩] 57)));rw[F4]at RD;have U9:=(Below.refl (Z w.1) w).alloc ux (Al #[I J 0,I J 0,Y ⟨#[]⟩] 57);have EVA:=qd (A7.h U9);obtain⟨a,n,c,rfl⟩:=A7.slice;have HV:=qd (λq (h:EvIn q (C a n c) ps)=>pR h X);rw[Q]at HV;cases b
 all_goals simp only[cond_true,cond_false]
 all_goals try(have P:Hid (∀(w:Ao) (u g K cap:Nat) (B:List RN) (cs:List Int),Flat t 0 B->ShA t->A B<=200->Xc w u 0 (C (G ⟨g,0,O⟩) K cap)->NodesAt w u (C (G ⟨g,0,O⟩) K cap) (xk B cs)->u<Z w.1->EvArg w (C a n c) ps->lz 52 #[Ag (G ⟨u,0,O⟩),C a n c] w (vV (ofA ps t))):=qd λw u g K cap B cs h1 h2 h3 h4 h5 h6 h7=>qsr F4 h1 h2 h3 h4 h5 h6 h7 X.rng (qer Q);have lM:=qd (qu1 Q);obtain⟨r,hr⟩:=ie (ofA ps t);rw[hr]at P |-;simp only[vV]at P)
 all_goals go_enter func20,ntmps20
 all_goals go_wp2_with(first|(go_at_call 51;refine RD.mono ?_;rintro e q⟨H,rfl,M,B,cs,g,K,cap,F9,t8,dY,c0,hN⟩;have t7:Z (w.alloc (Al #[I J 0,I J 0,Y ⟨#[]⟩] 57)).1=Z w.1+1:=ur;rw[t7]at c0 hN M;have B9:Z w.1<Z q.1:=(by have:=H.size;simp at this;omega);have BD:=qd (EVA.h H);have g:∀i,q.cell? ⟨Z w.1,i,O⟩=(#[I J 0,I J 0,Y ⟨#[]⟩]:Array Ap)[i]?:=(λi=>((qi H).1 _ i ur).trans ur);have z0:Xf q (Z w.1):=(λj=>((qi H).2 _ j ur).trans ur);have I7:=qd (qg U9 H);have oU:=qd c0;have HN:=qd hN;have V3:=qd F9;have nB:=qd t8;have F:=qd dY)|(go_at_call 31;refine be (HV _ BD) λw2 f=>?_;have D8:Z w.1<Z w2.1:=(md f.size);have WY:Z w.1+1<Z w2.1:=(md f.size);have MB:=qd (BD.h f);have k:∀i,w2.cell? ⟨Z w.1,i,O⟩=(#[I J 0,I J 0,Y ⟨#[]⟩]:Array Ap)[i]?:=(λi=>((qi f).1 _ i B9).trans (g i));have z2:Xf w2 (Z w.1):=(λj=>((qi f).2 _ j B9).trans (z0 j));have AY:=qd (((qi f).1 _ 0 M).trans oU);have LR:=qd (HN.h M f);have aG:=qd (qg I7 f))|(refine be (P _ _ _ _ _ _ _ V3 nB F AY LR WY (MB.arg lM)) λT S=>?_;have m:∀i,T.cell? ⟨Z w.1,i,O⟩=(#[I J 0,I J 0,Y ⟨#[]⟩]:Array Ap)[i]?:=(λi=>((qi S).1 _ i D8).trans (k i));have z3:Xf T (Z w.1):=(λj=>((qi S).2 _ j D8).trans (z2 j));have U:=qd (qg aG S)))
 all_goals first|(have _q:=U;refine bo (by simp[go_sem,m]<;>rfl) rfl ⟨rfl, ?_⟩;exact((U.setCell ur _).setCell ur _).setCell ur _)|(refine bo (by simp[go_sem,k]<;>rfl) rfl ⟨rfl, ?_⟩;exact((aG.setCell ur _).setCell ur _).setCell ur _)
theorem qfx(s:uj)(hs:s.size<=140737488355328)(ps:List Pr)(ev:Ap)(w:Ao)(f:EvIn w ev ps)(h:EvGood ps):
  lz 20 #[Y s,ev] w (Aj #[vV (xx s ps).val,I J (xx s ps).errno,I J (xx s ps).U]):=by
 unfold xx
 cases F4:qW s with
 | err en pl=>exact vdu s hs en pl F4 ev w f.slice
 | ok t=>cases E9:zQ ps<;>exact vku s hs t F4 ps ev w f h _ E9
section
variable {L:T3} {ts:TS} {t:Ast} {R:List Tk} {o:Nat}
end
theorem vtj(h:OkC c)(R:List Tk):(hd (toks c++R)).Q≠7:=by
 cases c with
 | leaf p=>
  show(hd (qbt p [] []++R)).Q≠7;obtain⟨h,_⟩|⟨h,_⟩|⟨h,_⟩|⟨h|h,_⟩:=h<;>simp[qbt,h,hd,qk]
 | un p x=>
  show(hd (qbt p (toks x) []++R)).Q≠7;obtain rfl|⟨_,rfl|hp⟩:=h.2;simp[qbt,qr,hd,qk];simp[qbt,qr,hd,qk];simp[qbt,hp.1,hd,qk]
 | bin p x y=>
  show(hd (qbt p (toks x) (toks y)++R)).Q≠7;obtain⟨op,q,rfl⟩:=h.2.2;have f:op≠0/\op≠1/\op≠2/\op≠3/\op≠4/\op≠5/\op≠22/\op≠23:=by unfold jm at q;omega
  simp[qbt,qr,f,hd,qk]
theorem vuy:∀{s:uk} {L:List Tk},Lx s L->∀{L':List Tk},Lx s L'->L=L':=by
 intro s L h
 induction h with
 | nil h=>
  intro L' f
  cases f with
  | nil _=>rfl
  | cons e hk t=>rw[h]at e;subst e;exact absurd rfl hk
 | cons e hk t ih=>
  intro L' f
  cases f with
  | nil h=>rw[h]at e;subst e;exact absurd rfl hk
  | cons e' J8 t'=>grind
def vua(k:Tk):CP:=if k.Q=2 then⟨0,0,k.str,[]⟩ else if k.Q=3 then⟨1,k.M,[],[]⟩ else if k.Q=4 then⟨2,0,k.str,[]⟩ else if k.Q=8 then qr 3 else qr 4
theorem vbt(h:LfP p):∃k,toks (.leaf p)=[k]/\p=vua k/\k.Q≠26/\k.Q≠7:=by
 obtain⟨op,num,str,esc⟩:=p;obtain⟨a,b,c,_⟩|⟨a,_,_,b,c⟩|⟨a,b,c⟩|⟨a,b,c,d⟩:=h;simp only at a b c;subst a b c;exact⟨⟨2,0,str⟩,rfl,rfl,by grind,by grind⟩;simp only at a b c;subst a b c;exact⟨⟨3,num,[]⟩,rfl,rfl,by grind,by grind⟩;simp only at a b c;subst a b c;exact⟨⟨4,0,str⟩,rfl,rfl,by grind,by grind⟩;simp only at a b c d;subst b c d;obtain a|a:=a<;>subst a
 exact⟨qk 8,rfl,rfl,uu,uu⟩;exact⟨qk 9,rfl,rfl,uu,uu⟩
inductive CV:Co->List Tk->Prop
 | leaf (k:Tk):k.Q≠26->k.Q≠7->CV (.leaf (vua k)) [k]
 | no (x:Co):OkC x->CV (.un (qr 5) x) (qk 26::qk 7::(toks x++[qk 27]))
 | null (x:Co):OkC x->CV (.un (qr 23) x) (qk 26::(toks x++qk 14::[qk 15,qk 27]))
 | like (s e:List UInt8) (x:Co):OkC x->CV (.un ⟨22,0,s,e⟩ x) (qk 26::(toks x++qk 12::⟨4,0,s⟩::(vi5 e++[qk 27])))
 | bin (op:Int) (x y:Co):jm op->OkC x->OkC y->CV (.bin (qr op) x y) (qk 26::(toks x++qk (sgK op)::(toks y++[qk 27])))
theorem vh6(f:jm op)(x y:Co):toks (.bin (qr op) x y)=qk 26::(toks x++qk (sgK op)::(toks y++[qk 27])):=by
 show qbt (qr op) (toks x) (toks y)=_;unfold jm at f;unfold qbt qr;rw[ak ut,ak ut,ak ut,ak ut,ak ut,ak ut,ak ut,ak ut]
theorem vtl(h:OkC c):CV c (toks c):=by
 cases c with
 | leaf p=>
  obtain⟨k,G,F,C,B⟩:=vbt h;rw[G,F];exact .leaf k C B
 | un p x=>
  obtain⟨f,rfl|⟨_,rfl|A⟩⟩:=h;exact .no x f;exact .null x f;obtain⟨op,num,str,esc⟩:=p;obtain⟨a,b,_⟩:=A;subst a b;exact .like str esc x f
 | bin p x y=>
  obtain⟨f,u,op,q,rfl⟩:=h;rw[vh6 q];exact .bin op x y q f u
theorem vfy(h:OkC c):∃k t,toks c=k::t/\k.Q≠7:=by
 have f:=vtj h [];have hv:=vtl h;generalize toks c=l at hv f
 cases hv with
 | leaf k a b=>exact⟨k,[],rfl,b⟩
 | no x _=>exact⟨_,_,rfl,uu⟩
 | null x _=>exact⟨_,_,rfl,uu⟩
 | like s e x _=>exact⟨_,_,rfl,uu⟩
 | bin op x y _ _ _=>exact⟨_,_,rfl,uu⟩
theorem no7{x:Co}(h:OkC x){t:List Tk}(e:qk 7::t=toks x++r):False:=by
 obtain⟨k,u,q,f⟩:=vfy h;rw[q,di]at e;injection e with e _;exact f (e ▸ rfl)
theorem qkd:sgK op≠14/\sgK op≠12:=by
 grind[sgK]
theorem vsy{a b:Int}(f:jm a)(hb:jm b)(h:sgK a=sgK b):a=b:=by
 have key:∀o,jm o->o=6\/o=7\/o=8\/o=10\/o=11\/o=16\/o=17\/o=18\/o=19:=λo h=>by grind[jm]
 obtain rfl|rfl|rfl|rfl|rfl|rfl|rfl|rfl|rfl:=key a f<;>obtain rfl|rfl|rfl|rfl|rfl|rfl|rfl|rfl|rfl:=key b hb<;>first|rfl|exact absurd h uu
theorem vqj{e f:uk}(h:vi5 e++[qk 27]++r=vi5 f++[qk 27]++s):e=f/\r=s:=by
 grind[vi5,qk]
theorem ph{a b:Int}(h:qk a::r=qk b::s):a=b/\r=s:=by
 injection h with f q;injection f with f;exact⟨f,q⟩
theorem vn0:∀c,OkC c->∀d,OkC d->∀r s:List Tk,toks c++r=toks d++s->c=d/\r=s:=by
 intro c
 induction c with
 | leaf p=>
  intro f d hd r s h;have v:=vtl f;have w:=vtl hd;generalize toks (.leaf p)=l at v h;generalize toks d=m at w h
  cases v with
  | leaf k a b=>
   cases w with
   | leaf k' a' b'=>grind
   | _=>simp at h;exact absurd (by rw[h.1];rfl) a
 | un p x ih=>
  intro f d hd r s h;have v:=vtl f;have w:=vtl hd;generalize toks (.un p x)=l at v h;generalize toks d=m at w h
  cases v with
  | no x _=>
   cases w with
   | leaf k' a' b'=>simp at h;exact absurd (by rw[<-h.1];rfl) a'
   | no x' I0 =>grind
   | null x' I0=>grind[no7]
   | like s' e' x' I0=>grind[no7]
   | bin op x' y' _ I0 _=>grind[no7]
  | null x _=>
   cases w with
   | leaf k' a' b'=>simp at h;exact absurd (by rw[<-h.1];rfl) a'
   | no x' I0=>grind[no7]
   | null x' I0 =>grind
   | like s' e' x' I0 =>grind[ph]
   | bin op x' y' _ I0 _ =>grind[ph,qkd]
  | like s0 e0 x _=>
   cases w with
   | leaf k' a' b'=>simp at h;exact absurd (by rw[<-h.1];rfl) a'
   | no x' I0=>grind[no7]
   | null x' I0 =>grind[ph]
   | like s' e' x' I0 =>grind[vqj]
   | bin op x' y' _ I0 _ =>grind[ph,qkd]
 | bin p x y ihx ihy=>
  intro f d hd r s h;have v:=vtl f;have w:=vtl hd;have q:=f.1;generalize toks (.bin p x y)=l at v h;generalize toks d=m at w h
  cases v with
  | bin op x y ho _ _=>
   cases w with
   | leaf k' a' b'=>simp at h;exact absurd (by rw[<-h.1];rfl) a'
   | no x' I0=>simp only[di,bw]at h;injection h with _ h;exact(no7 q h.symm).elim
   | null x' I0=>
    simp only[di,bw]at h;obtain⟨rfl,u⟩:=ihx q x' I0 _ _ (by injection h);exact absurd (ph u).1 qkd.1
   | like s' e' x' I0=>
    simp only[di,bw]at h;obtain⟨rfl,u⟩:=ihx q x' I0 _ _ (by injection h);exact absurd (ph u).1 qkd.2
   | bin op' x' y' iB I0 cQ =>grind[ph,vsy]
theorem vf9(f:OkC c)(hd:OkC d)(h:qu c=qu d):c=d:=by
 have q:=(vc1 c f).1;have u:=(vc1 d hd).1;rw[h]at q;exact(vn0 c f d hd [] [] (by rw[vuy q u])).1
def qcw:Co->List Co
 | .leaf p=>[.leaf p]
 | .un p x=>qcw x++[.un p x]
 | .bin p x y=>qcw x++qcw y++[.bin p x y]
def qun:Co->CP
 | .leaf p=>p
 | .un p _=>p
 | .bin p _ _=>p
theorem qi3:∀c,qG c=(qcw c).map qu/\zq c=(qcw c).map λd=>qcm (qun d):=by
 intro c
 induction c<;>grind[qG,qcw,zq,qun]
theorem vtb:∀c,OkC c->∀d∈qcw c,OkC d:=by
 intro c
 induction c with
 | leaf p=>intro h d hd;obtain rfl:=dd.1 hd;exact h
 | un p x ih=>
  intro h d hd;obtain hd|hd:=cr.1 hd;exact ih h.1 d hd
  grind
 | bin p x y ihx ihy=>
  intro h d hd;obtain hd|hd:=cr.1 hd
  grind[OkC]
  grind
inductive Gath:List Co->List Co->List Co->Prop
 | nil (D:List Co):Gath D [] D
 | old {D l E:List Co} {c:Co}:c∈D->Gath D l E->Gath D (c::l) E
 | new {D l E:List Co} {c:Co}:c∉D->Gath (D++[c]) l E->Gath D (c::l) E
theorem Gath.app(h:Gath D l E){m F:List Co}(f:Gath E m F):Gath D (l++m) F:=by
 induction h with
 | nil D=>exact f
 | old hc _ ih=>exact .old hc (ih f)
 | new hc _ ih=>exact .new hc (ih f)
theorem Gath.pre(h:Gath D l E):∃N,E=D++N:=by
 induction h with
 | nil D=>exact⟨[],ur⟩
 | old _ _ ih=>exact ih
 | @new _ _ _ c _ _ ih=>grind
def TmC(D:List Co):Co->Tm->Prop
 | .leaf p,t=>t=zV p 0 0
 | .un p x,t=>∃a,D[a]?=G x/\t=zV p a 0
 | .bin p x y,t=>∃a b,D[a]?=G x/\D[b]?=G y/\t=zV p a b
theorem TmC.more{N:List Co}(h:TmC D c t):TmC (D++N) c t:=by
 grind[Co,TmC]
theorem vs2(h:OkC c):match c with
  | .leaf p=>0<=p.op/\p.op<=4
  | .un p _=>p.op=5\/p.op=22\/p.op=23
  | .bin p _ _=>jm p.op:=by
 cases c with
 | leaf p=>
  show 0<=p.op/\p.op<=4;obtain⟨a,_⟩|⟨a,_⟩|⟨a,_⟩|⟨a,_⟩:=h<;>omega
 | un p x=>
  show p.op=5\/p.op=22\/p.op=23;obtain⟨_,rfl|⟨_,rfl|q⟩⟩:=h;exact Am rfl;exact An (An rfl);exact An (Am q.1)
 | bin p x y=>obtain⟨_,_,op,f,rfl⟩:=h;exact f
theorem qbr{q:CP}{u f:Nat}(B:0<=p.op)(A:0<=q.op)(h:zV p a b=zV q u f):p=q/\a=u/\b=f:=by
 grind[zV,CP]
theorem TmC.inj(H:OkC c)(hd:OkC d)(h:TmC D c t)(A:TmC D d t):c=d:=by
 have F:=vs2 H;have C:=vs2 hd
 cases c with
 | leaf p =>grind[zV,qbr,jm,TmC]
 | un p x=>
  obtain⟨a,u,rfl⟩:=h
  cases d with
  | leaf q =>grind[zV,TmC]
  | un q x'=>
   obtain⟨K,f,e⟩:=A;obtain⟨rfl,rfl,_⟩:=qbr uq uq e;rw[u]at f;injection f with e;rw[e]
  | bin q x' y' =>grind[zV,jm,TmC]
 | bin p x y=>
  simp only[jm]at F;obtain⟨a,b,u,G,rfl⟩:=h
  cases d with
  | leaf q =>grind[zV,TmC]
  | un q x' =>grind[zV,TmC]
  | bin q x' y'=>
   simp only[jm]at C;obtain⟨K,M,f,B,e⟩:=A;obtain⟨rfl,rfl,rfl⟩:=qbr uq uq e;rw[u]at f;rw[G]at B;injection f with J;injection B with I;rw[J,I]
theorem vrs(f:D.Nodup){x:Co}(h:D[a]?=G x)(hb:D[b]?=G x):a=b:=by
 grind[List.getElem?_inj]
theorem TmC.one(f:D.Nodup){u:Tm}(h:TmC D c t)(q:TmC D c u):t=u:=by
 cases c<;>grind[vrs,TmC]
structure PrT(ts:List Tm)(D:List Co):Prop where
 len:A ts=A D
 ok:∀c∈D,OkC c
 nd:D.Nodup
 at':∀(i:Nat) (c:Co),D[i]?=G c->∃t,ts[i]?=G t/\TmC D c t
theorem PrT.nil:PrT [] []:=by grind[PrT]
theorem PrT.put{ts:List Tm}(h:PrT ts D)(H:OkC c)(C:TmC D c t):∃E,Gath D [c] E/\PrT (pW ts t).1 E/\E[(pW ts t).2]?=G c:=by
 unfold pW
 cases hw:jj ts t with
 | some i=>
  obtain⟨J,F,_⟩:=ip.1 hw;have F:ts[i]=t:=(kK _ _).1 F;obtain⟨d,hd⟩:∃d,D[i]?=G d:=⟨_,ag (md h.len)⟩;obtain⟨u,I,hv⟩:=h.at' i d hd;have f:u=t:=by grind
  subst f;have q:c=d:=TmC.inj H (h.ok d (bh hd)) C hv;subst q;exact⟨D,.old (bh hd) (.nil _),h,hd⟩
 | none=>
  have K:∀u∈ts,¬u=t:=by
   grind[jj,kK]
  have B:c∉D:=by
   grind[List.getElem?_of_mem,TmC.one,PrT]
  refine⟨D++[c],.new B (.nil _),⟨by simp[h.len], ?_, ?_, ?_⟩, ?_⟩
  grind[PrT]
  grind[PrT]
  intro i d hd
  by_cases hi:i<A D
  grind[TmC.more,PrT]
  rw[cu uq]at hd
  have e:i=A D:=by
   grind
  subst e;obtain rfl:c=d:=by simpa using hd
  exact⟨t,by rw[<-h.len];simp,C.more⟩
  grind[PrT]
theorem PrT.U:∀(c:Co),OkC c->∀(ts:List Tm) (D:List Co),PrT ts D->∃E,Gath D (qcw c) E/\PrT (qA ts c).1 E/\E[(qA ts c).2]?=G c:=by
 intro c
 induction c with
 | leaf p=>intro f ts D h;exact h.put f rfl
 | un p x ih=>
  intro f ts D h;obtain⟨E,B,A,H⟩:=ih f.1 ts D h;obtain⟨F,q,u,C⟩:=A.put (c:=.un p x) (t:=zV p (qA ts x).2 0) f ⟨_,H,rfl⟩;exact⟨F,B.app q,u,C⟩
 | bin p x y ihx ihy=>
  intro f ts D h;obtain⟨E,B,A,H⟩:=ihx f.1 ts D h;obtain⟨F,q,u,C⟩:=ihy f.2.1 _ E A;obtain⟨N,P⟩:=q.pre;have I:F[(qA ts x).2]?=G x:=by grind
  obtain⟨O,K,J,M⟩:=u.put (c:=.bin p x y) (t:=zV p (qA ts x).2 (qA (qA ts x).1 y).2) f ⟨_,_,I,C,rfl⟩;exact⟨O,(B.app q).app K,J,M⟩
def kj(a:List (List UInt8)×Nat)(e:List UInt8×Nat):List (List UInt8)×Nat:=if a.1.contains e.1 then a else(a.1++[e.1],a.2+e.2)
def qbf(D:List Co):Nat:=(D.map λd=>qcm (qun d)).sum
theorem vqo(h:Gath D l E)(q:∀c∈D,OkC c)(f:∀c∈l,OkC c):(l.map λd=>(qu d,qcm (qun d))).foldl kj (D.map qu,qbf D)=(E.map qu,qbf E):=by
 induction h with
 | nil D=>rfl
 | @old D l E c hc _ ih =>grind[kj]
 | @new D l E c hc _ ih =>grind[vf9,kj,qbf]
section
attribute [local go_sem ↓] vr
theorem vir:(prog.info? 5).map (λi=>(i.zero,i.size,i.bytes))=G (G (I .u8 0),1,1):=uw
structure RoAt(base:Nat)(e:TypeId)(W W5:Ao)(v:Ap)(g:Nat)(x:Ap):Prop where
 bel:Below base W W5
 block:∀b,b<W.1.size->ug v≠G b->W5.1[b]?=W.1[b]?
 at':ug v=G g\/W.1.size<g
 old:∀b,ug v=G b->(∃cur,W5.1[b]?=G (Al cur e (0,0)))/\∀j,W.cell? ⟨b,j,O⟩=G x->W5.cell? ⟨b,j,O⟩=G x
 size:W.1.size<W5.1.size
theorem vea{x:Ap}(F:prog.underlying ua=G (.slice e))(J:prog.info? e=G i0)(M:i0.zero=G z)(Q:i0.size=1)(P:i0.bytes=bytes)(EF:z.cells.size=1)(h:ue W base e 1 v n xs)(hb:base<=Z W.1)(C:x.oneCell'=ui)(hn:n<=20000000000000)(K:((n+1)+(n+1) / 4+192) * bytes<=281474976710656)(H:Nat)(X:Z W.1=H):
  ∃g cap f,(appR #[ua,ua] ua #[v,.slice (G ⟨H,0,O⟩) 1 1]).run prog (W.alloc (Al #[x] e)).drew=.ok (.slice (G ⟨g,0,O⟩) (n+1) cap) f/\Hid (ue f base e 1 (.slice (G ⟨g,0,O⟩) (n+1) cap) (n+1) (xs++[x]))/\Hid (RoAt base e W f v g x):=by
 subst X;have u:ue (W.alloc (Al #[x] e)).drew base e 1 v n xs:=World.ownsRow.alloc h (Al #[x] e);have B:(W.alloc (Al #[x] e)).drew.cell? ⟨Z W.1,0,O⟩=G x:=by show(W.alloc (Al #[x] e)).cell? _=_;simp
 have t7:(W.alloc (Al #[x] e)).drew.1.size=Z W.1+1:=by show(W.alloc (Al #[x] e)).1.size=_;simp
 obtain⟨g,cap,f,I,B7,A,D6⟩:=qte (ty:=ua) F J M Q P EF u B C K (by unfold maxLen;omega) uq;have hs:=A.size;refine⟨g,cap,f,I,qd B7,qd ⟨Go.RowKit.Below.grown (((Below.refl base W).alloc hb _).drew) A uq (λk T=>(u.lt k T).1),λb N8 q=>(A.block b uq (λe=>q e.symm)).trans (((Below.refl (Z W.1) W).alloc ux _).block b N8), ?_,λb hv=>?_,uq⟩⟩
 grind
 have S:=(h.lt b hv).2;obtain⟨h1,Y⟩:=vd0 F J M Q P u B C K uq I b hv;exact⟨h1,λj U=>Y j ((bg (w:=W) (a:=⟨b,j,O⟩) (((Below.refl (Z W.1) W).alloc ux _).block b S)).trans U)⟩
theorem qv4{x:Ap}(F:prog.underlying ua=G (.slice e))(J:prog.info? e=G i0)(M:i0.zero=G z)(Q:i0.size=1)(P:i0.bytes=bytes)(EF:z.cells.size=1)(h:ue W base e 1 v n xs)(hb:base<=Z W.1)(C:x.oneCell'=ui)(hn:n<=20000000000000)(K:((n+1)+(n+1) / 4+192) * bytes<=281474976710656)(H:Nat)(X:Z W.1=H):
  ∃g cap f,(appR #[ua,ua] ua #[v,.slice (G ⟨H,0,O⟩) 1 1]).run prog (W.alloc (Al #[x] e))=.ok (.slice (G ⟨g,0,O⟩) (n+1) cap) f/\Hid (ue f base e 1 (.slice (G ⟨g,0,O⟩) (n+1) cap) (n+1) (xs++[x]))/\Hid (RoAt base e W f v g x):=by
 subst X;have u:ue (W.alloc (Al #[x] e)) base e 1 v n xs:=World.ownsRow.alloc h (Al #[x] e);have B:Xc (W.alloc (Al #[x] e)) (Z W.1) 0 x:=by show(W.alloc (Al #[x] e)).cell? _=_;simp
 have t7:Z (W.alloc (Al #[x] e)).1=Z W.1+1:=by grind[World.alloc]
 obtain⟨g,cap,f,I,B7,A,D6⟩:=qte (ty:=ua) F J M Q P EF u B C K (by unfold maxLen;omega) uq;have hs:=A.size;refine⟨g,cap,f,I,qd B7,qd ⟨Go.RowKit.Below.grown (((Below.refl base W).alloc hb _)) A uq (λk T=>(u.lt k T).1),λb N8 q=>(A.block b uq (λe=>q e.symm)).trans (((Below.refl (Z W.1) W).alloc ux _).block b N8), ?_,λb hv=>?_,uq⟩⟩
 grind
 have S:=(h.lt b hv).2;obtain⟨h1,Y⟩:=vd0 F J M Q P u B C K uq I b hv;exact⟨h1,λj U=>Y j ((bg (w:=W) (a:=⟨b,j,O⟩) (((Below.refl (Z W.1) W).alloc ux _).block b S)).trans U)⟩
structure LgAt(base:Nat)(W W':Ao)(nv bv:Ap)(m:Nat):Prop where
 bel:Below base W W'
 size:W.1.size<W'.1.size
 block:∀b,b<W.1.size->ug nv≠G b->ug bv≠G b->W'.1[b]?=W.1[b]?
 oldN:∀b,ug nv=G b->(∃cur,W'.1[b]?=G (Al cur 3 (0,0)))/\∀j,W.cell? ⟨b,j,O⟩=G (qfi m)->W'.cell? ⟨b,j,O⟩=G (qfi m)
 oldB:∀b,ug bv=G b->(∃cur,W'.1[b]?=G (Al cur 5 (0,0)))/\∀j,W.cell? ⟨b,j,O⟩=G (qef m)->W'.cell? ⟨b,j,O⟩=G (qef m)
theorem vkt(n:Nat)(x:Ap):List.replicate n x++[x]=List.replicate (n+1) x:=by rw[List.replicate_succ']
theorem qx3(h:FmAt base W gb m nv bv nn bn (List.replicate nn (qfi m)) (List.replicate bn (qef m)))(hm:m<=20000000000000)(uE:nn<=1000000000)(mC:bn<=1000000000):
  uo 62 #[Ag (G ⟨gb,0,O⟩)] W λe W'=>e=Ak (Ag (G ⟨Z W.1,0,O⟩))/\(∃nv' bv',FmAt base W' (Z W.1) m nv' bv' (nn+1) (bn+1) (List.replicate (nn+1) (qfi m)) (List.replicate (bn+1) (qef m))/\(∀k,ug nv'=G k->ug nv=G k\/Z W.1<=k)/\∀k,ug bv'=G k->ug bv=G k\/Z W.1<=k)/\LgAt base W W' nv bv m:=by
 have YE:∃a c,nv=C a nn c:=by
  obtain⟨rfl,h0⟩|⟨g,cap,cur,rfl,_⟩:=h.nr.2;exact⟨O,0,by rw[h0]⟩;exact⟨_,_,rfl⟩
 have ZS:∃a c,bv=C a bn c:=by
  obtain⟨rfl,h0⟩|⟨g,cap,cur,rfl,_⟩:=h.br.2;exact⟨O,0,by rw[h0]⟩;exact⟨_,_,rfl⟩
 have hw:IntKind.i64.wrap (-1099511627776 - (m:Int))=-1099511627776 - (m:Int):=by
  have GN:IntKind.i64.bits=64:=rfl;have EN:IntKind.i64.signed=ui:=rfl;simp[IntKind.wrap,GN,EN];omega
 have dI:=h.lo;have A1:=h.lt;obtain⟨V,S⟩:=il (W.alloc (Al #[C O 0 0,C O 0 0,I J (m:Int)] 74):Ao);have V2:Xb W V:=S ▸ uy.alloc ux _
 have fR:Z V.1=Z W.1+1:=by rw[S];simp
 have fJ:∀i,V.cell? ⟨Z W.1,i,O⟩=#[C O 0 0,C O 0 0,I J (m:Int)][i]?:=λi=>by rw[S,ce _ _ _ _ ur]
 have hVf:Xf V (Z W.1):=λi=>by rw[S];simp
 obtain⟨i0,hi,F5,B9,D8⟩:=info_parts qmq;obtain⟨q,T,F,mE,aE,oO⟩:=vea (ua:=50) underlying50 hi F5 B9 D8 rfl (W:=V) (qp h.nr V2 ux) (show base<=Z V.1 by omega) (x:=qfi m) rfl uq uq (Z W.1+1) fR;have KT:=q9 oO;have sA:∀k,ug nv=G k->k<Z W.1:=λk A=>(h.nr.lt k A).2
 have fG:∀k,ug bv=G k->k<Z W.1:=λk A=>(h.br.lt k A).2
 have YG:ug nv≠G (Z W.1):=λe=>md (sA _ e)
 have wU:ug bv≠G (Z W.1):=λe=>md (fG _ e)
 have rL:Z V.1<Z F.1:=KT.size;have k5:∀b,b<Z V.1->ug nv≠G b->F.1[b]?=V.1[b]?:=KT.block;have wN:q<Z F.1/\(ug nv=G q\/Z V.1<q):=⟨(aE.lt q rfl).2,KT.at'⟩;have wM:q≠Z W.1:=λe=>by obtain u|u:=wN.2;exact YG (e ▸ u);omega
 have GF:ug bv≠G q:=λe=>by obtain u|u:=wN.2;exact h.nb q u e;have:=fG _ e;omega
 obtain⟨f,P⟩:∃X:Ao,X=B F ⟨Z W.1,0,O⟩ (C (G ⟨q,0,O⟩) (nn+1) T):=⟨_,rfl⟩;have rE:Z f.1=Z F.1:=by rw[P,mw]
 have U:∀b,b≠Z W.1->f.1[b]?=F.1[b]?:=λb hb=>by rw[P];exact bi _ ⟨Z W.1,0,O⟩ _ b hb
 have oL:F.1[Z W.1]?=V.1[Z W.1]?:=k5 _ uq YG;have p0:F.cell? ⟨Z W.1,0,O⟩=G (C O 0 0):=(bg (w:=V) (a:=⟨Z W.1,0,O⟩) oL).trans (fJ 0);have p1:F.cell? ⟨Z W.1,1,O⟩=G (C O 0 0):=(bg (w:=V) (a:=⟨Z W.1,1,O⟩) oL).trans (fJ 1);have p2:F.cell? ⟨Z W.1,2,O⟩=G (I J (m:Int)):=(bg (w:=V) (a:=⟨Z W.1,2,O⟩) oL).trans (fJ 2);have pz:Xf F (Z W.1):=λi=>(cn (w:=V) (a:=⟨Z W.1,i,O⟩) oL).trans (hVf i)
 have kVW:∀b,b<Z W.1->V.1[b]?=W.1[b]?:=λb hb=>V2.block b hb
 have GD:f.1[gb]?=W.1[gb]?:=(U gb uq).trans ((k5 gb uq h.nd).trans (kVW gb A1));have v0:V.cell? ⟨gb,0,O⟩=G nv:=(bg (w:=W) (a:=⟨gb,0,O⟩) (kVW gb A1)).trans h.c0;have v2:V.cell? ⟨gb,2,O⟩=G (I J (m:Int)):=(bg (w:=W) (a:=⟨gb,2,O⟩) (kVW gb A1)).trans h.c2;have x1:f.cell? ⟨gb,1,O⟩=G bv:=(bg (w:=W) (a:=⟨gb,1,O⟩) GD).trans h.c1;have x2:f.cell? ⟨gb,2,O⟩=G (I J (m:Int)):=(bg (w:=W) (a:=⟨gb,2,O⟩) GD).trans h.c2
 have OR:ue f base 5 1 bv bn (List.replicate bn (qef m)):=vo h.br λk A=>by
  have B8:=fG k A;exact(U k uq).trans ((k5 k uq (λe=>h.nb k e A)).trans (kVW k B8))
 have q0:f.cell? ⟨Z W.1,0,O⟩=G (C (G ⟨q,0,O⟩) (nn+1) T):=by rw[P];simp[go_sem,p0]
 have q1:f.cell? ⟨Z W.1,1,O⟩=G (C O 0 0):=by rw[P];simp[go_sem,p1]
 have q2:f.cell? ⟨Z W.1,2,O⟩=G (I J (m:Int)):=by rw[P];simp[go_sem,p2]
 have qz:Xf f (Z W.1):=λi=>by rw[P];simp[go_sem,pz i]
 obtain⟨j0,hj,eP,XD,XC⟩:=info_parts vir;obtain⟨K,m7,H,fI,uQ,HO6⟩:=vea (ua:=65) underlying65 hj eP XD XC rfl (W:=f) OR (show base<=Z f.1 by omega) (x:=qef m) rfl uq uq (Z f.1) rfl;have KS:=q9 HO6;have hz6:Z f.1<Z H.1:=KS.size;have k6:∀b,b<Z f.1->ug bv≠G b->H.1[b]?=f.1[b]?:=KS.block;have UM:ug bv=G K\/Z f.1<K:=KS.at';have GE:K≠Z W.1:=λe=>by obtain u|u:=UM;exact wU (e ▸ u);omega
 have oK:H.1[Z W.1]?=f.1[Z W.1]?:=k6 _ uq wU;have s0:H.cell? ⟨Z W.1,0,O⟩=G (C (G ⟨q,0,O⟩) (nn+1) T):=(bg (w:=f) (a:=⟨Z W.1,0,O⟩) oK).trans q0;have s1:H.cell? ⟨Z W.1,1,O⟩=G (C O 0 0):=(bg (w:=f) (a:=⟨Z W.1,1,O⟩) oK).trans q1;have s2:H.cell? ⟨Z W.1,2,O⟩=G (I J (m:Int)):=(bg (w:=f) (a:=⟨Z W.1,2,O⟩) oK).trans q2;have sz:Xf H (Z W.1):=λi=>(cn (w:=f) (a:=⟨Z W.1,i,O⟩) oK).trans (qz i)
 obtain⟨Q,M⟩:∃X:Ao,X=B H ⟨Z W.1,1,O⟩ (C (G ⟨K,0,O⟩) (bn+1) m7):=⟨_,rfl⟩;have Y:∀b,b≠Z W.1->Q.1[b]?=H.1[b]?:=λb hb=>by rw[M];exact bi _ ⟨Z W.1,1,O⟩ _ b hb
 have ZZ:Z Q.1=Z H.1:=by rw[M,mw]
 have T5:Below base W f:=by
  rw[P];exact Below.setCell ((V2.mono uq).trans KT.bel) (by show base<=Z W.1;omega) _
 have aN:Below base W Q:=by
  rw[M];exact Below.setCell (T5.trans KS.bel) (by show base<=Z W.1;omega) _
 have keepB:∀b,b<Z W.1->ug nv≠G b->ug bv≠G b->Q.1[b]?=W.1[b]?:=λb hb u h2=>(Y b uq).trans ((k6 b uq h2).trans ((U b uq).trans ((k5 b uq u).trans (kVW b hb))))
 have ty6:∃cur,Q.1[Z W.1]?=G (Al cur 74 (0,0)):=by
  have tV:V.1[Z W.1]?=G (Al #[C O 0 0,C O 0 0,I J (m:Int)] 74 (0,0)):=by rw[S];exact heap_alloc_new W _
  have t5:=oL.trans tV;have tX5:f.1[Z W.1]?=G (Al (Array.setIfInBounds #[C O 0 0,C O 0 0,I J (m:Int)] 0 (C (G ⟨q,0,O⟩) (nn+1) T)) 74 (0,0)):=by rw[P];simp[B,iy,t5]
  have t6:=oK.trans tX5;refine⟨Array.setIfInBounds (Array.setIfInBounds #[C O 0 0,C O 0 0,I J (m:Int)] 0 (C (G ⟨q,0,O⟩) (nn+1) T)) 1 (C (G ⟨K,0,O⟩) (bn+1) m7), ?_⟩;rw[M];simp[B,iy,t6]
 have HFM:Hid (FmAt base Q (Z W.1) m (C (G ⟨q,0,O⟩) (nn+1) T) (C (G ⟨K,0,O⟩) (bn+1) m7) (nn+1) (bn+1) (List.replicate (nn+1) (qfi m)) (List.replicate (bn+1) (qef m))):=qd (by
  have r5:=q9 aE;have r6:=q9 uQ;rw[vkt]at r5 r6;refine⟨uq,ty6,by rw[M];simp[go_sem,s0],by rw[M];simp[go_sem,s1],by rw[M];simp[go_sem,s2],λi=>by rw[M];simp[go_sem,sz i], ?_, ?_,λe=>wM (by simpa [Value.ownBlock]using e),λe=>GE (by simpa [Value.ownBlock]using e),λk A B8=>?_⟩;refine vo r5 λk A=>?_
  obtain rfl:q=k:=by simpa [Value.ownBlock]using A
  exact(Y q wM).trans ((k6 q uq GF).trans (U q wM));refine vo r6 λk A=>?_
  obtain rfl:K=k:=by simpa [Value.ownBlock]using A
  exact Y K GE;obtain rfl:q=k:=by simpa [Value.ownBlock]using A
  obtain rfl:K=q:=by simpa [Value.ownBlock]using B8
  obtain u|u:=UM;exact GF u
  have:=wN.1;omega)
 have HLG:Hid (LgAt base W Q nv bv m):=qd ⟨aN,uq,keepB,λb hb=>by
   have hl:=sA b hb;have fB:ug bv≠G b:=λe=>h.nb b hb e
   obtain⟨⟨cur,u⟩,h2⟩:=KT.old b hb;have hx:Q.1[b]?=F.1[b]?:=(Y b uq).trans ((k6 b uq fB).trans (U b uq))
   exact⟨⟨cur,hx.trans u⟩,λj hj=>(bg (w:=F) (a:=⟨b,j,O⟩) hx).trans (h2 j ((bg (w:=W) (a:=⟨b,j,O⟩) (kVW b hl)).trans hj))⟩,λb hb=>by
   have hl:=fG b hb;have fB:ug nv≠G b:=λe=>h.nb b e hb
   obtain⟨⟨cur,u⟩,h2⟩:=KS.old b hb;have hx5:f.1[b]?=W.1[b]?:=(U b uq).trans ((k5 b uq fB).trans (kVW b hl))
   exact⟨⟨cur,(Y b uq).trans u⟩,λj hj=>(bg (w:=H) (a:=⟨b,j,O⟩) (Y b uq)).trans (h2 j ((bg (w:=W) (a:=⟨b,j,O⟩) hx5).trans hj))⟩⟩
 have lK:Hid ((∀k,ug (C (G ⟨q,0,O⟩) (nn+1) T)=G k->ug nv=G k\/Z W.1<=k)/\∀k,ug (C (G ⟨K,0,O⟩) (bn+1) m7)=G k->ug bv=G k\/Z W.1<=k):=qd ⟨λk A=>by
   obtain rfl:q=k:=by simpa [Value.ownBlock]using A
   exact wN.2.imp id (λ_=>uq),λk A=>by
   obtain rfl:K=k:=by simpa [Value.ownBlock]using A
   exact UM.imp id (λ_=>uq)⟩
 have HV:=qd S;have DI:=qd P;have HX6:=qd M;have g2:=h.c2;obtain⟨na,nc,rfl⟩:=YE;obtain⟨ba,bc,rfl⟩:=ZS;unfold qfi at mE;unfold qef at fI;have n6:gb<Z f.1:=uq;have n8:Z W.1<Z F.1:=uq;have n9:Z W.1<Z H.1:=uq;clear h V2 fJ hVf aE oO KT sA fG YG wU k5 wN wM GF P U oL kVW GD OR uQ HO6 KS k6 UM GE oK M Y T5 aN keepB S rE ZZ ty6;go_enter func62,ntmps62
 go_wp2
 rw[<-q9 HV]
 go_region
 all_goals go_wp2
 all_goals rw[<-q9 DI]
 all_goals go_region
 all_goals go_wp2
 all_goals rw[<-q9 HX6]
 all_goals go_ret
 all_goals exact⟨rfl,⟨_,_,q9 HFM,lK.1,lK.2⟩,q9 HLG⟩
end
section
variable {pv:Ap}
attribute [local go_sem ↓] vr
theorem vqw:(prog.info? 47).map (λi=>(i.zero,i.size,i.bytes))=G (G (Ag O),1,8):=uw
theorem xu{e size:Nat}{U:Ao}(h:ue U base e size v n xs)(f:ug v=G k):∃c,U.1[k]?=G (Al c e (0,0)):=by
 obtain⟨rfl,_⟩|⟨g,cap,cur,rfl,_,q,_⟩:=h.2<;>grind[Value.ownBlock]
theorem qdm{c d:Array Ap}(h:W.1[k]?=G (Al c a (0,0)))(f:W.1[k]?=G (Al d b (0,0))):a=b:=by
 grind
theorem vnq{ua:Nat}{x:Ap}(h:ue W base ua 1 v n (List.replicate n x))(f:n<=1000000000)(A:∀k,ug v=G k->N k):MkS N ua W v x:=by
 obtain⟨rfl,B⟩|⟨g,cap,cur,rfl,_,u,_⟩:=h.2
 grind[MkS]
 refine⟨_,n,cap,rfl,f,λj q=>⟨g,cur,rfl,A g rfl,u, ?_⟩⟩;rw[World.ownsRow.cellAt h j uq,List.getElem?_replicate,bs q]
theorem FmAt.hd(h:FmAt base W gb m nv bv nn bn (List.replicate nn (qfi m)) (List.replicate bn (qef m)))(f:nn<=1000000000)(hb:bn<=1000000000)(A:N gb)(u:∀k,ug nv=G k->N k)(q:∀k,ug bv=G k->N k):HdAt N W gb m:=by constructor<;>grind[vnq,FmAt]
section
variable {N:Nat->Prop} {base:Nat} {W W':Ao} {gb m nn bn b:Nat} {nv bv:Ap} {nxs bxs:List Ap}
theorem vwk(h:HdAt N W b m)(q:FmAt base W gb m nv bv nn bn nxs bxs)(K:LgAt base W W' nv bv m):HdAt N W' b m:=by
 obtain⟨cur,u⟩:=h.ty
 have C:ug nv≠G b:=λe=>by
  obtain⟨c,f⟩:=xu q.nr e;exact absurd (qdm u f) uu
 have T:ug bv≠G b:=λe=>by
  obtain⟨c,f⟩:=xu q.br e;exact absurd (qdm u f) uu
 have hb:=K.block b (qa0 u) C T;have f:∀i,W'.cell? ⟨b,i,O⟩=W.cell? ⟨b,i,O⟩:=λi=>bg (w:=W) (a:=⟨b,i,O⟩) hb
 obtain⟨I,b1,S,Q,⟨a2,H,c2,Y,K9,P⟩,a3,F,c3,X,J,M⟩:=h.lists;refine⟨h.nb,⟨cur,hb.trans u⟩,⟨I,b1,(f 0).trans S,(f 1).trans Q,⟨a2,H,c2,Y,K9,λj A=>?_⟩,a3,F,c3,X,J,λj A=>?_⟩,(f 2).trans h.mark⟩;obtain⟨k,Z,U,A5,B,F2⟩:=P j A
 have aJ:ug bv≠G k:=λe=>by
  obtain⟨c,f⟩:=xu q.br e;exact absurd (qdm B f) uu
 by_cases aB:ug nv=G k
 grind[LgAt]
 grind[World.cell?_of_block,LgAt]
 obtain⟨k,Z,U,A5,B,F2⟩:=M j A
 have aB:ug nv≠G k:=λe=>by
  obtain⟨c,f⟩:=xu q.nr e;exact absurd (qdm B f) uu
 by_cases aJ:ug bv=G k
 grind[LgAt]
 grind[World.cell?_of_block,LgAt]
end
structure HsR(pv:Ap)(w:Ao)(R:Nat->Prop)(W:Ao)(hv:Ap)(hs:List (Nat×Nat)):Prop where
 at':HsAt pv w W hv hs
 each:∀x∈hs,HdAt (λk=>(w.1.size<k/\ug hv≠G k)/\¬R k) W x.1 x.2
 hf:∀k,ug hv=G k\/w.1.size=k->¬R k
structure KpAt(pv:Ap)(w:Ao)(R0 R:Nat->Prop)(W0:Ao)(m:Nat)(W:Ao)(hv:Ap)(hs:List (Nat×Nat))(gb:Nat)(nv bv:Ap)(nn bn:Nat):Prop where
 bel:Below w.1.size w W
 c0:W.cell? ⟨w.1.size,0,O⟩=G pv
 c1:W.cell? ⟨w.1.size,1,O⟩=G hv
 fz:∀i,W.frozen? ⟨w.1.size,i,O⟩=uh
 row:ue W (w.1.size+1) 47 1 hv (A hs) (hs.map hpV)
 fam:FmAt (w.1.size+1) W gb m nv bv nn bn (List.replicate nn (qfi m)) (List.replicate bn (qef m))
 gne:ug hv≠G gb
 each:∀h∈hs,(h.2=m/\HdAt (λk=>(w.1.size<k/\ug hv≠G k)/\¬R k) W h.1 m)\/HdAt (λk=>((w.1.size<k/\ug hv≠G k)/\¬R k)/\¬R0 k/\k<W0.1.size) W h.1 h.2
 zz:W0.1.size<=W.1.size
 fr:∀k,R k->W.1[k]?=W0.1[k]?
 rz:∀k,R k->k<W0.1.size
 nf:∀k,ug nv=G k\/ug bv=G k\/gb=k->(R0 k/\¬R k)\/W0.1.size<=k
 hf:∀k,ug hv=G k\/w.1.size=k->¬R k
section
variable {w W W' W5 W0:Ao} {R0 R:Nat->Prop} {m gb gb' nn bn g cap:Nat} {hv nv bv nv' bv':Ap} {hs:List (Nat×Nat)}
theorem KpAt.lt(h:KpAt pv w R0 R W0 m W hv hs gb nv bv nn bn):Z w.1<Z W.1:=by
 have:=h.fam.lt;have:=h.fam.lo;omega
theorem KpAt.nR(h:KpAt pv w R0 R W0 m W hv hs gb nv bv nn bn)(f:R k):ug nv≠G k/\ug bv≠G k/\gb≠k:=by
 grind[KpAt]
theorem KpAt.n0(h:KpAt pv w R0 R W0 m W hv hs gb nv bv nn bn)(q:¬R0 k)(f:k<Z W0.1):ug nv≠G k/\ug bv≠G k:=by
 grind[KpAt]
theorem KpAt.long(h:KpAt pv w R0 R W0 m W hv hs gb nv bv nn bn)(H:FmAt (Z w.1+1) W' (Z W.1) m nv' bv' (nn+1) (bn+1) (List.replicate (nn+1) (qfi m)) (List.replicate (bn+1) (qef m)))(q:LgAt (Z w.1+1) W W' nv bv m)(J:∀k,ug nv'=G k->ug nv=G k\/Z W.1<=k)(hb:∀k,ug bv'=G k->ug bv=G k\/Z W.1<=k):KpAt pv w R0 R W0 m W' hv hs (Z W.1) nv' bv' (nn+1) (bn+1):=by
 have I:=h.lt;have K:=h.zz;have C:∀k,ug nv=G k->Z w.1+1<=k:=λk f=>(h.fam.nr.lt k f).1
 have M:∀k,ug bv=G k->Z w.1+1<=k:=λk f=>(h.fam.br.lt k f).1
 have A:W'.1[Z w.1]?=W.1[Z w.1]?:=q.block _ I (λe=>by grind) (λe=>by grind);have u:∀i,W'.cell? ⟨Z w.1,i,O⟩=W.cell? ⟨Z w.1,i,O⟩:=λi=>bg (w:=W) (a:=⟨Z w.1,i,O⟩) A
 refine⟨h.bel.trans (q.bel.mono uq),(u 0).trans h.c0,(u 1).trans h.c1,λi=>(cn (w:=W) (a:=⟨Z w.1,i,O⟩) A).trans (h.fz i), ?_,H,λe=>?_,λx B=>?_,md q.size,λk f=>(q.block k (md (h.rz k f)) (h.nR f).1 (h.nR f).2.1).trans (h.fr k f),h.rz,λk f=>?_,h.hf⟩;refine vo h.row λk f=>?_
 obtain⟨c,u⟩:=xu h.row f;refine q.block k (qa0 u) (λe=>?_) (λe=>?_)
 grind[xu,KpAt,FmAt]
 grind[xu,KpAt,FmAt]
 have:=(h.row.lt _ e).2;omega;obtain⟨e,hd⟩|hd:=h.each x B
 grind[vwk,KpAt]
 exact An (hd.keep (λb hb F=>q.block b F (h.n0 hb.2.1 hb.2.2).1 (h.n0 hb.2.1 hb.2.2).2) (λ_ h _=>h))
 grind[KpAt]
theorem KpAt.put(h:KpAt pv w R0 R W0 m W hv hs gb nv bv nn bn)(uE:nn<=1000000000)(mC:bn<=1000000000)(hR:ue W5 (Z w.1+1) 47 1 (C (G ⟨g,0,O⟩) (A hs+1) cap) (A hs+1) (hs.map hpV++[Ag (G ⟨gb,0,O⟩)]))(S:RoAt (Z w.1+1) 47 W W5 hv g (Ag (G ⟨gb,0,O⟩))):
  KpAt pv w R0 R W0 m (B W5 ⟨Z w.1,1,O⟩ (C (G ⟨g,0,O⟩) (A hs+1) cap)) (C (G ⟨g,0,O⟩) (A hs+1) cap) (hs++[(gb,m)]) gb nv bv nn bn:=by
 have A1:=h.lt;obtain⟨X,I⟩:=il (B W5 ⟨Z w.1,1,O⟩ (C (G ⟨g,0,O⟩) (A hs+1) cap):Ao);rw[<-I];have XL:∀k,ug hv=G k->Z w.1+1<=k/\k<Z W.1:=λk f=>h.row.lt k f
 have XJ:ug hv≠G (Z w.1):=λe=>by grind
 have J6:Z w.1+1<=g:=(hR.lt g rfl).1;have Y:∀b,b≠Z w.1->X.1[b]?=W5.1[b]?:=λb hb=>by grind[Below.heap_setCell]
 have F:∀b,b<Z W.1->b≠Z w.1->ug hv≠G b->X.1[b]?=W.1[b]?:=λb hb J h2=>(Y b J).trans (S.block b hb h2)
 have iY:W5.1[Z w.1]?=W.1[Z w.1]?:=S.block _ A1 XJ;have c5:∀i,W5.cell? ⟨Z w.1,i,O⟩=W.cell? ⟨Z w.1,i,O⟩:=λi=>bg (w:=W) (a:=⟨Z w.1,i,O⟩) iY
 have u:∀b,b<Z W.1->ug hv≠G b->ug (C (G ⟨g,0,O⟩) (A hs+1) cap)≠G b:=λb hb P e=>by
  obtain rfl:g=b:=by simpa [Value.ownBlock]using e
  obtain J|J:=S.at';exact P J;omega
 have glt:=h.fam.lt;have glo:=h.fam.lo
 have M:∀k,ug nv=G k->k<Z W.1/\Z w.1+1<=k/\ug hv≠G k:=λk f=>⟨(h.fam.nr.lt k f).2,(h.fam.nr.lt k f).1,λe=>by
  obtain⟨c,Q⟩:=xu h.row e;obtain⟨d,hd⟩:=xu h.fam.nr f
  exact absurd (qdm Q hd) uu⟩
 have K:∀k,ug bv=G k->k<Z W.1/\Z w.1+1<=k/\ug hv≠G k:=λk f=>⟨(h.fam.br.lt k f).2,(h.fam.br.lt k f).1,λe=>by
  obtain⟨c,Q⟩:=xu h.row e;obtain⟨d,hd⟩:=xu h.fam.br f
  exact absurd (qdm Q hd) uu⟩
 have U:X.1[gb]?=W.1[gb]?:=F gb glt uq h.gne;have T:∀i,X.cell? ⟨gb,i,O⟩=W.cell? ⟨gb,i,O⟩:=λi=>bg (w:=W) (a:=⟨gb,i,O⟩) U
 have hF:FmAt (Z w.1+1) X gb m nv bv nn bn (List.replicate nn (qfi m)) (List.replicate bn (qef m)):=by
  obtain⟨cur,G0⟩:=h.fam.ty;exact⟨glo,⟨cur,U.trans G0⟩,(T 0).trans h.fam.c0,(T 1).trans h.fam.c1,(T 2).trans h.fam.c2,λi=>(cn (w:=W) (a:=⟨gb,i,O⟩) U).trans (h.fam.fz i),vo h.fam.nr λk f=>F k (M k f).1 (by grind) (M k f).2.2,vo h.fam.br λk f=>F k (K k f).1 (by grind) (K k f).2.2,h.fam.nd,h.fam.bd,h.fam.nb⟩
 refine⟨?_, ?_, ?_,λi=>?_, ?_,hF,u gb glt h.gne,λx H=>?_,by grind[KpAt,RoAt],λk f=>(F k (by grind[KpAt]) (λe=>h.hf k (An e.symm) f) (λe=>h.hf k (Am e) f)).trans (h.fr k f),h.rz,h.nf,λk f=>?_⟩
 grind[Below.setCell,Below.trans,Below.mono,KpAt,RoAt]
 .rw[I];simp[go_sem,c5,h.c0]
 .rw[I];simp[go_sem,c5,h.c1]
 .rw[I];simp[go_sem,(cn (w:=W) (a:=⟨Z w.1,i,O⟩) iY).trans (h.fz i)]
 rw[cd,dq]
 exact vo hR λk f=>Y k (by
  obtain rfl:g=k:=by simpa [Value.ownBlock]using f
  omega)
 obtain H|H:=cr.1 H;obtain⟨e,hd⟩|hd:=h.each x H;exact Am ⟨e,hd.keep (λb hb q=>F b q uq hb.1.2) (λb hb q=>⟨⟨hb.1.1,u b q hb.1.2⟩,hb.2⟩)⟩;exact An (hd.keep (λb hb q=>F b q uq hb.1.1.2) (λb hb q=>⟨⟨⟨hb.1.1.1,u b q hb.1.1.2⟩,hb.1.2⟩,hb.2⟩));obtain rfl:=dd.1 H;exact Am ⟨rfl,hF.hd uE mC ⟨⟨uq,u gb glt h.gne⟩,λe=>(h.nR e).2.2 rfl⟩ (λk f=>⟨⟨by grind,u k (M k f).1 (M k f).2.2⟩,λe=>(h.nR e).1 f⟩) (λk f=>⟨⟨by grind,u k (K k f).1 (K k f).2.2⟩,λe=>(h.nR e).2.1 f⟩)⟩;obtain f|f:=f
 grind[KpAt]
 exact h.hf k (An f)
theorem KpAt.done(h:KpAt pv w R0 R W0 m W hv hs gb nv bv nn bn)(q:∀x∈hs,x.2<=A hs):HsR pv w R W hv hs:=by
 have each:∀x∈hs,HdAt (λk=>(Z w.1<k/\ug hv≠G k)/\¬R k) W x.1 x.2:=λx f=>by
  obtain⟨e,hd⟩|hd:=h.each x f;rw[e];exact hd;exact hd.keep (λ_ _ _=>rfl) (λ_ h _=>h.1)
 exact⟨⟨h.bel,h.lt,h.c0,h.c1,h.fz,h.row,λx f=>⟨(each x f).keep (λ_ _ _=>rfl) (λ_ h _=>h.1),q x f⟩⟩,each,h.hf⟩
end
end
section
variable {pv:Ap}
attribute [local go_sem ↓] vr
theorem FmAt.mark{f:Nat}(h:FmAt base W gb f nv bv nn bn nxs bxs)(m:Nat):FmAt base (B W ⟨gb,2,O⟩ (I J (m:Int))) gb m nv bv nn bn nxs bxs:=by
 obtain⟨cur,u⟩:=h.ty;have c2:=h.c2;refine⟨h.lo,⟨cur.setIfInBounds 2 (I J (m:Int)),by simp[B,iy,u]⟩,by simp[go_sem,h.c0],by simp[go_sem,h.c1],by simp[go_sem,c2],λi=>by simp[go_sem,h.fz i],vo h.nr λk q=>bi _ ⟨gb,2,O⟩ _ k (λe=>h.nd (by grind)),vo h.br λk q=>bi _ ⟨gb,2,O⟩ _ k (λe=>h.bd (by grind)),h.nd,h.bd,h.nb⟩
theorem vj0{w W W2:Ao}(h:HsR pv w R0 W hv hs)(K:∀k,R k->R0 k)(P:∀k,R k->k<Z W.1)(U:ug hv≠G hb)(q:∀k,ug nv=G k\/ug bv=G k\/hb=k->R0 k/\¬R k)
  (M:FmAt (Z w.1+1) W2 hb m nv bv nn bn (List.replicate nn (qfi m)) (List.replicate bn (qef m))) (u:MrkAt (Z w.1+1) (B W ⟨hb,2,O⟩ (I J (m:Int))) W2 nv bv):KpAt pv w R0 R W m W2 hv hs hb nv bv nn bn:=by
 have dI:=M.lo;have A:∀k,¬R0 k->W2.1[k]?=W.1[k]?:=λk f=>(u.block k (λe=>f (q k (Am e)).1) (λe=>f (q k (An (Am e))).1)).trans (bi _ ⟨hb,2,O⟩ _ k (λe=>f (q k (An (An (Eq.symm e)))).1))
 have Q:∀k,R k->W2.1[k]?=W.1[k]?:=λk f=>(u.block k (λe=>(q k (Am e)).2 f) (λe=>(q k (An (Am e))).2 f)).trans (bi _ ⟨hb,2,O⟩ _ k (λe=>(q k (An (An (Eq.symm e)))).2 f))
 have F:=A _ (h.hf _ (An rfl));have H:∀i,W2.cell? ⟨Z w.1,i,O⟩=W.cell? ⟨Z w.1,i,O⟩:=λi=>bg (w:=W) (a:=⟨Z w.1,i,O⟩) F
 have Y:Z W2.1=Z W.1:=by rw[u.size,mw]
 exact⟨(Below.setCell h.at'.bel (by grind) _).trans (u.bel.mono uq),(H 0).trans h.at'.c0,(H 1).trans h.at'.c1,λi=>(cn (w:=W) (a:=⟨Z w.1,i,O⟩) F).trans (h.at'.fz i),vo h.at'.row λk f=>A k (h.hf k (Am f)),M,U,λx S=>An ((h.each x S).keep (λb X _=>A b X.2) (λb C T=>⟨⟨C.1,λe=>C.2 (K b e)⟩,C.2,T⟩)),uq,Q,P,λk f=>Am (q k f),λk f e=>h.hf k f (K k e)⟩
theorem vus(h:HsR pv w R0 W hv hs)(hR:∀k,R k->R0 k)(rz:∀k,R k->k<Z W.1)(Q:FmAt (Z w.1+1) W hb 0 nv bv nn bn nxs bxs)(nf:∀k,ug nv=G k\/ug bv=G k\/hb=k->R0 k/\¬R k)(hn:A hs<=19300000000000)(uE:nn<=100000000)(mC:bn<=100000000):
  uo 29 #[Ag (G ⟨Z w.1,0,O⟩),Ag (G ⟨hb,0,O⟩)] W λe W'=>e=Ak (Aj #[])/\∃hv' G1,HsR pv w R W' hv' G1/\A G1=A hs+4/\(∀k,R k->W'.1[k]?=W.1[k]?)/\Z W.1<=Z W'.1:=by
 obtain⟨n,hl⟩:=ie (A hs);have HL:=qd hl;have c1:=h.at'.c1;have b2:=Q.c2;have bz:=Q.fz;have bl:=Q.lt;obtain⟨a,c,rfl⟩:=h.at'.form
 have hT:ug (C a (A hs) c)≠G hb:=λe=>by
  obtain⟨d,hd⟩:=xu h.at'.row e;obtain⟨f,P⟩:=Q.ty;exact absurd (qdm hd P) uu
 have MK:=qd (vc8 (Q.mark (n+1)) uq uq uq);have HK:Hid (∀W2,FmAt (Z w.1+1) W2 hb (n+1) nv bv nn bn (List.replicate nn (qfi (n+1))) (List.replicate bn (qef (n+1)))->MrkAt (Z w.1+1) (B W ⟨hb,2,O⟩ (I J ((n+1:Nat):Int))) W2 nv bv->KpAt pv w R0 R W (n+1) W2 (C a (A hs) c) hs hb nv bv nn bn):=qd λW2 T S=>vj0 h hR rz hT nf T S
 have HM:Hid (∀x∈hs,x.2<=n+1):=qd λx F=>md ((h.at'.each x F).2)
 rw[hl]at c1 HK hn |-;have OP:((n+1:Nat):Int)=(n:Int)+1:=uq;rw[OP]at MK HK;go_enter func29,ntmps29
 have PUT:Hid (∀(U:Ao) (hv:Ap) (l:List (Nat×Nat)) (gb:Nat) (nv bv:Ap) (p q:Nat),KpAt pv w R0 R W (n+1) U hv l gb nv bv p q->p<=1000000000->q<=1000000000->A l<=19300000000005->∃g cap u,(appR #[28,28] 28 #[hv,C (G ⟨Z U.1,0,O⟩) 1 1]).run prog (U.alloc (Al #[Ag (G ⟨gb,0,O⟩)] 47))=.ok (C (G ⟨g,0,O⟩) (A l+1) cap) u/\Xc u (Z w.1) 1 hv/\(Xf u (Z w.1))/\Z w.1<Z u.1/\Hid (KpAt pv w R0 R W (n+1) (B u ⟨Z w.1,1,O⟩ (C (G ⟨g,0,O⟩) (A l+1) cap)) (C (G ⟨g,0,O⟩) (A l+1) cap) (l++[(gb,n+1)]) gb nv bv p q)):=qd λU hv l gb nv bv p q H hp hq hl=>by
  obtain⟨i0,hi,F5,B9,D8⟩:=info_parts vqw;have A1:=H.lt;obtain⟨g,cap,u,hr,HR,HO⟩:=qv4 (ua:=28) underlying28 hi F5 B9 D8 rfl (W:=U) H.row uq (x:=Ag (G ⟨gb,0,O⟩)) rfl uq uq (Z U.1) rfl;have hO:=q9 HO;have XJ:ug hv≠G (Z w.1):=λe=>md ((H.row.lt _ e).1)
  have iY:=hO.block _ A1 XJ;exact⟨g,cap,u,hr,(bg (w:=U) (a:=⟨Z w.1,1,O⟩) iY).trans H.c1,λi=>(cn (w:=U) (a:=⟨Z w.1,i,O⟩) iY).trans (H.fz i),md hO.size,qd (H.put hp hq HR hO)⟩
 go_wp2_with(refine be MK ?_;rintro w2⟨P9,wG⟩;have Y:=q9 HK w2 P9 wG;have Q9:=qd Y;obtain⟨g3,QF,w3,OU,r3,z3,l3,X9⟩:=q9 PUT w2 _ _ _ _ _ _ _ Y uq uq (md (q9 HL));rw[q9 HL]at OU X9;have d1:=Y.c1;have dl:=Y.lt)
 obtain⟨X3,hX3⟩:∃X:Ao,X=B w3 ⟨Z w.1,1,O⟩ (C (G ⟨g3,0,O⟩) (n+1) QF):=⟨_,rfl⟩;rw[<-hX3]at X9 |-
 go_loopw [4,5] (λgp i wr=>∃(k gb p q:Nat) (hv nv bv:Ap) (l:List (Nat×Nat)),k<=3/\i=I J k/\gp=Ag (G ⟨gb,0,O⟩)/\p=nn+k/\q=bn+k/\Hid (KpAt pv w R0 R W (n+1) wr hv l gb nv bv p q)/\Hid (A l=n+1+k/\∀x∈l,x.2<=n+1)) (λ_ i _=>3 - (intOf i).toNat)
 exact⟨0,hb,nn,bn,_,nv,bv,hs++[(hb,n+1)],uq,rfl,rfl,rfl,rfl,X9,qd ⟨by have:=q9 HL;simp;omega,λx F=>by obtain h|h:=cr.1 F;exact q9 HM x h;rw[dd.1 h];exact ux⟩⟩;obtain⟨k,gb,p,q,hv,nv,bv,l,H,rfl,rfl,hp,hq,M,K⟩:=hrel
 by_cases F2:k<3
 .have A5:(k:Int)<3:=uq
  have LG:=qd (qx3 M.fam uq uq uq)
  have PUT':Hid (∀W',(∃nv' bv',FmAt (Z w.1+1) W' (Z wr.1) (n+1) nv' bv' (p+1) (q+1) (List.replicate (p+1) (qfi (n+1))) (List.replicate (q+1) (qef (n+1)))/\(∀k,ug nv'=G k->ug nv=G k\/Z wr.1<=k)/\∀k,ug bv'=G k->ug bv=G k\/Z wr.1<=k)->LgAt (Z w.1+1) wr W' nv bv (n+1)->∃(g cap:Nat) (u:Ao) (nv' bv':Ap),(appR #[28,28] 28 #[hv,C (G ⟨Z W'.1,0,O⟩) 1 1]).run prog (W'.alloc (Al #[Ag (G ⟨Z wr.1,0,O⟩)] 47))=.ok (C (G ⟨g,0,O⟩) (A l+1) cap) u/\Xc u (Z w.1) 1 hv/\(Xf u (Z w.1))/\Z w.1<Z u.1/\Xc W' (Z w.1) 1 hv/\Z w.1<Z W'.1/\Hid (KpAt pv w R0 R W (n+1) (B u ⟨Z w.1,1,O⟩ (C (G ⟨g,0,O⟩) (A l+1) cap)) (C (G ⟨g,0,O⟩) (A l+1) cap) (l++[(Z wr.1,n+1)]) (Z wr.1) nv' bv' (p+1) (q+1))):=qd λW' P OA=>by
   obtain⟨nv',bv',P,G4,P9⟩:=P;have J8:=(q9 M).long P OA G4 P9;obtain⟨g,cap,u,T,S,h3,h4,h5⟩:=q9 PUT W' hv l (Z wr.1) nv' bv' (p+1) (q+1) J8 uq uq (md ((q9 K).1));exact⟨g,cap,u,nv',bv',T,S,h3,h4,J8.c1,J8.lt,h5⟩
  have hvf:∃a c,hv=C a (A l) c:=by
   rcases(q9 M).row.2 with⟨rfl,h0⟩|⟨g,cap,cur,rfl,_⟩;exact⟨O,0,by rw[h0]⟩;exact⟨_,_,rfl⟩
  obtain⟨va,vc,rfl⟩:=hvf
  go_wp2_with(refine be LG ?_;rintro w4⟨GG,hl4⟩;obtain⟨g6,m7,w6,nv6,bv6,fI,r6,z6,l6,d6,dl6,SF⟩:=q9 PUT' w4 GG hl4)
  go_roundw
  case rel=>exact⟨k+1,Z wr.1,p+1,q+1,_,nv6,bv6,l++[(Z wr.1,n+1)],uq,by go_num,rfl,uq,uq,SF,qd ⟨by have:=(q9 K).1;simp;omega,λx F=>by obtain h|h:=cr.1 F;exact K.2 x h;rw[dd.1 h];exact ux⟩⟩
  simp[intOf];omega
 have bC:k=3:=uq;subst bC;have HD:Hid (∃hv' G1,HsR pv w R wr hv' G1/\A G1=n+4/\(∀k,R k->wr.1[k]?=W.1[k]?)/\Z W.1<=Z wr.1):=qd ⟨hv,l,M.done (λx F=>by have T:=(q9 K).2 x F;have S:=(q9 K).1;omega),md ((q9 K).1),M.fr,M.zz⟩
 go_wp2
 first
  | exact⟨rfl,q9 HD⟩
  | (go_end0;exact⟨rfl,q9 HD⟩)
end
end Go.Proofs.YtmepkbgodcffoaaGreatDoor
