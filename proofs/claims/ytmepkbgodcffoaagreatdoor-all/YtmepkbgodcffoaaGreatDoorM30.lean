/- Subscribe, as a whole -/
import Derived.Test.YtmepkbgodcffoaaGreatDoorM28
set_option maxHeartbeats 32000000
set_option maxRecDepth 100000
namespace Go.Proofs.YtmepkbgodcffoaaGreatDoor
open Go.RowKit Go.Proofs.Tryz
open _root_.List renaming length->A
open Go.World renaming setCell->B,ownsRow->ue
open Go.Value renaming ownBlock->ug,bool->Ah,int->I,pointer->Ag,slice->C,string->Y,tuple->Aj
open Bool renaming false->uh,true->ui
open Go.Addr renaming mk->D
open _root_.Array renaming size->Z
open Go renaming Value->Ap,World->Ao
open Go.Ending renaming returned->Ak
open Go.IntKind renaming i64->J
open Go.Obj renaming cells->Al
open Option renaming none->O,some->G
open Or renaming inl->Am,inr->An
variable{id last n pri:Int}{ss:List uk}{hs:List (Nat×Nat)}{cs:List Co}{zs:List Int}{ms:List Mg}{ps:List Pr}{l:List Rs}{R:List Ru}{L:List Su}{ts:List Tm}{m:Mg}{b base bb c i j k mb:Nat}{F R':Nat->Prop}{a:Option Addr}{x:Ru}{ev hv sv v v' wv:Ap}{W Ad w w':Ao}
theorem vta(w:Ao)(F:Nat->Prop)(bb:Nat)(last:Int)(L:List Su)(h:Br w F bb last L)(id:Int)(z:∀x∈L,x.id≠id)(s:uj)(hs:s.size<=140737488355328)(f d:Int)(g:qW s=.err f d)(u:ErrOk w):
  lz 38 #[Ag (G (D bb 0 O)),I J id,Y s] w (Aj #[I J f,I J d]):=by
 obtain⟨S,sv,tv,rv,l,y,t,T⟩:=h;have B:∀x∈l,x.id≠id:=λx q=>by have:=z x.su (by rw[<-t];exact ld q);exact this
 have A:=qd (qet y B);generalize vt (l.map Sx.sb) id=P at *;have RD:Hid (∀w',Xb w w'->uo 47 #[Y s] w' (qdo w' (.err f d))):=qd λw' r=>g ▸ yT s w' (u.h r ux) hs
 have Q:=vm g;go_enter func38,ntmps38
 go_wp2_with(first|(go_at_call 69;refine be A λK H=>?_;have o:=qd H)|(refine(RD _ o).mono ?_;rintro e w2⟨E,rfl⟩;have C:=qd (qg o E)))
 go_ret2
 exact⟨rfl,q9 C⟩
section
attribute [local go_sem ↓] vp
def gS(L:List Su):Prop:=∀x∈L,CoreOk x.co
theorem Br.up(h:Br w F bb last L)(f:Xb w w'):Br w' (upF F w w') bb last L:=
 (h.h f).wide (λ_ d=>Am d) λk d=>by
  obtain e|e:=d
  .have:=h.1 k e;have:=f.size;omega
  .exact e.2
theorem Br.rising(h:Br w F bb last L):L.Pairwise (λa b=>a.id<b.id)/\A L<=8/\PrgS L:=by
 obtain⟨_,sv,tv,rv,l,f,e,_⟩:=h;refine⟨?_,by rw[<-e,cf];exact f.n8, ?_⟩;rw[<-e];have d:=f.up;unfold xZ at d;rw[ol]at d |-;exact d;unfold PrgS;rw[<-e,pP];exact f.prg
def qgy(L:List Su)(id:Int)(s:List UInt8):List Su×Int×Int:=
 if(L.any λx=>x.id==id)=ui then(L,6,0) else match qW (BS s) with
 | .err en pl=>(L,en,pl)
 | .ok t=>if A L=8 then(L,8,0) else if 80<A (jF (qj4 L (xR L id) ⟨id,qj t,[]⟩)).1 then(L,8,0) else(qj4 L (xR L id) ⟨id,qj t,[]⟩,0,0)
theorem vbi{x y:Su}(h:y∈qj4 L k x):y=x\/y∈L:=by
 grind[qj4]
theorem vt9(w:Ao)(F:Nat->Prop)(bb:Nat)(last:Int)(L:List Su)(h:Br w F bb last L)(q:gS L)(id:Int)(s:uk)(hs:A s<=140737488355328)(r:LibOk w)
  (Q:Ending->Ao->Prop) (f:∀w',Br w' (upF F w w') bb last (qgy L id s).1->gS (qgy L id s).1->Grow F w w'->Q (Ak (Aj #[I J (qgy L id s).2.1,I J (qgy L id s).2.2])) w') :
  uo 38 #[Ag (G (D bb 0 O)),I J id,Y (BS s)] w Q:=by
 have B:(BS s).size<=140737488355328:=by rwa[qI]
 by_cases hh:(L.any λx=>x.id==id)=ui
 grind[qgy,List.getElem?_of_mem,vfi,Calls.mono,Br.up,Grow.x]
 have z:∀x∈L,x.id≠id:=λx d e=>hh (nh.2 ⟨x,d,by simpa using e⟩)
 cases F4:qW (BS s) with
 | err en pl =>grind[qgy,vta,Calls.mono,Br.up,Grow.x,LibOk]
 | ok t=>
  have o:=qc9 F4;have u:vwe s (qj t):=⟨t,F4,rfl,λ_=>qq4,qu9 o.fld,o.size,hs⟩
  by_cases h8:A L=8
  grind[qgy,vfh,Calls.mono,Br.up,Grow.x,LibOk]
  have y:A L<8:=md h.rising.2.1
  have hg':gS (qj4 L (xR L id) ⟨id,qj t,[]⟩):=λx d=>by
   obtain rfl|d:=vbi d;exact o;exact q x d
  unfold qgy at f;rw[ak hh,F4]at f;simp only at f;refine vp9 w F bb last L h id z s (qj t) u y r (λg=>qup hg' (by simp[qj4];omega) g) Q (λg w' H E=>?_) λg w' C=>?_
  grind
  grind[Br.up,Grow.x]
def vni(L:List Su)(id:Int):List Su:=L.filter λx=>!(x.id==id)
def yZ(L:List Su)(id:Int):List Su×Int:=if(L.any λx=>x.id==id)=ui then(vni L id,0) else(L,5)
theorem vnj(hp:L.Pairwise λa b=>a.id<b.id){x:Su}(d:L[i]?=G x):L.take i++L.drop (i+1)=vni L x.id:=by
 have hd:L=L.take i++x::L.drop (i+1):=by
  grind[List.drop_eq_getElem_cons,List.take_append_drop]
 grind[List.pairwise_cons,vni,List.filter_eq_self,Su]
theorem qtv:∀x∈vni L id,x∈L:=λ_ d=>(ro.1 d).1
theorem vg4(w:Ao)(F:Nat->Prop)(bb:Nat)(last:Int)(L:List Su)(h:Br w F bb last L)(o:gS L)(id:Int)
  (Q:Ending->Ao->Prop) (u:∀w',Br w' (upF F w w') bb last (yZ L id).1->gS (yZ L id).1->Grow F w w'->Q (Ak (I J (yZ L id).2)) w') :
  uo 40 #[Ag (G (D bb 0 O)),I J id] w Q:=by
 obtain⟨hp,r,s⟩:=h.rising
 by_cases hh:(L.any λx=>x.id==id)=ui
 have e:yZ L id=(vni L id,0):=by unfold yZ;rw[bs hh]
 obtain⟨x,d,f⟩:=nh.1 hh;have f:x.id=id:=by simpa using f
 obtain⟨i,g⟩:=db d;have q:=vnj hp g;rw[f]at q;have hg':gS (vni L id):=λx d=>o x (qtv x d)
 have:=vn1 w F bb last L h i x g (by
  rw[q];have t:=qjt o (L':=vni L id) λx d=>⟨x,qtv x d,rfl⟩
  have A:=s.terms
  refine qup hg' (bu (List.length_filter_le _ _) r) uq) Q (λw' z y=>by grind)
 rwa[f]at this
 grind[yZ,vn2,Calls.mono,Br.up,Grow.x]
theorem vsh(w:Ao)(bb:Nat)(pri:Int)(ps:List Pr)(ev:Ap)(g:EvIn w ev ps)(o:EvGood ps)(r:¬(0<=pri/\pri<=9/\zQ ps=ui)):
  lz 44 #[Ag (G (D bb 0 O)),I J pri,ev] w (Aj #[C O 0 0,C O 0 0,I J 7]):=by
 have f:=qd (qbx g o);obtain⟨B,z,A,rfl⟩:=g.slice
 by_cases h0:pri<0
 .have d:decide (pri<0)=ui:=de h0
  go_enter func44,ntmps44
  go_wp2
  refine um ?_;exact⟨rfl,uy⟩
 have d:decide (pri<0)=uh:=da h0
 by_cases h9:9<pri
 .have q:decide (pri > 9)=ui:=de h9
  have e:decide (9<pri)=ui:=de h9;go_enter func44,ntmps44
  go_wp2
  refine um ?_;exact⟨rfl,uy⟩
 have q:decide (pri > 9)=uh:=da h9
 have s:zQ ps=uh:=by
  cases he:zQ ps with
  | false=>rfl
  | true=>exact absurd ⟨uq,uq,he⟩ r
 rw[s]at f;go_enter func44,ntmps44
 go_wp2_with(refine be f λy u=>?_;have t:=qd u)
 refine um ?_;exact⟨rfl,q9 t⟩
theorem vdz(h:RBr w F mb n R):
  uo 37 #[Ag (G (D mb 0 O))] w λe w'=>∃v,e=Ak v/\ZsAt w' (Z w.1) v (R.map Ru.id)/\Xb w w':=by
 obtain⟨_,h8,sv,l,E,B,_⟩:=h;have dX:R.map Ru.id=l.map Rs.id:=by rw[<-B,mq];rfl
 rw[dX];have H:=qd E;obtain⟨a,c,rfl⟩:=qg2 E.row;obtain⟨m,y⟩:=ie (A l);have q:=qd y;have Y:m<=8:=by rw[<-B,cf]at h8;omega
 rw[y]at H;go_enter func37,ntmps37
 go_wp2
 go_loopw [3,4] (λo i wr=>∃(k:Nat) (f:Option Addr) (d:Nat),k<=m/\i=I J k/\o=C f k d/\Hid (ZsAt wr (Z w.1) (C f k d) ((l.take k).map Rs.id))/\Hid (Xb w wr)) (λ_ i _=>m - (intOf i).toNat)
 exact⟨0,O,0,bt _,rfl,rfl,qd (ZsAt.nil _ _),qd uy⟩;obtain⟨k,f,d,hk,rfl,rfl,t,r⟩:=hrel;have Q:=(q9 H).h r;obtain⟨c0,c1,cz⟩:=Q.cells
 by_cases A1:k<m
 .obtain⟨x,hx⟩:∃x,l[k]?=G x:=⟨_,ag (md (q9 q))⟩
  obtain⟨g,c',hv,hg,e0,e1,e2,ez⟩:=Q.sub hx;rw[q9 q]at hv;simp at hv;obtain⟨rfl,rfl⟩:=hv;have z:A ((l.take k).map Rs.id)=k:=by rw[cf,cw];have:=q9 q;omega
  have K:=(q9 r).size;obtain⟨g5,J7,u,M8,P,S,_⟩:=(q9 t).app K x.id (by rw[z];omega) 50 (Z wr.1) rfl rfl;rw[z]at M8 P
  have s:Hid (ZsAt u (Z w.1) (C (G (D g5 0 O)) (k+1) J7) ((l.take (k+1)).map Rs.id)):=qd (by
   rw[dt,hx,dq];exact q9 P)
  have bQ:Hid (Xb w u):=qd (r.grown S K λj T=>(t.lt j T).1)
  go_wp2
  go_roundw
  case rel=>exact⟨k+1,_,_,uq,by go_num,rfl,s,bQ⟩
  simp[intOf];omega
 have lW:=jl k m
 have s:Hid (ZsAt wr (Z w.1) (C f k d) (l.map Rs.id)):=qd (by
  have e:l.take k=l:=fo (md (q9 q));have:=q9 t
  rwa[e]at this)
 go_wp2
 go_ret;exact⟨_,rfl,q9 s,q9 r⟩
end
theorem MbAt.grown(h:MbAt w mb n sv l)(g:ZsAt w base v zs)(f:w.grownBy w' (ug v)):MbAt w' mb n sv l:=
 h.same λk d=>f.block k (h.foot_lt d) λe=>by
  obtain rfl|d|⟨x,o,d⟩:=d
  .grind[ja,MbAt,ZsAt]
  .grind[xf,MbAt,ZsAt]
  .grind[xf,MbAt,ZsAt]
theorem MbAt.count(h:MbAt w mb n sv l)(d:Int):MbAt (B w (D mb 1 O) (I J d)) mb d sv l:=by
 grind[B,qm,ja,MbAt]
def qn2(ps:List Pr)(x:Ru):Bool:=decide ((xx (BS x.K) ps).val=bV ui)
def vkc(ps:List Pr)(m:Mg)(x:Ru):Ru:=if qn2 ps x=ui/\A x.ms<6 then x.ms' (x.ms++[m]) else x
def yo(ps:List Pr)(m:Mg)(R:List Ru)(k:Nat):List Ru:=(R.take k).map (vkc ps m)++R.drop k
def pq(ps:List Pr)(R:List Ru)(k:Nat):List Int:=((R.take k).filter (qn2 ps)).map Ru.id
def xt(ps:List Pr)(R:List Ru)(k:Nat):List Int:=((R.take k).filter λx=>qn2 ps x&&decide (6<=A x.ms)).map Ru.id
theorem qxy(d:R[k]?=G x):yo ps m R (k+1)=(yo ps m R k).set k (vkc ps m x)/\(yo ps m R k)[k]?=G x:=by
 grind[List.drop_eq_getElem_cons,yo]
theorem qxu(d:R[k]?=G x):pq ps R (k+1)=pq ps R k++(if qn2 ps x=ui then[x.id] else[]):=by
 grind[pq,List.take_add_one]
theorem qsg(d:R[k]?=G x):xt ps R (k+1)=xt ps R k++(if qn2 ps x=ui/\6<=A x.ms then[x.id] else[]):=by
 grind[xt,List.take_add_one]
theorem ve1(ps:List Pr)(R:List Ru)(k:Nat):A (pq ps R k)<=k/\A (xt ps R k)<=k:=by
 grind[pq,xt]
theorem vro{n:Nat}(h:ue W base 147 2 v (A ms) (qU ms))(S:base<=Z W.1)(q:A ms=n)(T:n<=6)(m:Mg)(H:Nat)(u:Z W.1=H):
  ∃g c w',(xb #[131,131] 131 #[v,C (G (D H 0 O)) 1 1]).run prog (W.alloc (Al #[I J m.pri,I J m.M] 147)).drew=.ok (C (G (D g 0 O)) (n+1) c) w'/\Hid (ue w' base 147 2 (C (G (D g 0 O)) (n+1) c) (n+1) (qU (ms++[m])))/\Hid (W.grownBy w' (ug v))/\Hid (ug v=G g\/Z W.1<=g)/\Hid (H<Z w'.1):=by
 subst u q;obtain⟨f,r,B,K,E⟩:=info_parts qj3;have s:ue (W.alloc (Al #[I J m.pri,I J m.M] 147)).drew base 147 2 v (A ms) (qU ms):=World.ownsRow.alloc h _;have e:(W.alloc (Al #[I J m.pri,I J m.M] 147)).drew.1[Z W.1]?=G (Al #[I J m.pri,I J m.M] 147 (0,0)):=heap_alloc_new W _;have Q:(W.alloc (Al #[I J m.pri,I J m.M] 147)).drew.1.size=Z W.1+1:=by show(W.alloc _).1.size=_;simp
 obtain⟨g,c,w',o,h2,d,Y,_⟩:=run_append_lies (P:=prog) (W.alloc (Al #[I J m.pri,I J m.M] 147)).drew 131 131 base 147 f _ 2 16 underlying131 r B K E rfl uq v (A ms) (qU ms) s ⟨Z W.1,0,O⟩ 1 1 [I J m.pri,I J m.M] rfl (World.news_of_block (cs:=#[I J m.pri,I J m.M]) (t:=147) (fr:=(0,0)) e) (by simp[Value.oneCell']) uq (by unfold maxLen;omega) uq uq _ rfl;have hs:=d.size;refine⟨g,c,w',o,qd (by rwa[qfb]),qd ⟨d.os,d.tape,d.output,uq,λk z y=>?_⟩,qd ?_,qd uq⟩;rw[d.block k uq y];exact(pZ W _).block k z
 grind
def vwc(t:Tm):Prop:=OpT t.op/\(t.op<5->t.left=0/\t.right=0)
theorem qjv{u t:Tm}(h:t∈(pW ts u).1):t∈ts\/t=u:=by
 grind[pW]
theorem vd6:∀(c:Co) (ts:List Tm),qc4 c->WfC c->yJ c->(∀t∈ts,vwc t)->∀t∈(qA ts c).1,vwc t:=by
 intro c
 induction c with
 | leaf p=>
  intro ts r o _ h t d;obtain d|rfl:=qjv d;exact h t d;have f:jp p.op=ui:=o;unfold jp at f;simp only[fh,ew]at f;refine⟨?_,λ_=>⟨rfl,rfl⟩⟩;show p.op.toNat∈_;obtain (((e|e)|e)|e)|e:=f<;>rw[e]<;>decide
 | un p x ih=>
  intro ts r o q h t d;obtain d|rfl:=qjv d;exact ih ts r.2 o.2 q h t d;have f:unB p.op=ui:=o.1;unfold unB at f;simp only[fh,ew]at f;refine⟨?_,λg=>?_⟩
  .show p.op.toNat∈_
   obtain (e|e)|e:=f<;>rw[e]<;>decide
  have g:p.op.toNat<5:=g;omega
 | bin p x y ihx ihy=>
  intro ts r o q h t d;obtain d|rfl:=qjv d
  grind[qc4,WfC,yJ]
  have f:jm p.op:=q.1;unfold jm at f;refine⟨?_,λg=>?_⟩
  .show p.op.toNat∈_
   have:p.op=6\/p.op=7\/p.op=8\/p.op=10\/p.op=11\/p.op=16\/p.op=17\/p.op=18\/p.op=19:=uq;obtain e|e|e|e|e|e|e|e|e:=this<;>rw[e]<;>decide
  have g:p.op.toNat<5:=g;omega
theorem vgt(o:∀c∈cs,CoreOk c/\yJ c):∀k,k<=A cs->∀t∈(vF cs k).1,vwc t:=by
 intro k
 induction k with
 | zero=>intro _ t g;simp[vF]at g
 | succ k ih=>
  intro r;obtain⟨c,d⟩:∃c,cs[k]?=G c:=⟨_,ag uq⟩;obtain⟨f,q⟩:=o c (bh d);have e:(vF cs (k+1)).1=(qA (vF cs k).1 c).1:=by rw[vF,aq,d];rfl
  rw[e];exact vd6 c _ f.fld f.wf q (ih uq)
theorem qt9(ps:List Pr)(ts:List Tm):∀{k:Nat},i<k->(zJ ps ts k).getD i nV=ofT ps (zJ ps ts i) (ts.getD i (.bare 0)):=by
 intro k
 induction k<;>grind[zJ,ji]
theorem vsr(ps:List Pr)(B:qvo ts):∀{c:Co} {i k:Nat},Rep ts i c->qc4 c->WfC c->yJ c->i<k->(zJ ps ts k).getD i nV=vC ps c:=by
 intro c
 induction c with
 | leaf p=>
  intro i k f q d _ g;rw[qt9 ps ts g,aq,show ts[i]?=G (zV p 0 0) from f];have d:jp p.op=ui:=d;simp only[jp,fh,ew]at d;show ofT ps _ (zV p 0 0)=ofN ps (qc0 p) [];obtain (((h|h)|h)|h)|h:=d<;>simp[ofT,ofN,zV,qc0,h]
 | un p x ih=>
  intro i k f q d o g;obtain⟨l,z,s⟩:=f;have hs:=(B i _ s).sides;rw[qt9 ps ts g,aq,s];have A:unB p.op=ui:=d.1;simp only[unB,fh,ew]at A;have u:l<i:=(hs (by show 5<=p.op.toNat;omega)).1;have t:=ih z q.2 d.2 o u;show ofT ps _ (zV p l 0)=ofN ps (qc0 p) [vC ps x];obtain (h|h)|h:=A<;>simp[ofT,ofN,jn,jP,zV,qc0,h,<-t]
 | bin p x y ihx ihy=>
  intro i k f q d o g;obtain⟨l,r,z,s,C⟩:=f;have hs:=(B i _ C).sides;have E:jm p.op:=o.1;unfold jm at E;obtain⟨u,f⟩:=hs (by show 5<=p.op.toNat;omega);rw[qt9 ps ts g,aq,C];have t:=ihx z q.2.1 d.2.1 o.2.1 u;have D:=ihy s q.2.2 d.2.2 o.2.2 f;show ofT ps _ (zV p l r)=ofN ps (qc0 p) [vC ps x,vC ps y];have e:((p.op.toNat:Nat):Int)=p.op:=uq;have n:p.op≠0/\p.op≠1/\p.op≠2/\p.op≠3/\p.op≠4/\p.op≠20/\p.op≠21/\p.op≠22:=uq;have m:p.op.toNat≠0/\p.op.toNat≠1/\p.op.toNat≠2/\p.op.toNat≠3/\p.op.toNat≠4/\p.op.toNat≠22:=uq;simp[ofT,ofN,jn,zV,qc0,n,m,e,<-t,<-D]
theorem vm0(cs:List Co):∀k j,j<k->Rep (vF cs k).1 ((vF cs k).2.getD j 0) (cs.getD j (.leaf ⟨3,0,[],[]⟩)):=by
 intro k
 induction k<;>grind[pi,vF,j7,Rep.more]
def qh1(ps:List Pr)(cs:List Co):Nat->List Nat
 | 0=>[]
 | k+1=>qh1 ps cs k++(if vC ps (cs.getD k (.leaf ⟨3,0,[],[]⟩))=bV ui then[k] else[])
theorem qn3(ps:List Pr)(d:∀c∈cs,CoreOk c/\yJ c):qz4 ps (vF cs (A cs)).1 (vF cs (A cs)).2=qh1 ps cs (A cs):=by
 have g:=qec (λc e=>(d c e).1) (A cs) ux;have f:=j7 cs (A cs);unfold qz4
 have key:∀k,k<=A cs->qrt (zJ ps (vF cs (A cs)).1 (A (vF cs (A cs)).1)) (vF cs (A cs)).2 k=qh1 ps cs k:=by
  intro k
  induction k with
  | zero=>intro _;rfl
  | succ k ih =>grind[qrt,qh1,vsr,vm0,CoreOk]
 grind
theorem veo(ps:List Pr)(e:∀c∈cs,CoreOk c/\yJ c)(q:A cs<=8)(o:A (vF cs (A cs)).1<=80):vem (zL (vF cs (A cs)).1 (vF cs (A cs)).2) ps=if zQ ps then(qh1 ps cs (A cs),0) else([],7):=by
 have d:=j7 cs (A cs);have g:∀t∈(vF cs (A cs)).1,OpT t.op:=λt f=>(vgt e _ ux t f).1
 unfold vem;rw[qxp ⟨o,by rwa[d.1],qec (λc h=>(e c h).1) _ ux,d.2⟩ g]
 grind[vc9,qn3]
theorem vi4(v:V)(w:Ao):(binOp .eql 57 (vV v) (vV v)).run prog w=.ok (Ah ui) w:=by
 grind[qit]
theorem qwj{x:Ox}(o:OxOk w x)(hE:ErrOk w):lz 10 #[oxV x] w (Ah ui):=by
 obtain⟨kind,nn,id,text,la,lc,ts,ev,ps⟩:=x;have z:EvIn w ev ps:=o.ev;have hg:EvGood ps:=o.good;have oG:48 * A ps<=140737488355328:=o.el;have V5:(BS text).size<=140737488355328:=o.K;obtain⟨n,q⟩:=ie (A ps)
 have W9:∃a c,ev=C a n c:=by
  obtain⟨a,m,c,rfl⟩:=z.slice;exact⟨a,c,by rw[<-q,z.len]⟩
 obtain⟨a,c,rfl⟩:=W9;obtain⟨R,hR⟩:=ie (xx (BS text) ps);obtain⟨val,er,pl⟩:=R;have S:=(Below.refl (Z w.1) w).alloc ux (Al #[I J kind,I J nn,I J id,Y (BS text),C la (A ts) lc,C a n c] 34);have EVT:=qd (qes (z.h S) oG);unfold qaw at EVT;have LQ:=qd q;rw[q,mh]at EVT
 have SE:Hid (∀(w:Ao) (ev:Ap),ErrOk w->EvIn w ev ps->lz 19 #[Y (BS text),ev] w (Aj #[vV val,I J er,I J pl])):=qd λw ev h1 r=>by
  have:=vi8 (BS text) V5 ps ev w h1 r hg;rwa[hR]at this
 have RE:Hid (∀(w:Ao) (ev:Ap),EvIn w ev ps->lz 20 #[Y (BS text),ev] w (Aj #[vV val,I J er,I J pl])):=qd λw ev r=>by
  have:=qfx (BS text) V5 ps ev w r hg;rwa[hR]at this
 have ST:Hid (∀(w:Ao) (lb:Nat) (ev:Ap),EvRow w lb ps 8->EvIn w ev ps->lz 21 #[C (G (D lb 0 O)) (n+8) (n+8),ev] w (Ah ui)):=qd λw lb ev h1 r=>by
  have:=qgd h1 r oG;rwa[q]at this
 have HER:=qd hE;have eO:=qd (z.h S);have D9:=qd S;have EQ:=λw=>vi4 val w
 simp only[vV]at SE RE EQ;have lB:=it n;have iZ:(n:Int)<=(n:Int)+8:=uq;have uF:n<=n+8:=uq;obtain⟨lt,A1⟩:=ie (A ts);unfold oxV;simp only;rw[A1]at D9 eO EVT |-;clear o z hg oG V5 hR hE S q A1;go_enter func10,ntmps10
 go_upto_region 2 with(go_at_call 18;refine be EVT ?_;rintro w2⟨E6,g⟩;rw[show Z w.1+1=Z (w.alloc (Al #[I J kind,I J nn,I J id,Y (BS text),C la lt lc,C a n c] 34)).1 from(mh _ _).symm]at g;have fK:=qd E6;have D8:Z w.1+1<Z w2.1:=E6.lt;have G3:=qd (qg D9 g);have u:=qd (eO.h g);have o3:Xc w2 (Z w.1) 3 (Y (BS text)):=((qi g).1 _ 3 ur).trans ur;have o5:Xc w2 (Z w.1) 5 (C a n c):=((qi g).1 _ 5 ur).trans ur;clear E6 g)
 go_cut [4,5,6] (λs4 s5 s6 wx=>∃E,s4=Ag (G (D E 0 O))/\s5=I J er/\s6=I J pl/\Z w2.1<=E/\Hid (VarAt w2 wx E val))
 case first=>
  have TP:Z w.1<Z w2.1:=uq;have q1:Z w.1<Z w2.1+1:=uq;have n1:¬Z w.1=Z w2.1:=uq;have n2:¬Z w2.1=Z w.1:=uq;have y:Hid (∀W,Xb w2 W->ErrOk W/\EvIn W (C (G ⟨Z w.1+1,0,O⟩) n (n+8)) ps):=qd λW e=>⟨HER.h (qg G3 e) ux,An ⟨Z w.1+1,0,n+8,by rw[q9 LQ],by rw[q9 LQ];omega,(fK.h e).ev,(fK.h e).lt⟩⟩
  go_region_held3 (λW=>Xc W (Z w.1) 3 (Y (BS text))/\Xc W (Z w.1) 5 (C a n c)) (first|with_reducible assumption|go_keep) ((go_at_call 19;refine be ((λe=>q9 SE _ _ (y _ e).1 (y _ e).2) (by first|exact(uy).drew|exact(uy.alloc ux _).drew)) λB Q=>?_;obtain⟨b9,mT⟩:=qi Q;have S4:Z w2.1<=Z B.1:=(by have:=Q.size;simp at this;omega);have oM:(Xc B (Z w.1) 3 (Y (BS text))/\Xc B (Z w.1) 5 (C a n c)):=(by refine⟨(b9 _ _ ?_).trans ?_,(b9 _ _ ?_).trans ?_⟩<;>simp[*]);have p1:¬Z w.1=Z B.1:=uq))
  all_goals
   go_wp2
   go_meet
   first
    | exact⟨_,rfl,rfl,rfl,S4,qd (VarAt.new (qg uy.drew Q) _)⟩
    | exact⟨_,rfl,rfl,rfl,ux,qd (((VarAt.new uy nV).h (qg uy.drew Q)).put ux _)⟩
 obtain⟨E,rfl,rfl,rfl,EK,HV⟩:=hcut;have d:=(q9 HV).bel;have EF:=d.size;have c3:Xc wc (Z w.1) 3 (Y (BS text)):=((qi d).1 _ 3 uq).trans o3;have c5:Xc wc (Z w.1) 5 (C a n c):=((qi d).1 _ 5 uq).trans o5;have SN:=qd (u.h d);have QW:=qd (fK.h d);have SX:=qd (qg G3 d);clear d o3 o5
 go_wp2_with(first|(go_at_call 20;refine be (RE _ _ SN) λT f=>?_;have MG:=f.size;have s:=f.alloc f.size (Al #[I J val.Q,I J val.M,Y (BS val.str)] 57);have dO:=qd (HV.h s);have HU5:=qd (VarAt.new f val);have t:=qd (SN.h s);have QX:=qd (QW.h s);have L9:=qd (qg SX s);have d5:Xc T (Z w.1) 5 (C a n c):=((qi f).1 _ 5 uq).trans c5;have hzw4:Z w.1<Z T.1:=uq;have nw4:¬Z w.1=Z T.1:=uq;clear f s)|(refine be (ST _ _ _ QX t) λw6 H=>?_;have P:=(q9 dO).h H;have K:=(q9 HU5).h H;have v0:=P.c0;have v1:=P.c1;have v2:=P.c2;have u0:=K.c0;have u1:=K.c1;have u2:=K.c2;have dE:=qd (qg L9 H);clear P K H))
 go_ret;exact⟨rfl,q9 dE⟩
theorem vfc{x:Ox}(d:OxOk w x)(h:ErrOk w)(f:x.Q=1):lz 7 #[wv,oxV x] w (Ah ui):=by
 obtain⟨t,r,s,o⟩:=d.ev.slice;have e:Hid (∀W,Xb w W->lz 10 #[oxV x] W (Ah ui)):=qd λW g=>qwj (d.h g) (h.h g ux)
 unfold oxV at e |-;rw[f,o]at e |-;have q:=qd ((Below.refl (Z w.1) w).alloc ux (Al #[I J 1,I J x.n,I J x.id,Y (BS x.K),C x.la (A x.ts) x.lc,C t r s] 34));clear d h f o;go_enter func7,ntmps7
 go_wp2_with(refine be (e _ q) λw2 u=>?_)
 go_ret;exact⟨rfl,qg q u⟩
section
attribute [local go_sem ↓] vp
theorem qni{st:List Su×List Int×List Int}{p:Nat}(h:gS st.1):gS (zF m st p).1:=by
 grind[zF,gS]
theorem qwn:∀(pos:List Nat) (st:List Su×List Int×List Int),gS st.1->gS (pos.foldl (zF m) st).1:=by
 intro pos
 induction pos<;>grind[qni]
def qc1(L:List Su)(last pri:Int)(ps:List Pr):(List Su×List Int×List Int)×Int×Int:=if 0<=pri/\pri<=9/\zQ ps=ui then(vgn ⟨pri,last+1⟩ L (qpu ps L),last+1,0) else((L,[],[]),last,7)
theorem vdd(h:gS L):gS (qc1 L last pri ps).1.1:=by
 unfold qc1
 split
 exact qwn _ _ h;exact h
theorem vsg(w:Ao)(F:Nat->Prop)(bb:Nat)(last:Int)(L:List Su)(h:Br w F bb last L)(pri:Int)(f:0<=last/\last<4611686018427387904)(ps:List Pr)(ev:Ap)
  (r:∀w',Grow F w w'->EvIn w' ev ps) (q:EvGood ps)
  (Q:Ending->Ao->Prop) (o:∀w' mv fv,Br w' (vww F w w' mv fv) bb (qc1 L last pri ps).2.1 (qc1 L last pri ps).1.1->Grow F w w'->ZsAt w' (Z w.1) mv (qc1 L last pri ps).1.2.1->ZsAt w' (Z w.1) fv (qc1 L last pri ps).1.2.2->(∀k,ug mv=G k->ug fv≠G k)->Q (Ak (Aj #[mv,fv,I J (qc1 L last pri ps).2.2])) w') :
  uo 44 #[Ag (G (D bb 0 O)),I J pri,ev] w Q:=by
 by_cases hc:0<=pri/\pri<=9/\zQ ps=ui
 grind[qc1,vvg]
 have e:qc1 L last pri ps=((L,[],[]),last,7):=by unfold qc1;rw[ak hc]
 rw[e]at o;refine be (vsh w bb pri ps ev (r w (Grow.x uy)) q hc) λw' g=>?_;refine o w' _ _ ((h.up g).wide (λk d=>⟨d,by simp[Value.ownBlock],by simp[Value.ownBlock]⟩) λk d=>(h.up g).1 k d.1) (Grow.x g) (ZsAt.nil _ _) (ZsAt.nil _ _) (λk d=>by simp[Value.ownBlock]at d)
def vk5(id:Int)(y:Su):Su:=if y.id=id then { y with ms:=qgp y.ms } else y
def kG(L:List Su)(id:Int):List Su×Int×Int:=match L.find? λx=>x.id==id with
 | some x=>(L.map (vk5 id),qrl x.ms,0)
 | none=>(L,0,5)
theorem vey(hp:L.Pairwise λa b=>a.id<b.id){x:Su}(d:L[i]?=G x):L.set i { x with ms:=qgp x.ms }=L.map (vk5 x.id):=by
 apply lh
 grind[vk5,List.pairwise_iff_getElem]
theorem qxf(h:gS L):gS (kG L id).1:=by
 grind[kG,vk5,gS]
theorem vk4(w:Ao)(F:Nat->Prop)(bb:Nat)(last:Int)(L:List Su)(h:Br w F bb last L)(id:Int)
  (Q:Ending->Ao->Prop) (d:∀w',Br w' (upF F w w') bb last (kG L id).1->Grow F w w'->Q (Ak (Aj #[I J (kG L id).2.1,I J (kG L id).2.2])) w') :
  uo 42 #[Ag (G (D bb 0 O)),I J id] w Q:=by
 grind[Br.rising,kG,List.getElem?_of_mem,vs9,vey,vsa,Calls.mono,Br.up,Grow.x]
theorem vj3(w:Ao)(F:Nat->Prop)(bb:Nat)(last:Int)(L:List Su)(h:Br w F bb last L):
  uo 36 #[Ag (G (D bb 0 O))] w λe w'=>∃v,e=Ak v/\ZsAt w' (Z w.1) v (L.map Su.id)/\Below (Z w.1) w w':=by
 obtain⟨hF,sv,tv,rv,l,z,Q,D7⟩:=h;obtain⟨a,cp,hv,r⟩:=SbRow.subs z.row;rw[cf]at hv;have T:A l=A L:=by rw[<-Q,cf]
 have UH:A L<=8:=by rw[<-T];exact z.n8
 obtain⟨n,s⟩:=ie (A L);rw[T,s]at hv;have c1:=z.cells.2.1;rw[hv]at c1
 have HX:Hid (∀k,k<n->∃g x core row len cap,a=G (D g 0 O)/\L[k]?=G x/\g<Z w.1/\w.cell? ⟨g,k * 3,O⟩=G (I J x.id)/\w.cell? ⟨g,k * 3+1,O⟩=G (Ag core)/\w.cell? ⟨g,k * 3+2,O⟩=G (C row len cap)):=qd (by
  intro k hk;obtain⟨x,Y⟩:∃x,L[k]?=G x:=⟨_,ag uq⟩;obtain⟨y,hy,Y9⟩:=vty Q Y;obtain⟨g,ha,d,q,E,B⟩:=r k y.sb (by rw[cj,hy];rfl);have lY:y.sb.id=x.id:=by rw[<-Y9];rfl
  rw[lY]at q
  exact⟨g,x,_,_,_,_,ha,Y,d,q,E,B⟩)
 have P:=qd s;rw[s]at UH;go_enter func36,ntmps36
 go_wp2
 go_loopw [3,11] (λv i wr=>∃k:Nat,k<=n/\i=I J k/\Hid (ZsAt wr (Z w.1) v ((L.take k).map Su.id))/\Hid (Below (Z w.1) w wr)) (λ_ i _=>n - (intOf i).toNat)
 exact⟨0,bt _,rfl,qd (ZsAt.nil _ _),qd uy⟩;obtain⟨k,hk,rfl,o,HB⟩:=hrel
 by_cases A1:k<n
 .obtain⟨g,x,core,row,len,cap,rfl,r,d,q,E,B⟩:=q9 HX k A1
  have f:=q9 HB;rw[<-f.cell (p:=⟨g,k * 3,O⟩) d]at q;rw[<-f.cell (p:=⟨g,k * 3+1,O⟩) d]at E;rw[<-f.cell (p:=⟨g,k * 3+2,O⟩) d]at B;have hS:Hid ((L.take (k+1)).map Su.id=(L.take k).map Su.id++[x.id]):=qd (by rw[dt,r];simp);obtain⟨va,vc,rfl⟩:=(q9 o).form;have K:A ((L.take k).map Su.id)=k:=by rw[cf,cw,q9 P];omega
  rw[K];have hz:=f.size;obtain⟨W1,H⟩:=il (wr.alloc (Al #[I J x.id,Ag core,C row len cap] 130));have A0:Below (Z wr.1) wr W1:=by rw[H];exact pZ _ _
  have B9:Z W1.1=Z wr.1+1:=by rw[H];simp
  obtain⟨g5,J7,w5,r5,Z5,G5,N5⟩:=ZsAt.app (W':=W1.alloc (Al #[I J x.id] 3)) (qm o λj t=>A0.block j (o.lt j t).2) uq x.id uq 50 (Z wr.1+1) B9 rfl;rw[K,H]at r5;rw[K]at Z5
  have u:Hid (Below (Z w.1) w w5):=qd (by
   have S:=qg f A0
   exact S.grown G5 S.size λj t=>(o.lt j t).1)
  go_wp2
  exact⟨⟨k+1,uq,rfl,by rwa[q9 hS],u⟩,by simp[intOf];omega⟩
 have aB:k=n:=uq;subst aB;have HZ:Hid (ZsAt wr (Z w.1) u3 (L.map Su.id)):=qd (by have:=q9 o;rwa[<-q9 P,ig]at this)
 go_wp2
 go_ret;exact⟨_,rfl,q9 HZ,q9 HB⟩
end
structure Zu where
 id:Int
 K:List UInt8
 co:Co
 hs:List Mg
 q:List Mg
def Zu.su(z:Zu):Su:=⟨z.id,z.co,z.hs⟩
def Zu.ru(z:Zu):Ru:=⟨z.id,z.K,z.q⟩
structure ZOk(n:Int)(z:Zu):Prop where
 rd:∃t,qW (BS z.K)=.ok t/\qj t=z.co
 tl:A z.K<=140737488355328
 hp:HeapL z.hs
 pm:z.hs.Perm z.q
 up:z.q.Pairwise λa b=>a.M<b.M
 le:∀m∈z.q,m.M<=n
 l6:A z.q<=6
def ZRel(L:List Su)(R:List Ru)(n:Int)(Z:List Zu):Prop:=L=Z.map Zu.su/\R=Z.map Zu.ru/\(∀z∈Z,ZOk n z)/\Z.Pairwise λa b=>a.id<b.id
theorem ZRel.find{Z:List Zu}(h:ZRel L R n Z)(id:Int):(R.findIdx? (λx=>x.id==id)=O/\(L.any λx=>x.id==id)=uh/\(L.find? λx=>x.id==id)=O)\/∃i z,Z[i]?=G z/\z.id=id/\R.findIdx? (λx=>x.id==id)=G i/\(L.any λx=>x.id==id)=ui/\(L.find? λx=>x.id==id)=G z.su:=by
 obtain⟨rfl,rfl,_,hp⟩:=h;rw[List.findIdx?_map,List.any_map,List.find?_map];show((Z.findIdx? λx=>x.id==id)=O/\(Z.any λx=>x.id==id)=uh/\(Z.find? λx=>x.id==id).map Zu.su=O)\/∃i z,Z[i]?=G z/\z.id=id/\(Z.findIdx? λx=>x.id==id)=G i/\(Z.any λx=>x.id==id)=ui/\(Z.find? λx=>x.id==id).map Zu.su=G z.su;cases hf:Z.findIdx? (λx=>x.id==id)<;>grind[List.findIdx?_eq_some_iff_getElem,List.find?_eq_some_iff_getElem]
theorem vxb{Z:List Zu}(hp:Z.Pairwise λa b=>a.id<b.id){z:Zu}(d:Z[i]?=G z):vni (Z.map Zu.su) z.id=(Z.take i++Z.drop (i+1)).map Zu.su:=by
 have:=vnj (L:=Z.map Zu.su) (ol.2 hp) (i:=i) (x:=z.su) (by grind)
 grind[Zu.su,List.map_take,List.map_drop]
theorem vtu{Z:List Zu}(h:ZRel L R n Z)(id:Int):(yZ L id).2=(vgo R id).2/\∃Z',ZRel (yZ L id).1 (vgo R id).1 n Z':=by
 have q:=h;obtain⟨e,d,_⟩|⟨i,z,f,rfl,e,d,_⟩:=h.find id
 grind[yZ,vgo]
 obtain⟨rfl,rfl,o,hp⟩:=h;unfold yZ vgo;rw[e,d,bs rfl]
 have hs:(Z.take i++Z.drop (i+1)).Sublist Z:=by
  grind[List.take_append_drop]
 exact⟨rfl,Z.take i++Z.drop (i+1),vxb hp f,by rw[dq,List.map_take,List.map_drop],λx g=>o x (hs.subset g),hp.sublist hs⟩
theorem vh5(ms:List Mg):∀k,k<=A ms->∀j,j<k->(ms.getD j ⟨0,0⟩).pri<=(ms.getD (xM ms k) ⟨0,0⟩).pri/\(j<xM ms k->(ms.getD j ⟨0,0⟩).pri<(ms.getD (xM ms k) ⟨0,0⟩).pri):=by
 intro k
 induction k<;>grind[xM,qdq]
theorem vhs{x:Mg}(h:ms[b]?=G x):ms.Perm (x::(ms.take b++ms.drop (b+1))):=by
 grind[List.drop_eq_getElem_cons,List.take_append_drop]
theorem vts{z:Zu}(h:ZOk n z)(y:A z.q≠0):qrl z.hs=(z.q.getD (xM z.q (A z.q)) ⟨0,0⟩).M/\HeapL (qgp z.hs)/\(qgp z.hs).Perm (qqt z.q):=by
 have u:=qdq z.q (A z.q) uq;obtain⟨b,e⟩:=ie (xM z.q (A z.q));obtain⟨x,f⟩:∃x,z.q[b]?=G x:=⟨_,ag (by rwa[<-e])⟩;have q:z.q.getD b ⟨0,0⟩=x:=by grind
 have B:b<A z.q:=by rwa[<-e]
 have g:∀a∈z.q.take b++z.q.drop (b+1),bef x a=ui:=by
  intro a d;rw[qie];have o:=vh5 z.q (A z.q) ux;rw[e,q]at o;obtain d|d:=cr.1 d
  grind[List.getElem?_of_mem]
  grind[List.getElem?_of_mem,List.pairwise_iff_getElem,ZOk]
 obtain⟨t,s,r⟩:=vda h.hp (h.pm.trans (vhs f)) g
 grind[qrl,qqt]
theorem vw5{Z:List Zu}(h:ZRel L R n Z)(id:Int):(kG L id).2=(gP R id).2/\∃Z',ZRel (kG L id).1 (gP R id).1 n Z':=by
 have O:=h;obtain⟨C,_,r⟩|⟨i,z,t,rfl,C,_,r⟩:=h.find id
 grind[kG,gP]
 obtain⟨rfl,rfl,g,hp⟩:=h;have d:=g z (bh t);have K:=vey (L:=Z.map Zu.su) (ol.2 hp) (i:=i) (x:=z.su) (by grind);have P:(Z.map Zu.ru)[i]?=G z.ru:=by grind
 have J:kG (Z.map Zu.su) z.id=((Z.map Zu.su).map (vk5 z.id),qrl z.hs,0):=by unfold kG;rw[r];rfl
 have I:gP (Z.map Zu.ru) z.id=if A z.q=0 then(Z.map Zu.ru,0,0) else((Z.map Zu.ru).set i (z.ru.ms' (qqt z.q)),(z.q.getD (xM z.q (A z.q)) ⟨0,0⟩).M,0):=by
  grind[gP,Zu.ru]
 rw[J,I];have s:(Z.map Zu.su).map (vk5 z.id)=(Z.map Zu.su).set i ⟨z.id,z.co,qgp z.hs⟩:=K.symm
 by_cases h0:A z.q=0
 rw[bs h0];have hq:z.q=[]:=dh h0;have q:z.hs=[]:=by have:=d.pm;rw[hq]at this;exact this.eq_nil
 refine⟨by rw[q];rfl,Z, ?_,rfl,g,hp⟩;rw[s,q];apply lh;intro j;rw[ii]
 split
 grind[Zu.su,qgp]
 rfl;rw[ak h0];obtain⟨H,E,D⟩:=vts d h0
 have o:(qqt z.q).Sublist z.q:=by
  grind[qqt,List.take_append_drop]
 refine⟨by rw[H],Z.set i ⟨z.id,z.K,z.co,qgp z.hs,qqt z.q⟩, ?_, ?_,λy u=>?_, ?_⟩;rw[s,oo];rfl;rw[oo];rfl;obtain e|rfl:=lw u;exact g y e;exact⟨d.rd,d.tl,E,D,d.up.sublist o,λm B=>d.le m (o.subset B),bu o.length_le d.l6⟩;have:=(ol (R:=λa b:Int=>a<b) (f:=Zu.id)).2 hp
 have e:(Z.set i ⟨z.id,z.K,z.co,qgp z.hs,qqt z.q⟩).map Zu.id=Z.map Zu.id:=by
  rw[oo];apply lh;intro j;rw[ii]
  split
  grind
  rfl
 rw[<-e]at this;exact ol.1 this
section
attribute [local go_sem ↓] vr
theorem qht(h:MbAt w mb n sv l)(P:A l<=8):
  uo 68 #[Ag (G (D mb 0 O))] w λe w'=>∃v,e=Ak v/\TwRow w' (Z w.1) v (l.map Rs.K)/\Xb w w':=by
 have H:=qd h;obtain⟨a,c,rfl⟩:=qg2 h.row;obtain⟨m,u⟩:=ie (A l);have s:=qd u;rw[u]at P H;clear h u;go_enter func68,ntmps68
 go_wp2
 go_loopw [3,4] (λo i wr=>∃(k:Nat) (q:Option Addr) (f:Nat),k<=m/\i=I J k/\o=C q k f/\Hid (TwRow wr (Z w.1) (C q k f) ((l.take k).map Rs.K))/\Hid (Xb w wr)) (λ_ i _=>m - (intOf i).toNat)
 exact⟨0,O,0,bt _,rfl,rfl,qd (dw _ _ _ _),qd uy⟩;obtain⟨k,q,f,hk,rfl,rfl,r,d⟩:=hrel;have t:=(q9 H).h d;obtain⟨c0,c1,cz⟩:=t.cells
 by_cases A1:k<m
 .obtain⟨x,hx⟩:∃x,l[k]?=G x:=⟨_,ag (md (q9 s))⟩
  obtain⟨g,c',hv,hg,e0,e1,e2,ez⟩:=t.sub hx;rw[q9 s]at hv;simp at hv;obtain⟨rfl,rfl⟩:=hv;have Z9:=it k;have A5:=je k m;have y:A ((l.take k).map Rs.K)=k:=by rw[cf,cw];have:=q9 s;omega
  obtain⟨Q,Y,E,T,z,K⟩:=(q9 r).app1 d.size x.K (by rw[y];omega) (Z wr.1) rfl;rw[y]at T z
  have B:Hid (TwRow E (Z w.1) (C (G (D Q 0 O)) (k+1) Y) ((l.take (k+1)).map Rs.K)):=qd (by
   rw[dt,hx,dq];exact q9 z)
  have S:Hid (Xb w E):=qd (d.trans K);clear t hx y z K r d
  go_wp2
  go_roundw
  case rel=>exact⟨k+1,_,_,uq,by go_num,rfl,B,S⟩
  simp[intOf];omega
 have lW:=jl k m
 have B:Hid (TwRow wr (Z w.1) (C q k f) (l.map Rs.K)):=qd (by
  have e:l.take k=l:=fo (md (q9 s));have:=q9 r
  rwa[e]at this)
 clear t r
 go_wp2
 go_ret;exact⟨_,rfl,q9 B,q9 d⟩
end
structure RpAt(w wr:Ao)(F:Nat->Prop)(mb:Nat)(n:Int)(sv:Ap)(R':List Ru)(mv dv:Ap)(ms ds:List Int):Prop where
 mb:∃l,MbAt wr mb n sv l/\l.map Rs.ru=R'/\∀k,qi8 mb sv l k->upF F w wr k
 gr:Grow F w wr
 me:ZsAt wr w.1.size mv ms
 dr:ZsAt wr w.1.size dv ds
 ne:∀k,ug mv=G k->ug dv≠G k
section
variable {w wr w':Ao} {F:Nat->Prop} {mb:Nat} {n:Int} {sv mv dv:Ap} {R':List Ru} {ms ds:List Int}
theorem RpAt.h(h:RpAt w wr F mb n sv R' mv dv ms ds)(d:Xb wr w'):RpAt w w' F mb n sv R' mv dv ms ds:=by
 obtain⟨l,r,q,o⟩:=h.mb;have f:=h.gr.size;exact⟨⟨l,r.h d,q,λk g=>(o k g).imp id λe=>⟨e.1,au e.2 d.size⟩⟩,⟨d.os.trans h.gr.os,d.tape.trans h.gr.tape,d.output.trans h.gr.output,bu f d.size,λk a b=>(d.block k uq).trans (h.gr.block k a b)⟩,qp h.me d ux,qp h.dr d ux,h.ne⟩
theorem RpAt.grow(h:RpAt w wr F mb n sv R' mv dv ms ds)(hv:ZsAt wr (Z w.1) v zs)(d:wr.grownBy w' (ug v)):(∃l,MbAt w' mb n sv l/\l.map Rs.ru=R'/\∀k,qi8 mb sv l k->upF F w w' k)/\Grow F w w':=by
 obtain⟨l,q,o,g⟩:=h.mb;have r:=h.gr.size;have s:=d.size;exact⟨⟨l,q.grown hv d,o,λk f=>(g k f).imp id λe=>⟨e.1,au e.2 d.size⟩⟩,d.os.trans h.gr.os,d.tape.trans h.gr.tape,d.output.trans h.gr.output,uq,λk a b=>(d.block k uq λe=>md ((hv.lt k e.symm).1)).trans (h.gr.block k a b)⟩
theorem RpAt.met(h:RpAt w wr F mb n sv R' mv dv ms ds)(g:ZsAt w' (Z w.1) v' zs)(f:wr.grownBy w' (ug mv))(o:∀k,ug v'=G k->ug mv=G k\/Z wr.1<=k):RpAt w w' F mb n sv R' v' dv zs ds:=by
 obtain⟨a,b⟩:=h.grow h.me f;refine⟨a,b,g,qm h.dr λk d=>f.block k (h.dr.lt k d).2 λe=>h.ne k e.symm d,λk d hd=>?_⟩;obtain e|e:=o k d;exact h.ne k e hd;have:=(h.dr.lt k hd).2;omega
theorem RpAt.full(h:RpAt w wr F mb n sv R' mv dv ms ds)(g:ZsAt w' (Z w.1) v' zs)(f:wr.grownBy w' (ug dv))(o:∀k,ug v'=G k->ug dv=G k\/Z wr.1<=k):RpAt w w' F mb n sv R' mv v' ms zs:=by
 obtain⟨a,b⟩:=h.grow h.dr f;refine⟨a,b,qm h.me λk d=>f.block k (h.me.lt k d).2 λe=>h.ne k d e.symm,g,λk d hd=>?_⟩;obtain e|e:=o k hd;exact h.ne k d e;have:=(h.me.lt k d).2;omega
theorem RpAt.push{g m q qc:Nat}{ms':List Mg}(h:RpAt w wr F mb n (C (G (D g 0 O)) m c) R' mv dv ms ds){y:Rs}(s:MbAt wr mb n (C (G (D g 0 O)) m c) l)(K:l.map Rs.ru=R')(r:∀k,qi8 mb (C (G (D g 0 O)) m c) l k->upF F w wr k)(t:l[i]?=G y)(P:y.ru=x)(f:wr.grownBy w' (ug y.qv))
  (hq:ue w' 0 147 2 (C (G (D q 0 O)) (A ms') qc) (A ms') (qU ms')) (J:ug y.qv=G q\/Z wr.1<=q):RpAt w (B w' ⟨g,i * 3+2,O⟩ (C (G (D q 0 O)) (A ms') qc)) F mb n (C (G (D g 0 O)) m c) (R'.set i (x.ms' ms')) mv dv ms ds:=by
 have S:Z (B w' ⟨g,i * 3+2,O⟩ (C (G (D q 0 O)) (A ms') qc)).1=Z w'.1:=ur;have T:=h.gr.size;have Y:=f.size;have u:=bh t
 have E:∀k,ug (C (G (D q 0 O)) (A ms') qc)=G k->ug y.qv=G k\/Z wr.1<=k:=λk d=>by
  have e:q=k:=by simpa [Value.ownBlock]using d
  subst e;exact J
 have H:∀k,k≠g->(B w' ⟨g,i * 3+2,O⟩ (C (G (D q 0 O)) (A ms') qc)).1[k]?=w'.1[k]?:=λk d=>bi _ ⟨g,i * 3+2,O⟩ _ k (by show k≠g;exact d)
 have I:∀{v:Ap} {zs:List Int},ZsAt wr (Z w.1) v zs->ZsAt (B w' ⟨g,i * 3+2,O⟩ (C (G (D q 0 O)) (A ms') qc)) (Z w.1) v zs:=λhv=>qm hv λk d=>by
  rw[H k (λe=>by subst e;exact xf s.row hv uu rfl d)];exact f.block k (hv.lt k d).2 λe=>xf (s.qs y u) hv uu e.symm d
 refine⟨⟨_,s.turn t f hq E,by rw[oo,K,<-P];rfl,λk d=>?_⟩,⟨f.os.trans h.gr.os,f.tape.trans h.gr.tape,f.output.trans h.gr.output,uq,λk a b=>?_⟩,I h.me,I h.dr,h.ne⟩;have up:upF F w wr k->upF F w (B w' ⟨g,i * 3+2,O⟩ (C (G (D q 0 O)) (A ms') qc)) k:=λe=>e.imp id λe=>⟨e.1,uq⟩
 obtain rfl|d|⟨z,Q,d⟩:=d;exact up (r _ (Am rfl));exact up (r _ (An (Am d)));obtain⟨j,o⟩:=db Q;rw[ii]at o
 split at o
 simp at o;obtain⟨_,rfl⟩:=o;obtain e|e:=E k d
 grind[qi8]
 exact An ⟨uq,md ((hq.lt k d).2)⟩
 grind[qi8]
 rw[H k (λe=>by
  subst e;obtain e|e:=r k (An (Am rfl));exact b e
  omega)]
 rw[f.block k uq λe=>by
  obtain e|e:=r _ (An (An ⟨y,u,e.symm⟩));exact b e
  omega]
 exact h.gr.block k a b
end
section
attribute [local go_sem ↓] vp
abbrev vAs(x:V):Array Ap:=#[I J x.Q,I J x.M,Y (BS x.str)]
theorem vwu(x y:V)(w:Ao):(binOp .neq 57 (vV x) (vV y)).run prog w=.ok (Ah (!decide (x=y))) w:=by
 obtain⟨k,n,s⟩:=x;obtain⟨f,e,d⟩:=y;simp only[vV,V.mk.injEq]
 by_cases h1:k=f
 .by_cases h2:n=e
  .by_cases h3:s=d
   .subst h1 h2 h3
    simp[go_sem]
   simp[go_sem,h1,h2,h3,qP]
  simp[go_sem,h1,h2]
 simp[go_sem,h1]
def qbe(R:List Ru)(n pri:Int)(ps:List Pr):(List Ru×List Int×List Int)×Int×Int:=if 0<=pri/\pri<=9/\zQ ps=ui then((yo ps ⟨pri,n+1⟩ R (A R),pq ps R (A R),xt ps R (A R)),n+1,0) else((R,[],[]),n,7)
theorem vm1(h:RBr w F mb n R)(h6:∀x∈R,A x.ms<=6)(ht:∀x∈R,A x.K<=140737488355328)(hn:0<=n/\n<4611686018427387904)(pri:Int)(A7:∀w',Grow F w w'->EvIn w' ev ps)
  (HV:∀W,EvIn W ev ps->lz 31 #[ev] W (Ah (zQ ps)))
  (HE:∀W (s:uk),A s<=140737488355328->EvIn W ev ps->lz 20 #[Y (BS s),ev] W (Aj #[vV (xx (BS s) ps).val,I J (xx (BS s) ps).errno,I J (xx (BS s) ps).U]))
  (Q:Ending->Ao->Prop) (hQ:∀w' mv fv,RBr w' (upF F w w') mb (qbe R n pri ps).2.1 (qbe R n pri ps).1.1->Grow F w w'->ZsAt w' (Z w.1) mv (qbe R n pri ps).1.2.1->ZsAt w' (Z w.1) fv (qbe R n pri ps).1.2.2->Q (Ak (Aj #[mv,fv,I J (qbe R n pri ps).2.2])) w') :
  uo 45 #[Ag (G (D mb 0 O)),I J pri,ev] w Q:=by
 obtain⟨hF,h8,sv,l,hB,hL,D7⟩:=h;obtain⟨ea,en,ec,rfl⟩:=(A7 w (Grow.same F w)).slice;have EV:=qd (HV w (A7 w (Grow.same F w)));obtain⟨c0,c1,cz⟩:=hB.cells;have A1:=hB.lt;have hHF:=qd hF
 by_cases E9:0<=pri/\pri<=9/\zQ ps=ui
 .obtain⟨YB,hp9,OK⟩:=E9
  have D4:qbe R n pri ps=((yo ps ⟨pri,n+1⟩ R (A R),pq ps R (A R),xt ps R (A R)),n+1,0):=by rw[qbe,bs ⟨YB,hp9,OK⟩]
  rw[D4]at hQ;rw[OK]at EV;have KK:decide (9<pri)=uh:=da uq;obtain⟨a,c,rfl⟩:=qg2 hB.row;obtain⟨m,hm⟩:=ie (A l);have KQ:A R=m:=by rw[<-hL,cf,hm]
  rw[hm]at c0;rw[KQ]at h8 hQ
  have S0:Hid (∀d,Xb w d->RpAt w (B d (D mb 1 O) (I J (n+1))) F mb (n+1) (C a m c) (yo ps ⟨pri,n+1⟩ R 0) (C O 0 0) (C O 0 0) (pq ps R 0) (xt ps R 0)):=qd λd f=>by
   have B9:=f.size;have t7:Z (B d (D mb 1 O) (I J (n+1))).1=Z d.1:=ur;refine⟨⟨l, ?_,by rw[hL];simp[yo],λk hk=>Am (D7 k (by rwa[hm]))⟩,⟨f.os,f.tape,f.output,uq,λk h1 h2=>?_⟩,ZsAt.nil _ _,ZsAt.nil _ _,λk hk=>by simp[Value.ownBlock]at hk⟩;have:=(hB.h f).count (n+1);rwa[hm]at this;rw[bi _ ⟨mb,1,O⟩ _ k (by show k≠mb;rintro rfl;exact h2 (D7 _ (Am rfl)))];exact f.block k h1
  have HQ:=qd hQ;have HH:=qd HE;have eO:=qd A7;have HT:=qd ht;have H6:=qd h6;have QY:=qd KQ;have DQ:Hid (∀d,Xb w d->Xc d mb 1 (I J n)/\(Xf d mb)/\mb<Z d.1):=qd λd f=>⟨((qi f).1 _ _ A1).trans c1,λj=>((qi f).2 _ _ A1).trans (cz j),au A1 f.size⟩
  obtain⟨lB,Z7⟩:=hn;go_enter func45,ntmps45
  go_wp2_with(refine be EV λd f=>?_;obtain⟨c1,cz,lV⟩:=q9 DQ d f;have SS:=qd (S0 d f))
  go_loopw [10,11,12] (λmv dv i wr=>∃(k:Nat),k<=m/\i=I J k/\Hid (RpAt w wr F mb (n+1) (C a m c) (yo ps ⟨pri,n+1⟩ R k) mv dv (pq ps R k) (xt ps R k))) (λ_ _ i _=>m - (intOf i).toNat)
  exact⟨0,bt _,rfl,SS⟩;obtain⟨k,hk,rfl,K⟩:=hrel;obtain⟨l',hM,t,T⟩:=(q9 K).mb
  have hl'm:A l'=m:=by
   have e:A (yo ps ⟨pri,n+1⟩ R k)=m:=by unfold yo;rw[cd,cf,cw,dp];have:=q9 QY;omega
   rwa[<-t,cf]at e
  obtain⟨d0,d1,dz⟩:=hM.cells
  by_cases lW:k<m
  .obtain⟨x,hx⟩:∃x,R[k]?=G x:=⟨_,ag (md (q9 QY))⟩
   obtain⟨BU,oZ⟩:=qxy (ps:=ps) (m:=⟨pri,n+1⟩) hx
   obtain⟨y,o,u⟩:∃y,l'[k]?=G y/\y.ru=x:=by
    rw[<-t,cj]at oZ
    cases e:l'[k]? with
    | none=>rw[e]at oZ;cases oZ
    | some y=>rw[e]at oZ;exact⟨y,rfl,by simpa using oZ⟩
   have bZ:=bh hx;have XB:y.K=x.K:=by rw[<-u];rfl
   have hyi:y.id=x.id:=by rw[<-u];rfl
   have P:y.ms=x.ms:=by rw[<-u];rfl
   obtain⟨g,c',hv,hg,e0,e1,e2,ez⟩:=hM.sub o;rw[hl'm]at hv;simp at hv;obtain⟨rfl,rfl⟩:=hv;have RE:=qd (HH wr y.K (by rw[XB];exact q9 HT x bZ) (eO wr K.gr));obtain⟨r,aP⟩:=ie ((xx (BS y.K) ps).val);obtain⟨er,her⟩:=ie ((xx (BS y.K) ps).errno);obtain⟨pl,J5⟩:=ie ((xx (BS y.K) ps).U);rw[aP,her,J5]at RE;have hmB:qn2 ps x=decide (r=bV ui):=by unfold qn2;rw[<-XB,aP]
   have NS:=qxu (ps:=ps) hx;have wO:=qsg (ps:=ps) hx;have hx6:=q9 H6 x bZ;have fO:=ve1 ps R k;have ex:=λw=>vwu r (bV ui) w
   simp only[vV]at ex RE;obtain⟨q,hq⟩:=ie (A x.ms);have lH:wr.cell? ⟨g,k * 3+2,O⟩=G (C y.qa q y.qc):=by rw[e2,<-hq,<-P];rfl
   have iT:Hid (l'[k]?=G y/\y.ru=x/\(∀k,qi8 mb (C (G (D g 0 O)) m c) l' k->upF F w wr k)/\l'.map Rs.ru=yo ps ⟨pri,n+1⟩ R k/\y.ms=x.ms/\A x.ms=q):=qd ⟨o,u,T,t,P,hq⟩;have HMM:=qd hM;rw[hq]at wO hx6;have RW:=qd NS;have LV:=qd wO;have LM:=qd BU;have AP:=qd fO;have z:=qd hmB;have VU:=qd hyi;clear o u T t P hq hM NS wO BU fO hmB oZ hx bZ XB hyi
   by_cases hb:r=bV ui
   .have hd:decide (r=bV ui)=ui:=de hb
    rw[hd]at z;simp only[hd,rq]at ex;clear hb hd
    go_wp2_with(refine be RE λd f=>?_;have D9:=qd (f.alloc f.size (Al (vAs r) 57)).drew;have vx:∀i,(d.alloc (Al (vAs r) 57)).cell? ⟨Z d.1,i,O⟩=(vAs r)[i]?:=(λi=>ur))
    go_region_held3 (λW=>∀i,W.cell? ⟨Z d.1,i,O⟩=(vAs r)[i]?) (first|with_reducible assumption|exact vx) ((go_at_call 67;refine be (vQ _ _) λw2 A3=>?_;have oM:∀i,w2.cell? ⟨Z d.1,i,O⟩=(vAs r)[i]?:=(λi=>((qi A3).1 _ i (by show _<Z (d.alloc _).1;simp)).trans (vx i));have G3:=qd (qg D9 A3);simp only[vV]))
    obtain⟨o,u,T,t,P,hq⟩:=q9 iT;have KV:=(q9 HMM).h G3;have LH:=(q9 K).h G3;have D8:=LH.gr.size;obtain⟨M,hMl⟩:=ie (A (pq ps R k));obtain⟨g5,J7,w5,mE,uO,rI,HN5⟩:=LH.me.app D8 y.id (md (q9 AP)) 50 (Z w2.1) rfl rfl;have H:=KV.grown LH.me rI
    have DG:RpAt w w5 F mb (n+1) (C (G (D g 0 O)) m c) (yo ps ⟨pri,n+1⟩ R k) (C (G (D g5 0 O)) (A (pq ps R k)+1) J7) u11 (pq ps R (k+1)) (xt ps R k):=LH.met (by rw[q9 RW,q9 z,bs rfl,<-q9 VU];exact q9 uO) rI (λj hj=>by
     have e:g5=j:=by simpa [Value.ownBlock]using hj
     subst e;exact q9 HN5)
    have rL:=DG.gr.size;rw[hMl]at mE DG;obtain⟨b0,b1,bz⟩:=KV.cells;obtain⟨_,_,mL,L6,f0,_,f2,_⟩:=KV.sub o;obtain⟨a0,a1,az⟩:=H.cells;obtain⟨_,_,TZ,wN,h0,_,h2,hz⟩:=H.sub o;simp at mL TZ;obtain⟨rfl,_,rfl⟩:=mL;obtain⟨rfl,_,rfl⟩:=TZ;have h2':w5.cell? ⟨g,k * 3+2,O⟩=G (C y.qa q y.qc):=by rw[h2,<-hq,<-P];rfl
    have SB5:=qd DG;have hgr5:=(q9 rI).size
    by_cases h66:6<=q
    .have h66':(6:Int)<=(q:Int):=uq
     obtain⟨g6,m7,w6,fI,QJ,S,RM⟩:=DG.dr.app rL y.id (md (q9 AP)) 50 (Z w5.1) rfl rfl
     have SA6:Hid (RpAt w w6 F mb (n+1) (C (G (D g 0 O)) m c) (yo ps ⟨pri,n+1⟩ R (k+1)) (C (G (D g5 0 O)) (M+1) J7) (C (G (D g6 0 O)) (A (xt ps R k)+1) m7) (pq ps R (k+1)) (xt ps R (k+1))):=qd (by
      have e1:yo ps ⟨pri,n+1⟩ R (k+1)=yo ps ⟨pri,n+1⟩ R k:=by
       rw[q9 LM,vkc,ak (by rw[hq];omega)];apply lh;intro j;rw[ii]
       split
       rename_i e;subst e;rw[<-t,cj,o,<-u];simp[(aj.1 o).1];rfl
      rw[e1]
      exact DG.full (by rw[q9 LV,q9 z,bs ⟨rfl,h66⟩,<-q9 VU];exact q9 QJ) S (λj hj=>by
       have e:g6=j:=by simpa [Value.ownBlock]using hj
       subst e;exact q9 RM))
     clear DG SB5 LH KV H o u T t P hq iT HMM K RW LV LM z uO rI HN5 QJ S RM h2 f2 lH RE VU
     go_wp2
     go_roundw
     case rel=>exact⟨k+1,uq,by go_num,SA6⟩
     simp[intOf];omega
    have h66':¬(6:Int)<=(q:Int):=uq
    have hqs:ue w5 0 147 2 (C y.qa q y.qc) (A x.ms) (qU x.ms):=by
     have:=H.qs y (bh o);unfold Rs.qv at this;rw[P,hq]at this;rw[hq];exact this
    obtain⟨g6,m7,w6,fI,QJ,S,RM,HL6⟩:=vro hqs (bt _) hq uq ⟨pri,n+1⟩ (Z w5.1) rfl;have EW:y.qv=C y.qa q y.qc:=by unfold Rs.qv;rw[P,hq]
    have YM:A (x.ms++[(⟨pri,n+1⟩:Mg)])=q+1:=by rw[cd,hq];rfl
    have SA6:Hid (RpAt w (B w6 ⟨g,k * 3+2,O⟩ (C (G (D g6 0 O)) (q+1) m7)) F mb (n+1) (C (G (D g 0 O)) m c) (yo ps ⟨pri,n+1⟩ R (k+1)) (C (G (D g5 0 O)) (M+1) J7) u11 (pq ps R (k+1)) (xt ps R (k+1))):=qd (by
     have e1:xt ps R (k+1)=xt ps R k:=by rw[q9 LV,ak uq,gs]
     have e2:yo ps ⟨pri,n+1⟩ R (k+1)=(yo ps ⟨pri,n+1⟩ R k).set k (x.ms' (x.ms++[⟨pri,n+1⟩])):=by rw[q9 LM,vkc,bs ⟨q9 z,uq⟩]
     rw[e1,e2];have:=DG.push (i:=k) (q:=g6) (qc:=m7) (ms':=x.ms++[⟨pri,n+1⟩]) H t (λj hj=>(T j hj).imp id λe=>⟨e.1,md ((q9 G3).size)⟩) o u (by rw[EW];exact q9 S) (by rw[YM];exact q9 QJ) (by rw[EW];exact q9 RM);rw[YM]at this
     exact this)
    have u1:Xc w6 g (k * 3+2) (C y.qa q y.qc):=(bg (w:=w5) (a:=⟨g,k * 3+2,O⟩) (S.block g wN (λe=>xf (H.qs y (bh o)) H.row uu (by rw[EW];exact e.symm) rfl))).trans h2';have u2:Xf w6 g:=λj=>(cn (w:=w5) (a:=D g j O) (S.block g wN (λe=>xf (H.qs y (bh o)) H.row uu (by rw[EW];exact e.symm) rfl))).trans (hz j)
    have u3:g<Z w6.1:=au wN S.size;clear DG SB5 LH KV H o u T t P hq iT HMM K RW LV LM z uO rI HN5 QJ S RM h2 f2 lH RE hqs EW YM VU
    go_wp2
    go_region
    go_wp2
    go_roundw
    case rel=>exact⟨k+1,uq,by go_num,SA6⟩
    simp[intOf];omega
   have hd:decide (r=bV ui)=uh:=da hb;rw[hd]at z;simp only[hd,sn]at ex;clear hb hd
   have HP:Hid (yo ps ⟨pri,n+1⟩ R (k+1)=yo ps ⟨pri,n+1⟩ R k/\pq ps R (k+1)=pq ps R k/\xt ps R (k+1)=xt ps R k):=qd (by
    obtain⟨o,u,_,t,_⟩:=q9 iT;refine⟨?_,by rw[q9 RW,q9 z];simp,by rw[q9 LV,q9 z];simp⟩;rw[q9 LM,vkc,q9 z,ak ur];apply lh;intro j;rw[ii]
    split
    rename_i e;subst e;rw[<-t,cj,o,<-u];simp[(aj.1 o).1]
    rfl)
   clear iT RW LV LM z
   go_wp2_with(refine be RE λd f=>?_;have D9:=qd (f.alloc f.size (Al (vAs r) 57)).drew;have vx:∀i,(d.alloc (Al (vAs r) 57)).cell? ⟨Z d.1,i,O⟩=(vAs r)[i]?:=(λi=>ur);clear f)
   go_region_held3 (λW=>∀i,W.cell? ⟨Z d.1,i,O⟩=(vAs r)[i]?) (first|with_reducible assumption|exact vx) ((go_at_call 67;refine be (vQ _ _) λw2 A3=>?_;have oM:∀i,w2.cell? ⟨Z d.1,i,O⟩=(vAs r)[i]?:=(λi=>((qi A3).1 _ i (by show _<Z (d.alloc _).1;simp)).trans (vx i));have G3:=qd (qg D9 A3);clear A3;simp only[vV]))
   go_wp2
   go_roundw
   case rel=>exact⟨k+1,uq,by go_num,qd (by obtain⟨p1,p2,p3⟩:=q9 HP;rw[p1,p2,p3];exact K.h G3)⟩
   simp[intOf];omega
  have FQ:k=m:=uq;have L5:=jl k m;have HR:Hid (RBr wr (upF F w wr) mb (n+1) (yo ps ⟨pri,n+1⟩ R k)):=qd ⟨λj hj=>by obtain e|e:=hj;have:=q9 hHF j e;have:=(q9 K).gr.size;omega;exact e.2,by rw[<-t,cf];omega,_,l',hM,t,T⟩;subst FQ;have HQ2:=qd λmv fv=>q9 HQ wr mv fv HR K.gr
  clear hM t T HQ
  go_wp2
  refine um ?_;exact q9 HQ2 _ _ K.me K.dr
 have D4:qbe R n pri ps=((R,[],[]),n,7):=by rw[qbe,ak E9]
 rw[D4]at hQ;obtain⟨E,hE⟩:=ie (zQ ps);rw[hE]at EV E9;have HQ:Hid (∀d,Xb w d->Q (Ak (Aj #[C O 0 0,C O 0 0,I J 7])) d):=qd λd f=>hQ d _ _ ⟨λk hk=>by obtain e|e:=hk;have:=hF k e;have:=f.size;omega;exact e.2,h8,sv,l,hB.h f,hL,λk hk=>Am (D7 k hk)⟩ (Grow.x f) (ZsAt.nil _ _) (ZsAt.nil _ _)
 clear hQ hB hL D7 D4 HE HV A7 c0 c1 cz h6 ht hE
 have J3:E=uh\/(E=ui/\pri<0)\/(E=ui/\¬pri<0/\9<pri):=by
  cases E with
  | false=>exact Am rfl
  | true=>
   right
   by_cases e:pri<0
   exact Am ⟨rfl,e⟩
   exact An ⟨rfl,e,by
    by_cases e9:9<pri
    exact e9
    exact absurd ⟨uq,uq,rfl⟩ E9⟩
 clear E9;obtain rfl|⟨rfl,hp⟩|⟨rfl,hp,h9⟩:=J3
 .go_enter func45,ntmps45
  go_wp2_with(refine be EV λd f=>?_;have IW:=qd (HQ d f);clear f)
  refine um ?_;exact q9 IW
 .have hd:decide (pri<0)=ui:=de hp
  go_enter func45,ntmps45
  go_wp2_with(refine be EV λd f=>?_;have IW:=qd (HQ d f);clear f)
  refine um ?_;exact q9 IW
 have hd:decide (pri<0)=uh:=da hp;have KK:decide (9<pri)=ui:=de h9;go_enter func45,ntmps45
 go_wp2_with(refine be EV λd f=>?_;have IW:=qd (HQ d f);clear f)
 refine um ?_;exact q9 IW
end
section
attribute [local go_sem ↓] vr
def kE(R:List Ru)(id:Int):Nat:=A (R.takeWhile λx=>decide (x.id<id))
def qcr(R:List Ru)(id:Int)(s:List UInt8):List Ru×Int×Int:=match R.findIdx? λx=>x.id==id with
 | some _=>(R,6,0)
 | none=>match qW (BS s) with
  | .err en pl=>(R,en,pl)
  | .ok _=>if 8<=A R\/80<A (gTs (R.map Ru.K++[s]) (A R+1)).1 then(R,8,0) else(R.take (kE R id)++⟨id,s,[]⟩::R.drop (kE R id),0,0)
theorem vd3(f:∀j x,j<k->R[j]?=G x->x.id<id)(e:k<=A R)(g:∀x,R[k]?=G x->¬x.id<id):kE R id=k:=by
 induction R generalizing k with
 | nil=>simp at e;subst e;rfl
 | cons a r ih=>
  unfold kE
  cases k with
  | zero =>grind[List.takeWhile_cons_of_neg]
  | succ k=>
   have:=f 0 a uq ur;rw[si (by simpa using this),fj];have:=ih (k:=k) (λj x o d=>f (j+1) x uq (by simpa using d)) (by simpa using e) (λx d=>g x (by simpa using d));unfold kE at this;rw[this]
theorem vw0{ts:List uk}(h:TwRow W base v ts)(d:∀t∈ts,A t<=140737488355328){n:Nat}(hv:v=C a n c):TxIn W a ts:=by grind[TwRow.cell,TxIn]
theorem vm3(h:RBr w F mb n R)(ht:∀x∈R,A x.K<=140737488355328)(id:Int)(s:uk)(hs:A s<=140737488355328)
  (TMS:∀(W:Ao) (a:Option Addr) (cap m:Nat) (ss:List uk),TxIn W a ss->A ss=m->m<=9->lz 59 #[C a m cap] W (I J (A (gTs ss m).1:Nat)))
  (Q:Ending->Ao->Prop) (K:∀w',RBr w' (upF F w w') mb n (qcr R id s).1->Grow F w w'->Q (Ak (Aj #[I J (qcr R id s).2.1,I J (qcr R id s).2.2])) w') :
  uo 39 #[Ag (G (D mb 0 O)),I J id,Y (BS s)] w Q:=by
 have h':=h;obtain⟨hF,h8,sv,l,hB,hL,D7⟩:=h;have DE:A l<=8:=by rwa[<-hL,cf]at h8
 have FD:=qd (qg0 hB DE id);have I5:=qsp hL id;have SAME:∀f,Xb w f->RBr f (upF F w f) mb n R/\Grow F w f:=λf q=>⟨⟨λk r=>by obtain e|e:=r;have:=hF k e;have:=q.size;omega;exact e.2,h8,sv,l,hB.h q,hL,λk r=>Am (D7 k r)⟩,Grow.x q⟩
 cases hfx:R.findIdx? (λx=>x.id==id) with
 | some i=>
  have hK:gU l id=i:=by rw[gU,I5,hfx]
  have S:qcr R id s=(R,6,0):=by rw[qcr,hfx]
  rw[S]at K;have E:=qd (K w h'.wide (Grow.same F w));rw[hK]at FD;go_enter func39,ntmps39
  go_wp2_with(refine be FD λw' hw=>?_;subst w')
  exact q9 E
 | none=>
  have hK:gU l id=-1:=by rw[gU,I5,hfx]
  rw[hK]at FD;have RD:=qd (yE (BS s) (by rwa[qI]) w)
  cases F4:qW (BS s) with
  | err en pl=>
   have S:qcr R id s=(R,en,pl):=by rw[qcr,hfx];show(match qW (BS s) with|.err en pl=>_|.ok _=>_)=_;rw[F4]
   rw[S]at K;rw[F4]at RD;have E:Hid (∀f,Xb w f->Q (Ak (Aj #[I J en,I J pl])) f):=qd λf q=>K f (SAME f q).1 (SAME f q).2
   have mB:(en==0)=uh/\decide (en=0)=uh:=by obtain rfl|rfl|rfl|rfl:=vm F4<;>exact⟨rfl,rfl⟩
   obtain⟨mB,hen2⟩:=mB;go_enter func39,ntmps39
   go_wp2_with(first|(go_at_call 73;refine be FD λw' hw=>?_;subst w')|(refine RD.mono ?_;rintro e f⟨q,rfl⟩;have IW:=qd (E f q)))
   exact q9 IW
  | ok t=>
   rw[F4]at RD;obtain⟨c0,c1,cz⟩:=hB.cells;have A1:=hB.lt;obtain⟨a,c,rfl⟩:=qg2 hB.row;obtain⟨m,hm⟩:=ie (A l);have KQ:A R=m:=by rw[<-hL,cf,hm]
   have U0:∀x∈l.map Rs.K,A x<=140737488355328:=λx d=>by
    obtain⟨y,hy,rfl⟩:=eh.1 d;exact ht y.ru (by rw[<-hL];exact eh.2 ⟨y,hy,rfl⟩)
   have VG:R.map Ru.K=l.map Rs.K:=by rw[<-hL,mq];rfl
   obtain⟨Af,hG⟩:=ie (A (gTs (l.map Rs.K++[s]) (m+1)).1)
   have S:qcr R id s=if 8<=m\/80<Af then(R,8,0) else(R.take (kE R id)++⟨id,s,[]⟩::R.drop (kE R id),0,0):=by
    rw[qcr,hfx];show(match qW (BS s) with|.err en pl=>_|.ok _=>_)=_;rw[F4,VG,KQ,hG]
   rw[hm]at c0
   have TX:Hid (∀W,Xb w W->uo 68 #[Ag (G (D mb 0 O))] W λe w'=>∃P c5 w5,∃tv:Ap,e=Ak tv/\(appR #[31,31] 31 #[tv,C (G ⟨Z w'.1,0,O⟩) 1 1]).run prog (w'.alloc (Al #[Y (BS s)] 9))=.ok (C P (m+1) c5) w5/\Hid (TxIn w5 P (l.map Rs.K++[s]))/\Hid (Xb w w5)):=qd λW hb=>by
    refine(qht (hB.h hb) DE).mono ?_;rintro e w'⟨tv,rfl,htw,B⟩;have EG:=B.size;have fO:A (l.map Rs.K)=m:=by rw[cf,hm]
    obtain⟨g5,J7,w5,M8,aE,L9⟩:=htw.app1 EG s (by rw[fO];omega) (Z w'.1) rfl;rw[fO]at M8
    exact⟨_,_,w5,tv,rfl,M8,qd (vw0 aE (λx d=>by
     obtain e|e:=cr.1 d;exact U0 x e
     rwa[dd.1 e]) rfl),qd (qg hb (B.trans L9))⟩
   have CW:Hid (∀W,Xb w W->Xc W mb 0 (C a m c)/\(Xf W mb)/\mb<Z W.1):=qd λW hb=>⟨((qi hb).1 _ _ A1).trans c0,λj=>((qi hb).2 _ _ A1).trans (cz j),au A1 hb.size⟩
   have TM:Hid (∀W P c5,TxIn W P (l.map Rs.K++[s])->lz 59 #[C P (m+1) c5] W (I J (Af:Nat))):=qd λW P c5 d=>by
    rw[<-hG];exact TMS W P c5 (m+1) _ d (by rw[cd,cf,hm];rfl) uq
   by_cases hfull:8<=m\/80<Af
   .rw[bs hfull]at S
    rw[S]at K;have E:Hid (∀f,Xb w f->Q (Ak (Aj #[I J 8,I J 0])) f):=qd λf q=>K f (SAME f q).1 (SAME f q).2
    have J3:(8<=m/\decide ((8:Int)<=(m:Int))=ui)\/(¬8<=m/\decide ((8:Int)<=(m:Int))=uh/\decide ((80:Int)<(Af:Int))=ui):=by
     by_cases e:8<=m
     exact Am ⟨e,de uq⟩;exact An ⟨e,da uq,de uq⟩
    obtain⟨h1,h2⟩|⟨h1,h2,h3⟩:=J3
    all_goals
     go_enter func39,ntmps39
     go_wp2_with(first|(go_at_call 73;refine be FD λw' hw=>?_;subst w')|(go_at_call 51;refine RD.mono ?_;rintro e f⟨q,rfl,_⟩;have D9:=qd q)|(go_at_call 68;refine(TX _ D9).mono ?_;rintro e w2⟨P,c5,w5,tv,rfl,M8,DI,L9⟩)|(refine be (TM _ _ _ DI) λw6 aN=>?_;obtain⟨c6,z6,l6⟩:=q9 CW w6 (qg L9 aN);have WB:=qd (E w6 (qg L9 aN))))
     exact q9 WB
   rw[ak hfull]at S;rw[S]at K;have h80d:decide ((80:Int)<(Af:Int))=uh:=da uq;have hm8:m<8:=uq;have bQ:=qd hB;have AK:=qd K;have LW:=qd hF;have SL:=qd D7;have HL:=qd hL;have HM:=qd hm;have QY:=qd KQ;clear h' K hB hL D7 I5 hfx hK S h8 hF SAME TMS ht F4 U0 VG hG KQ hfull c0 c1 cz DE hm;go_enter func39,ntmps39
   go_wp2_with(first|(go_at_call 73;refine be FD λw' hw=>?_;subst w')|(go_at_call 51;refine RD.mono ?_;rintro e f⟨q,rfl,_⟩;have D9:=qd q;clear q)|(go_at_call 68;refine(TX _ D9).mono ?_;rintro e w2⟨P,c5,w5,tv,rfl,M8,DI,L9⟩)|(refine be (TM _ _ _ DI) λw6 aN=>?_;obtain⟨c6,z6,l6⟩:=q9 CW w6 (qg L9 aN);have dE:=qd (qg L9 aN);clear aN))
   go_loopw [14,15] (λo k wr=>∃(j:Nat) (oa:Option Addr) (oc:Nat),j<=m/\k=I J j/\o=C oa j oc/\Hid (ue wr (Z w.1) 133 3 (C oa j oc) j (qO (l.take j)))/\Hid (Xb w wr)/\Hid (∀(i:Nat) (x:Rs),i<j->l[i]?=G x->x.id<id)) (λ_ k _=>m - (intOf k).toNat)
   exact⟨0,O,0,bt _,rfl,rfl,qd (dw _ _ _ _),dE,qd λi x hi=>uq⟩;obtain⟨j,oa,oc,hj,rfl,rfl,dP,HB,fL⟩:=hrel;have B:=q9 HB;have aO:=B.size;have AH:=(q9 bQ).h B;obtain⟨d0,dz,dl⟩:=q9 CW wr B;have hj0:=it j
   by_cases bK:∃x,l[j]?=G x/\x.id<id
   .obtain⟨x,d,lY⟩:=bK
    have KH:j<m:=by have:=(aj.1 d).1;have:=q9 HM;omega
    obtain⟨g,c',hv,hg,e0,e1,e2,ez⟩:=AH.sub d;rw[q9 HM]at hv;simp at hv;obtain⟨rfl,rfl⟩:=hv;have UJ:=je j m;have hd:decide (x.id<id)=ui:=de lY;have lH:Xc wr g (j * 3+2) (C x.qa (A x.ms) x.qc):=e2;have EP:ue (wr.alloc (Al #[I J x.id,Y (BS x.K),C x.qa (A x.ms) x.qc] 133)) (Z w.1) 133 3 (C oa j oc) j (qO (l.take j)):=World.ownsRow.alloc dP _;obtain⟨a7,c7,H,iP,LP,DP,_⟩:=gA (ua:=40) (e:=133) (m:=1) (c:=1) (a:=G ⟨Z wr.1,0,O⟩) (news:=yF x) underlying40 qb1 rfl uq EP ut rfl (An ⟨_,rfl,World.news_of_block (cs:=#[I J x.id,Y (BS x.K),C x.qa (A x.ms) x.qc]) (t:=133) (fr:=(0,0)) (heap_alloc_new wr _)⟩) (qcq x) uq uq;have wW:(appR #[40,40] 40 #[C oa j oc,C (G ⟨Z wr.1,0,O⟩) 1 1]).run prog (wr.alloc (Al #[I J x.id,Y (BS x.K),C x.qa (A x.ms) x.qc] 133))=.ok (C a7 (j+1) c7) H:=iP
    have HRW7:Hid (ue H (Z w.1) 133 3 (C a7 (j+1) c7) (j+1) (qO (l.take (j+1)))):=qd (by
     rw[dt,d,qa7];have e:qO (G x).toList=yF x:=by simp[qO]
     rw[e];exact q9 LP)
    have WO:Hid (Xb w H):=qd ((B.alloc aO _).grown DP ut λk r=>(EP.lt k r).1)
    have HLT7:Hid (∀(i:Nat) (x:Rs),i<j+1->l[i]?=G x->x.id<id):=qd λi y hi hy=>by
     by_cases e:i=j
     subst e;rw[d]at hy;injection hy with hy;subst hy;exact lY;exact q9 fL i y uq hy
    clear AH d lY EP iP LP DP dP HB fL B e2
    go_wp2
    go_roundw
    case rel=>exact⟨j+1,a7,c7,uq,by go_num,rfl,HRW7,WO,HLT7⟩
    simp[intOf];omega
   have rZ:kE R id=j:=vd3 (λi x hi d=>by
    rw[<-q9 HL,cj]at d
    cases e:l[i]? with
    | none=>rw[e]at d;cases d
    | some y=>
     rw[e]at d;obtain rfl:y.ru=x:=by simpa using d
     exact q9 fL i y hi e) (md (q9 QY)) (λx d lW=>by
    rw[<-q9 HL,cj]at d
    cases e:l[j]? with
    | none=>rw[e]at d;cases d
    | some y=>
     rw[e]at d;obtain rfl:y.ru=x:=by simpa using d
     exact bK ⟨y,e,lW⟩)
   obtain⟨y,MJ⟩:=il (⟨id,s,O,0,[]⟩:Rs);have EP:ue (wr.alloc (Al #[I J id,Y (BS s),C O 0 0] 133)) (Z w.1) 133 3 (C oa j oc) j (qO (l.take j)):=World.ownsRow.alloc dP _;obtain⟨a7,c7,H,iP,LP,DP,_⟩:=gA (ua:=40) (e:=133) (m:=1) (c:=1) (a:=G ⟨Z wr.1,0,O⟩) (news:=yF y) underlying40 qb1 rfl uq EP ut rfl (An ⟨_,rfl,by rw[MJ];exact World.news_of_block (cs:=#[I J id,Y (BS s),C O 0 0]) (t:=133) (fr:=(0,0)) (heap_alloc_new wr _)⟩) (qcq y) uq uq;have wW:(appR #[40,40] 40 #[C oa j oc,C (G ⟨Z wr.1,0,O⟩) 1 1]).run prog (wr.alloc (Al #[I J id,Y (BS s),C O 0 0] 133))=.ok (C a7 (j+1) c7) H:=iP;have dW:Xb w H:=(B.alloc aO _).grown DP ut λk r=>(EP.lt k r).1
   obtain⟨f0,fz,fl⟩:=q9 CW H dW;have fO:A l=m:=q9 HM
   obtain⟨sa,scap,W9⟩:∃(sa:Option Addr) (scap:Nat),(a=O/\m=0/\j=0/\c=0/\sa=O/\scap=0)\/(∃g,a=G (D g 0 O)/\((c=j/\m=j/\sa=G (D g 0 O)/\scap=0)\/(¬c=j/\sa=G ⟨g,j * 3,O⟩/\scap=c - j))):=by
    rcases(q9 bQ).row.2 with⟨e,h0⟩|⟨g,cap,cur,e,_,_,aA,_⟩;simp at e;refine⟨O,0,Am ⟨e.1,uq,uq,e.2.2,rfl,rfl⟩⟩;simp at e
    by_cases ec:c=j
    exact⟨_,_,An ⟨g,e.1,Am ⟨ec,uq,rfl,rfl⟩⟩⟩;exact⟨_,_,An ⟨g,e.1,An ⟨ec,rfl,rfl⟩⟩⟩
   have O8:∀g,a=G (D g 0 O)->∀i u,(qO l)[i]?=G u->Xc H g i u:=λg YY i u T=>by
    have hr:=(bQ.h dW).row;rw[YY]at hr;have:=World.ownsRow.cells hr (g:=g) rfl i u T;rwa [vW,ed]at this
   obtain⟨a9,c9,w9,GR,tL,LU,_⟩:=gA (ua:=40) (e:=133) (m:=m - j) (c:=scap) (a:=sa) (news:=qO (l.drop j)) underlying40 qb1 rfl uq LP dW.size (by rw[zk,dp,fO]) (by
    obtain⟨_,h1,h2,_,h3,h4⟩|⟨g,YY,⟨h1,h2,h3,h4⟩|⟨h1,h3,h4⟩⟩:=W9;exact Am ⟨h3,uq,h4⟩;refine An ⟨_,h3,λi u T=>?_⟩;have:=(aj.1 T).1;rw[zk,dp]at this;omega;refine An ⟨_,h3,λi u T=>?_⟩;rw[vW];rw[<-pA,ix]at T
    exact O8 g YY _ u T) (qan _) uq uq
   have cX:Xb w w9:=dW.grown LU dW.size (λk r=>(LP.lt k r).1);have e9:j+1+(m - j)=m+1:=uq;rw[e9]at GR tL;have sY:(appR #[40,40] 40 #[C a7 (j+1) c7,C sa (m - j) scap]).run prog H=.ok (C a9 (m+1) c9) w9:=GR;have cG:A (l.take j++y::l.drop j)=m+1:=by rw[cd,fj,cw,dp];omega
   obtain⟨U8,M7⟩:=RBr.put (l':=l.take j++y::l.drop j) LW SL bQ cX (by
    rw[cG];have e:qO (l.take j++y::l.drop j)=qO (l.take j)++yF y++qO (l.drop j):=by simp[qO]
    rw[e];exact q9 tL) (λx d=>by
    obtain e|e:=cr.1 d
    .exact Am (List.mem_of_mem_take e)
    .obtain e|e:=ep.1 e
     right;rw[e,MJ];exact⟨rfl,rfl,rfl⟩
     exact Am (mj e)) (by
    have eP:ug y.qv=O:=by rw[MJ];rfl
    have hd:=(q9 bQ).dis;rw[<-fq j l]at hd;obtain⟨p1,p2,p3⟩:=List.pairwise_append.1 hd;refine List.pairwise_append.2 ⟨p1,my.2 ⟨(λz _ k r=>by rw[eP]at r;cases r),p2⟩,λz hz u T=>?_⟩;obtain e|e:=ep.1 T;subst e;intro k _ r;rw[eP]at r;cases r
    exact p3 z hz u e) uq
   have hmp:(l.take j++y::l.drop j).map Rs.ru=R.take (kE R id)++⟨id,s,[]⟩::R.drop (kE R id):=by rw[rZ,<-q9 HL,MJ];simp[Rs.ru]
   rw[hmp]at U8;have E:=qd (AK _ U8 M7);obtain⟨k0,kz,kl⟩:=q9 CW w9 cX
   have rQ:(j=m/\¬(j:Int)<(m:Int))\/(∃g x,a=G (D g 0 O)/\(j:Int)<(m:Int)/\Xc wr g (j * 3) (I J x)/\decide (x<id)=uh):=by
    by_cases e:j=m
    exact Am ⟨e,uq⟩;obtain⟨x,d⟩:∃x,l[j]?=G x:=⟨_,ag uq⟩;obtain⟨g,c',hv,_,e0,_⟩:=AH.sub d;simp at hv;exact An ⟨g,x.id,hv.1,uq,e0,da λhh=>bK ⟨x,d,hh⟩⟩
   clear U8 M7 hmp cG LP tL DP LU EP O8 AH bK rZ dP HB fL B dW cX iP GR AK bQ LW SL HL HM QY MJ fO;obtain⟨rfl,rfl,rfl,rfl,rfl,rfl⟩|⟨g,rfl,⟨hc,hmj,rfl,rfl⟩|⟨hc,rfl,rfl⟩⟩:=W9
   .rw[iz]at sY
    clear rQ
    go_wp2
    all_goals exact q9 E
   .obtain⟨e,h1⟩|⟨g',x,e,h1,h2,h3⟩:=rQ
    .subst e
     subst hc;rw[iz]at sY
     go_wp2
     all_goals exact q9 E
    omega
   obtain⟨e,h1⟩|⟨g',x,e,h1,h2,h3⟩:=rQ
   .subst e
    rw[iz]at sY
    go_wp2
    all_goals exact q9 E
   simp at e;subst e
   go_wp2
   all_goals exact q9 E
end
section
attribute [local go_sem ↓] vp
abbrev vAr(x:V):Array Ap:=#[I J x.Q,I J x.M,Y (BS x.str)]
def qru(ps:List Pr)(ss:List (List UInt8)):Nat->List Nat
 | 0=>[]
 | k+1=>qru ps ss k++(if(xx (BS (ss.getD k [])) ps).val=bV ui then[k] else[])
theorem quf(ps:List Pr)(ss:List uk)(k:Nat):A (qru ps ss k)<=k:=by
 induction k<;>grind[qru]
theorem vkx{cap:Nat}(h:TxIn w a ss)(h8:A ss<=8)(u:EvIn w ev ps)(P:EvGood ps)(K:∀s∈ss,(xx (BS s) ps).errno=0):
  uo 32 #[C a (A ss) cap,ev] w λe w'=>∃v,e=Ak v/\IsAt w' (Z w.1) v (qru ps ss (A ss))/\Xb w w':=by
 have H:=qd h;have HE:=qd u;have HZ:=qd K;have HG:=qd P;obtain⟨n,r⟩:=ie (A ss);rw[r]at h8 |-;have HN:=qd r;obtain⟨ea,en,ec,rfl⟩:=u.slice;clear h r u K P;go_enter func32,ntmps32
 go_wp2
 go_loopw [5,6] (λv i wr=>∃k:Nat,k<=n/\i=I J k/\Hid (Xb w wr)/\Hid (IsAt wr (Z w.1) v (qru ps ss k))) (λ_ i _=>n - (intOf i).toNat)
 exact⟨0,bt _,rfl,qd uy,qd (IsAt.nil _ _)⟩;obtain⟨k,hk,rfl,d,HI⟩:=hrel;have TP:=(q9 d).size
 by_cases A1:k<n
 .obtain⟨s,hs⟩:∃s,ss[k]?=G s:=⟨_,ag (md (q9 HN))⟩
  obtain⟨W9,sb,D,rfl,MS,E⟩:=q9 H k s hs;have d0:Xc wr sb (D+k) (Y (BS s)):=(d.cell (p:=⟨sb,D+k,O⟩) MS).trans E;have Z9:=it k;have A5:=je k n;have RE:=qd (qfx (BS s) (by rwa[qI]) ps _ wr (HE.h d) HG);have g:qru ps ss (k+1)=qru ps ss k++(if(xx (BS s) ps).val=bV ui then[k] else[]):=by rw[qru,aq,hs];rfl
  rw[q9 HZ s (bh hs)]at RE;obtain⟨x,q⟩:=ie ((xx (BS s) ps).val);obtain⟨pl,S⟩:=ie ((xx (BS s) ps).U);rw[q,S]at RE;rw[q]at g;have AP:=qd (quf ps ss k);have t:=λw=>qit x (bV ui) w
  simp only[vV]at t RE;clear q S hs E
  by_cases hb:x=bV ui
  all_goals
   first
    | (have hd:decide (x=bV ui)=ui:=de hb;rw[bs hb]at g;simp only[hd]at t)
    | (have hd:decide (x=bV ui)=uh:=da hb;rw[ak hb,gs]at g;simp only[hd]at t)
   have T:=qd g;clear hb hd g
   go_wp2_with(refine be RE λf z=>?_;have D9:=qd (z.alloc z.size (Al (vAr x) 57)).drew;have B:∀i,(f.alloc (Al (vAr x) 57)).cell? ⟨Z f.1,i,O⟩=(vAr x)[i]?:=(λi=>ur);clear z)
   go_region_held3 (λW=>∀i,W.cell? ⟨Z f.1,i,O⟩=(vAr x)[i]?) (first|with_reducible assumption|exact B) ((go_at_call 67;refine be (vQ _ _) λw2 y=>?_;have oM:∀i,w2.cell? ⟨Z f.1,i,O⟩=(vAr x)[i]?:=(λi=>((qi y).1 _ i (by show _<Z (f.alloc _).1;simp)).trans (B i));have o:=qd (qg D9 y);have Q:=qd (HI.h o ux);obtain⟨g5,J7,w5,M8,JB,L9⟩:=IsAt.app Q (md ((q9 o).size)) k (md (q9 AP)) 50;have dE:=qd (qg d o);clear y;simp only[vV]))
   go_wp2
   go_roundw
   case rel=>first|exact⟨k+1,uq,by go_num,qd (dE.trans L9),qd (by rw[q9 T];exact q9 JB)⟩|exact⟨k+1,uq,by go_num,qd (qg d o),qd (by rw[q9 T];exact q9 Q)⟩
   simp[intOf];omega
 have:k=n:=uq;subst this
 go_wp2
 go_ret;exact⟨_,rfl,q9 HI,q9 d⟩
end
theorem vbh:(prog.info? 5).map (λi=>(i.zero,i.size,i.bytes))=G (G (I .u8 0),1,1):=uw
def SpR(W:Ao)(base b:Nat)(l:List UInt8):Prop:=ue W base 5 1 (C (G (D b 0 O)) (A l+8) (A l+8)) (A l+8) (vi l++List.replicate 8 (I .u8 0))
theorem qw7{sb off:Nat}{l:uk}{ty:TypeId}(hs:∀j x,l[j]?=G x->Xc W sb (off+j) (I .u8 (x.toNat:Int)))(Z:ue W base 5 1 (C (G (D b 0 O)) (A l+8) (A l+8)) (A l+8) (madeCells #[I .u8 0] ((A l+8) * 1)).toList):
  ∃W',(cpR #[65,65] ty #[C (G (D b 0 O)) (A l+8) (A l+8),C (G (D sb off O)) (A l) c]).run prog W=.ok (goInt (A l)) W'/\Hid (SpR W' base b l)/\Hid (Below base W W'):=by
 obtain⟨i0,z,F5,Y,D8⟩:=info_parts vbh;have Q:(prog.info? 5).map (·.size)=G 1:=by rw[z];simp[Y]
 obtain⟨mI,t|⟨g,cap,cur,e,T,r,K,y,S,H⟩⟩:=Z
 .cases t.1
 injection e with d e2 J;injection d with d;injection d with d;subst d J;have f:A (vi l)=A l:=by simp[vi]
 have q:Nat.min (A l) (A l+8)=A l:=mg uq
 have o:=gB (P:=prog) W 65 65 ty 5 b 0 (A l+8) (A l+8) ⟨sb,off,O⟩ (A l) c cur 5 (vi l) 1 underlying65 Q r (by rw[q,f];omega) (λj v hv=>by
   rw[vi,cj]at hv
   cases hu:l[j]? with
   | none=>grind
   | some u=>
    rw[hu]at hv;injection hv with hv
    rw[show(⟨sb,off,O⟩:Addr).add j=⟨sb,off+j,O⟩ by simp[Addr.add],hs j u hu,<-hv]) (by rw[f,S];omega) (λv hv=>by
   obtain⟨p,_,rfl⟩:=eh.1 hv
   rfl)
 rw[q]at o
 have U0:cur.toList=List.replicate (A l+8) (I .u8 0):=by
  have E:cur.toList.take ((A l+8) * 1)=cur.toList:=fo (by grind);rw[<-E,H];refine lh λi=>?_
  rw[List.getElem?_replicate];simp[madeCells,Nat.mod_one]
  split<;>simp_all
 have B:cur.toList.take 0++vi l++cur.toList.drop (0+A (vi l))=vi l++List.replicate 8 (I .u8 0):=by
  grind
 rw[B]at o;have s:A (vi l++List.replicate 8 (I .u8 0))=A l+8:=by grind
 refine⟨_,o,qd ⟨by rw[s];omega,An ⟨b,_,_,rfl,T,setRow_heap W b cur _ _ _ r,K,y,by simpa using s, ?_⟩⟩,qd ⟨rfl,rfl,rfl,by simp[World.setRow],λk hk=>setRow_other W b k _ uq⟩⟩;exact fo (by simp[f])
section
variable {W W':Ao} {base b:Nat} {l:uk}
theorem SpR.lt(h:SpR W base b l):b<Z W.1:=(World.ownsRow.lt h b rfl).2
theorem SpR.h(h:SpR W base b l)(d:Xb W W'):SpR W' base b l:=by grind[qp,SpR]
theorem SpR.byte(h:SpR W base b l){x:UInt8}(d:l[j]?=G x):W.cell? (D b j O)=G (I .u8 (x.toNat:Int)):=by
 have e:=(aj.1 d).1;rw[World.ownsRow.cellAt h j uq,cg (by simp[vi];omega),vi,cj,d];rfl
theorem SpR.zero(h:SpR W base b l)(e:A l<=j)(d:j<A l+8):W.cell? (D b j O)=G (I .u8 0):=by
 rw[World.ownsRow.cellAt h j uq,cu (by simp[vi];omega),List.getElem?_replicate,bs (by simp[vi];omega)]
theorem SpR.bytes(h:SpR W base b l):BytesAt W (Z W.1) (C (G (D b 0 O)) (A l) (A l+8)) l:=
 ⟨_,_,rfl,uq,λi x d=>⟨b,0,rfl,h.lt,by rw[ed];exact h.byte d⟩⟩
end
section
attribute [local go_sem ↓] pL
theorem vby(l:List Nat)(r q:Ap)(H bb:Nat)(w:Ao)(u:IsAt w H r l)(t:IsAt w bb q l)(D:A l<=8):
  uo 33 #[r,q] w λe w'=>e=Ak (Ah ui)/\Below (Z w.1) w w':=by
 obtain⟨aa,Y,rfl,z⟩:=u.cells;obtain⟨ab,T,rfl,y⟩:=t.cells;have Q:=qd z;have P:=qd y;clear z y u t;obtain⟨n,f⟩:=ie (A l);rw[f]at D |-;have O:=qd f;clear f;go_enter func33,ntmps33
 go_wp2
 go_loopw [5] (λi wr=>∃k:Nat,k<=n/\i=I J k/\Hid (Below (Z w.1) w wr)) (λi _=>n - (intOf i).toNat)
 exact⟨0,bt _,rfl,qd uy⟩;obtain⟨k,S,rfl,d⟩:=hrel
 by_cases A1:k<n
 .obtain⟨x,hx⟩:∃x,l[k]?=G x:=⟨_,ag (md (q9 O))⟩
  obtain⟨g,rfl,glt,s⟩:=q9 Q k x hx;obtain⟨E,rfl,glt',B⟩:=q9 P k x hx;obtain⟨o,C⟩:=qi d;replace s:=(o g k glt).trans s;rw[<-o E k glt']at B;have Z9:=it k;have A5:=je k n;have K:=qd d.drew;clear o C hx
  go_wp2
  go_quiet (fail)
  go_wp2
  exact⟨⟨k+1,uq,rfl,qd (eg d _)⟩,by simp[intOf];omega⟩
 have:k=n:=uq;subst this
 go_wp2
 go_ret;exact⟨rfl,q9 d⟩
theorem qm8(h:(qa1 ss).1=0):∀s∈ss,∃t,qW (BS s)=.ok t:=by
 have key:∀f k,k+f<=A ss->(qbz ss f k).1=0->∀j s,k<=j->j<k+f->ss[j]?=G s->∃t,qW (BS s)=.ok t:=by
  intro f
  induction f with
  | zero=>grind
  | succ f ih=>
   intro k q d j s u r hs;rw[qbz]at d
   cases D6:gY ss k with
   | some e =>grind[gY,vm]
   | none=>
    rw[D6]at d
    by_cases e:j=k
    grind[gY]
    exact ih (k+1) uq d j s uq uq hs
 intro s hs;obtain⟨j,g⟩:=db hs;have o:=(aj.1 g).1;unfold qa1 at h
 by_cases h8:8<A ss
 grind
 rw[ak h8]at h;exact key _ 0 uq h j s (bt _) uq g
theorem qtq{s:uj}{t:Ast}(h:qW s=.ok t):∃k,qC t=.ok k:=by
 unfold qW at h
 by_cases hs:s.size<=200
 rw[bs hs]at h
 cases he:(lvl s 12).E (qh s st0) with
 | err en pl=>rw[he]at h;cases h
 | ok u st=>
  rw[he]at h
  change qr3 u st=_ at h
  unfold qr3 at h
  split at h
  split at h
  rename_i d;injection h with h;subst h
  cases hc:qC u with
  | err q=>rw[hc]at d;cases d
  | ok c=>exact⟨c,rfl⟩
  cases h;cases h
 grind
theorem vep(h:(qa1 ss).1=0)(ps:List Pr):vem (zL (vF (ss.map coS) (A ss)).1 (vF (ss.map coS) (A ss)).2) ps=if zQ ps then(qru ps ss (A ss),0) else([],7):=by
 obtain⟨u,⟨E,q⟩,y⟩:=qii h;have g:=qm8 h;have e:A (ss.map coS)=A ss:=cf _
 have o:∀c∈ss.map coS,CoreOk c/\yJ c:=λc f=>by
  obtain⟨s,hs,rfl⟩:=eh.1 f;obtain⟨t,d⟩:=g s hs;rw[qm9 d];exact⟨qc9 d,gW t (xg d).1⟩
 have:=veo ps o (by rwa[e]) (by rwa[e,q.len]);rw[e]at this;rw[this]
 cases he:zQ ps with
 | false=>rfl
 | true=>
  rw[bs rfl,bs rfl]
  have key:∀k,k<=A ss->qh1 ps (ss.map coS) k=qru ps ss k:=by
   intro k
   induction k with
   | zero=>intro _;rfl
   | succ k ih=>
    intro r;have hs:ss[k]?=G ss[k]:=ag uq;obtain⟨t,d⟩:=g ss[k] (fk _);obtain⟨c,f⟩:=qtq d;rw[qh1,qru,ih uq,aq,cj,aq,hs];show _++(if vC ps (coS ss[k])=_ then _ else _)=_++(if(xx (BS ss[k]) ps).val=_ then _ else _);rw[qm9 d,(qha t (xg d).1 c f).2 ps he,xx,d];simp only[he,if_true]
  rw[key _ ux]
theorem vat(h:(qa1 ss).1=0)(d:zQ ps=ui):∀s∈ss,(xx (BS s) ps).errno=0:=by grind[qm8,xx]
end
theorem vu4(h:∀s∈ss,∃t,qW (BS s)=.ok t):∀k,k<=A ss->∃E,AdOk ss k E:=by
 intro k
 induction k with
 | zero=>intro _;exact⟨_,AdOk.zero ss⟩
 | succ k ih=>
  intro f;obtain⟨E,e⟩:=ih uq;obtain⟨t,d⟩:=h ss[k] (fk _);exact e.step (ag uq) d
theorem vw4{Z:List Zu}(h:∀z∈Z,∃t,qW (BS z.K)=.ok t/\qj t=z.co):A (jF (Z.map Zu.su)).1=A (gTs (Z.map Zu.K) (A Z)).1:=by
 obtain⟨E,f⟩:=vu4 (ss:=Z.map Zu.K) (λs hs=>by
  obtain⟨z,d,rfl⟩:=eh.1 hs;obtain⟨t,e,_⟩:=h z d
  exact⟨t,e⟩) (A Z) ur
 rw[<-f.len]
 grind[jF,Zu.su,coS,List.map_congr_left,Zu]
theorem vph{Z:List Zu}(h:∀z∈Z,ZOk n z):∀x∈Z.map Zu.su,CoreOk x.co:=λx f=>by
 obtain⟨z,d,rfl⟩:=eh.1 f;obtain⟨t,g,e⟩:=(h z d).rd;show CoreOk z.co;rw[<-e];exact qc9 g
theorem vd7{Z:List Zu}(hp:Z.Pairwise λa b=>a.id<b.id)(id:Int):xR (Z.map Zu.su) id=A (Z.takeWhile λx=>decide (x.id<id))/\kE (Z.map Zu.ru) id=A (Z.takeWhile λx=>decide (x.id<id)):=by
 induction Z with
 | nil=>exact⟨rfl,rfl⟩
 | cons a r ih=>
  obtain⟨q,o⟩:=my.1 hp;obtain⟨f,d⟩:=ih o
  by_cases ha:a.id<id
  rw[si (by simpa using ha),fj];constructor;unfold xR at f |-;rw[fu,List.countP_cons_of_pos (by exact de ha),f];unfold kE at d |-;rw[fu,si (by exact de ha),fj,d];rw[sj (by simpa using ha)];constructor
  .unfold xR
   rw[fu,List.countP_cons_of_neg (by exact λe=>ha (of_decide_eq_true e))];refine List.countP_eq_zero.2 λx h=>?_
   obtain⟨z,g,rfl⟩:=eh.1 h;have:=q z g;show ¬decide (z.id<id)=ui;rw[decide_eq_true_iff];omega
  unfold kE;rw[fu,sj (by exact λe=>ha (of_decide_eq_true e))];rfl
theorem vk3{Z:List Zu}(hp:Z.Pairwise λa b=>a.id<b.id)(d:∀z∈Z,z.id≠id):(∀z∈Z.take (A (Z.takeWhile λx=>decide (x.id<id))),z.id<id)/\∀z∈Z.drop (A (Z.takeWhile λx=>decide (x.id<id))),id<z.id:=by
 induction Z<;>grind[List.pairwise_cons,List.takeWhile_cons_of_pos,List.takeWhile_cons_of_neg]
theorem vxd{Z:List Zu}(h:ZRel L R n Z)(h8:A R<=8)(id:Int)(s:uk)(hs:A s<=140737488355328):(qgy L id s).2=(qcr R id s).2/\∃Z',ZRel (qgy L id s).1 (qcr R id s).1 n Z':=by
 have h':=h;obtain⟨I,H,h3⟩|⟨i,z,g,rfl,I,H,_⟩:=h.find id
 .unfold qgy qcr
  rw[I,H];simp only[dk,if_false]
  cases F4:qW (BS s) with
  | err en pl=>exact⟨rfl,Z,h'⟩
  | ok t=>
   simp only;obtain⟨rfl,rfl,Q,hp⟩:=h;rw[cf]at h8;obtain⟨z,g⟩:=il (⟨id,s,qj t,[],[]⟩:Zu)
   have fM:ZOk n z:=by
    subst g;exact⟨⟨t,F4,rfl⟩,hs,λi x y o=>by simp at o,List.Perm.refl _,List.Pairwise.nil,λm S=>by simp at S,bt _⟩
   have q:∀y∈Z++[z],ZOk n y:=λy d=>by
    obtain d|d:=cr.1 d;exact Q y d
    grind
   obtain⟨E,D⟩:=vd7 hp id
   have I6:∀y∈Z,y.id≠id:=λy d e=>by
    have:=List.find?_eq_none.1 h3 y.su (ld d);simp[Zu.su,e]at this
   obtain⟨C,O⟩:=vk3 hp I6;obtain⟨k,T⟩:∃k,A (Z.takeWhile λx=>decide (x.id<id))=k:=⟨_,rfl⟩;rw[T]at E D C O;rw[E,D];have r:(⟨id,qj t,[]⟩:Su)=z.su:=by rw[g];rfl
   have u:(⟨id,s,[]⟩:Ru)=z.ru:=by rw[g];rfl
   rw[r,u];have Y:qj4 (Z.map Zu.su) k z.su=(Z.take k++z::Z.drop k).map Zu.su:=by unfold qj4;rw[dq,fu,List.map_take,List.map_drop]
   have P:(Z.map Zu.ru).take k++z.ru::(Z.map Zu.ru).drop k=(Z.take k++z::Z.drop k).map Zu.ru:=by rw[dq,fu,List.map_take,List.map_drop]
   rw[Y,P]
   have B:∀y,y∈Z.take k++z::Z.drop k↔y∈Z++[z]:=λy=>by
    have e:y∈Z↔y∈Z.take k\/y∈Z.drop k:=by
     rw[<-cr,fq]
    simp only[cr,ep,ln,or_false,e];constructor
    grind
    grind
   have K:∀y∈Z.take k++z::Z.drop k,ZOk n y:=λy d=>q y ((B y).1 d)
   have A6:A (jF ((Z.take k++z::Z.drop k).map Zu.su)).1=A (gTs ((Z.map Zu.ru).map Ru.K++[s]) (A Z+1)).1:=by
    have e1:=qjt (vph q) (L':=(Z.take k++z::Z.drop k).map Zu.su) λx o=>by
     obtain⟨y,d,rfl⟩:=eh.1 o;exact⟨y.su,ld ((B y).1 d),rfl⟩
    have e2:=qjt (vph K) (L':=(Z++[z]).map Zu.su) λx o=>by
     obtain⟨y,d,rfl⟩:=eh.1 o;exact⟨y.su,ld ((B y).2 d),rfl⟩
    have J:=vw4 (Z:=Z++[z]) λy d=>(q y d).rd
    rw[cd,dj,dq (f:=Zu.K)]at J;rw[mq,show Z.map (Ru.K ∘ Zu.ru)=Z.map Zu.K from rfl,show[s]=[z].map Zu.K by rw[g];rfl,<-J];omega
   rw[cf,cf,A6]
   by_cases hc:8<=A Z\/80<A (gTs ((Z.map Zu.ru).map Ru.K++[s]) (A Z+1)).1
   grind
   rw[ak hc,ak (λe=>hc (Am uq)),ak (λe=>hc (An e))];refine⟨rfl,Z.take k++z::Z.drop k,rfl,rfl,K, ?_⟩;rw[List.pairwise_append,my];have lY:z.id=id:=by rw[g]
   refine⟨hp.sublist (List.take_sublist ..),⟨λy d=>by grind,hp.sublist (List.drop_sublist ..)⟩,λa ha b G=>?_⟩;have mW:=C a ha;obtain rfl|G:=ep.1 G;omega
   grind
 grind[qgy,qcr]
theorem vtt{Z:List Zu}(h:ZRel L R n Z):A (jF L).1=A (gTs (R.map Ru.K) (A R)).1:=by
 obtain⟨rfl,rfl,e,_⟩:=h;rw[vw4 λz d=>(e z d).rd,mq,cf];rfl
def qpx(ps:List Pr)(m:Mg)(z:Zu):Zu:=if qn2 ps z.ru=ui/\A z.q<6 then⟨z.id,z.K,z.co,qdg z.hs m,z.q++[m]⟩ else z
theorem vtx(ps:List Pr)(m:Mg)(z:Zu):(qpx ps m z).ru=vkc ps m z.ru:=by
 unfold qpx vkc
 by_cases hc:qn2 ps z.ru=ui/\A z.q<6
 .rw[bs hc,bs (show qn2 ps z.ru=ui/\A z.ru.ms<6 from hc)];rfl
 grind[Zu.ru]
theorem vgl(ps:List Pr)(m:Mg)(z:Zu):(qpx ps m z).id=z.id:=by
 unfold qpx;split<;>rfl
theorem vtw{z:Zu}(h:ZOk n z):ZOk (n+1) (qpx ps ⟨pri,n+1⟩ z):=by
 unfold qpx
 split
 rename_i g;obtain⟨f,e⟩:=vde h.hp ⟨pri,n+1⟩;refine⟨h.rd,h.tl,f,e.trans ((List.Perm.cons _ h.pm).trans (List.perm_append_singleton ..).symm), ?_,λm d=>?_, ?_⟩
 grind[ZOk]
 grind[ZOk]
 grind
 exact⟨h.rd,h.tl,h.hp,h.pm,h.up,λm d=>by grind[ZOk],h.l6⟩
theorem vpi{Z:List Zu}(g:∀z∈Z,ZOk n z)(h:zQ ps=ui){z:Zu}(f:Z[k]?=G z):(vC ps (((Z.map Zu.su).map Su.co).getD k (.leaf ⟨3,0,[],[]⟩))=bV ui)↔qn2 ps z.ru=ui:=by
 obtain⟨t,d,e⟩:=(g z (bh f)).rd;obtain⟨c,o⟩:=qtq d;rw[aq,cj,cj,f];show(vC ps z.co=bV ui)↔decide ((xx (BS z.K) ps).val=bV ui)=ui;rw[decide_eq_true_iff,<-e,(qha t (xg d).1 c o).2 ps h,xx,d]
 grind
theorem vw3{Z:List Zu}(f:∀z∈Z,ZOk n z)(g:zQ ps=ui)(m:Mg):∀k,k<=A Z->(qh1 ps ((Z.map Zu.su).map Su.co) k).foldl (zF m) (Z.map Zu.su,[],[])=(((Z.take k).map (qpx ps m)++Z.drop k).map Zu.su,((Z.take k).filter λz=>qn2 ps z.ru).map Zu.id,((Z.take k).filter λz=>qn2 ps z.ru&&decide (6<=A z.q)).map Zu.id):=by
 intro k
 induction k with
 | zero=>intro _;rfl
 | succ k ih=>
  intro u;obtain⟨z,d⟩:∃z,Z[k]?=G z:=⟨_,ag uq⟩;have q:Z[k]=z:=(aj.1 d).2;have o:=f z (bh d);have r:A z.hs=A z.q:=o.pm.length_eq;have y:=o.l6;rw[qh1,List.foldl_append,ih uq,dt,d];simp only[Option.toList,dq,List.filter_append,fu,List.map_nil];have hd:Z.drop k=z::Z.drop (k+1):=by rw[cm uq,q]
  have s:A ((Z.take k).map (qpx ps m))=k:=by grind
  by_cases hm:qn2 ps z.ru=ui
  .rw[bs ((vpi f g d).2 hm)]
   show zF m _ k=_;unfold zF
   have t:((((Z.take k).map (qpx ps m)).map Zu.su)++(Z.drop k).map Zu.su)[k]?=G z.su:=by
    grind
   simp only;rw[t];simp only;rw[show A z.su.ms=A z.q from r]
   by_cases hq:A z.q=6
   grind[qpx,Zu.su]
   rw[ak hq,List.filter_cons_of_pos (by exact hm),List.filter_cons_of_neg (by grind)];have:qpx ps m z=⟨z.id,z.K,z.co,qdg z.hs m,z.q++[m]⟩:=by grind[qpx]
   rw[this,List.set_append_right _ _ (by grind),cf,s,iz,hd];simp[Zu.su]
  rw[ak (λe=>hm ((vpi f g d).1 e)),List.filter_cons_of_neg (by exact hm),List.filter_cons_of_neg (by simp[hm])];have:qpx ps m z=z:=by grind[qpx]
  rw[this,hd];simp
theorem vxc{Z:List Zu}(h:ZRel L R n Z)(pri:Int)(ps:List Pr):(qc1 L n pri ps).1.2=(qbe R n pri ps).1.2/\(qc1 L n pri ps).2=(qbe R n pri ps).2/\∃Z',ZRel (qc1 L n pri ps).1.1 (qbe R n pri ps).1.1 (qbe R n pri ps).2.1 Z':=by
 have u:=h;unfold qc1 qbe
 by_cases d:0<=pri/\pri<=9/\zQ ps=ui
 .rw[bs d,bs d]
  obtain⟨rfl,rfl,o,hp⟩:=h
  have r:qpu ps (Z.map Zu.su)=qh1 ps ((Z.map Zu.su).map Su.co) (A Z):=by
   unfold qpu jF
   have:=qn3 ps (cs:=(Z.map Zu.su).map Su.co) λc d=>by
    obtain⟨x,s,rfl⟩:=eh.1 d;obtain⟨z,f,rfl⟩:=eh.1 s;obtain⟨t,g,e⟩:=(o z f).rd;show CoreOk z.co/\yJ z.co;rw[<-e];exact⟨qc9 g,gW t (xg g).1⟩
   rw[cf,cf]at this;rw[cf];exact this
  have q:=vw3 o d.2.2 (⟨pri,n+1⟩:Mg) (A Z) ux;rw[ig,List.drop_length,gs]at q;unfold vgn;rw[r,q];unfold yo pq xt;rw[ig,List.drop_length,gs,List.filter_map,List.filter_map];refine⟨by simp only[mq];rfl,rfl,Z.map (qpx ps ⟨pri,n+1⟩),rfl, ?_,λz f=>?_, ?_⟩
  grind[List.map_congr_left,vtx]
  grind[vtw]
  grind[vgl]
 grind
structure HasB(w0:Ao)(F:Nat->Prop)(w:Ao)(bb:Nat)(last:Int)(L:List Su):Prop where
 br:Br w F bb last L
 good:gS L
 new:∀k,F k->w0.1.size<=k
 h:Below w0.1.size w0 w
theorem vin(w:Ao):HasB w (λk=>k=Z w.1) (w.alloc (Al #[I J 0,C O 0 0,C O 0 0,C O 0 0] 54)) (Z w.1) 0 []:=by
 refine⟨⟨λk f=>ut,C O 0 0,C O 0 0,C O 0 0,[],⟨heap_alloc_new w _,dw _ _ _ _,⟨TsAt.nil _ _,IsAt.nil _ _,λg q=>by simp[Value.ownBlock]at q⟩,λx d=>by simp at d,List.Pairwise.nil,λx d=>by simp at d,λx d=>by simp at d,List.Pairwise.nil,bt _,λx d=>by simp at d,⟨bt _,bt _,λi t h=>by simp[tsX,vF]at h,λr o=>by simp[rsX,vF]at o⟩⟩,rfl,λk f=>?_⟩,λx d=>by simp at d,λk f=>uq,pZ _ _⟩;obtain (e|e|e|e|⟨x,d,_⟩)|⟨x,d,_⟩:=f
 .exact e
 .simp[Value.ownBlock]at e
 .simp[Value.ownBlock]at e
 .simp[Value.ownBlock]at e
 all_goals grind
section
variable {w0 w:Ao} {bb:Nat} {last:Int} {L:List Su}
end
section
variable {pv:Ap}
attribute [local go_sem ↓] pL
theorem va4(ts:List Tm)(d:List Nat):2<=A (zL ts d):=by
 grind[zL,qmg,qmf]
theorem HsR.more{R:Nat->Prop}(h:HsR pv w R W hv hs)(g:Xb W Ad):HsR pv w (λk=>R k\/Z W.1<=k) Ad hv hs:=
 ⟨h.at'.h g,λx o=>((h.each x o).keep (λ_ _ _=>rfl) (λb f q=>⟨f.1,λe=>e.elim f.2 (Nat.not_le.2 q)⟩)).h g,λk d e=>e.elim (h.hf k d) (Nat.not_le.2 (by
  obtain d|d:=d
  .exact(h.at'.row.lt k d).2
  .have:=h.at'.lt;omega))⟩
theorem qub{R:Nat->Prop}{nn bn:Nat}{nv bv:Ap}{nxs bxs:List Ap}(h:HsR pv w R W hv hs)(E:∀k,R' k->R k)(u:∀k,R' k->k<Z W.1)(s:ue W (Z w.1+1) 3 1 nv nn nxs)(r:ue W (Z w.1+1) 5 1 bv bn bxs)(nf:∀k,ug nv=G k\/ug bv=G k->R k/\¬R' k)(f:Ad=W.alloc (Al #[nv,bv,I J 0] 74))(z:A hs<=19300000000000)(t:nn<=100000000)(y:bn<=100000000):
  uo 29 #[Ag (G ⟨Z w.1,0,O⟩),Ag (G ⟨Z W.1,0,O⟩)] Ad λe W'=>e=Ak (Aj #[])/\∃hv' q,HsR pv w R' W' hv' q/\A q=A hs+4/\(∀k,R' k->W'.1[k]?=W.1[k]?)/\Z W.1<=Z W'.1:=by
 have A1:=h.at'.lt;have o:Xb W Ad:=f ▸ uy.alloc ux _
 have hz:Z Ad.1=Z W.1+1:=by rw[f];simp
 have H:FmAt (Z w.1+1) Ad (Z W.1) 0 nv bv nn bn nxs bxs:=⟨uq,⟨_,by rw[f];exact heap_alloc_new W _⟩,by rw[f];simp,by rw[f];simp,by rw[f];simp,λi=>by rw[f];simp,qp s o ux,qp r o ux,λe=>md ((s.lt _ e).2),λe=>md ((r.lt _ e).2),λk e1 T=>by
  obtain⟨c,B⟩:=xu s e1;obtain⟨d,hd⟩:=xu r T
  exact absurd (qdm B hd) uu⟩
 refine(vus (R:=R') (h.more o) (λk g=>Am (E k g)) (λk g=>by grind) H (λk g=>?_) z t y).mono λe W' ⟨S,hv',q,Q,P,K,h5⟩=>⟨S,hv',q,Q,P,λk g=>(K k g).trans (o.block k (u k g)),uq⟩
 grind
section
variable {w W U Ad:Ao} {hv cv iv gv:Ap} {hs:List (Nat×Nat)} {N M Af ud uc Ac:Nat} {cxs ixs gxs:List Ap}
end
end
structure Pl where
 pb:Nat
 bb:Nat
 mb:Nat
 F:Nat->Prop
 Gp:Nat->Prop
 last:Int
 L:List Su
 R:List Ru
 Z:List Zu
def Pl.own(p:Pl)(k:Nat):Prop:=k=p.pb\/p.F k\/p.Gp k
structure PlAt(b:Nat)(W:Ao)(p:Pl):Prop where
 c0:W.cell? ⟨p.pb,0,O⟩=G (Ag (G ⟨p.bb,0,O⟩))
 c1:W.cell? ⟨p.pb,1,O⟩=G (Ag (G ⟨p.mb,0,O⟩))
 lt:p.pb<W.1.size
 br:Br W p.F p.bb p.last p.L
 good:gS p.L
 rb:RBr W p.Gp p.mb p.last p.R
 z:ZRel p.L p.R p.last p.Z
 l0:0<=p.last
 fb:¬p.F p.pb
 gb:¬p.Gp p.pb
 fg:∀k,p.F k->¬p.Gp k
 lo:∀k,p.own k->b<k
section
variable {b:Nat} {W W':Ao} {p:Pl}
theorem PlAt.sz(h:PlAt b W p):∀k,p.own k->k<Z W.1:=λk d=>by
 obtain rfl|d|d:=d
 .exact h.lt
 .exact h.br.1 k d
 .exact h.rb.1 k d
theorem PlAt.same(h:PlAt b W p)(f:∀k,p.own k->W'.1[k]?=W.1[k]?)(d:Z W.1<=Z W'.1):PlAt b W' p:=by
 have g:∀i,W'.cell? (D p.pb i O)=W.cell? (D p.pb i O):=λi=>bg (w:=W) (a:=D p.pb i O) (f p.pb (Am rfl))
 exact⟨(g 0).trans h.c0,(g 1).trans h.c1,au h.lt d,h.br.frame d λk e=>f k (An (Am e)),h.good,h.rb.frame d λk e=>f k (An (An e)),h.z,h.l0,h.fb,h.gb,h.fg,h.lo⟩
end
theorem HsR.grow{pv:Ap}{W':Ao}{R:Nat->Prop}(h:HsR pv w R W hv hs)(f:Grow R W W')(A:∀k,R k->Z w.1<k)(y:∀k,R' k->R k\/Z W.1<=k):HsR pv w R' W' hv hs:=by
 have z:=h.at'.lt;have r:W'.1[Z w.1]?=W.1[Z w.1]?:=f.block _ z (h.hf _ (An rfl));have u:∀i,W'.cell? ⟨Z w.1,i,O⟩=W.cell? ⟨Z w.1,i,O⟩:=λi=>bg (w:=W) (a:=⟨Z w.1,i,O⟩) r
 have g:=h.at'.bel;have t:∀x∈hs,HdAt (λk=>(Z w.1<k/\ug hv≠G k)/\¬R' k) W' x.1 x.2:=λx o=>(h.each x o).keep (λb q s=>f.block b s q.2) λb q s=>⟨q.1,λe=>(y b e).elim q.2 λe=>uq⟩
 refine⟨⟨⟨f.os.trans g.os,f.tape.trans g.tape,f.output.trans g.output,bu g.size f.size,λk d=>(f.block k uq λe=>by grind).trans (g.block k d)⟩,au z f.size,(u 0).trans h.at'.c0,(u 1).trans h.at'.c1,λi=>(cn (w:=W) (a:=⟨Z w.1,i,O⟩) r).trans (h.at'.fz i),vo h.at'.row λk d=>f.block k (h.at'.row.lt k d).2 (h.hf k (Am d)),λx o=>⟨(t x o).keep (λ_ _ _=>rfl) (λ_ h _=>h.1),(h.at'.each x o).2⟩⟩,t,λk d e=>?_⟩;obtain e|e:=y k e;exact h.hf k d e;obtain d|d:=d;have:=(h.at'.row.lt k d).2;omega;omega
def ApR(pv:Ap)(ps:List Pl)(k:Nat):Prop:=ug pv=G k\/∃p∈ps,p.own k
def ptV(p:Pl):Ap:=Ag (G (D p.pb 0 O))
structure ApAt(w W:Ao)(pv hv:Ap)(hs:List (Nat×Nat))(ps:List Pl)(X:Nat->Prop):Prop where
 hr:HsR pv w (λk=>ApR pv ps k\/X k) W hv hs
 row:ue W (w.1.size+1) 38 1 pv (A ps) (ps.map ptV)
 each:∀p∈ps,PlAt w.1.size W p
 apart:∀(i j:Nat) (p q:Pl),i≠j->ps[i]?=G p->ps[j]?=G q->∀k,p.own k->¬q.own k
 pn:∀p∈ps,∀k,p.own k->ug pv≠G k
 xn:∀k,X k->¬ApR pv ps k
 xl:∀k,X k->w.1.size<k/\k<W.1.size
section
variable {w W W':Ao} {pv hv:Ap} {hs:List (Nat×Nat)} {ps:List Pl} {X X':Nat->Prop}
theorem ApAt.rlo(h:ApAt w W pv hv hs ps X):∀k,ApR pv ps k\/X k->Z w.1<k/\k<Z W.1:=λk d=>by
 obtain (d|⟨p,hp,d⟩)|d:=d
 .have:=h.row.lt k d;omega
 .exact⟨(h.each p hp).lo k d,(h.each p hp).sz k d⟩
 .exact h.xl k d
theorem ApAt.h(h:ApAt w W pv hv hs ps X)(e:Xb W W'):ApAt w W' pv hv hs ps X:=
 ⟨h.hr.grow (Grow.x e) (λk d=>(h.rlo k d).1) λ_ d=>Am d,qp h.row e ux,λp hp=>(h.each p hp).same (λk d=>e.block k ((h.each p hp).sz k d)) e.size,h.apart,h.pn,h.xn,λk d=>⟨(h.xl k d).1,au (h.xl k d).2 e.size⟩⟩
theorem ApAt.op(h:ApAt w W pv hv hs ps X){p g:Pl}(z:ps[i]?=G p)(r:Grow p.own W W')(hp:PlAt (Z w.1) W' g)(aI:g.pb=p.pb)(K:∀k,g.own k->p.own k\/Z W.1<=k)(A:∀k,X' k->X k\/(Z W.1<=k/\k<Z W'.1))(t:∀k,X' k->¬g.own k):ApAt w W' pv hv hs (ps.set i g) X':=by
 have B:=bh z;have Y:=(aj.1 z).1;have J:=h.rlo;have BJ:=h.hr.at'.lt;have C:∀k,ug pv=G k->k<Z W.1:=λk d=>(h.row.lt k d).2
 have s:∀j q,(ps.set i g)[j]?=G q->(j=i/\q=g)\/(i≠j/\ps[j]?=G q):=λj q f=>by
  rw[ii]at f
  split at f
  grind
  grind
 have S9:(ps.set i g).map ptV=ps.map ptV:=by
  apply lh;intro j;rw[cj,cj,ii]
  split
  grind[ptV]
  rfl
 have H:∀k,ApR pv (ps.set i g) k\/X' k->(ApR pv ps k\/X k)\/Z W.1<=k:=λk d=>by
  obtain (d|⟨q,hq,d⟩)|d:=d;exact Am (Am (Am d))
  grind[ApR]
  grind
 refine⟨h.hr.grow ⟨r.os,r.tape,r.output,r.size,λk d E=>r.block k d λe=>E (Am (An ⟨p,B,e⟩))⟩ (λk d=>(J k d).1) H, ?_,λq hq=>?_,λa c x y T u O k=>?_,λq hq k d e=>?_,λk d e=>?_,λk d=>?_⟩
 grind[vo,ApAt,Grow]
 obtain⟨j,f⟩:=db hq;obtain⟨_,rfl⟩|⟨D,f⟩:=s j q f;exact hp
 grind[PlAt.same,PlAt.sz,ApAt,Grow]
 obtain⟨S,Q⟩|⟨P,u⟩:=s a x u
 grind[PlAt.sz,ApAt]
 grind[PlAt.sz,ApAt]
 obtain⟨j,f⟩:=db hq;obtain⟨_,rfl⟩|⟨_,f⟩:=s j q f;obtain d|d:=K k d;exact h.pn p B k d e;have:=C k e;omega;exact h.pn q (bh f) k d e
 have I:∀(q:Pl) (j:Nat),ps[j]?=G q->q.own k->¬Z W.1<=k:=λ(q:Pl) (j:Nat) f e=>by
  have:=(h.each q (bh f)).sz k e;omega
 obtain e|⟨q,hq,e⟩:=e;obtain o|o:=A k d;exact h.xn k o (Am e);have:=C k e;omega;obtain⟨j,f⟩:=db hq;obtain⟨_,rfl⟩|⟨_,f⟩:=s j q f;exact t k d e;obtain o|o:=A k d;exact h.xn k o (An ⟨q,bh f,e⟩);exact I q j f e o.1
 grind[Grow]
theorem ApAt.start(w:Ao):ApAt w (w.alloc (Al #[C O 0 0,C O 0 0] 30)) (C O 0 0) (C O 0 0) [] [] (λ_=>False):=
 ⟨⟨HsAt.start w,λx f=>by simp at f,λk d e=>by
  obtain (e|⟨p,hp,_⟩)|e:=e
  .simp[Value.ownBlock]at e
  .simp at hp
  .exact e⟩,dw _ _ _ _,λp hp=>by simp at hp,λi j p q _ g=>by simp at g,λp hp=>by simp at hp,λk d=>d.elim,λk d=>d.elim⟩
theorem ApAt.at(h:ApAt w W pv hv hs ps X){p:Pl}(d:ps[i]?=G p):∃g c,pv=C (G (D g 0 O)) (A ps) c/\g<Z W.1/\W.cell? (D g i O)=G (ptV p):=by
 have q:=(aj.1 d).1;have e:=h.row;obtain⟨rfl,o⟩|⟨g,cap,cur,rfl,r,f,_⟩:=h.row.2;omega;refine⟨g,cap,rfl,(ch.1 f).1, ?_⟩;rw[World.ownsRow.cellAt e i uq,cj,d];rfl
end
section
variable {b:Nat} {W W1 W2:Ao} {p:Pl}
theorem PlAt.mid(h:PlAt b W p)(d:Grow p.F W W1):RBr W1 p.Gp p.mb p.last p.R:=by grind[RBr.frame,PlAt,Grow,RBr]
theorem PlAt.two(h:PlAt b W p){o:Nat->Prop}{Z:List Zu}(q:Br W1 o p.bb n L)(t:∀k,o k->upF p.F W W1 k)(E:gS L)(g:Grow p.F W W1)(C:RBr W2 (upF p.Gp W1 W2) p.mb n R)(f:Grow p.Gp W1 W2)(y:ZRel L R n Z)(z:0<=n):
  PlAt b W2 ⟨p.pb,p.bb,p.mb,o,upF p.Gp W1 W2,n,L,R,Z⟩/\Grow p.own W W2/\∀k,(⟨p.pb,p.bb,p.mb,o,upF p.Gp W1 W2,n,L,R,Z⟩:Pl).own k->p.own k\/W.1.size<=k:=by
 have P:=g.size;have H:=f.size;have J:=h.lt;have A:=h.rb.1;have B:=h.br.1
 have r:∀k,o k->¬p.Gp k:=λk d e=>by
  obtain q|q:=t k d;exact h.fg k q e
  grind
 have G:W2.1[p.pb]?=W.1[p.pb]?:=(f.block _ uq h.gb).trans (g.block _ J h.fb);have s:∀i,W2.cell? (D p.pb i O)=W.cell? (D p.pb i O):=λi=>bg (w:=W) (a:=D p.pb i O) G
 have K:=h.lo p.pb (Am rfl)
 have I:∀k,(⟨p.pb,p.bb,p.mb,o,upF p.Gp W1 W2,n,L,R,Z⟩:Pl).own k->p.own k\/W.1.size<=k:=λk d=>by
  obtain d|d|d:=d;exact Am (Am d);obtain e|e:=t k d;exact Am (An (Am e));exact An e.1;obtain e|e:=d;exact Am (An (An e));exact An uq
 refine⟨⟨(s 0).trans h.c0,(s 1).trans h.c1,by show p.pb<_;omega,q.frame H λk d=>f.block k (q.1 k d) (r k d),E,C,y,z,λe=>?_,λe=>?_,λk d e=>?_,λk d=>?_⟩,⟨f.os.trans g.os,f.tape.trans g.tape,f.output.trans g.output,uq,λk d u=>(f.block k uq λe=>u (An (An e))).trans (g.block k d λe=>u (An (Am e)))⟩,I⟩
 all_goals grind[upF,PlAt]
end
section
variable {w W:Ao} {pv hv:Ap} {hs:List (Nat×Nat)} {ps:List Pl} {i:Nat} {p:Pl}
def AfPl(w:Ao)(pv hv:Ap)(hs:List (Nat×Nat))(ps:List Pl)(i:Nat)(n:Int)(W:Ao):Prop:=∃p',ApAt w W pv hv hs (ps.set i p') (λ_=>False)/\0<=p'.last/\p'.last<=n
theorem Grow.andB{W W1 V:Ao}(d:Grow F W W1)(e:Xb W1 V):Grow F W V:=⟨e.os.trans d.os,e.tape.trans d.tape,e.output.trans d.output,bu d.size e.size,λk f g=>(e.block k (au f d.size)).trans (d.block k f g)⟩
theorem AfPl.of(h:ApAt w W pv hv hs ps (λ_=>False))(o:ps[i]?=G p){g W1 W2:Ao}(s:Br g (upF p.F W g) p.bb p.last L)(q:Xb g W1)(t:gS L)(B:Grow p.F W W1)(r:RBr W2 (upF p.Gp W1 W2) p.mb p.last R)(A:Grow p.Gp W1 W2)(f:∃Z,ZRel L R p.last Z):AfPl w pv hv hs ps i p.last W2:=by
 obtain⟨Z,f⟩:=f;have hp:=h.each p (bh o);obtain⟨z,y,u⟩:=hp.two (s.h q) (λ_ d=>d.imp_right λe=>⟨e.1,au e.2 q.size⟩) t B r A f hp.l0;exact⟨_,h.op o y z rfl u (λk d=>d.elim) (λk d=>d.elim),hp.l0,Int.le_refl _⟩
theorem vu8(h:ApAt w W pv hv hs ps (λ_=>False))(u:ps[i]?=G p)(K:LibOk W)(id:Int)(s:uk)(r:A s<=140737488355328):
  uo 38 #[Ag (G (D p.bb 0 O)),I J id,Y (BS s)] W λe W1=>e=Ak (Aj #[I J (qgy p.L id s).2.1,I J (qgy p.L id s).2.2])/\Grow p.own W W1/\Xc W1 p.pb 1 (Ag (G (D p.mb 0 O))) /\
   ∀V,Xb W1 V->uo 39 #[Ag (G (D p.mb 0 O)),I J id,Y (BS s)] V λe W2=>e=Ak (Aj #[I J (qgy p.L id s).2.1,I J (qgy p.L id s).2.2])/\AfPl w pv hv hs ps i p.last W2:=by
 have hp:=h.each p (bh u);obtain⟨S,f⟩:=vxd hp.z hp.rb.2.1 id s r
 have y:∀x∈p.R,A x.K<=140737488355328:=λx t=>by
  obtain⟨_,H,B,_⟩:=hp.z;rw[H]at t;obtain⟨z,f,rfl⟩:=eh.1 t;exact(B z f).tl
 refine vt9 W p.F p.bb p.last p.L hp.br hp.good id s r K _ λW1 q Q d=>⟨rfl,⟨d.os,d.tape,d.output,d.size,λk E C=>d.block k E λe=>C (An (Am e))⟩,(bg (w:=W) (a:=D p.pb 1 O) (d.block _ hp.lt hp.fb)).trans hp.c1,λV g=>?_⟩
 rw[S];exact vm3 (hp.mid (d.andB g)) y id s r (λW a cap m ss q o P=>qcs q o P) _ λW2 o T=>⟨rfl,AfPl.of h u q g Q (d.andB g) o T f⟩
theorem vh0(h:ApAt w W pv hv hs ps (λ_=>False))(g:ps[i]?=G p)(id:Int):
  uo 40 #[Ag (G (D p.bb 0 O)),I J id] W λe W1=>e=Ak (I J (yZ p.L id).2)/\Grow p.own W W1/\Xc W1 p.pb 1 (Ag (G (D p.mb 0 O))) /\
   ∀V,Xb W1 V->uo 41 #[Ag (G (D p.mb 0 O)),I J id] V λe W2=>e=Ak (I J (yZ p.L id).2)/\AfPl w pv hv hs ps i p.last W2:=by
 have hp:=h.each p (bh g);obtain⟨y,o⟩:=vtu hp.z id;refine vg4 W p.F p.bb p.last p.L hp.br hp.good id _ λW1 t u d=>⟨rfl,⟨d.os,d.tape,d.output,d.size,λk r q=>d.block k r λe=>q (An (Am e))⟩,(bg (w:=W) (a:=D p.pb 1 O) (d.block _ hp.lt hp.fb)).trans hp.c1,λV f=>?_⟩
 rw[y];exact qy8 (hp.mid (d.andB f)) id _ λW2 s z=>⟨rfl,AfPl.of h g t f u (d.andB f) s z o⟩
theorem vpy(h:ApAt w W pv hv hs ps (λ_=>False))(q:ps[i]?=G p)(id:Int):
  uo 42 #[Ag (G (D p.bb 0 O)),I J id] W λe W1=>e=Ak (Aj #[I J (kG p.L id).2.1,I J (kG p.L id).2.2])/\Grow p.own W W1/\Xc W1 p.pb 1 (Ag (G (D p.mb 0 O))) /\
   ∀V,Xb W1 V->uo 43 #[Ag (G (D p.mb 0 O)),I J id] V λe W2=>e=Ak (Aj #[I J (kG p.L id).2.1,I J (kG p.L id).2.2])/\AfPl w pv hv hs ps i p.last W2:=by
 have hp:=h.each p (bh q);obtain⟨E,f⟩:=vw5 hp.z id
 have y:∀x∈p.R,A x.ms<=6:=λx o=>by
  obtain⟨_,u,r,_⟩:=hp.z;rw[u]at o;obtain⟨z,f,rfl⟩:=eh.1 o;exact(r z f).l6
 refine vk4 W p.F p.bb p.last p.L hp.br id _ λW1 C d=>⟨rfl,⟨d.os,d.tape,d.output,d.size,λk t s=>d.block k t λe=>s (An (Am e))⟩,(bg (w:=W) (a:=D p.pb 1 O) (d.block _ hp.lt hp.fb)).trans hp.c1,λV g=>?_⟩
 rw[E];exact vec (hp.mid (d.andB g)) y id _ λW2 B H=>⟨rfl,AfPl.of h q C g (qxf hp.good) (d.andB g) B H f⟩
end
theorem qqe{x:Ox}(q:OxOk w x)(B:LibOk w):lz 11 #[oxV x] w (Ah ui):=by
 obtain⟨kind,nn,id,text,K,H,ts,ev,ps⟩:=x;have s:(BS text).size<=140737488355328:=q.K;obtain⟨E,r,D,y⟩:=q.ev.slice;have y:ev=C E r D:=y;subst y
 have f:∃S g d,∀(W:Ao) (e:Ending) (w':Ao),qe4 W (qW (BS text)) e w'->e=Ak (Aj #[Y S,I J g,I J d])/\Xb W w':=by
  cases h:qW (BS text) with
  | ok t=>exact⟨_,_,_,λW e w' h=>⟨h.2,h.1⟩⟩
  | err r d=>exact⟨_,_,_,λW e w' h=>⟨h.2,h.1⟩⟩
 obtain⟨S,g,d,f⟩:=f;have O:Hid (∀W:Ao,LibOk W->lz 22 #[Y (BS text)] W (Aj #[Y S,I J g,I J d])):=qd λW h=>(va5 (BS text) s W h).mono λe w' h=>f W e w' h
 have RE:Hid (∀W:Ao,lz 23 #[Y (BS text)] W (Aj #[Y S,I J g,I J d])):=qd λW=>(qxl (BS text) s W).mono λe w' h=>f W e w' h
 unfold oxV;simp only;have z:=(Below.refl (Z w.1) w).alloc ux (Al #[I J kind,I J nn,I J id,Y (BS text),C K (A ts) H,C E r D] 34);have T:=qd z;have u:=qd (B.h z ux);clear q B s f z;go_enter func11,ntmps11
 go_wp2_with(first|(go_at_call 22;refine be (O _ u) λw2 o=>?_;have D8:Z w.1<Z w2.1:=(by have:=o.size;simp at this;omega);have o3:Xc w2 (Z w.1) 3 (Y (BS text)):=((qi o).1 _ 3 ur).trans ur;have P:=qd (qg T o);clear o)|(refine be (RE _) λw3 G=>?_;have Q:=qd (qg P G);clear G))
 go_ret;exact⟨rfl,q9 Q⟩
theorem qyk{x:Ox}(d:OxOk w x)(h:LibOk w)(f:x.Q=2):lz 7 #[wv,oxV x] w (Ah ui):=by
 obtain⟨t,r,s,o⟩:=d.ev.slice;have e:Hid (∀W,Xb w W->lz 11 #[oxV x] W (Ah ui)):=qd λW g=>qqe (d.h g) (h.h g ux)
 unfold oxV at e |-;rw[f,o]at e |-;have q:=qd ((Below.refl (Z w.1) w).alloc ux (Al #[I J 2,I J x.n,I J x.id,Y (BS x.K),C x.la (A x.ts) x.lc,C t r s] 34));clear d h f o;go_enter func7,ntmps7
 go_wp2_with(refine be (e _ q) λw2 u=>?_)
 go_ret;exact⟨rfl,qg q u⟩
end Go.Proofs.YtmepkbgodcffoaaGreatDoor
