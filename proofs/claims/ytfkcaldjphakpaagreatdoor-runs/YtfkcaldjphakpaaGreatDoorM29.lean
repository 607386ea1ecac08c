/- together -/
import Derived.Test.YtfkcaldjphakpaaGreatDoorM05
import Derived.Lib.OwnKind
import Derived.Lib.LaidTab
import Derived.Shelf.Vars
set_option maxHeartbeats 16000000
set_option maxRecDepth 100000
namespace Go.Proofs.YtfkcaldjphakpaaGreatDoor
open Go.RowKit Go.Proofs.Tryz
variable{cs:List Co}{l:List Nat}{ps:List Pr}{ts us:List Tm}{base i j:Nat}{t:Tm}{ev v:Value}{W w:World}
section
theorem IsAt.form(h:IsAt w base v l):∃a c,v=.slice a l.length c:=by
 rcases h.2 with⟨rfl,b⟩|⟨g,cap,cur,rfl,_⟩
 ·exact⟨none,0,by rw[b]⟩
 ·exact⟨_,_,rfl⟩
end
section
def Rep(ts:List Tm):Nat->Co->Prop
 | i,.leaf p=>ts[i]?=some (zg p 0 0)
 | i,.un p x=>∃l,Rep ts l x/\ts[i]?=some (zg p l 0)
 | i,.bin p x y=>∃l r,Rep ts l x/\Rep ts r y/\ts[i]?=some (zg p l r)
theorem qk4(h:ts[i]?=some t):(ts++us)[i]?=some t:=by
 rw[bw (au.1 h).1];exact h
theorem Rep.more:∀{c:Co} {i:Nat},Rep ts i c->Rep (ts++us) i c:=by
 intro c
 induction c with
 | leaf p=>intro i h;exact qk4 h
 | un p x ih=>rintro i⟨l,b,a⟩;exact⟨l,ih b,qk4 a⟩
 | bin p x y ihx ihy=>rintro i⟨l,r,b,a,e⟩;exact⟨l,r,ihx b,ihy a,qk4 e⟩
theorem Rep.lt{c:Co}(h:Rep ts i c):i<ts.length:=by
 cases c with
 | leaf p=>exact(au.1 h).1
 | un p x=>obtain⟨_,_,h⟩:=h;exact(au.1 h).1
 | bin p x y=>obtain⟨_,_,_,_,h⟩:=h;exact(au.1 h).1
theorem qex(h:ts.Nodup)(m:ts[i]?=some t)(k:ts[j]?=some t):i=j:=by
 obtain⟨e,f⟩:=au.1 m;obtain⟨b,c⟩:=au.1 k;have g:=List.pairwise_iff_getElem.1 h;rcases Nat.lt_trichotomy i j with a|rfl|a
 ·exact absurd (f.trans c.symm) (g i j e b a)
 ·rfl
 ·exact absurd (c.trans f.symm) (g j i b e a)
theorem Rep.inj(a:ts.Nodup):∀{c:Co} {i j:Nat},Rep ts i c->Rep ts j c->i=j:=by
 intro c
 induction c with
 | leaf p=>intro i j h g;exact qex a h g
 | un p x ih=>
  rintro i j⟨l,e,b⟩ ⟨f,b1,b2⟩;obtain rfl:=ih e b1;exact qex a b b2
 | bin p x y ihx ihy=>
  rintro i j⟨l,r,e,b,m⟩ ⟨f,n,b1,b2,k⟩;obtain rfl:=ihx e b1;obtain rfl:=ihy b b2;exact qex a m k
theorem xx{p q:CP}(n:qpd p)(m:qpd q){l r k c:Nat}(h:zg p l r=zg q k c):p=q/\l=k/\r=c:=by
 obtain⟨g,C,ps,D⟩:=p;obtain⟨f,A,z,B⟩:=q;simp only[zg,Tm.mk.injEq]at h;obtain⟨E,y,x,u,s,o⟩:=h
 have e:g=f:=by
  have a:0<=g:=n.1.1;have b:0<=f:=m.1.1;omega
 subst e u s o;exact⟨rfl,y,x⟩
theorem qqg{op:Int}:(vY op=true->unB op=false/\qph op=false)/\(unB op=true->vY op=false/\qph op=false):=by
 unfold qph;refine⟨λh=>?_,λh=>?_⟩
 ·refine⟨?_,by rw[h];rfl⟩
  unfold vY at h;unfold unB;simp only[dk,dg]at h;rcases h with(((h|h)|h)|h)|h<;>rw[h]<;>decide
 ·refine⟨?_,by rw[h];simp⟩
  unfold unB at h;unfold vY;simp only[dk,dg]at h;rcases h with(h|h)|h<;>rw[h]<;>decide
theorem Rep.func:∀{c d:Co} {i:Nat},qaq c->WfC c->qaq d->WfC d->Rep ts i c->Rep ts i d->c=d:=by
 intro c
 induction c with
 | leaf p=>
  intro d i f wc b g h a
  cases d with
  | leaf q=>
   have e:=xx f b (Option.some.inj (h.symm.trans a));rw[e.1]
  | un q y=>
   obtain⟨l,_,a⟩:=a;have e:=xx f b.1 (Option.some.inj (h.symm.trans a));have:=(qqg.1 wc).1;rw[e.1]at this;rw[g.1]at this;cases this
  | bin q y z=>
   obtain⟨l,r,_,_,a⟩:=a;have e:=xx f b.1 (Option.some.inj (h.symm.trans a));have:=(qqg.1 wc).2;rw[e.1]at this;rw[g.1]at this;cases this
 | un p x ih=>
  intro d i f wc b g h a;obtain⟨l,o,k⟩:=h
  cases d with
  | leaf q=>
   have e:=xx f.1 b (Option.some.inj (k.symm.trans a));have:=(qqg.1 g).1;rw[←e.1,wc.1]at this;cases this
  | un q y=>
   obtain⟨m,b1,b2⟩:=a;have e:=xx f.1 b.1 (Option.some.inj (k.symm.trans b2));obtain⟨rfl,rfl,_⟩:=e;rw[ih f.2 wc.2 b.2 g.2 o b1]
  | bin q y z=>
   obtain⟨m,s,_,_,b2⟩:=a;have e:=xx f.1 b.1 (Option.some.inj (k.symm.trans b2));have:=(qqg.2 wc.1).2;rw[e.1,g.1]at this;cases this
 | bin p x y ihx ihy=>
  intro d i f wc b g h a;obtain⟨l,r,o,k,n⟩:=h
  cases d with
  | leaf q=>
   have e:=xx f.1 b (Option.some.inj (n.symm.trans a));have:=(qqg.1 g).2;rw[←e.1,wc.1]at this;cases this
  | un q z=>
   obtain⟨m,_,b2⟩:=a;have e:=xx f.1 b.1 (Option.some.inj (n.symm.trans b2));have:=(qqg.2 g.1).2;rw[←e.1,wc.1]at this;cases this
  | bin q z u=>
   obtain⟨m,s,b1,b2,A⟩:=a;have e:=xx f.1 b.1 (Option.some.inj (n.symm.trans A));obtain⟨rfl,rfl,rfl⟩:=e;rw[ihx f.2.1 wc.2.1 b.2.1 g.2.1 o b1,ihy f.2.2 wc.2.2 b.2.2 g.2.2 k b2]
theorem qko(ts:List Tm)(t:Tm):(gZ ts t).1[(gZ ts t).2]?=some t/\∃us,(gZ ts t).1=ts++us:=by
 unfold gZ
 cases hw:jn ts t with
 | some i=>
  refine⟨?_,[],mx⟩;unfold jn at hw;obtain⟨b,a,_⟩:=ml.1 hw;rw[au];exact⟨b,(kD _ _).1 a⟩
 | none=>exact⟨mx,[t],rfl⟩
theorem qvq:∀(c:Co) (ts:List Tm),Rep (qA ts c).1 (qA ts c).2 c/\∃us,(qA ts c).1=ts++us:=by
 intro c
 induction c with
 | leaf p=>intro ts;exact qko ts (zg p 0 0)
 | un p x ih=>
  intro ts;obtain⟨f,us,e⟩:=ih ts;obtain⟨b,vs,a⟩:=qko (qA ts x).1 (zg p (qA ts x).2 0);refine⟨⟨(qA ts x).2, ?_,b⟩,us++vs, ?_⟩
  ·show Rep (gZ (qA ts x).1 (zg p (qA ts x).2 0)).1 _ _
   rw[a];exact f.more
  ·show(gZ (qA ts x).1 (zg p (qA ts x).2 0)).1=_
   rw[a,e,bi]
 | bin p x y ihx ihy=>
  intro ts;obtain⟨f,us,e⟩:=ihx ts;obtain⟨k1,vs,g⟩:=ihy (qA ts x).1;obtain⟨b,h,a⟩:=qko (qA (qA ts x).1 y).1 (zg p (qA ts x).2 (qA (qA ts x).1 y).2);refine⟨⟨(qA ts x).2,(qA (qA ts x).1 y).2, ?_, ?_,b⟩,us++vs++h, ?_⟩
  ·show Rep (gZ (qA (qA ts x).1 y).1 (zg p (qA ts x).2 (qA (qA ts x).1 y).2)).1 _ _
   rw[a];refine Rep.more ?_;rw[g];exact f.more
  ·show Rep (gZ (qA (qA ts x).1 y).1 (zg p (qA ts x).2 (qA (qA ts x).1 y).2)).1 _ _
   rw[a];exact k1.more
  ·show(gZ (qA (qA ts x).1 y).1 (zg p (qA ts x).2 (qA (qA ts x).1 y).2)).1=_
   rw[a,g,e];simp
theorem qgb(f:∀c∈cs,CoreOk c):∀k,k<=cs.length->qpc (jw cs k).1:=by
 intro k
 induction k with
 | zero=>intro _ i t h;simp[jw]at h
 | succ k ih=>
  intro g;obtain⟨c,b⟩:∃c,cs[k]?=some c:=⟨_,ag mw⟩;have e:(jw cs (k+1)).1=(qA (jw cs k).1 c).1:=by rw[jw,aq,b];rfl
  rw[e];have a:=f c (ch b);exact qq4 c _ a.fld a.wf (ih mw)
end
section
def vkq(t:Tm):Prop:=OpT t.op/\(t.op<5->t.left=0/\t.right=0)
theorem qf8{u:Tm}(h:t∈(gZ ts u).1):t∈ts\/t=u:=by
 unfold gZ at h
 split at h
 ·exact .inl h
 ·simpa using h
theorem qvp:∀(c:Co) (ts:List Tm),qaq c->WfC c->y7 c->(∀t∈ts,vkq t)->∀t∈(qA ts c).1,vkq t:=by
 intro c
 induction c with
 | leaf p=>
  intro ts m f _ h t a;rcases qf8 a with a|rfl
  ·exact h t a
  ·have b:vY p.op=true:=f
   unfold vY at b;simp only[dk,dg]at b;refine⟨?_,λ_=>⟨rfl,rfl⟩⟩;show p.op.toNat∈_;rcases b with(((e|e)|e)|e)|e<;>rw[e]<;>decide
 | un p x ih=>
  intro ts m f k h t a;rcases qf8 a with a|rfl
  ·exact ih ts m.2 f.2 k h t a
  ·have b:unB p.op=true:=f.1
   unfold unB at b;simp only[dk,dg]at b;refine⟨?_,λg=>?_⟩
   ·show p.op.toNat∈_
    rcases b with(e|e)|e<;>rw[e]<;>decide
   ·have g:p.op.toNat<5:=g
    omega
 | bin p x y ihx ihy=>
  intro ts m f k h t a;rcases qf8 a with a|rfl
  ·exact ihy _ m.2.2 f.2.2 k.2.2 (ihx ts m.2.1 f.2.1 k.2.1 h) t a
  ·have b:vW p.op:=k.1
   unfold vW at b;refine⟨?_,λg=>?_⟩
   ·show p.op.toNat∈_
    have:p.op=6\/p.op=7\/p.op=8\/p.op=10\/p.op=11\/p.op=16\/p.op=17\/p.op=18\/p.op=19:=mw;rcases this with e|e|e|e|e|e|e|e|e<;>rw[e]<;>decide
   ·have g:p.op.toNat<5:=g
    omega
theorem qys(g:∀c∈cs,CoreOk c/\y7 c):∀k,k<=cs.length->∀t∈(jw cs k).1,vkq t:=by
 intro k
 induction k with
 | zero=>intro _ t f;simp[jw]at f
 | succ k ih=>
  intro n;obtain⟨c,a⟩:∃c,cs[k]?=some c:=⟨_,ag mw⟩;obtain⟨b,m⟩:=g c (ch a);have e:(jw cs (k+1)).1=(qA (jw cs k).1 c).1:=by rw[jw,aq,a];rfl
  rw[e];exact qvp c _ b.fld b.wf m (ih mw)
end
section
theorem qmk(ps:List Pr)(ts:List Tm):∀{k:Nat},i<k->(jU ps ts k).getD i nV=ofT ps (jU ps ts i) (ts.getD i (.bare 0)):=by
 intro k
 induction k with
 | zero=>intro h;omega
 | succ k ih=>
  intro h;rw[jU,aq]
  by_cases hi:i<k
  ·rw[bw (by rw[vT];exact hi),←aq]
   exact ih hi
  ·obtain rfl:i=k:=mw
   rw[cj (by rw[vT];exact nt),vT,iu];rfl
theorem vhn(ps:List Pr)(C:qpc ts):∀{c:Co} {i k:Nat},Rep ts i c->qaq c->WfC c->y7 c->i<k->(jU ps ts k).getD i nV=vC ps c:=by
 intro c
 induction c with
 | leaf p=>
  intro i k b f a _ g;rw[qmk ps ts g,aq,show ts[i]?=some (zg p 0 0) from b];have G:0<=p.op:=f.1.1;have a:vY p.op=true:=a;simp only[vY,dk,dg]at a;show ofT ps _ (zg p 0 0)=ofN ps (pK p) [];rcases a with(((h|h)|h)|h)|h<;>simp[ofT,ofN,zg,pK,h]
 | un p x ih=>
  intro i k b f a o g;obtain⟨l,A,q⟩:=b;have u:=(C i _ q).sides;rw[qmk ps ts g,aq,q];have B:unB p.op=true:=a.1;simp only[unB,dk,dg]at B;have z:l<i:=(u (by show 5<=p.op.toNat;omega)).1;have s:=ih A f.2 a.2 o z;show ofT ps _ (zg p l 0)=ofN ps (pK p) [vC ps x];rcases B with(h|h)|h<;>simp[ofT,ofN,xr,jF,zg,pK,h,←s]
 | bin p x y ihx ihy=>
  intro i k b f a o g;obtain⟨l,r,A,q,D⟩:=b;have u:=(C i _ D).sides;have F:vW p.op:=o.1;unfold vW at F;obtain⟨z,b⟩:=u (by show 5<=p.op.toNat;omega);rw[qmk ps ts g,aq,D];have s:=ihx A f.2.1 a.2.1 o.2.1 z;have E:=ihy q f.2.2 a.2.2 o.2.2 b;show ofT ps _ (zg p l r)=ofN ps (pK p) [vC ps x,vC ps y];have e:((p.op.toNat:Nat):Int)=p.op:=mw;have n:p.op≠0/\p.op≠1/\p.op≠2/\p.op≠3/\p.op≠4/\p.op≠20/\p.op≠21/\p.op≠22:=mw;have m:p.op.toNat≠0/\p.op.toNat≠1/\p.op.toNat≠2/\p.op.toNat≠3/\p.op.toNat≠4/\p.op.toNat≠22:=mw;simp[ofT,ofN,xr,zg,pK,n,m,e,←s,←E]
theorem qu0{m:List Nat}(h:j<l.length):(l++m).getD j 0=l.getD j 0:=by
 rw[aq,aq,bw h]
theorem qtz(l:List Nat)(x:Nat)(h:l.length=j):(l++[x]).getD j 0=x:=by
 subst h;simp
theorem vce(cs:List Co):∀k j,j<k->Rep (jw cs k).1 ((jw cs k).2.getD j 0) (cs.getD j (.leaf ⟨3,0,[],[]⟩)):=by
 intro k
 induction k with
 | zero=>intro j h;omega
 | succ k ih=>
  intro j h;obtain⟨b,us,a⟩:=qvq (cs.getD k (.leaf ⟨3,0,[],[]⟩)) (jw cs k).1;show Rep (qA _ _).1 ((_++[_]:List Nat).getD j 0) _
  by_cases hj:j<k
  ·rw[qu0 (by rw[(zp cs k).1];exact hj),a]
   exact(ih j hj).more
  ·obtain rfl:j=k:=mw
   rw[qtz _ _ (zp cs j).1];exact b
def qmf(ps:List Pr)(cs:List Co):Nat->List Nat
 | 0=>[]
 | k+1=>qmf ps cs k++(if vC ps (cs.getD k (.leaf ⟨3,0,[],[]⟩))=bV true then[k] else[])
theorem quy(ps:List Pr)(e:∀c∈cs,CoreOk c/\y7 c):qym ps (jw cs cs.length).1 (jw cs cs.length).2=qmf ps cs cs.length:=by
 have m:=qgb (λc a=>(e c a).1) cs.length nt;have b:=zp cs cs.length;unfold qym;rw[b.1]
 have key:∀k,k<=cs.length->qsa (jU ps (jw cs cs.length).1 (jw cs cs.length).1.length) (jw cs cs.length).2 k=qmf ps cs k:=by
  intro k
  induction k with
  | zero=>intro _;rfl
  | succ k ih=>
   intro o
   have a:cs.getD k (.leaf ⟨3,0,[],[]⟩)∈cs:=by
    rw[aq,ag mw];exact eu _
   obtain⟨f,n⟩:=e _ a
   have g:(jw cs cs.length).2.getD k 0<(jw cs cs.length).1.length:=b.2 _ (by
    rw[aq,ag mw]
    exact eu _)
   rw[qsa,qmf,ih mw,vhn ps m (vce cs _ k mw) f.fld f.wf n g]
 exact key _ nt
theorem qwy(ps:List Pr)(a:∀c∈cs,CoreOk c/\y7 c)(h:cs.length<=8)(k:(jw cs cs.length).1.length<=80):qww (jV (jw cs cs.length).1 (jw cs cs.length).2) ps=if xK ps then(qmf ps cs cs.length,0) else([],7):=by
 have b:=zp cs cs.length;have e:∀t∈(jw cs cs.length).1,OpT t.op:=λt f=>(qys a _ nt t f).1
 unfold qww;rw[qr1 ⟨k,by rw[b.1];exact h,qgb (λc g=>(a c g).1) _ nt,b.2⟩ e];simp only[if_true];rw[qux ps _ _ e,quy ps a]
end
section
theorem OB.bytes{l:mv}(h:OB w base v l):BytesAt w w.heap.size v l:=by
 have c:=h;rcases h.2 with⟨rfl,b⟩|⟨g,cap,cur,rfl,m,k,e,_⟩
 ·refine⟨none,0,by rw[b],mw,λi x a=>?_⟩
  have:=(au.1 a).1;omega
 ·refine⟨_,cap,rfl,e,λi x a=>⟨g,0,rfl,(cg.1 k).1, ?_⟩⟩
  have:=World.ownsRow.cells c (g:=g) rfl i (.int .u8 (x.toNat:Int)) (by simp[vd,a]);have f:(⟨g,0,none⟩:Addr).add i=⟨g,i,none⟩:=by unfold Addr.add;split<;>simp_all
  rw[f]at this;rw[ee];exact this
end
section
attribute [local go_sem ↓] gS
def qg7(w:World)(ps:List Pr)(e:Ending)(w':World):Prop:=e=.returned (.slice (some ⟨w.heap.size,0,none⟩) (ps.length+8) (ps.length+8))/\EvRow w' w.heap.size ps 8/\Below w.heap.size w w'
theorem qto(u:EvIn w ev ps)(J:48 * ps.length<=140737488355328):nz 76 #[ev] w (qg7 w ps):=by
 obtain⟨I,K,Q,S,R⟩:=info_parts qh0;have G:=qd u;obtain⟨n,f⟩:∃n,ps.length=n:=⟨_,rfl⟩;have q:=qd f
 have N:∃a c,ev=.slice a n c:=by
  rcases u with⟨rfl,a,cap,rfl⟩|⟨b,off,cap,rfl,_⟩
  ·exact⟨a,cap,by rw[←f];rfl⟩
  ·exact⟨_,_,by rw[←f]⟩
 obtain⟨a,c,rfl⟩:=N;rw[f]at J
 have CP:Hid (∀(W:World) (xs:List Value),EvIn W (.slice a n c) ps->W.ownsRow w.heap.size 28 4 (.slice (some ⟨w.heap.size,0,none⟩) (n+8) (n+8)) (n+8) xs->∃W',(cpR #[29,29] 3 #[.slice (some ⟨w.heap.size,0,none⟩) (n+8) (n+8),.slice a n c]).run prog W=.ok (goInt n) W'/\Hid (EvRow W' w.heap.size ps 0)/\Hid (Below w.heap.size W W')):=qd λW xs M L=>by
  have:=qpu (ty:=3) (xs:=xs) M (by rw[f];exact L);rw[f]at this;exact this
 have F:=qd (λw=>qd5 w);simp only[prV]at F;have h0:(0:Int)<=(n:Int):=mw;clear u f;go_enter func76,ntmps76
 go_wp2_with(at_make;refine wpList_make_full _ rfl _ _ 29 rfl w.heap.size 28 I _ 4 underlying29 K Q S .i64 .i64 _ _ (n+8) rfl rfl mw mw (by rw[R];omega) (by unfold maxLen;omega) nt ?_;intro x C A;have m:Xb w x:=(Go.RowKit.Below.grown nw A nt (λk z=>(by cases z)));obtain⟨U,O,y,D⟩:=q9 CP x _ (G.below m) C;have E:=qd (m.trans D);clear C A m D)
 go_loopw [4] (λi wr=>∃k:Nat,k<=8/\i=.int .i64 k/\Hid (EvRow wr w.heap.size ps k)/\Hid (Xb w wr)) (λi _=>8 - (intOf i).toNat)
 case atStart=>exact⟨0,bj _,rfl,y,E⟩
 case round=>
  clear y E O CP;obtain⟨k,z,rfl,s,B⟩:=hrel
  by_cases A0:k<8
  ·have A5:(k:Int)<8:=mw
   have N5:(0:Int)<=(k:Int):=mw;have WC:(0:Int)<=(n:Int)+(k:Int):=mw;have J2:(n:Int)+(k:Int)<(n:Int)+8:=mw;have rZ:=q9 q;have I4:=(q9 s).lt
   go_wp2_with(go_at_call 122;refine(F _).mono ?_;rintro e T⟨rfl,o⟩;have g:=(q9 s).below o;obtain⟨v0,q0⟩:=g.cells (k:=(n+k) * 4) mw;obtain⟨Z,q1⟩:=g.cells (k:=(n+k) * 4+1) mw;obtain⟨Y,q2⟩:=g.cells (k:=(n+k) * 4+2) mw;obtain⟨X,q3⟩:=g.cells (k:=(n+k) * 4+3) mw;have qz:=g.fz;have r:=qd g;have H:=qd (qf B o);clear g o)
   go_roundw
   case rel=>exact⟨k+1,mw,by go_num,qd (by have:=(q9 r).step;rw[q9 q]at this;exact this),qd ((((H.setCell nt _).setCell nt _).setCell nt _).setCell nt _)⟩
   case measure=>simp[intOf];omega
  ·have P:k=8:=mw
   subst P;have oX:¬((8:Nat):Int)<8:=mw
   go_wp2_with fail
   go_ret;refine⟨?_,q9 s,q9 B⟩;rw[q9 q];rfl
end
section
theorem ve8(p:Pr)(w:World):(binOp .neq 28 (prV p) (prV p)).run prog w=.ok (.bool false) w:=by
 simp[prV,go_sem]
theorem qxi{lb:Nat}(K:EvRow w lb ps 8)(L:EvIn w ev ps)(U:48 * ps.length<=140737488355328):
  nz 78 #[.slice (some ⟨lb,0,none⟩) (ps.length+8) (ps.length+8),ev] w λe w'=>e=.returned (.bool true)/\Xb w w':=by
 obtain⟨n,r⟩:∃n,ps.length=n:=⟨_,rfl⟩;have Q:=qd r
 have dA:∃a c,ev=.slice a n c:=by
  rcases L with⟨rfl,a,cap,rfl⟩|⟨b,off,cap,rfl,_⟩
  ·exact⟨a,cap,by rw[←r];rfl⟩
  ·exact⟨_,_,by rw[←r]⟩
 obtain⟨a,c,rfl⟩:=dA;rw[r]at U ⊢
 have B:Hid (∀(k:Nat) (p:Pr),ps[k]?=some p->∃b off,a=some ⟨b,off,none⟩/\b<w.heap.size/\EvAt w b off ps):=qd λk p g=>by
  rcases L with⟨Z,_⟩|⟨b,off,cap,e,_,y,N⟩
  ·rw[Z]at g;cases g
  ·injection e with e
   exact⟨b,off,e,N,y⟩
 have BH:=qd K;have L9:=K.lt;have T:=qd (λw=>qd5 w);simp only[prV]at T;clear L r K;go_enter func78,ntmps78
 go_wp2_with(go_at_call 122;refine(T _).mono ?_;rintro e f⟨rfl,M⟩;have S:=qd M;have B9:=M.size;clear M)
 obtain⟨z,o⟩:∃W:World,f.alloc (.cells #[.string (BS vP.name),.int .i64 vP.val.kind,.int .i64 vP.val.num,.string (BS vP.val.str)] 28)=W:=⟨_,rfl⟩;have R:Xb f z:=o ▸ nw.alloc nt _
 have P:∀k,z.cell? ⟨f.heap.size,k,none⟩=#[.string (BS vP.name),.int .i64 vP.val.kind,.int .i64 vP.val.num,.string (BS vP.val.str)][k]?:=λk=>by rw[←o,cd _ _ _ _ mx]
 have mF:z.heap.size=f.heap.size+1:=by rw[←o];simp
 have bM:=qd (qf S R);have A:=qd P;rw[o];clear R P o S
 go_loopw [6] (λi wr=>∃k:Nat,k<=n+8/\i=.int .i64 k/\Hid (Xb z wr)) (λi _=>n+8 - (intOf i).toNat)
 case atStart=>exact⟨0,bj _,rfl,qd nw⟩
 case round=>
  obtain⟨k,X,rfl,u⟩:=hrel;have m:=qf bM u;have eG:=qd m;have x:=(q9 BH).below m;have t9:=m.size;have D8:=(q9 u).size
  by_cases N:k<n+8
  ·have N5:(0:Int)<=(k:Int):=mw
   have A5:(k:Int)<(n:Int)+8:=mw
   by_cases U5:k<n
   ·obtain⟨p,g⟩:∃p,ps[k]?=some p:=⟨_,ag (by have:=q9 Q;omega)⟩
    obtain⟨b,off,rfl,Y,y⟩:=q9 B k p g;obtain⟨F,E,D,C⟩:=x.prop g;obtain⟨e0,e1,e2,e3⟩:=y k p g;rw[←(qj m).1 _ _ Y]at e0 e1 e2 e3;have J:=λw=>ve8 p w
    simp only[prV]at J;have PO:decide ((k:Int)<(n:Int))=true:=by simpa using U5
    have WV:decide ((k:Int)≥(n:Int))=false:=my;have I:decide ((n:Int)<=(k:Int))=false:=my;have H:decide (n<=k)=false:=my;have G:decide (k<n)=true:=by simpa using U5
    have A7:(k:Int)<(n:Int):=mw;clear m x g y B
    go_wp2_with fail
    go_quiet (fail)
    go_wp2_with fail
    go_roundw
    case rel=>exact⟨k+1,mw,by go_num,qd (dr u _)⟩
    case measure=>simp[intOf];omega
   ·obtain⟨j,rfl⟩:∃j,k=n+j:=⟨k - n,mw⟩
    obtain⟨F,E,D,C⟩:=x.spare (k:=j) mw nt;rw[q9 Q]at F E D C;obtain⟨s,_⟩:=qj u;have s0:wr.cell? ⟨f.heap.size,0,none⟩=some (.string (BS vP.name)):=(s _ 0 mw).trans (A 0);have s1:wr.cell? ⟨f.heap.size,1,none⟩=some (.int .i64 vP.val.kind):=(s _ 1 mw).trans (A 1);have s2:wr.cell? ⟨f.heap.size,2,none⟩=some (.int .i64 vP.val.num):=(s _ 2 mw).trans (A 2);have s3:wr.cell? ⟨f.heap.size,3,none⟩=some (.string (BS vP.val.str)):=(s _ 3 mw).trans (A 3);have J:=λw=>ve8 vP w
    simp only[prV]at J;obtain⟨q,O⟩:∃q,n+j=q:=⟨_,rfl⟩;rw[O]at F E D C X N N5 A5 ⊢;have PO:decide ((q:Int)<(n:Int))=false:=my;have WV:decide ((q:Int)≥(n:Int))=true:=my;have I:decide ((n:Int)<=(q:Int))=true:=my;have H:decide (n<=q)=true:=my;have G:decide (q<n)=false:=my;have A7:¬(q:Int)<(n:Int):=mw;have D7:(n:Int)<=(q:Int):=mw;generalize vP=sp at *;clear m x B s U5 O
    go_wp2_with fail
    go_quiet (fail)
    go_wp2_with fail
    go_roundw
    case rel=>exact⟨q+1,mw,by go_num,qd (dr u _)⟩
    case measure=>simp[intOf];omega
  ·have oX:¬(k:Int)<(n:Int)+8:=mw
   clear m x
   go_wp2_with fail
   go_ret;exact⟨rfl,q9 eG⟩
end
section
open Go.ChangeShapes Go.WideShapes Go.RowKit Go.Proofs.Tryz
theorem vbp : prog.globalNamed "internal/strconv.uint64pow10" = some 1 := by kernel_rfl
theorem vjl(h:W.ShapedOpen prog):4<W.heap.size/\∃m,Xc W (4) 0 (.int .i64 m):=by
 obtain⟨m,a⟩:=cell_of_shapedOpen_int (g:=4) (zero:=#[.int .i64 0]) (t:=3) h (of_decide_eq_true nl) nl rfl nl nl underlying3;exact⟨block_lt_of_cell a,m,a⟩
theorem vhb:(prog.globals[1]?).map (·.type)=some 343:=nl
theorem qza:prog.cellsOf 343=20:=nl
theorem qzb:prog.cellsOf 317=1:=nl
theorem vha:(Rows.laid_internal_strconv_uint64pow10:DataW Unit)=Lib.tabData .u64 Lib.pow10Tab:=nl
theorem vjx  {l:List (String × DataW Unit)} (hm : ("internal/strconv.uint64pow10", Rows.laid_internal_strconv_uint64pow10) ∈ l) (h : laidMet prog l W) : Lib.TabIs prog W "internal/strconv.uint64pow10" .u64 Lib.pow10Tab := by
 obtain⟨g,t,cs,fuel,p,h1,h2,h3,h4⟩:=Lib.laidMet.reads h hm;obtain rfl:1=g:=Option.some.inj (vbp.symm.trans h1);obtain rfl:343=t:=Option.some.inj (vhb.symm.trans h2);rw[vha]at h4;unfold Lib.TabIs;rw[h3,←Lib.cells_of_tab underlying343 underlying317 qzb qza h4]
end
end Go.Proofs.YtfkcaldjphakpaaGreatDoor
