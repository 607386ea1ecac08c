/- How long the texts of -/
import Derived.Test.YtfkcaldjphakpaaGreatDoorM17
set_option maxHeartbeats 8000000
set_option maxRecDepth 100000
namespace Go.Proofs.YtfkcaldjphakpaaGreatDoor
open Go.RowKit Go.Proofs.Tryz
variable{t:Ast}{s:mu}{p:CP}{x y:Co}{a c k op pl want:Int}{ts zs:List mv}{rs:List CRes}{B B' E b j:Nat}{v vx vy:Value}{w:World}
theorem qzr:∀{rs:List CRes} {fit:Bool},dem want pl rs fit=none->fit=true:=by
 intro rs
 induction rs with
 | nil=>intro fit h;cases fit;cases h;rfl
 | cons r t ih=>
  intro fit h
  cases r with
  | err q=>cases h
  | ok c=>
   have:=ih (fit:=fit&&(c==want||c==0)) h;rw[cn]at this;exact this.1
theorem qzq:∀{rs:List CRes} {fit:Bool},dem want pl rs fit=none->∀r∈rs,∃c,r=.ok c/\(c=want\/c=0):=by
 intro rs
 induction rs with
 | nil=>intro fit _ r e;cases e
 | cons r t ih=>
  intro fit h
  cases r with
  | err q=>cases h
  | ok c=>
   have g:dem want pl t (fit&&(c==want||c==0))=none:=h;have f:=qzr g;rw[cn,dk,dg,dg]at f;intro r e;rcases eg.1 e with rfl|e
   ·exact⟨c,rfl,f.2⟩
   ·exact ih g r e
theorem qS{d:Int}(h:zm want pl c rs=.ok d):∀r∈rs,∃c,r=.ok c/\(c=want\/c=0):=by
 unfold zm at h
 split at h
 ·rename_i hd;exact qzq hd
 ·cases h
theorem gO{a b:CRes}(h:zk pl a b=.ok c):(∃c,a=.ok c)/\∃c,b=.ok c:=by
 cases a with
 | err q=>cases h
 | ok x=>
  cases b with
  | err q=>cases h
  | ok y=>exact⟨⟨x,rfl⟩,⟨y,rfl⟩⟩
def ArA:Ast->Prop
 | .leaf p=>p.op=0\/p.op=1
 | .un p x=>(p.op=14\/p.op=15)/\ArA x
 | .bin p x y=>16<=p.op/\p.op<=19/\ArA x/\ArA y
 | .tri _ _ _ _=>False
theorem qb5:∀t c,ShA t->qv t=.ok c->(c=1\/c=0)->ArA t:=by
 intro t
 induction t with
 | leaf p=>
  intro c g f h;have f:qK p.op p.place []=.ok c:=f;have g:0<=p.op/\p.op<=4:=g;rcases(show p.op=0\/p.op=1\/p.op=2\/p.op=3\/p.op=4 by omega) with e|e|e|e|e
  ·exact .inl e
  ·exact .inr e
  all_goals(rw[e]at f;injection f with f;omega)
 | un p x ih=>
  intro c g f h;have f:qK p.op p.place [qv x]=.ok c:=f;rcases g.1 with e|e|e|e|e|e
  ·rw[e]at f
   have f:zm 3 p.place 3 [qv x]=.ok c:=f;exfalso;unfold zm at f
   split at f
   ·injection f with f;omega
   ·cases f
  ·rw[e]at f
   obtain⟨d,m,l⟩:=qS (show zm 1 p.place 1 [qv x]=.ok c from f) (qv x) mx;exact⟨.inl e,ih d g.2.2.2 m l⟩
  ·rw[e]at f
   obtain⟨d,m,l⟩:=qS (show zm 1 p.place 1 [qv x]=.ok c from f) (qv x) mx;exact⟨.inr e,ih d g.2.2.2 m l⟩
  all_goals(rw[e]at f;injection f with f;omega)
 | bin p x y ihx ihy=>
  intro c g f h;have f:qK p.op p.place [qv x,qv y]=.ok c:=f
  have i:∀w,zm w p.place 3 [qv x,qv y]=.ok c->False:=λw f=>by
   unfold zm at f
   split at f
   ·injection f with f;omega
   ·cases f
  have o:zk p.place (qv x) (qv y)=.ok c->False:=λf=>by
   obtain⟨⟨a,A⟩,b,u⟩:=gO f;rw[A,u]at f;have f:(if(a != b&&a != 0&&b != 0)=true then CRes.err p.place else CRes.ok 3)=.ok c:=f
   split at f
   ·cases f
   ·injection f with f;omega
  have n:zm 1 p.place 1 [qv x,qv y]=.ok c->ArA x/\ArA y:=λf=>by
   obtain⟨d,m,l⟩:=qS f (qv x) mx;obtain⟨e,r,q⟩:=qS f (qv y) mx;exact⟨ihx d g.2.1 m l,ihy e g.2.2 r q⟩
  rcases(show p.op=6\/p.op=7\/p.op=8\/p.op=9\/p.op=10\/p.op=11\/p.op=12\/p.op=13\/p.op=16\/p.op=17\/p.op=18\/p.op=19 by have:=g.1;omega) with e|e|e|e|e|e|e|e|e|e|e|e
  ·rw[e]at f;exact absurd f (i 3)
  ·rw[e]at f;exact absurd f (i 3)
  ·rw[e]at f;exact absurd f o
  ·rw[e]at f;exact absurd f o
  ·rw[e]at f;exact absurd f (i 1)
  ·rw[e]at f;exact absurd f (i 1)
  ·rw[e]at f;exact absurd f (i 1)
  ·rw[e]at f;exact absurd f (i 1)
  all_goals(rw[e]at f;exact⟨mw,mw,(n f).1,(n f).2⟩)
 | tri p x y z ihx ihy ihz=>
  intro c g f h;have f:qK p.op p.place [qv x,qv y,qv z]=.ok c:=f;rw[g.1]at f;have f:zm 1 p.place 3 [qv x,qv y,qv z]=.ok c:=f;exfalso;unfold zm at f
  split at f
  ·injection f with f;omega
  ·cases f
theorem gV(p:CP)(h:p.str.length<=200)(g:Rng p.num)(f:vY p.op=true):(qp (.leaf p)).length<=402:=by
 show(qE p [] []).length<=402;have i:=p9 p.str;have l:=Lib.itoa_length_le p.num g.1 g.2;unfold vY at f;simp only[dk,dg]at f;unfold qE;rcases f with(((e|e)|e)|e)|e
 ·rw[e];show p.str.length<=402;omega
 ·rw[e];show(Lib.itoa p.num).length<=402;omega
 ·rw[e];show(qL p.str).length<=402;omega
 ·rw[e];show 4<=402;omega
 ·rw[e];show 5<=402;omega
theorem qau:(qp (kd 0)).length<=21:=Lib.itoa_length_le 0 nh nh
theorem qsn:∀t,ArA t->qg6 t->qg9 t->(qp (qi t)).length<=500 * ndA t:=by
 intro t
 induction t with
 | leaf p=>
  intro f i g;have:=gV (xA p) i.1 g (by unfold vY;rcases f with e|e<;>simp[xA,e]);show(qp (.leaf (xA p))).length<=500 * 1;omega
 | un p x ih=>
  intro f i g;have h:=ih f.2 i.2 g.2;have o:(qp (kd 0)).length<=21:=qau;have l:ndA (.un p x)=1+p.texts.length+ndA x:=rfl;rcases f.1 with e|e
  ·have:qi (.un p x)=qk 16 (kd 0) (qi x):=by rw[qi,e];rfl
   rw[this,qH 16 rfl rfl,l];have:(jo 16).length=1:=rfl;omega
  ·have:qi (.un p x)=qk 17 (kd 0) (qi x):=by rw[qi,e];rfl
   rw[this,qH 17 rfl rfl,l];have:(jo 17).length=1:=rfl;omega
 | bin p x y ihx ihy=>
  intro f i g;obtain⟨A,u,n,m⟩:=f;have r:=ihx n i.2.1 g.2.1;have q:=ihy m i.2.2 g.2.2;have l:ndA (.bin p x y)=1+ndA x+ndA y:=rfl;have C:=pt p.op
  have:qi (.bin p x y)=qk p.op (qi x) (qi y):=by
   rw[qi,aj my,aj my,aj my]
  rw[this,qH p.op (by unfold vY;simp;omega) (by unfold unB;simp;omega),l];omega
 | tri p x y z ihx ihy ihz=>intro f;exact absurd f id
theorem qkb{x:mv}(h:x∈Lib.compact zs):x∈zs:=by
 unfold Lib.compact Lib.compactUpTo at h;obtain⟨i,e,rfl⟩:=fw.1 h;have e:=ff.1 (mf.1 e).1;have:zs.toArray[i]! = zs[i]:=by simp[e]
 rw[this];exact eu _
theorem qbb(zs:List mv):(Lib.compact zs).length<=zs.length:=by
 unfold Lib.compact Lib.compactUpTo;rw[ep];exact bs (List.length_filter_le _ _) (by rw[fh];exact nt)
theorem qps(h:zs≠[]):Lib.compact zs≠[]:=by
 cases zs with
 | nil=>exact absurd rfl h
 | cons a r=>
  intro e;unfold Lib.compact Lib.compactUpTo at e;rw[List.map_eq_nil_iff]at e;have:0∈(List.range (a::r).length).filter (Lib.keeps (a::r).toArray):=mf.2 ⟨ff.2 mx,Lib.keeps_lt_one _ 0 nh⟩;rw[e]at this;cases this
theorem kF{x:mv}(h:x∈vf ts):x∈ts:=by
 unfold vf at h;exact(List.mem_mergeSort).1 (qkb h)
theorem pw(ts:List mv):(vf ts).length<=ts.length:=by
 unfold vf;exact bs (qbb _) (by rw[List.length_mergeSort];exact nt)
theorem qay(h:ts≠[]):vf ts≠[]:=by
 unfold vf;refine qps (λe=>h ?_);have:=congrArg List.length e;rw[List.length_mergeSort]at this;exact cq this
theorem xd(t:mv)(h:t.length<=200):(qp (qY t)).length<=402:=by
 show(qL t).length<=402;have:=p9 t;omega
theorem qby(x:Co):∀(r:List mv) (f:Co),(∀t∈r,t.length<=200)->(qp (jM x f r)).length<=(qp f).length+r.length * ((qp x).length+420):=by
 intro r
 induction r with
 | nil=>intro f _;show(qp f).length<=_;omega
 | cons t r ih=>
  intro f h;have g:=ih (qk 7 f (qk 8 x (qY t))) (λu e=>h u (dq _ e));rw[qH 7 rfl rfl,qH 8 rfl rfl]at g;have i:=xd t (h t dp);have m:(jo 7).length=2:=rfl;have l:(jo 8).length=1:=rfl;show(qp (jM x (qk 7 f (qk 8 x (qY t))) r)).length<=_;rw[eh,Nat.succ_mul];omega
theorem vh8(x:Co):∀(r:List mv) (f:Co),uC (jM x f r)=uC f+r.length:=by
 intro r
 induction r with
 | nil=>intro f;rfl
 | cons t r ih=>
  intro f;show uC (jM x (qk 7 f (qk 8 x (qY t))) r)=_;rw[ih,jC,jC];show uC f+1+r.length=_;rw[eh];omega
theorem qnh(e:WfC x):∀(r:List mv) (f:Co),WfC f->WfC (jM x f r):=by
 intro r
 induction r with
 | nil=>intro f h;exact h
 | cons t r ih=>intro f h;exact ih _ (vF rfl h (vF rfl e rfl))
theorem zV{x:Ast}(e:ShA x)(h:opA x=0):∃q,x=.leaf q/\q.op=0:=by
 cases x with
 | leaf q=>exact⟨q,rfl,h⟩
 | un p y=>have:=e.1;have h:p.op=0:=h;omega
 | bin p y z=>have:=e.1;have h:p.op=0:=h;omega
 | tri p y z u=>have:=e.1;have h:p.op=0:=h;omega
theorem vem(a b:Nat)(k:Nat)(e:k<=3000):3000 * (a * a)+3000 * (b * b)+k<=3000 * ((1+a+b) * (1+a+b)):=by
 have:(1+a+b) * (1+a+b)=a * a+b * b+2 * (a * b)+2 * a+2 * b+1:=by
  simp only[Nat.add_mul,Nat.mul_add,Nat.one_mul,Nat.mul_one];have:=Nat.mul_comm b a;omega
 rw[this];omega
theorem qib(a m:Nat)(k:Nat)(e:k<=3000+6000 * a):3000 * (a * a)+k<=3000 * ((1+m+a) * (1+m+a)):=by
 have g:(1+a) * (1+a)<=(1+m+a) * (1+m+a):=ln mw mw
 have f:(1+a) * (1+a)=a * a+2 * a+1:=by
  simp only[Nat.add_mul,Nat.mul_add,Nat.one_mul,Nat.mul_one];omega
 omega
structure Gd(t:Ast):Prop where
 len:(qp (qi t)).length<=3000 * (ndA t * ndA t)
 un:uC (qi t)<=ndA t
 wf:WfC (qi t)
theorem ve7:∀t,1<=ndA t:=by
 intro t;cases t<;>(unfold ndA;omega)
def GdA:Ast->Prop
 | .leaf p=>Gd (.leaf p)
 | .un p x=>Gd (.un p x)/\GdA x
 | .bin p x y=>Gd (.bin p x y)/\GdA x/\GdA y
 | .tri p x y z=>Gd (.tri p x y z)/\GdA x/\GdA y/\GdA z
theorem GdA.gd(h:GdA t):Gd t:=by
 cases t with
 | leaf p=>exact h
 | un p x=>exact h.1
 | bin p x y=>exact h.1
 | tri p x y z=>exact h.1
theorem vg2(p:Pay)(e:ShA (.leaf p))(h:qg6 (.leaf p))(g:qg9 (.leaf p)):Gd (.leaf p):=by
 have f:vY (xA p).op=true:=by
  have e:0<=p.op/\p.op<=4:=e;unfold vY xA;simp only[dk,dg];omega
 refine⟨?_,nt,f⟩;have:=gV (xA p) h.1 g f;show(qp (.leaf (xA p))).length<=3000 * (1 * 1);omega
theorem qk3(l:qph op=true){p:Pay}{x y:Ast}(f:Gd x)(e:Gd y)(u v:Co)(g:(u=qi x/\v=qi y)\/(u=qi y/\v=qi x))(i:qi (.bin p x y)=qk op u v):Gd (.bin p x y):=by
 have o:vY op=false/\unB op=false:=by
  unfold qph at l;simpa using l
 have q:(qp u).length+(qp v).length=(qp (qi x)).length+(qp (qi y)).length:=by rcases g with⟨rfl,rfl⟩|⟨rfl,rfl⟩<;>omega
 have r:uC u+uC v=uC (qi x)+uC (qi y):=by rcases g with⟨rfl,rfl⟩|⟨rfl,rfl⟩<;>omega
 have m:WfC u/\WfC v:=by
  rcases g with⟨rfl,rfl⟩|⟨rfl,rfl⟩
  ·exact⟨f.wf,e.wf⟩
  ·exact⟨e.wf,f.wf⟩
 have F:=pt op;have D:=f.len;have C:=e.len;have A:=f.un;have z:=e.un;have n:ndA (.bin p x y)=1+ndA x+ndA y:=rfl;refine⟨?_, ?_, ?_⟩
 ·rw[i,qH op o.1 o.2,n]
  have:=vem (ndA x) (ndA y) 7 nh;omega
 ·rw[i,jC,n]
  split<;>omega
 ·rw[i];exact vF l m.1 m.2
theorem vaf:∀t,ShA t->qg6 t->qg9 t->BqA t->(∃c,qv t=.ok c)->GdA t:=by
 intro t
 induction t with
 | leaf p=>intro i n o _ _;exact vg2 p i n o
 | un p x ih=>
  intro i n o A f;obtain⟨c,f⟩:=f;have f:qK p.op p.place [qv x]=.ok c:=f
  have eW:∃d,qv x=.ok d:=by
   rcases i.1 with e|e|e|e|e|e
   ·rw[e]at f
    obtain⟨d,D,_⟩:=qS (show zm 3 p.place 3 [qv x]=.ok c from f) (qv x) mx;exact⟨d,D⟩
   ·rw[e]at f
    obtain⟨d,D,_⟩:=qS (show zm 1 p.place 1 [qv x]=.ok c from f) (qv x) mx;exact⟨d,D⟩
   ·rw[e]at f
    obtain⟨d,D,_⟩:=qS (show zm 1 p.place 1 [qv x]=.ok c from f) (qv x) mx;exact⟨d,D⟩
   all_goals
    obtain⟨q,rfl,K⟩:=zV i.2.2.2 (i.2.2.1 mw);exact⟨0,by show qK q.op q.place []=.ok 0;rw[K];rfl⟩
  have F:=ih i.2.2.2 n.2 o.2 A.2 eW;refine⟨?_,F⟩;have l:=F.gd;have D:=l.len;have h2:=l.un;have W:=ve7 x;have m:ndA (.un p x)=1+p.texts.length+ndA x:=rfl;have L:=qau;rcases i.1 with e|e|e|e|e|e
  ·have g:qi (.un p x)=qW (qi x):=by rw[qi,e];rfl
   have J:=za (qi x) l.wf;refine⟨?_,by rw[g,vep,m];omega,by rw[g];exact qyf _ l.wf⟩;rw[g,m];have:=qib (ndA x) p.texts.length (7 * ndA x) mw;omega
  ·have g:qi (.un p x)=qk 16 (kd 0) (qi x):=by rw[qi,e];rfl
   have DU:(jo 16).length=1:=rfl;refine⟨?_,by rw[g,jC,m];show 1<=_;omega,by rw[g];exact vF rfl rfl l.wf⟩;rw[g,qH 16 rfl rfl,m];have:=qib (ndA x) p.texts.length 30 mw;omega
  ·have g:qi (.un p x)=qk 17 (kd 0) (qi x):=by rw[qi,e];rfl
   have DS:(jo 17).length=1:=rfl;refine⟨?_,by rw[g,jC,m];show 1<=_;omega,by rw[g];exact vF rfl rfl l.wf⟩;rw[g,qH 17 rfl rfl,m];have:=qib (ndA x) p.texts.length 30 mw;omega
  ·have g:qi (.un p x)=vt (qi x) p.texts:=by rw[qi,e];rfl
   have N:=qay (i.2.1 e);have X:=pw p.texts;have O:∀u∈vf p.texts,u.length<=200:=λu I=>A.1.2 u (kF I)
   obtain⟨q,rfl,K⟩:=zV i.2.2.2 (i.2.2.1 mw);have hlx:(qp (qi (.leaf q))).length<=402:=gV (xA q) n.2.1 o.2 (by unfold vY;simp[xA,K])
   cases hsort:vf p.texts with
   | nil=>exact absurd hsort N
   | cons u r=>
    rw[hsort]at O X;have P:qi (.un p (.leaf q))=jM (qi (.leaf q)) (qk 8 (qi (.leaf q)) (qY u)) r:=by rw[g,vt,hsort]
    have wL:=qby (qi (.leaf q)) r (qk 8 (qi (.leaf q)) (qY u)) (λy G=>O y (dq _ G));rw[qH 8 rfl rfl]at wL;have V2:=xd u (O u dp);have e8:(jo 8).length=1:=rfl;rw[eh]at X;refine⟨?_, ?_, ?_⟩
    ·rw[P,m]
     have U:r.length * ((qp (qi (.leaf q))).length+420)<=r.length * 822:=lw _ mw;have M:(1+p.texts.length+ndA (.leaf q)) * 1<=(1+p.texts.length+ndA (.leaf q)) * (1+p.texts.length+ndA (.leaf q)):=lw _ mw;omega
    ·rw[P,vh8,jC,m]
     show 1+_<=_;omega
    ·rw[P]
     exact qnh l.wf _ _ (vF rfl l.wf rfl)
  ·have g:qi (.un p x)=.un (xA p) (qi x):=by rw[qi,e];rfl
   have J:(qp (.un (xA p) (qi x))).length<=(qp (qi x)).length+830:=by
    show(qE (xA p) (qp (qi x)) []).length<=_;have a:=p9 p.str;have b:=p9 p.esc;have c1:=n.1.1;have c2:=A.1.1;have d:(qg4 p.esc).length<=8+(qL p.esc).length:=by unfold qg4;split<;>simp<;>omega
    rw[qE];simp only[xA,e];simp;omega
   refine⟨?_,by rw[g,m];show uC (qi x)<=_;omega,by rw[g];exact⟨by unfold unB;simp[xA,e],l.wf⟩⟩;rw[g,m];have:=qib (ndA x) p.texts.length 830 mw;omega
  ·have g:qi (.un p x)=.un (xA p) (qi x):=by rw[qi,e];rfl
   have J:(qp (.un (xA p) (qi x))).length=(qp (qi x)).length+10:=by
    show(qE (xA p) (qp (qi x)) []).length=_;rw[qE];simp only[xA,e];simp
   refine⟨?_,by rw[g,m];show uC (qi x)<=_;omega,by rw[g];exact⟨by unfold unB;simp[xA,e],l.wf⟩⟩;rw[g,m];have:=qib (ndA x) p.texts.length 10 mw;omega
 | bin p x y ihx ihy=>
  intro i n o A f;obtain⟨c,f⟩:=f;have f:qK p.op p.place [qv x,qv y]=.ok c:=f
  have Y:(∃d,qv x=.ok d)/\∃d,qv y=.ok d:=by
   have C:∀w k,zm w p.place k [qv x,qv y]=.ok c->(∃d,qv x=.ok d)/\∃d,qv y=.ok d:=λw k h=>by
    obtain⟨d,D,_⟩:=qS h (qv x) mx;obtain⟨e,W,_⟩:=qS h (qv y) mx;exact⟨⟨d,D⟩,⟨e,W⟩⟩
   rcases(show p.op=6\/p.op=7\/p.op=8\/p.op=9\/p.op=10\/p.op=11\/p.op=12\/p.op=13\/p.op=16\/p.op=17\/p.op=18\/p.op=19 by have:=i.1;omega) with e|e|e|e|e|e|e|e|e|e|e|e<;>rw[e]at f
   ·exact C 3 3 f
   ·exact C 3 3 f
   ·exact gO (show zk p.place (qv x) (qv y)=.ok c from f)
   ·exact gO (show zk p.place (qv x) (qv y)=.ok c from f)
   ·exact C 1 3 f
   ·exact C 1 3 f
   ·exact C 1 3 f
   ·exact C 1 3 f
   ·exact C 1 1 f
   ·exact C 1 1 f
   ·exact C 1 1 f
   ·exact C 1 1 f
  have F:=ihx i.2.1 n.2.1 o.2.1 A.2.1 Y.1;have G:=ihy i.2.2 n.2.2 o.2.2 A.2.2 Y.2;refine⟨?_,F,G⟩;have l:=F.gd;have H:=G.gd
  by_cases E7:p.op=12
  ·exact qk3 (op:=10) rfl l H (qi y) (qi x) (.inr ⟨rfl,rfl⟩) (by rw[qi,E7];rfl)
  by_cases O7:p.op=13
  ·exact qk3 (op:=11) rfl l H (qi y) (qi x) (.inr ⟨rfl,rfl⟩) (by rw[qi,O7];rfl)
  by_cases h9:p.op=9
  ·have g:qi (.bin p x y)=qW (qk 8 (qi x) (qi y)):=by rw[qi,h9];rfl
   have T:WfC (qk 8 (qi x) (qi y)):=vF rfl l.wf H.wf;have J:=za _ T;have I:uC (qk 8 (qi x) (qi y))=1:=by rw[jC];rfl
   rw[I,qH 8 rfl rfl]at J;have e8:(jo 8).length=1:=rfl;have D:=l.len;have h2:=H.len;have m:ndA (.bin p x y)=1+ndA x+ndA y:=rfl;refine⟨?_,by rw[g,vep,I,m];omega,by rw[g];exact qyf _ T⟩;rw[g,m];have:=vem (ndA x) (ndA y) 20 nh;omega
  ·refine qk3 (op:=p.op) ?_ l H (qi x) (qi y) (.inl ⟨rfl,rfl⟩) (by rw[qi,aj (by simpa using E7),aj (by simpa using O7),aj (by simpa using h9)])
   have:=i.1;unfold qph vY unB;simp only[cn,mr,fa,ae];omega
 | tri p x y z ihx ihy ihz=>
  intro i n o A f;obtain⟨c,f⟩:=f;have f:qK p.op p.place [qv x,qv y,qv z]=.ok c:=f;rw[i.1]at f;have f:zm 1 p.place 3 [qv x,qv y,qv z]=.ok c:=f;obtain⟨d1,S,x2⟩:=qS f (qv x) mx;obtain⟨d2,R,y2⟩:=qS f (qv y) mx;obtain⟨d3,Q,Z⟩:=qS f (qv z) mx;have F:=ihx i.2.1 n.2.1 o.2.1 A.2.1 ⟨_,S⟩;have G:=ihy i.2.2.1 n.2.2.1 o.2.2.1 A.2.2.1 ⟨_,R⟩;have L:=ihz i.2.2.2 n.2.2.2 o.2.2.2 A.2.2.2 ⟨_,Q⟩;refine⟨?_,F,G,L⟩;have ax:=qsn x (qb5 x d1 i.2.1 S x2) n.2.1 o.2.1;have ay:=qsn y (qb5 y d2 i.2.2.1 R y2) n.2.2.1 o.2.2.1;have az:=qsn z (qb5 z d3 i.2.2.2 Q Z) n.2.2.2 o.2.2.2;have l:=F.gd.wf;have H:=G.gd.wf;have gz:=L.gd.wf;have g:qi (.tri p x y z)=qk 6 (qk 11 (qi y) (qi x)) (qk 11 (qi x) (qi z)):=rfl;have m:ndA (.tri p x y z)=1+ndA x+ndA y+ndA z:=rfl;have px:=ve7 x;refine⟨?_,by rw[g,jC,jC,jC,m];show 1+1<=_;omega,by rw[g];exact vF rfl (vF rfl H l) (vF rfl l gz)⟩;rw[g,qH 6 rfl rfl,qH 11 rfl rfl,qH 11 rfl rfl,m];have e6:(jo 6).length=3:=rfl;have lO:(jo 11).length=2:=rfl;have M:(1+ndA x+ndA y+ndA z) * 1<=(1+ndA x+ndA y+ndA z) * (1+ndA x+ndA y+ndA z):=lw _ mw;omega
theorem ym(h:vj s=.ok t):GdA t/\ndA t<=200/\ShA t/\qg9 t/\qg6 t/\BqA t:=by
 have e:=yQ h;have g:=pU ve9 h;have l:=pU vdt h;have f:=pU vks h;refine⟨vaf t e.1 l g f ?_,e.2,e.1,g,l,f⟩;unfold vj at h
 split at h
 ·split at h
  ·cases h
  ·unfold qju at h
   split at h
   ·split at h
    ·rename_i i
     cases h
     cases hc:qv t with
     | err q=>rw[hc]at i;cases i
     | ok c=>exact⟨c,rfl⟩
    ·cases h
   ·cases h
 ·cases h
theorem qv8(p:CP)(f:p.op=3):gM (.leaf p):=by
 intro B w v m l h;have g:qW (.leaf p)=.leaf (qm 4):=by unfold qW;rw[f];rfl
 rw[g];clear g;have S:=qd (xb (qm 4) rfl (show Rng 0 from⟨nh,nh⟩) (bj _) (bj _) m l);replace S:Hid (nz 115 #[.agg #[.int .i64 4,.pointer none,.pointer none,.int .i64 0,.string ⟨#[]⟩,.string ⟨#[]⟩,.string ⟨#[]⟩]] w λe w'=>∃b,e=.returned (.pointer (some ⟨b,0,none⟩))/\CoAt B w'.heap.size w' (.pointer (some ⟨b,0,none⟩)) (.leaf (qm 4))/\Xb w w'):=S;obtain⟨b,rfl,i⟩:=h;have c0:=i.c0;unfold at0;have r:(p.op==3)=true:=by rw[f];rfl
 clear i l m f;go_enter func113,ntmps113
 go_wp2_with(go_at_call 115;refine S.mono ?_;rintro e q⟨b1,rfl,n,o⟩)
 go_ret;exact⟨b1,rfl,n,o⟩
theorem qv9(p:CP)(f:p.op=4):gM (.leaf p):=by
 intro B w v m l h;have g:qW (.leaf p)=.leaf (qm 3):=by unfold qW;rw[f];rfl
 rw[g];clear g;have S:=qd (xb (qm 3) rfl (show Rng 0 from⟨nh,nh⟩) (bj _) (bj _) m l);replace S:Hid (nz 115 #[.agg #[.int .i64 3,.pointer none,.pointer none,.int .i64 0,.string ⟨#[]⟩,.string ⟨#[]⟩,.string ⟨#[]⟩]] w λe w'=>∃b,e=.returned (.pointer (some ⟨b,0,none⟩))/\CoAt B w'.heap.size w' (.pointer (some ⟨b,0,none⟩)) (.leaf (qm 3))/\Xb w w'):=S;obtain⟨b,rfl,i⟩:=h;have c0:=i.c0;unfold at0;have u:(p.op==3)=false:=by rw[f];rfl
 have r:(p.op==4)=true:=by rw[f];rfl
 clear i l m f;go_enter func113,ntmps113
 go_wp2_with(go_at_call 115;refine S.mono ?_;rintro e q⟨b1,rfl,n,o⟩)
 go_ret;exact⟨b1,rfl,n,o⟩
theorem qez(c:Co)(p:CP)(f:(qp c).length<=1000000000)(g:qW c=.un (qm 5) c)
  (F:∀B E w v,CoAt B E w v c->∃b l r,v=at0 b/\CellsC B E w b p l r (qp c)) (A:¬p.op=3) (z:¬p.op=4) (q:¬p.op=6) (o:¬p.op=7) (D:¬p.op=10) (C:¬p.op=11) (u:¬p.op=5):gM c:=by
 intro B w v n m h;rw[g];obtain⟨b,l,r,rfl,i⟩:=F _ _ _ _ h
 have S:Hid (nz 115 #[.agg #[.int .i64 5,.pointer (some ⟨b,0,none⟩),.pointer none,.int .i64 0,.string ⟨#[]⟩,.string ⟨#[]⟩,.string ⟨#[]⟩]] w λe w'=>∃b,e=.returned (.pointer (some ⟨b,0,none⟩))/\CoAt B w'.heap.size w' (.pointer (some ⟨b,0,none⟩)) (.un (qm 5) c)/\Xb w w'):=
  qd (gF (qm 5) rfl (show Rng 0 from⟨nh,nh⟩) (bj _) (bj _) n m h f)
 have c0:=i.c0;unfold at0;have P:(p.op==3)=false:=ae.2 A;have O:(p.op==4)=false:=ae.2 z;have M:(p.op==6)=false:=ae.2 q;have L:(p.op==7)=false:=ae.2 o;have K:(p.op==10)=false:=ae.2 D;have J:(p.op==11)=false:=ae.2 C;have N:(p.op==5)=false:=ae.2 u;clear i m n h F g f A z q o D C u;go_enter func113,ntmps113
 go_wp2_with(go_at_call 115;refine S.mono ?_;rintro e I⟨b1,rfl,G,H⟩)
 go_ret;exact⟨b1,rfl,G,H⟩
theorem vh0(p:CP)(x:Co)(e:p.op=5)(i:¬opC x=0):gM (.un p x):=by
 intro B w v r q h;have l:qW (.un p x)=x:=by unfold qW;rw[e,bh];rw[cn];exact⟨rfl,by simpa using i⟩
 rw[l];obtain⟨b,vx,rfl,g,f⟩:=h;obtain⟨u,C,D,A,rfl,n,m⟩:=f.head;have c0:=g.c0;have c1:=g.c1;have o:=m.c0;rw[n]at o;have H:(opC x != 0)=true:=by simpa using i
 unfold at0 at c1 f ⊢;have z:=qd f;have M:(p.op==3)=false:=by rw[e];rfl
 have L:(p.op==4)=false:=by rw[e];rfl
 have J:(p.op==6)=false:=by rw[e];rfl
 have I:(p.op==7)=false:=by rw[e];rfl
 have G:(p.op==10)=false:=by rw[e];rfl
 have F:(p.op==11)=false:=by rw[e];rfl
 have K:(p.op==5)=true:=by rw[e];rfl
 clear g q r e i l f n m;go_enter func113,ntmps113
 go_wp2_with fail
 go_ret;exact⟨u,rfl,q9 z,nw⟩
theorem vba(p:CP)(x:Co)(f:p.op=5)(i:opC x=0)(l:(qp (.un p x)).length<=1000000000):gM (.un p x):=by
 intro B w v q o h;have n:qW (.un p x)=.un (qm 5) (.un p x):=by unfold qW;rw[i,aj];rw[cn];rintro⟨_,h⟩;cases h
 rw[n];have H:=h;obtain⟨b,vx,rfl,g,m⟩:=h
 have S:Hid (nz 115 #[.agg #[.int .i64 5,.pointer (some ⟨b,0,none⟩),.pointer none,.int .i64 0,.string ⟨#[]⟩,.string ⟨#[]⟩,.string ⟨#[]⟩]] w λe w'=>∃b,e=.returned (.pointer (some ⟨b,0,none⟩))/\CoAt B w'.heap.size w' (.pointer (some ⟨b,0,none⟩)) (.un (qm 5) (.un p x))/\Xb w w'):=
  qd (gF (qm 5) rfl (show Rng 0 from⟨nh,nh⟩) (bj _) (bj _) q o H l)
 obtain⟨Q,G,I,F,rfl,u,r⟩:=m.head;have c0:=g.c0;have c1:=g.c1;have z:=r.c0;rw[u,i]at z;unfold at0 at c1 ⊢;have P:(p.op==3)=false:=by rw[f];rfl
 have O:(p.op==4)=false:=by rw[f];rfl
 have M:(p.op==6)=false:=by rw[f];rfl
 have L:(p.op==7)=false:=by rw[f];rfl
 have K:(p.op==10)=false:=by rw[f];rfl
 have J:(p.op==11)=false:=by rw[f];rfl
 have N:(p.op==5)=true:=by rw[f];rfl
 clear g o q f i n m u r H l;go_enter func113,ntmps113
 go_wp2_with(go_at_call 115;refine S.mono ?_;rintro e D⟨b1,rfl,A,C⟩)
 go_ret;exact⟨b1,rfl,A,C⟩
theorem vb8(p:CP)(x y:Co)(m:p.op=6)(N:gM x)(M:gM y)(J:(qp (qW x)).length<=1000000000)(I:(qp (qW y)).length<=1000000000):gM (.bin p x y):=by
 intro B w v q o h;have O:qW (.bin p x y)=qk 7 (qW x) (qW y):=by rw[qW,m];rfl
 rw[O];obtain⟨b,vx,vy,rfl,n,D,C⟩:=h;obtain⟨F,rfl⟩:=D.ptr;obtain⟨i,rfl⟩:=C.ptr;have c0:=n.c0;have c1:=n.c1;have c2:=n.c2;have l:=n.within
 have Z:Hid (∀f,Xb w f->nz 113 #[.pointer (some ⟨F,0,none⟩)] f λe w'=>∃b,e=.returned (.pointer (some ⟨b,0,none⟩))/\CoAt B w'.heap.size w' (.pointer (some ⟨b,0,none⟩)) (qW x)/\Xb f w'):=
  qd (λf g=>N B f _ (bs q g.size) (o.below g nt) (D.below g))
 have Y:Hid (∀f,Xb w f->nz 113 #[.pointer (some ⟨i,0,none⟩)] f λe w'=>∃b,e=.returned (.pointer (some ⟨b,0,none⟩))/\CoAt B w'.heap.size w' (.pointer (some ⟨b,0,none⟩)) (qW y)/\Xb f w'):=
  qd (λf g=>M B f _ (bs q g.size) (o.below g nt) (C.below g))
 have X:Hid (∀f A z,Xb w f->CoAt B f.heap.size f A (qW x)->CoAt B f.heap.size f z (qW y)->nz 111 #[.int .i64 7,A,z] f λe w'=>∃b,e=.returned (.pointer (some ⟨b,0,none⟩))/\CoAt B w'.heap.size w' (.pointer (some ⟨b,0,none⟩)) (qk 7 (qW x) (qW y))/\Xb f w'):=
  qd (λf A z g T S=>j4 7 (bs q g.size) (o.below g nt) T S J I)
 have P:Hid (Xb w w.drew):=qd nw.drew;unfold at0 at c1 c2 ⊢;have e3:(p.op==3)=false:=by rw[m];rfl
 have e4:(p.op==4)=false:=by rw[m];rfl
 have e6:(p.op==6)=true:=by rw[m];rfl
 clear n o q m O N M J I D C;go_enter func113,ntmps113
 go_wp2_with fail
 go_region_held3 (λW=>Xc W b 1 (.pointer (some ⟨F,0,none⟩))/\Xc W b 2 (.pointer (some ⟨i,0,none⟩))) (go_keep) (first|(go_at_call_of 113 (Value.pointer (some { block:=F,off:=0 }));refine(Z _ P).mono ?_;rintro e f⟨b1,rfl,k1,R⟩;have u:=qd (qf P R);have d1:=(u.cell (p:=⟨b,1,none⟩) l).trans c1;have d2:=(u.cell (p:=⟨b,2,none⟩) l).trans c2;have K1:=qd k1;clear k1 R)|(go_at_call_of 113 (Value.pointer (some { block:=i,off:=0 }));refine(Y _ u).mono ?_;rintro e w2⟨b2,rfl,L,H⟩;have r:=qd (qf u H);have d3:=(r.cell (p:=⟨b,1,none⟩) l).trans c1;have d4:=(r.cell (p:=⟨b,2,none⟩) l).trans c2;have IV:=qd (K1.below H);have K2:=qd L;clear L H)|(go_at_call 111;refine(X _ _ _ r IV K2).mono ?_;rintro e w3⟨U,rfl,K,Q⟩;have G:=qd (qf r Q);have d5:=(G.cell (p:=⟨b,1,none⟩) l).trans c1;have d6:=(G.cell (p:=⟨b,2,none⟩) l).trans c2;have K3:=qd K;clear K Q))
 all_goals(go_wp2_with fail;go_ret;exact⟨U,rfl,q9 K3,q9 G⟩)
theorem vb9(p:CP)(x y:Co)(l:p.op=7)(N:gM x)(M:gM y)(J:(qp (qW x)).length<=1000000000)(I:(qp (qW y)).length<=1000000000):gM (.bin p x y):=by
 intro B w v q o h;have O:qW (.bin p x y)=qk 6 (qW x) (qW y):=by rw[qW,l];rfl
 rw[O];obtain⟨b,vx,vy,rfl,n,D,C⟩:=h;obtain⟨F,rfl⟩:=D.ptr;obtain⟨i,rfl⟩:=C.ptr;have c0:=n.c0;have c1:=n.c1;have c2:=n.c2;have m:=n.within
 have Z:Hid (∀f,Xb w f->nz 113 #[.pointer (some ⟨F,0,none⟩)] f λe w'=>∃b,e=.returned (.pointer (some ⟨b,0,none⟩))/\CoAt B w'.heap.size w' (.pointer (some ⟨b,0,none⟩)) (qW x)/\Xb f w'):=
  qd (λf g=>N B f _ (bs q g.size) (o.below g nt) (D.below g))
 have Y:Hid (∀f,Xb w f->nz 113 #[.pointer (some ⟨i,0,none⟩)] f λe w'=>∃b,e=.returned (.pointer (some ⟨b,0,none⟩))/\CoAt B w'.heap.size w' (.pointer (some ⟨b,0,none⟩)) (qW y)/\Xb f w'):=
  qd (λf g=>M B f _ (bs q g.size) (o.below g nt) (C.below g))
 have X:Hid (∀f A z,Xb w f->CoAt B f.heap.size f A (qW x)->CoAt B f.heap.size f z (qW y)->nz 111 #[.int .i64 6,A,z] f λe w'=>∃b,e=.returned (.pointer (some ⟨b,0,none⟩))/\CoAt B w'.heap.size w' (.pointer (some ⟨b,0,none⟩)) (qk 6 (qW x) (qW y))/\Xb f w'):=
  qd (λf A z g T S=>j4 6 (bs q g.size) (o.below g nt) T S J I)
 have P:Hid (Xb w w.drew):=qd nw.drew;unfold at0 at c1 c2 ⊢;have e3:(p.op==3)=false:=by rw[l];rfl
 have e4:(p.op==4)=false:=by rw[l];rfl
 have e6:(p.op==6)=false:=by rw[l];rfl
 have e7:(p.op==7)=true:=by rw[l];rfl
 clear n o q l O N M J I D C;go_enter func113,ntmps113
 go_wp2_with fail
 go_region_held3 (λW=>Xc W b 1 (.pointer (some ⟨F,0,none⟩))/\Xc W b 2 (.pointer (some ⟨i,0,none⟩))) (go_keep) (first|(go_at_call_of 113 (Value.pointer (some { block:=F,off:=0 }));refine(Z _ P).mono ?_;rintro e f⟨b1,rfl,k1,R⟩;have u:=qd (qf P R);have d1:=(u.cell (p:=⟨b,1,none⟩) m).trans c1;have d2:=(u.cell (p:=⟨b,2,none⟩) m).trans c2;have K1:=qd k1;clear k1 R)|(go_at_call_of 113 (Value.pointer (some { block:=i,off:=0 }));refine(Y _ u).mono ?_;rintro e w2⟨b2,rfl,L,H⟩;have r:=qd (qf u H);have d3:=(r.cell (p:=⟨b,1,none⟩) m).trans c1;have d4:=(r.cell (p:=⟨b,2,none⟩) m).trans c2;have IV:=qd (K1.below H);have K2:=qd L;clear L H)|(go_at_call 111;refine(X _ _ _ r IV K2).mono ?_;rintro e w3⟨U,rfl,K,Q⟩;have G:=qd (qf r Q);have d5:=(G.cell (p:=⟨b,1,none⟩) m).trans c1;have d6:=(G.cell (p:=⟨b,2,none⟩) m).trans c2;have K3:=qd K;clear K Q))
 all_goals(go_wp2_with fail;go_ret;exact⟨U,rfl,q9 K3,q9 G⟩)
theorem qv6(p:CP)(x y:Co)(f:p.op=10)(u:(qp x).length<=1000000000)(r:(qp y).length<=1000000000):gM (.bin p x y):=by
 intro B w v D C h;have A:qW (.bin p x y)=qk 11 y x:=by rw[qW,f];rfl
 rw[A];obtain⟨b,vx,vy,rfl,g,o,n⟩:=h;obtain⟨F,rfl⟩:=o.ptr;obtain⟨i,rfl⟩:=n.ptr;have c0:=g.c0;have c1:=g.c1;have c2:=g.c2;have G:=g.within
 have K:Hid (∀l,Xb w l->nz 111 #[.int .i64 11,.pointer (some ⟨i,0,none⟩),.pointer (some ⟨F,0,none⟩)] l λe w'=>∃b,e=.returned (.pointer (some ⟨b,0,none⟩))/\CoAt B w'.heap.size w' (.pointer (some ⟨b,0,none⟩)) (qk 11 y x)/\Xb l w'):=
  qd (λl m=>j4 11 (bs D m.size) (C.below m nt) (n.below m) (o.below m) r u)
 have H:Hid (Xb w w.drew):=qd nw.drew;unfold at0 at c1 c2 ⊢;have R:(p.op==3)=false:=by rw[f];rfl
 have Q:(p.op==4)=false:=by rw[f];rfl
 have P:(p.op==6)=false:=by rw[f];rfl
 have O:(p.op==7)=false:=by rw[f];rfl
 have N:(p.op==10)=true:=by rw[f];rfl
 clear g C D f A u r o n;go_enter func113,ntmps113
 go_wp2_with fail
 go_region_held3 (λW=>Xc W b 1 (.pointer (some ⟨F,0,none⟩))/\Xc W b 2 (.pointer (some ⟨i,0,none⟩))) (go_keep) (first|(go_at_call 111;refine(K _ H).mono ?_;rintro e M⟨J,rfl,z,I⟩;have q:=qd (qf H I);have T:=(q.cell (p:=⟨b,1,none⟩) G).trans c1;have S:=(q.cell (p:=⟨b,2,none⟩) G).trans c2;have L:=qd z;clear z I))
 all_goals(go_wp2_with fail;go_ret;exact⟨J,rfl,q9 L,q9 q⟩)
theorem qv7(p:CP)(x y:Co)(f:p.op=11)(u:(qp x).length<=1000000000)(r:(qp y).length<=1000000000):gM (.bin p x y):=by
 intro B w v D C h;have A:qW (.bin p x y)=qk 10 y x:=by rw[qW,f];rfl
 rw[A];obtain⟨b,vx,vy,rfl,g,o,n⟩:=h;obtain⟨F,rfl⟩:=o.ptr;obtain⟨i,rfl⟩:=n.ptr;have c0:=g.c0;have c1:=g.c1;have c2:=g.c2;have G:=g.within
 have K:Hid (∀l,Xb w l->nz 111 #[.int .i64 10,.pointer (some ⟨i,0,none⟩),.pointer (some ⟨F,0,none⟩)] l λe w'=>∃b,e=.returned (.pointer (some ⟨b,0,none⟩))/\CoAt B w'.heap.size w' (.pointer (some ⟨b,0,none⟩)) (qk 10 y x)/\Xb l w'):=
  qd (λl m=>j4 10 (bs D m.size) (C.below m nt) (n.below m) (o.below m) r u)
 have H:Hid (Xb w w.drew):=qd nw.drew;unfold at0 at c1 c2 ⊢;have S:(p.op==3)=false:=by rw[f];rfl
 have R:(p.op==4)=false:=by rw[f];rfl
 have Q:(p.op==6)=false:=by rw[f];rfl
 have P:(p.op==7)=false:=by rw[f];rfl
 have O:(p.op==10)=false:=by rw[f];rfl
 have N:(p.op==11)=true:=by rw[f];rfl
 clear g C D f A u r o n;go_enter func113,ntmps113
 go_wp2_with fail
 go_region_held3 (λW=>Xc W b 1 (.pointer (some ⟨F,0,none⟩))/\Xc W b 2 (.pointer (some ⟨i,0,none⟩))) (go_keep) (first|(go_at_call 111;refine(K _ H).mono ?_;rintro e M⟨J,rfl,z,I⟩;have q:=qd (qf H I);have U:=(q.cell (p:=⟨b,1,none⟩) G).trans c1;have T:=(q.cell (p:=⟨b,2,none⟩) G).trans c2;have L:=qd z;clear z I))
 all_goals(go_wp2_with fail;go_ret;exact⟨J,rfl,q9 L,q9 q⟩)
theorem qhf:∀c,WfC c->(qp c).length+7 * uC c<=1000000000->gM c:=by
 intro c
 induction c with
 | leaf p=>
  intro e o
  by_cases m:p.op=3
  ·exact qv8 p m
  by_cases l:p.op=4
  ·exact qv9 p l
  have z:p.op=0\/p.op=1\/p.op=2:=by
   have:vY p.op=true:=e;unfold vY at this;simp only[dk,dg]at this;omega
  refine qez _ p mw ?_ (λB E w v h=>by obtain⟨b,rfl,i⟩:=h;exact⟨b,_,_,rfl,i⟩) m l mw mw mw mw mw;unfold qW;rw[aj (by simpa using m),aj (by simpa using l)]
 | un p x ih=>
  intro e o
  have f:p.op=5\/p.op=22\/p.op=23:=by
   have:unB p.op=true:=e.1;unfold unB at this;simp only[dk,dg]at this;omega
  by_cases g:p.op=5
  ·by_cases Z4:opC x=0
   ·exact vba p x g Z4 mw
   ·exact vh0 p x g Z4
  refine qez _ p mw ?_ (λB E w v h=>by obtain⟨b,vx,rfl,i,_⟩:=h;exact⟨b,_,_,rfl,i⟩) mw mw mw mw mw mw g;unfold qW;rw[aj];rw[cn];rintro⟨h,_⟩;exact g (eq_of_beq h)
 | bin p x y ihx ihy=>
  intro e o;have u:=jv e.1 x y;have r:=za x e.2.1;have q:=za y e.2.2;have f:uC (.bin p x y)=if(p.op==6||p.op==7)=true then uC x+uC y else 1:=rfl
  by_cases h6:p.op=6
  ·rw[h6]at f
   have f:uC (.bin p x y)=uC x+uC y:=f;exact vb8 p x y h6 (ihx e.2.1 mw) (ihy e.2.2 mw) mw mw
  by_cases h7:p.op=7
  ·rw[h7]at f
   have f:uC (.bin p x y)=uC x+uC y:=f;exact vb9 p x y h7 (ihx e.2.1 mw) (ihy e.2.2 mw) mw mw
  by_cases L1:p.op=10
  ·exact qv6 p x y L1 mw mw
  by_cases M8:p.op=11
  ·exact qv7 p x y M8 mw mw
  have n:=e.1;unfold qph vY unB at n;simp only[cn,mr,fa,ae]at n;obtain⟨⟨⟨⟨⟨_,_⟩,_⟩,m⟩,l⟩,⟨g,_⟩,_⟩:=n;refine qez _ p mw ?_ (λB E w v h=>by obtain⟨b,vx,vy,rfl,i,_⟩:=h;exact⟨b,_,_,rfl,i⟩) m l h6 h7 L1 M8 g;unfold qW;rw[aj (by simpa using h6),aj (by simpa using h7),aj (by simpa using L1),aj (by simpa using M8)]
def kU(B:Nat)(w:World)(c:Co)(e:Ending)(w':World):Prop:=∃b,e=.returned (.pointer (some ⟨b,0,none⟩))/\CoAt B w'.heap.size w' (.pointer (some ⟨b,0,none⟩)) c/\Below w.heap.size w w'
theorem qba(n:Int)(f:Rng n)(h:B<=w.heap.size)(g:LibOk w):nz 112 #[.int .i64 n] w (kU B w (kd n)):=by
 have S:Hid (nz 115 #[.agg #[.int .i64 1,.pointer none,.pointer none,.int .i64 n,.string ⟨#[]⟩,.string ⟨#[]⟩,.string ⟨#[]⟩]] w (kU B w (kd n))):=qd (xb ⟨1,n,[],[]⟩ rfl f (bj _) (bj _) h g);clear h g f;go_enter func112,ntmps112
 go_wp2_with(go_at_call 115;refine S.mono ?_;rintro e m⟨b1,rfl,i,l⟩)
 go_ret;exact⟨b1,rfl,i,l⟩
def Lm(c:Co):Prop:=(qp c).length<=200000000/\uC c<=1000/\WfC c
theorem Gd.lm(h:Gd t)(e:ndA t<=200):Lm (qi t):=by
 have g:=h.len;have f:=h.un;have:ndA t * ndA t<=200 * 200:=ln e e;exact⟨mw,mw,h.wf⟩
theorem qzf(F:Nat)(p:Pay)(D:Value)(n:B<=w.heap.size)(m:LibOk w)(u:NodeAt F w b p D)(r:p.op=14)(i:CoAt B w.heap.size w vx x)(o:Lm x):
  nz 67 #[.pointer (some ⟨b,0,none⟩),vx,.pointer none,.pointer none] w (kU B w (qk 16 (kd 0) x)):=by
 obtain⟨H,rfl⟩:=i.ptr;have c0:=u.c0;have J:Hid (nz 112 #[.int .i64 0] w (kU B w (kd 0))):=qd (qba 0 ⟨nh,nh⟩ n m)
 have I:Hid (∀f g,Xb w f->CoAt B f.heap.size f g (kd 0)->nz 111 #[.int .i64 16,g,.pointer (some ⟨H,0,none⟩)] f (kU B f (qk 16 (kd 0) x))):=
  qd (λf g l G=>j4 16 (bs n l.size) (m.below l nt) G (i.below l) (bs qau nh) (bs o.1 nh))
 have O:(p.op==14)=true:=by rw[r];rfl
 clear u n m i o r;go_enter func67,ntmps67
 go_wp2_with(first|(go_at_call 112;refine J.mono ?_;rintro e f⟨b1,rfl,k1,C⟩;have z:=qd C;have L:=qd k1;clear C k1)|(go_at_call 111;refine(I _ _ z L).mono ?_;rintro e N⟨b2,rfl,q,A⟩;have M:=qd (qf z A);have K:=qd q;clear A q))
 go_ret;exact⟨b2,rfl,q9 K,q9 M⟩
theorem qzg(F:Nat)(p:Pay)(D:Value)(o:B<=w.heap.size)(n:LibOk w)(u:NodeAt F w b p D)(l:p.op=15)(i:CoAt B w.heap.size w vx x)(q:Lm x):
  nz 67 #[.pointer (some ⟨b,0,none⟩),vx,.pointer none,.pointer none] w (kU B w (qk 17 (kd 0) x)):=by
 obtain⟨H,rfl⟩:=i.ptr;have c0:=u.c0;have J:Hid (nz 112 #[.int .i64 0] w (kU B w (kd 0))):=qd (qba 0 ⟨nh,nh⟩ o n)
 have I:Hid (∀f g,Xb w f->CoAt B f.heap.size f g (kd 0)->nz 111 #[.int .i64 17,g,.pointer (some ⟨H,0,none⟩)] f (kU B f (qk 17 (kd 0) x))):=
  qd (λf g m G=>j4 17 (bs o m.size) (n.below m nt) G (i.below m) (bs qau nh) (bs q.1 nh))
 have P:(p.op==14)=false:=by rw[l];rfl
 have O:(p.op==15)=true:=by rw[l];rfl
 clear u o n i q l;go_enter func67,ntmps67
 go_wp2_with(first|(go_at_call 112;refine J.mono ?_;rintro e f⟨b1,rfl,k1,C⟩;have z:=qd C;have L:=qd k1;clear C k1)|(go_at_call 111;refine(I _ _ z L).mono ?_;rintro e N⟨b2,rfl,r,A⟩;have M:=qd (qf z A);have K:=qd r;clear A r))
 go_ret;exact⟨b2,rfl,q9 K,q9 M⟩
theorem qzd(z:Nat)(p:Pay)(u:Value)(r:B<=w.heap.size)(q:LibOk w)(o:NodeAt z w b p u)(f:p.op=12)(i:CoAt B w.heap.size w vx x)(g:CoAt B w.heap.size w vy y)(n:Lm x)(m:Lm y):
  nz 67 #[.pointer (some ⟨b,0,none⟩),vx,vy,.pointer none] w (kU B w (qk 10 y x)):=by
 obtain⟨C,rfl⟩:=i.ptr;obtain⟨l,rfl⟩:=g.ptr;have c0:=o.c0
 have D:Hid (nz 111 #[.int .i64 10,.pointer (some ⟨l,0,none⟩),.pointer (some ⟨C,0,none⟩)] w (kU B w (qk 10 y x))):=
  qd (j4 10 r q g i (bs m.1 nh) (bs n.1 nh))
 have J:(p.op==14)=false:=by rw[f];rfl
 have H:(p.op==15)=false:=by rw[f];rfl
 have I:(p.op==12)=true:=by rw[f];rfl
 clear o r q i g n m f;go_enter func67,ntmps67
 go_wp2_with(go_at_call 111;refine D.mono ?_;rintro e G⟨b2,rfl,A,F⟩)
 go_ret;exact⟨b2,rfl,A,F⟩
theorem qze(z:Nat)(p:Pay)(u:Value)(r:B<=w.heap.size)(q:LibOk w)(o:NodeAt z w b p u)(f:p.op=13)(i:CoAt B w.heap.size w vx x)(g:CoAt B w.heap.size w vy y)(n:Lm x)(m:Lm y):
  nz 67 #[.pointer (some ⟨b,0,none⟩),vx,vy,.pointer none] w (kU B w (qk 11 y x)):=by
 obtain⟨C,rfl⟩:=i.ptr;obtain⟨l,rfl⟩:=g.ptr;have c0:=o.c0
 have D:Hid (nz 111 #[.int .i64 11,.pointer (some ⟨l,0,none⟩),.pointer (some ⟨C,0,none⟩)] w (kU B w (qk 11 y x))):=
  qd (j4 11 r q g i (bs m.1 nh) (bs n.1 nh))
 have K:(p.op==14)=false:=by rw[f];rfl
 have I:(p.op==15)=false:=by rw[f];rfl
 have J:(p.op==12)=false:=by rw[f];rfl
 have H:(p.op==13)=true:=by rw[f];rfl
 clear o r q i g n m f;go_enter func67,ntmps67
 go_wp2_with(go_at_call 111;refine D.mono ?_;rintro e G⟨b2,rfl,A,F⟩)
 go_ret;exact⟨b2,rfl,A,F⟩
theorem vfl(K:Nat)(p:Pay)(J:Value)(r:B<=w.heap.size)(q:LibOk w)(C:NodeAt K w b p J)(g:p.op=9)(o:CoAt B w.heap.size w vx x)(n:CoAt B w.heap.size w vy y)(l:Lm x)(i:Lm y):
  nz 67 #[.pointer (some ⟨b,0,none⟩),vx,vy,.pointer none] w (kU B w (qW (qk 8 x y))):=by
 obtain⟨M,rfl⟩:=o.ptr;obtain⟨u,rfl⟩:=n.ptr;have c0:=C.c0;have I:=l.1;have H:=i.1
 have N:Hid (nz 111 #[.int .i64 8,.pointer (some ⟨M,0,none⟩),.pointer (some ⟨u,0,none⟩)] w (kU B w (qk 8 x y))):=
  qd (j4 8 r q o n (bs l.1 nh) (bs i.1 nh))
 have O:Hid (∀f m,Xb w f->CoAt B f.heap.size f m (qk 8 x y)->nz 113 #[m] f (kU B f (qW (qk 8 x y)))):=
  qd (λf m A L=>qhf _ (vF rfl l.2.2 i.2.2) (by rw[qH 8 rfl rfl,jC];have Z:(jo 8).length=1:=rfl;show _+7 * 1<=_;omega) B f m (bs r A.size) (q.below A nt) L)
 have X:(p.op==14)=false:=by rw[g];rfl
 have U:(p.op==15)=false:=by rw[g];rfl
 have W:(p.op==12)=false:=by rw[g];rfl
 have T:(p.op==13)=false:=by rw[g];rfl
 have Y:(p.op==9)=true:=by rw[g];rfl
 clear C r q o n l i g I H;go_enter func67,ntmps67
 go_wp2_with(first|(go_at_call 111;refine N.mono ?_;rintro e f⟨b1,rfl,k1,G⟩;have D:=qd G;have Q:=qd k1;clear G k1)|(go_at_call 113;refine(O _ _ D Q).mono ?_;rintro e S⟨b2,rfl,z,F⟩;have R:=qd (qf D F);have P:=qd z;clear F z))
 go_ret;exact⟨b2,rfl,q9 P,q9 R⟩
theorem vfk(u:Nat)(p:Pay)(r:Value)(n:B<=w.heap.size)(m:LibOk w)(l:NodeAt u w b p r)(f:p.op=5)(i:CoAt B w.heap.size w vx x)(g:Lm x):
  nz 67 #[.pointer (some ⟨b,0,none⟩),vx,.pointer none,.pointer none] w (kU B w (qW x)):=by
 obtain⟨A,rfl⟩:=i.ptr;have c0:=l.c0;have q:=g.1;have o:=g.2.1;have C:Hid (nz 113 #[.pointer (some ⟨A,0,none⟩)] w (kU B w (qW x))):=qd (qhf x g.2.2 mw B w _ n m i);have J:(p.op==14)=false:=by rw[f];rfl
 have H:(p.op==15)=false:=by rw[f];rfl
 have I:(p.op==12)=false:=by rw[f];rfl
 have G:(p.op==13)=false:=by rw[f];rfl
 have K:(p.op==9)=false:=by rw[f];rfl
 have L:(p.op==5)=true:=by rw[f];rfl
 clear l n m i g f q o;go_enter func67,ntmps67
 go_wp2_with(go_at_call 113;refine C.mono ?_;rintro e F⟨b2,rfl,z,D⟩)
 go_ret;exact⟨b2,rfl,z,D⟩
theorem qzh(U:Nat)(p:Pay)(T:Value)(n:B<=w.heap.size)(m:LibOk w)(K:NodeAt U w b p T)(g:p.op=20){z:Co}{H:Value}(l:CoAt B w.heap.size w vx x)(u:CoAt B w.heap.size w vy y)(r:CoAt B w.heap.size w H z)(G:Lm x)(F:Lm y)(D:Lm z):
  nz 67 #[.pointer (some ⟨b,0,none⟩),vx,vy,H] w (kU B w (qk 6 (qk 11 y x) (qk 11 x z))):=by
 obtain⟨L,rfl⟩:=l.ptr;obtain⟨A,rfl⟩:=u.ptr;obtain⟨Z,rfl⟩:=r.ptr;have c0:=K.c0;have S:=G.1;have R:=F.1;have Q:=D.1
 have P1:Hid (nz 111 #[.int .i64 11,.pointer (some ⟨A,0,none⟩),.pointer (some ⟨L,0,none⟩)] w (kU B w (qk 11 y x))):=
  qd (j4 11 n m u l mw mw)
 have P2:Hid (∀f,Xb w f->nz 111 #[.int .i64 11,.pointer (some ⟨L,0,none⟩),.pointer (some ⟨Z,0,none⟩)] f (kU B f (qk 11 x z))):=
  qd (λf i=>j4 11 (bs n i.size) (m.below i nt) (l.below i) (r.below i) mw mw)
 have W:(jo 11).length=2:=rfl
 have P3:Hid (∀f q o,Xb w f->CoAt B f.heap.size f q (qk 11 y x)->CoAt B f.heap.size f o (qk 11 x z)->nz 111 #[.int .i64 6,q,o] f (kU B f (qk 6 (qk 11 y x) (qk 11 x z)))):=
  qd (λf q o i Y X=>j4 6 (bs n i.size) (m.below i nt) Y X (by rw[qH 11 rfl rfl];omega) (by rw[qH 11 rfl rfl];omega))
 have fP:(p.op==14)=false:=by rw[g];rfl
 have nZ:(p.op==15)=false:=by rw[g];rfl
 have lN:(p.op==12)=false:=by rw[g];rfl
 have sV:(p.op==13)=false:=by rw[g];rfl
 have e9:(p.op==9)=false:=by rw[g];rfl
 have e5:(p.op==5)=false:=by rw[g];rfl
 have uK:(p.op==20)=true:=by rw[g];rfl
 clear K n m l u r G F D g S R Q W;go_enter func67,ntmps67
 go_wp2_with fail
 refine P1.mono ?_;rintro e f⟨b1,rfl,k1,P⟩;have O:=qd P;have K1:=qd k1;clear P k1
 go_wp2_with fail
 refine(P2 _ O).mono ?_;rintro e w2⟨b2,rfl,J,C⟩;have M:=qd (qf O C);have IV:=qd (K1.below C);have K2:=qd J;clear C J
 go_wp2_with fail
 refine(P3 _ _ _ M IV K2).mono ?_;rintro e w3⟨b3,rfl,I,N⟩;have E8:=qd (qf M N);have K3:=qd I;clear N I
 go_wp2_with fail
 go_ret;exact⟨b3,rfl,q9 K3,q9 E8⟩
theorem qt3(I:Nat)(p:Pay)(H:Value)(u:B<=w.heap.size)(r:LibOk w)(q:NodeAt I w b p H)(C:¬p.op=14)(F:¬p.op=15)(G:¬p.op=12)(D:¬p.op=13)(z:¬p.op=9)(A:¬p.op=5)(f:¬p.op=20)(o:¬p.op=21)(i:CoAt B w.heap.size w vx x)(g:CoAt B w.heap.size w vy y)(n:Lm x)(m:Lm y):
  nz 67 #[.pointer (some ⟨b,0,none⟩),vx,vy,.pointer none] w (kU B w (qk p.op x y)):=by
 obtain⟨K,rfl⟩:=i.ptr;obtain⟨l,rfl⟩:=g.ptr;have c0:=q.c0
 have L:Hid (nz 111 #[.int .i64 p.op,.pointer (some ⟨K,0,none⟩),.pointer (some ⟨l,0,none⟩)] w (kU B w (qk p.op x y))):=
  qd (j4 p.op u r i g (bs n.1 nh) (bs m.1 nh))
 have S:(p.op==14)=false:=ae.2 C;have Q:(p.op==15)=false:=ae.2 F;have R:(p.op==12)=false:=ae.2 G;have P:(p.op==13)=false:=ae.2 D;have T:(p.op==9)=false:=ae.2 z;have U:(p.op==5)=false:=ae.2 A;have O:(p.op==20)=false:=ae.2 f;have W:(p.op==21)=false:=ae.2 o;clear q u r i g n m C F G D z A f o;go_enter func67,ntmps67
 go_wp2_with(go_at_call 111;refine L.mono ?_;rintro e N⟨b2,rfl,J,M⟩)
 go_ret;exact⟨b2,rfl,J,M⟩
theorem qd6(H:Nat)(p:Pay)(G:Value)(f:NodeAt H w b p G)(u:¬p.op=14)(A:¬p.op=15)(D:¬p.op=12)(z:¬p.op=13)(q:¬p.op=9)(r:¬p.op=5)(g:¬p.op=20)(l:¬p.op=21)(c:Co)(m:Option Addr)
  (o:∀w1,Xb w w1->nz 115 #[.agg #[.int .i64 p.op,.pointer m,.pointer none,.int .i64 p.num,.string (BS p.str),.string (BS p.esc),.string ⟨#[]⟩]] w1 (kU B w1 c)) :
  nz 67 #[.pointer (some ⟨b,0,none⟩),.pointer m,.pointer none,.pointer none] w (kU B w c):=by
 have c0:=f.c0;have c3:=f.c3;have c4:=f.c4;have c5:=f.c5;have i:=f.within;have S:=qd o;have C:Hid (Xb w w.drew):=qd nw.drew;have P:(p.op==14)=false:=ae.2 u;have N:(p.op==15)=false:=ae.2 A;have O:(p.op==12)=false:=ae.2 D;have M:(p.op==13)=false:=ae.2 z;have Q:(p.op==9)=false:=ae.2 q;have R:(p.op==5)=false:=ae.2 r;have L:(p.op==20)=false:=ae.2 g;have Z:(p.op==21)=false:=ae.2 l;clear f o u A D z q r g l;go_enter func67,ntmps67
 go_wp2_with fail
 go_region_held3 (λW=>Xc W b 0 (.int .i64 p.op)/\Xc W b 3 (.int .i64 p.num)/\Xc W b 4 (.string (BS p.str))/\Xc W b 5 (.string (BS p.esc))) (go_keep) (first|(go_at_call 115;refine(S _ C).mono ?_;rintro e K⟨I,rfl,n,F⟩;have h:=qd (qf C F);have Y:=(h.cell (p:=⟨b,0,none⟩) i).trans c0;have X:=(h.cell (p:=⟨b,3,none⟩) i).trans c3;have U:=(h.cell (p:=⟨b,4,none⟩) i).trans c4;have T:=(h.cell (p:=⟨b,5,none⟩) i).trans c5;have J:=qd n;clear n F))
 all_goals(go_wp2_with fail;go_ret;exact⟨I,rfl,q9 J,q9 h⟩)
def qb2:Prop:=∀(lo B:Nat) (w:World) (x:Co) (vx tv:Value) (ts:List (List UInt8)),B<=w.heap.size->LibOk w->CoAt B w.heap.size w vx x->TextsAt lo w tv ts->ts≠[]->ts.length<=200->(∀t∈ts,t.length<=200)->(qp x).length<=402 ->
 Calls prog 114 #[vx,tv] w (kU B w (vt x ts))
def qdx:Ast->Prop
 | .leaf _=>False
 | .un p x=>p.op=21\/qdx x
 | .bin _ x y=>qdx x\/qdx y
 | .tri _ x y z=>qdx x\/qdx y\/qdx z
theorem qzi(C:qb2)(q:Nat)(p:Pay)(D:Value)(A:B<=w.heap.size)(z:LibOk w)(l:NodeAt q w b p D)(f:p.op=21)(i:CoAt B w.heap.size w vx x)(h:p.texts≠[])(r:p.texts.length<=200)(u:∀t∈p.texts,t.length<=200)(o:(qp x).length<=402):
  nz 67 #[.pointer (some ⟨b,0,none⟩),vx,.pointer none,.pointer none] w (kU B w (vt x p.texts)):=by
 obtain⟨G,rfl⟩:=i.ptr;have c0:=l.c0;obtain⟨tv,c6,m⟩:=l.c6;have H:Hid (nz 114 #[.pointer (some ⟨G,0,none⟩),tv] w (kU B w (vt x p.texts))):=qd (C q B w x _ tv _ A z i m h r u o)
 obtain⟨N,L,M,rfl⟩:∃a n c,tv=.slice a n c:=by
  rcases m with⟨_,rfl⟩|⟨g,cap,rfl,_⟩
  ·exact⟨_,_,_,rfl⟩
  ·exact⟨_,_,_,rfl⟩
 have R:(p.op==14)=false:=by rw[f];rfl
 have P:(p.op==15)=false:=by rw[f];rfl
 have Q:(p.op==12)=false:=by rw[f];rfl
 have O:(p.op==13)=false:=by rw[f];rfl
 have S:(p.op==9)=false:=by rw[f];rfl
 have T:(p.op==5)=false:=by rw[f];rfl
 have K:(p.op==20)=false:=by rw[f];rfl
 have U:(p.op==21)=true:=by rw[f];rfl
 clear l A z i o f h r u m C;go_enter func67,ntmps67
 go_wp2_with(go_at_call 114;refine H.mono ?_;rintro e J⟨b2,rfl,F,I⟩)
 go_ret;exact⟨b2,rfl,F,I⟩
structure Ok(t:Ast):Prop where
 gd:GdA t
 nd:ndA t<=200
 sh:ShA t
 num:qg9 t
 bnd:qg6 t
 bq:BqA t
theorem qqp(h:vj s=.ok t):Ok t:=by
 obtain⟨a,b,c,d,e,f⟩:=ym h;exact⟨a,b,c,d,e,f⟩
theorem Ok.side{x:Ast}(h:Ok t)(e:x∈qF t):Ok x:=by
 obtain⟨g,n,s,u,b,q⟩:=h
 cases t with
 | leaf p=>simp[qF]at e
 | un p y=>
  simp[qF]at e;subst e;have:ndA (.un p x)=1+p.texts.length+ndA x:=rfl;exact⟨g.2,mw,s.2.2.2,u.2,b.2,q.2⟩
 | bin p y z=>
  have:ndA (.bin p y z)=1+ndA y+ndA z:=rfl;simp[qF]at e;rcases e with rfl|rfl
  ·exact⟨g.2.1,mw,s.2.1,u.2.1,b.2.1,q.2.1⟩
  ·exact⟨g.2.2,mw,s.2.2,u.2.2,b.2.2,q.2.2⟩
 | tri p y z v=>
  have:ndA (.tri p y z v)=1+ndA y+ndA z+ndA v:=rfl;simp[qF]at e;rcases e with rfl|rfl|rfl
  ·exact⟨g.2.1,mw,s.2.1,u.2.1,b.2.1,q.2.1⟩
  ·exact⟨g.2.2.1,mw,s.2.2.1,u.2.2.1,b.2.2.1,q.2.2.1⟩
  ·exact⟨g.2.2.2,mw,s.2.2.2,u.2.2.2,b.2.2.2,q.2.2.2⟩
theorem Ok.lm(h:Ok t):Lm (qi t):=h.gd.gd.lm h.nd
def SideIs(B:Nat)(w:World)(t:Ast)(j:Nat)(v:Value):Prop:=match (qF t)[j]? with
 | some x=>CoAt B w.heap.size w v (qi x)
 | none=>v=.pointer none
theorem qt2(t:Ast)(L:qdx t->qb2)(f:Ok t)(m:Nat)(l:Value)(u:B<=w.heap.size)(r:LibOk w)(o:NodeAt m w b (j6 t) l){F D C:Value}(g:SideIs B w t 0 F)(i:SideIs B w t 1 D)(n:SideIs B w t 2 C):
  nz 67 #[.pointer (some ⟨b,0,none⟩),F,D,C] w (kU B w (qi t)):=by
 cases t with
 | leaf p=>
  have g:F=.pointer none:=g;have i:D=.pointer none:=i;have n:C=.pointer none:=n;subst g i n;have N:0<=p.op/\p.op<=4:=f.sh;exact qd6 m p l o mw mw mw mw mw mw mw mw (.leaf (xA p)) none
   (λI G=>xb (xA p) (by unfold vY xA;simp only[dk,dg];omega) f.num (bs f.bnd.1 nh) (bs f.bq.1 nh) (bs u G.size) (r.below G nt))
 | un p x=>
  have g:CoAt B w.heap.size w F (qi x):=g;have i:D=.pointer none:=i;have n:C=.pointer none:=n;subst i n;have K:=f.side (x:=x) (by simp[qF]);have A:=K.lm;have O:1+p.texts.length+ndA x<=200:=f.nd;rcases f.sh.1 with e|e|e|e|e|e
  ·rw[show qi (.un p x)=qW (qi x) by rw[qi,e];rfl]
   exact vfk m p l u r o e g A
  ·rw[show qi (.un p x)=qk 16 (kd 0) (qi x) by rw[qi,e];rfl]
   exact qzf m p l u r o e g A
  ·rw[show qi (.un p x)=qk 17 (kd 0) (qi x) by rw[qi,e];rfl]
   exact qzg m p l u r o e g A
  ·rw[show qi (.un p x)=vt (qi x) p.texts by rw[qi,e];rfl]
   obtain⟨q,rfl,J⟩:=zV f.sh.2.2.2 (f.sh.2.2.1 mw);exact qzi (L (.inl e)) m p l u r o e g (f.sh.2.1 e) mw f.bq.1.2 (gV (xA q) f.bnd.2.1 f.num.2 (by unfold vY;simp[xA,J]))
  all_goals
   obtain⟨M,rfl⟩:=g.ptr;rw[show qi (.un p x)=.un (xA p) (qi x) by rw[qi,e];rfl];exact qd6 m p l o mw mw mw mw mw mw mw mw (.un (xA p) (qi x)) (some ⟨M,0,none⟩)
    (λI G=>gF (xA p) (by unfold unB;simp[xA,e]) f.num.1 (bs f.bnd.1.1 nh) (bs f.bq.1.1 nh) (bs u G.size) (r.below G nt) (g.below G) (bs A.1 nh))
 | bin p x y=>
  have g:CoAt B w.heap.size w F (qi x):=g;have i:CoAt B w.heap.size w D (qi y):=i;have n:C=.pointer none:=n;subst n;have A:=(f.side (x:=x) (by simp[qF])).lm;have H:=(f.side (x:=y) (by simp[qF])).lm
  by_cases E7:p.op=12
  ·rw[show qi (.bin p x y)=qk 10 (qi y) (qi x) by rw[qi,E7];rfl]
   exact qzd m p l u r o E7 g i A H
  by_cases O7:p.op=13
  ·rw[show qi (.bin p x y)=qk 11 (qi y) (qi x) by rw[qi,O7];rfl]
   exact qze m p l u r o O7 g i A H
  by_cases h9:p.op=9
  ·rw[show qi (.bin p x y)=qW (qk 8 (qi x) (qi y)) by rw[qi,h9];rfl]
   exact vfl m p l u r o h9 g i A H
  rw[show qi (.bin p x y)=qk p.op (qi x) (qi y) by rw[qi,aj (by simpa using E7),aj (by simpa using O7),aj (by simpa using h9)]];have:=f.sh.1;exact qt3 m p l u r o mw mw E7 O7 h9 mw mw mw g i A H
 | tri p x y z=>
  have g:CoAt B w.heap.size w F (qi x):=g;have i:CoAt B w.heap.size w D (qi y):=i;have n:CoAt B w.heap.size w C (qi z):=n;exact qzh m p l u r o f.sh.1 g i n (f.side (x:=x) (by simp[qF])).lm (f.side (x:=y) (by simp[qF])).lm (f.side (x:=z) (by simp[qF])).lm
def vf0(lo:Nat)(t:Ast):Prop:=∀(B:Nat) (w:World) (v:Value),B<=w.heap.size->LibOk w->IsNode lo w v t->Calls prog 40 #[v] w (kU B w (qi t))
theorem CellsC.lower{l r:Value}{t:mv}(h:CellsC B' E w b p l r t)(e:B<=B'):CellsC B E w b p l r t:=
 ⟨bs e h.lo,h.hi,h.within,h.c0,h.c1,h.c2,h.c3,h.c4,h.c5,h.c6⟩
theorem CoAt.lower(f:B<=B'):∀{c:Co} {v:Value},CoAt B' E w v c->CoAt B E w v c:=by
 intro c
 induction c with
 | leaf p=>rintro v⟨b,rfl,h⟩;exact⟨b,rfl,h.lower f⟩
 | un p x ih=>rintro v⟨b,vx,rfl,h,e⟩;exact⟨b,vx,rfl,h.lower f,ih e⟩
 | bin p x y ihx ihy=>rintro v⟨b,vx,vy,rfl,h,e,g⟩;exact⟨b,vx,vy,rfl,h.lower f,ihx e,ihy g⟩
theorem CoAt.set{c:Co}(h:CoAt B w.heap.size w v c){p:Addr}(f:p.block<B)(u:Value):CoAt B (w.setCell p u).heap.size (w.setCell p u) v c:=by
 have e:=size_setCell w p u;exact h.keep (by rw[e];exact nt) (λk g _=>bo w p u k mw) (by rw[e];exact nt)
def SideK(B:Nat)(w:World)(t:Ast)(k j:Nat)(v:Value):Prop:=(j<k/\SideIs B w t j v)\/(¬j<k/\v=.pointer none)
theorem SideIs.set{e:World}(h:SideIs B w t j v)(g:Xb w e){p:Addr}(f:p.block<B)(u:Value):SideIs B (e.setCell p u) t j v:=by
 unfold SideIs at h ⊢
 cases hx:(qF t)[j]? with
 | none=>rw[hx]at h;exact h
 | some x=>rw[hx]at h;exact(h.below g).set f u
theorem SideK.old{B:Nat}{w f:World}{t:Ast}{k j:Nat}{v:Value}(h:SideK B w t k j v)(m:j≠k)(i:Xb w f){p:Addr}(g:p.block<B)(u:Value):SideK B (f.setCell p u) t (k+1) j v:=by
 rcases h with⟨l,e⟩|⟨l,e⟩
 ·exact .inl ⟨mw,e.set i g u⟩
 ·exact .inr ⟨mw,e⟩
theorem SideK.new{B:Nat}{e:World}{t x:Ast}{k:Nat}{v:Value}(f:(qF t)[k]?=some x)(h:CoAt B e.heap.size e v (qi x)){p:Addr}(g:p.block<B)(u:Value):SideK B (e.setCell p u) t (k+1) k v:=by
 refine .inl ⟨mw, ?_⟩;unfold SideIs;rw[f];exact h.set g u
theorem SideK.done(h:SideK B w t (qF t).length j v):SideIs B w t j v:=by
 rcases h with⟨_,e⟩|⟨f,e⟩
 ·exact e
 ·unfold SideIs
  rw[ms mw];exact e
theorem qas(P:Nat)(t:Ast)(Z:qdx t->qb2)(E6:Ok t)(Y:∀x∈qF t,vf0 P x):vf0 P t:=by
 intro B w v hB R h
 suffices hs:nz 40 #[v] w (kU (w.heap.size+1) w (qi t)) by
  refine hs.mono ?_;rintro e w'⟨b,rfl,hc,N⟩;exact⟨b,rfl,hc.lower mw,N⟩
 have ZA:=qd h;obtain⟨b,sv,rfl,K,aA⟩:=h.parts;obtain⟨a,rfl,dB⟩:=aA.any;have fI:=qi8 t;have c2:=K.c2;have K6:=K.within;obtain⟨n,Q⟩:∃n,(qF t).length=n:=⟨_,rfl⟩;rw[Q]at c2 fI;have HN:=qd Q;have HS:=qd dB;have SD:=qd Y;have MN:=qd K;have HL:=qd R
 have JN:Hid (∀wr r q o,Xb w wr->w.heap.size<wr.heap.size->SideIs (w.heap.size+1) wr t 0 r->SideIs (w.heap.size+1) wr t 1 q->SideIs (w.heap.size+1) wr t 2 o->nz 67 #[.pointer (some ⟨b,0,none⟩),r,q,o] wr (kU (w.heap.size+1) wr (qi t))):=
  qd (λwr r q o N hz h0 h1 h2=>qt2 t Z E6 P _ mw (R.below N nt) (K.kept (Kept.of_below N)) h0 h1 h2)
 clear aA h Q dB Y K Z E6 R hB;go_enter func40,ntmps40
 go_wp2_with fail
 go_loopw [11] (λi wr=>∃(k:Nat) (r q o:Value),k<=n/\i=.int .i64 k/\Hid (SideK (w.heap.size+1) wr t k 0 r/\SideK (w.heap.size+1) wr t k 1 q/\SideK (w.heap.size+1) wr t k 2 o)/\Xc wr w.heap.size 0 r/\Xc wr w.heap.size 1 q/\Xc wr w.heap.size 2 o/\(Xf wr w.heap.size)/\w.heap.size<wr.heap.size/\Hid (Xb w wr)) (λi _=>n - (intOf i).toNat)
 case atStart=>exact⟨0,.pointer none,.pointer none,.pointer none,bj _,rfl,qd ⟨.inr ⟨mw,rfl⟩,.inr ⟨mw,rfl⟩,.inr ⟨mw,rfl⟩⟩,mx,mx,mx,λj=>mx,mx,qd (nw.alloc nt _)⟩
 case round=>
  obtain⟨k,r,q,o,hk,rfl,D,U,T,S,fz,u,C⟩:=hrel
  by_cases A0:k<n
  ·obtain⟨x,M⟩:∃x,(qF t)[k]?=some x:=⟨_,ag (by rw[q9 HN];exact A0)⟩
   obtain⟨g,bx,rfl,dJ,P5,eW,dU⟩:=q9 HS k x M;have dx:=(C.cell (p:=⟨g,k,none⟩) P5).trans eW;have X:=qd (SD x (ch M) (w.heap.size+1) wr _ mw (HL.below C nt) (dU.kept (Kept.of_below C)));have W:=qd M;clear M dU eW;rcases(show k=0\/k=1\/k=2 by omega) with rfl|rfl|rfl
   ·go_wp2_with(go_at_call 40;refine X.mono ?_;rintro e f⟨b1,rfl,k1,l⟩;obtain⟨m,A⟩:=qj l;have L:w.heap.size<f.heap.size:=(by have:=l.size;omega);have I:Xc f w.heap.size 0 r:=(m _ 0 u).trans U;have H:Xc f w.heap.size 1 q:=(m _ 1 u).trans T;have G:Xc f w.heap.size 2 o:=(m _ 2 u).trans S;have J:Xf f w.heap.size:=(λj=>(A _ j u).trans (fz j));have z:=qd l;have F:=qd k1;clear m A l k1)
    go_roundw
    case rel=>exact⟨1,_,q,o,mw,by go_num,qd ⟨SideK.new W F mx _,D.2.1.old nh z mx _,D.2.2.old nh z mx _⟩,by simp[go_sem,I],by simp[go_sem,H],by simp[go_sem,G],λj=>by simp[go_sem,J],by simpa using L,qd ((qf C z).setCell mx _)⟩
    case measure=>simp[intOf];omega
   ·go_wp2_with(go_at_call 40;refine X.mono ?_;rintro e f⟨b1,rfl,k1,l⟩;obtain⟨m,A⟩:=qj l;have L:w.heap.size<f.heap.size:=(by have:=l.size;omega);have I:Xc f w.heap.size 0 r:=(m _ 0 u).trans U;have H:Xc f w.heap.size 1 q:=(m _ 1 u).trans T;have G:Xc f w.heap.size 2 o:=(m _ 2 u).trans S;have J:Xf f w.heap.size:=(λj=>(A _ j u).trans (fz j));have z:=qd l;have F:=qd k1;clear m A l k1)
    go_roundw
    case rel=>exact⟨2,r,_,o,mw,by go_num,qd ⟨D.1.old nh z mx _,SideK.new W F mx _,D.2.2.old nh z mx _⟩,by simp[go_sem,I],by simp[go_sem,H],by simp[go_sem,G],λj=>by simp[go_sem,J],by simpa using L,qd ((qf C z).setCell mx _)⟩
    case measure=>simp[intOf];omega
   ·go_wp2_with(go_at_call 40;refine X.mono ?_;rintro e f⟨b1,rfl,k1,l⟩;obtain⟨m,A⟩:=qj l;have L:w.heap.size<f.heap.size:=(by have:=l.size;omega);have I:Xc f w.heap.size 0 r:=(m _ 0 u).trans U;have H:Xc f w.heap.size 1 q:=(m _ 1 u).trans T;have G:Xc f w.heap.size 2 o:=(m _ 2 u).trans S;have J:Xf f w.heap.size:=(λj=>(A _ j u).trans (fz j));have z:=qd l;have F:=qd k1;clear m A l k1)
    go_roundw
    case rel=>exact⟨3,r,q,_,mw,by go_num,qd ⟨D.1.old nh z mx _,D.2.1.old nh z mx _,SideK.new W F mx _⟩,by simp[go_sem,I],by simp[go_sem,H],by simp[go_sem,G],λj=>by simp[go_sem,J],by simpa using L,qd ((qf C z).setCell mx _)⟩
    case measure=>simp[intOf];omega
  ·have U5:k=(qF t).length:=by have:=q9 HN;omega
   have O:=qd (U5 ▸ q9 D);have HJ:=qd (JN wr r q o C u O.1.done O.2.1.done O.2.2.done);clear U5 D O
   go_wp2_with(go_at_call 67;refine HJ.mono ?_;rintro e f⟨b1,rfl,k1,l⟩;have z:=qd (qf C l);have F:=qd k1;clear l k1)
   go_ret;exact⟨b1,rfl,q9 F,q9 z⟩
theorem qtg(g:Nat):∀t,(qdx t->qb2)->Ok t->vf0 g t:=by
 intro t
 induction t with
 | leaf p=>intro e f;exact qas g _ e f (λx q=>by simp[qF]at q)
 | un p x ih=>
  intro e f;refine qas g _ e f (λy l=>?_);have r:=l;simp[qF]at l;subst l;exact ih (λh=>e (.inr h)) (f.side r)
 | bin p x y ihx ihy=>
  intro e f;refine qas g _ e f (λz i=>?_);have o:=i;simp[qF]at i;rcases i with rfl|rfl
  ·exact ihx (λh=>e (.inl h)) (f.side o)
  ·exact ihy (λh=>e (.inr h)) (f.side o)
 | tri p x y z ihx ihy ihz=>
  intro e f;refine qas g _ e f (λu m=>?_);have n:=m;simp[qF]at m;rcases m with rfl|rfl|rfl
  ·exact ihx (λh=>e (.inl h)) (f.side n)
  ·exact ihy (λh=>e (.inr (.inl h))) (f.side n)
  ·exact ihz (λh=>e (.inr (.inr h))) (f.side n)
def vW(op:Int):Prop:=op=6\/op=7\/op=8\/op=10\/op=11\/16<=op/\op<=19
def y7:Co->Prop
 | .leaf _=>True
 | .un _ x=>y7 x
 | .bin p x y=>vW p.op/\y7 x/\y7 y
theorem vl(g:vW op)(f:y7 x)(e:y7 y):y7 (qk op x y):=by
 unfold qk
 split
 ·exact⟨g,e,f⟩
 ·exact⟨g,f,e⟩
theorem qmp:∀{c:Co},y7 c->y7 (qW c):=by
 intro c
 induction c with
 | leaf p=>
  intro h;unfold qW
  split
  ·trivial
  ·split<;>trivial
 | un p x ih=>
  intro h;unfold qW
  split<;>exact h
 | bin p x y ihx ihy=>
  intro h;unfold qW
  split
  ·exact vl (by unfold vW;omega) (ihx h.2.1) (ihy h.2.2)
  ·split
   ·exact vl (by unfold vW;omega) (ihx h.2.1) (ihy h.2.2)
   ·split
    ·exact vl (by unfold vW;omega) h.2.2 h.2.1
    ·split
     ·exact vl (by unfold vW;omega) h.2.2 h.2.1
     ·exact h
theorem qpj(g:y7 x):∀(r:List mv) (f:Co),y7 f->y7 (jM x f r):=by
 intro r
 induction r with
 | nil=>intro f e;exact e
 | cons t r ih=>intro f e;exact ih _ (vl (by unfold vW;omega) e (vl (by unfold vW;omega) g trivial))
theorem qpi(e:y7 x)(ts:List mv):y7 (vt x ts):=by
 unfold vt
 cases vf ts with
 | nil=>exact e
 | cons t r=>exact qpj e r _ (vl (by unfold vW;omega) e trivial)
theorem gQ:∀t,ShA t->y7 (qi t):=by
 intro t
 induction t with
 | leaf p=>intro _;trivial
 | un p x ih=>
  intro f;have e:=ih f.2.2.2;rw[qi]
  split
  ·exact vl (by unfold vW;omega) trivial e
  ·split
   ·exact vl (by unfold vW;omega) trivial e
   ·split
    ·exact qmp e
    ·split
     ·exact qpi e _
     ·exact e
 | bin p x y ihx ihy=>
  intro f;have e:=ihx f.2.1;have g:=ihy f.2.2;rw[qi]
  split
  ·exact vl (by unfold vW;omega) g e
  ·split
   ·exact vl (by unfold vW;omega) g e
   ·split
    ·exact qmp (vl (by unfold vW;omega) e g)
    ·rename_i l i h
     simp only[dg]at l i h;exact vl (by have:=f.1;unfold vW;omega) e g
 | tri p x y z ihx ihy ihz=>
  intro f;exact vl (by unfold vW;omega) (vl (by unfold vW;omega) (ihy f.2.2.1) (ihx f.2.1)) (vl (by unfold vW;omega) (ihx f.2.1) (ihz f.2.2.2))
def pK(p:CP):Pay:=⟨p.op,0,p.num,p.str,p.esc,[]⟩
def emb:Co->Ast
 | .leaf p=>.leaf (pK p)
 | .un p x=>.un (pK p) (emb x)
 | .bin p x y=>.bin (pK p) (emb x) (emb y)
theorem qqh{x y:mv}(h:Op.bytesLess x y=true):Op.bytesLess y x=false:=by
 induction x generalizing y with
 | nil=>cases y<;>simp[Op.bytesLess]at h ⊢
 | cons a x ih=>
  cases y with
  | nil=>simp[Op.bytesLess]at h
  | cons b y=>
   simp only[Op.bytesLess,dk,cn,du,dg,fa,ll,decide_eq_false_iff_not]at h ⊢;rcases h with h|⟨rfl,h⟩
   ·exact⟨λe=>md _ (UInt8.lt_trans h e),.inl (by simp;rintro rfl;exact md _ h)⟩
   ·exact⟨md _,.inr (ih h)⟩
theorem gY(op:Int)(x y:Co):(∃a b,qk op x y=.bin (qm op) a b/\qk op a b=.bin (qm op) a b/\(a=x/\b=y\/a=y/\b=x)):=by
 by_cases h:(xC op&&Op.bytesLess (qp y) (qp x))=true
 ·refine⟨y,x,by unfold qk;rw[bh h], ?_,.inr ⟨rfl,rfl⟩⟩
  simp only[cn]at h;unfold qk;rw[aj (by rw[qqh h.2];simp)]
 ·exact⟨x,y,by unfold qk;rw[aj h],by unfold qk;rw[aj h],.inl ⟨rfl,rfl⟩⟩
def ClC(c:Co)(k:Int):Prop:=qv (emb c)=.ok k
theorem qjl{b:Int}(f:a=want\/a=0)(e:b=want\/b=0):dem want pl [.ok a,.ok b] true=none:=by
 have h:(a==want||a==0)=true:=by simpa using f
 have g:(b==want||b==0)=true:=by simpa using e
 simp[dem,h,g]
theorem kj(o:op=6\/op=7){b:Int}(l:ClC x a)(i:ClC y b)(g:a=3\/a=0)(f:b=3\/b=0):ClC (qk op x y) 3:=by
 obtain⟨u,v,e,_,h⟩:=gY op x y
 have key:∀{u v:Co} {a b:Int},ClC u a->ClC v b->(a=3\/a=0)->(b=3\/b=0)->ClC (.bin (qm op) u v) 3:=by
  intro u v a b n m g f;show qK op 0 [qv (emb u),qv (emb v)]=.ok 3;rw[show qv (emb u)=.ok a from n,show qv (emb v)=.ok b from m];rcases o with rfl|rfl<;>simp[qK,zm,qjl g f]
 rw[e];rcases h with⟨rfl,rfl⟩|⟨rfl,rfl⟩
 ·exact key l i g f
 ·exact key i l f g
theorem yD(o:op=10\/op=11){b:Int}(l:ClC x a)(i:ClC y b)(g:a=1\/a=0)(f:b=1\/b=0):ClC (qk op x y) 3:=by
 obtain⟨u,v,e,_,h⟩:=gY op x y
 have key:∀{u v:Co} {a b:Int},ClC u a->ClC v b->(a=1\/a=0)->(b=1\/b=0)->ClC (.bin (qm op) u v) 3:=by
  intro u v a b n m g f;show qK op 0 [qv (emb u),qv (emb v)]=.ok 3;rw[show qv (emb u)=.ok a from n,show qv (emb v)=.ok b from m];rcases o with rfl|rfl<;>simp[qK,zm,qjl g f]
 rw[e];rcases h with⟨rfl,rfl⟩|⟨rfl,rfl⟩
 ·exact key l i g f
 ·exact key i l f g
theorem qj8(o:16<=op/\op<=19){b:Int}(l:ClC x a)(i:ClC y b)(g:a=1\/a=0)(f:b=1\/b=0):ClC (qk op x y) 1:=by
 obtain⟨u,v,e,_,h⟩:=gY op x y
 have key:∀{u v:Co} {a b:Int},ClC u a->ClC v b->(a=1\/a=0)->(b=1\/b=0)->ClC (.bin (qm op) u v) 1:=by
  intro u v a b n m g f;show qK op 0 [qv (emb u),qv (emb v)]=.ok 1;rw[show qv (emb u)=.ok a from n,show qv (emb v)=.ok b from m];have:op=16\/op=17\/op=18\/op=19:=mw;rcases this with rfl|rfl|rfl|rfl<;>simp[qK,zm,qjl g f]
 rw[e];rcases h with⟨rfl,rfl⟩|⟨rfl,rfl⟩
 ·exact key l i g f
 ·exact key i l f g
theorem qmt{b:Int}(i:ClC x a)(g:ClC y b)(f:a=b\/a=0\/b=0):ClC (qk 8 x y) 3:=by
 obtain⟨u,v,e,_,h⟩:=gY 8 x y
 have key:∀{u v:Co} {a b:Int},ClC u a->ClC v b->(a=b\/a=0\/b=0)->ClC (.bin (qm 8) u v) 3:=by
  intro u v a b m l f;show qK 8 0 [qv (emb u),qv (emb v)]=.ok 3;rw[show qv (emb u)=.ok a from m,show qv (emb v)=.ok b from l]
  have:(a != b&&a != 0&&b != 0)=false:=by
   rcases f with rfl|rfl|rfl<;>simp
  simp[qK,zk,this]
 rw[e];rcases h with⟨rfl,rfl⟩|⟨rfl,rfl⟩
 ·exact key i g f
 ·exact key g i (by rcases f with h|h|h<;>simp[h])
theorem qj9{c:Co}(h:ClC c k)(e:k=3\/k=0):ClC (.un (qm 5) c) 3:=by
 show qK 5 0 [qv (emb c)]=.ok 3;rw[show qv (emb c)=.ok k from h];have f:(k==3||k==0)=true:=by simpa using e
 simp[qK,zm,dem,f]
theorem kL(h:ClC (.bin p x y) k)(g:(p.op=6\/p.op=7)/\want=3\/(p.op=10\/p.op=11)/\want=1):(∃a,ClC x a/\(a=want\/a=0))/\∃b,ClC y b/\(b=want\/b=0):=by
 have f:qK p.op 0 [qv (emb x),qv (emb y)]=.ok k:=h
 have hd:∃c,zm want 0 c [qv (emb x),qv (emb y)]=.ok k:=by
  rcases g with⟨e,rfl⟩|⟨e,rfl⟩
  ·rcases e with e|e<;>(rw[e]at f;exact⟨3,by simpa [qK]using f⟩)
  ·rcases e with e|e<;>(rw[e]at f;exact⟨3,by simpa [qK]using f⟩)
 obtain⟨c,hd⟩:=hd;have:=qS hd;obtain⟨a,n,l⟩:=this (qv (emb x)) mx;obtain⟨b,m,i⟩:=this (qv (emb y)) mx;exact⟨⟨a,n,l⟩,b,m,i⟩
theorem xq(h:zm want pl c rs=.ok k):k=c:=by
 unfold zm at h
 split at h
 ·injection h with h;exact h.symm
 ·cases h
theorem qmv(h:qK op pl rs=.ok k)(e:op≠0):k≠0:=by
 unfold qK at h;simp only[ae.2 e]at h
 repeat' split at h
 all_goals first
  | contradiction
  | (injection h with h;omega)
  | (have:=xq h;omega)
  | (rename_i a b;unfold zk at h;split at h;cases h;cases h;split at h;cases h;injection h with h;omega)
  | skip
theorem qt6:∀{c:Co} {k:Int},ClC c k->(k=3\/k=0)->ClC (qW c) 3:=by
 intro c
 induction c with
 | leaf p=>
  intro k h m;unfold qW
  split
  ·rfl
  ·split
   ·rfl
   ·exact qj9 h m
 | un p x ih=>
  intro k h m;unfold qW
  split
  ·rename_i n
   simp only[cn,dg,bne_iff_ne]at n;have q:qK p.op 0 [qv (emb x)]=.ok k:=h;rw[n.1]at q;have hd:zm 3 0 3 [qv (emb x)]=.ok k:=by simpa [qK]using q
   obtain⟨a,r,o⟩:=qS hd _ (dp ..)
   have e:a≠0:=by
    have:qK (j6 (emb x)).op (j6 (emb x)).place ((qF (emb x)).map qv)=.ok a:=by rw[←ye];exact r
    refine qmv this ?_;have:(j6 (emb x)).op=opC x:=by cases x<;>rfl
    rw[this];exact n.2
   rcases o with rfl|o
   ·exact r
   ·exact absurd o e
  ·exact qj9 h m
 | bin p x y ihx ihy=>
  intro k h m;unfold qW
  split
  ·rename_i g
   obtain⟨⟨a,e,f⟩,b,i,l⟩:=kL h (.inl ⟨.inl (by simpa using g),rfl⟩);exact kj (.inr rfl) (ihx e f) (ihy i l) (.inl rfl) (.inl rfl)
  ·split
   ·rename_i g
    obtain⟨⟨a,e,f⟩,b,i,l⟩:=kL h (.inl ⟨.inr (by simpa using g),rfl⟩);exact kj (.inl rfl) (ihx e f) (ihy i l) (.inl rfl) (.inl rfl)
   ·split
    ·rename_i g
     obtain⟨⟨a,e,f⟩,b,i,l⟩:=kL h (.inr ⟨.inl (by simpa using g),rfl⟩);exact yD (.inr rfl) i e l f
    ·split
     ·rename_i g
      obtain⟨⟨a,e,f⟩,b,i,l⟩:=kL h (.inr ⟨.inr (by simpa using g),rfl⟩);exact yD (.inl rfl) i e l f
     ·exact qj9 h m
end Go.Proofs.YtfkcaldjphakpaaGreatDoor
