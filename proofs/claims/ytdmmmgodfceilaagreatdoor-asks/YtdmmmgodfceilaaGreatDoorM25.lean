/- The cores of what is r -/
import Derived.Test.YtdmmmgodfceilaaGreatDoorM19
import Derived.Deep.DeepAppendWide
import Derived.Test.YtdmmmgodfceilaaGreatDoorM07
import Derived.Laws.CopyRow
import Derived.OwnWalk
import Derived.Lib.LaidTab
import Derived.Shelf.Vars
set_option maxHeartbeats 16000000
set_option maxRecDepth 100000
namespace Go.Proofs.YtdmmmgodfceilaaGreatDoor
open Go.RowKit Go.Proofs.Tryz
open Go renaming Value->Ap,World->Ao
open Go.Ending renaming returned->Ak
open Go.IntKind renaming i64->J
open Go.Obj renaming cells->Al
open Go.Value renaming agg->Ai,bool->Ah,int->I,pointer->Ag,slice->C,string->Y,tuple->Aj
open Option renaming none->O,some->G
open Or renaming inl->Am,inr->An
variable{t:Ast}{p:CP}{c x y:Co}{a op pl want:Int}{ts:List tu}{rs:List CRes}{ps:List Pr}{L r s:List Tk}{xs:List Ap}{H b base bytes cap e g hb i j k m n:Nat}{N:Nat->Prop}{P:Program}{ty:TypeId}{v:V}{z:Ap}{W W' w:Ao}
def vbr(p:CP):Prop:=(0<=p.op/\p.op<=23)/\Rng p.K/\p.V.length<=200/\p.h.length<=1
def qbi:Co->Prop
 | .leaf p=>vbr p
 | .un p x=>vbr p/\qbi x
 | .bin p x y=>vbr p/\qbi x/\qbi y
theorem xZ(h:0<=op/\op<=23):vbr (qq op):=⟨h,vhw,bt _,bt _⟩
theorem vT(h:0<=op/\op<=23)(f:qbi x)(d:qbi y):qbi (qp op x y):=by
 unfold qp
 split
 exact⟨xZ h,d,f⟩;exact⟨xZ h,f,d⟩
theorem qwm:∀{c:Co},qbi c->qbi (vg c):=by
 intro c
 induction c with
 | leaf p=>
  intro h;unfold vg
  split
  exact xZ ue
  split
  exact xZ ue;exact⟨xZ ue,h⟩
 | un p x ih=>
  intro h;unfold vg
  split
  exact h.2;exact⟨xZ ue,h⟩
 | bin p x y ihx ihy=>
  intro h;unfold vg
  split
  exact vT ue (ihx h.2.1) (ihy h.2.2)
  split
  exact vT ue (ihx h.2.1) (ihy h.2.2)
  split
  exact vT ue h.2.2 h.2.1
  split
  exact vT ue h.2.2 h.2.1;exact⟨xZ ue,h⟩
theorem qql{t:tu}(h:t.length<=200):qbi (vi t):=⟨(by show(0:Int)<=2/\(2:Int)<=23;decide),vhw,h,bt _⟩
theorem qwn{n:Int}(h:Rng n):qbi (kL n):=⟨(by show(0:Int)<=1/\(1:Int)<=23;decide),h,bt _,bt _⟩
theorem qwo(l:qbi x):∀(r:List tu) (f:Co),qbi f->(∀t∈r,t.length<=200)->qbi (za x f r):=by
 intro r
 induction r with
 | nil=>intro f d _;exact d
 | cons t r ih=>
  intro f d h;exact ih _ (vT ue d (vT ue l (qql (h t ei)))) λu q=>h u (fe _ q)
theorem qwl(d:qbi x)(h:∀t∈ts,t.length<=200):qbi (vI x ts):=by
 have l:∀u∈vo ts,u.length<=200:=λu f=>h u (gD f)
 unfold vI
 cases hs:vo ts with
 | nil=>exact d
 | cons t r=>
  rw[hs]at l;exact qwo d r _ (vT ue d (qql (l t ei))) λu f=>l u (fe _ f)
theorem vdi:∀t,ShA t->qia t->qi6 t->BqA t->qbi (qj t):=by
 intro t
 induction t with
 | leaf p=>intro f u q l;exact⟨⟨f.1,by have:=f.2;show p.op<=23;omega⟩,u,q.1,l.1⟩
 | un p x ih=>
  intro f u q l;have d:=ih f.2.2.2 u.2 q.2 l.2;rw[qj]
  split
  exact vT ue (qwn vhw) d
  split
  exact vT ue (qwn vhw) d
  split
  exact qwm d
  split
  exact qwl d l.1.2;exact⟨⟨by have:=f.1;show 0<=p.op/\p.op<=23;omega,u.1,q.1.1,l.1.1⟩,d⟩
 | bin p x y ihx ihy=>
  intro f u q l;have d:=ihx f.2.1 u.2.1 q.2.1 l.2.1;have A:=ihy f.2.2 u.2.2 q.2.2 l.2.2;rw[qj]
  split
  exact vT ue A d
  split
  exact vT ue A d
  split
  exact qwm (vT ue d A);exact vT (uu f.1) d A
 | tri p x y z ihx ihy ihz=>
  intro f u q l;have d:=ihx f.2.1 u.2.1 q.2.1 l.2.1;have A:=ihy f.2.2.1 u.2.2.1 q.2.2.1 l.2.2.1;have B:=ihz f.2.2.2 u.2.2.2 q.2.2.2 l.2.2.2;exact vT ue (vT ue A d) (vT ue d B)
theorem vdn:∀{c:Co},qbi c->qed c:=by
 have hp:∀{p:CP},vbr p->GoodP p:=λh=>⟨h.1,h.2.1,uu h.2.2.1,uu h.2.2.2⟩
 intro c
 induction c with
 | leaf p=>exact λh=>hp h
 | un p x ih=>exact λh=>⟨hp h.1,ih h.2⟩
 | bin p x y ihx ihy=>exact λh=>⟨hp h.1,ihx h.2.1,ihy h.2.2⟩
theorem qud:∀{c:Co},WfC c->yZ c<=2 * (qt c).length+1:=by
 intro c
 induction c with
 | leaf p=>intro _;show 1<=_;omega
 | un p x ih=>
  intro h;have f:=ih h.2
  have l:(qt x).length+1<=(qt (.un p x)).length:=by
   show _<=(qI p (qt x) []).length;have d:=h.1;unfold unB at d;simp only[ff,ew]at d;unfold qI;rcases d with(d|d)|d<;>rw[d]<;>simp<;>omega
  show yZ x+1<=_;omega
 | bin p x y ihx ihy=>
  intro h;have f:=ihx h.2.1;have q:=ihy h.2.2;have l:=jH h.1 x y;show yZ x+yZ y+1<=_;omega
structure CoreOk(c:Co):Prop where
 fld:qbi c
 wf:WfC c
 size:yZ c<=250000000
theorem qg1{s:tq}(h:vq s=.ok t):CoreOk (qj t):=by
 obtain⟨d,f,A,u,q,l⟩:=yO h;refine⟨vdi t A u q l,d.gd.wf, ?_⟩;have D:=qud d.gd.wf;have C:=d.gd.len;have B:ndA t * ndA t<=200 * 200:=ri f f;omega
def qrt(ts:List Tm):Prop:=∀i t,ts[i]?=G t->FitsT i t
theorem qg9{ts:List Tm}(h:qrt ts){t:Tm}(f:FitsT ts.length t):qrt (pC ts t).1:=by
 unfold pC
 cases hw:j8 ts t with
 | some i=>exact h
 | none=>
  intro i x d
  by_cases hl:i<ts.length
  rw[cg hl]at d;exact h i x d
  have e:i=ts.length:=by
   have:=(aj.1 d).1;simp at this;omega
  subst e;simp at d;subst d;exact f
theorem qn5(h:vbr p){l r:Nat}(hs:5<=p.op->l<n/\r<n):FitsT n (zK p l r):=by
 obtain⟨⟨C,B⟩,A,u,q⟩:=h;refine⟨by show p.op.toNat<=23;omega,A,u,q,λf=>hs ?_⟩;have d:5<=p.op.toNat:=f;omega
theorem qsl:∀(c:Co) (ts:List Tm),qbi c->WfC c->qrt ts->qrt (qC ts c).1:=by
 intro c
 induction c with
 | leaf p=>
  intro ts d f h;refine qg9 h (qn5 d λD=>?_);have q:js p.op=true:=f;unfold js at q;simp only[ff,ew]at q;omega
 | un p x ih=>
  intro ts d f h;have l:=ih ts d.2 f.2 h;have B:=(xV ts x).2.2;exact qg9 l (qn5 d.1 λ_=>⟨B,ub⟩)
 | bin p x y ihx ihy=>
  intro ts d f h;have l:=ihx ts d.2.1 f.2.1 h;have A:=ihy (qC ts x).1 d.2.2 f.2.2 l;have C:=xV ts x;have u:=xV (qC ts x).1 y;exact qg9 A (qn5 d.1 λ_=>⟨ub,u.2.2⟩)
def jp(op:Int):Prop:=op=6\/op=7\/op=8\/op=10\/op=11\/16<=op/\op<=19
def kP:Co->Prop
 | .leaf _=>True
 | .un _ x=>kP x
 | .bin p x y=>jp p.op/\kP x/\kP y
theorem vw(h:jp op)(f:kP x)(d:kP y):kP (qp op x y):=by
 unfold qp
 split
 exact⟨h,d,f⟩;exact⟨h,f,d⟩
theorem qq0:∀{c:Co},kP c->kP (vg c):=by
 intro c
 induction c with
 | leaf p=>
  intro h;unfold vg
  split
  trivial
  split<;>trivial
 | un p x ih=>
  intro h;unfold vg
  split<;>exact h
 | bin p x y ihx ihy=>
  intro h;unfold vg
  split
  exact vw (by unfold jp;omega) (ihx h.2.1) (ihy h.2.2)
  split
  exact vw (by unfold jp;omega) (ihx h.2.1) (ihy h.2.2)
  split
  exact vw (by unfold jp;omega) h.2.2 h.2.1
  split
  exact vw (by unfold jp;omega) h.2.2 h.2.1;exact h
theorem qs1(h:kP x):∀(r:List tu) (f:Co),kP f->kP (za x f r):=by
 intro r
 induction r with
 | nil=>intro f d;exact d
 | cons t r ih=>intro f d;exact ih _ (vw (by unfold jp;omega) d (vw (by unfold jp;omega) h trivial))
theorem qs0(d:kP x)(ts:List tu):kP (vI x ts):=by
 unfold vI
 cases vo ts with
 | nil=>exact d
 | cons t r=>exact qs1 d r _ (vw (by unfold jp;omega) d trivial)
theorem pV:∀t,ShA t->kP (qj t):=by
 intro t
 induction t with
 | leaf p=>intro _;trivial
 | un p x ih=>
  intro f;have d:=ih f.2.2.2;rw[qj]
  split
  exact vw (by unfold jp;omega) trivial d
  split
  exact vw (by unfold jp;omega) trivial d
  split
  exact qq0 d
  split
  exact qs0 d _;exact d
 | bin p x y ihx ihy=>
  intro f;have d:=ihx f.2.1;have h:=ihy f.2.2;rw[qj]
  split
  exact vw (by unfold jp;omega) h d
  split
  exact vw (by unfold jp;omega) h d
  split
  exact qq0 (vw (by unfold jp;omega) d h);rename_i u q l;simp only[ew]at u q l;exact vw (by have:=f.1;unfold jp;omega) d h
 | tri p x y z ihx ihy ihz=>
  intro f;exact vw (by unfold jp;omega) (vw (by unfold jp;omega) (ihy f.2.2.1) (ihx f.2.1)) (vw (by unfold jp;omega) (ihx f.2.1) (ihz f.2.2.2))
def qaq(p:CP):Pay:=⟨p.op,0,p.K,p.V,p.h,[]⟩
def emb:Co->Ast
 | .leaf p=>.leaf (qaq p)
 | .un p x=>.un (qaq p) (emb x)
 | .bin p x y=>.bin (qaq p) (emb x) (emb y)
theorem qt1{x y:tu}(h:Op.bytesLess x y=true):Op.bytesLess y x=false:=by
 induction x generalizing y with
 | nil=>cases y<;>simp[Op.bytesLess]at h |-
 | cons a x ih=>
  cases y with
  | nil=>simp[Op.bytesLess]at h
  | cons b y=>
   simp only[Op.bytesLess,ff,dh,fj,ew,ii,oy,decide_eq_false_iff_not]at h |-;rcases h with h|⟨rfl,h⟩;exact⟨λe=>sm _ (UInt8.lt_trans h e),Am (by simp;rintro rfl;exact sm _ h)⟩;exact⟨sm _,An (ih h)⟩
theorem qa3(op:Int)(x y:Co):(∃a b,qp op x y=.bin (qq op) a b/\qp op a b=.bin (qq op) a b/\(a=x/\b=y\/a=y/\b=x)):=by
 by_cases h:(xY op&&Op.bytesLess (qt y) (qt x))=true
 refine⟨y,x,by unfold qp;rw[bo h], ?_,An ⟨rfl,rfl⟩⟩;simp only[dh]at h;unfold qp;rw[ak (by rw[qt1 h.2];simp)];exact⟨x,y,by unfold qp;rw[ak h],by unfold qp;rw[ak h],Am ⟨rfl,rfl⟩⟩
def ClC(c:Co)(k:Int):Prop:=qy (emb c)=.ok k
theorem qmt{b:Int}(d:a=want\/a=0)(hb:b=want\/b=0):dem want pl [.ok a,.ok b] true=O:=by
 have h:(a==want||a==0)=true:=by simpa using d
 have f:(b==want||b==0)=true:=by simpa using hb
 simp[dem,h,f]
theorem kV(A:op=6\/op=7){b:Int}(l:ClC x a)(f:ClC y b)(d:a=3\/a=0)(hb:b=3\/b=0):ClC (qp op x y) 3:=by
 obtain⟨u,v,e,_,h⟩:=qa3 op x y
 have key:∀{u v:Co} {a b:Int},ClC u a->ClC v b->(a=3\/a=0)->(b=3\/b=0)->ClC (.bin (qq op) u v) 3:=by
  intro u v a b q hv d hb;show qR op 0 [qy (emb u),qy (emb v)]=.ok 3;rw[show qy (emb u)=.ok a from q,show qy (emb v)=.ok b from hv];rcases A with rfl|rfl<;>simp[qR,zN,qmt d hb]
 rw[e];rcases h with⟨rfl,rfl⟩|⟨rfl,rfl⟩;exact key l f d hb;exact key f l hb d
theorem ki(A:op=10\/op=11){b:Int}(l:ClC x a)(f:ClC y b)(d:a=1\/a=0)(hb:b=1\/b=0):ClC (qp op x y) 3:=by
 obtain⟨u,v,e,_,h⟩:=qa3 op x y
 have key:∀{u v:Co} {a b:Int},ClC u a->ClC v b->(a=1\/a=0)->(b=1\/b=0)->ClC (.bin (qq op) u v) 3:=by
  intro u v a b q hv d hb;show qR op 0 [qy (emb u),qy (emb v)]=.ok 3;rw[show qy (emb u)=.ok a from q,show qy (emb v)=.ok b from hv];rcases A with rfl|rfl<;>simp[qR,zN,qmt d hb]
 rw[e];rcases h with⟨rfl,rfl⟩|⟨rfl,rfl⟩;exact key l f d hb;exact key f l hb d
theorem qmh(A:16<=op/\op<=19){b:Int}(l:ClC x a)(f:ClC y b)(d:a=1\/a=0)(hb:b=1\/b=0):ClC (qp op x y) 1:=by
 obtain⟨u,v,e,_,h⟩:=qa3 op x y
 have key:∀{u v:Co} {a b:Int},ClC u a->ClC v b->(a=1\/a=0)->(b=1\/b=0)->ClC (.bin (qq op) u v) 1:=by
  intro u v a b q hv d hb;show qR op 0 [qy (emb u),qy (emb v)]=.ok 1;rw[show qy (emb u)=.ok a from q,show qy (emb v)=.ok b from hv];have:op=16\/op=17\/op=18\/op=19:=ub;rcases this with rfl|rfl|rfl|rfl<;>simp[qR,zN,qmt d hb]
 rw[e];rcases h with⟨rfl,rfl⟩|⟨rfl,rfl⟩;exact key l f d hb;exact key f l hb d
theorem qq6{b:Int}(l:ClC x a)(f:ClC y b)(d:a=b\/a=0\/b=0):ClC (qp 8 x y) 3:=by
 obtain⟨u,v,e,_,h⟩:=qa3 8 x y
 have key:∀{u v:Co} {a b:Int},ClC u a->ClC v b->(a=b\/a=0\/b=0)->ClC (.bin (qq 8) u v) 3:=by
  intro u v a b q hv d;show qR 8 0 [qy (emb u),qy (emb v)]=.ok 3;rw[show qy (emb u)=.ok a from q,show qy (emb v)=.ok b from hv]
  have:(a != b&&a != 0&&b != 0)=false:=by
   rcases d with rfl|rfl|rfl<;>simp
  simp[qR,zM,this]
 rw[e];rcases h with⟨rfl,rfl⟩|⟨rfl,rfl⟩;exact key l f d;exact key f l (by rcases d with h|h|h<;>simp[h])
theorem qmi{k:Int}(h:ClC c k)(d:k=3\/k=0):ClC (.un (qq 5) c) 3:=by
 show qR 5 0 [qy (emb c)]=.ok 3;rw[show qy (emb c)=.ok k from h];have f:(k==3||k==0)=true:=by simpa using d
 simp[qR,zN,dem,f]
theorem gM{k:Int}(h:ClC (.bin p x y) k)(l:(p.op=6\/p.op=7)/\want=3\/(p.op=10\/p.op=11)/\want=1):(∃a,ClC x a/\(a=want\/a=0))/\∃b,ClC y b/\(b=want\/b=0):=by
 have f:qR p.op 0 [qy (emb x),qy (emb y)]=.ok k:=h
 have hd:∃c,zN want 0 c [qy (emb x),qy (emb y)]=.ok k:=by
  rcases l with⟨d,rfl⟩|⟨d,rfl⟩;rcases d with d|d<;>(rw[d]at f;exact⟨3,by simpa [qR]using f⟩)
  rcases d with d|d<;>(rw[d]at f;exact⟨3,by simpa [qR]using f⟩)
 obtain⟨c,hd⟩:=hd;have:=qZ hd;obtain⟨a,B,u⟩:=this (qy (emb x)) uc;obtain⟨b,A,q⟩:=this (qy (emb y)) uc;exact⟨⟨a,B,u⟩,b,A,q⟩
theorem xL{c k:Int}(h:zN want pl c rs=.ok k):k=c:=by
 unfold zN at h
 split at h
 injection h with h;exact h.symm;cases h
theorem qq8{k:Int}(h:qR op pl rs=.ok k)(d:op≠0):k≠0:=by
 unfold qR at h;simp only[bh.2 d]at h
 repeat' split at h
 all_goals first
  | contradiction
  | (injection h with h;omega)
  | (have:=xL h;omega)
  | (rename_i a b;unfold zM at h;split at h;cases h;cases h;split at h;cases h;injection h with h;omega)
  | skip
theorem qvv:∀{c:Co} {k:Int},ClC c k->(k=3\/k=0)->ClC (vg c) 3:=by
 intro c
 induction c with
 | leaf p=>
  intro k h u;unfold vg
  split
  rfl
  split
  rfl;exact qmi h u
 | un p x ih=>
  intro k h u;unfold vg
  split
  rename_i A;simp only[dh,ew,bne_iff_ne]at A;have C:qR p.op 0 [qy (emb x)]=.ok k:=h;rw[A.1]at C;have hd:zN 3 0 3 [qy (emb x)]=.ok k:=by simpa [qR]using C
  obtain⟨a,D,B⟩:=qZ hd _ (ei ..)
  have d:a≠0:=by
   have:qR (jc (emb x)).op (jc (emb x)).M ((qM (emb x)).map qy)=.ok a:=by rw[<-yI];exact D
   refine qq8 this ?_;have:(jc (emb x)).op=opC x:=by cases x<;>rfl
   rw[this];exact A.2
  rcases B with rfl|B;exact D;exact absurd B d;exact qmi h u
 | bin p x y ihx ihy=>
  intro k h u;unfold vg
  split
  rename_i l;obtain⟨⟨a,d,f⟩,b,hb,q⟩:=gM h (Am ⟨Am (by simpa using l),rfl⟩);exact kV (An rfl) (ihx d f) (ihy hb q) (Am rfl) (Am rfl)
  split
  rename_i l;obtain⟨⟨a,d,f⟩,b,hb,q⟩:=gM h (Am ⟨An (by simpa using l),rfl⟩);exact kV (Am rfl) (ihx d f) (ihy hb q) (Am rfl) (Am rfl)
  split
  rename_i l;obtain⟨⟨a,d,f⟩,b,hb,q⟩:=gM h (An ⟨Am (by simpa using l),rfl⟩);exact ki (An rfl) hb d q f
  split
  rename_i l;obtain⟨⟨a,d,f⟩,b,hb,q⟩:=gM h (An ⟨An (by simpa using l),rfl⟩);exact ki (Am rfl) hb d q f;exact qmi h u
def PV(v:V):Prop:=v=nV\/(∃b,v=bV b)\/(∃n,v=iV n)\/∃s,v=tV s
def BN(v:V):Prop:=v=nV\/∃b,v=bV b
theorem BN.pv(h:BN v):PV v:=by rcases h with h|h;exact Am h;exact An (Am h)
theorem qfx(b:Bool):BN (bV b):=An ⟨b,rfl⟩
theorem jx{c:Prop}[Decidable c]{a b:V}(d:BN a)(hb:BN b):BN (if c then a else b):=by split;exact d;exact hb
theorem vU{c:Prop}[Decidable c]{a b:V}(d:PV a)(hb:PV b):PV (if c then a else b):=by split;exact d;exact hb
theorem qut:BN nV:=Am rfl
theorem vpz(n:Int):PV (iV n):=An (An (Am ⟨n,rfl⟩))
theorem qq4(x:V):BN (yq x):=jx (qfx _) qut
theorem qq3(x y:V):BN (qi3 x y):=jx (qfx _) (jx (qfx _) qut)
theorem vcd(x y:V):BN (orV x y):=jx (qfx _) (jx (qfx _) qut)
theorem vix(x y:V):BN (eqV x y):=jx qut (qfx _)
theorem qck(x y:V):BN (yQ x y):=jx (qfx _) qut
theorem vcc(x y:V):BN (leV x y):=jx (qfx _) qut
theorem qvm(x:V)(p e:tu):BN (qbu x p e):=jx (qfx _) qut
theorem qvl(x:V):∀(ts:List tu) (f:V),BN f->BN (ts.foldl (λf t=>orV f (eqV x (tV t))) f):=by
 intro ts
 induction ts with
 | nil=>intro f h;exact h
 | cons t r ih=>intro f _;exact ih _ (vcd _ _)
theorem vm8(op:Int)(x y:V):PV (jY op x y):=by
 have a:∀u v,PV (qkw u v):=λu v=>vU (vpz _) qut.pv
 have s:∀u v,PV (quf u v):=λu v=>vU (vpz _) qut.pv
 have m:∀u v,PV (qky u v):=λu v=>vU (vpz _) qut.pv
 have d:∀u v,PV (qsh u v):=λu v=>vU (vpz _) qut.pv
 unfold jY;exact vU (qq4 _).pv (vU (qq3 _ _).pv (vU (vcd _ _).pv (vU (vix _ _).pv (vU (qq4 _).pv (vU (qck _ _).pv (vU (qck _ _).pv (vU (vcc _ _).pv (vU (vcc _ _).pv (vU (a _ _) (vU (a _ _) (vU (s _ _) (vU (s _ _) (vU (m _ _) (vU (d _ _) (qfx _).pv))))))))))))))
theorem vq1(h:gY v=true):PV v:=by
 obtain⟨k,n,s⟩:=v;unfold gY at h;simp only at h
 by_cases h0:k=0
 .subst h0;simp at h;obtain⟨rfl,rfl⟩:=h;exact Am rfl
 by_cases h1:k=1
 .subst h1
  simp at h;obtain⟨h,rfl⟩:=h;rcases h with rfl|rfl;exact An (Am ⟨false,rfl⟩);exact An (Am ⟨true,rfl⟩)
 by_cases h2:k=2
 .subst h2;simp at h;subst h;exact An (An (Am ⟨n,rfl⟩))
 by_cases h3:k=3
 .subst h3;simp at h;obtain⟨rfl,_⟩:=h;exact An (An (An ⟨s,rfl⟩))
 simp[h0,h1,h2,h3]at h
theorem vm7(h:ym ps=true)(n:tu):PV (yh ps n):=by
 unfold yh
 split
 rename_i p hp;have f:=nj hp;obtain⟨k,d⟩:=dd f;have l:=(aj.1 d).1;unfold ym at h;simp only[dh]at h;have:=List.all_eq_true.1 h.2 k (ip.2 l);unfold qeb at this;rw[d]at this;simp only[dh]at this;exact vq1 this.1.2;exact qut.pv
theorem vq0(h:ym ps=true)(p:Pay)(s:List V):PV (ofN ps p s):=by
 unfold ofN xM;exact vU (vm7 h _) (vU (vpz _) (vU (An (An (An ⟨_,rfl⟩))) (vU (qfx _).pv (vU (qfx _).pv (vU (qq3 _ _).pv (vU (qvl _ _ _ (qfx _)).pv (vU (qvm _ _ _).pv (vm8 _ _ _))))))))
theorem vfb(h:ym ps=true)(t:Ast):PV (ofA ps t):=by rw[vhq];exact vq0 h _ _
theorem qqt(h:BN v):yq (yq v)=v:=by
 rcases h with rfl|⟨b,rfl⟩;rfl;cases b<;>rfl
theorem vek{x y:V}(f:PV x)(d:PV y):yq (qi3 x y)=orV (yq x) (yq y):=by
 rcases f with rfl|⟨b,rfl⟩|⟨n,rfl⟩|⟨s,rfl⟩<;>rcases d with rfl|⟨c,rfl⟩|⟨m,rfl⟩|⟨u,rfl⟩<;>(try cases b)<;>(try cases c)<;>simp[qi3,orV,yq,nV,bV,iV,tV]
theorem vkp{x y:V}(f:PV x)(d:PV y):yq (orV x y)=qi3 (yq x) (yq y):=by
 rcases f with rfl|⟨b,rfl⟩|⟨n,rfl⟩|⟨s,rfl⟩<;>rcases d with rfl|⟨c,rfl⟩|⟨m,rfl⟩|⟨u,rfl⟩<;>(try cases b)<;>(try cases c)<;>simp[qi3,orV,yq,nV,bV,iV,tV]
theorem qd0(x y:V):jA x y=jA y x:=by unfold jA;exact Bool.and_comm _ _
theorem qjh(x y:V):yq (yQ x y)=leV y x:=by
 unfold yQ leV;rw[qd0 y x]
 split
 .by_cases h:x.K<y.K
  .rw[di h,db (show ¬y.K<=x.K by omega)];rfl
  rw[db h,di (show y.K<=x.K by omega)];rfl
 rfl
theorem vko(x y:V):yq (leV x y)=yQ y x:=by
 rw[<-qjh];exact qqt (qck _ _)
theorem qv9(x y:V):qi3 x y=qi3 y x:=by unfold qi3;rw[Bool.or_comm,Bool.and_comm]
theorem vev(x y:V):orV x y=orV y x:=by unfold orV;rw[Bool.or_comm,Bool.and_comm]
theorem vd4(x y:V):eqV x y=eqV y x:=by
 unfold eqV
 by_cases h:x.A=y.A
 have e:decide (x=y)=decide (y=x):=by by_cases h:x=y;rw[di h,di h.symm];rw[db h,db λe=>h e.symm]
 simp[h,e];have d:¬y.A=x.A:=λe=>h e.symm
 simp[h,d]
theorem qv7(x y:V):qkw x y=qkw y x:=by unfold qkw;rw[qd0,Int.add_comm]
theorem qxr(x y:V):qky x y=qky y x:=by unfold qky;rw[qd0,Int.mul_comm]
theorem qx4(h:xY op=true)(x y:V):jY op x y=jY op y x:=by
 have:op=6\/op=7\/op=8\/op=16\/op=18:=by unfold xY at h;simpa [or_assoc]using h
 rcases this with rfl|rfl|rfl|rfl|rfl;exact qv9 x y;exact vev x y;exact vd4 x y;exact qv7 x y;exact qxr x y
section
variable {ps:List Pr}
def vC(ps:List Pr)(c:Co):V:=ofA ps (emb c)
theorem vi8(d:jp op)(x y:Co):vC ps (.bin (qq op) x y)=jY op (vC ps x) (vC ps y):=by
 have:op≠0/\op≠1/\op≠2/\op≠3/\op≠4/\op≠20/\op≠21/\op≠22:=by unfold jp at d;omega
 show ofN ps (qaq (qq op)) [ofA ps (emb x),ofA ps (emb y)]=_;simp[ofN,xM,qaq,qq,this,vC]
theorem jO(d:jp op)(x y:Co):vC ps (qp op x y)=jY op (vC ps x) (vC ps y):=by
 unfold qp
 split
 rename_i h;simp only[dh]at h;rw[vi8 d,qx4 h.1];exact vi8 d x y
theorem vbd(c:Co):vC ps (.un (qq 5) c)=yq (vC ps c):=by
 show ofN ps (qaq (qq 5)) [ofA ps (emb c)]=_;simp[ofN,xM,qaq,qq,jY,vC]
theorem qvn(h:qy t=.ok 3):BN (ofA ps t):=by
 rw[yI]at h;rw[vhq];generalize (qM t).map qy=rs at h;generalize (qM t).map (ofA ps)=vs;generalize jc t=p at *
 have q:p.op≠0/\p.op≠1/\p.op≠2/\¬(14<=p.op/\p.op<=19):=by
  refine⟨λe=>?_,λe=>?_,λe=>?_,λe=>?_⟩;rw[e]at h;simp[qR]at h;rw[e]at h;simp[qR]at h;rw[e]at h;simp[qR]at h
  have hd:zN 1 p.M 1 rs=.ok 3:=by
   have:p.op=14\/p.op=15\/p.op=16\/p.op=17\/p.op=18\/p.op=19:=ub;rcases this with e|e|e|e|e|e<;>(rw[e]at h;simpa [qR]using h)
  have:=xL hd;omega
 obtain⟨l,f,d,u⟩:=q;unfold ofN xM jY;rw[ak l,ak f,ak d,ak (show ¬p.op=14 by omega),ak (show ¬p.op=15 by omega),ak (show ¬p.op=16 by omega),ak (show ¬p.op=17 by omega),ak (show ¬p.op=18 by omega),ak (show ¬p.op=19 by omega)];exact jx (qfx _) (jx (qfx _) (jx (qq3 _ _) (jx (qvl _ _ _ (qfx _)) (jx (qvm _ _ _) (jx (qq4 _) (jx (qq3 _ _) (jx (vcd _ _) (jx (vix _ _) (jx (qq4 _) (jx (qck _ _) (jx (qck _ _) (jx (vcc _ _) (jx (vcc _ _) (qfx _))))))))))))))
theorem vi9(q:ym ps=true):∀{c:Co} {k:Int},kP c->ClC c k->(k=3\/k=0)->vC ps (vg c)=yq (vC ps c):=by
 intro c
 induction c with
 | leaf p=>
  intro k _ h B;unfold vg
  split
  rename_i e;have e:p.op=3:=by simpa using e
  simp[vC,emb,ofA,ofN,qaq,qq,e,yq,bV]
  split
  rename_i e;have e:p.op=4:=by simpa using e
  simp[vC,emb,ofA,ofN,qaq,qq,e,yq,bV];exact vbd _
 | un p x ih=>
  intro k f h B;unfold vg
  split
  .rename_i h5
   simp only[dh,ew,bne_iff_ne]at h5;have C:qR p.op 0 [qy (emb x)]=.ok k:=h;rw[h5.1]at C;have hd:zN 3 0 3 [qy (emb x)]=.ok k:=by simpa [qR]using C
   obtain⟨a,D,E⟩:=qZ hd _ (ei ..)
   have l:a≠0:=by
    have:qR (jc (emb x)).op (jc (emb x)).M ((qM (emb x)).map qy)=.ok a:=by rw[<-yI];exact D
    refine qq8 this ?_;have:(jc (emb x)).op=opC x:=by cases x<;>rfl
    rw[this];exact h5.2
   obtain rfl:a=3:=ub
   have:vC ps (.un p x)=yq (vC ps x):=by
    show ofN ps (qaq p) [ofA ps (emb x)]=_;simp[ofN,xM,qaq,h5.1,jY,vC]
   rw[this];exact(qqt (qvn D)).symm
  exact vbd _
 | bin p x y ihx ihy=>
  intro k f h B
  have hv:vC ps (.bin p x y)=jY p.op (vC ps x) (vC ps y):=by
   have d:=f.1;have:p.op≠0/\p.op≠1/\p.op≠2/\p.op≠3/\p.op≠4/\p.op≠20/\p.op≠21/\p.op≠22:=by unfold jp at d;omega
   show ofN ps (qaq p) [ofA ps (emb x),ofA ps (emb y)]=_;simp[ofN,xM,qaq,this,vC]
  unfold vg
  split
  rename_i d;have d:p.op=6:=by simpa using d
  obtain⟨⟨a,l,u⟩,b,hb,A⟩:=gM h (Am ⟨Am d,rfl⟩);rw[jO (by unfold jp;omega),ihx f.2.1 l u,ihy f.2.2 hb A,hv,d];exact(vek (vfb q _) (vfb q _)).symm
  split
  rename_i d;have d:p.op=7:=by simpa using d
  obtain⟨⟨a,l,u⟩,b,hb,A⟩:=gM h (Am ⟨An d,rfl⟩);rw[jO (by unfold jp;omega),ihx f.2.1 l u,ihy f.2.2 hb A,hv,d];exact(vkp (vfb q _) (vfb q _)).symm
  split
  rename_i d;have d:p.op=10:=by simpa using d
  rw[jO (by unfold jp;omega),hv,d];exact(qjh _ _).symm
  split
  rename_i d;have d:p.op=11:=by simpa using d
  rw[jO (by unfold jp;omega),hv,d];exact(vko _ _).symm;exact vbd _
theorem qyd(e:tu->V)(u:∀t,BN (e t)):∀(l:List tu) (f:V),BN f->l.foldl (λf t=>orV f (e t)) f=if f=bV true\/∃t∈l,e t=bV true then bV true else if f=bV false/\∀t∈l,e t=bV false then bV false else nV:=by
 intro l
 induction l with
 | nil=>
  intro f d;rcases d with rfl|⟨b,rfl⟩;simp[nV,bV];cases b<;>simp[bV]
 | cons t r ih=>
  intro f d;rw[sq,ih _ (vcd _ _)];have q:=u t;rcases d with rfl|⟨b,rfl⟩<;>rcases q with h|⟨c,h⟩<;>(try cases b)<;>(try cases c)<;>simp[h,orV,nV,bV]
theorem qj6(d:List tu)(t:tu):t∈Lib.compact d↔t∈d:=by
 unfold Lib.compact Lib.compactUpTo;simp only[eg,ou,ip];constructor;rintro⟨j,⟨l,_⟩,rfl⟩;simp[l];intro h;obtain⟨j,l⟩:=dd h;have f:=(aj.1 l).1
 have key:∀(n j:Nat),j<=n->j<d.length->∃i,(i<d.length/\Lib.keeps d.toArray i=true)/\d.toArray[i]! = d.toArray[j]! := by
  intro n
  induction n with
  | zero=>
   intro j l f;obtain rfl:j=0:=ub;exact⟨0,⟨f,Lib.keeps_lt_one _ 0 ub⟩,rfl⟩
  | succ n ih=>
   intro j l f
   by_cases hk:Lib.keeps d.toArray j=true
   exact⟨j,⟨f,hk⟩,rfl⟩
   have u:j≠0/\d.toArray[j]! = d.toArray[j - 1]! := by
    unfold Lib.keeps at hk;simp only[fj]at hk;exact⟨λe=>hk (Am e),Classical.byContradiction λe=>hk (An e)⟩
   obtain⟨i,q,e⟩:=ih (j - 1) ub ub;exact⟨i,q,e.trans u.2.symm⟩
 obtain⟨i,q,e⟩:=key j j ui f;refine⟨i,q,e.trans ?_⟩;have:=(aj.1 l).2;simp[f,this]
theorem qj7(ts:List tu)(t:tu):t∈vo ts↔t∈ts:=by
 unfold vo;rw[qj6,List.mem_mergeSort]
theorem vbc(s:tu):vC ps (vi s)=tV s:=by simp[vC,vi,emb,ofA,ofN,qaq]
theorem vh0(x:Co):∀(r:List tu) (f:Co),vC ps (za x f r)=r.foldl (λf t=>orV f (eqV (vC ps x) (tV t))) (vC ps f):=by
 intro r
 induction r with
 | nil=>intro f;rfl
 | cons t r ih=>
  intro f;rw[za,ih,sq,jO (by unfold jp;omega),jO (by unfold jp;omega),vbc];rfl
theorem vgz(x:Co)(q:ts≠[]):vC ps (vI x ts)=pT (vC ps x) ts:=by
 have hb:=λt=>vix (vC ps x) (tV t)
 have l:=qj7 ts
 have e:pT (vC ps x) ts=(vo ts).foldl (λf t=>orV f (eqV (vC ps x) (tV t))) (bV false):=by
  unfold pT;rw[qyd _ hb _ _ (qfx _),qyd _ hb _ _ (qfx _)];simp only[l]
 rw[e];unfold vI
 cases hs:vo ts with
 | nil=>
  obtain⟨a,d⟩:=List.exists_mem_of_ne_nil _ q;rw[<-l,hs]at d;cases d
 | cons t r=>
  simp only;rw[vh0,sq,jO (by unfold jp;omega),vbc]
  congr 1
  show eqV (vC ps x) (tV t)=orV (bV false) (eqV (vC ps x) (tV t));rcases hb t with h|⟨b,h⟩;rw[h];rfl;rw[h];cases b<;>rfl
end
theorem qvw(n:Int):ClC (kL n) 1:=rfl
theorem qq7(s:tu):ClC (vi s) 2:=rfl
theorem qvx(h:ClC x 0):∀(r:List tu) (f:Co),ClC f 3->ClC (za x f r) 3:=by
 intro r
 induction r with
 | nil=>intro f d;exact d
 | cons t r ih=>intro f d;exact ih _ (kV (An rfl) d (qq6 h (qq7 t) (An (Am rfl))) (Am rfl) (Am rfl))
theorem qvu(d:ClC x 0)(h:ts≠[]):ClC (vI x ts) 3:=by
 unfold vI
 cases hs:vo ts with
 | nil=>
  obtain⟨a,f⟩:=List.exists_mem_of_ne_nil _ h;rw[<-qj7,hs]at f;cases f
 | cons t r=>exact qvx d r _ (qq6 d (qq7 t) (An (Am rfl)))
theorem qsb:∀t,ShA t->∀k,qy t=.ok k->ClC (qj t) k/\∀ps,ym ps=true->vC ps (qj t)=ofA ps t:=by
 intro t
 induction t with
 | leaf p=>
  intro u k l;have l:qR p.op p.M []=.ok k:=l;have d:p.op=0\/p.op=1\/p.op=2\/p.op=3\/p.op=4:=by have:=u.1;have:=u.2;omega
  refine⟨?_,λps _=>?_⟩
  .show qR p.op 0 []=.ok k
   rw[<-l];rcases d with h|h|h|h|h<;>rw[h]<;>rfl
  show ofN ps (qaq (xU p)) []=ofN ps p [];rcases d with h|h|h|h|h<;>simp[ofN,qaq,xU,h]
 | un p x ih=>
  intro u k l;have l:qR p.op p.M [qy x]=.ok k:=l;rcases u.1 with d|d|d|d|d|d
  .rw[d]at l
   have hd:zN 3 p.M 3 [qy x]=.ok k:=by simpa [qR]using l
   obtain⟨a,A,B⟩:=qZ hd _ (ei ..);obtain⟨J,G⟩:=ih u.2.2.2 a A;obtain rfl:=xL hd;have e:qj (.un p x)=vg (qj x):=by simp[qj,d]
   rw[e];refine⟨qvv J B,λps f=>?_⟩;rw[vi9 f (pV x u.2.2.2) J B,G ps f];show _=ofN ps p [ofA ps x];simp[ofN,xM,jY,d]
  .rw[d]at l
   have hd:zN 1 p.M 1 [qy x]=.ok k:=by simpa [qR]using l
   obtain⟨a,A,B⟩:=qZ hd _ (ei ..);obtain⟨J,G⟩:=ih u.2.2.2 a A;obtain rfl:=xL hd;have e:qj (.un p x)=qp 16 (kL 0) (qj x):=by simp[qj,d]
   rw[e];refine⟨qmh ub (qvw 0) J (Am rfl) B,λps f=>?_⟩;rw[jO (by unfold jp;omega),G ps f];show _=ofN ps p [ofA ps x];simp[ofN,xM,jY,d,vC,kL,emb,qaq,ofA]
  .rw[d]at l
   have hd:zN 1 p.M 1 [qy x]=.ok k:=by simpa [qR]using l
   obtain⟨a,A,B⟩:=qZ hd _ (ei ..);obtain⟨J,G⟩:=ih u.2.2.2 a A;obtain rfl:=xL hd;have e:qj (.un p x)=qp 17 (kL 0) (qj x):=by simp[qj,d]
   rw[e];refine⟨qmh ub (qvw 0) J (Am rfl) B,λps f=>?_⟩;rw[jO (by unfold jp;omega),G ps f];show _=ofN ps p [ofA ps x];simp[ofN,xM,jY,d,vC,kL,emb,qaq,ofA]
  .have O:=u.2.2.1 (Am d)
   have Z:=u.2.1 d
   have A:qy x=.ok 0:=by
    rw[yI];have:(jc x).op=0:=by rw[<-O];cases x<;>rfl
    rw[this];rfl
   obtain⟨J,G⟩:=ih u.2.2.2 0 A;have e:qj (.un p x)=vI (qj x) p.P:=by simp[qj,d]
   rw[e];rw[d]at l;obtain rfl:k=3:=by simpa [qR]using l.symm
   refine⟨qvu J Z,λps f=>?_⟩;rw[vgz _ Z,G ps f];show _=ofN ps p [ofA ps x];simp[ofN,xM,d]
  .have O:=u.2.2.1 (An (Am d))
   have A:qy x=.ok 0:=by
    rw[yI];have:(jc x).op=0:=by rw[<-O];cases x<;>rfl
    rw[this];rfl
   obtain⟨J,G⟩:=ih u.2.2.2 0 A;have e:qj (.un p x)=.un (xU p) (qj x):=by simp[qj,d]
   rw[e];refine⟨?_,λps f=>?_⟩
   .rw[d]at l
    obtain rfl:k=3:=by simpa [qR]using l.symm
    show qR p.op 0 [qy (emb (qj x))]=.ok 3;rw[d];rfl
   show ofN ps (qaq (xU p)) [ofA ps (emb (qj x))]=ofN ps p [ofA ps x];have:=G ps f;unfold vC at this;rw[this];simp[ofN,xM,qaq,xU,d]
  have O:=u.2.2.1 (An (An d))
  have A:qy x=.ok 0:=by
   rw[yI];have:(jc x).op=0:=by rw[<-O];cases x<;>rfl
   rw[this];rfl
  obtain⟨J,G⟩:=ih u.2.2.2 0 A;have e:qj (.un p x)=.un (xU p) (qj x):=by simp[qj,d]
  rw[e];refine⟨?_,λps f=>?_⟩
  .rw[d]at l
   obtain rfl:k=3:=by simpa [qR]using l.symm
   show qR p.op 0 [qy (emb (qj x))]=.ok 3;rw[d];rfl
  show ofN ps (qaq (xU p)) [ofA ps (emb (qj x))]=ofN ps p [ofA ps x];have:=G ps f;unfold vC at this;rw[this];simp[ofN,xM,qaq,xU,d,jY]
 | bin p x y ihx ihy=>
  intro u k l;have l:qR p.op p.M [qy x,qy y]=.ok k:=l;have d:(p.op=6\/p.op=7)\/(p.op=8\/p.op=9)\/(p.op=10\/p.op=11\/p.op=12\/p.op=13)\/(p.op=16\/p.op=17\/p.op=18\/p.op=19):=uu u.1
  have S:∀ps,p.op≠9->p.op≠12->p.op≠13->ym ps=true->vC ps (qj x)=ofA ps x->vC ps (qj y)=ofA ps y->vC ps (qp p.op (qj x) (qj y))=ofA ps (.bin p x y):=by
   intro ps Y ZT FH f D C;have hb:jp p.op:=by unfold jp;omega
   rw[jO hb,D,C];show _=ofN ps p [ofA ps x,ofA ps y];have:p.op≠0/\p.op≠1/\p.op≠2/\p.op≠3/\p.op≠4/\p.op≠20/\p.op≠21/\p.op≠22:=ub;simp[ofN,xM,this]
  have U:p.op≠9->p.op≠12->p.op≠13->qj (.bin p x y)=qp p.op (qj x) (qj y):=by
   intro Y ZT FH;simp[qj,Y,ZT,FH]
  rcases d with d|d|d|d;have hd:zN 3 p.M 3 [qy x,qy y]=.ok k:=by rcases d with d|d<;>(rw[d]at l;simpa [qR]using l)
  obtain⟨a,A,B⟩:=qZ hd (qy x) uc;obtain⟨b,I,M⟩:=qZ hd (qy y) uc;obtain rfl:=xL hd;obtain⟨E,D⟩:=ihx u.2.1 a A;obtain⟨F,C⟩:=ihy u.2.2 b I;rw[U ub ub ub];exact⟨kV d E F B M,λps f=>S ps ub ub ub f (D ps f) (C ps f)⟩
  .have K:zM p.M (qy x) (qy y)=.ok k:=by rcases d with d|d<;>(rw[d]at l;simpa [qR]using l)
   obtain⟨⟨a,A⟩,b,I⟩:=pS K;rw[A,I]at K
   have X:(a=b\/a=0\/b=0)/\k=3:=by
    have K:(if(a != b&&a != 0&&b != 0)=true then CRes.err p.M else .ok 3)=.ok k:=K
    split at K
    cases K;rename_i Q;injection K with K;refine⟨?_,K.symm⟩;simp only[dh,bne_iff_ne]at Q
    by_cases q:a=b
    exact Am q
    by_cases q2:a=0
    exact An (Am q2);exact An (An (Classical.byContradiction λq3=>Q ⟨⟨q,q2⟩,q3⟩))
   obtain⟨X,rfl⟩:=X;obtain⟨E,D⟩:=ihx u.2.1 a A;obtain⟨F,C⟩:=ihy u.2.2 b I;rcases d with d|d;rw[U ub ub ub];refine⟨?_,λps f=>S ps ub ub ub f (D ps f) (C ps f)⟩;rw[d];exact qq6 E F X;have e:qj (.bin p x y)=vg (qp 8 (qj x) (qj y)):=by simp[qj,d]
   rw[e];have c8:=qq6 E F X;refine⟨qvv c8 (Am rfl),λps f=>?_⟩;rw[vi9 f (vw (by unfold jp;omega) (pV x u.2.1) (pV y u.2.2)) c8 (Am rfl),jO (by unfold jp;omega),D ps f,C ps f];show _=ofN ps p [ofA ps x,ofA ps y];simp[ofN,xM,jY,d]
  .have hd:zN 1 p.M 3 [qy x,qy y]=.ok k:=by rcases d with d|d|d|d<;>(rw[d]at l;simpa [qR]using l)
   obtain⟨a,A,B⟩:=qZ hd (qy x) uc;obtain⟨b,I,M⟩:=qZ hd (qy y) uc;obtain rfl:=xL hd;obtain⟨E,D⟩:=ihx u.2.1 a A;obtain⟨F,C⟩:=ihy u.2.2 b I
   have O5:p.op=10\/p.op=11->ClC (qj (.bin p x y)) 3/\∀ps,ym ps=true->vC ps (qj (.bin p x y))=ofA ps (.bin p x y):=λd=>by
    rw[U ub ub ub];exact⟨ki d E F B M,λps f=>S ps ub ub ub f (D ps f) (C ps f)⟩
   rcases d with d|d|d|d;exact O5 (Am d);exact O5 (An d)
   .have e:qj (.bin p x y)=qp 10 (qj y) (qj x):=by simp[qj,d]
    rw[e];refine⟨ki (Am rfl) F E M B,λps f=>?_⟩;rw[jO (by unfold jp;omega),D ps f,C ps f];show _=ofN ps p [ofA ps x,ofA ps y];simp[ofN,xM,jY,d]
   have e:qj (.bin p x y)=qp 11 (qj y) (qj x):=by simp[qj,d]
   rw[e];refine⟨ki (An rfl) F E M B,λps f=>?_⟩;rw[jO (by unfold jp;omega),D ps f,C ps f];show _=ofN ps p [ofA ps x,ofA ps y];simp[ofN,xM,jY,d]
  have hd:zN 1 p.M 1 [qy x,qy y]=.ok k:=by rcases d with d|d|d|d<;>(rw[d]at l;simpa [qR]using l)
  obtain⟨a,A,B⟩:=qZ hd (qy x) uc;obtain⟨b,I,M⟩:=qZ hd (qy y) uc;obtain rfl:=xL hd;obtain⟨E,D⟩:=ihx u.2.1 a A;obtain⟨F,C⟩:=ihy u.2.2 b I;rw[U ub ub ub];exact⟨qmh ub E F B M,λps f=>S ps ub ub ub f (D ps f) (C ps f)⟩
 | tri p x y z ihx ihy ihz=>
  intro u k l;have l:qR p.op p.M [qy x,qy y,qy z]=.ok k:=l;have d:=u.1;have hd:zN 1 p.M 3 [qy x,qy y,qy z]=.ok k:=by rw[d]at l;simpa [qR]using l
  obtain⟨a,A,B⟩:=qZ hd (qy x) uc;obtain⟨b,I,M⟩:=qZ hd (qy y) uc;obtain⟨c,e3,h3⟩:=qZ hd (qy z) uc;obtain rfl:=xL hd;obtain⟨E,D⟩:=ihx u.2.1 a A;obtain⟨F,C⟩:=ihy u.2.2.1 b I;obtain⟨cz,vz⟩:=ihz u.2.2.2 c e3;refine⟨kV (Am rfl) (ki (An rfl) F E M B) (ki (An rfl) E cz B h3) (Am rfl) (Am rfl),λps f=>?_⟩;show vC ps (qp 6 (qp 11 (qj y) (qj x)) (qp 11 (qj x) (qj z)))=_;rw[jO (by unfold jp;omega),jO (by unfold jp;omega),jO (by unfold jp;omega),D ps f,C ps f,vz ps f];show _=ofN ps p [ofA ps x,ofA ps y,ofA ps z];simp[ofN,xM,jY,d]
def NmP(p:CP):Prop:=p.op=0/\p.K=0/\p.h=[]/\yR p.V=true
def LfP(p:CP):Prop:=NmP p\/(p.op=1/\0<=p.K/\p.K<=9223372036854775807/\p.V=[]/\p.h=[])\/(p.op=2/\p.K=0/\p.h=[])\/((p.op=3\/p.op=4)/\p.K=0/\p.V=[]/\p.h=[])
def LkP(p:CP):Prop:=p.op=22/\p.K=0/\(p.h=[]\/p.h.length=1/\(zJ p.h p.V).isSome=true)
def OkC:Co->Prop
 | .leaf p=>LfP p
 | .un p x=>OkC x/\(p=qq 5\/(∃q,x=.leaf q/\NmP q)/\(p=qq 23\/LkP p))
 | .bin p x y=>OkC x/\OkC y/\∃op,jp op/\p=qq op
theorem jL(h:jp op)(f:OkC x)(d:OkC y):OkC (qp op x y):=by
 unfold qp
 split
 exact⟨d,f,op,h,rfl⟩;exact⟨f,d,op,h,rfl⟩
theorem vps{n:Int}(h:n=3\/n=4):OkC (.leaf (qq n)):=An (An (An ⟨h,rfl,rfl,rfl⟩))
theorem vhr:∀{c:Co},OkC c->OkC (vg c):=by
 intro c
 induction c with
 | leaf p=>
  intro h;unfold vg
  split
  exact vps (An rfl)
  split
  exact vps (Am rfl);exact⟨h,Am rfl⟩
 | un p x ih=>
  intro h;unfold vg
  split
  exact h.1;exact⟨h,Am rfl⟩
 | bin p x y ihx ihy=>
  intro h;unfold vg
  split
  exact jL (by unfold jp;omega) (ihx h.1) (ihy h.2.1)
  split
  exact jL (by unfold jp;omega) (ihx h.1) (ihy h.2.1)
  split
  exact jL (by unfold jp;omega) h.2.1 h.1
  split
  exact jL (by unfold jp;omega) h.2.1 h.1;exact⟨h,Am rfl⟩
theorem qya(t:tu):OkC (vi t):=An (An (Am ⟨rfl,rfl,rfl⟩))
theorem veq(h:OkC x):∀(r:List tu) (f:Co),OkC f->OkC (za x f r):=by
 intro r
 induction r with
 | nil=>intro f d;exact d
 | cons t r ih=>intro f d;exact ih _ (jL (by unfold jp;omega) d (jL (by unfold jp;omega) h (qya t)))
theorem vep(d:OkC x)(ts:List tu):OkC (vI x ts):=by
 unfold vI
 cases vo ts with
 | nil=>exact d
 | cons t r=>exact veq d r _ (jL (by unfold jp;omega) d (qya t))
theorem qjc{x:Ast}(d:opA x=0)(hs:ShA x)(f:BzA x):∃q,qj x=.leaf q/\NmP q:=by
 cases x with
 | leaf p=>have d:p.op=0:=d;exact⟨xU p,rfl,d,f.N d⟩
 | un p y=>have d:p.op=0:=d;have:=hs.1;omega
 | bin p y z=>have d:p.op=0:=d;have:=hs.1;omega
 | tri p y z u=>have d:p.op=0:=d;have:=hs.1;omega
theorem qy9:OkC (kL 0):=An (Am ⟨rfl,ue,ue,rfl,rfl⟩)
theorem vks:∀t,ShA t->BzA t->qia t->OkC (qj t):=by
 intro t
 induction t with
 | leaf p=>
  intro l f u;have d:p.op=0\/p.op=1\/p.op=2\/p.op=3\/p.op=4:=by have:=l.1;have:=l.2;omega
  rcases d with h|h|h|h|h;exact Am ⟨h,f.N h⟩;have:=f.K h;exact An (Am ⟨h,this.1,u.2,this.2.1,this.2.2⟩);have:=f.Q h;exact An (An (Am ⟨h,this.1,this.2⟩));exact An (An (An ⟨Am h,f.bare (Am h)⟩));exact An (An (An ⟨An h,f.bare (An (Am h))⟩))
 | un p x ih=>
  intro l f u;have q:=ih l.2.2.2 f.2 u.2;rcases l.1 with d|d|d|d|d|d;have e:qj (.un p x)=vg (qj x):=by simp[qj,d]
  rw[e];exact vhr q;have e:qj (.un p x)=qp 16 (kL 0) (qj x):=by simp[qj,d]
  rw[e];exact jL (by unfold jp;omega) qy9 q;have e:qj (.un p x)=qp 17 (kL 0) (qj x):=by simp[qj,d]
  rw[e];exact jL (by unfold jp;omega) qy9 q;have e:qj (.un p x)=vI (qj x) p.P:=by simp[qj,d]
  rw[e];exact vep q _;have e:qj (.un p x)=.un (xU p) (qj x):=by simp[qj,d]
  rw[e];have B:=f.1.like d;exact⟨q,An ⟨qjc (l.2.2.1 (An (Am d))) l.2.2.2 f.2,An ⟨d,B.1,B.2⟩⟩⟩;have e:qj (.un p x)=.un (xU p) (qj x):=by simp[qj,d]
  rw[e];have hb:=f.1.bare (An (An (An d)));refine⟨q,An ⟨qjc (l.2.2.1 (An (An d))) l.2.2.2 f.2,Am ?_⟩⟩;unfold xU qq;rw[d,hb.1,hb.2.1,hb.2.2]
 | bin p x y ihx ihy=>
  intro l f u;have q:=ihx l.2.1 f.2.1 u.2.1;have A:=ihy l.2.2 f.2.2 u.2.2;have d:=l.1
  by_cases F6:p.op=12
  .simp[qj,F6];exact jL (by unfold jp;omega) A q
  by_cases T4:p.op=13
  .simp[qj,T4];exact jL (by unfold jp;omega) A q
  by_cases h9:p.op=9
  .simp[qj,h9];exact vhr (jL (by unfold jp;omega) q A)
  simp[qj,F6,T4,h9];exact jL (by unfold jp;omega) q A
 | tri p x y z ihx ihy ihz=>
  intro l f u;have q:=ihx l.2.1 f.2.1 u.2.1;exact jL (by unfold jp;omega) (jL (by unfold jp;omega) (ihy l.2.2.1 f.2.2.1 u.2.2.1) q) (jL (by unfold jp;omega) q (ihz l.2.2.2 f.2.2.2 u.2.2.2))
def sgK(op:Int):Int:=if op==6 then 5 else if op==7 then 6 else if op==8 then 16 else if op==10 then 18 else if op==11 then 19 else if op==16 then 22 else if op==17 then 23 else if op==18 then 24 else 25
def vd7(e:List UInt8):List Tk:=if e.isEmpty then[] else[qi 13,⟨4,0,e⟩]
def qal(p:CP)(l r:List Tk):List Tk:=
 if p.op==0 then[⟨2,0,p.V⟩] else if p.op==1 then[⟨3,p.K,[]⟩] else if p.op==2 then[⟨4,0,p.V⟩] else if p.op==3 then[qi 8] else if p.op==4 then[qi 9]
 else if p.op==5 then qi 26::qi 7::(l++[qi 27]) else if p.op==23 then qi 26::(l++[qi 14,qi 15,qi 27])
 else if p.op==22 then qi 26::(l++qi 12::⟨4,0,p.V⟩::(vd7 p.h++[qi 27]))
 else qi 26::(l++qi (sgK p.op)::(r++[qi 27]))
def toks:Co->List Tk
 | .leaf p=>qal p [] []
 | .un p x=>qal p (toks x) []
 | .bin p x y=>qal p (toks x) (toks y)
theorem vkc{s:tu}(h:yR s=true):Lx s [⟨2,0,s⟩]:=by
 unfold yR at h;simp only[dh,fj,ew]at h;obtain⟨⟨f,d⟩,B⟩:=h
 cases s with
 | nil=>simp[qB]at f
 | cons c t=>
  have hb:yH c=true:=by
   by_cases hb:yH c=true
   exact hb;simp[qB,hb]at f
  have u:spU c=false:=by
   unfold yH qbj at hb;unfold spU spB;simp at hb |-;omega
  have l:qS (c::t) 0=0:=by unfold qS;simp[qA,u]
  have q:0<(c::t).length:=uc;have A:(c::t).take (qB (c::t))=c::t:=by rw[d];exact im
  have D:qQ (c::t) 0=⟨2,0,c::t⟩:=by
   unfold qQ;rw[l,bo q,dw];show(if yH c then j9 (c::t) else _)=_;rw[bo hb];unfold j9;rw[A,bo B]
  have C:vk (c::t) 0=(c::t).length:=by
   unfold vk;rw[l,bo q,dw,ee];show(if yH c then qB (c::t) else _)=_;rw[bo hb,d]
  exact .cons D (show(2:Int)≠0 by decide) (by rw[C,List.drop_length];exact g9)
theorem vj6(u:Nat):Lib.decDigits u=qcs u:=by
 induction u using Nat.strongRecOn with
 | ind u ih=>
  by_cases h:u<10
  rw[Lib.decDigits,dif_pos h,gO h];unfold dig;rw[Nat.mod_eq_of_lt h];rw[Lib.decDigits,dif_neg h,pW h,ih (u / 10) ub];rfl
theorem qxl{n:Int}(f:0<=n)(d:n<=9223372036854775807):Lx (Lib.itoa n) [⟨3,n,[]⟩]:=by
 have:=qxj (n:=n.toNat) ub (r:=[]) (λc h=>by cases h) g9;rw[fw,show((n.toNat:Nat):Int)=n by omega]at this;unfold Lib.itoa;rw[ak ub,vj6];exact this
theorem vr9(s r:tu)(h:Lx r L)(d:∀c,r.head?=G c->(c==39)=false):Lx (qL s++r) (⟨4,0,s⟩::L):=by
 have:=qxm h d s;unfold qL;simpa using this
theorem vke(d:jp op){r:tu}(h:Lx r L):Lx (jw op++32::r) (qi (sgK op)::L):=by
 have hs:=zt h;have:op=6\/op=7\/op=8\/op=10\/op=11\/op=16\/op=17\/op=18\/op=19:=by unfold jp at d;omega
 rcases this with rfl|rfl|rfl|rfl|rfl|rfl|rfl|rfl|rfl;exact vpf h;exact vr8 h
 .exact .cons (k:=qi 16) rfl (show(16:Int)≠0 by decide) hs
 .exact .cons (k:=qi 18) rfl (show(18:Int)≠0 by decide) hs
 .exact .cons (k:=qi 19) rfl (show(19:Int)≠0 by decide) hs
 .exact .cons (k:=qi 22) rfl (show(22:Int)≠0 by decide) hs
 .exact .cons (k:=qi 23) rfl (show(23:Int)≠0 by decide) hs
 .exact .cons (k:=qi 24) rfl (show(24:Int)≠0 by decide) hs
 exact .cons (k:=qi 25) rfl (show(25:Int)≠0 by decide) hs
theorem vkb(e:tu):Lx (qi4 e++[41]) (vd7 e++[qi 27])/\∀c,(qi4 e++[41]).head?=G c->(c==39)=false:=by
 unfold qi4 vd7
 split
 exact⟨qa1 g9,λc h=>by simp at h;subst h;rfl⟩;refine⟨?_,λc h=>by simp at h;subst h;rfl⟩;have d:=vr9 e [41] (qa1 g9) (λc h=>by simp at h;subst h;rfl);exact zt (.cons (k:=qi 13) rfl (show(13:Int)≠0 by decide) (zt d))
theorem vkd:Lx (78::85::76::76::41::[]) [qi 15,qi 27]:=.cons (k:=qi 15) rfl (show(15:Int)≠0 by decide) (qa1 g9)
theorem qxk:Lx (73::83::32::78::85::76::76::41::[]) [qi 14,qi 15,qi 27]:=.cons (k:=qi 14) rfl (show(14:Int)≠0 by decide) (zt vkd)
theorem ve7{r:tu}(h:Lx r L):Lx (76::73::75::69::32::r) (qi 12::L):=.cons (k:=qi 12) rfl (show(12:Int)≠0 by decide) (zt h)
theorem vq9(op:Int):sgK op≠1:=by
 unfold sgK
 repeat' split
 all_goals decide
theorem qxi:∀c,OkC c->Lx (qt c) (toks c)/\∀k∈toks c,k.A≠1:=by
 intro c
 induction c with
 | leaf p=>
  intro h;show Lx (qI p [] []) (qal p [] [])/\∀k∈qal p [] [],k.A≠1;rcases h with⟨h,_,_,E⟩|⟨h,E,K,_⟩|⟨h,_⟩|⟨h|h,_⟩;simp[qI,qal,h];exact vkc E;simp[qI,qal,h];exact qxl E K;simp[qI,qal,h];have:=vr9 p.V [] g9 (λc h=>by cases h);simpa using this
  .simp[qI,qal,h,qi]
   exact .cons (k:=qi 8) rfl (show(8:Int)≠0 by decide) g9
  simp[qI,qal,h,qi];exact .cons (k:=qi 9) rfl (show(9:Int)≠0 by decide) g9
 | un p x ih=>
  intro h;obtain⟨D,q⟩:=ih h.1;show Lx (qI p (qt x) []) (qal p (toks x) [])/\∀k∈qal p (toks x) [],k.A≠1;rcases h.2 with rfl|⟨_,rfl|hp⟩
  .have l:qI (qq 5) (qt x) []=40::78::79::84::32::(qt x++41::[]):=by simp[qI,qq]
   have f:qal (qq 5) (toks x) []=qi 26::qi 7::(toks x++[qi 27]):=by simp[qal,qq]
   rw[l,f];refine⟨qgl (.cons (k:=qi 7) rfl (show(7:Int)≠0 by decide) (zt (qj2 vi3 (qa1 g9) D q))),λk d=>?_⟩;simp only[eo,cr,mg,or_false]at d;rcases d with rfl|rfl|d|rfl;decide;decide;exact q k d;decide
  have l:qI (qq 23) (qt x) []=40::(qt x++32::73::83::32::78::85::76::76::41::[]):=by simp[qI,qq]
  have f:qal (qq 23) (toks x) []=qi 26::(toks x++[qi 14,qi 15,qi 27]):=by simp[qal,qq]
  rw[l,f];refine⟨qgl (qj2 van (zt qxk) D q),λk d=>?_⟩;simp only[eo,cr,mg,or_false]at d;rcases d with rfl|d|rfl|rfl|rfl;decide;exact q k d;decide;decide;decide;have u:=hp.1;have l:qI p (qt x) []=40::(qt x++32::76::73::75::69::32::(qL p.V++(qi4 p.h++[41]))):=by simp[qI,u]
  have f:qal p (toks x) []=qi 26::(toks x++qi 12::⟨4,0,p.V⟩::(vd7 p.h++[qi 27])):=by simp[qal,u]
  rw[l,f];obtain⟨G,F⟩:=vkb p.h;refine⟨qgl (qj2 van (zt (ve7 (vr9 p.V _ G F))) D q),λk d=>?_⟩;simp only[eo,cr,mg,or_false]at d;rcases d with rfl|d|rfl|rfl|d|rfl;decide;exact q k d;decide;exact(by decide:(4:Int)≠1);unfold vd7 at d
  split at d
  cases d;simp only[eo,mg,or_false]at d;rcases d with rfl|rfl;decide;exact(by decide:(4:Int)≠1);decide
 | bin p x y ihx ihy=>
  intro h;obtain⟨J,C⟩:=ihx h.1;obtain⟨I,B⟩:=ihy h.2.1;obtain⟨op,u,rfl⟩:=h.2.2;have A:op≠0/\op≠1/\op≠2/\op≠3/\op≠4/\op≠5/\op≠22/\op≠23:=by unfold jp at u;omega
  have l:qt (.bin (qq op) x y)=40::(qt x++32::(jw op++32::(qt y++41::[]))):=by simp[qt,qI,qq,A]
  have f:toks (.bin (qq op) x y)=qi 26::(toks x++qi (sgK op)::(toks y++[qi 27])):=by simp[toks,qal,qq,A]
  rw[l,f];refine⟨qgl (qj2 van (zt (vke u (qj2 vi3 (qa1 g9) I B))) J C),λk d=>?_⟩;simp only[eo,cr,mg,or_false]at d;rcases d with rfl|d|rfl|d|rfl;decide;exact C k d;exact vq9 op;exact B k d;decide
section
variable {L:T3} {ts:TS} {t:Ast} {R:List Tk} {o:Nat}
end
theorem vn5(h:OkC c)(R:List Tk):(hd (toks c++R)).A≠7:=by
 cases c with
 | leaf p=>
  show(hd (qal p [] []++R)).A≠7;rcases h with⟨h,_⟩|⟨h,_⟩|⟨h,_⟩|⟨h|h,_⟩<;>simp[qal,h,hd,qi]
 | un p x=>
  show(hd (qal p (toks x) []++R)).A≠7;rcases h.2 with rfl|⟨_,rfl|hp⟩;simp[qal,qq,hd,qi];simp[qal,qq,hd,qi];simp[qal,hp.1,hd,qi]
 | bin p x y=>
  show(hd (qal p (toks x) (toks y)++R)).A≠7;obtain⟨op,f,rfl⟩:=h.2.2;have d:op≠0/\op≠1/\op≠2/\op≠3/\op≠4/\op≠5/\op≠22/\op≠23:=by unfold jp at f;omega
  simp[qal,qq,d,hd,qi]
theorem vpg:∀{s:tu} {L:List Tk},Lx s L->∀{L':List Tk},Lx s L'->L=L':=by
 intro s L h
 induction h with
 | nil h=>
  intro L' d
  cases d with
  | nil _=>rfl
  | cons e hk t=>rw[h]at e;subst e;exact absurd rfl hk
 | cons e hk t ih=>
  intro L' d
  cases d with
  | nil h=>rw[h]at e;subst e;exact absurd rfl hk
  | cons e' I3 t'=>subst e;subst e';rw[ih t']
def vnt(k:Tk):CP:=if k.A=2 then⟨0,0,k.V,[]⟩ else if k.A=3 then⟨1,k.K,[],[]⟩ else if k.A=4 then⟨2,0,k.V,[]⟩ else if k.A=8 then qq 3 else qq 4
theorem qxb(h:LfP p):∃k,toks (.leaf p)=[k]/\p=vnt k/\k.A≠26/\k.A≠7:=by
 obtain⟨op,num,str,esc⟩:=p;rcases h with⟨a,b,c,_⟩|⟨a,_,_,b,c⟩|⟨a,b,c⟩|⟨a,b,c,d⟩
 .simp only at a b c;subst a b c;exact⟨⟨2,0,str⟩,rfl,rfl,by show(2:Int)≠26;decide,by show(2:Int)≠7;decide⟩
 .simp only at a b c;subst a b c;exact⟨⟨3,num,[]⟩,rfl,rfl,by show(3:Int)≠26;decide,by show(3:Int)≠7;decide⟩
 .simp only at a b c;subst a b c;exact⟨⟨4,0,str⟩,rfl,rfl,by show(4:Int)≠26;decide,by show(4:Int)≠7;decide⟩
 simp only at a b c d;subst b c d;rcases a with a|a<;>subst a
 exact⟨qi 8,rfl,rfl,ue,ue⟩;exact⟨qi 9,rfl,rfl,ue,ue⟩
inductive CV:Co->List Tk->Prop
 | leaf (k:Tk):k.A≠26->k.A≠7->CV (.leaf (vnt k)) [k]
 | no (x:Co):OkC x->CV (.un (qq 5) x) (qi 26::qi 7::(toks x++[qi 27]))
 | null (x:Co):OkC x->CV (.un (qq 23) x) (qi 26::(toks x++qi 14::[qi 15,qi 27]))
 | like (s e:List UInt8) (x:Co):OkC x->CV (.un ⟨22,0,s,e⟩ x) (qi 26::(toks x++qi 12::⟨4,0,s⟩::(vd7 e++[qi 27])))
 | bin (op:Int) (x y:Co):jp op->OkC x->OkC y->CV (.bin (qq op) x y) (qi 26::(toks x++qi (sgK op)::(toks y++[qi 27])))
theorem vca(d:jp op)(x y:Co):toks (.bin (qq op) x y)=qi 26::(toks x++qi (sgK op)::(toks y++[qi 27])):=by
 show qal (qq op) (toks x) (toks y)=_;unfold jp at d;unfold qal qq;simp only;rw[ak ud,ak ud,ak ud,ak ud,ak ud,ak ud,ak ud,ak ud]
theorem vn8(h:OkC c):CV c (toks c):=by
 cases c with
 | leaf p=>
  obtain⟨k,C,B,A,u⟩:=qxb h;rw[C,B];exact .leaf k A u
 | un p x=>
  obtain⟨d,rfl|⟨_,rfl|q⟩⟩:=h;exact .no x d;exact .null x d;obtain⟨op,num,str,esc⟩:=p;obtain⟨a,b,_⟩:=q;simp only at a b;subst a b;exact .like str esc x d
 | bin p x y=>
  obtain⟨d,l,op,f,rfl⟩:=h;rw[vca f];exact .bin op x y f d l
theorem vb2(h:OkC c):∃k t,toks c=k::t/\k.A≠7:=by
 have d:=vn5 h [];have hv:=vn8 h;generalize toks c=l at hv d
 cases hv with
 | leaf k a b=>exact⟨k,[],rfl,b⟩
 | no x _=>exact⟨_,_,rfl,ue⟩
 | null x _=>exact⟨_,_,rfl,ue⟩
 | like s e x _=>exact⟨_,_,rfl,ue⟩
 | bin op x y _ _ _=>exact⟨_,_,rfl,ue⟩
theorem no7(h:OkC x){t:List Tk}(e:qi 7::t=toks x++r):False:=by
 obtain⟨k,u,f,d⟩:=vb2 h;rw[f,dk]at e;injection e with e _;exact d (e ▸ rfl)
theorem qhs:sgK op≠14/\sgK op≠12:=by
 unfold sgK
 repeat' split
 all_goals decide
theorem vml{b:Int}(d:jp a)(hb:jp b)(h:sgK a=sgK b):a=b:=by
 have key:∀o,jp o->o=6\/o=7\/o=8\/o=10\/o=11\/o=16\/o=17\/o=18\/o=19:=λo h=>by unfold jp at h;omega
 rcases key a d with rfl|rfl|rfl|rfl|rfl|rfl|rfl|rfl|rfl<;>rcases key b hb with rfl|rfl|rfl|rfl|rfl|rfl|rfl|rfl|rfl<;>first|rfl|exact absurd h ue
theorem vje{e f:tu}(h:vd7 e++[qi 27]++r=vd7 f++[qi 27]++s):e=f/\r=s:=by
 unfold vd7 at h
 cases e with
 | nil=>
  cases f with
  | nil=>exact⟨rfl,by simpa using h⟩
  | cons a b=>simp[qi]at h
 | cons a b=>
  cases f with
  | nil=>simp[qi]at h
  | cons c d=>simp at h;exact⟨by rw[h.1.1,h.1.2],h.2⟩
theorem gg{b:Int}(h:qi a::r=qi b::s):a=b/\r=s:=by
 injection h with d f;injection d with d;exact⟨d,f⟩
theorem vgu:∀c,OkC c->∀d,OkC d->∀r s:List Tk,toks c++r=toks d++s->c=d/\r=s:=by
 intro c
 induction c with
 | leaf p=>
  intro u d hd r s h;have v:=vn8 u;have w:=vn8 hd;generalize toks (.leaf p)=l at v h;generalize toks d=m at w h
  cases v with
  | leaf k a b=>
   cases w with
   | leaf k' a' b'=>simp at h;exact⟨by rw[h.1],h.2⟩
   | _=>simp at h;exact absurd (by rw[h.1];rfl) a
 | un p x ih=>
  intro u d hd r s h;have v:=vn8 u;have w:=vn8 hd;have q:=u.1;generalize toks (.un p x)=l at v h;generalize toks d=m at w h
  cases v with
  | no x _=>
   cases w with
   | leaf k' a' b'=>simp at h;exact absurd (by rw[<-h.1];rfl) a'
   | no x' F7=>
    simp only[dk,bu]at h;obtain⟨rfl,f⟩:=ih q x' F7 _ _ (by injection h with _ h;injection h);exact⟨rfl,by simpa using f⟩
   | null x' F7=>simp only[dk,bu]at h;injection h with _ h;exact(no7 F7 h).elim
   | like s' e' x' F7=>simp only[dk,bu]at h;injection h with _ h;exact(no7 F7 h).elim
   | bin op x' y' _ F7 _=>simp only[dk,bu]at h;injection h with _ h;exact(no7 F7 h).elim
  | null x _=>
   cases w with
   | leaf k' a' b'=>simp at h;exact absurd (by rw[<-h.1];rfl) a'
   | no x' F7=>simp only[dk,bu]at h;injection h with _ h;exact(no7 q h.symm).elim
   | null x' F7=>
    simp only[dk,bu]at h;obtain⟨rfl,f⟩:=ih q x' F7 _ _ (by injection h);exact⟨rfl,by simpa using f⟩
   | like s' e' x' F7=>
    simp only[dk,bu]at h;obtain⟨rfl,f⟩:=ih q x' F7 _ _ (by injection h);exact absurd (gg f).1 ue
   | bin op x' y' _ F7 _=>
    simp only[dk,bu]at h;obtain⟨rfl,f⟩:=ih q x' F7 _ _ (by injection h);exact absurd (gg f).1.symm qhs.1
  | like s0 e0 x _=>
   cases w with
   | leaf k' a' b'=>simp at h;exact absurd (by rw[<-h.1];rfl) a'
   | no x' F7=>simp only[dk,bu]at h;injection h with _ h;exact(no7 q h.symm).elim
   | null x' F7=>
    simp only[dk,bu]at h;obtain⟨rfl,f⟩:=ih q x' F7 _ _ (by injection h);exact absurd (gg f).1 ue
   | like s' e' x' F7=>
    simp only[dk,bu]at h;obtain⟨rfl,f⟩:=ih q x' F7 _ _ (by injection h);obtain⟨_,C⟩:=gg f;injection C with A B;injection A with _ _ A;subst A;obtain⟨rfl,E⟩:=vje (by simpa using B);exact⟨rfl,E⟩
   | bin op x' y' _ F7 _=>
    simp only[dk,bu]at h;obtain⟨rfl,f⟩:=ih q x' F7 _ _ (by injection h);exact absurd (gg f).1.symm qhs.2
 | bin p x y ihx ihy=>
  intro u d hd r s h;have v:=vn8 u;have w:=vn8 hd;have q:=u.1;have D:=u.2.1;generalize toks (.bin p x y)=l at v h;generalize toks d=m at w h
  cases v with
  | bin op x y ho _ _=>
   cases w with
   | leaf k' a' b'=>simp at h;exact absurd (by rw[<-h.1];rfl) a'
   | no x' F7=>simp only[dk,bu]at h;injection h with _ h;exact(no7 q h.symm).elim
   | null x' F7=>
    simp only[dk,bu]at h;obtain⟨rfl,f⟩:=ihx q x' F7 _ _ (by injection h);exact absurd (gg f).1 qhs.1
   | like s' e' x' F7=>
    simp only[dk,bu]at h;obtain⟨rfl,f⟩:=ihx q x' F7 _ _ (by injection h);exact absurd (gg f).1 qhs.2
   | bin op' x' y' dS F7 bC=>
    simp only[dk,bu]at h;obtain⟨rfl,f⟩:=ihx q x' F7 _ _ (by injection h);obtain⟨C,A⟩:=gg f;obtain rfl:=vml ho dS C;obtain⟨rfl,B⟩:=ihy D y' bC _ _ A;exact⟨rfl,by simpa using B⟩
theorem vag{d:Co}(f:OkC c)(hd:OkC d)(h:qt c=qt d):c=d:=by
 have l:=(qxi c f).1;have q:=(qxi d hd).1;rw[h]at l;exact(vgu c f d hd [] [] (by rw[vpg l q])).1
theorem quk(le q:Int)(f:Nat->Ao->Prop)(w:Ao)(v:Ap)(l:List Ox)(hl:OpsAt w v l)(h0:f 0 (w.alloc (Al #[C O 0 0,C O 0 0] 30)))(F4:∀k W,f k W->Xb w W)(Z7:∀k W W',f k W->Xb W W'->f k W')(u:∀k W,f k W->f (k+1) W)
  (bD:∀k W x,k<l.length->f k W->OxOk w x->((le<=x.A/\x.A<=q)\/(5<=x.A/\5<=q))->ua 9 #[Ag (G ⟨w.1.size,0,O⟩),oxV x] W λe W'=>e=Ak (Ah true)/\f (k+1) W')
  (d:∀k W,k<=l.length->f k W->ua 10 #[Ag (G ⟨w.1.size,0,O⟩)] W λe W'=>e=Ak (Ah true)/\f k W') :
  ua 7 #[v,I J le,I J q] w λe w'=>e=Ak (I J (-1))/\f l.length w':=by
 obtain⟨a,cap,rfl,dA,dE,JO⟩:=hl;obtain⟨n,Z⟩:=it l.length;rw[Z]at dA dE bD d |-;have HN:=qd Z;have HO:=qd JO;have H0:=qd h0;have S:=qd F4;have uL:=qd Z7;have Q:=qd u;have rG:=qd bD;have ND:=qd d;clear Z JO h0 F4 Z7 bD d u;go_enter func7,ntmps7
 go_wp2
 go_loopw [8] (λi wr=>∃k:Nat,k<=n/\i=I J k/\Hid (f k wr)) (λi _=>n - (intOf i).toNat)
 exact⟨0,bt _,rfl,H0⟩;clear H0;obtain⟨k,hk,rfl,XE⟩:=hrel
 by_cases A1:k<n
 .obtain⟨x,hx⟩:∃x,l[k]?=G x:=⟨_,ag (uu (q9 HN))⟩
  obtain⟨ok,b,off,rfl,hb,hc⟩:=q9 HO k x hx;have cC:=q9 S _ _ XE;have bS:b<wr.1.size:=uu cC.size
  have B:∀j,j<6->wr.cell? ⟨b,off+k * 6+j,O⟩=(qdj x)[j]?:=λj hj=>((qk cC).1 _ _ hb).trans (hc j hj)
  have V5:∃F D E,x.ev=C F D E:=ok.ev.slice;obtain⟨kind,nn,id,text,X,U,ts,ev,ps⟩:=x;obtain⟨F,D,E,C8⟩:=V5;simp only at C8;subst C8;obtain⟨lt,J9⟩:∃t,ts.length=t:=⟨_,rfl⟩;have c0:Xc wr b (off+k * 6) (I J kind):=B 0 ub;have c1:Xc wr b (off+k * 6+1) (I J nn):=B 1 ub;have c2:Xc wr b (off+k * 6+2) (I J id):=B 2 ub;have c3:Xc wr b (off+k * 6+3) (Y (BS text)):=B 3 ub;have c4:Xc wr b (off+k * 6+4) (C X ts.length U):=B 4 ub;have c5:Xc wr b (off+k * 6+5) (C F D E):=B 5 ub;have PB:=(Below.refl wr.1.size wr).alloc ui (Al #[I J kind,I J nn,I J id,Y (BS text),C X ts.length U,C F D E] 34);have HW:=qd (uL _ _ _ XE PB);have LKS:Hid (∀W,f (k+1) W->ua 10 #[Ag (G ⟨w.1.size,0,O⟩)] W λe W'=>e=Ak (Ah true)/\f (k+1) W'):=qd λW h=>q9 ND (k+1) W ub h
  have STP:Hid (((le<=kind/\kind<=q)\/(5<=kind/\5<=q))->∀W,f k W->ua 9 #[Ag (G ⟨w.1.size,0,O⟩),Ai #[I J kind,I J nn,I J id,Y (BS text),C X ts.length U,C F D E]] W λe W'=>e=Ak (Ah true)/\f (k+1) W'):=qd λhh W A=>q9 rG k W ⟨kind,nn,id,text,X,U,ts,C F D E,ps⟩ A1 A ok hh
  rw[J9]at c4 HW STP;have HWM:=qd (Q _ _ HW);have T9:=um k;have A4:=uo k n;have nb:¬b=wr.1.size:=ub;clear hx ok hc cC B PB HO rG uL S Q ND J9
  by_cases Q6:(le<=kind/\kind<=q)\/(5<=kind/\5<=q)
  .have STP:=qd (STP Q6)
   rcases(show(le<=kind/\kind<=q)\/(le<=kind/\¬kind<=q/\¬kind<5/\¬q<5)\/(¬le<=kind/\¬kind<5/\¬q<5) by omega) with⟨A,h2⟩|⟨A,h2,M,h4⟩|⟨A,M,h4⟩
   all_goals
    clear Q6
    go_wp2_with(first|(go_at_call 9;refine be (STP _ HW) λw2 IX=>?_;have QH:=qd IX;clear IX)|(go_at_call 10;refine be (LKS _ QH) λw3 K=>?_;have HW3:=qd K;clear K))
    go_roundw
    case rel=>exact⟨k+1,ub,by go_num,HW3⟩
    simp[intOf];omega
  clear STP;rcases(show(le<=kind/\¬kind<=q/\kind<5)\/(le<=kind/\¬kind<=q/\¬kind<5/\q<5)\/(¬le<=kind/\kind<5)\/(¬le<=kind/\¬kind<5/\q<5) by omega) with⟨A,h2,M⟩|⟨A,h2,M,h4⟩|⟨A,M⟩|⟨A,M,h4⟩
  all_goals
   clear Q6
   go_wp2
   go_roundw
   case rel=>exact⟨k+1,ub,by go_num,HWM⟩
   simp[intOf];omega
 have nX:=uq k n;have aC:k=n:=ub
 go_wp2
 go_ret;exact⟨rfl,aC ▸ q9 XE⟩
def qdh(m:Nat):Ap:=I J (-1099511627776 - (m:Int))
def qcl(m:Nat):Ap:=I .u8 ((m:Int) % 256)
def MkS(N:Nat->Prop)(T:TypeId)(W:Ao)(v x:Ap):Prop:=∃a n c,v=C a n c/\n<=1000000000/\∀j,j<n->∃b cur,a=G ⟨b,0,O⟩/\N b/\W.1[b]?=G (Al cur T (0,0))/\W.cell? ⟨b,j,O⟩=G x
section
variable {N N':Nat->Prop} {W W':Ao} {v x:Ap} {T:TypeId}
theorem p9{o:Obj}(h:W.1[b]?=G o):b<W.1.size:=(cf.1 h).1
theorem MkS.keep(h:MkS N T W v x)(l:∀b,N b->b<W.1.size->W'.1[b]?=W.1[b]?)(B:∀b,N b->b<W.1.size->N' b):MkS N' T W' v x:=by
 obtain⟨a,n,c,e,u,h⟩:=h;refine⟨a,n,c,e,u,λj A=>?_⟩;obtain⟨b,cur,e,f,q,C⟩:=h j A;have d:=p9 q;exact⟨b,cur,e,B b f d,(l b f d).trans q,(aw (w:=W) (a:=⟨b,j,O⟩) (l b f d)).trans C⟩
end
structure HdAt(N:Nat->Prop)(W:Ao)(hb m:Nat):Prop where
 nb:N hb
 ty:∃cur,W.1[hb]?=G (Al cur 74 (0,0))
 lists:∃nv bv,W.cell? ⟨hb,0,O⟩=G nv/\W.cell? ⟨hb,1,O⟩=G bv/\MkS N 3 W nv (qdh m)/\MkS N 5 W bv (qcl m)
 mark:W.cell? ⟨hb,2,O⟩=G (I J (m:Int))
theorem HdAt.lt(h:HdAt N W hb m):hb<W.1.size:=by
 obtain⟨c,d⟩:=h.ty;exact p9 d
theorem HdAt.keep{N':Nat->Prop}(h:HdAt N W hb m)(d:∀b,N b->b<W.1.size->W'.1[b]?=W.1[b]?)(l:∀b,N b->b<W.1.size->N' b):HdAt N' W' hb m:=by
 obtain⟨nv,bv,B,A,u,q⟩:=h.lists;have f:∀i,W'.cell? ⟨hb,i,O⟩=W.cell? ⟨hb,i,O⟩:=λi=>aw (w:=W) (a:=⟨hb,i,O⟩) (d hb h.nb h.lt)
 obtain⟨cur,C⟩:=h.ty;exact⟨l hb h.nb h.lt,⟨cur,(d hb h.nb h.lt).trans C⟩,⟨nv,bv,(f 0).trans B,(f 1).trans A,u.keep d l,q.keep d l⟩,(f 2).trans h.mark⟩
theorem HdAt.below(h:HdAt N W hb m)(f:Xb W W'):HdAt N W' hb m:=h.keep (λb _ d=>f.block b d) (λ_ h _=>h)
theorem qt4(h:HdAt N W hb m)(hm:m<=20000000000000):ut 19 #[Ag (G ⟨hb,0,O⟩)] W (Ah true):=by
 obtain⟨nv,bv,F,B,⟨na,nn,Z,rfl,U6,D⟩,ba,bn,bc,rfl,aT,Q⟩:=h.lists;have A:=h.mark;have l:=h.lt;have X:=qd D;have Y:=qd Q;go_enter func19,ntmps19
 go_wp2
 go_loopw [3] (λi wr=>∃k:Nat,k<=nn/\i=I J k/\Hid (Xb W wr)) (λi _=>nn - (intOf i).toNat)
 exact⟨0,bt _,rfl,qd uj⟩;obtain⟨k,E,rfl,f⟩:=hrel;obtain⟨d,q⟩:=qk f;have U:=(q9 f).size;have g0:=(d _ 0 l).trans F;have M:=(d _ 1 l).trans B;have K:=(d _ 2 l).trans A;have TU:hb<wr.1.size:=ub
 by_cases hl:k<nn
 .obtain⟨b,cur,rfl,_,G0,hc⟩:=q9 X k hl
  have u:=p9 G0;have T9:=um k;have A4:=uo k nn;have C:Xc wr b k (I J (-1099511627776 - (m:Int))):=(d _ k u).trans hc;have G4:b<wr.1.size:=ub;clear hc d q G0
  go_wp2
  go_quiet (fail)
  go_wp2
  go_roundw
  case rel=>exact⟨k+1,hl,by go_num,qd (ep f _)⟩
  simp[intOf];omega
 have S:=uq k nn
 go_wp2
 go_loopw [4] (λi wr=>∃k:Nat,k<=bn/\i=I J k/\Hid (Xb W wr)) (λi _=>bn - (intOf i).toNat)
 exact⟨0,bt _,rfl,f⟩;obtain⟨k,E,rfl,f⟩:=hrel;obtain⟨d,q⟩:=qk f;have U:=(q9 f).size;have M:=(d _ 1 l).trans B;have K:=(d _ 2 l).trans A
 by_cases hl:k<bn
 .obtain⟨b,cur,rfl,_,G0,hc⟩:=q9 Y k hl
  have u:=p9 G0;have C:Xc wr b k (I .u8 ((m:Int) % 256)):=(d _ k u).trans hc;clear hc d q G0
  go_wp2
  go_quiet (fail)
  go_wp2
  go_roundw
  case rel=>exact⟨k+1,hl,by go_num,qd (ep f _)⟩
  simp[intOf];omega
 have S:=uq k bn;clear d q
 go_wp2
 go_ret;exact⟨rfl,q9 f⟩
section
variable {pv:Ap}
def hpV(h:Nat×Nat):Ap:=Ag (G ⟨h.1,0,O⟩)
structure HsAt(pv:Ap)(w W:Ao)(hv:Ap)(hs:List (Nat×Nat)):Prop where
 u:Below w.1.size w W
 lt:w.1.size<W.1.size
 c0:W.cell? ⟨w.1.size,0,O⟩=G pv
 c1:W.cell? ⟨w.1.size,1,O⟩=G hv
 fz:∀i,W.frozen? ⟨w.1.size,i,O⟩=false
 row:W.ownsRow (w.1.size+1) 47 1 hv hs.length (hs.map hpV)
 each:∀h∈hs,HdAt (λk=>w.1.size<k/\hv.ownBlock≠G k) W h.1 h.2/\h.2<=hs.length
section
variable {w W W':Ao} {hv:Ap} {hs:List (Nat×Nat)}
theorem HsAt.below(h:HsAt pv w W hv hs)(hb:Xb W W'):HsAt pv w W' hv hs:=by
 obtain⟨l,q⟩:=qk hb;have d:=h.lt;exact⟨qg h.u hb,aq d hb.size,(l _ _ d).trans h.c0,(l _ _ d).trans h.c1,λi=>(q _ i d).trans (h.fz i),qE h.row hb ui,λx f=>⟨(h.each x f).1.below hb,(h.each x f).2⟩⟩
theorem HsAt.start(w:Ao):HsAt (C O 0 0) w (w.alloc (Al #[C O 0 0,C O 0 0] 30)) (C O 0 0) []:=
 ⟨uj.alloc ui _,uc,uc,uc,λi=>uc,dy _ _ _ _,λx d=>by simp at d⟩
theorem HsAt.form(h:HsAt pv w W hv hs):∃a c,hv=C a hs.length c:=by
 rcases h.row.2 with⟨rfl,d⟩|⟨g,cap,cur,rfl,_⟩;exact⟨O,0,by rw[d]⟩;exact⟨_,_,rfl⟩
theorem HsAt.cell(h:HsAt pv w W hv hs){x:Nat×Nat}(d:hs[k]?=G x):∃g cap,hv=C (G ⟨g,0,O⟩) hs.length cap/\g<W.1.size/\W.cell? ⟨g,k,O⟩=G (hpV x):=by
 have q:=(aj.1 d).1;have f:=h.row;rcases h.row.2 with⟨rfl,u⟩|⟨g,cap,cur,rfl,A,l,_⟩;omega;refine⟨g,cap,rfl,(cf.1 l).1, ?_⟩;rw[World.ownsRow.cellAt f k ub,cm,d];rfl
end
theorem qxd{hv:Ap}{hs:List (Nat×Nat)}(h:HsAt pv w W hv hs)(A:hs.length<=20000000000000):ut 10 #[Ag (G ⟨w.1.size,0,O⟩)] W (Ah true):=by
 have q:=qd h;obtain⟨a,c,rfl⟩:=h.form;obtain⟨n,l⟩:=it hs.length;have d:=qd l;rw[l]at q A;go_enter func10,ntmps10
 go_wp2
 go_loopw [3] (λi wr=>∃k:Nat,k<=n/\i=I J k/\Hid (Xb W wr)) (λi _=>n - (intOf i).toNat)
 exact⟨0,bt _,rfl,qd uj⟩;obtain⟨k,F,rfl,f⟩:=hrel;have H:=qd (q.below f);have c1:=(q9 H).c1
 by_cases cM:k<n
 .obtain⟨x,hx⟩:∃x,hs[k]?=G x:=⟨_,ag (uu (q9 d))⟩
  obtain⟨g,cap,e,K,M⟩:=(q9 H).cell hx;rw[q9 d]at e;injection e with e _ _;subst e;obtain⟨hd,E⟩:=(q9 H).each x (bg hx);have u:x.2<=20000000000000:=uu (q9 d)
  have B:=qd (qt4 hd u)
  go_wp2_with(go_at_call 19;refine be B λw2 D=>?_;have C:=qd (qg f D))
  go_roundw
  case rel=>exact⟨k+1,cM,by go_num,C⟩
  simp[intOf];omega
 have Q:=uq k n
 go_wp2
 go_ret;exact⟨rfl,q9 f⟩
end
theorem qyf(h:w.ownsRow base e 1 (C (G ⟨g,0,O⟩) n cap) n xs)(j:Nat)(x:Ap):(w.setCell ⟨g,j,O⟩ x).ownsRow base e 1 (C (G ⟨g,0,O⟩) n cap) n (xs.set j x):=by
 rcases h.2 with⟨hv,_⟩|⟨A,cap',cur,hv,hb,f,q,l,u,d⟩;cases hv;cases hv;refine⟨by rw[eu];exact h.1,An ⟨g,cap,cur.setIfInBounds j x,rfl,hb, ?_,q,l,by simpa using u, ?_⟩⟩;simp[World.setCell,ij,f];rw[Array.toList_setIfInBounds,List.take_set,d]
theorem vry(g k:Nat):(⟨g,0,O⟩:Addr).add k=⟨g,k,O⟩:=by
 cases k with
 | zero=>rfl
 | succ k=>simp[Addr.add]
theorem qye{w':Ao}{t:TypeId}{i:TypeInfo}(F:prog.underlying t=G (.slice e))(J:prog.info? e=G i)(X:i.zero=G z)(C:i.size=1)(D:i.bytes=bytes)
  {v v':Ap}   {x:Ap} (E:w.ownsRow base e 1 v n xs)  (Z:w.cell? ⟨H,0,O⟩=G x) (h1:x.oneCell'=true) (hb:((n+1)+(n+1) / 4+192) * bytes<=281474976710656) (hn:n+1<=9223372036854775807)
  (Q:(Builtin.append_ #[t,t] ty #[v,.slice (G ⟨H,0,O⟩) 1 1]).run prog w=.ok v' w') :
  ∀(g:Nat),v.ownBlock=G g->(∃cur,w'.1[g]?=G (Al cur e (0,0)))/\∀j,w.cell? ⟨g,j,O⟩=G x->w'.cell? ⟨g,j,O⟩=G x:=by
 intro g K;have U:=E.1;rcases E.2 with⟨rfl,_⟩|⟨d,cap,cur,rfl,I7,f,Y8,aF,I6,sY⟩
 .cases K
 obtain rfl:d=g:=by simpa [Value.ownBlock]using K
 have M:∀k y,[x][k]?=G y->w.cell? ((⟨H,0,O⟩:Addr).add k)=G y:=λk y A=>by
  cases k with
  | zero=>simp at A;subst A;rw[vry];exact Z
  | succ k=>simp at A
 have S:∀{W:Ao} {c:Array Ap} (k:Nat),W.1[d]?=G (Al c e (0,0))->W.cell? ⟨d,k,O⟩=c[k]?:=λk h=>by simp[World.cell?,h]
 by_cases bE:n+1<=cap
 .have u:=run_append_room (P:=prog) w t ty e i F J d n cap cur f ⟨H,0,O⟩ 1 1 [x] (by rw[C];rfl) M (λy Y=>by rw[cu.1 Y];exact h1) bE (by rw[C,I6];simp;omega)
  rw[Q]at u;injection u with e1 B;refine⟨⟨_,by rw[B];exact setRow_heap w d cur _ e _ f⟩,λj q=>?_⟩;rw[B,S j (setRow_heap w d cur _ e _ f)];rw[S j f]at q;rw[C,Nat.mul_one,List.getElem?_toArray];have eQ:j<cur.size:=(cf.1 q).1;have l:cur.toList[j]?=G x:=by rw[Array.getElem?_toList];exact q
  rcases Nat.lt_trichotomy j n with h|h|h;rw[bu,cg (by rw[cw];simp;omega),sj h];exact l
  .subst h
   rw[bu,da (by rw[cw];omega),cw,show j - min j cur.toList.length=0 by simp;omega];rfl
  rw[da ud];rw[io,show n+[x].length+(j - (cur.toList.take n++[x]).length)=j by simp;omega];exact l
 have u:=run_append_grow (P:=prog) w t ty e i z F J X ⟨d,0,O⟩ n cap xs (by rw[C];exact U) (λk y A=>E.cells (g:=d) rfl k y A) ⟨H,0,O⟩ 1 1 [x] (by rw[C];rfl) M ub ub (growslice_fits_wide ub (by rw[D];exact hb));rw[Q]at u;injection u with e1 B;have I:d<w.1.size:=(cf.1 f).1;refine⟨⟨cur,by rw[B];exact(heap_alloc_old w.drew _ I).trans f⟩,λj q=>?_⟩;rw[B];rw[aw (w:=w) (a:=⟨d,j,O⟩) (heap_alloc_old w.drew _ I)];exact q
theorem qpz{t:TypeId}{i:TypeInfo}(A:prog.underlying t=G (.slice e))(C:prog.info? e=G i)(F:i.zero=G z)(l:i.size=1)(f:i.bytes=bytes)(FO:z.cells.size=1)
  {v:Ap}   {x:Ap} (E:w.ownsRow base e 1 v n xs)  (S:Xc w H 0 x) (X:x.oneCell'=true) (hb:((n+1)+(n+1) / 4+192) * bytes<=281474976710656) (K:n+1<=maxLen) (Y:base<=w.1.size) :
  ∃g cap w',(Builtin.append_ #[t,t] ty #[v,.slice (G ⟨H,0,O⟩) 1 1]).run prog w=.ok (.slice (G ⟨g,0,O⟩) (n+1) cap) w'/\w'.ownsRow base e 1 (.slice (G ⟨g,0,O⟩) (n+1) cap) (n+1) (xs++[x])/\w.grownBy w' v.ownBlock/\(v.ownBlock=G g\/g=w.1.size):=by
 have D:∀k y,[x][k]?=G y->w.cell? ((⟨H,0,O⟩:Addr).add k)=G y:=λk y q=>by
  cases k with
  | zero=>simp at q;subst q;rw[vry];exact S
  | succ k=>simp at q
 have J:∀u∈[x],u.oneCell'=true:=λy Q=>by rw[cu.1 Q];exact X
 have hm:n+1<=9223372036854775807:=by unfold maxLen at K;omega
 obtain⟨v',w',B,M,U,_⟩:=run_append_own_wide (P:=prog) w base t ty e i z 1 bytes A C F l f FO ub v n xs E ⟨H,0,O⟩ 1 1 [x] rfl D J K hb Y;obtain⟨g,cap,rfl,_,_⟩:=M.form ub;refine⟨g,cap,w',B,M,U, ?_⟩;rcases E.2 with⟨rfl,rfl⟩|⟨I,cap',cur,rfl,I7,G7,Y8,aF,Z,sY⟩
 right
 have h:=run_append_nil (P:=prog) w t ty e i z A C F ⟨H,0,O⟩ 1 1 [x] (by rw[l];rfl) D ub ub (by rw[f];exact bs (rh _ ub) hb);rw[B]at h;injection h with d _;injection d with d _ _;injection d with d;injection d
 by_cases bE:n+1<=cap'
 left
 have h:=run_append_room (P:=prog) w t ty e i A C I n cap' cur G7 ⟨H,0,O⟩ 1 1 [x] (by rw[l];rfl) D J bE (by rw[l,Z];simp;omega);rw[B]at h;injection h with d _;injection d with d _ _;injection d with d;injection d with d _ _;rw[d];rfl
 right
 have h:=run_append_grow (P:=prog) w t ty e i z A C F ⟨I,0,O⟩ n cap' xs (by rw[l];exact E.1) (λk y q=>E.cells (g:=I) rfl k y q) ⟨H,0,O⟩ 1 1 [x] (by rw[l];rfl) D ub ub (growslice_fits_wide ub (by rw[f];exact hb));rw[B]at h;injection h with d _;injection d with d _ _;injection d with d;injection d
structure FmAt(base:Nat)(W:Ao)(gb m:Nat)(nv bv:Ap)(nn bn:Nat)(nxs bxs:List Ap):Prop where
 lo:base<=gb
 ty:∃cur,W.1[gb]?=G (Al cur 74 (0,0))
 c0:W.cell? ⟨gb,0,O⟩=G nv
 c1:W.cell? ⟨gb,1,O⟩=G bv
 c2:W.cell? ⟨gb,2,O⟩=G (I J (m:Int))
 fz:∀i,W.frozen? ⟨gb,i,O⟩=false
 nr:W.ownsRow base 3 1 nv nn nxs
 br:W.ownsRow base 5 1 bv bn bxs
 nd:nv.ownBlock≠G gb
 bd:bv.ownBlock≠G gb
 nb:∀k,nv.ownBlock=G k->bv.ownBlock≠G k
structure MrkAt(base:Nat)(W W':Ao)(nv bv:Ap):Prop where
 u:Below base W W'
 size:W'.1.size=W.1.size
 block:∀b,nv.ownBlock≠G b->bv.ownBlock≠G b->W'.1[b]?=W.1[b]?
section
variable {base:Nat} {W W' W2:Ao} {gb m nn bn:Nat} {nv bv x:Ap} {nxs bxs:List Ap}
theorem FmAt.lt(h:FmAt base W gb m nv bv nn bn nxs bxs):gb<W.1.size:=by
 obtain⟨c,d⟩:=h.ty;exact p9 d
theorem MrkAt.refl:MrkAt base W W nv bv:=⟨uj,rfl,λ_ _ _=>rfl⟩
theorem FmAt.setN(h:FmAt base W gb m (C (G ⟨g,0,O⟩) nn cap) bv nn bn nxs bxs)(x:Ap):FmAt base (W.setCell ⟨g,j,O⟩ x) gb m (C (G ⟨g,0,O⟩) nn cap) bv nn bn (nxs.set j x) bxs:=by
 have d:gb≠g:=λe=>h.nd (by simp[Value.ownBlock,e])
 have hb:(W.setCell ⟨g,j,O⟩ x).1[gb]?=W.1[gb]?:=au _ ⟨g,j,O⟩ _ gb d;have f:∀i,(W.setCell ⟨g,j,O⟩ x).cell? ⟨gb,i,O⟩=W.cell? ⟨gb,i,O⟩:=λi=>aw (w:=W) (a:=⟨gb,i,O⟩) hb
 obtain⟨cur,q⟩:=h.ty;refine⟨h.lo,⟨cur,hb.trans q⟩,(f 0).trans h.c0,(f 1).trans h.c1,(f 2).trans h.c2,λi=>(cn (w:=W) (a:=⟨gb,i,O⟩) hb).trans (h.fz i),qyf h.nr j x, ?_,h.nd,h.bd,h.nb⟩;refine vj h.br λk l=>au _ ⟨g,j,O⟩ _ k (λe=>h.nb g rfl (by have e:k=g:=e;rw[<-e];exact l))
theorem FmAt.setB(h:FmAt base W gb m nv (C (G ⟨g,0,O⟩) bn cap) nn bn nxs bxs)(x:Ap):FmAt base (W.setCell ⟨g,j,O⟩ x) gb m nv (C (G ⟨g,0,O⟩) bn cap) nn bn nxs (bxs.set j x):=by
 have d:gb≠g:=λe=>h.bd (by simp[Value.ownBlock,e])
 have hb:(W.setCell ⟨g,j,O⟩ x).1[gb]?=W.1[gb]?:=au _ ⟨g,j,O⟩ _ gb d;have f:∀i,(W.setCell ⟨g,j,O⟩ x).cell? ⟨gb,i,O⟩=W.cell? ⟨gb,i,O⟩:=λi=>aw (w:=W) (a:=⟨gb,i,O⟩) hb
 obtain⟨cur,q⟩:=h.ty;refine⟨h.lo,⟨cur,hb.trans q⟩,(f 0).trans h.c0,(f 1).trans h.c1,(f 2).trans h.c2,λi=>(cn (w:=W) (a:=⟨gb,i,O⟩) hb).trans (h.fz i), ?_,qyf h.br j x,h.nd,h.bd,h.nb⟩;refine vj h.nr λk l=>au _ ⟨g,j,O⟩ _ k (λe=>h.nb k l (by have e:k=g:=e;rw[e];rfl))
theorem MrkAt.set(h:MrkAt base W W' nv bv)(l:base<=g)(hv:nv.ownBlock=G g\/bv.ownBlock=G g)(x:Ap):MrkAt base W (W'.setCell ⟨g,j,O⟩ x) nv bv:=
 ⟨h.u.setCell l _,by rw[md];exact h.size,λb f d=>(au _ ⟨g,j,O⟩ _ b (λe=>by rcases hv with hv|hv;exact f (e ▸ hv);exact d (e ▸ hv))).trans (h.block b f d)⟩
theorem FmAt.drew(h:FmAt base W gb m nv bv nn bn nxs bxs):FmAt base W.drew gb m nv bv nn bn nxs bxs:=⟨h.lo,h.ty,h.c0,h.c1,h.c2,h.fz,h.nr,h.br,h.nd,h.bd,h.nb⟩
theorem MrkAt.drew(h:MrkAt base W W' nv bv):MrkAt base W W'.drew nv bv:=⟨h.u.drew,h.size,h.block⟩
theorem qrd{x:Ap}(h:k<xs.length):(List.replicate k x++xs.drop k).set k x=List.replicate (k+1) x++xs.drop (k+1):=by
 rw[nh _ _ uc,List.length_replicate,ld,cj h,List.set_cons_zero,List.replicate_succ',bu];rfl
end
theorem qxp{gb nn bn:Nat}{nv bv:Ap}{nxs bxs:List Ap}(h:FmAt base W gb m nv bv nn bn nxs bxs)(hm:m<=20000000000000)(tC:nn<=1000000000)(oS:bn<=1000000000):
  ua 63 #[Ag (G ⟨gb,0,O⟩)] W λe W'=>e=Ak (Aj #[])/\FmAt base W' gb m nv bv nn bn (List.replicate nn (qdh m)) (List.replicate bn (qcl m))/\MrkAt base W W' nv bv:=by
 have U6:nxs.length=nn:=uu h.nr.1
 have aT:bxs.length=bn:=uu h.br.1
 have TJ:∃a c,nv=C a nn c:=by
  rcases h.nr.2 with⟨rfl,u⟩|⟨g,cap,cur,rfl,_⟩;exact⟨O,0,by rw[u]⟩;exact⟨_,_,rfl⟩
 have VG:∃a c,bv=C a bn c:=by
  rcases h.br.2 with⟨rfl,u⟩|⟨g,cap,cur,rfl,_⟩;exact⟨O,0,by rw[u]⟩;exact⟨_,_,rfl⟩
 obtain⟨D,q,rfl⟩:=TJ;obtain⟨E,A,rfl⟩:=VG
 have hw:IntKind.i64.wrap (-1099511627776 - (m:Int))=-1099511627776 - (m:Int):=by
  have DD:IntKind.i64.bits=64:=rfl;have AY:IntKind.i64.signed=true:=rfl;simp[IntKind.wrap,DD,AY];omega
 have d:=qd h;go_enter func63,ntmps63
 go_wp2
 go_loopw [2] (λi wr=>∃k:Nat,k<=nn/\i=I J k/\Hid (FmAt base wr gb m (C D nn q) (C E bn A) nn bn (List.replicate k (qdh m)++nxs.drop k) bxs)/\Hid (MrkAt base W wr (C D nn q) (C E bn A))) (λi _=>nn - (intOf i).toNat)
 exact⟨0,bt _,rfl,d,qd MrkAt.refl⟩;obtain⟨k,Z,rfl,d,f⟩:=hrel;have g0:=(q9 d).c0;have g1:=(q9 d).c1;have g2:=(q9 d).c2;have A1:=(q9 d).lt
 by_cases hl:k<nn
 .have hne:(List.replicate k (qdh m)++nxs.drop k).length=nn:=ud
  rcases(q9 d).nr.2 with⟨_,u⟩|⟨g,cap',cur,hv,S,F,Y8,_,I6,U⟩
  .omega
  injection hv with hv _ K;subst hv K;have mV:g<wr.1.size:=(cf.1 F).1;obtain⟨l,Y⟩:∃l,Xc wr g k l:=⟨_,World.ownsRow.cellAt d.nr k ub |>.trans (ag ub)⟩;have X:wr.frozen? ⟨g,k,O⟩=false:=by simp[World.frozen?,F]
  have ngb:¬gb=g:=λe=>d.nd (by rw[e];rfl)
  have ngc:¬g=gb:=λe=>ngb e.symm
  have T9:=um k;have A4:=uo k nn;have B:=qd (d.setN (j:=k) (qdh m)).drew;rw[qrd ub]at B;have M:=qd (f.set (j:=k) S (Am rfl) (qdh m)).drew
  go_wp2
  go_region_held3 (λW=>Xc W gb 0 (C (G ⟨g,0,O⟩) nn q)/\Xc W gb 2 (I J (m:Int))) (first|with_reducible assumption|go_keep) (fail)
  go_wp2
  go_roundw
  case rel=>exact⟨k+1,hl,by go_num,B,M⟩
  simp[intOf];omega
 have Z0:=uq k nn;have Q:List.replicate k (qdh m)++nxs.drop k=List.replicate nn (qdh m):=by rw[show k=nn by omega,eh ub,fw]
 rw[Q]at d
 go_wp2
 go_loopw [3] (λi wr=>∃k:Nat,k<=bn/\i=I J k/\Hid (FmAt base wr gb m (C D nn q) (C E bn A) nn bn (List.replicate nn (qdh m)) (List.replicate k (qcl m)++bxs.drop k))/\Hid (MrkAt base W wr (C D nn q) (C E bn A))) (λi _=>bn - (intOf i).toNat)
 exact⟨0,bt _,rfl,d,f⟩;obtain⟨k,Z,rfl,d,f⟩:=hrel;have g1:=(q9 d).c1;have g2:=(q9 d).c2
 by_cases hl:k<bn
 .have hne:(List.replicate k (qcl m)++bxs.drop k).length=bn:=ud
  rcases(q9 d).br.2 with⟨_,u⟩|⟨g,cap',cur,hv,S,F,Y8,_,I6,U⟩
  .omega
  injection hv with hv _ K;subst hv K;obtain⟨l,Y⟩:∃l,Xc wr g k l:=⟨_,World.ownsRow.cellAt d.br k ub |>.trans (ag ub)⟩;have X:wr.frozen? ⟨g,k,O⟩=false:=by simp[World.frozen?,F]
  have ngb:¬gb=g:=λe=>d.bd (by rw[e];rfl)
  have ngc:¬g=gb:=λe=>ngb e.symm
  have B:=qd (d.setB (j:=k) (qcl m)).drew;rw[qrd ub]at B;have M:=qd (f.set (j:=k) S (An rfl) (qcl m)).drew
  go_wp2
  go_region_held3 (λW=>Xc W gb 1 (C (G ⟨g,0,O⟩) bn A)/\Xc W gb 2 (I J (m:Int))) (first|with_reducible assumption|go_keep) (fail)
  go_wp2
  go_roundw
  case rel=>exact⟨k+1,hl,by go_num,B,M⟩
  simp[intOf];omega
 have Z0:=uq k bn;have Q:List.replicate k (qcl m)++bxs.drop k=List.replicate bn (qcl m):=by rw[show k=bn by omega,eh ub,fw]
 rw[Q]at d
 go_wp2
 first
  | exact⟨rfl,q9 d,q9 f⟩
  | (go_end0;exact⟨rfl,q9 d,q9 f⟩)
def cpR(ats:Array TypeId)(ty:TypeId)(args:Array Ap):Sem Ap:=Builtin.copy_ ats ty args
theorem vsl(ats:Array TypeId)(ty:TypeId)(args:Array Ap):Builtin.copy_ ats ty args=cpR ats ty args:=rfl
theorem qhr(w:Ao)(l q ty elem:TypeId)(g o dLen dCap:Nat)(a:Addr)(sLen sCap:Nat)(cur:Array Ap)(t:TypeId)(cs:List Ap)(m:Nat)
  (u:P.underlying l=G (.slice elem)) (hs:(P.info? elem).map (·.size)=G m)
  (C:w.1[g]?=G (Al cur t (0,0))) (A:cs.length=Nat.min sLen dLen * m)
  (d:∀j v,cs[j]?=G v->w.cell? (a.add j)=G v) (f:o+cs.length<=cur.size) (D:∀v∈cs,v.oneCell'=true) :
  (cpR #[l,q] ty #[.slice (G ⟨g,o,O⟩) dLen dCap,.slice (G a) sLen sCap]).run P w =
   .ok (goInt (Nat.min sLen dLen)) (w.setRow g (cur.toList.take o++cs++cur.toList.drop (o+cs.length)).toArray):=by
 have h:=run_loadCells_list (P:=P) w a cs d;have E:=run_storeCells_at P g o t cs 0 cur w C (by simpa using f) D;unfold cpR
 cases hq:P.info? elem with
 | none=>simp[hq]at hs
 | some i=>
  have B:i.size=m:=by simpa [hq]using hs
  rw[A]at h;simp[Builtin.copy_,run_underlying u,Builtin.lenOf,Builtin.firstCells,sizeOf,typeInfo,hq,B,h,E]
theorem qek(w:Ao)(u A ty elem:TypeId)(d a:Option Addr)(dLen dCap sCap:Nat)(m:Nat)(f:P.underlying u=G (.slice elem))(hs:(P.info? elem).map (·.size)=G m):
  (cpR #[u,A] ty #[.slice d dLen dCap,.slice a 0 sCap]).run P w=.ok (goInt 0) w:=by
 unfold cpR
 cases hq:P.info? elem with
 | none=>simp[hq]at hs
 | some i=>
  have q:Nat.min 0 dLen=0:=Nat.zero_min _
  cases a with
  | none=>cases d<;>simp[Builtin.copy_,run_underlying f,Builtin.lenOf,Builtin.firstCells,sizeOf,typeInfo,hq,q,storeCells]
  | some a=>
   have l:=run_loadCells_list (P:=P) w a [] (λj v h=>by simp at h);simp only[iq]at l;cases d<;>simp[Builtin.copy_,run_underlying f,Builtin.lenOf,Builtin.firstCells,sizeOf,typeInfo,hq,q,l,storeCells]
section
attribute [local go_sem ↓] vsl
def j3:Pr:=⟨[115,112,97,114,101],⟨7,7,[]⟩⟩
def prV(p:Pr):Ap:=Ai #[Y (BS p.N),I J p.val.A,I J p.val.K,Y (BS p.val.V)]
def zb(p:Pr):List Ap:=[Y (BS p.N),I J p.val.A,I J p.val.K,Y (BS p.val.V)]
theorem qiy:(prog.info? 89).map (λi=>(i.zero,i.size,i.bytes))=G (G (Ai #[Y ⟨#[]⟩,I J 0,I J 0,Y ⟨#[]⟩]),4,48):=uh
theorem qes(w:Ao):ut 48 #[] w (prV j3):=by
 go_enter func48,ntmps48
 go_wp2
 refine tw ⟨rfl,uj.alloc ui _⟩
def EvRow(W:Ao)(b:Nat)(ps:List Pr)(i:Nat):Prop:=
 ∃f:Nat->Ap,W.rowIs b 89 ((ps.length+8) * 4) f /\
  (∀k p,ps[k]?=G p->f (k * 4)=Y (BS p.N)/\f (k * 4+1)=I J p.val.A/\f (k * 4+2)=I J p.val.K/\f (k * 4+3)=Y (BS p.val.V)) /\
  ∀k,k<i->f ((ps.length+k) * 4)=Y (BS j3.N)/\f ((ps.length+k) * 4+1)=I J j3.val.A/\f ((ps.length+k) * 4+2)=I J j3.val.K/\f ((ps.length+k) * 4+3)=Y (BS j3.val.V)
theorem EvRow.of_block(h:EvRow W b ps i)(e:W'.1[b]?=W.1[b]?):EvRow W' b ps i:=by
 obtain⟨f,q,l,d⟩:=h;exact⟨f,q.of_block e,l,d⟩
theorem EvRow.lt(h:EvRow W b ps i):b<W.1.size:=by
 obtain⟨f,d,_⟩:=h;exact d.lt
theorem EvRow.below(h:EvRow W b ps i)(hb:Xb W W'):EvRow W' b ps i:=h.of_block (hb.block b h.lt)
theorem EvRow.cells(h:EvRow W b ps i)(d:k<(ps.length+8) * 4):∃v,Xc W b k v:=by
 obtain⟨f,l,_⟩:=h;exact⟨_,l.cell d⟩
theorem EvRow.fz(h:EvRow W b ps i)(k:Nat):W.frozen? ⟨b,k,O⟩=false:=by
 obtain⟨f,d,_⟩:=h;exact d.frozen k
theorem EvRow.prop(h:EvRow W b ps i){p:Pr}(hp:ps[k]?=G p):W.cell? ⟨b,k * 4,O⟩=G (Y (BS p.N))/\W.cell? ⟨b,k * 4+1,O⟩=G (I J p.val.A)/\W.cell? ⟨b,k * 4+2,O⟩=G (I J p.val.K)/\W.cell? ⟨b,k * 4+3,O⟩=G (Y (BS p.val.V)):=by
 obtain⟨f,l,q,_⟩:=h;have u:=(aj.1 hp).1;obtain⟨a,c,d,e⟩:=q k p hp;exact⟨by rw[l.cell ub,a],by rw[l.cell ub,c],by rw[l.cell ub,d],by rw[l.cell ub,e]⟩
theorem EvRow.spare(h:EvRow W b ps i)(q:k<i)(A:i<=8):W.cell? ⟨b,(ps.length+k) * 4,O⟩=G (Y (BS j3.N))/\W.cell? ⟨b,(ps.length+k) * 4+1,O⟩=G (I J j3.val.A)/\W.cell? ⟨b,(ps.length+k) * 4+2,O⟩=G (I J j3.val.K)/\W.cell? ⟨b,(ps.length+k) * 4+3,O⟩=G (Y (BS j3.val.V)):=by
 obtain⟨f,l,_,u⟩:=h;obtain⟨a,c,d,e⟩:=u k q;exact⟨by rw[l.cell ub,a],by rw[l.cell ub,c],by rw[l.cell ub,d],by rw[l.cell ub,e]⟩
theorem EvRow.ev(h:EvRow W b ps i):EvAt W b 0 ps:=λk p hp=>by
 simp only[ee];exact h.prop hp
theorem EvRow.step(h:EvRow W b ps i):
  EvRow ((((W.setCell ⟨b,(ps.length+i) * 4,O⟩ (Y (BS j3.N))).setCell ⟨b,(ps.length+i) * 4+1,O⟩ (I J j3.val.A)).setCell ⟨b,(ps.length+i) * 4+2,O⟩ (I J j3.val.K)).setCell ⟨b,(ps.length+i) * 4+3,O⟩ (Y (BS j3.val.V))) b ps (i+1):=by
 obtain⟨f,A,u,q⟩:=h;refine⟨_,(((A.set _ _).set _ _).set _ _).set _ _,λk p hp=>?_,λk l=>?_⟩;have l:=(aj.1 hp).1;obtain⟨a,c,d,e⟩:=u k p hp;refine⟨?_, ?_, ?_, ?_⟩;rw[ak ub,ak ub,ak ub,ak ub];exact a;rw[ak ub,ak ub,ak ub,ak ub];exact c;rw[ak ub,ak ub,ak ub,ak ub];exact d;rw[ak ub,ak ub,ak ub,ak ub];exact e
 by_cases hki:k=i
 subst hki;refine⟨?_, ?_, ?_, ?_⟩;rw[ak ub,ak ub,ak ub,bo rfl];rw[ak ub,ak ub,bo rfl];rw[ak ub,bo rfl];rw[bo rfl];obtain⟨a,c,d,e⟩:=q k ub;refine⟨?_, ?_, ?_, ?_⟩;rw[ak ub,ak ub,ak ub,ak ub];exact a;rw[ak ub,ak ub,ak ub,ak ub];exact c;rw[ak ub,ak ub,ak ub,ak ub];exact d;rw[ak ub,ak ub,ak ub,ak ub];exact e
theorem vm3{v:Ap}(h:(ps.flatMap zb)[j]?=G v):∃k p c,ps[k]?=G p/\c<4/\j=k * 4+c/\(zb p)[c]?=G v:=by
 induction ps generalizing j with
 | nil=>simp at h
 | cons q t ih=>
  rw[dp]at h
  by_cases hj:j<4
  rw[cg (by exact hj)]at h;exact⟨0,q,j,rfl,hj,ub,h⟩;rw[da (by show 4<=j;omega)]at h;obtain⟨k,p,c,l,f,u,d⟩:=ih h;exact⟨k+1,p,c,by simpa using l,f,by have:(zb q).length=4:=rfl;omega,d⟩
theorem kw(ps:List Pr):(ps.flatMap zb).length=ps.length * 4:=by
 induction ps with
 | nil=>rfl
 | cons q t ih=>rw[dp,ce,ih];simp[zb];omega
theorem vp3{p:Pr}(hp:ps[k]?=G p){c:Nat}(d:c<4):(ps.flatMap zb)[k * 4+c]?=(zb p)[c]?:=by
 induction ps generalizing k with
 | nil=>simp at hp
 | cons q t ih=>
  rw[dp];have f:(zb q).length=4:=rfl
  cases k with
  | zero=>
   obtain rfl:q=p:=by simpa using hp
   rw[tg,ee,cg ub]
  | succ k=>
   rw[da ub,show(k+1) * 4+c - (zb q).length=k * 4+c by omega];exact ih (by simpa using hp)
theorem qsa{ev:Ap}(C8:EvIn W ev ps)(B7:W.ownsRow b 89 4 (C (G ⟨b,0,O⟩) (ps.length+8) (ps.length+8)) (ps.length+8) xs):
  ∃W',(cpR #[32,32] ty #[C (G ⟨b,0,O⟩) (ps.length+8) (ps.length+8),ev]).run prog W=.ok (goInt ps.length) W'/\Hid (EvRow W' b ps 0)/\Hid (Below b W W'):=by
 obtain⟨i0,u,F5,B8,D4⟩:=info_parts qiy;have f:(prog.info? 89).map (·.size)=G 4:=by rw[u];simp[B8]
 obtain⟨mK,S|⟨g,cap,cur,e,I7,E,Y8,_,I6,dO⟩⟩:=B7
 .cases S.1
 injection e with l e2 e3;injection l with l;injection l with l;subst l;have D:cur.size=(ps.length+8) * 4:=by rw[I6,<-e3]
 rcases C8 with⟨rfl,a,cap',rfl⟩|⟨sb,off,cap',rfl,hc,X,A1⟩
 .refine⟨W,qek W _ _ _ 89 _ _ _ _ _ 4 underlying32 f,qd ⟨λj=>cur.getD j undef,⟨cur,E,D,λi u=>?_⟩,λk p hp=>by simp at hp,λk q=>ub⟩,qd uj⟩
  rw[Array.getElem?_eq_getElem ub];simp[Array.getD,show i<cur.size by omega]
 have F:Nat.min ps.length (ps.length+8)=ps.length:=ot ub
 have I:=qhr (P:=prog) W 32 32 ty 89 b 0 (ps.length+8) (ps.length+8) ⟨sb,off,O⟩ ps.length cap' cur 89 (ps.flatMap zb) 4 underlying32 f E (by rw[F,kw]) (λj v hv=>by
   obtain⟨k,p,c,h1,Z,Y,d⟩:=vm3 hv;obtain⟨Q,M,K,J⟩:=X k p h1;have J3:(⟨sb,off,O⟩:Addr).add j=⟨sb,off+j,O⟩:=by simp[Addr.add]
   rw[J3,Y]
   match c,Z,d with
   | 0,_,d=>rw[<-Nat.add_assoc,sd,Q];exact d
   | 1,_,d=>rw[<-Nat.add_assoc,M];exact d
   | 2,_,d=>rw[<-Nat.add_assoc,K];exact d
   | 3,_,d=>rw[<-Nat.add_assoc,J];exact d) (by rw[kw,D];omega) (λv hv=>by
   obtain⟨p,_,hp⟩:=List.mem_flatMap.1 hv;simp[zb]at hp
   rcases hp with rfl|rfl|rfl|rfl<;>rfl)
 rw[F]at I;refine⟨_,I,qd ?_,qd ⟨rfl,rfl,rfl,by simp[World.setRow],λk q=>setRow_other W b k _ ub⟩⟩;obtain⟨L,B⟩:=it (cur.toList.take 0++ps.flatMap zb++cur.toList.drop (0+(ps.flatMap zb).length));rw[B];have DR:L.length=(ps.length+8) * 4:=by rw[<-B,List.take_zero,lj,ce,dj,kw,show cur.toList.length=(ps.length+8) * 4 from D];omega
 have A:∀j,j<ps.length * 4->L[j]?=(ps.flatMap zb)[j]?:=λj U=>by
  rw[<-B,List.take_zero,lj,cg (by rw[kw];exact U)]
 refine⟨λj=>L.getD j undef,⟨L.toArray,setRow_heap W b cur _ _ _ E,by simpa using DR,λi u=>?_⟩,λk p hp=>?_,λk q=>ub⟩
 .show L.toArray[i]?=G (L.getD i undef)
  rw[List.getElem?_toArray,bi,ag ub];rfl
 have q:=(aj.1 hp).1
 have key:∀c,c<4->L.getD (k * 4+c) undef=((zb p)[c]?).getD undef:=λc GH=>by
  rw[bi,A _ ub,vp3 hp GH]
 exact⟨key 0 ub,key 1 ub,key 2 ub,key 3 ub⟩
def qi8(w:Ao)(ps:List Pr)(e:Ending)(w':Ao):Prop:=e=Ak (C (G ⟨w.1.size,0,O⟩) (ps.length+8) (ps.length+8))/\EvRow w' w.1.size ps 8/\Below w.1.size w w'
theorem qwe{ev:Ap}(K:EvIn w ev ps)(X:48 * ps.length<=140737488355328):ua 20 #[ev] w (qi8 w ps):=by
 obtain⟨U,Y,F5,B8,D4⟩:=info_parts qiy;have Q:=qd K;obtain⟨n,d⟩:=it ps.length;have D:=qd d
 have V5:∃a c,ev=C a n c:=by
  rcases K with⟨rfl,a,cap,rfl⟩|⟨b,off,cap,rfl,_⟩;exact⟨a,cap,by rw[<-d];rfl⟩;exact⟨_,_,by rw[<-d]⟩
 obtain⟨a,c,rfl⟩:=V5;rw[d]at X
 have CP:Hid (∀(W:Ao) (xs:List Ap),EvIn W (C a n c) ps->W.ownsRow w.1.size 89 4 (C (G ⟨w.1.size,0,O⟩) (n+8) (n+8)) (n+8) xs->∃W',(cpR #[32,32] 3 #[C (G ⟨w.1.size,0,O⟩) (n+8) (n+8),C a n c]).run prog W=.ok (goInt n) W'/\Hid (EvRow W' w.1.size ps 0)/\Hid (Below w.1.size W W')):=qd λW xs h1 Z=>by
  have:=qsa (ty:=3) (xs:=xs) h1 (by rw[d];exact Z);rw[d]at this;exact this
 have M:=qd (λw=>qes w);simp only[prV]at M;go_enter func20,ntmps20
 go_wp2_with(at_make;refine wpList_make_full _ rfl _ _ 32 rfl w.1.size 89 U _ 4 underlying32 Y F5 B8 J J _ _ (n+8) rfl rfl ub ub (by rw[D4];omega) (by unfold maxLen;omega) ui ?_;intro q J5 bI;have B:Xb w q:=(Go.RowKit.Below.grown uj bI ui (λk u=>(by cases u)));obtain⟨w2,eG,II,U0⟩:=q9 CP q _ (Q.below B) J5;have F9:=qd (B.trans U0))
 go_loopw [4] (λi wr=>∃k:Nat,k<=8/\i=I J k/\Hid (EvRow wr w.1.size ps k)/\Hid (Xb w wr)) (λi _=>8 - (intOf i).toNat)
 exact⟨0,bt _,rfl,II,F9⟩;obtain⟨k,u,rfl,E,F⟩:=hrel
 by_cases A1:k<8
 .have A4:(k:Int)<8:=ub
  go_wp2_with(go_at_call 48;refine be (M _) λw4 A=>?_;have f:=(q9 E).below A;obtain⟨v0,q0⟩:=f.cells (k:=(n+k) * 4) ub;obtain⟨v1,q1⟩:=f.cells (k:=(n+k) * 4+1) ub;obtain⟨v2,q2⟩:=f.cells (k:=(n+k) * 4+2) ub;obtain⟨v3,q3⟩:=f.cells (k:=(n+k) * 4+3) ub;have qz:=f.fz;have l:=qd f;have S:=qd (qg F A))
  go_roundw
  case rel=>exact⟨k+1,ub,by go_num,qd (by have:=(q9 l).step;rw[q9 D]at this;exact this),qd ((((S.setCell ui _).setCell ui _).setCell ui _).setCell ui _)⟩
  simp[intOf];omega
 have aC:k=8:=ub;subst aC
 go_wp2
 go_ret;refine⟨?_,q9 E,q9 F⟩;rw[q9 D];rfl
end
theorem vho(p:Pr)(w:Ao):(binOp .neq 89 (prV p) (prV p)).run prog w=.ok (Ah false) w:=by
 simp[prV,go_sem]
theorem vam{lb:Nat}{ev:Ap}(D9:EvRow w lb ps 8)(C8:EvIn w ev ps)(hl:48 * ps.length<=140737488355328):
  ut 23 #[C (G ⟨lb,0,O⟩) (ps.length+8) (ps.length+8),ev] w (Ah true):=by
 obtain⟨n,l⟩:=it ps.length;have HN:=qd l
 have V5:∃a c,ev=C a n c:=by
  rcases C8 with⟨rfl,a,cap,rfl⟩|⟨b,off,cap,rfl,_⟩;exact⟨a,cap,by rw[<-l];rfl⟩;exact⟨_,_,by rw[<-l]⟩
 obtain⟨a,c,rfl⟩:=V5;rw[l]at hl |-
 have rQ:Hid (∀(k:Nat) (p:Pr),ps[k]?=G p->∃b off,a=G ⟨b,off,O⟩/\b<w.1.size/\EvAt w b off ps):=qd λk p hp=>by
  rcases C8 with⟨h0,_⟩|⟨b,off,cap,e,_,Q,A1⟩;rw[h0]at hp;cases hp;injection e with e;exact⟨b,off,e,A1,Q⟩
 have EO:=qd D9;have BY:=qd (λw=>qes w);simp only[prV]at BY;go_enter func23,ntmps23
 go_wp2_with(go_at_call 48;refine be (BY _) λd A0=>?_;have D6:=qd A0)
 obtain⟨A,f⟩:∃W:Ao,d.alloc (Al #[Y (BS j3.N),I J j3.val.A,I J j3.val.K,Y (BS j3.val.V)] 89)=W:=⟨_,rfl⟩;have sD:Xb d A:=f ▸ uj.alloc ui _
 have eG:∀k,A.cell? ⟨d.1.size,k,O⟩=#[Y (BS j3.N),I J j3.val.A,I J j3.val.K,Y (BS j3.val.V)][k]?:=λk=>by rw[<-f,ch _ _ _ _ uc]
 have mX:A.1.size=d.1.size+1:=by rw[<-f];simp
 have cI:=qd (qg D6 sD);have u:=qd eG;rw[f]
 go_loopw [6] (λi wr=>∃k:Nat,k<=n+8/\i=I J k/\Hid (Xb A wr)) (λi _=>n+8 - (intOf i).toNat)
 exact⟨0,bt _,rfl,qd uj⟩;obtain⟨k,hk,rfl,D⟩:=hrel;have X:=qg cI D;have fI:=qd X;have rX:=(q9 EO).below X
 by_cases A1:k<n+8
 .have T9:=um k
  have A4:(k:Int)<(n:Int)+8:=ub
  by_cases Z0:k<n
  .obtain⟨p,hp⟩:∃p,ps[k]?=G p:=⟨_,ag (uu (q9 HN))⟩
   obtain⟨b,off,rfl,hb,Q⟩:=q9 rQ k p hp;obtain⟨M,K,F,E⟩:=rX.prop hp;obtain⟨e0,e1,e2,e3⟩:=Q k p hp;rw[<-(qk X).1 _ _ hb]at e0 e1 e2 e3;have Z:=λw=>vho p w
   simp only[prV]at Z;have VC:decide ((k:Int)<(n:Int))=true:=by simpa using Z0
   have KV:decide ((k:Int)≥(n:Int))=false:=ud;have hd3:decide ((n:Int)<=(k:Int))=false:=ud;have U:decide (n<=k)=false:=ud;have S:decide (k<n)=true:=by simpa using Z0
   have A8:=uo k n
   go_wp2
   go_quiet (fail)
   go_wp2
   go_roundw
   case rel=>exact⟨k+1,ub,by go_num,qd (ep D _)⟩
   simp[intOf];omega
  obtain⟨j,rfl⟩:∃j,k=n+j:=⟨k - n,ub⟩;obtain⟨M,K,F,E⟩:=rX.spare (k:=j) ub ui;rw[q9 HN]at M K F E;obtain⟨B,_⟩:=qk D;have s0:wr.cell? ⟨d.1.size,0,O⟩=G (Y (BS j3.N)):=(B _ 0 ub).trans (u 0);have s1:wr.cell? ⟨d.1.size,1,O⟩=G (I J j3.val.A):=(B _ 1 ub).trans (u 1);have s2:wr.cell? ⟨d.1.size,2,O⟩=G (I J j3.val.K):=(B _ 2 ub).trans (u 2);have s3:wr.cell? ⟨d.1.size,3,O⟩=G (Y (BS j3.val.V)):=(B _ 3 ub).trans (u 3);have Z:=λw=>vho j3 w
  simp only[prV]at Z;obtain⟨q,hq⟩:=it (n+j);rw[hq]at M K F E hk A1 T9 A4 |-;have U:decide (n<=q)=true:=ud;have S:decide (q<n)=false:=ud;have A8:=uq q n;generalize j3=sp at *
  go_wp2
  go_quiet (fail)
  go_wp2
  go_roundw
  case rel=>exact⟨q+1,ub,by go_num,qd (ep D _)⟩
  simp[intOf];omega
 have nX:¬(k:Int)<(n:Int)+8:=ub
 go_wp2
 go_ret;exact⟨rfl,q9 fI⟩
section
open Go.ChangeShapes Go.WideShapes Go.RowKit Go.Proofs.Tryz
theorem vf6 : prog.globalNamed "internal/strconv.uint64pow10" = G 1 := by kernel_rfl
theorem vpj(h:W.ShapedOpen prog):4<W.1.size/\∃m,Xc W (4) 0 (I J m):=by
 obtain⟨m,d⟩:=cell_of_shapedOpen_int (g:=4) (zero:=#[I J 0]) (t:=3) h (of_decide_eq_true uh) uh rfl uh uh underlying3;exact⟨block_lt_of_cell d,m,d⟩
theorem vm2:(prog.globals[1]?).map (·.type)=G 339:=uh
theorem vci:prog.cellsOf 339=20:=uh
theorem vcj:prog.cellsOf 269=1:=uh
theorem vm1:(Rows.laid_internal_strconv_uint64pow10:DataW Unit)=Lib.tabData .u64 Lib.pow10Tab:=uh
theorem vpw  {l:List (String × DataW Unit)} (hm : ("internal/strconv.uint64pow10", Rows.laid_internal_strconv_uint64pow10) ∈ l) (h : laidMet prog l W) : Lib.TabIs prog W "internal/strconv.uint64pow10" .u64 Lib.pow10Tab := by
 obtain⟨g,t,cs,fuel,p,h1,h2,h3,h4⟩:=Lib.laidMet.reads h hm;obtain rfl:1=g:=Option.some.inj (vf6.symm.trans h1);obtain rfl:339=t:=Option.some.inj (vm2.symm.trans h2);rw[vm1]at h4;unfold Lib.TabIs;rw[h3,<-Lib.cells_of_tab underlying339 underlying269 vcj vci h4]
end
end Go.Proofs.YtdmmmgodfceilaaGreatDoor
