/- class, checkClasses -/
import Derived.Test.YtmepkbgodcffoaaGreatDoorM04
import Derived.Deep.OwnRows
import Derived.RegionTactic
import Derived.RangeFuncBox
import Derived.RangeFuncLeaves
import Derived.Shelf.Abstract
import Derived.OwnWalkIn
import Derived.TacticsInMore
import Derived.LoopNIn
import Derived.LoopIn
import Derived.Maps.AppendAt
set_option maxHeartbeats 16000000
set_option maxRecDepth 100000
namespace Go.Proofs.YtmepkbgodcffoaaGreatDoor
open Go.RowKit Go.Proofs.Tryz
open _root_.List renaming length->A
open Go.World renaming setCell->B,ownsRow->ue
open Bool renaming false->uh,true->ui
open Go.Addr renaming mk->D
open _root_.Array renaming size->Z,toList->T
open Go renaming Value->Ap,World->Ao
open Go.Ending renaming returned->Ak
open Go.IntKind renaming i64->J
open Go.Obj renaming cells->Al
open Go.Value renaming agg->Ai,bool->Ah,int->I,pointer->Ag,slice->C,string->Y
open Option renaming none->O,some->G
open Or renaming inl->Am,inr->An
variable{t:Ast}{s:uj}{c op pl want:Int}{ts:List uk}{rs:List CRes}{ps:List Pr}{L M:List Tk}{l r:uk}{F k m n:Nat}{e:Nat->Bool}{p:Pc}{f':TS->TRes}{d:UInt8}{f x x0 x1 x2 y z:V}{v:Ap}{W W' w:Ao}
theorem qw4(h:qR op pl rs=xq want pl c rs)(hq:dem want pl rs ui=O):qR op pl rs=.ok c:=by
 rw[h,xq,hq]
theorem qw5{q:Int}(h:qR op pl rs=xq want pl c rs)(hq:dem want pl rs ui=G q):qR op pl rs=.err q:=by
 rw[h,xq,hq]
theorem qqg(g:Nat)(t:Ast)(a:(qZ t).op=0\/(qZ t).op=1\/(qZ t).op=2):qc3 g t:=by
 intro w v h;have i:qC t=.ok (qZ t).op:=by rw[kn];obtain a|a|a:=a<;>rw[a]<;>rfl
 rw[i];obtain⟨b,o,rfl,j,_⟩:=h.parts;have c0:=j.c0;obtain a|a|a:=a
 all_goals
  rw[a]at c0 |-;go_enter func120,ntmps120
  go_wp2
  go_ret;exact⟨uy,rfl⟩
theorem qeh(i:Nat)(t:Ast)(want c:Int)(g:∀x∈qw t,qc3 i x)(o:(want=3/\c=3/\((qZ t).op=5\/(qZ t).op=6\/(qZ t).op=7))\/(want=1/\c=3/\((qZ t).op=10\/(qZ t).op=11\/(qZ t).op=12\/(qZ t).op=13\/(qZ t).op=20))\/(want=1/\c=1/\((qZ t).op=14\/(qZ t).op=15\/(qZ t).op=16\/(qZ t).op=17\/(qZ t).op=18\/(qZ t).op=19))):qc3 i t:=by
 intro w v h;have DEM:=qd (qwd i t g want w v h);obtain⟨b,D,rfl,B,_⟩:=h.parts;have c0:=B.c0
 have j:qR (qZ t).op (qZ t).U ((qw t).map qC)=xq want (qZ t).U c ((qw t).map qC):=by
  obtain⟨rfl,rfl,a|a|a⟩|⟨rfl,rfl,a|a|a|a|a⟩|⟨rfl,rfl,a|a|a|a|a|a⟩:=o<;>rw[a]<;>rfl
 have q:=kn t;cases hd:dem want (qZ t).U ((qw t).map qC) ui
 all_goals
  rw[hd]at DEM
  first|rw[q,qw4 j hd]|rw[q,qw5 j hd]
  obtain⟨rfl,rfl,a|a|a⟩|⟨rfl,rfl,a|a|a|a|a⟩|⟨rfl,rfl,a|a|a|a|a|a⟩:=o
 all_goals
  rw[a]at c0;go_enter func120,ntmps120
  go_wp2_with(refine DEM.mono ?_;rintro e C⟨u,A⟩;subst A;try simp only[vg])
  first
   | exact⟨rfl,u,rfl⟩
   | (
    go_ret
    exact⟨u,rfl⟩)
theorem qw1(g:Nat)(p:Pay)(x y:Ast)(B:qc3 g x)(A:qc3 g y)(a:p.op=8\/p.op=9):qc3 g (.bin p x y):=by
 intro w v h;obtain a|a:=a
 all_goals
  have ALI:=qd (qzk g p x y B A w v h);obtain⟨b,G,rfl,E,_⟩:=h.parts;have c0:Xc w b 0 (I J p.op):=E.c0;rw[a]at c0;have D:qC (.bin p x y)=xp p.U (qC x) (qC y):=by rw[qC,a];rfl
  rw[D]
  have o:∀c,xp p.U (qC x) (qC y)=.ok c->c=3:=by
   intro c h;unfold xp at h
   split at h
   cases h;cases h
   split at h
   cases h;injection h with h;exact h.symm
  obtain⟨r,C⟩:=ie (xp p.U (qC x) (qC y));rw[C]at ALI o |-
  cases r with
  | ok c=>
   obtain rfl:=o c rfl;go_enter func120,ntmps120
   go_wp2_with(refine ALI.mono ?_;rintro e u⟨j,i⟩;subst i)
   go_ret;exact⟨j,rfl⟩
  | err q=>
   go_enter func120,ntmps120
   go_wp2_with(refine ALI.mono ?_;rintro e u⟨j,i⟩;subst i;simp only[vg])
   exact⟨rfl,j,rfl⟩
theorem qw2(i:Nat)(t:Ast)(o:((qZ t).op==0)=uh/\((qZ t).op==1)=uh/\((qZ t).op==2)=uh/\((qZ t).op==5)=uh/\((qZ t).op==6)=uh/\((qZ t).op==7)=uh/\((qZ t).op==10)=uh/\((qZ t).op==11)=uh/\((qZ t).op==12)=uh/\((qZ t).op==13)=uh/\((qZ t).op==20)=uh/\((qZ t).op==14)=uh/\((qZ t).op==15)=uh/\((qZ t).op==16)=uh/\((qZ t).op==17)=uh/\((qZ t).op==18)=uh/\((qZ t).op==19)=uh/\((qZ t).op==8)=uh/\((qZ t).op==9)=uh):qc3 i t:=by
 intro w v h;obtain⟨G,E,D,C,B,A,R,Q,H,g,K,N,a,O,P,I,J,u,q⟩:=o;have j:qC t=.ok 3:=by rw[kn];simp only[qR,G,E,D,C,B,A,R,Q,H,g,K,N,a,O,P,I,J,u,q,Bool.or_self,dk,if_false]
 rw[j];obtain⟨b,T,rfl,S,_⟩:=h.parts;have c0:=S.c0;go_enter func120,ntmps120
 go_wp2
 go_ret;exact⟨uy,rfl⟩
theorem pJ(g:Nat)(t:Ast)(b:WfA t)(a:∀x∈qw t,qc3 g x):qc3 g t:=by
 by_cases h0:(qZ t).op=0\/(qZ t).op=1\/(qZ t).op=2
 .exact qqg g t h0
 by_cases h1:(qZ t).op=5\/(qZ t).op=6\/(qZ t).op=7
 .exact qeh g t 3 3 a (Am ⟨rfl,rfl,h1⟩)
 by_cases h2:(qZ t).op=10\/(qZ t).op=11\/(qZ t).op=12\/(qZ t).op=13\/(qZ t).op=20
 .exact qeh g t 1 3 a (An (Am ⟨rfl,rfl,h2⟩))
 by_cases h3:(qZ t).op=14\/(qZ t).op=15\/(qZ t).op=16\/(qZ t).op=17\/(qZ t).op=18\/(qZ t).op=19
 .exact qeh g t 1 1 a (An (An ⟨rfl,rfl,h3⟩))
 by_cases h8:(qZ t).op=8\/(qZ t).op=9
 .cases t with
  | leaf p=>exact absurd h8 (_root_.not_or.2 b)
  | un p x=>exact absurd h8 (_root_.not_or.2 b.1)
  | bin p x y=>grind[qZ,qw1,qw]
  | tri p x y z=>exact absurd h8 (_root_.not_or.2 b.1)
 grind[qw2]
theorem vaa(a:Nat):∀t,WfA t->qc3 a t:=by
 intro t
 induction t<;>grind[pJ,qw,WfA]
theorem va7(j:Nat)(t:Ast)(i:WfA t)(w:Ao)(v:Ap)(h:IsNode j w v t):
  uo 82 #[v] w (qz6 w (qz3 (qC t))):=by
 have CLS:=qd (vaa j t i w v h);obtain⟨b,rfl⟩:=h.ptr
 cases hc:qC t with
 | err q=>
  rw[hc]at CLS;go_enter func82,ntmps82
  go_wp2_with(refine CLS.mono ?_;rintro e o⟨g,a⟩;subst a;simp only[vg])
  exact⟨rfl,g,rfl⟩
 | ok c=>
  rw[hc]at CLS;cases a:(c != 3)<;>cases h2:(c != 0)
  all_goals
   rw[qz3,a,h2];simp only[nl,lu,Bool.and_self,dk,if_false,if_true];go_enter func82,ntmps82
   go_wp2_with(refine CLS.mono ?_;rintro e o⟨g,a⟩;subst a)
   first|exact⟨rfl,g,rfl⟩|(go_end0;exact⟨g,rfl⟩)
def vwd(s:ByteArray)(k:Int)(g:Ast->St->Res)(g':Ast->TS->TRes):Prop:=∀l st ts,Fine s st->Str s st ts.toks->st.op=ts.op->st.tk.Q=k->SimR s (g l st) (g' (xw l) ts)
theorem go1{st:St}{ts:TS}(h:Fine s st)(a:Str s st ts.toks)(b:st.op=ts.op)(g:st.tk.Q≠0):Fine s (qh s st)/\Str s (qh s st) ts.next.toks/\(qh s st).op=ts.next.op:=⟨h.next,a.next g,b⟩
theorem qyh(s:uj):vwd s 14 (jy s) tIsNull:=by
 intro l st ts D u A B;obtain⟨j,b,i⟩:=go1 D u A (by rw[B];decide);unfold jy tIsNull;rw[jo b]
 by_cases h7:(qh s st).tk.Q=7
 rw[bs h7,bs h7];obtain⟨h,a,g⟩:=go1 j b i (by rw[h7];decide);rw[jo a]
 by_cases f9:(qh s (qh s st)).tk.Q=15
 rw[bs f9,bs f9];obtain⟨C,o,q⟩:=go1 h a g (by rw[f9];decide);exact⟨rfl,o,q,C⟩;rw[ak f9,ak f9];rfl;rw[ak h7,ak h7]
 by_cases f9:(qh s st).tk.Q=15
 rw[bs f9,bs f9];obtain⟨h,a,g⟩:=go1 j b i (by rw[f9];decide);exact⟨rfl,a,g,h⟩;rw[ak f9,ak f9];rfl
theorem Sim.between{f:St->Res}(h:Sim s f f'):∀l st ts,Fine s st->Str s st ts.toks->st.op=ts.op->SimR s (qY s f l st) (xI f' (xw l) ts):=by
 intro l st ts S j G;unfold qY xI;rw[jo j]
 by_cases S7:st.tk.Q=10
 .rw[bs S7,bs S7]
  obtain⟨N,C,E⟩:=go1 S j G (by rw[S7];decide);rcases(h _ _ N C E).cases with⟨t,q,R,i,g,o,Q,P⟩|⟨O,pl,i,g⟩
  .rw[i,g]
   show SimR s (if q.tk.Q=5 then _ else _) (if R.tk.Q=5 then _ else _);rw[jo o]
   by_cases h5:q.tk.Q=5
   rw[bs h5,bs h5];obtain⟨K,B,D⟩:=go1 P o Q (by rw[h5];decide);rcases(h _ _ K B D).cases with⟨T,A,u,b,a,J,I,H⟩|⟨O,pl,b,a⟩;rw[b,a];exact⟨rfl,J,I,H⟩;rw[b,a];rfl;rw[ak h5,ak h5];rfl
  rw[i,g];rfl
 rw[ak S7,ak S7];rfl
theorem qyg(s:uj)(l:Ast)(pl:Nat):∀n a xs st ts,A ts.toks<n->A ts.toks<a->Fine s st->Str s st ts.toks->st.op=ts.op->SimR s (xr s l pl n xs st) (xC (xw l) a xs ts):=by
 intro n
 induction n with
 | zero=>grind
 | succ n ih=>
  intro a xs st ts D C u b j;obtain⟨m,rfl⟩:∃m,a=m+1:=⟨a - 1,uq⟩;rw[xr,xC,jo b]
  by_cases R8:st.tk.Q=28
  rw[bs R8,bs R8];have o:st.tk.Q≠0:=by rw[R8];decide
  obtain⟨q,g,i⟩:=go1 u b j o;have B:A ts.next.toks<A ts.toks:=b.tail_lt o;rw[jo g]
  by_cases h4:(qh s st).tk.Q=4
  grind[go1,qV]
  grind[SimR]
  rw[ak R8,ak R8]
  by_cases dL:st.tk.Q=27
  rw[bs dL,bs dL];obtain⟨q,g,i⟩:=go1 u b j (by rw[dL];decide);exact⟨rfl,g,i,q⟩
  grind[SimR]
theorem vvs(s:uj):vwd s 11 (y7 s) tInRes:=by
 intro l st ts E u A B;obtain⟨D,g,q⟩:=go1 E u A (by rw[B];decide);unfold y7 tInRes;rw[jo g]
 by_cases dM:(qh s st).tk.Q=26
 rw[bs dM,bs dM];obtain⟨C,b,o⟩:=go1 D g q (by rw[dM];decide);rw[jo b]
 by_cases h4:(qh s (qh s st)).tk.Q=4
 rw[bs h4,bs h4];obtain⟨i,a,j⟩:=go1 C b o (by rw[h4];decide);have J:=a.len i;have I:=qV ts;have H:=qV ts.next;have G:=qV ts.next.next;exact qyg s l st.U _ _ _ _ _ uq uq i a j;rw[ak h4,ak h4];rfl;rw[ak dM,ak dM];rfl
theorem vmn(s:uj):vwd s 12 (vB s) tLike:=by
 intro l st ts J C D E;obtain⟨I,g,B⟩:=go1 J C D (by rw[E];decide);unfold vB tLike;rw[jo g]
 by_cases h4:(qh s st).tk.Q=4
 rw[bs h4,bs h4];obtain⟨j,a,i⟩:=go1 I g B (by rw[h4];decide);rw[jo a]
 by_cases i6:(qh s (qh s st)).tk.Q=13
 rw[bs i6,bs i6];obtain⟨H,b,u⟩:=go1 j a i (by rw[i6];decide);rw[jo b];unfold qa2
 by_cases g4:(qh s (qh s (qh s st))).tk.Q=4
 rw[bs g4]
 by_cases g1:A (qh s (qh s (qh s st))).tk.str=1
 rw[bs g1]
 by_cases g2:(xo (qh s (qh s (qh s st))).tk.str (qh s st).tk.str).isSome=ui
 rw[bs g2,bs ⟨g4,g1,g2⟩];obtain⟨G,o,q⟩:=go1 H b u (by rw[g4];decide);exact⟨rfl,o,q,G⟩;rw[ak g2,ak (λh=>g2 h.2.2)];rfl;rw[ak g1,ak (λh=>g1 h.2.1)];rfl;rw[ak g4,ak (λh=>g4 h.1)];rfl;rw[ak i6,ak i6];exact⟨rfl,a,i,j⟩;rw[ak h4,ak h4];rfl
theorem Sim.keyword{f:St->Res}(h:Sim s f f')(bare:Bool)(l:Ast)(st:St)(ts:TS)(g:Fine s st)(a:Str s st ts.toks)(b:st.op=ts.op):SimR s (vD s f (y7 s) (vB s) bare l st) (zt f' bare (xw l) ts):=by
 unfold vD zt;rw[jo a]
 by_cases V8:st.tk.Q=11/\bare=ui
 .rw[bs V8,bs V8];exact vvs s l st ts g a b V8.1
 rw[ak V8,ak V8]
 by_cases I2:st.tk.Q=12/\bare=ui
 .rw[bs I2,bs I2];exact vmn s l st ts g a b I2.1
 grind[Sim.between]
theorem Sim.tail{f:St->Res}(h:Sim s f f')(bare:Bool)(l:Ast)(st:St)(ts:TS)(j:Fine s st)(a:Str s st ts.toks)(b:st.op=ts.op):SimR s (zG s f (y7 s) (vB s) bare l st) (qgz f' bare (xw l) ts):=by
 unfold zG qgz;rw[jo a]
 by_cases h16:st.tk.Q=16\/st.tk.Q=17\/st.tk.Q=18\/st.tk.Q=19\/st.tk.Q=20\/st.tk.Q=21
 .grind[Sim.join]
 rw[ak h16,ak h16]
 by_cases dN:st.tk.Q=14
 .rw[bs dN,bs dN]
  cases bare;exact⟨rfl,a,b,j⟩;exact qyh s l st ts j a b dN
 rw[ak dN,ak dN]
 by_cases h7:st.tk.Q=7
 .rw[bs h7,bs h7]
  obtain⟨u,o,q⟩:=go1 j a b (by rw[h7];decide);rcases(h.keyword bare l _ _ u o q).cases with⟨t,G,E,i,g,C,B,A⟩|⟨D,pl,i,g⟩;rw[i,g];exact⟨rfl,C,B,A⟩;rw[i,g];rfl
 grind[Sim.keyword,SimR]
theorem Sim.test{f:St->Res}(h:Sim s f f'):Sim s (zH s f (y7 s) (vB s)) (qh0 f'):=by
 intro st ts g a b;unfold zH qh0
 grind[SimR,zG,y7,vB,qc5,qgz,Str.tk,TS.tk,xw,qnd,Sim.tail,Sim]
structure Sim3(s:ByteArray)(L:L3)(L':T3):Prop where
 S:Sim s L.S L'.S
 D:Sim s L.D L'.D
 E:Sim s L.E L'.E
 s':Shr L'.S
 d':Shr L'.D
 e':Shr L'.E
theorem vp5{L:L3}{L':T3}(h:Sim3 s L L'):Sim3 s (up3 s L) (tUp L'):=by
 have j:=Sim.signed h.S h.E;have a:=Shr.signed h.s' h.e';have C:=j.row a [24,25] rfl;have g:=a.row [24,25];have A:=C.row g [22,23] rfl;have q:=g.row [22,23];have B:=A.test;have u:=q.test;have o:=Sim.denied h.D B;have b:=Shr.denied h.d' u;have D:=o.row b [5] rfl;have i:=b.row [5];exact⟨j,o,D.row i [6] rfl,a,b,i.row [6]⟩
theorem qsz(s:uj):∀d,Sim3 s (lvl s d) (vvv d):=by
 intro d
 induction d with
 | zero=>exact vp5 ⟨(λ_ _ _ _ _=>rfl),(λ_ _ _ _ _=>rfl),(λ_ _ _ _ _=>rfl),(λ_ _ _ h=>by cases h),(λ_ _ _ h=>by cases h),(λ_ _ _ h=>by cases h)⟩
 | succ d ih=>exact vp5 ih
inductive Lx:List UInt8->List Tk->Prop where
 | nil {r:List UInt8} (h:qQ r 0=qk 0):Lx r []
 | cons {r:List UInt8} {k:Tk} {L:List Tk} (e:qQ r 0=k) (h:k.Q≠0) (t:Lx (r.drop (vq r 0)) L):Lx r (k::L)
theorem qff(l:uk)(k:Nat):qS l k=k+qS (l.drop k) 0:=by
 simp[qS]
theorem qfg(l:uk)(k:Nat):qQ l k=qQ (l.drop k) 0:=by
 grind[qQ,qff,List.drop_drop,qS]
theorem qrz(l:uk)(k:Nat)(a:k<=A l):vq l k=k+vq (l.drop k) 0:=by
 grind[vq,qff,List.drop_drop,qS]
theorem qgf(h:Lx r L):∀st:St,st.H<=s.size->s.data.toList.drop st.H=r->Str s (qh s st) L:=by
 induction h with
 | nil h=>
  intro st _ a;refine .nil ?_;show qQ (T s.data) st.H=_;rw[qfg,a,h]
 | cons e h t ih=>
  intro st g a;rename_i r k L
  have b:(qh s st).tk=k:=by
   show qQ (T s.data) st.H=_;rw[qfg,a,e]
  rw[<-b];refine .cons (by rwa[b]) (ih _ (qH s st g).H ?_);show s.data.toList.drop (vq (T s.data) st.H)=_;rw[qrz _ _ (by rwa[qy]),<-List.drop_drop,a]
theorem vas(n:Nat):jx (dig n)=ui:=by
 grind[jx,qdc,qqx]
theorem qty(n:Nat):∀c∈qep n,jx c=ui:=by
 induction n using Nat.strongRecOn with
 | ind n ih =>grind[pM,vas,qb0]
theorem vqf(n:Nat):qep n≠[]:=by
 by_cases h:n<10
 grind[pM]
 rw[qb0 h];simp
theorem qg4(p:UInt8->Bool):∀(l r:uk),(∀c∈l,p c=ui)->(∀c,r.head?=G c->p c=uh)->qD p (l++r)=A l:=by
 intro l
 induction l with
 | nil=>
  intro r _ h
  cases r with
  | nil=>rfl
  | cons c t=>grind[qD]
 | cons c t ih =>grind[qD]
theorem qqr(l:uk)(c:UInt8):∀k,vR k (l++[c])=vR k l * 10+(c.toNat - 48):=by
 induction l with
 | nil=>intro k;rfl
 | cons d t ih=>
  intro k;show vR (k * 10+(d.toNat - 48)) (t++[c])=vR (k * 10+(d.toNat - 48)) t * 10+(c.toNat - 48);rw[ih]
theorem qwa(n:Nat):vR 0 (qep n)=n:=by
 induction n using Nat.strongRecOn with
 | ind n ih=>
  by_cases h:n<10
  .rw[pM h]
   show 0 * 10+((dig n).toNat - 48)=n;rw[qqx];omega
  grind[qb0,qqr,qqx]
theorem vfu(n:Nat)(u:n<=9223372036854775807)(r:uk)(b:∀c,r.head?=G c->jx c=uh):qQ (qep n++r) 0=⟨3,n,[]⟩/\vq (qep n++r) 0=A (qep n):=by
 obtain⟨c,t,a⟩:∃c t,qep n=c::t:=by
  cases h:qep n with
  | nil=>grind[vqf]
  | cons c t=>exact⟨c,t,rfl⟩
 have hd:jx c=ui:=qty n c (by rw[a];simp)
 have q:spU c=uh:=by
  grind[jx,qdc,spU,spB]
 have i:km c=uh:=by
  grind[jx,qdc,km,qd0]
 have g:=qg4 jx (qep n) r (qty n) b
 have j:qS (qep n++r) 0=0:=by
  grind[qS,qD]
 have o:0<A (qep n++r):=by rw[a];simp
 constructor
 .unfold qQ
  rw[j,bs o,ee]
  have:vk (qep n++r)=yj (qep n++r):=by
   conv=>lhs;rw[a]
   show(if km c then _ else if jx c then _ else _)=_;rw[i,hd,a];rfl
  rw[this];unfold yj;rw[g,List.take_left,qwa,bs uq]
 grind[vq,xN]
theorem vc2(b:n<=9223372036854775807)(a:∀c,r.head?=G c->jx c=uh)(h:Lx r L):Lx (qep n++r) (⟨3,n,[]⟩::L):=by
 constructor<;>grind[vfu]
theorem xe(h:Lx r L):Lx (32::r) L:=by
 have g:qS (32::r) 0=qS r 0+1:=by unfold qS;simp[qD,show spU 32=ui from rfl]
 have a:qQ (32::r) 0=qQ r 0:=by
  grind[qQ]
 have b:vq (32::r) 0=vq r 0+1:=by
  grind[vq]
 cases h with
 | nil h=>exact .nil (a.trans h)
 | cons e h t=>exact .cons (a.trans e) h (by grind)
theorem pf:Lx [] []:=.nil rfl
theorem qew:(prog.info? 4).map (λi=>(i.zero,i.size,i.bytes))=G (G (Ah uh),1,1):=uw
def BoolsAt(w:Ao)(b n:Nat)(e:Nat->Bool):Prop:=∀j,j<=n->w.cell? (D b j O)=G (Ah (e j))
def gj(p:Pc)(t:List UInt8)(e:Nat->Bool)(k:Nat):Nat->Ap:=λj=>Ah (if j<=k then nextB p t e j else uh)
structure FromAt(w W:Ao)(p:Pc)(t:ByteArray)(e:Nat->Bool)(m k:Nat):Prop where
 row:W.rowIs (w.1.size+1) 4 m (gj p (T t.data) e k)
 c0:W.cell? ⟨w.1.size,0,O⟩=G (I J p.Q)
 c1:W.cell? ⟨w.1.size,1,O⟩=G (I .u8 p.c.toNat)
 lt:w.1.size+1<W.1.size
 h:Below w.1.size w W
theorem vb6(t:uj)(k:Nat)(h:k<t.size):t.data.toList.getD k 0=t[k]:=by
 grind[qy,qF]
theorem FromAt.drew{t:uj}(h:FromAt w W p t e m k):FromAt w W.drew p t e m k:=⟨h.row.drew,h.c0,h.c1,h.lt,h.h.drew⟩
theorem FromAt.step{t:uj}(h:FromAt w W p t e m k)(v:Bool)(hv:nextB p (T t.data) e (k+1)=v):FromAt w (B W ⟨Z w.1+1,k+1,O⟩ (Ah v)) p t e m (k+1):=by
 refine⟨(h.row.set (k+1) (Ah v)).congr λi _=>?_, ?_, ?_,by simpa using h.lt,h.h.setCell (by grind) _⟩
 grind[gj]
 .simp[go_sem,h.c0]
 simp[go_sem,h.c1]
theorem qre(w:Ao)(p:Pc)(t:uj)(e:Nat->Bool)(m:Nat)(j:(p.Q==2)=ui):FromAt w ((w.alloc (Al #[I J p.Q,I .u8 p.c.toNat] 266)).alloc (Al ((madeCells #[Ah uh] m).setIfInBounds 0 (Ah (e 0))) 4)) p t e m 0:=by
 have b:((madeCells #[Ah uh] m).setIfInBounds 0 (Ah (e 0))).size=m:=by rw[Array.size_setIfInBounds];exact size_madeCells _ _
 have g:=World.rowIs_alloc (w.alloc (Al #[I J p.Q,I .u8 p.c.toNat] 266)) ((madeCells #[Ah uh] m).setIfInBounds 0 (Ah (e 0))) 4 (gj p (T t.data) e 0) (λi a=>by
  rw[b]at a;rw[rp]
  by_cases h0:i=0
  grind[gj,nextB]
  rw[ak (λh=>h0 h.symm),gj,ak uq]
  simp[madeCells,a,Nat.mod_one])
 grind[World.alloc,qM,World.cell?_alloc_past,World.cell?_alloc_at,FromAt]
theorem qrd(w:Ao)(p:Pc)(t:uj)(e:Nat->Bool)(m:Nat)(b:(p.Q==2)=uh):FromAt w ((w.alloc (Al #[I J p.Q,I .u8 p.c.toNat] 266)).alloc (Al (madeCells #[Ah uh] m) 4)) p t e m 0:=by
 have a:=World.rowIs_made (w.alloc (Al #[I J p.Q,I .u8 p.c.toNat] 266)) (Ah uh) m 4;rw[show(w.alloc (Al #[I J p.Q,I .u8 p.c.toNat] 266)).1.size=Z w.1+1 by simp]at a;refine⟨a.congr λi _=>?_, ?_, ?_,ur,qM _ _ _⟩<;>grind[World.alloc,gj,nextB,World.cell?_alloc_past,World.cell?_alloc_at]
theorem vii(p:Pc)(e:Nat->Bool)(b cap:Nat)(t:uj)(ht:t.size<=1000)(w:Ao)(Q:BoolsAt w b t.size e)(N:b<Z w.1):
  Calls prog 213 #[pcV p,C (G (D b 0 O)) (t.size+1) cap,Y t] w λen w'=>∃nb,en=Ak (C (G (D nb 0 O)) (t.size+1) (t.size+1))/\Z w.1<=nb/\nb<Z w'.1/\BoolsAt w' nb t.size (nextB p (T t.data) e)/\Xb w w':=by
 obtain⟨m,X⟩:=ie (t.size+1);have NU:=run_make_row' (P:=prog) 263 4 (Ah uh) 1 underlying263 qew rfl J J m uq uq;rw[X];have FN:0<m:=uq;have R:=qd Q;have e0:=Q 0 (bt _);have d0:¬Z w.1+1=b:=uq;have u:=qd (World.rowIs_made (w.alloc (Al #[I J p.Q,I .u8 p.c.toNat] 266)) (Ah uh) m 4);have BX:=(q9 u).cell (i:=0) FN;have S:=(q9 u).frozen 0;rw[show(w.alloc (Al #[I J p.Q,I .u8 p.c.toNat] 266)).1.size=Z w.1+1 by simp]at BX S u;cases B8:(p.Q==2)
 .have H:Hid (FromAt w ((w.alloc (Al #[I J p.Q,I .u8 p.c.toNat] 266)).alloc (Al (madeCells #[Ah uh] m) 4)) p t e m 0):=qd (qrd w p t e m B8)
  conv=>arg 3;simp only[pcV]
  go_enter func213,ntmps213
  go_wp2
  go_loopw [22] (λi wr=>∃k:Nat,k<=t.size/\i=I J k/\Hid (FromAt w wr p t e m k)) (λi _=>t.size - (intOf i).toNat)
  exact⟨0,bt _,rfl,H⟩;obtain⟨k,hk,rfl,a⟩:=hrel;have E:=(q9 a).c0;have fc1:=(q9 a).c1;have A:=(q9 a).lt
  by_cases N:k<t.size
  .have ek:=(a.h.cell (p:=D b k O) (by assumption)).trans (R k uq)
   have U:=(q9 a).row.cell (i:=k+1) uq;have rf:=(q9 a).row.frozen (k+1);have FQ:k+1<m:=uq;have YQ:k<m:=uq;have U4:(0:Int)<=(k:Int)+1:=uq;have fQ:(k:Int)+1<(m:Int):=uq;have iX:IntKind.i64.wrap ((k:Int)+1)=(k:Int)+1:=IntWalk.i64_in _ uq;cases A5:(p.Q==1)
   .cases hek:e k
    .rw[hek]at ek
     go_wp2
     go_region
     all_goals
      go_wp2
      go_roundw
      case rel=>exact⟨k+1,uq,by go_num,qd (a.drew.step _ (by rw[nextB,B8,A5,hek];simp))⟩
      simp[intOf];omega
    rw[hek]at ek;cases hx:(t[k]==p.c)
    all_goals
     have I0:=(kO t[k] p.c).trans hx
     go_wp2
     go_region_held3 (λW=>Xc W b k (Ah ui)/\Xc W (Z w.1) 1 (I .u8 p.c.toNat)) (go_keep) (fail)
     go_wp2
     go_roundw
     case rel=>exact⟨k+1,uq,by go_num,qd (a.drew.step _ (by rw[nextB,B8,A5,hek,vb6 t k N,hx];simp))⟩
     simp[intOf];omega
   obtain⟨bk,g⟩:=ie (e k);rw[g]at ek
   go_wp2
   go_roundw
   case rel=>exact⟨k+1,uq,by go_num,qd (a.step _ (by rw[nextB,B8,A5,g];simp))⟩
   simp[intOf];omega
  go_wp2
  go_ret;obtain rfl:k=t.size:=uq;exact⟨_,rfl,uq,A,λj B=>by have:=(q9 a).row.cell (i:=j) uq;rw[this,gj,bs B],a.h⟩
 have H:Hid (FromAt w ((w.alloc (Al #[I J p.Q,I .u8 p.c.toNat] 266)).alloc (Al ((madeCells #[Ah uh] m).setIfInBounds 0 (Ah (e 0))) 4)) p t e m 0):=qd (qre w p t e m B8)
 conv=>arg 3;simp only[pcV]
 go_enter func213,ntmps213
 go_wp2
 go_loopw [22] (λi wr=>∃k:Nat,k<=t.size/\i=I J k/\Hid (FromAt w wr p t e m k)) (λi _=>t.size - (intOf i).toNat)
 exact⟨0,bt _,rfl,H⟩;obtain⟨k,hk,rfl,a⟩:=hrel;have E:=(q9 a).c0;have A:=(q9 a).lt
 by_cases N:k<t.size
 .have ek:=(a.h.cell (p:=⟨b,k+1,O⟩) (by assumption)).trans (R (k+1) uq)
  have U:=(q9 a).row.cell (i:=k+1) uq;have rf:=(q9 a).row.frozen (k+1);have q:wr.cell? ⟨Z w.1+1,k,O⟩=G (Ah (nextB p (T t.data) e k)):=by have:=(q9 a).row.cell (i:=k) uq;rw[this,gj,bs ux]
  obtain⟨nk,o⟩:=ie (nextB p (T t.data) e k);rw[o]at q;have K:=qd o;clear o;have FQ:k+1<m:=uq;have YQ:k<m:=uq;have U4:(0:Int)<=(k:Int)+1:=uq;have fQ:(k:Int)+1<(m:Int):=uq;cases hek:e (k+1)
  all_goals
   rw[hek]at ek
   go_wp2
   go_roundw
   case rel=>exact⟨k+1,uq,by go_num,qd (a.step _ (by rw[nextB,B8,hek,q9 K];simp))⟩
   simp[intOf];omega
 go_wp2
 go_ret;obtain rfl:k=t.size:=uq;exact⟨_,rfl,uq,A,λj B=>by have:=(q9 a).row.cell (i:=j) uq;rw[this,gj,bs B],a.h⟩
theorem qxc(ps:List Pc):∀(k:Nat) (p:Pc),ps[k]?=G p->(ye ps)[k * 2]?=G (I J p.Q)/\(ye ps)[k * 2+1]?=G (I .u8 p.c.toNat):=by
 induction ps with
 | nil=>grind
 | cons q r ih=>
  intro k p h;have a:ye (q::r)=I J q.Q::I .u8 q.c.toNat::ye r:=rfl
  cases k with
  | zero=>grind
  | succ k =>grind
theorem vie{ps:List Pc}{t:uk}(h:ps[k]?=G p):kZ (ps.drop k) t e=kZ (ps.drop (k+1)) t (nextB p t e):=by
 grind[List.drop_eq_getElem_cons,kZ]
theorem vql{ps:List Pc}{t:uk}(h:A ps<=k):kZ (ps.drop k) t e=e (A t):=by
 rw[eo h,kZ]
theorem qio(e:uk):(p:uk)->∀ps,xo e p=G ps->A ps<=A p
 | [],ps,h=>by rw[xo]at h;injection h with h;subst h;simp
 | [c],ps,h=>by
  simp only[xo]at h
  split at h
  .cases h
  .injection h with h;subst h;simp
 | c::d::t,ps,h=>by
  simp only[xo]at h
  split at h
  .cases hq:xo e t with
   | none=>rw[hq]at h;cases h
   | some q=>rw[hq]at h;injection h with h;subst h;have:=qio e t q hq;simp;omega
  .cases hq:xo e (d::t) with
   | none=>rw[hq]at h;cases h
   | some q=>rw[hq]at h;injection h with h;subst h;have:=qio e (d::t) q hq;simp at this |-;omega
theorem qxa{base e size:Nat}{xs:List Ap}(h:ue w base e size v n xs):∃a c,v=C a n c/\∀(j:Nat) (u:Ap),xs[j]?=G u->∃g,a=G (D g 0 O)/\Xc w g j u/\g<Z w.1/\base<=g:=by
 have A:=h;obtain⟨rfl,i⟩|⟨g,cap,cur,rfl,q,o,_⟩:=h.2;refine⟨O,0,by rw[i],λj u b=>?_⟩;have:=h.1;rw[i,Nat.zero_mul]at this;rw[dh this]at b;simp at b;refine⟨G (D g 0 O),cap,rfl,λj u b=>⟨g,rfl, ?_,(ch.1 o).1,q⟩⟩;have:=A.cells (g:=g) rfl j u b;have B:(⟨g,0,O⟩:Addr).add j=⟨g,j,O⟩:=by grind[Addr.add]
 rwa [B]at this
theorem qwm(w:Ao)(m:Nat):∀j,j<m->Xc (w.alloc (Al ((madeCells #[Ah uh] m).setIfInBounds 0 (Ah ui)) 4)) (Z w.1) j (Ah (j==0)):=by
 have a:((madeCells #[Ah uh] m).setIfInBounds 0 (Ah ui)).size=m:=by grind[size_madeCells]
 have g:=World.rowIs_alloc w ((madeCells #[Ah uh] m).setIfInBounds 0 (Ah ui)) 4 (λj=>Ah (j==0)) (λi b=>by
  rw[a]at b;rw[rp]
  by_cases h0:i=0
  grind
  rw[ak (λh=>h0 h.symm)]
  simp[madeCells,b,Nat.mod_one,h0])
 intro j o;exact g.cell (by rw[a];exact o)
theorem BoolsAt.h{w':Ao}{b:Nat}(h:BoolsAt w b n e)(a:Xb w w')(g:b<Z w.1):BoolsAt w' b n e:=by grind[Below.cell,BoolsAt]
theorem vif(pat esc t:uj)(hp:pat.size<=200)(ht:t.size<=1000)(w:Ao):
  uo 177 #[Y pat,Y esc,Y t] w λo w'=>o=Ak (Ah (qmo (T pat.data) (T esc.data) (T t.data)))/\Xb w w':=by
 have CUT:=qd (qqp pat esc hp w);unfold qmo
 cases hc:xo (T esc.data) (T pat.data) with
 | none=>
  rw[hc]at CUT;go_enter func177,ntmps177
  go_wp2_with(refine CUT.mono ?_;rintro o b⟨u,h1⟩;subst h1)
  go_ret;exact⟨rfl,u⟩
 | some ps=>
  rw[hc]at CUT;have J5:=qio _ _ _ hc;rw[qy]at J5;obtain⟨m,hm⟩:=ie (t.size+1);have NU:=run_make_row' (P:=prog) 263 4 (Ah uh) 1 underlying263 qew rfl J J m uq uq;have FN:0<m:=uq;have hmi:(t.size:Int)+1=(m:Int):=uq;obtain⟨R,X⟩:=ie (kZ ps (T t.data) (λj=>j==0));show Calls _ _ _ _ (λo w'=>o=Ak (Ah (kZ ps (T t.data) λj=>j==0))/\Xb w w');rw[X];have HR:=qd X;obtain⟨n,N⟩:=ie (A ps);rw[N]at J5;have E:=qd N;go_enter func177,ntmps177
  go_wp2_with(refine CUT.mono ?_;rintro o b⟨u,v1,rfl,B7⟩;obtain⟨va,vc,rfl,D6⟩:=qxa B7;rw[q9 E];have BX:=(World.rowIs_made b (Ah uh) m 4).cell (i:=0) FN;have uB:=(World.rowIs_made b (Ah uh) m 4).frozen 0)
  have K:=qd D6;have ST:=qd (qwm b m);have u:=qd u
  go_loopw [9,28] (λs9 i wr=>∃(k a:Nat) (f:Nat->Bool),k<=n/\i=I J k/\s9=C (G (D a 0 O)) m m/\Hid (BoolsAt wr a t.size f)/\a<Z wr.1/\Hid (R=kZ (ps.drop k) (T t.data) f)/\Hid (Xb b wr)) (λ_ i _=>n - (intOf i).toNat)
  exact⟨0,Z b.1,λj=>j==0,bt _,rfl,rfl,qd (λj hj=>q9 ST j uq),ur,qd (by rw[ee,q9 HR]),qd (uy.alloc ux _)⟩;obtain⟨k,a,f,hk,rfl,rfl,U,B,Q,q⟩:=hrel;have aO:=(q9 q).size
  by_cases A1:k<n
  .obtain⟨p,iA⟩:∃p,ps[k]?=G p:=⟨_,ag (by rwa[q9 E])⟩
   obtain⟨q0,q1⟩:=qxc ps k p iA;obtain⟨g,rfl,bW,S,_⟩:=q9 K _ _ q0;obtain⟨g',I3,C9,_,_⟩:=q9 K _ _ q1;obtain rfl:g=g':=by simpa using I3
   have d0:=(q.cell (p:=⟨g,k * 2,O⟩) S).trans bW;have d1:=(q.cell (p:=⟨g,k * 2+1,O⟩) S).trans C9;have H:Hid (R=kZ (ps.drop (k+1)) (T t.data) (nextB p (T t.data) f)):=qd (by rw[q9 Q,vie iA]);have FR:=qd (λw2 (h:BoolsAt w2 a t.size f) (hl:a<Z w2.1)=>vii p f a m t ht w2 h hl);rw[hm]at FR
   go_wp2_with(refine(FR _ (U.h (uy.alloc ux _) B) ut).mono ?_;rintro o w2⟨nb,rfl,fB,F8,UT,A3⟩)
   go_roundw
   case rel=>exact⟨k+1,nb,_,uq,by go_num,rfl,qd UT,F8,H,qd (q.trans ((vh A3).mono uq))⟩
   simp[intOf];omega
  have H:Hid (R=f t.size):=qd (by rw[q9 Q,vql (by rw[q9 E];omega),qy]);have F9:=q9 U t.size ux
  go_wp2
  go_ret;exact⟨by rw[q9 H];rfl,qg u q⟩
def qz9(lo:Nat)(ps:List Pr)(ev:Ap)(t:Ast):Prop:=∀(w:Ao) (v:Ap),IsNode lo w v t->EvArg w ev ps->Calls prog 49 #[v,ev] w λe w'=>e=Ak (vV (ofA ps t))/\Below (Z w.1) w w'
def qe7(lo:Nat)(t:Ast):Prop:=∀(w:Ao) (b:Nat) (x y z:V),Rng x.M->Rng y.M->Rng z.M->A x.str<=1000->IsNode lo w (Ag (G (D b 0 O))) t ->
 Calls prog 90 #[Ag (G (D b 0 O)),vV x,vV y,vV z] w λe w'=>e=Ak (vV (jn (qZ t) x y z))/\Below (Z w.1) w w'
theorem vxt(u:Nat)(ps:List Pr)(ev:Ap)(t:Ast)(i:(qZ t).op=0):qz9 u ps ev t:=by
 intro w v h j;have q:ofA ps t=yA ps (qZ t).str:=by rw[qd3,ofN,i];rfl
 rw[q];have CON:=qd (λg (h:EvArg g ev ps)=>qu2 h (BS (qZ t).str));obtain⟨b,C,rfl,a,_⟩:=h.parts;have c0:=a.c0;rw[i]at c0;have c3:=a.c3;have c4:=a.c4;have H:=a.within;have A:=qd j;obtain⟨G,D,E,rfl⟩:=j.slice;clear a h q i j;go_enter func49,ntmps49
 go_wp2_with(refine be (CON _ (A.h (uy.alloc ux _))) λg o=>?_;obtain⟨B,I⟩:=qi o;have J:Z w.1<Z g.1:=(by have:=o.size;simp at this;omega);simp only[vV])
 refine bo (by simp[go_sem,B]<;>rfl) rfl ⟨rfl, ?_⟩;exact(((qg (uy.alloc ux _) o).setCell ur _).setCell ur _).setCell ur _
theorem vxu(u:Nat)(ps:List Pr)(ev:Ap)(t:Ast)(i:(qZ t).op=1):qz9 u ps ev t:=by
 intro w v h j;have q:ofA ps t=iV (qZ t).M:=by rw[qd3,ofN,i];rfl
 rw[q];have CON:=qd (λg=>kd (qZ t).M g);obtain⟨b,B,rfl,a,_⟩:=h.parts;have c0:=a.c0;rw[i]at c0;have c3:=a.c3;have c4:=a.c4;have G:=a.within;have H:=qd j;obtain⟨E,C,D,rfl⟩:=j.slice;clear a h q i j;go_enter func49,ntmps49
 go_wp2_with(refine be (CON _) λg o=>?_;obtain⟨A,I⟩:=qi o;have J:Z w.1<Z g.1:=(by have:=o.size;simp at this;omega);simp only[vV])
 refine bo (by simp[go_sem,A]<;>rfl) rfl ⟨rfl, ?_⟩;exact(((qg (uy.alloc ux _) o).setCell ur _).setCell ur _).setCell ur _
theorem vxv(u:Nat)(ps:List Pr)(ev:Ap)(t:Ast)(i:(qZ t).op=2):qz9 u ps ev t:=by
 intro w v h j;have q:ofA ps t=tV (qZ t).str:=by rw[qd3,ofN,i];rfl
 rw[q];have CON:=qd (λg=>qgj (BS (qZ t).str) g);obtain⟨b,B,rfl,a,_⟩:=h.parts;have c0:=a.c0;rw[i]at c0;have c3:=a.c3;have c4:=a.c4;have G:=a.within;have H:=qd j;obtain⟨E,C,D,rfl⟩:=j.slice;clear a h q i j;go_enter func49,ntmps49
 go_wp2_with(refine be (CON _) λg o=>?_;obtain⟨A,I⟩:=qi o;have J:Z w.1<Z g.1:=(by have:=o.size;simp at this;omega);simp only[vV])
 refine bo (by simp[go_sem,A]<;>rfl) rfl ⟨rfl, ?_⟩;exact(((qg (uy.alloc ux _) o).setCell ur _).setCell ur _).setCell ur _
theorem vxw(u:Nat)(ps:List Pr)(ev:Ap)(t:Ast)(i:(qZ t).op=3):qz9 u ps ev t:=by
 intro w v h j;have q:ofA ps t=bV ui:=by rw[qd3,ofN,i];rfl
 rw[q];have CON:=qd (λg=>jC ui g);obtain⟨b,B,rfl,a,_⟩:=h.parts;have c0:=a.c0;rw[i]at c0;have c3:=a.c3;have c4:=a.c4;have G:=a.within;have H:=qd j;obtain⟨E,C,D,rfl⟩:=j.slice;clear a h q i j;go_enter func49,ntmps49
 go_wp2_with(refine be (CON _) λg o=>?_;obtain⟨A,I⟩:=qi o;have J:Z w.1<Z g.1:=(by have:=o.size;simp at this;omega);simp only[vV])
 refine bo (by simp[go_sem,A]<;>rfl) rfl ⟨rfl, ?_⟩;exact(((qg (uy.alloc ux _) o).setCell ur _).setCell ur _).setCell ur _
theorem vxx(u:Nat)(ps:List Pr)(ev:Ap)(t:Ast)(i:(qZ t).op=4):qz9 u ps ev t:=by
 intro w v h j;have q:ofA ps t=bV uh:=by rw[qd3,ofN,i];rfl
 rw[q];have CON:=qd (λg=>jC uh g);obtain⟨b,B,rfl,a,_⟩:=h.parts;have c0:=a.c0;rw[i]at c0;have c3:=a.c3;have c4:=a.c4;have G:=a.within;have H:=qd j;obtain⟨E,C,D,rfl⟩:=j.slice;clear a h q i j;go_enter func49,ntmps49
 go_wp2_with(refine be (CON _) λg o=>?_;obtain⟨A,I⟩:=qi o;have J:Z w.1<Z g.1:=(by have:=o.size;simp at this;omega);simp only[vV])
 refine bo (by simp[go_sem,A]<;>rfl) rfl ⟨rfl, ?_⟩;exact(((qg (uy.alloc ux _) o).setCell ur _).setCell ur _).setCell ur _
def OfAt(ps:List Pr)(t:Ast)(k:Nat)(x0 x1 x2:V):Prop:=
 x0=(if 0<k then((qw t).map (ofA ps)).getD 0 nV else nV)/\x1=(if 1<k then((qw t).map (ofA ps)).getD 1 nV else nV)/\x2=(if 2<k then((qw t).map (ofA ps)).getD 2 nV else nV)
theorem OfAt.done(h:OfAt ps t (A (qw t)) x0 x1 x2):jn (qZ t) x0 x1 x2=jn (qZ t) (((qw t).map (ofA ps)).getD 0 nV) (((qw t).map (ofA ps)).getD 1 nV) (((qw t).map (ofA ps)).getD 2 nV):=by
 grind[OfAt]
theorem OfAt.step0{x:Ast}(h:OfAt ps t 0 x0 x1 x2)(a:(qw t)[0]?=G x):OfAt ps t 1 (ofA ps x) x1 x2:=by
 simp_all [OfAt]
theorem OfAt.step1{x:Ast}(h:OfAt ps t 1 x0 x1 x2)(a:(qw t)[1]?=G x):OfAt ps t 2 x0 (ofA ps x) x2:=by
 simp_all [OfAt]
theorem OfAt.step2{x:Ast}(h:OfAt ps t 2 x0 x1 x2)(a:(qw t)[2]?=G x):OfAt ps t 3 x0 x1 (ofA ps x):=by
 simp_all [OfAt]
theorem OfAt.rng(h:OfAt ps t k x0 x1 x2)(a:∀x∈qw t,Rng (ofA ps x).M):Rng x0.M/\Rng x1.M/\Rng x2.M:=by
 grind[qw,ofA,nV,pX,OfAt,V]
theorem OfAt.len(h:OfAt ps t k x0 x1 x2)(a:∀x∈qw t,A (ofA ps x).str<=1000):A x0.str<=1000:=by
 grind[nV,OfAt]
theorem vrz(lo:Nat)(ps:List Pr)(ev:Ap)(t:Ast)(N9:∀x∈qw t,qz9 lo ps ev x)(C:∀x∈qw t,Rng (ofA ps x).M)(A6:∀x∈qw t,A (ofA ps x).str<=1000)(hj:qe7 lo t)(h0:¬(qZ t).op=0)(h1:¬(qZ t).op=1)(h2:¬(qZ t).op=2)(h3:¬(qZ t).op=3)(h4:¬(qZ t).op=4):qz9 lo ps ev t:=by
 intro w v h A7;have e0:((qZ t).op==0)=uh:=aw.2 h0;have e1:((qZ t).op==1)=uh:=aw.2 h1;have e2:((qZ t).op==2)=uh:=aw.2 h2;have e3:((qZ t).op==3)=uh:=aw.2 h3;have e4:((qZ t).op==4)=uh:=aw.2 h4
 have hr:ofA ps t=jn (qZ t) (((qw t).map (ofA ps)).getD 0 nV) (((qw t).map (ofA ps)).getD 1 nV) (((qw t).map (ofA ps)).getD 2 nV):=by
  rw[qd3,ofN,ak h0,ak h1,ak h2,ak h3,ak h4]
 rw[hr];obtain⟨r,P4⟩:=ie (jn (qZ t) (((qw t).map (ofA ps)).getD 0 nV) (((qw t).map (ofA ps)).getD 1 nV) (((qw t).map (ofA ps)).getD 2 nV));rw[P4];have HR:Hid (jn (qZ t) (((qw t).map (ofA ps)).getD 0 nV) (((qw t).map (ofA ps)).getD 1 nV) (((qw t).map (ofA ps)).getD 2 nV)=r):=qd P4;have RH:=qd h;obtain⟨b,sv,rfl,A8,bH⟩:=h.parts;obtain⟨a,rfl,eC⟩:=bH.any;have lA:=qg8 t;have c0:=A8.c0;have c2:=A8.c2;have I1:=A8.within;obtain⟨n,hn⟩:=ie (A (qw t));rw[hn]at c2 lA;have HN:=qd hn;have HS:=qd eC;have IT:=qd N9;have HRNG:=qd C;have AQ:=qd A6;have HJ:=qd hj;have HE:=qd A7;obtain⟨ea,en,ec,rfl⟩:=A7.slice;clear hr P4 bH h hn eC N9 C A6 hj A7 A8 h0 h1 h2 h3 h4;go_enter func49,ntmps49
 go_wp2
 go_loopw [48] (λi wr=>∃(k:Nat) (x0 x1 x2:V),k<=n/\i=I J k/\Hid (OfAt ps t k x0 x1 x2)/\wr.cell? ⟨Z w.1+1,0,O⟩=G (I J x0.Q)/\wr.cell? ⟨Z w.1+1,1,O⟩=G (I J x0.M)/\wr.cell? ⟨Z w.1+1,2,O⟩=G (Y (BS x0.str))/\wr.cell? ⟨Z w.1+1,3,O⟩=G (I J x1.Q)/\wr.cell? ⟨Z w.1+1,4,O⟩=G (I J x1.M)/\wr.cell? ⟨Z w.1+1,5,O⟩=G (Y (BS x1.str))/\wr.cell? ⟨Z w.1+1,6,O⟩=G (I J x2.Q)/\wr.cell? ⟨Z w.1+1,7,O⟩=G (I J x2.M)/\wr.cell? ⟨Z w.1+1,8,O⟩=G (Y (BS x2.str))/\wr.cell? ⟨Z w.1,0,O⟩=G (I J 0)/\wr.cell? ⟨Z w.1,1,O⟩=G (I J 0)/\wr.cell? ⟨Z w.1,2,O⟩=G (Y ⟨#[]⟩)/\(Xf wr (Z w.1+1))/\(Xf wr (Z w.1))/\Z w.1+1<Z wr.1/\Hid (Xb w wr)) (λi _=>n - (intOf i).toNat)
 exact⟨0,nV,nV,nV,bt _,rfl,qd ⟨rfl,rfl,rfl⟩,by simp[nV],by simp[nV],by simp[nV,BS],by simp[nV],by simp[nV],by simp[nV,BS],by simp[nV],by simp[nV],by simp[nV,BS],by rw[bj _ _ _ ur,ce _ _ _ _ rfl];rfl,by rw[bj _ _ _ ur,ce _ _ _ _ rfl];rfl,by rw[bj _ _ _ ur,ce _ _ _ _ rfl];rfl,λj=>ur,λj=>by rw[iu _ _ _ ur,iq _ _ _ _ rfl],ur,qd (qM _ _ _)⟩;obtain⟨k,x0,x1,x2,hk,rfl,P,a0,a1,a2,a3,a4,a5,a6,a7,a8,r0,r1,r2,fz,fr,aO,E⟩:=hrel
 by_cases A1:k<n
 .obtain⟨x,hx⟩:∃x,(qw t)[k]?=G x:=⟨_,ag (by rwa[q9 HN])⟩
  obtain⟨g,bx,rfl,J6,L6,mU,iC⟩:=q9 HS k x hx;have dx:=(E.cell (p:=D g k O) L6).trans mU;have dZ:=qd (iC.P (Kept.x E));have CX:=qd (IT x (bh hx));have eO:=qd (HE.h E);have HX:=qd hx;clear hx iC mU;rcases(show k=0\/k=1\/k=2 by omega) with rfl|rfl|rfl
  .go_wp2_with(refine be (CX _ _ dZ eO) λo u=>?_;obtain⟨q,B⟩:=qi u;have R:Z w.1+1<Z o.1:=(md u.size);have q0:o.cell? ⟨Z w.1+1,0,O⟩=G (I J x0.Q):=(q _ 0 uq).trans a0;have q1:o.cell? ⟨Z w.1+1,1,O⟩=G (I J x0.M):=(q _ 1 uq).trans a1;have q2:o.cell? ⟨Z w.1+1,2,O⟩=G (Y (BS x0.str)):=(q _ 2 uq).trans a2;have q3:o.cell? ⟨Z w.1+1,3,O⟩=G (I J x1.Q):=(q _ 3 uq).trans a3;have q4:o.cell? ⟨Z w.1+1,4,O⟩=G (I J x1.M):=(q _ 4 uq).trans a4;have X:o.cell? ⟨Z w.1+1,5,O⟩=G (Y (BS x1.str)):=(q _ 5 uq).trans a5;have U:o.cell? ⟨Z w.1+1,6,O⟩=G (I J x2.Q):=(q _ 6 uq).trans a6;have T:o.cell? ⟨Z w.1+1,7,O⟩=G (I J x2.M):=(q _ 7 uq).trans a7;have S:o.cell? ⟨Z w.1+1,8,O⟩=G (Y (BS x2.str)):=(q _ 8 uq).trans a8;have N:o.cell? ⟨Z w.1,0,O⟩=G (I J 0):=(q _ 0 uq).trans r0;have K:o.cell? ⟨Z w.1,1,O⟩=G (I J 0):=(q _ 1 uq).trans r1;have H:o.cell? ⟨Z w.1,2,O⟩=G (Y ⟨#[]⟩):=(q _ 2 uq).trans r2;have Q:Xf o (Z w.1+1):=(λj=>(B _ j uq).trans (fz j));have f0:Xf o (Z w.1):=(λj=>(B _ j uq).trans (fr j));have u:=qd u;clear q B;simp only[vV])
   go_roundw
   case rel=>exact⟨1,_,x1,x2,uq,by go_num,qd (OfAt.step0 P HX),by simp[go_sem,q0],by simp[go_sem,q1],by simp[go_sem,q2],by simp[go_sem,q3],by simp[go_sem,q4],by simp[go_sem,X],by simp[go_sem,U],by simp[go_sem,T],by simp[go_sem,S],by simp[go_sem,N],by simp[go_sem,K],by simp[go_sem,H],λj=>by simp[go_sem,Q],λj=>by simp[go_sem,f0],by simpa using R,qd ((((qg E u).setCell ur _).setCell ur _).setCell ur _)⟩
   simp[intOf];omega
  .go_wp2_with(refine be (CX _ _ dZ eO) λo u=>?_;obtain⟨q,B⟩:=qi u;have R:Z w.1+1<Z o.1:=(md u.size);have q0:o.cell? ⟨Z w.1+1,0,O⟩=G (I J x0.Q):=(q _ 0 uq).trans a0;have q1:o.cell? ⟨Z w.1+1,1,O⟩=G (I J x0.M):=(q _ 1 uq).trans a1;have q2:o.cell? ⟨Z w.1+1,2,O⟩=G (Y (BS x0.str)):=(q _ 2 uq).trans a2;have q3:o.cell? ⟨Z w.1+1,3,O⟩=G (I J x1.Q):=(q _ 3 uq).trans a3;have q4:o.cell? ⟨Z w.1+1,4,O⟩=G (I J x1.M):=(q _ 4 uq).trans a4;have X:o.cell? ⟨Z w.1+1,5,O⟩=G (Y (BS x1.str)):=(q _ 5 uq).trans a5;have U:o.cell? ⟨Z w.1+1,6,O⟩=G (I J x2.Q):=(q _ 6 uq).trans a6;have T:o.cell? ⟨Z w.1+1,7,O⟩=G (I J x2.M):=(q _ 7 uq).trans a7;have S:o.cell? ⟨Z w.1+1,8,O⟩=G (Y (BS x2.str)):=(q _ 8 uq).trans a8;have N:o.cell? ⟨Z w.1,0,O⟩=G (I J 0):=(q _ 0 uq).trans r0;have K:o.cell? ⟨Z w.1,1,O⟩=G (I J 0):=(q _ 1 uq).trans r1;have H:o.cell? ⟨Z w.1,2,O⟩=G (Y ⟨#[]⟩):=(q _ 2 uq).trans r2;have Q:Xf o (Z w.1+1):=(λj=>(B _ j uq).trans (fz j));have f0:Xf o (Z w.1):=(λj=>(B _ j uq).trans (fr j));have u:=qd u;clear q B;simp only[vV])
   go_roundw
   case rel=>exact⟨2,x0,_,x2,uq,by go_num,qd (OfAt.step1 P HX),by simp[go_sem,q0],by simp[go_sem,q1],by simp[go_sem,q2],by simp[go_sem,q3],by simp[go_sem,q4],by simp[go_sem,X],by simp[go_sem,U],by simp[go_sem,T],by simp[go_sem,S],by simp[go_sem,N],by simp[go_sem,K],by simp[go_sem,H],λj=>by simp[go_sem,Q],λj=>by simp[go_sem,f0],by simpa using R,qd ((((qg E u).setCell ur _).setCell ur _).setCell ur _)⟩
   simp[intOf];omega
  go_wp2_with(refine be (CX _ _ dZ eO) λo u=>?_;obtain⟨q,B⟩:=qi u;have R:Z w.1+1<Z o.1:=(md u.size);have q0:o.cell? ⟨Z w.1+1,0,O⟩=G (I J x0.Q):=(q _ 0 uq).trans a0;have q1:o.cell? ⟨Z w.1+1,1,O⟩=G (I J x0.M):=(q _ 1 uq).trans a1;have q2:o.cell? ⟨Z w.1+1,2,O⟩=G (Y (BS x0.str)):=(q _ 2 uq).trans a2;have q3:o.cell? ⟨Z w.1+1,3,O⟩=G (I J x1.Q):=(q _ 3 uq).trans a3;have q4:o.cell? ⟨Z w.1+1,4,O⟩=G (I J x1.M):=(q _ 4 uq).trans a4;have X:o.cell? ⟨Z w.1+1,5,O⟩=G (Y (BS x1.str)):=(q _ 5 uq).trans a5;have U:o.cell? ⟨Z w.1+1,6,O⟩=G (I J x2.Q):=(q _ 6 uq).trans a6;have T:o.cell? ⟨Z w.1+1,7,O⟩=G (I J x2.M):=(q _ 7 uq).trans a7;have S:o.cell? ⟨Z w.1+1,8,O⟩=G (Y (BS x2.str)):=(q _ 8 uq).trans a8;have N:o.cell? ⟨Z w.1,0,O⟩=G (I J 0):=(q _ 0 uq).trans r0;have K:o.cell? ⟨Z w.1,1,O⟩=G (I J 0):=(q _ 1 uq).trans r1;have H:o.cell? ⟨Z w.1,2,O⟩=G (Y ⟨#[]⟩):=(q _ 2 uq).trans r2;have Q:Xf o (Z w.1+1):=(λj=>(B _ j uq).trans (fz j));have f0:Xf o (Z w.1):=(λj=>(B _ j uq).trans (fr j));have u:=qd u;clear q B;simp only[vV])
  go_roundw
  case rel=>exact⟨3,x0,x1,_,uq,by go_num,qd (OfAt.step2 P HX),by simp[go_sem,q0],by simp[go_sem,q1],by simp[go_sem,q2],by simp[go_sem,q3],by simp[go_sem,q4],by simp[go_sem,X],by simp[go_sem,U],by simp[go_sem,T],by simp[go_sem,S],by simp[go_sem,N],by simp[go_sem,K],by simp[go_sem,H],λj=>by simp[go_sem,Q],λj=>by simp[go_sem,f0],by simpa using R,qd ((((qg E u).setCell ur _).setCell ur _).setCell ur _)⟩
  simp[intOf];omega
 have aB:k=A (qw t):=md (q9 HN)
 have SQ:Hid (jn (qZ t) x0 x1 x2=r):=qd (by rw[OfAt.done (by rw[<-aB];exact q9 P)];exact q9 HR);have IV:=qd (P.rng HRNG);have cJ:=qd (P.len AQ);have WH:=qd (HJ wr b x0 x1 x2 IV.1 IV.2.1 IV.2.2 cJ (RH.P (Kept.x E)));clear aB P
 go_wp2_with(refine WH.mono ?_;rw[q9 SQ];rintro e o⟨rfl,u⟩;obtain⟨q,B⟩:=qi u;have R:Z w.1+1<Z o.1:=(md u.size);have N:o.cell? ⟨Z w.1,0,O⟩=G (I J 0):=(q _ 0 uq).trans r0;have K:o.cell? ⟨Z w.1,1,O⟩=G (I J 0):=(q _ 1 uq).trans r1;have H:o.cell? ⟨Z w.1,2,O⟩=G (Y ⟨#[]⟩):=(q _ 2 uq).trans r2;have Q:Xf o (Z w.1):=(λj=>(B _ j uq).trans (fr j));simp only[vV])
 refine bo (by simp[go_sem,N,K,H]<;>rfl) rfl ⟨rfl, ?_⟩;exact(((qg E u).setCell ur _).setCell ur _).setCell ur _
structure AmAt(w W:Ao)(F:Nat)(x f:V):Prop where
 x0:W.cell? ⟨w.1.size,0,O⟩=G (I J x.Q)
 x1:W.cell? ⟨w.1.size,1,O⟩=G (I J x.M)
 x2:W.cell? ⟨w.1.size,2,O⟩=G (Y (BS x.str))
 r0:W.cell? ⟨w.1.size+1,0,O⟩=G (I J 0)
 r1:W.cell? ⟨w.1.size+1,1,O⟩=G (I J 0)
 r2:W.cell? ⟨w.1.size+1,2,O⟩=G (Y ⟨#[]⟩)
 f0:W.cell? ⟨F,0,O⟩=G (I J f.Q)
 f1:W.cell? ⟨F,1,O⟩=G (I J f.M)
 f2:W.cell? ⟨F,2,O⟩=G (Y (BS f.str))
 fr:∀j,W.frozen? ⟨w.1.size+1,j,O⟩=uh
 ff:∀j,W.frozen? ⟨F,j,O⟩=uh
 ge:w.1.size+1<F
 lt:F<W.1.size
 h:Below w.1.size w W
theorem AmAt.next(h:AmAt w W F x f)(b:Xb W W'):AmAt w W' F x f:=by
 obtain⟨a,g⟩:=qi b;have i:=h.lt;have o:=h.ge;exact⟨(a _ 0 uq).trans h.x0,(a _ 1 uq).trans h.x1,(a _ 2 uq).trans h.x2,(a _ 0 uq).trans h.r0,(a _ 1 uq).trans h.r1,(a _ 2 uq).trans h.r2,(a _ 0 uq).trans h.f0,(a _ 1 uq).trans h.f1,(a _ 2 uq).trans h.f2,λj=>(g _ j uq).trans (h.fr j),λj=>(g _ j uq).trans (h.ff j),o,au i b.size,qg h.h b⟩
theorem AmAt.drew(h:AmAt w W F x f):AmAt w W.drew F x f:=h.next (uy.drew)
theorem TextsAt.any{b:Nat}(h:TextsAt b w v ts):∃a c,v=C a (A ts) c/\∀(j:Nat) (t:uk),ts[j]?=G t->∃g,a=G (D g 0 O)/\g<Z w.1/\Xc w g j (Y (BS t)):=by
 grind[TextsAt]
theorem AmAt.store(h:AmAt w W F x f)(f':V):AmAt w (B (B (B W (D F 0 O) (I J f'.Q)) (D F 1 O) (I J f'.M)) (D F 2 O) (Y (BS f'.str))) F x f':=by
 have a:=h.ge;refine⟨?_, ?_, ?_, ?_, ?_, ?_, ?_, ?_, ?_,λj=>?_,λj=>?_,a,by simpa using h.lt,((h.h.setCell (by grind) _).setCell (by grind) _).setCell (by grind) _⟩
 .simp[go_sem,h.x0]
 .simp[go_sem,h.x1]
 .simp[go_sem,h.x2]
 .simp[go_sem,h.r0]
 .simp[go_sem,h.r1]
 .simp[go_sem,h.r2]
 .simp[go_sem,h.f0]
 .simp[go_sem,h.f1]
 .simp[go_sem,h.f2]
 .simp[go_sem,h.fr]
 simp[go_sem,h.ff]
theorem vgx(w b:Ao)(x:V)(g:Below (Z ((w.alloc (Al #[I J x.Q,I J x.M,Y (BS x.str)] 57)).alloc (Al #[I J 0,I J 0,Y ⟨#[]⟩] 57)).1) ((w.alloc (Al #[I J x.Q,I J x.M,Y (BS x.str)] 57)).alloc (Al #[I J 0,I J 0,Y ⟨#[]⟩] 57)) b):
  AmAt w (b.alloc (Al #[I J (bV uh).Q,I J (bV uh).M,Y (BS (bV uh).str)] 57)) (Z b.1) x (bV uh):=by
 obtain⟨a,o⟩:=qi g;have i:=g.size;simp at i;refine⟨?_, ?_, ?_, ?_, ?_, ?_, ?_, ?_, ?_,λj=>?_,λj=>?_,uq,ur,kQ (qg (qM w _ _) g) _⟩;rw[bj _ _ _ uq,a _ 0 ut,bj _ _ _ ur,ce _ _ _ _ rfl];rfl;rw[bj _ _ _ uq,a _ 1 ut,bj _ _ _ ur,ce _ _ _ _ rfl];rfl;rw[bj _ _ _ uq,a _ 2 ut,bj _ _ _ ur,ce _ _ _ _ rfl];rfl;rw[bj _ _ _ uq,a _ 0 ur,ce _ _ _ _ ur];rfl;rw[bj _ _ _ uq,a _ 1 ur,ce _ _ _ _ ur];rfl;rw[bj _ _ _ uq,a _ 2 ur,ce _ _ _ _ ur];rfl;rw[ce _ _ _ _ rfl];rfl;rw[ce _ _ _ _ rfl];rfl;rw[ce _ _ _ _ rfl];rfl;rw[iu _ _ _ uq,o _ j ur,iq _ _ _ _ ur];rw[iq _ _ _ _ rfl]
def qh4(x f:V)(t:List UInt8):V:=orV f (eqV x (tV t))
theorem vpx{t:uk}(h:ts[k]?=G t):(ts.drop k).foldl (qh4 x) f=(ts.drop (k+1)).foldl (qh4 x) (orV f (eqV x (tV t))):=by
 obtain⟨a,b⟩:=aj.1 h;rw[cm a,b];rfl
theorem vu5(h:A ts<=k):(ts.drop k).foldl (qh4 x) f=f:=by
 rw[eo h];rfl
theorem qzl(lo:Nat)(t:Ast)(X:A (qZ t).i<=1000)(w:Ao)(b:Nat)(x:V)(h:IsNode lo w (Ag (G (D b 0 O))) t):
  Calls prog 124 #[Ag (G (D b 0 O)),vV x] w λe w'=>e=Ak (vV (kx x (qZ t).i))/\Xb w w':=by
 obtain⟨b',sv,U,T,_⟩:=h.parts;obtain rfl:b=b':=by simpa using U
 obtain⟨tv,c6,V5⟩:=T.c6;have I1:=T.within;obtain⟨ta,tc,rfl,Q⟩:=V5.any;obtain⟨R,N⟩:=ie (kx x (qZ t).i);rw[N];have HR:Hid ((qZ t).i.foldl (qh4 x) (bV uh)=R):=qd N;obtain⟨ts,MQ⟩:=ie ((qZ t).i);rw[MQ]at X HR c6 Q;obtain⟨n,K⟩:=ie (A ts);rw[K]at X c6;have HN:=qd K;have HT:=qd Q;clear N MQ T V5 U h K Q
 conv=>arg 3;simp only[vV]
 have m1:b<Z w.1+1:=uq;have m2:b<Z w.1+1+1:=uq;go_enter func124,ntmps124
 go_wp2_with(refine be (jC uh _) λa H=>?_;have c6':a.cell? (D b 6 O)=G (C ta n tc):=((qi H).1 _ 6 ut).trans (by rwa[bj _ _ _ ut,bj _ _ _ uq]);have F5:Z w.1+1<Z a.1:=(by have:=H.size;simp at this;omega);have eK:b<Z a.1:=uq;have S:Hid (AmAt w (a.alloc (Al #[I J (bV uh).Q,I J (bV uh).M,Y (BS (bV uh).str)] 57)) (Z a.1) x (bV uh)):=qd (vgx w a x H);clear H;simp only[vV])
 go_loopw [14] (λi wr=>∃(k:Nat) (f:V),k<=n/\i=I J k/\Hid (R=(ts.drop k).foldl (qh4 x) f)/\Hid (AmAt w wr (Z a.1) x f)) (λi _=>n - (intOf i).toNat)
 exact⟨0,bV uh,bt _,rfl,qd (by rw[ee,q9 HR]),S⟩;obtain⟨k,f,hk,rfl,B,j⟩:=hrel
 by_cases A1:k<n
 .obtain⟨s,hs⟩:∃s,ts[k]?=G s:=⟨_,ag (by rwa[q9 HN])⟩
  obtain⟨g,rfl,L6,J3⟩:=q9 HT k s hs;have dg:=(j.h.cell (p:=D g k O) L6).trans J3;have P:Hid (R=(ts.drop (k+1)).foldl (qh4 x) (orV f (eqV x (tV s)))):=qd (by rw[q9 B,vpx hs]);have E:=qd j.drew;clear B hs J3 S j
  go_wp2
  obtain⟨x0_0,x1_0,x2_0,r0_0,r1_0,r2_0,f0_0,f1_0,f2_0,fr_0,ff_0,ge_0,lt_0,bel_0⟩:=q9 E
  go_region_with(first|(go_at_call 88;refine(qgj (BS s) _).mono ?_;rw[zW];rintro e w1⟨rfl,A0⟩;have u:=qd (E.next A0);obtain⟨x0_1,x1_1,x2_1,r0_1,r1_1,r2_1,f0_1,f1_1,f2_1,fr_1,ff_1,ge_1,lt_1,bel_1⟩:=q9 u;clear A0)|(go_at_call 176;refine be (qcz x (tV s) _) λw2 A3=>?_;have q:=qd (u.next A3);obtain⟨x0_2,x1_2,x2_2,r0_2,r1_2,r2_2,f0_2,f1_2,f2_2,fr_2,ff_2,ge_2,lt_2,bel_2⟩:=q9 q;clear A3)|(go_at_call 175;refine be (vg9 f (eqV x (tV s)) _) λw3 D5=>?_;have o:=qd (q.next D5);obtain⟨x0_3,x1_3,x2_3,r0_3,r1_3,r2_3,f0_3,f1_3,f2_3,fr_3,ff_3,ge_3,lt_3,bel_3⟩:=q9 o;clear D5;simp only[vV]))
  all_goals
   go_wp2
   go_roundw
   case rel=>exact⟨k+1,_,uq,by go_num,P,qd (o.store _)⟩
   simp[intOf];omega
 have P:Hid (R=f):=qd (by rw[q9 B,vu5 (by rw[q9 HN];omega)]);have E:=j;clear B S j;obtain⟨x0_0,x1_0,x2_0,r0_0,r1_0,r2_0,f0_0,f1_0,f2_0,fr_0,ff_0,ge_0,lt_0,bel_0⟩:=q9 E
 go_wp2
 refine bo (by simp[go_sem,r0_0,r1_0,r2_0]<;>rfl) rfl ⟨?_, ?_⟩;rw[q9 P];rfl;exact((bel_0.setCell ur _).setCell ur _).setCell ur _
structure JoinAt(w W:Ao)(x y z:V):Prop where
 x0:W.cell? ⟨w.1.size,0,O⟩=G (I J x.Q)
 x1:W.cell? ⟨w.1.size,1,O⟩=G (I J x.M)
 x2:W.cell? ⟨w.1.size,2,O⟩=G (Y (BS x.str))
 y0:W.cell? ⟨w.1.size+1,0,O⟩=G (I J y.Q)
 y1:W.cell? ⟨w.1.size+1,1,O⟩=G (I J y.M)
 y2:W.cell? ⟨w.1.size+1,2,O⟩=G (Y (BS y.str))
 z0:W.cell? ⟨w.1.size+2,0,O⟩=G (I J z.Q)
 z1:W.cell? ⟨w.1.size+2,1,O⟩=G (I J z.M)
 z2:W.cell? ⟨w.1.size+2,2,O⟩=G (Y (BS z.str))
 r0:W.cell? ⟨w.1.size+3,0,O⟩=G (I J 0)
 r1:W.cell? ⟨w.1.size+3,1,O⟩=G (I J 0)
 r2:W.cell? ⟨w.1.size+3,2,O⟩=G (Y ⟨#[]⟩)
 fz:∀j,W.frozen? ⟨w.1.size+3,j,O⟩=uh
 lt:w.1.size+3<W.1.size
 h:Below w.1.size w W
theorem qcf(w:Ao)(x y z:V):JoinAt w ((((w.alloc (Al #[I J x.Q,I J x.M,Y (BS x.str)] 57)).alloc (Al #[I J y.Q,I J y.M,Y (BS y.str)] 57)).alloc (Al #[I J z.Q,I J z.M,Y (BS z.str)] 57)).alloc (Al #[I J 0,I J 0,Y ⟨#[]⟩] 57)) x y z:=by constructor<;>grind[World.cell?_alloc_past,World.cell?_alloc_at,World.frozen?_alloc_at,jK,Below.alloc,World.alloc]
theorem JoinAt.next(h:JoinAt w W x y z)(b:Xb W W'):JoinAt w W' x y z:=by
 obtain⟨a,i⟩:=qi b;have g:=h.lt;exact⟨(a _ 0 uq).trans h.x0,(a _ 1 uq).trans h.x1,(a _ 2 uq).trans h.x2,(a _ 0 uq).trans h.y0,(a _ 1 uq).trans h.y1,(a _ 2 uq).trans h.y2,(a _ 0 uq).trans h.z0,(a _ 1 uq).trans h.z1,(a _ 2 uq).trans h.z2,(a _ 0 uq).trans h.r0,(a _ 1 uq).trans h.r1,(a _ 2 uq).trans h.r2,λj=>(i _ j uq).trans (h.fz j),au g b.size,qg h.h b⟩
theorem JoinAt.drew(h:JoinAt w W x y z):JoinAt w W.drew x y z:=h.next (uy.drew)
theorem viu(E:Nat)(t:Ast)(a:(qZ t).op=20):qe7 E t:=by
 intro w b x y z _ _ _ _ h;have o:jn (qZ t) x y z=qib (leV y x) (leV x z):=by rw[jn,bs a]
 rw[o];obtain⟨G,N,q,j,_⟩:=h.parts;obtain rfl:b=G:=by simpa using q
 have c0:=j.c0;have I1:=j.within;have Q:b<Z w.1+1:=uq;have P:b<Z w.1+1+1:=uq;have O:b<Z w.1+1+1+1:=uq;rw[a]at c0;have d0:¬Z w.1+1+1+1=Z w.1:=uq;have X:¬Z w.1+1+1+1=Z w.1+1:=uq;have U:¬Z w.1=Z w.1+1+1+1:=uq;have T:¬Z w.1+1=Z w.1+1+1+1:=uq;have S:¬Z w.1+1+1=Z w.1:=uq;have R:¬Z w.1=Z w.1+1+1:=uq;have u:=qd (qcf w x y z).drew;clear o j q h a
 conv=>arg 3;simp only[vV]
 go_enter func90,ntmps90
 go_wp2
 obtain⟨x0_0,x1_0,x2_0,y0_0,y1_0,y2_0,z0_0,z1_0,z2_0,r0_0,r1_0,r2_0,fz_0,lt_0,bel_0⟩:=q9 u
 go_region_held3 (λW=>Xc W (Z w.1) 0 (I J x.Q)/\Xc W (Z w.1) 1 (I J x.M)/\Xc W (Z w.1) 2 (Y (BS x.str))/\Xc W (Z w.1+1) 0 (I J y.Q)/\Xc W (Z w.1+1) 1 (I J y.M)/\Xc W (Z w.1+1) 2 (Y (BS y.str))/\Xc W (Z w.1+2) 0 (I J z.Q)/\Xc W (Z w.1+2) 1 (I J z.M)/\Xc W (Z w.1+2) 2 (Y (BS z.str))) (go_keep) (first|(go_at_call_of 123 (Ai #[I IntKind.i64 y.Q,I IntKind.i64 y.M,Y (BS y.str)]);refine be (xK y x _) λK D=>?_;have A:=qd (u.next D);obtain⟨x0_1,x1_1,x2_1,y0_1,y1_1,y2_1,z0_1,z1_1,z2_1,r0_1,r1_1,r2_1,fz_1,lt_1,bel_1⟩:=q9 A;clear D)|(go_at_call_of 123 (Ai #[I IntKind.i64 z.Q,I IntKind.i64 z.M,Y (BS z.str)]);refine be (xK x z _) λw2 C=>?_;have g:=qd (A.next C);obtain⟨x0_2,x1_2,x2_2,y0_2,y1_2,y2_2,z0_2,z1_2,z2_2,r0_2,r1_2,r2_2,fz_2,lt_2,bel_2⟩:=q9 g;clear C)|(go_at_call 122;refine be (qvg (leV y x) (leV x z) _) λH B=>?_;have i:=qd (g.next B);obtain⟨x0_3,x1_3,x2_3,y0_3,y1_3,y2_3,z0_3,z1_3,z2_3,r0_3,r1_3,r2_3,fz_3,lt_3,bel_3⟩:=q9 i;clear B;simp only[vV]))
 go_wp2
 refine bo (by simp[go_sem,r0_3,r1_3,r2_3]<;>rfl) rfl ⟨rfl, ?_⟩;exact((bel_3.setCell ut _).setCell ut _).setCell ut _
theorem vix(op:Int)(h:¬op=14)(g:¬op=15)(x y:V)(b:Rng x.M)(a:Rng y.M):x9 op x y (jP op x y):=by
 by_cases h5:op=5
 .subst h5;exact vun x y
 by_cases h6:op=6
 .subst h6;exact vuo x y
 by_cases h7:op=7
 .subst h7;exact vup x y
 by_cases h8:op=8
 .subst h8;exact vuq x y
 by_cases h9:op=9
 .subst h9;exact vur x y
 grind[vr3,vr1,vr4,vr2,vr7,vr8,vr9,vra,jP,vbl]
structure Stop(d:UInt8):Prop where
 goe:gK d=uh
 dig:jx d=uh
 quo:(d==39)=uh
 eq:(d==61)=uh
 gt:(d==62)=uh
theorem qhw(p:UInt8->Bool)(h:p d=uh)(y:uk):∀l,qD p (l++d::y)=qD p l:=by
 intro l
 induction l<;>grind[qD]
theorem vel(p:UInt8->Bool)(y:uk):∀l,qD p l<A l->qD p (l++y)=qD p l:=by
 intro l
 induction l<;>grind[qD]
theorem qdb(hd:Stop d)(y:uk)(c:UInt8)(t:uk):qE (c::t++d::y)=qE (c::t):=by
 show(if km c then qD gK (t++d::y)+1 else 0)=if km c then qD gK t+1 else 0
 rw[qhw gK hd.goe]
theorem qkg(l z:uk)(n:Nat)(h:n<=A l):(l++z).take n=l.take n:=by
 grind
theorem vdf(hd:(d==39)=uh)(y:uk):∀(n:Nat) (l:uk),A l<=n->∀r,vu l=G r->vu (l++d::y)=G r:=by
 intro n
 induction n with
 | zero =>grind[vu]
 | succ n ih=>
  intro l a r h
  match l,a,h with
  | [],_,h=>simp[vu]at h
  | [c],_,h =>grind[vu]
  | c::e::t,a,h=>
   show vu (c::e::(t++d::y))=_;rw[vu]at h |-
   by_cases hc:(c==39)=ui
   rw[bs hc]at h |-
   by_cases he:(e==39)=ui
   rw[bs he]at h |-
   cases hq:vu t with
   | none=>grind
   | some q=>grind
   grind
   rw[ak hc]at h |-
   cases hq:vu (e::t) with
   | none=>grind
   | some q =>grind
theorem qmx(hd:Stop d)(y:uk)(c:UInt8)(t:uk):ko (c::t++d::y)=ko (c::t):=by
 cases t with
 | nil=>
  show(if c==60&&d==62||(c==60||c==62)&&d==61 then 2 else 1)=1;rw[hd.eq,hd.gt];simp
 | cons e t=>rfl
theorem vc6(hd:Stop d)(y:uk)(c:UInt8)(t:uk):yd (c::t++d::y)=yd (c::t):=by
 unfold yd;rw[qmx hd y c t,qkg (c::t) (d::y) _ (vc7 _ ur)]
 grind[vc7,Stop]
theorem vaz(hd:Stop d)(y:uk)(c:UInt8)(t:uk)(h:(vk (c::t)).Q≠1):vk (c::t++d::y)=vk (c::t)/\xN (c::t++d::y)=xN (c::t):=by
 have a:vk (c::t)=if km c then jk (c::t) else if jx c then yj (c::t) else if c==39 then vY (c::t) else qk (yd (c::t)):=rfl
 have j:vk (c::t++d::y)=if km c then jk (c::t++d::y) else if jx c then yj (c::t++d::y) else if c==39 then vY (c::t++d::y) else qk (yd (c::t++d::y)):=rfl
 have i:xN (c::t)=if km c then qE (c::t) else if jx c then qD jx (c::t) else if c==39 then yL (c::t) else ko (c::t):=rfl
 have g:xN (c::t++d::y)=if km c then qE (c::t++d::y) else if jx c then qD jx (c::t++d::y) else if c==39 then yL (c::t++d::y) else ko (c::t++d::y):=rfl
 rw[a]at h;rw[a,j,i,g]
 by_cases hb:km c=ui
 .grind[qdb,jk,xE]
 rw[ak hb]at h;rw[ak hb,ak hb,ak hb,ak hb]
 by_cases hg:jx c=ui
 .grind[qhw,yj,pC,Stop]
 rw[ak hg]at h;rw[ak hg,ak hg,ak hg,ak hg]
 by_cases hq:(c==39)=ui
 rw[bs hq]at h;rw[bs hq,bs hq,bs hq,bs hq]
 cases hf:vu ((c::t).drop 1) with
 | none=>exfalso;unfold vY at h;rw[hf]at h;exact h rfl
 | some r=>
  have b:vu ((c::t++d::y).drop 1)=G r:=vdf hd.quo y _ t ux r hf;unfold vY yL;rw[hf,b];exact⟨rfl,rfl⟩
 rw[ak hq,ak hq,ak hq,ak hq,vc6 hd y c t,qmx hd y c t];exact⟨rfl,rfl⟩
theorem vbj{c:Prop}[Decidable c]{a b:Int}(h:a≠0)(g:b≠0):(if c then a else b)≠0:=by
 grind
theorem vut(l:uk):kwK l≠0:=by
 repeat refine vbj uu ?_
 decide
theorem vj9(l:uk):qj9 l≠0:=by
 repeat refine vbj uu ?_
 decide
theorem vtm(l:uk):(jk l).Q≠0:=by
 unfold jk
 by_cases h:yI (l.take (qE l))=2
 grind
 rw[ak h];exact vut _
theorem vv6(l:uk):(yj l).Q≠0:=by
 unfold yj
 by_cases h:vR 0 (l.take (qD jx l))<=9223372036854775807
 grind
 rw[ak h];decide
theorem vsm(l:uk):(vY l).Q≠0:=by
 unfold vY
 cases vu (l.drop 1) with
 | none=>show(1:Int)≠0;decide
 | some r=>grind
theorem vrl(l:uk):yd l≠0:=by
 grind[yd,vj9]
theorem qu3(l:uk):(vk l).Q≠0:=by
 cases l with
 | nil=>show(1:Int)≠0;decide
 | cons c t=>
  show(if km c then jk (c::t) else if jx c then yj (c::t) else if c==39 then vY (c::t) else qk (yd (c::t))).Q≠0
  by_cases hb:km c=ui
  .grind[vtm]
  rw[ak hb]
  by_cases hg:jx c=ui
  .grind[vv6]
  rw[ak hg]
  by_cases hq:(c==39)=ui
  .grind[vsm]
  rw[ak hq];exact vrl _
theorem vcf(h:(qQ l 0).Q≠0):qS l 0<A l:=by
 apply Decidable.byContradiction;intro a;unfold qQ at h;rw[ak a]at h;exact h rfl
theorem vjh(h:qQ l 0=qk 0):¬qS l 0<A l:=by
 intro a;unfold qQ at h;rw[bs a]at h;exact qu3 _ (by rw[h];rfl)
theorem vjg(hd:Stop d)(y:uk)(l:uk)(i:(qQ l 0).Q≠0)(g:(qQ l 0).Q≠1):qQ (l++d::y) 0=qQ l 0/\vq (l++d::y) 0=vq l 0:=by
 have b:=vcf i
 have h:qS (l++d::y) 0=qS l 0:=by
  grind[qS,vel]
 have a:qS l 0<A (l++d::y):=by grind
 unfold qQ vq;unfold qQ at g;rw[bs b]at g;rw[h,bs b,bs a,bs b,bs a,List.drop_append_of_le_length (Nat.le_of_lt b)]
 cases hr:l.drop (qS l 0) with
 | nil=>grind
 | cons c t=>
  rw[hr]at g;obtain⟨o,j⟩:=vaz hd y c t g;rw[o,j];exact⟨rfl,rfl⟩
theorem vws{c:UInt8}(g:spU c=ui)(h:Lx r L):Lx (c::r) L:=by
 have i:qS (c::r) 0=qS r 0+1:=by grind[qS,qD]
 have a:qQ (c::r) 0=qQ r 0:=by
  grind[qQ]
 have b:vq (c::r) 0=vq r 0+1:=by
  grind[vq]
 cases h with
 | nil h=>exact .nil (by rwa[a])
 | cons e h t=>exact .cons (by rwa[a]) h (by grind)
theorem vv0{z:uk}(h:Lx z M):∀l:uk,A l<=qD spU l->Lx (l++z) M:=by
 intro l
 induction l<;>grind[qD,vws]
theorem qmw(hd:Stop d){y:uk}(j:Lx (d::y) M)(h:Lx l L):(∀k∈L,k.Q≠1)->Lx (l++d::y) (L++M):=by
 induction h with
 | @nil r h =>grind[vjh,qS,vv0]
 | @cons r k L e h t ih=>
  intro b;obtain⟨i,g⟩:=vjg hd y r (by rwa[e]) (by grind);refine .cons (by rwa[i]) h ?_;rw[g,List.drop_append_of_le_length (qfh r 0)];exact ih (λk a=>b k (by simp[a]))
theorem qj8:∀(n:Nat) (l:uk),A l<=n->∃L,Lx l L:=by
 intro n
 induction n with
 | zero =>grind[pf]
 | succ n ih=>
  intro l g
  by_cases h:qS l 0<A l
  have i:qQ l 0=vk (l.drop (qS l 0)):=by grind[qQ]
  have b:0<vq l 0:=by
   grind[vq,qcc]
  obtain⟨L,a⟩:=ih (l.drop (vq l 0)) (by grind);exact⟨_,.cons rfl (by grind[qu3]) a⟩;exact⟨[],.nil (by grind[qQ])⟩
theorem vp8:Stop 41:=⟨rfl,rfl,rfl,rfl,rfl⟩
theorem vfg:Stop 32:=⟨rfl,rfl,rfl,rfl,rfl⟩
theorem qyv(a:Option Addr)(n cap:Nat)(b:8<n)(g:n<=140737488355328)(w:Ao):
  lz 48 #[C a n cap] w (Ah uh):=by
 go_enter func48,ntmps48
 go_wp2
 go_ret;exact⟨rfl,uy⟩
theorem vgd(b off cap:Nat)(ps:List Pr)(w:Ao)(aM:A ps<=cap)(fH:A ps<=140737488355328)(t8:qzc ps)(hw:EvAt w b off ps)(A1:b<Z w.1)(h8:A ps<=8)(E9:zQ ps=uh):
  uo 48 #[C (G (D b off O)) (A ps) cap] w λe w'=>e=Ak (Ah uh)/\Xb w w':=by
 have HNO:=qd E9;clear E9;go_enter func48,ntmps48
 go_wp2_with fail
 go_loopw [3,4,10] (λ_ _ i wr=>∃k:Nat,k<=A ps/\i=I J k/\Hid (∀j,j<k->qgo ps j=ui)/\Xb w wr) (λ_ _ i _=>A ps - (intOf i).toNat)
 case atStart=>exact⟨0,bt _,rfl,qd (λj hj=>absurd hj uq),uy⟩
 case round=>
  obtain⟨k,hk,rfl,hh,hb⟩:=hrel
  by_cases L5:k<A ps
  .obtain⟨p,hp⟩:∃p,ps[k]?=G p:=⟨_,ag L5⟩
   have iX:=hw.h hb A1;have iE:b<Z wr.1:=au A1 hb.size;obtain⟨h1,h2,h3,h4⟩:=iX k p hp;obtain⟨M3,Z0⟩:=t8 p (bh hp);have E9:qgo ps k=(jW p.j&&pY p.val&&!qkt (ps.take k) p.j):=by unfold qgo;rw[hp]
   have U0:A (ps.take k)=k:=by rw[cw];omega
   have nA:=qd (iX.take k);have HL:=qd U0;clear hp iX U0
   cases hn:jW p.j with
   | false=>
    have HN:=qd hn;clear hn E9
    go_wp2_with fail
    first | go_region_with (first | (go_at_call 83; refine (xj _ (by exact M3) _).mono ?_; rintro e w1 ⟨rfl, A0⟩; rw [show jW (T (BS p.j).data) = uh from q9 HN]; obtain ⟨C9, G4⟩ := qi A0; have B9 : Z wr.1 < w1.1.size := (by have := A0.size; simp at this; omega); have I7 : Xb w w1 := qg (jf hb _).drew A0)) | fail "no region"
    all_goals(go_wp2_with fail)
    all_goals(go_ret;exact⟨rfl,I7⟩)
   | true=>
    have HN:=qd hn
    cases hv:pY p.val with
    | false=>
     have HV:=qd hv;clear hn hv E9
     go_wp2_with fail
     first | go_region_with (first | (go_at_call 83; refine (xj _ (by exact M3) _).mono ?_; rintro e w1 ⟨rfl, A0⟩; rw [show jW (T (BS p.j).data) = ui from q9 HN]; obtain ⟨C9, G4⟩ := qi A0; have B9 : Z wr.1 < w1.1.size := (by have := A0.size; simp at this; omega); have I7 : Xb w w1 := qg (jf hb _).drew A0) | (go_at_call 84; refine (xL p.val Z0 _).mono ?_; rintro e w2 ⟨rfl, A3⟩; rw [q9 HV]; obtain ⟨L7, P9⟩ := qi A3; have D8 : Z wr.1 < w2.1.size := (by have := A3.size; omega); have aG : Xb w w2 := qg I7 A3)) | fail "no region"
     all_goals(go_wp2_with fail)
     all_goals(go_ret;exact⟨rfl,aG⟩)
    | true=>
     have HV:=qd hv
     cases hx:qkt (ps.take k) p.j with
     | true=>
      have HH:=qd hx;clear hn hv hx E9
      go_wp2_with fail
      first | go_region_with (first | (go_at_call 83; refine (xj _ (by exact M3) _).mono ?_; rintro e w1 ⟨rfl, A0⟩; rw [show jW (T (BS p.j).data) = ui from q9 HN]; obtain ⟨C9, G4⟩ := qi A0; have B9 : Z wr.1 < w1.1.size := (by have := A0.size; simp at this; omega); have I7 : Xb w w1 := qg (jf hb _).drew A0) | (go_at_call 84; refine (xL p.val Z0 _).mono ?_; rintro e w2 ⟨rfl, A3⟩; rw [q9 HV]; obtain ⟨L7, P9⟩ := qi A3; have D8 : Z wr.1 < w2.1.size := (by have := A3.size; omega); have aG : Xb w w2 := qg I7 A3) | (go_at_call 85; refine (vqt HL cap (BS p.j) _ uq (by exact nA.later rfl iE A0 A3) uq).mono ?_; rintro e w3 ⟨rfl, D5⟩; rw [show qkt (ps.take k) (T (BS p.j).data) = ui from q9 HH]; have iQ : Xb w w3 := qg aG D5)) | fail "no region"
      all_goals(go_wp2_with fail)
      all_goals(go_ret;exact⟨rfl,iQ⟩)
     | false=>
      have HH:=qd hx
      have HOK:Hid (∀j,j<k+1->qgo ps j=ui):=qd (λj hj=>by
       by_cases hjk:j<k
       .exact q9 hh j hjk
       .have:j=k:=uq
        rw[this,E9,hn,hv,hx];rfl)
      clear hn hv hx E9
      go_wp2_with fail
      first | go_region_with (first | (go_at_call 83; refine (xj _ (by exact M3) _).mono ?_; rintro e w1 ⟨rfl, A0⟩; rw [show jW (T (BS p.j).data) = ui from q9 HN]; obtain ⟨C9, G4⟩ := qi A0; have B9 : Z wr.1 < w1.1.size := (by have := A0.size; simp at this; omega); have I7 : Xb w w1 := qg (jf hb _).drew A0) | (go_at_call 84; refine (xL p.val Z0 _).mono ?_; rintro e w2 ⟨rfl, A3⟩; rw [q9 HV]; obtain ⟨L7, P9⟩ := qi A3; have D8 : Z wr.1 < w2.1.size := (by have := A3.size; omega); have aG : Xb w w2 := qg I7 A3) | (go_at_call 85; refine (vqt HL cap (BS p.j) _ uq (by exact nA.later rfl iE A0 A3) uq).mono ?_; rintro e w3 ⟨rfl, D5⟩; rw [show qkt (ps.take k) (T (BS p.j).data) = uh from q9 HH]; have iQ : Xb w w3 := qg aG D5)) | fail "no region"
      all_goals(go_wp2_with fail)
      all_goals exact⟨⟨k+1,uq,by go_num,HOK,iQ⟩,by simp[intOf];omega⟩
  .have aB:k=A ps:=uq
   have:=qmi h8 (λj hj=>q9 hh j uq);rw[q9 HNO]at this;cases this
theorem qr4(b off cap:Nat)(ps:List Pr)(w:Ao)(i:A ps<=cap)(h:A ps<=140737488355328)(a:qzc ps)(g:EvAt w b off ps)(j:b<Z w.1):
  lz 48 #[C (G (D b off O)) (A ps) cap] w (Ah (zQ ps)):=by
 grind[zQ,qyu,vgd,qyv]
theorem qt8(a:Option Addr)(cap:Nat)(w:Ao):
  lz 48 #[C a 0 cap] w (Ah ui):=by
 go_enter func48,ntmps48
 go_wp2
 go_loopw [3,4,10] (λ_ _ i wr=>i=I J 0/\wr=w) (λ_ _ _ _=>0)
 exact⟨rfl,rfl⟩;obtain⟨rfl,rfl⟩:=hrel
 go_wp2
 go_ret;exact⟨rfl,uy⟩
section
open Go.RowKit Go.Shelf Go.Proofs.Tryz
attribute [local go_sem] Oper.semAt_some
def qbu(ts:List (List UInt8))(k:Nat):List (List UInt8):=(List.range k).map λj=>ts[j]?.getD []
theorem qt5(ts:List uk)(k:Nat):qbu ts (k+1)=qbu ts k++[ts[k]?.getD []]:=by simp[qbu,List.range_succ]
theorem qbv(ts:List uk)(k:Nat):A (qbu ts k)=k:=by simp[qbu]
theorem qyr(ts:List uk):qbu ts (A ts)=ts:=by
 apply List.ext_getElem;simp[qbu]
 grind[qbu]
theorem qyy(n:Nat)(hn:1<=n)(l Q n₀ b cap:Nat)(ts:List uk)(Z:A ts<=1000)(S:b<n₀)(o N:List uk->Ao->Prop)
  (K:∀pre x W,o pre W->A pre<A ts->YieldAt Fence.wide (n - 1) prog l #[Y (BS x)] W λe W'=>
   (e=Ak (Ah ui)/\o (pre++[x]) W'/\Below n₀ W W')\/(e=Ak (Ah uh)/\N (pre++[x]) W'))
  (W:Ao) (u:Xc W Q 0 (C (G (D b 0 O)) (A ts) cap)) (H:∀j,j<A ts->Xc W b j (Y (BS (ts[j]?.getD [])))) (U:o [] W) :
  CallsIn Fence.wide n prog 219 #[.func (.yield l) #[] #[],Ag (G (D Q 0 O))] W λe W'=>(∃v,e=Ak v) /\
   ((∃ys,ys=ts/\o ys W')\/(∃pre,A pre<=A ts/\N pre W')):=by
 obtain⟨len,q⟩:=ie (A ts);rw[q]at Z K u H;have P:=qd q;clear q;refine callsIn_of_wp func219 rfl trivial ?_ rfl;simp only[ntmps219,List.size_toArray,fj,im,Nat.reduceAdd,Nat.reduceSub,Array.replicate_succ,Array.replicate_zero,List.push_toArray,List.append_toArray,ij,di]
 gi_wp2
 gi_loopw [7] (λi wr=>∃k:Nat,k<=len/\i=I J k/\o (qbu ts k) wr/\Below n₀ W wr)
  (λi _=>len - (intOf i).toNat)
 exact⟨0,bt _,rfl,U,uy⟩;obtain⟨k,hk,rfl,g,B⟩:=hrel;have R:k<len->Xc wr b k (Y (BS (ts[k]?.getD []))):=λh=>(B.cell (p:=D b k O) S).trans (H k h)
 by_cases A1:k<len
 .obtain⟨fn,tmps,assign,body,hy,hR⟩:=K _ (ts[k]?.getD []) wr g (by rwa[qbv])
  have E:=R A1
  gi_wp2
  refine hR.mono ?_;rintro e W3 (⟨rfl,T,X⟩|⟨rfl,a⟩)
  .gi_wp2
   go_roundw
   exact⟨k+1,uq,ur,by rwa[qt5],B.trans X⟩;simp[intOf];omega
  gi_wp2
  refine bo (results_none rfl _ _ _) rfl ?_;exact⟨⟨_,rfl⟩,An ⟨_,by rw[cd,qbv,q9 P];simp;omega,a⟩⟩
 obtain rfl:k=len:=uq
 gi_wp2
 go_end0
 exact⟨⟨_,rfl⟩,Am ⟨_,by rw[<-q9 P,qyr],g⟩⟩
theorem qpq(n:Nat)(g:1<=n)(a n₀ b cap:Nat)(ts:List uk)(N:A ts<=1000)(i:b<n₀)(w:Ao)(h:a<Z w.1)(g₀:n₀<=Z w.1)
  (B:Xc w a 0 (C (G (D b 0 O)) (A ts) cap)) (J:∀j,j<A ts->Xc w b j (Y (BS (ts[j]?.getD [])))) :
  SeqStopsK Fence.wide n prog 219 #[Ag (G (D a 0 O))] (λx:uk=>#[Y (BS x)]) (Below n₀) (λq=>q=ts) (λpre=>A pre<=A ts) (A ts) w:=λl K I W o _ _ E H=>
 qyy n g l a n₀ b cap ts N i K I E W ((o.cell (p:=D a 0 O) h).trans B) (λj u=>((o.mono g₀).cell (p:=D b j O) i).trans (J j u)) H
theorem vbg:(prog.info? 9).map (λi=>(i.zero,i.size,i.bytes))=G (G (Y ⟨#[]⟩),1,16):=uw
theorem qky(n:Nat)(hn:2<=n)(a b cap:Nat)(ts:List uk)(A6:A ts<=1000)(w:Ao)(H:b<Z w.1)(B:a<Z w.1)
  (u:Xc w a 0 (C (G ⟨b,0,O⟩) (A ts) cap)) (J3:∀j,j<A ts->Xc w b j (Y (BS (ts[j]?.getD [])))) :
  CallsIn Fence.wide n prog 242 #[C O 0 0,.func (.func 219) #[] #[Ag (G ⟨a,0,O⟩)]] w λe w'=>∃v,e=Ak v/\ue w' (Z w.1) 9 1 v (A ts) (ts.map λx=>Y (BS x))/\Xb w w':=by
 have U:1<=n:=uq;obtain⟨P,S,F5,B9,D8⟩:=info_parts vbg;refine callsIn_of_wp_marks func242 rfl trivial ?_ rfl;simp only[ntmps242,List.size_toArray,fj,im,Nat.reduceAdd,Nat.reduceSub,Array.replicate_succ,Array.replicate_zero,List.push_toArray,List.append_toArray,ij,di]
 gi_wp2
 have X:=Boxed.new w 31 (C O 0 0);have q:Xb w (w.alloc (Al #[C O 0 0] 31)):=(Below.refl _ w).alloc ux _;refine wpIn_rangeFunc_ownG rfl U (gf:=219) (lb:=#[Ag (G ⟨a,0,O⟩)]) rfl trivial (enters_of func219 uw rfl)
  (qpq (n - 1) uq a (Z w.1) b cap ts A6 H (w.alloc (Al #[C O 0 0] 31)) ut ur ((q.cell (p:=⟨a,0,O⟩) B).trans u) (λj R=>(q.cell (p:=⟨b,j,O⟩) H).trans (J3 j R))) belowK_t (belowK_b ur) uy (λ_=>rfl)
  (λ(pre:List uk) W=>(∃v,Boxed W (Z w.1) 31 v/\ue W (Z w.1) 9 1 v (A pre) (pre.map λx=>Y (BS x))/\True)/\Xb w W)
  (λ_ _ _=>False)
  (OwnFrom.and (Own.from (holdsRow_own (Z w.1) (Z w.1) 31 9 1 (λ(pre:List uk)=>A pre) (λ(pre:List uk)=>pre.map λx=>Y (BS x)) (λ_ _=>True)) _) (ownFrom_below ux ur))
  (λ_ _ _ _ _ Q _ _=>Q)
  ⟨⟨_,X,dw _ _ _ _,trivial⟩,q⟩
  (λx=>{ tmps:=#[C O 0 0,.func (.func 219) #[] #[Ag (G ⟨a,0,O⟩)],Ag (G ⟨Z w.1,0,O⟩),undef,C O 0 0,Y (BS x),.func (.func 219) #[] #[Ag (G ⟨a,0,O⟩)],Y (BS x),undef,undef,undef,undef,undef],defers:=[] }) ?assign ?body ?done ?stop
 case assign=>
  intro l x W K g
  gi_wp2
  exact g
 case body=>
  rintro l pre x W⟨⟨v,hv,o,_⟩,i⟩ A1;have u:=hv.cell
  gi_wp2_with (gi_at_builtin;refine wpListIn_append_own _ rfl _ _ 31 rfl (Z w.1) 9 P (Y ⟨#[]⟩) 1 16 underlying31 S F5 B9 D8 rfl uu _ _ _ rfl (o.alloc _) ⟨Z W.1,0,O⟩ 1 1 [Y (BS x)] rfl rfl (cell_one_new _ _ _) (by simp[Value.oneCell']) (by unfold maxLen;omega) uq (by have:=i.size;simp;omega) ?_;intro v' w1 I A4 _;obtain⟨g',cap',rfl⟩:=ownsRow_succ I;obtain⟨E,N,C8,B8,J⟩:=hv.appended uu o i.size ux I A4;have C9:=E.cell;have G4:=E.frozen)
  exact⟨B8.from _,J,⟨_,N,by simpa using C8,trivial⟩,i.trans J⟩
 case done=>
  rintro D ys W T rfl⟨⟨v,hv,o,_⟩,i⟩ g;have u:=hv.cell
  gi_wp2
  refine⟨ur,Am ⟨_,_,rfl,run_takeDeferred g, ?_⟩⟩;exact⟨_,results_tmp rfl _ _ _,v,rfl,ownsRow_putObj o _ g rfl,i.trans (belowK_b (w:=w) ux W D _ _ (by simp at T;omega) g rfl rfl)⟩
 case stop=>
  rintro D c pre W _ _ h _;exact h.elim
end
end Go.Proofs.YtmepkbgodcffoaaGreatDoor
