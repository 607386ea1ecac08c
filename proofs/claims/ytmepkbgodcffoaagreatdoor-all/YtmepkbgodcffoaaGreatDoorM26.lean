/- What a term of a progr -/
import Derived.Test.YtmepkbgodcffoaaGreatDoorM16
import Derived.Test.YtmepkbgodcffoaaGreatDoorM24
import Derived.Deep.DeepAppendWide
import Derived.Laws.CopyRow
import Derived.OwnWalk
set_option maxHeartbeats 16000000
set_option maxRecDepth 100000
namespace Go.Proofs.YtmepkbgodcffoaaGreatDoor
open Go.RowKit Go.Proofs.Tryz
open _root_.List renaming length->A
open Go.World renaming setCell->B,ownsRow->ue
open Go.Value renaming ownBlock->ug,agg->Ai,bool->Ah,int->I,pointer->Ag,slice->C,string->Y,tuple->Aj
open Bool renaming false->uh,true->ui
open Go.Addr renaming mk->D
open _root_.Array renaming size->Z
open Go renaming Value->Ap,World->Ao
open Go.Ending renaming returned->Ak
open Go.IntKind renaming i64->J
open Go.Obj renaming cells->Al
open Option renaming none->O,some->G
open Or renaming inl->Am,inr->An
variable{x y:Co}{a op pl want:Int}{rs:List CRes}{l:List Nat}{ps:List Pr}{L:List Tk}{ts:List Tm}{r:uk}{vs:List V}{xs:List Ap}{ud uc H b base bytes c cap e g hb i j k m n vb:Nat}{N:Nat->Prop}{p:Pr}{P:Program}{t:Tm}{ty:TypeId}{X Ad:V}{v z:Ap}{W W' w w' w1 wr:Ao}
def ofT(ps:List Pr)(vs:List V)(t:Tm):V:=
 if t.op=0 then yA ps t.str
 else if t.op=1 then iV t.M
 else if t.op=2 then tV t.str
 else if t.op=3\/t.op=4 then bV (t.op==3)
 else if t.op=22 then qb4 (vs.getD t.left nV) t.str t.esc
 else jP t.op (vs.getD t.left nV) (vs.getD t.right nV)
def ValsAt(w:Ao)(vb n:Nat)(vs:List V):Prop:=∀i,i<n ->
 w.cell? ⟨vb,i * 3,O⟩=G (I J (vs.getD i nV).Q)/\w.cell? ⟨vb,i * 3+1,O⟩=G (I J (vs.getD i nV).M)/\w.cell? ⟨vb,i * 3+2,O⟩=G (Y (BS (vs.getD i nV).str))
theorem ValsAt.h(h:ValsAt w vb n vs)(hb:Below uc w w')(d:vb<uc):ValsAt w' vb n vs:=by
 grind[Below.cell,ValsAt]
def gV(w:Ao)(ps:List Pr)(ev vv:Ap)(vs:List V)(t:Tm):Prop:=
 Calls prog 106 #[tmV t,ev,vv] w λe w'=>e=Ak (vV (ofT ps vs t))/\Below (Z w.1) w w'
def JS(ud vb:Nat)(t:Tm)(X Ad:V)(w':Ao):Prop:=w'.cell? (D ud 0 O)=G (I J t.op)/\w'.cell? (D ud 1 O)=G (I J t.left)/\w'.cell? (D ud 2 O)=G (I J t.right)/\w'.cell? ⟨vb,t.left * 3,O⟩=G (I J X.Q)/\w'.cell? ⟨vb,t.left * 3+1,O⟩=G (I J X.M)/\w'.cell? ⟨vb,t.left * 3+2,O⟩=G (Y (BS X.str))/\w'.cell? ⟨vb,t.right * 3,O⟩=G (I J Ad.Q)/\w'.cell? ⟨vb,t.right * 3+1,O⟩=G (I J Ad.M)/\w'.cell? ⟨vb,t.right * 3+2,O⟩=G (Y (BS Ad.str))
theorem vbm(h:JS ud vb t X Ad W)(d:w1.1[ud]?=W.1[ud]?)(hv:w1.1[vb]?=W.1[vb]?):JS ud vb t X Ad w1:=by
 grind[World.cell?_of_block,Below.trans,JS]
theorem viy(h:JS ud vb t X Ad W)(hb:Xb W w1)(d:ud<Z W.1)(hv:vb<Z W.1):JS ud vb t X Ad w1:=vbm h (hb.block ud d) (hb.block vb hv)
theorem viz{R:Nat}{o f d:Ap}(h:JS ud vb t X Ad w1)(q:ud≠R)(hv:vb≠R):JS ud vb t X Ad (B (B (B w1 (D R 0 O) o) (D R 1 O) f) (D R 2 O) d):=by grind[vbm,Below.heap_setCell]
theorem vx2(w:Ao)(ps:List Pr)(ev:Ap)(a:Option Addr)(n c:Nat)(vs:List V)(t:Tm)(o:EvArg w ev ps)(f:t.op=0):gV w ps ev (C a n c) vs t:=by
 have q:ofT ps vs t=yA ps t.str:=by simp[ofT,f]
 unfold gV;rw[q];have CON:=qd (λw1 (h:EvArg w1 ev ps)=>qu2 h (BS t.str));have s:=qd o;obtain⟨D,A,B,rfl⟩:=o.slice;unfold tmV;rw[f];go_enter func106,ntmps106
 go_wp2_with(refine be (CON _ (s.h (qM w _ _))) λw1 d=>?_;obtain⟨u,E⟩:=qi d;have F:Z w.1+1<Z w1.1:=(by have:=d.size;simp at this;omega);simp only[vV])
 refine bo (by simp[go_sem,u]<;>rfl) rfl ⟨rfl, ?_⟩;exact(((qg (qM w _ _) d).setCell ur _).setCell ur _).setCell ur _
theorem vx3(w:Ao)(ps:List Pr)(ev:Ap)(a:Option Addr)(n c:Nat)(vs:List V)(t:Tm)(s:EvArg w ev ps)(f:t.op=1):gV w ps ev (C a n c) vs t:=by
 have o:ofT ps vs t=iV t.M:=by simp[ofT,f]
 unfold gV;rw[o];have CON:=qd (λw1=>kd t.M w1);obtain⟨B,u,A,rfl⟩:=s.slice;unfold tmV;rw[f];go_enter func106,ntmps106
 go_wp2_with(refine be (CON _) λw1 d=>?_;obtain⟨q,D⟩:=qi d;have E:Z w.1+1<Z w1.1:=(by have:=d.size;simp at this;omega);simp only[vV])
 refine bo (by simp[go_sem,q]<;>rfl) rfl ⟨rfl, ?_⟩;exact(((qg (qM w _ _) d).setCell ur _).setCell ur _).setCell ur _
theorem vx4(w:Ao)(ps:List Pr)(ev:Ap)(a:Option Addr)(n c:Nat)(vs:List V)(t:Tm)(s:EvArg w ev ps)(f:t.op=2):gV w ps ev (C a n c) vs t:=by
 have o:ofT ps vs t=tV t.str:=by simp[ofT,f]
 unfold gV;rw[o];have CON:=qd (λw1=>qgj (BS t.str) w1);obtain⟨B,u,A,rfl⟩:=s.slice;unfold tmV;rw[f];go_enter func106,ntmps106
 go_wp2_with(refine be (CON _) λw1 d=>?_;obtain⟨q,D⟩:=qi d;have E:Z w.1+1<Z w1.1:=(by have:=d.size;simp at this;omega);simp only[vV])
 refine bo (by simp[go_sem,q]<;>rfl) rfl ⟨rfl, ?_⟩;exact(((qg (qM w _ _) d).setCell ur _).setCell ur _).setCell ur _
theorem vx5(w:Ao)(ps:List Pr)(ev:Ap)(a:Option Addr)(n c:Nat)(vs:List V)(t:Tm)(s:EvArg w ev ps)(f:t.op=3):gV w ps ev (C a n c) vs t:=by
 have o:ofT ps vs t=bV ui:=by simp[ofT,f]
 unfold gV;rw[o];have CON:=qd (λw1=>jC ui w1);obtain⟨B,u,A,rfl⟩:=s.slice;unfold tmV;rw[f];go_enter func106,ntmps106
 go_wp2_with(refine be (CON _) λw1 d=>?_;obtain⟨q,D⟩:=qi d;have E:Z w.1+1<Z w1.1:=(by have:=d.size;simp at this;omega);simp only[vV])
 refine bo (by simp[go_sem,q]<;>rfl) rfl ⟨rfl, ?_⟩;exact(((qg (qM w _ _) d).setCell ur _).setCell ur _).setCell ur _
theorem vx6(w:Ao)(ps:List Pr)(ev:Ap)(a:Option Addr)(n c:Nat)(vs:List V)(t:Tm)(s:EvArg w ev ps)(f:t.op=4):gV w ps ev (C a n c) vs t:=by
 have o:ofT ps vs t=bV uh:=by simp[ofT,f]
 unfold gV;rw[o];have CON:=qd (λw1=>jC uh w1);obtain⟨B,u,A,rfl⟩:=s.slice;unfold tmV;rw[f];go_enter func106,ntmps106
 go_wp2_with(refine be (CON _) λw1 d=>?_;obtain⟨q,D⟩:=qi d;have E:Z w.1+1<Z w1.1:=(by have:=d.size;simp at this;omega);simp only[vV])
 refine bo (by simp[go_sem,q]<;>rfl) rfl ⟨rfl, ?_⟩;exact(((qg (qM w _ _) d).setCell ur _).setCell ur _).setCell ur _
theorem vvx(w:Ao)(ps:List Pr)(ev:Ap)(vb n c:Nat)(vs:List V)(t:Tm)(K:∃a n c,ev=C a n c)(hv:ValsAt w vb n vs)(Y:vb<Z w.1)(I:t.left<n)(hs:A t.str<=200)(B:A (vs.getD t.left nV).str<=1000)(o:t.op=22):gV w ps ev (C (G (D vb 0 O)) n c) vs t:=by
 have E:ofT ps vs t=qb4 (vs.getD t.left nV) t.str t.esc:=by simp[ofT,o]
 unfold gV;rw[E];obtain⟨u,s,q⟩:=hv t.left I;have CON:=qd (λw1=>qpp (vs.getD t.left nV) (BS t.str) (BS t.esc) (by rwa[qI]) B w1);simp only[zW]at CON;obtain⟨R,d⟩:=ie (qb4 (vs.getD t.left nV) t.str t.esc);rw[d]at CON |-;obtain⟨X,F⟩:=ie (vs.getD t.left nV);rw[F]at CON u s q;obtain⟨S,M,Q,rfl⟩:=K;unfold tmV;rw[o];go_enter func106,ntmps106
 go_wp2
 go_region_with((go_at_call 125;refine be (CON _) λw1 f=>?_;obtain⟨J,T⟩:=qi f;have U:Z w.1+1<Z w1.1:=(by have:=f.size;simp at this;omega);simp only[vV]))
 all_goals go_wp2
 all_goals
  refine bo (by simp[go_sem,J]<;>rfl) rfl ⟨rfl, ?_⟩;exact(((qg (qM w _ _).drew f).setCell ur _).setCell ur _).setCell ur _
theorem vx7(w:Ao)(ps:List Pr)(ev:Ap)(vb n c:Nat)(vs:List V)(t:Tm)(A7:∃a n c,ev=C a n c)(hv:ValsAt w vb n vs)(A1:vb<Z w.1)(hL:t.left<n)(hR:t.right<n)(aQ:Rng (vs.getD t.left nV).M)(EO:Rng (vs.getD t.right nV).M)(U:¬t.op=0)(T:¬t.op=1)(S:¬t.op=2)(Q:¬t.op=3)(M:¬t.op=4)(q:¬t.op=22):gV w ps ev (C (G (D vb 0 O)) n c) vs t:=by
 have hr:ofT ps vs t=jP t.op (vs.getD t.left nV) (vs.getD t.right nV):=by simp[ofT,U,T,S,Q,M,q]
 unfold gV;rw[hr];obtain⟨K,F,E⟩:=hv t.left hL;obtain⟨B,A,u⟩:=hv t.right hR;have CON:=qd (λw1=>qhf (t.op:Int) (vs.getD t.left nV) (vs.getD t.right nV) aQ EO w1);obtain⟨R,s⟩:=ie (jP t.op (vs.getD t.left nV) (vs.getD t.right nV));rw[s]at CON |-;obtain⟨X,hX⟩:=ie (vs.getD t.left nV);rw[hX]at CON K F E;obtain⟨Ad,hY⟩:=ie (vs.getD t.right nV);rw[hY]at CON B A u;obtain⟨ea,en,ec,rfl⟩:=A7;unfold tmV
 have f:JS (Z w.1) vb t X Ad ((w.alloc (Al #[I J t.op,I J t.left,I J t.right,I J t.M,Y (BS t.str),Y (BS t.esc)] 187)).alloc (Al #[I J 0,I J 0,Y ⟨#[]⟩] 57)).drew:=by
  refine⟨?_, ?_, ?_, ?_, ?_, ?_, ?_, ?_, ?_⟩<;>simp[go_sem, *]
 go_enter func106,ntmps106
 go_wp2
 go_region_held3 (λw'=>Xc w' (Z w.1) 0 (I J t.op)/\Xc w' (Z w.1) 1 (I J t.left)/\Xc w' (Z w.1) 2 (I J t.right)/\Xc w' vb (t.left * 3) (I J X.Q)/\Xc w' vb (t.left * 3+1) (I J X.M)/\Xc w' vb (t.left * 3+2) (Y (BS X.str))/\Xc w' vb (t.right * 3) (I J Ad.Q)/\Xc w' vb (t.right * 3+1) (I J Ad.M)/\Xc w' vb (t.right * 3+2) (Y (BS Ad.str))) (first|exact f|exact d|exact viz d uq uq) ((go_at_call 126;refine be (CON _) λw1 o=>?_;obtain⟨C9,G4⟩:=qi o;have B9:Z w.1+1<Z w1.1:=(by have:=o.size;simp at this;omega);have d:=viy f o ut ut;simp only[vV]))
 all_goals go_wp2
 all_goals
  refine bo (by simp[go_sem,C9]<;>rfl) rfl ⟨rfl, ?_⟩;exact(((qg (qM w _ _).drew o).setCell ur _).setCell ur _).setCell ur _
def zJ(ps:List Pr)(ts:List Tm):Nat->List V
 | 0=>[]
 | k+1=>zJ ps ts k++[ofT ps (zJ ps ts k) (ts.getD k (.bare 0))]
def qrt(vs:List V)(rs:List Nat):Nat->List Nat
 | 0=>[]
 | k+1=>qrt vs rs k++(if vs.getD (rs.getD k 0) nV=bV ui then[k] else[])
def qz4(ps:List Pr)(ts:List Tm)(rs:List Nat):List Nat:=qrt (zJ ps ts (A ts)) rs (A rs)
theorem ji(ps:List Pr)(ts:List Tm)(k:Nat):A (zJ ps ts k)=k:=by
 induction k<;>grind[zJ]
theorem qf9(vs:List V)(rs:List Nat)(k:Nat):A (qrt vs rs k)<=k:=by
 induction k<;>grind[qrt]
theorem vrm(vs:List V)(rs:List Nat)(k:Nat):∀x∈qrt vs rs k,x<k:=by
 induction k<;>grind[qrt]
def Gv(v:V):Prop:=Rng v.M/\Sh v
theorem vxh:Gv nV:=⟨pX,qg6⟩
theorem vjq(h:qe5 ps)(hs:vgm ps)(d:FitsT k t):Gv (ofT ps vs t):=by
 unfold ofT
 split
 .grind[qv0,yA,qg6,vgm,Gv]
 split
 .exact⟨d.M,vp4 _⟩
 split
 .exact⟨vp1,by have:=d.str;show A t.str<=1000;omega⟩
 split
 .exact⟨qal _,qg5 _⟩
 split
 unfold qb4;exact⟨zb (qal _) pX,vf (qg5 _) qg6⟩;exact⟨qv1 _ _ _,vez _ _ _⟩
theorem qyw(h:qe5 ps)(hs:vgm ps)(o:∀i t,ts[i]?=G t->FitsT i t)(k:Nat)(f:k<=A ts):∀i,Gv ((zJ ps ts k).getD i nV):=by
 induction k with
 | zero=>intro i;exact vxh
 | succ k ih=>
  intro i;have ih:=ih uq i;rw[zJ,aq];obtain d|d:=Nat.lt_or_ge i k;rw[cg (by rwa[ji])];exact ih
  grind[vjq]
theorem vti{ev:Ap}(d:EvArg w ev ps)(hv:ValsAt w vb n vs)(s:vb<Z w.1)(o:∀i,Gv (vs.getD i nV))(f:FitsT k t)(u:k<=n):gV w ps ev (C (G (D vb 0 O)) n c) vs t:=by
 have q:=d.slice
 by_cases h0:t.op=0
 .exact vx2 w ps ev _ n c vs t d h0
 by_cases h1:t.op=1
 .exact vx3 w ps ev _ n c vs t d h1
 by_cases h2:t.op=2
 .exact vx4 w ps ev _ n c vs t d h2
 by_cases h3:t.op=3
 .exact vx5 w ps ev _ n c vs t d h3
 by_cases h4:t.op=4
 .exact vx6 w ps ev _ n c vs t d h4
 have A:=f.sides uq
 by_cases T9:t.op=22
 exact vvx w ps ev vb n c vs t q hv s uq f.str (o _).2 T9
 grind[vx7,Gv]
theorem qwu:(prog.info? 57).map (λi=>(i.zero,i.size,i.bytes))=G (G (Ai #[I J 0,I J 0,Y ⟨#[]⟩]),3,32):=uw
structure RunAt(w wr:Ao)(vb n:Nat)(vs:List V):Prop where
 vals:ValsAt wr vb n vs
 fz:∀j,wr.frozen? ⟨vb,j,O⟩=uh
 ge:w.1.size<=vb
 lt:vb<wr.1.size
 bel:Below w.1.size w wr
theorem RunAt.next(h:RunAt w wr vb n vs)(hb:Xb wr w'):RunAt w w' vb n vs:=
 ⟨h.vals.h hb h.lt,λj=>(hb.frozen (p:=D vb j O) h.lt).trans (h.fz j),h.ge,au h.lt hb.size,qg h.bel hb⟩
theorem RunAt.made(h:ue w1 (Z w.1) 57 3 (C (G ⟨Z w.1,0,O⟩) n n) n (madeCells (Ai #[I J 0,I J 0,Y ⟨#[]⟩]).cells (n * 3)).toList)(d:w.grownBy w1 O):RunAt w w1 (Z w.1) n []:=by
 have s:=h.lt (Z w.1) rfl;refine⟨λi A=>?_,λj=>?_,ux,s.2,⟨d.os,d.tape,d.output,d.size,λk u=>d.block k u ur⟩⟩;have o:=h.cells (g:=Z w.1) rfl;have q:∀j,(⟨Z w.1,0,O⟩:Addr).add j=⟨Z w.1,j,O⟩:=λj=>by grind[Addr.add]
 have f:∀j,j<3->(madeCells (Ai #[I J 0,I J 0,Y ⟨#[]⟩]).cells (n * 3)).toList[i * 3+j]?=([I J 0,I J 0,Y ⟨#[]⟩]:List Ap)[j]?:=by
  grind[Value.cells,madeCells]
 refine⟨?_, ?_, ?_⟩;have:=o (i * 3+0) _ (f 0 uu);rwa [q]at this;have:=o (i * 3+1) _ (f 1 uu);rwa [q]at this;have:=o (i * 3+2) _ (f 2 uu);rwa [q]at this;obtain⟨hv,_⟩|⟨g,cap,cur,hv,_,B,_⟩:=h.2;simp at hv
 grind[World.frozen?]
theorem RunAt.store(h:RunAt w wr vb n vs)(F:A vs=k)(o:k<n)(x:V):
  RunAt w (B (B (B wr ⟨vb,k * 3,O⟩ (I J x.Q)) ⟨vb,k * 3+1,O⟩ (I J x.M)) ⟨vb,k * 3+2,O⟩ (Y (BS x.str))) vb n (vs++[x]):=by
 have d:=h.ge;refine⟨λi q=>?_,λj=>by simp[go_sem,h.fz],d,by have:=h.lt;simpa using this,((h.bel.setCell (by exact d) _).setCell (by exact d) _).setCell (by exact d) _⟩;obtain⟨E,D,C⟩:=h.vals k o
 by_cases he:i=k
 .subst he
  have f:(vs++[x]).getD i nV=x:=by grind
  rw[f];refine⟨?_, ?_, ?_⟩<;>simp[go_sem,E,D,C]
 have f:(vs++[x]).getD i nV=vs.getD i nV:=by
  obtain s|s:=Nat.lt_or_ge i k
  grind
  grind
 rw[f];obtain⟨u,b1,b2⟩:=h.vals i q;refine⟨?_, ?_, ?_⟩
 .simp[go_sem,u]
 .simp[go_sem,b1]
 simp[go_sem,b2]
theorem TsAt.cells(h:TsAt w base v ts):∃a c,v=C a (A ts) c/\∀(k:Nat) (t:Tm),ts[k]?=G t->∃g,a=G (D g 0 O)/\g<Z w.1 /\
  w.cell? ⟨g,k * 6,O⟩=G (I J t.op)/\w.cell? ⟨g,k * 6+1,O⟩=G (I J t.left)/\w.cell? ⟨g,k * 6+2,O⟩=G (I J t.right)/\w.cell? ⟨g,k * 6+3,O⟩=G (I J t.M)/\w.cell? ⟨g,k * 6+4,O⟩=G (Y (BS t.str))/\w.cell? ⟨g,k * 6+5,O⟩=G (Y (BS t.esc)):=by
 have q:=h;obtain⟨rfl,E⟩|⟨g,cap,cur,rfl,F,B,_⟩:=h.2
 grind
 refine⟨_,cap,rfl,λk t f=>⟨g,rfl,(ch.1 B).1, ?_⟩⟩;have s:∀j,(⟨g,0,O⟩:Addr).add j=⟨g,j,O⟩:=λj=>by grind[Addr.add]
 have d:∀j u,(yH t)[j]?=G u->w.cell? ⟨g,k * 6+j,O⟩=G u:=λj u o=>by
  have:=World.ownsRow.cells q (g:=g) rfl (k * 6+j) u (qpi f o);rwa [s]at this
 exact⟨d 0 _ rfl,d 1 _ rfl,d 2 _ rfl,d 3 _ rfl,d 4 _ rfl,d 5 _ rfl⟩
theorem IsAt.cells(h:IsAt w base v l):∃a c,v=C a (A l) c/\∀(k:Nat) (x:Nat),l[k]?=G x->∃g,a=G (D g 0 O)/\g<Z w.1/\w.cell? (D g k O)=G (I J x):=by
 have f:=h;obtain⟨rfl,s⟩|⟨g,cap,cur,rfl,u,q,_⟩:=h.2
 grind
 refine⟨_,cap,rfl,λk x d=>⟨g,rfl,(ch.1 q).1, ?_⟩⟩;have o:∀j,(⟨g,0,O⟩:Addr).add j=⟨g,j,O⟩:=λj=>by grind[Addr.add]
 have:=World.ownsRow.cells f (g:=g) rfl k (I J x) (by simp[zp,d]);rwa [o]at this
section
attribute [local go_sem ↓] vp
def qzb(w:Ao)(l:List Nat)(e:Ending)(w':Ao):Prop:=∃v,e=Ak v/\IsAt w' (Z w.1) v l/\Below (Z w.1) w w'
theorem IsAt.mono{d f:Nat}(h:IsAt w f v l)(q:d<=f):IsAt w d v l:=by
 refine⟨h.1, ?_⟩;obtain o|⟨g,cap,cur,rfl,s,rest⟩:=h.2;exact Am o;exact An ⟨g,cap,cur,rfl,uq,rest⟩
theorem IsAt.app(h:IsAt W base v l)(hb:base<=Z W.1)(x:Nat)(M:A l<=1000)(ty:TypeId):
  ∃g cap d,(xb #[50,50] ty #[v,C (G ⟨Z W.1,0,O⟩) 1 1]).run prog (W.alloc (Al #[I J x] 3))=.ok (C (G (D g 0 O)) (A l+1) cap) d /\
   Hid (IsAt d base (C (G (D g 0 O)) (A l+1) cap) (l++[x]))/\Hid (Below base W d):=by
 obtain⟨o,u,B,F,E⟩:=info_parts kA;have f:=World.ownsRow.alloc h (Al #[I J x] 3);obtain⟨g,cap,d,q,R,K,Q,_⟩:=run_append_lies (P:=prog) (W.alloc (Al #[I J x] 3)) 50 ty base 3 o _ 1 8 underlying50 u B F E rfl uq v (A l) (zp l) f
  ⟨Z W.1,0,O⟩ 1 1 [I J x] rfl (World.news_of_block (cs:=#[I J x]) (t:=3) (fr:=(0,0)) (heap_alloc_new W _)) (by simp[Value.oneCell']) uq (by unfold maxLen;omega) uq ut _ rfl
 refine⟨g,cap,d,q,qd ?_,qd ?_⟩
 grind[zp,IsAt]
 exact Go.RowKit.Below.grown (((Below.refl base W).alloc hb _)) K ut (λk s=>(f.lt k s).1)
theorem IsAt.app'(h:IsAt W base v l)(hb:base<=Z W.1)(x:Nat)(d:A l<=1000)(ty:TypeId)(H:Nat)(o:Z W.1=H)(f:W'=W.alloc (Al #[I J x] 3)):
  ∃g cap w5,(xb #[50,50] ty #[v,C (G (D H 0 O)) 1 1]).run prog W'=.ok (C (G (D g 0 O)) (A l+1) cap) w5 /\
   Hid (IsAt w5 base (C (G (D g 0 O)) (A l+1) cap) (l++[x]))/\Hid (Below base W w5):=by
 subst o f;exact h.app hb x d ty
theorem RunAt.nextB(h:RunAt w wr vb n vs)(hb:Below uc wr w')(d:vb<uc):RunAt w w' vb n vs:=
 ⟨h.vals.h hb d,λj=>(hb.frozen (p:=D vb j O) d).trans (h.fz j),h.ge,au h.lt hb.size,h.bel.trans (hb.mono (md h.ge))⟩
theorem IsAt.h(h:IsAt w base v l)(hb:Below uc w w')(d:Z w.1<=uc):IsAt w' base v l:=qp h hb d
theorem pZ(w:Ao)(o:Obj):Xb w (w.alloc o):=uy.alloc ux o
theorem quq(ps:List Pr)(ev:Ap)(M o:Nat)(ts:List Tm)(rs:List Nat)(w:Ao)(hp:ProgAt w M o ts rs)(T:Prg ts rs)(A7:EvArg w ev ps)(u:qe5 ps)(hs:vgm ps):
  uo 64 #[Ag (G (D M o O)),ev] w (qzb w (qz4 ps ts rs)):=by
 obtain⟨i0,hi,F5,B9,D8⟩:=info_parts qwu;obtain⟨i1,hj,eP,XD,XC⟩:=info_parts kA;obtain⟨plt,⟨tv,tb,c0,cB⟩,rv,rb,c1,JX⟩:=hp;have eO:=qd A7;obtain⟨ea,en,ec,rfl⟩:=A7.slice;obtain⟨ta,tc,rfl,hTC⟩:=cB.cells;obtain⟨ra,rc,rfl,hRC⟩:=JX.cells;have HTC:Hid _:=qd hTC;have fV:Hid _:=qd hRC;have HG:=qd T;have K:Hid (∀k,k<=A ts->∀i,Gv ((zJ ps ts k).getD i nV)):=qd λk hk=>qyw u hs T.fits k hk
 have U7:=T.terms;have h8:=T.roots;obtain⟨n,Q⟩:=il (A ts);obtain⟨m,S⟩:=il (A rs);have HN:Hid (n=A ts):=qd Q;have HM:Hid (m=A rs):=qd S;rw[<-Q]at c0 U7;rw[<-S]at c1 h8;obtain⟨R,hR⟩:=ie (qz4 ps ts rs);have HR:Hid (R=qrt (zJ ps ts n) rs m):=qd (by rw[Q,S,<-hR];rfl);rw[hR];clear Q S hR;go_enter func64,ntmps64
 go_wp2_with(at_make;refine wpList_make_full _ rfl _ _ 176 rfl (Z w.1) 57 i0 _ 3 underlying176 hi F5 B9 J J _ _ n rfl rfl rfl rfl (by rw[D8];omega) (by unfold maxLen;omega) ux ?_;intro w1 K8 bJ;have R0:=qd (RunAt.made K8 bJ);have d0:=bJ.cell c0 ur)
 go_loopw [22] (λi wr=>∃k:Nat,k<=n/\i=I J k/\Hid (RunAt w wr (Z w.1) n (zJ ps ts k))) (λi _=>n - (intOf i).toNat)
 exact⟨0,bt _,rfl,R0⟩;obtain⟨k,hk,rfl,s⟩:=hrel
 by_cases A1:k<n
 .obtain⟨t,ht⟩:∃t,ts[k]?=G t:=⟨_,ag (md (q9 HN))⟩
  obtain⟨g,rfl,glt,B,t1,t2,t3,t4,t5⟩:=q9 HTC k t ht;have hB:=(q9 s).bel;obtain⟨f,mA⟩:=qi hB;replace B:=(f g (k * 6) glt).trans B;replace t1:=(f g (k * 6+1) glt).trans t1;replace t2:=(f g (k * 6+2) glt).trans t2;replace t3:=(f g (k * 6+3) glt).trans t3;replace t4:=(f g (k * 6+4) glt).trans t4;replace t5:=(f g (k * 6+5) glt).trans t5;have q:Hid (zJ ps ts (k+1)=zJ ps ts k++[ofT ps (zJ ps ts k) t]):=qd (by rw[zJ,aq,ht];rfl);have F:Hid (A (zJ ps ts k)=k):=qd (ji _ _ _);have aO:=(q9 s).lt;have TQ:g<Z wr.1:=md hB.size
  have U:Hid (∀W,EvArg W (C ea en ec) ps->ValsAt W (Z w.1) n (zJ ps ts k)->Z w.1<Z W.1->gV W ps (C ea en ec) (C (G ⟨Z w.1,0,O⟩) n n) (zJ ps ts k) t):=qd λW h1 h2 h3=>vti h1 h2 h3 (K k (md (q9 HN))) (HG.fits k t ht) uq
  generalize zJ ps ts k=vs at *;obtain⟨x,E⟩:=ie (ofT ps vs t);unfold gV at U;rw[E]at U q;simp only[tmV]at U;clear f mA hB ht E
  go_wp2_with(refine be (U _ (eO.h (qg s.bel (pZ wr _))) (s.vals.h (pZ wr _) aO) ut) λw2 A3=>?_;have d:=qd (s.next (qg (pZ wr _) A3));have fz2:=(q9 d).fz;obtain⟨v0,v1,v2⟩:=(q9 d).vals k A1;simp only[vV])
  case roundEnd=>exact⟨⟨k+1,uq,rfl,qd (by rw[q9 q];exact d.store F A1 x)⟩,by simp[intOf];omega⟩
 have:k=n:=uq;subst this;have d2:Xc wr M (o+1) (C ra m rc):=(s.bel.cell (p:=⟨M,o+1,O⟩) plt).trans c1;obtain⟨hVG,F⟩:Hid (∀i,Gv ((zJ ps ts k).getD i nV))/\Hid (A (zJ ps ts k)=k):=⟨qd (K k (md (q9 HN))),qd (ji _ _ _)⟩;generalize zJ ps ts k=vs at *
 go_wp2
 go_loopw [8,40] (λv i wr=>∃j:Nat,j<=m/\i=I J j/\Hid (RunAt w wr (Z w.1) k vs)/\Hid (IsAt wr (Z w.1+1) v (qrt vs rs j))) (λ_ i _=>m - (intOf i).toNat)
 exact⟨0,bt _,rfl,s,qd (IsAt.nil _ _)⟩;obtain⟨j,UI,rfl,d,HI⟩:=hrel
 by_cases L5:j<m
 .obtain⟨r,u⟩:∃r,rs[j]?=G r:=⟨_,ag (md (q9 HM))⟩
  obtain⟨g,rfl,glt,B⟩:=q9 fV j r u;have UC:r<k:=by have h1:=(q9 HG).h r (bh u);have h2:=q9 HN;omega
  have q:Hid (qrt vs rs (j+1)=qrt vs rs j++(if vs.getD r nV=bV ui then[j] else[])):=qd (by rw[qrt,aq (l:=rs),u];rfl);have hML:Hid (A (qrt vs rs j)<=j):=qd (qf9 _ _ _);obtain⟨f,mA⟩:=qi d.bel;replace B:=(f g j glt).trans B;obtain⟨v0,v1,v2⟩:=(q9 d).vals r UC;have hzr2:=(q9 d).lt;have TQ:g<Z wr.1:=md ((q9 d).bel.size)
  have hj0:=it j;have UJ:=je j m;have eV:=it r;have C7:=je r k;obtain⟨x,E⟩:=ie (vs.getD r nV);rw[E]at v0 v1 v2 q;have ex:=λw=>qit x (bV ui) w
  simp only[vV]at ex;clear f mA u E
  by_cases hb:x=bV ui
  .have hd:decide (x=bV ui)=ui:=de hb
   simp only[hd]at ex;rw[bs hb]at q;clear hd hb;have cI:Xb wr (wr.alloc (Al #[I J (bV ui).Q,I J (bV ui).M,Y (BS (bV ui).str)] 57)).drew:=(pZ wr _).drew;obtain⟨g5,J7,w5,M8,JB,L9⟩:=IsAt.app' (W':=((wr.alloc (Al #[I J (bV ui).Q,I J (bV ui).M,Y (BS (bV ui).str)] 57)).alloc (Al #[I J j] 3)).drew) (HI.h cI ux) ut j (md (q9 hML)) 50 (Z wr.1+1) ur rfl;have WF:=qd ((d.next cI).nextB L9 (du _));clear cI L9
   go_wp2
   go_region_with(go_at_call 89;refine be (qvh _ _) ?_;rintro w' rfl;simp only[vV])
   all_goals go_wp2
   all_goals exact⟨⟨j+1,uq,rfl,WF,qd (by rw[q9 q];exact q9 JB)⟩,by simp[intOf];omega⟩
  have hd:decide (x=bV ui)=uh:=da hb;simp only[hd]at ex;rw[ak hb]at q;clear hd hb
  go_wp2
  go_region_with(go_at_call 89;refine be (qvh _ _) ?_;rintro w' rfl;simp only[vV])
  all_goals go_wp2
  all_goals exact⟨⟨j+1,uq,rfl,qd (d.next (by repeat (first|exact uy|apply Below.drew|apply kQ))),qd (by rw[q9 q,gs];exact IsAt.h HI (by repeat (first|exact uy|apply Below.drew|apply kQ)) ux)⟩,by simp[intOf];omega⟩
 have:j=m:=uq;subst this;have HI':=qd (IsAt.mono HI (Nat.le_succ _));have uU:=qd d.bel
 go_wp2
 go_ret;exact⟨_,rfl,by rw[q9 HR];exact q9 HI',q9 uU⟩
theorem PsAt.new{w:Ao}{v:Ap}{l:uk}(h:BytesAt w (Z w.1) v l)(ty:TypeId):PsAt (w.alloc (Al #[v,Ah uh] ty)) (Z w.1) ⟨l,uh⟩:=by
 obtain⟨a,c,rfl,q,d⟩:=h;refine⟨ur,⟨C a (A l) c,by simp[go_sem],a,c,rfl,q,λi x f=>?_⟩,by simp[go_sem],λj=>by simp[go_sem]⟩;obtain⟨b,o,s,hb,u⟩:=d i x f;exact⟨b,o,s,hb,((((Below.refl (Z w.1) w).alloc ux _).cell (p:=⟨b,o+i,O⟩) hb)).trans u⟩
theorem RdL.start{w2:Ao}{d:Nat}{s:Ps}(hp:PsAt w2 d s)(f:Z w.1<=d)(hb:Xb w w2)(ty:TypeId):RdL w (w2.alloc (Al #[C O 0 0,C O 0 0] ty)) d (Z w2.1) s [] (C O 0 0) [] (C O 0 0):=by
 refine⟨hp.alloc _,by simp[go_sem],by simp[go_sem],λj=>by simp[go_sem],hp.lt,ur,TsAt.nil _ _,IsAt.nil _ _,λg o=>by simp[Value.ownBlock]at o,f,hb.alloc hb.size _⟩
def qia(w:Ao)(r:List Tm×List Nat×Bool)(e:Ending)(w':Ao):Prop:=
 ∃pb,e=Ak (Aj #[Ag (G (D pb 0 O)),Ah r.2.2])/\ProgAt w' pb 0 r.1 r.2.1/\Below (Z w.1) w w'
theorem vka(code:uk)(hT:∀k,k<(qdh code).1->qtb (vU (qdi code).2 k).2 k)(cv:Ap)(w:Ao)(h:BytesAt w (Z w.1) cv code):
  uo 63 #[cv] w (qia w (kr code)):=by
 obtain⟨i0,hi,F5,B9,D8⟩:=info_parts qez;obtain⟨i1,hj,eP,XD,XC⟩:=info_parts kA;have HP:Hid (∀ty,PsAt (w.alloc (Al #[cv,Ah uh] ty)) (Z w.1) ⟨code,uh⟩):=qd λty=>PsAt.new h ty
 obtain⟨a,c,rfl,hc,hx⟩:=h;clear hx hc;obtain⟨HH,T⟩:=ie (Ps.upTo ⟨code,uh⟩ 80);have T1:=qd (λw1 F=>xS (Z w.1) ⟨code,uh⟩ 80 w1 F);have hN:=Ps.upTo_le ⟨code,uh⟩ 80;rw[T]at T1 hN;obtain⟨N,Q⟩:=HH;obtain⟨II,eI⟩:=ie (Ps.upTo Q 8);have T2:=qd (λw1 F=>xS (Z w.1) Q 8 w1 F);have hM:=Ps.upTo_le Q 8;rw[eI]at T2 hM;obtain⟨M,d⟩:=II
 have f:Hid (kr code=((vU d N).1,(jh ((N:Int) - 1) (vU d N).2 M).1,!(jh ((N:Int) - 1) (vU d N).2 M).2.bad&&(A (jh ((N:Int) - 1) (vU d N).2 M).2.rest==0))):=qd (by
  have K:qdh code=(N,Q):=T;have U:qdi code=(M,d):=by rwa[qdi,K]
  have e3:qxr code=vU d N:=by rw[qxr,K,U]
  have e4:qnp code=jh ((N:Int) - 1) (vU d N).2 M:=by rw[qnp,K,U,e3]
  rw[kr,e3,e4])
 have HT:Hid (∀k,k<N->qtb (vU d k).2 k):=qd (by
  have K:qdh code=(N,Q):=T;have U:qdi code=(M,d):=by rwa[qdi,K]
  rw[K,U]at hT
  exact hT)
 generalize kr code=RR at f |-;clear hT;clear T eI;simp only at T1 T2 hN hM;go_enter func63,ntmps63
 go_wp2_with(first|(go_at_call 104;refine(T2 _ U8).mono ?_;rintro e w2⟨rfl,M7,B8⟩;have K2:Hid (Xb w w2):=qd (qc6 K1 B8 ux);have R0:Hid (∀ty,RdL w (w2.alloc (Al #[C O 0 0,C O 0 0] ty)) (Z w.1) (Z w2.1) d [] (C O 0 0) [] (C O 0 0)):=qd (λty=>RdL.start M7 ux K2 ty);clear B8 M7)|(refine(T1 _ (HP _)).mono ?_;rintro e w1⟨rfl,U8,A5⟩;have U8:=qd U8;have K1:Hid (Xb w w1):=qd (qc6 (uy.alloc ux _) A5 ux);clear A5))
 go_loopw [16] (λi wr=>∃(k:Nat) (tv:Ap),k<=N/\i=I J k/\Hid (RdL w wr (Z w.1) (Z w2.1) (vU d k).2 (vU d k).1 tv [] (C O 0 0))) (λi _=>N - (intOf i).toNat)
 exact⟨0,_,bt _,rfl,q9 R0 _⟩;obtain⟨k,tv,hk,rfl,u⟩:=hrel
 by_cases A1:k<N
 .have hS:Hid (vU d (k+1)=((vU d k).1++[((vU d k).2.term k).1],((vU d k).2.term k).2)):=qd rfl
  have E:A (vU d k).1=k:=gC _ _;obtain⟨X,s⟩:=ie (vU d k);have D:=q9 HT k A1;rw[s]at u hS E D;obtain⟨ts,q⟩:=X;obtain⟨t,ht⟩:=ie (q.term k);simp only at u hS E;rw[ht]at hS;have TM:Hid (∀w1,PsAt w1 (Z w.1) q->uo 105 #[Ag (G ⟨Z w.1,0,O⟩),I J k] w1 (xF (Z w.1) w1 t)):=qd (λw1 F=>ht ▸ D _ w1 F);clear ht s D;obtain⟨t,B⟩:=t;have c0:=(q9 u).c0;have fz:=(q9 u).fz;have WV:=(q9 u).lt
  go_wp2_with fail
  go_region_with(go_at_call 105;refine(TM _ u.ps.drew).mono ?_;rintro e w4⟨rfl,R,S⟩;have WG:=qd (u.P S.drew' R);have c4:=(q9 WG).c0;have f4:=(q9 WG).fz;have lt4:=(q9 WG).lt;clear S R;obtain⟨g,cap,w5,M8,c5,f5,BF,WF⟩:=(q9 WG).appT t uq 49;rw[E]at M8 WF;simp only[tmV])
  all_goals go_wp2_with fail
  all_goals exact⟨⟨k+1,_,uq,rfl,qd (by rw[q9 hS];exact q9 WF)⟩,by simp[intOf];omega⟩
 have:k=N:=uq;subst this;obtain⟨X,s⟩:=ie (vU d k);rw[s]at u f;obtain⟨ts,q⟩:=X;simp only at u f;clear s
 go_wp2_with fail
 go_loopw [32] (λi wr=>∃(j:Nat) (rv:Ap),j<=M/\i=I J j/\Hid (RdL w wr (Z w.1) (Z w2.1) (jh ((k:Int) - 1) q j).2 ts tv (jh ((k:Int) - 1) q j).1 rv)) (λi _=>M - (intOf i).toNat)
 exact⟨0,_,bt _,rfl,u⟩;obtain⟨j,rv,KJ,rfl,o⟩:=hrel
 by_cases L5:j<M
 .have hS:Hid (jh ((k:Int) - 1) q (j+1)=((jh ((k:Int) - 1) q j).1++[((jh ((k:Int) - 1) q j).2.upTo ((k:Int) - 1)).1],((jh ((k:Int) - 1) q j).2.upTo ((k:Int) - 1)).2)):=qd rfl
  have E:A (jh ((k:Int) - 1) q j).1=j:=qbd _ _ _;obtain⟨X,s⟩:=ie (jh ((k:Int) - 1) q j);rw[s]at o hS E;obtain⟨rs,B⟩:=X;simp only at o hS E;obtain⟨Ad,hY⟩:=ie (B.upTo ((k:Int) - 1));have TU:=qd (λw1 F=>xS (Z w.1) B ((k:Int) - 1) w1 F);rw[hY]at hS TU;obtain⟨r,s5⟩:=Ad;simp only at hS TU;clear s hY;have iX:IntKind.i64.wrap ((k:Int) - 1)=(k:Int) - 1:=by rw[IntKind.wrap_i64];omega
  have c1:=(q9 o).c1;have fz:=(q9 o).fz;have WV:=(q9 o).lt
  go_wp2_with fail
  go_region_with(go_at_call 104;refine(TU _ o.ps.drew).mono ?_;rintro e w4⟨rfl,R,S⟩;have Y:=qd (o.P S.drew' R);have c4:=(q9 Y).c1;have f4:=(q9 Y).fz;have lt4:=(q9 Y).lt;clear S R;obtain⟨g,cap,w5,M8,c5,f5,BF,aE⟩:=(q9 Y).appR r uq 50;rw[E]at M8 aE)
  all_goals go_wp2_with fail
  all_goals exact⟨⟨j+1,_,uq,rfl,qd (by rw[q9 hS];exact q9 aE)⟩,by simp[intOf];omega⟩
 have:j=M:=uq;subst this;obtain⟨X,s⟩:=ie (jh ((k:Int) - 1) q j);rw[s]at o f;obtain⟨rs,B⟩:=X;simp only at o f;clear s;obtain⟨v0,p0,cA⟩:=(q9 o).ps.c0;have p1:=(q9 o).ps.c1;obtain⟨a',c',rfl,aF,_⟩:=cA;have RC:=qd o.prog;have uU:=qd o.bel;clear o u HP T1 T2 R0 K1 K2
 cases hb:B.bad with
 | true=>
  rw[hb]at p1 f
  go_wp2_with fail
  go_region
  all_goals go_wp2_with fail
  all_goals go_ret2
  all_goals exact⟨_,by rw[q9 f];rfl,by rw[q9 f];exact RC.h uy.drew,uU.drew⟩
 | false=>
  rw[hb]at p1 f
  by_cases hz:A B.rest=0
  .rw[hz]at p0 f
   go_wp2_with fail
   go_region
   all_goals go_wp2_with fail
   all_goals go_ret2
   all_goals exact⟨_,by rw[q9 f];rfl,by rw[q9 f];exact RC.h uy.drew,uU.drew⟩
  have U5:((A B.rest:Int)==0)=uh:=aw.2 uq;have hz'':(A B.rest==0)=uh:=aw.2 hz;rw[hz'']at f
  go_wp2_with fail
  go_region
  all_goals go_wp2_with fail
  all_goals go_ret2
  all_goals exact⟨_,by rw[q9 f];rfl,by rw[q9 f];exact RC.h uy.drew,uU.drew⟩
end
def jm(op:Int):Prop:=op=6\/op=7\/op=8\/op=10\/op=11\/16<=op/\op<=19
def yJ:Co->Prop
 | .leaf _=>True
 | .un _ x=>yJ x
 | .bin p x y=>jm p.op/\yJ x/\yJ y
theorem vH(h:jm op)(f:yJ x)(d:yJ y):yJ (qq op x y):=by
 unfold qq
 split
 exact⟨h,d,f⟩;exact⟨h,f,d⟩
theorem qtg:∀{c:Co},yJ c->yJ (vj c):=by
 intro c
 induction c<;>grind[vj,vH,jm,yJ]
theorem qvx(h:yJ x):∀(r:List uk) (f:Co),yJ f->yJ (zC x f r):=by
 intro r
 induction r with
 | nil=>intro f d;exact d
 | cons t r ih=>intro f d;exact ih _ (vH (by unfold jm;omega) d (vH (by unfold jm;omega) h trivial))
theorem qvw(d:yJ x)(ts:List uk):yJ (vO x ts):=by
 unfold vO
 cases vw ts with
 | nil=>exact d
 | cons t r=>exact qvx d r _ (vH (by unfold jm;omega) d trivial)
theorem gW:∀t,ShA t->yJ (qj t):=by
 intro t
 induction t with
 | leaf p=>intro _;trivial
 | un p x ih=>
  intro f;have d:=ih f.2.2.2;rw[qj]
  split
  exact vH (by unfold jm;omega) trivial d
  split
  exact vH (by unfold jm;omega) trivial d
  grind[qtg,qvw,yJ]
 | bin p x y ihx ihy =>grind[qj,vH,jm,qtg,ShA]
 | tri p x y z ihx ihy ihz =>grind[qj,vH,jm,ShA]
def qc0(p:CP):Pay:=⟨p.op,0,p.M,p.str,p.esc,[]⟩
def emb:Co->Ast
 | .leaf p=>.leaf (qc0 p)
 | .un p x=>.un (qc0 p) (emb x)
 | .bin p x y=>.bin (qc0 p) (emb x) (emb y)
theorem qx1{x y:uk}(h:Op.bytesLess x y=ui):Op.bytesLess y x=uh:=by
 induction x generalizing y with
 | nil=>cases y<;>simp[Op.bytesLess]at h |-
 | cons a x ih=>
  cases y with
  | nil=>simp[Op.bytesLess]at h
  | cons b y=>
   simp only[Op.bytesLess,fh,dn,fw,ew,ir,Bool.and_eq_false_iff,decide_eq_false_iff_not]at h |-;obtain h|⟨rfl,h⟩:=h
   grind
   grind
theorem qb7(op:Int)(x y:Co):(∃a b,qq op x y=.bin (qr op) a b/\qq op a b=.bin (qr op) a b/\(a=x/\b=y\/a=y/\b=x)):=by
 grind[qq,qx1]
def ClC(c:Co)(k:Int):Prop:=qC (emb c)=.ok k
theorem qqu{b:Int}(d:a=want\/a=0)(hb:b=want\/b=0):dem want pl [.ok a,.ok b] ui=O:=by
 grind[dem]
theorem gX(o:op=6\/op=7){b:Int}(s:ClC x a)(q:ClC y b)(d:a=3\/a=0)(hb:b=3\/b=0):ClC (qq op x y) 3:=by
 obtain⟨u,v,e,_,h⟩:=qb7 op x y
 have key:∀{u v:Co} {a b:Int},ClC u a->ClC v b->(a=3\/a=0)->(b=3\/b=0)->ClC (.bin (qr op) u v) 3:=by
  intro u v a b f hv d hb;show qR op 0 [qC (emb u),qC (emb v)]=.ok 3;rw[show qC (emb u)=.ok a from f,show qC (emb v)=.ok b from hv];obtain rfl|rfl:=o<;>simp[qR,xq,qqu d hb]
 grind
theorem kT(o:op=10\/op=11){b:Int}(s:ClC x a)(q:ClC y b)(d:a=1\/a=0)(hb:b=1\/b=0):ClC (qq op x y) 3:=by
 obtain⟨u,v,e,_,h⟩:=qb7 op x y
 have key:∀{u v:Co} {a b:Int},ClC u a->ClC v b->(a=1\/a=0)->(b=1\/b=0)->ClC (.bin (qr op) u v) 3:=by
  intro u v a b f hv d hb;show qR op 0 [qC (emb u),qC (emb v)]=.ok 3;rw[show qC (emb u)=.ok a from f,show qC (emb v)=.ok b from hv];obtain rfl|rfl:=o<;>simp[qR,xq,qqu d hb]
 grind
theorem qqh(s:16<=op/\op<=19){b:Int}(q:ClC x a)(o:ClC y b)(d:a=1\/a=0)(hb:b=1\/b=0):ClC (qq op x y) 1:=by
 obtain⟨u,v,e,_,h⟩:=qb7 op x y
 have key:∀{u v:Co} {a b:Int},ClC u a->ClC v b->(a=1\/a=0)->(b=1\/b=0)->ClC (.bin (qr op) u v) 1:=by
  intro u v a b f hv d hb;show qR op 0 [qC (emb u),qC (emb v)]=.ok 1;rw[show qC (emb u)=.ok a from f,show qC (emb v)=.ok b from hv];have:op=16\/op=17\/op=18\/op=19:=uq;obtain rfl|rfl|rfl|rfl:=this<;>simp[qR,xq,qqu d hb]
 grind
theorem qtm{b:Int}(q:ClC x a)(o:ClC y b)(f:a=b\/a=0\/b=0):ClC (qq 8 x y) 3:=by
 obtain⟨u,v,e,_,h⟩:=qb7 8 x y
 have key:∀{u v:Co} {a b:Int},ClC u a->ClC v b->(a=b\/a=0\/b=0)->ClC (.bin (qr 8) u v) 3:=by
  intro u v a b d hv f;show qR 8 0 [qC (emb u),qC (emb v)]=.ok 3;rw[show qC (emb u)=.ok a from d,show qC (emb v)=.ok b from hv]
  have:(a != b&&a != 0&&b != 0)=uh:=by
   grind
  simp[qR,xp,this]
 grind
theorem qqi{c:Co}{k:Int}(h:ClC c k)(d:k=3\/k=0):ClC (.un (qr 5) c) 3:=by
 show qR 5 0 [qC (emb c)]=.ok 3
 grind[qR,xq,dem,ClC]
theorem pK{p:CP}{k:Int}(h:ClC (.bin p x y) k)(d:(p.op=6\/p.op=7)/\want=3\/(p.op=10\/p.op=11)/\want=1):(∃a,ClC x a/\(a=want\/a=0))/\∃b,ClC y b/\(b=want\/b=0):=by
 have q:qR p.op 0 [qC (emb x),qC (emb y)]=.ok k:=h
 have hd:∃c,xq want 0 c [qC (emb x),qC (emb y)]=.ok k:=by
  grind[qR]
 obtain⟨c,hd⟩:=hd;have:=ve hd;obtain⟨a,u,o⟩:=this (qC (emb x)) ur;obtain⟨b,s,f⟩:=this (qC (emb y)) ur
 grind[ClC]
theorem yi{c k:Int}(h:xq want pl c rs=.ok k):k=c:=by
 grind[xq]
theorem qtp{k:Int}(h:qR op pl rs=.ok k)(d:op≠0):k≠0:=by
 unfold qR at h;simp only[aw.2 d]at h
 repeat' split at h
 all_goals first
  | contradiction
  | (injection h with h;omega)
  | (have:=yi h;omega)
  | (rename_i a b;unfold xp at h;split at h;cases h;cases h;split at h;cases h;injection h with h;omega)
  | skip
theorem vac:∀{c:Co} {k:Int},ClC c k->(k=3\/k=0)->ClC (vj c) 3:=by
 intro c
 induction c with
 | leaf p=>
  intro k h s;unfold vj
  split
  rfl
  split
  rfl;exact qqi h s
 | un p x ih=>
  intro k h s;unfold vj
  split
  rename_i A;simp only[dn,ew,bne_iff_ne]at A;have C:qR p.op 0 [qC (emb x)]=.ok k:=h;have hd:xq 3 0 3 [qC (emb x)]=.ok k:=by grind[qR]
  obtain⟨a,B,u⟩:=ve hd _ (eu ..)
  have d:a≠0:=by
   have:qR (qZ (emb x)).op (qZ (emb x)).U ((qw (emb x)).map qC)=.ok a:=by grind[kn]
   refine qtp this ?_;have:(qZ (emb x)).op=opC x:=by cases x<;>rfl
   rw[this];exact A.2
  obtain rfl|u:=u;exact B;exact absurd u d;exact qqi h s
 | bin p x y ihx ihy=>
  intro k h s;unfold vj
  split
  rename_i o;obtain⟨⟨a,d,f⟩,b,hb,q⟩:=pK h (Am ⟨Am (by simpa using o),rfl⟩);exact gX (An rfl) (ihx d f) (ihy hb q) (Am rfl) (Am rfl)
  split
  rename_i o;obtain⟨⟨a,d,f⟩,b,hb,q⟩:=pK h (Am ⟨An (by simpa using o),rfl⟩);exact gX (Am rfl) (ihx d f) (ihy hb q) (Am rfl) (Am rfl)
  split
  rename_i o;obtain⟨⟨a,d,f⟩,b,hb,q⟩:=pK h (An ⟨Am (by simpa using o),rfl⟩);exact kT (An rfl) hb d q f
  split
  rename_i o;obtain⟨⟨a,d,f⟩,b,hb,q⟩:=pK h (An ⟨An (by simpa using o),rfl⟩);exact kT (Am rfl) hb d q f;exact qqi h s
def PV(v:V):Prop:=v=nV\/(∃b,v=bV b)\/(∃n,v=iV n)\/∃s,v=tV s
def BN(v:V):Prop:=v=nV\/∃b,v=bV b
theorem BN.pv{v:V}(h:BN v):PV v:=by grind[BN,PV]
theorem qih(b:Bool):BN (bV b):=An ⟨b,rfl⟩
theorem jL{c:Prop}[Decidable c]{a b:V}(d:BN a)(hb:BN b):BN (if c then a else b):=by grind
theorem j8{c:Prop}[Decidable c]{a b:V}(d:PV a)(hb:PV b):PV (if c then a else b):=by grind
theorem qz2:BN nV:=Am rfl
theorem vvh(n:Int):PV (iV n):=by grind[PV]
theorem qtk(x:V):BN (yR x):=jL (qih _) qz2
theorem qtj(x y:V):BN (qib x y):=jL (qih _) (jL (qih _) qz2)
theorem vh9(x y:V):BN (orV x y):=jL (qih _) (jL (qih _) qz2)
theorem vq2(x y:V):BN (eqV x y):=jL qz2 (qih _)
theorem qee(x y:V):BN (kC x y):=jL (qih _) qz2
theorem vh8(x y:V):BN (leV x y):=jL (qih _) qz2
theorem va0(x:V)(p e:uk):BN (qb4 x p e):=jL (qih _) qz2
theorem qzz(x:V):∀(ts:List uk) (f:V),BN f->BN (ts.foldl (λf t=>orV f (eqV x (tV t))) f):=by
 intro ts
 induction ts<;>grind[vh9]
theorem vsk(op:Int)(x y:V):PV (jP op x y):=by
 have a:∀u v,PV (qpt u v):=λu v=>j8 (vvh _) qz2.pv
 have s:∀u v,PV (qym u v):=λu v=>j8 (vvh _) qz2.pv
 have m:∀u v,PV (qpv u v):=λu v=>j8 (vvh _) qz2.pv
 have d:∀u v,PV (qwf u v):=λu v=>j8 (vvh _) qz2.pv
 exact j8 (qtk _).pv (j8 (qtj _ _).pv (j8 (vh9 _ _).pv (j8 (vq2 _ _).pv (j8 (qtk _).pv (j8 (qee _ _).pv (j8 (qee _ _).pv (j8 (vh8 _ _).pv (j8 (vh8 _ _).pv (j8 (a _ _) (j8 (a _ _) (j8 (s _ _) (j8 (s _ _) (j8 (m _ _) (j8 (d _ _) (qih _).pv))))))))))))))
theorem vvj{v:V}(h:pY v=ui):PV v:=by
 obtain⟨k,n,s⟩:=v;unfold pY at h
 by_cases h0:k=0
 .subst h0;simp at h;obtain⟨rfl,rfl⟩:=h;exact Am rfl
 by_cases h1:k=1
 .subst h1
  simp at h;obtain⟨h,rfl⟩:=h;obtain rfl|rfl:=h;exact An (Am ⟨uh,rfl⟩);exact An (Am ⟨ui,rfl⟩)
 by_cases h2:k=2
 .subst h2;simp at h;subst h;exact An (An (Am ⟨n,rfl⟩))
 by_cases h3:k=3
 .subst h3;simp at h;obtain⟨rfl,_⟩:=h;exact An (An (An ⟨s,rfl⟩))
 simp[h0,h1,h2,h3]at h
theorem vsj(h:zQ ps=ui)(n:uk):PV (yA ps n):=by
 unfold yA
 split
 rename_i p hp;have f:=List.mem_of_find?_eq_some hp;obtain⟨k,d⟩:=db f;have o:=(aj.1 d).1;unfold zQ at h;simp only[dn]at h;have:=List.all_eq_true.1 h.2 k (lj.2 o);unfold qgo at this;rw[d]at this;simp only[dn]at this;exact vvj this.1.2;exact qz2.pv
theorem vvi(h:zQ ps=ui)(p:Pay)(s:List V):PV (ofN ps p s):=by
 exact j8 (vsj h _) (j8 (vvh _) (j8 (An (An (An ⟨_,rfl⟩))) (j8 (qih _).pv (j8 (qih _).pv (j8 (qtj _ _).pv (j8 (qzz _ _ _ (qih _)).pv (j8 (va0 _ _ _).pv (vsk _ _ _))))))))
theorem vkf(h:zQ ps=ui)(t:Ast):PV (ofA ps t):=by rw[qd3];exact vvi h _ _
theorem qui{v:V}(h:BN v):yR (yR v)=v:=by
 obtain rfl|⟨b,rfl⟩:=h;rfl;cases b<;>rfl
theorem vjj{x y:V}(f:PV x)(d:PV y):yR (qib x y)=orV (yR x) (yR y):=by
 obtain rfl|⟨b,rfl⟩|⟨n,rfl⟩|⟨s,rfl⟩:=f<;>obtain rfl|⟨c,rfl⟩|⟨m,rfl⟩|⟨u,rfl⟩:=d<;>(try cases b)<;>(try cases c)<;>simp[qib,orV,yR,nV,bV,iV,tV]
theorem vrw{x y:V}(f:PV x)(d:PV y):yR (orV x y)=qib (yR x) (yR y):=by
 obtain rfl|⟨b,rfl⟩|⟨n,rfl⟩|⟨s,rfl⟩:=f<;>obtain rfl|⟨c,rfl⟩|⟨m,rfl⟩|⟨u,rfl⟩:=d<;>(try cases b)<;>(try cases c)<;>simp[qib,orV,yR,nV,bV,iV,tV]
theorem qf0(x y:V):jO x y=jO y x:=by grind[jO]
theorem qnc(x y:V):yR (kC x y)=leV y x:=by
 unfold kC leV;rw[qf0 y x]
 split
 .by_cases h:x.M<y.M
  .rw[de h,da (show ¬y.M<=x.M by omega)];rfl
  rw[da h,de (show y.M<=x.M by omega)];rfl
 rfl
theorem vrv(x y:V):yR (leV x y)=kC y x:=by
 grind[qnc,qui,qee]
theorem qzm(x y:V):qib x y=qib y x:=by grind[qib]
theorem vjz(x y:V):orV x y=orV y x:=by grind[orV]
theorem vi1(x y:V):eqV x y=eqV y x:=by
 grind[eqV]
theorem qzj(x y:V):qpt x y=qpt y x:=by unfold qpt;rw[qf0,Int.add_comm]
theorem vca(x y:V):qpv x y=qpv y x:=by unfold qpv;rw[qf0,Int.mul_comm]
theorem vbk(h:yy op=ui)(x y:V):jP op x y=jP op y x:=by
 have:op=6\/op=7\/op=8\/op=16\/op=18:=by grind[yy]
 obtain rfl|rfl|rfl|rfl|rfl:=this;exact qzm x y;exact vjz x y;exact vi1 x y;exact qzj x y;exact vca x y
section
variable {ps:List Pr}
def vC(ps:List Pr)(c:Co):V:=ofA ps (emb c)
theorem vpd(d:jm op)(x y:Co):vC ps (.bin (qr op) x y)=jP op (vC ps x) (vC ps y):=by
 have:op≠0/\op≠1/\op≠2/\op≠3/\op≠4/\op≠20/\op≠21/\op≠22:=by unfold jm at d;omega
 show ofN ps (qc0 (qr op)) [ofA ps (emb x),ofA ps (emb y)]=_;simp[ofN,jn,qc0,qr,this,vC]
theorem zg(d:jm op)(x y:Co):vC ps (qq op x y)=jP op (vC ps x) (vC ps y):=by
 unfold qq
 split
 rename_i h;simp only[dn]at h;rw[vpd d,vbk h.1];exact vpd d x y
theorem vg8(c:Co):vC ps (.un (qr 5) c)=yR (vC ps c):=by
 simp[ofN,qc0,qr,ofA,emb,jn,jP,vC]
theorem va1{t:Ast}(h:qC t=.ok 3):BN (ofA ps t):=by
 rw[kn]at h;rw[qd3];generalize (qw t).map qC=rs at h;generalize qZ t=p at *
 have q:p.op≠0/\p.op≠1/\p.op≠2/\¬(14<=p.op/\p.op<=19):=by
  refine⟨λe=>?_,λe=>?_,λe=>?_,λe=>?_⟩;rw[e]at h;simp[qR]at h;rw[e]at h;simp[qR]at h;rw[e]at h;simp[qR]at h
  have hd:xq 1 p.U 1 rs=.ok 3:=by
   have:p.op=14\/p.op=15\/p.op=16\/p.op=17\/p.op=18\/p.op=19:=uq;obtain e|e|e|e|e|e:=this<;>(rw[e]at h;simpa [qR]using h)
  have:=yi hd;omega
 obtain⟨o,f,d,s⟩:=q;unfold ofN jn jP;rw[ak o,ak f,ak d,ak (show ¬p.op=14 by omega),ak (show ¬p.op=15 by omega),ak (show ¬p.op=16 by omega),ak (show ¬p.op=17 by omega),ak (show ¬p.op=18 by omega),ak (show ¬p.op=19 by omega)];exact jL (qih _) (jL (qih _) (jL (qtj _ _) (jL (qzz _ _ _ (qih _)) (jL (va0 _ _ _) (jL (qtk _) (jL (qtj _ _) (jL (vh9 _ _) (jL (vq2 _ _) (jL (qtk _) (jL (qee _ _) (jL (qee _ _) (jL (vh8 _ _) (jL (vh8 _ _) (qih _))))))))))))))
theorem vpe(q:zQ ps=ui):∀{c:Co} {k:Int},yJ c->ClC c k->(k=3\/k=0)->vC ps (vj c)=yR (vC ps c):=by
 intro c
 induction c with
 | leaf p =>grind[vj,vC,emb,ofA,ofN,qc0,qr,yR,bV,vg8,yJ,ClC]
 | un p x ih=>
  intro k f h B;unfold vj
  split
  .rename_i h5
   simp only[dn,ew,bne_iff_ne]at h5;have A:qR p.op 0 [qC (emb x)]=.ok k:=h;rw[h5.1]at A;have hd:xq 3 0 3 [qC (emb x)]=.ok k:=by simpa [qR]using A
   obtain⟨a,C,D⟩:=ve hd _ (eu ..)
   have o:a≠0:=by
    have:qR (qZ (emb x)).op (qZ (emb x)).U ((qw (emb x)).map qC)=.ok a:=by rwa[<-kn]
    refine qtp this ?_;have:(qZ (emb x)).op=opC x:=by cases x<;>rfl
    rw[this];exact h5.2
   obtain rfl:a=3:=uq
   have:vC ps (.un p x)=yR (vC ps x):=by
    show ofN ps (qc0 p) [ofA ps (emb x)]=_;simp[ofN,jn,qc0,h5.1,jP,vC]
   rw[this];exact(qui (va1 C)).symm
  exact vg8 _
 | bin p x y ihx ihy=>
  intro k f h B
  have hv:vC ps (.bin p x y)=jP p.op (vC ps x) (vC ps y):=by
   have d:=f.1;have:p.op≠0/\p.op≠1/\p.op≠2/\p.op≠3/\p.op≠4/\p.op≠20/\p.op≠21/\p.op≠22:=by unfold jm at d;omega
   show ofN ps (qc0 p) [ofA ps (emb x),ofA ps (emb y)]=_;simp[ofN,jn,qc0,this,vC]
  unfold vj
  split
  rename_i d;have d:p.op=6:=by simpa using d
  obtain⟨⟨a,o,s⟩,b,hb,u⟩:=pK h (Am ⟨Am d,rfl⟩);rw[zg (by unfold jm;omega),ihx f.2.1 o s,ihy f.2.2 hb u,hv,d];exact(vjj (vkf q _) (vkf q _)).symm
  split
  rename_i d;have d:p.op=7:=by simpa using d
  obtain⟨⟨a,o,s⟩,b,hb,u⟩:=pK h (Am ⟨An d,rfl⟩);rw[zg (by unfold jm;omega),ihx f.2.1 o s,ihy f.2.2 hb u,hv,d];exact(vrw (vkf q _) (vkf q _)).symm
  split
  rename_i d;have d:p.op=10:=by simpa using d
  rw[zg (by unfold jm;omega),hv,d];exact(qnc _ _).symm
  split
  rename_i d;have d:p.op=11:=by simpa using d
  rw[zg (by unfold jm;omega),hv,d];exact(vrv _ _).symm;exact vg8 _
theorem vcz(e:uk->V)(q:∀t,BN (e t)):∀(l:List uk) (f:V),BN f->l.foldl (λf t=>orV f (e t)) f=if f=bV ui\/∃t∈l,e t=bV ui then bV ui else if f=bV uh/\∀t∈l,e t=bV uh then bV uh else nV:=by
 intro l
 induction l with
 | nil =>grind[bV,BN]
 | cons t r ih=>
  intro f o;rw[List.foldl_cons,ih _ (vh9 _ _)];have d:=q t;obtain rfl|⟨b,rfl⟩:=o<;>obtain h|⟨c,h⟩:=d<;>(try cases b)<;>(try cases c)<;>simp[h,orV,nV,bV]
theorem qn0(d:List uk)(t:uk):t∈Lib.compact d↔t∈d:=by
 unfold Lib.compact Lib.compactUpTo;simp only[eh,ro,lj];constructor
 grind
 intro h;obtain⟨j,o⟩:=db h;have f:=(aj.1 o).1
 have key:∀(n j:Nat),j<=n->j<A d->∃i,(i<A d/\Lib.keeps d.toArray i=ui)/\d.toArray[i]! = d.toArray[j]! := by
  intro n
  induction n with
  | zero=>
   intro j o f;obtain rfl:j=0:=uq;exact⟨0,⟨f,Lib.keeps_lt_one _ 0 uq⟩,rfl⟩
  | succ n ih=>
   intro j o f
   by_cases hk:Lib.keeps d.toArray j=ui
   grind
   have s:j≠0/\d.toArray[j]! = d.toArray[j - 1]! := by
    unfold Lib.keeps at hk;simp only[fw]at hk;exact⟨λe=>hk (Am e),Classical.byContradiction λe=>hk (An e)⟩
   obtain⟨i,q,e⟩:=ih (j - 1) uq uq;exact⟨i,q,e.trans s.2.symm⟩
 obtain⟨i,q,e⟩:=key j j ux f;refine⟨i,q,e.trans ?_⟩;have:=(aj.1 o).2;simp[f,this]
theorem qn1(ts:List uk)(t:uk):t∈vw ts↔t∈ts:=by
 unfold vw;rw[qn0,List.mem_mergeSort]
theorem vg7(s:uk):vC ps (vl s)=tV s:=by simp[vC,vl,emb,ofA,ofN,qc0]
theorem vn5(x:Co):∀(r:List uk) (f:Co),vC ps (zC x f r)=r.foldl (λf t=>orV f (eqV (vC ps x) (tV t))) (vC ps f):=by
 intro r
 induction r with
 | nil=>intro f;rfl
 | cons t r ih=>
  intro f;rw[zC,ih,List.foldl_cons,zg (by unfold jm;omega),zg (by unfold jm;omega),vg7];rfl
theorem vn4(x:Co){ts:List uk}(q:ts≠[]):vC ps (vO x ts)=kx (vC ps x) ts:=by
 have hb:=λt=>vq2 (vC ps x) (tV t)
 have o:=qn1 ts
 have e:kx (vC ps x) ts=(vw ts).foldl (λf t=>orV f (eqV (vC ps x) (tV t))) (bV uh):=by
  unfold kx;rw[vcz _ hb _ _ (qih _),vcz _ hb _ _ (qih _)];simp only[o]
 rw[e];unfold vO
 cases hs:vw ts with
 | nil=>
  obtain⟨a,d⟩:=List.exists_mem_of_ne_nil _ q;rw[<-o,hs]at d;cases d
 | cons t r=>
  rw[vn5,List.foldl_cons,zg (by unfold jm;omega),vg7]
  congr 1
  show eqV (vC ps x) (tV t)=orV (bV uh) (eqV (vC ps x) (tV t));obtain h|⟨b,h⟩:=hb t;rw[h];rfl;rw[h];cases b<;>rfl
end
theorem vad(n:Int):ClC (gO n) 1:=rfl
theorem qtn(s:uk):ClC (vl s) 2:=rfl
theorem vae(h:ClC x 0):∀(r:List uk) (f:Co),ClC f 3->ClC (zC x f r) 3:=by
 intro r
 induction r with
 | nil=>intro f d;exact d
 | cons t r ih=>intro f d;exact ih _ (gX (An rfl) d (qtm h (qtn t) (An (Am rfl))) (Am rfl) (Am rfl))
theorem vab(h:ClC x 0){ts:List uk}(f:ts≠[]):ClC (vO x ts) 3:=by
 unfold vO
 cases hs:vw ts with
 | nil=>
  obtain⟨a,d⟩:=List.exists_mem_of_ne_nil _ f;rw[<-qn1,hs]at d;cases d
 | cons t r=>grind[vae,qtm,qtn]
theorem qha:∀t,ShA t->∀k,qC t=.ok k->ClC (qj t) k/\∀ps,zQ ps=ui->vC ps (qj t)=ofA ps t:=by
 intro t
 induction t with
 | leaf p=>
  intro s k o;have o:qR p.op p.U []=.ok k:=o;have d:p.op=0\/p.op=1\/p.op=2\/p.op=3\/p.op=4:=by grind[ShA]
  refine⟨?_,λps _=>?_⟩
  .show qR p.op 0 []=.ok k
   rw[<-o];obtain h|h|h|h|h:=d<;>rw[h]<;>rfl
  show ofN ps (qc0 (yt p)) []=ofN ps p [];obtain h|h|h|h|h:=d<;>simp[ofN,qc0,yt,h]
 | un p x ih=>
  intro s k o;have o:qR p.op p.U [qC x]=.ok k:=o;obtain d|d|d|d|d|d:=s.1
  .rw[d]at o
   have hd:xq 3 p.U 3 [qC x]=.ok k:=by simpa [qR]using o
   obtain⟨a,u,A⟩:=ve hd _ (eu ..);obtain⟨I,F⟩:=ih s.2.2.2 a u;obtain rfl:=yi hd;have e:qj (.un p x)=vj (qj x):=by simp[qj,d]
   rw[e];refine⟨vac I A,λps f=>?_⟩;rw[vpe f (gW x s.2.2.2) I A,F ps f];show _=ofN ps p [ofA ps x];simp[ofN,jn,jP,d]
  rw[d]at o;have hd:xq 1 p.U 1 [qC x]=.ok k:=by simpa [qR]using o
  obtain⟨a,u,A⟩:=ve hd _ (eu ..);obtain⟨I,F⟩:=ih s.2.2.2 a u;obtain rfl:=yi hd;have e:qj (.un p x)=qq 16 (gO 0) (qj x):=by simp[qj,d]
  rw[e];refine⟨qqh uq (vad 0) I (Am rfl) A,λps f=>?_⟩;rw[zg (by unfold jm;omega),F ps f];simp[ofN,jn,jP,d,vC,gO,emb,qc0,ofA];rw[d]at o;have hd:xq 1 p.U 1 [qC x]=.ok k:=by simpa [qR]using o
  obtain⟨a,u,A⟩:=ve hd _ (eu ..);obtain⟨I,F⟩:=ih s.2.2.2 a u;obtain rfl:=yi hd;have e:qj (.un p x)=qq 17 (gO 0) (qj x):=by simp[qj,d]
  rw[e];refine⟨qqh uq (vad 0) I (Am rfl) A,λps f=>?_⟩;rw[zg (by unfold jm;omega),F ps f];simp[ofN,jn,jP,d,vC,gO,emb,qc0,ofA]
  .have Q:=s.2.2.1 (Am d)
   have Y:=s.2.1 d
   have u:qC x=.ok 0:=by
    rw[kn];have:(qZ x).op=0:=by rw[<-Q];cases x<;>rfl
    rw[this];rfl
   obtain⟨I,F⟩:=ih s.2.2.2 0 u;have e:qj (.un p x)=vO (qj x) p.i:=by simp[qj,d]
   rw[e];rw[d]at o;obtain rfl:k=3:=by grind[qR]
   refine⟨vab I Y,λps f=>?_⟩;rw[vn4 _ Y,F ps f];show _=ofN ps p [ofA ps x];simp[ofN,jn,d]
  .have Q:=s.2.2.1 (An (Am d))
   have u:qC x=.ok 0:=by
    rw[kn];have:(qZ x).op=0:=by rw[<-Q];cases x<;>rfl
    rw[this];rfl
   obtain⟨I,F⟩:=ih s.2.2.2 0 u;have e:qj (.un p x)=.un (yt p) (qj x):=by simp[qj,d]
   rw[e];refine⟨?_,λps f=>?_⟩
   .rw[d]at o
    obtain rfl:k=3:=by grind[qR]
    show qR p.op 0 [qC (emb (qj x))]=.ok 3;rw[d];rfl
   show ofN ps (qc0 (yt p)) [ofA ps (emb (qj x))]=ofN ps p [ofA ps x];have:=F ps f;unfold vC at this;rw[this];simp[ofN,jn,qc0,yt,d]
  have Q:=s.2.2.1 (An (An d))
  have u:qC x=.ok 0:=by
   rw[kn];have:(qZ x).op=0:=by rw[<-Q];cases x<;>rfl
   rw[this];rfl
  obtain⟨I,F⟩:=ih s.2.2.2 0 u;have e:qj (.un p x)=.un (yt p) (qj x):=by simp[qj,d]
  rw[e];refine⟨?_,λps f=>?_⟩
  .rw[d]at o
   obtain rfl:k=3:=by simpa [qR]using o.symm
   show qR p.op 0 [qC (emb (qj x))]=.ok 3;rw[d];rfl
  show ofN ps (qc0 (yt p)) [ofA ps (emb (qj x))]=ofN ps p [ofA ps x];have:=F ps f;unfold vC at this;rw[this];simp[ofN,jn,qc0,yt,d,jP]
 | bin p x y ihx ihy=>
  intro s k o;have o:qR p.op p.U [qC x,qC y]=.ok k:=o;have d:(p.op=6\/p.op=7)\/(p.op=8\/p.op=9)\/(p.op=10\/p.op=11\/p.op=12\/p.op=13)\/(p.op=16\/p.op=17\/p.op=18\/p.op=19):=md s.1
  have R:∀ps,p.op≠9->p.op≠12->p.op≠13->zQ ps=ui->vC ps (qj x)=ofA ps x->vC ps (qj y)=ofA ps y->vC ps (qq p.op (qj x) (qj y))=ofA ps (.bin p x y):=by
   intro ps U M JP f C B;have hb:jm p.op:=by unfold jm;omega
   rw[zg hb,C,B];show _=ofN ps p [ofA ps x,ofA ps y];have:p.op≠0/\p.op≠1/\p.op≠2/\p.op≠3/\p.op≠4/\p.op≠20/\p.op≠21/\p.op≠22:=uq;simp[ofN,jn,this]
  have S:p.op≠9->p.op≠12->p.op≠13->qj (.bin p x y)=qq p.op (qj x) (qj y):=by
   intro U M JP;simp[qj,U,M,JP]
  obtain d|d|d|d:=d;have hd:xq 3 p.U 3 [qC x,qC y]=.ok k:=by obtain d|d:=d<;>(rw[d]at o;simpa [qR]using o)
  obtain⟨a,u,A⟩:=ve hd (qC x) ur;obtain⟨b,G,K⟩:=ve hd (qC y) ur;obtain rfl:=yi hd;obtain⟨D,C⟩:=ihx s.2.1 a u;obtain⟨E,B⟩:=ihy s.2.2 b G;rw[S uq uq uq];exact⟨gX d D E A K,λps f=>R ps uq uq uq f (C ps f) (B ps f)⟩
  .have J:xp p.U (qC x) (qC y)=.ok k:=by obtain d|d:=d<;>(rw[d]at o;simpa [qR]using o)
   obtain⟨⟨a,u⟩,b,G⟩:=qay J;rw[u,G]at J
   have T:(a=b\/a=0\/b=0)/\k=3:=by
    have J:(if(a != b&&a != 0&&b != 0)=ui then CRes.err p.U else .ok 3)=.ok k:=J
    split at J
    cases J;rename_i O;injection J with J;refine⟨?_,J.symm⟩;simp only[dn,bne_iff_ne]at O
    by_cases q:a=b
    exact Am q
    by_cases q2:a=0
    exact An (Am q2);exact An (An (Classical.byContradiction λq3=>O ⟨⟨q,q2⟩,q3⟩))
   obtain⟨T,rfl⟩:=T;obtain⟨D,C⟩:=ihx s.2.1 a u;obtain⟨E,B⟩:=ihy s.2.2 b G;obtain d|d:=d;rw[S uq uq uq];refine⟨?_,λps f=>R ps uq uq uq f (C ps f) (B ps f)⟩;rw[d];exact qtm D E T;have e:qj (.bin p x y)=vj (qq 8 (qj x) (qj y)):=by simp[qj,d]
   rw[e];have c8:=qtm D E T;refine⟨vac c8 (Am rfl),λps f=>?_⟩;rw[vpe f (vH (by unfold jm;omega) (gW x s.2.1) (gW y s.2.2)) c8 (Am rfl),zg (by unfold jm;omega),C ps f,B ps f];show _=ofN ps p [ofA ps x,ofA ps y];simp[ofN,jn,jP,d]
  .have hd:xq 1 p.U 3 [qC x,qC y]=.ok k:=by obtain d|d|d|d:=d<;>(rw[d]at o;simpa [qR]using o)
   obtain⟨a,u,A⟩:=ve hd (qC x) ur;obtain⟨b,G,K⟩:=ve hd (qC y) ur;obtain rfl:=yi hd;obtain⟨D,C⟩:=ihx s.2.1 a u;obtain⟨E,B⟩:=ihy s.2.2 b G
   have Z:p.op=10\/p.op=11->ClC (qj (.bin p x y)) 3/\∀ps,zQ ps=ui->vC ps (qj (.bin p x y))=ofA ps (.bin p x y):=λd=>by
    rw[S uq uq uq];exact⟨kT d D E A K,λps f=>R ps uq uq uq f (C ps f) (B ps f)⟩
   obtain d|d|d|d:=d;exact Z (Am d);exact Z (An d)
   .have e:qj (.bin p x y)=qq 10 (qj y) (qj x):=by simp[qj,d]
    rw[e];refine⟨kT (Am rfl) E D K A,λps f=>?_⟩;rw[zg (by unfold jm;omega),C ps f,B ps f];show _=ofN ps p [ofA ps x,ofA ps y];simp[ofN,jn,jP,d]
   have e:qj (.bin p x y)=qq 11 (qj y) (qj x):=by simp[qj,d]
   rw[e];refine⟨kT (An rfl) E D K A,λps f=>?_⟩;rw[zg (by unfold jm;omega),C ps f,B ps f];show _=ofN ps p [ofA ps x,ofA ps y];simp[ofN,jn,jP,d]
  have hd:xq 1 p.U 1 [qC x,qC y]=.ok k:=by obtain d|d|d|d:=d<;>(rw[d]at o;simpa [qR]using o)
  obtain⟨a,u,A⟩:=ve hd (qC x) ur;obtain⟨b,G,K⟩:=ve hd (qC y) ur;obtain rfl:=yi hd;obtain⟨D,C⟩:=ihx s.2.1 a u;obtain⟨E,B⟩:=ihy s.2.2 b G;rw[S uq uq uq];exact⟨qqh uq D E A K,λps f=>R ps uq uq uq f (C ps f) (B ps f)⟩
 | tri p x y z ihx ihy ihz=>
  intro s k o;have o:qR p.op p.U [qC x,qC y,qC z]=.ok k:=o;have d:=s.1;have hd:xq 1 p.U 3 [qC x,qC y,qC z]=.ok k:=by rw[d]at o;simpa [qR]using o
  obtain⟨a,u,A⟩:=ve hd (qC x) ur;obtain⟨b,G,K⟩:=ve hd (qC y) ur;obtain⟨c,e3,h3⟩:=ve hd (qC z) ur;obtain rfl:=yi hd;obtain⟨D,C⟩:=ihx s.2.1 a u;obtain⟨E,B⟩:=ihy s.2.2.1 b G;obtain⟨cz,vz⟩:=ihz s.2.2.2 c e3;refine⟨gX (Am rfl) (kT (An rfl) E D K A) (kT (An rfl) D cz A h3) (Am rfl) (Am rfl),λps f=>?_⟩;show vC ps (qq 6 (qq 11 (qj y) (qj x)) (qq 11 (qj x) (qj z)))=_;rw[zg (by unfold jm;omega),zg (by unfold jm;omega),zg (by unfold jm;omega),C ps f,B ps f,vz ps f];show _=ofN ps p [ofA ps x,ofA ps y,ofA ps z];simp[ofN,jn,jP,d]
def NmP(p:CP):Prop:=p.op=0/\p.M=0/\p.esc=[]/\kD p.str=ui
def LfP(p:CP):Prop:=NmP p\/(p.op=1/\0<=p.M/\p.M<=9223372036854775807/\p.str=[]/\p.esc=[])\/(p.op=2/\p.M=0/\p.esc=[])\/((p.op=3\/p.op=4)/\p.M=0/\p.str=[]/\p.esc=[])
def LkP(p:CP):Prop:=p.op=22/\p.M=0/\(p.esc=[]\/A p.esc=1/\(xo p.esc p.str).isSome=ui)
def OkC:Co->Prop
 | .leaf p=>LfP p
 | .un p x=>OkC x/\(p=qr 5\/(∃q,x=.leaf q/\NmP q)/\(p=qr 23\/LkP p))
 | .bin p x y=>OkC x/\OkC y/\∃op,jm op/\p=qr op
theorem za(h:jm op)(f:OkC x)(d:OkC y):OkC (qq op x y):=by
 grind[qq,OkC]
theorem vva{n:Int}(h:n=3\/n=4):OkC (.leaf (qr n)):=An (An (An ⟨h,rfl,rfl,rfl⟩))
theorem vnw:∀{c:Co},OkC c->OkC (vj c):=by
 intro c
 induction c<;>grind[vj,vva,za,jm,OkC]
theorem vcw(t:uk):OkC (vl t):=An (An (Am ⟨rfl,rfl,rfl⟩))
theorem vju(h:OkC x):∀(r:List uk) (f:Co),OkC f->OkC (zC x f r):=by
 intro r
 induction r with
 | nil=>intro f d;exact d
 | cons t r ih=>intro f d;exact ih _ (za (by unfold jm;omega) d (za (by unfold jm;omega) h (vcw t)))
theorem vjt(d:OkC x)(ts:List uk):OkC (vO x ts):=by
 grind[vO,vju,za,jm,vcw]
theorem qn7{x:Ast}(d:opA x=0)(hs:ShA x)(f:BzA x):∃q,qj x=.leaf q/\NmP q:=by
 cases x with
 | leaf p=>have d:p.op=0:=d;exact⟨yt p,rfl,d,f.j d⟩
 | un p y=>have d:p.op=0:=d;have:=hs.1;omega
 | bin p y z=>have d:p.op=0:=d;have:=hs.1;omega
 | tri p y z u=>have d:p.op=0:=d;have:=hs.1;omega
theorem vcv:OkC (gO 0):=An (Am ⟨rfl,uu,uu,rfl,rfl⟩)
theorem vs1:∀t,ShA t->BzA t->qi9 t->OkC (qj t):=by
 intro t
 induction t with
 | leaf p=>
  intro o d q;have f:p.op=0\/p.op=1\/p.op=2\/p.op=3\/p.op=4:=by grind[ShA]
  obtain h|h|h|h|h:=f;exact Am ⟨h,d.j h⟩;have:=d.M h;exact An (Am ⟨h,this.1,q.2,this.2.1,this.2.2⟩);have:=d.K h;exact An (An (Am ⟨h,this.1,this.2⟩));exact An (An (An ⟨Am h,d.bare (Am h)⟩));exact An (An (An ⟨An h,d.bare (An (Am h))⟩))
 | un p x ih=>
  intro o d q;have s:=ih o.2.2.2 d.2 q.2;obtain f|f|f|f|f|f:=o.1
  grind[qj,vnw]
  grind[qj,gO,za,jm,vcv,ShA,BzA,OkC]
  grind[qj,qq,jm,vcv,ShA,qi9,OkC]
  grind[qj,vjt]
  have e:qj (.un p x)=.un (yt p) (qj x):=by simp[qj,f]
  rw[e];have u:=d.1.like f;exact⟨s,An ⟨qn7 (o.2.2.1 (An (Am f))) o.2.2.2 d.2,An ⟨f,u.1,u.2⟩⟩⟩;have e:qj (.un p x)=.un (yt p) (qj x):=by simp[qj,f]
  rw[e];have hb:=d.1.bare (An (An (An f)));refine⟨s,An ⟨qn7 (o.2.2.1 (An (An f))) o.2.2.2 d.2,Am ?_⟩⟩;unfold yt qr;rw[f,hb.1,hb.2.1,hb.2.2]
 | bin p x y ihx ihy =>grind[qj,za,jm,vnw,ShA,BzA,qi9]
 | tri p x y z ihx ihy ihz=>
  intro o d q;have s:=ihx o.2.1 d.2.1 q.2.1;exact za (by unfold jm;omega) (za (by unfold jm;omega) (ihy o.2.2.1 d.2.2.1 q.2.2.1) s) (za (by unfold jm;omega) s (ihz o.2.2.2 d.2.2.2 q.2.2.2))
def sgK(op:Int):Int:=if op==6 then 5 else if op==7 then 6 else if op==8 then 16 else if op==10 then 18 else if op==11 then 19 else if op==16 then 22 else if op==17 then 23 else if op==18 then 24 else 25
def vi5(e:List UInt8):List Tk:=if e.isEmpty then[] else[qk 13,⟨4,0,e⟩]
def qbt(p:CP)(l r:List Tk):List Tk:=
 if p.op==0 then[⟨2,0,p.str⟩] else if p.op==1 then[⟨3,p.M,[]⟩] else if p.op==2 then[⟨4,0,p.str⟩] else if p.op==3 then[qk 8] else if p.op==4 then[qk 9]
 else if p.op==5 then qk 26::qk 7::(l++[qk 27]) else if p.op==23 then qk 26::(l++[qk 14,qk 15,qk 27])
 else if p.op==22 then qk 26::(l++qk 12::⟨4,0,p.str⟩::(vi5 p.esc++[qk 27]))
 else qk 26::(l++qk (sgK p.op)::(r++[qk 27]))
def toks:Co->List Tk
 | .leaf p=>qbt p [] []
 | .un p x=>qbt p (toks x) []
 | .bin p x y=>qbt p (toks x) (toks y)
theorem vri{s:uk}(h:kD s=ui):Lx s [⟨2,0,s⟩]:=by
 unfold kD at h;simp only[dn,fw,ew]at h;obtain⟨⟨B,q⟩,u⟩:=h
 cases s with
 | nil=>simp[qE]at B
 | cons c t=>
  have hb:km c=ui:=by
   grind[qE]
  have D:spU c=uh:=by
   grind[km,qd0,spU,spB]
  have d:qS (c::t) 0=0:=by grind[qS,qD]
  have f:0<A (c::t):=ur;have o:(c::t).take (qE (c::t))=c::t:=by grind
  have C:qQ (c::t) 0=⟨2,0,c::t⟩:=by
   unfold qQ;rw[d,bs f,ee];show(if km c then jk (c::t) else _)=_;rw[bs hb];unfold jk;rw[o,bs u]
  have E:vq (c::t) 0=A (c::t):=by
   unfold vq;rw[d,bs f,ee,ed];show(if km c then qE (c::t) else _)=_;rw[bs hb,q]
  exact .cons C (show(2:Int)≠0 by decide) (by grind[pf])
theorem vqb(u:Nat):Lib.decDigits u=qep u:=by
 induction u using Nat.strongRecOn with
 | ind u ih=>
  by_cases h:u<10
  rw[Lib.decDigits,dif_pos h,pM h];unfold dig;rw[Nat.mod_eq_of_lt h];rw[Lib.decDigits,dif_neg h,qb0 h,ih (u / 10) uq];rfl
theorem vc4{n:Int}(f:0<=n)(d:n<=9223372036854775807):Lx (Lib.itoa n) [⟨3,n,[]⟩]:=by
 have:=vc2 (n:=n.toNat) uq (r:=[]) (λc h=>by cases h) pf;unfold Lib.itoa
 grind[vqb]
theorem vwr(s r:uk)(h:Lx r L)(d:∀c,r.head?=G c->(c==39)=uh):Lx (qL s++r) (⟨4,0,s⟩::L):=by
 grind[vc5,qL]
theorem vrk(d:jm op)(h:Lx r L):Lx (jJ op++32::r) (qk (sgK op)::L):=by
 have hs:=xe h;have:op=6\/op=7\/op=8\/op=10\/op=11\/op=16\/op=17\/op=18\/op=19:=by grind[jm]
 obtain rfl|rfl|rfl|rfl|rfl|rfl|rfl|rfl|rfl:=this;exact vux h;exact vwq h
 .exact .cons (k:=qk 16) rfl (show(16:Int)≠0 by decide) hs
 .exact .cons (k:=qk 18) rfl (show(18:Int)≠0 by decide) hs
 .exact .cons (k:=qk 19) rfl (show(19:Int)≠0 by decide) hs
 .exact .cons (k:=qk 22) rfl (show(22:Int)≠0 by decide) hs
 .exact .cons (k:=qk 23) rfl (show(23:Int)≠0 by decide) hs
 .exact .cons (k:=qk 24) rfl (show(24:Int)≠0 by decide) hs
 exact .cons (k:=qk 25) rfl (show(25:Int)≠0 by decide) hs
theorem vrh(e:uk):Lx (qks e++[41]) (vi5 e++[qk 27])/\∀c,(qks e++[41]).head?=G c->(c==39)=uh:=by
 unfold qks vi5
 split
 grind[qb5,pf]
 refine⟨?_,λc h=>by grind⟩;have d:=vwr e [41] (qb5 pf) (λc h=>by grind);exact xe (.cons (k:=qk 13) rfl (show(13:Int)≠0 by decide) (xe d))
theorem vrj:Lx (78::85::76::76::41::[]) [qk 15,qk 27]:=.cons (k:=qk 15) rfl (show(15:Int)≠0 by decide) (qb5 pf)
theorem vc3:Lx (73::83::32::78::85::76::76::41::[]) [qk 14,qk 15,qk 27]:=.cons (k:=qk 14) rfl (show(14:Int)≠0 by decide) (xe vrj)
theorem vj7(h:Lx r L):Lx (76::73::75::69::32::r) (qk 12::L):=.cons (k:=qk 12) rfl (show(12:Int)≠0 by decide) (xe h)
theorem vvq(op:Int):sgK op≠1:=by
 grind[sgK]
theorem vc1:∀c,OkC c->Lx (qu c) (toks c)/\∀k∈toks c,k.Q≠1:=by
 intro c
 induction c with
 | leaf p=>
  intro h;show Lx (qK p [] []) (qbt p [] [])/\∀k∈qbt p [] [],k.Q≠1;obtain⟨h,_,_,I⟩|⟨h,I,J,_⟩|⟨h,_⟩|⟨h|h,_⟩:=h
  grind[qK,qbt,vri]
  grind[qK,qbt,vc4]
  simp[qK,qbt,h];have:=vwr p.str [] pf (λc h=>by cases h);simpa using this
  .simp[qK,qbt,h,qk]
   exact .cons (k:=qk 8) rfl (show(8:Int)≠0 by decide) pf
  simp[qK,qbt,h,qk];exact .cons (k:=qk 9) rfl (show(9:Int)≠0 by decide) pf
 | un p x ih=>
  intro h;obtain⟨C,q⟩:=ih h.1;show Lx (qK p (qu x) []) (qbt p (toks x) [])/\∀k∈qbt p (toks x) [],k.Q≠1;obtain rfl|⟨_,rfl|hp⟩:=h.2
  .have o:qK (qr 5) (qu x) []=40::78::79::84::32::(qu x++41::[]):=by simp[qK,qr]
   have f:qbt (qr 5) (toks x) []=qk 26::qk 7::(toks x++[qk 27]):=by simp[qbt,qr]
   rw[o,f];refine⟨qj7 (.cons (k:=qk 7) rfl (show(7:Int)≠0 by decide) (xe (qmw vp8 (qb5 pf) C q))),λk d=>?_⟩;simp only[ep,cr,ln,or_false]at d;obtain rfl|rfl|d|rfl:=d;decide;decide;exact q k d;decide
  have o:qK (qr 23) (qu x) []=40::(qu x++32::73::83::32::78::85::76::76::41::[]):=by simp[qK,qr]
  have f:qbt (qr 23) (toks x) []=qk 26::(toks x++[qk 14,qk 15,qk 27]):=by simp[qbt,qr]
  rw[o,f];refine⟨qj7 (qmw vfg (xe vc3) C q),λk d=>?_⟩;simp only[ep,cr,ln,or_false]at d;obtain rfl|d|rfl|rfl|rfl:=d;decide;exact q k d;decide;decide;decide;have s:=hp.1;have o:qK p (qu x) []=40::(qu x++32::76::73::75::69::32::(qL p.str++(qks p.esc++[41]))):=by simp[qK,s]
  have f:qbt p (toks x) []=qk 26::(toks x++qk 12::⟨4,0,p.str⟩::(vi5 p.esc++[qk 27])):=by simp[qbt,s]
  rw[o,f];obtain⟨E,D⟩:=vrh p.esc;refine⟨qj7 (qmw vfg (xe (vj7 (vwr p.str _ E D))) C q),λk d=>?_⟩;simp only[ep,cr,ln,or_false]at d;obtain rfl|d|rfl|rfl|d|rfl:=d;decide;exact q k d;decide
  grind
  unfold vi5 at d
  split at d
  cases d;simp only[ep,ln,or_false]at d;obtain rfl|rfl:=d;decide
  grind
  decide
 | bin p x y ihx ihy=>
  intro h;obtain⟨G,B⟩:=ihx h.1;obtain⟨F,A⟩:=ihy h.2.1;obtain⟨op,s,rfl⟩:=h.2.2;have u:op≠0/\op≠1/\op≠2/\op≠3/\op≠4/\op≠5/\op≠22/\op≠23:=by unfold jm at s;omega
  have o:qu (.bin (qr op) x y)=40::(qu x++32::(jJ op++32::(qu y++41::[]))):=by simp[qu,qK,qr,u]
  have f:toks (.bin (qr op) x y)=qk 26::(toks x++qk (sgK op)::(toks y++[qk 27])):=by simp[toks,qbt,qr,u]
  rw[o,f];refine⟨qj7 (qmw vfg (xe (vrk s (qmw vp8 (qb5 pf) F A))) G B),λk d=>?_⟩;simp only[ep,cr,ln,or_false]at d;obtain rfl|d|rfl|d|rfl:=d;decide;exact B k d;exact vvq op;exact A k d;decide
def qfi(m:Nat):Ap:=I J (-1099511627776 - (m:Int))
def qef(m:Nat):Ap:=I .u8 ((m:Int) % 256)
def MkS(N:Nat->Prop)(ua:TypeId)(W:Ao)(v x:Ap):Prop:=∃a n c,v=C a n c/\n<=1000000000/\∀j,j<n->∃b cur,a=G (D b 0 O)/\N b/\W.1[b]?=G (Al cur ua (0,0))/\W.cell? (D b j O)=G x
section
variable {N N':Nat->Prop} {W W':Ao} {v x:Ap} {ua:TypeId}
theorem qa0{o:Obj}(h:W.1[b]?=G o):b<Z W.1:=by grind
theorem MkS.keep(h:MkS N ua W v x)(d:∀b,N b->b<Z W.1->W'.1[b]?=W.1[b]?)(f:∀b,N b->b<Z W.1->N' b):MkS N' ua W' v x:=by
 grind[World.cell?_of_block,MkS]
end
structure HdAt(N:Nat->Prop)(W:Ao)(hb m:Nat):Prop where
 nb:N hb
 ty:∃cur,W.1[hb]?=G (Al cur 74 (0,0))
 lists:∃nv bv,W.cell? ⟨hb,0,O⟩=G nv/\W.cell? ⟨hb,1,O⟩=G bv/\MkS N 3 W nv (qfi m)/\MkS N 5 W bv (qef m)
 mark:W.cell? ⟨hb,2,O⟩=G (I J (m:Int))
theorem HdAt.lt(h:HdAt N W hb m):hb<Z W.1:=by
 grind[HdAt]
theorem HdAt.keep{N':Nat->Prop}(h:HdAt N W hb m)(d:∀b,N b->b<Z W.1->W'.1[b]?=W.1[b]?)(f:∀b,N b->b<Z W.1->N' b):HdAt N' W' hb m:=by
 constructor<;>grind[World.cell?_of_block,MkS.keep,HdAt]
theorem HdAt.h(h:HdAt N W hb m)(f:Xb W W'):HdAt N W' hb m:=h.keep (λb _ d=>f.block b d) (λ_ h _=>h)
theorem qx4(h:HdAt N W hb m)(hm:m<=20000000000000):lz 17 #[Ag (G (D hb 0 O))] W (Ah ui):=by
 obtain⟨nv,bv,F,A,⟨na,nn,nc,rfl,F8,B⟩,ba,bn,bc,rfl,U9,Q⟩:=h.lists;have u:=h.mark;have o:=h.lt;have U:=qd B;have Y:=qd Q;go_enter func17,ntmps17
 go_wp2
 go_loopw [3] (λi wr=>∃k:Nat,k<=nn/\i=I J k/\Hid (Xb W wr)) (λi _=>nn - (intOf i).toNat)
 exact⟨0,bt _,rfl,qd uy⟩;obtain⟨k,E,rfl,f⟩:=hrel;obtain⟨d,q⟩:=qi f;have T:=(q9 f).size;have g0:=(d _ 0 o).trans F;have M:=(d _ 1 o).trans A;have K:=(d _ 2 o).trans u;have C:hb<Z wr.1:=uq
 by_cases hl:k<nn
 .obtain⟨b,cur,rfl,_,G9,hc⟩:=q9 U k hl
  have s:=qa0 G9;have Z9:=it k;have A5:=je k nn;have R:Xc wr b k (I J (-1099511627776 - (m:Int))):=(d _ k s).trans hc;have I1:b<Z wr.1:=uq;clear hc d q G9
  go_wp2
  go_quiet (fail)
  go_wp2
  go_roundw
  case rel=>exact⟨k+1,hl,by go_num,qd (eg f _)⟩
  simp[intOf];omega
 have S:=jl k nn
 go_wp2
 go_loopw [4] (λi wr=>∃k:Nat,k<=bn/\i=I J k/\Hid (Xb W wr)) (λi _=>bn - (intOf i).toNat)
 exact⟨0,bt _,rfl,f⟩;obtain⟨k,E,rfl,f⟩:=hrel;obtain⟨d,q⟩:=qi f;have T:=(q9 f).size;have M:=(d _ 1 o).trans A;have K:=(d _ 2 o).trans u
 by_cases hl:k<bn
 .obtain⟨b,cur,rfl,_,G9,hc⟩:=q9 Y k hl
  have s:=qa0 G9;have R:Xc wr b k (I .u8 ((m:Int) % 256)):=(d _ k s).trans hc;clear hc d q G9
  go_wp2
  go_quiet (fail)
  go_wp2
  go_roundw
  case rel=>exact⟨k+1,hl,by go_num,qd (eg f _)⟩
  simp[intOf];omega
 have S:=jl k bn;clear d q
 go_wp2
 go_ret;exact⟨rfl,q9 f⟩
section
variable {pv:Ap}
def hpV(h:Nat×Nat):Ap:=Ag (G (D h.1 0 O))
structure HsAt(pv:Ap)(w W:Ao)(hv:Ap)(hs:List (Nat×Nat)):Prop where
 bel:Below w.1.size w W
 lt:w.1.size<W.1.size
 c0:W.cell? ⟨w.1.size,0,O⟩=G pv
 c1:W.cell? ⟨w.1.size,1,O⟩=G hv
 fz:∀i,W.frozen? ⟨w.1.size,i,O⟩=uh
 row:ue W (w.1.size+1) 47 1 hv (A hs) (hs.map hpV)
 each:∀h∈hs,HdAt (λk=>w.1.size<k/\ug hv≠G k) W h.1 h.2/\h.2<=A hs
section
variable {w W W':Ao} {hv:Ap} {hs:List (Nat×Nat)}
theorem HsAt.h(h:HsAt pv w W hv hs)(hb:Xb W W'):HsAt pv w W' hv hs:=by
 obtain⟨o,q⟩:=qi hb;have d:=h.lt;exact⟨qg h.bel hb,au d hb.size,(o _ _ d).trans h.c0,(o _ _ d).trans h.c1,λi=>(q _ i d).trans (h.fz i),qp h.row hb ux,λx f=>⟨(h.each x f).1.h hb,(h.each x f).2⟩⟩
theorem HsAt.start(w:Ao):HsAt (C O 0 0) w (w.alloc (Al #[C O 0 0,C O 0 0] 30)) (C O 0 0) []:=
 ⟨uy.alloc ux _,ur,ur,ur,λi=>ur,dw _ _ _ _,λx d=>by simp at d⟩
theorem HsAt.form(h:HsAt pv w W hv hs):∃a c,hv=C a (A hs) c:=by
 obtain⟨rfl,d⟩|⟨g,cap,cur,rfl,_⟩:=h.row.2<;>grind
theorem HsAt.cell(h:HsAt pv w W hv hs){x:Nat×Nat}(d:hs[k]?=G x):∃g cap,hv=C (G (D g 0 O)) (A hs) cap/\g<Z W.1/\W.cell? (D g k O)=G (hpV x):=by
 have q:=(aj.1 d).1;have f:=h.row;obtain⟨rfl,s⟩|⟨g,cap,cur,rfl,u,o,_⟩:=h.row.2;omega;refine⟨g,cap,rfl,(ch.1 o).1, ?_⟩;rw[World.ownsRow.cellAt f k uq,cj,d];rfl
end
theorem vbv{hv:Ap}{hs:List (Nat×Nat)}(h:HsAt pv w W hv hs)(u:A hs<=20000000000000):lz 8 #[Ag (G ⟨Z w.1,0,O⟩)] W (Ah ui):=by
 have q:=qd h;obtain⟨a,c,rfl⟩:=h.form;obtain⟨n,o⟩:=ie (A hs);have d:=qd o;rw[o]at q u;go_enter func8,ntmps8
 go_wp2
 go_loopw [3] (λi wr=>∃k:Nat,k<=n/\i=I J k/\Hid (Xb W wr)) (λi _=>n - (intOf i).toNat)
 exact⟨0,bt _,rfl,qd uy⟩;obtain⟨k,F,rfl,f⟩:=hrel;have H:=qd (q.h f);have c1:=(q9 H).c1
 by_cases cT:k<n
 .obtain⟨x,hx⟩:∃x,hs[k]?=G x:=⟨_,ag (md (q9 d))⟩
  obtain⟨g,cap,e,K,M⟩:=(q9 H).cell hx;rw[q9 d]at e;injection e with e _ _;subst e;obtain⟨hd,E⟩:=(q9 H).each x (bh hx);have s:x.2<=20000000000000:=md (q9 d)
  have B:=qd (qx4 hd s)
  go_wp2_with(refine be B λw2 D=>?_;have C:=qd (qg f D))
  go_roundw
  case rel=>exact⟨k+1,cT,by go_num,C⟩
  simp[intOf];omega
 have Q:=jl k n
 go_wp2
 go_ret;exact⟨rfl,q9 f⟩
end
theorem vd1(h:ue w base e 1 (C (G (D g 0 O)) n cap) n xs)(j:Nat)(x:Ap):ue (B w (D g j O) x) base e 1 (C (G (D g 0 O)) n cap) n (xs.set j x):=by
 obtain⟨hv,_⟩|⟨u,cap',cur,hv,hb,f,q,o,s,d⟩:=h.2;cases hv;cases hv;refine⟨by grind,An ⟨g,cap,cur.setIfInBounds j x,rfl,hb, ?_,q,o,by simpa using s, ?_⟩⟩;simp[B,iy,f];rw[Array.toList_setIfInBounds,List.take_set,d]
theorem vxf(g k:Nat):(⟨g,0,O⟩:Addr).add k=⟨g,k,O⟩:=by
 grind[Addr.add]
theorem vd0{t:TypeId}{i:TypeInfo}(E:prog.underlying t=G (.slice e))(I:prog.info? e=G i)(Q:i.zero=G z)(A:i.size=1)(u:i.bytes=bytes)
  {v':Ap}   {x:Ap} (B:ue w base e 1 v n xs)  (hx:w.cell? (D H 0 O)=G x) (h1:x.oneCell'=ui) (hb:((n+1)+(n+1) / 4+192) * bytes<=281474976710656) (hn:n+1<=9223372036854775807)
  (K:(Builtin.append_ #[t,t] ty #[v,.slice (G (D H 0 O)) 1 1]).run prog w=.ok v' w') :
  ∀(g:Nat),ug v=G g->(∃cur,w'.1[g]?=G (Al cur e (0,0)))/\∀j,w.cell? (D g j O)=G x->w'.cell? (D g j O)=G x:=by
 intro g R;have U:=B.1;obtain⟨rfl,_⟩|⟨d,cap,cur,rfl,J1,f,aA,bU,J3,T⟩:=B.2
 .cases R
 obtain rfl:d=g:=by grind[Value.ownBlock]
 have J:∀k y,[x][k]?=G y->w.cell? ((⟨H,0,O⟩:Addr).add k)=G y:=λk y s=>by
  cases k with
  | zero=>grind[vxf]
  | succ k=>simp at s
 have M:∀{W:Ao} {c:Array Ap} (k:Nat),W.1[d]?=G (Al c e (0,0))->W.cell? (D d k O)=c[k]?:=λk h=>by simp[World.cell?,h]
 by_cases cS:n+1<=cap
 have o:=run_append_room (P:=prog) w t ty e i E I d n cap cur f ⟨H,0,O⟩ 1 1 [x] (by rw[A];rfl) J (λy Y=>by grind) cS (by grind);rw[K]at o;injection o with S q;refine⟨⟨_,by rw[q];exact setRow_heap w d cur _ e _ f⟩,λj C=>?_⟩;rw[q,M j (setRow_heap w d cur _ e _ f)];rw[M j f]at C;obtain h|h|h:=Nat.lt_trichotomy j n
 grind
 grind
 grind
 have o:=run_append_grow (P:=prog) w t ty e i z E I Q ⟨d,0,O⟩ n cap xs (by rwa[A]) (λk y s=>B.cells (g:=d) rfl k y s) ⟨H,0,O⟩ 1 1 [x] (by rw[A];rfl) J uq uq (growslice_fits_wide uq (by rwa[u]));rw[K]at o;injection o with S q;have F:d<Z w.1:=(ch.1 f).1;refine⟨⟨cur,by rw[q];exact(heap_alloc_old w.drew _ F).trans f⟩,λj C=>?_⟩;rw[q];rwa[bg (w:=w) (a:=D d j O) (heap_alloc_old w.drew _ F)]
theorem qte{t:TypeId}{i:TypeInfo}(o:prog.underlying t=G (.slice e))(s:prog.info? e=G i)(C:i.zero=G z)(B:i.size=1)(f:i.bytes=bytes)(T:z.cells.size=1)
     {x:Ap} (I:ue w base e 1 v n xs)  (hx:Xc w H 0 x) (h1:x.oneCell'=ui) (hb:((n+1)+(n+1) / 4+192) * bytes<=281474976710656) (M:n+1<=maxLen) (R:base<=Z w.1) :
  ∃g cap w',(Builtin.append_ #[t,t] ty #[v,.slice (G (D H 0 O)) 1 1]).run prog w=.ok (.slice (G (D g 0 O)) (n+1) cap) w'/\ue w' base e 1 (.slice (G (D g 0 O)) (n+1) cap) (n+1) (xs++[x])/\w.grownBy w' (ug v)/\(ug v=G g\/g=Z w.1):=by
 have A:∀k y,[x][k]?=G y->w.cell? ((⟨H,0,O⟩:Addr).add k)=G y:=λk y E=>by
  cases k with
  | zero=>grind[vxf]
  | succ k=>simp at E
 have J:∀u∈[x],u.oneCell'=ui:=λy Y=>by grind
 have hm:n+1<=9223372036854775807:=by grind[maxLen]
 obtain⟨v',w',q,K,Q,_⟩:=run_append_own_wide (P:=prog) w base t ty e i z 1 bytes o s C B f T uq v n xs I ⟨H,0,O⟩ 1 1 [x] rfl A J M hb R;obtain⟨g,cap,rfl,_,_⟩:=K.form uq;refine⟨g,cap,w',q,K,Q, ?_⟩;obtain⟨rfl,rfl⟩|⟨F,cap',cur,rfl,J1,S,aA,bU,J3,U⟩:=I.2
 right
 have h:=run_append_nil (P:=prog) w t ty e i z o s C ⟨H,0,O⟩ 1 1 [x] (by rw[B];rfl) A uq uq (by grind);rw[q]at h;injection h with d _;injection d with d _ _;injection d with d;injection d
 by_cases cS:n+1<=cap'
 left
 have h:=run_append_room (P:=prog) w t ty e i o s F n cap' cur S ⟨H,0,O⟩ 1 1 [x] (by rw[B];rfl) A J cS (by grind);rw[q]at h;injection h with d _;injection d with d _ _;injection d with d;injection d with d _ _;rw[d];rfl
 right
 have h:=run_append_grow (P:=prog) w t ty e i z o s C ⟨F,0,O⟩ n cap' xs (by grind) (λk y E=>I.cells (g:=F) rfl k y E) ⟨H,0,O⟩ 1 1 [x] (by rw[B];rfl) A uq uq (growslice_fits_wide uq (by rwa[f]));rw[q]at h;injection h with d _;injection d with d _ _;injection d with d;injection d
structure FmAt(base:Nat)(W:Ao)(gb m:Nat)(nv bv:Ap)(nn bn:Nat)(nxs bxs:List Ap):Prop where
 lo:base<=gb
 ty:∃cur,W.1[gb]?=G (Al cur 74 (0,0))
 c0:W.cell? ⟨gb,0,O⟩=G nv
 c1:W.cell? ⟨gb,1,O⟩=G bv
 c2:W.cell? ⟨gb,2,O⟩=G (I J (m:Int))
 fz:∀i,W.frozen? ⟨gb,i,O⟩=uh
 nr:ue W base 3 1 nv nn nxs
 br:ue W base 5 1 bv bn bxs
 nd:ug nv≠G gb
 bd:ug bv≠G gb
 nb:∀k,ug nv=G k->ug bv≠G k
structure MrkAt(base:Nat)(W W':Ao)(nv bv:Ap):Prop where
 bel:Below base W W'
 size:W'.1.size=W.1.size
 block:∀b,ug nv≠G b->ug bv≠G b->W'.1[b]?=W.1[b]?
section
variable {base:Nat} {W W' W2:Ao} {gb m nn bn:Nat} {nv bv x:Ap} {nxs bxs:List Ap}
theorem FmAt.lt(h:FmAt base W gb m nv bv nn bn nxs bxs):gb<Z W.1:=by
 grind[FmAt]
theorem MrkAt.refl:MrkAt base W W nv bv:=by grind[Below.refl,MrkAt]
theorem FmAt.setN(h:FmAt base W gb m (C (G (D g 0 O)) nn cap) bv nn bn nxs bxs)(x:Ap):FmAt base (B W (D g j O) x) gb m (C (G (D g 0 O)) nn cap) bv nn bn (nxs.set j x) bxs:=by
 constructor<;>grind[Value.ownBlock,Below.heap_setCell,World.cell?_of_block,World.frozen?_of_block,vd1,vo,FmAt]
theorem FmAt.setB(h:FmAt base W gb m nv (C (G (D g 0 O)) bn cap) nn bn nxs bxs)(x:Ap):FmAt base (B W (D g j O) x) gb m nv (C (G (D g 0 O)) bn cap) nn bn nxs (bxs.set j x):=by
 constructor<;>grind[Value.ownBlock,Below.heap_setCell,World.cell?_of_block,World.frozen?_of_block,vd1,vo,FmAt]
theorem MrkAt.set(h:MrkAt base W W' nv bv)(d:base<=g)(hv:ug nv=G g\/ug bv=G g)(x:Ap):MrkAt base W (B W' (D g j O) x) nv bv:=by grind[Below.setCell,World.size_setCell,Below.heap_setCell,MrkAt]
theorem FmAt.drew(h:FmAt base W gb m nv bv nn bn nxs bxs):FmAt base W.drew gb m nv bv nn bn nxs bxs:=⟨h.lo,h.ty,h.c0,h.c1,h.c2,h.fz,h.nr,h.br,h.nd,h.bd,h.nb⟩
theorem MrkAt.drew(h:MrkAt base W W' nv bv):MrkAt base W W'.drew nv bv:=⟨h.bel.drew,h.size,h.block⟩
theorem qv6{x:Ap}(h:k<A xs):(List.replicate k x++xs.drop k).set k x=List.replicate (k+1) x++xs.drop (k+1):=by
 rw[List.set_append_right _ _ ur,List.length_replicate,iz,cm h,List.set_cons_zero,List.replicate_succ',bw];rfl
end
theorem vc8{gb nn bn:Nat}{nv bv:Ap}{nxs bxs:List Ap}(h:FmAt base W gb m nv bv nn bn nxs bxs)(hm:m<=20000000000000)(uE:nn<=1000000000)(mC:bn<=1000000000):
  uo 61 #[Ag (G (D gb 0 O))] W λe W'=>e=Ak (Aj #[])/\FmAt base W' gb m nv bv nn bn (List.replicate nn (qfi m)) (List.replicate bn (qef m))/\MrkAt base W W' nv bv:=by
 have F8:A nxs=nn:=md h.nr.1
 have U9:A bxs=bn:=md h.br.1
 have YE:∃a c,nv=C a nn c:=by
  obtain⟨rfl,s⟩|⟨g,cap,cur,rfl,_⟩:=h.nr.2;exact⟨O,0,by rw[s]⟩;exact⟨_,_,rfl⟩
 have ZS:∃a c,bv=C a bn c:=by
  obtain⟨rfl,s⟩|⟨g,cap,cur,rfl,_⟩:=h.br.2;exact⟨O,0,by rw[s]⟩;exact⟨_,_,rfl⟩
 obtain⟨E,q,rfl⟩:=YE;obtain⟨F,u,rfl⟩:=ZS
 have hw:IntKind.i64.wrap (-1099511627776 - (m:Int))=-1099511627776 - (m:Int):=by
  have GN:IntKind.i64.bits=64:=rfl;have EN:IntKind.i64.signed=ui:=rfl;simp[IntKind.wrap,GN,EN];omega
 have d:=qd h;go_enter func61,ntmps61
 go_wp2
 go_loopw [2] (λi wr=>∃k:Nat,k<=nn/\i=I J k/\Hid (FmAt base wr gb m (C E nn q) (C F bn u) nn bn (List.replicate k (qfi m)++nxs.drop k) bxs)/\Hid (MrkAt base W wr (C E nn q) (C F bn u))) (λi _=>nn - (intOf i).toNat)
 exact⟨0,bt _,rfl,d,qd MrkAt.refl⟩;obtain⟨k,hk,rfl,d,f⟩:=hrel;have g0:=(q9 d).c0;have g1:=(q9 d).c1;have g2:=(q9 d).c2;have A1:=(q9 d).lt
 by_cases hl:k<nn
 .have hne:A (List.replicate k (qfi m)++nxs.drop k)=nn:=ut
  rcases(q9 d).nr.2 with⟨_,s⟩|⟨g,cap',cur,hv,S,K,aA,_,J3,T⟩
  .omega
  injection hv with hv _ M;subst hv M;have oF:g<Z wr.1:=(ch.1 K).1;obtain⟨o,Y⟩:∃o,Xc wr g k o:=⟨_,World.ownsRow.cellAt d.nr k uq |>.trans (ag uq)⟩;have U:wr.frozen? (D g k O)=uh:=by simp[World.frozen?,K]
  have ngb:¬gb=g:=λe=>d.nd (by rw[e];rfl)
  have ngc:¬g=gb:=λe=>ngb e.symm
  have Z9:=it k;have A5:=je k nn;have B:=qd (d.setN (j:=k) (qfi m)).drew;rw[qv6 uq]at B;have Q:=qd (f.set (j:=k) S (Am rfl) (qfi m)).drew
  go_wp2
  go_region_held3 (λW=>Xc W gb 0 (C (G (D g 0 O)) nn q)/\Xc W gb 2 (I J (m:Int))) (first|with_reducible assumption|go_keep) (fail)
  go_wp2
  go_roundw
  case rel=>exact⟨k+1,hl,by go_num,B,Q⟩
  simp[intOf];omega
 have aB:=jl k nn;have R:List.replicate k (qfi m)++nxs.drop k=List.replicate nn (qfi m):=by rw[show k=nn by omega,eo uq,gs]
 rw[R]at d
 go_wp2
 go_loopw [3] (λi wr=>∃k:Nat,k<=bn/\i=I J k/\Hid (FmAt base wr gb m (C E nn q) (C F bn u) nn bn (List.replicate nn (qfi m)) (List.replicate k (qef m)++bxs.drop k))/\Hid (MrkAt base W wr (C E nn q) (C F bn u))) (λi _=>bn - (intOf i).toNat)
 exact⟨0,bt _,rfl,d,f⟩;obtain⟨k,hk,rfl,d,f⟩:=hrel;have g1:=(q9 d).c1;have g2:=(q9 d).c2
 by_cases hl:k<bn
 .have hne:A (List.replicate k (qef m)++bxs.drop k)=bn:=ut
  rcases(q9 d).br.2 with⟨_,s⟩|⟨g,cap',cur,hv,S,K,aA,_,J3,T⟩
  .omega
  injection hv with hv _ M;subst hv M;obtain⟨o,Y⟩:∃o,Xc wr g k o:=⟨_,World.ownsRow.cellAt d.br k uq |>.trans (ag uq)⟩;have U:wr.frozen? (D g k O)=uh:=by simp[World.frozen?,K]
  have ngb:¬gb=g:=λe=>d.bd (by rw[e];rfl)
  have ngc:¬g=gb:=λe=>ngb e.symm
  have B:=qd (d.setB (j:=k) (qef m)).drew;rw[qv6 uq]at B;have Q:=qd (f.set (j:=k) S (An rfl) (qef m)).drew
  go_wp2
  go_region_held3 (λW=>Xc W gb 1 (C (G (D g 0 O)) bn u)/\Xc W gb 2 (I J (m:Int))) (first|with_reducible assumption|go_keep) (fail)
  go_wp2
  go_roundw
  case rel=>exact⟨k+1,hl,by go_num,B,Q⟩
  simp[intOf];omega
 have aB:=jl k bn;have R:List.replicate k (qef m)++bxs.drop k=List.replicate bn (qef m):=by rw[show k=bn by omega,eo uq,gs]
 rw[R]at d
 go_wp2
 first
  | exact⟨rfl,q9 d,q9 f⟩
  | (go_end0;exact⟨rfl,q9 d,q9 f⟩)
def cpR(ats:Array TypeId)(ty:TypeId)(args:Array Ap):Sem Ap:=Builtin.copy_ ats ty args
theorem pL(ats:Array TypeId)(ty:TypeId)(args:Array Ap):Builtin.copy_ ats ty args=cpR ats ty args:=rfl
theorem gB(w:Ao)(q s ty elem:TypeId)(g o dLen dCap:Nat)(a:Addr)(sLen sCap:Nat)(cur:Array Ap)(t:TypeId)(cs:List Ap)(m:Nat)
  (u:P.underlying q=G (.slice elem)) (hs:(P.info? elem).map (·.size)=G m)
  (E:w.1[g]?=G (Al cur t (0,0))) (B:A cs=Nat.min sLen dLen * m)
  (d:∀j v,cs[j]?=G v->w.cell? (a.add j)=G v) (f:o+A cs<=cur.size) (F:∀v∈cs,v.oneCell'=ui) :
  (cpR #[q,s] ty #[.slice (G (D g o O)) dLen dCap,.slice (G a) sLen sCap]).run P w =
   .ok (goInt (Nat.min sLen dLen)) (w.setRow g (cur.toList.take o++cs++cur.toList.drop (o+A cs)).toArray):=by
 have h:=run_loadCells_list (P:=P) w a cs d;have I:=run_storeCells_at P g o t cs 0 cur w E (by simpa using f) F;unfold cpR
 cases hq:P.info? elem with
 | none=>simp[hq]at hs
 | some i=>
  have C:i.size=m:=by simpa [hq]using hs
  rw[B]at h;simp[Builtin.copy_,run_underlying u,Builtin.lenOf,Builtin.firstCells,sizeOf,typeInfo,hq,C,h,I]
theorem qa9(w:Ao)(q u ty elem:TypeId)(d a:Option Addr)(dLen dCap sCap:Nat)(m:Nat)(f:P.underlying q=G (.slice elem))(hs:(P.info? elem).map (·.size)=G m):
  (cpR #[q,u] ty #[.slice d dLen dCap,.slice a 0 sCap]).run P w=.ok (goInt 0) w:=by
 unfold cpR
 cases hq:P.info? elem with
 | none=>simp[hq]at hs
 | some i=>
  have s:Nat.min 0 dLen=0:=Nat.zero_min _
  cases a with
  | none=>cases d<;>simp[Builtin.copy_,run_underlying f,Builtin.lenOf,Builtin.firstCells,sizeOf,typeInfo,hq,s,storeCells]
  | some a=>
   have o:=run_loadCells_list (P:=P) w a [] (λj v h=>by simp at h);simp only[im]at o;cases d<;>simp[Builtin.copy_,run_underlying f,Builtin.lenOf,Builtin.firstCells,sizeOf,typeInfo,hq,s,o,storeCells]
section
attribute [local go_sem ↓] pL
def jd:Pr:=⟨[115,112,97,114,101],⟨7,7,[]⟩⟩
def prV(p:Pr):Ap:=Ai #[Y (BS p.j),I J p.val.Q,I J p.val.M,Y (BS p.val.str)]
def zE(p:Pr):List Ap:=[Y (BS p.j),I J p.val.Q,I J p.val.M,Y (BS p.val.str)]
theorem qmr:(prog.info? 89).map (λi=>(i.zero,i.size,i.bytes))=G (G (Ai #[Y ⟨#[]⟩,I J 0,I J 0,Y ⟨#[]⟩]),4,48):=uw
theorem qh7(w:Ao):lz 46 #[] w (prV jd):=by
 go_enter func46,ntmps46
 go_wp2
 refine um ⟨rfl,uy.alloc ux _⟩
def EvRow(W:Ao)(b:Nat)(ps:List Pr)(i:Nat):Prop:=
 ∃f:Nat->Ap,W.rowIs b 89 ((A ps+8) * 4) f /\
  (∀k p,ps[k]?=G p->f (k * 4)=Y (BS p.j)/\f (k * 4+1)=I J p.val.Q/\f (k * 4+2)=I J p.val.M/\f (k * 4+3)=Y (BS p.val.str)) /\
  ∀k,k<i->f ((A ps+k) * 4)=Y (BS jd.j)/\f ((A ps+k) * 4+1)=I J jd.val.Q/\f ((A ps+k) * 4+2)=I J jd.val.M/\f ((A ps+k) * 4+3)=Y (BS jd.val.str)
theorem EvRow.of_block(h:EvRow W b ps i)(e:W'.1[b]?=W.1[b]?):EvRow W' b ps i:=by
 obtain⟨f,q,o,d⟩:=h;exact⟨f,q.of_block e,o,d⟩
theorem EvRow.lt(h:EvRow W b ps i):b<Z W.1:=by
 obtain⟨f,d,_⟩:=h;exact d.lt
theorem EvRow.h(h:EvRow W b ps i)(hb:Xb W W'):EvRow W' b ps i:=h.of_block (hb.block b h.lt)
theorem EvRow.cells(h:EvRow W b ps i)(d:k<(A ps+8) * 4):∃v,Xc W b k v:=by
 obtain⟨f,o,_⟩:=h;exact⟨_,o.cell d⟩
theorem EvRow.fz(h:EvRow W b ps i)(k:Nat):W.frozen? (D b k O)=uh:=by
 obtain⟨f,d,_⟩:=h;exact d.frozen k
theorem EvRow.prop(h:EvRow W b ps i)(hp:ps[k]?=G p):W.cell? ⟨b,k * 4,O⟩=G (Y (BS p.j))/\W.cell? ⟨b,k * 4+1,O⟩=G (I J p.val.Q)/\W.cell? ⟨b,k * 4+2,O⟩=G (I J p.val.M)/\W.cell? ⟨b,k * 4+3,O⟩=G (Y (BS p.val.str)):=by
 obtain⟨f,o,q,_⟩:=h;have s:=(aj.1 hp).1;obtain⟨a,c,d,e⟩:=q k p hp;exact⟨by rw[o.cell uq,a],by rw[o.cell uq,c],by rw[o.cell uq,d],by rw[o.cell uq,e]⟩
theorem EvRow.spare(h:EvRow W b ps i)(q:k<i)(u:i<=8):W.cell? ⟨b,(A ps+k) * 4,O⟩=G (Y (BS jd.j))/\W.cell? ⟨b,(A ps+k) * 4+1,O⟩=G (I J jd.val.Q)/\W.cell? ⟨b,(A ps+k) * 4+2,O⟩=G (I J jd.val.M)/\W.cell? ⟨b,(A ps+k) * 4+3,O⟩=G (Y (BS jd.val.str)):=by
 obtain⟨f,o,_,s⟩:=h;obtain⟨a,c,d,e⟩:=s k q;exact⟨by rw[o.cell uq,a],by rw[o.cell uq,c],by rw[o.cell uq,d],by rw[o.cell uq,e]⟩
theorem EvRow.ev(h:EvRow W b ps i):EvAt W b 0 ps:=λk p hp=>by
 simp only[ed];exact h.prop hp
theorem EvRow.step(h:EvRow W b ps i):
  EvRow (B (B (B (B W ⟨b,(A ps+i) * 4,O⟩ (Y (BS jd.j))) ⟨b,(A ps+i) * 4+1,O⟩ (I J jd.val.Q)) ⟨b,(A ps+i) * 4+2,O⟩ (I J jd.val.M)) ⟨b,(A ps+i) * 4+3,O⟩ (Y (BS jd.val.str))) b ps (i+1):=by
 obtain⟨f,q,u,o⟩:=h;refine⟨_,(((q.set _ _).set _ _).set _ _).set _ _,λk p hp=>?_,λk s=>?_⟩
 grind
 by_cases hki:k=i
 grind
 obtain⟨a,c,d,e⟩:=o k uq;refine⟨?_, ?_, ?_, ?_⟩
 grind
 grind
 grind
 grind
theorem vse(h:(ps.flatMap zE)[j]?=G v):∃k p c,ps[k]?=G p/\c<4/\j=k * 4+c/\(zE p)[c]?=G v:=by
 induction ps generalizing j with
 | nil=>simp at h
 | cons q t ih=>
  rw[dy]at h
  by_cases hj:j<4
  rw[cg (by exact hj)]at h;exact⟨0,q,j,rfl,hj,uq,h⟩;rw[cu (by show 4<=j;omega)]at h;obtain⟨k,p,c,o,f,s,d⟩:=ih h;exact⟨k+1,p,c,by simpa using o,f,by grind[zE],d⟩
theorem gm(ps:List Pr):A (ps.flatMap zE)=A ps * 4:=by
 induction ps<;>grind[zE,Pr]
theorem vul(hp:ps[k]?=G p)(d:c<4):(ps.flatMap zE)[k * 4+c]?=(zE p)[c]?:=by
 induction ps generalizing k with
 | nil=>simp at hp
 | cons q t ih=>
  rw[dy];have f:A (zE q)=4:=rfl
  cases k with
  | zero=>
   obtain rfl:q=p:=by simpa using hp
   rw[Nat.zero_mul,ed,cg uq]
  | succ k=>
   rw[cu uq,show(k+1) * 4+c - A (zE q)=k * 4+c by omega];exact ih (by simpa using hp)
theorem qw8{ev:Ap}(A7:EvIn W ev ps)(B7:ue W b 89 4 (C (G (D b 0 O)) (A ps+8) (A ps+8)) (A ps+8) xs):
  ∃W',(cpR #[32,32] ty #[C (G (D b 0 O)) (A ps+8) (A ps+8),ev]).run prog W=.ok (goInt (A ps)) W'/\Hid (EvRow W' b ps 0)/\Hid (Below b W W'):=by
 obtain⟨i0,s,F5,B9,D8⟩:=info_parts qmr;have d:(prog.info? 89).map (·.size)=G 4:=by rw[s];simp[B9]
 obtain⟨mI,U|⟨g,cap,cur,e,J1,B,aA,_,J3,eJ⟩⟩:=B7
 .cases U.1
 injection e with o e2 e3;injection o with o;injection o with o;subst o;have M:cur.size=(A ps+8) * 4:=by rw[J3,<-e3]
 obtain⟨rfl,a,cap',rfl⟩|⟨sb,off,cap',rfl,hc,Z,A1⟩:=A7
 .refine⟨W,qa9 W _ _ _ 89 _ _ _ _ _ 4 underlying32 d,qd ⟨λj=>cur.getD j undef,⟨cur,B,M,λi s=>?_⟩,λk p hp=>by simp at hp,λk q=>uq⟩,qd uy⟩
  simp[Array.getD,show i<cur.size by omega]
 have F:Nat.min (A ps) (A ps+8)=A ps:=mg uq
 have K:=gB (P:=prog) W 32 32 ty 89 b 0 (A ps+8) (A ps+8) ⟨sb,off,O⟩ (A ps) cap' cur 89 (ps.flatMap zE) 4 underlying32 d B (by rw[F,gm]) (λj v hv=>by
   obtain⟨k,p,c,h1,h2,h3,f⟩:=vse hv;obtain⟨T,S,R,Q⟩:=Z k p h1;have K5:(⟨sb,off,O⟩:Addr).add j=⟨sb,off+j,O⟩:=by simp[Addr.add]
   rw[K5,h3]
   match c,h2,f with
   | 0,_,f=>rwa[<-Nat.add_assoc,Nat.add_zero,T]
   | 1,_,f=>rwa[<-Nat.add_assoc,S]
   | 2,_,f=>rwa[<-Nat.add_assoc,R]
   | 3,_,f=>rwa[<-Nat.add_assoc,Q]) (by rw[gm,M];omega) (λv hv=>by
   obtain⟨p,_,hp⟩:=List.mem_flatMap.1 hv;simp[zE]at hp
   obtain rfl|rfl|rfl|rfl:=hp<;>rfl)
 rw[F]at K;refine⟨_,K,qd ?_,qd ⟨rfl,rfl,rfl,by simp[World.setRow],λk q=>setRow_other W b k _ uq⟩⟩;obtain⟨L,E⟩:=ie (cur.toList.take 0++ps.flatMap zE++cur.toList.drop (0+A (ps.flatMap zE)));rw[E];have AE:A L=(A ps+8) * 4:=by grind[gm]
 have u:∀j,j<A ps * 4->L[j]?=(ps.flatMap zE)[j]?:=λj hj=>by
  rw[<-E,List.take_zero,ij,cg (by rwa[gm])]
 refine⟨λj=>L.getD j undef,⟨L.toArray,setRow_heap W b cur _ _ _ B,by simpa using AE,λi s=>?_⟩,λk p hp=>?_,λk q=>uq⟩
 grind
 have q:=(aj.1 hp).1
 have key:∀c,c<4->L.getD (k * 4+c) undef=((zE p)[c]?).getD undef:=λc KL=>by
  rw[aq,u _ uq,vul hp KL]
 exact⟨key 0 uq,key 1 uq,key 2 uq,key 3 uq⟩
end
end Go.Proofs.YtmepkbgodcffoaaGreatDoor
