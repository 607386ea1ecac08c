/- What a term of a progr -/
import Derived.Test.YtfkcaldjphakpaaGreatDoorM16
import Derived.Laws.CopyRow
import Derived.OwnWalk
set_option maxHeartbeats 8000000
set_option maxRecDepth 100000
namespace Go.Proofs.YtfkcaldjphakpaaGreatDoor
open Go.RowKit Go.Proofs.Tryz
variable{l:List Nat}{ps:List Pr}{ts:List Tm}{vs:List V}{A B b base c i k n vb:Nat}{p:Pr}{P:Program}{t:Tm}{X Y:V}{v:Value}{W W' w w' w1 wr:World}
section
def ofT(ps:List Pr)(vs:List V)(t:Tm):V:=
 if t.op=0 then xL ps t.str
 else if t.op=1 then iV t.num
 else if t.op=2 then tV t.str
 else if t.op=3\/t.op=4 then bV (t.op==3)
 else if t.op=22 then qai (vs.getD t.left nV) t.str t.esc
 else jF t.op (vs.getD t.left nV) (vs.getD t.right nV)
def ValsAt(w:World)(vb n:Nat)(vs:List V):Prop:=∀i,i<n ->
 w.cell? ⟨vb,i * 3,none⟩=some (.int .i64 (vs.getD i nV).kind)/\w.cell? ⟨vb,i * 3+1,none⟩=some (.int .i64 (vs.getD i nV).num)/\w.cell? ⟨vb,i * 3+2,none⟩=some (.string (BS (vs.getD i nV).str))
theorem ValsAt.below(h:ValsAt w vb n vs)(a:Below B w w')(e:vb<B):ValsAt w' vb n vs:=by
 intro k f;obtain⟨m,j,g⟩:=h k f;exact⟨(a.cell e).trans m,(a.cell e).trans j,(a.cell e).trans g⟩
def kh(w:World)(ps:List Pr)(ev vv:Value)(vs:List V)(t:Tm):Prop:=
 Calls prog 74 #[tmV t,ev,vv] w λe w'=>e=.returned (vV (ofT ps vs t))/\Below w.heap.size w w'
def JS(A vb:Nat)(t:Tm)(X Y:V)(w':World):Prop:=w'.cell? ⟨A,0,none⟩=some (.int .i64 t.op)/\w'.cell? ⟨A,1,none⟩=some (.int .i64 t.left)/\w'.cell? ⟨A,2,none⟩=some (.int .i64 t.right)/\w'.cell? ⟨vb,t.left * 3,none⟩=some (.int .i64 X.kind)/\w'.cell? ⟨vb,t.left * 3+1,none⟩=some (.int .i64 X.num)/\w'.cell? ⟨vb,t.left * 3+2,none⟩=some (.string (BS X.str))/\w'.cell? ⟨vb,t.right * 3,none⟩=some (.int .i64 Y.kind)/\w'.cell? ⟨vb,t.right * 3+1,none⟩=some (.int .i64 Y.num)/\w'.cell? ⟨vb,t.right * 3+2,none⟩=some (.string (BS Y.str))
theorem qud(h:JS A vb t X Y W)(m:w1.heap[A]?=W.heap[A]?)(g:w1.heap[vb]?=W.heap[vb]?):JS A vb t X Y w1:=by
 have f:∀j,w1.cell? ⟨A,j,none⟩=W.cell? ⟨A,j,none⟩:=λj=>aw (w:=W) (w':=w1) (a:=⟨A,j,none⟩) m
 have e:∀j,w1.cell? ⟨vb,j,none⟩=W.cell? ⟨vb,j,none⟩:=λj=>aw (w:=W) (w':=w1) (a:=⟨vb,j,none⟩) g
 obtain⟨C,z,y,x,u,s,r,q,o⟩:=h;exact⟨(f _).trans C,(f _).trans z,(f _).trans y,(e _).trans x,(e _).trans u,(e _).trans s,(e _).trans r,(e _).trans q,(e _).trans o⟩
theorem vao(h:JS A vb t X Y W)(a:Xb W w1)(f:A<W.heap.size)(e:vb<W.heap.size):JS A vb t X Y w1:=qud h (a.block A f) (a.block vb e)
theorem vap{R:Nat}{j g f:Value}(h:JS A vb t X Y w1)(e:A≠R)(a:vb≠R):JS A vb t X Y (((w1.setCell ⟨R,0,none⟩ j).setCell ⟨R,1,none⟩ g).setCell ⟨R,2,none⟩ f):=
 qud h (((bo _ _ _ A e).trans (bo _ _ _ A e)).trans (bo _ _ _ A e)) (((bo _ _ _ vb a).trans (bo _ _ _ vb a)).trans (bo _ _ _ vb a))
theorem vme(w:World)(ps:List Pr)(ev:Value)(a:Option Addr)(n c:Nat)(vs:List V)(t:Tm)(g:EvArg w ev ps)(f:t.op=0):kh w ps ev (.slice a n c) vs t:=by
 have m:ofT ps vs t=xL ps t.str:=by simp[ofT,f]
 unfold kh;rw[m];have CON:=qd (λw1 (h:EvArg w1 ev ps)=>va6 h (BS t.str));have o:=qd g;obtain⟨u,r,s,rfl⟩:=g.slice;unfold tmV;rw[f];clear m f g;have x:¬w.heap.size+1=w.heap.size:=mw;go_enter func74,ntmps74
 go_wp2_with(go_at_call 61;refine(CON _ (o.below (qI w _ _))).mono ?_;rintro e w1⟨rfl,j⟩;obtain⟨q,y⟩:=qj j;have z:w.heap.size+1<w1.heap.size:=(by have:=j.size;simp at this;omega);simp only[vV])
 refine ak (by simp[go_sem,q]<;>rfl) rfl ⟨rfl, ?_⟩;exact(((qf (qI w _ _) j).setCell mx _).setCell mx _).setCell mx _
theorem vmf(w:World)(ps:List Pr)(ev:Value)(a:Option Addr)(n c:Nat)(vs:List V)(t:Tm)(g:EvArg w ev ps)(f:t.op=1):kh w ps ev (.slice a n c) vs t:=by
 have m:ofT ps vs t=iV t.num:=by simp[ofT,f]
 unfold kh;rw[m];have CON:=qd (λw1=>yT t.num w1);have x:=qd g;obtain⟨s,q,r,rfl⟩:=g.slice;unfold tmV;rw[f];clear m f g;have u:¬w.heap.size+1=w.heap.size:=mw;go_enter func74,ntmps74
 go_wp2_with(go_at_call 62;refine(CON _).mono ?_;rintro e w1⟨rfl,j⟩;obtain⟨o,y⟩:=qj j;have z:w.heap.size+1<w1.heap.size:=(by have:=j.size;simp at this;omega);simp only[vV])
 refine ak (by simp[go_sem,o]<;>rfl) rfl ⟨rfl, ?_⟩;exact(((qf (qI w _ _) j).setCell mx _).setCell mx _).setCell mx _
theorem vmg(w:World)(ps:List Pr)(ev:Value)(a:Option Addr)(n c:Nat)(vs:List V)(t:Tm)(g:EvArg w ev ps)(f:t.op=2):kh w ps ev (.slice a n c) vs t:=by
 have m:ofT ps vs t=tV t.str:=by simp[ofT,f]
 unfold kh;rw[m];have CON:=qd (λw1=>qya (BS t.str) w1);have x:=qd g;obtain⟨s,q,r,rfl⟩:=g.slice;unfold tmV;rw[f];clear m f g;have u:¬w.heap.size+1=w.heap.size:=mw;go_enter func74,ntmps74
 go_wp2_with(go_at_call 63;refine(CON _).mono ?_;rintro e w1⟨rfl,j⟩;obtain⟨o,y⟩:=qj j;have z:w.heap.size+1<w1.heap.size:=(by have:=j.size;simp at this;omega);simp only[vV])
 refine ak (by simp[go_sem,o]<;>rfl) rfl ⟨rfl, ?_⟩;exact(((qf (qI w _ _) j).setCell mx _).setCell mx _).setCell mx _
theorem vmh(w:World)(ps:List Pr)(ev:Value)(a:Option Addr)(n c:Nat)(vs:List V)(t:Tm)(g:EvArg w ev ps)(f:t.op=3):kh w ps ev (.slice a n c) vs t:=by
 have m:ofT ps vs t=bV true:=by simp[ofT,f]
 unfold kh;rw[m];have CON:=qd (λw1=>zb true w1);have x:=qd g;obtain⟨s,q,r,rfl⟩:=g.slice;unfold tmV;rw[f];clear m f g;have u:¬w.heap.size+1=w.heap.size:=mw;go_enter func74,ntmps74
 go_wp2_with(go_at_call 64;refine(CON _).mono ?_;rintro e w1⟨rfl,j⟩;obtain⟨o,y⟩:=qj j;have z:w.heap.size+1<w1.heap.size:=(by have:=j.size;simp at this;omega);simp only[vV])
 refine ak (by simp[go_sem,o]<;>rfl) rfl ⟨rfl, ?_⟩;exact(((qf (qI w _ _) j).setCell mx _).setCell mx _).setCell mx _
theorem vmi(w:World)(ps:List Pr)(ev:Value)(a:Option Addr)(n c:Nat)(vs:List V)(t:Tm)(g:EvArg w ev ps)(f:t.op=4):kh w ps ev (.slice a n c) vs t:=by
 have m:ofT ps vs t=bV false:=by simp[ofT,f]
 unfold kh;rw[m];have CON:=qd (λw1=>zb false w1);have x:=qd g;obtain⟨s,q,r,rfl⟩:=g.slice;unfold tmV;rw[f];clear m f g;have u:¬w.heap.size+1=w.heap.size:=mw;go_enter func74,ntmps74
 go_wp2_with(go_at_call 64;refine(CON _).mono ?_;rintro e w1⟨rfl,j⟩;obtain⟨o,y⟩:=qj j;have z:w.heap.size+1<w1.heap.size:=(by have:=j.size;simp at this;omega);simp only[vV])
 refine ak (by simp[go_sem,o]<;>rfl) rfl ⟨rfl, ?_⟩;exact(((qf (qI w _ _) j).setCell mx _).setCell mx _).setCell mx _
theorem vkg(w:World)(ps:List Pr)(ev:Value)(vb n c:Nat)(vs:List V)(t:Tm)(F:∃a n c,ev=.slice a n c)(m:ValsAt w vb n vs)(Z:vb<w.heap.size)(D:t.left<n)(o:t.str.length<=200)(j:(vs.getD t.left nV).str.length<=1000)(f:t.op=22):kh w ps ev (.slice (some ⟨vb,0,none⟩) n c) vs t:=by
 have q:ofT ps vs t=qai (vs.getD t.left nV) t.str t.esc:=by simp[ofT,f]
 unfold kh;rw[q];obtain⟨C,z,y⟩:=m t.left D;have I:(0:Int)<=(t.left:Int):=mw;have S:(t.left:Int)<(n:Int):=mw;have CON:=qd (λw1=>qy9 (vs.getD t.left nV) (BS t.str) (BS t.esc) (by rw[qG];exact o) j w1);simp only[xg]at CON;obtain⟨R,u⟩:∃r,qai (vs.getD t.left nV) t.str t.esc=r:=⟨_,rfl⟩;rw[u]at CON ⊢;obtain⟨X,s⟩:∃x,vs.getD t.left nV=x:=⟨_,rfl⟩;rw[s]at CON C z y;obtain⟨L,J,K,rfl⟩:=F;unfold tmV;have Q:¬w.heap.size+1=w.heap.size:=mw;have O:¬w.heap.size=w.heap.size+1:=mw;have N:¬vb=w.heap.size:=mw;have M:¬vb=w.heap.size+1:=mw;have H:vb<w.heap.size+1:=mw;have G:vb<w.heap.size+1+1:=mw;rw[f];clear q u s j f o m;go_enter func74,ntmps74
 go_wp2_with fail
 go_region_with((go_at_call 109;refine(CON _).mono ?_;rintro e w1⟨rfl,g⟩;obtain⟨E,T⟩:=qj g;have U:w.heap.size+1<w1.heap.size:=(by have:=g.size;simp at this;omega);simp only[vV]))
 all_goals go_wp2_with fail
 all_goals
  refine ak (by simp[go_sem,E]<;>rfl) rfl ⟨rfl, ?_⟩;exact(((qf (qI w _ _).drew g).setCell mx _).setCell mx _).setCell mx _
theorem vmj(w:World)(ps:List Pr)(ev:Value)(vb n c:Nat)(vs:List V)(t:Tm)(T:∃a n c,ev=.slice a n c)(j:ValsAt w vb n vs)(A0:vb<w.heap.size)(Q:t.left<n)(O:t.right<n)(G:Rng (vs.getD t.left nV).num)(m:Rng (vs.getD t.right nV).num)(y:¬t.op=0)(u:¬t.op=1)(s:¬t.op=2)(q:¬t.op=3)(o:¬t.op=4)(f:¬t.op=22):kh w ps ev (.slice (some ⟨vb,0,none⟩) n c) vs t:=by
 have z:ofT ps vs t=jF t.op (vs.getD t.left nV) (vs.getD t.right nV):=by simp[ofT,y,u,s,q,o,f]
 unfold kh;rw[z];obtain⟨N,M,L⟩:=j t.left Q;have iT:(0:Int)<=(t.left:Int):=mw;have cJ:(t.left:Int)<(n:Int):=mw;obtain⟨K,J,I⟩:=j t.right O;have b8:(0:Int)<=(t.right:Int):=mw;have A8:(t.right:Int)<(n:Int):=mw;have CON:=qd (λw1=>qqf (t.op:Int) (vs.getD t.left nV) (vs.getD t.right nV) G m w1);have e0:((t.op:Int)==0)=false:=ae.2 mw;have e1:((t.op:Int)==1)=false:=ae.2 mw;have e2:((t.op:Int)==2)=false:=ae.2 mw;have e3:((t.op:Int)==3)=false:=ae.2 mw;have e4:((t.op:Int)==4)=false:=ae.2 mw;have DR:((t.op:Int)==22)=false:=ae.2 mw;obtain⟨R,H⟩:∃r,jF t.op (vs.getD t.left nV) (vs.getD t.right nV)=r:=⟨_,rfl⟩;rw[H]at CON ⊢;obtain⟨X,D⟩:∃x,vs.getD t.left nV=x:=⟨_,rfl⟩;rw[D]at CON N M L;obtain⟨Y,C⟩:∃x,vs.getD t.right nV=x:=⟨_,rfl⟩;rw[C]at CON K J I;obtain⟨ea,en,ec,rfl⟩:=T;unfold tmV;have d0:¬w.heap.size+1=w.heap.size:=mw;have d1:¬w.heap.size=w.heap.size+1:=mw;have d2:¬vb=w.heap.size:=mw;have d3:¬vb=w.heap.size+1:=mw;have Z:vb<w.heap.size+1:=mw;have U:vb<w.heap.size+1+1:=mw
 have E:JS w.heap.size vb t X Y ((w.alloc (.cells #[.int .i64 t.op,.int .i64 t.left,.int .i64 t.right,.int .i64 t.num,.string (BS t.str),.string (BS t.esc)] 125)).alloc (.cells #[.int .i64 0,.int .i64 0,.string ⟨#[]⟩] 26)).drew:=by
  refine⟨?_, ?_, ?_, ?_, ?_, ?_, ?_, ?_, ?_⟩<;>simp[go_sem, *]
 clear z H D C G m y u s q o f j;go_enter func74,ntmps74
 go_wp2_with fail
 go_region_held3 (λw'=>Xc w' w.heap.size 0 (.int .i64 t.op)/\Xc w' w.heap.size 1 (.int .i64 t.left)/\Xc w' w.heap.size 2 (.int .i64 t.right)/\Xc w' vb (t.left * 3) (.int .i64 X.kind)/\Xc w' vb (t.left * 3+1) (.int .i64 X.num)/\Xc w' vb (t.left * 3+2) (.string (BS X.str))/\Xc w' vb (t.right * 3) (.int .i64 Y.kind)/\Xc w' vb (t.right * 3+1) (.int .i64 Y.num)/\Xc w' vb (t.right * 3+2) (.string (BS Y.str))) (first|exact E|exact F|exact vap F mw mw) ((go_at_call 110;refine(CON _).mono ?_;rintro e w1⟨rfl,g⟩;obtain⟨S,F6⟩:=qj g;have B9:w.heap.size+1<w1.heap.size:=(by have:=g.size;simp at this;omega);have F:=vao E g my my;simp only[vV]))
 all_goals go_wp2_with fail
 all_goals
  refine ak (by simp[go_sem,S]<;>rfl) rfl ⟨rfl, ?_⟩;exact(((qf (qI w _ _).drew g).setCell mx _).setCell mx _).setCell mx _
end
section
def jU(ps:List Pr)(ts:List Tm):Nat->List V
 | 0=>[]
 | k+1=>jU ps ts k++[ofT ps (jU ps ts k) (ts.getD k (.bare 0))]
def qsa(vs:List V)(rs:List Nat):Nat->List Nat
 | 0=>[]
 | k+1=>qsa vs rs k++(if vs.getD (rs.getD k 0) nV=bV true then[k] else[])
def qym(ps:List Pr)(ts:List Tm)(rs:List Nat):List Nat:=qsa (jU ps ts ts.length) rs rs.length
theorem vT(ps:List Pr)(ts:List Tm)(k:Nat):(jU ps ts k).length=k:=by
 induction k with
 | zero=>rfl
 | succ k ih=>rw[jU,bu,ih];rfl
theorem qkc(vs:List V)(a:List Nat)(k:Nat):(qsa vs a k).length<=k:=by
 induction k with
 | zero=>exact nt
 | succ k ih=>rw[qsa,bu];split<;>simp<;>omega
def Gv(v:V):Prop:=Rng v.num/\Sh v
theorem vmq:Gv nV:=⟨ph,qci⟩
theorem vbe(h:qdw ps)(e:vdq ps)(a:FitsT k t):Gv (ofT ps vs t):=by
 unfold ofT
 split
 ·refine⟨qnu h _, ?_⟩
  unfold xL
  split
  ·rename_i p f
   exact e p (ls f)
  ·exact qci
 split
 ·exact⟨a.num,vej _⟩
 split
 ·exact⟨veg,by have:=a.str;show t.str.length<=1000;omega⟩
 split
 ·exact⟨gB _,qch _⟩
 split
 ·unfold qai
  exact⟨jB (gB _) ph,qT (qch _) qci⟩
 ·exact⟨qnv _ _ _,qx7 _ _ _⟩
theorem qs2(h:qdw ps)(g:vdq ps)(j:∀i t,ts[i]?=some t->FitsT i t)(k:Nat)(m:k<=ts.length):∀i,Gv ((jU ps ts k).getD i nV):=by
 induction k with
 | zero=>intro i;exact vmq
 | succ k ih=>
  intro i;have ih:=ih mw i;have e:ts[k]?=some ts[k]:=ag mw;rw[jU,aq];rw[aq]at ih;rcases Nat.lt_or_ge i k with a|a
  ·rw[bw (by rw[vT];exact a)]
   exact ih
  ·rw[cj (by rw[vT];exact a),vT]
   rcases Nat.eq_zero_or_pos (i - k) with f|f
   ·rw[f]
    show Gv (ofT _ _ _);rw[aq,e];exact vbe h g (j k _ e)
   ·rw[ms my]
    exact vmq
theorem vic{ev:Value}(a:EvArg w ev ps)(f:ValsAt w vb n vs)(m:vb<w.heap.size)(e:∀i,Gv (vs.getD i nV))(g:FitsT k t)(o:k<=n):kh w ps ev (.slice (some ⟨vb,0,none⟩) n c) vs t:=by
 have j:=a.slice
 by_cases h0:t.op=0
 ·exact vme w ps ev _ n c vs t a h0
 by_cases h1:t.op=1
 ·exact vmf w ps ev _ n c vs t a h1
 by_cases h2:t.op=2
 ·exact vmg w ps ev _ n c vs t a h2
 by_cases h3:t.op=3
 ·exact vmh w ps ev _ n c vs t a h3
 by_cases h4:t.op=4
 ·exact vmi w ps ev _ n c vs t a h4
 have q:=g.sides mw
 by_cases T5:t.op=22
 ·exact vkg w ps ev vb n c vs t j f m mw g.str (e _).2 T5
 ·exact vmj w ps ev vb n c vs t j f m mw mw (e _).1 (e _).1 h0 h1 h2 h3 h4 T5
theorem qqc:(prog.info? 26).map (λi=>(i.zero,i.size,i.bytes))=some (some (.agg #[.int .i64 0,.int .i64 0,.string ⟨#[]⟩]),3,32):=nl
structure RunAt(w wr:World)(vb n:Nat)(vs:List V):Prop where
 vals:ValsAt wr vb n vs
 fz:∀j,wr.frozen? ⟨vb,j,none⟩=false
 ge:w.heap.size<=vb
 lt:vb<wr.heap.size
 bel:Below w.heap.size w wr
theorem RunAt.next(h:RunAt w wr vb n vs)(a:Xb wr w'):RunAt w w' vb n vs:=
 ⟨h.vals.below a h.lt,λj=>(a.frozen (p:=⟨vb,j,none⟩) h.lt).trans (h.fz j),h.ge,bg h.lt a.size,qf h.bel a⟩
theorem RunAt.made(h:w1.ownsRow w.heap.size 26 3 (.slice (some ⟨w.heap.size,0,none⟩) n n) n (madeCells (Value.agg #[.int .i64 0,.int .i64 0,.string ⟨#[]⟩]).cells (n * 3)).toList)(a:w.grownBy w1 none):RunAt w w1 w.heap.size n []:=by
 have q:=h.lt w.heap.size rfl;refine⟨λi C=>?_,λj=>?_,nt,q.2,⟨a.os,a.tape,a.output,a.size,λk r=>a.block k r mx⟩⟩
 ·have m:=h.cells (g:=w.heap.size) rfl
  have o:∀j,(⟨w.heap.size,0,none⟩:Addr).add j=⟨w.heap.size,j,none⟩:=λj=>by unfold Addr.add;split<;>simp_all
  have f:∀j,j<3->(madeCells (Value.agg #[.int .i64 0,.int .i64 0,.string ⟨#[]⟩]).cells (n * 3)).toList[i * 3+j]?=([.int .i64 0,.int .i64 0,.string ⟨#[]⟩]:List Value)[j]?:=by
   intro j s;have x:i * 3+j<n * 3:=mw;have u:(i * 3+j) % 3=j:=mw;have y:(Value.agg #[.int .i64 0,.int .i64 0,.string ⟨#[]⟩]).cells=#[.int .i64 0,.int .i64 0,.string ⟨#[]⟩]:=by rfl
   rw[y];simp[madeCells,x,u]
   match j,s with
   | 0,_=>rfl
   | 1,_=>rfl
   | 2,_=>rfl
  refine⟨?_, ?_, ?_⟩
  ·have:=m (i * 3+0) _ (f 0 nh);rwa [o]at this
  ·have:=m (i * 3+1) _ (f 1 nh);rwa [o]at this
  ·have:=m (i * 3+2) _ (f 2 nh);rwa [o]at this
 ·rcases h.2 with⟨e,_⟩|⟨g,cap,cur,e,_,z,_⟩
  ·simp at e
  ·simp at e
   obtain⟨rfl,_⟩:=e;simp[World.frozen?,z]
theorem RunAt.store(h:RunAt w wr vb n vs)(f:vs.length=k)(g:k<n)(x:V):
  RunAt w (((wr.setCell ⟨vb,k * 3,none⟩ (.int .i64 x.kind)).setCell ⟨vb,k * 3+1,none⟩ (.int .i64 x.num)).setCell ⟨vb,k * 3+2,none⟩ (.string (BS x.str))) vb n (vs++[x]):=by
 have a:=h.ge;refine⟨λi m=>?_,λj=>by simp[go_sem,h.fz],a,by have:=h.lt;simpa using this,((h.bel.setCell (by exact a) _).setCell (by exact a) _).setCell (by exact a) _⟩;obtain⟨C,z,y⟩:=h.vals k g
 by_cases he:i=k
 ·subst he
  have e:(vs++[x]).getD i nV=x:=by rw[aq,cj mw,f,iu];rfl
  rw[e];refine⟨?_, ?_, ?_⟩<;>simp[go_sem,C,z,y]
 ·have e:(vs++[x]).getD i nV=vs.getD i nV:=by
   rw[aq,aq];rcases Nat.lt_or_ge i k with o|o
   ·rw[bw mw]
   ·rw[ms my,ms mw]
  rw[e];obtain⟨u,b1,b2⟩:=h.vals i m;have s:¬i * 3=k * 3:=mw;have r:¬i * 3=k * 3+1:=mw;have q:¬i * 3=k * 3+2:=mw;have G:¬i * 3+1=k * 3:=mw;have E:¬i * 3+1=k * 3+1:=mw;have F:¬i * 3+1=k * 3+2:=mw;have D:¬i * 3+2=k * 3:=mw;have H:¬i * 3+2=k * 3+1:=mw;have I:¬i * 3+2=k * 3+2:=mw;refine⟨?_, ?_, ?_⟩
  ·simp[go_sem,u]
  ·simp[go_sem,b1]
  ·simp[go_sem,b2]
theorem TsAt.cells(h:TsAt w base v ts):∃a c,v=.slice a ts.length c/\∀(k:Nat) (t:Tm),ts[k]?=some t->∃g,a=some ⟨g,0,none⟩/\g<w.heap.size /\
  w.cell? ⟨g,k * 6,none⟩=some (.int .i64 t.op)/\w.cell? ⟨g,k * 6+1,none⟩=some (.int .i64 t.left)/\w.cell? ⟨g,k * 6+2,none⟩=some (.int .i64 t.right)/\w.cell? ⟨g,k * 6+3,none⟩=some (.int .i64 t.num)/\w.cell? ⟨g,k * 6+4,none⟩=some (.string (BS t.str))/\w.cell? ⟨g,k * 6+5,none⟩=some (.string (BS t.esc)):=by
 have q:=h;rcases h.2 with⟨rfl,m⟩|⟨g,cap,cur,rfl,x,s,_⟩
 ·refine⟨none,0,by rw[m],λk t f=>?_⟩
  have:=(au.1 f).1;omega
 ·refine⟨_,cap,rfl,λk t f=>⟨g,rfl,(cg.1 s).1, ?_⟩⟩
  have r:∀j,(⟨g,0,none⟩:Addr).add j=⟨g,j,none⟩:=λj=>by unfold Addr.add;split<;>simp_all
  have e:∀j u,(xH t)[j]?=some u->w.cell? ⟨g,k * 6+j,none⟩=some u:=λj u o=>by
   have:=World.ownsRow.cells q (g:=g) rfl (k * 6+j) u (qig f o);rwa [r]at this
  exact⟨e 0 _ rfl,e 1 _ rfl,e 2 _ rfl,e 3 _ rfl,e 4 _ rfl,e 5 _ rfl⟩
theorem IsAt.cells(h:IsAt w base v l):∃a c,v=.slice a l.length c/\∀(k:Nat) (x:Nat),l[k]?=some x->∃g,a=some ⟨g,0,none⟩/\g<w.heap.size/\w.cell? ⟨g,k,none⟩=some (.int .i64 x):=by
 have m:=h;rcases h.2 with⟨rfl,f⟩|⟨g,cap,cur,rfl,r,q,_⟩
 ·refine⟨none,0,by rw[f],λk t e=>?_⟩
  have:=(au.1 e).1;omega
 ·refine⟨_,cap,rfl,λk x e=>⟨g,rfl,(cg.1 q).1, ?_⟩⟩
  have o:∀j,(⟨g,0,none⟩:Addr).add j=⟨g,j,none⟩:=λj=>by unfold Addr.add;split<;>simp_all
  have:=World.ownsRow.cells m (g:=g) rfl k (.int .i64 x) (by simp[jX,e]);rwa [o]at this
end
section
attribute [local go_sem ↓] jt
def qsg(w:World)(l:List Nat)(e:Ending)(w':World):Prop:=∃v,e=.returned v/\IsAt w' w.heap.size v l/\Below w.heap.size w w'
theorem IsAt.mono{a e:Nat}(h:IsAt w e v l)(j:a<=e):IsAt w a v l:=by
 refine⟨h.1, ?_⟩;rcases h.2 with f|⟨g,cap,cur,rfl,m,rest⟩
 ·exact .inl f
 ·exact .inr ⟨g,cap,cur,rfl,mw,rest⟩
theorem IsAt.app(h:IsAt W base v l)(q:base<=W.heap.size)(x:Nat)(C:l.length<=1000)(ty:TypeId):
  ∃g cap a,(ki #[52,52] ty #[v,.slice (some ⟨W.heap.size,0,none⟩) 1 1]).run prog (W.alloc (.cells #[.int .i64 x] 3))=.ok (.slice (some ⟨g,0,none⟩) (l.length+1) cap) a /\
   Hid (IsAt a base (.slice (some ⟨g,0,none⟩) (l.length+1) cap) (l++[x]))/\Hid (Below base W a):=by
 obtain⟨f,o,r,u,s⟩:=info_parts kq;have e:=World.ownsRow.alloc h (.cells #[.int .i64 x] 3);obtain⟨g,cap,a,j,y,z,D,_⟩:=run_append_lies (P:=prog) (W.alloc (.cells #[.int .i64 x] 3)) 52 ty base 3 f _ 1 8 underlying52 o r u s rfl mw v l.length (jX l) e
  ⟨W.heap.size,0,none⟩ 1 1 [.int .i64 x] rfl (World.news_of_block (cs:=#[.int .i64 x]) (t:=3) (fr:=(0,0)) (heap_alloc_new W _)) (by simp[Value.oneCell']) mw (by unfold maxLen;omega) mw my _ rfl
 refine⟨g,cap,a,j,qd ?_,qd ?_⟩
 ·show World.ownsRow _ _ _ _ _ _ _
  rw[bu,da,jX,dt];exact y
 ·exact Go.RowKit.Below.grown (((Below.refl base W).alloc q _)) z my (λk m=>(e.lt k m).1)
theorem IsAt.app'(h:IsAt W base v l)(e:base<=W.heap.size)(x:Nat)(a:l.length<=1000)(ty:TypeId)(H:Nat)(j:W.heap.size=H)(f:W'=W.alloc (.cells #[.int .i64 x] 3)):
  ∃g cap w5,(ki #[52,52] ty #[v,.slice (some ⟨H,0,none⟩) 1 1]).run prog W'=.ok (.slice (some ⟨g,0,none⟩) (l.length+1) cap) w5 /\
   Hid (IsAt w5 base (.slice (some ⟨g,0,none⟩) (l.length+1) cap) (l++[x]))/\Hid (Below base W w5):=by
 subst j f;exact h.app e x a ty
theorem RunAt.nextB(h:RunAt w wr vb n vs)(a:Below B wr w')(e:vb<B):RunAt w w' vb n vs:=
 ⟨h.vals.below a e,λj=>(a.frozen (p:=⟨vb,j,none⟩) e).trans (h.fz j),h.ge,bg h.lt a.size,h.bel.trans (a.mono (by have:=h.ge;omega))⟩
theorem IsAt.below(h:IsAt w base v l)(a:Below B w w')(e:w.heap.size<=B):IsAt w' base v l:=qq h a e
theorem qmo(w:World)(o:Obj):Xb w (w.alloc o):=nw.alloc nt o
theorem vbr(ps:List Pr)(ev:Value)(C o:Nat)(ts:List Tm)(a:List Nat)(w:World)(hp:ProgAt w C o ts a)(E:Prg ts a)(C7:EvArg w ev ps)(y:qdw ps)(hs:vdq ps):
  nz 43 #[.pointer (some ⟨C,o,none⟩),ev] w (qsg w (qym ps ts a)):=by
 obtain⟨i0,hi,F2,B9,D8⟩:=info_parts qqc;obtain⟨i1,hj,rU,NU,NS⟩:=info_parts kq;obtain⟨plt,⟨tv,tb,c0,S⟩,rv,rb,T,CQ⟩:=hp;have MB:=qd S;have YU:=qd CQ;have tD:=qd C7;obtain⟨ea,en,ec,rfl⟩:=C7.slice;obtain⟨ta,tc,rfl,GW⟩:=S.cells;obtain⟨ra,rc,rfl,GY⟩:=CQ.cells;have SB:Hid _:=qd GW;have cY:Hid _:=qd GY;have HG:=qd E;have YM:Hid (∀k,k<=ts.length->∀i,Gv ((jU ps ts k).getD i nV)):=qd λk hk=>qs2 y hs E.fits k hk
 have a7:=E.terms;have h8:=E.roots;clear GW GY S CQ C7 E y hs;obtain⟨n,G⟩:∃n,n=ts.length:=⟨_,rfl⟩;obtain⟨m,H⟩:∃m,m=a.length:=⟨_,rfl⟩;have K:Hid (n=ts.length):=qd G;have HM:Hid (m=a.length):=qd H;rw[←G]at c0 a7;rw[←H]at T h8;obtain⟨R,M⟩:∃R,qym ps ts a=R:=⟨_,rfl⟩;have HR:Hid (R=qsa (jU ps ts n) a m):=qd (by rw[G,H,←M];rfl);rw[M];clear G H M;have nv:¬C=w.heap.size:=mw;go_enter func43,ntmps43
 go_wp2_with(at_make;refine wpList_make_full _ rfl _ _ 127 rfl w.heap.size 26 i0 _ 3 underlying127 hi F2 B9 .i64 .i64 _ _ n rfl rfl rfl rfl (by rw[D8];omega) (by unfold maxLen;omega) nt ?_;intro w1 G0 J;have R0:=qd (RunAt.made G0 J);have d0:=J.cell c0 mx;have d1:=J.cell T mx;clear G0 J)
 go_loopw [22] (λi wr=>∃k:Nat,k<=n/\i=.int .i64 k/\Hid (RunAt w wr w.heap.size n (jU ps ts k))) (λi _=>n - (intOf i).toNat)
 case atStart=>exact⟨0,bj _,rfl,R0⟩
 case round=>
  obtain⟨k,hk,rfl,u⟩:=hrel
  by_cases A0:k<n
  ·obtain⟨t,F⟩:∃t,ts[k]?=some t:=⟨_,ag (by have:=q9 K;omega)⟩
   obtain⟨g,rfl,glt,z,t1,t2,t3,t4,t5⟩:=q9 SB k t F;have O:=(q9 u).bel;obtain⟨q,L⟩:=qj O;replace z:=(q g (k * 6) glt).trans z;replace t1:=(q g (k * 6+1) glt).trans t1;replace t2:=(q g (k * 6+2) glt).trans t2;replace t3:=(q g (k * 6+3) glt).trans t3;replace t4:=(q g (k * 6+4) glt).trans t4;replace t5:=(q g (k * 6+5) glt).trans t5;have s:Hid (jU ps ts (k+1)=jU ps ts k++[ofT ps (jU ps ts k) t]):=qd (by rw[jU,aq,F];rfl);have XD:Hid ((jU ps ts k).length=k):=qd (vT _ _ _);have t9:=(q9 u).lt;have NP:g<wr.heap.size:=by have:=O.size;omega
   have N5:(0:Int)<=(k:Int):=mw;have A5:(k:Int)<(n:Int):=mw;have I:Hid (∀W,EvArg W (.slice ea en ec) ps->ValsAt W w.heap.size n (jU ps ts k)->w.heap.size<W.heap.size->kh W ps (.slice ea en ec) (.slice (some ⟨w.heap.size,0,none⟩) n n) (jU ps ts k) t):=qd λW h1 h2 h3=>vic h1 h2 h3 (YM k (by have:=q9 K;omega)) (HG.fits k t F) mw
   generalize jU ps ts k=vs at *;obtain⟨x,D⟩:∃x,ofT ps vs t=x:=⟨_,rfl⟩;unfold kh at I;rw[D]at I s;simp only[tmV]at I;clear q L O F D
   go_wp2_with(go_at_call 74;refine(I _ (tD.below (qf u.bel (qmo wr _))) (u.vals.below (qmo wr _) t9) my).mono ?_;rintro e w2⟨rfl,A3⟩;have f:=qd (u.next (qf (qmo wr _) A3));have fz2:=(q9 f).fz;obtain⟨v0,v1,v2⟩:=(q9 f).vals k A0;have lt2:=(q9 f).lt;clear A3;simp only[vV])
   case roundEnd=>exact⟨⟨k+1,mw,rfl,qd (by rw[q9 s];exact f.store XD A0 x)⟩,by simp[intOf];omega⟩
  ·have:k=n:=mw
   subst this;have d2:Xc wr C (o+1) (.slice ra m rc):=(u.bel.cell (p:=⟨C,o+1,none⟩) plt).trans T;obtain⟨hVG,XD⟩:Hid (∀i,Gv ((jU ps ts k).getD i nV))/\Hid ((jU ps ts k).length=k):=⟨qd (YM k (by have:=q9 K;omega)),qd (vT _ _ _)⟩;have t9:=(q9 u).lt;generalize jU ps ts k=vs at *
   go_wp2_with fail
   go_loopw [8,40] (λv i wr=>∃j:Nat,j<=m/\i=.int .i64 j/\Hid (RunAt w wr w.heap.size k vs)/\Hid (IsAt wr (w.heap.size+1) v (qsa vs a j))) (λ_ i _=>m - (intOf i).toNat)
   case atStart=>exact⟨0,bj _,rfl,u,qd (IsAt.nil _ _)⟩
   case round=>
    obtain⟨j,KY,rfl,f,HI⟩:=hrel
    by_cases I4:j<m
    ·obtain⟨r,y⟩:∃r,a[j]?=some r:=⟨_,ag (by have:=q9 HM;omega)⟩
     obtain⟨g,rfl,glt,z⟩:=q9 cY j r y;have KS:r<k:=by have h1:=(q9 HG).below r (ch y);have h2:=q9 K;omega
     have s:Hid (qsa vs a (j+1)=qsa vs a j++(if vs.getD r nV=bV true then[j] else[])):=qd (by rw[qsa,aq (l:=a),y];rfl);have N:Hid ((qsa vs a j).length<=j):=qd (qkc _ _ _);obtain⟨q,L⟩:=qj f.bel;replace z:=(q g j glt).trans z;obtain⟨v0,v1,v2⟩:=(q9 f).vals r KS;have hzr2:=(q9 f).lt;have NP:g<wr.heap.size:=by have:=(q9 f).bel.size;omega
     have hj0:(0:Int)<=(j:Int):=mw;have hj1:(j:Int)<(m:Int):=mw;have b8:(0:Int)<=(r:Int):=mw;have A8:(r:Int)<(k:Int):=mw;obtain⟨x,D⟩:∃x,vs.getD r nV=x:=⟨_,rfl⟩;rw[D]at v0 v1 v2 s;have Q:=λw=>qgp x (bV true) w
     simp only[vV]at Q;clear q L y D
     by_cases hb:x=bV true
     ·have hd:decide (x=bV true)=true:=de hb
      simp only[hd]at Q;rw[bh hb]at s;clear hd hb;have U:Xb wr (wr.alloc (.cells #[.int .i64 (bV true).kind,.int .i64 (bV true).num,.string (BS (bV true).str)] 26)).drew:=(qmo wr _).drew;obtain⟨g5,M9,w5,R9,BR,P6⟩:=IsAt.app' (W':=((wr.alloc (.cells #[.int .i64 (bV true).kind,.int .i64 (bV true).num,.string (BS (bV true).str)] 26)).alloc (.cells #[.int .i64 j] 3)).drew) (HI.below U nt) my j (by have:=q9 N;omega) 52 (wr.heap.size+1) mx rfl;have MP:=qd ((f.next U).nextB P6 (dj _));clear U P6
      go_wp2_with fail
      go_region_with(go_at_call 64;refine(qp6 _ _).mono ?_;rintro e w'⟨rfl,rfl⟩;simp only[vV])
      all_goals go_wp2_with fail
      all_goals exact⟨⟨j+1,mw,rfl,MP,qd (by rw[q9 s];exact q9 BR)⟩,by simp[intOf];omega⟩
     ·have hd:decide (x=bV true)=false:=cw hb
      simp only[hd]at Q;rw[aj hb]at s;clear hd hb
      go_wp2_with fail
      go_region_with(go_at_call 64;refine(qp6 _ _).mono ?_;rintro e w'⟨rfl,rfl⟩;simp only[vV])
      all_goals go_wp2_with fail
      all_goals exact⟨⟨j+1,mw,rfl,qd (f.next (by repeat (first|exact nw|apply Below.drew|apply qb6))),qd (by rw[q9 s,ew];exact IsAt.below HI (by repeat (first|exact nw|apply Below.drew|apply qb6)) nt)⟩,by simp[intOf];omega⟩
    ·have:j=m:=mw
     subst this;have Z:=qd (IsAt.mono HI (Nat.le_succ _));have rP:=qd f.bel
     go_wp2_with fail
     go_ret;exact⟨_,rfl,by rw[q9 HR];exact q9 Z,q9 rP⟩
end
section
attribute [local go_sem ↓] jt
theorem PsAt.new{w:World}{v:Value}{l:mv}(h:BytesAt w w.heap.size v l)(ty:TypeId):PsAt (w.alloc (.cells #[v,.bool false] ty)) w.heap.size ⟨l,false⟩:=by
 obtain⟨a,c,rfl,m,f⟩:=h;refine⟨mx,⟨.slice a l.length c,by simp[go_sem],a,c,rfl,m,λi x g=>?_⟩,by simp[go_sem],λj=>by simp[go_sem]⟩;obtain⟨b,o,q,e,r⟩:=f i x g;exact⟨b,o,q,e,((((Below.refl w.heap.size w).alloc nt _).cell (p:=⟨b,o+i,none⟩) e)).trans r⟩
theorem RdL.start{a:World}{e:Nat}{s:Ps}(f:PsAt a e s)(o:w.heap.size<=e)(m:Xb w a)(ty:TypeId):RdL w (a.alloc (.cells #[.slice none 0 0,.slice none 0 0] ty)) e a.heap.size s [] (.slice none 0 0) [] (.slice none 0 0):=by
 refine⟨f.alloc _,by simp[go_sem],by simp[go_sem],λj=>by simp[go_sem],f.lt,mx,TsAt.nil _ _,IsAt.nil _ _,λg q=>by simp[Value.ownBlock]at q,o,m.alloc m.size _⟩
def qdy(w:World)(r:List Tm×List Nat×Bool)(e:Ending)(w':World):Prop:=
 ∃pb,e=.returned (.tuple #[.pointer (some ⟨pb,0,none⟩),.bool r.2.2])/\ProgAt w' pb 0 r.1 r.2.1/\Below w.heap.size w w'
theorem vbq(code:mv)(U:∀k,k<(qak code).1->qmm (vE (qal code).2 k).2 k)(Z:Value)(w:World)(h:BytesAt w w.heap.size Z code):
  nz 42 #[Z] w (qdy w (yh code)):=by
 obtain⟨i0,hi,F2,B9,D8⟩:=info_parts qbk;obtain⟨i1,hj,rU,NU,NS⟩:=info_parts kq;have HP:Hid (∀ty,PsAt (w.alloc (.cells #[Z,.bool false] ty)) w.heap.size ⟨code,false⟩):=qd λty=>PsAt.new h ty
 obtain⟨a,c,rfl,hc,hx⟩:=h;clear hx hc;obtain⟨HH,K⟩:∃x,Ps.upTo ⟨code,false⟩ 80=x:=⟨_,rfl⟩;have T1:=qd (λw1 D=>x9 w.heap.size ⟨code,false⟩ 80 w1 D);have hN:=Ps.upTo_le ⟨code,false⟩ 80;rw[K]at T1 hN;obtain⟨N,G⟩:=HH;obtain⟨II,J⟩:∃x,Ps.upTo G 8=x:=⟨_,rfl⟩;have Q:=qd (λw1 D=>x9 w.heap.size G 8 w1 D);have hM:=Ps.upTo_le G 8;rw[J]at Q hM;obtain⟨M,f⟩:=II
 have m:Hid (yh code=((vE f N).1,(vS ((N:Int) - 1) (vE f N).2 M).1,!(vS ((N:Int) - 1) (vE f N).2 M).2.bad&&((vS ((N:Int) - 1) (vE f N).2 M).2.rest.length==0))):=qd (by
  have E:qak code=(N,G):=K;have L:qal code=(M,f):=by rw[qal,E];exact J
  have e3:qr3 code=vE f N:=by rw[qr3,E,L]
  have e4:qhr code=vS ((N:Int) - 1) (vE f N).2 M:=by rw[qhr,E,L,e3]
  rw[yh,e3,e4])
 have HT:Hid (∀k,k<N->qmm (vE f k).2 k):=qd (by
  have E:qak code=(N,G):=K;have L:qal code=(M,f):=by rw[qal,E];exact J
  rw[E,L]at U
  exact U)
 generalize yh code=RR at m ⊢;clear U;clear K J;simp only at T1 Q hN hM;go_enter func42,ntmps42
 go_wp2_with(first|(go_at_call 72;refine(Q _ V8).mono ?_;rintro e F⟨rfl,N0,A7⟩;have K2:Hid (Xb w F):=qd (pN K1 A7 nt);have R0:Hid (∀ty,RdL w (F.alloc (.cells #[.slice none 0 0,.slice none 0 0] ty)) w.heap.size F.heap.size f [] (.slice none 0 0) [] (.slice none 0 0)):=qd (λty=>RdL.start N0 nt K2 ty);clear A7 N0)|(go_at_call 72;refine(T1 _ (HP _)).mono ?_;rintro e w1⟨rfl,V8,A5⟩;have V8:=qd V8;have K1:Hid (Xb w w1):=qd (pN (nw.alloc nt _) A5 nt);clear A5))
 go_loopw [16] (λi wr=>∃(k:Nat) (tv:Value),k<=N/\i=.int .i64 k/\Hid (RdL w wr w.heap.size F.heap.size (vE f k).2 (vE f k).1 tv [] (.slice none 0 0))) (λi _=>N - (intOf i).toNat)
 case atStart=>exact⟨0,_,bj _,rfl,q9 R0 _⟩
 case round=>
  obtain⟨k,tv,hk,rfl,u⟩:=hrel
  by_cases A0:k<N
  ·have y:Hid (vE f (k+1)=((vE f k).1++[((vE f k).2.term k).1],((vE f k).2.term k).2)):=qd rfl
   have C:(vE f k).1.length=k:=yR _ _;obtain⟨X,s⟩:∃x,vE f k=x:=⟨_,rfl⟩;have QL:=q9 HT k A0;rw[s]at u y C QL;obtain⟨ts,q⟩:=X;obtain⟨t,T⟩:∃t,q.term k=t:=⟨_,rfl⟩;simp only at u y C;rw[T]at y;have TM:Hid (∀w1,PsAt w1 w.heap.size q->nz 73 #[.pointer (some ⟨w.heap.size,0,none⟩),.int .i64 k] w1 (zG w.heap.size w1 t)):=qd (λw1 D=>T ▸ QL _ w1 D);clear T s QL;obtain⟨t,z⟩:=t;have c0:=(q9 u).c0;have fz:=(q9 u).fz;have NI:=(q9 u).lt
   go_wp2_with fail
   go_region_with(go_at_call 73;refine(TM _ u.ps.drew).mono ?_;rintro e w4⟨rfl,H,I⟩;have R:=qd (u.kept I.drew' H);have c4:=(q9 R).c0;have f4:=(q9 R).fz;have VP:=(q9 R).lt;clear I H;obtain⟨g,cap,w5,R9,c5,f5,uX,MP⟩:=(q9 R).appT t mw 114;rw[C]at R9 MP;simp only[tmV])
   all_goals go_wp2_with fail
   all_goals exact⟨⟨k+1,_,mw,rfl,qd (by rw[q9 y];exact q9 MP)⟩,by simp[intOf];omega⟩
  ·have:k=N:=mw
   subst this;obtain⟨X,s⟩:∃x,vE f k=x:=⟨_,rfl⟩;rw[s]at u m;obtain⟨ts,q⟩:=X;simp only at u m;clear s
   go_wp2_with fail
   go_loopw [32] (λi wr=>∃(j:Nat) (rv:Value),j<=M/\i=.int .i64 j/\Hid (RdL w wr w.heap.size F.heap.size (vS ((k:Int) - 1) q j).2 ts tv (vS ((k:Int) - 1) q j).1 rv)) (λi _=>M - (intOf i).toNat)
   case atStart=>exact⟨0,_,bj _,rfl,u⟩
   case round=>
    obtain⟨j,rv,DC,rfl,o⟩:=hrel
    by_cases I4:j<M
    ·have y:Hid (vS ((k:Int) - 1) q (j+1)=((vS ((k:Int) - 1) q j).1++[((vS ((k:Int) - 1) q j).2.upTo ((k:Int) - 1)).1],((vS ((k:Int) - 1) q j).2.upTo ((k:Int) - 1)).2)):=qd rfl
     have C:(vS ((k:Int) - 1) q j).1.length=j:=pi _ _ _;obtain⟨X,s⟩:∃x,vS ((k:Int) - 1) q j=x:=⟨_,rfl⟩;rw[s]at o y C;obtain⟨rs,z⟩:=X;simp only at o y C;obtain⟨Y,hY⟩:∃x,z.upTo ((k:Int) - 1)=x:=⟨_,rfl⟩;have TU:=qd (λw1 D=>x9 w.heap.size z ((k:Int) - 1) w1 D);rw[hY]at y TU;obtain⟨r,s5⟩:=Y;simp only at y TU;clear s hY;have bN:IntKind.i64.wrap ((k:Int) - 1)=(k:Int) - 1:=by rw[IntKind.wrap_i64];omega
     have c1:=(q9 o).c1;have fz:=(q9 o).fz;have NI:=(q9 o).lt
     go_wp2_with fail
     go_region_with(go_at_call 72;refine(TU _ o.ps.drew).mono ?_;rintro e w4⟨rfl,H,I⟩;have O:=qd (o.kept I.drew' H);have c4:=(q9 O).c1;have f4:=(q9 O).fz;have VP:=(q9 O).lt;clear I H;obtain⟨g,cap,w5,R9,c5,f5,uX,t7⟩:=(q9 O).appR r mw 52;rw[C]at R9 t7)
     all_goals go_wp2_with fail
     all_goals exact⟨⟨j+1,_,mw,rfl,qd (by rw[q9 y];exact q9 t7)⟩,by simp[intOf];omega⟩
    ·have:j=M:=mw
     subst this;obtain⟨X,s⟩:∃x,vS ((k:Int) - 1) q j=x:=⟨_,rfl⟩;rw[s]at o m;obtain⟨rs,z⟩:=X;simp only at o m;clear s;obtain⟨v0,p0,a8⟩:=(q9 o).ps.c0;have p1:=(q9 o).ps.c1;obtain⟨a',c',rfl,bU,_⟩:=a8;have SL:=qd o.prog;have S:=qd o.bel;clear o u HP T1 Q R0 K1 K2
     cases hb:z.bad with
     | true=>
      rw[hb]at p1 m
      go_wp2_with fail
      go_region
      all_goals go_wp2_with fail
      all_goals go_ret2
      all_goals exact⟨_,by rw[q9 m];rfl,by rw[q9 m];exact SL.below nw.drew,S.drew⟩
     | false=>
      rw[hb]at p1 m
      by_cases hz:z.rest.length=0
      ·rw[hz]at p0 m
       go_wp2_with fail
       go_region
       all_goals go_wp2_with fail
       all_goals go_ret2
       all_goals exact⟨_,by rw[q9 m];rfl,by rw[q9 m];exact SL.below nw.drew,S.drew⟩
      ·have cB:((z.rest.length:Int)==0)=false:=ae.2 mw
       have hz'':(z.rest.length==0)=false:=ae.2 hz;rw[hz'']at m
       go_wp2_with fail
       go_region
       all_goals go_wp2_with fail
       all_goals go_ret2
       all_goals exact⟨_,by rw[q9 m];rfl,by rw[q9 m];exact SL.below nw.drew,S.drew⟩
end
section
def cpR(ats:Array TypeId)(ty:TypeId)(args:Array Value):Sem Value:=Builtin.copy_ ats ty args
theorem gS(ats:Array TypeId)(ty:TypeId)(args:Array Value):Builtin.copy_ ats ty args=cpR ats ty args:=rfl
theorem pq(w:World)(r s ty elem:TypeId)(g o dLen dCap:Nat)(a:Addr)(sLen sCap:Nat)(cur:Array Value)(t:TypeId)(cs:List Value)(m:Nat)
  (u:P.underlying r=some (.slice elem)) (h:(P.info? elem).map (·.size)=some m)
  (z:w.heap[g]?=some (.cells cur t (0,0))) (x:cs.length=Nat.min sLen dLen * m)
  (e:∀j v,cs[j]?=some v->w.cell? (a.add j)=some v) (f:o+cs.length<=cur.size) (C:∀v∈cs,v.oneCell'=true) :
  (cpR #[r,s] ty #[.slice (some ⟨g,o,none⟩) dLen dCap,.slice (some a) sLen sCap]).run P w =
   .ok (goInt (Nat.min sLen dLen)) (w.setRow g (cur.toList.take o++cs++cur.toList.drop (o+cs.length)).toArray):=by
 have q:=run_loadCells_list (P:=P) w a cs e;have D:=run_storeCells_at P g o t cs 0 cur w z (by simpa using f) C;unfold cpR
 cases hq:P.info? elem with
 | none=>simp[hq]at h
 | some i=>
  have y:i.size=m:=by simpa [hq]using h
  rw[x]at q;simp[Builtin.copy_,run_underlying u,Builtin.lenOf,Builtin.firstCells,sizeOf,typeInfo,hq,y,q,D]
theorem qd0(w:World)(g q ty elem:TypeId)(d a:Option Addr)(dLen dCap sCap:Nat)(m:Nat)(e:P.underlying g=some (.slice elem))(r:(P.info? elem).map (·.size)=some m):
  (cpR #[g,q] ty #[.slice d dLen dCap,.slice a 0 sCap]).run P w=.ok (goInt 0) w:=by
 unfold cpR
 cases hq:P.info? elem with
 | none=>simp[hq]at r
 | some i=>
  have o:Nat.min 0 dLen=0:=Nat.zero_min _
  cases a with
  | none=>cases d<;>simp[Builtin.copy_,run_underlying e,Builtin.lenOf,Builtin.firstCells,sizeOf,typeInfo,hq,o,storeCells]
  | some a=>
   have f:=run_loadCells_list (P:=P) w a [] (λj v h=>by simp at h);simp only[eo]at f;cases d<;>simp[Builtin.copy_,run_underlying e,Builtin.lenOf,Builtin.firstCells,sizeOf,typeInfo,hq,o,f,storeCells]
end
section
attribute [local go_sem ↓] gS
def vP:Pr:=⟨[115,112,97,114,101],⟨7,7,[]⟩⟩
def prV(p:Pr):Value:=.agg #[.string (BS p.name),.int .i64 p.val.kind,.int .i64 p.val.num,.string (BS p.val.str)]
def jN(p:Pr):List Value:=[.string (BS p.name),.int .i64 p.val.kind,.int .i64 p.val.num,.string (BS p.val.str)]
theorem qh0:(prog.info? 28).map (λi=>(i.zero,i.size,i.bytes))=some (some (.agg #[.string ⟨#[]⟩,.int .i64 0,.int .i64 0,.string ⟨#[]⟩]),4,48):=nl
theorem qd5(w:World):nz 122 #[] w λe w'=>e=.returned (prV vP)/\Xb w w':=by
 go_enter func122,ntmps122
 go_wp2_with fail
 refine nx ⟨rfl,nw.alloc nt _⟩
def EvRow(W:World)(b:Nat)(ps:List Pr)(i:Nat):Prop:=
 ∃f:Nat->Value,W.rowIs b 28 ((ps.length+8) * 4) f /\
  (∀k p,ps[k]?=some p->f (k * 4)=.string (BS p.name)/\f (k * 4+1)=.int .i64 p.val.kind/\f (k * 4+2)=.int .i64 p.val.num/\f (k * 4+3)=.string (BS p.val.str)) /\
  ∀k,k<i->f ((ps.length+k) * 4)=.string (BS vP.name)/\f ((ps.length+k) * 4+1)=.int .i64 vP.val.kind/\f ((ps.length+k) * 4+2)=.int .i64 vP.val.num/\f ((ps.length+k) * 4+3)=.string (BS vP.val.str)
theorem EvRow.of_block(h:EvRow W b ps i)(e:W'.heap[b]?=W.heap[b]?):EvRow W' b ps i:=by
 obtain⟨f,j,g,a⟩:=h;exact⟨f,j.of_block e,g,a⟩
theorem EvRow.lt(h:EvRow W b ps i):b<W.heap.size:=by
 obtain⟨f,a,_⟩:=h;exact a.lt
theorem EvRow.below(h:EvRow W b ps i)(a:Xb W W'):EvRow W' b ps i:=h.of_block (a.block b h.lt)
theorem EvRow.cells(h:EvRow W b ps i)(a:k<(ps.length+8) * 4):∃v,Xc W b k v:=by
 obtain⟨f,e,_⟩:=h;exact⟨_,e.cell a⟩
theorem EvRow.fz(h:EvRow W b ps i)(k:Nat):W.frozen? ⟨b,k,none⟩=false:=by
 obtain⟨f,a,_⟩:=h;exact a.frozen k
theorem EvRow.prop(h:EvRow W b ps i)(j:ps[k]?=some p):W.cell? ⟨b,k * 4,none⟩=some (.string (BS p.name))/\W.cell? ⟨b,k * 4+1,none⟩=some (.int .i64 p.val.kind)/\W.cell? ⟨b,k * 4+2,none⟩=some (.int .i64 p.val.num)/\W.cell? ⟨b,k * 4+3,none⟩=some (.string (BS p.val.str)):=by
 obtain⟨f,g,m,_⟩:=h;have o:=(au.1 j).1;obtain⟨a,c,d,e⟩:=m k p j;exact⟨by rw[g.cell mw,a],by rw[g.cell mw,c],by rw[g.cell mw,d],by rw[g.cell mw,e]⟩
theorem EvRow.spare(h:EvRow W b ps i)(j:k<i)(o:i<=8):W.cell? ⟨b,(ps.length+k) * 4,none⟩=some (.string (BS vP.name))/\W.cell? ⟨b,(ps.length+k) * 4+1,none⟩=some (.int .i64 vP.val.kind)/\W.cell? ⟨b,(ps.length+k) * 4+2,none⟩=some (.int .i64 vP.val.num)/\W.cell? ⟨b,(ps.length+k) * 4+3,none⟩=some (.string (BS vP.val.str)):=by
 obtain⟨f,g,_,m⟩:=h;obtain⟨a,c,d,e⟩:=m k j;exact⟨by rw[g.cell mw,a],by rw[g.cell mw,c],by rw[g.cell mw,d],by rw[g.cell mw,e]⟩
theorem EvRow.ev(h:EvRow W b ps i):EvAt W b 0 ps:=λk p a=>by
 simp only[ee];exact h.prop a
theorem EvRow.step(h:EvRow W b ps i):
  EvRow ((((W.setCell ⟨b,(ps.length+i) * 4,none⟩ (.string (BS vP.name))).setCell ⟨b,(ps.length+i) * 4+1,none⟩ (.int .i64 vP.val.kind)).setCell ⟨b,(ps.length+i) * 4+2,none⟩ (.int .i64 vP.val.num)).setCell ⟨b,(ps.length+i) * 4+3,none⟩ (.string (BS vP.val.str))) b ps (i+1):=by
 obtain⟨f,q,o,m⟩:=h;refine⟨_,(((q.set _ _).set _ _).set _ _).set _ _,λk p g=>?_,λk j=>?_⟩
 ·have j:=(au.1 g).1
  obtain⟨a,c,d,e⟩:=o k p g;refine⟨?_, ?_, ?_, ?_⟩
  ·rw[aj mw,aj mw,aj mw,aj mw];exact a
  ·rw[aj mw,aj mw,aj mw,aj mw];exact c
  ·rw[aj mw,aj mw,aj mw,aj mw];exact d
  ·rw[aj mw,aj mw,aj mw,aj mw];exact e
 ·by_cases hki:k=i
  ·subst hki
   refine⟨?_, ?_, ?_, ?_⟩
   ·rw[aj mw,aj mw,aj mw,bh rfl]
   ·rw[aj mw,aj mw,bh rfl]
   ·rw[aj mw,bh rfl]
   ·rw[bh rfl]
  ·obtain⟨a,c,d,e⟩:=m k mw
   refine⟨?_, ?_, ?_, ?_⟩
   ·rw[aj mw,aj mw,aj mw,aj mw];exact a
   ·rw[aj mw,aj mw,aj mw,aj mw];exact c
   ·rw[aj mw,aj mw,aj mw,aj mw];exact d
   ·rw[aj mw,aj mw,aj mw,aj mw];exact e
theorem vhc{j:Nat}(h:(ps.flatMap jN)[j]?=some v):∃k p c,ps[k]?=some p/\c<4/\j=k * 4+c/\(jN p)[c]?=some v:=by
 induction ps generalizing j with
 | nil=>simp at h
 | cons q t ih=>
  rw[dw]at h
  by_cases hj:j<4
  ·rw[bw (by exact hj)]at h
   exact⟨0,q,j,rfl,hj,mw,h⟩
  ·rw[cj (by show 4<=j;omega)]at h
   obtain⟨k,p,c,f,e,g,a⟩:=ih h;exact⟨k+1,p,c,by simpa using f,e,by have:(jN q).length=4:=rfl;omega,a⟩
theorem yL(ps:List Pr):(ps.flatMap jN).length=ps.length * 4:=by
 induction ps with
 | nil=>rfl
 | cons q t ih=>rw[dw,bu,ih];simp[jN];omega
theorem vj5(a:ps[k]?=some p)(e:c<4):(ps.flatMap jN)[k * 4+c]?=(jN p)[c]?:=by
 induction ps generalizing k with
 | nil=>simp at a
 | cons q t ih=>
  rw[dw];have f:(jN q).length=4:=rfl
  cases k with
  | zero=>
   obtain rfl:q=p:=by simpa using a
   rw[Nat.zero_mul,ee,bw mw]
  | succ k=>
   rw[cj mw,show(k+1) * 4+c - (jN q).length=k * 4+c by omega];exact ih (by simpa using a)
theorem qpu{ev:Value}{xs:List Value}{ty:TypeId}(C7:EvIn W ev ps)(B7:W.ownsRow b 28 4 (.slice (some ⟨b,0,none⟩) (ps.length+8) (ps.length+8)) (ps.length+8) xs):
  ∃W',(cpR #[29,29] ty #[.slice (some ⟨b,0,none⟩) (ps.length+8) (ps.length+8),ev]).run prog W=.ok (goInt ps.length) W'/\Hid (EvRow W' b ps 0)/\Hid (Below b W W'):=by
 obtain⟨i0,u,F2,B9,D8⟩:=info_parts qh0;have G:(prog.info? 28).map (·.size)=some 4:=by rw[u];simp[B9]
 obtain⟨iI,N|⟨g,cap,cur,e,I7,E,aC,_,Z,lC⟩⟩:=B7
 ·cases N.1
 injection e with o e2 U;injection o with o;injection o with o;subst o;have D:cur.size=(ps.length+8) * 4:=by rw[Z,←U]
 rcases C7 with⟨rfl,a,cap',rfl⟩|⟨q,off,cap',rfl,hc,Q,A0⟩
 ·refine⟨W,qd0 W _ _ _ 28 _ _ _ _ _ 4 underlying29 G,qd ⟨λj=>cur.getD j undef,⟨cur,E,D,λi u=>?_⟩,λk p m=>by simp at m,λk s=>mw⟩,qd nw⟩
  rw[Array.getElem?_eq_getElem mw];simp[Array.getD,show i<cur.size by omega]
 ·have F:Nat.min ps.length (ps.length+8)=ps.length:=me mw
  have H:=pq (P:=prog) W 29 29 ty 28 b 0 (ps.length+8) (ps.length+8) ⟨q,off,none⟩ ps.length cap' cur 28 (ps.flatMap jN) 4 underlying29 G E (by rw[F,yL]) (λj v r=>by
    obtain⟨k,p,c,T,S,R,f⟩:=vhc r;obtain⟨M,K,J,I⟩:=Q k p T;have I5:(⟨q,off,none⟩:Addr).add j=⟨q,off+j,none⟩:=by simp[Addr.add]
    rw[I5,R]
    match c,S,f with
    | 0,_,f=>rw[←Nat.add_assoc,Nat.add_zero,M];exact f
    | 1,_,f=>rw[←Nat.add_assoc,K];exact f
    | 2,_,f=>rw[←Nat.add_assoc,J];exact f
    | 3,_,f=>rw[←Nat.add_assoc,I];exact f) (by rw[yL,D];omega) (λv r=>by
    obtain⟨p,_,m⟩:=List.mem_flatMap.1 r;simp[jN]at m
    rcases m with rfl|rfl|rfl|rfl<;>rfl)
  rw[F]at H;refine⟨_,H,qd ?_,qd ⟨rfl,rfl,rfl,by simp[World.setRow],λk s=>setRow_other W b k _ mw⟩⟩;obtain⟨L,C⟩:∃L,cur.toList.take 0++ps.flatMap jN++cur.toList.drop (0+(ps.flatMap jN).length)=L:=⟨_,rfl⟩;rw[C];have y:L.length=(ps.length+8) * 4:=by rw[←C,List.take_zero,ej,bu,dc,yL,show cur.toList.length=(ps.length+8) * 4 from D];omega
  have z:∀j,j<ps.length * 4->L[j]?=(ps.flatMap jN)[j]?:=λj O=>by
   rw[←C,List.take_zero,ej,bw (by rw[yL];exact O)]
  refine⟨λj=>L.getD j undef,⟨L.toArray,setRow_heap W b cur _ _ _ E,by simpa using y,λi u=>?_⟩,λk p m=>?_,λk s=>mw⟩
  ·show L.toArray[i]?=some (L.getD i undef)
   rw[List.getElem?_toArray,aq,ag mw];rfl
  ·have s:=(au.1 m).1
   have key:∀c,c<4->L.getD (k * 4+c) undef=((jN p)[c]?).getD undef:=λc x=>by
    rw[aq,z _ mw,vj5 m x]
   exact⟨key 0 mw,key 1 mw,key 2 mw,key 3 mw⟩
end
end Go.Proofs.YtfkcaldjphakpaaGreatDoor
