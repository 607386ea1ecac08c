/- What is true of bytes -/
import Derived.Test.YtfkcaldjphakpaaGreatDoorM03
import Derived.Test.YtfkcaldjphakpaaGreatDoorM17
import Derived.Lib.Overlaps
import Derived.Lib.AppendZerosOnto
import Derived.ProofKit
import Derived.Deep.Slices
import Derived.Deep.Strs
import Derived.SizedLaws
import Derived.WideKeyArgs
import Derived.Laws.Rows
import Derived.Lib.SmallJoins
set_option maxRecDepth 100000
namespace Go.Proofs.YtfkcaldjphakpaaGreatDoor
open Go.RowKit Go.Proofs.Tryz
variable{m:Int}{pl:List MemPlace}{rs:List Nat}{ps:List Pr}{ts:List Tm}{cs:List Value}{base c fuel k n pb rb:Nat}{a:Option Addr}{P:Program}{s:Ps}{e:TypeId}{ev rv tv:Value}{W W' w w' w1 w2 wr:World}
section
theorem qft(h:(s.take n).2.bad=false):s.bad=false/\n<=s.rest.length:=by
 rw[Ps.take]at h
 split at h
 ·exact⟨h,by assumption⟩
 ·simp[failS]at h
theorem qne(h:s.next.2.bad=false):s.bad=false:=(qft (n:=1) h).1
theorem xW(h:(s.upTo m).2.bad=false):s.bad=false/\((s.upTo m).1:Int)<=m:=by
 rw[Ps.upTo]at h ⊢
 split at h
 ·simp[failS]at h
 ·rename_i b
  rw[aj b];exact⟨qne h,by show(s.next.1.toNat:Int)<=m;omega⟩
theorem qqo(h:s.number.2.bad=false):s.bad=false:=(qft (n:=8) h).1
theorem qfx(h:(s.text m).2.bad=false):s.bad=false/\((s.text m).1.length:Int)<=m:=by
 have f:=qft (s:=(s.upTo m).2) (n:=(s.upTo m).1) h;have b:=xW f.1;refine⟨b.1, ?_⟩;rw[Ps.text,Ps.take_length];exact b.2
theorem vbd(m:Int)(k:Nat)(x:UInt8):Rng (vjp m k x):=by
 have h:∀n:Int,Rng (IntKind.i64.wrap n):=λn=>by have:=qnx n;rw[IntKind.wrap_i64];unfold wrap64 at this;exact this
 unfold vjp bits;exact h _
theorem vbc(l:mv)(k:Nat):Rng (qvb l k):=by
 cases k with
 | zero=>exact⟨by show(_:Int)<=0;decide,by show(0:Int)<=_;decide⟩
 | succ k=>exact vbd _ _ _
structure FitsT(pl:Nat)(t:Tm):Prop where
 op:t.op<=23
 num:Rng t.num
 str:t.str.length<=200
 esc:t.esc.length<=1
 sides:5<=t.op->t.left<pl/\t.right<pl
theorem qsx{pl op:Nat}(h:(s.body pl op).2.bad=false):s.bad=false/\FitsT pl (s.body pl op).1:=by
 have g:Rng 0:=⟨nh,nh⟩;unfold Ps.body at h ⊢
 by_cases h1:op=3\/op=4
 ·rw[bh h1]at h ⊢
  dsimp only at h ⊢
  exact⟨h,by show op<=23;omega,g,bj _,bj _,λf=>by have:5<=op:=f;omega⟩
 rw[aj h1]at h ⊢
 by_cases h2:op=1
 ·rw[bh h2]at h ⊢
  dsimp only at h ⊢
  exact⟨qqo h,by show op<=23;omega,vbc _ _,bj _,bj _,λf=>by have:5<=op:=f;omega⟩
 rw[aj h2]at h ⊢
 by_cases h3:op=22
 ·rw[bh h3]at h ⊢
  dsimp only at h ⊢
  have a:=qfx (s:=((s.upTo ((pl:Int) - 1)).2.text 1).2) (m:=200) h;have b:=qfx (s:=(s.upTo ((pl:Int) - 1)).2) (m:=1) a.1;have c:=xW (s:=s) (m:=(pl:Int) - 1) b.1;refine⟨c.1,by show op<=23;omega,g,by have:=a.2;dsimp only;omega,by have:=b.2;dsimp only;omega,λ_=>?_⟩;have:=c.2;exact⟨by dsimp only;omega,by show 0<pl;omega⟩
 rw[aj h3]at h ⊢
 by_cases h4:op=0\/op=2
 ·rw[bh h4]at h ⊢
  dsimp only at h ⊢
  have a:=qfx (s:=s) (m:=200) h;exact⟨a.1,by show op<=23;omega,g,by have:=a.2;dsimp only;omega,bj _,λf=>by have:5<=op:=f;omega⟩
 rw[aj h4]at h ⊢
 by_cases f:jk op=true
 ·rw[bh f]at h ⊢
  dsimp only at h ⊢
  have a:=xW (s:=(s.upTo ((pl:Int) - 1)).2) (m:=(pl:Int) - 1) h;have b:=xW (s:=s) (m:=(pl:Int) - 1) a.1;refine⟨b.1, ?_,g,bj _,bj _,λ_=>?_⟩
  ·simp[jk]at f
   show op<=23;omega
  ·have:=a.2
   have:=b.2;exact⟨by dsimp only;omega,by dsimp only;omega⟩
 rw[aj f]at h ⊢
 by_cases h6:op=5\/op=23
 ·rw[bh h6]at h ⊢
  dsimp only at h ⊢
  have a:=xW (s:=s) (m:=(pl:Int) - 1) h;refine⟨a.1,by show op<=23;omega,g,bj _,bj _,λ_=>?_⟩;have:=a.2;exact⟨by dsimp only;omega,by show 0<pl;omega⟩
 rw[aj h6]at h;simp[failS]at h
theorem qxp{pl:Nat}(h:(s.term pl).2.bad=false):s.bad=false/\FitsT pl (s.term pl).1:=by
 have:=qsx h;exact⟨qne this.1,this.2⟩
theorem qme(h:(vE s k).2.bad=false):s.bad=false/\∀i t,(vE s k).1[i]?=some t->FitsT i t:=by
 induction k with
 | zero=>exact⟨h,λi t f=>by simp[vE]at f⟩
 | succ k ih=>
  have a:=qxp h;have b:=ih a.1;refine⟨b.1,λi t f=>?_⟩;rw[vE]at f;have g:=yR s k;rcases Nat.lt_or_ge i k with j|j
  ·rw[bw mw]at f
   exact b.2 i t f
  ·have l:i=k:=by
    have:=(au.1 f).1;rw[bu,da]at this;omega
   subst l;rw[cj mw,g,iu]at f;simp at f;subst f;exact a.2
theorem qky(h:(vS m s k).2.bad=false):s.bad=false/\∀r∈(vS m s k).1,(r:Int)<=m:=by
 induction k with
 | zero=>exact⟨h,λr f=>by simp[vS]at f⟩
 | succ k ih=>
  have a:=xW h;have b:=ih a.1;refine⟨b.1,λr f=>?_⟩;rw[vS,cr]at f;rcases f with f|f
  ·exact b.2 r f
  ·simp at f
   subst f;exact a.2
structure Prg(ts:List Tm)(rs:List Nat):Prop where
 terms:ts.length<=80
 roots:rs.length<=8
 fits:∀i t,ts[i]?=some t->FitsT i t
 below:∀r∈rs,r<ts.length
theorem qr2{code:mv}(h:(yh code).2.2=true):Prg (yh code).1 (yh code).2.1:=by
 have g:(qhr code).2.bad=false:=by
  simp only[yh,cn,mr]at h;exact h.1
 have a:=qky g;have b:=qme a.1;have c:=xW b.1;have d:=xW c.1;have i:(yh code).1.length=(qak code).1:=yR _ _;have f:(yh code).2.1.length=(qal code).1:=pi _ _ _;refine⟨?_, ?_,b.2,λr f=>?_⟩
 ·have:((qak code).1:Int)<=80:=d.2
  omega
 ·have:((qal code).1:Int)<=8:=c.2
  omega
 ·have:=a.2 r f
  omega
end
section
theorem pN{a:World}(h:Xb a w)(b:Kept rb w w')(g:a.heap.size<=rb):Xb a w':=
 ⟨b.os.trans h.os,b.tape.trans h.tape,b.output.trans h.output,bs h.size b.size,λk f=>(b.block k (by have:=h.size;omega) mw).trans (h.block k f)⟩
structure RdL(w wr:World)(rb pb:Nat)(s:Ps)(ts:List Tm)(tv:Value)(rs:List Nat)(rv:Value):Prop where
 ps:PsAt wr rb s
 c0:wr.cell? ⟨pb,0,none⟩=some tv
 c1:wr.cell? ⟨pb,1,none⟩=some rv
 fz:∀j,wr.frozen? ⟨pb,j,none⟩=false
 lo:rb<pb
 lt:pb<wr.heap.size
 ats:TsAt wr (pb+1) tv ts
 ars:IsAt wr (pb+1) rv rs
 ne:∀g,tv.ownBlock=some g->rv.ownBlock≠some g
 old:w.heap.size<=rb
 bel:Below w.heap.size w wr
theorem RdL.kept{f:Ps}(h:RdL w wr rb pb s ts tv rs rv)(b:Kept rb wr w1)(i:PsAt w1 rb f):RdL w w1 rb pb f ts tv rs rv:=by
 have o:=h.lo;obtain⟨g,l⟩:=jG b
 exact⟨i,(g pb 0 h.lt mw).trans h.c0,(g pb 1 h.lt mw).trans h.c1,λj=>(l pb j h.lt mw).trans (h.fz j),o,bg h.lt b.size,
  yK h.ats b mw,yK h.ars b mw,h.ne,h.old,pN h.bel b h.old⟩
theorem RdL.alloc(h:RdL w wr rb pb s ts tv rs rv)(o:Obj):RdL w (wr.alloc o) rb pb s ts tv rs rv:=
 h.kept ((Kept.refl rb wr).alloc o) (h.ps.alloc o)
theorem PsAt.drew(h:PsAt w rb s):PsAt w.drew rb s:=h.same h.lt λ_ _=>rfl
theorem Kept.drew'(h:Kept rb w.drew w1):Kept rb w w1:=⟨h.os,h.tape,h.output,h.size,h.block⟩
theorem RdL.addT(h:RdL w W rb pb s ts tv rs rv){t:Tm}{g cap H:Nat}
  (C:w2.ownsRow (pb+1) 125 6 (.slice (some ⟨g,0,none⟩) (ts.length+1) cap) (ts.length+1) (zK ts++xH t)) (f:W.grownBy w2 tv.ownBlock) (o:tv.ownBlock=some g\/g=H) (E:W.heap.size=H) :
  RdL w (w2.setCell ⟨pb,0,none⟩ (.slice (some ⟨g,0,none⟩) (ts.length+1) cap)) rb pb s (ts++[t]) (.slice (some ⟨g,0,none⟩) (ts.length+1) cap) rs rv:=by
 have A:=h.lo;have F:=h.lt;have B:∀k,tv.ownBlock=some k->pb+1<=k:=λk b=>(h.ats.lt k b).1
 have D:=f.size;have l:∀k,k<=pb->w2.heap[k]?=W.heap[k]?:=λk b=>f.block k mw (λe=>by have:=B k e.symm;omega)
 have r:∀k,k<pb->(w2.setCell ⟨pb,0,none⟩ (.slice (some ⟨g,0,none⟩) (ts.length+1) cap)).heap[k]?=W.heap[k]?:=λk b=>(bo w2 ⟨pb,0,none⟩ _ k (by show k≠pb;omega)).trans (l k mw)
 have c0:Xc w2 pb 0 tv:=(aw (w:=W) (w':=w2) (a:=⟨pb,0,none⟩) (l pb nt)).trans h.c0;have c1:Xc w2 pb 1 rv:=(aw (w:=W) (w':=w2) (a:=⟨pb,1,none⟩) (l pb nt)).trans h.c1;have fz:Xf w2 pb:=λj=>(cf (w:=W) (w':=w2) (a:=⟨pb,j,none⟩) (l pb nt)).trans (h.fz j)
 refine⟨h.ps.same my λk b=>r k mw,by simp[go_sem,c0],by simp[go_sem,c1],λj=>by simp[go_sem,fz],A,my, ?_, ?_, ?_,h.old, ?_⟩
 ·show World.ownsRow _ _ _ _ _ _ _
  rw[bu,da,zK,ij,List.flatMap_singleton];exact ownsRow_setCell_below C (by show pb<pb+1;omega) _
 ·refine vm h.ars λi hg'=>?_
  have u:=h.ars.lt i hg';rw[bo w2 ⟨pb,0,none⟩ _ i (by show i≠pb;omega)];exact f.block i u.2 (λe=>h.ne i e.symm hg')
 ·intro y z q
  have x:g=y:=by simpa [Value.ownBlock]using z
  subst x;rcases o with o|o
  ·exact h.ne g o q
  ·have:=(h.ars.lt g q).2
   omega
 ·exact⟨(f.os.trans h.bel.os),(f.tape.trans h.bel.tape),(f.output.trans h.bel.output),by have:=h.bel.size;simp;omega,λk b=>(r k (by have:=h.old;omega)).trans (h.bel.block k b)⟩
theorem RdL.addR(h:RdL w W rb pb s ts tv rs rv){t:Nat}{g cap H:Nat}
  (C:w2.ownsRow (pb+1) 3 1 (.slice (some ⟨g,0,none⟩) (rs.length+1) cap) (rs.length+1) (jX rs++[.int .i64 t])) (f:W.grownBy w2 rv.ownBlock) (o:rv.ownBlock=some g\/g=H) (E:W.heap.size=H) :
  RdL w (w2.setCell ⟨pb,1,none⟩ (.slice (some ⟨g,0,none⟩) (rs.length+1) cap)) rb pb s ts tv (rs++[t]) (.slice (some ⟨g,0,none⟩) (rs.length+1) cap):=by
 have A:=h.lo;have F:=h.lt;have B:∀k,rv.ownBlock=some k->pb+1<=k:=λk b=>(h.ars.lt k b).1
 have D:=f.size;have l:∀k,k<=pb->w2.heap[k]?=W.heap[k]?:=λk b=>f.block k mw (λe=>by have:=B k e.symm;omega)
 have r:∀k,k<pb->(w2.setCell ⟨pb,1,none⟩ (.slice (some ⟨g,0,none⟩) (rs.length+1) cap)).heap[k]?=W.heap[k]?:=λk b=>(bo w2 ⟨pb,1,none⟩ _ k (by show k≠pb;omega)).trans (l k mw)
 have c0:Xc w2 pb 0 tv:=(aw (w:=W) (w':=w2) (a:=⟨pb,0,none⟩) (l pb nt)).trans h.c0;have c1:Xc w2 pb 1 rv:=(aw (w:=W) (w':=w2) (a:=⟨pb,1,none⟩) (l pb nt)).trans h.c1;have fz:Xf w2 pb:=λj=>(cf (w:=W) (w':=w2) (a:=⟨pb,j,none⟩) (l pb nt)).trans (h.fz j)
 refine⟨h.ps.same my λk b=>r k mw,by simp[go_sem,c0],by simp[go_sem,c1],λj=>by simp[go_sem,fz],A,my, ?_, ?_, ?_,h.old, ?_⟩
 ·refine vm h.ats λi hg'=>?_
  have x:=h.ats.lt i hg';rw[bo w2 ⟨pb,1,none⟩ _ i (by show i≠pb;omega)];exact f.block i x.2 (λe=>h.ne i hg' e.symm)
 ·show World.ownsRow _ _ _ _ _ _ _
  rw[bu,da,jX,dt];exact ownsRow_setCell_below C (by show pb<pb+1;omega) _
 ·intro z q u
  have y:g=z:=by simpa [Value.ownBlock]using u
  subst y;rcases o with o|o
  ·exact h.ne g q o
  ·have:=(h.ats.lt g q).2
   omega
 ·exact⟨(f.os.trans h.bel.os),(f.tape.trans h.bel.tape),(f.output.trans h.bel.output),by have:=h.bel.size;simp;omega,λk b=>(r k (by have:=h.old;omega)).trans (h.bel.block k b)⟩
theorem RdL.far(h:RdL w W rb pb s ts tv rs rv){row:Option Nat}(g:W.grownBy w2 row)(i:row=tv.ownBlock\/row=rv.ownBlock):
  Xc w2 pb 0 tv/\Xc w2 pb 1 rv/\(Xf w2 pb)/\pb<w2.heap.size:=by
 have l:∀k,row=some k->pb+1<=k:=λk f=>by
  rcases i with rfl|rfl
  ·exact(h.ats.lt k f).1
  ·exact(h.ars.lt k f).1
 have b:w2.heap[pb]?=W.heap[pb]?:=g.block pb h.lt (λe=>by have:=l pb e.symm;omega);exact⟨(aw (w:=W) (w':=w2) (a:=⟨pb,0,none⟩) b).trans h.c0,(aw (w:=W) (w':=w2) (a:=⟨pb,1,none⟩) b).trans h.c1,λj=>(cf (w:=W) (w':=w2) (a:=⟨pb,j,none⟩) b).trans (h.fz j),bg h.lt g.size⟩
def ki(ats:Array TypeId)(ty:TypeId)(args:Array Value):Sem Value:=Builtin.append_ ats ty args
theorem jt(ats:Array TypeId)(ty:TypeId)(args:Array Value):Builtin.append_ ats ty args=ki ats ty args:=rfl
theorem RdL.appT(h:RdL w W rb pb s ts tv rs rv)(t:Tm)(C:ts.length<=1000)(ty:TypeId):
  ∃g cap b,(ki #[114,114] ty #[tv,.slice (some ⟨W.heap.size,0,none⟩) 1 1]).run prog (W.alloc (.cells #[.int .i64 t.op,.int .i64 t.left,.int .i64 t.right,.int .i64 t.num,.string (BS t.str),.string (BS t.esc)] 125))=.ok (.slice (some ⟨g,0,none⟩) (ts.length+1) cap) b /\
   Xc b pb 0 tv/\(Xf b pb)/\pb<b.heap.size /\
   Hid (RdL w (b.setCell ⟨pb,0,none⟩ (.slice (some ⟨g,0,none⟩) (ts.length+1) cap)) rb pb s (ts++[t]) (.slice (some ⟨g,0,none⟩) (ts.length+1) cap) rs rv):=by
 obtain⟨l,q,x,A,y⟩:=info_parts qbk;have f:=h.alloc (.cells #[.int .i64 t.op,.int .i64 t.left,.int .i64 t.right,.int .i64 t.num,.string (BS t.str),.string (BS t.esc)] 125);have D:=h.lt;obtain⟨g,cap,b,o,B,i,z,_⟩:=run_append_lies (P:=prog) (W.alloc (.cells #[.int .i64 t.op,.int .i64 t.left,.int .i64 t.right,.int .i64 t.num,.string (BS t.str),.string (BS t.esc)] 125)) 114 ty (pb+1) 125 l _ 6 64 underlying114 q x A y rfl mw tv ts.length (zK ts) f.ats
  ⟨W.heap.size,0,none⟩ 1 1 (xH t) rfl (World.news_of_block (cs:=#[.int .i64 t.op,.int .i64 t.left,.int .i64 t.right,.int .i64 t.num,.string (BS t.str),.string (BS t.esc)]) (t:=125) (fr:=(0,0)) (heap_alloc_new W _)) (by simp[xH,Value.oneCell']) mw (by unfold maxLen;omega) mw my _ rfl
 obtain⟨u,_,r,j⟩:=f.far i (.inl rfl);exact⟨g,cap,b,o,u,r,j,qd (f.addT B i z rfl)⟩
theorem RdL.appR(h:RdL w W rb pb s ts tv rs rv)(r:Nat)(D:rs.length<=1000)(ty:TypeId):
  ∃g cap b,(ki #[52,52] ty #[rv,.slice (some ⟨W.heap.size,0,none⟩) 1 1]).run prog (W.alloc (.cells #[.int .i64 r] 3))=.ok (.slice (some ⟨g,0,none⟩) (rs.length+1) cap) b /\
   Xc b pb 1 rv/\(Xf b pb)/\pb<b.heap.size /\
   Hid (RdL w (b.setCell ⟨pb,1,none⟩ (.slice (some ⟨g,0,none⟩) (rs.length+1) cap)) rb pb s ts tv (rs++[r]) (.slice (some ⟨g,0,none⟩) (rs.length+1) cap)):=by
 obtain⟨l,q,y,B,z⟩:=info_parts kq;have f:=h.alloc (.cells #[.int .i64 r] 3);have E:=h.lt;obtain⟨g,cap,b,o,C,i,A,_⟩:=run_append_lies (P:=prog) (W.alloc (.cells #[.int .i64 r] 3)) 52 ty (pb+1) 3 l _ 1 8 underlying52 q y B z rfl mw rv rs.length (jX rs) f.ars
  ⟨W.heap.size,0,none⟩ 1 1 [.int .i64 r] rfl (World.news_of_block (cs:=#[.int .i64 r]) (t:=3) (fr:=(0,0)) (heap_alloc_new W _)) (by simp[Value.oneCell']) mw (by unfold maxLen;omega) mw my _ rfl
 obtain⟨_,x,u,j⟩:=f.far i (.inr rfl);exact⟨g,cap,b,o,x,u,j,qd (f.addR C i A rfl)⟩
structure ProgAt(w:World)(pb o:Nat)(ts:List Tm)(rs:List Nat):Prop where
 lt:pb<w.heap.size
 c0:∃tv base,w.cell? ⟨pb,o,none⟩=some tv/\TsAt w base tv ts
 c1:∃rv base,w.cell? ⟨pb,o+1,none⟩=some rv/\IsAt w base rv rs
theorem ProgAt.below{o:Nat}(h:ProgAt w pb o ts rs)(b:Xb w w'):ProgAt w' pb o ts rs:=by
 obtain⟨f,⟨tv,l,j,p⟩,rv,b1,i,g⟩:=h;exact⟨bg f b.size,⟨tv,l,(b.cell f).trans j,qq p b nt⟩,rv,b1,(b.cell f).trans i,qq g b nt⟩
theorem RdL.prog(h:RdL w wr rb pb s ts tv rs rv):ProgAt wr pb 0 ts rs:=
 ⟨h.lt,⟨tv,_,h.c0,h.ats⟩,rv,_,h.c1,h.ars⟩
end
section
def EvIn(w:World)(ev:Value)(ps:List Pr):Prop:=
 (ps=[]/\∃a cap,ev=.slice a 0 cap)\/∃b off cap,ev=.slice (some ⟨b,off,none⟩) ps.length cap/\ps.length<=cap/\EvAt w b off ps/\b<w.heap.size
theorem EvIn.below(h:EvIn w ev ps)(f:Xb w w'):EvIn w' ev ps:=by
 rcases h with h|⟨b,off,cap,rfl,j,i,g⟩
 ·exact .inl h
 ·exact .inr ⟨b,off,cap,rfl,j,i.below f g,bg g f.size⟩
theorem EvIn.slice(h:EvIn w ev ps):∃a n c,ev=.slice a n c:=by
 rcases h with⟨_,a,cap,rfl⟩|⟨b,off,cap,rfl,_⟩
 ·exact⟨_,_,_,rfl⟩
 ·exact⟨_,_,_,rfl⟩
theorem EvIn.arg(h:EvIn w ev ps)(g:ps.length<=8):EvArg w ev ps:=by
 refine⟨g, ?_⟩;rcases h with h|⟨b,off,cap,rfl,j,f,i⟩
 ·exact .inl h
 ·exact .inr ⟨b,off,cap,rfl,f,i⟩
structure EvGood(ps:List Pr):Prop where
 short:qsh ps
 rng:qdw ps
 len:ps.length<=140737488355328
theorem vdj(h:EvIn w ev ps)(f:EvGood ps):
  nz 37 #[ev] w λe w'=>e=.returned (.bool (xK ps))/\Xb w w':=by
 rcases h with⟨rfl,a,cap,rfl⟩|⟨b,off,cap,rfl,i,g,j⟩
 ·exact qmj a cap w
 ·exact qjv b off cap ps w i f.len f.short g j
theorem vdw(h:xK ps=true):ps.length<=8:=by
 apply Decidable.byContradiction;intro b;rw[qgs b]at h;cases h
theorem vfw(h:xK ps=true){p:Pr}(f:p∈ps):jx p.name=true/\kV p.val=true:=by
 obtain⟨k,b⟩:=dy f;unfold xK at h;rw[cn,List.all_eq_true]at h;obtain⟨g,_⟩:=au.1 b;have:=h.2 k (ff.2 g);unfold qct at this;rw[b]at this;simp only[cn]at this;exact this.1
theorem qyb{v:V}(h:kV v=true):v.str.length<=20:=by
 apply Decidable.byContradiction;intro b
 have f:v.str.isEmpty=false:=by cases hs:v.str with
  | nil=>rw[hs]at b;simp at b
  | cons c t=>rfl
 have hd:decide (v.str.length<=20)=false:=cw b;simp only[kV,f,hd,fj,cu,ite_self]at h
theorem qtm(h:xK ps=true):vdq ps:=λp b=>bs (qyb (vfw h b).2) nh
theorem qhs{s:mu}{t:Ast}(h:vj s=.ok t):qg9 t/\qg6 t:=⟨pU ve9 h,pU vdt h⟩
structure Ans where
 val:V
 errno:Int
 place:Int
def pS(s:ByteArray)(ps:List Pr):Ans:=match vj s with
 | .err en pl=>⟨nV,en,pl⟩
 | .ok t=>if xK ps then⟨ofA ps t,0,0⟩ else⟨nV,7,0⟩
end
section
structure Mg where
 pri:Int
 num:Int
end
section
variable {P:Program}
theorem qbz{size g cap:Nat}{xs:List Value}(h:w.ownsRow base e size (.slice (some ⟨g,0,none⟩) n cap) n xs):base<=g/\n<=cap/\cap<=maxLen/\∃cur,w.heap[g]?=some (.cells cur e (0,0))/\cur.size=cap * size/\cur.toList.take (n * size)=xs:=by
 rcases h.2 with⟨b,_⟩|⟨r,cap',p,b,l,j,o,f,q,i⟩
 ·simp at b
 ·simp at b
  obtain⟨rfl,rfl⟩:=b;exact⟨l,o,f,p,j,q,i⟩
end
section
open Go.ChangeShapes Go.WideShapes Go.ChangeAt Go.RowKit Go.Deep Go.Proofs.Tryz
theorem qgg:prog.cellsOf 28=4:=nl
theorem qzc:prog.cellsOf 26=3:=nl
theorem qar:prog.cellsOf 9=1:=nl
theorem qms:prog.cellsOf 3=1:=nl
theorem qz9:prog.cellsOf 2=1:=nl
theorem qgf:prog.bytesOf 28=48:=nl
section
variable {H:Type} {enc:TypeId×Value->H}
theorem qpb{n:Int}(h:(Lit.int .i64 n).wf=true):Rng n:=by
 simp only[Lit.wf,cn,du]at h;exact⟨h.1,h.2⟩
theorem qvj{y:Nat->Bool}{x:DataW H×List MemPlace}(h:DataW.trod enc prog W base y true n 28 cs=some x):
  ∃(b st:mu) (k m:Int),cs=[.string b,.int .i64 k,.int .i64 m,.string st]/\x=(.agg [.lit (.string b.data.toList),.agg [.lit (.int .i64 k),.lit (.int .i64 m),.lit (.string st.data.toList)]],[])/\Rng m:=by
 obtain⟨D,C,F,rfl,o,l,j⟩:=trod_struct2 underlying28 h;rw[qgg]at o
 match cs,o with
 | [c0,c1,c2,c3],_=>
  simp only[qar,qzc,List.drop,List.take]at l j;obtain⟨b,t,rfl,_⟩:=DataW.trod_string underlying9 l;obtain⟨B,A,z,E,rfl,_,i,g,f⟩:=trod_struct3 underlying26 j;simp only[qms,qz9,qar,List.drop,List.take]at i g f;obtain⟨k,r,rfl,_⟩:=DataW.trod_int underlying3 i;obtain⟨m,q,rfl,u⟩:=DataW.trod_int underlying2 g;obtain⟨st,p,rfl,_⟩:=DataW.trod_string underlying9 f;simp only[List.cons.injEq,and_true]at t r q p;subst t r q p;exact⟨b,st,k,m,rfl,rfl,qpb u⟩
theorem gH{d:DataW H}:∀{l:List (DataW H)},d∈l->∀n∈d.weights P e,n∈DataW.weightsAll P e l:=by
 intro l
 induction l with
 | nil=>intro h;cases h
 | cons a r ih=>
  intro h n b;rw[DataW.weightsAll];rcases eg.1 h with rfl|h
  ·exact fo _ b
  ·exact li _ (ih h n b)
theorem qio(b st:mv)(k m:Int):(DataW.agg [.lit (.string b),.agg [.lit (.int .i64 k),.lit (.int .i64 m),.lit (.string st)]]:DataW H).weights prog 28=[b.length,st.length]:=by
 rw[DataW.weights,underlying28];simp only[List.map,DataW.weightsEach,DataW.weights,underlying26];rfl
theorem qf1{d:DataW H}(S:DataW.trod enc prog W 0 (λ_=>true) true fuel 29 cs=some (d,pl))
  (R:∀n∈d.weights prog 29,n<=reachBytes):∃v ps,cs=[v]/\EvIn W v ps/\EvGood ps:=by
 rcases open_slice underlying29 S with⟨F,E⟩|⟨a,len0,AW,m,n,D,Pl,F,_,X,hm,J,E,L⟩
 ·exact⟨_,[],F,.inl ⟨rfl,none,0,rfl⟩,⟨(λp q=>by cases q),(λp q=>by cases q),bj _⟩⟩
 ·simp only[if_true]at J
  subst J;simp only[Prod.mk.injEq]at E;obtain⟨rfl,rfl⟩:=E;refine⟨.slice (some a) len0 m, ?_⟩
  suffices hgoal:∃ps,EvIn W (.slice (some a) len0 m) ps/\EvGood ps by
   obtain⟨ps,r,o⟩:=hgoal;exact⟨ps,F,r,o⟩
  rw[qgg]at L;have each:∀i,i<len0->∃p:Pr,(W.cell? (a.add (i * 4))=some (.string (BS p.name))/\W.cell? (a.add (i * 4+1))=some (.int .i64 p.val.kind)/\W.cell? (a.add (i * 4+2))=some (.int .i64 p.val.num)/\W.cell? (a.add (i * 4+3))=some (.string (BS p.val.str)))/\Rng p.val.num /\
    D i=.agg [.lit (.string p.name),.agg [.lit (.int .i64 p.val.kind),.lit (.int .i64 p.val.num),.lit (.string p.val.str)]]:=by
   intro i hi;obtain⟨cs',r,o⟩:=L i mw;obtain⟨O,st,k,Q,rfl,A,t⟩:=qvj o;simp only[Prod.mk.injEq]at A;obtain⟨_,_,C⟩:=World.cells?_some r;have c0:=C 0 nh;have z:=C 1 nh;have y:=C 2 nh;have x:=C 3 nh;rw[add_add]at c0 z y x;exact⟨⟨O.data.toList,⟨k,Q,st.data.toList⟩⟩,⟨c0,z,y,x⟩,t,A.1⟩
  have inh:Inhabited Pr:=⟨⟨[],nV⟩⟩;obtain⟨f,u⟩:=choose_lt each
  have I:∀(k:Nat) (p:Pr),((List.range len0).map f)[k]?=some p->k<len0/\p=f k:=by
   intro k p g;rw[dd]at g
   cases t:(List.range len0)[k]? with
   | none=>rw[t]at g;cases g
   | some j=>
    rw[t]at g;obtain⟨r,o⟩:=au.1 t;rw[fh]at r;rw[List.getElem_range]at o;subst o;exact⟨r,by simpa using g.symm⟩
  have G:((List.range len0).map f).length=len0:=by rw[ep,fh]
  have K:∀p∈(List.range len0).map f,∃k,k<len0/\p=f k:=by
   intro p q;obtain⟨k,g⟩:=dy q;exact⟨k,I k p g⟩
  have B:=R;rw[DataW.weights,underlying29]at B;simp only[eg,cr]at B;refine⟨(List.range len0).map f, ?_,⟨?_, ?_, ?_⟩⟩
  ·cases len0 with
   | zero=>exact .inl ⟨rfl,some a,_,rfl⟩
   | succ l=>
    right
    obtain⟨b,off,spot⟩:=a
    have T:spot=none:=by
     have:=World.cell?_spot (u 0 mw).1.1;simpa [Addr.add]using this
    subst T;have M:∀j,(⟨b,off,none⟩:Addr).add j=⟨b,off+j,none⟩:=by intro j;simp[Addr.add]
    refine⟨b,off,_,by rw[G],by rw[G];exact X, ?_, ?_⟩
    ·intro k p g
     obtain⟨A5,rfl⟩:=I k p g;obtain⟨⟨c0,z,y,x⟩,_,_⟩:=u k A5;rw[M]at c0 z y x;exact⟨c0,z,y,x⟩
    ·have:=(u 0 mw).1.1
     rw[M]at this;exact block_lt_of_cell this
  ·intro p q
   obtain⟨k,g,rfl⟩:=K p q;have A:=(u k g).2.2;have N:D k∈(List.range len0).map D:=fw.2 ⟨k,ff.2 g,rfl⟩;have o:=λn U=>B n (.inr (.inl (gH N n U)))
   rw[A,qio]at o;have Z:=o _ (by simp:(f k).name.length∈[(f k).name.length,(f k).val.str.length]);have Y:=o _ (by simp:(f k).val.str.length∈[(f k).name.length,(f k).val.str.length]);unfold reachBytes at Z Y;exact⟨mw,mw⟩
  ·intro p q
   obtain⟨k,g,rfl⟩:=K p q;exact(u k g).2.1
  ·have:=B _ (.inl rfl)
   rw[qgf,ep,fh]at this;rw[G];unfold reachBytes at this;omega
end
end
section
open Go.ChangeShapes Go.WideShapes Go.ChangeAt Go.RowKit Go.Deep Go.Proofs.Tryz
structure Ox where
 kind:Int
 n:Int
 id:Int
 text:List UInt8
 la:Option Addr
 lc:Nat
 ts:List (List UInt8)
 ev:Value
 ps:List Pr
def TxIn(W:World)(a:Option Addr)(ts:List (List UInt8)):Prop:=
 ∀(k:Nat) (s:List UInt8),ts[k]?=some s->s.length<=140737488355328/\∃sb so,a=some ⟨sb,so,none⟩/\sb<W.heap.size/\W.cell? ⟨sb,so+k,none⟩=some (.string (BS s))
structure OxOk(W:World)(x:Ox):Prop where
 text:x.text.length<=140737488355328
 kind:Rng x.kind
 n:Rng x.n
 id:Rng x.id
 tx:TxIn W x.la x.ts
 tl:16 * x.ts.length<=140737488355328
 tc:x.ts.length<=x.lc
 ev:EvIn W x.ev x.ps
 good:EvGood x.ps
 el:48 * x.ps.length<=140737488355328
theorem TxIn.below{ts:List mv}(h:TxIn W a ts)(b:Xb W W'):TxIn W' a ts:=λk s j=>by
 obtain⟨p,i,g,o,f,l⟩:=h k s j;exact⟨p,i,g,o,bg f b.size,((qj b).1 _ _ f).trans l⟩
theorem OxOk.below{x:Ox}(h:OxOk W x)(b:Xb W W'):OxOk W' x:=⟨h.text,h.kind,h.n,h.id,h.tx.below b,h.tl,h.tc,h.ev.below b,h.good,h.el⟩
def qc0(x:Ox):List Value:=[.int .i64 x.kind,.int .i64 x.n,.int .i64 x.id,.string (BS x.text),.slice x.la x.ts.length x.lc,x.ev]
def oxV(x:Ox):Value:=.agg #[.int .i64 x.kind,.int .i64 x.n,.int .i64 x.id,.string (BS x.text),.slice x.la x.ts.length x.lc,x.ev]
def vf6(W:World)(v:Value)(l:List Ox):Prop:=
 ∃a cap,v=.slice a l.length cap/\l.length<=cap/\88 * l.length<=140737488355328/\∀(i:Nat) (x:Ox),l[i]?=some x->OxOk W x/\∃b off,a=some ⟨b,off,none⟩/\b<W.heap.size/\∀k,k<6->W.cell? ⟨b,off+i * 6+k,none⟩=(qc0 x)[k]?
theorem qt0:prog.cellsOf 64=6:=nl
theorem qz8:prog.cellsOf 29=1:=nl
theorem vfi:prog.cellsOf 62=1:=nl
theorem vfe:prog.bytesOf 64=88:=nl
theorem qz6:prog.bytesOf 9=16:=nl
section
variable {H:Type} {enc:TypeId×Value->H}
theorem qih{spare:Nat->Bool}{b:Bool}{t:TypeId}{q o l j i g:Field}{x:DataW H×List MemPlace}(r:P.underlying t=some (.struct #[q,o,l,j,i,g]))(h:DataW.trod enc P w base spare b fuel t cs=some x):
  ∃y0 y1 y2 y3 y4 y5 n,x.1=.agg [y0.1,y1.1,y2.1,y3.1,y4.1,y5.1]/\cs.length=P.cellsOf t/\DataW.trod enc P w base spare b n q.type ((cs.drop q.offset).take (P.cellsOf q.type))=some y0 /\
   DataW.trod enc P w base spare b n o.type ((cs.drop o.offset).take (P.cellsOf o.type))=some y1/\DataW.trod enc P w base spare b n l.type ((cs.drop l.offset).take (P.cellsOf l.type))=some y2 /\
   DataW.trod enc P w base spare b n j.type ((cs.drop j.offset).take (P.cellsOf j.type))=some y3/\DataW.trod enc P w base spare b n i.type ((cs.drop i.offset).take (P.cellsOf i.type))=some y4 /\
   DataW.trod enc P w base spare b n g.type ((cs.drop g.offset).take (P.cellsOf g.type))=some y5:=by
 obtain⟨xs,n,_,rfl,u,y,f⟩:=DataW.trod_struct r h
 match xs,y with
 | [y0,y1,y2,y3,y4,y5],_=>exact⟨y0,y1,y2,y3,y4,y5,n,mx,u,by simpa using f 0 q rfl,by simpa using f 1 o rfl,by simpa using f 2 l rfl,by simpa using f 3 j rfl,by simpa using f 4 i rfl,by simpa using f 5 g rfl⟩
theorem qf2{d:DataW H}(F:DataW.trod enc prog W 0 (λ_=>true) true fuel 62 cs=some (d,pl))
  (E:∀n∈d.weights prog 62,n<=reachBytes):∃a ts c,cs=[.slice a ts.length c]/\TxIn W a ts/\16 * ts.length<=140737488355328/\ts.length<=c:=by
 rcases open_slice underlying62 F with⟨u,t⟩|⟨a,len0,U,m,n,D,T,u,_,I,S,y,t,A⟩
 ·exact⟨none,[],0,u,(λk s h=>by simp at h),bj _,bj _⟩
 ·simp only[if_true]at y
  subst y;simp only[Prod.mk.injEq]at t;obtain⟨rfl,rfl⟩:=t;rw[qar]at A;have q:=E;rw[DataW.weights,underlying62]at q;simp only[eg,cr]at q
  have each:∀i,i<len0->∃s:mv,s.length<=140737488355328/\W.cell? (a.add i)=some (.string (BS s)):=by
   intro i J;obtain⟨N,o,l⟩:=A i mw;obtain⟨st,M,L,_⟩:=DataW.trod_string underlying9 l;have B:D i∈(List.range len0).map D:=fw.2 ⟨i,ff.2 J,rfl⟩;have K:D i=.lit (.string st.data.toList):=by simpa using congrArg Prod.fst L
   have O:st.data.toList.length<=reachBytes:=q _ (.inr (.inl (gH B _ (by rw[K];simp[DataW.weights]))));obtain⟨_,_,R⟩:=World.cells?_some o;subst M;have c0:=R 0 nh;rw[add_add]at c0;unfold reachBytes at O;exact⟨st.data.toList,mw,by rw[vex];simpa using c0⟩
  obtain⟨f,z⟩:=choose_lt each;have x:((List.range len0).map f).length=len0:=by rw[ep,fh]
  refine⟨some a,(List.range len0).map f,_,by rw[x];exact u,λk s g=>?_, ?_,by rw[x];exact I⟩
  ·rw[dd]at g
   cases hr:(List.range len0)[k]? with
   | none=>rw[hr]at g;cases g
   | some j=>
    rw[hr]at g;obtain⟨o,l⟩:=au.1 hr;rw[fh]at o;rw[List.getElem_range]at l;subst l;obtain rfl:f k=s:=by simpa using g
    obtain⟨C,r⟩:=z k o;obtain⟨b,off,spot⟩:=a
    have G:spot=none:=by
     have:=World.cell?_spot (z 0 mw).2;simpa [Addr.add]using this
    subst G;have Q:(⟨b,off,none⟩:Addr).add k=⟨b,off+k,none⟩:=by simp[Addr.add]
    rw[Q]at r;exact⟨C,b,off,rfl,block_lt_of_cell r,r⟩
  ·have:=q _ (.inl rfl)
   rw[qz6,ep,fh]at this;rw[x];unfold reachBytes at this;omega
theorem qtp{d:DataW H}(j:DataW.trod enc prog W 0 (λ_=>true) true fuel 29 [.slice a n c]=some (d,pl))
  (i:∀n∈d.weights prog 29,n<=reachBytes):48 * n<=140737488355328:=by
 rcases open_slice underlying29 j with⟨b,f⟩|⟨q,len0,u,m,l,D,t,b,_,p,o,h,f,r⟩
 ·simp at b
  omega
 ·simp at b
  obtain⟨rfl,rfl,rfl⟩:=b;simp only[if_true]at h;subst h;simp only[Prod.mk.injEq]at f;obtain⟨rfl,rfl⟩:=f;have g:=i;rw[DataW.weights,underlying29]at g;simp only[eg,cr]at g;have:=g _ (.inl rfl);rw[qgf,ep,fh]at this;unfold reachBytes at this;omega
theorem qs6(b:mv)(k m i:Int)(g f:DataW H):(DataW.agg [.lit (.int .i64 k),.lit (.int .i64 m),.lit (.int .i64 i),.lit (.string b),g,f]:DataW H).weights prog 64=b.length::(g.weights prog 62++f.weights prog 29):=by
 rw[DataW.weights,underlying64];simp only[List.map,DataW.weightsEach,DataW.weights];simp
theorem EvIn.len(h:EvIn W (.slice a n c) ps):ps.length=n:=by
 rcases h with⟨rfl,f,cap,e⟩|⟨b,off,cap,e,_⟩
 ·injection e with _ e _
  exact e.symm
 ·injection e with _ e _
  exact e.symm
theorem vh7{d:DataW H}(h:DataW.trod enc prog W 0 (λ_=>true) true n 64 cs=some (d,pl))(b:∀n∈d.weights prog 64,n<=reachBytes):
  ∃x:Ox,cs=qc0 x/\OxOk W x:=by
 obtain⟨Z,Y,X,U,G,F,n1,y,A,t,r,q,p,o,g⟩:=qih underlying64 h;rw[qt0]at A
 match cs,A with
 | [c0,c1,c2,c3,c4,c5],_=>
  simp only[qms,qar,qz8,vfi,List.drop,List.take]at t r q p o g;obtain⟨k,E,rfl,J⟩:=DataW.trod_int underlying3 t;obtain⟨m,D,rfl,I⟩:=DataW.trod_int underlying3 r;obtain⟨i,C,rfl,K⟩:=DataW.trod_int underlying3 q;obtain⟨l,B,rfl,_⟩:=DataW.trod_string underlying9 p;obtain⟨d4,p4⟩:=G;obtain⟨d5,p5⟩:=F;simp only at y;subst y;rw[qs6]at b;have w1:=b _ (dp ..);obtain⟨a,ts,c,u,M,S,L⟩:=qf2 o λm f=>b m (dq _ (fo _ f))
  obtain⟨v,ps,z,j,N⟩:=qf1 g λm f=>b m (dq _ (li _ f))
  simp only[List.cons.injEq,and_true]at E D C B u z;subst E D C B u z;unfold reachBytes at w1;obtain⟨R,O,Q,rfl⟩:=j.slice;have T:=qtp g λm f=>b m (dq _ (li _ f))
  exact⟨⟨k,m,i,l.data.toList,a,c,ts,.slice R O Q,ps⟩,rfl,⟨by show l.data.toList.length<=_;omega,qpb J,qpb I,qpb K,M,S,L,j,N,by rw[j.len];exact T⟩⟩
theorem vbk{v:Value}{d:DataW H}(I:Value.okWide prog W .any base 22 v)(h:DataW.Trod enc prog W 0 (λ_=>true) true 22 v d pl)
  (J:∀n∈d.weights prog 22,n<=reachBytes):∃l,vf6 W v l:=by
 obtain⟨fuel,K⟩:=h;obtain⟨T,len0,X,rfl⟩:=okWide_slice underlying22 I;rcases open_slice underlying22 K with⟨o,y⟩|⟨a,len,cap,m,n,D,U,o,_,N,S,A,y,E⟩
 ·simp[Value.cells]at o
  obtain⟨rfl,rfl,rfl⟩:=o;exact⟨[],none,0,rfl,bj _,bj _,λi x r=>by simp at r⟩
 ·simp[Value.cells]at o
  obtain⟨rfl,rfl,rfl⟩:=o;simp only[if_true]at A;subst A;simp only[Prod.mk.injEq]at y;obtain⟨rfl,rfl⟩:=y;rw[qt0]at E;have u:=J;rw[DataW.weights,underlying22]at u;simp only[eg,cr]at u
  have each:∀i,i<len0->∃x:Ox,OxOk W x/\∀k,k<6->W.cell? (a.add (i * 6+k))=(qc0 x)[k]?:=by
   intro i r;obtain⟨O,q,t⟩:=E i mw;have G:D i∈(List.range len0).map D:=fw.2 ⟨i,ff.2 r,rfl⟩;obtain⟨x,rfl,ok⟩:=vh7 t λn M=>u n (.inr (.inl (gH G n M)))
   obtain⟨_,_,R⟩:=World.cells?_some q;refine⟨x,ok,λk g=>?_⟩;have c:=R k g;rw[add_add]at c;rw[c]
  have inh:Inhabited Ox:=⟨⟨0,0,0,[],none,0,[],.slice none 0 0,[]⟩⟩;obtain⟨f,B⟩:=choose_lt each;have z:((List.range len0).map f).length=len0:=by rw[ep,fh]
  have F:∀(k:Nat) (p:Ox),((List.range len0).map f)[k]?=some p->k<len0/\p=f k:=by
   intro k p g;rw[dd]at g
   cases hr:(List.range len0)[k]? with
   | none=>rw[hr]at g;cases g
   | some j=>
    rw[hr]at g;obtain⟨q,t⟩:=au.1 hr;rw[fh]at q;rw[List.getElem_range]at t;subst t;exact⟨q,by simpa using g.symm⟩
  refine⟨(List.range len0).map f,some a,_,by rw[z],by rw[z];exact N, ?_,λi x r=>?_⟩
  ·have:=u _ (.inl rfl)
   rw[vfe,ep,fh]at this;rw[z];unfold reachBytes at this;omega
  ·obtain⟨q,rfl⟩:=F i x r
   obtain⟨ok,o⟩:=B i q;obtain⟨b,off,spot⟩:=a
   have L:spot=none:=by
    have:=(B 0 mw).2 0 mw;have:=World.cell?_spot this;simpa [Addr.add]using this
   subst L;have Q:∀j,(⟨b,off,none⟩:Addr).add j=⟨b,off+j,none⟩:=by intro j;simp[Addr.add]
   have C:∀k,k<6->W.cell? ⟨b,off+i * 6+k,none⟩=(qc0 (f i))[k]?:=λk g=>by
    have:=o k g;rw[Q,←Nat.add_assoc]at this;exact this
   exact⟨ok,b,off,rfl,block_lt_of_cell (C 0 mw),C⟩
end
end
end Go.Proofs.YtfkcaldjphakpaaGreatDoor
