/- Terms as the keys of a -/
import Derived.Test.YtfkcaldjphakpaaGreatDoorM16
import Derived.Maps.OwnSet
import Derived.DeepKeys4
import Derived.Lib.AppendStr
set_option maxHeartbeats 3200000
set_option maxRecDepth 100000
namespace Go.Proofs.YtfkcaldjphakpaaGreatDoor
open Go.RowKit Go.Proofs.Tryz
variable{D:DataW Unit}{n:Int}{rs:List Nat}{ts:List Tm}{l:mv}{H base cap d g mb mp r:Nat}{o:Obj}{t u:Tm}{ty:TypeId}{rv rv' tv tv' v:Value}{W W' a b:World}
section
open Go.Maps (Keyed)
theorem vgm:laidOutB prog=true:=nl
theorem qxn:(125:TypeId)<prog.types.size:=of_decide_eq_true nl
theorem qxm:prog.keyTypeAt 3 125=true:=nl
theorem qcp:Keyed prog 125:=Keyed.of_law (deep_law_laid vgm (m:=3) (Nat.le_of_ble_eq_true rfl) qxn qxm (by rw[underlying125]))
theorem vi8:prog.keyType 125=true:=nl
theorem qid:prog.cellsOf 125=6:=nl
theorem vfh:prog.cellsOf 72=1:=nl
theorem qk8:prog.cellsOf 3=1:=nl
theorem qpm:prog.cellsOf 2=1:=nl
theorem qj6:prog.cellsOf 9=1:=nl
structure HoldT(t:Tm):Prop where
 op:Rng t.op
 left:Rng t.left
 right:Rng t.right
 num:Rng t.num
 str:t.str.length<=1000
 esc:t.esc.length<=1000
def vgo(t:Tm):List Lit:=[.int .i64 t.op,.int .i64 t.left,.int .i64 t.right,.int .i64 t.num,.string t.str,.string t.esc]
def klT(t:Tm):Lit:=.string (keyBytes (vgo t))
theorem vkj(h:Rng n):(Lit.int .i64 n).wf=true:=WalkArith.wf_i64 h
theorem yH(c:prog.underlying ty=some (.int .i64))(h:Rng n):prog.keyLits (d+1) ty [.int .i64 n]=some [.int .i64 n]:=by
 unfold Program.keyLits;rw[c];simp[vkj h]
theorem qbo(c:prog.underlying ty=some .string)(h:l.length<=1000):prog.keyLits (d+1) ty [.string (BS l)]=some [.string l]:=by
 unfold Program.keyLits;rw[c];have:(BS l).size<=maxLen:=by rw[qG];unfold maxLen;omega
 simp[this,xg]
theorem zt(h:HoldT t):keyOf prog 125 (tmV t)=some (klT t):=by
 obtain⟨d,hd⟩:∃d,prog.types.size+1=d+1+1:=⟨prog.types.size - 1,by have:0<prog.types.size:=Nat.lt_of_le_of_lt (bj _) qxn;omega⟩;have q:=yH (d:=d) underlying72 h.op;have p:=yH (d:=d) underlying3 h.left;have m:=yH (d:=d) underlying3 h.right;have k:=yH (d:=d) underlying2 h.num;have j:=qbo (d:=d) underlying9 h.str;have i:=qbo (d:=d) underlying9 h.esc
 have c:prog.keyLits (prog.types.size+1) 125 (tmV t).cells.toList=some (vgo t):=by
  rw[hd];unfold Program.keyLits;rw[underlying125];have f:(tmV t).cells.toList=[.int .i64 t.op,.int .i64 t.left,.int .i64 t.right,.int .i64 t.num,.string (BS t.str),.string (BS t.esc)]:=rfl;simp[f,qid,vfh,qk8,qpm,qj6,q,p,m,k,j,i,vgo,List.mapM_cons,List.mapM_nil]
 have e:(tmV t).formed prog 125=true:=by simp[tmV,Value.formed,underlying125,qid]
 unfold keyOf;rw[underlying125];simp only[vi8,e,Bool.and_self,if_true,c];rfl
theorem via(h:tmV t=tmV u):t=u:=by
 obtain⟨a,b,c,d,e,f⟩:=t;obtain⟨E,C,B,A,q,k⟩:=u;simp[tmV]at h;obtain⟨z,y,w,s,j,i⟩:=h;have p:e=q:=by have:=congrArg (λx=>x.data.toList) j;simpa [xg]using this
 have m:f=k:=by have:=congrArg (λx=>x.data.toList) i;simpa [xg]using this
 subst p m;simp;omega
theorem que(f:HoldT t)(c:HoldT u)(h:t≠u):klT t≠klT u:=λe=>h (via (qcp.inj (zt f) (e ▸ zt c)))
def qx6(t u:Tm):Bool:=t.op==u.op&&t.left==u.left&&t.right==u.right&&t.num==u.num&&t.str==u.str&&t.esc==u.esc
theorem kD(t u:Tm):qx6 t u=true↔t=u:=by
 obtain⟨a,b,c,d,e,f⟩:=t;obtain⟨p,m,k,j,i,h⟩:=u;simp[qx6,and_assoc]
def jn(ts:List Tm)(t:Tm):Option Nat:=ts.findIdx? λu=>qx6 u t
theorem ke(h:jn ts t=none):jn (ts++[t]) t=some ts.length:=by
 unfold jn at h ⊢;rw[List.findIdx?_append,h];simp[(kD t t).2 rfl]
theorem yB(h:t≠u):jn (ts++[u]) t=jn ts t:=by
 unfold jn
 have:qx6 u t=false:=by
  cases hs:qx6 u t with
  | false=>rfl
  | true=>exact absurd ((kD u t).1 hs).symm h
 rw[List.findIdx?_append];simp[this]
structure MapIs(D:DataW Unit)(ts:List Tm):Prop where
 map:Maps.IsMap D
 at':∀t,HoldT t->∀i,jn ts t=some i->Maps.has D (klT t)=true/\D.atKey (klT t) (.lit (.int .i64 0))=.lit (.int .i64 i)
 no:∀t,HoldT t->jn ts t=none->Maps.has D (klT t)=false
theorem MapIs.empty:MapIs (.map []) []:=⟨Maps.isMap_empty,λt _ i h=>by simp[jn]at h,λt _ _=>rfl⟩
theorem MapIs.add(h:MapIs D ts)(j:HoldT t)(k:jn ts t=none):MapIs (D.put (klT t) (.lit (.int .i64 ts.length))) (ts++[t]):=by
 have m:WideAt.IsKeyLit (klT t):=qcp.key (zt j);refine⟨h.map.put _ _,λu c i e=>?_,λu c f=>?_⟩
 ·by_cases he:u=t
  ·subst he
   rw[ke k]at e;simp at e;subst e;exact⟨Maps.has_put_same h.map m _,Maps.atKey_put_same h.map m _ _⟩
  ·rw[yB he]at e
   have:=h.at' u c i e;rw[Maps.has_put_other (que c j he),Maps.atKey_put_other (que c j he)];exact this
 ·by_cases he:u=t
  ·subst he
   rw[ke k]at f;simp at f
  ·rw[yB he]at f
   rw[Maps.has_put_other (que c j he)];exact h.no u c f
end
section
def zg(p:CP)(l r:Nat):Tm:=⟨p.op.toNat,l,r,p.num,p.str,p.esc⟩
def gZ(ts:List Tm)(t:Tm):List Tm×Nat:=match jn ts t with
 | some i=>(ts,i)
 | none=>(ts++[t],ts.length)
def qA:List Tm->Co->List Tm×Nat
 | ts,.leaf p=>gZ ts (zg p 0 0)
 | ts,.un p x=>gZ (qA ts x).1 (zg p (qA ts x).2 0)
 | ts,.bin p x y=>gZ (qA (qA ts x).1 y).1 (zg p (qA ts x).2 (qA (qA ts x).1 y).2)
def kE:Co->Nat
 | .leaf _=>1
 | .un _ x=>kE x+1
 | .bin _ x y=>kE x+kE y+1
structure GoodP(p:CP):Prop where
 op:0<=p.op/\p.op<=23
 num:Rng p.num
 str:p.str.length<=1000
 esc:p.esc.length<=1000
def qiv:Co->Prop
 | .leaf p=>GoodP p
 | .un p x=>GoodP p/\qiv x
 | .bin p x y=>GoodP p/\qiv x/\qiv y
theorem qyg{i:Nat}(h:jn ts t=some i):i<ts.length:=by
 unfold jn at h;obtain⟨c,_⟩:=ml.1 h;exact c
theorem qf7(ts:List Tm)(t:Tm):ts.length<=(gZ ts t).1.length/\(gZ ts t).1.length<=ts.length+1/\(gZ ts t).2<(gZ ts t).1.length:=by
 unfold gZ
 split
 ·rename_i i h
  exact⟨nt,Nat.le_succ _,qyg h⟩
 ·simp
theorem yq(ts:List Tm)(c:Co):ts.length<=(qA ts c).1.length/\(qA ts c).1.length<=ts.length+kE c/\(qA ts c).2<(qA ts c).1.length:=by
 induction c generalizing ts with
 | leaf p=>exact qf7 _ _
 | un p x ih=>
  have f:=ih ts;have e:=qf7 (qA ts x).1 (zg p (qA ts x).2 0);simp only[qA,kE];omega
 | bin p x y ihx ihy=>
  have f:=ihx ts;have e:=ihy (qA ts x).1;have h:=qf7 (qA (qA ts x).1 y).1 (zg p (qA ts x).2 (qA (qA ts x).1 y).2);simp only[qA,kE];omega
theorem qxw{p:CP}(h:GoodP p){l:Nat}(j:l<=3000000000)(i:r<=3000000000):HoldT (zg p l r):=by
 obtain⟨⟨m,k⟩,f,e,c⟩:=h;exact⟨⟨by simp only[zg];omega,by simp only[zg];omega⟩,⟨by simp only[zg];omega,by simp only[zg];omega⟩,⟨by simp only[zg];omega,by simp only[zg];omega⟩,f,e,c⟩
structure MkAt(W:World)(mb mp:Nat)(ts:List Tm)(rs:List Nat)(tv rv:Value):Prop where
 c0:W.cell? ⟨mb,0,none⟩=some tv
 c1:W.cell? ⟨mb,1,none⟩=some rv
 c2:W.cell? ⟨mb,2,none⟩=some (.map (some mp))
 fz:∀j,W.frozen? ⟨mb,j,none⟩=false
 lo:mp<mb
 lt:mb<W.heap.size
 ats:TsAt W (mb+1) tv ts
 ars:IsAt W (mb+1) rv rs
 ne:∀g,tv.ownBlock=some g->rv.ownBlock≠some g
 map:∃D:DataW Unit,W.ownsMap prog 125 (plainElem prog 3) mp ts.length D/\MapIs D ts
def Own(mb mp:Nat)(tv rv:Value)(k:Nat):Prop:=k=mb\/k=mp\/tv.ownBlock=some k\/rv.ownBlock=some k
structure MkKept(mb mp:Nat)(tv rv tv' rv':Value)(W W':World):Prop where
 os:W'.os=W.os
 tape:W'.tape=W.tape
 output:W'.output=W.output
 size:W.heap.size<=W'.heap.size
 block:∀k,k<W.heap.size->¬Own mb mp tv rv k->W'.heap[k]?=W.heap[k]?
 rows:∀k,k<W.heap.size->Own mb mp tv' rv' k->Own mb mp tv rv k
theorem MkKept.refl(mb mp:Nat)(tv rv:Value)(W:World):MkKept mb mp tv rv tv rv W W:=⟨rfl,rfl,rfl,nt,λ_ _ _=>rfl,λ_ _ h=>h⟩
theorem MkKept.trans{p f:Value}{c:World}(h:MkKept mb mp tv rv tv' rv' a b)(k:MkKept mb mp tv' rv' p f b c):MkKept mb mp tv rv p f a c:=
 ⟨k.os.trans h.os,k.tape.trans h.tape,k.output.trans h.output,bs h.size k.size,
  λi e m=>(k.block i (bg e h.size) (λj=>m (h.rows i e j))).trans (h.block i e m),
  λi e j=>h.rows i e (k.rows i (bg e h.size) j)⟩
theorem MkKept.drew'(h:MkKept mb mp tv rv tv' rv' a.drew b):MkKept mb mp tv rv tv' rv' a b:=⟨h.os,h.tape,h.output,h.size,h.block,h.rows⟩
theorem MkKept.of_below(h:Xb a b):MkKept mb mp tv rv tv rv a b:=⟨h.os,h.tape,h.output,h.size,λk c _=>h.block k c,λ_ _ h=>h⟩
def Out(B E mb mp:Nat)(tv rv:Value):Prop:=∀k,Own mb mp tv rv k->k<B\/E<=k
theorem Out.next{B E:Nat}(h:Out B E mb mp tv rv)(f:MkKept mb mp tv rv tv' rv' W W')(i:E<=W.heap.size):Out B E mb mp tv' rv':=by
 intro k e;rcases Nat.lt_or_ge k W.heap.size with c|c
 ·exact h k (f.rows k c e)
 ·exact .inr mw
theorem MkAt.own_lt(h:MkAt W mb mp ts rs tv rv){k:Nat}(c:Own mb mp tv rv k):k<W.heap.size:=by
 have:=h.lt;have:=h.lo;rcases c with rfl|rfl|c|c
 ·omega
 ·omega
 ·exact(h.ats.lt k c).2
 ·exact(h.ars.lt k c).2
theorem MkAt.same(h:MkAt W mb mp ts rs tv rv)(m:W.heap.size<=W'.heap.size)(c:∀k,Own mb mp tv rv k->W'.heap[k]?=W.heap[k]?):MkAt W' mb mp ts rs tv rv:=by
 have i:=c mb (.inl rfl);have f:∀j,W'.cell? ⟨mb,j,none⟩=W.cell? ⟨mb,j,none⟩:=λj=>aw (w:=W) (w':=W') (a:=⟨mb,j,none⟩) i
 have p:∀j,W'.frozen? ⟨mb,j,none⟩=W.frozen? ⟨mb,j,none⟩:=λj=>cf (w:=W) (w':=W') (a:=⟨mb,j,none⟩) i
 obtain⟨D,⟨es,clock,q,rest⟩,s⟩:=h.map
 exact⟨(f 0).trans h.c0,(f 1).trans h.c1,(f 2).trans h.c2,λj=>(p j).trans (h.fz j),h.lo,bg h.lt m,
  vm h.ats λg e=>c g (.inr (.inr (.inl e))),vm h.ars λg e=>c g (.inr (.inr (.inr e))),h.ne,D,⟨es,clock,(c mp (.inr (.inl rfl))).trans q,rest⟩,s⟩
theorem MkAt.below(h:MkAt W mb mp ts rs tv rv)(c:Xb W W'):MkAt W' mb mp ts rs tv rv:=
 h.same c.size λk e=>c.block k (h.own_lt e)
theorem MkAt.drew(h:MkAt W mb mp ts rs tv rv):MkAt W.drew mb mp ts rs tv rv:=h.below nw.drew
theorem MkAt.row_other(h:MkAt W mb mp ts rs tv rv)(c:W.grownBy W' (some mp)):
  Xc W' mb 0 tv/\Xc W' mb 1 rv/\Xc W' mb 2 (.map (some mp))/\(Xf W' mb)/\TsAt W' (mb+1) tv ts/\IsAt W' (mb+1) rv rs/\mb<W'.heap.size:=by
 have k:=h.lo;have f:W'.heap[mb]?=W.heap[mb]?:=c.block mb h.lt my;have e:∀j,W'.cell? ⟨mb,j,none⟩=W.cell? ⟨mb,j,none⟩:=λj=>aw (w:=W) (w':=W') (a:=⟨mb,j,none⟩) f
 have i:∀j,W'.frozen? ⟨mb,j,none⟩=W.frozen? ⟨mb,j,none⟩:=λj=>cf (w:=W) (w':=W') (a:=⟨mb,j,none⟩) f
 refine⟨(e 0).trans h.c0,(e 1).trans h.c1,(e 2).trans h.c2,λj=>(i j).trans (h.fz j),vm h.ats λg hg'=>?_,vm h.ars λg hg'=>?_,bg h.lt c.size⟩
 ·have:=h.ats.lt g hg'
  exact c.block g this.2 my
 ·have:=h.ars.lt g hg'
  exact c.block g this.2 my
theorem MkAt.add{W c W2:World}(h:MkAt W mb mp ts rs tv rv)(C:HoldT t)(M:jn ts t=none)(P:MapIs D ts)
  (J:c.ownsMap prog 125 (plainElem prog 3) mp (ts.length+1) (D.put (klT t) (.lit (.int .i64 ts.length)))) (q:W.grownBy c (some mp)) 
  (B7:W2.ownsRow (mb+1) 125 6 (.slice (some ⟨g,0,none⟩) (ts.length+1) cap) (ts.length+1) (zK ts++xH t)) (y:(c.alloc o).grownBy W2 tv.ownBlock) (m:tv.ownBlock=some g\/g=H) (O:(c.alloc o).heap.size=H) :
  MkAt (W2.setCell ⟨mb,0,none⟩ (.slice (some ⟨g,0,none⟩) (ts.length+1) cap)) mb mp (ts++[t]) rs (.slice (some ⟨g,0,none⟩) (ts.length+1) cap) rv /\
  MkKept mb mp tv rv (.slice (some ⟨g,0,none⟩) (ts.length+1) cap) rv W (W2.setCell ⟨mb,0,none⟩ (.slice (some ⟨g,0,none⟩) (ts.length+1) cap)):=by
 have S:=h.lo;have A0:=h.lt;obtain⟨c0,U,T,fz,ats,ars,EJ⟩:=h.row_other q;have B9:=q.size;have D8:=y.size;simp at D8 O;have I:∀k,tv.ownBlock=some k->mb+1<=k:=λk i=>(h.ats.lt k i).1
 have z:∀k,k<c.heap.size->tv.ownBlock≠some k->W2.heap[k]?=c.heap[k]?:=λk i s=>
  (y.block k my (λe=>s e.symm)).trans (iq c o k i)
 have B:W2.heap[mb]?=c.heap[mb]?:=z mb EJ (λe=>by have:=I mb e;omega);have X:Xc W2 mb 0 tv:=(aw (w:=c) (w':=W2) (a:=⟨mb,0,none⟩) B).trans c0;have Y:Xc W2 mb 1 rv:=(aw (w:=c) (w':=W2) (a:=⟨mb,1,none⟩) B).trans U;have Z:Xc W2 mb 2 (.map (some mp)):=(aw (w:=c) (w':=W2) (a:=⟨mb,2,none⟩) B).trans T;have E:Xf W2 mb:=λj=>(cf (w:=c) (w':=W2) (a:=⟨mb,j,none⟩) B).trans (fz j)
 have F:∀k,k≠mb->(W2.setCell ⟨mb,0,none⟩ (.slice (some ⟨g,0,none⟩) (ts.length+1) cap)).heap[k]?=W2.heap[k]?:=λk i=>bo W2 ⟨mb,0,none⟩ _ k (by show k≠mb;exact i)
 refine⟨⟨by simp[go_sem,X],by simp[go_sem,Y],by simp[go_sem,Z],λj=>by simp[go_sem,E],S,my, ?_, ?_, ?_, ?_⟩,⟨?_, ?_, ?_,my,λk i s=>?_,λk i f=>?_⟩⟩
 ·show World.ownsRow _ _ _ _ _ _ _
  rw[bu,da,zK,ij,List.flatMap_singleton];exact ownsRow_setCell_below B7 (by show mb<mb+1;omega) _
 ·refine vm ars λA hg'=>?_
  have N:=ars.lt A hg';rw[F A mw];exact z A N.2 (λe=>h.ne A e hg')
 ·intro Q R G
  have x:g=Q:=by simpa [Value.ownBlock]using R
  subst x;rcases m with m|m
  ·exact h.ne g m G
  ·have:=(ars.lt g G).2
   omega
 ·refine⟨_, ?_,P.add C M⟩
  obtain⟨es,clock,x,rest⟩:=J;rw[bu,da];refine⟨es,clock, ?_,rest⟩;rw[F mp mw,z mp mw (λe=>by have:=I mp e;omega)];exact x
 ·exact y.os.trans q.os
 ·exact y.tape.trans q.tape
 ·exact y.output.trans q.output
 ·have L:k≠mb:=λe=>s (.inl e)
  have K:k≠mp:=λe=>s (.inr (.inl e))
  rw[F k L,z k mw (λe=>s (.inr (.inr (.inl e))))];exact q.block k i (by simpa using K)
 ·rcases f with f|f|f|f
  ·exact .inl f
  ·exact .inr (.inl f)
  ·have x:g=k:=by simpa [Value.ownBlock]using f
   subst x;rcases m with m|m
   ·exact .inr (.inr (.inl m))
   ·omega
  ·exact .inr (.inr (.inr f))
theorem MkAt.root{W W2:World}(h:MkAt W mb mp ts rs tv rv)
  (R:W2.ownsRow (mb+1) 3 1 (.slice (some ⟨g,0,none⟩) (rs.length+1) cap) (rs.length+1) (jX rs++[.int .i64 r])) (q:(W.alloc o).grownBy W2 rv.ownBlock) (i:rv.ownBlock=some g\/g=H) (J:(W.alloc o).heap.size=H) :
  MkAt (W2.setCell ⟨mb,1,none⟩ (.slice (some ⟨g,0,none⟩) (rs.length+1) cap)) mb mp ts (rs++[r]) tv (.slice (some ⟨g,0,none⟩) (rs.length+1) cap) /\
  MkKept mb mp tv rv tv (.slice (some ⟨g,0,none⟩) (rs.length+1) cap) W (W2.setCell ⟨mb,1,none⟩ (.slice (some ⟨g,0,none⟩) (rs.length+1) cap)):=by
 have M:=h.lo;have S:=h.lt;have Q:=q.size;simp at Q J;have E:∀k,rv.ownBlock=some k->mb+1<=k:=λk f=>(h.ars.lt k f).1
 have x:∀k,k<W.heap.size->rv.ownBlock≠some k->W2.heap[k]?=W.heap[k]?:=λk f s=>
  (q.block k my (λe=>s e.symm)).trans (iq W o k f)
 have z:W2.heap[mb]?=W.heap[mb]?:=x mb S (λe=>by have:=E mb e;omega);have N:Xc W2 mb 0 tv:=(aw (w:=W) (w':=W2) (a:=⟨mb,0,none⟩) z).trans h.c0;have O:Xc W2 mb 1 rv:=(aw (w:=W) (w':=W2) (a:=⟨mb,1,none⟩) z).trans h.c1;have P:Xc W2 mb 2 (.map (some mp)):=(aw (w:=W) (w':=W2) (a:=⟨mb,2,none⟩) z).trans h.c2;have A:Xf W2 mb:=λj=>(cf (w:=W) (w':=W2) (a:=⟨mb,j,none⟩) z).trans (h.fz j)
 have B:∀k,k≠mb->(W2.setCell ⟨mb,1,none⟩ (.slice (some ⟨g,0,none⟩) (rs.length+1) cap)).heap[k]?=W2.heap[k]?:=λk f=>bo W2 ⟨mb,1,none⟩ _ k (by show k≠mb;exact f)
 refine⟨⟨by simp[go_sem,N],by simp[go_sem,O],by simp[go_sem,P],λj=>by simp[go_sem,A],M,my, ?_, ?_, ?_, ?_⟩,⟨q.os,q.tape,q.output,my,λk f s=>?_,λk f c=>?_⟩⟩
 ·refine vm h.ats λy hg'=>?_
  have I:=h.ats.lt y hg';rw[B y mw];exact x y I.2 (λe=>h.ne y hg' e)
 ·show World.ownsRow _ _ _ _ _ _ _
  rw[bu,da,jX,dt];exact ownsRow_setCell_below R (by show mb<mb+1;omega) _
 ·intro L C G
  have m:g=L:=by simpa [Value.ownBlock]using G
  subst m;rcases i with i|i
  ·exact h.ne g C i
  ·have:=(h.ats.lt g C).2
   omega
 ·obtain⟨D,⟨es,clock,m,rest⟩,K⟩:=h.map
  refine⟨D,⟨es,clock, ?_,rest⟩,K⟩;rw[B mp mw,x mp mw (λe=>by have:=E mp e;omega)];exact m
 ·have F:k≠mb:=λe=>s (.inl e)
  rw[B k F];exact x k f (λe=>s (.inr (.inr (.inr e))))
 ·rcases c with c|c|c|c
  ·exact .inl c
  ·exact .inr (.inl c)
  ·exact .inr (.inr (.inl c))
  ·have m:g=k:=by simpa [Value.ownBlock]using c
   subst m;rcases i with i|i
   ·exact .inr (.inr (.inr i))
   ·omega
end
section
attribute [local go_sem ↓] jt
def vd(l:List UInt8):List Value:=l.map λx=>.int .u8 (x.toNat:Int)
def OB(w:World)(base:Nat)(v:Value)(l:List UInt8):Prop:=w.ownsRow base 5 1 v l.length (vd l)
theorem OB.app(h:OB W base v l)(w:base<=W.heap.size)(x:UInt8)(e:Int)(j:e=(x.toNat:Int))(G:l.length<=1000000)(ty:TypeId)(H:Nat)(z:W.heap.size=H)(y:W'=W.alloc (.cells #[.int .u8 e] 5)):
  ∃g cap c,(ki #[51,51] ty #[v,.slice (some ⟨H,0,none⟩) 1 1]).run prog W'=.ok (.slice (some ⟨g,0,none⟩) (l.length+1) cap) c /\
   Hid (OB c base (.slice (some ⟨g,0,none⟩) (l.length+1) cap) (l++[x]))/\Hid (Below base W c):=by
 subst z y j;obtain⟨i,s,A,C,B⟩:=info_parts kp;have f:=World.ownsRow.alloc h (.cells #[.int .u8 (x.toNat:Int)] 5);obtain⟨g,cap,c,m,E,F,I,_⟩:=run_append_lies (P:=prog) (W.alloc (.cells #[.int .u8 (x.toNat:Int)] 5)) 51 ty base 5 i _ 1 1 underlying51 s A C B rfl mw v l.length (vd l) f
  ⟨W.heap.size,0,none⟩ 1 1 [.int .u8 (x.toNat:Int)] rfl (World.news_of_block (cs:=#[.int .u8 (x.toNat:Int)]) (t:=5) (fr:=(0,0)) (heap_alloc_new W _)) (by simp[Value.oneCell']) mw (by unfold maxLen;omega) mw my _ rfl
 refine⟨g,cap,c,m,qd ?_,qd ?_⟩
 ·show World.ownsRow _ _ _ _ _ _ _
  rw[bu,da,vd,dt];exact E
 ·exact Go.RowKit.Below.grown (((Below.refl base W).alloc w _)) F my (λk q=>(f.lt k q).1)
theorem OB.form{w:World}(h:OB w base v l):∃a c,v=.slice a l.length c:=by
 rcases h.2 with⟨rfl,e⟩|⟨g,cap,cur,rfl,_⟩
 ·exact⟨none,0,by rw[e]⟩
 ·exact⟨_,_,rfl⟩
theorem qcm(l:mv):Lib.strCells (BS l)=vd l:=by
 simp[Lib.strCells,vd,BS]
theorem OB.appText(h:OB W base v l)(f:base<=W.heap.size)(s:mv)(A:l.length+s.length<=1000000)(ty:TypeId):
  ∃v' c,(ki #[51,9] ty #[v,.string (BS s)]).run prog W=.ok v' c/\Hid (OB c base v' (l++s))/\Hid (Below base W c):=by
 obtain⟨j,q,w,y,x⟩:=info_parts kp;have e:(BS s).size=s.length:=qG s;obtain⟨v',c,m,i,z,_⟩:=Lib.run_append_own_string (P:=prog) W base 51 9 ty 5 j underlying51 underlying9 q w y x v l.length (vd l) h (BS s) (by rw[e];unfold maxLen;omega) (by rw[e];omega) f;rw[e,qcm]at i;refine⟨v',c,m,qd ?_,qd ?_⟩
 ·show World.ownsRow _ _ _ _ _ _ _
  rw[bu,vd,dt];exact i
 ·exact Go.RowKit.Below.grown (Below.refl base W) z f (λk p=>(World.ownsRow.lt h k p).1)
def xN(base:Nat)(W:World)(l:List UInt8)(e:Ending)(w':World):Prop:=∃v,e=.returned v/\OB w' base v l/\Below base W w'
def qaa(s:List UInt8):List UInt8:=UInt8.ofNat s.length::s
theorem yV(base:Nat)(v:Value)(l s:mv)(W:World)(h:OB W base v l)(f:base<=W.heap.size)(B:l.length+s.length<=900000)(A:s.length<=255)(Q:Ending->World->Prop)(i:∀e w',xN base W (l++qaa s) e w'->Q e w'):
  nz 170 #[v,.string (BS s)] W Q:=by
 have m:=qd i;clear i;have z:(BS s).size=s.length:=qG s;obtain⟨a,c,rfl⟩:=h.form;obtain⟨g,cap,y,F,q,j⟩:=h.app f (UInt8.ofNat s.length) (s.length:Int) (by rw[fu];simp;omega) mw 51 _ rfl rfl;obtain⟨v',x,C,k,w⟩:=(q9 q).appText (bs f j.size) s my 51;have E:(0:Int)<=(s.length:Int):=mw;have G:(s.length:Int)<256:=mw;go_enter func170,ntmps170
 go_wp2_with fail
 exact q9 m _ _ ⟨_,rfl,by have:=q9 k;rw[bi]at this;exact this,j.trans w⟩
end
section
attribute [local go_sem ↓] jt
def qv0(n:Int)(k:Nat):UInt8:=UInt8.ofNat (n / 2 ^ (8 * k) % 256).toNat
def zW(n:Int):Nat->List UInt8
 | 0=>[]
 | k+1=>zW n k++[qv0 n k]
theorem j3(n:Int)(k:Nat):(zW n k).length=k:=by
 induction k with
 | zero=>rfl
 | succ k ih=>rw[zW,bu,ih];rfl
theorem qbs(n:Int)(k:Nat):n / 2 ^ (8 * k) % 256=((qv0 n k).toNat:Int):=by
 have e:=Int.emod_nonneg (n / 2 ^ (8 * k)) (show(256:Int)≠0 by decide);have c:=Int.emod_lt_of_pos (n / 2 ^ (8 * k)) (show(0:Int)<256 by decide);unfold qv0;generalize n / 2 ^ (8 * k) % 256=x at *;rw[fu];omega
theorem qcs(base:Nat)(v:Value)(l:mv)(n:Int)(W:World)(h:OB W base v l)(G:base<=W.heap.size)(E:l.length<=900000)(Q:Ending->World->Prop)(q:∀e w',xN base W (l++zW n 8) e w'->Q e w'):
  nz 169 #[v,.int .i64 n] W Q:=by
 have A:=qd q;clear q;have B:=qd h;obtain⟨a,c,rfl⟩:=h.form;clear h;go_enter func169,ntmps169
 go_wp2_with fail
 go_loopw [0,6] (λu i wr=>∃(k:Nat),k<=8/\i=.int .i64 k/\Hid (OB wr base u (l++zW n k))/\Hid (Below base W wr)) (λ_ i _=>8 - (intOf i).toNat)
 case atStart=>exact⟨0,nh,rfl,by rw[zW,ew];exact B,qd nw⟩
 case round=>
  obtain⟨k,F,rfl,f,m⟩:=hrel;have x:(l++zW n k).length<=1000000:=by rw[bu,j3];omega
  obtain⟨L,j⟩:∃L,l++zW n k=L:=⟨_,rfl⟩;rw[j]at f x;have w:=qd j;clear j;obtain⟨J,I,rfl⟩:=(q9 f).form
  by_cases wU:k<8
  ·have M:=(q9 m).size
   obtain⟨g,cap,C,K,y,s⟩:=(q9 f).app mw (qv0 n k) _ (qbs n k) x 51 _ rfl rfl;have z:=qd (m.trans s);clear s
   go_wp2_with fail
   exact⟨⟨k+1,mw,rfl,qd (by rw[zW,←bi,q9 w];exact q9 y),z⟩,by simp[intOf];omega⟩
  ·have:k=8:=mw
   subst this
   go_wp2_with fail
   exact q9 A _ _ ⟨_,rfl,by rw[q9 w];exact q9 f,q9 m⟩
end
section
set_option linter.unusedSimpArgs false
set_option linter.unusedVariables false
attribute [local go_sem ↓] jt
def encT(t:Tm):List UInt8:=
 if t.op=1 then UInt8.ofNat t.op::zW t.num 8
 else if t.op=22 then[UInt8.ofNat t.op,UInt8.ofNat t.left]++qaa t.esc++qaa t.str
 else if t.op=0\/t.op=2 then UInt8.ofNat t.op::qaa t.str
 else if jk t.op then[UInt8.ofNat t.op,UInt8.ofNat t.right,UInt8.ofNat t.left]
 else if t.op=5\/t.op=23 then[UInt8.ofNat t.op,UInt8.ofNat t.left]
 else[UInt8.ofNat t.op]
structure WSt(base:Nat)(W:World)(l:List UInt8)(tb:Nat)(t:Tm)(w':World)(v':Value):Prop where
 ob:OB w' base v' l
 tm:TmAt w' tb t
 ne:v'.ownBlock≠some tb
 bel:Below base W w'
 ge:base<=w'.heap.size
theorem WSt.start(h:OB W base v l)(c:base<=W.heap.size)(t:Tm)(ty:TypeId):
  WSt base W l W.heap.size t (W.alloc (.cells #[.int .i64 t.op,.int .i64 t.left,.int .i64 t.right,.int .i64 t.num,.string (BS t.str),.string (BS t.esc)] ty)) v:=by
 refine⟨World.ownsRow.alloc h _,⟨mx, ?_, ?_, ?_, ?_, ?_, ?_,λj=>?_⟩,λe=>by have:=(World.ownsRow.lt h _ e).2;omega,nw.alloc c _,my⟩<;>simp[go_sem]
theorem WSt.app{f:Nat}{w':World}{v':Value}(h:WSt base W l f t w' v')(x:UInt8)(m:Int)(z:m=(x.toNat:Int))(O:l.length<=1000000)(n:Nat)(J:l.length=n)(H:Nat)(F:w'.heap.size=H):
  ∃g cap c,(ki #[51,51] 51 #[v',.slice (some ⟨H,0,none⟩) 1 1]).run prog (w'.alloc (.cells #[.int .u8 m] 5))=.ok (.slice (some ⟨g,0,none⟩) (n+1) cap) c /\
   Hid (WSt base W (l++[x]) f t c (.slice (some ⟨g,0,none⟩) (n+1) cap)):=by
 subst F z J;obtain⟨w,C,K,M,L⟩:=info_parts kp;have I:=h.ge;have q:=World.ownsRow.alloc h.ob (.cells #[.int .u8 (x.toNat:Int)] 5);obtain⟨g,cap,c,A,N,j,i,_⟩:=run_append_lies (P:=prog) (w'.alloc (.cells #[.int .u8 (x.toNat:Int)] 5)) 51 51 base 5 w _ 1 1 underlying51 C K M L rfl mw v' l.length (vd l) q
  ⟨w'.heap.size,0,none⟩ 1 1 [.int .u8 (x.toNat:Int)] rfl (World.news_of_block (cs:=#[.int .u8 (x.toNat:Int)]) (t:=5) (fr:=(0,0)) (heap_alloc_new w' _)) (by simp[Value.oneCell']) mw (by unfold maxLen;omega) mw my _ rfl
 have y:=j.size;simp at y;have G:=h.tm.lt;have s:Below base w' c:=Go.RowKit.Below.grown (((Below.refl base w').alloc I _)) j my (λk B=>(q.lt k B).1);refine⟨g,cap,c,A,qd ⟨?_, ?_, ?_,h.bel.trans s,mw⟩⟩
 ·show World.ownsRow _ _ _ _ _ _ _
  rw[bu,da,vd,dt];exact N
 ·exact h.tm.same mw ((j.block f my (λe=>h.ne e.symm)).trans (iq w' _ f G))
 ·intro e
  have E:g=f:=by simpa [Value.ownBlock]using e
  subst E;rcases i with i|i
  ·exact h.ne i
  ·simp at i
   omega
structure SmallT(t:Tm):Prop where
 left:t.left<=255
 right:t.right<=255
 str:t.str.length<=255
 esc:t.esc.length<=255
theorem qd3{n:Nat}(h:n<=255):(n:Int)=((UInt8.ofNat n).toNat:Int):=by rw[fu];omega
theorem vii(base:Nat)(v:Value)(l:mv)(t:Tm)(W:World)(h:OB W base v l)(s:base<=W.heap.size)(q:l.length<=800000)(f:SmallT t)(m:t.op=0)(Q:Ending->World->Prop)(w:∀e w',xN base W (l++encT t) e w'->Q e w'):
  nz 117 #[tmV t,v] W Q:=by
 have x:encT t=UInt8.ofNat 0::qaa t.str:=by simp[encT,m,jk]
 have A:=qd w;rw[x]at A;clear w;have k:=qd (WSt.start h s t 125);obtain⟨a,c,rfl⟩:=h.form;have F:=f.left;have E:=f.right;have T:(0:Int)<=(t.left:Int):=mw;have X:(t.left:Int)<256:=mw;have Y:(0:Int)<=(t.right:Int):=mw;have A8:(t.right:Int)<256:=mw;obtain⟨n,j⟩:∃n,l.length=n:=⟨_,rfl⟩;have S:=qd j;rw[j]at k q ⊢;obtain⟨G,M,C,L,i⟩:=(q9 k).app (UInt8.ofNat 0) 0 nh mw n j (W.heap.size+1) mx;obtain⟨R,J,a1,a2,a3,a4,a5,Z⟩:=(q9 i).tm;have U:=f.str;have K:=qd (yV base (.slice (some ⟨G,0,none⟩) (n+1) M) (l++[UInt8.ofNat 0]) t.str C i.ob i.ge my mw _ (λe w' h=>h));unfold tmV;have y:(t.op:Int)=0:=mw;rw[y]at J L ⊢;clear x m h F E f j q s y k;go_enter func117,ntmps117
 go_wp2_with(go_at_call 170;refine K.mono ?_;rintro e O⟨P,rfl,z,B⟩;have I:=qd z;have N:=qd B;clear z B)
 exact q9 A _ _ ⟨_,rfl,by have:=q9 I;rw[bi]at this;exact this,i.bel.trans N⟩
theorem vij(base:Nat)(v:Value)(l:mv)(t:Tm)(W:World)(h:OB W base v l)(s:base<=W.heap.size)(q:l.length<=800000)(j:SmallT t)(m:t.op=1)(Q:Ending->World->Prop)(w:∀e w',xN base W (l++encT t) e w'->Q e w'):
  nz 117 #[tmV t,v] W Q:=by
 have x:encT t=UInt8.ofNat 1::zW t.num 8:=by simp[encT,m,jk]
 have A:=qd w;rw[x]at A;clear w;have k:=qd (WSt.start h s t 125);obtain⟨a,c,rfl⟩:=h.form;have F:=j.left;have E:=j.right;have T:(0:Int)<=(t.left:Int):=mw;have U:(t.left:Int)<256:=mw;have X:(0:Int)<=(t.right:Int):=mw;have A8:(t.right:Int)<256:=mw;obtain⟨n,i⟩:∃n,l.length=n:=⟨_,rfl⟩;have S:=qd i;rw[i]at k q ⊢;obtain⟨G,M,C,L,f⟩:=(q9 k).app (UInt8.ofNat 1) 1 nh mw n i (W.heap.size+1) mx;obtain⟨R,J,a1,a2,a3,a4,Z,Y⟩:=(q9 f).tm;have K:=qd (qcs base (.slice (some ⟨G,0,none⟩) (n+1) M) (l++[UInt8.ofNat 1]) t.num C f.ob f.ge my _ (λe w' h=>h));unfold tmV;have y:(t.op:Int)=1:=mw;rw[y]at J L ⊢;clear x m h F E j i q s y k;go_enter func117,ntmps117
 go_wp2_with(go_at_call 169;refine K.mono ?_;rintro e O⟨P,rfl,z,B⟩;have I:=qd z;have N:=qd B;clear z B)
 exact q9 A _ _ ⟨_,rfl,by have:=q9 I;rw[bi]at this;exact this,f.bel.trans N⟩
theorem vik(base:Nat)(v:Value)(l:mv)(t:Tm)(W:World)(h:OB W base v l)(s:base<=W.heap.size)(q:l.length<=800000)(f:SmallT t)(m:t.op=2)(Q:Ending->World->Prop)(w:∀e w',xN base W (l++encT t) e w'->Q e w'):
  nz 117 #[tmV t,v] W Q:=by
 have x:encT t=UInt8.ofNat 2::qaa t.str:=by simp[encT,m,jk]
 have A:=qd w;rw[x]at A;clear w;have k:=qd (WSt.start h s t 125);obtain⟨a,c,rfl⟩:=h.form;have F:=f.left;have E:=f.right;have T:(0:Int)<=(t.left:Int):=mw;have X:(t.left:Int)<256:=mw;have Y:(0:Int)<=(t.right:Int):=mw;have A8:(t.right:Int)<256:=mw;obtain⟨n,j⟩:∃n,l.length=n:=⟨_,rfl⟩;have S:=qd j;rw[j]at k q ⊢;obtain⟨G,M,C,L,i⟩:=(q9 k).app (UInt8.ofNat 2) 2 nh mw n j (W.heap.size+1) mx;obtain⟨R,J,a1,a2,a3,a4,a5,Z⟩:=(q9 i).tm;have U:=f.str;have K:=qd (yV base (.slice (some ⟨G,0,none⟩) (n+1) M) (l++[UInt8.ofNat 2]) t.str C i.ob i.ge my mw _ (λe w' h=>h));unfold tmV;have y:(t.op:Int)=2:=mw;rw[y]at J L ⊢;clear x m h F E f j q s y k;go_enter func117,ntmps117
 go_wp2_with(go_at_call 170;refine K.mono ?_;rintro e O⟨P,rfl,z,B⟩;have I:=qd z;have N:=qd B;clear z B)
 exact q9 A _ _ ⟨_,rfl,by have:=q9 I;rw[bi]at this;exact this,i.bel.trans N⟩
theorem qyj(base:Nat)(v:Value)(l:mv)(t:Tm)(W:World)(h:OB W base v l)(w:base<=W.heap.size)(s:l.length<=800000)(i:SmallT t)(B:t.op=3\/t.op=4)(Q:Ending->World->Prop)(x:∀e w',xN base W (l++encT t) e w'->Q e w'):
  nz 117 #[tmV t,v] W Q:=by
 have y:encT t=[UInt8.ofNat t.op]:=by rcases B with q|q<;>simp[encT,q,jk]
 have A:=qd x;rw[y]at A;clear x;have k:=qd (WSt.start h w t 125);obtain⟨a,c,rfl⟩:=h.form;have E:=i.left;have C:=i.right;have M:(0:Int)<=(t.left:Int):=mw;have O:(t.left:Int)<256:=mw;have P:(0:Int)<=(t.right:Int):=mw;have A8:(t.right:Int)<256:=mw;obtain⟨n,f⟩:∃n,l.length=n:=⟨_,rfl⟩;have L:=qd f;rw[f]at k s ⊢;obtain⟨N,Z,J,I,j⟩:=(q9 k).app (UInt8.ofNat t.op) (t.op:Int) (qd3 mw) mw n f (W.heap.size+1) mx;obtain⟨K,G,Y,X,U,T,S,R⟩:=(q9 j).tm;unfold tmV;obtain⟨z,m⟩:∃z:Int,(t.op:Int)=z:=⟨_,rfl⟩;rw[m]at G I ⊢;have F:z=3\/z=4:=mw;clear y B h E C i f s w m k;rcases F with rfl|rfl
 all_goals
  go_enter func117,ntmps117
  go_wp2_with fail
  exact q9 A _ _ ⟨_,rfl,j.ob,j.bel⟩
theorem vil(base:Nat)(v:Value)(l:mv)(t:Tm)(W:World)(h:OB W base v l)(s:base<=W.heap.size)(m:l.length<=800000)(i:SmallT t)(k:t.op=5)(Q:Ending->World->Prop)(w:∀e w',xN base W (l++encT t) e w'->Q e w'):
  nz 117 #[tmV t,v] W Q:=by
 have x:encT t=[UInt8.ofNat 5,UInt8.ofNat t.left]:=by simp[encT,k,jk]
 have B:=qd w;rw[x]at B;clear w;have j:=qd (WSt.start h s t 125);obtain⟨a,c,rfl⟩:=h.form;have q:=i.left;have C:=i.right;have L:(0:Int)<=(t.left:Int):=mw;have O:(t.left:Int)<256:=mw;have R:(0:Int)<=(t.right:Int):=mw;have A8:(t.right:Int)<256:=mw;obtain⟨n,f⟩:∃n,l.length=n:=⟨_,rfl⟩;have K:=qd f;rw[f]at j m ⊢;obtain⟨N,L4,I,F,A⟩:=(q9 j).app (UInt8.ofNat 5) 5 nh mw n f (W.heap.size+1) mx;obtain⟨J,E,Z,Y,X,U,T,S⟩:=(q9 A).tm;obtain⟨M,U1,G,P,z⟩:=(q9 A).app (UInt8.ofNat t.left) (t.left:Int) (qd3 q) my (n+1) (by simp[f]) _ rfl;unfold tmV;have y:(t.op:Int)=5:=mw;rw[y]at E F ⊢;clear x k h q C i f m s y j;go_enter func117,ntmps117
 go_wp2_with fail
 exact q9 B _ _ ⟨_,rfl,by have:=(q9 z).ob;rw[bi]at this;exact this,z.bel⟩
theorem yW(base:Nat)(v:Value)(l:mv)(t:Tm)(W:World)(h:OB W base v l)(x:base<=W.heap.size)(s:l.length<=800000)(j:SmallT t)(G:t.op=6\/t.op=7\/t.op=8\/t.op=10\/t.op=11\/t.op=16\/t.op=17\/t.op=18\/t.op=19)(Q:Ending->World->Prop)(y:∀e w',xN base W (l++encT t) e w'->Q e w'):
  nz 117 #[tmV t,v] W Q:=by
 have A:encT t=[UInt8.ofNat t.op,UInt8.ofNat t.right,UInt8.ofNat t.left]:=by rcases G with f|f|f|f|f|f|f|f|f<;>simp[encT,f,jk]
 have F:=qd y;rw[A]at F;clear y;have k:=qd (WSt.start h x t 125);obtain⟨a,c,rfl⟩:=h.form;have w:=j.left;have q:=j.right;have S:(0:Int)<=(t.left:Int):=mw;have Y:(t.left:Int)<256:=mw;have b8:(0:Int)<=(t.right:Int):=mw;have A8:(t.right:Int)<256:=mw;obtain⟨n,i⟩:∃n,l.length=n:=⟨_,rfl⟩;have R:=qd i;rw[i]at k s ⊢;obtain⟨X,L4,O,L,E⟩:=(q9 k).app (UInt8.ofNat t.op) (t.op:Int) (qd3 mw) mw n i (W.heap.size+1) mx;obtain⟨P,K,a1,a2,a3,a4,a5,af⟩:=(q9 E).tm;obtain⟨U,U1,N,bK,C⟩:=(q9 E).app (UInt8.ofNat t.right) (t.right:Int) (qd3 q) my (n+1) (by simp[i]) _ rfl;obtain⟨VH,J,b1,b2,b3,b4,b5,Z⟩:=(q9 C).tm;obtain⟨T,IT,M,AI,B⟩:=(q9 C).app (UInt8.ofNat t.left) (t.left:Int) (qd3 w) my (n+1+1) (by simp[i]) _ rfl;unfold tmV;obtain⟨z,m⟩:∃z:Int,(t.op:Int)=z:=⟨_,rfl⟩;rw[m]at K L J ⊢;have I:z=6\/z=7\/z=8\/z=10\/z=11\/z=16\/z=17\/z=18\/z=19:=mw;clear A G h w q j i s x m k;rcases I with rfl|rfl|rfl|rfl|rfl|rfl|rfl|rfl|rfl
 all_goals
  go_enter func117,ntmps117
  go_wp2_with fail
  exact q9 F _ _ ⟨_,rfl,by have:=(q9 B).ob;rw[bi,bi]at this;exact this,B.bel⟩
theorem vdn(base:Nat)(v:Value)(l:mv)(t:Tm)(W:World)(h:OB W base v l)(s:base<=W.heap.size)(m:l.length<=800000)(i:SmallT t)(k:t.op=23)(Q:Ending->World->Prop)(w:∀e w',xN base W (l++encT t) e w'->Q e w'):
  nz 117 #[tmV t,v] W Q:=by
 have x:encT t=[UInt8.ofNat 23,UInt8.ofNat t.left]:=by simp[encT,k,jk]
 have B:=qd w;rw[x]at B;clear w;have j:=qd (WSt.start h s t 125);obtain⟨a,c,rfl⟩:=h.form;have q:=i.left;have C:=i.right;have L:(0:Int)<=(t.left:Int):=mw;have O:(t.left:Int)<256:=mw;have R:(0:Int)<=(t.right:Int):=mw;have A8:(t.right:Int)<256:=mw;obtain⟨n,f⟩:∃n,l.length=n:=⟨_,rfl⟩;have K:=qd f;rw[f]at j m ⊢;obtain⟨N,L4,I,F,A⟩:=(q9 j).app (UInt8.ofNat 23) 23 nh mw n f (W.heap.size+1) mx;obtain⟨J,E,Z,Y,X,U,T,S⟩:=(q9 A).tm;obtain⟨M,U1,G,P,z⟩:=(q9 A).app (UInt8.ofNat t.left) (t.left:Int) (qd3 q) my (n+1) (by simp[f]) _ rfl;unfold tmV;have y:(t.op:Int)=23:=mw;rw[y]at E F ⊢;clear x k h q C i f m s y j;go_enter func117,ntmps117
 go_wp2_with fail
 exact q9 B _ _ ⟨_,rfl,by have:=(q9 z).ob;rw[bi]at this;exact this,z.bel⟩
end
section
theorem qut{r:mv}{L:List Tk}(h:Lx r L)(i:∀c,r.head?=some c->(c==39)=false)(s:mv):Lx (39::(xJ s++39::r)) (⟨4,0,s⟩::L):=by
 have e:=qvu r i s
 have k:vG (39::(xJ s++39::r))=⟨4,0,s⟩:=by
  unfold vG;rw[ik,db,e]
 have j:xM (39::(xJ s++39::r))=(xJ s).length+2:=by
  unfold xM;rw[ik,db,e]
 have f:qJ (39::(xJ s++39::r)) 0=⟨4,0,s⟩/\qZ (39::(xJ s++39::r)) 0=(xJ s).length+2:=by
  constructor
  ·show vG (39::(xJ s++39::r))=_
   exact k
  ·show 0+xM (39::(xJ s++39::r))=_
   rw[j];omega
 refine .cons f.1 (show(4:Int)≠0 by decide) ?_;rw[f.2,ik];have:(xJ s++39::r).drop ((xJ s).length+1)=r:=by simp[List.drop_append]
 rw[this];exact h
end
end Go.Proofs.YtfkcaldjphakpaaGreatDoor
