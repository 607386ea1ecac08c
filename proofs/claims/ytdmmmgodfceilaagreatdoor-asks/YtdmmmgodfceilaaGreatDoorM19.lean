/- Terms as the keys of a -/
import Derived.Test.YtdmmmgodfceilaaGreatDoorM15
import Derived.Maps.OwnSet
import Derived.DeepKeys4
import Derived.ProofKit
import Derived.Deep.Slices
import Derived.Deep.Strs
import Derived.SizedLaws
import Derived.WideKeyArgs
import Derived.Laws.Rows
import Derived.Lib.SmallJoins
set_option maxHeartbeats 16000000
set_option maxRecDepth 100000
namespace Go.Proofs.YtdmmmgodfceilaaGreatDoor
open Go.RowKit Go.Proofs.Tryz
open Go renaming Value->Ap,World->Ao
open Go.Ending renaming returned->Ak
open Go.IntKind renaming i64->J
open Go.Obj renaming cells->Al
open Go.Value renaming agg->Ai,bool->Ah,int->I,pointer->Ag,slice->C,string->Y,tuple->Aj
open Option renaming none->O,some->G
open Or renaming inl->Am,inr->An
variable{s:tq}{p:CP}{D:DataW Unit}{pl:List MemPlace}{rs:List Nat}{ps:List Pr}{L:List Tk}{Q7 ts:List Tm}{r:tu}{B E b base d fuel i lo mb mp n o tb:Nat}{c:Option Co}{P:Program}{f g:TS->TRes}{t u:Tm}{ty:TypeId}{ev rv rv' t8 tv tv' v v0 v1 v2 v3 v4 v5 vx vy:Ap}{U W W' a w w' w2:Ao}
section
open Go.Maps (Keyed)
theorem vk8:laidOutB prog=true:=uh
theorem vas:(187:TypeId)<prog.types.size:=of_decide_eq_true uh
theorem var:prog.keyTypeAt 3 187=true:=uh
theorem qe6:Keyed prog 187:=Keyed.of_law (deep_law_laid vk8 (m:=3) (Nat.le_of_ble_eq_true rfl) vas var (by rw[underlying187]))
theorem vn0:prog.keyType 187=true:=uh
theorem qkk:prog.cellsOf 187=6:=uh
theorem vj1:prog.cellsOf 99=1:=uh
theorem qnj:prog.cellsOf 3=1:=uh
theorem qs4:prog.cellsOf 2=1:=uh
theorem qmf:prog.cellsOf 9=1:=uh
structure HoldT(t:Tm):Prop where
 op:Rng t.op
 left:Rng t.left
 right:Rng t.right
 K:Rng t.K
 V:t.V.length<=1000
 h:t.h.length<=1000
def vka(t:Tm):List Lit:=[.int .i64 t.op,.int .i64 t.left,.int .i64 t.right,.int .i64 t.K,.string t.V,.string t.h]
def klT(t:Tm):Lit:=.string (keyBytes (vka t))
theorem vqk{n:Int}(h:Rng n):(Lit.int .i64 n).wf=true:=WalkArith.wf_i64 h
theorem kt(e:prog.underlying ty=G (.int .i64)){n:Int}(h:Rng n):prog.keyLits (d+1) ty [.int .i64 n]=G [.int .i64 n]:=by
 unfold Program.keyLits;rw[e];simp[vqk h]
theorem qd4(e:prog.underlying ty=G .string){l:tu}(h:l.length<=1000):prog.keyLits (d+1) ty [.string (BS l)]=G [.string l]:=by
 unfold Program.keyLits;rw[e];have:(BS l).size<=maxLen:=by rw[qJ];unfold maxLen;omega
 simp[this,xB]
theorem xb(h:HoldT t):keyOf prog 187 (tmV t)=G (klT t):=by
 obtain⟨d,hd⟩:∃d,prog.types.size+1=d+1+1:=⟨prog.types.size - 1,by have:0<prog.types.size:=Nat.lt_of_le_of_lt (bt _) vas;omega⟩;have z:=kt (d:=d) underlying99 h.op;have y:=kt (d:=d) underlying3 h.left;have x:=kt (d:=d) underlying3 h.right;have q:=kt (d:=d) underlying2 h.K;have m:=qd4 (d:=d) underlying9 h.V;have l:=qd4 (d:=d) underlying9 h.h
 have e:prog.keyLits (prog.types.size+1) 187 (tmV t).cells.toList=G (vka t):=by
  rw[hd];unfold Program.keyLits;rw[underlying187];have k:(tmV t).cells.toList=[.int .i64 t.op,.int .i64 t.left,.int .i64 t.right,.int .i64 t.K,.string (BS t.V),.string (BS t.h)]:=rfl;simp[k,qkk,vj1,qnj,qs4,qmf,z,y,x,q,m,l,vka,List.mapM_cons,List.mapM_nil]
 have j:(tmV t).formed prog 187=true:=by simp[tmV,Value.formed,underlying187,qkk]
 unfold keyOf;rw[underlying187];simp only[vn0,j,Bool.and_self,if_true,e];rfl
theorem vn2(h:tmV t=tmV u):t=u:=by
 obtain⟨a,b,c,d,e,f⟩:=t;obtain⟨K,J,I,G,y,l⟩:=u;simp[tmV]at h;obtain⟨F,C,A,z,k,j⟩:=h;have q:e=y:=by have:=congrArg (λx=>x.data.toList) k;simpa [xB]using this
 have m:f=l:=by have:=congrArg (λx=>x.data.toList) j;simpa [xB]using this
 subst q m;simp;omega
theorem qx7(k:HoldT t)(j:HoldT u)(h:t≠u):klT t≠klT u:=λe=>h (vn2 (qe6.inj (xb k) (e ▸ xb j)))
def va4(t u:Tm):Bool:=t.op==u.op&&t.left==u.left&&t.right==u.right&&t.K==u.K&&t.V==u.V&&t.h==u.h
theorem yX(t u:Tm):va4 t u=true↔t=u:=by
 obtain⟨a,b,c,d,e,f⟩:=t;obtain⟨q,m,l,k,j,h⟩:=u;simp[va4,and_assoc]
def j8(ts:List Tm)(t:Tm):Option Nat:=ts.findIdx? λu=>va4 u t
theorem kN(h:j8 ts t=O):j8 (ts++[t]) t=G ts.length:=by
 unfold j8 at h |-;rw[List.findIdx?_append,h];simp[(yX t t).2 rfl]
theorem kg(h:t≠u):j8 (ts++[u]) t=j8 ts t:=by
 unfold j8
 have:va4 u t=false:=by
  cases hs:va4 u t with
  | false=>rfl
  | true=>exact absurd ((yX u t).1 hs).symm h
 rw[List.findIdx?_append];simp[this]
structure MapIs(D:DataW Unit)(ts:List Tm):Prop where
 map:Maps.IsMap D
 at':∀t,HoldT t->∀i,j8 ts t=G i->Maps.has D (klT t)=true/\D.atKey (klT t) (.lit (.int .i64 0))=.lit (.int .i64 i)
 no:∀t,HoldT t->j8 ts t=O->Maps.has D (klT t)=false
theorem MapIs.empty:MapIs (.map []) []:=⟨Maps.isMap_empty,λt _ i h=>by simp[j8]at h,λt _ _=>rfl⟩
theorem MapIs.add(h:MapIs D ts)(l:HoldT t)(m:j8 ts t=O):MapIs (D.put (klT t) (.lit (.int .i64 ts.length))) (ts++[t]):=by
 have q:WideAt.IsKeyLit (klT t):=qe6.key (xb l);refine⟨h.map.put _ _,λu e i j=>?_,λu e k=>?_⟩
 by_cases he:u=t
 subst he;rw[kN m]at j;simp at j;subst j;exact⟨Maps.has_put_same h.map q _,Maps.atKey_put_same h.map q _ _⟩;rw[kg he]at j;have:=h.at' u e i j;rw[Maps.has_put_other (qx7 e l he),Maps.atKey_put_other (qx7 e l he)];exact this
 by_cases he:u=t
 subst he;rw[kN m]at k;simp at k;rw[kg he]at k;rw[Maps.has_put_other (qx7 e l he)];exact h.no u e k
end
def zK(p:CP)(l r:Nat):Tm:=⟨p.op.toNat,l,r,p.K,p.V,p.h⟩
def pC(ts:List Tm)(t:Tm):List Tm×Nat:=match j8 ts t with
 | some i=>(ts,i)
 | none=>(ts++[t],ts.length)
def qC:List Tm->Co->List Tm×Nat
 | ts,.leaf p=>pC ts (zK p 0 0)
 | ts,.un p x=>pC (qC ts x).1 (zK p (qC ts x).2 0)
 | ts,.bin p x y=>pC (qC (qC ts x).1 y).1 (zK p (qC ts x).2 (qC (qC ts x).1 y).2)
def yZ:Co->Nat
 | .leaf _=>1
 | .un _ x=>yZ x+1
 | .bin _ x y=>yZ x+yZ y+1
structure GoodP(p:CP):Prop where
 op:0<=p.op/\p.op<=23
 K:Rng p.K
 V:p.V.length<=1000
 h:p.h.length<=1000
def qed:Co->Prop
 | .leaf p=>GoodP p
 | .un p x=>GoodP p/\qed x
 | .bin p x y=>GoodP p/\qed x/\qed y
theorem vbl(h:j8 ts t=G i):i<ts.length:=by
 unfold j8 at h;obtain⟨e,_⟩:=ib.1 h;exact e
theorem qh7(ts:List Tm)(t:Tm):ts.length<=(pC ts t).1.length/\(pC ts t).1.length<=ts.length+1/\(pC ts t).2<(pC ts t).1.length:=by
 unfold pC
 split
 rename_i i h;exact⟨ui,Nat.le_succ _,vbl h⟩;simp
theorem xV(ts:List Tm)(c:Co):ts.length<=(qC ts c).1.length/\(qC ts c).1.length<=ts.length+yZ c/\(qC ts c).2<(qC ts c).1.length:=by
 induction c generalizing ts with
 | leaf p=>exact qh7 _ _
 | un p x ih=>
  have h:=ih ts;have e:=qh7 (qC ts x).1 (zK p (qC ts x).2 0);simp only[qC,yZ];omega
 | bin p x y ihx ihy=>
  have h:=ihx ts;have e:=ihy (qC ts x).1;have j:=qh7 (qC (qC ts x).1 y).1 (zK p (qC ts x).2 (qC (qC ts x).1 y).2);simp only[qC,yZ];omega
theorem vaz(h:GoodP p){l r:Nat}(q:l<=3000000000)(m:r<=3000000000):HoldT (zK p l r):=by
 obtain⟨⟨y,x⟩,k,j,e⟩:=h;exact⟨⟨by simp only[zK];omega,by simp only[zK];omega⟩,⟨by simp only[zK];omega,by simp only[zK];omega⟩,⟨by simp only[zK];omega,by simp only[zK];omega⟩,k,j,e⟩
structure MkAt(W:Ao)(mb mp:Nat)(ts:List Tm)(rs:List Nat)(tv rv:Ap):Prop where
 c0:W.cell? ⟨mb,0,O⟩=G tv
 c1:W.cell? ⟨mb,1,O⟩=G rv
 c2:W.cell? ⟨mb,2,O⟩=G (.map (G mp))
 fz:∀j,W.frozen? ⟨mb,j,O⟩=false
 lo:mp<mb
 lt:mb<W.1.size
 ats:TsAt W (mb+1) tv ts
 ars:IsAt W (mb+1) rv rs
 ne:∀g,tv.ownBlock=G g->rv.ownBlock≠G g
 map:∃D:DataW Unit,W.ownsMap prog 187 (plainElem prog 3) mp ts.length D/\MapIs D ts
def Own(mb mp:Nat)(tv rv:Ap)(k:Nat):Prop:=k=mb\/k=mp\/tv.ownBlock=G k\/rv.ownBlock=G k
structure MkKept(mb mp:Nat)(tv rv tv' rv':Ap)(W W':Ao):Prop where
 os:W'.os=W.os
 tape:W'.tape=W.tape
 output:W'.output=W.output
 size:W.1.size<=W'.1.size
 block:∀k,k<W.1.size->¬Own mb mp tv rv k->W'.1[k]?=W.1[k]?
 rows:∀k,k<W.1.size->Own mb mp tv' rv' k->Own mb mp tv rv k
theorem MkKept.refl(mb mp:Nat)(tv rv:Ap)(W:Ao):MkKept mb mp tv rv tv rv W W:=⟨rfl,rfl,rfl,ui,λ_ _ _=>rfl,λ_ _ h=>h⟩
theorem MkKept.trans{j:Ap}{b c:Ao}(h:MkKept mb mp tv rv tv' rv' a b)(k:MkKept mb mp tv' rv' t8 j b c):MkKept mb mp tv rv t8 j a c:=
 ⟨k.os.trans h.os,k.tape.trans h.tape,k.output.trans h.output,bs h.size k.size,
  λi e m=>(k.block i (aq e h.size) (λl=>m (h.rows i e l))).trans (h.block i e m),
  λi e l=>h.rows i e (k.rows i (aq e h.size) l)⟩
theorem MkKept.drew'{b:Ao}(h:MkKept mb mp tv rv tv' rv' a.drew b):MkKept mb mp tv rv tv' rv' a b:=⟨h.os,h.tape,h.output,h.size,h.block,h.rows⟩
theorem MkKept.of_below{b:Ao}(h:Xb a b):MkKept mb mp tv rv tv rv a b:=⟨h.os,h.tape,h.output,h.size,λk e _=>h.block k e,λ_ _ h=>h⟩
def Out(B E mb mp:Nat)(tv rv:Ap):Prop:=∀k,Own mb mp tv rv k->k<B\/E<=k
theorem Out.next(h:Out B E mb mp tv rv)(l:MkKept mb mp tv rv tv' rv' W W')(m:E<=W.1.size):Out B E mb mp tv' rv':=by
 intro k j;rcases Nat.lt_or_ge k W.1.size with e|e;exact h k (l.rows k e j);exact An ub
theorem MkAt.own_lt(h:MkAt W mb mp ts rs tv rv){k:Nat}(e:Own mb mp tv rv k):k<W.1.size:=by
 have:=h.lt;have:=h.lo;rcases e with rfl|rfl|e|e;omega;omega;exact(h.ats.lt k e).2;exact(h.ars.lt k e).2
theorem MkAt.same(h:MkAt W mb mp ts rs tv rv)(x:W.1.size<=W'.1.size)(e:∀k,Own mb mp tv rv k->W'.1[k]?=W.1[k]?):MkAt W' mb mp ts rs tv rv:=by
 have q:=e mb (Am rfl);have m:∀j,W'.cell? ⟨mb,j,O⟩=W.cell? ⟨mb,j,O⟩:=λj=>aw (w:=W) (w':=W') (a:=⟨mb,j,O⟩) q
 have y:∀j,W'.frozen? ⟨mb,j,O⟩=W.frozen? ⟨mb,j,O⟩:=λj=>cn (w:=W) (w':=W') (a:=⟨mb,j,O⟩) q
 obtain⟨D,⟨es,clock,z,rest⟩,A⟩:=h.map
 exact⟨(m 0).trans h.c0,(m 1).trans h.c1,(m 2).trans h.c2,λj=>(y j).trans (h.fz j),h.lo,aq h.lt x,
  qm h.ats λg l=>e g (An (An (Am l))),qm h.ars λg l=>e g (An (An (An l))),h.ne,D,⟨es,clock,(e mp (An (Am rfl))).trans z,rest⟩,A⟩
theorem MkAt.below(h:MkAt W mb mp ts rs tv rv)(e:Xb W W'):MkAt W' mb mp ts rs tv rv:=
 h.same e.size λk j=>e.block k (h.own_lt j)
theorem MkAt.drew(h:MkAt W mb mp ts rs tv rv):MkAt W.drew mb mp ts rs tv rv:=h.below uj.drew
theorem MkAt.row_other(h:MkAt W mb mp ts rs tv rv)(e:W.grownBy W' (G mp)):
  Xc W' mb 0 tv/\Xc W' mb 1 rv/\Xc W' mb 2 (.map (G mp))/\(Xf W' mb)/\TsAt W' (mb+1) tv ts/\IsAt W' (mb+1) rv rs/\mb<W'.1.size:=by
 have q:=h.lo;have l:W'.1[mb]?=W.1[mb]?:=e.block mb h.lt ud;have k:∀j,W'.cell? ⟨mb,j,O⟩=W.cell? ⟨mb,j,O⟩:=λj=>aw (w:=W) (w':=W') (a:=⟨mb,j,O⟩) l
 have m:∀j,W'.frozen? ⟨mb,j,O⟩=W.frozen? ⟨mb,j,O⟩:=λj=>cn (w:=W) (w':=W') (a:=⟨mb,j,O⟩) l
 refine⟨(k 0).trans h.c0,(k 1).trans h.c1,(k 2).trans h.c2,λj=>(m j).trans (h.fz j),qm h.ats λg hg'=>?_,qm h.ars λg hg'=>?_,aq h.lt e.size⟩;have:=h.ats.lt g hg';exact e.block g this.2 ud;have:=h.ars.lt g hg';exact e.block g this.2 ud
theorem MkAt.add{W l W2:Ao}(h:MkAt W mb mp ts rs tv rv)(CI:HoldT t)(X:j8 ts t=O)(hD:MapIs D ts){o:Obj}
  (BX:l.ownsMap prog 187 (plainElem prog 3) mp (ts.length+1) (D.put (klT t) (.lit (.int .i64 ts.length)))) (y:W.grownBy l (G mp)) {g cap H:Nat}
  (B7:W2.ownsRow (mb+1) 187 6 (.slice (G ⟨g,0,O⟩) (ts.length+1) cap) (ts.length+1) (kD ts++gG t)) (C:(l.alloc o).grownBy W2 tv.ownBlock) (x:tv.ownBlock=G g\/g=H) (Z:(l.alloc o).1.size=H) :
  MkAt (W2.setCell ⟨mb,0,O⟩ (.slice (G ⟨g,0,O⟩) (ts.length+1) cap)) mb mp (ts++[t]) rs (.slice (G ⟨g,0,O⟩) (ts.length+1) cap) rv /\
  MkKept mb mp tv rv (.slice (G ⟨g,0,O⟩) (ts.length+1) cap) rv W (W2.setCell ⟨mb,0,O⟩ (.slice (G ⟨g,0,O⟩) (ts.length+1) cap)):=by
 have eP:=h.lo;obtain⟨c0,c1,c2,fz,ats,ars,IP⟩:=h.row_other y;have B8:=y.size;have D4:=C.size;simp at D4 Z;have Q:∀k,tv.ownBlock=G k->mb+1<=k:=λk q=>(h.ats.lt k q).1
 have F:∀k,k<l.1.size->tv.ownBlock≠G k->W2.1[k]?=l.1[k]?:=λk q z=>
  (C.block k ud (λe=>z e.symm)).trans (ig l o k q)
 have J:W2.1[mb]?=l.1[mb]?:=F mb IP (λe=>uu (Q mb e));have QE:Xc W2 mb 0 tv:=(aw (w:=l) (w':=W2) (a:=⟨mb,0,O⟩) J).trans c0;have MG:Xc W2 mb 1 rv:=(aw (w:=l) (w':=W2) (a:=⟨mb,1,O⟩) J).trans c1;have WW:Xc W2 mb 2 (.map (G mp)):=(aw (w:=l) (w':=W2) (a:=⟨mb,2,O⟩) J).trans c2;have K:Xf W2 mb:=λj=>(cn (w:=l) (w':=W2) (a:=⟨mb,j,O⟩) J).trans (fz j)
 have M:∀k,k≠mb->(W2.setCell ⟨mb,0,O⟩ (.slice (G ⟨g,0,O⟩) (ts.length+1) cap)).1[k]?=W2.1[k]?:=λk q=>au W2 ⟨mb,0,O⟩ _ k (by show k≠mb;exact q)
 refine⟨⟨by simp[go_sem,QE],by simp[go_sem,MG],by simp[go_sem,WW],λj=>by simp[go_sem,K],eP,ud, ?_, ?_, ?_, ?_⟩,⟨?_, ?_, ?_,ud,λk q z=>?_,λk q m=>?_⟩⟩
 .show World.ownsRow _ _ _ _ _ _ _
  rw[ce,du,kD,mt,List.flatMap_singleton];exact ownsRow_setCell_below B7 (by show mb<mb+1;omega) _
 refine qm ars λI hg'=>?_
 have Y:=ars.lt I hg';rw[M I ub];exact F I Y.2 (λe=>h.ne I e hg');intro g0 R N;have A:g=g0:=by simpa [Value.ownBlock]using R
 subst A;rcases x with x|x;exact h.ne g x N;have:=(ars.lt g N).2;omega;refine⟨_, ?_,hD.add CI X⟩;obtain⟨es,clock,A,rest⟩:=BX;rw[ce,du];refine⟨es,clock, ?_,rest⟩;rw[M mp ub,F mp ub (λe=>uu (Q mp e))];exact A;exact C.os.trans y.os;exact C.tape.trans y.tape;exact C.output.trans y.output;have T:k≠mb:=λe=>z (Am e)
 have S:k≠mp:=λe=>z (An (Am e))
 rw[M k T,F k ub (λe=>z (An (An (Am e))))];exact y.block k q (by simpa using S);rcases m with m|m|m|m;exact Am m;exact An (Am m);have A:g=k:=by simpa [Value.ownBlock]using m
 subst A;rcases x with x|x;exact An (An (Am x));omega;exact An (An (An m))
theorem MkAt.root{W W2:Ao}(h:MkAt W mb mp ts rs tv rv){r:Nat}{o:Obj}{g cap H:Nat}
  (B7:W2.ownsRow (mb+1) 3 1 (C (G ⟨g,0,O⟩) (rs.length+1) cap) (rs.length+1) (yp rs++[I J r])) (y:(W.alloc o).grownBy W2 rv.ownBlock) (q:rv.ownBlock=G g\/g=H) (Y:(W.alloc o).1.size=H) :
  MkAt (W2.setCell ⟨mb,1,O⟩ (C (G ⟨g,0,O⟩) (rs.length+1) cap)) mb mp ts (rs++[r]) tv (C (G ⟨g,0,O⟩) (rs.length+1) cap) /\
  MkKept mb mp tv rv tv (C (G ⟨g,0,O⟩) (rs.length+1) cap) W (W2.setCell ⟨mb,1,O⟩ (C (G ⟨g,0,O⟩) (rs.length+1) cap)):=by
 have eP:=h.lo;have A1:=h.lt;have D4:=y.size;simp at D4 Y;have R:∀k,rv.ownBlock=G k->mb+1<=k:=λk m=>(h.ars.lt k m).1
 have A:∀k,k<W.1.size->rv.ownBlock≠G k->W2.1[k]?=W.1[k]?:=λk m z=>
  (y.block k ud (λe=>z e.symm)).trans (ig W o k m)
 have K:W2.1[mb]?=W.1[mb]?:=A mb A1 (λe=>uu (R mb e));have QE:Xc W2 mb 0 tv:=(aw (w:=W) (w':=W2) (a:=⟨mb,0,O⟩) K).trans h.c0;have MG:Xc W2 mb 1 rv:=(aw (w:=W) (w':=W2) (a:=⟨mb,1,O⟩) K).trans h.c1;have WW:Xc W2 mb 2 (.map (G mp)):=(aw (w:=W) (w':=W2) (a:=⟨mb,2,O⟩) K).trans h.c2;have M:Xf W2 mb:=λj=>(cn (w:=W) (w':=W2) (a:=⟨mb,j,O⟩) K).trans (h.fz j)
 have N:∀k,k≠mb->(W2.setCell ⟨mb,1,O⟩ (C (G ⟨g,0,O⟩) (rs.length+1) cap)).1[k]?=W2.1[k]?:=λk m=>au W2 ⟨mb,1,O⟩ _ k (by show k≠mb;exact m)
 refine⟨⟨by simp[go_sem,QE],by simp[go_sem,MG],by simp[go_sem,WW],λj=>by simp[go_sem,M],eP,ud, ?_, ?_, ?_, ?_⟩,⟨y.os,y.tape,y.output,ud,λk m z=>?_,λk m l=>?_⟩⟩;refine qm h.ats λF hg'=>?_
 have X:=h.ats.lt F hg';rw[N F ub];exact A F X.2 (λe=>h.ne F hg' e)
 .show World.ownsRow _ _ _ _ _ _ _
  rw[ce,du,yp,dq];exact ownsRow_setCell_below B7 (by show mb<mb+1;omega) _
 intro g0 Q T;have x:g=g0:=by simpa [Value.ownBlock]using T
 subst x;rcases q with q|q;exact h.ne g Q q;have:=(h.ats.lt g Q).2;omega;obtain⟨D,⟨es,clock,x,rest⟩,Z⟩:=h.map;refine⟨D,⟨es,clock, ?_,rest⟩,Z⟩;rw[N mp ub,A mp ub (λe=>uu (R mp e))];exact x;have S:k≠mb:=λe=>z (Am e)
 rw[N k S];exact A k m (λe=>z (An (An (An e))));rcases l with l|l|l|l;exact Am l;exact An (Am l);exact An (An (Am l));have x:g=k:=by simpa [Value.ownBlock]using l
 subst x;rcases q with q|q;exact An (An (An q));omega
theorem qjd(w:Ao):ua 57 #[] w λe w'=>e=Ak (Ag (G ⟨w.1.size+1,0,O⟩))/\MkAt w' (w.1.size+1) w.1.size [] [] (C O 0 0) (C O 0 0)/\Xb w w':=by
 have l:=@run_makeMap prog;go_enter func57,ntmps57
 go_wp2
 go_ret;refine⟨rfl,⟨by simp[go_sem],by simp[go_sem],by simp[go_sem],λj=>by simp[go_sem],ub,uc,TsAt.nil _ _,IsAt.nil _ _,λg k=>by simp[Value.ownBlock]at k,.map [],(World.ownsMap_made w _ _ _).alloc _,MapIs.empty⟩,(uj.alloc ui _).alloc uc _⟩
theorem qkl(j o n:Nat)(a:Option Addr)(c:Nat)(w:Ao)(h:Xc w j o (C a n c)):ua 59 #[Ag (G ⟨j,o,O⟩)] w λe w'=>e=Ak (I J n)/\w'=w:=by
 go_enter func59,ntmps59
 go_wp2
 go_ret;exact⟨rfl,rfl⟩
theorem qyj(mb:Nat)(w:Ao):ua 103 #[Ag (G ⟨mb,0,O⟩),Ag O] w λe w'=>e=Ak (I J 0)/\w'=w:=by
 go_enter func103,ntmps103
 go_wp2
 go_ret;exact⟨rfl,rfl⟩
def SidAt(B E:Nat)(w:Ao)(v:Ap):Option Co->Prop
 | none=>v=Ag O
 | some c=>CoAt B E w v c
def vE(ts:List Tm):Option Co->List Tm×Nat
 | none=>(ts,0)
 | some c=>qC ts c
def qbc:Option Co->Nat
 | none=>0
 | some c=>yZ c
theorem qez(ts:List Tm)(c:Option Co):ts.length<=(vE ts c).1.length/\(vE ts c).1.length<=ts.length+qbc c/\(vE ts c).2<=ts.length+qbc c:=by
 cases c with
 | none=>exact⟨ui,ui,bt _⟩
 | some c=>
  have:=xV ts c;simp only[vE,qbc];omega
theorem SidAt.keep(h:SidAt B E w v c)(j:∀k,B<=k->k<E->w'.1[k]?=w.1[k]?)(e:w.1.size<=w'.1.size):SidAt B E w' v c:=by
 cases c with
 | none=>exact h
 | some c=>exact CoAt.keep ui j e h
def quz(mb mp:Nat)(rs:List Nat)(tv rv:Ap)(r:List Tm×Nat)(W:Ao)(e:Ending)(W':Ao):Prop:=∃tv',e=Ak (I J (r.2:Int))/\MkAt W' mb mp r.1 rs tv' rv/\MkKept mb mp tv rv tv' rv W W'
def qcg(c:Option Co):Prop:=∀(B E mb mp:Nat) (W:Ao) (v:Ap) (ts:List Tm) (rs:List Nat) (tv rv:Ap),MkAt W mb mp ts rs tv rv->SidAt B E W v c->E<=W.1.size->Out B E mb mp tv rv->ts.length+qbc c<=2500000000 ->
 Calls prog 103 #[Ag (G ⟨mb,0,O⟩),v] W (quz mb mp rs tv rv (vE ts c) W)
theorem pB:qcg O:=by
 intro B E mb mp W v ts rs tv rv h e _ _ _;obtain rfl:v=Ag O:=e;refine be (qyj mb W) ?_;rintro w' rfl;exact⟨tv,rfl,h,MkKept.refl _ _ _ _ _⟩
theorem Out.keep(h:Out B E mb mp tv rv)(j:MkKept mb mp tv rv tv' rv' W W')(l:E<=W.1.size):∀k,B<=k->k<E->W'.1[k]?=W.1[k]?:=
 λk q m=>j.block k ub (λe=>uu (h k e))
theorem vbp(w:Ao):(zeroValue 3).run prog w=.ok (I J 0) w:=uh
theorem MkAt.look_some(h:MkAt W mb mp ts rs tv rv)(j:HoldT t)(l:j8 ts t=G i):
  (Instr.lookup 111 (.map (G mp)) (Ai #[I J t.op,I J t.left,I J t.right,I J t.K,Y (BS t.V),Y (BS t.h)]) true).run prog W=.ok (Aj #[I J i,Ah true]) W:=by
 obtain⟨D,z,q⟩:=h.map;obtain⟨v,ps,k,hv⟩:=z.look_ok qe6 underlying111 (vbp W) (plainElem_int underlying3 ue) (xb j);obtain⟨y,x⟩:=q.at' t j i l;obtain⟨c,rfl,m,_⟩:=plainElem_int_inv underlying3 hv;have e:=congrArg Prod.fst m;rw[x]at e;simp at e;rw[y]at k;rw[e];exact k
theorem MkAt.look_none(h:MkAt W mb mp ts rs tv rv)(e:HoldT t)(k:j8 ts t=O):
  ∃c,(Instr.lookup 111 (.map (G mp)) (Ai #[I J t.op,I J t.left,I J t.right,I J t.K,Y (BS t.V),Y (BS t.h)]) true).run prog W=.ok (Aj #[I J c,Ah false]) W:=by
 obtain⟨D,m,l⟩:=h.map;obtain⟨v,ps,j,hv⟩:=m.look_ok qe6 underlying111 (vbp W) (plainElem_int underlying3 ue) (xb e);obtain⟨c,rfl,_,_⟩:=plainElem_int_inv underlying3 hv;rw[l.no t e k]at j;exact⟨c,j⟩
theorem MkAt.put(h:MkAt W mb mp ts rs tv rv)(z:HoldT t)(Q:j8 ts t=O)(hn:ts.length<=2500000000)(x:TmAt W tb t)(G1:¬Own mb mp tv rv tb):
  ∃k,(Instr.mapUpdate 111 (.map (G mp)) (Ai #[I J t.op,I J t.left,I J t.right,I J t.K,Y (BS t.V),Y (BS t.h)]) (I J ts.length)).run prog W=.ok () k /\
   Xc k mb 0 tv/\mb<k.1.size/\Hid (TmAt k tb t) /\
   ∃g cap l,(kH #[49,49] 49 #[tv,C (G ⟨k.1.size,0,O⟩) 1 1]).run prog (k.alloc (Al #[I J t.op,I J t.left,I J t.right,I J t.K,Y (BS t.V),Y (BS t.h)] 187)).drew=.ok (C (G ⟨g,0,O⟩) (ts.length+1) cap) l /\
    Xc l mb 0 tv/\(Xf l mb)/\mb<l.1.size /\
    Hid (MkAt (l.setCell ⟨mb,0,O⟩ (C (G ⟨g,0,O⟩) (ts.length+1) cap)) mb mp (ts++[t]) rs (C (G ⟨g,0,O⟩) (ts.length+1) cap) rv) /\
    Hid (MkKept mb mp tv rv (C (G ⟨g,0,O⟩) (ts.length+1) cap) rv W (l.setCell ⟨mb,0,O⟩ (C (G ⟨g,0,O⟩) (ts.length+1) cap))):=by
 obtain⟨N,S,F5,B8,D4⟩:=info_parts qx1;obtain⟨D,B7,T⟩:=h.map;obtain⟨k,S6,BX,q⟩:=B7.update qe6 underlying111 (by unfold maxLen;omega) (xb z) (plainElem_int underlying3 (vqk (n:=(ts.length:Int)) ⟨ub,ub⟩));obtain⟨c0,c1,c2,fz,ats,ars,F⟩:=h.row_other q;have SN:TmAt k tb t:=x.same (aq x.lt q.size) (q.block tb x.lt (by simp only[ne_eq,Option.some.injEq];exact λe=>G1 (An (Am e))));obtain⟨g,cap,l,R,M,m,F3,_⟩:=run_append_lies (P:=prog) (k.alloc (Al #[I J t.op,I J t.left,I J t.right,I J t.K,Y (BS t.V),Y (BS t.h)] 187)).drew 49 49 (mb+1) 187 N _ 6 64 underlying49 S F5 B8 D4 rfl ub tv ts.length (kD ts) (World.ownsRow.alloc ats _)
  ⟨k.1.size,0,O⟩ 1 1 (gG t) rfl (World.news_of_block (cs:=#[I J t.op,I J t.left,I J t.right,I J t.K,Y (BS t.V),Y (BS t.h)]) (t:=187) (fr:=(0,0)) (heap_alloc_new k _)) (by simp[gG,Value.oneCell']) ub (by unfold maxLen;omega) ub ud _ rfl
 have y:(k.alloc (Al #[I J t.op,I J t.left,I J t.right,I J t.K,Y (BS t.V),Y (BS t.h)] 187)).grownBy l tv.ownBlock:=⟨m.os,m.tape,m.output,m.size,m.block⟩;obtain⟨Z,X⟩:=h.add z Q T BX q M y F3 rfl;have A:l.1[mb]?=k.1[mb]?:=(y.block mb ud (λe=>uu ((ats.lt mb e.symm).1))).trans (ig k _ mb F);have K:=y.size;refine⟨k,S6,c0,F,qd SN,g,cap,l,R, ?_,λj=>?_, ?_,qd Z,qd X⟩;exact(aw (w:=k) (w':=l) (a:=⟨mb,0,O⟩) A).trans c0;exact(cn (w:=k) (w':=l) (a:=⟨mb,j,O⟩) A).trans (fz j);simp at K;omega
def CS(b:Nat)(p:CP)(vx vy:Ap)(w':Ao):Prop:=w'.cell? ⟨b,0,O⟩=G (I J p.op)/\w'.cell? ⟨b,1,O⟩=G vx/\w'.cell? ⟨b,2,O⟩=G vy/\w'.cell? ⟨b,3,O⟩=G (I J p.K)/\w'.cell? ⟨b,4,O⟩=G (Y (BS p.V))/\w'.cell? ⟨b,5,O⟩=G (Y (BS p.h))
theorem CS.same(h:CS b p vx vy W)(k:W'.1[b]?=W.1[b]?):CS b p vx vy W':=by
 have e:∀j,W'.cell? ⟨b,j,O⟩=W.cell? ⟨b,j,O⟩:=λj=>aw (w:=W) (w':=W') (a:=⟨b,j,O⟩) k
 obtain⟨z,y,x,q,m,l⟩:=h;exact⟨(e _).trans z,(e _).trans y,(e _).trans x,(e _).trans q,(e _).trans m,(e _).trans l⟩
theorem CS.alloc(h:CS b p vx vy W)(e:b<W.1.size)(o:Obj):CS b p vx vy (W.alloc o):=h.same (ig W o b e)
theorem CS.set6{R:Nat}(h:CS b p vx vy W)(e:b≠R):CS b p vx vy ((((((W.setCell ⟨R,0,O⟩ v0).setCell ⟨R,1,O⟩ v1).setCell ⟨R,2,O⟩ v2).setCell ⟨R,3,O⟩ v3).setCell ⟨R,4,O⟩ v4).setCell ⟨R,5,O⟩ v5):=
 (((((h.same (au _ ⟨R,0,O⟩ v0 b e)).same (au _ ⟨R,1,O⟩ v1 b e)).same (au _ ⟨R,2,O⟩ v2 b e)).same (au _ ⟨R,3,O⟩ v3 b e)).same (au _ ⟨R,4,O⟩ v4 b e)).same (au _ ⟨R,5,O⟩ v5 b e)
theorem CellsC.cs{l r:Ap}{t:tu}(h:CellsC B E w b p l r t):CS b p l r w:=⟨h.c0,h.c1,h.c2,h.c3,h.c4,h.c5⟩
structure PlMid(W:Ao)(mb mp:Nat)(rs:List Nat)(tv rv:Ap)(Q7:List Tm)(t8:Ap)(tb:Nat)(t:Tm)(wx:Ao):Prop where
 mka:MkAt wx mb mp Q7 rs t8 rv
 T:MkKept mb mp tv rv t8 rv W wx
 tm:TmAt wx tb t
 no:¬Own mb mp t8 rv tb
theorem MkKept.later(h:MkKept mb mp tv rv tv' rv' W W'){a:Addr}(l:W.1.size<=a.block)(u:Ap):MkKept mb mp tv rv tv' rv' W (W'.setCell a u):=
 ⟨h.os,h.tape,h.output,by have:=h.size;simpa using this,λk j e=>(au W' a u k ub).trans (h.block k j e),h.rows⟩
theorem MkAt.later(h:MkAt W mb mp ts rs tv rv){a:Addr}(l:¬Own mb mp tv rv a.block)(u:Ap):MkAt (W.setCell a u) mb mp ts rs tv rv:=
 h.same uc λk j=>au W a u k (λe=>l (e ▸ j))
theorem PlMid.set{j:Tm}(l:MkAt w2 mb mp Q7 rs t8 rv)(m:MkKept mb mp tv rv t8 rv W w2)(k:TmAt w2 tb j)(e:¬Own mb mp t8 rv tb)(h:W.1.size<=tb)
   (C:v0=I J t.op) (A:v1=I J t.left) (z:v2=I J t.right) (y:v3=I J t.K) (x:v4=Y (BS t.V)) (q:v5=Y (BS t.h)) :
  PlMid W mb mp rs tv rv Q7 t8 tb t ((((((w2.setCell ⟨tb,0,O⟩ v0).setCell ⟨tb,1,O⟩ v1).setCell ⟨tb,2,O⟩ v2).setCell ⟨tb,3,O⟩ v3).setCell ⟨tb,4,O⟩ v4).setCell ⟨tb,5,O⟩ v5):=
 ⟨(((((l.later e _).later e _).later e _).later e _).later e _).later e _,(((((m.later h _).later h _).later h _).later h _).later h _).later h _,k.full t C A z y x q,e⟩
theorem PlMid.alloc(e:MkAt w2 mb mp Q7 rs t8 rv)(l:MkKept mb mp tv rv t8 rv W w2)
   (A:v0=I J t.op) (z:v1=I J t.left) (y:v2=I J t.right) (x:v3=I J t.K) (q:v4=Y (BS t.V)) (m:v5=Y (BS t.h)) (ty:TypeId) :
  PlMid W mb mp rs tv rv Q7 t8 w2.1.size t (w2.alloc (Al #[v0,v1,v2,v3,v4,v5] ty)):=by
 subst A z y x q m;refine⟨e.below (uj.alloc ui _),l.trans (MkKept.of_below (uj.alloc ui _)), ?_,λk=>uu (e.own_lt k)⟩;refine⟨uc, ?_, ?_, ?_, ?_, ?_, ?_,λj=>?_⟩<;>simp[go_sem]
section
attribute [local go_sem ↓] vsk
def NewOk(mb mp:Nat)(tv' rv:Ap)(lo:Nat)(U w':Ao):Prop:=U.1.size<=w'.1.size/\∀k,lo<=k->k<U.1.size->¬Own mb mp tv' rv k/\w'.1[k]?=U.1[k]?
theorem NewOk.tm(h:NewOk mb mp tv' rv lo U w')(e:TmAt U lo t):TmAt w' lo t/\¬Own mb mp tv' rv lo:=
 ⟨e.same (aq e.lt h.1) (h.2 lo ui e.lt).2,(h.2 lo ui e.lt).1⟩
theorem NewOk.cell(h:NewOk mb mp tv' rv lo U w')(j:Nat)(e:lo<U.1.size):w'.cell? ⟨lo,j,O⟩=U.cell? ⟨lo,j,O⟩:=aw (w:=U) (w':=w') (a:=⟨lo,j,O⟩) (h.2 lo ui e).2
theorem NewOk.frozen(h:NewOk mb mp tv' rv lo U w')(j:Nat)(e:lo<U.1.size):w'.frozen? ⟨lo,j,O⟩=U.frozen? ⟨lo,j,O⟩:=cn (w:=U) (w':=w') (a:=⟨lo,j,O⟩) (h.2 lo ui e).2
theorem NewOk.next{l:Ap}{j:Ao}(h:NewOk mb mp l rv lo U j)(e:MkKept mb mp l rv t8 rv j w2):NewOk mb mp t8 rv lo U w2:=by
 have:=h.1;refine⟨bs h.1 e.size,λk z y=>?_⟩;obtain⟨m,x⟩:=h.2 k z y;exact⟨λq=>m (e.rows k ub q),(e.block k ub m).trans x⟩
theorem qff(F:qcg c)(q:MkAt W mb mp ts rs tv rv)(z:SidAt B E W v c)(M:E<=W.1.size)(A:Out B E mb mp tv rv)(C:ts.length+qbc c<=2500000000)(j:Xb W U):
  ua 103 #[Ag (G ⟨mb,0,O⟩),v] U λe w'=>∃tv',e=Ak (I J ((vE ts c).2:Int))/\MkAt w' mb mp (vE ts c).1 rs tv' rv/\MkKept mb mp tv rv tv' rv W w'/\NewOk mb mp tv' rv W.1.size U w':=by
 have y:=j.size;refine(F B E mb mp U v ts rs tv rv (q.below j) (z.keep (λk _ m=>j.block k ub) y) ub A C).mono ?_;rintro e w'⟨tv',rfl,K,l⟩;refine⟨tv',rfl,K,(MkKept.of_below j).trans l,l.size,λk N m=>?_⟩;have x:¬Own mb mp tv rv k:=λh=>uu (q.own_lt h)
 exact⟨λh=>x (l.rows k m h),l.block k m x⟩
theorem TsAt.form(h:TsAt w base v ts):∃a c,v=C a ts.length c:=by
 rcases h.2 with⟨rfl,e⟩|⟨g,cap,cur,rfl,_⟩;exact⟨O,0,by rw[e]⟩;exact⟨_,_,rfl⟩
theorem TmAt.drew(h:TmAt w b t):TmAt w.drew b t:=h.same h.lt rfl
theorem qb6(p:CP)(x y:Option Co)(hx:qcg x)(hy:qcg y)(hp:GoodP p)(B E mb mp b:Nat)(W:Ao)(vx vy:Ap)(tx:tu)(ts:List Tm)(rs:List Nat)(tv rv:Ap)(hm:MkAt W mb mp ts rs tv rv)
  (m:CellsC B E W b p vx vy tx) (sx:SidAt B E W vx x) (sy:SidAt B E W vy y) (X:E<=W.1.size) (C:Out B E mb mp tv rv) (hn:ts.length+qbc x+qbc y+1<=2500000000)
  (Q:Ending->Ao->Prop) (hQ:∀e w',quz mb mp rs tv rv (pC (vE (vE ts x).1 y).1 (zK p (vE ts x).2 (vE (vE ts x).1 y).2)) W e w'->Q e w') :
  ua 103 #[Ag (G ⟨mb,0,O⟩),Ag (G ⟨b,0,O⟩)] W Q:=by
 have z:=qd hQ;clear hQ;have l1:=qez ts x;have l2:=qez (vE ts x).1 y;have PX:Hid (∀U,Xb W U->ua 103 #[Ag (G ⟨mb,0,O⟩),vx] U λe w'=>∃tv',e=Ak (I J ((vE ts x).2:Int))/\MkAt w' mb mp (vE ts x).1 rs tv' rv/\MkKept mb mp tv rv tv' rv W w'/\NewOk mb mp tv' rv W.1.size U w'):=qd λU hU=>qff hx hm sx X C ub hU
 have PY:Hid (∀j l,MkAt j mb mp (vE ts x).1 rs l rv->MkKept mb mp tv rv l rv W j->∀U,Xb j U->ua 103 #[Ag (G ⟨mb,0,O⟩),vy] U λe w'=>∃tv',e=Ak (I J ((vE (vE ts x).1 y).2:Int))/\MkAt w' mb mp (vE (vE ts x).1 y).1 rs tv' rv/\MkKept mb mp l rv tv' rv j w'/\NewOk mb mp tv' rv j.1.size U w'):=
  qd λj l h1 Z U hU=>qff hy h1 (sy.keep (C.keep Z X) Z.size) (bs X Z.size) (C.next Z X) ub hU
 have K:CS b p vx vy W.drew:=m.cs;have csA:CS b p vx vy (W.alloc (Al #[I J 0,I J 0,I J 0,I J 0,Y ⟨#[]⟩,Y ⟨#[]⟩] 187)).drew:=CS.alloc m.cs m.within _;have B0:Xb W W.drew:=uj.drew;have BA:Xb W (W.alloc (Al #[I J 0,I J 0,I J 0,I J 0,Y ⟨#[]⟩,Y ⟨#[]⟩] 187)).drew:=(uj.alloc ui _).drew;unfold CS at K csA;have CK:Hid (∀j l,MkKept mb mp tv rv l rv W j->CS b p vx vy j):=qd λj l hk=>m.cs.same (hk.block b m.within (λh=>by have:=C b h;have:=m.lo;have:=m.hi;omega))
 have G4:=m.within;have J4:=hp.op;have QR:Hid (HoldT (zK p (vE ts x).2 (vE (vE ts x).1 y).2)):=qd (vaz hp ub ub);have wT:(vE (vE ts x).1 y).1.length<=2500000000:=ub;have HM:=qd hm;obtain⟨T,q⟩:=it (zK p (vE ts x).2 (vE (vE ts x).1 y).2);have e0:I J p.op=I J (T.op:Int):=by rw[<-q];show _=I J ((p.op.toNat:Nat):Int);rw[Int.toNat_of_nonneg J4.1]
 have e1:I J ((vE ts x).2:Int)=I J (T.left:Int):=by rw[<-q];rfl
 have e2:I J ((vE (vE ts x).1 y).2:Int)=I J (T.right:Int):=by rw[<-q];rfl
 have e3:I J p.K=I J T.K:=by rw[<-q];rfl
 have e4:Y (BS p.V)=Y (BS T.V):=by rw[<-q];rfl
 have e5:Y (BS p.h)=Y (BS T.h):=by rw[<-q];rfl
 have E0:=qd e0;have R:=qd e1;have N:=qd e2;have E3:=qd e3;have E4:=qd e4;have E5:=qd e5;rw[q]at QR z;clear q e0 e1 e2 e3 e4 e5 hx hy hp hm m sx sy l1 l2 C;generalize vE (vE ts x).1 y=r2 at *;generalize vE ts x=r1 at *;obtain⟨Q7,i2⟩:=r2;obtain⟨f9,i1⟩:=r1;simp only at PX PY R N wT z;go_enter func103,ntmps103
 go_wp2
 go_cut [5] (λs5 wx=>∃(tb:Nat) (t8:Ap),s5=Ag (G ⟨tb,0,O⟩)/\Hid (PlMid W mb mp rs tv rv Q7 t8 tb T wx))
 case first=>
  go_region_held3 (λw'=>Xc w' b 0 (I J p.op)/\Xc w' b 1 vx/\Xc w' b 2 vy/\Xc w' b 3 (I J p.K)/\Xc w' b 4 (Y (BS p.V))/\Xc w' b 5 (Y (BS p.h)))
   (with_reducible assumption)
   (first|(go_at_call 103;refine(PY j l M1 K1 _ (by with_reducible assumption)).mono ?_;rintro e w2⟨t8,rfl,sA,A8,O7⟩;have M2:=qd sA;have K2:=qd (K1.trans A8);have M:=q9 CK w2 t8 K2;have z2:=A8.size;have cs2:=M;have cs2a:=CS.alloc M ub (Al #[I J 0,I J 0,I J 0,I J 0,Y ⟨#[]⟩,Y ⟨#[]⟩] 187);have cs2b:=CS.alloc M ub (Al #[I J p.op,I J i1,I J i2,I J p.K,Y (BS p.V),Y (BS p.h)] 187);have cs2s:CS b p vx vy ((((((w2.setCell ⟨W.1.size,0,O⟩ (I J p.op)).setCell ⟨W.1.size,1,O⟩ (I J i1)).setCell ⟨W.1.size,2,O⟩ (I J i2)).setCell ⟨W.1.size,3,O⟩ (I J p.K)).setCell ⟨W.1.size,4,O⟩ (Y (BS p.V))).setCell ⟨W.1.size,5,O⟩ (Y (BS p.h))):=CS.set6 M ub;have cs2t:CS b p vx vy ((((((w2.setCell ⟨j.1.size,0,O⟩ (I J p.op)).setCell ⟨j.1.size,1,O⟩ (I J i1)).setCell ⟨j.1.size,2,O⟩ (I J i2)).setCell ⟨j.1.size,3,O⟩ (I J p.K)).setCell ⟨j.1.size,4,O⟩ (Y (BS p.V))).setCell ⟨j.1.size,5,O⟩ (Y (BS p.h))):=CS.set6 M ub;unfold CS at cs2 cs2a cs2b cs2s cs2t;have IB:=qd O7;have S:=qd (HN1.next A8);have b2:=O7.cell;have f2:=O7.frozen;have a2:=(q9 S).cell;have g2:=(q9 S).frozen;clear sA A8 O7)|(go_at_call 103;refine(PX _ (by with_reducible assumption)).mono ?_;rintro e j⟨l,rfl,mR,A4,t9⟩;have M1:=qd mR;have K1:=qd A4;have z1:=A4.size;have F:=q9 CK j l A4;have cs1a:=CS.alloc F ub (Al #[I J 0,I J 0,I J 0,I J 0,Y ⟨#[]⟩,Y ⟨#[]⟩] 187);unfold CS at F cs1a;have B1:=Below.refl j.1.size j;have B1A:=(Below.refl j.1.size j).alloc ui (Al #[I J 0,I J 0,I J 0,I J 0,Y ⟨#[]⟩,Y ⟨#[]⟩] 187);have HN1:=qd t9;clear mR A4 t9))
  .go_wp2
   go_meet
   exact⟨w2.1.size,t8,rfl,qd (PlMid.alloc M2 K2 E0 R N E3 E4 E5 _)⟩
  .go_wp2
   go_meet
   exact⟨j.1.size,t8,rfl,qd (PlMid.set M2 K2 (IB.tm (TmAt.new j 0 _)).1 (IB.tm (TmAt.new j 0 _)).2 z1 E0 R N E3 E4 E5)⟩
  go_wp2
  go_meet
  exact⟨W.1.size,t8,rfl,qd (PlMid.set M2 K2 (S.tm (TmAt.new W 0 _).drew).1 (S.tm (TmAt.new W 0 _).drew).2 ui E0 R N E3 E4 E5)⟩
 obtain⟨tb,t8,rfl,k⟩:=hcut;clear PX PY CK K csA B0 BA E0 R N E3 E4 E5 HM;obtain⟨ta,tc,rfl⟩:=(q9 k).mka.ats.form;obtain⟨tl,t0,t1,t2,t3,t4,t5,tf⟩:=(q9 k).tm;have c0:=(q9 k).mka.c0;have c2:=(q9 k).mka.c2;have lt0:=(q9 k).mka.lt
 cases hw:j8 Q7 T with
 | some i=>
  have cL:=(q9 k).mka.drew.look_some QR hw;have A:pC Q7 T=(Q7,i):=by rw[pC,hw]
  rw[A]at z;clear A hw
  go_wp2
  go_region
  all_goals go_wp2
  all_goals exact q9 z _ _ ⟨_,rfl,k.mka.drew,k.T.trans (MkKept.of_below uj.drew)⟩
 | none=>
  obtain⟨c,cL⟩:=(q9 k).mka.drew.look_none QR hw;have A:pC Q7 T=(Q7++[T],Q7.length):=by rw[pC,hw]
  rw[A]at z;obtain⟨W1,hupd,d0,IP,EM,g,cap,w5,O3,c5,f5,ZU,nA,r9⟩:=(q9 k).mka.drew.drew.put QR hw wT k.tm.drew.drew k.no;obtain⟨ul,u0,u1,u2,u3,u4,u5,uf⟩:=q9 EM;clear A hw
  go_wp2
  go_region
  all_goals go_wp2
  all_goals go_region
  all_goals go_wp2
  all_goals go_region
  all_goals go_wp2
  all_goals exact q9 z _ _ ⟨_,rfl,q9 nA,(k.T.trans (MkKept.of_below uj.drew.drew)).trans r9⟩
theorem qh3:∀c,qed c->qcg (G c):=by
 intro c
 induction c with
 | leaf p=>
  intro j B E mb mp W v ts rs tv rv m k z l C;obtain⟨b,rfl,q⟩:∃b,v=at0 b/\CellsC B E W b p vej vej (qt (.leaf p)):=k;exact qb6 p O O pB pB j B E mb mp b W vej vej _ ts rs tv rv m q rfl rfl z l (by have:qbc (G (Co.leaf p))=1:=rfl;simp only[qbc]at *;omega) _ λe w' h=>h
 | un p x ih=>
  intro j B E mb mp W v ts rs tv rv m k z l C;obtain⟨b,vx,rfl,q,A⟩:∃b vx,v=at0 b/\CellsC B E W b p vx vej (qt (.un p x))/\CoAt B E W vx x:=k;exact qb6 p (G x) O (ih j.2) pB j.1 B E mb mp b W vx vej _ ts rs tv rv m q A rfl z l (by have:qbc (G (Co.un p x))=yZ x+1:=rfl;simp only[qbc]at *;omega) _ λe w' h=>h
 | bin p x y ihx ihy=>
  intro j B E mb mp W v ts rs tv rv m k z l C;obtain⟨b,vx,vy,rfl,q,A,F⟩:∃b vx vy,v=at0 b/\CellsC B E W b p vx vy (qt (.bin p x y))/\CoAt B E W vx x/\CoAt B E W vy y:=k;exact qb6 p (G x) (G y) (ihx j.2.1) (ihy j.2.2) j.1 B E mb mp b W vx vy _ ts rs tv rv m q A F z l (by have:qbc (G (Co.bin p x y))=yZ x+yZ y+1:=rfl;simp only[qbc]at *;omega) _ λe w' h=>h
theorem MkAt.appRoot(h:MkAt W mb mp ts rs tv rv)(r:Nat)(T:rs.length<=1000)(ty:TypeId):
  ∃g cap k,(kH #[50,50] ty #[rv,C (G ⟨W.1.size,0,O⟩) 1 1]).run prog (W.alloc (Al #[I J r] 3))=.ok (C (G ⟨g,0,O⟩) (rs.length+1) cap) k /\
   Xc k mb 1 rv/\(Xf k mb)/\mb<k.1.size /\
   Hid (MkAt (k.setCell ⟨mb,1,O⟩ (C (G ⟨g,0,O⟩) (rs.length+1) cap)) mb mp ts (rs++[r]) tv (C (G ⟨g,0,O⟩) (rs.length+1) cap)) /\
   Hid (MkKept mb mp tv rv tv (C (G ⟨g,0,O⟩) (rs.length+1) cap) W (k.setCell ⟨mb,1,O⟩ (C (G ⟨g,0,O⟩) (rs.length+1) cap))):=by
 obtain⟨x,z,K,Q,N⟩:=info_parts pX;have S:=h.lt;obtain⟨g,cap,k,y,R,l,M,_⟩:=run_append_lies (P:=prog) (W.alloc (Al #[I J r] 3)) 50 ty (mb+1) 3 x _ 1 8 underlying50 z K Q N rfl ub rv rs.length (yp rs) (World.ownsRow.alloc h.ars _)
  ⟨W.1.size,0,O⟩ 1 1 [I J r] rfl (World.news_of_block (cs:=#[I J r]) (t:=3) (fr:=(0,0)) (heap_alloc_new W _)) (by simp[Value.oneCell']) ub (by unfold maxLen;omega) ub ud _ rfl
 obtain⟨F,A⟩:=h.root R l M rfl;have m:k.1[mb]?=W.1[mb]?:=(l.block mb ud (λe=>uu ((h.ars.lt mb e.symm).1))).trans (ig W _ mb S);have q:=l.size;refine⟨g,cap,k,y, ?_,λj=>?_, ?_,qd F,qd A⟩;exact(aw (w:=W) (w':=k) (a:=⟨mb,1,O⟩) m).trans h.c1;exact(cn (w:=W) (w':=k) (a:=⟨mb,j,O⟩) m).trans (h.fz j);simp at q;omega
theorem ve8(c:Co)(X:qed c)(B E mb mp:Nat)(W:Ao)(v:Ap)(ts:List Tm)(rs:List Nat)(tv rv:Ap)(j:MkAt W mb mp ts rs tv rv)(m:CoAt B E W v c)(Y:E<=W.1.size)(q:Out B E mb mp tv rv)(T:ts.length+yZ c<=2500000000)(S:rs.length<=1000)
  (Q:Ending->Ao->Prop) (x:∀w' tv' rv',MkAt w' mb mp (qC ts c).1 (rs++[(qC ts c).2]) tv' rv'->MkKept mb mp tv rv tv' rv' W w'->Q (Ak (Aj #[])) w') :
  ua 58 #[Ag (G ⟨mb,0,O⟩),v] W Q:=by
 have z:=qd x;have k:Hid _:=qd (qh3 c X B E mb mp W.drew v ts rs tv rv j.drew (CoAt.keep (w:=W) (w':=W.drew) ui (λ_ _ _=>rfl) ui m) Y q T);have c1:=j.c1;have N:=j.lt;obtain⟨b,p,l,r,rfl,_⟩:=m.head;unfold quz at k
 change Hid (Calls _ _ #[_,Ag (G ⟨b,0,O⟩)] _ λe W'=>∃tv',e=Ak (I J ((qC ts c).2:Int))/\MkAt W' mb mp (qC ts c).1 rs tv' rv/\MkKept mb mp tv rv tv' rv W.drew W') at k
 change Calls _ _ #[_,Ag (G ⟨b,0,O⟩)] _ _
 generalize qC ts c=R at *;obtain⟨C,i⟩:=R;simp only at k z;clear x j m q;go_enter func58,ntmps58
 go_region_with(go_at_call 103;refine k.mono ?_;rintro e w4⟨A,rfl,h,y⟩;have c4:=h.c1;have f4:=h.fz;have M:=h.lt;obtain⟨g,cap,w5,O3,c5,f5,ZU,K,F⟩:=h.appRoot i S 50;have Z:=qd y.drew';clear h y)
 all_goals go_wp2
 all_goals exact bodyPost_end (results_none rfl _ _ _) rfl (z _ _ _ K (Z.trans F))
end
theorem qa1(h:Lx r L):Lx (41::r) (qi 27::L):=by
 have e:qQ (41::r) 0=qi 27/\vk (41::r) 0=1:=by cases r<;>exact⟨rfl,rfl⟩
 exact .cons e.1 (show(27:Int)≠0 by decide) (by rw[e.2];exact h)
theorem qgl(h:Lx r L):Lx (40::r) (qi 26::L):=by
 have e:qQ (40::r) 0=qi 26/\vk (40::r) 0=1:=by cases r<;>exact⟨rfl,rfl⟩
 exact .cons e.1 (show(26:Int)≠0 by decide) (by rw[e.2];exact h)
theorem vpf(h:Lx r L):Lx (65::78::68::32::r) (qi 5::L):=.cons (k:=qi 5) rfl (show(5:Int)≠0 by decide) (zt h)
theorem vr8(h:Lx r L):Lx (79::82::32::r) (qi 6::L):=.cons (k:=qi 6) rfl (show(6:Int)≠0 by decide) (zt h)
def En(r:TRes):Prop:=∀en,r=.err en->en=2\/en=3
def Nz(o:Nat)(f:TS->TRes):Prop:=∀ts,ts.op=o->En (f ts)/\∀t ts',f ts=.ok t ts'->ts'.op=o
theorem En.ok{t:Ast}{ts:TS}:En (.ok t ts):=λ_ h=>by cases h
theorem En.two:En (.err 2):=λ_ h=>by injection h with h;exact Am h.symm
theorem En.three:En (.err 3):=λ_ h=>by injection h with h;exact An h.symm
theorem Nz.join(h:Nz o f)(ts:TS)(l:Ast)(k:ts.op=o):En (qbz f ts l)/\∀t ts',qbz f ts l=.ok t ts'->ts'.op=o:=by
 obtain⟨j,m⟩:=h ts.next k;unfold qbz
 cases hf:f ts.next with
 | err en=>rw[hf]at j;exact⟨j,λ_ _ h=>by cases h⟩
 | ok t ts'=>exact⟨En.ok,λ_ _ h=>by injection h with _ e;rw[<-e];exact m _ _ hf⟩
theorem Nz.loop(h:Nz o f)(ks:List Int):∀n l ts,ts.op=o->En (qai f ks n l ts)/\∀t ts',qai f ks n l ts=.ok t ts'->ts'.op=o:=by
 intro n
 induction n with
 | zero=>intro l ts j;rw[qai];exact⟨En.ok,λ_ _ h=>by injection h with _ e;rw[<-e];exact j⟩
 | succ n ih=>
  intro l ts j;rw[qai]
  split
  obtain⟨k,m⟩:=h.join ts l j
  cases hf:qbz f ts l with
  | err en=>rw[hf]at k;exact⟨k,λ_ _ h=>by cases h⟩
  | ok t ts'=>exact ih t ts' (m _ _ hf)
  exact⟨En.ok,λ_ _ h=>by injection h with _ e;rw[<-e];exact j⟩
theorem Nz.row(h:Nz o f)(ks:List Int):Nz o (qrg f ks):=by
 intro ts j;obtain⟨e,k⟩:=h ts j;unfold qrg
 cases hf:f ts with
 | err en=>rw[hf]at e;exact⟨e,λ_ _ h=>by cases h⟩
 | ok t ts'=>exact h.loop ks _ t ts' (k _ _ hf)
theorem Nz.sign(l:o<=12)(h:o<12->Nz (o+1) f)(n:Int)(ts:TS)(k:ts.op=o):En (qc0 f n ts)/\∀t ts',qc0 f n ts=.ok t ts'->ts'.op=o:=by
 unfold qc0
 by_cases F6:ts.op=12
 rw[bo F6];exact⟨En.three,λ_ _ h=>by cases h⟩;rw[ak F6];obtain⟨j,m⟩:=h ub (tIn ts) (by show ts.op+1=_;omega)
 cases hf:f (tIn ts) with
 | err en=>rw[hf]at j;exact⟨j,λ_ _ h=>by cases h⟩
 | ok t ts'=>exact⟨En.ok,λ_ _ h=>by injection h with _ e;rw[<-e];exact k⟩
theorem Nz.group(l:o<=12)(h:o<12->Nz (o+1) f)(ts:TS)(k:ts.op=o):En (pp f ts)/\∀t ts',pp f ts=.ok t ts'->ts'.op=o:=by
 unfold pp
 by_cases F6:ts.op=12
 rw[bo F6];exact⟨En.three,λ_ _ h=>by cases h⟩;rw[ak F6];obtain⟨j,m⟩:=h ub (tIn ts) (by show ts.op+1=_;omega)
 cases hf:f (tIn ts) with
 | err en=>rw[hf]at j;exact⟨j,λ_ _ h=>by cases h⟩
 | ok t ts'=>
  show En (if ts'.tk.A=27 then _ else _)/\∀t2 Q7,(if ts'.tk.A=27 then _ else _)=TRes.ok t2 Q7->_
  split
  exact⟨En.ok,λ_ _ h=>by injection h with _ e;rw[<-e];exact k⟩;exact⟨En.two,λ_ _ h=>by cases h⟩
theorem Nz.signed(k:o<=12)(l:o<12->Nz (o+1) f)(m:o<12->Nz (o+1) g):Nz o (ye f g):=by
 intro ts j;unfold ye
 split
 .exact Nz.sign k l 14 ts j
 split
 .exact Nz.sign k l 15 ts j
 split
 .exact Nz.group k m ts j
 split
 .exact⟨En.ok,λ_ _ h=>by injection h with _ e;rw[<-e];exact j⟩
 split
 .exact⟨En.ok,λ_ _ h=>by injection h with _ e;rw[<-e];exact j⟩
 split
 .exact⟨En.ok,λ_ _ h=>by injection h with _ e;rw[<-e];exact j⟩
 split
 .exact⟨En.ok,λ_ _ h=>by injection h with _ e;rw[<-e];exact j⟩
 split
 exact⟨En.ok,λ_ _ h=>by injection h with _ e;rw[<-e];exact j⟩;exact⟨En.two,λ_ _ h=>by cases h⟩
theorem qy7(l:Ast)(ts:TS)(j:ts.op=o):En (tIsNull l ts)/\∀t ts',tIsNull l ts=.ok t ts'->ts'.op=o:=by
 unfold tIsNull
 split
 split
 exact⟨En.ok,λ_ _ h=>by injection h with _ e;rw[<-e];exact j⟩;exact⟨En.two,λ_ _ h=>by cases h⟩
 split
 exact⟨En.ok,λ_ _ h=>by injection h with _ e;rw[<-e];exact j⟩;exact⟨En.two,λ_ _ h=>by cases h⟩
theorem qy6(l:Ast):∀n xs ts,ts.op=o->ts.toks.length<n->En (xe l n xs ts)/\∀t ts',xe l n xs ts=.ok t ts'->ts'.op=o:=by
 intro n
 induction n with
 | zero=>intro xs ts _ h;omega
 | succ n ih=>
  intro xs ts k m;rw[xe]
  by_cases M8:ts.tk.A=28
  .rw[bo M8]
   have j:=qT ue M8
   have q:ts.next.toks.length<ts.toks.length:=by
    cases ht:ts.toks with
    | nil=>exact absurd ht j
    | cons a r=>show(ts.toks.tail).length<_;rw[ht];simp
   split
   have:=qV ts.next;exact ih _ ts.next.next k ub;exact⟨En.two,λ_ _ h=>by cases h⟩
  rw[ak M8]
  split
  exact⟨En.ok,λ_ _ h=>by injection h with _ e;rw[<-e];exact k⟩;exact⟨En.two,λ_ _ h=>by cases h⟩
theorem vrd(l:Ast)(ts:TS)(e:ts.op=o):En (tInRes l ts)/\∀t ts',tInRes l ts=.ok t ts'->ts'.op=o:=by
 unfold tInRes
 split
 split
 have m:=qV ts;have k:=qV ts.next;have j:=qV ts.next.next;exact qy6 l _ _ ts.next.next.next e ub;exact⟨En.two,λ_ _ h=>by cases h⟩;exact⟨En.two,λ_ _ h=>by cases h⟩
theorem vkr(l:Ast)(ts:TS)(j:ts.op=o):En (tLike l ts)/\∀t ts',tLike l ts=.ok t ts'->ts'.op=o:=by
 unfold tLike
 split
 split
 split
 exact⟨En.ok,λ_ _ h=>by injection h with _ e;rw[<-e];exact j⟩;exact⟨En.two,λ_ _ h=>by cases h⟩;exact⟨En.ok,λ_ _ h=>by injection h with _ e;rw[<-e];exact j⟩;exact⟨En.two,λ_ _ h=>by cases h⟩
theorem Nz.j(h:Nz o f)(l:Ast)(ts:TS)(k:ts.op=o):En (xk f l ts)/\∀t ts',xk f l ts=.ok t ts'->ts'.op=o:=by
 unfold xk
 split
 .obtain⟨h1,h2⟩:=h ts.next k
  cases hf:f ts.next with
  | err en=>rw[hf]at h1;exact⟨h1,λ_ _ h=>by cases h⟩
  | ok t f9=>
   show En (if f9.tk.A=5 then _ else _)/\∀t2 Q7,(if f9.tk.A=5 then _ else _)=TRes.ok t2 Q7->_
   split
   have q:f9.op=o:=h2 _ _ hf;obtain⟨j,m⟩:=h f9.next q
   cases hg:f f9.next with
   | err en=>rw[hg]at j;exact⟨j,λ_ _ h=>by cases h⟩
   | ok t2 Q7=>exact⟨En.ok,λ_ _ h=>by injection h with _ e;rw[<-e];exact m _ _ hg⟩
   exact⟨En.two,λ_ _ h=>by cases h⟩
 exact⟨En.two,λ_ _ h=>by cases h⟩
theorem Nz.keyword(h:Nz o f)(bare:Bool)(l:Ast)(ts:TS)(e:ts.op=o):En (jW f bare l ts)/\∀t ts',jW f bare l ts=.ok t ts'->ts'.op=o:=by
 unfold jW
 split
 .exact vrd l ts e
 split
 exact vkr l ts e;exact h.j l ts e
theorem Nz.test(h:Nz o f):Nz o (qen f):=by
 intro ts m;obtain⟨k,q⟩:=h ts m;unfold qen
 cases hf:f ts with
 | err en=>rw[hf]at k;exact⟨k,λ_ _ h=>by cases h⟩
 | ok l f9=>
  have j:=q _ _ hf;show En (qem f _ l f9)/\∀t2 Q7,qem f _ l f9=TRes.ok t2 Q7->_;unfold qem
  split
  .exact h.join f9 l j
  split
  .split
   exact qy7 l f9 j;exact⟨En.ok,λ_ _ h=>by injection h with _ e;rw[<-e];exact j⟩
  split
  .obtain⟨h3,h4⟩:=h.keyword (ts.tk.A==2&&opA l==0) l f9.next j
   cases hg:jW f (ts.tk.A==2&&opA l==0) l f9.next with
   | err en=>rw[hg]at h3;exact⟨h3,λ_ _ h=>by cases h⟩
   | ok t2 Q7=>exact⟨En.ok,λ_ _ h=>by injection h with _ e;rw[<-e];exact h4 _ _ hg⟩
  split
  exact h.keyword _ l f9 j;exact⟨En.ok,λ_ _ h=>by injection h with _ e;rw[<-e];exact j⟩
theorem Nz.y(h:o<=12)(k:o<12->Nz (o+1) f)(j:Nz o g):Nz o (yL f g):=by
 intro ts e;unfold yL
 split
 exact Nz.sign h k 5 ts e;exact j ts e
structure Nz3(o:Nat)(L:T3):Prop where
 S:Nz o L.S
 D:Nz o L.D
 E:Nz o L.E
theorem vpq(j:o<=12){L:T3}(h:o<12->Nz3 (o+1) L):Nz3 o (tUp L):=by
 have k:=Nz.signed j (λe=>(h e).S) (λe=>(h e).E);have m:=((k.row [24,25]).row [22,23]).test;have l:=Nz.y j (λe=>(h e).D) m;exact⟨k,l,(l.row [5]).row [6]⟩
theorem vpp:∀d o,o+d=12->Nz3 o (vqe d):=by
 intro d
 induction d with
 | zero=>intro o h;exact vpq ub (λe=>absurd e ub)
 | succ d ih=>intro o h;exact vpq ub (λe=>ih (o+1) ub)
theorem zo{k pl:Int}(h:vq s=.err k pl):k=1\/k=2\/k=3\/k=4:=by
 unfold vq at h
 by_cases hs:s.size<=200
 rw[bo hs]at h;obtain⟨L,A⟩:=qgm _ s.data.toList ui;have F:Str s (qh s st0) L:=qe5 A st0 (bt _) (dw);have G:=qG s st0 (bt _);have z:=(qpn s 12).E (qh s st0) ⟨L,0⟩ G F rfl;rcases z.cases with⟨m,st,ts,l,x,K,J,I⟩|⟨C,y,l,x⟩;rw[l]at h
 change qmy m st=_ at h
 unfold qmy at h
 by_cases hk:st.tk.A=0
 rw[bo hk]at h
 cases hc:quu (qy m) with
 | some q=>rw[hc]at h;injection h with j _;exact An (An (An j.symm))
 | none=>rw[hc]at h;cases h
 rw[ak hk]at h;injection h with j _;exact An (Am j.symm);rw[l]at h;injection h with j _;subst j;rcases((vpp 12 0 rfl).E ⟨L,0⟩ rfl).1 _ x with e|e;exact An (Am e);exact An (An (Am e));rw[ak hs]at h;injection h with j _;exact Am j.symm
def EvIn(w:Ao)(ev:Ap)(ps:List Pr):Prop:=
 (ps=[]/\∃a cap,ev=C a 0 cap)\/∃b off cap,ev=C (G ⟨b,off,O⟩) ps.length cap/\ps.length<=cap/\EvAt w b off ps/\b<w.1.size
theorem EvIn.below(h:EvIn w ev ps)(e:Xb w w'):EvIn w' ev ps:=by
 rcases h with h|⟨b,off,cap,rfl,l,k,j⟩;exact Am h;exact An ⟨b,off,cap,rfl,l,k.below e j,aq j e.size⟩
theorem EvIn.slice(h:EvIn w ev ps):∃a n c,ev=C a n c:=by
 rcases h with⟨_,a,cap,rfl⟩|⟨b,off,cap,rfl,_⟩;exact⟨_,_,_,rfl⟩;exact⟨_,_,_,rfl⟩
theorem EvIn.arg(h:EvIn w ev ps)(j:ps.length<=8):EvArg w ev ps:=by
 refine⟨j, ?_⟩;rcases h with h|⟨b,off,cap,rfl,l,e,k⟩;exact Am h;exact An ⟨b,off,cap,rfl,e,k⟩
structure EvGood(ps:List Pr):Prop where
 short:qv0 ps
 rng:qfq ps
 len:ps.length<=140737488355328
theorem qro(h:EvIn w ev ps)(e:EvGood ps):
  ut 50 #[ev] w (Ah (ym ps)):=by
 rcases h with⟨rfl,a,cap,rfl⟩|⟨b,off,cap,rfl,k,j,l⟩;exact qpv a cap w;exact qn0 b off cap ps w k e.len e.short j l
theorem vhf(h:ym ps=true):ps.length<=8:=by
 apply Decidable.byContradiction;intro e;rw[qiq e]at h;cases h
theorem vjf(h:ym ps=true){p:Pr}(hp:p∈ps):jI p.N=true/\gY p.val=true:=by
 obtain⟨k,e⟩:=dd hp;unfold ym at h;rw[dh,List.all_eq_true]at h;obtain⟨j,_⟩:=aj.1 e;have:=h.2 k (ip.2 j);unfold qeb at this;rw[e]at this;simp only[dh]at this;exact this.1
theorem vbg{v:V}(h:gY v=true):v.V.length<=20:=by
 apply Decidable.byContradiction;intro e
 have j:v.V.isEmpty=false:=by cases hs:v.V with
  | nil=>rw[hs]at e;simp at e
  | cons c t=>rfl
 have hd:decide (v.V.length<=20)=false:=db e;simp only[gY,j,hd,iz,dg,ite_self]at h
theorem qwd(h:ym ps=true):vh7 ps:=λp hp=>bs (vbg (vjf h hp).2) ue
theorem qju{t:Ast}(h:vq s=.ok t):qia t/\qi6 t:=⟨qb0 vhp h,qb0 vh9 h⟩
structure Ans where
 val:V
 errno:Int
 M:Int
def qay(s:ByteArray)(ps:List Pr):Ans:=match vq s with
 | .err en pl=>⟨nV,en,pl⟩
 | .ok t=>if ym ps then⟨ofA ps t,0,0⟩ else⟨nV,7,0⟩
theorem qxm(h:Lx r L)(j:∀c,r.head?=G c->(c==39)=false)(s:tu):Lx (39::(yg s++39::r)) (⟨4,0,s⟩::L):=by
 have hq:=qyr r j s
 have l:vP (39::(yg s++39::r))=⟨4,0,s⟩:=by
  unfold vP;rw[lu,dw,hq]
 have k:yi (39::(yg s++39::r))=(yg s).length+2:=by
  unfold yi;rw[lu,dw,hq]
 have e:qQ (39::(yg s++39::r)) 0=⟨4,0,s⟩/\vk (39::(yg s++39::r)) 0=(yg s).length+2:=by
  constructor
  .show vP (39::(yg s++39::r))=_
   exact l
  show 0+yi (39::(yg s++39::r))=_;rw[k];omega
 refine .cons e.1 (show(4:Int)≠0 by decide) ?_;rw[e.2,lu];have:(yg s++39::r).drop ((yg s).length+1)=r:=by simp[List.drop_append]
 rw[this];exact h
section
open Go.ChangeShapes Go.WideShapes Go.ChangeAt Go.RowKit Go.Deep Go.Proofs.Tryz
theorem qij:prog.cellsOf 89=4:=uh
theorem vck:prog.cellsOf 57=3:=uh
theorem qc3:prog.cellsOf 9=1:=uh
theorem qq5:prog.cellsOf 3=1:=uh
theorem vch:prog.cellsOf 2=1:=uh
theorem qii:prog.bytesOf 89=48:=uh
section
variable {H:Type} {enc:TypeId×Ap->H}
theorem qrr{n:Int}(h:(Lit.int .i64 n).wf=true):Rng n:=by
 simp only[Lit.wf,dh,fj]at h;exact⟨h.1,h.2⟩
theorem qyc{M:Nat->Bool}{cs:List Ap}{x:DataW H×List MemPlace}(h:DataW.trod enc prog W base M true n 89 cs=G x):
  ∃(e st:tq) (k m:Int),cs=[.string e,.int .i64 k,.int .i64 m,.string st]/\x=(.agg [.lit (.string e.data.toList),.agg [.lit (.int .i64 k),.lit (.int .i64 m),.lit (.string st.data.toList)]],[])/\Rng m:=by
 obtain⟨S,R,X,rfl,A,z,y⟩:=trod_struct2 underlying89 h;rw[qij]at A
 match cs,A with
 | [c0,c1,c2,c3],_=>
  simp only[qc3,vck,List.drop,List.take]at z y;obtain⟨e,J,rfl,_⟩:=DataW.trod_string underlying9 z;obtain⟨Q,O,N,T,rfl,_,q,l,j⟩:=trod_struct3 underlying57 y;simp only[qq5,vch,qc3,List.drop,List.take]at q l j;obtain⟨k,I,rfl,_⟩:=DataW.trod_int underlying3 q;obtain⟨m,F,rfl,K⟩:=DataW.trod_int underlying2 l;obtain⟨st,C,rfl,_⟩:=DataW.trod_string underlying9 j;simp only[List.cons.injEq,and_true]at J I F C;subst J I F C;exact⟨e,st,k,m,rfl,rfl,qrr K⟩
theorem pN{e:TypeId}{d:DataW H}:∀{l:List (DataW H)},d∈l->∀n∈d.weights P e,n∈DataW.weightsAll P e l:=by
 intro l
 induction l with
 | nil=>intro h;cases h
 | cons a r ih=>
  intro h n j;rw[DataW.weightsAll];rcases eo.1 h with rfl|h;exact lp _ j;exact ox _ (ih h n j)
theorem qku(e st:tu)(k m:Int):(DataW.agg [.lit (.string e),.agg [.lit (.int .i64 k),.lit (.int .i64 m),.lit (.string st)]]:DataW H).weights prog 89=[e.length,st.length]:=by
 rw[DataW.weights,underlying89];simp only[List.map,DataW.weightsEach,DataW.weights,underlying57];rfl
theorem qgy{cs:List Ap}{d:DataW H}(ht:DataW.trod enc prog W 0 (λ_=>true) true fuel 32 cs=G (d,pl))
  (hw:∀n∈d.weights prog 32,n<=reachBytes):∃v ps,cs=[v]/\EvIn W v ps/\EvGood ps:=by
 rcases open_slice underlying32 ht with⟨N,M⟩|⟨a,len0,EB,m,n,D,Pl,N,_,hl,hm,S,M,T⟩;exact⟨_,[],N,Am ⟨rfl,O,0,rfl⟩,⟨(λp hp=>by cases hp),(λp hp=>by cases hp),bt _⟩⟩;simp only[if_true]at S;subst S;simp only[Prod.mk.injEq]at M;obtain⟨rfl,rfl⟩:=M;refine⟨.slice (G a) len0 m, ?_⟩
 suffices hgoal:∃ps,EvIn W (.slice (G a) len0 m) ps/\EvGood ps by
  obtain⟨ps,x,q⟩:=hgoal;exact⟨ps,N,x,q⟩
 rw[qij]at T;have each:∀i,i<len0->∃p:Pr,(W.cell? (a.add (i * 4))=G (.string (BS p.N))/\W.cell? (a.add (i * 4+1))=G (.int .i64 p.val.A)/\W.cell? (a.add (i * 4+2))=G (.int .i64 p.val.K)/\W.cell? (a.add (i * 4+3))=G (.string (BS p.val.V)))/\Rng p.val.K /\
   D i=.agg [.lit (.string p.N),.agg [.lit (.int .i64 p.val.A),.lit (.int .i64 p.val.K),.lit (.string p.val.V)]]:=by
  intro i hi;obtain⟨cs',x,q⟩:=T i ub;obtain⟨Z,st,k,mm,rfl,I,y⟩:=qyc q;simp only[Prod.mk.injEq]at I;obtain⟨_,_,K⟩:=World.cells?_some x;have c0:=K 0 ue;have F:=K 1 ue;have C:=K 2 ue;have A:=K 3 ue;rw[add_add]at c0 F C A;exact⟨⟨Z.data.toList,⟨k,mm,st.data.toList⟩⟩,⟨c0,F,C,A⟩,y,I.1⟩
 have inh:Inhabited Pr:=⟨⟨[],nV⟩⟩;obtain⟨f,z⟩:=choose_lt each
 have R:∀(k:Nat) (p:Pr),((List.range len0).map f)[k]?=G p->k<len0/\p=f k:=by
  intro k p e;rw[cm]at e
  cases y:(List.range len0)[k]? with
  | none=>rw[y]at e;cases e
  | some j=>
   rw[y]at e;obtain⟨x,q⟩:=aj.1 y;rw[iu]at x;rw[List.getElem_range]at q;subst q;exact⟨x,by simpa using e.symm⟩
 have Q:((List.range len0).map f).length=len0:=by rw[cd,iu]
 have X:∀p∈(List.range len0).map f,∃k,k<len0/\p=f k:=by
  intro p hp;obtain⟨k,e⟩:=dd hp;exact⟨k,R k p e⟩
 have J:=hw;rw[DataW.weights,underlying32]at J;simp only[eo,cr]at J;refine⟨(List.range len0).map f, ?_,⟨?_, ?_, ?_⟩⟩
 cases len0 with
 | zero=>exact Am ⟨rfl,G a,_,rfl⟩
 | succ l=>
  right
  obtain⟨b,off,spot⟩:=a
  have hs:spot=O:=by
   have:=World.cell?_spot (z 0 ub).1.1;simpa [Addr.add]using this
  subst hs;have Y:∀j,(⟨b,off,O⟩:Addr).add j=⟨b,off+j,O⟩:=by intro j;simp[Addr.add]
  refine⟨b,off,_,by rw[Q],by rw[Q];exact hl, ?_, ?_⟩;intro k p e;obtain⟨A4,rfl⟩:=R k p e;obtain⟨⟨c0,F,C,A⟩,_,_⟩:=z k A4;rw[Y]at c0 F C A;exact⟨c0,F,C,A⟩;have:=(z 0 ub).1.1;rw[Y]at this;exact block_lt_of_cell this
 intro p hp;obtain⟨k,e,rfl⟩:=X p hp;have I:=(z k e).2.2;have mT:D k∈(List.range len0).map D:=eg.2 ⟨k,ip.2 e,rfl⟩;have q:=λn hn=>J n (An (Am (pN mT n hn)))
 rw[I,qku]at q;have e1:=q _ (by simp:(f k).N.length∈[(f k).N.length,(f k).val.V.length]);have e2:=q _ (by simp:(f k).val.V.length∈[(f k).N.length,(f k).val.V.length]);unfold reachBytes at e1 e2;exact⟨ub,ub⟩;intro p hp;obtain⟨k,e,rfl⟩:=X p hp;exact(z k e).2.1;have:=J _ (Am rfl);rw[qii,cd,iu]at this;rw[Q];unfold reachBytes at this;omega
end
end
section
open Go.ChangeShapes Go.WideShapes Go.ChangeAt Go.RowKit Go.Deep Go.Proofs.Tryz
structure Ox where
 A:Int
 n:Int
 id:Int
 Q:List UInt8
 la:Option Addr
 lc:Nat
 ts:List (List UInt8)
 ev:Ap
 ps:List Pr
def TxIn(W:Ao)(a:Option Addr)(ts:List (List UInt8)):Prop:=
 ∀(k:Nat) (s:List UInt8),ts[k]?=G s->s.length<=140737488355328/\∃sb so,a=G ⟨sb,so,O⟩/\sb<W.1.size/\W.cell? ⟨sb,so+k,O⟩=G (Y (BS s))
structure OxOk(W:Ao)(x:Ox):Prop where
 Q:x.Q.length<=140737488355328
 A:Rng x.A
 n:Rng x.n
 id:Rng x.id
 tx:TxIn W x.la x.ts
 tl:16 * x.ts.length<=140737488355328
 tc:x.ts.length<=x.lc
 ev:EvIn W x.ev x.ps
 good:EvGood x.ps
 el:48 * x.ps.length<=140737488355328
theorem TxIn.below{a:Option Addr}{ts:List tu}(h:TxIn W a ts)(e:Xb W W'):TxIn W' a ts:=λk s m=>by
 obtain⟨y,sb,l,x,j,q⟩:=h k s m;exact⟨y,sb,l,x,aq j e.size,((qk e).1 _ _ j).trans q⟩
theorem OxOk.below{x:Ox}(h:OxOk W x)(e:Xb W W'):OxOk W' x:=⟨h.Q,h.A,h.n,h.id,h.tx.below e,h.tl,h.tc,h.ev.below e,h.good,h.el⟩
def qdj(x:Ox):List Ap:=[I J x.A,I J x.n,I J x.id,Y (BS x.Q),C x.la x.ts.length x.lc,x.ev]
def oxV(x:Ox):Ap:=Ai #[I J x.A,I J x.n,I J x.id,Y (BS x.Q),C x.la x.ts.length x.lc,x.ev]
def OpsAt(W:Ao)(v:Ap)(l:List Ox):Prop:=
 ∃a cap,v=C a l.length cap/\l.length<=cap/\88 * l.length<=140737488355328/\∀(i:Nat) (x:Ox),l[i]?=G x->OxOk W x/\∃b off,a=G ⟨b,off,O⟩/\b<W.1.size/\∀k,k<6->W.cell? ⟨b,off+i * 6+k,O⟩=(qdj x)[k]?
theorem qvp:prog.cellsOf 34=6:=uh
theorem vcg:prog.cellsOf 32=1:=uh
theorem vj2:prog.cellsOf 31=1:=uh
theorem viy:prog.bytesOf 34=88:=uh
theorem vce:prog.bytesOf 9=16:=uh
section
variable {H:Type} {enc:TypeId×Ap->H}
theorem qkn{spare:Nat->Bool}{e:Bool}{t:TypeId}{z y q m l k:Field}{cs:List Ap}{x:DataW H×List MemPlace}(A:P.underlying t=G (.struct #[z,y,q,m,l,k]))(h:DataW.trod enc P w base spare e fuel t cs=G x):
  ∃y0 y1 y2 y3 y4 y5 n,x.1=.agg [y0.1,y1.1,y2.1,y3.1,y4.1,y5.1]/\cs.length=P.cellsOf t/\DataW.trod enc P w base spare e n z.type ((cs.drop z.offset).take (P.cellsOf z.type))=G y0 /\
   DataW.trod enc P w base spare e n y.type ((cs.drop y.offset).take (P.cellsOf y.type))=G y1/\DataW.trod enc P w base spare e n q.type ((cs.drop q.offset).take (P.cellsOf q.type))=G y2 /\
   DataW.trod enc P w base spare e n m.type ((cs.drop m.offset).take (P.cellsOf m.type))=G y3/\DataW.trod enc P w base spare e n l.type ((cs.drop l.offset).take (P.cellsOf l.type))=G y4 /\
   DataW.trod enc P w base spare e n k.type ((cs.drop k.offset).take (P.cellsOf k.type))=G y5:=by
 obtain⟨xs,n,_,rfl,C,F,j⟩:=DataW.trod_struct A h
 match xs,F with
 | [y0,y1,y2,y3,y4,y5],_=>exact⟨y0,y1,y2,y3,y4,y5,n,uc,C,by simpa using j 0 z rfl,by simpa using j 1 y rfl,by simpa using j 2 q rfl,by simpa using j 3 m rfl,by simpa using j 4 l rfl,by simpa using j 5 k rfl⟩
theorem qgz{cs:List Ap}{d:DataW H}(R:DataW.trod enc prog W 0 (λ_=>true) true fuel 31 cs=G (d,pl))
  (Q:∀n∈d.weights prog 31,n<=reachBytes):∃a ts c,cs=[.slice a ts.length c]/\TxIn W a ts/\16 * ts.length<=140737488355328/\ts.length<=c:=by
 rcases open_slice underlying31 R with⟨A,z⟩|⟨a,len0,EB,m,n,D,Pl,A,_,T,hm,F,z,J⟩;exact⟨O,[],0,A,(λk s h=>by simp at h),bt _,bt _⟩;simp only[if_true]at F;subst F;simp only[Prod.mk.injEq]at z;obtain⟨rfl,rfl⟩:=z;rw[qc3]at J;have x:=Q;rw[DataW.weights,underlying31]at x;simp only[eo,cr]at x
 have each:∀i,i<len0->∃s:tu,s.length<=140737488355328/\W.cell? (a.add i)=G (.string (BS s)):=by
  intro i X;obtain⟨cs',q,l⟩:=J i ub;obtain⟨st,h3,Z,_⟩:=DataW.trod_string underlying9 l;have N:D i∈(List.range len0).map D:=eg.2 ⟨i,ip.2 X,rfl⟩;have Y:D i=.lit (.string st.data.toList):=by simpa using congrArg Prod.fst Z
  have K:st.data.toList.length<=reachBytes:=x _ (An (Am (pN N _ (by rw[Y];simp[DataW.weights]))));obtain⟨_,_,V6⟩:=World.cells?_some q;subst h3;have c0:=V6 0 ue;rw[add_add]at c0;unfold reachBytes at K;exact⟨st.data.toList,ub,by rw[vig];simpa using c0⟩
 obtain⟨f,I⟩:=choose_lt each;have C:((List.range len0).map f).length=len0:=by rw[cd,iu]
 refine⟨G a,(List.range len0).map f,_,by rw[C];exact A,λk s e=>?_, ?_,by rw[C];exact T⟩;rw[cm]at e
 cases hr:(List.range len0)[k]? with
 | none=>rw[hr]at e;cases e
 | some j=>
  rw[hr]at e;obtain⟨q,l⟩:=aj.1 hr;rw[iu]at q;rw[List.getElem_range]at l;subst l;obtain rfl:f k=s:=by simpa using e
  obtain⟨M,y⟩:=I k q;obtain⟨b,off,spot⟩:=a
  have S:spot=O:=by
   have:=World.cell?_spot (I 0 ub).2;simpa [Addr.add]using this
  subst S;have J3:(⟨b,off,O⟩:Addr).add k=⟨b,off+k,O⟩:=by simp[Addr.add]
  rw[J3]at y;exact⟨M,b,off,rfl,block_lt_of_cell y,y⟩
 have:=x _ (Am rfl);rw[vce,cd,iu]at this;rw[C];unfold reachBytes at this;omega
theorem qwf{a:Option Addr}{c:Nat}{d:DataW H}(q:DataW.trod enc prog W 0 (λ_=>true) true fuel 32 [.slice a n c]=G (d,pl))
  (l:∀n∈d.weights prog 32,n<=reachBytes):48 * n<=140737488355328:=by
 rcases open_slice underlying32 q with⟨e,h⟩|⟨A,len0,F,m,x,D,Pl,e,_,z,y,k,h,C⟩;simp at e;omega;simp at e;obtain⟨rfl,rfl,rfl⟩:=e;simp only[if_true]at k;subst k;simp only[Prod.mk.injEq]at h;obtain⟨rfl,rfl⟩:=h;have j:=l;rw[DataW.weights,underlying32]at j;simp only[eo,cr]at j;have:=j _ (Am rfl);rw[qii,cd,iu]at this;unfold reachBytes at this;omega
theorem qur(e:tu)(k m i:Int)(j h:DataW H):(DataW.agg [.lit (.int .i64 k),.lit (.int .i64 m),.lit (.int .i64 i),.lit (.string e),j,h]:DataW H).weights prog 34=e.length::(j.weights prog 31++h.weights prog 32):=by
 rw[DataW.weights,underlying34];simp only[List.map,DataW.weightsEach,DataW.weights];simp
theorem EvIn.len{a:Option Addr}{c:Nat}(h:EvIn W (C a n c) ps):ps.length=n:=by
 rcases h with⟨rfl,j,cap,e⟩|⟨b,off,cap,e,_⟩;injection e with _ e _;exact e.symm;injection e with _ e _;exact e.symm
theorem vkw{cs:List Ap}{d:DataW H}(h:DataW.trod enc prog W 0 (λ_=>true) true n 34 cs=G (d,pl))(e:∀n∈d.weights prog 34,n<=reachBytes):
  ∃x:Ox,cs=qdj x/\OxOk W x:=by
 obtain⟨y0,y1,y2,y3,X,T,n1,M,N,J,I,F,C,A,l⟩:=qkn underlying34 h;rw[qvp]at N
 match cs,N with
 | [c0,c1,c2,c3,c4,c5],_=>
  simp only[qq5,qc3,vcg,vj2,List.drop,List.take]at J I F C A l;obtain⟨k,S,rfl,Z⟩:=DataW.trod_int underlying3 J;obtain⟨m,R,rfl,Y⟩:=DataW.trod_int underlying3 I;obtain⟨i,Q,rfl,wi⟩:=DataW.trod_int underlying3 F;obtain⟨z,O,rfl,_⟩:=DataW.trod_string underlying9 C;obtain⟨d4,p4⟩:=X;obtain⟨d5,p5⟩:=T;simp only at M;subst M;rw[qur]at e;have w1:=e _ (ei ..);obtain⟨a,ts,c,K,AW,V3,q⟩:=qgz A λm j=>e m (fe _ (lp _ j))
  obtain⟨v,ps,hv,y,hg⟩:=qgy l λm j=>e m (fe _ (ox _ j))
  simp only[List.cons.injEq,and_true]at S R Q O K hv;subst S R Q O K hv;unfold reachBytes at w1;obtain⟨ea,en,ec,rfl⟩:=y.slice;have KU:=qwf l λm j=>e m (fe _ (ox _ j))
  exact⟨⟨k,m,i,z.data.toList,a,c,ts,.slice ea en ec,ps⟩,rfl,⟨by show z.data.toList.length<=_;omega,qrr Z,qrr Y,qrr wi,AW,V3,q,y,hg,by rw[y.len];exact KU⟩⟩
theorem vet{d:DataW H}(S:Value.okWide prog W .any base 22 v)(h:DataW.Trod enc prog W 0 (λ_=>true) true 22 v d pl)
  (T:∀n∈d.weights prog 22,n<=reachBytes):∃l,OpsAt W v l:=by
 obtain⟨fuel,X⟩:=h;obtain⟨a0,len0,EB,rfl⟩:=okWide_slice underlying22 S;rcases open_slice underlying22 X with⟨q,F⟩|⟨a,len,cap,m,n,D,Pl,q,_,hl,hm,K,F,N⟩;simp[Value.cells]at q;obtain⟨rfl,rfl,rfl⟩:=q;exact⟨[],O,0,rfl,bt _,bt _,λi x z=>by simp at z⟩;simp[Value.cells]at q;obtain⟨rfl,rfl,rfl⟩:=q;simp only[if_true]at K;subst K;simp only[Prod.mk.injEq]at F;obtain⟨rfl,rfl⟩:=F;rw[qvp]at N;have C:=T;rw[DataW.weights,underlying22]at C;simp only[eo,cr]at C
 have each:∀i,i<len0->∃x:Ox,OxOk W x/\∀k,k<6->W.cell? (a.add (i * 6+k))=(qdj x)[k]?:=by
  intro i z;obtain⟨cs',y,A⟩:=N i ub;have R:D i∈(List.range len0).map D:=eg.2 ⟨i,ip.2 z,rfl⟩;obtain⟨x,rfl,ok⟩:=vkw A λn Z=>C n (An (Am (pN R n Z)))
  obtain⟨_,_,V6⟩:=World.cells?_some y;refine⟨x,ok,λk e=>?_⟩;have c:=V6 k e;rw[add_add]at c;rw[c]
 have inh:Inhabited Ox:=⟨⟨0,0,0,[],O,0,[],.slice O 0 0,[]⟩⟩;obtain⟨f,M⟩:=choose_lt each;have I:((List.range len0).map f).length=len0:=by rw[cd,iu]
 have Q:∀(k:Nat) (p:Ox),((List.range len0).map f)[k]?=G p->k<len0/\p=f k:=by
  intro k p e;rw[cm]at e
  cases hr:(List.range len0)[k]? with
  | none=>rw[hr]at e;cases e
  | some j=>
   rw[hr]at e;obtain⟨y,A⟩:=aj.1 hr;rw[iu]at y;rw[List.getElem_range]at A;subst A;exact⟨y,by simpa using e.symm⟩
 refine⟨(List.range len0).map f,G a,_,by rw[I],by rw[I];exact hl, ?_,λi x z=>?_⟩;have:=C _ (Am rfl);rw[viy,cd,iu]at this;rw[I];unfold reachBytes at this;omega;obtain⟨y,rfl⟩:=Q i x z;obtain⟨ok,q⟩:=M i y;obtain⟨b,off,spot⟩:=a
 have Y:spot=O:=by
  have:=(M 0 ub).2 0 ub;have:=World.cell?_spot this;simpa [Addr.add]using this
 subst Y;have J3:∀j,(⟨b,off,O⟩:Addr).add j=⟨b,off+j,O⟩:=by intro j;simp[Addr.add]
 have J:∀k,k<6->W.cell? ⟨b,off+i * 6+k,O⟩=(qdj (f i))[k]?:=λk e=>by
  have:=q k e;rw[J3,<-Nat.add_assoc]at this;exact this
 exact⟨ok,b,off,rfl,block_lt_of_cell (J 0 ub),J⟩
end
end
end Go.Proofs.YtdmmmgodfceilaaGreatDoor
