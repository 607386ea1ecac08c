/- Terms as the keys of a -/
import Derived.Maps.OwnSet
import Derived.DeepKeys4
import Derived.Test.YtmepkbgodcffoaaGreatDoorM16
set_option maxHeartbeats 16000000
set_option maxRecDepth 100000
namespace Go.Proofs.YtmepkbgodcffoaaGreatDoor
open Go.RowKit Go.Proofs.Tryz
open _root_.List renaming length->A
open Go.World renaming setCell->B,ownsRow->ue
open Go.Value renaming ownBlock->ug,agg->Ai,bool->Ah,int->I,pointer->Ag,slice->C,string->Y,tuple->Aj
open Bool renaming false->uh,true->ui
open _root_.Array renaming size->Z,toList->T
open Go renaming Value->Ap,World->Ao
open Go.Ending renaming returned->Ak
open Go.IntKind renaming i64->J
open Go.Obj renaming cells->Al
open Option renaming none->O,some->G
open Or renaming inl->Am,inr->An
variable{a:Addr}{neg:Bool}{p:CP}{c:Co}{D:DataW Unit}{n o:Int}{rs:List Nat}{ps:List Pr}{ns:List RN}{V4 ts:List Tm}{vs:List V}{uc E H b base cap d g i k lo m mb mp r rb tb:Nat}{t u:Tm}{ty:TypeId}{av bR ev pv rv rv' tv tv' v v0 v1 v2 v3 v4 v5 vx vy:Ap}{U W W' w w' w2 wr:Ao}
section
open Go.Maps (Keyed)
theorem vre:laidOutB prog=ui:=uw
theorem vfm:(187:TypeId)<prog.types.size:=of_decide_eq_true uw
theorem vfl:prog.keyTypeAt 3 187=ui:=uw
theorem qgh:Keyed prog 187:=Keyed.of_law (deep_law_laid vre (m:=3) (Nat.le_of_ble_eq_true rfl) vfm vfl (by rw[underlying187]))
theorem vte:prog.keyType 187=ui:=uw
theorem qpf:prog.cellsOf 187=6:=uw
theorem vq6:prog.cellsOf 99=1:=uw
theorem qrp:prog.cellsOf 3=1:=uw
theorem qw0:prog.cellsOf 2=1:=uw
theorem qqf:prog.cellsOf 9=1:=uw
structure HoldT(t:Tm):Prop where
 op:Rng t.op
 left:Rng t.left
 right:Rng t.right
 M:Rng t.M
 str:A t.str<=1000
 esc:A t.esc<=1000
def vrg(t:Tm):List Lit:=[.int .i64 t.op,.int .i64 t.left,.int .i64 t.right,.int .i64 t.M,.string t.str,.string t.esc]
def klT(t:Tm):Lit:=.string (keyBytes (vrg t))
theorem vw1(h:Rng n):(Lit.int .i64 n).wf=ui:=WalkArith.wf_i64 h
theorem gh(e:prog.underlying ty=G (.int .i64))(h:Rng n):prog.keyLits (d+1) ty [.int .i64 n]=G [.int .i64 n]:=by
 unfold Program.keyLits
 grind[vw1]
theorem qf4(e:prog.underlying ty=G .string){l:uk}(h:A l<=1000):prog.keyLits (d+1) ty [.string (BS l)]=G [.string l]:=by
 unfold Program.keyLits
 grind[BS,maxLen,qI]
theorem xA(h:HoldT t):keyOf prog 187 (tmV t)=G (klT t):=by
 obtain⟨d,hd⟩:∃d,prog.types.size+1=d+1+1:=⟨prog.types.size - 1,by grind[vfm]⟩;have z:=gh (d:=d) underlying99 h.op;have y:=gh (d:=d) underlying3 h.left;have x:=gh (d:=d) underlying3 h.right;have s:=gh (d:=d) underlying2 h.M;have q:=qf4 (d:=d) underlying9 h.str;have l:=qf4 (d:=d) underlying9 h.esc
 have e:prog.keyLits (prog.types.size+1) 187 (tmV t).cells.toList=G (vrg t):=by
  rw[hd];unfold Program.keyLits;have j:(tmV t).cells.toList=[.int .i64 t.op,.int .i64 t.left,.int .i64 t.right,.int .i64 t.M,.string (BS t.str),.string (BS t.esc)]:=rfl;simp[j,qpf,vq6,qrp,qw0,qqf,z,y,x,s,q,l,vrg,List.mapM_cons,List.mapM_nil]
 have f:(tmV t).formed prog 187=ui:=by simp[tmV,Value.formed,underlying187,qpf]
 unfold keyOf;rw[underlying187];simp only[vte,f,Bool.and_self,if_true,e];rfl
theorem vtg(h:tmV t=tmV u):t=u:=by
 grind[tmV,zW,Tm]
theorem vbp(j:HoldT t)(f:HoldT u)(h:t≠u):klT t≠klT u:=λe=>h (vtg (qgh.inj (xA j) (e ▸ xA f)))
def vew(t u:Tm):Bool:=t.op==u.op&&t.left==u.left&&t.right==u.right&&t.M==u.M&&t.str==u.str&&t.esc==u.esc
theorem kK(t u:Tm):vew t u=ui↔t=u:=by
 grind[vew,Tm]
def jj(ts:List Tm)(t:Tm):Option Nat:=ts.findIdx? λu=>vew u t
theorem gQ(h:jj ts t=O):jj (ts++[t]) t=G (A ts):=by
 grind[jj,kK]
theorem kP(h:t≠u):jj (ts++[u]) t=jj ts t:=by
 grind[jj,vew,kK]
structure MapIs(D:DataW Unit)(ts:List Tm):Prop where
 map:Maps.IsMap D
 at':∀t,HoldT t->∀i,jj ts t=G i->Maps.has D (klT t)=ui/\D.atKey (klT t) (.lit (.int .i64 0))=.lit (.int .i64 i)
 no:∀t,HoldT t->jj ts t=O->Maps.has D (klT t)=uh
theorem MapIs.empty:MapIs (.map []) []:=⟨Maps.isMap_empty,λt _ i h=>by simp[jj]at h,λt _ _=>rfl⟩
theorem MapIs.add(h:MapIs D ts)(j:HoldT t)(s:jj ts t=O):MapIs (D.put (klT t) (.lit (.int .i64 (A ts)))) (ts++[t]):=by
 have q:WideAt.IsKeyLit (klT t):=qgh.key (xA j);refine⟨h.map.put _ _,λu e i f=>?_,λu e l=>?_⟩
 by_cases he:u=t
 subst he;rw[gQ s]at f;simp at f;subst f;exact⟨Maps.has_put_same h.map q _,Maps.atKey_put_same h.map q _ _⟩;rw[kP he]at f;have:=h.at' u e i f;rw[Maps.has_put_other (vbp e j he),Maps.atKey_put_other (vbp e j he)];exact this
 by_cases he:u=t
 grind[gQ]
 rw[kP he]at l;rw[Maps.has_put_other (vbp e j he)];exact h.no u e l
end
def zV(p:CP)(l r:Nat):Tm:=⟨p.op.toNat,l,r,p.M,p.str,p.esc⟩
def pW(ts:List Tm)(t:Tm):List Tm×Nat:=match jj ts t with
 | some i=>(ts,i)
 | none=>(ts++[t],A ts)
def qA:List Tm->Co->List Tm×Nat
 | ts,.leaf p=>pW ts (zV p 0 0)
 | ts,.un p x=>pW (qA ts x).1 (zV p (qA ts x).2 0)
 | ts,.bin p x y=>pW (qA (qA ts x).1 y).1 (zV p (qA ts x).2 (qA (qA ts x).1 y).2)
def kt:Co->Nat
 | .leaf _=>1
 | .un _ x=>kt x+1
 | .bin _ x y=>kt x+kt y+1
structure GoodP(p:CP):Prop where
 op:0<=p.op/\p.op<=23
 M:Rng p.M
 str:A p.str<=1000
 esc:A p.esc<=1000
def qe6:Co->Prop
 | .leaf p=>GoodP p
 | .un p x=>GoodP p/\qe6 x
 | .bin p x y=>GoodP p/\qe6 x/\qe6 y
theorem vgf(h:jj ts t=G i):i<A ts:=by
 grind[jj,List.findIdx?_eq_some_iff_getElem]
theorem qju(ts:List Tm)(t:Tm):A ts<=A (pW ts t).1/\A (pW ts t).1<=A ts+1/\(pW ts t).2<A (pW ts t).1:=by
 unfold pW
 split
 rename_i i h;exact⟨ux,Nat.le_succ _,vgf h⟩;simp
theorem yu(ts:List Tm)(c:Co):A ts<=A (qA ts c).1/\A (qA ts c).1<=A ts+kt c/\(qA ts c).2<A (qA ts c).1:=by
 induction c generalizing ts<;>grind[qju,qA,kt]
theorem vfv(h:GoodP p){l:Nat}(s:l<=3000000000)(q:r<=3000000000):HoldT (zV p l r):=by
 obtain⟨⟨y,x⟩,j,f,e⟩:=h;exact⟨⟨by grind,by simp only[zV];omega⟩,⟨by grind,by simp only[zV];omega⟩,⟨by grind,by simp only[zV];omega⟩,j,f,e⟩
structure MkAt(W:Ao)(mb mp:Nat)(ts:List Tm)(rs:List Nat)(tv rv:Ap):Prop where
 c0:W.cell? ⟨mb,0,O⟩=G tv
 c1:W.cell? ⟨mb,1,O⟩=G rv
 c2:W.cell? ⟨mb,2,O⟩=G (.map (G mp))
 fz:∀j,W.frozen? ⟨mb,j,O⟩=uh
 lo:mp<mb
 lt:mb<W.1.size
 ats:TsAt W (mb+1) tv ts
 ars:IsAt W (mb+1) rv rs
 ne:∀g,ug tv=G g->ug rv≠G g
 map:∃D:DataW Unit,W.ownsMap prog 187 (plainElem prog 3) mp (A ts) D/\MapIs D ts
def Own(mb mp:Nat)(tv rv:Ap)(k:Nat):Prop:=k=mb\/k=mp\/ug tv=G k\/ug rv=G k
structure MkKept(mb mp:Nat)(tv rv tv' rv':Ap)(W W':Ao):Prop where
 os:W'.os=W.os
 tape:W'.tape=W.tape
 output:W'.output=W.output
 size:W.1.size<=W'.1.size
 block:∀k,k<W.1.size->¬Own mb mp tv rv k->W'.1[k]?=W.1[k]?
 rows:∀k,k<W.1.size->Own mb mp tv' rv' k->Own mb mp tv rv k
theorem MkKept.refl(mb mp:Nat)(tv rv:Ap)(W:Ao):MkKept mb mp tv rv tv rv W W:=by constructor<;>grind
theorem MkKept.trans{e:Ap}{a b c:Ao}(h:MkKept mb mp tv rv tv' rv' a b)(k:MkKept mb mp tv' rv' bR e b c):MkKept mb mp tv rv bR e a c:=by grind[MkKept]
theorem MkKept.drew'{a b:Ao}(h:MkKept mb mp tv rv tv' rv' a.drew b):MkKept mb mp tv rv tv' rv' a b:=⟨h.os,h.tape,h.output,h.size,h.block,h.rows⟩
theorem MkKept.x{a b:Ao}(h:Xb a b):MkKept mb mp tv rv tv rv a b:=⟨h.os,h.tape,h.output,h.size,λk e _=>h.block k e,λ_ _ h=>h⟩
def Out(uc E mb mp:Nat)(tv rv:Ap):Prop:=∀k,Own mb mp tv rv k->k<uc\/E<=k
theorem Out.next(h:Out uc E mb mp tv rv)(e:MkKept mb mp tv rv tv' rv' W W')(f:E<=Z W.1):Out uc E mb mp tv' rv':=by
 grind[Out,MkKept]
theorem MkAt.own_lt(h:MkAt W mb mp ts rs tv rv)(e:Own mb mp tv rv k):k<Z W.1:=by
 have:=h.lt;have:=h.lo;obtain rfl|rfl|e|e:=e;omega;omega;exact(h.ats.lt k e).2;exact(h.ars.lt k e).2
theorem MkAt.same(h:MkAt W mb mp ts rs tv rv)(s:Z W.1<=Z W'.1)(e:∀k,Own mb mp tv rv k->W'.1[k]?=W.1[k]?):MkAt W' mb mp ts rs tv rv:=by
 have q:=e mb (Am rfl);have l:∀j,W'.cell? ⟨mb,j,O⟩=W.cell? ⟨mb,j,O⟩:=λj=>bg (w:=W) (w':=W') (a:=⟨mb,j,O⟩) q
 have x:∀j,W'.frozen? ⟨mb,j,O⟩=W.frozen? ⟨mb,j,O⟩:=λj=>cn (w:=W) (w':=W') (a:=⟨mb,j,O⟩) q
 obtain⟨D,⟨es,clock,y,rest⟩,z⟩:=h.map
 exact⟨(l 0).trans h.c0,(l 1).trans h.c1,(l 2).trans h.c2,λj=>(x j).trans (h.fz j),h.lo,au h.lt s,
  qm h.ats λg f=>e g (An (An (Am f))),qm h.ars λg f=>e g (An (An (An f))),h.ne,D,⟨es,clock,(e mp (An (Am rfl))).trans y,rest⟩,z⟩
theorem MkAt.h(h:MkAt W mb mp ts rs tv rv)(e:Xb W W'):MkAt W' mb mp ts rs tv rv:=
 h.same e.size λk f=>e.block k (h.own_lt f)
theorem MkAt.drew(h:MkAt W mb mp ts rs tv rv):MkAt W.drew mb mp ts rs tv rv:=h.h uy.drew
theorem MkAt.row_other(h:MkAt W mb mp ts rs tv rv)(e:W.grownBy W' (G mp)):
  Xc W' mb 0 tv/\Xc W' mb 1 rv/\Xc W' mb 2 (.map (G mp))/\(Xf W' mb)/\TsAt W' (mb+1) tv ts/\IsAt W' (mb+1) rv rs/\mb<Z W'.1:=by
 have s:=h.lo;have l:W'.1[mb]?=W.1[mb]?:=e.block mb h.lt ut;have f:∀j,W'.cell? ⟨mb,j,O⟩=W.cell? ⟨mb,j,O⟩:=λj=>bg (w:=W) (w':=W') (a:=⟨mb,j,O⟩) l
 have q:∀j,W'.frozen? ⟨mb,j,O⟩=W.frozen? ⟨mb,j,O⟩:=λj=>cn (w:=W) (w':=W') (a:=⟨mb,j,O⟩) l
 refine⟨(f 0).trans h.c0,(f 1).trans h.c1,(f 2).trans h.c2,λj=>(q j).trans (h.fz j),qm h.ats λg hg'=>?_,qm h.ars λg hg'=>?_,au h.lt e.size⟩;have:=h.ats.lt g hg';exact e.block g this.2 ut;have:=h.ars.lt g hg';exact e.block g this.2 ut
theorem MkAt.add{W f W2:Ao}(h:MkAt W mb mp ts rs tv rv)(GC:HoldT t)(T:jj ts t=O)(hD:MapIs D ts){o:Obj}
  (FK:f.ownsMap prog 187 (plainElem prog 3) mp (A ts+1) (D.put (klT t) (.lit (.int .i64 (A ts))))) (x:W.grownBy f (G mp)) 
  (B7:ue W2 (mb+1) 187 6 (.slice (G ⟨g,0,O⟩) (A ts+1) cap) (A ts+1) (xJ ts++yH t)) (z:(f.alloc o).grownBy W2 (ug tv)) (s:ug tv=G g\/g=H) (Y:Z (f.alloc o).1=H) :
  MkAt (B W2 ⟨mb,0,O⟩ (.slice (G ⟨g,0,O⟩) (A ts+1) cap)) mb mp (ts++[t]) rs (.slice (G ⟨g,0,O⟩) (A ts+1) cap) rv /\
  MkKept mb mp tv rv (.slice (G ⟨g,0,O⟩) (A ts+1) cap) rv W (B W2 ⟨mb,0,O⟩ (.slice (G ⟨g,0,O⟩) (A ts+1) cap)):=by
 have dI:=h.lo;obtain⟨c0,c1,c2,fz,ats,ars,ME⟩:=h.row_other x;have B9:=x.size;have D8:=z.size;simp at D8 Y;have E6:∀k,ug tv=G k->mb+1<=k:=λk q=>(h.ats.lt k q).1
 have I:∀k,k<Z f.1->ug tv≠G k->W2.1[k]?=f.1[k]?:=λk q y=>
  (z.block k ut (λe=>y e.symm)).trans (ik f o k q)
 have C:W2.1[mb]?=f.1[mb]?:=I mb ME (λe=>by grind);have VS:Xc W2 mb 0 tv:=(bg (w:=f) (w':=W2) (a:=⟨mb,0,O⟩) C).trans c0;have QG:Xc W2 mb 1 rv:=(bg (w:=f) (w':=W2) (a:=⟨mb,1,O⟩) C).trans c1;have L:Xc W2 mb 2 (.map (G mp)):=(bg (w:=f) (w':=W2) (a:=⟨mb,2,O⟩) C).trans c2;have K:Xf W2 mb:=λj=>(cn (w:=f) (w':=W2) (a:=⟨mb,j,O⟩) C).trans (fz j)
 have M:∀k,k≠mb->(B W2 ⟨mb,0,O⟩ (.slice (G ⟨g,0,O⟩) (A ts+1) cap)).1[k]?=W2.1[k]?:=λk q=>bi W2 ⟨mb,0,O⟩ _ k (by show k≠mb;exact q)
 refine⟨⟨by simp[go_sem,VS],by simp[go_sem,QG],by simp[go_sem,L],λj=>by simp[go_sem,K],dI,ut, ?_, ?_, ?_, ?_⟩,⟨?_, ?_, ?_,ut,λk q y=>?_,λk q l=>?_⟩⟩
 .show ue _ _ _ _ _ _ _
  rw[cd,dj,xJ,List.flatMap_append,List.flatMap_singleton];exact ownsRow_setCell_below B7 (by grind) _
 refine qm ars λJ hg'=>?_
 have X:=ars.lt J hg';rw[M J uq];exact I J X.2 (λe=>h.ne J e hg');intro g0 S P;have F:g=g0:=by simpa [Value.ownBlock]using S
 subst F;obtain s|s:=s;exact h.ne g s P;have:=(ars.lt g P).2;omega;refine⟨_, ?_,hD.add GC T⟩;obtain⟨es,clock,F,rest⟩:=FK;rw[cd,dj];refine⟨es,clock, ?_,rest⟩;rwa[M mp uq,I mp uq (λe=>by grind)];exact z.os.trans x.os;exact z.tape.trans x.tape;exact z.output.trans x.output;have R:k≠mb:=λe=>y (Am e)
 have Q:k≠mp:=λe=>y (An (Am e))
 rw[M k R,I k uq (λe=>y (An (An (Am e))))];exact x.block k q (by simpa using Q);obtain l|l|l|l:=l;exact Am l;exact An (Am l);have F:g=k:=by simpa [Value.ownBlock]using l
 subst F;obtain s|s:=s;exact An (An (Am s));omega;exact An (An (An l))
theorem MkAt.root{W W2:Ao}(h:MkAt W mb mp ts rs tv rv){o:Obj}
  (B7:ue W2 (mb+1) 3 1 (C (G ⟨g,0,O⟩) (A rs+1) cap) (A rs+1) (zp rs++[I J r])) (s:(W.alloc o).grownBy W2 (ug rv)) (q:ug rv=G g\/g=H) (X:Z (W.alloc o).1=H) :
  MkAt (B W2 ⟨mb,1,O⟩ (C (G ⟨g,0,O⟩) (A rs+1) cap)) mb mp ts (rs++[r]) tv (C (G ⟨g,0,O⟩) (A rs+1) cap) /\
  MkKept mb mp tv rv tv (C (G ⟨g,0,O⟩) (A rs+1) cap) W (B W2 ⟨mb,1,O⟩ (C (G ⟨g,0,O⟩) (A rs+1) cap)):=by
 have dI:=h.lo;have A1:=h.lt;have D8:=s.size;simp at D8 X;have E6:∀k,ug rv=G k->mb+1<=k:=λk l=>(h.ars.lt k l).1
 have F:∀k,k<Z W.1->ug rv≠G k->W2.1[k]?=W.1[k]?:=λk l y=>
  (s.block k ut (λe=>y e.symm)).trans (ik W o k l)
 have x:W2.1[mb]?=W.1[mb]?:=F mb A1 (λe=>by grind);have VS:Xc W2 mb 0 tv:=(bg (w:=W) (w':=W2) (a:=⟨mb,0,O⟩) x).trans h.c0;have QG:Xc W2 mb 1 rv:=(bg (w:=W) (w':=W2) (a:=⟨mb,1,O⟩) x).trans h.c1;have M:Xc W2 mb 2 (.map (G mp)):=(bg (w:=W) (w':=W2) (a:=⟨mb,2,O⟩) x).trans h.c2;have L:Xf W2 mb:=λj=>(cn (w:=W) (w':=W2) (a:=⟨mb,j,O⟩) x).trans (h.fz j)
 have P:∀k,k≠mb->(B W2 ⟨mb,1,O⟩ (C (G ⟨g,0,O⟩) (A rs+1) cap)).1[k]?=W2.1[k]?:=λk l=>bi W2 ⟨mb,1,O⟩ _ k (by show k≠mb;exact l)
 refine⟨⟨by simp[go_sem,VS],by simp[go_sem,QG],by simp[go_sem,M],λj=>by simp[go_sem,L],dI,ut, ?_, ?_, ?_, ?_⟩,⟨s.os,s.tape,s.output,ut,λk l y=>?_,λk l f=>?_⟩⟩;refine qm h.ats λK hg'=>?_
 have T:=h.ats.lt K hg';rw[P K uq];exact F K T.2 (λe=>h.ne K hg' e)
 .show ue _ _ _ _ _ _ _
  rw[cd,dj,zp,dq];exact ownsRow_setCell_below B7 (by grind) _
 intro g0 Q S;have z:g=g0:=by simpa [Value.ownBlock]using S
 subst z;obtain q|q:=q;exact h.ne g Q q;have:=(h.ats.lt g Q).2;omega;obtain⟨D,⟨es,clock,z,rest⟩,Y⟩:=h.map;refine⟨D,⟨es,clock, ?_,rest⟩,Y⟩;rwa[P mp uq,F mp uq (λe=>by grind)];have R:k≠mb:=λe=>y (Am e)
 rw[P k R];exact F k l (λe=>y (An (An (An e))));obtain f|f|f|f:=f;exact Am f;exact An (Am f);exact An (An (Am f));have z:g=k:=by simpa [Value.ownBlock]using f
 subst z;obtain q|q:=q;exact An (An (An q));omega
theorem qd2(w:Ao):uo 55 #[] w λe w'=>e=Ak (Ag (G ⟨Z w.1+1,0,O⟩))/\MkAt w' (Z w.1+1) (Z w.1) [] [] (C O 0 0) (C O 0 0)/\Xb w w':=by
 have l:=@run_makeMap prog;go_enter func55,ntmps55
 go_wp2
 go_ret;refine⟨rfl,⟨by simp[go_sem],by simp[go_sem],by simp[go_sem],λj=>by simp[go_sem],uq,ur,TsAt.nil _ _,IsAt.nil _ _,λg f=>by simp[Value.ownBlock]at f,.map [],(World.ownsMap_made w _ _ _).alloc _,MapIs.empty⟩,(uy.alloc ux _).alloc ur _⟩
theorem qbq(f o n:Nat)(a:Option Addr)(c:Nat)(w:Ao)(h:Xc w f o (C a n c)):uo 57 #[Ag (G ⟨f,o,O⟩)] w λe w'=>e=Ak (I J n)/\w'=w:=by
 go_enter func57,ntmps57
 go_wp2
 go_ret;exact⟨rfl,rfl⟩
theorem vd5(mb:Nat)(w:Ao):uo 101 #[Ag (G ⟨mb,0,O⟩),Ag O] w λe w'=>e=Ak (I J 0)/\w'=w:=by
 go_enter func101,ntmps101
 go_wp2
 go_ret;exact⟨rfl,rfl⟩
def SidAt(uc E:Nat)(w:Ao)(v:Ap):Option Co->Prop
 | none=>v=Ag O
 | some c=>CoAt uc E w v c
def vK(ts:List Tm):Option Co->List Tm×Nat
 | none=>(ts,0)
 | some c=>qA ts c
def qct:Option Co->Nat
 | none=>0
 | some c=>kt c
theorem qhh(ts:List Tm)(c:Option Co):A ts<=A (vK ts c).1/\A (vK ts c).1<=A ts+qct c/\(vK ts c).2<=A ts+qct c:=by
 cases c<;>grind[yu,vK,qct]
theorem SidAt.keep{c:Option Co}(h:SidAt uc E w v c)(f:∀k,uc<=k->k<E->w'.1[k]?=w.1[k]?)(e:Z w.1<=Z w'.1):SidAt uc E w' v c:=by
 cases c with
 | none=>exact h
 | some c=>exact CoAt.keep ux f e h
def qza(mb mp:Nat)(rs:List Nat)(tv rv:Ap)(r:List Tm×Nat)(W:Ao)(e:Ending)(W':Ao):Prop:=∃tv',e=Ak (I J (r.2:Int))/\MkAt W' mb mp r.1 rs tv' rv/\MkKept mb mp tv rv tv' rv W W'
def qe8(c:Option Co):Prop:=∀(uc E mb mp:Nat) (W:Ao) (v:Ap) (ts:List Tm) (rs:List Nat) (tv rv:Ap),MkAt W mb mp ts rs tv rv->SidAt uc E W v c->E<=Z W.1->Out uc E mb mp tv rv->A ts+qct c<=2500000000 ->
 Calls prog 101 #[Ag (G ⟨mb,0,O⟩),v] W (qza mb mp rs tv rv (vK ts c) W)
theorem qah:qe8 O:=by
 intro uc E mb mp W v ts rs tv rv f e _ _ _;obtain rfl:v=Ag O:=e;refine be (vd5 mb W) ?_;rintro w' rfl;exact⟨tv,rfl,f,MkKept.refl _ _ _ _ _⟩
theorem Out.keep(h:Out uc E mb mp tv rv)(e:MkKept mb mp tv rv tv' rv' W W')(f:E<=Z W.1):∀k,uc<=k->k<E->W'.1[k]?=W.1[k]?:=by grind[Out,MkKept]
theorem vgk(w:Ao):(zeroValue 3).run prog w=.ok (I J 0) w:=uw
theorem MkAt.look_some(h:MkAt W mb mp ts rs tv rv)(f:HoldT t)(j:jj ts t=G i):
  (Instr.lookup 111 (.map (G mp)) (Ai #[I J t.op,I J t.left,I J t.right,I J t.M,Y (BS t.str),Y (BS t.esc)]) ui).run prog W=.ok (Aj #[I J i,Ah ui]) W:=by
 obtain⟨D,z,q⟩:=h.map;obtain⟨v,ps,y,hv⟩:=z.look_ok qgh underlying111 (vgk W) (plainElem_int underlying3 uu) (xA f);obtain⟨x,s⟩:=q.at' t f i j;obtain⟨c,rfl,l,_⟩:=plainElem_int_inv underlying3 hv;have e:=congrArg Prod.fst l;rw[s]at e;simp at e;rw[x]at y;rwa[e]
theorem MkAt.look_none(h:MkAt W mb mp ts rs tv rv)(e:HoldT t)(j:jj ts t=O):
  ∃c,(Instr.lookup 111 (.map (G mp)) (Ai #[I J t.op,I J t.left,I J t.right,I J t.M,Y (BS t.str),Y (BS t.esc)]) ui).run prog W=.ok (Aj #[I J c,Ah uh]) W:=by
 obtain⟨D,q,l⟩:=h.map;obtain⟨v,ps,f,hv⟩:=q.look_ok qgh underlying111 (vgk W) (plainElem_int underlying3 uu) (xA e);obtain⟨c,rfl,_,_⟩:=plainElem_int_inv underlying3 hv;rw[l.no t e j]at f;exact⟨c,f⟩
theorem MkAt.put(h:MkAt W mb mp ts rs tv rv)(F:HoldT t)(Q:jj ts t=O)(hn:A ts<=2500000000)(x:TmAt W tb t)(I6:¬Own mb mp tv rv tb):
  ∃f,(Instr.mapUpdate 111 (.map (G mp)) (Ai #[I J t.op,I J t.left,I J t.right,I J t.M,Y (BS t.str),Y (BS t.esc)]) (I J (A ts))).run prog W=.ok () f /\
   Xc f mb 0 tv/\mb<Z f.1/\Hid (TmAt f tb t) /\
   ∃g cap l,(xb #[49,49] 49 #[tv,C (G ⟨Z f.1,0,O⟩) 1 1]).run prog (f.alloc (Al #[I J t.op,I J t.left,I J t.right,I J t.M,Y (BS t.str),Y (BS t.esc)] 187)).drew=.ok (C (G ⟨g,0,O⟩) (A ts+1) cap) l /\
    Xc l mb 0 tv/\(Xf l mb)/\mb<Z l.1 /\
    Hid (MkAt (B l ⟨mb,0,O⟩ (C (G ⟨g,0,O⟩) (A ts+1) cap)) mb mp (ts++[t]) rs (C (G ⟨g,0,O⟩) (A ts+1) cap) rv) /\
    Hid (MkKept mb mp tv rv (C (G ⟨g,0,O⟩) (A ts+1) cap) rv W (B l ⟨mb,0,O⟩ (C (G ⟨g,0,O⟩) (A ts+1) cap))):=by
 obtain⟨M,S,F5,B9,D8⟩:=info_parts qez;obtain⟨D,B7,T⟩:=h.map;obtain⟨f,L4,FK,s⟩:=B7.update qgh underlying111 (by unfold maxLen;omega) (xA F) (plainElem_int underlying3 (vw1 (n:=(A ts:Int)) ⟨uq,uq⟩));obtain⟨c0,c1,c2,fz,ats,ars,K⟩:=h.row_other s;have XQ:TmAt f tb t:=x.same (au x.lt s.size) (s.block tb x.lt (by simp only[ne_eq,Option.some.injEq];exact λe=>I6 (An (Am e))));obtain⟨g,cap,l,R,L,q,D6,_⟩:=run_append_lies (P:=prog) (f.alloc (Al #[I J t.op,I J t.left,I J t.right,I J t.M,Y (BS t.str),Y (BS t.esc)] 187)).drew 49 49 (mb+1) 187 M _ 6 64 underlying49 S F5 B9 D8 rfl uq tv (A ts) (xJ ts) (World.ownsRow.alloc ats _)
  ⟨Z f.1,0,O⟩ 1 1 (yH t) rfl (World.news_of_block (cs:=#[I J t.op,I J t.left,I J t.right,I J t.M,Y (BS t.str),Y (BS t.esc)]) (t:=187) (fr:=(0,0)) (heap_alloc_new f _)) (by simp[yH,Value.oneCell']) uq (by unfold maxLen;omega) uq ut _ rfl
 have y:(f.alloc (Al #[I J t.op,I J t.left,I J t.right,I J t.M,Y (BS t.str),Y (BS t.esc)] 187)).grownBy l (ug tv):=⟨q.os,q.tape,q.output,q.size,q.block⟩;obtain⟨YI,X⟩:=h.add F Q T FK s L y D6 rfl;have z:l.1[mb]?=f.1[mb]?:=(y.block mb ut (λe=>md ((ats.lt mb e.symm).1))).trans (ik f _ mb K);refine⟨f,L4,c0,K,qd XQ,g,cap,l,R, ?_,λj=>?_, ?_,qd YI,qd X⟩
 .exact(bg (w:=f) (w':=l) (a:=⟨mb,0,O⟩) z).trans c0
 .exact(cn (w:=f) (w':=l) (a:=⟨mb,j,O⟩) z).trans (fz j)
 all_goals grind
def CS(b:Nat)(p:CP)(vx vy:Ap)(w':Ao):Prop:=w'.cell? ⟨b,0,O⟩=G (I J p.op)/\w'.cell? ⟨b,1,O⟩=G vx/\w'.cell? ⟨b,2,O⟩=G vy/\w'.cell? ⟨b,3,O⟩=G (I J p.M)/\w'.cell? ⟨b,4,O⟩=G (Y (BS p.str))/\w'.cell? ⟨b,5,O⟩=G (Y (BS p.esc))
theorem CS.same(h:CS b p vx vy W)(e:W'.1[b]?=W.1[b]?):CS b p vx vy W':=by
 grind[World.cell?,CS]
theorem CS.alloc(h:CS b p vx vy W)(e:b<Z W.1)(o:Obj):CS b p vx vy (W.alloc o):=h.same (ik W o b e)
theorem CS.set6{R:Nat}(h:CS b p vx vy W)(e:b≠R):CS b p vx vy (B (B (B (B (B (B W ⟨R,0,O⟩ v0) ⟨R,1,O⟩ v1) ⟨R,2,O⟩ v2) ⟨R,3,O⟩ v3) ⟨R,4,O⟩ v4) ⟨R,5,O⟩ v5):=by grind[CS.same,Below.heap_setCell,CS]
theorem CellsC.cs{l r:Ap}{t:uk}(h:CellsC uc E w b p l r t):CS b p l r w:=by grind[CellsC,CS]
structure PlMid(W:Ao)(mb mp:Nat)(rs:List Nat)(tv rv:Ap)(V4:List Tm)(bR:Ap)(tb:Nat)(t:Tm)(wx:Ao):Prop where
 mka:MkAt wx mb mp V4 rs bR rv
 P:MkKept mb mp tv rv bR rv W wx
 tm:TmAt wx tb t
 no:¬Own mb mp bR rv tb
theorem MkKept.later(h:MkKept mb mp tv rv tv' rv' W W')(j:Z W.1<=a.block)(u:Ap):MkKept mb mp tv rv tv' rv' W (B W' a u):=
 ⟨h.os,h.tape,h.output,by have:=h.size;simpa using this,λk f e=>(bi W' a u k uq).trans (h.block k f e),h.rows⟩
theorem MkAt.later(h:MkAt W mb mp ts rs tv rv)(j:¬Own mb mp tv rv a.block)(u:Ap):MkAt (B W a u) mb mp ts rs tv rv:=
 h.same ur λk f=>bi W a u k (λe=>j (e ▸ f))
theorem PlMid.set{e:Tm}(h:MkAt w2 mb mp V4 rs bR rv)(j:MkKept mb mp tv rv bR rv W w2)(f:TmAt w2 tb e)(C:¬Own mb mp bR rv tb)(A:Z W.1<=tb)
   (z:v0=I J t.op) (y:v1=I J t.left) (x:v2=I J t.right) (s:v3=I J t.M) (q:v4=Y (BS t.str)) (l:v5=Y (BS t.esc)) :
  PlMid W mb mp rs tv rv V4 bR tb t (B (B (B (B (B (B w2 ⟨tb,0,O⟩ v0) ⟨tb,1,O⟩ v1) ⟨tb,2,O⟩ v2) ⟨tb,3,O⟩ v3) ⟨tb,4,O⟩ v4) ⟨tb,5,O⟩ v5):=by grind[MkAt.later,MkKept.later,TmAt.full,PlMid]
theorem PlMid.alloc(e:MkAt w2 mb mp V4 rs bR rv)(l:MkKept mb mp tv rv bR rv W w2)
   (A:v0=I J t.op) (z:v1=I J t.left) (y:v2=I J t.right) (x:v3=I J t.M) (s:v4=Y (BS t.str)) (q:v5=Y (BS t.esc)) (ty:TypeId) :
  PlMid W mb mp rs tv rv V4 bR (Z w2.1) t (w2.alloc (Al #[v0,v1,v2,v3,v4,v5] ty)):=by
 subst A z y x s q;refine⟨e.h (uy.alloc ux _),l.trans (MkKept.x (uy.alloc ux _)), ?_,λf=>md (e.own_lt f)⟩;refine⟨ur, ?_, ?_, ?_, ?_, ?_, ?_,λj=>?_⟩<;>simp[go_sem]
section
attribute [local go_sem ↓] vp
def NewOk(mb mp:Nat)(tv' rv:Ap)(lo:Nat)(U w':Ao):Prop:=Z U.1<=Z w'.1/\∀k,lo<=k->k<Z U.1->¬Own mb mp tv' rv k/\w'.1[k]?=U.1[k]?
theorem NewOk.tm(h:NewOk mb mp tv' rv lo U w')(e:TmAt U lo t):TmAt w' lo t/\¬Own mb mp tv' rv lo:=by grind[TmAt.same,NewOk,TmAt]
theorem NewOk.cell(h:NewOk mb mp tv' rv lo U w')(j:Nat)(e:lo<Z U.1):w'.cell? ⟨lo,j,O⟩=U.cell? ⟨lo,j,O⟩:=by grind[World.cell?_of_block,NewOk]
theorem NewOk.frozen(h:NewOk mb mp tv' rv lo U w')(j:Nat)(e:lo<Z U.1):w'.frozen? ⟨lo,j,O⟩=U.frozen? ⟨lo,j,O⟩:=by grind[World.frozen?_of_block,NewOk]
theorem NewOk.next{f:Ap}{e:Ao}(h:NewOk mb mp f rv lo U e)(j:MkKept mb mp f rv bR rv e w2):NewOk mb mp bR rv lo U w2:=by
 grind[NewOk,MkKept]
theorem qhx{c:Option Co}(z:qe8 c)(j:MkAt W mb mp ts rs tv rv)(s:SidAt uc E W v c)(F:E<=Z W.1)(x:Out uc E mb mp tv rv)(y:A ts+qct c<=2500000000)(f:Xb W U):
  uo 101 #[Ag (G ⟨mb,0,O⟩),v] U λe w'=>∃tv',e=Ak (I J ((vK ts c).2:Int))/\MkAt w' mb mp (vK ts c).1 rs tv' rv/\MkKept mb mp tv rv tv' rv W w'/\NewOk mb mp tv' rv (Z W.1) U w':=by
 have q:=f.size;refine(z uc E mb mp U v ts rs tv rv (j.h f) (s.keep (λk _ B=>f.block k uq) q) uq x y).mono ?_;rintro e w'⟨tv',rfl,C,l⟩;refine⟨tv',rfl,C,(MkKept.x f).trans l,l.size,λk K B=>?_⟩;have L:¬Own mb mp tv rv k:=λh=>md (j.own_lt h)
 grind[MkKept]
theorem TsAt.form(h:TsAt w base v ts):∃a c,v=C a (A ts) c:=by
 obtain⟨rfl,e⟩|⟨g,cap,cur,rfl,_⟩:=h.2<;>grind
theorem TmAt.drew(h:TmAt w b t):TmAt w.drew b t:=h.same h.lt rfl
theorem qcl(p:CP)(x y:Option Co)(hx:qe8 x)(hy:qe8 y)(hp:GoodP p)(uc E mb mp b:Nat)(W:Ao)(vx vy:Ap)(tx:uk)(ts:List Tm)(rs:List Nat)(tv rv:Ap)(hm:MkAt W mb mp ts rs tv rv)
  (q:CellsC uc E W b p vx vy tx) (sx:SidAt uc E W vx x) (sy:SidAt uc E W vy y) (S:E<=Z W.1) (F:Out uc E mb mp tv rv) (hn:A ts+qct x+qct y+1<=2500000000)
  (Q:Ending->Ao->Prop) (hQ:∀e w',qza mb mp rs tv rv (pW (vK (vK ts x).1 y).1 (zV p (vK ts x).2 (vK (vK ts x).1 y).2)) W e w'->Q e w') :
  uo 101 #[Ag (G ⟨mb,0,O⟩),Ag (G ⟨b,0,O⟩)] W Q:=by
 have z:=qd hQ;clear hQ;have l1:=qhh ts x;have l2:=qhh (vK ts x).1 y;have PX:Hid (∀U,Xb W U->uo 101 #[Ag (G ⟨mb,0,O⟩),vx] U λe w'=>∃tv',e=Ak (I J ((vK ts x).2:Int))/\MkAt w' mb mp (vK ts x).1 rs tv' rv/\MkKept mb mp tv rv tv' rv W w'/\NewOk mb mp tv' rv (Z W.1) U w'):=qd λU hU=>qhx hx hm sx S F uq hU
 have PY:Hid (∀f l,MkAt f mb mp (vK ts x).1 rs l rv->MkKept mb mp tv rv l rv W f->∀U,Xb f U->uo 101 #[Ag (G ⟨mb,0,O⟩),vy] U λe w'=>∃tv',e=Ak (I J ((vK (vK ts x).1 y).2:Int))/\MkAt w' mb mp (vK (vK ts x).1 y).1 rs tv' rv/\MkKept mb mp l rv tv' rv f w'/\NewOk mb mp tv' rv (Z f.1) U w'):=
  qd λf l h1 T U hU=>qhx hy h1 (sy.keep (F.keep T S) T.size) (bu S T.size) (F.next T S) uq hU
 have L:CS b p vx vy W.drew:=q.cs;have csA:CS b p vx vy (W.alloc (Al #[I J 0,I J 0,I J 0,I J 0,Y ⟨#[]⟩,Y ⟨#[]⟩] 187)).drew:=CS.alloc q.cs q.within _;have B0:Xb W W.drew:=uy.drew;have BA:Xb W (W.alloc (Al #[I J 0,I J 0,I J 0,I J 0,Y ⟨#[]⟩,Y ⟨#[]⟩] 187)).drew:=(uy.alloc ux _).drew;unfold CS at L csA;have CK:Hid (∀f l,MkKept mb mp tv rv l rv W f->CS b p vx vy f):=qd λf l hk=>q.cs.same (hk.block b q.within (λh=>by have:=F b h;have:=q.lo;have:=q.hi;omega))
 have I1:=q.within;have I4:=hp.op;have X:Hid (HoldT (zV p (vK ts x).2 (vK (vK ts x).1 y).2)):=qd (vfv hp uq uq);have DF:A (vK (vK ts x).1 y).1<=2500000000:=uq;have HM:=qd hm;obtain⟨ua,s⟩:=ie (zV p (vK ts x).2 (vK (vK ts x).1 y).2);have e0:I J p.op=I J (ua.op:Int):=by rw[<-s];show _=I J ((p.op.toNat:Nat):Int);rw[Int.toNat_of_nonneg I4.1]
 have e1:I J ((vK ts x).2:Int)=I J (ua.left:Int):=by rw[<-s];rfl
 have e2:I J ((vK (vK ts x).1 y).2:Int)=I J (ua.right:Int):=by rw[<-s];rfl
 have e3:I J p.M=I J ua.M:=by rw[<-s];rfl
 have e4:Y (BS p.str)=Y (BS ua.str):=by rw[<-s];rfl
 have e5:Y (BS p.esc)=Y (BS ua.esc):=by rw[<-s];rfl
 have E0:=qd e0;have R:=qd e1;have P:=qd e2;have E3:=qd e3;have E4:=qd e4;have E5:=qd e5;rw[s]at X z;clear s e0 e1 e2 e3 e4 e5 hx hy hp hm q sx sy l1 l2 F;generalize vK (vK ts x).1 y=r2 at *;generalize vK ts x=r1 at *;obtain⟨V4,i2⟩:=r2;obtain⟨bG,i1⟩:=r1;simp only at PX PY R P DF z;go_enter func101,ntmps101
 go_wp2
 go_cut [5] (λs5 wx=>∃(tb:Nat) (bR:Ap),s5=Ag (G ⟨tb,0,O⟩)/\Hid (PlMid W mb mp rs tv rv V4 bR tb ua wx))
 case first=>
  go_region_held3 (λw'=>Xc w' b 0 (I J p.op)/\Xc w' b 1 vx/\Xc w' b 2 vy/\Xc w' b 3 (I J p.M)/\Xc w' b 4 (Y (BS p.str))/\Xc w' b 5 (Y (BS p.esc)))
   (with_reducible assumption)
   (first|(go_at_call 101;refine(PY f l M1 K1 _ (by with_reducible assumption)).mono ?_;rintro e w2⟨bR,rfl,wG,B8,K9⟩;have M2:=qd wG;have K2:=qd (K1.trans B8);have M:=q9 CK w2 bR K2;have z2:=B8.size;have cs2:=M;have cs2a:=CS.alloc M uq (Al #[I J 0,I J 0,I J 0,I J 0,Y ⟨#[]⟩,Y ⟨#[]⟩] 187);have cs2b:=CS.alloc M uq (Al #[I J p.op,I J i1,I J i2,I J p.M,Y (BS p.str),Y (BS p.esc)] 187);have cs2s:CS b p vx vy (B (B (B (B (B (B w2 ⟨Z W.1,0,O⟩ (I J p.op)) ⟨Z W.1,1,O⟩ (I J i1)) ⟨Z W.1,2,O⟩ (I J i2)) ⟨Z W.1,3,O⟩ (I J p.M)) ⟨Z W.1,4,O⟩ (Y (BS p.str))) ⟨Z W.1,5,O⟩ (Y (BS p.esc))):=CS.set6 M uq;have cs2t:CS b p vx vy (B (B (B (B (B (B w2 ⟨Z f.1,0,O⟩ (I J p.op)) ⟨Z f.1,1,O⟩ (I J i1)) ⟨Z f.1,2,O⟩ (I J i2)) ⟨Z f.1,3,O⟩ (I J p.M)) ⟨Z f.1,4,O⟩ (Y (BS p.str))) ⟨Z f.1,5,O⟩ (Y (BS p.esc))):=CS.set6 M uq;unfold CS at cs2 cs2a cs2b cs2s cs2t;have LR:=qd K9;have AO:=qd (HN1.next B8);have b2:=K9.cell;have f2:=K9.frozen;have a2:=(q9 AO).cell;have g2:=(q9 AO).frozen;clear wG B8 K9)|(go_at_call 101;refine(PX _ (by with_reducible assumption)).mono ?_;rintro e f⟨l,rfl,oA,A5,Z7⟩;have M1:=qd oA;have K1:=qd A5;have z1:=A5.size;have K:=q9 CK f l A5;have cs1a:=CS.alloc K uq (Al #[I J 0,I J 0,I J 0,I J 0,Y ⟨#[]⟩,Y ⟨#[]⟩] 187);unfold CS at K cs1a;have B1:=Below.refl (Z f.1) f;have B1A:=(Below.refl (Z f.1) f).alloc ux (Al #[I J 0,I J 0,I J 0,I J 0,Y ⟨#[]⟩,Y ⟨#[]⟩] 187);have HN1:=qd Z7;clear oA A5 Z7))
  .go_wp2
   go_meet
   exact⟨Z w2.1,bR,rfl,qd (PlMid.alloc M2 K2 E0 R P E3 E4 E5 _)⟩
  .go_wp2
   go_meet
   exact⟨Z f.1,bR,rfl,qd (PlMid.set M2 K2 (LR.tm (TmAt.new f 0 _)).1 (LR.tm (TmAt.new f 0 _)).2 z1 E0 R P E3 E4 E5)⟩
  go_wp2
  go_meet
  exact⟨Z W.1,bR,rfl,qd (PlMid.set M2 K2 (AO.tm (TmAt.new W 0 _).drew).1 (AO.tm (TmAt.new W 0 _).drew).2 ux E0 R P E3 E4 E5)⟩
 obtain⟨tb,bR,rfl,j⟩:=hcut;clear PX PY CK L csA B0 BA E0 R P E3 E4 E5 HM;obtain⟨ta,tc,rfl⟩:=(q9 j).mka.ats.form;obtain⟨tl,t0,t1,t2,t3,t4,t5,tf⟩:=(q9 j).tm;have c0:=(q9 j).mka.c0;have c2:=(q9 j).mka.c2;have WV:=(q9 j).mka.lt
 cases hw:jj V4 ua with
 | some i=>
  have eG:=(q9 j).mka.drew.look_some X hw;have C:pW V4 ua=(V4,i):=by rw[pW,hw]
  rw[C]at z;clear C hw
  go_wp2
  go_region
  all_goals go_wp2
  all_goals exact q9 z _ _ ⟨_,rfl,j.mka.drew,j.P.trans (MkKept.x uy.drew)⟩
 | none=>
  obtain⟨c,eG⟩:=(q9 j).mka.drew.look_none X hw;have C:pW V4 ua=(V4++[ua],A V4):=by rw[pW,hw]
  rw[C]at z;obtain⟨W1,hupd,d0,ME,IR,g,cap,w5,M8,c5,f5,BF,tO,bP⟩:=(q9 j).mka.drew.drew.put X hw DF j.tm.drew.drew j.no;obtain⟨ul,u0,u1,u2,u3,u4,u5,uf⟩:=q9 IR;clear C hw
  go_wp2
  go_region
  all_goals go_wp2
  all_goals go_region
  all_goals go_wp2
  all_goals go_region
  all_goals go_wp2
  all_goals exact q9 z _ _ ⟨_,rfl,q9 tO,(j.P.trans (MkKept.x uy.drew.drew)).trans bP⟩
theorem qjq:∀c,qe6 c->qe8 (G c):=by
 intro c
 induction c with
 | leaf p=>
  intro f uc E mb mp W v ts rs tv rv q j z l B;obtain⟨b,rfl,s⟩:∃b,v=at0 b/\CellsC uc E W b p vji vji (qu (.leaf p)):=j;exact qcl p O O qah qah f uc E mb mp b W vji vji _ ts rs tv rv q s rfl rfl z l (by have:qct (G (Co.leaf p))=1:=rfl;simp only[qct]at *;omega) _ λe w' h=>h
 | un p x ih=>
  intro f uc E mb mp W v ts rs tv rv q j z l B;obtain⟨b,vx,rfl,s,A⟩:∃b vx,v=at0 b/\CellsC uc E W b p vx vji (qu (.un p x))/\CoAt uc E W vx x:=j;exact qcl p (G x) O (ih f.2) qah f.1 uc E mb mp b W vx vji _ ts rs tv rv q s A rfl z l (by grind[qct,kt]) _ λe w' h=>h
 | bin p x y ihx ihy=>
  intro f uc E mb mp W v ts rs tv rv q j z l B;obtain⟨b,vx,vy,rfl,s,A,C⟩:∃b vx vy,v=at0 b/\CellsC uc E W b p vx vy (qu (.bin p x y))/\CoAt uc E W vx x/\CoAt uc E W vy y:=j;exact qcl p (G x) (G y) (ihx f.2.1) (ihy f.2.2) f.1 uc E mb mp b W vx vy _ ts rs tv rv q s A C z l (by grind[qct,kt]) _ λe w' h=>h
theorem MkAt.appRoot(h:MkAt W mb mp ts rs tv rv)(r:Nat)(T:A rs<=1000)(ty:TypeId):
  ∃g cap f,(xb #[50,50] ty #[rv,C (G ⟨Z W.1,0,O⟩) 1 1]).run prog (W.alloc (Al #[I J r] 3))=.ok (C (G ⟨g,0,O⟩) (A rs+1) cap) f /\
   Xc f mb 1 rv/\(Xf f mb)/\mb<Z f.1 /\
   Hid (MkAt (B f ⟨mb,1,O⟩ (C (G ⟨g,0,O⟩) (A rs+1) cap)) mb mp ts (rs++[r]) tv (C (G ⟨g,0,O⟩) (A rs+1) cap)) /\
   Hid (MkKept mb mp tv rv tv (C (G ⟨g,0,O⟩) (A rs+1) cap) W (B f ⟨mb,1,O⟩ (C (G ⟨g,0,O⟩) (A rs+1) cap))):=by
 obtain⟨q,x,F,M,K⟩:=info_parts kA;have R:=h.lt;obtain⟨g,cap,f,s,Q,l,L,_⟩:=run_append_lies (P:=prog) (W.alloc (Al #[I J r] 3)) 50 ty (mb+1) 3 q _ 1 8 underlying50 x F M K rfl uq rv (A rs) (zp rs) (World.ownsRow.alloc h.ars _)
  ⟨Z W.1,0,O⟩ 1 1 [I J r] rfl (World.news_of_block (cs:=#[I J r]) (t:=3) (fr:=(0,0)) (heap_alloc_new W _)) (by simp[Value.oneCell']) uq (by unfold maxLen;omega) uq ut _ rfl
 obtain⟨z,y⟩:=h.root Q l L rfl;have S:f.1[mb]?=W.1[mb]?:=(l.block mb ut (λe=>md ((h.ars.lt mb e.symm).1))).trans (ik W _ mb R);refine⟨g,cap,f,s, ?_,λj=>?_, ?_,qd z,qd y⟩
 .grind[World.cell?_of_block,MkAt]
 .grind[World.frozen?_of_block,MkAt]
 all_goals grind
theorem qud(c:Co)(K:qe6 c)(uc E mb mp:Nat)(W:Ao)(v:Ap)(ts:List Tm)(rs:List Nat)(tv rv:Ap)(j:MkAt W mb mp ts rs tv rv)(q:CoAt uc E W v c)(M:E<=Z W.1)(C:Out uc E mb mp tv rv)(F:A ts+kt c<=2500000000)(B:A rs<=1000)
  (Q:Ending->Ao->Prop) (L:∀w' tv' rv',MkAt w' mb mp (qA ts c).1 (rs++[(qA ts c).2]) tv' rv'->MkKept mb mp tv rv tv' rv' W w'->Q (Ak (Aj #[])) w') :
  uo 56 #[Ag (G ⟨mb,0,O⟩),v] W Q:=by
 have s:=qd L;have h:Hid _:=qd (qjq c K uc E mb mp W.drew v ts rs tv rv j.drew (CoAt.keep (w:=W) (w':=W.drew) ux (λ_ _ _=>rfl) ux q) M C F);have c1:=j.c1;have WV:=j.lt;obtain⟨b,p,l,r,rfl,_⟩:=q.head;unfold qza at h
 change Hid (Calls _ _ #[_,Ag (G ⟨b,0,O⟩)] _ λe W'=>∃tv',e=Ak (I J ((qA ts c).2:Int))/\MkAt W' mb mp (qA ts c).1 rs tv' rv/\MkKept mb mp tv rv tv' rv W.drew W') at h
 change Calls _ _ #[_,Ag (G ⟨b,0,O⟩)] _ _
 generalize qA ts c=R at *;obtain⟨x,i⟩:=R;simp only at h s;go_enter func56,ntmps56
 go_region_with(go_at_call 101;refine h.mono ?_;rintro e Y⟨WR,rfl,f,T⟩;have c4:=f.c1;have f4:=f.fz;have z:=f.lt;obtain⟨g,cap,X,M8,c5,f5,BF,y,S⟩:=f.appRoot i B 50;have P:=qd T.drew')
 all_goals go_wp2
 all_goals exact ub (results_none rfl _ _ _) rfl (s _ _ _ y (P.trans S))
end
def qab(o:Int):Nat:=if o<=4 then 0 else if o=5\/o=14\/o=15\/o=21\/o=22\/o=23 then 1 else if o=20 then 3 else 2
structure NG(n:RN)(p:Pay):Prop where
 is:∃ins neg c,n={ jR p ins neg with u:=c }/\qab p.op<=A ins
 o0:0<=p.op
 o23:p.op<=23
 M:Rng p.M
 bp:Bp p
 bz:Bz p
theorem qch{p:Pay}{ins:List Nat}(j:qab p.op<=A ins)(l:0<=p.op)(s:p.op<=23)(f:Rng p.M)(h:Bp p)(e:Bz p):∃q,NG (jR p ins neg) q:=⟨p,⟨ins,neg,0,rfl,j⟩,l,s,f,h,e⟩
theorem qic(h:o=5\/o=14\/o=15\/o=21\/o=22\/o=23):qab o=1:=by grind[qab]
theorem qq6(h:6<=o/\o<=13\/16<=o/\o<=19):qab o=2:=by grind[qab]
theorem qid(h:o=20):qab o=3:=by grind[qab]
theorem qzp(h:o<=4):qab o=0:=by grind[qab]
theorem vcg:∀{t:Ast} {off:Nat} {l:List RN},Flat t off l->ShA t->qi9 t->qi6 t->BzA t->∀n∈l,∃p,NG n p:=by
 intro t off l h
 induction h with
 | leaf p off =>grind[qch,qzp,ShA,qi9,qi6,BzA]
 | un p hx ih =>grind[qch,qic,ShA,qi9,qi6,BzA]
 | bin p hx hy ihx ihy =>grind[qch,qq6,ShA,qi9,qi6,BzA]
 | tri p hx hy U5 ihx ihy ihz =>grind[qch,qid,ShA,qi9,qi6,BzA]
 | neg1 pl q hq hx ih =>grind[qch,qic,ShA,qi9,qi6,BzA]
 | neg3 pl q hq hx hy U5 ihx ihy ihz =>grind[qch,qid,ShA,qi9,qi6,BzA]
theorem vgg{cs:List Int}{n:RN}(h:n∈xk ns cs):∃m∈ns,∃c,n={ m with u:=c }:=by
 grind[List.getElem?_of_mem,ke]
theorem quh{cs:List Int}(h:∀n∈ns,∃p,NG n p):∀n∈xk ns cs,∃p,NG n p:=by
 intro n e;obtain⟨m,f,c,rfl⟩:=vgg e;obtain⟨p,⟨ins,neg,z,rfl,j⟩,x,y,s,q,l⟩:=h m f;exact⟨p,⟨ins,neg,c,rfl,j⟩,x,y,s,q,l⟩
theorem vhr{p:Pay}(h:Bz p)(f:p.op=22):(xo p.esc p.str).isSome=ui:=by
 rcases(h.like f).2 with e|⟨_,e⟩
 .rw[e]
  have:∀l:uk,(xo [] l).isSome=ui:=by
   intro l
   induction l with
   | nil=>rfl
   | cons c t ih=>
    cases t with
    | nil=>rfl
    | cons d r=>grind[xo]
  exact this _
 exact e
theorem qxt(x:V)(G:Sh x)(P E:uk)(M:A P<=1000)(L:(xo E P).isSome=ui)(w:Ao):
  Calls prog 137 #[vV x,Y (BS P),Y (BS E)] w λe w'=>e=Ak (vV (qb4 x P E))/\Xb w w':=by
 obtain⟨ps,f⟩:=Option.isSome_iff_exists.1 L;have S:=qd (λw=>vdw (BS x.str) (BS P) (BS E) G M f w);have K:qmo P E x.str=kZ ps (T (BS x.str).data) (λj=>j==0):=by unfold qmo;rw[f];rfl
 rw[<-K]at S;unfold qb4;generalize qmo P E x.str=R at *;generalize BS P=pb at *;generalize BS E=eb at *;have RT:=qd (λw=>vQ R w);clear G M L f K;cases hk:(x.Q==3)
 .have J8:(x.Q != 3)=ui:=by simp[bne,hk]
  simp only[dk,if_false]
  conv=>arg 3;simp only[vV]
  go_enter func137,ntmps137
  go_wp2
  exact um ⟨rfl,qM _ _ _⟩
 have J8:(x.Q != 3)=uh:=by simp[bne,hk]
 simp only[if_true]
 conv=>arg 3;simp only[vV]
 go_enter func137,ntmps137
 go_wp2_with(first|(go_at_call 190;refine be (S _) λl y=>?_;have I7:=qg (qM w _ _) y;obtain⟨s,Q⟩:=qi y;have B9:Z w.1+2<=Z l.1:=(by have:=y.size;simp at this;omega);have F:Xc l (Z w.1+1) 0 (I J 0):=(s _ 0 ur).trans ur;have C:Xc l (Z w.1+1) 1 (I J 0):=(s _ 1 ur).trans ur;have B:Xc l (Z w.1+1) 2 (Y ⟨#[]⟩):=(s _ 2 ur).trans ur;have sz:Xf l (Z w.1+1):=(λi=>(Q _ i ur).trans ur);clear y s Q)|(go_at_call 67;refine be (RT _) λw2 z=>?_;have aG:=qg I7 z;obtain⟨q,O⟩:=qi z;have t0:=(q _ 0 uq).trans F;have t1:=(q _ 1 uq).trans C;have X:=(q _ 2 uq).trans B;have tz:=(λi=>(O (Z w.1+1) i uq).trans (sz i));clear z q O F C B sz;simp only[vV]))
 refine bo (by simp[go_sem,t0,t1,X]<;>rfl) rfl ⟨rfl, ?_⟩;exact(((aG.setCell ur _).setCell ur _).setCell ur _)
def vpt(w:Ao)(v:Ap)(xs:List V):Prop:=
 (∃a cap,v=C a (A xs) cap)/\(xs≠[]->∃b cap,v=C (G ⟨b,0,O⟩) (A xs) cap/\b<Z w.1 /\
  ∀(k:Nat) (x:V),xs[k]?=G x->w.cell? ⟨b,k * 3,O⟩=G (I J x.Q)/\w.cell? ⟨b,k * 3+1,O⟩=G (I J x.M)/\w.cell? ⟨b,k * 3+2,O⟩=G (Y (BS x.str)))
def TxtAt(w:Ao)(v:Ap)(ts:List (List UInt8)):Prop:=
 ∃la lc,v=C la (A ts) lc/\∀k t,ts[k]?=G t->∃lb,la=G ⟨lb,0,O⟩/\lb<Z w.1/\w.cell? ⟨lb,k,O⟩=G (Y (BS t))
theorem qy9{inv iv lv:Ap}{c:Int}{p:Pay}{xs:List V}(A7:EvArg w ev ps)(h0:0<=p.op)(O9:p.op<=23)(ha:qab p.op<=A xs)(hg:∀x∈xs,Rng x.M/\Sh x)(hp:Bp p)(hz:Bz p)(rD:vpt w inv xs)(cF:TxtAt w lv p.i):
  lz 96 #[Ai #[Y (BS (qJ p.op)),I J p.U,iv,Y (BS p.str),Y (BS p.esc),lv,I J p.M,Ah neg,I J c],inv,ev] w (vV (ofN ps p xs)):=by
 have C1:1<=A xs->∃x b cap,xs[0]?=G x/\0<A xs/\inv=C (G ⟨b,0,O⟩) (A xs) cap/\b<Z w.1/\Rng x.M/\Sh x/\Xc w b 0 (I J x.Q)/\Xc w b 1 (I J x.M)/\Xc w b 2 (Y (BS x.str)):=by
  intro h;obtain⟨b,cap,e,f,T⟩:=rD.2 (λe=>by rw[e]at h;simp at h);have X:xs[0]?=G xs[0]:=ag uq;have:=T 0 _ X;exact⟨xs[0],b,cap,X,uq,e,f,(hg _ (fk _)).1,(hg _ (fk _)).2,by simpa using this.1,by simpa using this.2.1,by simpa using this.2.2⟩
 have S:2<=A xs->∃x y b cap,xs[0]?=G x/\xs[1]?=G y/\1<A xs/\inv=C (G ⟨b,0,O⟩) (A xs) cap/\b<Z w.1/\Rng x.M/\Rng y.M/\Xc w b 0 (I J x.Q)/\Xc w b 1 (I J x.M)/\Xc w b 2 (Y (BS x.str))/\Xc w b 3 (I J y.Q)/\Xc w b 4 (I J y.M)/\Xc w b 5 (Y (BS y.str)):=by
  intro h;obtain⟨b,cap,e,f,T⟩:=rD.2 (λe=>by rw[e]at h;simp at h);have X:xs[0]?=G xs[0]:=ag uq;have hy:xs[1]?=G xs[1]:=ag uq;have I0:=T 0 _ X;have cQ:=T 1 _ hy;exact⟨xs[0],xs[1],b,cap,X,hy,uq,e,f,(hg _ (fk _)).1,(hg _ (fk _)).1,by simpa using I0.1,by simpa using I0.2.1,by simpa using I0.2.2,by simpa using cQ.1,by simpa using cQ.2.1,by simpa using cQ.2.2⟩
 have P:∀x,xs[0]?=G x->xs.getD 0 nV=x:=λx h=>by rw[aq,h];rfl
 have R:∀x,xs[1]?=G x->xs.getD 1 nV=x:=λx h=>by rw[aq,h];rfl
 have D2:∀x,xs[2]?=G x->xs.getD 2 nV=x:=λx h=>by rw[aq,h];rfl
 have z:∀r:V,ofN ps p xs=r->(lz 96 #[Ai #[Y (BS (qJ p.op)),I J p.U,iv,Y (BS p.str),Y (BS p.esc),lv,I J p.M,Ah neg,I J c],inv,ev] w (vV r))->(lz 96 #[Ai #[Y (BS (qJ p.op)),I J p.U,iv,Y (BS p.str),Y (BS p.esc),lv,I J p.M,Ah neg,I J c],inv,ev] w (vV (ofN ps p xs))):=λr e h=>by rwa[e]
 have one:qab p.op=1->1<=A xs:=λe=>uq
 have two:qab p.op=2->2<=A xs:=λe=>uq
 have hcut:=vhr hz;obtain⟨op,place,num,str,esc,texts⟩:=p
 have T:op=0\/op=1\/op=2\/op=3\/op=4\/op=5\/op=6\/op=7\/op=8\/op=9\/op=10\/op=11\/op=12\/op=13\/op=14\/op=15\/op=16\/op=17\/op=18\/op=19\/op=20\/op=21\/op=22\/op=23:=by
  simp only at h0 O9;omega
 obtain rfl|rfl|rfl|rfl|rfl|rfl|rfl|rfl|rfl|rfl|rfl|rfl|rfl|rfl|rfl|rfl|rfl|rfl|rfl|rfl|rfl|rfl|rfl|rfl:=T;refine z (yA ps str) rfl (vm9 λw2 f=>?_);have sR:=A7.h f;obtain⟨h8,J3⟩:=sR;obtain⟨rfl,a,cap,rfl⟩|⟨b,off,cap,rfl,he,A1⟩:=J3;exact qp2 a cap [] (BS str) w2 ur (λk p h=>by simp at h);exact qp2 _ cap ps (BS str) w2 uq (λk p h=>⟨b,off,rfl,A1,he⟩);exact z (iV num) rfl vma;exact z (tV str) rfl vmb;exact z (bV ui) rfl vmc;exact z (bV uh) rfl vmd;obtain⟨x,b,cap,e,l,rfl,f,L,hs,j,s,q⟩:=C1 (one rfl);exact z (yR x) (by rw[<-P x e];rfl) (vme l f j s q);obtain⟨x,y,b,cap,e,M,l,rfl,f,L,Q,j,s,q,K,F,B⟩:=S (two rfl);exact z (qib x y) (by rw[<-P x e,<-R y M];rfl) (vmf l f j s q K F B);obtain⟨x,y,b,cap,e,M,l,rfl,f,L,Q,j,s,q,K,F,B⟩:=S (two rfl);exact z (orV x y) (by rw[<-P x e,<-R y M];rfl) (vmg l f j s q K F B);obtain⟨x,y,b,cap,e,M,l,rfl,f,L,Q,j,s,q,K,F,B⟩:=S (two rfl);exact z (eqV x y) (by rw[<-P x e,<-R y M];rfl) (vmh l f j s q K F B);obtain⟨x,y,b,cap,e,M,l,rfl,f,L,Q,j,s,q,K,F,B⟩:=S (two rfl);exact z (yR (eqV x y)) (by rw[<-P x e,<-R y M];rfl) (vmi l f j s q K F B);obtain⟨x,y,b,cap,e,M,l,rfl,f,L,Q,j,s,q,K,F,B⟩:=S (two rfl);exact z (kC x y) (by rw[<-P x e,<-R y M];rfl) (yX ⟨#[60]⟩ uw l f j s q K F B λw=>pQ w (Am ⟨rfl,rfl⟩));obtain⟨x,y,b,cap,e,M,l,rfl,f,L,Q,j,s,q,K,F,B⟩:=S (two rfl);exact z (leV x y) (by rw[<-P x e,<-R y M];rfl) (yX ⟨#[60,61]⟩ uw l f j s q K F B λw=>pQ w (An (Am ⟨rfl,rfl⟩)));obtain⟨x,y,b,cap,e,M,l,rfl,f,L,Q,j,s,q,K,F,B⟩:=S (two rfl);exact z (kC y x) (by rw[<-P x e,<-R y M];rfl) (yX ⟨#[62]⟩ uw l f j s q K F B λw=>pQ w (An (An (Am ⟨rfl,rfl⟩))));obtain⟨x,y,b,cap,e,M,l,rfl,f,L,Q,j,s,q,K,F,B⟩:=S (two rfl);exact z (leV y x) (by rw[<-P x e,<-R y M];rfl) (yX ⟨#[62,61]⟩ uw l f j s q K F B λw=>pQ w (An (An (An ⟨rfl,rfl⟩))));obtain⟨x,b,cap,e,l,rfl,f,L,hs,j,s,q⟩:=C1 (one rfl);exact z (qpt (iV 0) x) (by rw[<-P x e];rfl) (veq l f j s q L);obtain⟨x,b,cap,e,l,rfl,f,L,hs,j,s,q⟩:=C1 (one rfl);exact z (qym (iV 0) x) (by rw[<-P x e];rfl) (ver l f j s q L);obtain⟨x,y,b,cap,e,M,l,rfl,f,L,Q,j,s,q,K,F,B⟩:=S (two rfl);exact z (qpt x y) (by rw[<-P x e,<-R y M];rfl) (yX ⟨#[43]⟩ uw l f j s q K F B λw=>qut x y L Q w);obtain⟨x,y,b,cap,e,M,l,rfl,f,L,Q,j,s,q,K,F,B⟩:=S (two rfl);exact z (qym x y) (by rw[<-P x e,<-R y M];rfl) (yX ⟨#[45]⟩ uw l f j s q K F B λw=>quu x y L Q w);obtain⟨x,y,b,cap,e,M,l,rfl,f,L,Q,j,s,q,K,F,B⟩:=S (two rfl);exact z (qpv x y) (by rw[<-P x e,<-R y M];rfl) (yX ⟨#[42]⟩ uw l f j s q K F B λw=>vks x y L Q w);obtain⟨x,y,b,cap,e,M,l,rfl,f,L,Q,j,s,q,K,F,B⟩:=S (two rfl);exact z (qwf x y) (by rw[<-P x e,<-R y M];rfl) (yX ⟨#[47]⟩ uw l f j s q K F B λw=>vkr x y L w);have h3:3<=A xs:=ha;obtain⟨b,cap,rfl,f,T⟩:=rD.2 (λe=>by rw[e]at h3;simp at h3);have X:xs[0]?=G xs[0]:=ag uq;have hy:xs[1]?=G xs[1]:=ag uq;have D8:xs[2]?=G xs[2]:=ag uq;have I0:=T 0 _ X;have cQ:=T 1 _ hy;have U5:=T 2 _ D8;exact z (qib (leV xs[1] xs[0]) (leV xs[0] xs[2])) (by rw[<-P _ X,<-R _ hy,<-D2 _ D8];rfl) (ves uq f (by simpa using I0.1) (by simpa using I0.2.1) (by simpa using I0.2.2) (by simpa using cQ.1) (by simpa using cQ.2.1) (by simpa using cQ.2.2) (by simpa using U5.1) (by simpa using U5.2.1) (by simpa using U5.2.2) (λw=>pQ w (An (An (An ⟨rfl,rfl⟩)))) (λw=>pQ w (An (Am ⟨rfl,rfl⟩))) (λw=>qus _ _ w));obtain⟨x,b,cap,e,l,rfl,f,L,hs,j,s,q⟩:=C1 (one rfl);obtain⟨la,lc,rfl,hl⟩:=cF;exact z (kx x texts) (by rw[<-P x e];rfl) (vet l f j s q hp.2 hl);obtain⟨x,b,cap,e,l,rfl,f,L,hs,j,s,q⟩:=C1 (one rfl);exact z (qb4 x str esc) (by rw[<-P x e];rfl) (veu l f j s q (λw=>qxt x hs str esc (bu hp.1 uu) (hcut rfl) w));obtain⟨x,b,cap,e,l,rfl,f,L,hs,j,s,q⟩:=C1 (one rfl);exact z (bV (x.Q==0)) (by rw[<-P x e];rfl) (vev l f j)
section
attribute [local go_sem ↓] vr
def qpn(x:V):List Ap:=[I J x.Q,I J x.M,Y (BS x.str)]
def VsAt(w:Ao)(base:Nat)(v:Ap)(vs:List V):Prop:=ue w base 57 3 v (A vs) (vs.flatMap qpn)
theorem vbf:(prog.info? 57).map (λi=>(i.zero,i.size,i.bytes))=G (G (Ai #[I J 0,I J 0,Y ⟨#[]⟩]),3,32):=uw
theorem vuk{α:Type}(f:α->List Ap)(m:Nat)(j:∀a,A (f a)=m):∀(l:List α) (i:Nat) (a:α),l[i]?=G a->∀k,k<m->(l.flatMap f)[i * m+k]?=(f a)[k]?:=by
 intro l
 induction l with
 | nil=>grind
 | cons c t ih=>
  intro i a h k e
  cases i with
  | zero =>grind
  | succ i =>grind
theorem VsAt.nil(w:Ao)(base:Nat):VsAt w base (C O 0 0) []:=dw _ _ _ _
theorem VsAt.h(h:VsAt w base v vs)(e:Xb w w'):VsAt w' base v vs:=qp h e ux
theorem VsAt.ins(h:VsAt w base v vs):vpt w v vs:=by
 have l:=h;obtain⟨rfl,y⟩|⟨g,cap,cur,rfl,z,q,_⟩:=h.2
 grind[vpt]
 refine⟨⟨_,_,rfl⟩,λ_=>⟨g,cap,rfl,(ch.1 q).1,λk x e=>?_⟩⟩;have s:=(aj.1 e).1
 have key:∀j,j<3->w.cell? ⟨g,k * 3+j,O⟩=(qpn x)[j]?:=λj f=>by
  rw[World.ownsRow.cellAt l (k * 3+j) uq];exact vuk qpn 3 (λ_=>rfl) vs k x e j f
 exact⟨key 0 uq,key 1 uq,key 2 uq⟩
theorem VsAt.app(h:VsAt W base v vs)(y:base<=Z W.1)(x:V)(M:A vs<=1000)(H:Nat)(z:Z W.1=H):
  ∃g cap e,(appR #[176,176] 176 #[v,C (G ⟨H,0,O⟩) 1 1]).run prog (W.alloc (Al #[I J x.Q,I J x.M,Y (BS x.str)] 57))=.ok (C (G ⟨g,0,O⟩) (A vs+1) cap) e /\
   Hid (VsAt e base (C (G ⟨g,0,O⟩) (A vs+1) cap) (vs++[x]))/\Hid (Below base W e):=by
 subst z;obtain⟨j,s,B,K,F⟩:=info_parts vbf;have f:=World.ownsRow.alloc h (Al #[I J x.Q,I J x.M,Y (BS x.str)] 57);obtain⟨g,cap,e,l,R,L,Q,_⟩:=run_append_lies (P:=prog) (W.alloc (Al #[I J x.Q,I J x.M,Y (BS x.str)] 57)) 176 176 base 57 j _ 3 32 underlying176 s B K F rfl uq v (A vs) _ f
  ⟨Z W.1,0,O⟩ 1 1 (qpn x) rfl (World.news_of_block (cs:=#[I J x.Q,I J x.M,Y (BS x.str)]) (t:=57) (fr:=(0,0)) (heap_alloc_new W _)) (by simp[qpn,Value.oneCell']) uq (by unfold maxLen;omega) uq ut _ rfl
 refine⟨g,cap,e,l,qd ?_,qd ?_⟩
 grind[VsAt]
 exact Go.RowKit.Below.grown (((Below.refl base W).alloc y _)) L ut (λk q=>(f.lt k q).1)
structure VlAt(w wr:Ao)(av:Ap)(vs:List V):Prop where
 row:VsAt wr (w.1.size+1) av vs
 bel:Below (w.1.size+1) (w.alloc (Al #[I J 0,I J 0,Y ⟨#[]⟩] 57)) wr
 good:∀x∈vs,Rng x.M/\Sh x
theorem VlAt.bel0(h:VlAt w wr av vs):Xb w wr:=(uy.alloc ux _).trans (h.bel.mono (Nat.le_succ _))
theorem VlAt.size(h:VlAt w wr av vs):Z w.1+1<=Z wr.1:=by have:=h.bel.size;simpa using this
theorem vkz(h:qe5 ps)(e:vgm ps){p:Pay}(hp:Rng p.M)(f:Bp p)(xs:List V)(neg:Bool):Rng (if neg=ui then yR (ofN ps p xs) else ofN ps p xs).M/\Sh (if neg=ui then yR (ofN ps p xs) else ofN ps p xs):=by
 grind[qsi,yR,qg5,qg6,qny,vf0,Bp]
theorem RowOf.txt{ts:List uk}(h:RowOf w rb 9 v (qx ts)):TxtAt w v ts:=by
 obtain⟨a,c,e⟩:=h.form;refine⟨a,c,by rw[e];simp[qx],λk t f=>?_⟩;have j:(qx ts)[k]?=G (Y (BS t)):=by simp[qx,f]
 grind[RowOf.get,RowOf]
theorem TxtAt.h{ts:List uk}(h:TxtAt w v ts)(f:Xb w w'):TxtAt w' v ts:=by
 obtain⟨q,l,e,x⟩:=h;refine⟨q,l,e,λk t s=>?_⟩;obtain⟨lb,z,j,y⟩:=x k t s;exact⟨lb,z,au j f.size,((qi f).1 _ _ j).trans y⟩
def vu1(w:Ao)(v:Ap)(l:List Nat):Prop:=
 ∃la lc,v=C la (A l) lc/\∀(k q:Nat),l[k]?=G q->∃lb,la=G ⟨lb,0,O⟩/\lb<Z w.1/\w.cell? ⟨lb,k,O⟩=G (I J (q:Int))
theorem RowOf.nums{l:List Nat}(h:RowOf w rb 3 v (qau l)):vu1 w v l:=by
 obtain⟨a,c,e⟩:=h.form;refine⟨a,c,by rw[e];simp[qau],λk t f=>?_⟩;have j:(qau l)[k]?=G (I J (t:Int)):=by simp[qau,f]
 grind[RowOf.get,RowOf]
theorem ven{n:RN}(e:ns[k]?=G n)(hv:qa8 ps [] (ns.take k)=vs):qa8 ps [] (ns.take (k+1))=vs++[qjg ps vs n]:=by
 rw[dt,e,qbh,hv];rfl
theorem qss{l:Nat}(c0:w.cell? ⟨rb,0,O⟩=G (C (G ⟨g,0,O⟩) l cap))(hN:NodesAt w rb (C (G ⟨g,0,O⟩) l cap) ns)(cC:rb<Z w.1)(hne:0<A ns)(A6:A ns<=1000)(A7:EvArg w ev ps)(hr:qe5 ps)(hs:vgm ps)
  (hf:∀i n,ns[i]?=G n->∃o,NF i n o) (hg:∀n∈ns,∃p,NG n p) :
  lz 52 #[Ag (G ⟨rb,0,O⟩),ev] w (vV ((qa8 ps [] ns).getD (A ns - 1) nV)):=by
 have lF:l=A ns:=by
  obtain⟨rs,_,ho,_⟩:=hN;obtain⟨_,Q|⟨g',cap',cur,e,_⟩⟩:=ho;cases Q.1;injection e with _ e2 _
 have oF:g<Z w.1:=by
  obtain⟨rs,_,ho,_⟩:=hN;exact(ho.lt g rfl).2
 obtain⟨R,hR⟩:=ie ((qa8 ps [] ns).getD (A ns - 1) nV);rw[hR];have HR:Hid ((qa8 ps [] (ns.take l)).getD (l - 1) nV=R):=qd (by rwa[lF,ig]);obtain⟨ea,en,ec,rfl⟩:=A7.slice;have HN:=qd hN;have eO:=qd A7;have HF:=qd hf;have HG:=qd hg;have cJ:=qd lF;have IV:=qd hr;have nB:=qd hs;have t9:0<l:=uq;have PT:l<=1000:=uq;clear hN A7 hf hg lF hR hne A6 hr hs;go_enter func52,ntmps52
 go_wp2
 go_loopw [5,6] (λav i wr=>∃k:Nat,k<=l/\i=I J k/\Hid (VlAt w wr av (qa8 ps [] (ns.take k)))) (λ_ i _=>l - (intOf i).toNat)
 exact⟨0,bt _,rfl,qd ⟨VsAt.nil _ _,uy,λx Q=>by simp[qa8]at Q⟩⟩;obtain⟨k,hk,rfl,f⟩:=hrel;obtain⟨vs,MN⟩:=ie (qa8 ps [] (ns.take k));rw[MN]at f;have lP:A vs=k:=by rw[<-MN,vm8];have:=q9 cJ;simp;omega
 have AJ:=qd MN;have LL:=qd lP;have iR:=(q9 f).bel0;have aO:=(q9 f).size;have d0:wr.cell? ⟨rb,0,O⟩=G (C (G ⟨g,0,O⟩) l cap):=((qi iR).1 _ 0 cC).trans c0;have hI:=(q9 f).row.ins
 by_cases A1:k<l
 .obtain⟨n,hn⟩:∃n,ns[k]?=G n:=⟨_,ag (md (q9 cJ))⟩
  obtain⟨o,iJ⟩:=q9 HF k n hn;have cU:=iJ.ins;have K7:=iJ.few;obtain⟨p,⟨ins,neg,c,rfl,UV⟩,FE,lS,eX,iM,eK⟩:=q9 HG n (bh hn);have GY:=(q9 HN).h cC iR;obtain⟨AF,iv,lv,wJ,wH,F⟩:=GY.cells hn;have dJ:RowOf wr rb 3 iv (qau ins):=wJ;have cF:RowOf wr rb 9 lv (qx p.i):=wH;have cU:∀q∈ins,q<k:=cU;have e0:wr.cell? ⟨g,k * 9,O⟩=G (Y (BS (qJ p.op))):=by have:=F 0 uq;rwa[Nat.add_zero]at this
  have e1:wr.cell? ⟨g,k * 9+1,O⟩=G (I J p.U):=F 1 uq;have e2:wr.cell? ⟨g,k * 9+2,O⟩=G iv:=F 2 uq;have e3:wr.cell? ⟨g,k * 9+3,O⟩=G (Y (BS p.str)):=F 3 uq;have e4:wr.cell? ⟨g,k * 9+4,O⟩=G (Y (BS p.esc)):=F 4 uq;have e5:wr.cell? ⟨g,k * 9+5,O⟩=G lv:=F 5 uq;have e6:wr.cell? ⟨g,k * 9+6,O⟩=G (I J p.M):=F 6 uq;have e7:wr.cell? ⟨g,k * 9+7,O⟩=G (Ah neg):=F 7 uq;have e8:wr.cell? ⟨g,k * 9+8,O⟩=G (I J c):=F 8 uq;have QO:=qd cF.txt;obtain⟨ia,ic,rfl,NO⟩:=dJ.nums;obtain⟨la,lc,rfl,_⟩:=cF.txt;obtain⟨xs,oY⟩:=ie (ins.map (λq=>vs.getD q nV));have mI:A xs=A ins:=by rw[<-oY,cf]
  have BH:∀x∈xs,Rng x.M/\Sh x:=by
   intro x Q;rw[<-oY]at Q;obtain⟨q,hq,rfl⟩:=eh.1 Q;have XV:=cU q hq;rw[aq,ag uq];exact f.good _ (fk _)
  obtain⟨r,hr⟩:=ie (ofN ps p xs);have RV:=qd (λ(w:Ao) (inv:Ap) (h1:EvArg w (C ea en ec) ps) (h2:vpt w inv xs) (h3:TxtAt w (C la (A p.i) lc) p.i)=>qy9 (iv:=C ia (A ins) ic) (neg:=neg) (c:=c) h1 FE lS (by rwa[mI]) BH iM eK h2 h3);rw[hr]at RV;have RN:=qd (λw=>qka r w);simp only[vV]at RV RN
  have tI:Hid (qa8 ps [] (ns.take (k+1))=vs++[if neg=ui then yR r else r]):=qd (by
   rw[ven hn (q9 AJ)]
   congr 2
   show(if neg=ui then yR (ofN ps (qgu (jR p ins neg)) (ins.map λq=>vs.getD q nV)) else ofN ps (qgu (jR p ins neg)) (ins.map λq=>vs.getD q nV))=_
   rw[yS FE lS,oY,hr])
  have HGD:Hid (∀x∈vs++[if neg=ui then yR r else r],Rng x.M/\Sh x):=qd (by
   intro x Q;obtain h|h:=cr.1 Q;exact f.good x h;rw[dd.1 h,<-hr]
   exact vkz IV nB eX iM xs neg)
  have HXS:=qd oY;have LK:=qd mI;have JA:Hid (∀q∈ins,q<k):=qd cU;have h3:A ins<=3:=K7;obtain⟨K,sH⟩:=ie (A ins);have nE:=qd sH;obtain⟨lT,sG⟩:=ie (A p.i);rw[sH]at e2 RV h3;rw[sG]at e5 RV QO;have IY:=qd NO;have A5:=je k l;obtain⟨W,hW⟩:=il (wr.alloc (Al #[Y (BS (qJ p.op)),I J p.U,C ia K ic,Y (BS p.str),Y (BS p.esc),C la lT lc,I J p.M,Ah neg,I J c] 178):Ao);have rH:Xb wr W:=hW ▸ uy.alloc ux _
  have iL:∀k,W.cell? ⟨Z wr.1,k,O⟩=#[Y (BS (qJ p.op)),I J p.U,C ia K ic,Y (BS p.str),Y (BS p.esc),C la lT lc,I J p.M,Ah neg,I J c][k]?:=λk=>by rw[hW,ce _ _ _ _ ur]
  have rG:Z W.1=Z wr.1+1:=by rw[hW];simp
  have HW:=qd hW;have QN:=qd rH;have IP:=qd rG;have M:=qd iL;obtain⟨aa,ac,rfl⟩:=hI.1;rw[lP]at hI |-;have HI:=qd hI;clear hn iJ cU K7 UV FE lS eX iM eK GY dJ cF F NO oY mI BH hr sH sG hW rH iL rG hI MN lP iR AJ
  go_wp2
  rw[<-q9 HW];clear e0 e1 e2 e3 e4 e5 e6 e7 e8;obtain⟨z,rfl⟩:=il (wr:Ao)
  go_loopw [8,9] (λnv j wq=>∃m:Nat,m<=K/\j=I J m/\Hid (VsAt wq (Z W.1) nv (xs.take m))/\Hid (Xb W wq)) (λ_ j _=>K - (intOf j).toNat)
  exact⟨0,bt _,rfl,qd (VsAt.nil _ _),qd uy⟩;obtain⟨m,hm,rfl,X,BM⟩:=hrel;obtain⟨L,sP⟩:=qi BM;have XA:=(q9 BM).size;have rG:=q9 IP;have S:=qd (qg QN BM);have f0:wr.cell? ⟨Z z.1,0,O⟩=G (Y (BS (qJ p.op))):=(L _ 0 uq).trans (M 0);have f1:wr.cell? ⟨Z z.1,1,O⟩=G (I J p.U):=(L _ 1 uq).trans (M 1);have f2:wr.cell? ⟨Z z.1,2,O⟩=G (C ia K ic):=(L _ 2 uq).trans (M 2);have f3:wr.cell? ⟨Z z.1,3,O⟩=G (Y (BS p.str)):=(L _ 3 uq).trans (M 3);have f4:wr.cell? ⟨Z z.1,4,O⟩=G (Y (BS p.esc)):=(L _ 4 uq).trans (M 4);have f5:wr.cell? ⟨Z z.1,5,O⟩=G (C la lT lc):=(L _ 5 uq).trans (M 5);have f6:wr.cell? ⟨Z z.1,6,O⟩=G (I J p.M):=(L _ 6 uq).trans (M 6);have f7:wr.cell? ⟨Z z.1,7,O⟩=G (Ah neg):=(L _ 7 uq).trans (M 7);have f8:wr.cell? ⟨Z z.1,8,O⟩=G (I J c):=(L _ 8 uq).trans (M 8);clear L sP
  by_cases fO:m<K
  .obtain⟨q,hq⟩:∃q,ins[m]?=G q:=⟨_,ag (md (q9 nE))⟩
   have XV:q<k:=q9 JA q (bh hq);obtain⟨lb,rfl,T0,uG⟩:=q9 IY m q hq;have MZ:wr.cell? ⟨lb,m,O⟩=G (I J (q:Int)):=(S.cell (p:=⟨lb,m,O⟩) T0).trans uG;obtain⟨ab,VT,GU,Y7,bM⟩:=(q9 HI).2 (λe=>by have:=q9 LL;rw[e]at this;simp at this;omega);injection GU with GU GT GS;subst GU GS;obtain⟨y,hy⟩:∃y,vs[q]?=G y:=⟨_,ag (md (q9 LL))⟩;obtain⟨y0,y1,y2⟩:=bM q y hy;have a0:wr.cell? ⟨ab,q * 3,O⟩=G (I J y.Q):=(S.cell (p:=⟨ab,q * 3,O⟩) Y7).trans y0;have a1:wr.cell? ⟨ab,q * 3+1,O⟩=G (I J y.M):=(S.cell (p:=⟨ab,q * 3+1,O⟩) Y7).trans y1;have a2:wr.cell? ⟨ab,q * 3+2,O⟩=G (Y (BS y.str)):=(S.cell (p:=⟨ab,q * 3+2,O⟩) Y7).trans y2;have bZ:xs[m]?=G y:=by rw[<-q9 HXS,cj,hq,ny,aq,hy];rfl
   have rO:A (xs.take m)=m:=by rw[cw,q9 LK];have:=q9 nE;omega
   obtain⟨g5,J7,w5,M8,T,L9⟩:=(q9 X).app uq y uq (Z wr.1) rfl;rw[show xs.take m++[y]=xs.take (m+1) by rw[dt,bZ];rfl,rO]at T;rw[rO]at M8;obtain⟨na,nc,rfl⟩:=(q9 X).ins.1;rw[rO]at M8 |-;have FN:=it m;have oA:=je m K;have ND:=it q;have fY:=je q k;clear hq uG bM hy y0 y1 y2 bZ rO X f0 f1 f3 f4 f5 f6 f7 f8 GT
   go_wp2
   go_roundw
   case rel=>exact⟨m+1,uq,by go_num,T,qd (BM.trans L9)⟩
   simp[intOf];omega
  have KA:m=K:=uq;have BI:xs.take m=xs:=fo (by have:=q9 LK;have:=q9 nE;omega);rw[BI]at X;have HXI:=qd X.ins;have fW:A xs=K:=by have:=q9 LK;have:=q9 nE;omega
  obtain⟨na,nc,rfl⟩:=(q9 X).ins.1;rw[fW]at HXI X |-;have HVA:=qd (f.row.h S);have uT:=qd (f.bel.trans (S.mono aO));have MB:=qd (eO.h (qg f.bel0 S));have QH:=qd (QO.h S);have UG:=jl m K;have fM:Z z.1<Z wr.1:=uq;have MO:=q9 LL;have F5:Z w.1+1<=Z wr.1:=uq;clear BI KA fW X BM QN f
  cases neg with
  | false=>
   go_wp2_with(go_at_call 96;refine be (RV _ _ MB HXI QH) λw2 s=>?_;have D8:=s.size;obtain⟨L7,P9⟩:=qi s;have k7:=(L7 _ 7 fM).trans f7;have EC:Z z.1<Z w2.1:=uq;have mZ:=qd (HVA.h (s.alloc s.size (Al #[I J r.Q,I J r.M,Y (BS r.str)] 57)));have F6:=qd (uT.trans ((s.alloc s.size (Al #[I J r.Q,I J r.M,Y (BS r.str)] 57)).mono F5));obtain⟨g5,J7,w5,M8,T,L9⟩:=(q9 mZ).app ut r uq (Z w2.1+1) ur;rw[MO]at M8 T;clear s L7 P9)
   go_roundw
   case rel=>exact⟨k+1,uq,by go_num,qd ⟨by rw[q9 tI];exact q9 T,F6.trans L9,by rw[q9 tI];exact q9 HGD⟩⟩
   simp[intOf];omega
  | true=>
   obtain⟨P,C8⟩:=ie (yR r);rw[C8]at RN;have tH:Hid (qa8 ps [] (ns.take (k+1))=vs++[P]):=qd (by rw[q9 tI,bs rfl,C8]);have HGD2:Hid (∀x∈vs++[P],Rng x.M/\Sh x):=qd (by have:=q9 HGD;rwa[bs rfl,C8]at this);clear tI HGD C8
   go_wp2_with(first|(go_at_call 96;refine be (RV _ _ MB HXI QH) λw2 s=>?_;have D8:=s.size;obtain⟨L7,P9⟩:=qi s;have k7:=(L7 _ 7 fM).trans f7;have EC:Z z.1<Z w2.1:=uq;have G3:=qd (s.alloc s.size (Al #[I J r.Q,I J r.M,Y (BS r.str)] 57));clear s L7 P9)|(go_at_call 97;refine be (RN _) λw3 D5=>?_;obtain⟨b9,mT⟩:=qi D5;have S4:Z w2.1+1<=Z w3.1:=(by have:=D5.size;simp at this;omega);have v0:w3.cell? ⟨Z w2.1,0,O⟩=G (I J r.Q):=(b9 _ 0 ur).trans ur;have v1:w3.cell? ⟨Z w2.1,1,O⟩=G (I J r.M):=(b9 _ 1 ur).trans ur;have v2:w3.cell? ⟨Z w2.1,2,O⟩=G (Y (BS r.str)):=(b9 _ 2 ur).trans ur;have vz:Xf w3 (Z w2.1):=(λi=>(mT _ i ur).trans ur);have hBW:Xb wr (B (B (B w3 ⟨Z w2.1,0,O⟩ (I J P.Q)) ⟨Z w2.1,1,O⟩ (I J P.M)) ⟨Z w2.1,2,O⟩ (Y (BS P.str))):=((((qg G3 D5).setCell D8 _).setCell D8 _).setCell D8 _);have mZ:=qd (HVA.h hBW);have F6:=qd (uT.trans (hBW.mono F5));obtain⟨g5,J7,w5,M8,T,L9⟩:=(q9 mZ).app ut P uq (Z w3.1) ur;rw[MO]at M8 T;clear D5 b9 mT hBW))
   go_roundw
   case rel=>exact⟨k+1,uq,by go_num,qd ⟨by rw[q9 tH];exact q9 T,F6.trans L9,by rw[q9 tH];exact q9 HGD2⟩⟩
   simp[intOf];omega
 have bC:k=l:=uq;subst bC;obtain⟨ab,VT,rfl,Y7,bM⟩:=hI.2 (λe=>by rw[e]at lP;simp at lP;omega);obtain⟨y,hy⟩:∃y,vs[k - 1]?=G y:=⟨_,ag uq⟩;obtain⟨y0,y1,y2⟩:=bM (k - 1) y hy;have VY:Hid (R=y):=qd (by rw[<-q9 HR,q9 AJ,aq,hy];rfl);obtain⟨k',rfl⟩:∃k',k=k'+1:=⟨k - 1,uq⟩;rw[show k'+1 - 1=k' by omega]at y0 y1 y2;have r0:wr.cell? ⟨Z w.1,0,O⟩=G (I J 0):=(f.bel.cell (p:=⟨Z w.1,0,O⟩) (du _)).trans ur;have r1:wr.cell? ⟨Z w.1,1,O⟩=G (I J 0):=(f.bel.cell (p:=⟨Z w.1,1,O⟩) (du _)).trans ur;have P:wr.cell? ⟨Z w.1,2,O⟩=G (Y ⟨#[]⟩):=(f.bel.cell (p:=⟨Z w.1,2,O⟩) (du _)).trans ur;have rz:Xf wr (Z w.1):=λi=>(f.bel.frozen (p:=⟨Z w.1,i,O⟩) (du _)).trans ur
 rw[lP];have M9:=qd iR;have A5:(k':Int)+1 - 1=(k':Int):=uq;clear hy bM hI MN AJ iR f
 go_wp2
 refine bo (by simp[go_sem,r0,r1,P]<;>rfl) rfl ⟨?_, ?_⟩;rw[q9 VY];rfl;exact(((M9.setCell ux _).setCell ux _).setCell ux _)
end
section
abbrev zoC:Obj:=Al #[Y ⟨#[]⟩,Y ⟨#[]⟩,I J 0,C O 0 0,C O 0 0,C O 0 0] 106
attribute [local go_sem ↓] vr
def qqk(o:Int):Int:=if o=0 then 0 else if o=1 then 2 else if o=2 then 3 else if 16<=o/\o<=19 then 2 else 1
def qcm(p:CP):Nat:=if p.op=0\/p.op=2\/p.op=22 then A p.str else 0
def qG:Co->List (List UInt8)
 | .leaf p=>[qu (.leaf p)]
 | .un p x=>qG x++[qu (.un p x)]
 | .bin p x y=>qG x++qG y++[qu (.bin p x y)]
def zq:Co->List Nat
 | .leaf p=>[qcm p]
 | .un p x=>zq x++[qcm p]
 | .bin p x y=>zq x++zq y++[qcm p]
theorem vfp(c:Co):qG c≠[]:=by cases c<;>simp[qG]
theorem xH:∀c:Co,A (zq c)=A (qG c)
 | .leaf _=>rfl
 | .un _ x=>by simp[zq,qG,xH x]
 | .bin _ x y=>by simp[zq,qG,xH x,xH y]
def qk1(c:Co)(pv tv rv:Ap):List Ap:=[Y (BS (qJ (opC c))),Y (BS (qu c)),I J (qqk (opC c)),pv,tv,rv]
def SideAt(w:Ao)(b o:Nat)(c:Co)(p1 t1 r1:Ap):Prop:=∀k,k<6->w.cell? ⟨b,o+k,O⟩=(qk1 c p1 t1 r1)[k]?
def TxN(N:Nat->Prop)(w:Ao)(v:Ap)(ts:List (List UInt8)):Prop:=∃lb c,v=C (G ⟨lb,0,O⟩) (A ts) c/\N lb/\lb<Z w.1/\∀(k:Nat) (t:List UInt8),ts[k]?=G t->w.cell? ⟨lb,k,O⟩=G (Y (BS t))
def NmN(N:Nat->Prop)(w:Ao)(v:Ap)(l:List Nat):Prop:=∃lb c,v=C (G ⟨lb,0,O⟩) (A l) c/\N lb/\lb<Z w.1/\∀(k t:Nat),l[k]?=G t->w.cell? ⟨lb,k,O⟩=G (I J (t:Int))
def RcAt(N:Nat->Prop)(w:Ao):Co->Ap->Ap->Ap->Prop
 | .leaf p,pv,tv,rv=>pv=C O 0 0/\TxN N w tv (qG (.leaf p))/\NmN N w rv (zq (.leaf p))
 | .un p x,pv,tv,rv=>(∃b cap p1 t1 r1,pv=C (G ⟨b,0,O⟩) 1 cap/\N b/\b<Z w.1/\SideAt w b 0 x p1 t1 r1/\RcAt N w x p1 t1 r1)/\TxN N w tv (qG (.un p x))/\NmN N w rv (zq (.un p x))
 | .bin p x y,pv,tv,rv=>(∃b cap p1 t1 r1 p2 t2 r2,pv=C (G ⟨b,0,O⟩) 2 cap/\N b/\b<Z w.1/\SideAt w b 0 x p1 t1 r1/\RcAt N w x p1 t1 r1/\SideAt w b 6 y p2 t2 r2/\RcAt N w y p2 t2 r2)/\TxN N w tv (qG (.bin p x y))/\NmN N w rv (zq (.bin p x y))
section
variable {N N':Nat->Prop} {w w':Ao}
theorem TxN.keep{ts:List uk}(h:TxN N w v ts)(f:∀b,N b->b<Z w.1->w'.1[b]?=w.1[b]?)(e:Z w.1<=Z w'.1)(j:∀b,N b->b<Z w.1->N' b):TxN N' w' v ts:=by
 grind[World.cell?_of_block,TxN]
theorem NmN.keep{ts:List Nat}(h:NmN N w v ts)(f:∀b,N b->b<Z w.1->w'.1[b]?=w.1[b]?)(e:Z w.1<=Z w'.1)(j:∀b,N b->b<Z w.1->N' b):NmN N' w' v ts:=by
 grind[World.cell?_of_block,NmN]
theorem SideAt.keep{o:Nat}{j e f:Ap}(h:SideAt w b o c j e f)(l:w'.1[b]?=w.1[b]?):SideAt w' b o c j e f:=by grind[World.cell?_of_block,SideAt]
theorem RcAt.keep(f:∀b,N b->b<Z w.1->w'.1[b]?=w.1[b]?)(j:Z w.1<=Z w'.1)(q:∀b,N b->b<Z w.1->N' b):∀{c:Co} {pv tv rv:Ap},RcAt N w c pv tv rv->RcAt N' w' c pv tv rv:=by
 intro c
 induction c with
 | leaf p=>grind[NmN.keep,TxN.keep,RcAt]
 | un p x ih =>grind[NmN.keep,SideAt.keep,TxN.keep,RcAt]
 | bin p x y ihx ihy=>
  rintro pv tv rv⟨⟨b,cap,F,z,B,C,s,A,e,l,h,J,I,M,G⟩,L,K⟩;exact⟨⟨b,cap,F,z,B,C,s,A,e,q _ l h,au h j,J.keep (f b l h),ihx I,M.keep (f b l h),ihy G⟩,L.keep f j q,K.keep f j q⟩
theorem RcAt.h(e:Xb w w')(h:RcAt N w c pv tv rv):RcAt N w' c pv tv rv:=h.keep (λb _ f=>e.block b f) e.size (λ_ h _=>h)
theorem RcAt.mono(h:RcAt N w c pv tv rv)(e:∀b,N b->b<Z w.1->N' b):RcAt N' w c pv tv rv:=h.keep (λ_ _ _=>rfl) ux e
theorem RcAt.terms(h:RcAt N w c pv tv rv):TxN N w tv (qG c)/\NmN N w rv (zq c):=by
 cases c<;>grind[RcAt]
theorem RcAt.slices(h:RcAt N w c pv tv rv):(∃a n k,pv=C a n k)/\(∃a n k,tv=C a n k)/\∃a n k,rv=C a n k:=by
 obtain⟨⟨a,k,e,_⟩,⟨b,m,f,_⟩⟩:=h.terms;refine⟨?_,⟨_,_,_,e⟩,_,_,_,f⟩;cases c<;>grind[RcAt]
end
def rcV(c:Co)(pv tv rv:Ap):Ap:=Ai #[Y (BS (qJ (opC c))),Y (BS (qu c)),I J (qqk (opC c)),pv,tv,rv]
def RcEnds(N:Nat->Prop)(w:Ao)(c:Co)(e:Ending)(w':Ao):Prop:=Below (Z w.1) w w'/\∃pv tv rv,e=Ak (rcV c pv tv rv)/\RcAt (λb=>N b\/Z w.1<=b) w' c pv tv rv
theorem vdy(op text:uj)(c r:Int)(w:Ao):uo 143 #[Y op,Y text,I J c,I J r] w λe w'=>Xb w w'/\∃b1 b2,e=Ak (Ai #[Y op,Y text,I J c,C O 0 0,C (G ⟨b1,0,O⟩) 1 1,C (G ⟨b2,0,O⟩) 1 1])/\Z w.1<=b1/\Z w.1<=b2/\b1<Z w'.1/\b2<Z w'.1/\Xc w' b1 0 (Y text)/\Xc w' b2 0 (I J r):=by
 go_enter func143,ntmps143
 go_wp2
 refine um ⟨?_, ?_⟩
 .repeat' (first|exact uy|refine Below.setCell ?_ ur _|refine Below.alloc ?_ uv _)
 refine⟨Z w.1+1,Z w.1+1+1,rfl,uq,uq,ur,ur, ?_, ?_⟩
 .simp[go_sem]
 simp[go_sem]
theorem pp(N:Nat->Prop)(p:CP)(w:Ao):uo 143 #[Y (BS (qJ p.op)),Y (BS (qu (.leaf p))),I J (qqk p.op),I J (qcm p:Nat)] w (RcEnds N w (.leaf p)):=by
 refine(vdy _ _ _ _ w).mono ?_;rintro e w'⟨h,b1,b2,rfl,s,q,l,j,y,x⟩;refine⟨h,_,_,_,rfl,rfl,⟨b1,1,rfl,An s,l,λk t f=>?_⟩,⟨b2,1,rfl,An q,j,λk t f=>?_⟩⟩<;>grind[qG,zq]
end
section
attribute [local go_sem ↓] vr
theorem qex:(prog.info? 9).map (λi=>(i.zero,i.size,i.bytes))=G (G (Y ⟨#[]⟩),1,16):=uw
theorem qmq:(prog.info? 3).map (λi=>(i.zero,i.size,i.bytes))=G (G (I J 0),1,8):=uw
def pO(l:List Nat):List Ap:=l.map λn:Nat=>I J (n:Int)
def TwRow(w:Ao)(base:Nat)(v:Ap)(ts:List (List UInt8)):Prop:=ue w base 9 1 v (A ts) (qx ts)
def NmRow(w:Ao)(base:Nat)(v:Ap)(l:List Nat):Prop:=ue w base 3 1 v (A l) (pO l)
structure MdAt(w W:Ao)(op text:ByteArray)(cl:Int)(pv tv rv:Ap)(ts:List (List UInt8))(rs:List Nat):Prop where
 c0:W.cell? ⟨w.1.size+1,0,O⟩=G (Y op)
 c1:W.cell? ⟨w.1.size+1,1,O⟩=G (Y text)
 c2:W.cell? ⟨w.1.size+1,2,O⟩=G (I J cl)
 c3:W.cell? ⟨w.1.size+1,3,O⟩=G pv
 c4:W.cell? ⟨w.1.size+1,4,O⟩=G tv
 c5:W.cell? ⟨w.1.size+1,5,O⟩=G rv
 fz:∀i,W.frozen? ⟨w.1.size+1,i,O⟩=uh
 lt:w.1.size+1<W.1.size
 bel:Below (w.1.size+1) (w.alloc zoC) W
 tr:TwRow W (w.1.size+2) tv ts
 rr:NmRow W (w.1.size+2) rv rs
section
variable {w W:Ao} {op text:uj} {cl:Int} {pv tv rv:Ap} {ts:List uk} {rs:List Nat}
theorem MdAt.bel0(h:MdAt w W op text cl pv tv rv ts rs):Xb w W:=(uy.alloc ux _).trans (h.bel.mono (Nat.le_succ _))
theorem MdAt.drew(h:MdAt w W op text cl pv tv rv ts rs):MdAt w W.drew op text cl pv tv rv ts rs:=⟨h.c0,h.c1,h.c2,h.c3,h.c4,h.c5,h.fz,h.lt,h.bel.drew,h.tr,h.rr⟩
theorem MdAt.alloc(h:MdAt w W op text cl pv tv rv ts rs)(o:Obj):MdAt w (W.alloc o) op text cl pv tv rv ts rs:=by
 have j:Xb W (W.alloc o):=uy.alloc ux o;obtain⟨f,l⟩:=qi j;have e:=h.lt;exact⟨(f _ _ e).trans h.c0,(f _ _ e).trans h.c1,(f _ _ e).trans h.c2,(f _ _ e).trans h.c3,(f _ _ e).trans h.c4,(f _ _ e).trans h.c5,λi=>(l _ i e).trans (h.fz i),au e j.size,h.bel.trans (j.mono uq),qp h.tr j ux,qp h.rr j ux⟩
theorem qdy{base e size n:Nat}{xs:List Ap}(h:ue U base e size v n xs)(f:ug v=G k):∃c,U.1[k]?=G (Al c e (0,0)):=by
 obtain⟨rfl,_⟩|⟨g,cap,cur,rfl,_,j,_⟩:=h.2<;>grind[Value.ownBlock]
theorem MdAt.grown{f:Ao}{v':Ap}(h:MdAt w W op text cl pv tv rv ts rs)(q:W.grownBy f (ug v))(hv:∀k,ug v=G k->Z w.1+2<=k)(j:Nat):
  (∀k,k<Z W.1->k≠Z w.1+1->ug v≠G k->(B f ⟨Z w.1+1,j,O⟩ v').1[k]?=W.1[k]?)/\f.1[Z w.1+1]?=W.1[Z w.1+1]?/\Z w.1+1<Z f.1/\Below (Z w.1+1) (w.alloc zoC) (B f ⟨Z w.1+1,j,O⟩ v'):=by
 have s:=h.lt;have z:=q.size;refine⟨λk x l y=>(bi f ⟨Z w.1+1,j,O⟩ v' k l).trans (q.block k x (λe=>y e.symm)),q.block _ s (λe=>by grind),uq, ?_⟩
 grind[Below.setCell,Below.grown,MdAt]
theorem MdAt.appT(h:MdAt w W op text cl pv tv rv ts rs){c:Nat}{us:List uk}(R:A us=m)(y:0<m)(s:∀k t,us[k]?=G t->W.cell? (a.add k)=G (Y (BS t)))(iO:A ts+m<=1000000000)(ty:TypeId):
  ∃g cap f,(appR #[31,31] ty #[tv,C (G a) m c]).run prog W=.ok (C (G ⟨g,0,O⟩) (A ts+m) cap) f /\
   f.cell? ⟨Z w.1+1,4,O⟩=G tv/\(∀i,f.frozen? ⟨Z w.1+1,i,O⟩=uh)/\Z w.1+1<Z f.1 /\
   Hid (MdAt w (B f ⟨Z w.1+1,4,O⟩ (C (G ⟨g,0,O⟩) (A ts+m) cap)) op text cl pv (C (G ⟨g,0,O⟩) (A ts+m) cap) rv (ts++us) rs):=by
 subst R;obtain⟨M,S,F5,B9,D8⟩:=info_parts qex;have A1:=h.lt;obtain⟨g,cap,f,Q,B7,A4,D6,oF⟩:=run_append_lies (P:=prog) W 31 ty (Z w.1+2) 9 M _ 1 16 underlying31 S F5 B9 D8 rfl uq tv (A ts) _ h.tr
  a (A us) c (qx us) (by simp[qx]) (λj u F=>by
   rw[qx,cj]at F
   cases x:us[j]? with
   | none=>grind
   | some t=>rw[x]at F;rw[<-F];exact s j t x) (λu x=>by
   obtain⟨t,_,rfl⟩:=eh.1 x;rfl) y (by unfold maxLen;omega) uq uq (Z W.1) rfl
 obtain⟨z,K,L,X⟩:=h.grown A4 (λk z=>(h.tr.lt k z).1) 4 (v':=C (G ⟨g,0,O⟩) (A ts+A us) cap);have l:∀j,f.cell? ⟨Z w.1+1,j,O⟩=W.cell? ⟨Z w.1+1,j,O⟩:=λj=>bg (w:=W) (a:=⟨Z w.1+1,j,O⟩) K
 have J:∀j,f.frozen? ⟨Z w.1+1,j,O⟩=uh:=λj=>(cn (w:=W) (a:=⟨Z w.1+1,j,O⟩) K).trans (h.fz j)
 refine⟨g,cap,f,Q,(l 4).trans h.c4,J,L,qd ⟨?_, ?_, ?_, ?_, ?_, ?_,λi=>?_,by simpa using L,X, ?_, ?_⟩⟩
 .simp[go_sem,l,h.c0]
 .simp[go_sem,l,h.c1]
 .simp[go_sem,l,h.c2]
 .simp[go_sem,l,h.c3]
 .simp[go_sem,l,h.c4]
 .simp[go_sem,l,h.c5]
 .simp[go_sem,J i]
 .show ue _ _ _ _ _ _ _
  rw[cd,qx,dq];exact ownsRow_setCell_below B7 (by grind) _
 refine vo h.rr λk I=>z k (h.rr.lt k I).2 (md ((h.rr.lt k I).1)) (λe=>?_)
 obtain⟨c1,T⟩:=qdy h.rr I;obtain⟨c2,q⟩:=qdy h.tr e;rw[T]at q;injection q with q;injection q with _ q _;exact absurd q uu
theorem MdAt.appR'(h:MdAt w W op text cl pv tv rv ts rs){c:Nat}{us:List Nat}(T:A us=m)(y:0<m)(s:∀k (t:Nat),us[k]?=G t->W.cell? (a.add k)=G (I J (t:Int)))(iO:A rs+m<=1000000000)(ty:TypeId):
  ∃g cap f,(appR #[50,50] ty #[rv,C (G a) m c]).run prog W=.ok (C (G ⟨g,0,O⟩) (A rs+m) cap) f /\
   f.cell? ⟨Z w.1+1,5,O⟩=G rv/\(∀i,f.frozen? ⟨Z w.1+1,i,O⟩=uh)/\Z w.1+1<Z f.1 /\
   Hid (MdAt w (B f ⟨Z w.1+1,5,O⟩ (C (G ⟨g,0,O⟩) (A rs+m) cap)) op text cl pv tv (C (G ⟨g,0,O⟩) (A rs+m) cap) ts (rs++us)):=by
 subst T;obtain⟨R,X,F5,B9,D8⟩:=info_parts qmq;have A1:=h.lt;obtain⟨g,cap,f,S,B7,A4,D6,oF⟩:=run_append_lies (P:=prog) W 50 ty (Z w.1+2) 3 R _ 1 8 underlying50 X F5 B9 D8 rfl uq rv (A rs) _ h.rr
  a (A us) c (pO us) (by simp[pO]) (λj u F=>by
   rw[pO,cj]at F
   cases x:us[j]? with
   | none=>grind
   | some t=>rw[x]at F;rw[<-F];exact s j t x) (λu x=>by
   obtain⟨t,_,rfl⟩:=eh.1 x;rfl) y (by unfold maxLen;omega) uq uq (Z W.1) rfl
 obtain⟨z,M,Q,F7⟩:=h.grown A4 (λk z=>(h.rr.lt k z).1) 5 (v':=C (G ⟨g,0,O⟩) (A rs+A us) cap);have l:∀j,f.cell? ⟨Z w.1+1,j,O⟩=W.cell? ⟨Z w.1+1,j,O⟩:=λj=>bg (w:=W) (a:=⟨Z w.1+1,j,O⟩) M
 have L:∀j,f.frozen? ⟨Z w.1+1,j,O⟩=uh:=λj=>(cn (w:=W) (a:=⟨Z w.1+1,j,O⟩) M).trans (h.fz j)
 refine⟨g,cap,f,S,(l 5).trans h.c5,L,Q,qd ⟨?_, ?_, ?_, ?_, ?_, ?_,λi=>?_,by simpa using Q,F7, ?_, ?_⟩⟩
 .simp[go_sem,l,h.c0]
 .simp[go_sem,l,h.c1]
 .simp[go_sem,l,h.c2]
 .simp[go_sem,l,h.c3]
 .simp[go_sem,l,h.c4]
 .simp[go_sem,l,h.c5]
 .simp[go_sem,L i]
 refine vo h.tr λk K=>z k (h.tr.lt k K).2 (md ((h.tr.lt k K).1)) (λe=>?_)
 obtain⟨c1,Y⟩:=qdy h.tr K;obtain⟨c2,q⟩:=qdy h.rr e;rw[Y]at q;injection q with q;injection q with _ q _;exact absurd q uu;show ue _ _ _ _ _ _ _;rw[cd,pO,dq];exact ownsRow_setCell_below B7 (by grind) _
end
end
end Go.Proofs.YtmepkbgodcffoaaGreatDoor
