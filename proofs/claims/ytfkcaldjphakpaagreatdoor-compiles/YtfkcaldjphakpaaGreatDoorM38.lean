/- slices.Insert and slices.Clone of subscriptions. -/
import Derived.Test.YtfkcaldjphakpaaGreatDoorM35
import Derived.Test.YtfkcaldjphakpaaGreatDoorM24
import Derived.Test.YtfkcaldjphakpaaGreatDoorM21
import Derived.Lib.AppendStr
set_option maxHeartbeats 16000000
set_option maxRecDepth 100000
namespace Go.Proofs.YtfkcaldjphakpaaGreatDoor
open Go.RowKit Go.Proofs.Tryz
section
attribute [local go_sem ↓] qp7
theorem row_forms{w:World}{base size n:Nat}{e:TypeId}{v:Value}{xs:List Value}(h:w.ownsRow base e size v n xs):(v=.slice none 0 0/\n=0)\/∃g cap,v=.slice (some ⟨g,0,none⟩) n cap:=by
 rcases h.2 with⟨h1,h2⟩|⟨g,cap,cur,rfl,_⟩
 ·exact .inl ⟨h1,h2⟩
 ·exact .inr ⟨g,cap,rfl⟩
end
section
attribute [local go_sem ↓] qp7
def copySem(ats:Array TypeId)(ty:TypeId)(args:Array Value):Sem Value:=Builtin.copy_ ats ty args
theorem copy_fold(ats:Array TypeId)(ty:TypeId)(args:Array Value):Builtin.copy_ ats ty args=copySem ats ty args:=rfl
attribute [local go_sem ↓] copy_fold
theorem addr_off(g o j:Nat):(⟨g,o,none⟩:Addr).add j=⟨g,o+j,none⟩:=by unfold Addr.add;split<;>simp_all
end
section
theorem lx_quoted{r:List UInt8}{L:List Tk}(h:Lx r L)(hr:∀c,r.head?=some c->(c==39)=false)(s:List UInt8):Lx (39::(qr2 s++39::r)) (⟨4,0,s⟩::L):=by
 have hq:=quotF_dbl r hr s
 have h1:qf5 (39::(qr2 s++39::r))=⟨4,0,s⟩:=by
  unfold qf5;rw[List.drop_succ_cons,List.drop_zero,hq]
 have h2:qq7 (39::(qr2 s++39::r))=(qr2 s).length+2:=by
  unfold qq7;rw[List.drop_succ_cons,List.drop_zero,hq]
 have hm:qc0 (39::(qr2 s++39::r)) 0=⟨4,0,s⟩/\qd5 (39::(qr2 s++39::r)) 0=(qr2 s).length+2:=by
  constructor
  ·show qf5 (39::(qr2 s++39::r))=_
   exact h1
  ·show 0+qq7 (39::(qr2 s++39::r))=_
   rw[h2];omega
 refine .cons hm.1 (show(4:Int)≠0 by decide) ?_;rw[hm.2,List.drop_succ_cons];have:(qr2 s++39::r).drop ((qr2 s).length+1)=r:=by simp[List.drop_append]
 rw[this];exact h
end
section
def qv9(p:CP)(l r:Nat):Tm:=⟨p.op.toNat,l,r,p.num,p.str,p.esc⟩
def jh4(ts:List Tm)(t:Tm):List Tm×Nat:=match qj6 ts t with
 | some i=>(ts,i)
 | none=>(ts++[t],ts.length)
def qd7:List Tm->Co->List Tm×Nat
 | ts,.leaf p=>jh4 ts (qv9 p 0 0)
 | ts,.un p x=>jh4 (qd7 ts x).1 (qv9 p (qd7 ts x).2 0)
 | ts,.bin p x y=>jh4 (qd7 (qd7 ts x).1 y).1 (qv9 p (qd7 ts x).2 (qd7 (qd7 ts x).1 y).2)
def qx8:Co->Nat
 | .leaf _=>1
 | .un _ x=>qx8 x+1
 | .bin _ x y=>qx8 x+qx8 y+1
structure GoodP(p:CP):Prop where
 op:0<=p.op/\p.op<=23
 num:Rng p.num
 str:p.str.length<=1000
 esc:p.esc.length<=1000
def jh7:Co->Prop
 | .leaf p=>GoodP p
 | .un p x=>GoodP p/\jh7 x
 | .bin p x y=>GoodP p/\jh7 x/\jh7 y
theorem whereT_lt{ts:List Tm}{t:Tm}{i:Nat}(h:qj6 ts t=some i):i<ts.length:=by
 unfold qj6 at h;obtain⟨h1,_⟩:=List.findIdx?_eq_some_iff_getElem.1 h;exact h1
theorem vx1(ts:List Tm)(t:Tm):ts.length<=(jh4 ts t).1.length/\(jh4 ts t).1.length<=ts.length+1/\(jh4 ts t).2<(jh4 ts t).1.length:=by
 unfold jh4
 split
 ·rename_i i h
  exact⟨Nat.le_refl _,Nat.le_succ _,whereT_lt h⟩
 ·simp
theorem vs2(ts:List Tm)(c:Co):ts.length<=(qd7 ts c).1.length/\(qd7 ts c).1.length<=ts.length+qx8 c/\(qd7 ts c).2<(qd7 ts c).1.length:=by
 induction c generalizing ts with
 | leaf p=>exact vx1 _ _
 | un p x ih=>
  have h1:=ih ts;have h2:=vx1 (qd7 ts x).1 (qv9 p (qd7 ts x).2 0);simp only[qd7,qx8];omega
 | bin p x y ihx ihy=>
  have h1:=ihx ts;have h2:=ihy (qd7 ts x).1;have h3:=vx1 (qd7 (qd7 ts x).1 y).1 (qv9 p (qd7 ts x).2 (qd7 (qd7 ts x).1 y).2);simp only[qd7,qx8];omega
theorem tmOf_good{p:CP}(h:GoodP p){l r:Nat}(hl:l<=3000000000)(hr:r<=3000000000):HoldT (qv9 p l r):=by
 obtain⟨⟨h1,h2⟩,h3,h4,h5⟩:=h;exact⟨⟨by simp only[qv9];omega,by simp only[qv9];omega⟩,⟨by simp only[qv9];omega,by simp only[qv9];omega⟩,⟨by simp only[qv9];omega,by simp only[qv9];omega⟩,h3,h4,h5⟩
structure MkAt(W:World)(mb mp:Nat)(ts:List Tm)(rs:List Nat)(tv rv:Value):Prop where
 c0:W.cell? ⟨mb,0,none⟩=some tv
 c1:W.cell? ⟨mb,1,none⟩=some rv
 c2:W.cell? ⟨mb,2,none⟩=some (.map (some mp))
 fz:∀j,W.frozen? ⟨mb,j,none⟩=false
 lo:mp<mb
 lt:mb<W.heap.size
 ats:TsAt W (mb+1) tv ts
 ars:IsAt W (mb+1) rv rs
 ne:∀g,tv.ownBlock=some g->rv.ownBlock≠some g
 map:∃D:DataW Unit,W.ownsMap prog 125 (plainElem prog 3) mp ts.length D/\MapIs D ts
def Own(mb mp:Nat)(tv rv:Value)(k:Nat):Prop:=k=mb\/k=mp\/tv.ownBlock=some k\/rv.ownBlock=some k
structure MkKept(mb mp:Nat)(tv rv tv' rv':Value)(W W':World):Prop where
 os:W'.os=W.os
 tape:W'.tape=W.tape
 output:W'.output=W.output
 size:W.heap.size<=W'.heap.size
 block:∀k,k<W.heap.size->¬Own mb mp tv rv k->W'.heap[k]?=W.heap[k]?
 rows:∀k,k<W.heap.size->Own mb mp tv' rv' k->Own mb mp tv rv k
theorem MkKept.refl(mb mp:Nat)(tv rv:Value)(W:World):MkKept mb mp tv rv tv rv W W:=⟨rfl,rfl,rfl,Nat.le_refl _,λ_ _ _=>rfl,λ_ _ h=>h⟩
theorem MkKept.trans{mb mp:Nat}{tv rv tv' rv' V2 rv2:Value}{a b c:World}(h:MkKept mb mp tv rv tv' rv' a b)(k:MkKept mb mp tv' rv' V2 rv2 b c):MkKept mb mp tv rv V2 rv2 a c:=
 ⟨k.os.trans h.os,k.tape.trans h.tape,k.output.trans h.output,Nat.le_trans h.size k.size,
  λi hi hn=>(k.block i (Nat.lt_of_lt_of_le hi h.size) (λho=>hn (h.rows i hi ho))).trans (h.block i hi hn),
  λi hi ho=>h.rows i hi (k.rows i (Nat.lt_of_lt_of_le hi h.size) ho)⟩
theorem MkKept.drew'{mb mp:Nat}{tv rv tv' rv':Value}{a b:World}(h:MkKept mb mp tv rv tv' rv' a.drew b):MkKept mb mp tv rv tv' rv' a b:=⟨h.os,h.tape,h.output,h.size,h.block,h.rows⟩
theorem MkKept.of_below{mb mp:Nat}{tv rv:Value}{a b:World}(h:Below a.heap.size a b):MkKept mb mp tv rv tv rv a b:=⟨h.os,h.tape,h.output,h.size,λk hk _=>h.block k hk,λ_ _ h=>h⟩
def Out(B E mb mp:Nat)(tv rv:Value):Prop:=∀k,Own mb mp tv rv k->k<B\/E<=k
theorem Out.next{B E mb mp:Nat}{tv rv tv' rv':Value}{W W':World}(h:Out B E mb mp tv rv)(hk:MkKept mb mp tv rv tv' rv' W W')(hE:E<=W.heap.size):Out B E mb mp tv' rv':=by
 intro k ho;rcases Nat.lt_or_ge k W.heap.size with hl|hl
 ·exact h k (hk.rows k hl ho)
 ·exact .inr (by omega)
theorem MkAt.own_lt{W:World}{mb mp:Nat}{ts:List Tm}{rs:List Nat}{tv rv:Value}(h:MkAt W mb mp ts rs tv rv){k:Nat}(ho:Own mb mp tv rv k):k<W.heap.size:=by
 have:=h.lt;have:=h.lo;rcases ho with rfl|rfl|ho|ho
 ·omega
 ·omega
 ·exact(h.ats.lt k ho).2
 ·exact(h.ars.lt k ho).2
theorem MkAt.same{W W':World}{mb mp:Nat}{ts:List Tm}{rs:List Nat}{tv rv:Value}(h:MkAt W mb mp ts rs tv rv)(hz:W.heap.size<=W'.heap.size)(hb:∀k,Own mb mp tv rv k->W'.heap[k]?=W.heap[k]?):MkAt W' mb mp ts rs tv rv:=by
 have hm:=hb mb (.inl rfl);have hc:∀j,W'.cell? ⟨mb,j,none⟩=W.cell? ⟨mb,j,none⟩:=λj=>World.cell?_of_block (w:=W) (w':=W') (a:=⟨mb,j,none⟩) hm
 have hf:∀j,W'.frozen? ⟨mb,j,none⟩=W.frozen? ⟨mb,j,none⟩:=λj=>World.frozen?_of_block (w:=W) (w':=W') (a:=⟨mb,j,none⟩) hm
 obtain⟨D,⟨es,clock,he,rest⟩,hD⟩:=h.map
 exact⟨(hc 0).trans h.c0,(hc 1).trans h.c1,(hc 2).trans h.c2,λj=>(hf j).trans (h.fz j),h.lo,Nat.lt_of_lt_of_le h.lt hz,
  qk4 h.ats λg hg=>hb g (.inr (.inr (.inl hg))),qk4 h.ars λg hg=>hb g (.inr (.inr (.inr hg))),h.ne,D,⟨es,clock,(hb mp (.inr (.inl rfl))).trans he,rest⟩,hD⟩
theorem MkAt.below{W W':World}{mb mp:Nat}{ts:List Tm}{rs:List Nat}{tv rv:Value}(h:MkAt W mb mp ts rs tv rv)(hb:Below W.heap.size W W'):MkAt W' mb mp ts rs tv rv:=
 h.same hb.size λk ho=>hb.block k (h.own_lt ho)
theorem MkAt.drew{W:World}{mb mp:Nat}{ts:List Tm}{rs:List Nat}{tv rv:Value}(h:MkAt W mb mp ts rs tv rv):MkAt W.drew mb mp ts rs tv rv:=h.below (Below.refl _ _).drew
theorem MkAt.row_other{W W':World}{mb mp:Nat}{rs:List Nat}{ts:List Tm}{tv rv:Value}(h:MkAt W mb mp ts rs tv rv)(hg:W.grownBy W' (some mp)):
  W'.cell? ⟨mb,0,none⟩=some tv/\W'.cell? ⟨mb,1,none⟩=some rv/\W'.cell? ⟨mb,2,none⟩=some (.map (some mp))/\(∀j,W'.frozen? ⟨mb,j,none⟩=false)/\TsAt W' (mb+1) tv ts/\IsAt W' (mb+1) rv rs/\mb<W'.heap.size:=by
 have eH:=h.lo;have hm:W'.heap[mb]?=W.heap[mb]?:=hg.block mb h.lt (by simp;omega);have hc:∀j,W'.cell? ⟨mb,j,none⟩=W.cell? ⟨mb,j,none⟩:=λj=>World.cell?_of_block (w:=W) (w':=W') (a:=⟨mb,j,none⟩) hm
 have hf:∀j,W'.frozen? ⟨mb,j,none⟩=W.frozen? ⟨mb,j,none⟩:=λj=>World.frozen?_of_block (w:=W) (w':=W') (a:=⟨mb,j,none⟩) hm
 refine⟨(hc 0).trans h.c0,(hc 1).trans h.c1,(hc 2).trans h.c2,λj=>(hf j).trans (h.fz j),qk4 h.ats λg hg'=>?_,qk4 h.ars λg hg'=>?_,Nat.lt_of_lt_of_le h.lt hg.size⟩
 ·have:=h.ats.lt g hg'
  exact hg.block g this.2 (by simp;omega)
 ·have:=h.ars.lt g hg'
  exact hg.block g this.2 (by simp;omega)
theorem MkAt.add{W W1 W2:World}{mb mp:Nat}{ts:List Tm}{rs:List Nat}{tv rv:Value}(h:MkAt W mb mp ts rs tv rv){t:Tm}(hgt:HoldT t)(hw:qj6 ts t=none){D:DataW Unit}(hD:MapIs D ts){o:Obj}
  (nO:W1.ownsMap prog 125 (plainElem prog 3) mp (ts.length+1) (D.put (klT t) (.lit (.int .i64 ts.length)))) (bH:W.grownBy W1 (some mp)) {g cap H:Nat}
  (C2:W2.ownsRow (mb+1) 125 6 (.slice (some ⟨g,0,none⟩) (ts.length+1) cap) (ts.length+1) (qu7 ts++qy1 t)) (O4:(W1.alloc o).grownBy W2 tv.ownBlock) (F0:tv.ownBlock=some g\/g=H) (hH:(W1.alloc o).heap.size=H) :
  MkAt (W2.setCell ⟨mb,0,none⟩ (.slice (some ⟨g,0,none⟩) (ts.length+1) cap)) mb mp (ts++[t]) rs (.slice (some ⟨g,0,none⟩) (ts.length+1) cap) rv /\
  MkKept mb mp tv rv (.slice (some ⟨g,0,none⟩) (ts.length+1) cap) rv W (W2.setCell ⟨mb,0,none⟩ (.slice (some ⟨g,0,none⟩) (ts.length+1) cap)):=by
 have eH:=h.lo;have A1:=h.lt;obtain⟨c0,c1,c2,fz,ats,ars,qT⟩:=h.row_other bH;have C8:=bH.size;have F8:=O4.size;simp at F8 hH;have J3:∀k,tv.ownBlock=some k->mb+1<=k:=λk hk=>(h.ats.lt k hk).1
 have hb:∀k,k<W1.heap.size->tv.ownBlock≠some k->W2.heap[k]?=W1.heap[k]?:=λk hk hn=>
  (O4.block k (by simp;omega) (λe=>hn e.symm)).trans (Below.heap_alloc W1 o k hk)
 have cL:W2.heap[mb]?=W1.heap[mb]?:=hb mb qT (λe=>by have:=J3 mb e;omega);have AZ:W2.cell? ⟨mb,0,none⟩=some tv:=(World.cell?_of_block (w:=W1) (w':=W2) (a:=⟨mb,0,none⟩) cL).trans c0;have AY:W2.cell? ⟨mb,1,none⟩=some rv:=(World.cell?_of_block (w:=W1) (w':=W2) (a:=⟨mb,1,none⟩) cL).trans c1;have AX:W2.cell? ⟨mb,2,none⟩=some (.map (some mp)):=(World.cell?_of_block (w:=W1) (w':=W2) (a:=⟨mb,2,none⟩) cL).trans c2;have fz':∀j,W2.frozen? ⟨mb,j,none⟩=false:=λj=>(World.frozen?_of_block (w:=W1) (w':=W2) (a:=⟨mb,j,none⟩) cL).trans (fz j)
 have V6:∀k,k≠mb->(W2.setCell ⟨mb,0,none⟩ (.slice (some ⟨g,0,none⟩) (ts.length+1) cap)).heap[k]?=W2.heap[k]?:=λk hk=>Below.heap_setCell W2 ⟨mb,0,none⟩ _ k (by show k≠mb;exact hk)
 refine⟨⟨by simp[go_sem,AZ],by simp[go_sem,AY],by simp[go_sem,AX],λj=>by simp[go_sem,fz'],eH,by simp;omega, ?_, ?_, ?_, ?_⟩,⟨?_, ?_, ?_,by simp;omega,λk hk hn=>?_,λk hk ho=>?_⟩⟩
 ·show World.ownsRow _ _ _ _ _ _ _
  rw[List.length_append,List.length_singleton,qu7,List.flatMap_append,List.flatMap_singleton];exact ownsRow_setCell_below C2 (by show mb<mb+1;omega) _
 ·refine qk4 ars λg' hg'=>?_
  have hl:=ars.lt g' hg';rw[V6 g' (by omega)];exact hb g' hl.2 (λe=>h.ne g' e hg')
 ·intro g0 kG hr
  have he:g=g0:=by simpa [Value.ownBlock]using kG
  subst he;rcases F0 with F0|F0
  ·exact h.ne g F0 hr
  ·have:=(ars.lt g hr).2
   omega
 ·refine⟨_, ?_,hD.add hgt hw⟩
  obtain⟨es,clock,he,rest⟩:=nO;rw[List.length_append,List.length_singleton];refine⟨es,clock, ?_,rest⟩;rw[V6 mp (by omega),hb mp (by omega) (λe=>by have:=J3 mp e;omega)];exact he
 ·exact O4.os.trans bH.os
 ·exact O4.tape.trans bH.tape
 ·exact O4.output.trans bH.output
 ·have n1:k≠mb:=λe=>hn (.inl e)
  have n2:k≠mp:=λe=>hn (.inr (.inl e))
  rw[V6 k n1,hb k (by omega) (λe=>hn (.inr (.inr (.inl e))))];exact bH.block k hk (by simpa using n2)
 ·rcases ho with ho|ho|ho|ho
  ·exact .inl ho
  ·exact .inr (.inl ho)
  ·have he:g=k:=by simpa [Value.ownBlock]using ho
   subst he;rcases F0 with F0|F0
   ·exact .inr (.inr (.inl F0))
   ·omega
  ·exact .inr (.inr (.inr ho))
theorem MkAt.root{W W2:World}{mb mp:Nat}{ts:List Tm}{rs:List Nat}{tv rv:Value}(h:MkAt W mb mp ts rs tv rv){r:Nat}{o:Obj}{g cap H:Nat}
  (C2:W2.ownsRow (mb+1) 3 1 (.slice (some ⟨g,0,none⟩) (rs.length+1) cap) (rs.length+1) (vb8 rs++[.int .i64 r])) (O4:(W.alloc o).grownBy W2 rv.ownBlock) (F0:rv.ownBlock=some g\/g=H) (hH:(W.alloc o).heap.size=H) :
  MkAt (W2.setCell ⟨mb,1,none⟩ (.slice (some ⟨g,0,none⟩) (rs.length+1) cap)) mb mp ts (rs++[r]) tv (.slice (some ⟨g,0,none⟩) (rs.length+1) cap) /\
  MkKept mb mp tv rv tv (.slice (some ⟨g,0,none⟩) (rs.length+1) cap) W (W2.setCell ⟨mb,1,none⟩ (.slice (some ⟨g,0,none⟩) (rs.length+1) cap)):=by
 have eH:=h.lo;have A1:=h.lt;have F8:=O4.size;simp at F8 hH;have J3:∀k,rv.ownBlock=some k->mb+1<=k:=λk hk=>(h.ars.lt k hk).1
 have hb:∀k,k<W.heap.size->rv.ownBlock≠some k->W2.heap[k]?=W.heap[k]?:=λk hk hn=>
  (O4.block k (by simp;omega) (λe=>hn e.symm)).trans (Below.heap_alloc W o k hk)
 have cL:W2.heap[mb]?=W.heap[mb]?:=hb mb A1 (λe=>by have:=J3 mb e;omega);have AZ:W2.cell? ⟨mb,0,none⟩=some tv:=(World.cell?_of_block (w:=W) (w':=W2) (a:=⟨mb,0,none⟩) cL).trans h.c0;have AY:W2.cell? ⟨mb,1,none⟩=some rv:=(World.cell?_of_block (w:=W) (w':=W2) (a:=⟨mb,1,none⟩) cL).trans h.c1;have AX:W2.cell? ⟨mb,2,none⟩=some (.map (some mp)):=(World.cell?_of_block (w:=W) (w':=W2) (a:=⟨mb,2,none⟩) cL).trans h.c2;have fz':∀j,W2.frozen? ⟨mb,j,none⟩=false:=λj=>(World.frozen?_of_block (w:=W) (w':=W2) (a:=⟨mb,j,none⟩) cL).trans (h.fz j)
 have V6:∀k,k≠mb->(W2.setCell ⟨mb,1,none⟩ (.slice (some ⟨g,0,none⟩) (rs.length+1) cap)).heap[k]?=W2.heap[k]?:=λk hk=>Below.heap_setCell W2 ⟨mb,1,none⟩ _ k (by show k≠mb;exact hk)
 refine⟨⟨by simp[go_sem,AZ],by simp[go_sem,AY],by simp[go_sem,AX],λj=>by simp[go_sem,fz'],eH,by simp;omega, ?_, ?_, ?_, ?_⟩,⟨O4.os,O4.tape,O4.output,by simp;omega,λk hk hn=>?_,λk hk ho=>?_⟩⟩
 ·refine qk4 h.ats λg' hg'=>?_
  have hl:=h.ats.lt g' hg';rw[V6 g' (by omega)];exact hb g' hl.2 (λe=>h.ne g' hg' e)
 ·show World.ownsRow _ _ _ _ _ _ _
  rw[List.length_append,List.length_singleton,vb8,List.map_append];exact ownsRow_setCell_below C2 (by show mb<mb+1;omega) _
 ·intro g0 kG hr
  have he:g=g0:=by simpa [Value.ownBlock]using hr
  subst he;rcases F0 with F0|F0
  ·exact h.ne g kG F0
  ·have:=(h.ats.lt g kG).2
   omega
 ·obtain⟨D,⟨es,clock,he,rest⟩,hD⟩:=h.map
  refine⟨D,⟨es,clock, ?_,rest⟩,hD⟩;rw[V6 mp (by omega),hb mp (by omega) (λe=>by have:=J3 mp e;omega)];exact he
 ·have n1:k≠mb:=λe=>hn (.inl e)
  rw[V6 k n1];exact hb k hk (λe=>hn (.inr (.inr (.inr e))))
 ·rcases ho with ho|ho|ho|ho
  ·exact .inl ho
  ·exact .inr (.inl ho)
  ·exact .inr (.inr (.inl ho))
  ·have he:g=k:=by simpa [Value.ownBlock]using ho
   subst he;rcases F0 with F0|F0
   ·exact .inr (.inr (.inr F0))
   ·omega
end
section
theorem jd0(w:World):Calls prog 68 #[] w λe w'=>e=.returned (.pointer (some ⟨w.heap.size+1,0,none⟩))/\MkAt w' (w.heap.size+1) w.heap.size [] [] (.slice none 0 0) (.slice none 0 0)/\Below w.heap.size w w':=by
 have fP:=@run_makeMap prog;go_enter func68,ntmps68
 go_wp2_with fail
 go_ret;refine⟨rfl,⟨by simp[go_sem],by simp[go_sem],by simp[go_sem],λj=>by simp[go_sem],by omega,by simp,TsAt.nil _ _,IsAt.nil _ _,λg hg=>by simp[Value.ownBlock]at hg,.map [],(World.ownsMap_made w _ _ _).alloc _,MapIs.empty⟩,((Below.refl _ _).alloc (Nat.le_refl _) _).alloc (by simp) _⟩
theorem jf9(pb o n:Nat)(a:Option Addr)(c:Nat)(w:World)(h:w.cell? ⟨pb,o,none⟩=some (.slice a n c)):Calls prog 70 #[.pointer (some ⟨pb,o,none⟩)] w λe w'=>e=.returned (.int .i64 n)/\w'=w:=by
 go_enter func70,ntmps70
 go_wp2_with fail
 go_ret;exact⟨rfl,rfl⟩
theorem place_nil(mb:Nat)(w:World):Calls prog 116 #[.pointer (some ⟨mb,0,none⟩),.pointer none] w λe w'=>e=.returned (.int .i64 0)/\w'=w:=by
 go_enter func116,ntmps116
 go_wp2_with fail
 go_ret;exact⟨rfl,rfl⟩
def SidAt(B E:Nat)(w:World)(v:Value):Option Co->Prop
 | none=>v=.pointer none
 | some c=>CoAt B E w v c
def qe6(ts:List Tm):Option Co->List Tm×Nat
 | none=>(ts,0)
 | some c=>qd7 ts c
def vf9:Option Co->Nat
 | none=>0
 | some c=>qx8 c
theorem vs3(ts:List Tm)(c:Option Co):ts.length<=(qe6 ts c).1.length/\(qe6 ts c).1.length<=ts.length+vf9 c/\(qe6 ts c).2<=ts.length+vf9 c:=by
 cases c with
 | none=>exact⟨Nat.le_refl _,Nat.le_refl _,Nat.zero_le _⟩
 | some c=>
  have:=vs2 ts c;simp only[qe6,vf9];omega
theorem SidAt.keep{B E:Nat}{w w':World}{v:Value}{c:Option Co}(h:SidAt B E w v c)(hk:∀k,B<=k->k<E->w'.heap[k]?=w.heap[k]?)(hz:w.heap.size<=w'.heap.size):SidAt B E w' v c:=by
 cases c with
 | none=>exact h
 | some c=>exact CoAt.keep (Nat.le_refl _) hk hz h
def PlEnds(mb mp:Nat)(rs:List Nat)(tv rv:Value)(r:List Tm×Nat)(W:World)(e:Ending)(W':World):Prop:=∃tv',e=.returned (.int .i64 (r.2:Int))/\MkAt W' mb mp r.1 rs tv' rv/\MkKept mb mp tv rv tv' rv W W'
def vj6(c:Option Co):Prop:=∀(B E mb mp:Nat) (W:World) (v:Value) (ts:List Tm) (rs:List Nat) (tv rv:Value),MkAt W mb mp ts rs tv rv->SidAt B E W v c->E<=W.heap.size->Out B E mb mp tv rv->ts.length+vf9 c<=2500000000 ->
 Calls prog 116 #[.pointer (some ⟨mb,0,none⟩),v] W (PlEnds mb mp rs tv rv (qe6 ts c) W)
theorem va1:vj6 none:=by
 intro B E mb mp W v ts rs tv rv hm hs _ _ _;obtain rfl:v=.pointer none:=hs;refine(place_nil mb W).mono ?_;rintro e w'⟨rfl,rfl⟩;exact⟨tv,rfl,hm,MkKept.refl _ _ _ _ _⟩
theorem Out.keep{B E mb mp:Nat}{tv rv tv' rv':Value}{W W':World}(h:Out B E mb mp tv rv)(hk:MkKept mb mp tv rv tv' rv' W W')(hE:E<=W.heap.size):∀k,B<=k->k<E->W'.heap[k]?=W.heap[k]?:=
 λk h1 h2=>hk.block k (by omega) (λho=>by have:=h k ho;omega)
end
section
theorem zeroInt(w:World):(zeroValue 3).run prog w=.ok (.int .i64 0) w:=by kernel_rfl
theorem MkAt.look_some{W:World}{mb mp:Nat}{ts:List Tm}{rs:List Nat}{tv rv:Value}(h:MkAt W mb mp ts rs tv rv){t:Tm}(ht:HoldT t){i:Nat}(hi:qj6 ts t=some i):
  (Instr.lookup 117 (.map (some mp)) (.agg #[.int .i64 t.op,.int .i64 t.left,.int .i64 t.right,.int .i64 t.num,.string (BS t.str),.string (BS t.esc)]) true).run prog W=.ok (.tuple #[.int .i64 i,.bool true]) W:=by
 obtain⟨D,C2,hD⟩:=h.map;obtain⟨v,ps,O7,hv⟩:=C2.look_ok vq0 underlying117 (zeroInt W) (plainElem_int underlying3 (by decide)) (qm6 ht);obtain⟨h1,h2⟩:=hD.at' t ht i hi;obtain⟨c,rfl,hc,_⟩:=plainElem_int_inv underlying3 hv;have F1:=congrArg Prod.fst hc;rw[h2]at F1;simp at F1;rw[h1]at O7;rw[F1];exact O7
theorem MkAt.look_none{W:World}{mb mp:Nat}{ts:List Tm}{rs:List Nat}{tv rv:Value}(h:MkAt W mb mp ts rs tv rv){t:Tm}(ht:HoldT t)(hi:qj6 ts t=none):
  ∃c,(Instr.lookup 117 (.map (some mp)) (.agg #[.int .i64 t.op,.int .i64 t.left,.int .i64 t.right,.int .i64 t.num,.string (BS t.str),.string (BS t.esc)]) true).run prog W=.ok (.tuple #[.int .i64 c,.bool false]) W:=by
 obtain⟨D,C2,hD⟩:=h.map;obtain⟨v,ps,O7,hv⟩:=C2.look_ok vq0 underlying117 (zeroInt W) (plainElem_int underlying3 (by decide)) (qm6 ht);obtain⟨c,rfl,_,_⟩:=plainElem_int_inv underlying3 hv;rw[hD.no t ht hi]at O7;exact⟨c,O7⟩
theorem MkAt.put{W:World}{mb mp tb:Nat}{ts:List Tm}{rs:List Nat}{tv rv:Value}(h:MkAt W mb mp ts rs tv rv){t:Tm}(ht:HoldT t)(hw:qj6 ts t=none)(hn:ts.length<=2500000000)(gD:TmAt W tb t)(D7:¬Own mb mp tv rv tb):
  ∃W1,(Instr.mapUpdate 117 (.map (some mp)) (.agg #[.int .i64 t.op,.int .i64 t.left,.int .i64 t.right,.int .i64 t.num,.string (BS t.str),.string (BS t.esc)]) (.int .i64 ts.length)).run prog W=.ok () W1 /\
   W1.cell? ⟨mb,0,none⟩=some tv/\mb<W1.heap.size/\Hid (TmAt W1 tb t) /\
   ∃g cap w5,(vj9 #[114,114] 114 #[tv,.slice (some ⟨W1.heap.size,0,none⟩) 1 1]).run prog (W1.alloc (.cells #[.int .i64 t.op,.int .i64 t.left,.int .i64 t.right,.int .i64 t.num,.string (BS t.str),.string (BS t.esc)] 125)).drew=.ok (.slice (some ⟨g,0,none⟩) (ts.length+1) cap) w5 /\
    w5.cell? ⟨mb,0,none⟩=some tv/\(∀j,w5.frozen? ⟨mb,j,none⟩=false)/\mb<w5.heap.size /\
    Hid (MkAt (w5.setCell ⟨mb,0,none⟩ (.slice (some ⟨g,0,none⟩) (ts.length+1) cap)) mb mp (ts++[t]) rs (.slice (some ⟨g,0,none⟩) (ts.length+1) cap) rv) /\
    Hid (MkKept mb mp tv rv (.slice (some ⟨g,0,none⟩) (ts.length+1) cap) rv W (w5.setCell ⟨mb,0,none⟩ (.slice (some ⟨g,0,none⟩) (ts.length+1) cap))):=by
 obtain⟨i0,hi,I8,C8,F8⟩:=info_parts info_term;obtain⟨D,C2,hD⟩:=h.map;have eH:=h.lo;obtain⟨W1,O7,nO,bH⟩:=C2.update vq0 underlying117 (by unfold maxLen;omega) (qm6 ht) (plainElem_int underlying3 (wfRng (n:=(ts.length:Int)) ⟨by omega,by omega⟩));obtain⟨c0,c1,c2,fz,ats,ars,qT⟩:=h.row_other bH;have xR:TmAt W1 tb t:=gD.same (Nat.lt_of_lt_of_le gD.lt bH.size) (bH.block tb gD.lt (by simp only[ne_eq,Option.some.injEq];exact λe=>D7 (.inr (.inl e))));obtain⟨g,cap,w5,hr,dF,B7,F0,_⟩:=run_append_lies (P:=prog) (W1.alloc (.cells #[.int .i64 t.op,.int .i64 t.left,.int .i64 t.right,.int .i64 t.num,.string (BS t.str),.string (BS t.esc)] 125)).drew 114 114 (mb+1) 125 i0 _ 6 64 underlying114 hi I8 C8 F8 rfl (by omega) tv ts.length (qu7 ts) (World.ownsRow.alloc ats _)
  ⟨W1.heap.size,0,none⟩ 1 1 (qy1 t) rfl (World.news_of_block (cs:=#[.int .i64 t.op,.int .i64 t.left,.int .i64 t.right,.int .i64 t.num,.string (BS t.str),.string (BS t.esc)]) (t:=125) (fr:=(0,0)) (heap_alloc_new W1 _)) (by simp[qy1,Value.oneCell']) (by omega) (by unfold maxLen;omega) (by omega) (by simp;omega) _ rfl
 have cR:(W1.alloc (.cells #[.int .i64 t.op,.int .i64 t.left,.int .i64 t.right,.int .i64 t.num,.string (BS t.str),.string (BS t.esc)] 125)).grownBy w5 tv.ownBlock:=⟨B7.os,B7.tape,B7.output,B7.size,B7.block⟩;obtain⟨yF,M6⟩:=h.add ht hw hD nO bH dF cR F0 rfl;have cL:w5.heap[mb]?=W1.heap[mb]?:=(cR.block mb (by simp;omega) (λe=>by have:=(ats.lt mb e.symm).1;omega)).trans (Below.heap_alloc W1 _ mb qT);have lH:=cR.size;refine⟨W1,O7,c0,qT,j3 xR,g,cap,w5,hr, ?_,λj=>?_, ?_,j3 yF,j3 M6⟩
 ·exact(World.cell?_of_block (w:=W1) (w':=w5) (a:=⟨mb,0,none⟩) cL).trans c0
 ·exact(World.frozen?_of_block (w:=W1) (w':=w5) (a:=⟨mb,j,none⟩) cL).trans (fz j)
 ·simp at lH
  omega
def CS(b:Nat)(p:CP)(vx vy:Value)(w':World):Prop:=w'.cell? ⟨b,0,none⟩=some (.int .i64 p.op)/\w'.cell? ⟨b,1,none⟩=some vx/\w'.cell? ⟨b,2,none⟩=some vy/\w'.cell? ⟨b,3,none⟩=some (.int .i64 p.num)/\w'.cell? ⟨b,4,none⟩=some (.string (BS p.str))/\w'.cell? ⟨b,5,none⟩=some (.string (BS p.esc))
theorem CS.same{b:Nat}{p:CP}{vx vy:Value}{W W':World}(h:CS b p vx vy W)(hb:W'.heap[b]?=W.heap[b]?):CS b p vx vy W':=by
 have hc:∀j,W'.cell? ⟨b,j,none⟩=W.cell? ⟨b,j,none⟩:=λj=>World.cell?_of_block (w:=W) (w':=W') (a:=⟨b,j,none⟩) hb
 obtain⟨h0,h1,h2,h3,h4,h5⟩:=h;exact⟨(hc _).trans h0,(hc _).trans h1,(hc _).trans h2,(hc _).trans h3,(hc _).trans h4,(hc _).trans h5⟩
theorem CS.alloc{b:Nat}{p:CP}{vx vy:Value}{W:World}(h:CS b p vx vy W)(hb:b<W.heap.size)(o:Obj):CS b p vx vy (W.alloc o):=h.same (Below.heap_alloc W o b hb)
theorem CS.set6{b R:Nat}{p:CP}{vx vy:Value}{W:World}{v0 v1 v2 v3 v4 v5:Value}(h:CS b p vx vy W)(hb:b≠R):CS b p vx vy ((((((W.setCell ⟨R,0,none⟩ v0).setCell ⟨R,1,none⟩ v1).setCell ⟨R,2,none⟩ v2).setCell ⟨R,3,none⟩ v3).setCell ⟨R,4,none⟩ v4).setCell ⟨R,5,none⟩ v5):=
 (((((h.same (Below.heap_setCell _ ⟨R,0,none⟩ v0 b hb)).same (Below.heap_setCell _ ⟨R,1,none⟩ v1 b hb)).same (Below.heap_setCell _ ⟨R,2,none⟩ v2 b hb)).same (Below.heap_setCell _ ⟨R,3,none⟩ v3 b hb)).same (Below.heap_setCell _ ⟨R,4,none⟩ v4 b hb)).same (Below.heap_setCell _ ⟨R,5,none⟩ v5 b hb)
theorem CellsC.cs{B E:Nat}{w:World}{b:Nat}{p:CP}{l r:Value}{t:List UInt8}(h:CellsC B E w b p l r t):CS b p l r w:=⟨h.c0,h.c1,h.c2,h.c3,h.c4,h.c5⟩
structure PlMid(W:World)(mb mp:Nat)(rs:List Nat)(tv rv:Value)(N5:List Tm)(V2:Value)(tb:Nat)(t:Tm)(wx:World):Prop where
 mka:MkAt wx mb mp N5 rs V2 rv
 kept:MkKept mb mp tv rv V2 rv W wx
 tm:TmAt wx tb t
 no:¬Own mb mp V2 rv tb
theorem MkKept.later{mb mp:Nat}{tv rv tv' rv':Value}{W W':World}(h:MkKept mb mp tv rv tv' rv' W W'){a:Addr}(ha:W.heap.size<=a.block)(u:Value):MkKept mb mp tv rv tv' rv' W (W'.setCell a u):=
 ⟨h.os,h.tape,h.output,by have:=h.size;simpa using this,λk hk hn=>(Below.heap_setCell W' a u k (by omega)).trans (h.block k hk hn),h.rows⟩
theorem MkAt.later{W:World}{mb mp:Nat}{ts:List Tm}{rs:List Nat}{tv rv:Value}(h:MkAt W mb mp ts rs tv rv){a:Addr}(ha:¬Own mb mp tv rv a.block)(u:Value):MkAt (W.setCell a u) mb mp ts rs tv rv:=
 h.same (by simp) λk ho=>Below.heap_setCell W a u k (λe=>ha (e ▸ ho))
theorem PlMid.set{W w2:World}{mb mp:Nat}{rs:List Nat}{tv rv:Value}{N5:List Tm}{V2:Value}{tb:Nat}{t0 t:Tm}(hm:MkAt w2 mb mp N5 rs V2 rv)(hk:MkKept mb mp tv rv V2 rv W w2)(hz:TmAt w2 tb t0)(D7:¬Own mb mp V2 rv tb)(lY:W.heap.size<=tb)
  {v0 v1 v2 v3 v4 v5:Value} (h0:v0=.int .i64 t.op) (h1:v1=.int .i64 t.left) (h2:v2=.int .i64 t.right) (h3:v3=.int .i64 t.num) (h4:v4=.string (BS t.str)) (h5:v5=.string (BS t.esc)) :
  PlMid W mb mp rs tv rv N5 V2 tb t ((((((w2.setCell ⟨tb,0,none⟩ v0).setCell ⟨tb,1,none⟩ v1).setCell ⟨tb,2,none⟩ v2).setCell ⟨tb,3,none⟩ v3).setCell ⟨tb,4,none⟩ v4).setCell ⟨tb,5,none⟩ v5):=
 ⟨(((((hm.later D7 _).later D7 _).later D7 _).later D7 _).later D7 _).later D7 _,(((((hk.later lY _).later lY _).later lY _).later lY _).later lY _).later lY _,hz.full t h0 h1 h2 h3 h4 h5,D7⟩
theorem PlMid.alloc{W w2:World}{mb mp:Nat}{rs:List Nat}{tv rv:Value}{N5:List Tm}{V2:Value}{t:Tm}(hm:MkAt w2 mb mp N5 rs V2 rv)(hk:MkKept mb mp tv rv V2 rv W w2)
  {v0 v1 v2 v3 v4 v5:Value} (h0:v0=.int .i64 t.op) (h1:v1=.int .i64 t.left) (h2:v2=.int .i64 t.right) (h3:v3=.int .i64 t.num) (h4:v4=.string (BS t.str)) (h5:v5=.string (BS t.esc)) (ty:TypeId) :
  PlMid W mb mp rs tv rv N5 V2 w2.heap.size t (w2.alloc (.cells #[v0,v1,v2,v3,v4,v5] ty)):=by
 subst h0 h1 h2 h3 h4 h5;refine⟨hm.below ((Below.refl _ _).alloc (Nat.le_refl _) _),hk.trans (MkKept.of_below ((Below.refl _ _).alloc (Nat.le_refl _) _)), ?_,λho=>by have:=hm.own_lt ho;omega⟩;refine⟨by simp, ?_, ?_, ?_, ?_, ?_, ?_,λj=>?_⟩<;>simp[go_sem]
end
section
attribute [local go_sem ↓] qp7
def NewOk(mb mp:Nat)(tv' rv:Value)(lo:Nat)(U w':World):Prop:=U.heap.size<=w'.heap.size/\∀k,lo<=k->k<U.heap.size->¬Own mb mp tv' rv k/\w'.heap[k]?=U.heap[k]?
theorem NewOk.tm{mb mp:Nat}{tv' rv:Value}{lo:Nat}{U w':World}(h:NewOk mb mp tv' rv lo U w'){t:Tm}(ht:TmAt U lo t):TmAt w' lo t/\¬Own mb mp tv' rv lo:=
 ⟨ht.same (Nat.lt_of_lt_of_le ht.lt h.1) (h.2 lo (Nat.le_refl _) ht.lt).2,(h.2 lo (Nat.le_refl _) ht.lt).1⟩
theorem NewOk.cell{mb mp:Nat}{tv' rv:Value}{lo:Nat}{U w':World}(h:NewOk mb mp tv' rv lo U w')(j:Nat)(hl:lo<U.heap.size):w'.cell? ⟨lo,j,none⟩=U.cell? ⟨lo,j,none⟩:=World.cell?_of_block (w:=U) (w':=w') (a:=⟨lo,j,none⟩) (h.2 lo (Nat.le_refl _) hl).2
theorem NewOk.frozen{mb mp:Nat}{tv' rv:Value}{lo:Nat}{U w':World}(h:NewOk mb mp tv' rv lo U w')(j:Nat)(hl:lo<U.heap.size):w'.frozen? ⟨lo,j,none⟩=U.frozen? ⟨lo,j,none⟩:=World.frozen?_of_block (w:=U) (w':=w') (a:=⟨lo,j,none⟩) (h.2 lo (Nat.le_refl _) hl).2
theorem NewOk.next{mb mp:Nat}{dV V2 rv:Value}{lo:Nat}{U w1 w2:World}(h:NewOk mb mp dV rv lo U w1)(hk:MkKept mb mp dV rv V2 rv w1 w2):NewOk mb mp V2 rv lo U w2:=by
 have:=h.1;refine⟨Nat.le_trans h.1 hk.size,λk h1 h2=>?_⟩;obtain⟨h3,h4⟩:=h.2 k h1 h2;exact⟨λho=>h3 (hk.rows k (by omega) ho),(hk.block k (by omega) h3).trans h4⟩
theorem vt0{c:Option Co}(hc:vj6 c){B E mb mp:Nat}{W U:World}{v:Value}{ts:List Tm}{rs:List Nat}{tv rv:Value}(hm:MkAt W mb mp ts rs tv rv)(hs:SidAt B E W v c)(hE:E<=W.heap.size)(ho:Out B E mb mp tv rv)(hn:ts.length+vf9 c<=2500000000)(hU:Below W.heap.size W U):
  Calls prog 116 #[.pointer (some ⟨mb,0,none⟩),v] U λe w'=>∃tv',e=.returned (.int .i64 ((qe6 ts c).2:Int))/\MkAt w' mb mp (qe6 ts c).1 rs tv' rv/\MkKept mb mp tv rv tv' rv W w'/\NewOk mb mp tv' rv W.heap.size U w':=by
 have hz:=hU.size;refine(hc B E mb mp U v ts rs tv rv (hm.below hU) (hs.keep (λk _ h2=>hU.block k (by omega)) hz) (by omega) ho hn).mono ?_;rintro e w'⟨tv',rfl,V9,l8⟩;refine⟨tv',rfl,V9,(MkKept.of_below hU).trans l8,l8.size,λk h1 h2=>?_⟩;have D7:¬Own mb mp tv rv k:=λh=>by have:=hm.own_lt h;omega
 exact⟨λh=>D7 (l8.rows k h2 h),l8.block k h2 D7⟩
theorem TsAt.form{w:World}{base:Nat}{v:Value}{ts:List Tm}(h:TsAt w base v ts):∃a c,v=.slice a ts.length c:=by
 rcases h.2 with⟨rfl,hn⟩|⟨g,cap,cur,rfl,_⟩
 ·exact⟨none,0,by rw[hn]⟩
 ·exact⟨_,_,rfl⟩
theorem TmAt.drew{w:World}{b:Nat}{t:Tm}(h:TmAt w b t):TmAt w.drew b t:=h.same h.lt rfl
theorem vf4(p:CP)(x y:Option Co)(hx:vj6 x)(hy:vj6 y)(hp:GoodP p)(B E mb mp b:Nat)(W:World)(vx vy:Value)(tx:List UInt8)(ts:List Tm)(rs:List Nat)(tv rv:Value)(hm:MkAt W mb mp ts rs tv rv)
  (hc:CellsC B E W b p vx vy tx) (sx:SidAt B E W vx x) (sy:SidAt B E W vy y) (hE:E<=W.heap.size) (ho:Out B E mb mp tv rv) (hn:ts.length+vf9 x+vf9 y+1<=2500000000)
  (Q:Ending->World->Prop) (hQ:∀e w',PlEnds mb mp rs tv rv (jh4 (qe6 (qe6 ts x).1 y).1 (qv9 p (qe6 ts x).2 (qe6 (qe6 ts x).1 y).2)) W e w'->Q e w') :
  Calls prog 116 #[.pointer (some ⟨mb,0,none⟩),.pointer (some ⟨b,0,none⟩)] W Q:=by
 have HQ:=j3 hQ;clear hQ;have l1:=vs3 ts x;have l2:=vs3 (qe6 ts x).1 y;have PX:Hid (∀U,Below W.heap.size W U->Calls prog 116 #[.pointer (some ⟨mb,0,none⟩),vx] U λe w'=>∃tv',e=.returned (.int .i64 ((qe6 ts x).2:Int))/\MkAt w' mb mp (qe6 ts x).1 rs tv' rv/\MkKept mb mp tv rv tv' rv W w'/\NewOk mb mp tv' rv W.heap.size U w'):=j3 λU hU=>vt0 hx hm sx hE ho (by omega) hU
 have PY:Hid (∀w1 dV,MkAt w1 mb mp (qe6 ts x).1 rs dV rv->MkKept mb mp tv rv dV rv W w1->∀U,Below w1.heap.size w1 U->Calls prog 116 #[.pointer (some ⟨mb,0,none⟩),vy] U λe w'=>∃tv',e=.returned (.int .i64 ((qe6 (qe6 ts x).1 y).2:Int))/\MkAt w' mb mp (qe6 (qe6 ts x).1 y).1 rs tv' rv/\MkKept mb mp dV rv tv' rv w1 w'/\NewOk mb mp tv' rv w1.heap.size U w'):=
  j3 λw1 dV h1 h2 U hU=>vt0 hy h1 (sy.keep (ho.keep h2 hE) h2.size) (Nat.le_trans hE h2.size) (ho.next h2 hE) (by omega) hU
 have GT:CS b p vx vy W.drew:=hc.cs;have csA:CS b p vx vy (W.alloc (.cells #[.int .i64 0,.int .i64 0,.int .i64 0,.int .i64 0,.string ⟨#[]⟩,.string ⟨#[]⟩] 125)).drew:=CS.alloc hc.cs hc.within _;have B0:Below W.heap.size W W.drew:=(Below.refl _ _).drew;have BA:Below W.heap.size W (W.alloc (.cells #[.int .i64 0,.int .i64 0,.int .i64 0,.int .i64 0,.string ⟨#[]⟩,.string ⟨#[]⟩] 125)).drew:=((Below.refl _ _).alloc (Nat.le_refl _) _).drew;unfold CS at GT csA;have CK:Hid (∀w1 dV,MkKept mb mp tv rv dV rv W w1->CS b p vx vy w1):=j3 λw1 dV hk=>hc.cs.same (hk.block b hc.within (λh=>by have:=ho b h;have:=hc.lo;have:=hc.hi;omega))
 have K9:=hc.within;have H6:=hp.op;have wT:Hid (HoldT (qv9 p (qe6 ts x).2 (qe6 (qe6 ts x).1 y).2)):=j3 (tmOf_good hp (by omega) (by omega));have mF:(qe6 (qe6 ts x).1 y).1.length<=2500000000:=by omega
 have HM:=j3 hm;obtain⟨T,hT⟩:∃T,qv9 p (qe6 ts x).2 (qe6 (qe6 ts x).1 y).2=T:=⟨_,rfl⟩;have e0:Value.int .i64 p.op=.int .i64 (T.op:Int):=by rw[←hT];show _=Value.int .i64 ((p.op.toNat:Nat):Int);rw[Int.toNat_of_nonneg H6.1]
 have e1:Value.int .i64 ((qe6 ts x).2:Int)=.int .i64 (T.left:Int):=by rw[←hT];rfl
 have e2:Value.int .i64 ((qe6 (qe6 ts x).1 y).2:Int)=.int .i64 (T.right:Int):=by rw[←hT];rfl
 have e3:Value.int .i64 p.num=.int .i64 T.num:=by rw[←hT];rfl
 have e4:Value.string (BS p.str)=.string (BS T.str):=by rw[←hT];rfl
 have e5:Value.string (BS p.esc)=.string (BS T.esc):=by rw[←hT];rfl
 have E0:=j3 e0;have E1:=j3 e1;have E2:=j3 e2;have E3:=j3 e3;have E4:=j3 e4;have E5:=j3 e5;rw[hT]at wT HQ;clear hT e0 e1 e2 e3 e4 e5 hx hy hp hm hc sx sy l1 l2 ho;generalize qe6 (qe6 ts x).1 y=r2 at *;generalize qe6 ts x=r1 at *;obtain⟨N5,i2⟩:=r2;obtain⟨U1,i1⟩:=r1;simp only at PX PY E1 E2 mF HQ;go_enter func116,ntmps116
 go_wp2_with fail
 go_cut [5] (λs5 wx=>∃(tb:Nat) (V2:Value),s5=.pointer (some ⟨tb,0,none⟩)/\Hid (PlMid W mb mp rs tv rv N5 V2 tb T wx))
 case first=>
  go_region_held3 (λw'=>w'.cell? ⟨b,0,none⟩=some (.int .i64 p.op)/\w'.cell? ⟨b,1,none⟩=some vx/\w'.cell? ⟨b,2,none⟩=some vy/\w'.cell? ⟨b,3,none⟩=some (.int .i64 p.num)/\w'.cell? ⟨b,4,none⟩=some (.string (BS p.str))/\w'.cell? ⟨b,5,none⟩=some (.string (BS p.esc)))
   (with_reducible assumption)
   (first|(go_at_call 116;refine(q9 PY w1 dV (q9 M1) (q9 K1) _ (by with_reducible assumption)).mono ?_;rintro e w2⟨V2,rfl,jY,A3,G8⟩;have M2:=j3 jY;have K2:=j3 ((q9 K1).trans A3);have uS:=q9 CK w2 V2 (q9 K2);have z2:=A3.size;have OE:=uS;have cs2a:=CS.alloc uS (by omega) (.cells #[.int .i64 0,.int .i64 0,.int .i64 0,.int .i64 0,.string ⟨#[]⟩,.string ⟨#[]⟩] 125);have cs2b:=CS.alloc uS (by omega) (.cells #[.int .i64 p.op,.int .i64 i1,.int .i64 i2,.int .i64 p.num,.string (BS p.str),.string (BS p.esc)] 125);have cs2s:CS b p vx vy ((((((w2.setCell ⟨W.heap.size,0,none⟩ (.int .i64 p.op)).setCell ⟨W.heap.size,1,none⟩ (.int .i64 i1)).setCell ⟨W.heap.size,2,none⟩ (.int .i64 i2)).setCell ⟨W.heap.size,3,none⟩ (.int .i64 p.num)).setCell ⟨W.heap.size,4,none⟩ (.string (BS p.str))).setCell ⟨W.heap.size,5,none⟩ (.string (BS p.esc))):=CS.set6 uS (by omega);have cs2t:CS b p vx vy ((((((w2.setCell ⟨w1.heap.size,0,none⟩ (.int .i64 p.op)).setCell ⟨w1.heap.size,1,none⟩ (.int .i64 i1)).setCell ⟨w1.heap.size,2,none⟩ (.int .i64 i2)).setCell ⟨w1.heap.size,3,none⟩ (.int .i64 p.num)).setCell ⟨w1.heap.size,4,none⟩ (.string (BS p.str))).setCell ⟨w1.heap.size,5,none⟩ (.string (BS p.esc))):=CS.set6 uS (by omega);unfold CS at OE cs2a cs2b cs2s cs2t;have IR:=j3 G8;have kY:=j3 ((q9 PF).next A3);have b2:=G8.cell;have f2:=G8.frozen;have a2:=(q9 kY).cell;have g2:=(q9 kY).frozen;clear jY A3 G8)|(go_at_call 116;refine(q9 PX _ (by with_reducible assumption)).mono ?_;rintro e w1⟨dV,rfl,jZ,A0,aK⟩;have M1:=j3 jZ;have K1:=j3 A0;have z1:=A0.size;have GS:=q9 CK w1 dV A0;have cs1a:=CS.alloc GS (by omega) (.cells #[.int .i64 0,.int .i64 0,.int .i64 0,.int .i64 0,.string ⟨#[]⟩,.string ⟨#[]⟩] 125);unfold CS at GS cs1a;have B1:=Below.refl w1.heap.size w1;have B1A:=(Below.refl w1.heap.size w1).alloc (Nat.le_refl _) (.cells #[.int .i64 0,.int .i64 0,.int .i64 0,.int .i64 0,.string ⟨#[]⟩,.string ⟨#[]⟩] 125);have PF:=j3 aK;clear jZ A0 aK))
  ·go_wp2_with fail
   go_meet
   exact⟨w2.heap.size,V2,rfl,j3 (PlMid.alloc (q9 M2) (q9 K2) (q9 E0) (q9 E1) (q9 E2) (q9 E3) (q9 E4) (q9 E5) _)⟩
  ·go_wp2_with fail
   go_meet
   exact⟨w1.heap.size,V2,rfl,j3 (PlMid.set (q9 M2) (q9 K2) ((q9 IR).tm (TmAt.new w1 0 _)).1 ((q9 IR).tm (TmAt.new w1 0 _)).2 z1 (q9 E0) (q9 E1) (q9 E2) (q9 E3) (q9 E4) (q9 E5))⟩
  ·go_wp2_with fail
   go_meet
   exact⟨W.heap.size,V2,rfl,j3 (PlMid.set (q9 M2) (q9 K2) ((q9 kY).tm (TmAt.new W 0 _).drew).1 ((q9 kY).tm (TmAt.new W 0 _).drew).2 (Nat.le_refl _) (q9 E0) (q9 E1) (q9 E2) (q9 E3) (q9 E4) (q9 E5))⟩
 case rest=>
  obtain⟨tb,V2,rfl,V1⟩:=hcut;clear PX PY CK GT csA B0 BA E0 E1 E2 E3 E4 E5 HM;obtain⟨ta,tc,rfl⟩:=(q9 V1).mka.ats.form;obtain⟨tl,t0,t1,t2,t3,t4,t5,tf⟩:=(q9 V1).tm;have c0:=(q9 V1).mka.c0;have c2:=(q9 V1).mka.c2;have KM:=(q9 V1).mka.lt
  cases hw:qj6 N5 T with
  | some i=>
   have bY:=(q9 V1).mka.drew.look_some (q9 wT) hw;have gH:jh4 N5 T=(N5,i):=by rw[jh4,hw]
   rw[gH]at HQ;clear gH hw
   go_wp2_with fail
   go_region
   all_goals go_wp2_with fail
   all_goals exact q9 HQ _ _ ⟨_,rfl,(q9 V1).mka.drew,(q9 V1).kept.trans (MkKept.of_below (Below.refl _ _).drew)⟩
  | none=>
   obtain⟨c,bY⟩:=(q9 V1).mka.drew.look_none (q9 wT) hw;have gH:jh4 N5 T=(N5++[T],N5.length):=by rw[jh4,hw]
   rw[gH]at HQ;obtain⟨W1,KY,d0,qT,oV,g,cap,w5,o6,c5,f5,KL,fX,aQ⟩:=(q9 V1).mka.drew.drew.put (q9 wT) hw mF (q9 V1).tm.drew.drew (q9 V1).no;obtain⟨ul,u0,u1,u2,u3,u4,u5,uf⟩:=q9 oV;clear gH hw
   go_wp2_with fail
   go_region
   all_goals go_wp2_with fail
   all_goals go_region
   all_goals go_wp2_with fail
   all_goals go_region
   all_goals go_wp2_with fail
   all_goals exact q9 HQ _ _ ⟨_,rfl,q9 fX,((q9 V1).kept.trans (MkKept.of_below (Below.refl _ _).drew.drew)).trans (q9 aQ)⟩
end
section
attribute [local go_sem ↓] qp7
theorem vw9:∀c,jh7 c->vj6 (some c):=by
 intro c
 induction c with
 | leaf p=>
  intro hg B E mb mp W v ts rs tv rv hm hs hE ho hn;obtain⟨b,rfl,hc⟩:∃b,v=at0 b/\CellsC B E W b p nilP nilP (x9 (.leaf p)):=hs;exact vf4 p none none va1 va1 hg B E mb mp b W nilP nilP _ ts rs tv rv hm hc rfl rfl hE ho (by have:vf9 (some (Co.leaf p))=1:=rfl;simp only[vf9]at *;omega) _ λe w' h=>h
 | un p x ih=>
  intro hg B E mb mp W v ts rs tv rv hm hs hE ho hn;obtain⟨b,vx,rfl,hc,hx⟩:∃b vx,v=at0 b/\CellsC B E W b p vx nilP (x9 (.un p x))/\CoAt B E W vx x:=hs;exact vf4 p (some x) none (ih hg.2) va1 hg.1 B E mb mp b W vx nilP _ ts rs tv rv hm hc hx rfl hE ho (by have:vf9 (some (Co.un p x))=qx8 x+1:=rfl;simp only[vf9]at *;omega) _ λe w' h=>h
 | bin p x y ihx ihy=>
  intro hg B E mb mp W v ts rs tv rv hm hs hE ho hn;obtain⟨b,vx,vy,rfl,hc,hx,hy⟩:∃b vx vy,v=at0 b/\CellsC B E W b p vx vy (x9 (.bin p x y))/\CoAt B E W vx x/\CoAt B E W vy y:=hs;exact vf4 p (some x) (some y) (ihx hg.2.1) (ihy hg.2.2) hg.1 B E mb mp b W vx vy _ ts rs tv rv hm hc hx hy hE ho (by have:vf9 (some (Co.bin p x y))=qx8 x+qx8 y+1:=rfl;simp only[vf9]at *;omega) _ λe w' h=>h
theorem MkAt.appRoot{W:World}{mb mp:Nat}{ts:List Tm}{rs:List Nat}{tv rv:Value}(h:MkAt W mb mp ts rs tv rv)(r:Nat)(hn:rs.length<=1000)(ty:TypeId):
  ∃g cap w5,(vj9 #[52,52] ty #[rv,.slice (some ⟨W.heap.size,0,none⟩) 1 1]).run prog (W.alloc (.cells #[.int .i64 r] 3))=.ok (.slice (some ⟨g,0,none⟩) (rs.length+1) cap) w5 /\
   w5.cell? ⟨mb,1,none⟩=some rv/\(∀j,w5.frozen? ⟨mb,j,none⟩=false)/\mb<w5.heap.size /\
   Hid (MkAt (w5.setCell ⟨mb,1,none⟩ (.slice (some ⟨g,0,none⟩) (rs.length+1) cap)) mb mp ts (rs++[r]) tv (.slice (some ⟨g,0,none⟩) (rs.length+1) cap)) /\
   Hid (MkKept mb mp tv rv tv (.slice (some ⟨g,0,none⟩) (rs.length+1) cap) W (w5.setCell ⟨mb,1,none⟩ (.slice (some ⟨g,0,none⟩) (rs.length+1) cap))):=by
 obtain⟨i0,hi,I8,C8,F8⟩:=info_parts info_intg;have A1:=h.lt;obtain⟨g,cap,w5,hr,C2,B7,F0,_⟩:=run_append_lies (P:=prog) (W.alloc (.cells #[.int .i64 r] 3)) 52 ty (mb+1) 3 i0 _ 1 8 underlying52 hi I8 C8 F8 rfl (by omega) rv rs.length (vb8 rs) (World.ownsRow.alloc h.ars _)
  ⟨W.heap.size,0,none⟩ 1 1 [.int .i64 r] rfl (World.news_of_block (cs:=#[.int .i64 r]) (t:=3) (fr:=(0,0)) (heap_alloc_new W _)) (by simp[Value.oneCell']) (by omega) (by unfold maxLen;omega) (by omega) (by simp;omega) _ rfl
 obtain⟨yF,M6⟩:=h.root C2 B7 F0 rfl;have cL:w5.heap[mb]?=W.heap[mb]?:=(B7.block mb (by simp;omega) (λe=>by have:=(h.ars.lt mb e.symm).1;omega)).trans (Below.heap_alloc W _ mb A1);have lH:=B7.size;refine⟨g,cap,w5,hr, ?_,λj=>?_, ?_,j3 yF,j3 M6⟩
 ·exact(World.cell?_of_block (w:=W) (w':=w5) (a:=⟨mb,1,none⟩) cL).trans h.c1
 ·exact(World.frozen?_of_block (w:=W) (w':=w5) (a:=⟨mb,j,none⟩) cL).trans (h.fz j)
 ·simp at lH
  omega
theorem madd_any(c:Co)(hg:jh7 c)(B E mb mp:Nat)(W:World)(v:Value)(ts:List Tm)(rs:List Nat)(tv rv:Value)(hm:MkAt W mb mp ts rs tv rv)(hs:CoAt B E W v c)(hE:E<=W.heap.size)(ho:Out B E mb mp tv rv)(hn:ts.length+qx8 c<=2500000000)(hr:rs.length<=1000)
  (Q:Ending->World->Prop) (hQ:∀w' tv' rv',MkAt w' mb mp (qd7 ts c).1 (rs++[(qd7 ts c).2]) tv' rv'->MkKept mb mp tv rv tv' rv' W w'->Q (.returned (.tuple #[])) w') :
  Calls prog 69 #[.pointer (some ⟨mb,0,none⟩),v] W Q:=by
 have HQ:=j3 hQ;have PL:Hid _:=j3 (vw9 c hg B E mb mp W.drew v ts rs tv rv hm.drew (CoAt.keep (w:=W) (w':=W.drew) (Nat.le_refl _) (λ_ _ _=>rfl) (Nat.le_refl _) hs) hE ho hn);have c1:=hm.c1;have KM:=hm.lt;obtain⟨b,p,l,r,rfl,_⟩:=hs.head;unfold PlEnds at PL
 change Hid (Calls _ _ #[_,.pointer (some ⟨b,0,none⟩)] _ λe W'=>∃tv',e=.returned (.int .i64 ((qd7 ts c).2:Int))/\MkAt W' mb mp (qd7 ts c).1 rs tv' rv/\MkKept mb mp tv rv tv' rv W.drew W') at PL
 change Calls _ _ #[_,.pointer (some ⟨b,0,none⟩)] _ _
 generalize qd7 ts c=R at *;obtain⟨ts',i⟩:=R;simp only at PL HQ;clear hQ hm hs ho;go_enter func69,ntmps69
 go_region_with(go_at_call 116;refine(q9 PL).mono ?_;rintro e w4⟨DU,rfl,cM,D0⟩;have c4:=cM.c1;have f4:=cM.fz;have RM:=cM.lt;obtain⟨g,cap,w5,o6,c5,f5,KL,fX,aQ⟩:=cM.appRoot i hr 52;have K6:=j3 D0.drew';clear cM D0)
 all_goals go_wp2_with fail
 all_goals exact bodyPost_end (results_none rfl _ _ _) rfl (q9 HQ _ _ _ (q9 fX) ((q9 K6).trans (q9 aQ)))
end
section
attribute [local go_sem ↓] qp7
def qk7(l:List UInt8):List Value:=l.map λx=>.int .u8 (x.toNat:Int)
def OB(w:World)(base:Nat)(v:Value)(l:List UInt8):Prop:=w.ownsRow base 5 1 v l.length (qk7 l)
theorem OB.app{W:World}{base:Nat}{v:Value}{l:List UInt8}(h:OB W base v l)(hb:base<=W.heap.size)(x:UInt8)(xi:Int)(hx:xi=(x.toNat:Int))(hn:l.length<=1000000)(ty:TypeId)(H:Nat)(hH:W.heap.size=H){W':World}(hW:W'=W.alloc (.cells #[.int .u8 xi] 5)):
  ∃g cap w5,(vj9 #[51,51] ty #[v,.slice (some ⟨H,0,none⟩) 1 1]).run prog W'=.ok (.slice (some ⟨g,0,none⟩) (l.length+1) cap) w5 /\
   Hid (OB w5 base (.slice (some ⟨g,0,none⟩) (l.length+1) cap) (l++[x]))/\Hid (Below base W w5):=by
 subst hH hW hx;obtain⟨i0,hi,I8,C8,F8⟩:=info_parts vb7;have ha:=World.ownsRow.alloc h (.cells #[.int .u8 (x.toNat:Int)] 5);obtain⟨g,cap,w5,hr,C2,B7,F0,_⟩:=run_append_lies (P:=prog) (W.alloc (.cells #[.int .u8 (x.toNat:Int)] 5)) 51 ty base 5 i0 _ 1 1 underlying51 hi I8 C8 F8 rfl (by omega) v l.length (qk7 l) ha
  ⟨W.heap.size,0,none⟩ 1 1 [.int .u8 (x.toNat:Int)] rfl (World.news_of_block (cs:=#[.int .u8 (x.toNat:Int)]) (t:=5) (fr:=(0,0)) (heap_alloc_new W _)) (by simp[Value.oneCell']) (by omega) (by unfold maxLen;omega) (by omega) (by simp;omega) _ rfl
 refine⟨g,cap,w5,hr,j3 ?_,j3 ?_⟩
 ·show World.ownsRow _ _ _ _ _ _ _
  rw[List.length_append,List.length_singleton,qk7,List.map_append];exact C2
 ·exact Go.RowKit.Below.grown (((Below.refl base W).alloc hb _)) B7 (by simp;omega) (λk hk=>(ha.lt k hk).1)
theorem OB.form{w:World}{base:Nat}{v:Value}{l:List UInt8}(h:OB w base v l):∃a c,v=.slice a l.length c:=by
 rcases h.2 with⟨rfl,hn⟩|⟨g,cap,cur,rfl,_⟩
 ·exact⟨none,0,by rw[hn]⟩
 ·exact⟨_,_,rfl⟩
theorem vp8(l:List UInt8):Lib.strCells (BS l)=qk7 l:=by
 simp[Lib.strCells,qk7,BS]
theorem OB.appText{W:World}{base:Nat}{v:Value}{l:List UInt8}(h:OB W base v l)(hb:base<=W.heap.size)(s:List UInt8)(hn:l.length+s.length<=1000000)(ty:TypeId):
  ∃v' w5,(vj9 #[51,9] ty #[v,.string (BS s)]).run prog W=.ok v' w5/\Hid (OB w5 base v' (l++s))/\Hid (Below base W w5):=by
 obtain⟨i0,hi,I8,C8,F8⟩:=info_parts vb7;have hs:(BS s).size=s.length:=qc1 s;obtain⟨v',w5,hr,C2,B7,_⟩:=Lib.run_append_own_string (P:=prog) W base 51 9 ty 5 i0 underlying51 underlying9 hi I8 C8 F8 v l.length (qk7 l) h (BS s) (by rw[hs];unfold maxLen;omega) (by rw[hs];omega) hb;rw[hs,vp8]at C2;refine⟨v',w5,hr,j3 ?_,j3 ?_⟩
 ·show World.ownsRow _ _ _ _ _ _ _
  rw[List.length_append,qk7,List.map_append];exact C2
 ·exact Go.RowKit.Below.grown (Below.refl base W) B7 hb (λk hk=>(World.ownsRow.lt h k hk).1)
def qr5(base:Nat)(W:World)(l:List UInt8)(e:Ending)(w':World):Prop:=∃v,e=.returned v/\OB w' base v l/\Below base W w'
def vi5(s:List UInt8):List UInt8:=UInt8.ofNat s.length::s
theorem qv1(base:Nat)(v:Value)(l s:List UInt8)(W:World)(h:OB W base v l)(hb:base<=W.heap.size)(hn:l.length+s.length<=900000)(hs:s.length<=255)(Q:Ending->World->Prop)(hQ:∀e w',qr5 base W (l++vi5 s) e w'->Q e w'):
  Calls prog 170 #[v,.string (BS s)] W Q:=by
 have HQ:=j3 hQ;clear hQ;have hz:(BS s).size=s.length:=qc1 s;obtain⟨a,c,rfl⟩:=h.form;obtain⟨g,cap,w5,o6,HO,HB⟩:=h.app hb (UInt8.ofNat s.length) (s.length:Int) (by rw[UInt8.toNat_ofNat'];simp;omega) (by omega) 51 _ rfl rfl;obtain⟨v',w6,U8,P4,J2⟩:=(q9 HO).appText (Nat.le_trans hb (q9 HB).size) s (by simp;omega) 51;have EN:(0:Int)<=(s.length:Int):=by omega
 have S7:(s.length:Int)<256:=by omega
 go_enter func170,ntmps170
 go_wp2_with fail
 exact q9 HQ _ _ ⟨_,rfl,by have:=q9 P4;rw[List.append_assoc]at this;exact this,(q9 HB).trans (q9 J2)⟩
end
section
attribute [local go_sem ↓] qp7
def nByte(n:Int)(k:Nat):UInt8:=UInt8.ofNat (n / 2 ^ (8 * k) % 256).toNat
def qw5(n:Int):Nat->List UInt8
 | 0=>[]
 | k+1=>qw5 n k++[nByte n k]
theorem qu1(n:Int)(k:Nat):(qw5 n k).length=k:=by
 induction k with
 | zero=>rfl
 | succ k ih=>rw[qw5,List.length_append,ih];rfl
theorem jm7(n:Int)(k:Nat):n / 2 ^ (8 * k) % 256=((nByte n k).toNat:Int):=by
 have h1:=Int.emod_nonneg (n / 2 ^ (8 * k)) (show(256:Int)≠0 by decide);have h2:=Int.emod_lt_of_pos (n / 2 ^ (8 * k)) (show(0:Int)<256 by decide);unfold nByte;generalize n / 2 ^ (8 * k) % 256=x at *;rw[UInt8.toNat_ofNat'];omega
theorem vq1(base:Nat)(v:Value)(l:List UInt8)(n:Int)(W:World)(h:OB W base v l)(hb:base<=W.heap.size)(hn:l.length<=900000)(Q:Ending->World->Prop)(hQ:∀e w',qr5 base W (l++qw5 n 8) e w'->Q e w'):
  Calls prog 169 #[v,.int .i64 n] W Q:=by
 have HQ:=j3 hQ;clear hQ;have HO:=j3 h;obtain⟨a,c,rfl⟩:=h.form;clear h;go_enter func169,ntmps169
 go_wp2_with fail
 go_loopw [0,6] (λu i wr=>∃(k:Nat),k<=8/\i=.int .i64 k/\Hid (OB wr base u (l++qw5 n k))/\Hid (Below base W wr)) (λ_ i _=>8 - (intOf i).toNat)
 case atStart=>exact⟨0,by decide,rfl,by rw[qw5,List.append_nil];exact HO,j3 (Below.refl _ _)⟩
 case round=>
  obtain⟨k,hk,rfl,HK,HB⟩:=hrel;have C7:(l++qw5 n k).length<=1000000:=by rw[List.length_append,qu1];omega
  obtain⟨L,hL⟩:∃L,l++qw5 n k=L:=⟨_,rfl⟩;rw[hL]at HK C7;have HL:=j3 hL;clear hL;obtain⟨a',c',rfl⟩:=(q9 HK).form
  by_cases pV:k<8
  ·have G9:=(q9 HB).size
   obtain⟨g,cap,w5,o6,fC,U0⟩:=(q9 HK).app (by omega) (nByte n k) _ (jm7 n k) C7 51 _ rfl rfl;have CU:=j3 ((q9 HB).trans (q9 U0));clear U0
   go_wp2_with fail
   exact⟨⟨k+1,by omega,rfl,j3 (by rw[qw5,←List.append_assoc,q9 HL];exact q9 fC),CU⟩,by simp[intOf];omega⟩
  ·have:k=8:=by omega
   subst this
   go_wp2_with fail
   exact q9 HQ _ _ ⟨_,rfl,by rw[q9 HL];exact q9 HK,q9 HB⟩
end
section
set_option linter.unusedSimpArgs false
set_option linter.unusedVariables false
attribute [local go_sem ↓] qp7
def qv8(t:Tm):List UInt8:=
 if t.op=1 then UInt8.ofNat t.op::qw5 t.num 8
 else if t.op=22 then[UInt8.ofNat t.op,UInt8.ofNat t.left]++vi5 t.esc++vi5 t.str
 else if t.op=0\/t.op=2 then UInt8.ofNat t.op::vi5 t.str
 else if vb9 t.op then[UInt8.ofNat t.op,UInt8.ofNat t.right,UInt8.ofNat t.left]
 else if t.op=5\/t.op=23 then[UInt8.ofNat t.op,UInt8.ofNat t.left]
 else[UInt8.ofNat t.op]
structure WSt(base:Nat)(W:World)(l:List UInt8)(tb:Nat)(t:Tm)(w':World)(v':Value):Prop where
 ob:OB w' base v' l
 tm:TmAt w' tb t
 ne:v'.ownBlock≠some tb
 bel:Below base W w'
 ge:base<=w'.heap.size
theorem WSt.start{base:Nat}{W:World}{v:Value}{l:List UInt8}(h:OB W base v l)(hb:base<=W.heap.size)(t:Tm)(ty:TypeId):
  WSt base W l W.heap.size t (W.alloc (.cells #[.int .i64 t.op,.int .i64 t.left,.int .i64 t.right,.int .i64 t.num,.string (BS t.str),.string (BS t.esc)] ty)) v:=by
 refine⟨World.ownsRow.alloc h _,⟨by simp, ?_, ?_, ?_, ?_, ?_, ?_,λj=>?_⟩,λe=>by have:=(World.ownsRow.lt h _ e).2;omega,(Below.refl _ _).alloc hb _,by simp;omega⟩<;>simp[go_sem]
theorem WSt.app{base:Nat}{W:World}{l:List UInt8}{tb:Nat}{t:Tm}{w':World}{v':Value}(h:WSt base W l tb t w' v')(x:UInt8)(xi:Int)(hx:xi=(x.toNat:Int))(hn:l.length<=1000000)(n:Nat)(I0:l.length=n)(H:Nat)(hH:w'.heap.size=H):
  ∃g cap w5,(vj9 #[51,51] 51 #[v',.slice (some ⟨H,0,none⟩) 1 1]).run prog (w'.alloc (.cells #[.int .u8 xi] 5))=.ok (.slice (some ⟨g,0,none⟩) (n+1) cap) w5 /\
   Hid (WSt base W (l++[x]) tb t w5 (.slice (some ⟨g,0,none⟩) (n+1) cap)):=by
 subst hH hx I0;obtain⟨i0,hi,I8,C8,F8⟩:=info_parts vb7;have lY:=h.ge;have ha:=World.ownsRow.alloc h.ob (.cells #[.int .u8 (x.toNat:Int)] 5);obtain⟨g,cap,w5,hr,C2,B7,F0,_⟩:=run_append_lies (P:=prog) (w'.alloc (.cells #[.int .u8 (x.toNat:Int)] 5)) 51 51 base 5 i0 _ 1 1 underlying51 hi I8 C8 F8 rfl (by omega) v' l.length (qk7 l) ha
  ⟨w'.heap.size,0,none⟩ 1 1 [.int .u8 (x.toNat:Int)] rfl (World.news_of_block (cs:=#[.int .u8 (x.toNat:Int)]) (t:=5) (fr:=(0,0)) (heap_alloc_new w' _)) (by simp[Value.oneCell']) (by omega) (by unfold maxLen;omega) (by omega) (by simp;omega) _ rfl
 have hz:=B7.size;simp at hz;have U2:=h.tm.lt;have S4:Below base w' w5:=Go.RowKit.Below.grown (((Below.refl base w').alloc lY _)) B7 (by simp;omega) (λk hk=>(ha.lt k hk).1);refine⟨g,cap,w5,hr,j3 ⟨?_, ?_, ?_,h.bel.trans S4,by omega⟩⟩
 ·show World.ownsRow _ _ _ _ _ _ _
  rw[List.length_append,List.length_singleton,qk7,List.map_append];exact C2
 ·exact h.tm.same (by omega) ((B7.block tb (by simp;omega) (λe=>h.ne e.symm)).trans (Below.heap_alloc w' _ tb U2))
 ·intro e
  have he:g=tb:=by simpa [Value.ownBlock]using e
  subst he;rcases F0 with F0|F0
  ·exact h.ne F0
  ·simp at F0
   omega
structure SmallT(t:Tm):Prop where
 left:t.left<=255
 right:t.right<=255
 str:t.str.length<=255
 esc:t.esc.length<=255
theorem vq9{n:Nat}(h:n<=255):(n:Int)=((UInt8.ofNat n).toNat:Int):=by rw[UInt8.toNat_ofNat'];omega
theorem write_0(base:Nat)(v:Value)(l:List UInt8)(t:Tm)(W:World)(h:OB W base v l)(hb:base<=W.heap.size)(hn:l.length<=800000)(ht:SmallT t)(ho:t.op=0)(Q:Ending->World->Prop)(hQ:∀e w',qr5 base W (l++qv8 t) e w'->Q e w'):
  Calls prog 117 #[tmV t,v] W Q:=by
 have hE:qv8 t=UInt8.ofNat 0::vi5 t.str:=by simp[qv8,ho,vb9]
 have HQ:=j3 hQ;rw[hE]at HQ;clear hQ;have S0:=j3 (WSt.start h hb t 125);obtain⟨a,c,rfl⟩:=h.form;have hl:=ht.left;have hr:=ht.right;have jB:(0:Int)<=(t.left:Int):=by omega
 have bZ:(t.left:Int)<256:=by omega
 have Y6:(0:Int)<=(t.right:Int):=by omega
 have A4:(t.right:Int)<256:=by omega
 obtain⟨n,I0⟩:∃n,l.length=n:=⟨_,rfl⟩;have qI:=j3 I0;rw[I0]at S0 hn ⊢;obtain⟨g1,I5,w1,M7,S1⟩:=(q9 S0).app (UInt8.ofNat 0) 0 (by decide) (by omega) n I0 (W.heap.size+1) (by simp);obtain⟨mP,a0,a1,a2,a3,a4,a5,af⟩:=(q9 S1).tm;have hs:=ht.str;have WN:=j3 (qv1 base (.slice (some ⟨g1,0,none⟩) (n+1) I5) (l++[UInt8.ofNat 0]) t.str w1 (q9 S1).ob (q9 S1).ge (by simp;omega) (by omega) _ (λe w' h=>h));unfold tmV;have e0:(t.op:Int)=0:=by omega
 rw[e0]at a0 M7 ⊢;clear hE ho h hl hr ht I0 hn hb e0 S0;go_enter func117,ntmps117
 go_wp2_with(go_at_call 170;refine(q9 WN).mono ?_;rintro e w2⟨v2,rfl,I2,B9⟩;have P4:=j3 I2;have J2:=j3 B9;clear I2 B9)
 exact q9 HQ _ _ ⟨_,rfl,by have:=q9 P4;rw[List.append_assoc]at this;exact this,(q9 S1).bel.trans (q9 J2)⟩
theorem write_1(base:Nat)(v:Value)(l:List UInt8)(t:Tm)(W:World)(h:OB W base v l)(hb:base<=W.heap.size)(hn:l.length<=800000)(ht:SmallT t)(ho:t.op=1)(Q:Ending->World->Prop)(hQ:∀e w',qr5 base W (l++qv8 t) e w'->Q e w'):
  Calls prog 117 #[tmV t,v] W Q:=by
 have hE:qv8 t=UInt8.ofNat 1::qw5 t.num 8:=by simp[qv8,ho,vb9]
 have HQ:=j3 hQ;rw[hE]at HQ;clear hQ;have S0:=j3 (WSt.start h hb t 125);obtain⟨a,c,rfl⟩:=h.form;have hl:=ht.left;have hr:=ht.right;have jB:(0:Int)<=(t.left:Int):=by omega
 have bZ:(t.left:Int)<256:=by omega
 have Y6:(0:Int)<=(t.right:Int):=by omega
 have A4:(t.right:Int)<256:=by omega
 obtain⟨n,I0⟩:∃n,l.length=n:=⟨_,rfl⟩;have qI:=j3 I0;rw[I0]at S0 hn ⊢;obtain⟨g1,I5,w1,M7,S1⟩:=(q9 S0).app (UInt8.ofNat 1) 1 (by decide) (by omega) n I0 (W.heap.size+1) (by simp);obtain⟨mP,a0,a1,a2,a3,a4,a5,af⟩:=(q9 S1).tm;have WN:=j3 (vq1 base (.slice (some ⟨g1,0,none⟩) (n+1) I5) (l++[UInt8.ofNat 1]) t.num w1 (q9 S1).ob (q9 S1).ge (by simp;omega) _ (λe w' h=>h));unfold tmV;have e0:(t.op:Int)=1:=by omega
 rw[e0]at a0 M7 ⊢;clear hE ho h hl hr ht I0 hn hb e0 S0;go_enter func117,ntmps117
 go_wp2_with(go_at_call 169;refine(q9 WN).mono ?_;rintro e w2⟨v2,rfl,I2,B9⟩;have P4:=j3 I2;have J2:=j3 B9;clear I2 B9)
 exact q9 HQ _ _ ⟨_,rfl,by have:=q9 P4;rw[List.append_assoc]at this;exact this,(q9 S1).bel.trans (q9 J2)⟩
theorem write_2(base:Nat)(v:Value)(l:List UInt8)(t:Tm)(W:World)(h:OB W base v l)(hb:base<=W.heap.size)(hn:l.length<=800000)(ht:SmallT t)(ho:t.op=2)(Q:Ending->World->Prop)(hQ:∀e w',qr5 base W (l++qv8 t) e w'->Q e w'):
  Calls prog 117 #[tmV t,v] W Q:=by
 have hE:qv8 t=UInt8.ofNat 2::vi5 t.str:=by simp[qv8,ho,vb9]
 have HQ:=j3 hQ;rw[hE]at HQ;clear hQ;have S0:=j3 (WSt.start h hb t 125);obtain⟨a,c,rfl⟩:=h.form;have hl:=ht.left;have hr:=ht.right;have jB:(0:Int)<=(t.left:Int):=by omega
 have bZ:(t.left:Int)<256:=by omega
 have Y6:(0:Int)<=(t.right:Int):=by omega
 have A4:(t.right:Int)<256:=by omega
 obtain⟨n,I0⟩:∃n,l.length=n:=⟨_,rfl⟩;have qI:=j3 I0;rw[I0]at S0 hn ⊢;obtain⟨g1,I5,w1,M7,S1⟩:=(q9 S0).app (UInt8.ofNat 2) 2 (by decide) (by omega) n I0 (W.heap.size+1) (by simp);obtain⟨mP,a0,a1,a2,a3,a4,a5,af⟩:=(q9 S1).tm;have hs:=ht.str;have WN:=j3 (qv1 base (.slice (some ⟨g1,0,none⟩) (n+1) I5) (l++[UInt8.ofNat 2]) t.str w1 (q9 S1).ob (q9 S1).ge (by simp;omega) (by omega) _ (λe w' h=>h));unfold tmV;have e0:(t.op:Int)=2:=by omega
 rw[e0]at a0 M7 ⊢;clear hE ho h hl hr ht I0 hn hb e0 S0;go_enter func117,ntmps117
 go_wp2_with(go_at_call 170;refine(q9 WN).mono ?_;rintro e w2⟨v2,rfl,I2,B9⟩;have P4:=j3 I2;have J2:=j3 B9;clear I2 B9)
 exact q9 HQ _ _ ⟨_,rfl,by have:=q9 P4;rw[List.append_assoc]at this;exact this,(q9 S1).bel.trans (q9 J2)⟩
theorem write_c(base:Nat)(v:Value)(l:List UInt8)(t:Tm)(W:World)(h:OB W base v l)(hb:base<=W.heap.size)(hn:l.length<=800000)(ht:SmallT t)(H6:t.op=3\/t.op=4)(Q:Ending->World->Prop)(hQ:∀e w',qr5 base W (l++qv8 t) e w'->Q e w'):
  Calls prog 117 #[tmV t,v] W Q:=by
 have hE:qv8 t=[UInt8.ofNat t.op]:=by rcases H6 with ho|ho<;>simp[qv8,ho,vb9]
 have HQ:=j3 hQ;rw[hE]at HQ;clear hQ;have S0:=j3 (WSt.start h hb t 125);obtain⟨a,c,rfl⟩:=h.form;have hl:=ht.left;have hr:=ht.right;have jB:(0:Int)<=(t.left:Int):=by omega
 have bZ:(t.left:Int)<256:=by omega
 have Y6:(0:Int)<=(t.right:Int):=by omega
 have A4:(t.right:Int)<256:=by omega
 obtain⟨n,I0⟩:∃n,l.length=n:=⟨_,rfl⟩;have qI:=j3 I0;rw[I0]at S0 hn ⊢;obtain⟨g1,I5,w1,M7,S1⟩:=(q9 S0).app (UInt8.ofNat t.op) (t.op:Int) (vq9 (by omega)) (by omega) n I0 (W.heap.size+1) (by simp);obtain⟨mP,a0,a1,a2,a3,a4,a5,af⟩:=(q9 S1).tm;unfold tmV;obtain⟨z,hz⟩:∃z:Int,(t.op:Int)=z:=⟨_,rfl⟩;rw[hz]at a0 M7 ⊢;have aG:z=3\/z=4:=by omega
 clear hE H6 h hl hr ht I0 hn hb hz S0;rcases aG with rfl|rfl
 all_goals
  go_enter func117,ntmps117
  go_wp2_with fail
  exact q9 HQ _ _ ⟨_,rfl,(q9 S1).ob,(q9 S1).bel⟩
theorem write_5(base:Nat)(v:Value)(l:List UInt8)(t:Tm)(W:World)(h:OB W base v l)(hb:base<=W.heap.size)(hn:l.length<=800000)(ht:SmallT t)(ho:t.op=5)(Q:Ending->World->Prop)(hQ:∀e w',qr5 base W (l++qv8 t) e w'->Q e w'):
  Calls prog 117 #[tmV t,v] W Q:=by
 have hE:qv8 t=[UInt8.ofNat 5,UInt8.ofNat t.left]:=by simp[qv8,ho,vb9]
 have HQ:=j3 hQ;rw[hE]at HQ;clear hQ;have S0:=j3 (WSt.start h hb t 125);obtain⟨a,c,rfl⟩:=h.form;have hl:=ht.left;have hr:=ht.right;have jB:(0:Int)<=(t.left:Int):=by omega
 have bZ:(t.left:Int)<256:=by omega
 have Y6:(0:Int)<=(t.right:Int):=by omega
 have A4:(t.right:Int)<256:=by omega
 obtain⟨n,I0⟩:∃n,l.length=n:=⟨_,rfl⟩;have qI:=j3 I0;rw[I0]at S0 hn ⊢;obtain⟨g1,I5,w1,M7,S1⟩:=(q9 S0).app (UInt8.ofNat 5) 5 (by decide) (by omega) n I0 (W.heap.size+1) (by simp);obtain⟨mP,a0,a1,a2,a3,a4,a5,af⟩:=(q9 S1).tm;obtain⟨g2,Q7,w2,U8,S2⟩:=(q9 S1).app (UInt8.ofNat t.left) (t.left:Int) (vq9 hl) (by simp;omega) (n+1) (by simp[I0]) _ rfl;unfold tmV;have e0:(t.op:Int)=5:=by omega
 rw[e0]at a0 M7 ⊢;clear hE ho h hl hr ht I0 hn hb e0 S0;go_enter func117,ntmps117
 go_wp2_with fail
 exact q9 HQ _ _ ⟨_,rfl,by have:=(q9 S2).ob;rw[List.append_assoc]at this;exact this,(q9 S2).bel⟩
theorem qv2(base:Nat)(v:Value)(l:List UInt8)(t:Tm)(W:World)(h:OB W base v l)(hb:base<=W.heap.size)(hn:l.length<=800000)(ht:SmallT t)(H6:t.op=6\/t.op=7\/t.op=8\/t.op=10\/t.op=11\/t.op=16\/t.op=17\/t.op=18\/t.op=19)(Q:Ending->World->Prop)(hQ:∀e w',qr5 base W (l++qv8 t) e w'->Q e w'):
  Calls prog 117 #[tmV t,v] W Q:=by
 have hE:qv8 t=[UInt8.ofNat t.op,UInt8.ofNat t.right,UInt8.ofNat t.left]:=by rcases H6 with ho|ho|ho|ho|ho|ho|ho|ho|ho<;>simp[qv8,ho,vb9]
 have HQ:=j3 hQ;rw[hE]at HQ;clear hQ;have S0:=j3 (WSt.start h hb t 125);obtain⟨a,c,rfl⟩:=h.form;have hl:=ht.left;have hr:=ht.right;have jB:(0:Int)<=(t.left:Int):=by omega
 have bZ:(t.left:Int)<256:=by omega
 have Y6:(0:Int)<=(t.right:Int):=by omega
 have A4:(t.right:Int)<256:=by omega
 obtain⟨n,I0⟩:∃n,l.length=n:=⟨_,rfl⟩;have qI:=j3 I0;rw[I0]at S0 hn ⊢;obtain⟨g1,I5,w1,M7,S1⟩:=(q9 S0).app (UInt8.ofNat t.op) (t.op:Int) (vq9 (by omega)) (by omega) n I0 (W.heap.size+1) (by simp);obtain⟨mP,a0,a1,a2,a3,a4,a5,af⟩:=(q9 S1).tm;obtain⟨g2,Q7,w2,U8,S2⟩:=(q9 S1).app (UInt8.ofNat t.right) (t.right:Int) (vq9 hr) (by simp;omega) (n+1) (by simp[I0]) _ rfl;obtain⟨DV,b0,b1,b2,b3,b4,b5,bf⟩:=(q9 S2).tm;obtain⟨g3,tU,w3,oF,S3⟩:=(q9 S2).app (UInt8.ofNat t.left) (t.left:Int) (vq9 hl) (by simp;omega) (n+1+1) (by simp[I0]) _ rfl;unfold tmV;obtain⟨z,hz⟩:∃z:Int,(t.op:Int)=z:=⟨_,rfl⟩;rw[hz]at a0 M7 b0 ⊢;have aG:z=6\/z=7\/z=8\/z=10\/z=11\/z=16\/z=17\/z=18\/z=19:=by omega
 clear hE H6 h hl hr ht I0 hn hb hz S0;rcases aG with rfl|rfl|rfl|rfl|rfl|rfl|rfl|rfl|rfl
 all_goals
  go_enter func117,ntmps117
  go_wp2_with fail
  exact q9 HQ _ _ ⟨_,rfl,by have:=(q9 S3).ob;rw[List.append_assoc,List.append_assoc]at this;exact this,(q9 S3).bel⟩
theorem write_23(base:Nat)(v:Value)(l:List UInt8)(t:Tm)(W:World)(h:OB W base v l)(hb:base<=W.heap.size)(hn:l.length<=800000)(ht:SmallT t)(ho:t.op=23)(Q:Ending->World->Prop)(hQ:∀e w',qr5 base W (l++qv8 t) e w'->Q e w'):
  Calls prog 117 #[tmV t,v] W Q:=by
 have hE:qv8 t=[UInt8.ofNat 23,UInt8.ofNat t.left]:=by simp[qv8,ho,vb9]
 have HQ:=j3 hQ;rw[hE]at HQ;clear hQ;have S0:=j3 (WSt.start h hb t 125);obtain⟨a,c,rfl⟩:=h.form;have hl:=ht.left;have hr:=ht.right;have jB:(0:Int)<=(t.left:Int):=by omega
 have bZ:(t.left:Int)<256:=by omega
 have Y6:(0:Int)<=(t.right:Int):=by omega
 have A4:(t.right:Int)<256:=by omega
 obtain⟨n,I0⟩:∃n,l.length=n:=⟨_,rfl⟩;have qI:=j3 I0;rw[I0]at S0 hn ⊢;obtain⟨g1,I5,w1,M7,S1⟩:=(q9 S0).app (UInt8.ofNat 23) 23 (by decide) (by omega) n I0 (W.heap.size+1) (by simp);obtain⟨mP,a0,a1,a2,a3,a4,a5,af⟩:=(q9 S1).tm;obtain⟨g2,Q7,w2,U8,S2⟩:=(q9 S1).app (UInt8.ofNat t.left) (t.left:Int) (vq9 hl) (by simp;omega) (n+1) (by simp[I0]) _ rfl;unfold tmV;have e0:(t.op:Int)=23:=by omega
 rw[e0]at a0 M7 ⊢;clear hE ho h hl hr ht I0 hn hb e0 S0;go_enter func117,ntmps117
 go_wp2_with fail
 exact q9 HQ _ _ ⟨_,rfl,by have:=(q9 S2).ob;rw[List.append_assoc]at this;exact this,(q9 S2).bel⟩
end
end Go.Proofs.YtfkcaldjphakpaaGreatDoor
