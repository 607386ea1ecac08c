/- The laws by the docume -/
import Derived.Test.YtfkcaldjphakpaaGreatDoorM26
import Derived.Deep.DeepAppendWide
import Derived.Test.YtfkcaldjphakpaaGreatDoorM20
set_option maxHeartbeats 16000000
set_option maxRecDepth 100000
namespace Go.Proofs.YtfkcaldjphakpaaGreatDoor
open Go.RowKit Go.Proofs.Tryz
variable{hs:List (Nat×Nat)}{bxs nxs xs:List Value}{H b base bn bytes cap e g gb hb j k m n nn:Nat}{N R R0:Nat->Prop}{T t ty:TypeId}{i i0:TypeInfo}{bv hv nv v x z:Value}{W W' w:World}
section
def qbx(m:Nat):Value:=.int .i64 (-1099511627776 - (m:Int))
def qb8(m:Nat):Value:=.int .u8 ((m:Int) % 256)
def MkS(N:Nat->Prop)(T:TypeId)(W:World)(v x:Value):Prop:=∃a n c,v=.slice a n c/\n<=1000000000/\∀j,j<n->∃b cur,a=some ⟨b,0,none⟩/\N b/\W.heap[b]?=some (.cells cur T (0,0))/\W.cell? ⟨b,j,none⟩=some x
section
variable {N N':Nat->Prop} {W W':World} {v x:Value} {T:TypeId}
theorem gR{o:Obj}(h:W.heap[b]?=some o):b<W.heap.size:=(cg.1 h).1
theorem MkS.keep(h:MkS N T W v x)(o:∀b,N b->b<W.heap.size->W'.heap[b]?=W.heap[b]?)(s:∀b,N b->b<W.heap.size->N' b):MkS N' T W' v x:=by
 obtain⟨a,n,c,e,q,h⟩:=h;refine⟨a,n,c,e,q,λj r=>?_⟩;obtain⟨b,cur,e,l,p,u⟩:=h j r;have f:=gR p;exact⟨b,cur,e,s b l f,(o b l f).trans p,(aw (w:=W) (a:=⟨b,j,none⟩) (o b l f)).trans u⟩
end
structure HdAt(N:Nat->Prop)(W:World)(hb m:Nat):Prop where
 nb:N hb
 ty:∃cur,W.heap[hb]?=some (.cells cur 146 (0,0))
 lists:∃nv bv,W.cell? ⟨hb,0,none⟩=some nv/\W.cell? ⟨hb,1,none⟩=some bv/\MkS N 3 W nv (qbx m)/\MkS N 5 W bv (qb8 m)
 mark:W.cell? ⟨hb,2,none⟩=some (.int .i64 (m:Int))
theorem HdAt.lt(h:HdAt N W hb m):hb<W.heap.size:=by
 obtain⟨c,a⟩:=h.ty;exact gR a
theorem HdAt.keep{N':Nat->Prop}(h:HdAt N W hb m)(c:∀b,N b->b<W.heap.size->W'.heap[b]?=W.heap[b]?)(l:∀b,N b->b<W.heap.size->N' b):HdAt N' W' hb m:=by
 obtain⟨nv,bv,r,q,p,o⟩:=h.lists;have f:∀i,W'.cell? ⟨hb,i,none⟩=W.cell? ⟨hb,i,none⟩:=λi=>aw (w:=W) (a:=⟨hb,i,none⟩) (c hb h.nb h.lt)
 obtain⟨cur,s⟩:=h.ty;exact⟨l hb h.nb h.lt,⟨cur,(c hb h.nb h.lt).trans s⟩,⟨nv,bv,(f 0).trans r,(f 1).trans q,p.keep c l,o.keep c l⟩,(f 2).trans h.mark⟩
theorem HdAt.below(h:HdAt N W hb m)(c:Xb W W'):HdAt N W' hb m:=h.keep (λb _ a=>c.block b a) (λ_ h _=>h)
theorem qqk(h:HdAt N W hb m)(Y:m<=20000000000000):nz 52 #[.pointer (some ⟨hb,0,none⟩)] W λe w'=>e=.returned (.bool true)/\Xb W w':=by
 obtain⟨nv,bv,B,A,⟨U,nn,S,rfl,G7,s⟩,ba,bn,Z,rfl,U7,F⟩:=h.lists;have y:=h.mark;have f:=h.lt;have O:=qd s;have P:=qd F;have X:wrap64 (-1099511627776 - (m:Int))=-1099511627776 - (m:Int):=by unfold wrap64;omega
 clear h s F;go_enter func52,ntmps52
 go_wp2_with fail
 go_loopw [3] (λi wr=>∃k:Nat,k<=nn/\i=.int .i64 k/\Hid (Xb W wr)) (λi _=>nn - (intOf i).toNat)
 case atStart=>exact⟨0,bj _,rfl,qd nw⟩
 case round=>
  obtain⟨k,u,rfl,c⟩:=hrel;obtain⟨a,o⟩:=qj c;have J:=(q9 c).size;have E:=(a _ 0 f).trans B;have D:=(a _ 1 f).trans A;have C:=(a _ 2 f).trans y;have I:hb<wr.heap.size:=mw
  by_cases hl:k<nn
  ·obtain⟨b,cur,rfl,_,q,l⟩:=q9 O k hl
   have r:=gR q;have L:(0:Int)<=(k:Int):=mw;have Q:(k:Int)<(nn:Int):=mw;have K:Xc wr b k (.int .i64 (-1099511627776 - (m:Int))):=(a _ k r).trans l;have M:b<wr.heap.size:=mw;clear l a o q
   go_wp2_with fail
   go_quiet (fail)
   go_wp2_with fail
   go_roundw
   case rel=>exact⟨k+1,hl,by go_num,qd (dr c _)⟩
   case measure=>simp[intOf];omega
  ·have G:¬(k:Int)<(nn:Int):=mw
   clear a o
   go_wp2_with fail
   clear E D C u hl G I J
   go_loopw [4] (λi wr=>∃k:Nat,k<=bn/\i=.int .i64 k/\Hid (Xb W wr)) (λi _=>bn - (intOf i).toNat)
   case atStart=>exact⟨0,bj _,rfl,c⟩
   case round=>
    clear c;obtain⟨k,u,rfl,c⟩:=hrel;obtain⟨a,o⟩:=qj c;have J:=(q9 c).size;have E:=(a _ 0 f).trans B;have D:=(a _ 1 f).trans A;have C:=(a _ 2 f).trans y;have I:hb<wr.heap.size:=mw
    by_cases hl:k<bn
    ·obtain⟨b,cur,rfl,_,q,l⟩:=q9 P k hl
     have r:=gR q;have L:(0:Int)<=(k:Int):=mw;have Q:(k:Int)<(bn:Int):=mw;have K:Xc wr b k (.int .u8 ((m:Int) % 256)):=(a _ k r).trans l;have M:b<wr.heap.size:=mw;clear l a o q
     go_wp2_with fail
     go_quiet (fail)
     go_wp2_with fail
     go_roundw
     case rel=>exact⟨k+1,hl,by go_num,qd (dr c _)⟩
     case measure=>simp[intOf];omega
    ·have G:¬(k:Int)<(bn:Int):=mw
     clear a o
     go_wp2_with fail
     go_ret;exact⟨rfl,q9 c⟩
end
section
def hpV(h:Nat×Nat):Value:=.pointer (some ⟨h.1,0,none⟩)
structure HsAt(w W:World)(hv:Value)(hs:List (Nat×Nat)):Prop where
 bel:Below w.heap.size w W
 lt:w.heap.size<W.heap.size
 c0:W.cell? ⟨w.heap.size,0,none⟩=some (.slice none 0 0)
 c1:W.cell? ⟨w.heap.size,1,none⟩=some hv
 fz:∀i,W.frozen? ⟨w.heap.size,i,none⟩=false
 row:W.ownsRow (w.heap.size+1) 86 1 hv hs.length (hs.map hpV)
 each:∀h∈hs,HdAt (λk=>w.heap.size<k/\hv.ownBlock≠some k) W h.1 h.2/\h.2<=hs.length
section
variable {w W W':World} {hv:Value} {hs:List (Nat×Nat)}
theorem HsAt.below(h:HsAt w W hv hs)(hb:Xb W W'):HsAt w W' hv hs:=by
 obtain⟨f,l⟩:=qj hb;have a:=h.lt;exact⟨qf h.bel hb,bg a hb.size,(f _ _ a).trans h.c0,(f _ _ a).trans h.c1,λi=>(l _ i a).trans (h.fz i),qq h.row hb nt,λx c=>⟨(h.each x c).1.below hb,(h.each x c).2⟩⟩
theorem HsAt.start(w:World):HsAt w (w.alloc (.cells #[.slice none 0 0,.slice none 0 0] 61)) (.slice none 0 0) []:=
 ⟨nw.alloc nt _,mx,mx,mx,λi=>mx,ed _ _ _ _,λx a=>by simp at a⟩
theorem HsAt.form(h:HsAt w W hv hs):∃a c,hv=.slice a hs.length c:=by
 rcases h.row.2 with⟨rfl,f⟩|⟨g,cap,cur,rfl,_⟩
 ·exact⟨none,0,by rw[f]⟩
 ·exact⟨_,_,rfl⟩
theorem HsAt.cell(h:HsAt w W hv hs){x:Nat×Nat}(a:hs[k]?=some x):∃g cap,hv=.slice (some ⟨g,0,none⟩) hs.length cap/\g<W.heap.size/\W.cell? ⟨g,k,none⟩=some (hpV x):=by
 have l:=(au.1 a).1;have c:=h.row;rcases h.row.2 with⟨rfl,o⟩|⟨g,cap,cur,rfl,q,f,_⟩
 ·omega
 ·refine⟨g,cap,rfl,(cg.1 f).1, ?_⟩
  rw[World.ownsRow.cellAt c k mw,dd,a];rfl
end
theorem quk(h:HsAt w W hv hs)(u:hs.length<=20000000000000):nz 34 #[.pointer (some ⟨w.heap.size,0,none⟩)] W λe W'=>e=.returned (.bool true)/\HsAt w W' hv hs:=by
 have H:=qd h;obtain⟨a,c,rfl⟩:=h.form;obtain⟨n,l⟩:∃n,hs.length=n:=⟨_,rfl⟩;have o:=qd l;rw[l]at H u ⊢;clear h l;go_enter func34,ntmps34
 go_wp2_with fail
 go_loopw [3] (λi wr=>∃k:Nat,k<=n/\i=.int .i64 k/\Hid (HsAt w wr (.slice a n c) hs)) (λi _=>n - (intOf i).toNat)
 case atStart=>exact⟨0,bj _,rfl,H⟩
 case round=>
  clear H;obtain⟨k,D,rfl,H⟩:=hrel;have c1:=(q9 H).c1;have K:=(q9 H).lt
  by_cases iU:k<n
  ·obtain⟨x,f⟩:∃x,hs[k]?=some x:=⟨_,ag (by have:=q9 o;omega)⟩
   obtain⟨g,cap,e,E,q⟩:=(q9 H).cell f;rw[q9 o]at e;injection e with e _ _;subst e;obtain⟨hd,C⟩:=(q9 H).each x (ch f);have s:x.2<=20000000000000:=by have:=q9 o;omega
   have y:=qd (qqk hd s);have F:Xc wr g k (.pointer (some ⟨x.1,0,none⟩)):=q;have I:(0:Int)<=(k:Int):=mw;have J:(k:Int)<(n:Int):=mw;clear q hd f
   go_wp2_with(go_at_call 52;refine y.mono ?_;rintro e B⟨rfl,r⟩;have A:=qd (H.below r);clear r)
   go_roundw
   case rel=>exact⟨k+1,iU,by go_num,A⟩
   case measure=>simp[intOf];omega
  ·have G:¬(k:Int)<(n:Int):=mw
   go_wp2_with fail
   go_ret;exact⟨rfl,q9 H⟩
end
section
theorem qvm(h:w.ownsRow base e 1 (.slice (some ⟨g,0,none⟩) n cap) n xs)(j:Nat)(x:Value):(w.setCell ⟨g,j,none⟩ x).ownsRow base e 1 (.slice (some ⟨g,0,none⟩) n cap) n (xs.set j x):=by
 rcases h.2 with⟨hv,_⟩|⟨p,cap',cur,hv,hb,f,l,a,o,c⟩
 ·cases hv
 ·cases hv
  refine⟨by rw[List.length_set];exact h.1,.inr ⟨g,cap,cur.setIfInBounds j x,rfl,hb, ?_,l,a,by simpa using o, ?_⟩⟩
  ·simp[World.setCell,ir,f]
  ·rw[Array.toList_setIfInBounds,List.take_set,c]
theorem vmo(g k:Nat):(⟨g,0,none⟩:Addr).add k=⟨g,k,none⟩:=by
 cases k with
 | zero=>rfl
 | succ k=>simp[Addr.add]
theorem qvl{w':World}(C:prog.underlying t=some (.slice e))(E:prog.info? e=some i)(M:i.zero=some z)(u:i.size=1)(A:i.bytes=bytes)
  {v':Value}    (B:w.ownsRow base e 1 v n xs)  (Q:w.cell? ⟨H,0,none⟩=some x) (S:x.oneCell'=true) (hb:((n+1)+(n+1) / 4+192) * bytes<=281474976710656) (hn:n+1<=9223372036854775807)
  (K:(Builtin.append_ #[t,t] ty #[v,.slice (some ⟨H,0,none⟩) 1 1]).run prog w=.ok v' w') :
  ∀(g:Nat),v.ownBlock=some g->(∃cur,w'.heap[g]?=some (.cells cur e (0,0)))/\∀j,w.cell? ⟨g,j,none⟩=some x->w'.cell? ⟨g,j,none⟩=some x:=by
 intro g F;have L:=B.1;rcases B.2 with⟨rfl,_⟩|⟨f,cap,cur,rfl,I7,l,aC,Z,X,mN⟩
 ·cases F
 obtain rfl:f=g:=by simpa [Value.ownBlock]using F
 have G:∀k y,[x][k]?=some y->w.cell? ((⟨H,0,none⟩:Addr).add k)=some y:=λk y r=>by
  cases k with
  | zero=>simp at r;subst r;rw[vmo];exact Q
  | succ k=>simp at r
 have J:∀{W:World} {c:Array Value} (k:Nat),W.heap[f]?=some (.cells c e (0,0))->W.cell? ⟨f,k,none⟩=c[k]?:=λk h=>by simp[World.cell?,h]
 by_cases hroom:n+1<=cap
 ·have q:=run_append_room (P:=prog) w t ty e i C E f n cap cur l ⟨H,0,none⟩ 1 1 [x] (by rw[u];rfl) G (λy O=>by rw[cp.1 O];exact S) hroom (by rw[u,X];simp;omega)
  rw[K]at q;injection q with U s;refine⟨⟨_,by rw[s];exact setRow_heap w f cur _ e _ l⟩,λj o=>?_⟩;rw[s,J j (setRow_heap w f cur _ e _ l)];rw[J j l]at o;rw[u,Nat.mul_one,List.getElem?_toArray];have Y:j<cur.size:=(cg.1 o).1;have I:cur.toList[j]?=some x:=by rw[Array.getElem?_toList];exact o
  rcases Nat.lt_trichotomy j n with h|h|h
  ·rw[bi,bw (by rw[dh];simp;omega),lz h];exact I
  ·subst h
   rw[bi,cj (by rw[dh];omega),dh,show j - min j cur.toList.length=0 by simp;omega];rfl
  ·rw[cj my]
   rw[mh,show n+[x].length+(j - (cur.toList.take n++[x]).length)=j by simp;omega];exact I
 ·have q:=run_append_grow (P:=prog) w t ty e i z C E M ⟨f,0,none⟩ n cap xs (by rw[u];exact L) (λk y r=>B.cells (g:=f) rfl k y r) ⟨H,0,none⟩ 1 1 [x] (by rw[u];rfl) G mw mw (growslice_fits_wide mw (by rw[A];exact hb))
  rw[K]at q;injection q with U s;have D:f<w.heap.size:=(cg.1 l).1;refine⟨⟨cur,by rw[s];exact(heap_alloc_old w.drew _ D).trans l⟩,λj o=>?_⟩;rw[s];rw[aw (w:=w) (a:=⟨f,j,none⟩) (heap_alloc_old w.drew _ D)];exact o
theorem qmn(o:prog.underlying t=some (.slice e))(r:prog.info? e=some i)(B:i.zero=some z)(f:i.size=1)(c:i.bytes=bytes)(O:z.cells.size=1)
      (A:w.ownsRow base e 1 v n xs)  (I:Xc w H 0 x) (K:x.oneCell'=true) (hb:((n+1)+(n+1) / 4+192) * bytes<=281474976710656) (E:n+1<=maxLen) (L:base<=w.heap.size) :
  ∃g cap w',(Builtin.append_ #[t,t] ty #[v,.slice (some ⟨H,0,none⟩) 1 1]).run prog w=.ok (.slice (some ⟨g,0,none⟩) (n+1) cap) w'/\w'.ownsRow base e 1 (.slice (some ⟨g,0,none⟩) (n+1) cap) (n+1) (xs++[x])/\w.grownBy w' v.ownBlock/\(v.ownBlock=some g\/g=w.heap.size):=by
 have s:∀k y,[x][k]?=some y->w.cell? ((⟨H,0,none⟩:Addr).add k)=some y:=λk y l=>by
  cases k with
  | zero=>simp at l;subst l;rw[vmo];exact I
  | succ k=>simp at l
 have D:∀u∈[x],u.oneCell'=true:=λy G=>by rw[cp.1 G];exact K
 have X:n+1<=9223372036854775807:=by unfold maxLen at E;omega
 obtain⟨v',w',q,F,J,_⟩:=run_append_own_wide (P:=prog) w base t ty e i z 1 bytes o r B f c O mw v n xs A ⟨H,0,none⟩ 1 1 [x] rfl s D E hb L;obtain⟨g,cap,rfl,_,_⟩:=F.form mw;refine⟨g,cap,w',q,F,J, ?_⟩;rcases A.2 with⟨rfl,rfl⟩|⟨C,cap',cur,rfl,Z,Q,Y,S,M,U⟩
 ·right
  have h:=run_append_nil (P:=prog) w t ty e i z o r B ⟨H,0,none⟩ 1 1 [x] (by rw[f];rfl) s mw mw (by rw[c];exact bs (iw _ mw) hb);rw[q]at h;injection h with a _;injection a with a _ _;injection a with a;injection a
 ·by_cases hroom:n+1<=cap'
  ·left
   have h:=run_append_room (P:=prog) w t ty e i o r C n cap' cur Q ⟨H,0,none⟩ 1 1 [x] (by rw[f];rfl) s D hroom (by rw[f,M];simp;omega);rw[q]at h;injection h with a _;injection a with a _ _;injection a with a;injection a with a _ _;rw[a];rfl
  ·right
   have h:=run_append_grow (P:=prog) w t ty e i z o r B ⟨C,0,none⟩ n cap' xs (by rw[f];exact A.1) (λk y l=>A.cells (g:=C) rfl k y l) ⟨H,0,none⟩ 1 1 [x] (by rw[f];rfl) s mw mw (growslice_fits_wide mw (by rw[c];exact hb));rw[q]at h;injection h with a _;injection a with a _ _;injection a with a;injection a
end
section
structure FmAt(base:Nat)(W:World)(gb m:Nat)(nv bv:Value)(nn bn:Nat)(nxs bxs:List Value):Prop where
 lo:base<=gb
 ty:∃cur,W.heap[gb]?=some (.cells cur 146 (0,0))
 c0:W.cell? ⟨gb,0,none⟩=some nv
 c1:W.cell? ⟨gb,1,none⟩=some bv
 c2:W.cell? ⟨gb,2,none⟩=some (.int .i64 (m:Int))
 fz:∀i,W.frozen? ⟨gb,i,none⟩=false
 nr:W.ownsRow base 3 1 nv nn nxs
 br:W.ownsRow base 5 1 bv bn bxs
 nd:nv.ownBlock≠some gb
 bd:bv.ownBlock≠some gb
 nb:∀k,nv.ownBlock=some k->bv.ownBlock≠some k
structure MrkAt(base:Nat)(W W':World)(nv bv:Value):Prop where
 bel:Below base W W'
 size:W'.heap.size=W.heap.size
 block:∀b,nv.ownBlock≠some b->bv.ownBlock≠some b->W'.heap[b]?=W.heap[b]?
section
variable {base:Nat} {W W' W2:World} {gb m nn bn:Nat} {nv bv x:Value} {nxs bxs:List Value}
theorem FmAt.lt(h:FmAt base W gb m nv bv nn bn nxs bxs):gb<W.heap.size:=by
 obtain⟨c,a⟩:=h.ty;exact gR a
theorem MrkAt.refl:MrkAt base W W nv bv:=⟨nw,rfl,λ_ _ _=>rfl⟩
theorem FmAt.setN(h:FmAt base W gb m (.slice (some ⟨g,0,none⟩) nn cap) bv nn bn nxs bxs)(x:Value):FmAt base (W.setCell ⟨g,j,none⟩ x) gb m (.slice (some ⟨g,0,none⟩) nn cap) bv nn bn (nxs.set j x) bxs:=by
 have c:gb≠g:=λe=>h.nd (by simp[Value.ownBlock,e])
 have hb:(W.setCell ⟨g,j,none⟩ x).heap[gb]?=W.heap[gb]?:=bo _ ⟨g,j,none⟩ _ gb c;have f:∀i,(W.setCell ⟨g,j,none⟩ x).cell? ⟨gb,i,none⟩=W.cell? ⟨gb,i,none⟩:=λi=>aw (w:=W) (a:=⟨gb,i,none⟩) hb
 obtain⟨cur,o⟩:=h.ty;refine⟨h.lo,⟨cur,hb.trans o⟩,(f 0).trans h.c0,(f 1).trans h.c1,(f 2).trans h.c2,λi=>(cf (w:=W) (a:=⟨gb,i,none⟩) hb).trans (h.fz i),qvm h.nr j x, ?_,h.nd,h.bd,h.nb⟩;refine vp h.br λk l=>bo _ ⟨g,j,none⟩ _ k (λe=>h.nb g rfl (by have e:k=g:=e;rw[←e];exact l))
theorem FmAt.setB(h:FmAt base W gb m nv (.slice (some ⟨g,0,none⟩) bn cap) nn bn nxs bxs)(x:Value):FmAt base (W.setCell ⟨g,j,none⟩ x) gb m nv (.slice (some ⟨g,0,none⟩) bn cap) nn bn nxs (bxs.set j x):=by
 have c:gb≠g:=λe=>h.bd (by simp[Value.ownBlock,e])
 have hb:(W.setCell ⟨g,j,none⟩ x).heap[gb]?=W.heap[gb]?:=bo _ ⟨g,j,none⟩ _ gb c;have f:∀i,(W.setCell ⟨g,j,none⟩ x).cell? ⟨gb,i,none⟩=W.cell? ⟨gb,i,none⟩:=λi=>aw (w:=W) (a:=⟨gb,i,none⟩) hb
 obtain⟨cur,o⟩:=h.ty;refine⟨h.lo,⟨cur,hb.trans o⟩,(f 0).trans h.c0,(f 1).trans h.c1,(f 2).trans h.c2,λi=>(cf (w:=W) (a:=⟨gb,i,none⟩) hb).trans (h.fz i), ?_,qvm h.br j x,h.nd,h.bd,h.nb⟩;refine vp h.nr λk l=>bo _ ⟨g,j,none⟩ _ k (λe=>h.nb k l (by have e:k=g:=e;rw[e];rfl))
theorem MrkAt.set(h:MrkAt base W W' nv bv)(f:base<=g)(hv:nv.ownBlock=some g\/bv.ownBlock=some g)(x:Value):MrkAt base W (W'.setCell ⟨g,j,none⟩ x) nv bv:=
 ⟨h.bel.setCell f _,by rw[lh];exact h.size,λb c a=>(bo _ ⟨g,j,none⟩ _ b (λe=>by rcases hv with hv|hv;exact c (e ▸ hv);exact a (e ▸ hv))).trans (h.block b c a)⟩
theorem FmAt.drew(h:FmAt base W gb m nv bv nn bn nxs bxs):FmAt base W.drew gb m nv bv nn bn nxs bxs:=⟨h.lo,h.ty,h.c0,h.c1,h.c2,h.fz,h.nr,h.br,h.nd,h.bd,h.nb⟩
theorem MrkAt.drew(h:MrkAt base W W' nv bv):MrkAt base W W'.drew nv bv:=⟨h.bel.drew,h.size,h.block⟩
theorem qnz(h:k<xs.length):(List.replicate k x++xs.drop k).set k x=List.replicate (k+1) x++xs.drop (k+1):=by
 rw[List.set_append_right _ _ mx,lj,iu,ce h,List.set_cons_zero,List.replicate_succ',bi];rfl
end
theorem quw(h:FmAt base W gb m nv bv nn bn nxs bxs)(hm:m<=20000000000000)(rZ:nn<=1000000000)(rC:bn<=1000000000):
  nz 128 #[.pointer (some ⟨gb,0,none⟩)] W λe W'=>e=.returned (.tuple #[])/\FmAt base W' gb m nv bv nn bn (List.replicate nn (qbx m)) (List.replicate bn (qb8 m))/\MrkAt base W W' nv bv:=by
 have G7:nxs.length=nn:=by have:=h.nr.1;omega
 have U7:bxs.length=bn:=by have:=h.br.1;omega
 have OP:∃a c,nv=.slice a nn c:=by
  rcases h.nr.2 with⟨rfl,u⟩|⟨g,cap,cur,rfl,_⟩
  ·exact⟨none,0,by rw[u]⟩
  ·exact⟨_,_,rfl⟩
 have PU:∃a c,bv=.slice a bn c:=by
  rcases h.br.2 with⟨rfl,u⟩|⟨g,cap,cur,rfl,_⟩
  ·exact⟨none,0,by rw[u]⟩
  ·exact⟨_,_,rfl⟩
 obtain⟨C,s,rfl⟩:=OP;obtain⟨D,y,rfl⟩:=PU
 have hw:IntKind.i64.wrap (-1099511627776 - (m:Int))=-1099511627776 - (m:Int):=by
  have AH:IntKind.i64.bits=64:=rfl;have U:IntKind.i64.signed=true:=rfl;simp[IntKind.wrap,AH,U];omega
 have f:=qd h;clear h;go_enter func128,ntmps128
 go_wp2_with fail
 go_loopw [2] (λi wr=>∃k:Nat,k<=nn/\i=.int .i64 k/\Hid (FmAt base wr gb m (.slice C nn s) (.slice D bn y) nn bn (List.replicate k (qbx m)++nxs.drop k) bxs)/\Hid (MrkAt base W wr (.slice C nn s) (.slice D bn y))) (λi _=>nn - (intOf i).toNat)
 case atStart=>exact⟨0,bj _,rfl,f,qd MrkAt.refl⟩
 case round=>
  clear f;obtain⟨k,K,rfl,f,o⟩:=hrel;have O:=(q9 f).c0;have M:=(q9 f).c1;have L:=(q9 f).c2;have Q:=(q9 f).lt
  by_cases hl:k<nn
  ·have l:(List.replicate k (qbx m)++nxs.drop k).length=nn:=my
   rcases(q9 f).nr.2 with⟨_,u⟩|⟨g,cap',cur,hv,J,q,Z,_,I,E⟩
   ·omega
   injection hv with hv _ F;subst hv F;have S:g<wr.heap.size:=(cg.1 q).1;obtain⟨r,Y⟩:∃r,Xc wr g k r:=⟨_,World.ownsRow.cellAt f.nr k mw |>.trans (ag mw)⟩;have X:wr.frozen? ⟨g,k,none⟩=false:=by simp[World.frozen?,q]
   have ngb:¬gb=g:=λe=>f.nd (by rw[e];rfl)
   have ngc:¬g=gb:=λe=>ngb e.symm
   have N5:(0:Int)<=(k:Int):=mw;have A5:(k:Int)<(nn:Int):=mw;have B:=qd (f.setN (j:=k) (qbx m)).drew;rw[qnz mw]at B;have G:=qd (o.set (j:=k) J (.inl rfl) (qbx m)).drew;clear q I E l
   go_wp2_with fail
   go_region_held3 (λW=>Xc W gb 0 (.slice (some ⟨g,0,none⟩) nn s)/\Xc W gb 2 (.int .i64 (m:Int))) (first|with_reducible assumption|go_keep) (fail)
   go_wp2_with fail
   go_roundw
   case rel=>exact⟨k+1,hl,by go_num,B,G⟩
   case measure=>simp[intOf];omega
  ·have P:¬(k:Int)<(nn:Int):=mw
   have A:List.replicate k (qbx m)++nxs.drop k=List.replicate nn (qbx m):=by rw[show k=nn by omega,di mw,ew]
   rw[A]at f;clear A
   go_wp2_with fail
   clear O M L Q
   go_loopw [3] (λi wr=>∃k:Nat,k<=bn/\i=.int .i64 k/\Hid (FmAt base wr gb m (.slice C nn s) (.slice D bn y) nn bn (List.replicate nn (qbx m)) (List.replicate k (qb8 m)++bxs.drop k))/\Hid (MrkAt base W wr (.slice C nn s) (.slice D bn y))) (λi _=>bn - (intOf i).toNat)
   case atStart=>exact⟨0,bj _,rfl,f,o⟩
   case round=>
    clear f o K hl P;obtain⟨k,K,rfl,f,o⟩:=hrel;have O:=(q9 f).c0;have M:=(q9 f).c1;have L:=(q9 f).c2;have Q:=(q9 f).lt
    by_cases hl:k<bn
    ·have l:(List.replicate k (qb8 m)++bxs.drop k).length=bn:=my
     rcases(q9 f).br.2 with⟨_,u⟩|⟨g,cap',cur,hv,J,q,Z,_,I,E⟩
     ·omega
     injection hv with hv _ F;subst hv F;have S:g<wr.heap.size:=(cg.1 q).1;obtain⟨r,Y⟩:∃r,Xc wr g k r:=⟨_,World.ownsRow.cellAt f.br k mw |>.trans (ag mw)⟩;have X:wr.frozen? ⟨g,k,none⟩=false:=by simp[World.frozen?,q]
     have ngb:¬gb=g:=λe=>f.bd (by rw[e];rfl)
     have ngc:¬g=gb:=λe=>ngb e.symm
     have N5:(0:Int)<=(k:Int):=mw;have A5:(k:Int)<(bn:Int):=mw;have B:=qd (f.setB (j:=k) (qb8 m)).drew;rw[qnz mw]at B;have G:=qd (o.set (j:=k) J (.inr rfl) (qb8 m)).drew;clear q I E l
     go_wp2_with fail
     go_region_held3 (λW=>Xc W gb 1 (.slice (some ⟨g,0,none⟩) bn y)/\Xc W gb 2 (.int .i64 (m:Int))) (first|with_reducible assumption|go_keep) (fail)
     go_wp2_with fail
     go_roundw
     case rel=>exact⟨k+1,hl,by go_num,B,G⟩
     case measure=>simp[intOf];omega
    ·have P:¬(k:Int)<(bn:Int):=mw
     have A:List.replicate k (qb8 m)++bxs.drop k=List.replicate bn (qb8 m):=by rw[show k=bn by omega,di mw,ew]
     rw[A]at f;clear A
     go_wp2_with fail
     first
      | exact⟨rfl,q9 f,q9 o⟩
      | (go_end0;exact⟨rfl,q9 f,q9 o⟩)
end
section
attribute [local go_sem ↓] vk
theorem vam:(prog.info? 5).map (λi=>(i.zero,i.size,i.bytes))=some (some (.int .u8 0),1,1):=nl
structure RoAt(base:Nat)(e:TypeId)(W W5:World)(v:Value)(g:Nat)(x:Value):Prop where
 bel:Below base W W5
 block:∀b,b<W.heap.size->v.ownBlock≠some b->W5.heap[b]?=W.heap[b]?
 at':v.ownBlock=some g\/W.heap.size<g
 old:∀b,v.ownBlock=some b->(∃cur,W5.heap[b]?=some (.cells cur e (0,0)))/\∀j,W.cell? ⟨b,j,none⟩=some x->W5.cell? ⟨b,j,none⟩=some x
 size:W.heap.size<W5.heap.size
theorem qwl{e:TypeId}(s:prog.underlying T=some (.slice e))(y:prog.info? e=some i0)(B:i0.zero=some z)(D:i0.size=1)(C:i0.bytes=bytes)(M:z.cells.size=1)(h:W.ownsRow base e 1 v n xs)(hb:base<=W.heap.size)(r:x.oneCell'=true)(Q:n<=20000000000000)(A:((n+1)+(n+1) / 4+192) * bytes<=281474976710656)(H:Nat)(I:W.heap.size=H):
  ∃g cap c,(appR #[T,T] T #[v,.slice (some ⟨H,0,none⟩) 1 1]).run prog (W.alloc (.cells #[x] e)).drew=.ok (.slice (some ⟨g,0,none⟩) (n+1) cap) c/\Hid (c.ownsRow base e 1 (.slice (some ⟨g,0,none⟩) (n+1) cap) (n+1) (xs++[x]))/\Hid (RoAt base e W c v g x):=by
 subst I;have l:(W.alloc (.cells #[x] e)).drew.ownsRow base e 1 v n xs:=World.ownsRow.alloc h (.cells #[x] e);have q:(W.alloc (.cells #[x] e)).drew.cell? ⟨W.heap.size,0,none⟩=some x:=by show(W.alloc (.cells #[x] e)).cell? _=_;simp
 have S:(W.alloc (.cells #[x] e)).drew.heap.size=W.heap.size+1:=by show(W.alloc (.cells #[x] e)).heap.size=_;simp
 obtain⟨g,cap,c,u,P,o,O⟩:=qmn (ty:=T) s y B D C M l q r A (by unfold maxLen;omega) mw;have hs:=o.size;refine⟨g,cap,c,u,qd P,qd ⟨Go.RowKit.Below.grown (((Below.refl base W).alloc hb _).drew) o mw (λk F=>(l.lt k F).1),λb L f=>(o.block b mw (λe=>f e.symm)).trans (((Below.refl W.heap.size W).alloc nt _).block b L), ?_,λb hv=>?_,mw⟩⟩
 ·rcases O with h|h
  ·exact .inl h
  ·right;rw[h];omega
 ·have E:=(h.lt b hv).2
  obtain⟨K,J⟩:=qvl s y B D C l q r A mw u b hv;exact⟨K,λj G=>J j ((aw (w:=W) (a:=⟨b,j,none⟩) (((Below.refl W.heap.size W).alloc nt _).block b E)).trans G)⟩
theorem vcf{e:TypeId}(s:prog.underlying T=some (.slice e))(y:prog.info? e=some i0)(B:i0.zero=some z)(D:i0.size=1)(C:i0.bytes=bytes)(M:z.cells.size=1)(h:W.ownsRow base e 1 v n xs)(hb:base<=W.heap.size)(r:x.oneCell'=true)(Q:n<=20000000000000)(A:((n+1)+(n+1) / 4+192) * bytes<=281474976710656)(H:Nat)(I:W.heap.size=H):
  ∃g cap c,(appR #[T,T] T #[v,.slice (some ⟨H,0,none⟩) 1 1]).run prog (W.alloc (.cells #[x] e))=.ok (.slice (some ⟨g,0,none⟩) (n+1) cap) c/\Hid (c.ownsRow base e 1 (.slice (some ⟨g,0,none⟩) (n+1) cap) (n+1) (xs++[x]))/\Hid (RoAt base e W c v g x):=by
 subst I;have l:(W.alloc (.cells #[x] e)).ownsRow base e 1 v n xs:=World.ownsRow.alloc h (.cells #[x] e);have q:Xc (W.alloc (.cells #[x] e)) W.heap.size 0 x:=by show(W.alloc (.cells #[x] e)).cell? _=_;simp
 have S:(W.alloc (.cells #[x] e)).heap.size=W.heap.size+1:=by show(W.alloc (.cells #[x] e)).heap.size=_;simp
 obtain⟨g,cap,c,u,P,o,O⟩:=qmn (ty:=T) s y B D C M l q r A (by unfold maxLen;omega) mw;have hs:=o.size;refine⟨g,cap,c,u,qd P,qd ⟨Go.RowKit.Below.grown (((Below.refl base W).alloc hb _)) o mw (λk F=>(l.lt k F).1),λb L f=>(o.block b mw (λe=>f e.symm)).trans (((Below.refl W.heap.size W).alloc nt _).block b L), ?_,λb hv=>?_,mw⟩⟩
 ·rcases O with h|h
  ·exact .inl h
  ·right;rw[h];omega
 ·have E:=(h.lt b hv).2
  obtain⟨K,J⟩:=qvl s y B D C l q r A mw u b hv;exact⟨K,λj G=>J j ((aw (w:=W) (a:=⟨b,j,none⟩) (((Below.refl W.heap.size W).alloc nt _).block b E)).trans G)⟩
structure LgAt(base:Nat)(W W':World)(nv bv:Value)(m:Nat):Prop where
 bel:Below base W W'
 size:W.heap.size<W'.heap.size
 block:∀b,b<W.heap.size->nv.ownBlock≠some b->bv.ownBlock≠some b->W'.heap[b]?=W.heap[b]?
 oldN:∀b,nv.ownBlock=some b->(∃cur,W'.heap[b]?=some (.cells cur 3 (0,0)))/\∀j,W.cell? ⟨b,j,none⟩=some (qbx m)->W'.cell? ⟨b,j,none⟩=some (qbx m)
 oldB:∀b,bv.ownBlock=some b->(∃cur,W'.heap[b]?=some (.cells cur 5 (0,0)))/\∀j,W.cell? ⟨b,j,none⟩=some (qb8 m)->W'.cell? ⟨b,j,none⟩=some (qb8 m)
theorem vc8(n:Nat)(x:Value):List.replicate n x++[x]=List.replicate (n+1) x:=by rw[List.replicate_succ']
theorem qqj(h:FmAt base W gb m nv bv nn bn (List.replicate nn (qbx m)) (List.replicate bn (qb8 m)))(hm:m<=20000000000000)(rZ:nn<=1000000000)(rC:bn<=1000000000):
  nz 129 #[.pointer (some ⟨gb,0,none⟩)] W λe W'=>e=.returned (.pointer (some ⟨W.heap.size,0,none⟩))/\(∃nv' bv',FmAt base W' W.heap.size m nv' bv' (nn+1) (bn+1) (List.replicate (nn+1) (qbx m)) (List.replicate (bn+1) (qb8 m))/\(∀k,nv'.ownBlock=some k->nv.ownBlock=some k\/W.heap.size<=k)/\∀k,bv'.ownBlock=some k->bv.ownBlock=some k\/W.heap.size<=k)/\LgAt base W W' nv bv m:=by
 have OP:∃a c,nv=.slice a nn c:=by
  rcases h.nr.2 with⟨rfl,h0⟩|⟨g,cap,cur,rfl,_⟩
  ·exact⟨none,0,by rw[h0]⟩
  ·exact⟨_,_,rfl⟩
 have PU:∃a c,bv=.slice a bn c:=by
  rcases h.br.2 with⟨rfl,h0⟩|⟨g,cap,cur,rfl,_⟩
  ·exact⟨none,0,by rw[h0]⟩
  ·exact⟨_,_,rfl⟩
 have hw:IntKind.i64.wrap (-1099511627776 - (m:Int))=-1099511627776 - (m:Int):=by
  have AH:IntKind.i64.bits=64:=rfl;have wF:IntKind.i64.signed=true:=rfl;simp[IntKind.wrap,AH,wF];omega
 have cI:=h.lo;have A0:=h.lt;obtain⟨V,E⟩:∃V:World,V=W.alloc (.cells #[.slice none 0 0,.slice none 0 0,.int .i64 (m:Int)] 146):=⟨_,rfl⟩;have Z:Xb W V:=E ▸ nw.alloc nt _
 have LP:V.heap.size=W.heap.size+1:=by rw[E];simp
 have AN:∀i,V.cell? ⟨W.heap.size,i,none⟩=#[.slice none 0 0,.slice none 0 0,.int .i64 (m:Int)][i]?:=λi=>by rw[E,cd _ _ _ _ mx]
 have XC:Xf V W.heap.size:=λi=>by rw[E];simp
 obtain⟨i0,hi,F2,B9,D8⟩:=info_parts qgz;obtain⟨l,F,r,nW,t7,oK⟩:=qwl (T:=52) underlying52 hi F2 B9 D8 rfl (W:=V) (qq h.nr Z nt) (show base<=V.heap.size by omega) (x:=qbx m) rfl mw mw (W.heap.size+1) LP;have K:=q9 oK;have mV:∀k,nv.ownBlock=some k->k<W.heap.size:=λk q=>(h.nr.lt k q).2
 have Q:∀k,bv.ownBlock=some k->k<W.heap.size:=λk q=>(h.br.lt k q).2
 have OQ:nv.ownBlock≠some W.heap.size:=λe=>by have:=mV _ e;omega
 have DH:bv.ownBlock≠some W.heap.size:=λe=>by have:=Q _ e;omega
 have tH:V.heap.size<r.heap.size:=K.size;have J:∀b,b<V.heap.size->nv.ownBlock≠some b->r.heap[b]?=V.heap[b]?:=K.block;have S:l<r.heap.size/\(nv.ownBlock=some l\/V.heap.size<l):=⟨(t7.lt l rfl).2,K.at'⟩;have U:l≠W.heap.size:=λe=>by rcases S.2 with o|o;exact OQ (e ▸ o);omega
 have AA:bv.ownBlock≠some l:=λe=>by rcases S.2 with o|o;exact h.nb l o e;have:=Q _ e;omega
 obtain⟨f,A⟩:∃X:World,X=r.setCell ⟨W.heap.size,0,none⟩ (.slice (some ⟨l,0,none⟩) (nn+1) F):=⟨_,rfl⟩;have QG:f.heap.size=r.heap.size:=by rw[A,lh]
 have C:∀b,b≠W.heap.size->f.heap[b]?=r.heap[b]?:=λb hb=>by rw[A];exact bo _ ⟨W.heap.size,0,none⟩ _ b hb
 have G:r.heap[W.heap.size]?=V.heap[W.heap.size]?:=J _ mw OQ;have p0:r.cell? ⟨W.heap.size,0,none⟩=some (.slice none 0 0):=(aw (w:=V) (a:=⟨W.heap.size,0,none⟩) G).trans (AN 0);have p1:r.cell? ⟨W.heap.size,1,none⟩=some (.slice none 0 0):=(aw (w:=V) (a:=⟨W.heap.size,1,none⟩) G).trans (AN 1);have p2:r.cell? ⟨W.heap.size,2,none⟩=some (.int .i64 (m:Int)):=(aw (w:=V) (a:=⟨W.heap.size,2,none⟩) G).trans (AN 2);have pz:Xf r W.heap.size:=λi=>(cf (w:=V) (a:=⟨W.heap.size,i,none⟩) G).trans (XC i)
 have kVW:∀b,b<W.heap.size->V.heap[b]?=W.heap[b]?:=λb hb=>Z.block b hb
 have wY:f.heap[gb]?=W.heap[gb]?:=(C gb mw).trans ((J gb mw h.nd).trans (kVW gb A0));have v0:V.cell? ⟨gb,0,none⟩=some nv:=(aw (w:=W) (a:=⟨gb,0,none⟩) (kVW gb A0)).trans h.c0;have v2:V.cell? ⟨gb,2,none⟩=some (.int .i64 (m:Int)):=(aw (w:=W) (a:=⟨gb,2,none⟩) (kVW gb A0)).trans h.c2;have x1:f.cell? ⟨gb,1,none⟩=some bv:=(aw (w:=W) (a:=⟨gb,1,none⟩) wY).trans h.c1;have x2:f.cell? ⟨gb,2,none⟩=some (.int .i64 (m:Int)):=(aw (w:=W) (a:=⟨gb,2,none⟩) wY).trans h.c2
 have GM:f.ownsRow base 5 1 bv bn (List.replicate bn (qb8 m)):=vp h.br λk q=>by
  have A7:=Q k q;exact(C k mw).trans ((J k mw (λe=>h.nb k e q)).trans (kVW k A7))
 have q0:f.cell? ⟨W.heap.size,0,none⟩=some (.slice (some ⟨l,0,none⟩) (nn+1) F):=by rw[A];simp[go_sem,p0]
 have q1:f.cell? ⟨W.heap.size,1,none⟩=some (.slice none 0 0):=by rw[A];simp[go_sem,p1]
 have q2:f.cell? ⟨W.heap.size,2,none⟩=some (.int .i64 (m:Int)):=by rw[A];simp[go_sem,p2]
 have qz:Xf f W.heap.size:=λi=>by rw[A];simp[go_sem,pz i]
 obtain⟨j0,O,rU,NU,NS⟩:=info_parts vam;obtain⟨u,Y,s,dM,rI,YY⟩:=qwl (T:=51) underlying51 O rU NU NS rfl (W:=f) GM (show base<=f.heap.size by omega) (x:=qb8 m) rfl mw mw f.heap.size rfl;have L:=q9 YY;have VU:f.heap.size<s.heap.size:=L.size;have M:∀b,b<f.heap.size->bv.ownBlock≠some b->s.heap[b]?=f.heap[b]?:=L.block;have LC:bv.ownBlock=some u\/f.heap.size<u:=L.at';have wZ:u≠W.heap.size:=λe=>by rcases LC with o|o;exact DH (e ▸ o);omega
 have I:s.heap[W.heap.size]?=f.heap[W.heap.size]?:=M _ mw DH;have s0:s.cell? ⟨W.heap.size,0,none⟩=some (.slice (some ⟨l,0,none⟩) (nn+1) F):=(aw (w:=f) (a:=⟨W.heap.size,0,none⟩) I).trans q0;have s1:s.cell? ⟨W.heap.size,1,none⟩=some (.slice none 0 0):=(aw (w:=f) (a:=⟨W.heap.size,1,none⟩) I).trans q1;have s2:s.cell? ⟨W.heap.size,2,none⟩=some (.int .i64 (m:Int)):=(aw (w:=f) (a:=⟨W.heap.size,2,none⟩) I).trans q2;have sz:Xf s W.heap.size:=λi=>(cf (w:=f) (a:=⟨W.heap.size,i,none⟩) I).trans (qz i)
 obtain⟨B,y⟩:∃X:World,X=s.setCell ⟨W.heap.size,1,none⟩ (.slice (some ⟨u,0,none⟩) (bn+1) Y):=⟨_,rfl⟩;have D:∀b,b≠W.heap.size->B.heap[b]?=s.heap[b]?:=λb hb=>by rw[y];exact bo _ ⟨W.heap.size,1,none⟩ _ b hb
 have QF:B.heap.size=s.heap.size:=by rw[y,lh]
 have m9:Below base W f:=by
  rw[A];exact Below.setCell ((Z.mono mw).trans K.bel) (by show base<=W.heap.size;omega) _
 have fN:Below base W B:=by
  rw[y];exact Below.setCell (m9.trans L.bel) (by show base<=W.heap.size;omega) _
 have keepB:∀b,b<W.heap.size->nv.ownBlock≠some b->bv.ownBlock≠some b->B.heap[b]?=W.heap[b]?:=λb hb o P=>(D b mw).trans ((M b mw P).trans ((C b mw).trans ((J b mw o).trans (kVW b hb))))
 have VF:∃cur,B.heap[W.heap.size]?=some (.cells cur 146 (0,0)):=by
  have tV:V.heap[W.heap.size]?=some (.cells #[.slice none 0 0,.slice none 0 0,.int .i64 (m:Int)] 146 (0,0)):=by rw[E];exact heap_alloc_new W _
  have t5:=G.trans tV;have ZY:f.heap[W.heap.size]?=some (.cells (Array.setIfInBounds #[.slice none 0 0,.slice none 0 0,.int .i64 (m:Int)] 0 (.slice (some ⟨l,0,none⟩) (nn+1) F)) 146 (0,0)):=by rw[A];simp[World.setCell,ir,t5]
  have t6:=I.trans ZY;refine⟨Array.setIfInBounds (Array.setIfInBounds #[.slice none 0 0,.slice none 0 0,.int .i64 (m:Int)] 0 (.slice (some ⟨l,0,none⟩) (nn+1) F)) 1 (.slice (some ⟨u,0,none⟩) (bn+1) Y), ?_⟩;rw[y];simp[World.setCell,ir,t6]
 have HFM:Hid (FmAt base B W.heap.size m (.slice (some ⟨l,0,none⟩) (nn+1) F) (.slice (some ⟨u,0,none⟩) (bn+1) Y) (nn+1) (bn+1) (List.replicate (nn+1) (qbx m)) (List.replicate (bn+1) (qb8 m))):=qd (by
  have r5:=q9 t7;have r6:=q9 rI;rw[vc8]at r5 r6;refine⟨mw,VF,by rw[y];simp[go_sem,s0],by rw[y];simp[go_sem,s1],by rw[y];simp[go_sem,s2],λi=>by rw[y];simp[go_sem,sz i], ?_, ?_,λe=>U (by simpa [Value.ownBlock]using e),λe=>wZ (by simpa [Value.ownBlock]using e),λk q A7=>?_⟩
  ·refine vp r5 λk q=>?_
   obtain rfl:l=k:=by simpa [Value.ownBlock]using q
   exact(D l U).trans ((M l mw AA).trans (C l U))
  ·refine vp r6 λk q=>?_
   obtain rfl:u=k:=by simpa [Value.ownBlock]using q
   exact D u wZ
  ·obtain rfl:l=k:=by simpa [Value.ownBlock]using q
   obtain rfl:u=l:=by simpa [Value.ownBlock]using A7
   rcases LC with o|o
   ·exact AA o
   ·have:=S.1;omega)
 have HLG:Hid (LgAt base W B nv bv m):=qd ⟨fN,mw,keepB,λb hb=>by
   have hl:=mV b hb;have bS:bv.ownBlock≠some b:=λe=>h.nb b hb e
   obtain⟨⟨cur,o⟩,P⟩:=K.old b hb;have hx:B.heap[b]?=r.heap[b]?:=(D b mw).trans ((M b mw bS).trans (C b mw))
   exact⟨⟨cur,hx.trans o⟩,λj O=>(aw (w:=r) (a:=⟨b,j,none⟩) hx).trans (P j ((aw (w:=W) (a:=⟨b,j,none⟩) (kVW b hl)).trans O))⟩,λb hb=>by
   have hl:=Q b hb;have bS:nv.ownBlock≠some b:=λe=>h.nb b e hb
   obtain⟨⟨cur,o⟩,P⟩:=L.old b hb;have hx5:f.heap[b]?=W.heap[b]?:=(C b mw).trans ((J b mw bS).trans (kVW b hl))
   exact⟨⟨cur,(D b mw).trans o⟩,λj O=>(aw (w:=s) (a:=⟨b,j,none⟩) (D b mw)).trans (P j ((aw (w:=W) (a:=⟨b,j,none⟩) hx5).trans O))⟩⟩
 have eC:Hid ((∀k,(Value.slice (some ⟨l,0,none⟩) (nn+1) F).ownBlock=some k->nv.ownBlock=some k\/W.heap.size<=k)/\∀k,(Value.slice (some ⟨u,0,none⟩) (bn+1) Y).ownBlock=some k->bv.ownBlock=some k\/W.heap.size<=k):=qd ⟨λk q=>by
   obtain rfl:l=k:=by simpa [Value.ownBlock]using q
   exact S.2.imp id (λ_=>mw),λk q=>by
   obtain rfl:u=k:=by simpa [Value.ownBlock]using q
   exact LC.imp id (λ_=>mw)⟩
 have HV:=qd E;have LY:=qd A;have HX6:=qd y;have g0:=h.c0;have g2:=h.c2;obtain⟨na,nc,rfl⟩:=OP;obtain⟨ba,bc,rfl⟩:=PU;unfold qbx at nW;unfold qb8 at dM;have n1:¬gb=W.heap.size:=mw;have n2:¬W.heap.size=gb:=mw;have n3:¬gb=V.heap.size:=mw;have n4:gb<V.heap.size:=mw;have n5:W.heap.size<V.heap.size:=mw;have n6:gb<f.heap.size:=mw;have n7:¬gb=f.heap.size:=mw;have n8:W.heap.size<r.heap.size:=mw;have n9:W.heap.size<s.heap.size:=mw;clear h Z AN XC t7 oK K mV Q OQ DH J S U AA A C G kVW wY GM rI YY L M LC wZ I y D m9 fN keepB E QG QF VF;go_enter func129,ntmps129
 go_wp2_with fail
 rw[←q9 HV]
 go_region
 all_goals go_wp2_with fail
 all_goals rw[←q9 LY]
 all_goals go_region
 all_goals go_wp2_with fail
 all_goals rw[←q9 HX6]
 all_goals go_ret
 all_goals exact⟨rfl,⟨_,_,q9 HFM,eC.1,eC.2⟩,q9 HLG⟩
end
section
attribute [local go_sem ↓] vk
theorem vg8:(prog.info? 86).map (λi=>(i.zero,i.size,i.bytes))=some (some (.pointer none),1,8):=nl
theorem zo{size:Nat}{U:World}(h:U.ownsRow base e size v n xs)(a:v.ownBlock=some k):∃c,U.heap[k]?=some (.cells c e (0,0)):=by
 rcases h.2 with⟨rfl,_⟩|⟨g,cap,cur,rfl,_,f,_⟩
 ·cases a
 ·obtain rfl:g=k:=by simpa [Value.ownBlock]using a
  exact⟨cur,f⟩
theorem qao{a:Nat}{c d:Array Value}(h:W.heap[k]?=some (.cells c a (0,0)))(f:W.heap[k]?=some (.cells d b (0,0))):a=b:=by
 rw[h]at f;injection f with f;injection f with _ f _
theorem ve4{T:Nat}(h:W.ownsRow base T 1 v n (List.replicate n x))(c:n<=1000000000)(l:∀k,v.ownBlock=some k->N k):MkS N T W v x:=by
 rcases h.2 with⟨rfl,o⟩|⟨g,cap,cur,rfl,_,f,_⟩
 ·exact⟨none,0,0,rfl,mw,λj a=>mw⟩
 ·refine⟨_,n,cap,rfl,c,λj a=>⟨g,cur,rfl,l g rfl,f, ?_⟩⟩
  rw[World.ownsRow.cellAt h j mw,List.getElem?_replicate,bh a]
theorem FmAt.hd(h:FmAt base W gb m nv bv nn bn (List.replicate nn (qbx m)) (List.replicate bn (qb8 m)))(a:nn<=1000000000)(hb:bn<=1000000000)(l:N gb)(f:∀k,nv.ownBlock=some k->N k)(c:∀k,bv.ownBlock=some k->N k):HdAt N W gb m:=
 ⟨l,h.ty,⟨nv,bv,h.c0,h.c1,ve4 h.nr a f,ve4 h.br hb c⟩,h.c2⟩
section
variable {N:Nat->Prop} {base:Nat} {W W':World} {gb m nn bn b:Nat} {nv bv:Value} {nxs bxs:List Value}
theorem vkx(h:HdAt N W b m)(y:FmAt base W gb m nv bv nn bn nxs bxs)(q:LgAt base W W' nv bv m):HdAt N W' b m:=by
 obtain⟨cur,C⟩:=h.ty
 have J:nv.ownBlock≠some b:=λe=>by
  obtain⟨c,f⟩:=zo y.nr e;exact absurd (qao C f) nh
 have bS:bv.ownBlock≠some b:=λe=>by
  obtain⟨c,f⟩:=zo y.br e;exact absurd (qao C f) nh
 have hb:=q.block b (gR C) J bS;have f:∀i,W'.cell? ⟨b,i,none⟩=W.cell? ⟨b,i,none⟩:=λi=>aw (w:=W) (a:=⟨b,i,none⟩) hb
 obtain⟨M,b1,S,Q,⟨a2,L,c2,Y,J7,P⟩,a3,K,Z,X,U,O⟩:=h.lists;refine⟨h.nb,⟨cur,hb.trans C⟩,⟨M,b1,(f 0).trans S,(f 1).trans Q,⟨a2,L,c2,Y,J7,λj E=>?_⟩,a3,K,Z,X,U,λj E=>?_⟩,(f 2).trans h.mark⟩
 ·obtain⟨k,F,r,u,l,s⟩:=P j E
  have A:bv.ownBlock≠some k:=λe=>by
   obtain⟨c,f⟩:=zo y.br e;exact absurd (qao l f) nh
  by_cases B:nv.ownBlock=some k
  ·obtain⟨⟨G,D⟩,I⟩:=q.oldN k B
   exact⟨k,G,r,u,D,I j s⟩
  ·have o:=q.block k (gR l) B A
   exact⟨k,F,r,u,o.trans l,(aw (w:=W) (a:=⟨k,j,none⟩) o).trans s⟩
 ·obtain⟨k,F,r,u,l,s⟩:=O j E
  have B:nv.ownBlock≠some k:=λe=>by
   obtain⟨c,f⟩:=zo y.nr e;exact absurd (qao l f) nh
  by_cases A:bv.ownBlock=some k
  ·obtain⟨⟨G,D⟩,I⟩:=q.oldB k A
   exact⟨k,G,r,u,D,I j s⟩
  ·have o:=q.block k (gR l) B A
   exact⟨k,F,r,u,o.trans l,(aw (w:=W) (a:=⟨k,j,none⟩) o).trans s⟩
end
structure HsR(w:World)(R:Nat->Prop)(W:World)(hv:Value)(hs:List (Nat×Nat)):Prop where
 at':HsAt w W hv hs
 each:∀x∈hs,HdAt (λk=>(w.heap.size<k/\hv.ownBlock≠some k)/\¬R k) W x.1 x.2
 hf:∀k,hv.ownBlock=some k\/w.heap.size=k->¬R k
structure KpAt(w:World)(R0 R:Nat->Prop)(W0:World)(m:Nat)(W:World)(hv:Value)(hs:List (Nat×Nat))(gb:Nat)(nv bv:Value)(nn bn:Nat):Prop where
 bel:Below w.heap.size w W
 c0:W.cell? ⟨w.heap.size,0,none⟩=some (.slice none 0 0)
 c1:W.cell? ⟨w.heap.size,1,none⟩=some hv
 fz:∀i,W.frozen? ⟨w.heap.size,i,none⟩=false
 row:W.ownsRow (w.heap.size+1) 86 1 hv hs.length (hs.map hpV)
 fam:FmAt (w.heap.size+1) W gb m nv bv nn bn (List.replicate nn (qbx m)) (List.replicate bn (qb8 m))
 gne:hv.ownBlock≠some gb
 each:∀h∈hs,(h.2=m/\HdAt (λk=>(w.heap.size<k/\hv.ownBlock≠some k)/\¬R k) W h.1 m)\/HdAt (λk=>((w.heap.size<k/\hv.ownBlock≠some k)/\¬R k)/\¬R0 k/\k<W0.heap.size) W h.1 h.2
 zz:W0.heap.size<=W.heap.size
 fr:∀k,R k->W.heap[k]?=W0.heap[k]?
 rz:∀k,R k->k<W0.heap.size
 nf:∀k,nv.ownBlock=some k\/bv.ownBlock=some k\/gb=k->(R0 k/\¬R k)\/W0.heap.size<=k
 hf:∀k,hv.ownBlock=some k\/w.heap.size=k->¬R k
section
variable {w W W' W5 W0:World} {R0 R:Nat->Prop} {m gb gb' nn bn g cap:Nat} {hv nv bv nv' bv':Value} {hs:List (Nat×Nat)}
theorem KpAt.lt(h:KpAt w R0 R W0 m W hv hs gb nv bv nn bn):w.heap.size<W.heap.size:=by
 have:=h.fam.lt;have:=h.fam.lo;omega
theorem KpAt.nR(h:KpAt w R0 R W0 m W hv hs gb nv bv nn bn)(a:R k):nv.ownBlock≠some k/\bv.ownBlock≠some k/\gb≠k:=by
 have key:¬(nv.ownBlock=some k\/bv.ownBlock=some k\/gb=k):=λe=>by
  have:=h.rz k a;rcases h.nf k e with c|c
  ·exact c.2 a
  ·omega
 exact⟨λe=>key (.inl e),λe=>key (.inr (.inl e)),λe=>key (.inr (.inr e))⟩
theorem KpAt.n0(h:KpAt w R0 R W0 m W hv hs gb nv bv nn bn)(c:¬R0 k)(f:k<W0.heap.size):nv.ownBlock≠some k/\bv.ownBlock≠some k:=by
 have key:¬(nv.ownBlock=some k\/bv.ownBlock=some k\/gb=k):=λe=>by
  rcases h.nf k e with a|a
  ·exact c a.1
  ·omega
 exact⟨λe=>key (.inl e),λe=>key (.inr (.inl e))⟩
theorem KpAt.long(h:KpAt w R0 R W0 m W hv hs gb nv bv nn bn)(B:FmAt (w.heap.size+1) W' W.heap.size m nv' bv' (nn+1) (bn+1) (List.replicate (nn+1) (qbx m)) (List.replicate (bn+1) (qb8 m)))(l:LgAt (w.heap.size+1) W W' nv bv m)(y:∀k,nv'.ownBlock=some k->nv.ownBlock=some k\/W.heap.size<=k)(hb:∀k,bv'.ownBlock=some k->bv.ownBlock=some k\/W.heap.size<=k):KpAt w R0 R W0 m W' hv hs W.heap.size nv' bv' (nn+1) (bn+1):=by
 have D:=h.lt;have E:=h.zz;have r:∀k,nv.ownBlock=some k->w.heap.size+1<=k:=λk f=>(h.fam.nr.lt k f).1
 have C:∀k,bv.ownBlock=some k->w.heap.size+1<=k:=λk f=>(h.fam.br.lt k f).1
 have s:W'.heap[w.heap.size]?=W.heap[w.heap.size]?:=l.block _ D (λe=>by have:=r _ e;omega) (λe=>by have:=C _ e;omega);have o:∀i,W'.cell? ⟨w.heap.size,i,none⟩=W.cell? ⟨w.heap.size,i,none⟩:=λi=>aw (w:=W) (a:=⟨w.heap.size,i,none⟩) s
 refine⟨h.bel.trans (l.bel.mono mw),(o 0).trans h.c0,(o 1).trans h.c1,λi=>(cf (w:=W) (a:=⟨w.heap.size,i,none⟩) s).trans (h.fz i), ?_,B,λe=>?_,λx u=>?_,by have:=l.size;omega,λk f=>(l.block k (by have:=h.rz k f;omega) (h.nR f).1 (h.nR f).2.1).trans (h.fr k f),h.rz,λk f=>?_,h.hf⟩
 ·refine vp h.row λk f=>?_
  obtain⟨c,o⟩:=zo h.row f;refine l.block k (gR o) (λe=>?_) (λe=>?_)
  ·obtain⟨d,hd⟩:=zo h.fam.nr e
   exact absurd (qao o hd) nh
  ·obtain⟨d,hd⟩:=zo h.fam.br e
   exact absurd (qao o hd) nh
 ·have:=(h.row.lt _ e).2
  omega
 ·rcases h.each x u with⟨e,hd⟩|hd
  ·exact .inl ⟨e,vkx hd h.fam l⟩
  ·exact .inr (hd.keep (λb hb A=>l.block b A (h.n0 hb.2.1 hb.2.2).1 (h.n0 hb.2.1 hb.2.2).2) (λ_ h _=>h))
 ·rcases f with f|f|f
  ·rcases y k f with q|q
   ·exact h.nf k (.inl q)
   ·exact .inr mw
  ·rcases hb k f with q|q
   ·exact h.nf k (.inr (.inl q))
   ·exact .inr mw
  ·exact .inr mw
theorem KpAt.put(h:KpAt w R0 R W0 m W hv hs gb nv bv nn bn)(M:nn<=1000000000)(O:bn<=1000000000)(I:W5.ownsRow (w.heap.size+1) 86 1 (.slice (some ⟨g,0,none⟩) (hs.length+1) cap) (hs.length+1) (hs.map hpV++[.pointer (some ⟨gb,0,none⟩)]))(y:RoAt (w.heap.size+1) 86 W W5 hv g (.pointer (some ⟨gb,0,none⟩))):
  KpAt w R0 R W0 m (W5.setCell ⟨w.heap.size,1,none⟩ (.slice (some ⟨g,0,none⟩) (hs.length+1) cap)) (.slice (some ⟨g,0,none⟩) (hs.length+1) cap) (hs++[(gb,m)]) gb nv bv nn bn:=by
 have Y:=h.lt;have bD:=h.zz;obtain⟨X,o⟩:∃X:World,X=W5.setCell ⟨w.heap.size,1,none⟩ (.slice (some ⟨g,0,none⟩) (hs.length+1) cap):=⟨_,rfl⟩;rw[←o];have Q:∀k,hv.ownBlock=some k->w.heap.size+1<=k/\k<W.heap.size:=λk f=>h.row.lt k f
 have S:hv.ownBlock≠some w.heap.size:=λe=>by have:=(Q _ e).1;omega
 have Z:w.heap.size+1<=g:=(I.lt g rfl).1;have G:∀b,b≠w.heap.size->X.heap[b]?=W5.heap[b]?:=λb hb=>by rw[o];exact bo _ ⟨w.heap.size,1,none⟩ _ b hb
 have u:∀b,b<W.heap.size->b≠w.heap.size->hv.ownBlock≠some b->X.heap[b]?=W.heap[b]?:=λb hb q P=>(G b q).trans (y.block b hb P)
 have L:W5.heap[w.heap.size]?=W.heap[w.heap.size]?:=y.block _ Y S;have K:∀i,W5.cell? ⟨w.heap.size,i,none⟩=W.cell? ⟨w.heap.size,i,none⟩:=λi=>aw (w:=W) (a:=⟨w.heap.size,i,none⟩) L
 have s:∀b,b<W.heap.size->hv.ownBlock≠some b->(Value.slice (some ⟨g,0,none⟩) (hs.length+1) cap).ownBlock≠some b:=λb hb C e=>by
  obtain rfl:g=b:=by simpa [Value.ownBlock]using e
  rcases y.at' with q|q
  ·exact C q
  ·omega
 have glt:=h.fam.lt;have glo:=h.fam.lo
 have r:∀k,nv.ownBlock=some k->k<W.heap.size/\w.heap.size+1<=k/\hv.ownBlock≠some k:=λk f=>⟨(h.fam.nr.lt k f).2,(h.fam.nr.lt k f).1,λe=>by
  obtain⟨c,D⟩:=zo h.row e;obtain⟨d,hd⟩:=zo h.fam.nr f
  exact absurd (qao D hd) nh⟩
 have A:∀k,bv.ownBlock=some k->k<W.heap.size/\w.heap.size+1<=k/\hv.ownBlock≠some k:=λk f=>⟨(h.fam.br.lt k f).2,(h.fam.br.lt k f).1,λe=>by
  obtain⟨c,D⟩:=zo h.row e;obtain⟨d,hd⟩:=zo h.fam.br f
  exact absurd (qao D hd) nh⟩
 have F:X.heap[gb]?=W.heap[gb]?:=u gb glt mw h.gne;have E:∀i,X.cell? ⟨gb,i,none⟩=W.cell? ⟨gb,i,none⟩:=λi=>aw (w:=W) (a:=⟨gb,i,none⟩) F
 have J:FmAt (w.heap.size+1) X gb m nv bv nn bn (List.replicate nn (qbx m)) (List.replicate bn (qb8 m)):=by
  obtain⟨cur,U⟩:=h.fam.ty;exact⟨glo,⟨cur,F.trans U⟩,(E 0).trans h.fam.c0,(E 1).trans h.fam.c1,(E 2).trans h.fam.c2,λi=>(cf (w:=W) (a:=⟨gb,i,none⟩) F).trans (h.fam.fz i),vp h.fam.nr λk f=>u k (r k f).1 (by have:=(r k f).2.1;omega) (r k f).2.2,vp h.fam.br λk f=>u k (A k f).1 (by have:=(A k f).2.1;omega) (A k f).2.2,h.fam.nd,h.fam.bd,h.fam.nb⟩
 refine⟨?_, ?_, ?_,λi=>?_, ?_,J,s gb glt h.gne,λx B=>?_,by have:=y.size;rw[o,lh];omega,λk f=>(u k (by have:=h.rz k f;omega) (λe=>h.hf k (.inr e.symm) f) (λe=>h.hf k (.inl e) f)).trans (h.fr k f),h.rz,h.nf,λk f=>?_⟩
 ·rw[o];exact Below.setCell (h.bel.trans (y.bel.mono mw)) nt _
 ·rw[o];simp[go_sem,K,h.c0]
 ·rw[o];simp[go_sem,K,h.c1]
 ·rw[o];simp[go_sem,(cf (w:=W) (a:=⟨w.heap.size,i,none⟩) L).trans (h.fz i)]
 ·rw[bu,dt]
  exact vp I λk f=>G k (by
   obtain rfl:g=k:=by simpa [Value.ownBlock]using f
   omega)
 ·rcases cr.1 B with B|B
  ·rcases h.each x B with⟨e,hd⟩|hd
   ·exact .inl ⟨e,hd.keep (λb hb l=>u b l mw hb.1.2) (λb hb l=>⟨⟨hb.1.1,s b l hb.1.2⟩,hb.2⟩)⟩
   ·exact .inr (hd.keep (λb hb l=>u b l mw hb.1.1.2) (λb hb l=>⟨⟨⟨hb.1.1.1,s b l hb.1.1.2⟩,hb.1.2⟩,hb.2⟩))
  ·obtain rfl:=cp.1 B
   exact .inl ⟨rfl,J.hd M O ⟨⟨mw,s gb glt h.gne⟩,λe=>(h.nR e).2.2 rfl⟩ (λk f=>⟨⟨by have:=(r k f).2.1;omega,s k (r k f).1 (r k f).2.2⟩,λe=>(h.nR e).1 f⟩) (λk f=>⟨⟨by have:=(A k f).2.1;omega,s k (A k f).1 (A k f).2.2⟩,λe=>(h.nR e).2.1 f⟩)⟩
 ·rcases f with f|f
  ·obtain rfl:g=k:=by simpa [Value.ownBlock]using f
   rcases y.at' with q|q
   ·exact h.hf g (.inl q)
   ·exact λe=>by have:=h.rz g e;omega
  ·exact h.hf k (.inr f)
theorem KpAt.done(h:KpAt w R0 R W0 m W hv hs gb nv bv nn bn)(c:∀x∈hs,x.2<=hs.length):HsR w R W hv hs:=by
 have each:∀x∈hs,HdAt (λk=>(w.heap.size<k/\hv.ownBlock≠some k)/\¬R k) W x.1 x.2:=λx a=>by
  rcases h.each x a with⟨e,hd⟩|hd
  ·rw[e];exact hd
  ·exact hd.keep (λ_ _ _=>rfl) (λ_ h _=>h.1)
 exact⟨⟨h.bel,h.lt,h.c0,h.c1,h.fz,h.row,λx a=>⟨(each x a).keep (λ_ _ _=>rfl) (λ_ h _=>h.1),c x a⟩⟩,each,h.hf⟩
end
end
section
attribute [local go_sem ↓] vk
theorem FmAt.mark{c:Nat}(h:FmAt base W gb c nv bv nn bn nxs bxs)(m:Nat):FmAt base (W.setCell ⟨gb,2,none⟩ (.int .i64 (m:Int))) gb m nv bv nn bn nxs bxs:=by
 obtain⟨cur,f⟩:=h.ty;have c2:=h.c2;refine⟨h.lo,⟨cur.setIfInBounds 2 (.int .i64 (m:Int)),by simp[World.setCell,ir,f]⟩,by simp[go_sem,h.c0],by simp[go_sem,h.c1],by simp[go_sem,c2],λi=>by simp[go_sem,h.fz i],vp h.nr λk a=>bo _ ⟨gb,2,none⟩ _ k (λe=>h.nd (by have e:k=gb:=e;rw[←e];exact a)),vp h.br λk a=>bo _ ⟨gb,2,none⟩ _ k (λe=>h.bd (by have e:k=gb:=e;rw[←e];exact a)),h.nd,h.bd,h.nb⟩
theorem vaq{w W W2:World}(h:HsR w R0 W hv hs)(u:∀k,R k->R0 k)(A:∀k,R k->k<W.heap.size)(E:hv.ownBlock≠some hb)(f:∀k,nv.ownBlock=some k\/bv.ownBlock=some k\/hb=k->R0 k/\¬R k)
  (y:FmAt (w.heap.size+1) W2 hb m nv bv nn bn (List.replicate nn (qbx m)) (List.replicate bn (qb8 m))) (l:MrkAt (w.heap.size+1) (W.setCell ⟨hb,2,none⟩ (.int .i64 (m:Int))) W2 nv bv):KpAt w R0 R W m W2 hv hs hb nv bv nn bn:=by
 have I:=y.lo;have o:∀k,¬R0 k->W2.heap[k]?=W.heap[k]?:=λk c=>(l.block k (λe=>c (f k (.inl e)).1) (λe=>c (f k (.inr (.inl e))).1)).trans (bo _ ⟨hb,2,none⟩ _ k (λe=>c (f k (.inr (.inr (Eq.symm e)))).1))
 have B:∀k,R k->W2.heap[k]?=W.heap[k]?:=λk c=>(l.block k (λe=>(f k (.inl e)).2 c) (λe=>(f k (.inr (.inl e))).2 c)).trans (bo _ ⟨hb,2,none⟩ _ k (λe=>(f k (.inr (.inr (Eq.symm e)))).2 c))
 have r:=o _ (h.hf _ (.inr rfl));have s:∀i,W2.cell? ⟨w.heap.size,i,none⟩=W.cell? ⟨w.heap.size,i,none⟩:=λi=>aw (w:=W) (a:=⟨w.heap.size,i,none⟩) r
 have G:W2.heap.size=W.heap.size:=by rw[l.size,lh]
 exact⟨(Below.setCell h.at'.bel (by show w.heap.size<=hb;omega) _).trans (l.bel.mono mw),(s 0).trans h.at'.c0,(s 1).trans h.at'.c1,λi=>(cf (w:=W) (a:=⟨w.heap.size,i,none⟩) r).trans (h.at'.fz i),vp h.at'.row λk c=>o k (h.hf k (.inl c)),y,E,λx C=>.inr ((h.each x C).keep (λb F _=>o b F.2) (λb q D=>⟨⟨q.1,λe=>q.2 (u b e)⟩,q.2,D⟩)),mw,B,A,λk c=>.inl (f k c),λk c e=>h.hf k c (u k e)⟩
theorem vjc(h:HsR w R0 W hv hs)(hR:∀k,R k->R0 k)(rz:∀k,R k->k<W.heap.size)(u:FmAt (w.heap.size+1) W hb 0 nv bv nn bn nxs bxs)(nf:∀k,nv.ownBlock=some k\/bv.ownBlock=some k\/hb=k->R0 k/\¬R k)(hn:hs.length<=19300000000000)(rZ:nn<=100000000)(rC:bn<=100000000):
  nz 84 #[.pointer (some ⟨w.heap.size,0,none⟩),.pointer (some ⟨hb,0,none⟩)] W λe W'=>e=.returned (.tuple #[])/\∃hv' hs',HsR w R W' hv' hs'/\hs'.length=hs.length+4/\(∀k,R k->W'.heap[k]?=W.heap[k]?)/\W.heap.size<=W'.heap.size:=by
 obtain⟨n,D⟩:∃n,hs.length=n:=⟨_,rfl⟩;have S:=qd D;have c1:=h.at'.c1;have KM:=h.at'.lt;have b2:=u.c2;have bz:=u.fz;have bl:=u.lt;obtain⟨a,c,rfl⟩:=h.at'.form
 have hT:(Value.slice a hs.length c).ownBlock≠some hb:=λe=>by
  obtain⟨d,hd⟩:=zo h.at'.row e;obtain⟨f,B⟩:=u.ty;exact absurd (qao hd B) nh
 have Q:=qd (quw (u.mark (n+1)) mw mw mw);have J:Hid (∀W2,FmAt (w.heap.size+1) W2 hb (n+1) nv bv nn bn (List.replicate nn (qbx (n+1))) (List.replicate bn (qb8 (n+1)))->MrkAt (w.heap.size+1) (W.setCell ⟨hb,2,none⟩ (.int .i64 ((n+1:Nat):Int))) W2 nv bv->KpAt w R0 R W (n+1) W2 (.slice a hs.length c) hs hb nv bv nn bn):=qd λW2 F E=>vaq h hR rz hT nf F E
 have HM:Hid (∀x∈hs,x.2<=n+1):=qd λx r=>by have:=(h.at'.each x r).2;omega
 rw[D]at c1 J hn ⊢;have nwb:¬w.heap.size=hb:=by have:=u.lo;omega
 have nbw:¬hb=w.heap.size:=mw;have GL:((n+1:Nat):Int)=(n:Int)+1:=mw;rw[GL]at Q J;clear h u D hT nf hR rz;go_enter func84,ntmps84
 have PUT:Hid (∀(U:World) (hv:Value) (l:List (Nat×Nat)) (gb:Nat) (nv bv:Value) (p q:Nat),KpAt w R0 R W (n+1) U hv l gb nv bv p q->p<=1000000000->q<=1000000000->l.length<=19300000000005->∃g cap o,(appR #[59,59] 59 #[hv,.slice (some ⟨U.heap.size,0,none⟩) 1 1]).run prog (U.alloc (.cells #[.pointer (some ⟨gb,0,none⟩)] 86))=.ok (.slice (some ⟨g,0,none⟩) (l.length+1) cap) o/\Xc o w.heap.size 1 hv/\(Xf o w.heap.size)/\w.heap.size<o.heap.size/\Hid (KpAt w R0 R W (n+1) (o.setCell ⟨w.heap.size,1,none⟩ (.slice (some ⟨g,0,none⟩) (l.length+1) cap)) (.slice (some ⟨g,0,none⟩) (l.length+1) cap) (l++[(gb,n+1)]) gb nv bv p q)):=qd λU hv l gb nv bv p q s hp hq D=>by
  obtain⟨i0,hi,F2,B9,D8⟩:=info_parts vg8;have A0:=s.lt;obtain⟨g,cap,o,hr,HR,HO⟩:=vcf (T:=59) underlying59 hi F2 B9 D8 rfl (W:=U) s.row mw (x:=.pointer (some ⟨gb,0,none⟩)) rfl mw mw U.heap.size rfl;have M:=q9 HO;have OA:hv.ownBlock≠some w.heap.size:=λe=>by have:=(s.row.lt _ e).1;omega
  have EO:=M.block _ A0 OA;exact⟨g,cap,o,hr,(aw (w:=U) (a:=⟨w.heap.size,1,none⟩) EO).trans s.c1,λi=>(cf (w:=U) (a:=⟨w.heap.size,i,none⟩) EO).trans (s.fz i),by have:=M.size;omega,qd (s.put hp hq HR M)⟩
 go_wp2_with(go_at_call 128;refine Q.mono ?_;rintro e Z⟨rfl,I,oY⟩;have C:=q9 J Z I oY;have J9:=qd C;obtain⟨g3,IT,w3,AI,r3,z3,l3,G⟩:=q9 PUT Z _ _ _ _ _ _ _ C mw mw (by have:=q9 S;omega);rw[q9 S]at AI G;have d1:=C.c1;have dl:=C.lt;clear I oY C)
 obtain⟨X3,XB⟩:∃X:World,X=w3.setCell ⟨w.heap.size,1,none⟩ (.slice (some ⟨g3,0,none⟩) (n+1) IT):=⟨_,rfl⟩;rw[←XB]at G ⊢;clear XB AI r3 z3 l3 J9 d1 dl
 go_loopw [4,5] (λgp i wr=>∃(k gb p q:Nat) (hv nv bv:Value) (l:List (Nat×Nat)),k<=3/\i=.int .i64 k/\gp=.pointer (some ⟨gb,0,none⟩)/\p=nn+k/\q=bn+k/\Hid (KpAt w R0 R W (n+1) wr hv l gb nv bv p q)/\Hid (l.length=n+1+k/\∀x∈l,x.2<=n+1)) (λ_ i _=>3 - (intOf i).toNat)
 case atStart=>exact⟨0,hb,nn,bn,_,nv,bv,hs++[(hb,n+1)],mw,rfl,rfl,rfl,rfl,G,qd ⟨by have:=q9 S;simp;omega,λx r=>by rcases cr.1 r with h|h;exact q9 HM x h;rw[cp.1 h];exact nt⟩⟩
 case round=>
  clear G Q J b2 bz bl c1;obtain⟨k,gb,p,q,hv,nv,bv,l,s,rfl,rfl,hp,hq,y,A⟩:=hrel
  by_cases D7:k<3
  ·have A5:(k:Int)<3:=mw
   have LG:=qd (qqj y.fam mw mw mw)
   have PUT':Hid (∀W',(∃nv' bv',FmAt (w.heap.size+1) W' wr.heap.size (n+1) nv' bv' (p+1) (q+1) (List.replicate (p+1) (qbx (n+1))) (List.replicate (q+1) (qb8 (n+1)))/\(∀k,nv'.ownBlock=some k->nv.ownBlock=some k\/wr.heap.size<=k)/\∀k,bv'.ownBlock=some k->bv.ownBlock=some k\/wr.heap.size<=k)->LgAt (w.heap.size+1) wr W' nv bv (n+1)->∃(g cap:Nat) (o:World) (nv' bv':Value),(appR #[59,59] 59 #[hv,.slice (some ⟨W'.heap.size,0,none⟩) 1 1]).run prog (W'.alloc (.cells #[.pointer (some ⟨wr.heap.size,0,none⟩)] 86))=.ok (.slice (some ⟨g,0,none⟩) (l.length+1) cap) o/\Xc o w.heap.size 1 hv/\(Xf o w.heap.size)/\w.heap.size<o.heap.size/\Xc W' w.heap.size 1 hv/\w.heap.size<W'.heap.size/\Hid (KpAt w R0 R W (n+1) (o.setCell ⟨w.heap.size,1,none⟩ (.slice (some ⟨g,0,none⟩) (l.length+1) cap)) (.slice (some ⟨g,0,none⟩) (l.length+1) cap) (l++[(wr.heap.size,n+1)]) wr.heap.size nv' bv' (p+1) (q+1))):=qd λW' B FX=>by
    obtain⟨nv',bv',B,F6,I⟩:=B;have P:=(q9 y).long B FX F6 I;obtain⟨g,cap,o,F,E,h3,h4,h5⟩:=q9 PUT W' hv l wr.heap.size nv' bv' (p+1) (q+1) P mw mw (by have:=(q9 A).1;omega);exact⟨g,cap,o,nv',bv',F,E,h3,h4,P.c1,P.lt,h5⟩
   have L:∃a c,hv=.slice a l.length c:=by
    rcases(q9 y).row.2 with⟨rfl,h0⟩|⟨g,cap,cur,rfl,_⟩
    ·exact⟨none,0,by rw[h0]⟩
    ·exact⟨_,_,rfl⟩
   obtain⟨va,vc,rfl⟩:=L
   go_wp2_with(go_at_call 129;refine LG.mono ?_;rintro e w4⟨rfl,tZ,WM⟩;obtain⟨g6,cT,w6,K,O,dM,r6,z6,l6,d6,dl6,Y⟩:=q9 PUT' w4 tZ WM;clear tZ WM)
   go_roundw
   case rel=>exact⟨k+1,wr.heap.size,p+1,q+1,_,K,O,l++[(wr.heap.size,n+1)],mw,by go_num,rfl,mw,mw,Y,qd ⟨by have:=(q9 A).1;simp;omega,λx r=>by rcases cr.1 r with h|h;exact A.2 x h;rw[cp.1 h];exact nt⟩⟩
   case measure=>simp[intOf];omega
  ·have U6:k=3:=mw
   subst U6;have U5:¬((3:Nat):Int)<3:=mw;have HD:Hid (∃hv' hs',HsR w R wr hv' hs'/\hs'.length=n+4/\(∀k,R k->wr.heap[k]?=W.heap[k]?)/\W.heap.size<=wr.heap.size):=qd ⟨hv,l,y.done (λx r=>by have F:=(q9 A).2 x r;have E:=(q9 A).1;omega),by have:=(q9 A).1;omega,y.fr,y.zz⟩
   go_wp2_with fail
   first
    | exact⟨rfl,q9 HD⟩
    | (go_end0;exact⟨rfl,q9 HD⟩)
end
end Go.Proofs.YtfkcaldjphakpaaGreatDoor
