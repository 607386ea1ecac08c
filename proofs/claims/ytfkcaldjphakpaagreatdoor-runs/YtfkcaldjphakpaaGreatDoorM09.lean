/- The document's answer -/
import Derived.Test.YtfkcaldjphakpaaGreatDoorM08
import Derived.Test.YtfkcaldjphakpaaGreatDoorM01
import Derived.Deep.AppendLies
set_option maxHeartbeats 64000000
set_option maxRecDepth 100000
namespace Go.Proofs.YtfkcaldjphakpaaGreatDoor
open Go.RowKit Go.Proofs.Tryz
variable{c':Array Value}{x:Ast}{N NB S X s:mu}{at' c en er k kind n o pl z:Int}{ks:List Int}{vs:List Value}{L g j m m' op rb:Nat}{fr':Nat×Nat}{st st':St}{f:St->Res}{ty ty':TypeId}{b1 b2:UInt8}{iv lv nv v:Value}{a w w':World}
section
structure RN where
 op:List UInt8
 at':Int
 ins:List Nat
 str:List UInt8
 esc:List UInt8
 texts:List (List UInt8)
 num:Int
 neg:Bool
 cls:Int
def kw(n:RN)(iv lv:Value):List Value:=[.string (BS n.op),.int .i64 n.at',iv,.string (BS n.str),.string (BS n.esc),lv,.int .i64 n.num,.bool n.neg,.int .i64 n.cls]
def gK(l:List Nat):List Value:=l.map λ(i:Nat)=>Value.int .i64 (Int.ofNat i)
def gJ(w:World)(rb k:Nat):Prop:=k=rb\/∃nv,w.cell? ⟨rb,0,none⟩=some nv/\nv.ownBlock=some k
structure TKept(rb:Nat)(w w':World):Prop where
 os:w'.os=w.os
 tape:w'.tape=w.tape
 output:w'.output=w.output
 size:w.heap.size<=w'.heap.size
 block:∀k,k<w.heap.size->¬gJ w rb k->w'.heap[k]?=w.heap[k]?
 own:∀k,k<w.heap.size->gJ w' rb k->gJ w rb k
theorem TKept.refl(rb:Nat)(w:World):TKept rb w w:=⟨rfl,rfl,rfl,nt,λ_ _ _=>rfl,λ_ _ h=>h⟩
theorem TKept.trans{b c:World}(h:TKept rb a b)(k:TKept rb b c):TKept rb a c:=
 ⟨k.os.trans h.os,k.tape.trans h.tape,k.output.trans h.output,bs h.size k.size,
  λi e p=>(k.block i (bg e h.size) (λl=>p (h.own i e l))).trans (h.block i e p),
  λi e l=>h.own i e (k.own i (bg e h.size) l)⟩
theorem TKept.of_kept(h:Kept rb w w')(p:w'.cell? ⟨rb,0,none⟩=w.cell? ⟨rb,0,none⟩):TKept rb w w':=by
 refine⟨h.os,h.tape,h.output,h.size,λk i l=>h.block k i (λe=>l (.inl e)),λk i b=>?_⟩;rcases b with b|⟨nv,r,q⟩
 ·exact .inl b
 ·exact .inr ⟨nv,p ▸ r,q⟩
theorem TKept.of_below(h:Xb w w')(b:rb<w.heap.size):TKept rb w w':=TKept.of_kept (Kept.of_below h) ((qj h).1 _ _ b)
theorem TKept.alloc(h:TKept rb a w)(b:rb<a.heap.size)(o:Obj):TKept rb a (w.alloc o):=h.trans (TKept.of_below (nw.alloc nt o) (bg b h.size))
theorem TKept.drew(h:TKept rb a w):TKept rb a w.drew:=⟨h.os,h.tape,h.output,h.size,h.block,h.own⟩
theorem TKept.far(h:TKept rb a w)(y:rb<a.heap.size){p:Addr}(t:a.heap.size<=p.block)(u:Value):TKept rb a (w.setCell p u):=by
 have l:(w.setCell p u).cell? ⟨rb,0,none⟩=w.cell? ⟨rb,0,none⟩:=aw (w:=w) (w':=w.setCell p u) (a:=⟨rb,0,none⟩) (bo w p u rb mw);refine⟨h.os,h.tape,h.output,by have:=h.size;simp;omega,λk e i=>?_,λk e b=>?_⟩
 ·rw[bo w p u k mw];exact h.block k e i
 ·refine h.own k e ?_
  rcases b with b|⟨nv,r,q⟩
  ·exact .inl b
  ·exact .inr ⟨nv,l ▸ r,q⟩
def RowOf(w:World)(rb:Nat)(ty:TypeId)(v:Value)(vs:List Value):Prop:=
 (vs=[]/\v=.slice none 0 0)\/∃g cap c fr,v=.slice (some ⟨g,0,none⟩) vs.length cap/\rb<g/\w.heap[g]?=some (.cells c ty fr)/\¬gJ w rb g/\∀(j:Nat) (u:Value),vs[j]?=some u->c[j]?=some u
theorem RowOf.kept(h:RowOf w rb ty v vs)(e:TKept rb w w'):RowOf w' rb ty v vs:=by
 rcases h with h|⟨g,cap,c,fr,p,r,i,b,q⟩
 ·exact .inl h
 ·have l:=(cg.1 i).1
  exact .inr ⟨g,cap,c,fr,p,r,(e.block g l b).trans i,λh=>b (e.own g l h),q⟩
theorem RowOf.far(h:RowOf w rb ty v vs)(l:w.heap[L]?=some (.cells c' ty' fr'))(b:ty≠ty')(C:L≠rb)(j:Nat)(u:Value):RowOf (w.setCell ⟨L,j,none⟩ u) rb ty v vs:=by
 rcases h with h|⟨g,cap,c,fr,p,t,i,r,q⟩
 ·exact .inl h
 ·have E:g≠L:=λe=>by subst e;rw[i]at l;injection l with e;injection e with _ B _;exact b B
  have D:(w.setCell ⟨L,j,none⟩ u).cell? ⟨rb,0,none⟩=w.cell? ⟨rb,0,none⟩:=aw (w:=w) (a:=⟨rb,0,none⟩) (bo w ⟨L,j,none⟩ u rb (λe=>C e.symm));refine .inr ⟨g,cap,c,fr,p,t,(bo w ⟨L,j,none⟩ u g E).trans i,λh=>r ?_,q⟩;rcases h with h|⟨nv,A,y⟩
  ·exact .inl h
  ·exact .inr ⟨nv,D ▸ A,y⟩
theorem vp{base e size n:Nat}{xs:List Value}(h:w.ownsRow base e size v n xs)(i:∀g,v.ownBlock=some g->w'.heap[g]?=w.heap[g]?):w'.ownsRow base e size v n xs:=by
 refine⟨h.1, ?_⟩;rcases h.2 with b|⟨g,cap,cur,rfl,l,p,rest⟩
 ·exact .inl b
 ·exact .inr ⟨g,cap,cur,rfl,l,(i g rfl).trans p,rest⟩
def NodesAt(w:World)(rb:Nat)(nv:Value)(ns:List RN):Prop:=
 ∃rs:List (Value×Value),rs.length=ns.length/\w.ownsRow (rb+1) 241 9 nv ns.length ((ns.zip rs).flatMap λx=>kw x.1 x.2.1 x.2.2) /\
  ∀(j:Nat) (n:RN) (r:Value×Value),ns[j]?=some n->rs[j]?=some r->RowOf w rb 3 r.1 (gK n.ins)/\RowOf w rb 9 r.2 (qu n.texts)
theorem NodesAt.same{ns:List RN}(h:NodesAt w rb nv ns)(e:TKept rb w w')(q:∀k,nv.ownBlock=some k->w'.heap[k]?=w.heap[k]?):NodesAt w' rb nv ns:=by
 obtain⟨p,u,t,b⟩:=h;exact⟨p,u,vp t q,λj n r l i=>⟨(b j n r l i).1.kept e,(b j n r l i).2.kept e⟩⟩
theorem NodesAt.kept{ns:List RN}(h:NodesAt w rb nv ns)(i:w.cell? ⟨rb,0,none⟩=w'.cell? ⟨rb,0,none⟩)(b:Kept rb w w'):NodesAt w' rb nv ns:=by
 have l:=TKept.of_kept b i.symm;refine h.same l λk q=>?_
 obtain⟨r,u,e,t⟩:=h;have:=e.lt k q;exact b.block k this.2 mw
theorem NodesAt.below{ns:List RN}(h:NodesAt w rb nv ns)(l:rb<w.heap.size)(b:Xb w w'):NodesAt w' rb nv ns:=by
 refine h.same (TKept.of_below b l) λk i=>?_
 obtain⟨p,r,e,q⟩:=h;exact b.block k (e.lt k i).2
theorem NodesAt.far{ns:List RN}(h:NodesAt w rb nv ns)(l:w.heap[L]?=some (.cells c' ty' fr'))(F:(3:TypeId)≠ty')(E:(9:TypeId)≠ty')(t:L≠rb)(y:nv.ownBlock≠some L)(j:Nat)(u:Value):
  NodesAt (w.setCell ⟨L,j,none⟩ u) rb nv ns:=by
 obtain⟨A,C,B,b⟩:=h;refine⟨A,C,vp B λk D=>bo w ⟨L,j,none⟩ u k (λe=>y (by have G:k=L:=e;rw[←G];exact D)),λi n r q p=>⟨(b i n r q p).1.far l F t j u,(b i n r q p).2.far l E t j u⟩⟩
theorem NodesAt.nil(w:World)(rb:Nat):NodesAt w rb (.slice none 0 0) []:=⟨[],rfl,ed _ _ _ _,λj n r h=>by simp at h⟩
theorem vg9:(prog.info? 241).map (λi=>(i.zero,i.size,i.bytes))=some (some (.agg #[.string ⟨#[]⟩,.int .i64 0,.slice none 0 0,.string ⟨#[]⟩,.string ⟨#[]⟩,.slice none 0 0,.int .i64 0,.bool false,.int .i64 0]),9,128):=nl
def appR(ats:Array TypeId)(ty:TypeId)(args:Array Value):Sem Value:=Builtin.append_ ats ty args
theorem vk(ats:Array TypeId)(ty:TypeId)(args:Array Value):Builtin.append_ ats ty args=appR ats ty args:=rfl
theorem RowOf.form(h:RowOf w rb ty v vs):∃a c,v=.slice a vs.length c:=by
 rcases h with⟨rfl,rfl⟩|⟨g,cap,c,fr,b,_⟩
 ·exact⟨_,_,rfl⟩
 ·exact⟨_,_,b⟩
theorem NodesAt.app{W:World}{ns:List RN}(h:NodesAt W rb nv ns)(c0:Xc W rb 0 nv)(A0:rb<W.heap.size)(n:RN)(E:RowOf W rb 3 iv (gK n.ins))(I:RowOf W rb 9 lv (qu n.texts))(H:ns.length<=100000):
  ∃g cap b,(appR #[233,233] 233 #[nv,.slice (some ⟨W.heap.size,0,none⟩) 1 1]).run prog (W.alloc (.cells #[.string (BS n.op),.int .i64 n.at',iv,.string (BS n.str),.string (BS n.esc),lv,.int .i64 n.num,.bool n.neg,.int .i64 n.cls] 241))=.ok (.slice (some ⟨g,0,none⟩) (ns.length+1) cap) b /\
   Hid (b.heap[rb]?=W.heap[rb]?)/\rb<b.heap.size /\
   Hid (NodesAt (b.setCell ⟨rb,0,none⟩ (.slice (some ⟨g,0,none⟩) (ns.length+1) cap)) rb (.slice (some ⟨g,0,none⟩) (ns.length+1) cap) (ns++[n])) /\
   Hid (TKept rb W (b.setCell ⟨rb,0,none⟩ (.slice (some ⟨g,0,none⟩) (ns.length+1) cap))):=by
 obtain⟨R,T,F2,B9,D8⟩:=info_parts vg9;obtain⟨O,C,G,F⟩:=h;obtain⟨ai,ci,Z⟩:=E.form;obtain⟨al,cl,cJ⟩:=I.form;obtain⟨g,cap,b,J3,B7,l,A,_⟩:=run_append_lies (P:=prog) (W.alloc (.cells #[.string (BS n.op),.int .i64 n.at',iv,.string (BS n.str),.string (BS n.esc),lv,.int .i64 n.num,.bool n.neg,.int .i64 n.cls] 241)) 233 233 (rb+1) 241 R _ 9 128 underlying233 T F2 B9 D8 rfl mw nv ns.length _ (World.ownsRow.alloc G _)
  ⟨W.heap.size,0,none⟩ 1 1 (kw n iv lv) rfl (World.news_of_block (cs:=#[.string (BS n.op),.int .i64 n.at',iv,.string (BS n.str),.string (BS n.esc),lv,.int .i64 n.num,.bool n.neg,.int .i64 n.cls]) (t:=241) (fr:=(0,0)) (heap_alloc_new W _)) (by subst Z cJ;simp[kw,Value.oneCell']) mw (by unfold maxLen;omega) mw my _ rfl
 have M:=l.size;simp only[World.size_alloc]at M;have G4:∀k,nv.ownBlock=some k->rb+1<=k/\k<W.heap.size:=λk i=>G.lt k i
 have J:b.heap[rb]?=W.heap[rb]?:=(l.block rb my (λe=>by have:=(G4 rb e.symm).1;omega)).trans (iq W _ rb A0);have a9:∀k,k≠rb->(b.setCell ⟨rb,0,none⟩ (.slice (some ⟨g,0,none⟩) (ns.length+1) cap)).heap[k]?=b.heap[k]?:=λk i=>bo b ⟨rb,0,none⟩ _ k i
 have U:∀k,k<W.heap.size->nv.ownBlock≠some k->b.heap[k]?=W.heap[k]?:=λk i H=>(l.block k my (λe=>H e.symm)).trans (iq W _ k i)
 have c5:Xc (b.setCell ⟨rb,0,none⟩ (.slice (some ⟨g,0,none⟩) (ns.length+1) cap)) rb 0 (.slice (some ⟨g,0,none⟩) (ns.length+1) cap):=by
  have:Xc b rb 0 nv:=(aw (w:=W) (w':=b) (a:=⟨rb,0,none⟩) J).trans c0;simp[go_sem,this]
 have F3:∀k,k<W.heap.size->gJ (b.setCell ⟨rb,0,none⟩ (.slice (some ⟨g,0,none⟩) (ns.length+1) cap)) rb k->gJ W rb k:=by
  intro k i A7;rcases A7 with e|⟨Q,B,Y⟩
  ·exact .inl e
  ·rw[c5]at B
   injection B with B;subst B;have D:g=k:=by simpa [Value.ownBlock]using Y
   subst D;rcases A with A|A
   ·exact .inr ⟨nv,c0,A⟩
   ·simp at A;omega
 have u:TKept rb W (b.setCell ⟨rb,0,none⟩ (.slice (some ⟨g,0,none⟩) (ns.length+1) cap)):=by
  refine⟨l.os,l.tape,l.output,my,λk i K=>?_,F3⟩;rw[a9 k (λe=>K (.inl e))];exact U k i (λe=>K (.inr ⟨nv,c0,e⟩))
 refine⟨g,cap,b,J3,qd J,mw,qd ⟨O++[(iv,lv)],by simp[C], ?_,λj x r q y=>?_⟩,qd u⟩
 ·rw[List.zip_append C.symm,ij,bu]
  exact ownsRow_setCell_below (by simpa using B7) (by show rb<rb+1;omega) _
 ·by_cases hj:j<ns.length
  ·rw[bw hj]at q
   rw[bw mw]at y;exact⟨(F j x r q y).1.kept u,(F j x r q y).2.kept u⟩
  ·have KY:j=ns.length:=by
    have:=(au.1 q).1;simp at this;omega
   subst KY;obtain rfl:n=x:=by simpa using q
   rw[←C]at y;obtain rfl:(iv,lv)=r:=by simpa using y
   exact⟨E.kept u,I.kept u⟩
end
section
attribute [local go_sem ↓] vk
theorem TrC.put{a:Int}{op:Int}(h:TrC w rb nv s k a z S n op er at')(b:w'.heap[rb]?=w.heap[rb]?)(u:rb<w'.heap.size)(v:Value):TrC (w'.setCell ⟨rb,0,none⟩ v) rb v s k a z S n op er at':=by
 obtain⟨lt,c0,q,p,l,c4,i,e,c7,c8,c9,fz⟩:=h;have t:∀j,w'.cell? ⟨rb,j,none⟩=w.cell? ⟨rb,j,none⟩:=λj=>aw (w:=w) (w':=w') (a:=⟨rb,j,none⟩) b
 have r:∀j,w'.frozen? ⟨rb,j,none⟩=w.frozen? ⟨rb,j,none⟩:=λj=>cf (w:=w) (w':=w') (a:=⟨rb,j,none⟩) b
 rw[←t]at c0 q p l c4 i e c7 c8 c9;refine⟨by simpa using u, ?_, ?_, ?_, ?_, ?_, ?_, ?_, ?_, ?_, ?_,λj=>?_⟩
 all_goals simp[go_sem,c0,q,p,l,c4,i,e,c7,c8,c9,r,fz]
def vew(rb:Nat)(s:ByteArray)(k a z:Int)(S:ByteArray)(n op er at':Int)(w:World)(ns:List RN)(x:RN)(e:Ending)(w':World):Prop:=
 e=.returned (.int .i64 ns.length)/\TKept rb w w'/\∃nv',TrC w' rb nv' s k a z S n op er at'/\NodesAt w' rb nv' (ns++[x])
theorem pd{a:Int}{op:Int}(h:TrC w rb nv s k a z S n op er at'){ns:List RN}(u:NodesAt w rb nv ns)(x:RN)(t:RowOf w rb 3 iv (gK x.ins))(C:RowOf w rb 9 lv (qu x.texts))(J:ns.length<=100000):
  nz 216 #[.pointer (some ⟨rb,0,none⟩),.agg #[.string (BS x.op),.int .i64 x.at',iv,.string (BS x.str),.string (BS x.esc),lv,.int .i64 x.num,.bool x.neg,.int .i64 x.cls]] w (vew rb s k a z S n op er at' w ns x):=by
 have q:Xb w (w.alloc (.cells #[.string (BS x.op),.int .i64 x.at',iv,.string (BS x.str),.string (BS x.esc),lv,.int .i64 x.num,.bool x.neg,.int .i64 x.cls] 241)):=nw.alloc nt _;have l:=TKept.of_below q.drew h.lt;have b:=h.below q.drew;obtain⟨g,cap,i,D,E,G,O,P⟩:=(u.below h.lt q.drew).app b.c0 b.lt x (t.kept l) (C.kept l) J;have M:=qd (b.put E G (.slice (some ⟨g,0,none⟩) (ns.length+1) cap));have H:=qd l;obtain⟨⟨B,y,rfl⟩,⟨A,cl,rfl⟩⟩:=And.intro t.form C.form
 have Q:∃r c0,nv=.slice r ns.length c0:=by
  obtain⟨R,_,I,_⟩:=u;rcases I.2 with⟨U,XX⟩|⟨g,cap,cur,rfl,_⟩
  ·exact⟨none,0,by simp_all⟩
  ·exact⟨_,_,rfl⟩
 obtain⟨r,F,rfl⟩:=Q;obtain⟨lt,c0,c1,c2,Z,c4,Y,W,c7,c8,c9,fz⟩:=h;have n0:¬w.heap.size=rb:=mw;have T:¬rb=w.heap.size:=mw;have P6:Xc i rb 0 (.slice r ns.length F):=(aw (w':=i) (a:=⟨rb,0,none⟩) E).trans b.c0;have K:i.frozen? ⟨rb,0,none⟩=false:=(cf (w':=i) (a:=⟨rb,0,none⟩) E).trans (b.fz 0)
 have bK:(appR #[233,233] 233 #[.slice r ns.length F,.slice (some ⟨w.heap.size+1,0,none⟩) 1 1]).run prog ((w.alloc (.cells #[.string (BS x.op),.int .i64 x.at',.slice B (gK x.ins).length y,.string (BS x.str),.string (BS x.esc),.slice A (qu x.texts).length cl,.int .i64 x.num,.bool x.neg,.int .i64 x.cls] 241)).alloc (.cells #[.string (BS x.op),.int .i64 x.at',.slice B (gK x.ins).length y,.string (BS x.str),.string (BS x.esc),.slice A (qu x.texts).length cl,.int .i64 x.num,.bool x.neg,.int .i64 x.cls] 241)).drew=.ok (.slice (some ⟨g,0,none⟩) (ns.length+1) cap) i:=by
  have e:(w.alloc (.cells #[.string (BS x.op),.int .i64 x.at',.slice B (gK x.ins).length y,.string (BS x.str),.string (BS x.esc),.slice A (qu x.texts).length cl,.int .i64 x.num,.bool x.neg,.int .i64 x.cls] 241)).drew.heap.size=w.heap.size+1:=by show(w.alloc _).heap.size=_;simp
  rw[e]at D;exact D
 clear b q l u t C D;go_enter func216,ntmps216
 go_wp2_with fail
 go_region
 all_goals go_wp2_with fail
 all_goals go_ret
 all_goals exact⟨j7 mx,H.trans P,_,q9 M,q9 O⟩
end
section
def tkZ(st:St):Int:=if st.tk.kind=1 then 0 else st.after
def tkS(st:St):List UInt8:=if st.tk.kind=1 then[] else rS st.tk
def tkN(st:St):Int:=if st.tk.kind=1 then 0 else st.tk.num
def RT(w:World)(rb:Nat)(s:ByteArray)(ns:List RN)(j:Nat)(st:St):Prop:=
 ∃nv,TrC w rb nv s (rK st.tk.kind) st.place (tkZ st) (BS (tkS st)) (tkN st) st.op 0 0/\NodesAt w rb nv ns/\Fine s st/\ns.length+j<=st.place
def RE(w:World)(rb:Nat)(s:ByteArray)(en pl:Int)(op:Nat)(m:Nat):Prop:=
 ∃nv a ns,TrC w rb nv s 1 a 0 ⟨#[]⟩ 0 op en pl/\en≠0/\NodesAt w rb nv ns/\ns.length<=m
theorem RT.lt{ns:List RN}(h:RT w rb s ns j st):rb<w.heap.size:=by obtain⟨nv,h,_⟩:=h;exact h.lt
theorem RE.lt(h:RE w rb s en pl op m):rb<w.heap.size:=by obtain⟨nv,a,ns,h,_⟩:=h;exact h.lt
theorem RT.fine{ns:List RN}(h:RT w rb s ns j st):Fine s st:=by obtain⟨nv,_,_,h,_⟩:=h;exact h
theorem RT.few{ns:List RN}(h:RT w rb s ns j st):ns.length+j<=st.place:=by obtain⟨nv,_,_,_,h⟩:=h;exact h
theorem RT.less{ns:List RN}{j':Nat}(h:RT w rb s ns j st)(l:j'<=j):RT w rb s ns j' st:=by obtain⟨nv,i,e,b,q⟩:=h;exact⟨nv,i,e,b,mw⟩
theorem RE.more(h:RE w rb s en pl op m)(l:m<=m'):RE w rb s en pl op m':=by obtain⟨nv,a,ns,i,e,b,q⟩:=h;exact⟨nv,a,ns,i,e,b,mw⟩
theorem RT.below{ns:List RN}(h:RT w rb s ns j st)(b:Xb w w'):RT w' rb s ns j st:=by
 obtain⟨nv,e,p,l,i⟩:=h;exact⟨nv,e.below b,p.below e.lt b,l,i⟩
theorem RE.below(h:RE w rb s en pl op m)(b:Xb w w'):RE w' rb s en pl op m:=by
 obtain⟨nv,a,ns,e,p,l,i⟩:=h;exact⟨nv,a,ns,e.below b,p,l.below e.lt b,i⟩
theorem NodesAt.fresh{ns:List RN}(h:NodesAt w rb nv ns)(c0:Xc w rb 0 nv)(r:rb<w.heap.size)(o:Obj):¬gJ (w.alloc o) rb w.heap.size:=by
 obtain⟨t,y,l,u⟩:=h;rintro (e|⟨i,b,q⟩)
 ·omega
 ·have p:(w.alloc o).cell? ⟨rb,0,none⟩=w.cell? ⟨rb,0,none⟩:=(qj ((Below.refl w.heap.size w).alloc nt o)).1 _ _ r
  rw[p,c0]at b;injection b with b;subst b;have:=(l.lt _ q).2;omega
theorem RT.fresh{ns:List RN}(h:RT w rb s ns j st)(o:Obj):¬gJ (w.alloc o) rb w.heap.size:=by obtain⟨nv,b,e,_⟩:=h;exact e.fresh b.c0 b.lt o
theorem RE.fresh(h:RE w rb s en pl op m)(o:Obj):¬gJ (w.alloc o) rb w.heap.size:=by obtain⟨nv,a,ns,b,_,e,_⟩:=h;exact e.fresh b.c0 b.lt o
theorem ve0(h:kwT k≠[]):5<=k/\k<=28:=by
 by_cases h1:5<=k/\k<=28
 ·exact h1
 ·exfalso
  apply h;unfold kwT
  iterate 24 rw[aj mw]
theorem var:∀i:Fin 24,∀j:Fin 24,kwT (5+(i.val:Int))=kwT (5+(j.val:Int))->i=j:=by decide +kernel
theorem vgl(b:kwT c≠[])(h:kwT k=kwT c):k=c:=by
 obtain⟨q,l⟩:=ve0 b;obtain⟨k1,e⟩:=ve0 (h ▸ b)
 have:=var ⟨(k - 5).toNat,mw⟩ ⟨(c - 5).toNat,mw⟩ (by
  show kwT (5+(((k - 5).toNat:Nat):Int))=kwT (5+(((c - 5).toNat:Nat):Int))
  rw[show(5:Int)+(((k - 5).toNat:Nat):Int)=k by omega,show(5:Int)+(((c - 5).toNat:Nat):Int)=c by omega];exact h)
 have i:(k - 5).toNat=(c - 5).toNat:=congrArg Fin.val this;omega
theorem isK(r:kwT c=X.data.toList)(y:5<=c)(B:c<=28)(kind:Int)(l:rK c=kind):(rK st.tk.kind==kind&&((BS (tkS st)).toList==X.toList))=(st.tk.kind==c):=by
 have b:kwT c≠[]:=by
  have:∀i:Fin 24,kwT (5+(i.val:Int))≠[]:=by decide +kernel
  have:=this ⟨(c - 5).toNat,mw⟩;rwa [show(5:Int)+(((c - 5).toNat:Nat):Int)=c by omega]at this
 have q:((BS (tkS st)).toList==X.toList)=(tkS st==kwT c):=by
  rw[r,qM,ei]
 rw[q]
 by_cases h:st.tk.kind=c
 ·have u:tkS st=kwT c:=by
   unfold tkS rS;rw[aj mw,aj mw,h]
  rw[u,h,l];simp
 ·have t:(st.tk.kind==c)=false:=ae.2 h
  rw[t];rw[ll]
  by_cases A7:rK st.tk.kind=kind
  ·right
   rw[ae];intro e;apply h;refine vgl b ?_
   have A:5<=st.tk.kind:=by
    rw[←l]at A7;unfold rK at A7
    split at A7<;>split at A7<;>(try split at A7)<;>omega
   rw[←e];unfold tkS rS;rw[aj mw,aj mw]
  ·left;rw[ae];exact A7
section
variable {w:World} {rb:Nat} {s:mu} {ns:List RN} {j:Nat} {st:St} {en pl:Int} {op m:Nat}
theorem qns(h:RT w rb s ns j st)(c:Int)(i:kwT c=X.data.toList)(l:5<=c)(p:c<=28)(b:rK c=kind):
  nz 215 #[.pointer (some ⟨rb,0,none⟩),.int .i64 kind,.string X] w λe w'=>e=.returned (.bool (st.tk.kind==c))/\w'=w:=by
 obtain⟨nv,h,_⟩:=h;have:=ku h kind X;rwa [isK i l p kind b]at this
theorem vee(h:RE w rb s en pl op m)(b:kind≠1):
  nz 215 #[.pointer (some ⟨rb,0,none⟩),.int .i64 kind,.string X] w λe w'=>e=.returned (.bool false)/\w'=w:=by
 obtain⟨nv,a,ns,h,_⟩:=h;have:=ku h kind X;rwa [show((1:Int)==kind)=false from ae.2 (λe=>b e.symm),ld]at this
theorem yg(s:mu)(st:St):qse s st.after (rK (qg s st).tk.kind) (qg s st).place (tkZ (qg s st)) (BS (tkS (qg s st))) (tkN (qg s st)):=by
 show rTk (qJ s.data.toList st.after) (qN s.data.toList st.after) (qZ s.data.toList st.after)=_;unfold rTk tkZ tkS tkN;show(if(qJ s.data.toList st.after).kind=1 then _ else _)=_;show _=Value.agg #[.int .i64 (rK (qJ s.data.toList st.after).kind),.int .i64 (qN s.data.toList st.after:Nat),.int .i64 (if(qJ s.data.toList st.after).kind=1 then 0 else((qZ s.data.toList st.after:Nat):Int)),.string (BS (if(qJ s.data.toList st.after).kind=1 then[] else rS (qJ s.data.toList st.after))),.int .i64 (if(qJ s.data.toList st.after).kind=1 then 0 else(qJ s.data.toList st.after).num)]
 split
 ·rename_i h;rw[h];rfl
 ·rfl
theorem Fine.step_place(h:Fine s st)(b:st.tk.kind≠0):st.place<(qg s st).place:=bg (h.long b) (jT s st)
theorem ju(h:RT w rb s ns j st)(r:s.size<=200)(y:st.tk.kind≠0)(u:st.tk.kind≠1):
  nz 172 #[.pointer (some ⟨rb,0,none⟩)] w λe w'=>e=.returned (.tuple #[])/\TKept rb w w'/\RT w' rb s ns (j+1) (qg s st):=by
 obtain⟨nv,b,t,i,B⟩:=h;have A:=i.step_place y;rw[show tkZ st=(st.after:Int) by unfold tkZ;rw[aj u]]at b;refine(xR b r i.after (yg s st)).mono ?_;rintro e w'⟨rfl,l,q⟩;exact⟨rfl,TKept.of_kept q (l.c0.trans b.c0.symm),nv,l,t.kept (b.c0.trans l.c0.symm) q,qC s st i.after,mw⟩
theorem kQ(h:RT w rb s ns j st)(u:s.size<=200)(en pl:Int)(q:en≠0):
  nz 174 #[.pointer (some ⟨rb,0,none⟩),.int .i64 en,.int .i64 pl] w λe w'=>e=.returned (.tuple #[])/\TKept rb w w'/\RE w' rb s en pl st.op 200:=by
 obtain⟨nv,b,r,t,y⟩:=h;have:=t.place;refine(yP b en pl).mono ?_;rintro e w'⟨rfl,i,l⟩;exact⟨rfl,TKept.of_kept l (i.c0.trans b.c0.symm),nv,_,ns,i,q,r.kept (b.c0.trans i.c0.symm) l,mw⟩
theorem qfl(h:RT w rb s ns j st)(y:s.size<=200)(c:Int)(B:kwT c=X.data.toList)(D:5<=c)(E:c<=28)(q:rK c=kind)(t:st.tk.kind=c):
  nz 343 #[.pointer (some ⟨rb,0,none⟩),.int .i64 kind,.string X] w λe w'=>e=.returned (.tuple #[])/\TKept rb w w'/\RT w' rb s ns (j+1) (qg s st):=by
 have r:=isK (st:=st) B D E kind q;rw[t]at r;obtain⟨nv,b,C,i,G⟩:=h;have F:=i.step_place mw;rw[show tkZ st=(st.after:Int) by unfold tkZ;rw[aj mw]]at b;have A:(rK c==kind)=true/\((BS (tkS st)).toList==X.toList)=true:=by simpa using r
 refine(qnt b y i.after (yg s st) kind X (by rw[t];exact q) A.2).mono ?_;rintro e w'⟨rfl,l,u⟩;exact⟨rfl,TKept.of_kept u (l.c0.trans b.c0.symm),nv,l,C.kept (b.c0.trans l.c0.symm) u,qC s st i.after,mw⟩
theorem gA(h:RT w rb s ns j st)(D:s.size<=200)(c:Int)(u:kwT c=X.data.toList)(B:5<=c)(C:c<=28)(r:rK c=kind)(t:¬st.tk.kind=c):
  nz 343 #[.pointer (some ⟨rb,0,none⟩),.int .i64 kind,.string X] w λe w'=>e=.returned (.tuple #[])/\TKept rb w w'/\RE w' rb s 2 st.place st.op 200:=by
 have l:=isK (st:=st) u B C kind r;rw[show(st.tk.kind==c)=false from ae.2 t]at l;obtain⟨nv,b,y,A,E⟩:=h;have:=A.place;refine(qfj b kind X l).mono ?_;rintro e w'⟨rfl,i,q⟩;exact⟨rfl,TKept.of_kept q (i.c0.trans b.c0.symm),nv,_,ns,i,nh,y.kept (b.c0.trans i.c0.symm) q,mw⟩
theorem qfk(h:RE w rb s en pl op m)(r:kind≠1):
  nz 343 #[.pointer (some ⟨rb,0,none⟩),.int .i64 kind,.string X] w λe w'=>e=.returned (.tuple #[])/\TKept rb w w'/\RE w' rb s en pl op m:=by
 obtain⟨nv,a,ns,b,l,t,q⟩:=h;refine(qhz b l kind X r).mono ?_;rintro e w'⟨rfl,i,p⟩;exact⟨rfl,TKept.of_kept p (i.c0.trans b.c0.symm),nv,_,ns,i,l,t.kept (b.c0.trans i.c0.symm) p,q⟩
def rnV(x:RN)(iv lv:Value):Value:=.agg #[.string (BS x.op),.int .i64 x.at',iv,.string (BS x.str),.string (BS x.esc),lv,.int .i64 x.num,.bool x.neg,.int .i64 x.cls]
theorem qfc(h:RT w rb s ns (j+1) st)(B:s.size<=200)(x:RN)(q:RowOf w rb 3 iv (gK x.ins))(y:RowOf w rb 9 lv (qu x.texts)):
  nz 216 #[.pointer (some ⟨rb,0,none⟩),rnV x iv lv] w λe w'=>e=.returned (.int .i64 ns.length)/\TKept rb w w'/\RT w' rb s (ns++[x]) j st:=by
 obtain⟨nv,r,t,i,C⟩:=h;have:=i.place;refine(pd r t x q y mw).mono ?_;rintro e w'⟨rfl,u,b,A,l⟩;exact⟨rfl,u,b,A,l,i,my⟩
theorem qfb(h:RE w rb s en pl op m)(C:m<=1000)(x:RN)(q:RowOf w rb 3 iv (gK x.ins))(A:RowOf w rb 9 lv (qu x.texts)):
  nz 216 #[.pointer (some ⟨rb,0,none⟩),rnV x iv lv] w λe w'=>∃i:Nat,e=.returned (.int .i64 i)/\TKept rb w w'/\RE w' rb s en pl op (m+1):=by
 obtain⟨nv,a,ns,t,r,u,D⟩:=h;refine(pd t u x q A mw).mono ?_;rintro e w'⟨rfl,y,b,B,l⟩;exact⟨ns.length,rfl,y,b,_,_,B,r,l,my⟩
end
end
section
def qD(o:Int):List UInt8:=
 if o=0 then[110,97,109,101] else if o=1 then[110,117,109,98,101,114] else if o=2 then[116,101,120,116] else if o=3 then[84,82,85,69] else if o=4 then[70,65,76,83,69]
 else if o=5 then[78,79,84] else if o=6 then[65,78,68] else if o=7 then[79,82] else if o=8 then[61] else if o=9 then[60,62] else if o=10 then[60] else if o=11 then[60,61] else if o=12 then[62] else if o=13 then[62,61]
 else if o=14 then[112] else if o=15 then[110] else if o=16 then[43] else if o=17 then[45] else if o=18 then[42] else if o=19 then[47] else if o=20 then[66,69,84,87,69,69,78] else if o=21 then[73,78] else if o=22 then[76,73,75,69] else[78,85,76,76]
def js(p:Pay)(ins:List Nat)(neg:Bool):RN:=⟨qD p.op,p.place,ins,p.str,p.esc,p.texts,p.num,neg,0⟩
inductive Flat:Ast->Nat->List RN->Prop
 | leaf (p:Pay) (off:Nat):Flat (.leaf p) off [js p [] false]
 | un (p:Pay) {x:Ast} {off:Nat} {l:List RN}:Flat x off l->Flat (.un p x) off (l++[js p [off+l.length - 1] false])
 | bin (p:Pay) {x y:Ast} {off:Nat} {l k:List RN}:Flat x off l->Flat y (off+l.length) k->Flat (.bin p x y) off (l++k++[js p [off+l.length - 1,off+l.length+k.length - 1] false])
 | tri (p:Pay) {x y z:Ast} {off:Nat} {l k m:List RN}:Flat x off l->Flat y (off+l.length) k->Flat z (off+l.length+k.length) m ->
   Flat (.tri p x y z) off (l++k++m++[js p [off+l.length - 1,off+l.length+k.length - 1,off+l.length+k.length+m.length - 1] false])
 | neg1 (pl:Int) (q:Pay) {x:Ast} {off:Nat} {l:List RN}:(q.op=21\/q.op=22\/q.op=23)->Flat x off l->Flat (.un ⟨5,pl,0,[],[],[]⟩ (.un q x)) off (l++[js q [off+l.length - 1] true])
 | neg3 (pl:Int) (q:Pay) {x y z:Ast} {off:Nat} {l k m:List RN}:q.op=20->Flat x off l->Flat y (off+l.length) k->Flat z (off+l.length+k.length) m ->
   Flat (.un ⟨5,pl,0,[],[],[]⟩ (.tri q x y z)) off (l++k++m++[js q [off+l.length - 1,off+l.length+k.length - 1,off+l.length+k.length+m.length - 1] true])
theorem Flat.pos{t:Ast}{off:Nat}{l:List RN}(h:Flat t off l):0<l.length:=by cases h<;>simp<;>omega
def REnds(rb:Nat)(s:ByteArray)(w:World)(op m:Nat)(ns:List RN)(j lo:Nat)(r:Res)(e:Ending)(w':World):Prop:=
 TKept rb w w'/\match r with
 | .ok t st=>∃new,e=.returned (.int .i64 ((ns.length+new.length - 1:Nat):Int))/\RT w' rb s (ns++new) j st/\st.op=op/\lo<=st.place/\Flat t ns.length new
 | .err en pl=>∃i:Nat,e=.returned (.int .i64 i)/\RE w' rb s en pl op m
def RReads(K:Nat)(rb:Nat)(s:ByteArray)(op m:Nat)(f:St->Res):Prop:=
 ∀(w:World) (st:St) (ns:List RN) (j:Nat),RT w rb s ns j st->st.op=op->Calls prog K #[.pointer (some ⟨rb,0,none⟩)] w (REnds rb s w op m ns j st.place (f st))
def xh(K:Nat)(rb:Nat)(s:ByteArray):Prop:=
 ∀(w:World) (en pl:Int) (op m:Nat),RE w rb s en pl op m->Calls prog K #[.pointer (some ⟨rb,0,none⟩)] w λe w'=>∃i:Nat,e=.returned (.int .i64 i)/\TKept rb w w'/\RE w' rb s en pl op m
theorem REnds.more{ns:List RN}{u b:Nat}{r:Res}{e:Ending}(h:REnds rb s w op m ns j u r e w')(y:m<=m')(D:b<=u):REnds rb s w op m' ns j b r e w':=by
 obtain⟨A,h⟩:=h;refine⟨A, ?_⟩
 cases r with
 | ok t st=>obtain⟨new,q,l,C,E,B⟩:=h;exact⟨new,q,l,C,mw,B⟩
 | err en pl=>obtain⟨i,q,l⟩:=h;exact⟨i,q,l.more y⟩
theorem TrC.setOp{a:Int}{op:Int}(h:TrC w rb nv s k a z S n op er at')(o:Int):TrC (w.setCell ⟨rb,7,none⟩ (.int .i64 o)) rb nv s k a z S n o er at':=by
 obtain⟨lt,c0,p,l,i,c4,e,b,c7,c8,c9,fz⟩:=h;refine⟨by simpa using lt, ?_, ?_, ?_, ?_, ?_, ?_, ?_, ?_, ?_, ?_,λj=>?_⟩
 all_goals simp[go_sem,c0,p,l,i,c4,e,b,c7,c8,c9,fz]
theorem RT.setOp{ns:List RN}(h:RT w rb s ns j st)(n:Nat)(o:Int)(p:o=n):RT (w.setCell ⟨rb,7,none⟩ (.int .i64 o)) rb s ns j { st with op:=n }/\TKept rb w (w.setCell ⟨rb,7,none⟩ (.int .i64 o)):=by
 subst p;obtain⟨nv,b,r,e,q⟩:=h;have l:=(Kept.refl rb w).setCell 7 (.int .i64 n);have i:=b.setOp n;exact⟨⟨nv,i,r.kept (b.c0.trans i.c0.symm) l,⟨e.place,e.after,e.long⟩,q⟩,TKept.of_kept l (i.c0.trans b.c0.symm)⟩
theorem RE.setOp(h:RE w rb s en pl op m)(n:Nat)(o:Int)(l:o=n):RE (w.setCell ⟨rb,7,none⟩ (.int .i64 o)) rb s en pl n m/\TKept rb w (w.setCell ⟨rb,7,none⟩ (.int .i64 o)):=by
 subst l;obtain⟨nv,a,ns,b,q,r,p⟩:=h;have i:=(Kept.refl rb w).setCell 7 (.int .i64 n);have e:=b.setOp n;exact⟨⟨nv,a,ns,e,q,r.kept (b.c0.trans e.c0.symm) i,p⟩,TKept.of_kept i (e.c0.trans b.c0.symm)⟩
theorem RT.c7{ns:List RN}(h:RT w rb s ns j st):Xc w rb 7 (.int .i64 st.op)/\Xf w rb:=by obtain⟨nv,h,_⟩:=h;exact⟨h.c7,h.fz⟩
theorem RE.c7(h:RE w rb s en pl op m):Xc w rb 7 (.int .i64 op)/\Xf w rb:=by obtain⟨nv,a,ns,h,_⟩:=h;exact⟨h.c7,h.fz⟩
theorem RT.c8{ns:List RN}(h:RT w rb s ns j st):Xc w rb 8 (.int .i64 0):=by obtain⟨nv,h,_⟩:=h;exact h.c8
theorem RE.c8(h:RE w rb s en pl op m):Xc w rb 8 (.int .i64 en)/\(en==0)=false:=by obtain⟨nv,a,ns,h,b,_⟩:=h;exact⟨h.c8,ae.2 b⟩
theorem RT.ct{ns:List RN}(h:RT w rb s ns j st):Xc w rb 2 (.int .i64 (rK st.tk.kind))/\Xc w rb 3 (.int .i64 st.place)/\Xc w rb 4 (.int .i64 (tkZ st))/\Xc w rb 5 (.string (BS (tkS st)))/\Xc w rb 6 (.int .i64 (tkN st)):=by obtain⟨nv,h,_⟩:=h;exact⟨h.c2,h.c3,h.c4,h.c5,h.c6⟩
section
variable {w:World} {rb:Nat} {s:mu} {ns:List RN} {j:Nat} {st:St} {en pl:Int} {op m:Nat}
theorem qcb(h:RT w rb s ns j st)(r:s.size<=200)(u:st.tk.kind≠0)(t:st.tk.kind≠1)(E:st.op<12):
  nz 295 #[.pointer (some ⟨rb,0,none⟩)] w λe w'=>e=.returned (.tuple #[])/\TKept rb w w'/\RT w' rb s ns (j+1) (ko s st):=by
 obtain⟨c7,fz⟩:=h.c7;have F:=h.lt;obtain⟨b,i⟩:=h.setOp (st.op+1) ((st.op:Int)+1) mw;have A:=qd i;have y:=qd (ju b r u t);clear h b i;go_enter func295,ntmps295
 go_wp2_with(go_at_call 172;refine y.mono ?_;rintro e D⟨rfl,q,l⟩;have B:=qd q;have C:=qd l;clear q l)
 go_end0
 exact⟨rfl,A.trans B,q9 C⟩
theorem qca(h:RT w rb s ns j st)(r:s.size<=200)(B:st.op=12):
  nz 295 #[.pointer (some ⟨rb,0,none⟩)] w λe w'=>e=.returned (.tuple #[])/\TKept rb w w'/\RE w' rb s 3 st.place 13 200:=by
 obtain⟨c7,fz⟩:=h.c7;obtain⟨_,D,_⟩:=h.ct;have E:=h.lt;rw[B]at c7;obtain⟨b,i⟩:=h.setOp 13 13 mw;have t:=qd i;have A:=qd (kQ b r 3 st.place nh);clear h b i;go_enter func295,ntmps295
 go_wp2_with(go_at_call 174;refine A.mono ?_;rintro e C⟨rfl,q,l⟩;have u:=qd q;have y:=qd l;clear q l)
 refine ak (by simp[go_sem]) rfl ⟨rfl,t.trans u,q9 y⟩
end
end
section
theorem RE.cells(h:RE w rb s en pl op m):∃a,Xc w rb 2 (.int .i64 1)/\Xc w rb 3 (.int .i64 a)/\Xc w rb 4 (.int .i64 0)/\Xc w rb 5 (.string ⟨#[]⟩)/\Xc w rb 6 (.int .i64 0):=by obtain⟨nv,a,ns,h,_⟩:=h;exact⟨a,h.c2,h.c3,h.c4,h.c5,h.c6⟩
theorem qcj(rb:Nat)(s:mu):xh 351 rb s:=by
 intro w en pl op m h;obtain⟨a,u,t,c4,r,q⟩:=h.cells;obtain⟨c8,l⟩:=h.c8;have e:=h.lt;have n0:¬w.heap.size=rb:=mw;have i:¬rb=w.heap.size:=mw;have H:=qd h;clear h;go_enter func351,ntmps351
 go_wp2_with fail
 go_ret;have b:∀o,Xb w (w.alloc o):=λo=>nw.alloc nt o
 exact⟨0,rfl,TKept.of_below (b _) e,H.below (b _)⟩
theorem qhl(rb:Nat)(s:mu)(l:xh 351 rb s):xh 342 rb s:=by
 intro w en pl op m h;have t:=qd (l w en pl op m h);clear h l;go_enter func342,ntmps342
 go_wp2_with(go_at_call 351;refine t.mono ?_;rintro e q⟨i,rfl,p,b⟩;obtain⟨c8,y⟩:=b.c8;have r:=qd p;have u:=qd b;clear p b)
 go_loopw [3] (λv wr=>v=.int .i64 (i:Int)/\wr=q) (λ_ _=>0)
 case atStart=>exact⟨rfl,rfl⟩
 case round=>
  obtain⟨rfl,rfl⟩:=hrel
  go_wp2_with fail
  go_ret;exact⟨i,rfl,q9 r,q9 u⟩
theorem vda(rb:Nat)(s:mu)(l:xh 342 rb s):xh 320 rb s:=by
 intro w en pl op m h;have t:=qd (l w en pl op m h);clear h l;go_enter func320,ntmps320
 go_wp2_with(go_at_call 342;refine t.mono ?_;rintro e q⟨i,rfl,p,b⟩;obtain⟨c8,y⟩:=b.c8;have r:=qd p;have u:=qd b;clear p b)
 go_loopw [3] (λv wr=>v=.int .i64 (i:Int)/\wr=q) (λ_ _=>0)
 case atStart=>exact⟨rfl,rfl⟩
 case round=>
  obtain⟨rfl,rfl⟩:=hrel
  go_wp2_with fail
  go_ret;exact⟨i,rfl,q9 r,q9 u⟩
theorem qsy(rb:Nat)(s:mu)(l:xh 259 rb s):xh 214 rb s:=by
 intro w en pl op m h;have t:=qd (l w en pl op m h);clear h l;go_enter func214,ntmps214
 go_wp2_with(go_at_call 259;refine t.mono ?_;rintro e q⟨i,rfl,p,b⟩;obtain⟨c8,y⟩:=b.c8;have r:=qd p;have u:=qd b;clear p b)
 go_loopw [3] (λv wr=>v=.int .i64 (i:Int)/\wr=q) (λ_ _=>0)
 case atStart=>exact⟨rfl,rfl⟩
 case round=>
  obtain⟨rfl,rfl⟩:=hrel
  go_wp2_with fail
  go_ret;exact⟨i,rfl,q9 r,q9 u⟩
theorem qjp(rb:Nat)(s:mu)(l:xh 214 rb s):xh 173 rb s:=by
 intro w en pl op m h;have t:=qd (l w en pl op m h);clear h l;go_enter func173,ntmps173
 go_wp2_with(go_at_call 214;refine t.mono ?_;rintro e q⟨i,rfl,p,b⟩;obtain⟨c8,y⟩:=b.c8;have r:=qd p;have u:=qd b;clear p b)
 go_loopw [3] (λv wr=>v=.int .i64 (i:Int)/\wr=q) (λ_ _=>0)
 case atStart=>exact⟨rfl,rfl⟩
 case round=>
  obtain⟨rfl,rfl⟩:=hrel
  go_wp2_with fail
  go_ret;exact⟨i,rfl,q9 r,q9 u⟩
theorem qxs(rb:Nat)(s:mu)(l:xh 320 rb s):xh 294 rb s:=by
 intro w en pl op m h;obtain⟨a,D,C,c4,B,A⟩:=h.cells;have r:=qd (l w en pl op m h);clear h l;go_enter func294,ntmps294
 go_wp2_with(go_at_call 320;refine r.mono ?_;rintro e u⟨i,rfl,p,b⟩;obtain⟨c8,y⟩:=b.c8;have q:=qd p;have t:=qd b;clear p b)
 go_ret;exact⟨i,rfl,q9 q,q9 t⟩
theorem qjn(rb:Nat)(s:mu)(b:xh 294 rb s):xh 259 rb s:=by
 intro w en pl op m h;have u:=qd (vee h (kind:=6) (X:=⟨#[78,79,84]⟩) nh);have y:=qd (b w en pl op m h);clear h b;go_enter func259,ntmps259
 go_wp2_with(first|(go_at_call 215;refine u.mono ?_;rintro e r⟨rfl,rfl⟩)|(go_at_call 294;refine y.mono ?_;rintro e r⟨i,rfl,q,l⟩;have t:=qd q;have A:=qd l;clear q l))
 go_ret;exact⟨i,rfl,q9 t,q9 A⟩
end
section
section
variable {w:World} {rb:Nat} {s:mu} {ns:List RN} {j:Nat} {st:St} {en pl:Int} {op m:Nat}
theorem RowOf.no(w:World)(rb:Nat)(ty:TypeId):RowOf w rb ty (.slice none 0 0) []:=.inl ⟨rfl,rfl⟩
theorem RowOf.made(i:rb<w.heap.size)(e:∀o,¬gJ (w.alloc o) rb w.heap.size)(ty:TypeId)(c:Array Value)(n:Nat)(b:n=c.size):RowOf (w.alloc (.cells c ty)) rb ty (.slice (some ⟨w.heap.size,0,none⟩) n n) c.toList:=by
 subst b;exact .inr ⟨w.heap.size,c.size,c,(0,0),rfl,i,heap_alloc_new w _,e _,λj u h=>by simpa using h⟩
theorem yn(b:rb<w.heap.size){o:Obj}(h:TKept rb (w.alloc o) w'):TKept rb w w':=(TKept.of_below ((Below.refl w.heap.size w).alloc nt o) b).trans h
theorem RT.alloc(h:RT w rb s ns j st)(o:Obj):RT (w.alloc o) rb s ns j st:=h.below (nw.alloc nt o)
theorem RE.alloc(h:RE w rb s en pl op m)(o:Obj):RE (w.alloc o) rb s en pl op m:=h.below (nw.alloc nt o)
theorem qvw(h:RT w rb s ns (j+1) st)(i:s.size<=200)(p:Pay)(r:BS (qD p.op)=N)(q:BS p.str=S)(l:p.esc=[])(b:p.texts=[]):
  nz 216 #[.pointer (some ⟨rb,0,none⟩),.agg #[.string N,.int .i64 p.place,.slice none 0 0,.string S,.string ⟨#[]⟩,.slice none 0 0,.int .i64 p.num,.bool false,.int .i64 0]] w
   λe w'=>e=.returned (.int .i64 ns.length)/\TKept rb w w'/\RT w' rb s (ns++[js p [] false]) j st:=by
 have:=qfc h i (js p [] false) (iv:=.slice none 0 0) (lv:=.slice none 0 0) (RowOf.no _ _ _) (by show RowOf _ _ _ _ (qu p.texts);rw[b];exact RowOf.no _ _ _);unfold rnV at this;have y:(js p [] false).op=qD p.op:=rfl;have u:(js p [] false).str=p.str:=rfl;have t:(js p [] false).esc=p.esc:=rfl;rw[y,u,t,r,q,l]at this;exact this
theorem qvy(h:RT w rb s ns (j+1) st)(l:s.size<=200)(p:Pay)(i:Nat)(A:BS (qD p.op)=N)(y:p.str=[])(u:p.esc=[])(b:p.texts=[])(t:g=w.heap.size):
  nz 216 #[.pointer (some ⟨rb,0,none⟩),.agg #[.string N,.int .i64 p.place,.slice (some ⟨g,0,none⟩) 1 1,.string ⟨#[]⟩,.string ⟨#[]⟩,.slice none 0 0,.int .i64 p.num,.bool false,.int .i64 0]] (w.alloc (.cells #[.int .i64 i] 3))
   λe w'=>e=.returned (.int .i64 ns.length)/\TKept rb w w'/\RT w' rb s (ns++[js p [i] false]) j st:=by
 subst t;have:=qfc (h.alloc (.cells #[.int .i64 i] 3)) l (js p [i] false) (iv:=.slice (some ⟨w.heap.size,0,none⟩) 1 1) (lv:=.slice none 0 0) (RowOf.made h.lt h.fresh _ _ 1 rfl) (by show RowOf _ _ _ _ (qu p.texts);rw[b];exact RowOf.no _ _ _);unfold rnV at this;have D:(js p [i] false).op=qD p.op:=rfl;have C:(js p [i] false).str=p.str:=rfl;have B:(js p [i] false).esc=p.esc:=rfl;rw[D,C,B,A,y,u]at this;refine this.mono ?_;rintro e w'⟨rfl,r,q⟩;exact⟨rfl,yn h.lt r,q⟩
theorem qf9(h:RT w rb s ns (j+1) st)(l:s.size<=200)(p:Pay)(i k:Nat)(A:BS (qD p.op)=N)(y:p.str=[])(u:p.esc=[])(b:p.texts=[])(t:g=w.heap.size):
  nz 216 #[.pointer (some ⟨rb,0,none⟩),.agg #[.string N,.int .i64 p.place,.slice (some ⟨g,0,none⟩) 2 2,.string ⟨#[]⟩,.string ⟨#[]⟩,.slice none 0 0,.int .i64 p.num,.bool false,.int .i64 0]] (w.alloc (.cells #[.int .i64 i,.int .i64 k] 3))
   λe w'=>e=.returned (.int .i64 ns.length)/\TKept rb w w'/\RT w' rb s (ns++[js p [i,k] false]) j st:=by
 subst t;have:=qfc (h.alloc (.cells #[.int .i64 i,.int .i64 k] 3)) l (js p [i,k] false) (iv:=.slice (some ⟨w.heap.size,0,none⟩) 2 2) (lv:=.slice none 0 0) (RowOf.made h.lt h.fresh _ _ 2 rfl) (by show RowOf _ _ _ _ (qu p.texts);rw[b];exact RowOf.no _ _ _);unfold rnV at this;have D:(js p [i,k] false).op=qD p.op:=rfl;have C:(js p [i,k] false).str=p.str:=rfl;have B:(js p [i,k] false).esc=p.esc:=rfl;rw[D,C,B,A,y,u]at this;refine this.mono ?_;rintro e w'⟨rfl,r,q⟩;exact⟨rfl,yn h.lt r,q⟩
theorem qde(h:RE w rb s en pl op m)(l:m<=1000)(N:mv)(a:Int)(i:Nat)(r:BS N=NB)(q:g=w.heap.size):
  nz 216 #[.pointer (some ⟨rb,0,none⟩),.agg #[.string NB,.int .i64 a,.slice (some ⟨g,0,none⟩) 1 1,.string ⟨#[]⟩,.string ⟨#[]⟩,.slice none 0 0,.int .i64 0,.bool false,.int .i64 0]] (w.alloc (.cells #[.int .i64 i] 3))
   λe w'=>∃i:Nat,e=.returned (.int .i64 i)/\TKept rb w w'/\RE w' rb s en pl op (m+1):=by
 subst q;subst r;refine(qfb (h.alloc (.cells #[.int .i64 i] 3)) l ⟨N,a,[i],[],[],[],0,false,0⟩ (iv:=.slice (some ⟨w.heap.size,0,none⟩) 1 1) (lv:=.slice none 0 0) (RowOf.made h.lt h.fresh _ _ 1 rfl) (RowOf.no _ _ _)).mono ?_;rintro e w'⟨k,rfl,p,b⟩;exact⟨k,rfl,yn h.lt p,b⟩
theorem qc8(h:RE w rb s en pl op m)(l:m<=1000)(N:mv)(a:Int)(i k:Nat)(r:BS N=NB)(q:g=w.heap.size):
  nz 216 #[.pointer (some ⟨rb,0,none⟩),.agg #[.string NB,.int .i64 a,.slice (some ⟨g,0,none⟩) 2 2,.string ⟨#[]⟩,.string ⟨#[]⟩,.slice none 0 0,.int .i64 0,.bool false,.int .i64 0]] (w.alloc (.cells #[.int .i64 i,.int .i64 k] 3))
   λe w'=>∃i:Nat,e=.returned (.int .i64 i)/\TKept rb w w'/\RE w' rb s en pl op (m+1):=by
 subst q;subst r;refine(qfb (h.alloc (.cells #[.int .i64 i,.int .i64 k] 3)) l ⟨N,a,[i,k],[],[],[],0,false,0⟩ (iv:=.slice (some ⟨w.heap.size,0,none⟩) 2 2) (lv:=.slice none 0 0) (RowOf.made h.lt h.fresh _ _ 2 rfl) (RowOf.no _ _ _)).mono ?_;rintro e w'⟨k,rfl,p,b⟩;exact⟨k,rfl,yn h.lt p,b⟩
theorem TKept.mine(h:TKept rb w w')(b:L<w.heap.size)(e:¬gJ w rb L):(∀i,w'.cell? ⟨L,i,none⟩=w.cell? ⟨L,i,none⟩)/\(∀i,w'.frozen? ⟨L,i,none⟩=w.frozen? ⟨L,i,none⟩)/\w'.heap[L]?=w.heap[L]?/\¬gJ w' rb L/\L<w'.heap.size:=
 ⟨λi=>aw (w:=w) (w':=w') (a:=⟨L,i,none⟩) (h.block L b e),λi=>cf (w:=w) (w':=w') (a:=⟨L,i,none⟩) (h.block L b e),h.block L b e,λl=>e (h.own L b l),bg b h.size⟩
end
theorem qhi(h:k=5\/k=6\/(16<=k/\k<=25)):qD (qcv k)=kwT k:=by
 have:k=5\/k=6\/k=16\/k=17\/k=18\/k=19\/k=20\/k=21\/k=22\/k=23\/k=24\/k=25:=mw;rcases this with rfl|rfl|rfl|rfl|rfl|rfl|rfl|rfl|rfl|rfl|rfl|rfl<;>decide
theorem qxu(h:5<=st.tk.kind):tkS st=kwT st.tk.kind:=by unfold tkS rS;rw[aj mw,aj mw]
end
section
theorem xa{K:Int}{S:mv}(t:(K=2/\X=BS st.tk.str/\o=0/\n=0/\S=st.tk.str/\k=2)\/(K=3/\X=⟨#[]⟩/\o=1/\n=st.tk.num/\S=[]/\k=3)\/(K=4/\X=BS st.tk.str/\o=2/\n=0/\S=st.tk.str/\k=4)\/(K=6/\X=⟨#[84,82,85,69]⟩/\o=3/\n=0/\S=[]/\k=8)\/(K=6/\X=⟨#[70,65,76,83,69]⟩/\o=4/\n=0/\S=[]/\k=9))
  (rb:Nat) (s:mu) (l:s.size<=200) (op m:Nat) (w:World) (ns:List RN) (j:Nat) (h:RT w rb s ns j st) (D:st.op=op) (q:st.tk.kind=k) :
  nz 351 #[.pointer (some ⟨rb,0,none⟩)] w (REnds rb s w op m ns j st.place (.ok (ka o st n S) (qg s st))):=by
 obtain⟨H,c3,c4,G,F⟩:=h.ct;have c8:=h.c8;have Z:=h.lt;have n0:¬w.heap.size=rb:=mw;have n1:¬rb=w.heap.size:=mw;have M:2<=st.tk.kind/\st.tk.kind<=9:=mw
 obtain⟨y,u⟩:rK st.tk.kind=K/\BS (tkS st)=X:=by
  rcases t with⟨rfl,rfl,_,_,_,rfl⟩|⟨rfl,rfl,_,_,_,rfl⟩|⟨rfl,rfl,_,_,_,rfl⟩|⟨rfl,rfl,_,_,_,rfl⟩|⟨rfl,rfl,_,_,_,rfl⟩<;>unfold tkS rS<;>rw[q]<;>exact⟨rfl,rfl⟩
 rw[y]at H;rw[show tkZ st=(st.after:Int) by unfold tkZ;rw[aj mw]]at c4;rw[u]at G;rw[show tkN st=st.tk.num by unfold tkN;rw[aj mw]]at F;have I:=qd (ju (h.alloc (.cells #[.int .i64 K,.int .i64 st.place,.int .i64 st.after,.string X,.int .i64 st.tk.num] 235)) l mw mw);have Y:=qd (h.fresh (.cells #[.int .i64 K,.int .i64 st.place,.int .i64 st.after,.string X,.int .i64 st.tk.num] 235));have O:=qd λ(W:World) (h:∀i,W.cell? ⟨w.heap.size,i,none⟩=(w.alloc (.cells #[.int .i64 K,.int .i64 st.place,.int .i64 st.after,.string X,.int .i64 st.tk.num] 235)).cell? ⟨w.heap.size,i,none⟩)=>And.intro ((h 1).trans (show _=some (.int .i64 st.place) by simp)) (And.intro ((h 3).trans (show _=some (.string X) by simp)) ((h 4).trans (show _=some (.int .i64 st.tk.num) by simp)))
 have J:=qd λ(W:World) (h:RT W rb s ns (j+1) (qg s st))=>qvw h l ⟨o,st.place,n,S,[],[]⟩ rfl rfl rfl rfl
 have K0:=h.fine.step_place mw;clear h y u q M;rcases t with⟨rfl,rfl,rfl,rfl,rfl,_⟩|⟨rfl,rfl,rfl,rfl,rfl,_⟩|⟨rfl,rfl,rfl,rfl,rfl,_⟩|⟨rfl,rfl,rfl,rfl,rfl,_⟩|⟨rfl,rfl,rfl,rfl,rfl,_⟩
 all_goals
  go_enter func351,ntmps351
  go_wp2_with(first|(go_at_call 172;refine I.mono ?_;rintro e w1⟨rfl,b,B⟩;obtain⟨r,E,_,P,hL⟩:=b.mine mx Y;obtain⟨p1,p3,p4⟩:=q9 O _ r;have T:=qd (yn Z b);have U:=qd B;clear b B r E P)|(go_at_call 216;refine(J _ U).mono ?_;rintro e w2⟨rfl,C,A⟩;have Q:=qd C;have R:=qd A;clear C A))
  go_ret;exact⟨T.trans Q,_,rfl,q9 R,D,mw,Flat.leaf _ _⟩
end
section
theorem qi9(h:st.op=12):vu s f o st=.err 3 st.place:=by unfold vu;rw[bh h]
theorem qrm(h:st.op<12)(b:f (ko s st)=.ok x st'):vu s f o st=.ok (.un ⟨o,st.place,0,[],[],[]⟩ x) { st' with op:=st.op }:=by unfold vu;rw[aj mw,b]
theorem qm7(h:st.op<12)(b:f (ko s st)=.err en pl):vu s f o st=.err en pl:=by unfold vu;rw[aj mw,b]
theorem qej(h:st.op=12):vi s f st=.err 3 st.place:=by unfold vi;rw[bh h]
theorem qk6(h:st.op<12)(e:f (ko s st)=.ok x st')(b:st'.tk.kind=27):vi s f st=.ok x { qg s st' with op:=st.op }:=by unfold vi;rw[aj mw,e];simp only[bh b]
theorem qk5(h:st.op<12)(e:f (ko s st)=.ok x st')(b:¬st'.tk.kind=27):vi s f st=.err 2 st'.place:=by unfold vi;rw[aj mw,e];simp only[aj b]
theorem qgy(h:st.op<12)(b:f (ko s st)=.err en pl):vi s f st=.err en pl:=by unfold vi;rw[aj mw,b]
theorem qx8{fS:St->Res}(h:st.op<=12):(st.op=12/\vu s fS o st=.err 3 st.place)\/(st.op<12/\((∃x st',fS (ko s st)=.ok x st'/\vu s fS o st=.ok (.un ⟨o,st.place,0,[],[],[]⟩ x) { st' with op:=st.op })\/∃en pl,fS (ko s st)=.err en pl/\vu s fS o st=.err en pl)):=by
 by_cases E7:st.op=12
 ·exact .inl ⟨E7,qi9 E7⟩
 have b:st.op<12:=mw;refine .inr ⟨b, ?_⟩
 cases hf:fS (ko s st) with
 | ok x st'=>exact .inl ⟨x,st',rfl,qrm b hf⟩
 | err en pl=>exact .inr ⟨en,pl,rfl,qm7 b hf⟩
theorem qi4{b:UInt8}(E:(b=43/\N=⟨#[112]⟩/\k=22/\o=14)\/(b=45/\N=⟨#[110]⟩/\k=23/\o=15))(rb:Nat)(s:mu)(I:s.size<=200)(op m:Nat)(Y:200<=m)(bG:m<=900)(F1:op<=12)(fS:St->Res)(Z:op<12->RReads 351 rb s (op+1) m fS)(eS:xh 351 rb s)(w:World)(st:St)(ns:List RN)(j:Nat)(h:RT w rb s ns j st)(C:st.op=op)(J:st.tk.kind=k):
  nz 351 #[.pointer (some ⟨rb,0,none⟩)] w (REnds rb s w op (m+1) ns j st.place (vu s fS o st)):=by
 obtain⟨c2,c3,c4,c5,c6⟩:=h.ct;have c8:=h.c8;have A0:=h.lt;have n0:¬w.heap.size=rb:=mw;have n1:¬rb=w.heap.size:=mw;have R7:22<=st.tk.kind/\st.tk.kind<=23:=mw;rw[show rK st.tk.kind=5 by rcases E with⟨_,_,rfl,_⟩|⟨_,_,rfl,_⟩<;>rw[J]<;>rfl]at c2;rw[show tkZ st=(st.after:Int) by unfold tkZ;rw[aj mw]]at c4;rw[show BS (tkS st)=⟨#[b]⟩ by rw[qxu mw];rcases E with⟨rfl,_,rfl,_⟩|⟨rfl,_,rfl,_⟩<;>rw[J]<;>rfl]at c5;rw[show tkN st=st.tk.num by unfold tkN;rw[aj mw]]at c6;have K:BS (qD o)=N:=by rcases E with⟨_,rfl,_,rfl⟩|⟨_,rfl,_,rfl⟩<;>rfl
 have FR:=qd (h.fresh (.cells #[.int .i64 5,.int .i64 st.place,.int .i64 st.after,.string ⟨#[b]⟩,.int .i64 st.tk.num] 235));have H':=qd (h.alloc (.cells #[.int .i64 5,.int .i64 st.place,.int .i64 st.after,.string ⟨#[b]⟩,.int .i64 st.tk.num] 235));have P3:=qd λ(W:World) (h:W.cell? ⟨w.heap.size,3,none⟩=(w.alloc (.cells #[.int .i64 5,.int .i64 st.place,.int .i64 st.after,.string ⟨#[b]⟩,.int .i64 st.tk.num] 235)).cell? ⟨w.heap.size,3,none⟩)=>h.trans (show _=some (.string ⟨#[b]⟩) by simp)
 have RU:=qd λ(W:World) (l:List RN) (J1:St) (j i g:Nat) (h:RT W rb s l (j+1) J1) (hg:g=W.heap.size)=>qvy h I ⟨o,st.place,0,[],[],[]⟩ i K rfl rfl rfl hg
 have RV:=qd λ(W:World) (en pl:Int) (op m i g:Nat) (h:RE W rb s en pl op m) (Y:m<=1000) (hg:g=W.heap.size)=>qde h Y (qD o) st.place i K hg
 have K0:=h.fine.step_place mw;have J2:st.tk.kind≠0/\st.tk.kind≠1:=⟨mw,mw⟩;have HS:=qd Z;have ES:=qd eS;clear h Z eS K J;rcases qx8 (s:=s) (fS:=fS) (o:=o) (C.symm ▸ F1:st.op<=12) with⟨u,D⟩|⟨QY,⟨x,st',q,D⟩|⟨en,pl,q,D⟩⟩
 all_goals
  rw[D];clear D
  try(have HF:=qd q;clear q)
  rcases E with⟨rfl,rfl,_,_⟩|⟨rfl,rfl,_,_⟩
 all_goals
  go_enter func351,ntmps351
  go_wp2_with(first|(go_at_call 295;(first|(have _q:=u;refine(qca H' I u).mono ?_)|refine(qcb H' I J2.1 J2.2 QY).mono ?_);rintro e w1⟨rfl,Q,A8⟩;obtain⟨r,q,_,F,hL⟩:=Q.mine mx FR;have p1:Xc w1 w.heap.size 1 (.int .i64 st.place):=(r 1).trans mx;have p3:=q9 P3 _ (r 3);have SR:=qd F;have I2:=qd (yn A0 Q);have G3:=qd A8;clear Q A8 r q F)|(go_at_call 351;(first|(have _q:=u;refine(ES _ _ _ _ _ G3).mono ?_;rintro e T⟨i,rfl,H,A⟩)|(refine(HS mw _ (ko s st) ns (j+1) G3 (by show st.op+1=op+1;omega)).mono ?_;rintro e T⟨H,M⟩;rw[q9 HF]at M;(first|(have _q:=en;obtain⟨i,rfl,A⟩:=M)|(obtain⟨new,rfl,A,M6,N0,E9⟩:=M;have O4:=qd E9;clear E9))));obtain⟨r,q,_,F,DM⟩:=H.mine hL SR;have q1:Xc T w.heap.size 1 (.int .i64 st.place):=(r 1).trans p1;have q3:=(r 3).trans p3;have I4:=A.lt;obtain⟨d7,dz⟩:=A.c7;(try rw[M6]at d7);have P:=qd (I2.trans H);have t:=qd A;clear H A r q F)|(go_at_call 216;(first|(have _q:=u;refine(RV _ _ _ _ _ _ _ (t.setOp 12 12 rfl).1 mw mx).mono ?_;rintro e R⟨U,rfl,y,G⟩;have B:=qd ((t.setOp 12 12 rfl).2.trans y))|(have _q:=en;refine(RV _ _ _ _ _ _ _ (t.setOp op _ mw).1 mw mx).mono ?_;rintro e R⟨U,rfl,y,G⟩;have B:=qd ((t.setOp op _ mw).2.trans y))|(refine(RU _ _ _ _ _ _ (t.setOp op _ mw).1 mx).mono ?_;rintro e R⟨rfl,y,G⟩;have B:=qd ((t.setOp op _ mw).2.trans y)));have O:=qd G;clear y G))
  go_ret
  first
   | (
    have _q:=u;refine⟨P.trans B,_,rfl, ?_⟩;rw[←C,u]
    exact O.more mw)
   | exact⟨P.trans B,U,rfl,q9 O⟩
   | (
    refine⟨P.trans B,_,j7 mx, ?_,C, ?_,Flat.un _ O4⟩
    ·have:=q9 O
     rw[bi]at this;rw[C];exact this
    ·have:(ko s st).place<=st'.place:=N0
     have e:(ko s st).place=(qg s st).place:=rfl;show st.place<=st'.place
     omega)
end
section
theorem qra(rb:Nat)(s:mu)(W:s.size<=200)(op m:Nat)(E:200<=m)(w:World)(st:St)(ns:List RN)(j:Nat)(h:RT w rb s ns j st)(D:st.op=op)(l:st.tk.kind≠2/\st.tk.kind≠3/\st.tk.kind≠4/\st.tk.kind≠8/\st.tk.kind≠9/\st.tk.kind≠22/\st.tk.kind≠23/\st.tk.kind≠26):
  nz 351 #[.pointer (some ⟨rb,0,none⟩)] w (REnds rb s w op m ns j st.place (.err 2 st.place)):=by
 obtain⟨c2,c3,c4,c5,c6⟩:=h.ct;have c8:=h.c8;have G:=h.lt;have n0:¬w.heap.size=rb:=mw;have Y:¬rb=w.heap.size:=mw;have i8:=isK (st:=st) (c:=8) (X:=⟨#[84,82,85,69]⟩) rfl nh nh 6 rfl;have u:=isK (st:=st) (c:=9) (X:=⟨#[70,65,76,83,69]⟩) rfl nh nh 6 rfl;have q:=isK (st:=st) (c:=22) (X:=⟨#[43]⟩) rfl nh nh 5 rfl;have r:=isK (st:=st) (c:=23) (X:=⟨#[45]⟩) rfl nh nh 5 rfl;have t:=isK (st:=st) (c:=26) (X:=⟨#[40]⟩) rfl nh nh 5 rfl;rw[ae.2 l.2.2.2.1]at i8;rw[ae.2 l.2.2.2.2.1]at u;rw[ae.2 l.2.2.2.2.2.1]at q;rw[ae.2 l.2.2.2.2.2.2.1]at r;rw[ae.2 l.2.2.2.2.2.2.2]at t
 have B:(rK st.tk.kind==2)=false/\(rK st.tk.kind==3)=false/\(rK st.tk.kind==4)=false:=by
  obtain⟨h2,h3,h4,_⟩:=l;refine⟨ae.2 ?_,ae.2 ?_,ae.2 ?_⟩<;>(unfold rK;split<;>(try split)<;>omega)
 obtain⟨B,M,J⟩:=B;have H:=qd h;clear h l;generalize rK st.tk.kind=K at *;generalize BS (tkS st)=S at *;generalize tkZ st=Z at *;generalize tkN st=N at *;have F:∀o,Hid (nz 174 #[.pointer (some ⟨rb,0,none⟩),.int .i64 2,.int .i64 st.place] (w.alloc o) λe w'=>e=.returned (.tuple #[])/\TKept rb (w.alloc o) w'/\RE w' rb s 2 st.place st.op 200):=λo=>qd (kQ (H.alloc o) W 2 st.place nh)
 rcases(show K=6\/K=5\/(K≠6/\K≠5) by omega) with rfl|rfl|⟨O,C⟩
 ·rw[ip,fm]at i8 u
  rw[show(⟨#[84,82,85,69]⟩:mu).toList=[84,82,85,69] from by rw[ei]]at i8;rw[show(⟨#[70,65,76,83,69]⟩:mu).toList=[70,65,76,83,69] from by rw[ei]]at u;clear q r t B M J;go_enter func351,ntmps351
  go_wp2_with(go_at_call 174;refine(q9 (F _)).mono ?_;rintro e I⟨rfl,i,b⟩;have y:=qd (yn G i);have A:=qd b;clear i b)
  go_ret;exact⟨q9 y,0,rfl,D ▸ (q9 A).more E⟩
 ·rw[ip,fm]at q r t
  rw[show(⟨#[43]⟩:mu).toList=[43] from by rw[ei]]at q;rw[show(⟨#[45]⟩:mu).toList=[45] from by rw[ei]]at r;rw[show(⟨#[40]⟩:mu).toList=[40] from by rw[ei]]at t;have U:¬S.toList=[43]:=ae.1 q;have T:¬S.toList=[45]:=ae.1 r;have R:¬S.toList=[40]:=ae.1 t;clear i8 u B M J;go_enter func351,ntmps351
  go_wp2_with(go_at_call 174;refine(q9 (F _)).mono ?_;rintro e I⟨rfl,i,b⟩;have y:=qd (yn G i);have A:=qd b;clear i b)
  go_ret;exact⟨q9 y,0,rfl,D ▸ (q9 A).more E⟩
 ·have P:(K==6)=false:=ae.2 O
  have Q:(K==5)=false:=ae.2 C;have j5:¬K=5:=C;clear i8 u q r t O C;go_enter func351,ntmps351
  go_wp2_with(go_at_call 174;refine(q9 (F _)).mono ?_;rintro e I⟨rfl,i,b⟩;have y:=qd (yn G i);have A:=qd b;clear i b)
  go_ret;exact⟨q9 y,0,rfl,D ▸ (q9 A).more E⟩
end
section
def plT(w:World)(rb:Nat):Nat:=match w.cell? ⟨rb,3,none⟩ with
 | some (.int _ n)=>n.toNat
 | _=>0
def meT(s:ByteArray)(w:World)(rb:Nat):Nat:=match w.cell? ⟨rb,8,none⟩ with
 | some (.int _ n)=>if n=0 then s.size+2 - plT w rb else 0
 | _=>0
theorem qnc{ns:List RN}(h:RT w rb s ns j st):meT s w rb=s.size+2 - st.place:=by
 have e:=h.ct.2.1;have b:=h.c8;unfold meT plT;rw[b,e];simp
theorem ve2(h:RE w rb s en pl op m):meT s w rb=0:=by
 obtain⟨i,b⟩:=h.c8;unfold meT;rw[i];simp only;rw[aj (by intro e;rw[e]at b;simp at b)]
theorem qfi{ns:List RN}(h:RT w rb s ns j st):
  nz 215 #[.pointer (some ⟨rb,0,none⟩),.int .i64 kind,.string X] w λe w'=>e=.returned (.bool (rK st.tk.kind==kind&&((BS (tkS st)).toList==X.toList)))/\w'=w:=by
 obtain⟨nv,h,_⟩:=h;exact ku h kind X
theorem vdx{a b:Int}(h:a=b):Value.int .i64 a=Value.int .i64 b:=by rw[h]
def vis(rb:Nat)(s:ByteArray)(w:World)(op m:Nat)(ns:List RN)(j lo:Nat)(R:Res)(f:St->Res)(ks:List Int)(v:Value)(wr:World):Prop:=
 TKept rb w wr/\((∃(n:Nat) (l:Ast) (sl:St) (new:List RN),R=j9 s f ks n l sl/\s.size<n+sl.place/\v=.int .i64 ((ns.length+new.length - 1:Nat):Int)/\RT wr rb s (ns++new) j sl/\sl.op=op/\lo<=sl.place/\Flat l ns.length new) \/
  ∃(en pl:Int) (i:Nat),R=.err en pl/\v=.int .i64 i/\RE wr rb s en pl op m)
end
section
theorem vk8(e:(ks=[22,23]/\b1=43/\b2=45)\/(ks=[24,25]/\b1=42/\b2=47))(b:St):∃t1 t2:Bool,(rK b.tk.kind==5&&((BS (tkS b)).toList==(⟨#[b1]⟩:mu).toList))=t1/\(rK b.tk.kind==5&&((BS (tkS b)).toList==(⟨#[b2]⟩:mu).toList))=t2/\ks.contains b.tk.kind=(t1||t2)/\((t1||t2)=true->22<=b.tk.kind/\b.tk.kind<=25):=by
 rcases e with⟨rfl,rfl,rfl⟩|⟨rfl,rfl,rfl⟩
 ·refine⟨_,_,isK (c:=22) rfl nh nh 5 rfl,isK (c:=23) rfl nh nh 5 rfl,by simp only[mi,List.contains_nil,gs],λh=>?_⟩
  simp at h;omega
 ·refine⟨_,_,isK (c:=24) rfl nh nh 5 rfl,isK (c:=25) rfl nh nh 5 rfl,by simp only[mi,List.contains_nil,gs],λh=>?_⟩
  simp at h;omega
theorem qdk{F K:Nat}(hC:(F=320/\K=342/\b1=43/\b2=45/\ks=[22,23])\/(F=342/\K=351/\b1=42/\b2=47/\ks=[24,25]))(rb:Nat)(s:mu)(hs:s.size<=200)(op m:Nat)(hm:200<=m)(bG:m<=900)(f:St->Res)(u:RReads K rb s op m f):RReads F rb s op (m+1) (jH s f ks):=by
 intro w st ns j h ho;have HF:=qd u;have HC:=qd (u w st ns j h ho);have E:=qd (vk8 (ks:=ks) (b1:=b1) (b2:=b2) (by rcases hC with⟨_,_,q,h2,y⟩|⟨_,_,q,h2,y⟩;exact .inl ⟨y,q,h2⟩;exact .inr ⟨y,q,h2⟩));obtain⟨R,Z⟩:∃r,jH s f ks st=r:=⟨_,rfl⟩;rw[Z];have HR:=qd Z;clear u h Z;rcases hC with⟨rfl,rfl,rfl,rfl,_⟩|⟨rfl,rfl,rfl,rfl,_⟩
 all_goals
  first|go_enter func320,ntmps320|go_enter func342,ntmps342
  go_wp2_with((first|go_at_call 342|go_at_call 351);refine HC.mono ?_;rintro e w1 q;have H1:Hid (∃v,e=.returned v/\vis rb s w op (m+1) ns j st.place R f ks v w1):=qd (by
    obtain⟨A5,q⟩:=q;rw[←q9 HR]
    cases D4:f st with
    | ok l0 st0=>rw[D4]at q;obtain⟨new,rfl,A8,P0,V8,Q⟩:=q;exact⟨_,rfl,A5,.inl ⟨s.size+1,l0,st0,new,qce D4,mw,rfl,A8,P0,V8,Q⟩⟩
    | err en pl=>rw[D4]at q;obtain⟨i,rfl,A8⟩:=q;exact⟨_,rfl,A5,.inr ⟨en,pl,i,qa3 D4,rfl,A8.more mw⟩⟩);clear q;obtain⟨v1,rfl,q⟩:=q9 H1;have Y:=qd q;clear H1 q)
  go_loopw [3] (λv wr=>Hid (vis rb s w op (m+1) ns j st.place R f ks v wr)) (λv wr=>meT s wr rb)
  case atStart=>exact Y
  case round=>
   obtain⟨M,t⟩:=q9 hrel;rcases t with⟨n,l,b,new,A,hn,rfl,C,wL,K0,Q⟩|⟨en,pl,i,A,rfl,W⟩
   ·have I0:=C.fine
    have LD:=I0.place;have dD:=C.lt;obtain⟨c2,c3,c4,c5,c6⟩:=C.ct;have c8:=C.c8;obtain⟨U,rfl⟩:∃U,n=U+1:=⟨n - 1,mw⟩;have JJ:=qd (qnc C);have H:=qd C;have P:=qd M;have O4:=qd Q;clear C M Q hrel Y;obtain⟨J,T,dV,fK,B,D⟩:=q9 E b;rcases(show(J=false/\T=false)\/J=true\/(J=false/\T=true) by cases J<;>cases T<;>simp) with⟨rfl,rfl⟩|rfl|⟨rfl,rfl⟩
    ·have I:Hid (R=.ok l b):=qd (by rw[A,ky B])
     clear B A D
     go_wp2_with(go_at_call 215;refine(qfi H).mono ?_;rintro e w'⟨rfl,hw'⟩;subst w';simp only[dV,fK])
     go_ret;rw[q9 I];exact⟨q9 P,new,rfl,q9 H,wL,K0,q9 O4⟩
    all_goals
     replace D:=D rfl;replace B:=B.trans (show _=true from rfl);have cF:=I0.step_place mw;have FR:=qd (H.fresh (.cells #[.int .i64 (rK b.tk.kind),.int .i64 b.place,.int .i64 (tkZ b),.string (BS (tkS b)),.int .i64 (tkN b)] 235));have H':=qd (H.alloc (.cells #[.int .i64 (rK b.tk.kind),.int .i64 b.place,.int .i64 (tkZ b),.string (BS (tkS b)),.int .i64 (tkN b)] 235));have hN:=qd (congrArg BS ((qhi (.inr (.inr ⟨mw,D.2⟩))).trans (qxu (st:=b) mw).symm));have J2:b.tk.kind≠0/\b.tk.kind≠1:=⟨mw,mw⟩;have HKD:=qd D;have n0:¬wr.heap.size=rb:=mw;have n1:¬rb=wr.heap.size:=mw;rcases D4:f (qg s b) with⟨r,J1⟩|⟨en,pl⟩
    all_goals
     first
      | have I:=qd (A.trans (kx B (kN D4)))
      | have I:=qd (A.trans (gC B (yG D4)))
     have J5:=qd D4;clear B A D4 D
     go_wp2_with(first|(go_at_call 215;refine(qfi H).mono ?_;rintro e w'⟨rfl,hw'⟩;subst w';simp only[dV,fK])|(go_at_call 172;refine(ju H' hs J2.1 J2.2).mono ?_;rintro e w2⟨rfl,A7,A9⟩;obtain⟨t,u,_,O,hL⟩:=A7.mine mx FR;have p1:Xc w2 wr.heap.size 1 (.int .i64 b.place):=(t 1).trans mx;have p3:Xc w2 wr.heap.size 3 (.string (BS (tkS b))):=(t 3).trans mx;have aP:=qd O;have J9:=qd (yn dD A7);have I8:=qd A9;clear A7 A9 t u O)|((first|go_at_call 342|go_at_call 351);refine(HF _ (qg s b) (ns++new) (j+1) I8 wL).mono ?_;rintro e w3⟨D7,y⟩;rw[q9 J5]at y;(first|(have _q:=en;obtain⟨i3,rfl,D9⟩:=y)|(obtain⟨vb2,rfl,D9,FK,fG,hfl3⟩:=y;have BU:=qd hfl3;clear hfl3));obtain⟨t,u,_,O,DM⟩:=D7.mine hL aP;have q1:Xc w3 wr.heap.size 1 (.int .i64 b.place):=(t 1).trans p1;have q3:Xc w3 wr.heap.size 3 (.string (BS (tkS b))):=(t 3).trans p3;have P4:=qd D7;have N9:=qd D9;clear D7 D9 t u O)|(go_at_call 216;(first|(have _q:=en;refine(qc8 N9 mw (tkS b) b.place (ns.length+new.length - 1) i3 rfl mx).mono ?_;rintro e w4⟨i4,rfl,H6,G⟩;have lP:=qd (ve2 G))|(refine(qf9 N9 hs ⟨qcv b.tk.kind,b.place,0,[],[],[]⟩ (ns.length+new.length - 1) (ns.length+new.length+vb2.length - 1) hN rfl rfl rfl mx).mono ?_;rintro e w4⟨rfl,H6,G⟩;have tZ:=G.fine.place;have lP:=qd (qnc G)));have aS:=qd (((P.trans J9).trans P4).trans H6);have U8:=qd G;clear H6 G))
     go_roundw
     case rel=>
      first
       | exact qd ⟨q9 aS,.inr ⟨en,pl,i4,q9 I,rfl,q9 U8⟩⟩
       | (
        refine qd ⟨q9 aS,.inl ⟨U,_,J1,new++vb2++[js ⟨qcv b.tk.kind,b.place,0,[],[],[]⟩ [ns.length+new.length - 1,ns.length+new.length+vb2.length - 1] false],q9 I,mw,vdx my, ?_,FK,mw,Flat.bin _ O4 (by have:=q9 BU;rwa [bu]at this)⟩⟩;have:=q9 U8
        simpa only[bi]using this)
     case measure=>rw[q9 JJ,q9 lP];omega
   ·obtain⟨c8,mE⟩:=W.c8
    have DY:=qd W;have P:=qd M;clear W M hrel Y
    go_wp2_with fail
    go_ret;rw[A];exact⟨q9 P,i,rfl,q9 DY⟩
end
end Go.Proofs.YtfkcaldjphakpaaGreatDoor
