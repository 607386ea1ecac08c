/- The document's answer -/
import Derived.Test.YtfkcaldjphakpaaGreatDoorM09
import Derived.ArgAppend
set_option maxHeartbeats 64000000
set_option maxRecDepth 100000
namespace Go.Proofs.YtfkcaldjphakpaaGreatDoor
open Go.RowKit Go.Proofs.Tryz
variable{cs:Array Value}{l:Ast}{E N S X s:mu}{a at' c en er k kind pl z:Int}{ts:List mv}{ns:List RN}{vs:List Value}{B L b cap g i0 j lo m n op rb:Nat}{R:Res}{sl st y:St}{f:St->Res}{ty ty':TypeId}{iv lv nv v:Value}{W w w':World}
section
theorem RReads.more{K:Nat}{e:Nat}(h:RReads K rb s op m f)(q:m<=e):RReads K rb s op e f:=λw st ns j i o=>(h w st ns j i o).mono λ_ _ r=>r.more q nt
end
section
structure VN(w:World)(rb L:Nat)(ty:TypeId)(cs:Array Value):Prop where
 blk:w.heap[L]?=some (.cells cs ty (0,0))
 past:rb<L
 no:¬gJ w rb L
section
variable {w w':World} {rb L:Nat} {ty:TypeId} {cs:Array Value}
theorem VN.lt(h:VN w rb L ty cs):L<w.heap.size:=(cg.1 h.blk).1
theorem VN.cell(h:VN w rb L ty cs)(i:Nat):w.cell? ⟨L,i,none⟩=cs[i]?:=by
 have:=h.blk;simp[World.cell?,this]
theorem VN.frz(h:VN w rb L ty cs)(i:Nat):w.frozen? ⟨L,i,none⟩=false:=by
 have:=h.blk;simp[World.frozen?,this]
theorem VN.kept(h:VN w rb L ty cs)(e:TKept rb w w'):VN w' rb L ty cs:=
 ⟨(e.block L h.lt h.no).trans h.blk,h.past,λi=>h.no (e.own L h.lt i)⟩
theorem qkl(w:World)(o:L≠rb)(i:Nat)(u:Value)(k:Nat):gJ (w.setCell ⟨L,i,none⟩ u) rb k↔gJ w rb k:=by
 have h:(w.setCell ⟨L,i,none⟩ u).cell? ⟨rb,0,none⟩=w.cell? ⟨rb,0,none⟩:=aw (w:=w) (a:=⟨rb,0,none⟩) (bo w ⟨L,i,none⟩ u rb (λe=>o e.symm));unfold gJ;rw[h]
theorem VN.set(h:VN w rb L ty cs)(i:Nat)(u:Value):VN (w.setCell ⟨L,i,none⟩ u) rb L ty (cs.setIfInBounds i u):=by
 refine⟨?_,h.past,λe=>h.no ((qkl w (by have:=h.past;omega) i u L).1 e)⟩;have:=h.blk;simp[World.setCell,ir,this]
theorem VN.setB(h:VN w rb L ty cs){M:Nat}(q:L≠M)(e:M≠rb)(i:Nat)(u:Value):VN (w.setCell ⟨M,i,none⟩ u) rb L ty cs:=
 ⟨(bo w ⟨M,i,none⟩ u L q).trans h.blk,h.past,λo=>h.no ((qkl w e i u L).1 o)⟩
theorem VN.rt(h:VN w rb L ty cs)(I:(3:TypeId)≠ty)(H:(9:TypeId)≠ty)(A:RT w rb s ns j st)(i:Nat)(u:Value):RT (w.setCell ⟨L,i,none⟩ u) rb s ns j st:=by
 obtain⟨nv,o,F,G,C⟩:=A;have t:L≠rb:=by have:=h.past;omega
 have r:(w.setCell ⟨L,i,none⟩ u).heap[rb]?=w.heap[rb]?:=bo w ⟨L,i,none⟩ u rb (λe=>t e.symm);have q:∀j,(w.setCell ⟨L,i,none⟩ u).cell? ⟨rb,j,none⟩=w.cell? ⟨rb,j,none⟩:=λj=>aw (w:=w) (a:=⟨rb,j,none⟩) r
 have D:∀j,(w.setCell ⟨L,i,none⟩ u).frozen? ⟨rb,j,none⟩=w.frozen? ⟨rb,j,none⟩:=λj=>cf (w:=w) (a:=⟨rb,j,none⟩) r
 refine⟨nv,⟨by simpa using o.lt,(q _).trans o.c0,(q _).trans o.c1,(q _).trans o.c2,(q _).trans o.c3,(q _).trans o.c4,(q _).trans o.c5,(q _).trans o.c6,(q _).trans o.c7,(q _).trans o.c8,(q _).trans o.c9,λj=>(D j).trans (o.fz j)⟩,F.far h.blk I H t (λe=>h.no (.inr ⟨nv,o.c0,e⟩)) i u,G,C⟩
theorem VN.re(h:VN w rb L ty cs)(I:(3:TypeId)≠ty)(H:(9:TypeId)≠ty)(A:RE w rb s en pl op m)(i:Nat)(u:Value):RE (w.setCell ⟨L,i,none⟩ u) rb s en pl op m:=by
 obtain⟨nv,a,ns,o,F,G,C⟩:=A;have t:L≠rb:=by have:=h.past;omega
 have r:(w.setCell ⟨L,i,none⟩ u).heap[rb]?=w.heap[rb]?:=bo w ⟨L,i,none⟩ u rb (λe=>t e.symm);have q:∀j,(w.setCell ⟨L,i,none⟩ u).cell? ⟨rb,j,none⟩=w.cell? ⟨rb,j,none⟩:=λj=>aw (w:=w) (a:=⟨rb,j,none⟩) r
 have D:∀j,(w.setCell ⟨L,i,none⟩ u).frozen? ⟨rb,j,none⟩=w.frozen? ⟨rb,j,none⟩:=λj=>cf (w:=w) (a:=⟨rb,j,none⟩) r
 refine⟨nv,a,ns,⟨by simpa using o.lt,(q _).trans o.c0,(q _).trans o.c1,(q _).trans o.c2,(q _).trans o.c3,(q _).trans o.c4,(q _).trans o.c5,(q _).trans o.c6,(q _).trans o.c7,(q _).trans o.c8,(q _).trans o.c9,λj=>(D j).trans (o.fz j)⟩,F,G.far h.blk I H t (λe=>h.no (.inr ⟨nv,o.c0,e⟩)) i u,C⟩
theorem VN.row(h:VN w rb L ty cs)(o:ty'≠ty)(e:RowOf w rb ty' v vs)(i:Nat)(u:Value):RowOf (w.setCell ⟨L,i,none⟩ u) rb ty' v vs:=e.far h.blk o (by have:=h.past;omega) i u
theorem VN.new{s:mu}{ns:List RN}{j:Nat}{st:St}(h:RT w rb s ns j st)(ty:TypeId)(cs:Array Value){L:Nat}(e:L=w.heap.size):VN (w.alloc (.cells cs ty)) rb L ty cs:=by
 subst e;exact⟨heap_alloc_new w _,h.lt,h.fresh _⟩
theorem VN.alloc(h:VN w rb L ty cs)(e:rb<w.heap.size)(o:Obj):VN (w.alloc o) rb L ty cs:=h.kept (TKept.of_below (nw.alloc nt o) e)
end
section
variable {w:World} {rb:Nat} {s:mu} {ns:List RN} {j:Nat} {st:St} {en pl:Int} {op m:Nat}
theorem qdd(h:RT w rb s ns (j+1) st)(i:s.size<=200)(p:Pay)(o:p.num=0)(ins:List Nat)(neg:Bool)(u:BS (qD p.op)=N)(t:BS p.str=S)(A:BS p.esc=E)(r:RowOf w rb 3 iv (gK ins))(q:RowOf w rb 9 lv (qu p.texts)):
  nz 216 #[.pointer (some ⟨rb,0,none⟩),.agg #[.string N,.int .i64 p.place,iv,.string S,.string E,lv,.int .i64 0,.bool neg,.int .i64 0]] w
   λe w'=>e=.returned (.int .i64 ns.length)/\TKept rb w w'/\RT w' rb s (ns++[js p ins neg]) j st:=by
 have:=qfc h i (js p ins neg) r q;unfold rnV at this;have G:(js p ins neg).op=qD p.op:=rfl;have F:(js p ins neg).str=p.str:=rfl;have D:(js p ins neg).esc=p.esc:=rfl;have C:(js p ins neg).num=p.num:=rfl;rw[G,F,D,C,o,u,t,A]at this;exact this
theorem qfa(h:RE w rb s en pl op m)(o:m<=1000)(ins:List Nat)(ts:List mv)(neg:Bool)(r:RowOf w rb 3 iv (gK ins))(q:RowOf w rb 9 lv (qu ts)):
  nz 216 #[.pointer (some ⟨rb,0,none⟩),.agg #[.string N,.int .i64 a,iv,.string S,.string E,lv,.int .i64 0,.bool neg,.int .i64 0]] w
   λe w'=>∃i:Nat,e=.returned (.int .i64 i)/\TKept rb w w'/\RE w' rb s en pl op (m+1):=
 qfb h o ⟨N.data.toList,a,ins,S.data.toList,E.data.toList,ts,0,neg,0⟩ r q
end
theorem VN.nine{C A u t r q o i e:Value}(h:VN w rb n ty #[C,A,u,t,r,q,o,i,e]):Xc w n 0 C/\Xc w n 1 A/\Xc w n 2 u/\Xc w n 3 t/\Xc w n 4 r/\Xc w n 5 q/\Xc w n 6 o/\Xc w n 7 i/\Xc w n 8 e/\Xf w n:=⟨h.cell 0,h.cell 1,h.cell 2,h.cell 3,h.cell 4,h.cell 5,h.cell 6,h.cell 7,h.cell 8,h.frz⟩
end
section
abbrev nuN(w:World)(pl:Nat)(b:Bool):Array Value:=#[.string ⟨#[78,85,76,76]⟩,.int .i64 pl,.slice (some ⟨w.heap.size,0,none⟩) 1 1,.string ⟨#[]⟩,.string ⟨#[]⟩,.slice none 0 0,.int .i64 0,.bool b,.int .i64 0]
abbrev nuW(w:World)(i0 pl:Nat):World:=(w.alloc (.cells #[.int .i64 i0] 3)).alloc (.cells (nuN w pl false) 241)
theorem qwj(rb:Nat)(s:mu)(i:s.size<=200)(op m:Nat)(hm:201<=m)(w:World)(st:St)(ns new:List RN)(j:Nat)(l:Ast)(h:RT w rb s (ns++new) j st)(H:st.op=op)(hk:st.tk.kind=14)(E9:Flat l ns.length new)(i0:Nat)(M7:i0=ns.length+new.length - 1):
  nz 322 #[.pointer (some ⟨rb,0,none⟩),.int .i64 i0] w (REnds rb s w op m ns j st.place (jd s l st)):=by
 obtain⟨_,c3,_⟩:=h.ct;have F:=h.lt;have n0:¬w.heap.size=rb:=mw;have n1:¬rb=w.heap.size:=mw;have n2:¬w.heap.size+1=rb:=mw;have n3:¬rb=w.heap.size+1:=mw;have rL:Hid (TKept rb w (nuW w i0 st.place)):=qd (((TKept.refl rb w).alloc F _).alloc F _);have H0:Hid (RT (nuW w i0 st.place) rb s (ns++new) j st):=qd ((h.alloc _).alloc _);have uN:Hid (VN (nuW w i0 st.place) rb (w.heap.size+1) 241 (nuN w st.place false)):=qd (VN.new (h.alloc _) _ _ mx);have fW:Hid (RowOf (nuW w i0 st.place) rb 3 (.slice (some ⟨w.heap.size,0,none⟩) 1 1) (gK [i0])):=qd (RowOf.kept (RowOf.made F h.fresh 3 #[.int .i64 i0] 1 rfl) (TKept.of_below (nw.alloc nt _) (h.alloc _).lt));have K0:=h.fine.step_place mw;have Y:=qd E9;have bL:=qd M7;have OM:(qg s st).tk.kind≠0->(qg s st).place<(qg s (qg s st)).place:=(qC s st h.fine.after).step_place;have OL:(qg s (qg s st)).tk.kind≠0->(qg s (qg s st)).place<(qg s (qg s (qg s st))).place:=(qC s _ (qC s st h.fine.after).after).step_place;clear h E9 M7;unfold jd;rcases(show((qg s st).tk.kind=7/\(qg s (qg s st)).tk.kind=15)\/((qg s st).tk.kind=7/\¬(qg s (qg s st)).tk.kind=15)\/(¬(qg s st).tk.kind=7/\(qg s st).tk.kind=15)\/(¬(qg s st).tk.kind=7/\¬(qg s st).tk.kind=15) by omega) with⟨r,o⟩|⟨r,J⟩|⟨G,o⟩|⟨G,J⟩
 all_goals
  first|(rw[bh r];have CR:=dg.2 r)|(rw[aj G];have CR:=ae.2 G)
  first|rw[bh o]|rw[aj J]
  go_enter func322,ntmps322
  go_wp2_with(first|(go_at_call 215;refine(qns u 7 (X:=⟨#[78,79,84]⟩) rfl nh nh rfl).mono ?_;rintro e w'⟨rfl,hw'⟩;subst w';rw[CR])|(go_at_call 172;have _q:=u;refine(ju (t.rt nh nh u 7 (.bool true)) i mw mw).mono ?_;rintro e w2⟨rfl,C,A9⟩;have oF:=qd ((t.set 7 (.bool true)).kept C);have SE:=qd ((t.row nh JH 7 (.bool true)).kept C);have J9:=qd ((I2.far F (p:=⟨w.heap.size+1,7,none⟩) (by show w.heap.size<=w.heap.size+1;omega) (.bool true)).trans C);have I8:=qd A9;clear C A9)|(go_at_call 172;refine(ju H0 i mw mw).mono ?_;rintro e w1⟨rfl,D,Q⟩;have q:=(q9 uN).kept D;have p7:Xc w1 (w.heap.size+1) 7 (.bool false):=q.cell 7;have pz:=q.frz;have JH:=qd (fW.kept D);have I2:=qd (rL.trans D);have B9:=Q.lt;have t:=qd q;have u:=qd Q;clear D Q q)|(go_at_call 343;(first|(have M:=I8;have HV:Hid (VN _ _ _ _ (nuN w st.place true)):=oF;have T:=SE;have HK:=J9)|(have M:=u;have HV:=t;have T:=JH;have HK:=I2));(first|(have _q:=o;refine(qfl M i 15 rfl nh nh rfl o).mono ?_)|refine(gA M i 15 rfl nh nh rfl J).mono ?_);rintro e w3⟨rfl,A,D9⟩;obtain⟨q0,q1,q2,q3,q4,q5,q6,q7,q8,_⟩:=(HV.kept A).nine;have JG:=qd (T.kept A);have P4:=qd (HK.trans A);have Z:=qd D9;clear A D9)|(go_at_call 216;(first|(have _q:=o;refine(qdd Z i ⟨23,st.place,0,[],[],[]⟩ rfl [i0] _ rfl rfl rfl JG (RowOf.no _ _ _)).mono ?_;rintro e w4⟨rfl,P,K⟩)|(refine(qfa Z mw [i0] [] _ JG (RowOf.no _ _ _)).mono ?_;rintro e w4⟨i4,rfl,P,K⟩));have I:=qd (P4.trans P);have U:=qd K;clear P K))
  go_ret
  first
   | exact⟨q9 I,i4,rfl,H ▸ (q9 U).more mw⟩
   | (
    have O:=q9 U;rw[bi,q9 bL]at O;have:=OM mw
    first
     | (
      have _q:=r;have:=OL mw
      exact⟨q9 I,_,j7 mx,O.less mw,H,mw,Flat.neg1 _ _ (.inr (.inr rfl)) Y⟩)
     | exact⟨q9 I,_,j7 mx,O.less mw,H,mw,Flat.un _ Y⟩)
end
section
structure But(L:Nat)(w w':World):Prop where
 os:w'.os=w.os
 tape:w'.tape=w.tape
 output:w'.output=w.output
 size:w.heap.size<=w'.heap.size
 block:∀k,k<w.heap.size->k≠L->w'.heap[k]?=w.heap[k]?
section
variable {L rb:Nat} {w w' w'':World} {ty:TypeId} {cs:Array Value}
theorem But.refl(L:Nat)(w:World):But L w w:=⟨rfl,rfl,rfl,nt,λ_ _ _=>rfl⟩
theorem But.trans(h:But L w w')(k:But L w' w''):But L w w'':=⟨k.os.trans h.os,k.tape.trans h.tape,k.output.trans h.output,bs h.size k.size,λi o e=>(k.block i (bg o h.size) e).trans (h.block i o e)⟩
theorem But.below(h:But L w w')(e:Xb w' w''):But L w w'':=h.trans ⟨e.os,e.tape,e.output,e.size,λk i _=>e.block k i⟩
theorem But.alloc(h:But L w w')(o:Obj):But L w (w'.alloc o):=h.below (nw.alloc nt o)
theorem But.set(h:But L w w')(i:Nat)(u:Value):But L w (w'.setCell ⟨L,i,none⟩ u):=
 h.trans ⟨rfl,rfl,rfl,mx,λk _ e=>bo w' ⟨L,i,none⟩ u k e⟩
theorem But.grown(h:But L w w'){row:Option Nat}(i:w'.grownBy w'' row)(q:∀g,row=some g->w.heap.size<=g):But L w w'':=
 ⟨i.os.trans h.os,i.tape.trans h.tape,i.output.trans h.output,bs h.size i.size,λk o r=>(i.block k (bg o h.size) (λe=>by have:=q k e.symm;omega)).trans (h.block k o r)⟩
theorem But.cell0(h:But L w w')(o:rb<w.heap.size)(e:rb≠L)(i:Nat):w'.cell? ⟨rb,i,none⟩=w.cell? ⟨rb,i,none⟩:=aw (w:=w) (w':=w') (a:=⟨rb,i,none⟩) (h.block rb o e)
theorem But.own(h:But L w w')(i:rb<w.heap.size)(e:rb≠L)(k:Nat):gJ w' rb k↔gJ w rb k:=by unfold gJ;rw[h.cell0 i e]
theorem But.row(h:But L w w')(I:rb<w.heap.size)(r:VN w rb L ty cs)(q:ty'≠ty)(o:RowOf w rb ty' v vs):RowOf w' rb ty' v vs:=by
 have C:rb≠L:=by have:=r.past;omega
 rcases o with o|⟨g,cap,c,fr,hv',A,i,u,t⟩
 ·exact .inl o
 ·have H:g≠L:=λe=>by subst e;rw[r.blk]at i;injection i with e;injection e with _ F _;exact q F.symm
  have G:=(cg.1 i).1;exact .inr ⟨g,cap,c,fr,hv',A,(h.block g G H).trans i,λD=>u ((h.own I C g).1 D),t⟩
theorem But.tr{n op:Int}(h:But L w w')(o:rb≠L)(e:TrC w rb nv s k a z S n op er at'):TrC w' rb nv s k a z S n op er at':=by
 have i:∀j,w'.cell? ⟨rb,j,none⟩=w.cell? ⟨rb,j,none⟩:=h.cell0 e.lt o;have q:∀j,w'.frozen? ⟨rb,j,none⟩=w.frozen? ⟨rb,j,none⟩:=λj=>cf (w:=w) (w':=w') (a:=⟨rb,j,none⟩) (h.block rb e.lt o)
 exact⟨bg e.lt h.size,(i _).trans e.c0,(i _).trans e.c1,(i _).trans e.c2,(i _).trans e.c3,(i _).trans e.c4,(i _).trans e.c5,(i _).trans e.c6,(i _).trans e.c7,(i _).trans e.c8,(i _).trans e.c9,λj=>(q j).trans (e.fz j)⟩
theorem But.nodes(h:But L w w')(D:rb<w.heap.size)(c0:Xc w rb 0 nv)(o:VN w rb L ty cs)(J:(3:TypeId)≠ty)(I:(9:TypeId)≠ty)(H:NodesAt w rb nv ns):NodesAt w' rb nv ns:=by
 obtain⟨F,G,q,t⟩:=H;refine⟨F,G,vp q λg u=>h.block g (q.lt g u).2 (λe=>o.no (.inr ⟨nv,c0,e ▸ u⟩)),λi n r C A=>⟨h.row D o J (t i n r C A).1,h.row D o I (t i n r C A).2⟩⟩
theorem But.rt(h:But L w w')(i:VN w rb L ty cs)(A:(3:TypeId)≠ty)(u:(9:TypeId)≠ty)(o:RT w rb s ns j st):RT w' rb s ns j st:=by
 obtain⟨nv,e,r,t,q⟩:=o;exact⟨nv,h.tr (by have:=i.past;omega) e,h.nodes e.lt e.c0 i A u r,t,q⟩
theorem But.re(h:But L w w')(i:VN w rb L ty cs)(A:(3:TypeId)≠ty)(u:(9:TypeId)≠ty)(o:RE w rb s en pl op m):RE w' rb s en pl op m:=by
 obtain⟨nv,a,ns,e,r,t,q⟩:=o;exact⟨nv,a,ns,h.tr (by have:=i.past;omega) e,r,h.nodes e.lt e.c0 i A u t,q⟩
theorem TKept.but{a:World}(e:TKept rb a w)(h:But L w w')(r:rb<a.heap.size)(t:a.heap.size<=L):TKept rb a w':=by
 refine⟨h.os.trans e.os,h.tape.trans e.tape,h.output.trans e.output,bs e.size h.size,λk i q=>(h.block k (bg i e.size) mw).trans (e.block k i q),λk i o=>e.own k i ((h.own (bg r e.size) mw k).1 o)⟩
theorem But.no(h:But L w w')(e:VN w rb L ty cs)(o:rb<w.heap.size):¬gJ w' rb L:=λi=>e.no ((h.own o (by have:=e.past;omega) L).1 i)
end
theorem qna:(prog.info? 3).map (λi=>(i.zero,i.size,i.bytes))=some (some (.int .i64 0),1,8):=nl
theorem qyy(A:Xc W g 0 (.int .i64 i0))(a:Nat):
  ∃q cap w',(appR #[52,52] 52 #[.slice (some ⟨g,0,none⟩) 1 1,.slice (some ⟨W.heap.size,0,none⟩) 1 1]).run prog (W.alloc (.cells #[.int .i64 a] 3))=.ok (.slice (some ⟨q,0,none⟩) 2 cap) w' /\
   Hid (w'.ownsRow W.heap.size 3 1 (.slice (some ⟨q,0,none⟩) 2 cap) 2 [.int .i64 i0,.int .i64 a])/\Hid (Xb W w'):=by
 obtain⟨i,G,T,Y,U⟩:=info_parts qna;have o:Xb W (W.alloc (.cells #[.int .i64 (a:Int)] 3)):=nw.alloc nt _;have M:g<W.heap.size:=ii W ⟨g,0,none⟩ A;obtain⟨v',w',C,D,r⟩:=run_append_arg_grows (P:=prog) (w:=W.alloc (.cells #[.int .i64 (a:Int)] 3)) 52 52 3 i _ 1 8 underlying52 G T Y U rfl mw ⟨g,0,none⟩ 1 1 [.int .i64 i0] rfl
  (by
   intro j u e;rcases j with _|j
   ·simp at e;subst e;exact((qj o).1 _ _ M).trans A
   ·simp at e)
  ⟨W.heap.size,0,none⟩ 1 1 [.int .i64 a] rfl
  (by
   intro j u e;rcases j with _|j
   ·simp at e;subst e;simp[Addr.add]
   ·simp at e) mw (by unfold maxLen;omega) mw
 obtain⟨F,Z|⟨q,cap,cur,rfl,O,Q,K,J,I,H⟩⟩:=D
 ·omega
 ·refine⟨q,cap,w',C,qd ⟨F,.inr ⟨q,cap,cur,rfl, ?_,Q,K,J,I,H⟩⟩,qd ⟨r.os.trans o.os,r.tape.trans o.tape,r.output.trans o.output,bs o.size r.size,λk t=>(r.block k (bg t o.size) mx).trans (o.block k t)⟩⟩
  simp at O;omega
theorem qyz{a:Nat}(t:W.ownsRow B 3 1 (.slice (some ⟨g,0,none⟩) 2 cap) 2 [.int .i64 i0,.int .i64 a])(M:B<=W.heap.size)(b:Nat):
  ∃q cap' w',(appR #[52,52] 52 #[.slice (some ⟨g,0,none⟩) 2 cap,.slice (some ⟨W.heap.size,0,none⟩) 1 1]).run prog (W.alloc (.cells #[.int .i64 b] 3))=.ok (.slice (some ⟨q,0,none⟩) 3 cap') w' /\
   Hid (w'.ownsRow B 3 1 (.slice (some ⟨q,0,none⟩) 3 cap') 3 [.int .i64 i0,.int .i64 a,.int .i64 b])/\Hid (W.grownBy w' (some g))/\B<=g:=by
 obtain⟨i,G,I,K,J⟩:=info_parts qna;have e:Xb W (W.alloc (.cells #[.int .i64 (b:Int)] 3)):=nw.alloc nt _;have H:=t.lt g rfl;obtain⟨q,cap',w',D,C,o,_,_⟩:=run_append_lies (P:=prog) (W.alloc (.cells #[.int .i64 (b:Int)] 3)) 52 52 B 3 i _ 1 8 underlying52 G I K J rfl mw _ 2 _ (World.ownsRow.alloc t _) ⟨W.heap.size,0,none⟩ 1 1 [.int .i64 b] rfl
  (by
   intro j u r;rcases j with _|j
   ·simp at r;subst r;simp[Addr.add]
   ·simp at r) (by simp[Value.oneCell']) mw (by unfold maxLen;omega) mw my _ rfl
 exact⟨q,cap',w',D,qd C,qd ⟨o.os.trans e.os,o.tape.trans e.tape,o.output.trans e.output,bs e.size o.size,λk A F=>(o.block k (bg A e.size) F).trans (e.block k A)⟩,H.1⟩
theorem qvn(r:w.ownsRow B ty 1 (.slice (some ⟨g,0,none⟩) n cap) n vs)(H:rb<B)(t:¬gJ w rb g):RowOf w rb ty (.slice (some ⟨g,0,none⟩) n cap) vs:=by
 obtain⟨G,o|⟨M,cap',cur,q,P,D,K,J,I,A⟩⟩:=r
 ·cases o.1
 ·injection q with i O C
  injection i with i;injection i with i;subst i C;refine .inr ⟨g,cap,cur,(0,0),by rw[show vs.length=n by omega],mw,D,t,λj u e=>?_⟩;rw[←A]at e;have F:=au.1 e;have:=F.1;simp only[dh]at this;rw[List.getElem?_take]at e
  split at e
  ·simpa using e
  ·cases e
end
section
attribute [local go_sem ↓] vk
def vmx(neg:Bool)(pl:Int)(t:Ast):Ast:=if neg=true then .un ⟨5,pl,0,[],[],[]⟩ t else t
def vb1(neg:Bool)(pl:Int)(r:Res):Res:=match r with
 | .ok t st=>.ok (vmx neg pl t) st
 | .err en p=>.err en p
theorem RT.own_lt(h:RT w rb s ns j st)(k:Nat)(q:gJ w rb k):k<w.heap.size:=by
 obtain⟨nv,i,⟨u,_,r,_⟩,_⟩:=h;rcases q with rfl|⟨o,e,t⟩
 ·exact i.lt
 ·rw[i.c0]at e;injection e with e;subst e;exact(r.lt k t).2
theorem RE.own_lt(h:RE w rb s en pl op m)(k:Nat)(q:gJ w rb k):k<w.heap.size:=by
 obtain⟨nv,a,ns,i,_,⟨u,_,r,_⟩,_⟩:=h;rcases q with rfl|⟨o,e,t⟩
 ·exact i.lt
 ·rw[i.c0]at e;injection e with e;subst e;exact(r.lt k t).2
theorem viv(e:st.tk.kind=10):(∃en pl,f (qg s st)=.err en pl/\qQ s f l st=.err en pl)\/∃lo A6,f (qg s st)=.ok lo A6/\((¬A6.tk.kind=5/\qQ s f l st=.err 2 A6.place)\/(A6.tk.kind=5/\((∃en pl,f (qg s A6)=.err en pl/\qQ s f l st=.err en pl)\/∃hi J1,f (qg s A6)=.ok hi J1/\qQ s f l st=.ok (.tri ⟨20,st.place,0,[],[],[]⟩ l lo hi) J1))):=by
 unfold qQ;rw[bh e]
 cases h:f (qg s st) with
 | err en pl=>exact .inl ⟨en,pl,rfl,rfl⟩
 | ok lo A6=>
  refine .inr ⟨lo,A6,rfl, ?_⟩
  by_cases k5:A6.tk.kind=5
  ·refine .inr ⟨k5, ?_⟩
   simp only[bh k5]
   cases h2:f (qg s A6) with
   | err en pl=>exact .inl ⟨en,pl,rfl,rfl⟩
   | ok hi J1=>exact .inr ⟨hi,J1,rfl,rfl⟩
  ·exact .inl ⟨k5,by simp only[aj k5]⟩
abbrev beN(pl:Nat)(v:Value)(neg:Bool):Array Value:=#[.string ⟨#[66,69,84,87,69,69,78]⟩,.int .i64 pl,v,.string ⟨#[]⟩,.string ⟨#[]⟩,.slice none 0 0,.int .i64 0,.bool neg,.int .i64 0]
structure BwN(w W:World)(rb L g i0:Nat)(cs:Array Value):Prop where
 v:VN W rb L 241 cs
 g:VN W rb g 3 #[.int .i64 i0]
 k:TKept rb w W
theorem BwN.kept{W':World}(h:BwN w W rb L g i0 cs)(e:TKept rb W W'):BwN w W' rb L g i0 cs:=⟨h.v.kept e,h.g.kept e,h.k.trans e⟩
theorem vkt(C:rb<W.heap.size)(A:VN W rb L ty cs)(U:Xc W g 0 (.int .i64 i0))(FG:∀k,gJ W rb k->k<W.heap.size)(a b:Nat):
  ∃o q t i u r,(appR #[52,52] 52 #[.slice (some ⟨g,0,none⟩) 1 1,.slice (some ⟨W.heap.size,0,none⟩) 1 1]).run prog (W.alloc (.cells #[.int .i64 a] 3))=.ok (.slice (some ⟨o,0,none⟩) 2 q) t /\
   (appR #[52,52] 52 #[.slice (some ⟨o,0,none⟩) 2 q,.slice (some ⟨t.heap.size,0,none⟩) 1 1]).run prog ((t.setCell ⟨L,2,none⟩ (.slice (some ⟨o,0,none⟩) 2 q)).alloc (.cells #[.int .i64 b] 3))=.ok (.slice (some ⟨i,0,none⟩) 3 u) r /\
   VN t rb L ty cs/\VN r rb L ty (cs.setIfInBounds 2 (.slice (some ⟨o,0,none⟩) 2 q)) /\
   Hid (But L W (r.setCell ⟨L,2,none⟩ (.slice (some ⟨i,0,none⟩) 3 u)))/\Hid (RowOf (r.setCell ⟨L,2,none⟩ (.slice (some ⟨i,0,none⟩) 3 u)) rb 3 (.slice (some ⟨i,0,none⟩) 3 u) (gK [i0,a,b])):=by
 have Y:=A.lt;have H:=A.past;obtain⟨o,q,t,Q6,SR,O⟩:=qyy U a;have F:But L W t:=(But.refl L W).below O;have VU:=F.size;have M:VN t rb L ty cs:=⟨(O.block L Y).trans A.blk,H,F.no A C⟩;have D:(t.setCell ⟨L,2,none⟩ (.slice (some ⟨o,0,none⟩) 2 q)).ownsRow W.heap.size 3 1 (.slice (some ⟨o,0,none⟩) 2 q) 2 [.int .i64 i0,.int .i64 a]:=ownsRow_setCell_below SR (by show L<_;omega) _;have OD:=M.set 2 (.slice (some ⟨o,0,none⟩) 2 q);obtain⟨i,u,r,I,aP,K,XQ⟩:=qyz D my b;rw[size_setCell]at I;have G:But L W r:=(F.set 2 (.slice (some ⟨o,0,none⟩) 2 q)).grown K (λg' e=>by have:=Option.some.inj e;omega);have Z:o≠L:=mw;have Q:VN r rb L ty (cs.setIfInBounds 2 (.slice (some ⟨o,0,none⟩) 2 q)):=⟨(K.block L my (λe=>Z (Option.some.inj e).symm)).trans OD.blk,H,G.no A C⟩;have J:=G.set 2 (.slice (some ⟨i,0,none⟩) 3 u);have P:(r.setCell ⟨L,2,none⟩ (.slice (some ⟨i,0,none⟩) 3 u)).ownsRow W.heap.size 3 1 (.slice (some ⟨i,0,none⟩) 3 u) 3 [.int .i64 i0,.int .i64 a,.int .i64 b]:=ownsRow_setCell_below aP (by show L<_;omega) _;refine⟨o,q,t,i,u,r,Q6,I,M,Q,qd J,qd (qvn P C λT=>?_)⟩;have:=FG i ((J.own C mw i).1 T);have:=(P.lt i rfl).1;omega
theorem qac(rb:Nat)(s:mu)(q:s.size<=200)(op m:Nat)(hm:200<=m)(bG:m<=900)(f:St->Res)(hf:RReads 320 rb s op m f)(eS:xh 320 rb s)(w:World)(st:St)(ns new:List RN)(j:Nat)(l:Ast)(h:RT w rb s (ns++new) j st)(ho:st.op=op)(hk:st.tk.kind=10)(E9:Flat l ns.length new)(i0:Nat)(M7:i0=ns.length+new.length - 1)(g:Nat)(I:VN w rb g 3 #[.int .i64 i0])(neg:Bool)(C:Int):
  nz 323 #[.pointer (some ⟨rb,0,none⟩),.agg #[.string ⟨#[]⟩,.int .i64 st.place,.slice (some ⟨g,0,none⟩) 1 1,.string ⟨#[]⟩,.string ⟨#[]⟩,.slice none 0 0,.int .i64 0,.bool neg,.int .i64 0]] w (REnds rb s w op (m+1) ns j st.place (vb1 neg C (qQ s f l st))):=by
 have A0:=h.lt;have n0:¬w.heap.size=rb:=mw;have n1:¬rb=w.heap.size:=mw;have aH:=I.lt;have rO:=qd (BwN.mk (VN.new h 241 (beN st.place (.slice (some ⟨g,0,none⟩) 1 1) neg) rfl) (I.alloc A0 _) ((TKept.refl rb w).alloc A0 _));have K0:=h.fine.step_place mw;have H0:=qd (h.alloc (.cells (beN st.place (.slice (some ⟨g,0,none⟩) 1 1) neg) 241));have HF:=qd hf;have ES:=qd eS;have O4:=qd E9;have bL:=qd M7;clear h I hf eS E9 M7;rcases viv (s:=s) (f:=f) (l:=l) hk with⟨en,pl,F6,o⟩|⟨lo,A6,F6,⟨F,o⟩|⟨k5,⟨T,pl2,Z,o⟩|⟨hi,J1,Z,o⟩⟩⟩
 all_goals
  rw[o];have TX:=qd F6;clear o F6
  try(have BX:=qd Z;clear Z)
  go_enter func323,ntmps323
  go_wp2_with(first|(go_at_call 172;refine(ju H0 q mw mw).mono ?_;rintro e w1⟨rfl,A5,A8⟩;have C9:=qd (rO.kept A5);have G3:=qd A8;clear A5 A8)|(go_at_call 320;have _q:=Y;(first|(have _q:=k5;refine(HF w3 (qg s A6) (ns++new++new1) (j+1+1) Y M6).mono ?_;rintro e w4⟨H6,M⟩;rw[q9 BX]at M;(first|(have _q:=T;obtain⟨b,rfl,t⟩:=M)|(obtain⟨eJ,he,t,tR,bR,nN⟩:=M;obtain⟨b,J⟩:∃k:Nat,(ns++new++new1).length+eJ.length - 1=k:=⟨_,rfl⟩;rw[J]at he;subst he;have Hb:=qd J;clear J;have BV:=qd nN;clear nN)))|(refine(ES w3 _ _ _ _ Y).mono ?_;rintro e w4⟨b,rfl,H6,t⟩));have i:=qd (E8.kept H6);have r:=qd t;clear H6 t;obtain⟨g1,L4,w6,g2,U1,w7,Q6,bK,A,x7,H,dN⟩:=vkt r.lt i.v (i.g.cell 0) r.own_lt a b;have p2:Xc w4 w.heap.size 2 (.slice (some ⟨g,0,none⟩) 1 1):=(q9 i).v.cell 2;have q2:Xc w6 w.heap.size 2 (.slice (some ⟨g,0,none⟩) 1 1):=A.cell 2;have z6:=A.frz;obtain⟨r0,r1,r2,r3,r4,r5,r6,r7,r8,z7⟩:=(show VN w7 rb w.heap.size 241 (beN st.place (.slice (some ⟨g1,0,none⟩) 2 L4) neg) from x7).nine;clear A x7)|(go_at_call 320;refine(HF w1 (qg s st) (ns++new) (j+1) G3 ho).mono ?_;rintro e w2⟨A7,O⟩;rw[q9 TX]at O;(first|(have _q:=en;obtain⟨a,rfl,u⟩:=O)|(obtain⟨new1,he,u,M6,N0,hfl1⟩:=O;obtain⟨a,K⟩:∃k:Nat,(ns++new).length+new1.length - 1=k:=⟨_,rfl⟩;rw[K]at he;subst he;have Ha:=qd K;clear K;have HFA:=qd u.fine;have TR:=qd hfl1;clear hfl1));have F9:=qd (C9.kept A7);have I8:=qd u;clear A7 u)|(go_at_call 343;(first|(have _q:=en;refine(qfk I8 nh).mono ?_)|(have _q:=F;refine(gA I8 q 5 rfl nh nh rfl F).mono ?_)|refine(qfl I8 q 5 rfl nh nh rfl k5).mono ?_);rintro e w3⟨rfl,D7,D9⟩;have E8:=qd (F9.kept D7);have Y:=qd D9;clear D7 D9)|(go_at_call 216;(first|(have _q:=J1;refine(qdd (H.rt i.v nh nh r) q ⟨20,st.place,0,[],[],[]⟩ rfl [i0,a,b] neg rfl rfl rfl dN (RowOf.no _ _ _)).mono ?_;rintro e w9⟨rfl,U,G⟩)|(refine(qfa (H.re i.v nh nh r) mw [i0,a,b] [] neg dN (RowOf.no _ _ _)).mono ?_;rintro e w9⟨i9,rfl,U,G⟩));have D:=qd ((i.k.but H A0 nt).trans U);have BI:=qd G;clear U G))
  go_ret
  first
   | (
    have _q:=F
    exact⟨q9 D,i9,rfl,M6 ▸ (q9 BI).more mw⟩)
   | exact⟨q9 D,i9,rfl,BI.more mw⟩
   | (
    refine⟨q9 D,new++new1++eJ++[js ⟨20,st.place,0,[],[],[]⟩ [ns.length+new.length - 1,ns.length+new.length+new1.length - 1,ns.length+new.length+new1.length+eJ.length - 1] neg],j7 my, ?_,tR, ?_, ?_⟩
    ·have:=q9 BI
     rw[q9 bL,←q9 Ha,←q9 Hb]at this;simp only[bu]at this;have:=this.less (j':=j) mw;simpa only[bi]using this
    ·have e1:=jT s A6
     have e2:=(q9 HFA).long mw;omega
    ·have Q:=q9 TR
     have P:=q9 BV;rw[bu]at Q;rw[bu,bu]at P
     cases neg with
     | false=>exact Flat.tri _ O4 Q P
     | true=>exact Flat.neg3 _ _ rfl O4 Q P)
end
section
theorem TrC.other{n op:Int}(h:TrC w rb nv s k a z S n op er at')(o:¬b=rb)(i:Nat)(u:Value):TrC (w.setCell ⟨b,i,none⟩ u) rb nv s k a z S n op er at':=
 ((But.refl b w).set i u).tr (λe=>o e.symm) h
section
variable {w:World} {rb:Nat} {nv:Value} {s:mu} {k a z:Int} {p:Nat} {S:mu} {n op er at':Int}
theorem qhn(h:TrC w rb nv s 4 a p S n op 0 at')(K:s.size<=200)(M:p<=s.size){A F t:Int}{H:mu}{u:Int}(D:qse s p A F t H u):
  nz 344 #[.pointer (some ⟨rb,0,none⟩)] w λe w'=>e=.returned (.agg #[.int .i64 4,.int .i64 a,.int .i64 p,.string S,.int .i64 n])/\TrC w' rb nv s A F t H u op 0 at'/\Kept rb w w':=by
 have n0:¬w.heap.size=rb:=by have:=h.lt;omega
 have Z:¬rb=w.heap.size:=by have:=h.lt;omega
 have J:¬w.heap.size+1=rb:=by have:=h.lt;omega
 have Y:¬rb=w.heap.size+1:=by have:=h.lt;omega
 have O:=qd (xR (w:=((w.alloc (.cells #[.int .i64 0,.int .i64 0,.int .i64 0,.string ⟨#[]⟩,.int .i64 0] 235)).alloc (.cells #[.int .i64 4,.int .i64 a,.int .i64 p,.string S,.int .i64 n] 235))) ((h.alloc _).alloc _) K M D);obtain⟨lt,c0,c1,c2,c3,c4,c5,c6,c7,c8,c9,fz⟩:=h;clear D;go_enter func344,ntmps344
 go_wp2_with(go_at_call 172;refine O.mono ?_;rintro e o⟨rfl,G,r⟩;obtain⟨q,C⟩:=jG r;have U:∀i,o.cell? ⟨w.heap.size+1,i,none⟩=(#[.int .i64 4,.int .i64 a,.int .i64 p,.string S,.int .i64 n]:Array Value)[i]?:=(λi=>(q _ i mx J).trans mx);have I:∀i,o.cell? ⟨w.heap.size,i,none⟩=(#[.int .i64 0,.int .i64 0,.int .i64 0,.string ⟨#[]⟩,.int .i64 0]:Array Value)[i]?:=(λi=>(q _ i my n0).trans mx);have T:Xf o w.heap.size:=λi=>(C _ i my n0).trans mx;have P:=qd ((((Kept.refl rb w).alloc _).alloc _).trans r);have Q:=qd G;clear r G q C)
 all_goals go_wp2_with fail
 refine ak (by simp[go_sem,I]) rfl ⟨rfl,((((Q.other (b:=w.heap.size) n0 0 _).other n0 1 _).other n0 2 _).other n0 3 _).other n0 4 _,((((P.far (p:=⟨w.heap.size,0,none⟩) nt _).far (p:=⟨w.heap.size,1,none⟩) nt _).far (p:=⟨w.heap.size,2,none⟩) nt _).far (p:=⟨w.heap.size,3,none⟩) nt _).far (p:=⟨w.heap.size,4,none⟩) nt _⟩
theorem qhm(h:TrC w rb nv s k a z S n op 0 at')(M:k≠4):
  nz 344 #[.pointer (some ⟨rb,0,none⟩)] w λe w'=>e=.returned (.agg #[.int .i64 k,.int .i64 a,.int .i64 z,.string S,.int .i64 n])/\TrC w' rb nv s 1 a 0 ⟨#[]⟩ 0 op 2 a/\Kept rb w w':=by
 have n0:¬w.heap.size=rb:=by have:=h.lt;omega
 have K:¬rb=w.heap.size:=by have:=h.lt;omega
 have C:¬w.heap.size+1=rb:=by have:=h.lt;omega
 have J:¬rb=w.heap.size+1:=by have:=h.lt;omega
 have F:=qd (yP (w:=((w.alloc (.cells #[.int .i64 0,.int .i64 0,.int .i64 0,.string ⟨#[]⟩,.int .i64 0] 235)).alloc (.cells #[.int .i64 k,.int .i64 a,.int .i64 z,.string S,.int .i64 n] 235))) ((h.alloc _).alloc _) 2 a);obtain⟨lt,c0,U,T,Q,c4,P,O,c7,c8,c9,fz⟩:=h;go_enter func344,ntmps344
 go_wp2_with(go_at_call 174;refine F.mono ?_;rintro e o⟨rfl,u,r⟩;obtain⟨q,t⟩:=jG r;have I:∀i,o.cell? ⟨w.heap.size+1,i,none⟩=(#[.int .i64 k,.int .i64 a,.int .i64 z,.string S,.int .i64 n]:Array Value)[i]?:=(λi=>(q _ i mx C).trans mx);have A:∀i,o.cell? ⟨w.heap.size,i,none⟩=(#[.int .i64 0,.int .i64 0,.int .i64 0,.string ⟨#[]⟩,.int .i64 0]:Array Value)[i]?:=(λi=>(q _ i my n0).trans mx);have H:Xf o w.heap.size:=λi=>(t _ i my n0).trans mx;have D:=qd ((((Kept.refl rb w).alloc _).alloc _).trans r);have G:=qd u;clear r u q t)
 all_goals go_wp2_with fail
 refine ak (by simp[go_sem,A]) rfl ⟨rfl,((((G.other (b:=w.heap.size) n0 0 _).other n0 1 _).other n0 2 _).other n0 3 _).other n0 4 _,((((D.far (p:=⟨w.heap.size,0,none⟩) nt _).far (p:=⟨w.heap.size,1,none⟩) nt _).far (p:=⟨w.heap.size,2,none⟩) nt _).far (p:=⟨w.heap.size,3,none⟩) nt _).far (p:=⟨w.heap.size,4,none⟩) nt _⟩
theorem qqw(h:TrC w rb nv s 1 a z S n op er at')(u:er≠0):
  nz 344 #[.pointer (some ⟨rb,0,none⟩)] w λe w'=>e=.returned (.agg #[.int .i64 1,.int .i64 a,.int .i64 z,.string S,.int .i64 n])/\TrC w' rb nv s 1 a 0 ⟨#[]⟩ 0 op er at'/\Kept rb w w':=by
 have n0:¬w.heap.size=rb:=by have:=h.lt;omega
 have M:¬rb=w.heap.size:=by have:=h.lt;omega
 have D:¬w.heap.size+1=rb:=by have:=h.lt;omega
 have K:¬rb=w.heap.size+1:=by have:=h.lt;omega
 have G:=qd (qcd (w:=((w.alloc (.cells #[.int .i64 0,.int .i64 0,.int .i64 0,.string ⟨#[]⟩,.int .i64 0] 235)).alloc (.cells #[.int .i64 1,.int .i64 a,.int .i64 z,.string S,.int .i64 n] 235))) ((h.alloc _).alloc _) u 2 a);obtain⟨lt,c0,U,T,Q,c4,P,O,c7,c8,c9,fz⟩:=h;clear u;go_enter func344,ntmps344
 go_wp2_with(go_at_call 174;refine G.mono ?_;rintro e o⟨rfl,A,r⟩;obtain⟨q,t⟩:=jG r;have J:∀i,o.cell? ⟨w.heap.size+1,i,none⟩=(#[.int .i64 1,.int .i64 a,.int .i64 z,.string S,.int .i64 n]:Array Value)[i]?:=(λi=>(q _ i mx D).trans mx);have C:∀i,o.cell? ⟨w.heap.size,i,none⟩=(#[.int .i64 0,.int .i64 0,.int .i64 0,.string ⟨#[]⟩,.int .i64 0]:Array Value)[i]?:=(λi=>(q _ i my n0).trans mx);have I:Xf o w.heap.size:=λi=>(t _ i my n0).trans mx;have F:=qd ((((Kept.refl rb w).alloc _).alloc _).trans r);have H:=qd A;clear r A q t)
 all_goals go_wp2_with fail
 refine ak (by simp[go_sem,C]) rfl ⟨rfl,((((H.other (b:=w.heap.size) n0 0 _).other n0 1 _).other n0 2 _).other n0 3 _).other n0 4 _,((((F.far (p:=⟨w.heap.size,0,none⟩) nt _).far (p:=⟨w.heap.size,1,none⟩) nt _).far (p:=⟨w.heap.size,2,none⟩) nt _).far (p:=⟨w.heap.size,3,none⟩) nt _).far (p:=⟨w.heap.size,4,none⟩) nt _⟩
end
end
section
inductive PS where
 | st (x:St)
 | er (en pl:Int)
def AT(w:World)(rb:Nat)(nv:Value)(s:ByteArray)(op:Nat):PS->Prop
 | .st x=>TrC w rb nv s (rK x.tk.kind) x.place (tkZ x) (BS (tkS x)) (tkN x) op 0 0/\Fine s x/\x.op=op
 | .er en pl=>en≠0/\∃a,TrC w rb nv s 1 a 0 ⟨#[]⟩ 0 op en pl
def qh9(s:ByteArray)(c:Int):PS->PS
 | .st x=>if x.tk.kind=c then .st (qg s x) else .er 2 x.place
 | .er en pl=>.er en pl
def qfw(s:ByteArray):PS->PS
 | .st x=>if x.tk.kind=4 then .st (qg s x) else .er 2 x.place
 | .er en pl=>.er en pl
theorem qes(h:y.tk.kind=c):qh9 s c (.st y)=.st (qg s y):=bh h
theorem qer(h:¬y.tk.kind=c):qh9 s c (.st y)=.er 2 y.place:=aj h
theorem qb1(h:y.tk.kind=4):qfw s (.st y)=.st (qg s y):=bh h
theorem qb0(h:¬y.tk.kind=4):qfw s (.st y)=.er 2 y.place:=aj h
def vkc:PS->ByteArray->Prop
 | .st x,S=>S=BS (tkS x)
 | .er _ _,_=>True
section
variable {w:World} {rb:Nat} {nv:Value} {s:mu} {op:Nat} {x:PS}
theorem AT.lt(h:AT w rb nv s op x):rb<w.heap.size:=by
 cases x with
 | st x=>exact h.1.lt
 | er en pl=>obtain⟨_,a,h⟩:=h;exact h.lt
theorem AT.c0(h:AT w rb nv s op x):Xc w rb 0 nv:=by
 cases x with
 | st x=>exact h.1.c0
 | er en pl=>obtain⟨_,a,h⟩:=h;exact h.c0
theorem AT.tr(h:AT w rb nv s op x)(e:But L w w')(i:rb≠L):AT w' rb nv s op x:=by
 cases x with
 | st x=>exact⟨e.tr i h.1,h.2⟩
 | er en pl=>obtain⟨o,a,h⟩:=h;exact⟨o,a,e.tr i h⟩
theorem vkh(h:AT w rb nv s op (.st y))(q:s.size<=200)(u:y.tk.kind≠1):
  nz 172 #[.pointer (some ⟨rb,0,none⟩)] w λe w'=>e=.returned (.tuple #[])/\Kept rb w w'/\AT w' rb nv s op (.st (qg s y)):=by
 obtain⟨i,o,r⟩:=h;rw[show tkZ y=(y.after:Int) by unfold tkZ;rw[aj u]]at i;refine(xR i q o.after (yg s y)).mono ?_;rintro e w'⟨rfl,A,t⟩;exact⟨rfl,t,A,qC s y o.after,r⟩
theorem vib(h:AT w rb nv s op x)(C:s.size<=200)(c:Int)(G:kwT c=X.data.toList)(H:5<=c)(I:c<=28)(t:rK c=kind):
  nz 343 #[.pointer (some ⟨rb,0,none⟩),.int .i64 kind,.string X] w λe w'=>e=.returned (.tuple #[])/\Kept rb w w'/\AT w' rb nv s op (qh9 s c x):=by
 cases x with
 | st y=>
  have r:=isK (st:=y) G H I kind t;obtain⟨i,A,D⟩:=h
  by_cases hc:y.tk.kind=c
  ·rw[qes hc]
   rw[hc,ip]at r;rw[show tkZ y=(y.after:Int) by unfold tkZ;rw[aj mw]]at i;have F:(rK c==kind)=true/\((BS (tkS y)).toList==X.toList)=true:=by simpa using r
   refine(qnt i C A.after (yg s y) kind X (by rw[hc];exact t) F.2).mono ?_;rintro e w'⟨rfl,q,o⟩;exact⟨rfl,o,q,qC s y A.after,D⟩
  ·rw[qer hc]
   rw[show(y.tk.kind==c)=false from ae.2 hc]at r;refine(qfj i kind X r).mono ?_;rintro e w'⟨rfl,q,o⟩;exact⟨rfl,o,nh,_,q⟩
 | er en pl=>
  obtain⟨u,a,i⟩:=h;refine(qhz i u kind X (by rw[←t];unfold rK;rw[aj mw];split<;>decide)).mono ?_;rintro e w'⟨rfl,q,o⟩;exact⟨rfl,o,u,a,q⟩
theorem vki(h:AT w rb nv s op x)(u:s.size<=200):
  nz 344 #[.pointer (some ⟨rb,0,none⟩)] w λe w'=>∃(k a z:Int) (S:mu) (n:Int),e=.returned (.agg #[.int .i64 k,.int .i64 a,.int .i64 z,.string S,.int .i64 n])/\Kept rb w w'/\AT w' rb nv s op (qfw s x)/\vkc x S:=by
 cases x with
 | st y=>
  obtain⟨i,t,A⟩:=h
  by_cases hc:y.tk.kind=4
  ·rw[qb1 hc]
   rw[show tkZ y=(y.after:Int) by unfold tkZ;rw[aj mw],show rK y.tk.kind=4 by rw[hc];rfl]at i;refine(qhn i u t.after (yg s y)).mono ?_;rintro e w'⟨rfl,q,o⟩;exact⟨_,_,_,_,_,rfl,o,⟨q,qC s y t.after,A⟩,rfl⟩
  ·rw[qb0 hc]
   refine(qhm i (by unfold rK;split<;>(try split)<;>omega)).mono ?_;rintro e w'⟨rfl,q,o⟩;exact⟨_,_,_,_,_,rfl,o,⟨nh,_,q⟩,rfl⟩
 | er en pl=>
  obtain⟨r,a,i⟩:=h;refine(qqw i r).mono ?_;rintro e w'⟨rfl,q,o⟩;exact⟨_,_,_,_,_,rfl,o,⟨r,a,q⟩,trivial⟩
theorem vms(h:AT w rb nv s op x)(F:NodesAt w rb nv ns)(A:ns.length<=100000)(p:Pay)(u:p.num=0)(ins:List Nat)(neg:Bool)(q:BS (qD p.op)=N)(J:BS p.str=S)(K:BS p.esc=E)(D:RowOf w rb 3 iv (gK ins))(C:RowOf w rb 9 lv (qu p.texts)):
  nz 216 #[.pointer (some ⟨rb,0,none⟩),.agg #[.string N,.int .i64 p.place,iv,.string S,.string E,lv,.int .i64 0,.bool neg,.int .i64 0]] w
   λe w'=>e=.returned (.int .i64 ns.length)/\TKept rb w w'/\∃i,AT w' rb i s op x/\NodesAt w' rb i (ns++[js p ins neg]):=by
 subst q J K;have G:(js p ins neg).num=p.num:=rfl
 cases x with
 | st y=>
  have:=pd h.1 F (js p ins neg) D C A;rw[G,u]at this;refine this.mono ?_;rintro e w'⟨rfl,r,i,t,o⟩;exact⟨rfl,r,i,⟨t,h.2⟩,o⟩
 | er en pl=>
  obtain⟨H,a,I⟩:=h;have:=pd I F (js p ins neg) D C A;rw[G,u]at this;refine this.mono ?_;rintro e w'⟨rfl,r,i,t,o⟩;exact⟨rfl,r,i,⟨H,a,t⟩,o⟩
end
structure Mid(rb L:Nat)(w w':World):Prop where
 os:w'.os=w.os
 tape:w'.tape=w.tape
 output:w'.output=w.output
 size:w.heap.size<=w'.heap.size
 block:∀k,k<w.heap.size->k≠rb->k≠L->w'.heap[k]?=w.heap[k]?
section
variable {L rb:Nat} {w w' w'':World} {ty:TypeId} {cs:Array Value}
theorem Mid.refl(rb L:Nat)(w:World):Mid rb L w w:=⟨rfl,rfl,rfl,nt,λ_ _ _ _=>rfl⟩
theorem Mid.kept(h:Mid rb L w w')(k:Kept rb w' w''):Mid rb L w w'':=⟨k.os.trans h.os,k.tape.trans h.tape,k.output.trans h.output,bs h.size k.size,λi o e q=>(k.block i (bg o h.size) e).trans (h.block i o e q)⟩
theorem Mid.but(h:Mid rb L w w')(k:But L w' w''):Mid rb L w w'':=⟨k.os.trans h.os,k.tape.trans h.tape,k.output.trans h.output,bs h.size k.size,λi o q e=>(k.block i (bg o h.size) e).trans (h.block i o q e)⟩
theorem Mid.far(h:Mid rb L w w'){p:Addr}(r:w.heap.size<=p.block)(u:Value):Mid rb L w (w'.setCell p u):=⟨h.os,h.tape,h.output,by have:=h.size;simpa using this,λi q e o=>(bo w' p u i mw).trans (h.block i q e o)⟩
theorem Mid.grown(h:Mid rb L w w'){row:Option Nat}(i:w'.grownBy w'' row)(q:∀g,row=some g->w.heap.size<=g):Mid rb L w w'':=
 ⟨i.os.trans h.os,i.tape.trans h.tape,i.output.trans h.output,bs h.size i.size,λk o t r=>(i.block k (bg o h.size) (λe=>by have:=q k e.symm;omega)).trans (h.block k o t r)⟩
theorem qni(c:Xc w rb 0 nv)(e:Xc w' rb 0 nv)(k:Nat):gJ w' rb k↔gJ w rb k:=by unfold gJ;rw[c,e]
theorem Mid.row(h:Mid rb L w w')(c:Xc w rb 0 nv)(G:Xc w' rb 0 nv)(t:VN w rb L ty cs)(q:ty'≠ty)(o:RowOf w rb ty' v vs):RowOf w' rb ty' v vs:=by
 rcases o with o|⟨g,cap,F,fr,hv',A,i,u,r⟩
 ·exact .inl o
 ·have I:g≠L:=λe=>by subst e;rw[t.blk]at i;injection i with e;injection e with _ D _;exact q D.symm
  have H:=(cg.1 i).1;exact .inr ⟨g,cap,F,fr,hv',A,(h.block g H mw I).trans i,λC=>u ((qni c G g).1 C),r⟩
theorem Mid.nodes(h:Mid rb L w w')(c:Xc w rb 0 nv)(D:Xc w' rb 0 nv)(o:VN w rb L ty cs)(J:(3:TypeId)≠ty)(I:(9:TypeId)≠ty)(H:NodesAt w rb nv ns):NodesAt w' rb nv ns:=by
 obtain⟨F,G,q,u⟩:=H;refine⟨F,G,vp q λg t=>h.block g (q.lt g t).2 (by have:=(q.lt g t).1;omega) (λe=>o.no (.inr ⟨nv,c,e ▸ t⟩)),λi n r C A=>⟨h.row c D o J (u i n r C A).1,h.row c D o I (u i n r C A).2⟩⟩
theorem TKept.mid{a:World}(i:TKept rb a w)(h:Mid rb L w w')(c:Xc w rb 0 nv)(t:Xc w' rb 0 nv)(u:a.heap.size<=L):TKept rb a w':=
 ⟨h.os.trans i.os,h.tape.trans i.tape,h.output.trans i.output,bs i.size h.size,λk o q=>(h.block k (bg o i.size) (λe=>q (.inl e)) mw).trans (i.block k o q),λk o r=>i.own k o ((qni c t k).1 r)⟩
end
structure AmV(W:World)(rb L Tb:Nat)(cs:Value->Array Value)(lv:Value)(ts:List (List UInt8))(wr:World):Prop where
 mid:Mid rb L W wr
 nb:wr.heap[L]?=some (.cells (cs lv) 241 (0,0))
 tb:∃k a z S n,wr.heap[Tb]?=some (.cells #[.int .i64 k,.int .i64 a,.int .i64 z,.string S,.int .i64 n] 235 (0,0))
 tp:W.heap.size<=Tb
 row:wr.ownsRow W.heap.size 9 1 lv ts.length (qu ts)
section
variable {W:World} {rb L Tb:Nat} {cs:Value->Array Value} {lv:Value} {ts:List mv} {wr w':World}
theorem AmV.kept(h:AmV W rb L Tb cs lv ts wr)(A:L<W.heap.size)(C:rb<L)(e:Kept rb wr w'):AmV W rb L Tb cs lv ts w':=by
 obtain⟨mid,r,⟨k,a,z,S,n,i⟩,q,row⟩:=h;have u:=mid.size;have t:=(cg.1 i).1;exact⟨mid.kept e,(e.block L mw mw).trans r,⟨k,a,z,S,n,(e.block Tb t mw).trans i⟩,q,vp row λg o=>e.block g (row.lt g o).2 (by have:=(row.lt g o).1;omega)⟩
theorem yC{c:Array Value}(h:w.heap[b]?=some (.cells c ty (0,0))):(∀i,w.cell? ⟨b,i,none⟩=c[i]?)/\Xf w b:=
 ⟨λi=>by simp[World.cell?,h],λi=>by simp[World.frozen?,h]⟩
theorem gD{c:Array Value}(h:w.heap[b]?=some (.cells c ty (0,0)))(i:Nat)(u:Value):(w.setCell ⟨b,i,none⟩ u).heap[b]?=some (.cells (c.setIfInBounds i u) ty (0,0)):=by
 simp[World.setCell,ir,h]
theorem AmV.tok(h:AmV W rb L Tb cs lv ts wr)(H:L<W.heap.size)(k a z:Int)(S:mu)(n:Int):
  AmV W rb L Tb cs lv ts (((((wr.setCell ⟨Tb,0,none⟩ (.int .i64 k)).setCell ⟨Tb,1,none⟩ (.int .i64 a)).setCell ⟨Tb,2,none⟩ (.int .i64 z)).setCell ⟨Tb,3,none⟩ (.string S)).setCell ⟨Tb,4,none⟩ (.int .i64 n)):=by
 obtain⟨mid,A,⟨G,J,F,K,n0,t⟩,o,row⟩:=h
 have r:∀g,lv.ownBlock=some g->g≠Tb:=by
  intro g i e;obtain⟨_,C|⟨I,cap,cur,rfl,_,u,_⟩⟩:=row
  ·rw[C.1]at i;cases i
  ·injection i with i
   subst i;subst e;rw[t]at u;injection u with e;injection e with _ D _;exact absurd D nh
 have q:L≠Tb:=mw;refine⟨((((mid.far (p:=⟨Tb,0,none⟩) o _).far (p:=⟨Tb,1,none⟩) o _).far (p:=⟨Tb,2,none⟩) o _).far (p:=⟨Tb,3,none⟩) o _).far (p:=⟨Tb,4,none⟩) o _, ?_,⟨k,a,z,S,n,gD (gD (gD (gD (gD t 0 _) 1 _) 2 _) 3 _) 4 _⟩,o,vp row λg i=>?_⟩
 ·rw[bo _ ⟨Tb,4,none⟩ _ L q,bo _ ⟨Tb,3,none⟩ _ L q,bo _ ⟨Tb,2,none⟩ _ L q,bo _ ⟨Tb,1,none⟩ _ L q,bo _ ⟨Tb,0,none⟩ _ L q];exact A
 ·have hg':=r g i
  rw[bo _ ⟨Tb,4,none⟩ _ g hg',bo _ ⟨Tb,3,none⟩ _ g hg',bo _ ⟨Tb,2,none⟩ _ g hg',bo _ ⟨Tb,1,none⟩ _ g hg',bo _ ⟨Tb,0,none⟩ _ g hg']
theorem AmV.app(h:AmV W rb L Tb cs lv ts wr)(hL:L<W.heap.size)(V4:rb<L)(M3:∀u v,(cs u).setIfInBounds 5 v=cs v)(hn:ts.length<=1000)(S:mu):
  ∃g cap o,(appR #[62,62] 62 #[lv,.slice (some ⟨wr.heap.size,0,none⟩) 1 1]).run prog (wr.alloc (.cells #[.string S] 9))=.ok (.slice (some ⟨g,0,none⟩) (ts.length+1) cap) o /\
   o.heap[L]?=some (.cells (cs lv) 241 (0,0))/\(o.heap[rb]?=wr.heap[rb]?)/\wr.heap.size<=o.heap.size /\
   AmV W rb L Tb cs (.slice (some ⟨g,0,none⟩) (ts.length+1) cap) (ts++[S.data.toList]) (o.setCell ⟨L,5,none⟩ (.slice (some ⟨g,0,none⟩) (ts.length+1) cap)):=by
 obtain⟨mid,K,⟨T,a0,O,S0,n0,F⟩,Q,row⟩:=h;obtain⟨i,hi,F2,B9,D8⟩:=info_parts qbj;have Y:=mid.size;have QK:=(cg.1 F).1;have r:Xb wr (wr.alloc (.cells #[.string S] 9)):=nw.alloc nt _;obtain⟨g,cap,o,hr,U,A,_,_⟩:=run_append_lies (P:=prog) (wr.alloc (.cells #[.string S] 9)) 62 62 W.heap.size 9 i _ 1 16 underlying62 hi F2 B9 D8 rfl mw lv ts.length _ (World.ownsRow.alloc row _) ⟨wr.heap.size,0,none⟩ 1 1 [.string S] rfl
  (by
   intro j u G;rcases j with _|j
   ·simp at G;subst G;simp[Addr.add]
   ·simp at G) (by simp[Value.oneCell']) mw (by unfold maxLen;omega) mw my _ rfl
 have q:∀g,lv.ownBlock=some g->g≠Tb/\W.heap.size<=g:=by
  intro g t;refine⟨λe=>?_,(row.lt g t).1⟩;obtain⟨_,Z|⟨g',cap,cur,rfl,_,M,_⟩⟩:=row
  ·rw[Z.1]at t;cases t
  ·injection t with t
   subst t;subst e;rw[F]at M;injection M with e;injection e with _ e2 _;exact absurd e2 nh
 have C:∀k,k<wr.heap.size->lv.ownBlock≠some k->o.heap[k]?=wr.heap[k]?:=λk D aW=>(A.block k (bg D r.size) (λe=>aW e.symm)).trans (r.block k D)
 have J:o.heap[L]?=wr.heap[L]?:=C L mw (λe=>by have:=(q L e).2;omega);have I:o.heap[Tb]?=wr.heap[Tb]?:=C Tb QK (λe=>(q Tb e).1 rfl);have dR:o.heap[rb]?=wr.heap[rb]?:=C rb mw (λe=>by have:=(q rb e).2;omega);have H:Mid rb L W o:=⟨(A.os.trans r.os).trans mid.os,(A.tape.trans r.tape).trans mid.tape,(A.output.trans r.output).trans mid.output,bs (bs Y r.size) A.size,λk D h1 h2=>(C k mw (λe=>by have:=(q k e).2;omega)).trans (mid.block k D h1 h2)⟩;refine⟨g,cap,o,hr,J.trans K,dR,bs r.size A.size,H.but ((But.refl L o).set 5 _), ?_,⟨T,a0,O,S0,n0, ?_⟩,Q, ?_⟩
 ·rw[gD (J.trans K),M3]
 ·rw[bo _ ⟨L,5,none⟩ _ Tb (by show Tb≠L;omega)];exact I.trans F
 ·rw[bu,qu,dt]
  exact ownsRow_setCell_below U (by show L<_;omega) _
end
end
section
attribute [local go_sem ↓] vk
theorem TrC.blk{n op:Int}(h:TrC w rb nv s k a z S n op er at')(i:w'.heap[rb]?=w.heap[rb]?):TrC w' rb nv s k a z S n op er at':=by
 have e:∀j,w'.cell? ⟨rb,j,none⟩=w.cell? ⟨rb,j,none⟩:=λj=>aw (w:=w) (w':=w') (a:=⟨rb,j,none⟩) i
 have o:∀j,w'.frozen? ⟨rb,j,none⟩=w.frozen? ⟨rb,j,none⟩:=λj=>cf (w:=w) (w':=w') (a:=⟨rb,j,none⟩) i
 exact⟨ii w' ⟨rb,0,none⟩ ((e 0).trans h.c0),(e _).trans h.c0,(e _).trans h.c1,(e _).trans h.c2,(e _).trans h.c3,(e _).trans h.c4,(e _).trans h.c5,(e _).trans h.c6,(e _).trans h.c7,(e _).trans h.c8,(e _).trans h.c9,λj=>(o j).trans (h.fz j)⟩
theorem AT.blk{x:PS}(h:AT w rb nv s op x)(e:w'.heap[rb]?=w.heap[rb]?):AT w' rb nv s op x:=by
 cases x with
 | st x=>exact⟨h.1.blk e,h.2⟩
 | er en pl=>obtain⟨i,a,h⟩:=h;exact⟨i,a,h.blk e⟩
theorem ve3(h:AT w rb nv s op (.st y)):meT s w rb=s.size+2 - y.place:=by
 have i:=h.1.c3;have e:=h.1.c8;unfold meT plT;rw[e,i];simp
theorem vjm(h:AT w rb nv s op (.er en pl)):meT s w rb=0:=by
 obtain⟨e,a,h⟩:=h;unfold meT;rw[h.c8];simp only;rw[aj e]
theorem tis(h:AT w rb nv s op (.st y))(c:Int)(o:kwT c=X.data.toList)(q:5<=c)(r:c<=28)(i:rK c=kind):
  nz 215 #[.pointer (some ⟨rb,0,none⟩),.int .i64 kind,.string X] w λe w'=>e=.returned (.bool (y.tk.kind==c))/\w'=w:=by
 have:=ku h.1 kind X;rwa [isK o q r kind i]at this
def qg8(s:ByteArray)(l:Ast)(pl lo:Nat)(R:Res)(ts:List (List UInt8))(n:Nat):PS->Prop
 | .st sl=>R=zn s l pl n ts sl/\s.size<n+sl.place/\ts.length<=sl.place/\lo<sl.place
 | .er en p=>R=.err en p/\ts.length<=300
def vmt(W:World)(rb L Tb:Nat)(cs:Value->Array Value)(nv:Value)(s:ByteArray)(op:Nat)(l:Ast)(pl:Nat)(R:Res)(wr:World):Prop:=
 ∃x lv ts n,AmV W rb L Tb cs lv ts wr/\AT wr rb nv s op x/\qg8 s l pl pl R ts n x
theorem vip{pl:Nat}{x:PS}(i:s.size<=200)(h:AT w rb nv s op x)(e:qg8 s l pl lo R ts n x):ts.length<=300:=by
 cases x with
 | st y=>have:=h.2.1.place;have:=e.2.2.1;omega
 | er en p=>exact e.2
theorem qyn(o:Fine s st)(C:st.tk.kind=11)(i:vkc (qh9 s 26 (.st (qg s st))) S):qg8 s l st.place st.place (xj s l st) ([]++[S.data.toList]) (s.size+1) (qfw s (qh9 s 26 (.st (qg s st)))):=by
 have q:=qC s st o.after;have A:=o.step_place mw;unfold xj
 by_cases k26:(qg s st).tk.kind=26
 ·rw[qes k26]at i ⊢
  rw[bh k26];have r:=qC s _ q.after;have u:=q.step_place mw
  by_cases k4:(qg s (qg s st)).tk.kind=4
  ·rw[qb1 k4,bh k4]
   have t:=r.step_place mw
   have e:S.data.toList=(qg s (qg s st)).tk.str:=by
    rw[show S=BS (tkS (qg s (qg s st))) from i,xg];unfold tkS rS;rw[aj mw,bh mw]
   rw[ej,e];exact⟨rfl,mw,my,mw⟩
  ·rw[qb0 k4,aj k4];exact⟨rfl,mx⟩
 ·rw[qer k26,aj k26];exact⟨rfl,mx⟩
theorem vf4{pl:Nat}(F:s.size<=200)(o:Fine s sl)(q:sl.tk.kind=28)(h:qg8 s l pl lo R ts n (.st sl))(t:vkc (.st (qg s sl)) S):∃i,qg8 s l pl lo R (ts++[S.data.toList]) i (qfw s (.st (qg s sl))):=by
 obtain⟨r,H,D,I⟩:=h;have G:=o.place;obtain⟨i,rfl⟩:∃i,n=i+1:=⟨n - 1,mw⟩;have u:=qC s sl o.after;have C:=o.step_place mw
 by_cases k4:(qg s sl).tk.kind=4
 ·have A:=u.step_place mw
  have e:S.data.toList=(qg s sl).tk.str:=by
   rw[show S=BS (tkS (qg s sl)) from t,xg];unfold tkS rS;rw[aj mw,bh mw]
  rw[qb1 k4,e];exact⟨i,by rw[r,qbf q k4],mw,my,mw⟩
 ·rw[qb0 k4];exact⟨0,by rw[r,qd9 q k4],my⟩
theorem vdr{pl:Nat}{x:PS}(Y:s.size<=200)(hm:201<=m){K:World}{r:Value}{ns new:List RN}{neg:Bool}{q:Int}(Q:i0=ns.length+new.length - 1)(J:Flat l ns.length new)(A:(ns++new).length+j<=pl)(K0:pl<=200)
  (M:AT K rb r s op x) (D:qg8 s l pl pl R ts n x) (I:∀y,x=.st y->¬y.tk.kind=28) (P:TKept rb w w') (e:AT w' rb nv s op (qh9 s 27 x)) (o:NodesAt w' rb nv ((ns++new)++[js ⟨21,pl,0,[],[],ts⟩ [i0] neg])) {v:Int} (O:v=((ns++new).length:Nat)) :
  REnds rb s w op m ns j pl (vb1 neg q R) (.returned (.int .i64 v)) w':=by
 subst O;refine⟨P, ?_⟩
 cases x with
 | er en p=>
  rw[show R=.err en p from D.1];obtain⟨t,a,i⟩:=e;exact⟨_,rfl,nv,a,_,i,t,o,by simp at A ⊢;omega⟩
 | st sl=>
  obtain⟨G,hn,U,cI⟩:=D;have H:=M.2.1;have Z:=H.place;obtain⟨C,rfl⟩:∃C,n=C+1:=⟨n - 1,mw⟩
  by_cases k27:sl.tk.kind=27
  ·rw[qes k27]at e
   have T:=H.step_place mw;rw[show R=.ok (.un ⟨21,pl,0,[],[],ts⟩ l) (qg s sl) by rw[G,qda (I sl rfl) k27]];obtain⟨i,u,F⟩:=e;rw[bi]at o;refine⟨new++[js ⟨21,pl,0,[],[],ts⟩ [i0] neg],j7 mx,⟨nv, ?_,o,u,by simp at A ⊢;omega⟩,F,mw, ?_⟩
   ·rw[F];exact i
   ·subst Q
    cases neg with
    | false=>exact Flat.un _ J
    | true=>exact Flat.neg1 _ _ (.inl rfl) J
  ·rw[qer k27]at e
   rw[show R=.err 2 sl.place by rw[G,qbg (I sl rfl) k27]];obtain⟨t,a,i⟩:=e;exact⟨_,rfl,nv,a,_,i,t,o,by simp at A ⊢;omega⟩
theorem vf3(e:Fine s (qg s sl))(i:sl.place<(qg s sl).place)(t:(qg s sl).place<=s.size)(h:AT w rb nv s op (qfw s (.st (qg s sl)))):meT s w rb<s.size+2 - sl.place:=by
 by_cases k4:(qg s sl).tk.kind=4
 ·rw[qb1 k4]at h
  rw[ve3 h];have r:=jT s (qg s sl);have q:=e.long mw;have o:=h.2.1.place;omega
 ·rw[qb0 k4]at h;rw[vjm h];omega
theorem qi1(e:w.ownsRow B 9 1 lv n (qu ts))(q:rb<B)(o:∀k,B<=k->¬gJ w rb k):RowOf w rb 9 lv (qu ts):=by
 have h:=e;obtain⟨t,i|⟨g,cap,cur,rfl,r,_⟩⟩:=e
 ·obtain⟨rfl,rfl⟩:=i
  rw[cq (by omega:(qu ts).length=0)];exact RowOf.no _ _ _
 ·exact qvn h q (o g r)
theorem qdf(rb:Nat)(s:mu)(t:s.size<=200)(op m:Nat)(hm:201<=m)(w:World)(st:St)(ns new:List RN)(j:Nat)(l:Ast)(h:RT w rb s (ns++new) j st)(ho:st.op=op)(hk:st.tk.kind=11)(E9:Flat l ns.length new)(i0:Nat)(M7:i0=ns.length+new.length - 1)(g:Nat)(hg:VN w rb g 3 #[.int .i64 i0])(neg:Bool)(pl0:Int):
  nz 324 #[.pointer (some ⟨rb,0,none⟩),.agg #[.string ⟨#[]⟩,.int .i64 st.place,.slice (some ⟨g,0,none⟩) 1 1,.string ⟨#[]⟩,.string ⟨#[]⟩,.slice none 0 0,.int .i64 0,.bool neg,.int .i64 0]] w (REnds rb s w op m ns j st.place (vb1 neg pl0 (xj s l st))):=by
 have A0:=h.lt;have n0:¬w.heap.size=rb:=mw;have n1:¬rb=w.heap.size:=mw;have aH:=hg.lt;have QJ:VN (w.alloc (.cells #[.string ⟨#[73,78]⟩,.int .i64 st.place,.slice (some ⟨g,0,none⟩) 1 1,.string ⟨#[]⟩,.string ⟨#[]⟩,.slice none 0 0,.int .i64 0,.bool neg,.int .i64 0] 241)) rb w.heap.size 241 #[.string ⟨#[73,78]⟩,.int .i64 st.place,.slice (some ⟨g,0,none⟩) 1 1,.string ⟨#[]⟩,.string ⟨#[]⟩,.slice none 0 0,.int .i64 0,.bool neg,.int .i64 0]:=VN.new h _ _ rfl;have uH:TKept rb w (w.alloc (.cells #[.string ⟨#[73,78]⟩,.int .i64 st.place,.slice (some ⟨g,0,none⟩) 1 1,.string ⟨#[]⟩,.string ⟨#[]⟩,.slice none 0 0,.int .i64 0,.bool neg,.int .i64 0] 241)):=(TKept.refl rb w).alloc A0 _;have LU:VN (w.alloc (.cells #[.string ⟨#[73,78]⟩,.int .i64 st.place,.slice (some ⟨g,0,none⟩) 1 1,.string ⟨#[]⟩,.string ⟨#[]⟩,.slice none 0 0,.int .i64 0,.bool neg,.int .i64 0] 241)) rb g 3 #[.int .i64 i0]:=hg.alloc A0 _;have AO:RowOf (w.alloc (.cells #[.string ⟨#[73,78]⟩,.int .i64 st.place,.slice (some ⟨g,0,none⟩) 1 1,.string ⟨#[]⟩,.string ⟨#[]⟩,.slice none 0 0,.int .i64 0,.bool neg,.int .i64 0] 241)) rb 3 (.slice (some ⟨g,0,none⟩) 1 1) (gK [i0]):=.inr ⟨g,1,#[.int .i64 i0],(0,0),rfl,LU.past,LU.blk,LU.no,λj u hu=>by simpa [gK]using hu⟩;have G9:=h.few;have I0:=h.fine;have LD:=I0.place;have h0:=h.alloc (.cells #[.string ⟨#[73,78]⟩,.int .i64 st.place,.slice (some ⟨g,0,none⟩) 1 1,.string ⟨#[]⟩,.string ⟨#[]⟩,.slice none 0 0,.int .i64 0,.bool neg,.int .i64 0] 241);have FG:=h0.own_lt;obtain⟨nv,QM,QO,_,_⟩:=h0;have DP:AT (w.alloc (.cells #[.string ⟨#[73,78]⟩,.int .i64 st.place,.slice (some ⟨g,0,none⟩) 1 1,.string ⟨#[]⟩,.string ⟨#[]⟩,.slice none 0 0,.int .i64 0,.bool neg,.int .i64 0] 241)) rb nv s op (.st st):=⟨by rw[←ho];exact QM,I0,ho⟩;have U0:=QM.c0;have hW:(w.alloc (.cells #[.string ⟨#[73,78]⟩,.int .i64 st.place,.slice (some ⟨g,0,none⟩) 1 1,.string ⟨#[]⟩,.string ⟨#[]⟩,.slice none 0 0,.int .i64 0,.bool neg,.int .i64 0] 241)).heap.size=w.heap.size+1:=mx;have EXT:∃W:World,W=(w.alloc (.cells #[.string ⟨#[73,78]⟩,.int .i64 st.place,.slice (some ⟨g,0,none⟩) 1 1,.string ⟨#[]⟩,.string ⟨#[]⟩,.slice none 0 0,.int .i64 0,.bool neg,.int .i64 0] 241)):=⟨_,rfl⟩;obtain⟨W,LM⟩:=EXT;rw[←LM]at QJ uH AO FG QO DP U0 hW;have HWe:=qd LM;have YF:=qd (vkh DP t mw);rw[LM]at YF;have P:=qd QJ;have rL:=qd uH;have fW:=qd AO;have ZC:=qd QO;have F:=qd U0;have YX:=qd FG;have O4:=qd E9;have bL:=qd M7;have TQ:=qd I0;obtain⟨R,hR⟩:∃r,xj s l st=r:=⟨_,rfl⟩;have r9:Hid (∀S,vkc (qh9 s 26 (.st (qg s st))) S->qg8 s l st.place st.place R ([]++[S.data.toList]) (s.size+1) (qfw s (qh9 s 26 (.st (qg s st))))):=qd λS hS=>hR ▸ qyn I0 hk hS
 rw[hR];obtain⟨CSX,AS⟩:∃f:Value->Array Value,f=λlv=>#[.string ⟨#[73,78]⟩,.int .i64 st.place,.slice (some ⟨g,0,none⟩) 1 1,.string ⟨#[]⟩,.string ⟨#[]⟩,lv,.int .i64 0,.bool neg,.int .i64 0]:=⟨_,rfl⟩
 have T:=qd AS;have GJ:∀u v,(CSX u).setIfInBounds 5 v=CSX v:=by rw[AS];intro u v;rfl
 have JW:=qd GJ;clear h QM QJ uH LU AO hg QO DP U0 FG E9 M7 I0 hR LM AS GJ;go_enter func324,ntmps324
 go_wp2_with(first|(go_at_call 172;refine YF.mono ?_;rintro e w1⟨rfl,A5,DI⟩;have I2:=qd (by rw[←q9 HWe]at A5;exact A5:Kept rb W w1);have i6:=qd DI;clear A5 DI)|(go_at_call 343;refine(vib i6 t 26 rfl nh nh rfl).mono ?_;rintro e w2⟨rfl,A7,rD⟩;have J9:=qd (I2.trans A7);have lU:=qd rD;clear A7 rD)|(go_at_call 344;refine(vki lU t).mono ?_;rintro e o⟨tk,J,H,A,I,rfl,D7,GV,Z⟩;have cQ:=(q9 J9).trans D7;have S4:=cQ.size;have hB:=But.alloc (But.refl w.heap.size o) (.cells #[.int .i64 tk,.int .i64 J,.int .i64 H,.string A,.int .i64 I] 235);have XS:AmV W rb w.heap.size o.heap.size CSX (.slice none 0 0) [] (o.alloc (.cells #[.int .i64 tk,.int .i64 J,.int .i64 H,.string A,.int .i64 I] 235)):=⟨((Mid.refl rb w.heap.size W).kept cQ).but hB,(((Below.refl o.heap.size o).alloc nt _).block _ mw).trans ((cQ.block _ mw n0).trans (P.blk.trans (by rw[q9 T]))),⟨tk,J,H,A,I,heap_alloc_new o _⟩,S4,ed _ _ _ _⟩;have XT:=GV.blk (hB.block rb mw n1);obtain⟨g6,cT,Y,dM,K,dR,VU,IL⟩:=XS.app mw mw JW mx A;have XA:(appR #[62,62] 62 #[.slice none 0 0,.slice (some ⟨o.heap.size+1,0,none⟩) 1 1]).run prog ((o.alloc (.cells #[.int .i64 tk,.int .i64 J,.int .i64 H,.string A,.int .i64 I] 235)).alloc (.cells #[.string A] 9))=.ok (.slice (some ⟨g6,0,none⟩) 1 cT) Y:=(by have:=dM;rw[World.size_alloc]at this;exact this);have p5:Xc o w.heap.size 5 (.slice none 0 0):=(aw (w:=W) (w':=o) (a:=⟨w.heap.size,5,none⟩) (cQ.block w.heap.size mw n0)).trans (P.cell 5);have q5:Xc Y w.heap.size 5 (.slice none 0 0):=((yC K).1 5).trans (by rw[q9 T];rfl);have qz:Xf Y w.heap.size:=(yC K).2;have nLT:w.heap.size<o.heap.size:=mw;have IC:=(XT.blk (w':=Y) dR).tr ((But.refl w.heap.size Y).set 5 (.slice (some ⟨g6,0,none⟩) 1 cT)) n1;have MY:=qd IL;have MC:=qd IC;have ME:=qd Z;have hTbW:W.heap.size<=o.heap.size:=S4;clear dM D7 GV cQ hB XS XT K dR IL IC Z))
 go_loopw [20] (λ_ wr=>Hid (vmt W rb w.heap.size o.heap.size CSX nv s op l st.place R wr)) (λ_ wr=>meT s wr rb)
 case atStart=>exact qd ⟨_,_,_,_,q9 MY,q9 MC,q9 r9 _ ME⟩
 case round=>
  obtain⟨x,lv,ts,n,fO,C,Q⟩:=q9 hrel;have B8:=vip t C Q;have EK:=fO.mid.size;have UJ:=qd fO;have M:=qd C;have MH:=qd Q
  cases x with
  | er en pl=>
   have c8:Xc wr rb 8 (.int .i64 en):=by obtain⟨_,a,hT⟩:=C;exact hT.c8
   have mE:(en==0)=false:=ae.2 C.1;have EH:Hid (∀y,(PS.er en pl)=.st y->¬y.tk.kind=28):=qd λy e=>by cases e
   clear fO C Q hrel MY MC r9 ME
   go_wp2_with(first|(go_at_call 343;refine(vib M t 27 rfl nh nh rfl).mono ?_;rintro e w7⟨rfl,Z7,GU⟩;have D:=(q9 UJ).kept mw mw Z7;have FU:=D.mid;have FB:=D.row;obtain⟨G,z7⟩:=yC D.nb;rw[q9 T]at G;have r0:∀i,w7.cell? ⟨w.heap.size,i,none⟩=(#[.string ⟨#[73,78]⟩,.int .i64 st.place,.slice (some ⟨g,0,none⟩) 1 1,.string ⟨#[]⟩,.string ⟨#[]⟩,lv,.int .i64 0,.bool neg,.int .i64 0]:Array Value)[i]?:=(λi=>G i);have O:=qd FU;have RY:=qd FB;have q:=qd GU;clear Z7 GU D G z7 FU FB)|(go_at_call 216;refine(vms q (O.nodes F q.c0 P nh nh ZC) mw ⟨21,st.place,0,[],[],ts⟩ rfl [i0] neg rfl rfl rfl (O.row F q.c0 P nh fW) (qi1 RY mw (λk R7 iR=>by have:=q9 YX k ((qni F q.c0 k).1 iR);omega))).mono ?_;rintro e w8⟨rfl,U,nv8,GT,FP⟩;have TA:=qd ((rL.mid O F q.c0 nt).trans U);have UM:=qd GT;have SW:=qd FP;clear U GT FP))
   go_ret;exact vdr (new:=new) t hm bL O4 G9 mw M MH EH TA UM SW mx
  | st sl=>
   have c8:Xc wr rb 8 (.int .i64 0):=C.1.c8
   by_cases k28:sl.tk.kind=28
   ·have wI:(sl.tk.kind==28)=true:=by rw[k28];rfl
    have WH:=ve3 C;have GE:=C.2.1;have tN:=GE.step_place mw;have JJ:=qd WH;have PG:=(qC s sl GE.after).place;have TP:=qd (qC s sl GE.after);have dO:Hid (∀S,vkc (.st (qg s sl)) S->∃n',qg8 s l st.place st.place R (ts++[S.data.toList]) n' (qfw s (.st (qg s sl)))):=qd λS hS=>vf4 t GE k28 Q hS
    have hsp1:=GE.place;clear fO C Q hrel MY MC r9 ME WH
    go_wp2_with(first|(go_at_call 215;refine(tis M 28 (X:=⟨#[44]⟩) rfl nh nh rfl).mono ?_;rintro e w'⟨rfl,hw'⟩;subst w';rw[wI])|(go_at_call 172;refine(vkh M t mw).mono ?_;rintro e w2x⟨rfl,A7,rD⟩;have UI:=qd (UJ.kept mw mw A7);have UK:=qd rD;clear A7 rD)|(go_at_call 344;refine(vki UK t).mono ?_;rintro e w3x⟨tk,J,H,A,I,rfl,D7,GV,Z⟩;have fC:=(q9 UI).kept mw mw D7;obtain⟨k0,a0,z0,S0,m0,mO⟩:=fC.tb;obtain⟨y3,yz⟩:=yC mO;have y0:∀i,w3x.cell? ⟨o.heap.size,i,none⟩=(#[.int .i64 k0,.int .i64 a0,.int .i64 z0,.string S0,.int .i64 m0]:Array Value)[i]?:=(λi=>y3 i);have l5:Xc w3x w.heap.size 5 lv:=((yC fC.nb).1 5).trans (by rw[q9 T];rfl);have iL:=fC.tok mw tk J H A I;obtain⟨g6x,cap6x,w6x,GS,K,dR,hz6x,IL⟩:=iL.app mw mw JW mw A;simp only[size_setCell]at GS;have q5x:Xc w6x w.heap.size 5 lv:=((yC K).1 5).trans (by rw[q9 T];rfl);have qzx:Xf w6x w.heap.size:=(yC K).2;have nX:¬rb=o.heap.size:=mw;have IK:AT (((((w3x.setCell ⟨o.heap.size,0,none⟩ (.int .i64 tk)).setCell ⟨o.heap.size,1,none⟩ (.int .i64 J)).setCell ⟨o.heap.size,2,none⟩ (.int .i64 H)).setCell ⟨o.heap.size,3,none⟩ (.string A)).setCell ⟨o.heap.size,4,none⟩ (.int .i64 I)) rb nv s op (qfw s (.st (qg s sl))):=((((GV.tr ((But.refl o.heap.size _).set 0 _) nX).tr ((But.refl o.heap.size _).set 1 _) nX).tr ((But.refl o.heap.size _).set 2 _) nX).tr ((But.refl o.heap.size _).set 3 _) nX).tr ((But.refl o.heap.size _).set 4 _) nX;have AU:=(IK.blk (w':=w6x) dR).tr ((But.refl w.heap.size w6x).set 5 (.slice (some ⟨g6x,0,none⟩) (ts.length+1) cap6x)) n1;have EB:=qd (vf3 TP tN PG AU);have nLTb:¬w.heap.size=o.heap.size:=mw;have nLTb':¬o.heap.size=w.heap.size:=mw;have UN:=qd IL;have SC:=qd AU;have HS3:=qd Z;clear D7 GV Z fC mO y3 iL K dR IL IK AU))
    go_roundw
    case rel=>
     obtain⟨n',aW⟩:=q9 dO _ HS3;exact qd ⟨_,_,_,n',q9 UN,q9 SC,aW⟩
    case measure=>rw[q9 JJ];have:=q9 EB;omega
   ·have wI:(sl.tk.kind==28)=false:=ae.2 k28
    have EH:Hid (∀y,(PS.st sl)=.st y->¬y.tk.kind=28):=qd λy e=>by injection e with e;subst e;exact k28
    clear fO C Q hrel MY MC r9 ME
    go_wp2_with(first|(go_at_call 215;refine(tis M 28 (X:=⟨#[44]⟩) rfl nh nh rfl).mono ?_;rintro e w'⟨rfl,hw'⟩;subst w';rw[wI])|(go_at_call 343;refine(vib M t 27 rfl nh nh rfl).mono ?_;rintro e w7⟨rfl,Z7,GU⟩;have D:=(q9 UJ).kept mw mw Z7;have FU:=D.mid;have FB:=D.row;obtain⟨G,z7⟩:=yC D.nb;rw[q9 T]at G;have r0:∀i,w7.cell? ⟨w.heap.size,i,none⟩=(#[.string ⟨#[73,78]⟩,.int .i64 st.place,.slice (some ⟨g,0,none⟩) 1 1,.string ⟨#[]⟩,.string ⟨#[]⟩,lv,.int .i64 0,.bool neg,.int .i64 0]:Array Value)[i]?:=(λi=>G i);have O:=qd FU;have RY:=qd FB;have q:=qd GU;clear Z7 GU D G z7 FU FB)|(go_at_call 216;refine(vms q (O.nodes F q.c0 P nh nh ZC) mw ⟨21,st.place,0,[],[],ts⟩ rfl [i0] neg rfl rfl rfl (O.row F q.c0 P nh fW) (qi1 RY mw (λk R7 iR=>by have:=q9 YX k ((qni F q.c0 k).1 iR);omega))).mono ?_;rintro e w8⟨rfl,U,nv8,GT,FP⟩;have TA:=qd ((rL.mid O F q.c0 nt).trans U);have UM:=qd GT;have SW:=qd FP;clear U GT FP))
    go_ret;exact vdr (new:=new) t hm bL O4 G9 mw M MH EH TA UM SW mx
end
end Go.Proofs.YtfkcaldjphakpaaGreatDoor
