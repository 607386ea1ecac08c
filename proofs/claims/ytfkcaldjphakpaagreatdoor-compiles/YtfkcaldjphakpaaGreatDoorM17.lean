/- The document's answer. -/
import Derived.Test.YtfkcaldjphakpaaGreatDoorM16
import Derived.ArgAppend
import Derived.Test.YtfkcaldjphakpaaGreatDoorM06
set_option maxHeartbeats 16000000
set_option maxRecDepth 100000
namespace Go.Proofs.YtfkcaldjphakpaaGreatDoor
open Go.RowKit Go.Proofs.Tryz
section
structure But(L:Nat)(w w':World):Prop where
 os:w'.os=w.os
 tape:w'.tape=w.tape
 output:w'.output=w.output
 size:w.heap.size<=w'.heap.size
 block:∀k,k<w.heap.size->k≠L->w'.heap[k]?=w.heap[k]?
section
variable {L rb:Nat} {w w' w'':World} {ty:TypeId} {cs:Array Value}
theorem But.refl(L:Nat)(w:World):But L w w:=⟨rfl,rfl,rfl,Nat.le_refl _,λ_ _ _=>rfl⟩
theorem But.trans(h:But L w w')(k:But L w' w''):But L w w'':=⟨k.os.trans h.os,k.tape.trans h.tape,k.output.trans h.output,Nat.le_trans h.size k.size,λi hi hn=>(k.block i (Nat.lt_of_lt_of_le hi h.size) hn).trans (h.block i hi hn)⟩
theorem But.below(h:But L w w')(hb:Below w'.heap.size w' w''):But L w w'':=h.trans ⟨hb.os,hb.tape,hb.output,hb.size,λk hk _=>hb.block k hk⟩
theorem But.alloc(h:But L w w')(o:Obj):But L w (w'.alloc o):=h.below ((Below.refl _ _).alloc (Nat.le_refl _) o)
theorem But.set(h:But L w w')(i:Nat)(u:Value):But L w (w'.setCell ⟨L,i,none⟩ u):=
 h.trans ⟨rfl,rfl,rfl,by simp,λk _ hn=>Below.heap_setCell w' ⟨L,i,none⟩ u k hn⟩
theorem But.grown(h:But L w w'){row:Option Nat}(hg:w'.grownBy w'' row)(hr:∀g,row=some g->w.heap.size<=g):But L w w'':=
 ⟨hg.os.trans h.os,hg.tape.trans h.tape,hg.output.trans h.output,Nat.le_trans h.size hg.size,λk hk hn=>(hg.block k (Nat.lt_of_lt_of_le hk h.size) (λe=>by have:=hr k e.symm;omega)).trans (h.block k hk hn)⟩
theorem But.cell0(h:But L w w')(A1:rb<w.heap.size)(hL:rb≠L)(i:Nat):w'.cell? ⟨rb,i,none⟩=w.cell? ⟨rb,i,none⟩:=World.cell?_of_block (w:=w) (w':=w') (a:=⟨rb,i,none⟩) (h.block rb A1 hL)
theorem But.own(h:But L w w')(A1:rb<w.heap.size)(hL:rb≠L)(k:Nat):vb1 w' rb k↔vb1 w rb k:=by unfold vb1;rw[h.cell0 A1 hL]
theorem But.row(h:But L w w')(A1:rb<w.heap.size)(hv:VN w rb L ty cs){ty':TypeId}(C1:ty'≠ty){v:Value}{vs:List Value}(hr:RowOf w rb ty' v vs):RowOf w' rb ty' v vs:=by
 have hL:rb≠L:=by have:=hv.past;omega
 rcases hr with hr|⟨g,cap,c,fr,hv',hg,hc,ho,hx⟩
 ·exact .inl hr
 ·have sJ:g≠L:=λe=>by subst e;rw[hv.blk]at hc;injection hc with e;injection e with _ e2 _;exact C1 e2.symm
  have bG:=(Array.getElem?_eq_some_iff.1 hc).1;exact .inr ⟨g,cap,c,fr,hv',hg,(h.block g bG sJ).trans hc,λh2=>ho ((h.own A1 hL g).1 h2),hx⟩
theorem But.tr{nv:Value}{s:ByteArray}{k a z:Int}{S:ByteArray}{n op er at':Int}(h:But L w w')(hL:rb≠L)(hT:TrC w rb nv s k a z S n op er at'):TrC w' rb nv s k a z S n op er at':=by
 have hc:∀j,w'.cell? ⟨rb,j,none⟩=w.cell? ⟨rb,j,none⟩:=h.cell0 hT.lt hL;have hf:∀j,w'.frozen? ⟨rb,j,none⟩=w.frozen? ⟨rb,j,none⟩:=λj=>World.frozen?_of_block (w:=w) (w':=w') (a:=⟨rb,j,none⟩) (h.block rb hT.lt hL)
 exact⟨Nat.lt_of_lt_of_le hT.lt h.size,(hc _).trans hT.c0,(hc _).trans hT.c1,(hc _).trans hT.c2,(hc _).trans hT.c3,(hc _).trans hT.c4,(hc _).trans hT.c5,(hc _).trans hT.c6,(hc _).trans hT.c7,(hc _).trans hT.c8,(hc _).trans hT.c9,λj=>(hf j).trans (hT.fz j)⟩
theorem But.nodes{nv:Value}{ns:List RN}(h:But L w w')(A1:rb<w.heap.size)(c0:w.cell? ⟨rb,0,none⟩=some nv)(hv:VN w rb L ty cs)(h1:(3:TypeId)≠ty)(h2:(9:TypeId)≠ty)(hN:NodesAt w rb nv ns):NodesAt w' rb nv ns:=by
 obtain⟨rs,hl,ho,hn⟩:=hN;refine⟨rs,hl,qe7 ho λg hg=>h.block g (ho.lt g hg).2 (λe=>hv.no (.inr ⟨nv,c0,e ▸ hg⟩)),λi n r e1 e2=>⟨h.row A1 hv h1 (hn i n r e1 e2).1,h.row A1 hv h2 (hn i n r e1 e2).2⟩⟩
theorem But.rt{s:ByteArray}{ns:List RN}{j:Nat}{st:St}(h:But L w w')(hv:VN w rb L ty cs)(h1:(3:TypeId)≠ty)(h2:(9:TypeId)≠ty)(hr:RT w rb s ns j st):RT w' rb s ns j st:=by
 obtain⟨nv,hT,hN,hF,hj⟩:=hr;exact⟨nv,h.tr (by have:=hv.past;omega) hT,h.nodes hT.lt hT.c0 hv h1 h2 hN,hF,hj⟩
theorem But.re{s:ByteArray}{en pl:Int}{op m:Nat}(h:But L w w')(hv:VN w rb L ty cs)(h1:(3:TypeId)≠ty)(h2:(9:TypeId)≠ty)(hr:RE w rb s en pl op m):RE w' rb s en pl op m:=by
 obtain⟨nv,a,ns,hT,he,hN,hm⟩:=hr;exact⟨nv,a,ns,h.tr (by have:=hv.past;omega) hT,he,h.nodes hT.lt hT.c0 hv h1 h2 hN,hm⟩
theorem TKept.but{a:World}(hk:TKept rb a w)(h:But L w w')(A1:rb<a.heap.size)(hp:a.heap.size<=L):TKept rb a w':=by
 refine⟨h.os.trans hk.os,h.tape.trans hk.tape,h.output.trans hk.output,Nat.le_trans hk.size h.size,λk A0 hn=>(h.block k (Nat.lt_of_lt_of_le A0 hk.size) (by omega)).trans (hk.block k A0 hn),λk A0 ho=>hk.own k A0 ((h.own (Nat.lt_of_lt_of_le A1 hk.size) (by omega) k).1 ho)⟩
theorem But.no(h:But L w w')(hv:VN w rb L ty cs)(A1:rb<w.heap.size):¬vb1 w' rb L:=λho=>hv.no ((h.own A1 (by have:=hv.past;omega) L).1 ho)
end
theorem jr6:(prog.info? 3).map (λi=>(i.zero,i.size,i.bytes))=some (some (.int .i64 0),1,8):=by kernel_rfl
theorem app_int1{W:World}{g:Nat}{i0:Nat}(hg:W.cell? ⟨g,0,none⟩=some (.int .i64 i0))(a:Nat):
  ∃g' cap w',(vz2 #[52,52] 52 #[.slice (some ⟨g,0,none⟩) 1 1,.slice (some ⟨W.heap.size,0,none⟩) 1 1]).run prog (W.alloc (.cells #[.int .i64 a] 3))=.ok (.slice (some ⟨g',0,none⟩) 2 cap) w' /\
   Hid (w'.ownsRow W.heap.size 3 1 (.slice (some ⟨g',0,none⟩) 2 cap) 2 [.int .i64 i0,.int .i64 a])/\Hid (Below W.heap.size W w'):=by
 obtain⟨i,hi,I8,C8,F8⟩:=info_parts jr6;have hb:Below W.heap.size W (W.alloc (.cells #[.int .i64 (a:Int)] 3)):=(Below.refl _ _).alloc (Nat.le_refl _) _;have bG:g<W.heap.size:=World.block_lt_of_cell? W ⟨g,0,none⟩ hg;obtain⟨v',w',hr,ho,V4⟩:=run_append_arg_grows (P:=prog) (w:=W.alloc (.cells #[.int .i64 (a:Int)] 3)) 52 52 3 i _ 1 8 underlying52 hi I8 C8 F8 rfl (by omega) ⟨g,0,none⟩ 1 1 [.int .i64 i0] rfl
  (by
   intro j u hu;rcases j with _|j
   ·simp at hu;subst hu;exact((qb0 hb).1 _ _ bG).trans hg
   ·simp at hu)
  ⟨W.heap.size,0,none⟩ 1 1 [.int .i64 a] rfl
  (by
   intro j u hu;rcases j with _|j
   ·simp at hu;subst hu;simp[Addr.add]
   ·simp at hu) (by omega) (by unfold maxLen;omega) (by omega)
 obtain⟨hl,hn|⟨g',cap,cur,rfl,K7,J1,h1,h2,h3,h4⟩⟩:=ho
 ·omega
 ·refine⟨g',cap,w',hr,j3 ⟨hl,.inr ⟨g',cap,cur,rfl, ?_,J1,h1,h2,h3,h4⟩⟩,j3 ⟨V4.os.trans hb.os,V4.tape.trans hb.tape,V4.output.trans hb.output,Nat.le_trans hb.size V4.size,λk hk=>(V4.block k (Nat.lt_of_lt_of_le hk hb.size) (by simp)).trans (hb.block k hk)⟩⟩
  simp at K7;omega
theorem app_int2{W:World}{B g cap:Nat}{i0 a:Nat}(ho:W.ownsRow B 3 1 (.slice (some ⟨g,0,none⟩) 2 cap) 2 [.int .i64 i0,.int .i64 a])(hB:B<=W.heap.size)(b:Nat):
  ∃g' cap' w',(vz2 #[52,52] 52 #[.slice (some ⟨g,0,none⟩) 2 cap,.slice (some ⟨W.heap.size,0,none⟩) 1 1]).run prog (W.alloc (.cells #[.int .i64 b] 3))=.ok (.slice (some ⟨g',0,none⟩) 3 cap') w' /\
   Hid (w'.ownsRow B 3 1 (.slice (some ⟨g',0,none⟩) 3 cap') 3 [.int .i64 i0,.int .i64 a,.int .i64 b])/\Hid (W.grownBy w' (some g))/\B<=g:=by
 obtain⟨i,hi,I8,C8,F8⟩:=info_parts jr6;have hb:Below W.heap.size W (W.alloc (.cells #[.int .i64 (b:Int)] 3)):=(Below.refl _ _).alloc (Nat.le_refl _) _;have GJ:=ho.lt g rfl;obtain⟨g',cap',w',hr,eG,V4,_,_⟩:=run_append_lies (P:=prog) (W.alloc (.cells #[.int .i64 (b:Int)] 3)) 52 52 B 3 i _ 1 8 underlying52 hi I8 C8 F8 rfl (by omega) _ 2 _ (World.ownsRow.alloc ho _) ⟨W.heap.size,0,none⟩ 1 1 [.int .i64 b] rfl
  (by
   intro j u hu;rcases j with _|j
   ·simp at hu;subst hu;simp[Addr.add]
   ·simp at hu) (by simp[Value.oneCell']) (by omega) (by unfold maxLen;omega) (by omega) (by simp;omega) _ rfl
 exact⟨g',cap',w',hr,j3 eG,j3 ⟨V4.os.trans hb.os,V4.tape.trans hb.tape,V4.output.trans hb.output,Nat.le_trans hb.size V4.size,λk hk hn=>(V4.block k (Nat.lt_of_lt_of_le hk hb.size) hn).trans (hb.block k hk)⟩,GJ.1⟩
theorem own_row{w:World}{B rb:Nat}{ty:TypeId}{g n cap:Nat}{vs:List Value}(ho:w.ownsRow B ty 1 (.slice (some ⟨g,0,none⟩) n cap) n vs)(hB:rb<B)(hn:¬vb1 w rb g):RowOf w rb ty (.slice (some ⟨g,0,none⟩) n cap) vs:=by
 obtain⟨hl,hx|⟨g',cap',cur,hv,K7,J1,h1,h2,h3,h4⟩⟩:=ho
 ·cases hx.1
 ·injection hv with e1 e2 e3
  injection e1 with e1;injection e1 with e1;subst e1 e3;refine .inr ⟨g,cap,cur,(0,0),by rw[show vs.length=n by omega],by omega,J1,hn,λj u hj=>?_⟩;rw[←h4]at hj;have sE:=List.getElem?_eq_some_iff.1 hj;have:=sE.1;simp only[List.length_take]at this;rw[List.getElem?_take]at hj
  split at hj
  ·simpa using hj
  ·cases hj
end
section
attribute [local go_sem ↓] qe4
def negA(neg:Bool)(pl:Int)(t:Ast):Ast:=if neg=true then .un ⟨5,pl,0,[],[],[]⟩ t else t
def negR(neg:Bool)(pl:Int)(r:Res):Res:=match r with
 | .ok t st=>.ok (negA neg pl t) st
 | .err en p=>.err en p
theorem RT.own_lt{w:World}{rb:Nat}{s:ByteArray}{ns:List RN}{j:Nat}{st:St}(h:RT w rb s ns j st)(k:Nat)(ho:vb1 w rb k):k<w.heap.size:=by
 obtain⟨nv,hT,⟨rs,_,hn,_⟩,_⟩:=h;rcases ho with rfl|⟨nv',h1,h2⟩
 ·exact hT.lt
 ·rw[hT.c0]at h1;injection h1 with h1;subst h1;exact(hn.lt k h2).2
theorem RE.own_lt{w:World}{rb:Nat}{s:ByteArray}{en pl:Int}{op m:Nat}(h:RE w rb s en pl op m)(k:Nat)(ho:vb1 w rb k):k<w.heap.size:=by
 obtain⟨nv,a,ns,hT,_,⟨rs,_,hn,_⟩,_⟩:=h;rcases ho with rfl|⟨nv',h1,h2⟩
 ·exact hT.lt
 ·rw[hT.c0]at h1;injection h1 with h1;subst h1;exact(hn.lt k h2).2
theorem betR_e1{s:ByteArray}{f:St->Res}{l:Ast}{st:St}{en pl:Int}(hk:st.tk.kind=10)(h:f (j4 s st)=.err en pl):qa9 s f l st=.err en pl:=by unfold qa9;rw[if_pos hk,h]
theorem betR_e2{s:ByteArray}{f:St->Res}{l lo:Ast}{st A6:St}(hk:st.tk.kind=10)(h:f (j4 s st)=.ok lo A6)(k5:¬A6.tk.kind=5):qa9 s f l st=.err 2 A6.place:=by unfold qa9;rw[if_pos hk,h];simp only[if_neg k5]
theorem betR_e3{s:ByteArray}{f:St->Res}{l lo:Ast}{st A6:St}{en pl:Int}(hk:st.tk.kind=10)(h:f (j4 s st)=.ok lo A6)(k5:A6.tk.kind=5)(h2:f (j4 s A6)=.err en pl):qa9 s f l st=.err en pl:=by unfold qa9;rw[if_pos hk,h];simp only[if_pos k5,h2]
theorem betR_ok{s:ByteArray}{f:St->Res}{l lo hi:Ast}{st A6 G4:St}(hk:st.tk.kind=10)(h:f (j4 s st)=.ok lo A6)(k5:A6.tk.kind=5)(h2:f (j4 s A6)=.ok hi G4):qa9 s f l st=.ok (.tri ⟨20,st.place,0,[],[],[]⟩ l lo hi) G4:=by unfold qa9;rw[if_pos hk,h];simp only[if_pos k5,h2]
theorem btail{W:World}{rb L g:Nat}{ty:TypeId}{cs:Array Value}{i0:Nat}(A1:rb<W.heap.size)(hv:VN W rb L ty cs)(hg:W.cell? ⟨g,0,none⟩=some (.int .i64 i0))(rL:∀k,vb1 W rb k->k<W.heap.size)(a b:Nat):
  ∃g1 I5 w6 g2 Q7 w7,(vz2 #[52,52] 52 #[.slice (some ⟨g,0,none⟩) 1 1,.slice (some ⟨W.heap.size,0,none⟩) 1 1]).run prog (W.alloc (.cells #[.int .i64 a] 3))=.ok (.slice (some ⟨g1,0,none⟩) 2 I5) w6 /\
   (vz2 #[52,52] 52 #[.slice (some ⟨g1,0,none⟩) 2 I5,.slice (some ⟨w6.heap.size,0,none⟩) 1 1]).run prog ((w6.setCell ⟨L,2,none⟩ (.slice (some ⟨g1,0,none⟩) 2 I5)).alloc (.cells #[.int .i64 b] 3))=.ok (.slice (some ⟨g2,0,none⟩) 3 Q7) w7 /\
   (∀i,w6.cell? ⟨L,i,none⟩=cs[i]?)/\(∀i,w6.frozen? ⟨L,i,none⟩=false)/\(∀i,w7.cell? ⟨L,i,none⟩=(cs.setIfInBounds 2 (.slice (some ⟨g1,0,none⟩) 2 I5))[i]?)/\(∀i,w7.frozen? ⟨L,i,none⟩=false) /\
   Hid (But L W (w7.setCell ⟨L,2,none⟩ (.slice (some ⟨g2,0,none⟩) 3 Q7)))/\Hid (RowOf (w7.setCell ⟨L,2,none⟩ (.slice (some ⟨g2,0,none⟩) 3 Q7)) rb 3 (.slice (some ⟨g2,0,none⟩) 3 Q7) (vb2 [i0,a,b])):=by
 have hL:=hv.lt;have hp:=hv.past;obtain⟨g1,I5,w6,M7,fF,E7⟩:=app_int1 hg a;have pZ:But L W w6:=(But.refl L W).below (q9 E7);have EC:=pZ.size;have pR:VN w6 rb L ty cs:=⟨((q9 E7).block L hL).trans hv.blk,hp,pZ.no hv A1⟩;have NN:(w6.setCell ⟨L,2,none⟩ (.slice (some ⟨g1,0,none⟩) 2 I5)).ownsRow W.heap.size 3 1 (.slice (some ⟨g1,0,none⟩) 2 I5) 2 [.int .i64 i0,.int .i64 a]:=ownsRow_setCell_below (q9 fF) (by show L<_;omega) _;have xN:=pR.set 2 (.slice (some ⟨g1,0,none⟩) 2 I5);obtain⟨g2,Q7,w7,U8,P4,fY,GJ⟩:=app_int2 NN (by simp;omega) b;rw[size_setCell]at U8;have oD:But L W w7:=(pZ.set 2 (.slice (some ⟨g1,0,none⟩) 2 I5)).grown (q9 fY) (λg' e=>by have:=Option.some.inj e;omega);have bH:g1≠L:=by omega
 have fK:VN w7 rb L ty (cs.setIfInBounds 2 (.slice (some ⟨g1,0,none⟩) 2 I5)):=⟨((q9 fY).block L (by simp;omega) (λe=>bH (Option.some.inj e).symm)).trans xN.blk,hp,oD.no hv A1⟩;have FO:=oD.set 2 (.slice (some ⟨g2,0,none⟩) 3 Q7);have tE:(w7.setCell ⟨L,2,none⟩ (.slice (some ⟨g2,0,none⟩) 3 Q7)).ownsRow W.heap.size 3 1 (.slice (some ⟨g2,0,none⟩) 3 Q7) 3 [.int .i64 i0,.int .i64 a,.int .i64 b]:=ownsRow_setCell_below (q9 P4) (by show L<_;omega) _;refine⟨g1,I5,w6,g2,Q7,w7,M7,U8,pR.cell,pR.frz,fK.cell,fK.frz,j3 FO,j3 (own_row tE A1 λho=>?_)⟩;have:=rL g2 ((FO.own A1 (by omega) g2).1 ho);have:=(tE.lt g2 rfl).1;omega
theorem vg9(rb:Nat)(s:ByteArray)(hs:s.size<=200)(op m:Nat)(hm:200<=m)(V9:m<=900)(f:St->Res)(hf:RReads 320 rb s op m f)(eS:qn6 320 rb s)(w:World)(st:St)(ns new:List RN)(j:Nat)(l:Ast)(h:RT w rb s (ns++new) j st)(ho:st.op=op)(hk:st.tk.kind=10)(F6:Flat l ns.length new)(i0:Nat)(O8:i0=ns.length+new.length - 1)(g:Nat)(hg:VN w rb g 3 #[.int .i64 i0])(neg:Bool)(pl0:Int):
  Calls prog 323 #[.pointer (some ⟨rb,0,none⟩),.agg #[.string ⟨#[]⟩,.int .i64 st.place,.slice (some ⟨g,0,none⟩) 1 1,.string ⟨#[]⟩,.string ⟨#[]⟩,.slice none 0 0,.int .i64 0,.bool neg,.int .i64 0]] w (REnds rb s w op (m+1) ns j st.place (negR neg pl0 (qa9 s f l st))):=by
 have A1:=h.lt;have n0:¬w.heap.size=rb:=by omega
 have n1:¬rb=w.heap.size:=by omega
 have bG:=hg.lt;have fR:VN (w.alloc (.cells #[.string ⟨#[66,69,84,87,69,69,78]⟩,.int .i64 st.place,.slice (some ⟨g,0,none⟩) 1 1,.string ⟨#[]⟩,.string ⟨#[]⟩,.slice none 0 0,.int .i64 0,.bool neg,.int .i64 0] 241)) rb w.heap.size 241 #[.string ⟨#[66,69,84,87,69,69,78]⟩,.int .i64 st.place,.slice (some ⟨g,0,none⟩) 1 1,.string ⟨#[]⟩,.string ⟨#[]⟩,.slice none 0 0,.int .i64 0,.bool neg,.int .i64 0]:=VN.new h _ _ rfl;have bK:TKept rb w (w.alloc (.cells #[.string ⟨#[66,69,84,87,69,69,78]⟩,.int .i64 st.place,.slice (some ⟨g,0,none⟩) 1 1,.string ⟨#[]⟩,.string ⟨#[]⟩,.slice none 0 0,.int .i64 0,.bool neg,.int .i64 0] 241)):=(TKept.refl rb w).alloc A1 _;have h0:RT (w.alloc (.cells #[.string ⟨#[66,69,84,87,69,69,78]⟩,.int .i64 st.place,.slice (some ⟨g,0,none⟩) 1 1,.string ⟨#[]⟩,.string ⟨#[]⟩,.slice none 0 0,.int .i64 0,.bool neg,.int .i64 0] 241)) rb s (ns++new) j st:=h.alloc _;have jJ:VN (w.alloc (.cells #[.string ⟨#[66,69,84,87,69,69,78]⟩,.int .i64 st.place,.slice (some ⟨g,0,none⟩) 1 1,.string ⟨#[]⟩,.string ⟨#[]⟩,.slice none 0 0,.int .i64 0,.bool neg,.int .i64 0] 241)) rb g 3 #[.int .i64 i0]:=hg.alloc A1 _;have T8:=h.fine.step_place (by omega);have H0:=j3 h0;have Z8:=j3 bK;have o7:=j3 fR;have lE:=j3 jJ;have HF:=j3 hf;have ES:=j3 eS;have K0:=j3 F6;have Z9:=j3 O8;clear h bK h0 fR jJ hg hf eS F6 O8
 cases F7:f (j4 s st) with
 | err en pl=>
  rw[betR_e1 hk F7];have cG:=j3 F7;clear F7;go_enter func323,ntmps323
  go_wp2_with(first|(go_at_call 172;refine(qb4 (q9 H0) hs (by omega) (by omega)).mono ?_;rintro e w1⟨rfl,A0,A4⟩;have U9:=j3 ((q9 o7).kept A0);have dB:=j3 ((q9 lE).kept A0);have D8:=j3 ((q9 Z8).trans A0);have D5:=j3 A4;clear A0 A4)|(go_at_call 320;refine(q9 HF w1 (j4 s st) (ns++new) (j+1) (q9 D5) ho).mono ?_;rintro e w2⟨A3,h2⟩;rw[q9 cG]at h2;obtain⟨a,rfl,A5⟩:=h2;have cY:=j3 ((q9 U9).kept A3);have fY:=j3 ((q9 dB).kept A3);have E9:=j3 ((q9 D8).trans A3);have D6:=j3 A5;clear A3 A5)|(go_at_call 343;refine(vy0 (q9 D6) (by decide)).mono ?_;rintro e w3⟨rfl,A9,B8⟩;have bN:=j3 ((q9 cY).kept A9);have o8:=j3 ((q9 fY).kept A9);have F5:=j3 ((q9 E9).trans A9);have F4:=j3 B8;clear A9 B8)|(go_at_call 320;refine(q9 ES w3 _ _ _ _ (q9 F4)).mono ?_;rintro e w4⟨b,rfl,D0,D9⟩;have cX:=j3 ((q9 bN).kept D0);have iQ:=j3 ((q9 o8).kept D0);have K6:=j3 ((q9 F5).trans D0);have I6:=j3 D9;clear D0 D9;obtain⟨g1,I5,w6,g2,Q7,w7,M7,U8,x6,z6,x7,z7,iS,oY⟩:=btail (q9 I6).lt (q9 cX) ((q9 iQ).cell 0) (q9 I6).own_lt a b;have p2:w4.cell? ⟨w.heap.size,2,none⟩=some (.slice (some ⟨g,0,none⟩) 1 1):=(q9 cX).cell 2;have q2:w6.cell? ⟨w.heap.size,2,none⟩=some (.slice (some ⟨g,0,none⟩) 1 1):=x6 2;have r0:w7.cell? ⟨w.heap.size,0,none⟩=some (.string ⟨#[66,69,84,87,69,69,78]⟩):=x7 0;have r1:w7.cell? ⟨w.heap.size,1,none⟩=some (.int .i64 st.place):=x7 1;have r2:w7.cell? ⟨w.heap.size,2,none⟩=some (.slice (some ⟨g1,0,none⟩) 2 I5):=x7 2;have r3:w7.cell? ⟨w.heap.size,3,none⟩=some (.string ⟨#[]⟩):=x7 3;have r4:w7.cell? ⟨w.heap.size,4,none⟩=some (.string ⟨#[]⟩):=x7 4;have r5:w7.cell? ⟨w.heap.size,5,none⟩=some (.slice none 0 0):=x7 5;have r6:w7.cell? ⟨w.heap.size,6,none⟩=some (.int .i64 0):=x7 6;have r7:w7.cell? ⟨w.heap.size,7,none⟩=some (.bool neg):=x7 7;have r8:w7.cell? ⟨w.heap.size,8,none⟩=some (.int .i64 0):=x7 8;clear x6 x7)|(go_at_call 216;refine(vf5 ((q9 iS).re (q9 cX) (by decide) (by decide) (q9 I6)) (by omega) [i0,a,b] [] neg (q9 oY) (RowOf.no _ _ _)).mono ?_;rintro e w9⟨i9,rfl,aA,p9⟩;have fH:=j3 (((q9 K6).but (q9 iS) A1 (Nat.le_refl _)).trans aA);have fB:=j3 p9;clear aA p9))
  go_ret;exact⟨q9 fH,i9,rfl,(q9 fB).more (by omega)⟩
 | ok lo A6=>
  have cG:=j3 F7
  by_cases k5:A6.tk.kind=5
  ·cases H8:f (j4 s A6) with
   | err en pl=>
    rw[betR_e3 hk F7 k5 H8];clear F7;have bR:=j3 H8;clear H8;go_enter func323,ntmps323
    go_wp2_with(first|(go_at_call 172;refine(qb4 (q9 H0) hs (by omega) (by omega)).mono ?_;rintro e w1⟨rfl,A0,A4⟩;have U9:=j3 ((q9 o7).kept A0);have dB:=j3 ((q9 lE).kept A0);have D8:=j3 ((q9 Z8).trans A0);have D5:=j3 A4;clear A0 A4)|(go_at_call 320;refine(q9 HF w3 (j4 s A6) (ns++new++W0) (j+1+1) (q9 F4) I2).mono ?_;rintro e w4⟨D0,h4⟩;rw[q9 bR]at h4;obtain⟨b,rfl,D9⟩:=h4;have cX:=j3 ((q9 bN).kept D0);have iQ:=j3 ((q9 o8).kept D0);have K6:=j3 ((q9 F5).trans D0);have I6:=j3 D9;clear D0 D9;obtain⟨g1,I5,w6,g2,Q7,w7,M7,U8,x6,z6,x7,z7,iS,oY⟩:=btail (q9 I6).lt (q9 cX) ((q9 iQ).cell 0) (q9 I6).own_lt a b;have p2:w4.cell? ⟨w.heap.size,2,none⟩=some (.slice (some ⟨g,0,none⟩) 1 1):=(q9 cX).cell 2;have q2:w6.cell? ⟨w.heap.size,2,none⟩=some (.slice (some ⟨g,0,none⟩) 1 1):=x6 2;have r0:w7.cell? ⟨w.heap.size,0,none⟩=some (.string ⟨#[66,69,84,87,69,69,78]⟩):=x7 0;have r1:w7.cell? ⟨w.heap.size,1,none⟩=some (.int .i64 st.place):=x7 1;have r2:w7.cell? ⟨w.heap.size,2,none⟩=some (.slice (some ⟨g1,0,none⟩) 2 I5):=x7 2;have r3:w7.cell? ⟨w.heap.size,3,none⟩=some (.string ⟨#[]⟩):=x7 3;have r4:w7.cell? ⟨w.heap.size,4,none⟩=some (.string ⟨#[]⟩):=x7 4;have r5:w7.cell? ⟨w.heap.size,5,none⟩=some (.slice none 0 0):=x7 5;have r6:w7.cell? ⟨w.heap.size,6,none⟩=some (.int .i64 0):=x7 6;have r7:w7.cell? ⟨w.heap.size,7,none⟩=some (.bool neg):=x7 7;have r8:w7.cell? ⟨w.heap.size,8,none⟩=some (.int .i64 0):=x7 8;clear x6 x7)|(go_at_call 320;refine(q9 HF w1 (j4 s st) (ns++new) (j+1) (q9 D5) ho).mono ?_;rintro e w2⟨A3,h2⟩;rw[q9 cG]at h2;obtain⟨W0,he,A5,I2,S8,bI⟩:=h2;obtain⟨a,ha⟩:∃k:Nat,(ns++new).length+W0.length - 1=k:=⟨_,rfl⟩;rw[ha]at he;subst he;have Ha:=j3 ha;clear ha;have pE:=j3 bI;clear bI;have cY:=j3 ((q9 U9).kept A3);have fY:=j3 ((q9 dB).kept A3);have E9:=j3 ((q9 D8).trans A3);have D6:=j3 A5;clear A3 A5)|(go_at_call 343;refine(vc9 (q9 D6) hs 5 rfl (by decide) (by decide) rfl k5).mono ?_;rintro e w3⟨rfl,A9,B8⟩;have bN:=j3 ((q9 cY).kept A9);have o8:=j3 ((q9 fY).kept A9);have F5:=j3 ((q9 E9).trans A9);have F4:=j3 B8;clear A9 B8)|(go_at_call 216;refine(vf5 ((q9 iS).re (q9 cX) (by decide) (by decide) (q9 I6)) (by omega) [i0,a,b] [] neg (q9 oY) (RowOf.no _ _ _)).mono ?_;rintro e w9⟨i9,rfl,aA,p9⟩;have fH:=j3 (((q9 K6).but (q9 iS) A1 (Nat.le_refl _)).trans aA);have fB:=j3 p9;clear aA p9))
    go_ret;exact⟨q9 fH,i9,rfl,(q9 fB).more (by omega)⟩
   | ok hi G4=>
    rw[betR_ok hk F7 k5 H8];clear F7;have bR:=j3 H8;clear H8;go_enter func323,ntmps323
    go_wp2_with(first|(go_at_call 172;refine(qb4 (q9 H0) hs (by omega) (by omega)).mono ?_;rintro e w1⟨rfl,A0,A4⟩;have U9:=j3 ((q9 o7).kept A0);have dB:=j3 ((q9 lE).kept A0);have D8:=j3 ((q9 Z8).trans A0);have D5:=j3 A4;clear A0 A4)|(go_at_call 320;refine(q9 HF w3 (j4 s A6) (ns++new++W0) (j+1+1) (q9 F4) I2).mono ?_;rintro e w4⟨D0,h4⟩;rw[q9 bR]at h4;obtain⟨cH,he,D9,gK,fN,gT⟩:=h4;obtain⟨b,hb⟩:∃k:Nat,(ns++new++W0).length+cH.length - 1=k:=⟨_,rfl⟩;rw[hb]at he;subst he;have Hb:=j3 hb;clear hb;have pD:=j3 gT;clear gT;have cX:=j3 ((q9 bN).kept D0);have iQ:=j3 ((q9 o8).kept D0);have K6:=j3 ((q9 F5).trans D0);have I6:=j3 D9;clear D0 D9;obtain⟨g1,I5,w6,g2,Q7,w7,M7,U8,x6,z6,x7,z7,iS,oY⟩:=btail (q9 I6).lt (q9 cX) ((q9 iQ).cell 0) (q9 I6).own_lt a b;have p2:w4.cell? ⟨w.heap.size,2,none⟩=some (.slice (some ⟨g,0,none⟩) 1 1):=(q9 cX).cell 2;have q2:w6.cell? ⟨w.heap.size,2,none⟩=some (.slice (some ⟨g,0,none⟩) 1 1):=x6 2;have r0:w7.cell? ⟨w.heap.size,0,none⟩=some (.string ⟨#[66,69,84,87,69,69,78]⟩):=x7 0;have r1:w7.cell? ⟨w.heap.size,1,none⟩=some (.int .i64 st.place):=x7 1;have r2:w7.cell? ⟨w.heap.size,2,none⟩=some (.slice (some ⟨g1,0,none⟩) 2 I5):=x7 2;have r3:w7.cell? ⟨w.heap.size,3,none⟩=some (.string ⟨#[]⟩):=x7 3;have r4:w7.cell? ⟨w.heap.size,4,none⟩=some (.string ⟨#[]⟩):=x7 4;have r5:w7.cell? ⟨w.heap.size,5,none⟩=some (.slice none 0 0):=x7 5;have r6:w7.cell? ⟨w.heap.size,6,none⟩=some (.int .i64 0):=x7 6;have r7:w7.cell? ⟨w.heap.size,7,none⟩=some (.bool neg):=x7 7;have r8:w7.cell? ⟨w.heap.size,8,none⟩=some (.int .i64 0):=x7 8;clear x6 x7)|(go_at_call 320;refine(q9 HF w1 (j4 s st) (ns++new) (j+1) (q9 D5) ho).mono ?_;rintro e w2⟨A3,h2⟩;rw[q9 cG]at h2;obtain⟨W0,he,A5,I2,S8,bI⟩:=h2;obtain⟨a,ha⟩:∃k:Nat,(ns++new).length+W0.length - 1=k:=⟨_,rfl⟩;rw[ha]at he;subst he;have Ha:=j3 ha;clear ha;have PO:=j3 A5.fine;have pE:=j3 bI;clear bI;have cY:=j3 ((q9 U9).kept A3);have fY:=j3 ((q9 dB).kept A3);have E9:=j3 ((q9 D8).trans A3);have D6:=j3 A5;clear A3 A5)|(go_at_call 343;refine(vc9 (q9 D6) hs 5 rfl (by decide) (by decide) rfl k5).mono ?_;rintro e w3⟨rfl,A9,B8⟩;have bN:=j3 ((q9 cY).kept A9);have o8:=j3 ((q9 fY).kept A9);have F5:=j3 ((q9 E9).trans A9);have F4:=j3 B8;clear A9 B8)|(go_at_call 216;refine(je0 ((q9 iS).rt (q9 cX) (by decide) (by decide) (q9 I6)) hs ⟨20,st.place,0,[],[],[]⟩ rfl [i0,a,b] neg rfl rfl rfl (q9 oY) (RowOf.no _ _ _)).mono ?_;rintro e w9⟨rfl,aA,p9⟩;have fH:=j3 (((q9 K6).but (q9 iS) A1 (Nat.le_refl _)).trans aA);have fB:=j3 p9;clear aA p9))
    go_ret;refine⟨q9 fH,new++W0++cH++[qi5 ⟨20,st.place,0,[],[],[]⟩ [ns.length+new.length - 1,ns.length+new.length+W0.length - 1,ns.length+new.length+W0.length+cH.length - 1] neg],qg3 (by simp;omega), ?_,gK, ?_, ?_⟩
    ·have:=q9 fB
     rw[q9 Z9,←q9 Ha,←q9 Hb]at this;simp only[List.length_append]at this;have:=this.less (j':=j) (by omega);simpa only[List.append_assoc]using this
    ·have e1:=qk6 s A6
     have e2:=(q9 PO).long (by omega);omega
    ·have f1:=q9 pE
     have f2:=q9 pD;rw[List.length_append]at f1;rw[List.length_append,List.length_append]at f2
     cases neg with
     | false=>exact Flat.tri _ (q9 K0) f1 f2
     | true=>exact Flat.neg3 _ _ rfl (q9 K0) f1 f2
  ·rw[betR_e2 hk F7 k5]
   clear F7;go_enter func323,ntmps323
   go_wp2_with(first|(go_at_call 172;refine(qb4 (q9 H0) hs (by omega) (by omega)).mono ?_;rintro e w1⟨rfl,A0,A4⟩;have U9:=j3 ((q9 o7).kept A0);have dB:=j3 ((q9 lE).kept A0);have D8:=j3 ((q9 Z8).trans A0);have D5:=j3 A4;clear A0 A4)|(go_at_call 320;refine(q9 ES w3 _ _ _ _ (q9 F4)).mono ?_;rintro e w4⟨b,rfl,D0,D9⟩;have cX:=j3 ((q9 bN).kept D0);have iQ:=j3 ((q9 o8).kept D0);have K6:=j3 ((q9 F5).trans D0);have I6:=j3 D9;clear D0 D9;obtain⟨g1,I5,w6,g2,Q7,w7,M7,U8,x6,z6,x7,z7,iS,oY⟩:=btail (q9 I6).lt (q9 cX) ((q9 iQ).cell 0) (q9 I6).own_lt a b;have p2:w4.cell? ⟨w.heap.size,2,none⟩=some (.slice (some ⟨g,0,none⟩) 1 1):=(q9 cX).cell 2;have q2:w6.cell? ⟨w.heap.size,2,none⟩=some (.slice (some ⟨g,0,none⟩) 1 1):=x6 2;have r0:w7.cell? ⟨w.heap.size,0,none⟩=some (.string ⟨#[66,69,84,87,69,69,78]⟩):=x7 0;have r1:w7.cell? ⟨w.heap.size,1,none⟩=some (.int .i64 st.place):=x7 1;have r2:w7.cell? ⟨w.heap.size,2,none⟩=some (.slice (some ⟨g1,0,none⟩) 2 I5):=x7 2;have r3:w7.cell? ⟨w.heap.size,3,none⟩=some (.string ⟨#[]⟩):=x7 3;have r4:w7.cell? ⟨w.heap.size,4,none⟩=some (.string ⟨#[]⟩):=x7 4;have r5:w7.cell? ⟨w.heap.size,5,none⟩=some (.slice none 0 0):=x7 5;have r6:w7.cell? ⟨w.heap.size,6,none⟩=some (.int .i64 0):=x7 6;have r7:w7.cell? ⟨w.heap.size,7,none⟩=some (.bool neg):=x7 7;have r8:w7.cell? ⟨w.heap.size,8,none⟩=some (.int .i64 0):=x7 8;clear x6 x7)|(go_at_call 320;refine(q9 HF w1 (j4 s st) (ns++new) (j+1) (q9 D5) ho).mono ?_;rintro e w2⟨A3,h2⟩;rw[q9 cG]at h2;obtain⟨W0,he,A5,I2,S8,bI⟩:=h2;obtain⟨a,ha⟩:∃k:Nat,(ns++new).length+W0.length - 1=k:=⟨_,rfl⟩;rw[ha]at he;subst he;have Ha:=j3 ha;clear ha;have pE:=j3 bI;clear bI;have cY:=j3 ((q9 U9).kept A3);have fY:=j3 ((q9 dB).kept A3);have E9:=j3 ((q9 D8).trans A3);have D6:=j3 A5;clear A3 A5)|(go_at_call 343;refine(qu6 (q9 D6) hs 5 rfl (by decide) (by decide) rfl k5).mono ?_;rintro e w3⟨rfl,A9,B8⟩;have bN:=j3 ((q9 cY).kept A9);have o8:=j3 ((q9 fY).kept A9);have F5:=j3 ((q9 E9).trans A9);have F4:=j3 B8;clear A9 B8)|(go_at_call 216;refine(vf5 ((q9 iS).re (q9 cX) (by decide) (by decide) (q9 I6)) (by omega) [i0,a,b] [] neg (q9 oY) (RowOf.no _ _ _)).mono ?_;rintro e w9⟨i9,rfl,aA,p9⟩;have fH:=j3 (((q9 K6).but (q9 iS) A1 (Nat.le_refl _)).trans aA);have fB:=j3 p9;clear aA p9))
   go_ret;exact⟨q9 fH,i9,rfl,I2 ▸ (q9 fB).more (by omega)⟩
end
section
theorem TrC.other{w:World}{rb:Nat}{nv:Value}{s:ByteArray}{k a z:Int}{S:ByteArray}{n op er at':Int}(h:TrC w rb nv s k a z S n op er at'){b:Nat}(hb:¬b=rb)(i:Nat)(u:Value):TrC (w.setCell ⟨b,i,none⟩ u) rb nv s k a z S n op er at':=
 ((But.refl b w).set i u).tr (λe=>hb e.symm) h
section
variable {w:World} {rb:Nat} {nv:Value} {s:ByteArray} {k a z:Int} {p:Nat} {S:ByteArray} {n op er at':Int}
theorem jd9(h:TrC w rb nv s 4 a p S n op 0 at')(hs:s.size<=200)(hp:p<=s.size){k' a' z':Int}{S':ByteArray}{n':Int}(hT:NextIs s p k' a' z' S' n'):
  Calls prog 344 #[.pointer (some ⟨rb,0,none⟩)] w λe w'=>e=.returned (.agg #[.int .i64 4,.int .i64 a,.int .i64 p,.string S,.int .i64 n])/\TrC w' rb nv s k' a' z' S' n' op 0 at'/\Kept rb w w':=by
 have n0:¬w.heap.size=rb:=by have:=h.lt;omega
 have n1:¬rb=w.heap.size:=by have:=h.lt;omega
 have n2:¬w.heap.size+1=rb:=by have:=h.lt;omega
 have n3:¬rb=w.heap.size+1:=by have:=h.lt;omega
 have ST:=j3 (qr6 (w:=((w.alloc (.cells #[.int .i64 0,.int .i64 0,.int .i64 0,.string ⟨#[]⟩,.int .i64 0] 235)).alloc (.cells #[.int .i64 4,.int .i64 a,.int .i64 p,.string S,.int .i64 n] 235))) ((h.alloc _).alloc _) hs hp hT);obtain⟨lt,c0,c1,c2,c3,c4,c5,c6,c7,c8,c9,fz⟩:=h;clear hT;go_enter func344,ntmps344
 go_wp2_with(go_at_call 172;refine(q9 ST).mono ?_;rintro e w1⟨rfl,T7,A0⟩;obtain⟨hc,hf⟩:=qe1 A0;have p0:w1.cell? ⟨w.heap.size+1,0,none⟩=some (.int .i64 4):=(hc _ 0 (by simp) n2).trans (by simp);have p1:w1.cell? ⟨w.heap.size+1,1,none⟩=some (.int .i64 a):=(hc _ 1 (by simp) n2).trans (by simp);have p2:w1.cell? ⟨w.heap.size+1,2,none⟩=some (.int .i64 p):=(hc _ 2 (by simp) n2).trans (by simp);have p3:w1.cell? ⟨w.heap.size+1,3,none⟩=some (.string S):=(hc _ 3 (by simp) n2).trans (by simp);have p4:w1.cell? ⟨w.heap.size+1,4,none⟩=some (.int .i64 n):=(hc _ 4 (by simp) n2).trans (by simp);have r0:w1.cell? ⟨w.heap.size,0,none⟩=some (.int .i64 0):=(hc _ 0 (by simp;omega) n0).trans (by simp);have r1:w1.cell? ⟨w.heap.size,1,none⟩=some (.int .i64 0):=(hc _ 1 (by simp;omega) n0).trans (by simp);have r2:w1.cell? ⟨w.heap.size,2,none⟩=some (.int .i64 0):=(hc _ 2 (by simp;omega) n0).trans (by simp);have r3:w1.cell? ⟨w.heap.size,3,none⟩=some (.string ⟨#[]⟩):=(hc _ 3 (by simp;omega) n0).trans (by simp);have r4:w1.cell? ⟨w.heap.size,4,none⟩=some (.int .i64 0):=(hc _ 4 (by simp;omega) n0).trans (by simp);have rz:∀i,w1.frozen? ⟨w.heap.size,i,none⟩=false:=λi=>(hf _ i (by simp;omega) n0).trans (by simp);have D8:=j3 ((((Kept.refl rb w).alloc _).alloc _).trans A0);have oV:=j3 T7;clear A0 T7 hc hf)
 all_goals go_wp2_with fail
 refine bodyPost_ret (by simp[results,results344,go_sem,r0,r1,r2,r3,r4]) rfl ⟨rfl,(((((q9 oV).other (b:=w.heap.size) n0 0 _).other n0 1 _).other n0 2 _).other n0 3 _).other n0 4 _,(((((q9 D8).far (p:=⟨w.heap.size,0,none⟩) (Nat.le_refl _) _).far (p:=⟨w.heap.size,1,none⟩) (Nat.le_refl _) _).far (p:=⟨w.heap.size,2,none⟩) (Nat.le_refl _) _).far (p:=⟨w.heap.size,3,none⟩) (Nat.le_refl _) _).far (p:=⟨w.heap.size,4,none⟩) (Nat.le_refl _) _⟩
theorem jd8(h:TrC w rb nv s k a z S n op 0 at')(hk:k≠4):
  Calls prog 344 #[.pointer (some ⟨rb,0,none⟩)] w λe w'=>e=.returned (.agg #[.int .i64 k,.int .i64 a,.int .i64 z,.string S,.int .i64 n])/\TrC w' rb nv s 1 a 0 ⟨#[]⟩ 0 op 2 a/\Kept rb w w':=by
 have n0:¬w.heap.size=rb:=by have:=h.lt;omega
 have n1:¬rb=w.heap.size:=by have:=h.lt;omega
 have n2:¬w.heap.size+1=rb:=by have:=h.lt;omega
 have n3:¬rb=w.heap.size+1:=by have:=h.lt;omega
 have FL:=j3 (qu5 (w:=((w.alloc (.cells #[.int .i64 0,.int .i64 0,.int .i64 0,.string ⟨#[]⟩,.int .i64 0] 235)).alloc (.cells #[.int .i64 k,.int .i64 a,.int .i64 z,.string S,.int .i64 n] 235))) ((h.alloc _).alloc _) 2 a);obtain⟨lt,c0,c1,c2,c3,c4,c5,c6,c7,c8,c9,fz⟩:=h;go_enter func344,ntmps344
 go_wp2_with(go_at_call 174;refine(q9 FL).mono ?_;rintro e w1⟨rfl,T7,A0⟩;obtain⟨hc,hf⟩:=qe1 A0;have p0:w1.cell? ⟨w.heap.size+1,0,none⟩=some (.int .i64 k):=(hc _ 0 (by simp) n2).trans (by simp);have p1:w1.cell? ⟨w.heap.size+1,1,none⟩=some (.int .i64 a):=(hc _ 1 (by simp) n2).trans (by simp);have p2:w1.cell? ⟨w.heap.size+1,2,none⟩=some (.int .i64 z):=(hc _ 2 (by simp) n2).trans (by simp);have p3:w1.cell? ⟨w.heap.size+1,3,none⟩=some (.string S):=(hc _ 3 (by simp) n2).trans (by simp);have p4:w1.cell? ⟨w.heap.size+1,4,none⟩=some (.int .i64 n):=(hc _ 4 (by simp) n2).trans (by simp);have r0:w1.cell? ⟨w.heap.size,0,none⟩=some (.int .i64 0):=(hc _ 0 (by simp;omega) n0).trans (by simp);have r1:w1.cell? ⟨w.heap.size,1,none⟩=some (.int .i64 0):=(hc _ 1 (by simp;omega) n0).trans (by simp);have r2:w1.cell? ⟨w.heap.size,2,none⟩=some (.int .i64 0):=(hc _ 2 (by simp;omega) n0).trans (by simp);have r3:w1.cell? ⟨w.heap.size,3,none⟩=some (.string ⟨#[]⟩):=(hc _ 3 (by simp;omega) n0).trans (by simp);have r4:w1.cell? ⟨w.heap.size,4,none⟩=some (.int .i64 0):=(hc _ 4 (by simp;omega) n0).trans (by simp);have rz:∀i,w1.frozen? ⟨w.heap.size,i,none⟩=false:=λi=>(hf _ i (by simp;omega) n0).trans (by simp);have D8:=j3 ((((Kept.refl rb w).alloc _).alloc _).trans A0);have oV:=j3 T7;clear A0 T7 hc hf)
 all_goals go_wp2_with fail
 refine bodyPost_ret (by simp[results,results344,go_sem,r0,r1,r2,r3,r4]) rfl ⟨rfl,(((((q9 oV).other (b:=w.heap.size) n0 0 _).other n0 1 _).other n0 2 _).other n0 3 _).other n0 4 _,(((((q9 D8).far (p:=⟨w.heap.size,0,none⟩) (Nat.le_refl _) _).far (p:=⟨w.heap.size,1,none⟩) (Nat.le_refl _) _).far (p:=⟨w.heap.size,2,none⟩) (Nat.le_refl _) _).far (p:=⟨w.heap.size,3,none⟩) (Nat.le_refl _) _).far (p:=⟨w.heap.size,4,none⟩) (Nat.le_refl _) _⟩
theorem jx5(h:TrC w rb nv s 1 a z S n op er at')(he:er≠0):
  Calls prog 344 #[.pointer (some ⟨rb,0,none⟩)] w λe w'=>e=.returned (.agg #[.int .i64 1,.int .i64 a,.int .i64 z,.string S,.int .i64 n])/\TrC w' rb nv s 1 a 0 ⟨#[]⟩ 0 op er at'/\Kept rb w w':=by
 have n0:¬w.heap.size=rb:=by have:=h.lt;omega
 have n1:¬rb=w.heap.size:=by have:=h.lt;omega
 have n2:¬w.heap.size+1=rb:=by have:=h.lt;omega
 have n3:¬rb=w.heap.size+1:=by have:=h.lt;omega
 have FL:=j3 (vp1 (w:=((w.alloc (.cells #[.int .i64 0,.int .i64 0,.int .i64 0,.string ⟨#[]⟩,.int .i64 0] 235)).alloc (.cells #[.int .i64 1,.int .i64 a,.int .i64 z,.string S,.int .i64 n] 235))) ((h.alloc _).alloc _) he 2 a);obtain⟨lt,c0,c1,c2,c3,c4,c5,c6,c7,c8,c9,fz⟩:=h;clear he;go_enter func344,ntmps344
 go_wp2_with(go_at_call 174;refine(q9 FL).mono ?_;rintro e w1⟨rfl,T7,A0⟩;obtain⟨hc,hf⟩:=qe1 A0;have p0:w1.cell? ⟨w.heap.size+1,0,none⟩=some (.int .i64 1):=(hc _ 0 (by simp) n2).trans (by simp);have p1:w1.cell? ⟨w.heap.size+1,1,none⟩=some (.int .i64 a):=(hc _ 1 (by simp) n2).trans (by simp);have p2:w1.cell? ⟨w.heap.size+1,2,none⟩=some (.int .i64 z):=(hc _ 2 (by simp) n2).trans (by simp);have p3:w1.cell? ⟨w.heap.size+1,3,none⟩=some (.string S):=(hc _ 3 (by simp) n2).trans (by simp);have p4:w1.cell? ⟨w.heap.size+1,4,none⟩=some (.int .i64 n):=(hc _ 4 (by simp) n2).trans (by simp);have r0:w1.cell? ⟨w.heap.size,0,none⟩=some (.int .i64 0):=(hc _ 0 (by simp;omega) n0).trans (by simp);have r1:w1.cell? ⟨w.heap.size,1,none⟩=some (.int .i64 0):=(hc _ 1 (by simp;omega) n0).trans (by simp);have r2:w1.cell? ⟨w.heap.size,2,none⟩=some (.int .i64 0):=(hc _ 2 (by simp;omega) n0).trans (by simp);have r3:w1.cell? ⟨w.heap.size,3,none⟩=some (.string ⟨#[]⟩):=(hc _ 3 (by simp;omega) n0).trans (by simp);have r4:w1.cell? ⟨w.heap.size,4,none⟩=some (.int .i64 0):=(hc _ 4 (by simp;omega) n0).trans (by simp);have rz:∀i,w1.frozen? ⟨w.heap.size,i,none⟩=false:=λi=>(hf _ i (by simp;omega) n0).trans (by simp);have D8:=j3 ((((Kept.refl rb w).alloc _).alloc _).trans A0);have oV:=j3 T7;clear A0 T7 hc hf)
 all_goals go_wp2_with fail
 refine bodyPost_ret (by simp[results,results344,go_sem,r0,r1,r2,r3,r4]) rfl ⟨rfl,(((((q9 oV).other (b:=w.heap.size) n0 0 _).other n0 1 _).other n0 2 _).other n0 3 _).other n0 4 _,(((((q9 D8).far (p:=⟨w.heap.size,0,none⟩) (Nat.le_refl _) _).far (p:=⟨w.heap.size,1,none⟩) (Nat.le_refl _) _).far (p:=⟨w.heap.size,2,none⟩) (Nat.le_refl _) _).far (p:=⟨w.heap.size,3,none⟩) (Nat.le_refl _) _).far (p:=⟨w.heap.size,4,none⟩) (Nat.le_refl _) _⟩
end
end
section
inductive PS where
 | st (x:St)
 | er (en pl:Int)
def AT(w:World)(rb:Nat)(nv:Value)(s:ByteArray)(op:Nat):PS->Prop
 | .st x=>TrC w rb nv s (rK x.tk.kind) x.place (tkZ x) (BS (tkS x)) (tkN x) op 0 0/\Fine s x/\x.op=op
 | .er en pl=>en≠0/\∃a,TrC w rb nv s 1 a 0 ⟨#[]⟩ 0 op en pl
def jc8(s:ByteArray)(c:Int):PS->PS
 | .st x=>if x.tk.kind=c then .st (j4 s x) else .er 2 x.place
 | .er en pl=>.er en pl
def vy9(s:ByteArray):PS->PS
 | .st x=>if x.tk.kind=4 then .st (j4 s x) else .er 2 x.place
 | .er en pl=>.er en pl
theorem vv9{s:ByteArray}{c:Int}{y:St}(h:y.tk.kind=c):jc8 s c (.st y)=.st (j4 s y):=if_pos h
theorem vv8{s:ByteArray}{c:Int}{y:St}(h:¬y.tk.kind=c):jc8 s c (.st y)=.er 2 y.place:=if_neg h
theorem vj4{s:ByteArray}{y:St}(h:y.tk.kind=4):vy9 s (.st y)=.st (j4 s y):=if_pos h
theorem vj3{s:ByteArray}{y:St}(h:¬y.tk.kind=4):vy9 s (.st y)=.er 2 y.place:=if_neg h
def strP:PS->ByteArray->Prop
 | .st x,S=>S=BS (tkS x)
 | .er _ _,_=>True
section
variable {w:World} {rb:Nat} {nv:Value} {s:ByteArray} {op:Nat} {x:PS}
theorem AT.lt(h:AT w rb nv s op x):rb<w.heap.size:=by
 cases x with
 | st x=>exact h.1.lt
 | er en pl=>obtain⟨_,a,h⟩:=h;exact h.lt
theorem AT.c0(h:AT w rb nv s op x):w.cell? ⟨rb,0,none⟩=some nv:=by
 cases x with
 | st x=>exact h.1.c0
 | er en pl=>obtain⟨_,a,h⟩:=h;exact h.c0
theorem AT.tr{w':World}{L:Nat}(h:AT w rb nv s op x)(hb:But L w w')(hL:rb≠L):AT w' rb nv s op x:=by
 cases x with
 | st x=>exact⟨hb.tr hL h.1,h.2⟩
 | er en pl=>obtain⟨he,a,h⟩:=h;exact⟨he,a,hb.tr hL h⟩
theorem tstep{y:St}(h:AT w rb nv s op (.st y))(hs:s.size<=200)(h1:y.tk.kind≠1):
  Calls prog 172 #[.pointer (some ⟨rb,0,none⟩)] w λe w'=>e=.returned (.tuple #[])/\Kept rb w w'/\AT w' rb nv s op (.st (j4 s y)):=by
 obtain⟨hT,hF,ho⟩:=h;rw[show tkZ y=(y.after:Int) by unfold tkZ;rw[if_neg h1]]at hT;refine(qr6 hT hs hF.after (qs0 s y)).mono ?_;rintro e w'⟨rfl,G7,hK⟩;exact⟨rfl,hK,G7,qa7 s y hF.after,ho⟩
theorem tmust(h:AT w rb nv s op x)(hs:s.size<=200)(c:Int){kind:Int}{X:ByteArray}(hX:kwT c=X.data.toList)(h5:5<=c)(h28:c<=28)(hk:rK c=kind):
  Calls prog 343 #[.pointer (some ⟨rb,0,none⟩),.int .i64 kind,.string X] w λe w'=>e=.returned (.tuple #[])/\Kept rb w w'/\AT w' rb nv s op (jc8 s c x):=by
 cases x with
 | st y=>
  have hi:=isK (st:=y) hX h5 h28 kind hk;obtain⟨hT,hF,ho⟩:=h
  by_cases hc:y.tk.kind=c
  ·rw[vv9 hc]
   rw[hc,beq_self_eq_true]at hi;rw[show tkZ y=(y.after:Int) by unfold tkZ;rw[if_neg (by omega)]]at hT;have hb:(rK c==kind)=true/\((BS (tkS y)).toList==X.toList)=true:=by simpa using hi
   refine(js4 hT hs hF.after (qs0 s y) kind X (by rw[hc];exact hk) hb.2).mono ?_;rintro e w'⟨rfl,G7,hK⟩;exact⟨rfl,hK,G7,qa7 s y hF.after,ho⟩
  ·rw[vv8 hc]
   rw[show(y.tk.kind==c)=false from beq_eq_false_iff_ne.2 hc]at hi;refine(vx9 hT kind X hi).mono ?_;rintro e w'⟨rfl,G7,hK⟩;exact⟨rfl,hK,by decide,_,G7⟩
 | er en pl=>
  obtain⟨he,a,hT⟩:=h;refine(je8 hT he kind X (by rw[←hk];unfold rK;rw[if_neg (by omega)];split<;>decide)).mono ?_;rintro e w'⟨rfl,G7,hK⟩;exact⟨rfl,hK,he,a,G7⟩
theorem ttext(h:AT w rb nv s op x)(hs:s.size<=200):
  Calls prog 344 #[.pointer (some ⟨rb,0,none⟩)] w λe w'=>∃(k a z:Int) (S:ByteArray) (n:Int),e=.returned (.agg #[.int .i64 k,.int .i64 a,.int .i64 z,.string S,.int .i64 n])/\Kept rb w w'/\AT w' rb nv s op (vy9 s x)/\strP x S:=by
 cases x with
 | st y=>
  obtain⟨hT,hF,ho⟩:=h
  by_cases hc:y.tk.kind=4
  ·rw[vj4 hc]
   rw[show tkZ y=(y.after:Int) by unfold tkZ;rw[if_neg (by omega)],show rK y.tk.kind=4 by rw[hc];rfl]at hT;refine(jd9 hT hs hF.after (qs0 s y)).mono ?_;rintro e w'⟨rfl,G7,hK⟩;exact⟨_,_,_,_,_,rfl,hK,⟨G7,qa7 s y hF.after,ho⟩,rfl⟩
  ·rw[vj3 hc]
   refine(jd8 hT (by unfold rK;split<;>(try split)<;>omega)).mono ?_;rintro e w'⟨rfl,G7,hK⟩;exact⟨_,_,_,_,_,rfl,hK,⟨by decide,_,G7⟩,rfl⟩
 | er en pl=>
  obtain⟨he,a,hT⟩:=h;refine(jx5 hT he).mono ?_;rintro e w'⟨rfl,G7,hK⟩;exact⟨_,_,_,_,_,rfl,hK,⟨he,a,G7⟩,trivial⟩
theorem tadd(h:AT w rb nv s op x){ns:List RN}(hN:NodesAt w rb nv ns)(hn:ns.length<=100000)(p:Pay)(hp:p.num=0)(ins:List Nat)(neg:Bool){N S E:ByteArray}{iv lv:Value}(hNN:BS (qb7 p.op)=N)(hS:BS p.str=S)(hE:BS p.esc=E)(hi:RowOf w rb 3 iv (vb2 ins))(hl:RowOf w rb 9 lv (qa1 p.texts)):
  Calls prog 216 #[.pointer (some ⟨rb,0,none⟩),.agg #[.string N,.int .i64 p.place,iv,.string S,.string E,lv,.int .i64 0,.bool neg,.int .i64 0]] w
   λe w'=>e=.returned (.int .i64 ns.length)/\TKept rb w w'/\∃nv',AT w' rb nv' s op x/\NodesAt w' rb nv' (ns++[qi5 p ins neg]):=by
 subst hNN hS hE;have e4:(qi5 p ins neg).num=p.num:=rfl
 cases x with
 | st y=>
  have:=vc5 h.1 hN (qi5 p ins neg) hi hl hn;rw[e4,hp]at this;refine this.mono ?_;rintro e w'⟨rfl,hK,nv',G7,kP⟩;exact⟨rfl,hK,nv',⟨G7,h.2⟩,kP⟩
 | er en pl=>
  obtain⟨he,a,hT⟩:=h;have:=vc5 hT hN (qi5 p ins neg) hi hl hn;rw[e4,hp]at this;refine this.mono ?_;rintro e w'⟨rfl,hK,nv',G7,kP⟩;exact⟨rfl,hK,nv',⟨he,a,G7⟩,kP⟩
end
structure Mid(rb L:Nat)(w w':World):Prop where
 os:w'.os=w.os
 tape:w'.tape=w.tape
 output:w'.output=w.output
 size:w.heap.size<=w'.heap.size
 block:∀k,k<w.heap.size->k≠rb->k≠L->w'.heap[k]?=w.heap[k]?
section
variable {L rb:Nat} {w w' w'':World} {ty:TypeId} {cs:Array Value}
theorem Mid.refl(rb L:Nat)(w:World):Mid rb L w w:=⟨rfl,rfl,rfl,Nat.le_refl _,λ_ _ _ _=>rfl⟩
theorem Mid.kept(h:Mid rb L w w')(k:Kept rb w' w''):Mid rb L w w'':=⟨k.os.trans h.os,k.tape.trans h.tape,k.output.trans h.output,Nat.le_trans h.size k.size,λi hi hr hn=>(k.block i (Nat.lt_of_lt_of_le hi h.size) hr).trans (h.block i hi hr hn)⟩
theorem Mid.but(h:Mid rb L w w')(k:But L w' w''):Mid rb L w w'':=⟨k.os.trans h.os,k.tape.trans h.tape,k.output.trans h.output,Nat.le_trans h.size k.size,λi hi hr hn=>(k.block i (Nat.lt_of_lt_of_le hi h.size) hn).trans (h.block i hi hr hn)⟩
theorem Mid.far(h:Mid rb L w w'){p:Addr}(hp:w.heap.size<=p.block)(u:Value):Mid rb L w (w'.setCell p u):=⟨h.os,h.tape,h.output,by have:=h.size;simpa using this,λi hi hr hn=>(Below.heap_setCell w' p u i (by omega)).trans (h.block i hi hr hn)⟩
theorem Mid.grown(h:Mid rb L w w'){row:Option Nat}(hg:w'.grownBy w'' row)(hr:∀g,row=some g->w.heap.size<=g):Mid rb L w w'':=
 ⟨hg.os.trans h.os,hg.tape.trans h.tape,hg.output.trans h.output,Nat.le_trans h.size hg.size,λk hk g9 hn=>(hg.block k (Nat.lt_of_lt_of_le hk h.size) (λe=>by have:=hr k e.symm;omega)).trans (h.block k hk g9 hn)⟩
theorem jr9{nv:Value}(c:w.cell? ⟨rb,0,none⟩=some nv)(c':w'.cell? ⟨rb,0,none⟩=some nv)(k:Nat):vb1 w' rb k↔vb1 w rb k:=by unfold vb1;rw[c,c']
theorem Mid.row{nv:Value}(h:Mid rb L w w')(c:w.cell? ⟨rb,0,none⟩=some nv)(c':w'.cell? ⟨rb,0,none⟩=some nv)(hv:VN w rb L ty cs){ty':TypeId}(C1:ty'≠ty){v:Value}{vs:List Value}(hr:RowOf w rb ty' v vs):RowOf w' rb ty' v vs:=by
 rcases hr with hr|⟨g,cap,c1,fr,hv',hg,hc,ho,hx⟩
 ·exact .inl hr
 ·have sJ:g≠L:=λe=>by subst e;rw[hv.blk]at hc;injection hc with e;injection e with _ e2 _;exact C1 e2.symm
  have bG:=(Array.getElem?_eq_some_iff.1 hc).1;exact .inr ⟨g,cap,c1,fr,hv',hg,(h.block g bG (by omega) sJ).trans hc,λh2=>ho ((jr9 c c' g).1 h2),hx⟩
theorem Mid.nodes{nv:Value}{ns:List RN}(h:Mid rb L w w')(c:w.cell? ⟨rb,0,none⟩=some nv)(c':w'.cell? ⟨rb,0,none⟩=some nv)(hv:VN w rb L ty cs)(h1:(3:TypeId)≠ty)(h2:(9:TypeId)≠ty)(hN:NodesAt w rb nv ns):NodesAt w' rb nv ns:=by
 obtain⟨rs,hl,ho,hn⟩:=hN;refine⟨rs,hl,qe7 ho λg hg=>h.block g (ho.lt g hg).2 (by have:=(ho.lt g hg).1;omega) (λe=>hv.no (.inr ⟨nv,c,e ▸ hg⟩)),λi n r e1 e2=>⟨h.row c c' hv h1 (hn i n r e1 e2).1,h.row c c' hv h2 (hn i n r e1 e2).2⟩⟩
theorem TKept.mid{a:World}{nv:Value}(hk:TKept rb a w)(h:Mid rb L w w')(c:w.cell? ⟨rb,0,none⟩=some nv)(c':w'.cell? ⟨rb,0,none⟩=some nv)(hp:a.heap.size<=L):TKept rb a w':=
 ⟨h.os.trans hk.os,h.tape.trans hk.tape,h.output.trans hk.output,Nat.le_trans hk.size h.size,λk A0 hn=>(h.block k (Nat.lt_of_lt_of_le A0 hk.size) (λe=>hn (.inl e)) (by omega)).trans (hk.block k A0 hn),λk A0 ho=>hk.own k A0 ((jr9 c c' k).1 ho)⟩
end
structure AmV(W:World)(rb L Tb:Nat)(cs:Value->Array Value)(lv:Value)(ts:List (List UInt8))(wr:World):Prop where
 mid:Mid rb L W wr
 nb:wr.heap[L]?=some (.cells (cs lv) 241 (0,0))
 tb:∃k a z S n,wr.heap[Tb]?=some (.cells #[.int .i64 k,.int .i64 a,.int .i64 z,.string S,.int .i64 n] 235 (0,0))
 tp:W.heap.size<=Tb
 row:wr.ownsRow W.heap.size 9 1 lv ts.length (qa1 ts)
section
variable {W:World} {rb L Tb:Nat} {cs:Value->Array Value} {lv:Value} {ts:List (List UInt8)} {wr w':World}
theorem AmV.kept(h:AmV W rb L Tb cs lv ts wr)(hL:L<W.heap.size)(g9:rb<L)(hk:Kept rb wr w'):AmV W rb L Tb cs lv ts w':=by
 obtain⟨mid,nb,⟨k,a,z,S,n,tb⟩,tp,row⟩:=h;have hz:=mid.size;have hT:=(Array.getElem?_eq_some_iff.1 tb).1;exact⟨mid.kept hk,(hk.block L (by omega) (by omega)).trans nb,⟨k,a,z,S,n,(hk.block Tb hT (by omega)).trans tb⟩,tp,qe7 row λg hg=>hk.block g (row.lt g hg).2 (by have:=(row.lt g hg).1;omega)⟩
theorem qt5{w:World}{b:Nat}{c:Array Value}{ty:TypeId}(h:w.heap[b]?=some (.cells c ty (0,0))):(∀i,w.cell? ⟨b,i,none⟩=c[i]?)/\∀i,w.frozen? ⟨b,i,none⟩=false:=
 ⟨λi=>by simp[World.cell?,h],λi=>by simp[World.frozen?,h]⟩
theorem va5{w:World}{b:Nat}{c:Array Value}{ty:TypeId}(h:w.heap[b]?=some (.cells c ty (0,0)))(i:Nat)(u:Value):(w.setCell ⟨b,i,none⟩ u).heap[b]?=some (.cells (c.setIfInBounds i u) ty (0,0)):=by
 simp[World.setCell,Array.getElem?_modify,h]
theorem AmV.tok(h:AmV W rb L Tb cs lv ts wr)(hL:L<W.heap.size)(k a z:Int)(S:ByteArray)(n:Int):
  AmV W rb L Tb cs lv ts (((((wr.setCell ⟨Tb,0,none⟩ (.int .i64 k)).setCell ⟨Tb,1,none⟩ (.int .i64 a)).setCell ⟨Tb,2,none⟩ (.int .i64 z)).setCell ⟨Tb,3,none⟩ (.string S)).setCell ⟨Tb,4,none⟩ (.int .i64 n)):=by
 obtain⟨mid,nb,⟨k0,a0,z0,S0,n0,tb⟩,tp,row⟩:=h
 have C1:∀g,lv.ownBlock=some g->g≠Tb:=by
  intro g hg e;obtain⟨_,hx|⟨g',cap,cur,rfl,_,J1,_⟩⟩:=row
  ·rw[hx.1]at hg;cases hg
  ·injection hg with hg
   subst hg;subst e;rw[tb]at J1;injection J1 with e;injection e with _ e2 _;exact absurd e2 (by decide)
 have tI:L≠Tb:=by omega
 refine⟨((((mid.far (p:=⟨Tb,0,none⟩) tp _).far (p:=⟨Tb,1,none⟩) tp _).far (p:=⟨Tb,2,none⟩) tp _).far (p:=⟨Tb,3,none⟩) tp _).far (p:=⟨Tb,4,none⟩) tp _, ?_,⟨k,a,z,S,n,va5 (va5 (va5 (va5 (va5 tb 0 _) 1 _) 2 _) 3 _) 4 _⟩,tp,qe7 row λg hg=>?_⟩
 ·rw[Below.heap_setCell _ ⟨Tb,4,none⟩ _ L tI,Below.heap_setCell _ ⟨Tb,3,none⟩ _ L tI,Below.heap_setCell _ ⟨Tb,2,none⟩ _ L tI,Below.heap_setCell _ ⟨Tb,1,none⟩ _ L tI,Below.heap_setCell _ ⟨Tb,0,none⟩ _ L tI];exact nb
 ·have hg':=C1 g hg
  rw[Below.heap_setCell _ ⟨Tb,4,none⟩ _ g hg',Below.heap_setCell _ ⟨Tb,3,none⟩ _ g hg',Below.heap_setCell _ ⟨Tb,2,none⟩ _ g hg',Below.heap_setCell _ ⟨Tb,1,none⟩ _ g hg',Below.heap_setCell _ ⟨Tb,0,none⟩ _ g hg']
theorem AmV.app(h:AmV W rb L Tb cs lv ts wr)(hL:L<W.heap.size)(g9:rb<L)(O5:∀u v,(cs u).setIfInBounds 5 v=cs v)(hn:ts.length<=1000)(S:ByteArray):
  ∃g cap w6,(vz2 #[62,62] 62 #[lv,.slice (some ⟨wr.heap.size,0,none⟩) 1 1]).run prog (wr.alloc (.cells #[.string S] 9))=.ok (.slice (some ⟨g,0,none⟩) (ts.length+1) cap) w6 /\
   w6.heap[L]?=some (.cells (cs lv) 241 (0,0))/\(w6.heap[rb]?=wr.heap[rb]?)/\wr.heap.size<=w6.heap.size /\
   AmV W rb L Tb cs (.slice (some ⟨g,0,none⟩) (ts.length+1) cap) (ts++[S.data.toList]) (w6.setCell ⟨L,5,none⟩ (.slice (some ⟨g,0,none⟩) (ts.length+1) cap)):=by
 obtain⟨mid,nb,⟨k0,a0,z0,S0,n0,tb⟩,tp,row⟩:=h;obtain⟨i,hi,I8,C8,F8⟩:=info_parts vm1;have hz:=mid.size;have AB:=(Array.getElem?_eq_some_iff.1 tb).1;have hb:Below wr.heap.size wr (wr.alloc (.cells #[.string S] 9)):=(Below.refl _ _).alloc (Nat.le_refl _) _;obtain⟨g,cap,w6,hr,eG,V4,_,_⟩:=run_append_lies (P:=prog) (wr.alloc (.cells #[.string S] 9)) 62 62 W.heap.size 9 i _ 1 16 underlying62 hi I8 C8 F8 rfl (by omega) lv ts.length _ (World.ownsRow.alloc row _) ⟨wr.heap.size,0,none⟩ 1 1 [.string S] rfl
  (by
   intro j u hu;rcases j with _|j
   ·simp at hu;subst hu;simp[Addr.add]
   ·simp at hu) (by simp[Value.oneCell']) (by omega) (by unfold maxLen;omega) (by omega) (by simp;omega) _ rfl
 have C1:∀g,lv.ownBlock=some g->g≠Tb/\W.heap.size<=g:=by
  intro g hg;refine⟨λe=>?_,(row.lt g hg).1⟩;obtain⟨_,hx|⟨g',cap,cur,rfl,_,J1,_⟩⟩:=row
  ·rw[hx.1]at hg;cases hg
  ·injection hg with hg
   subst hg;subst e;rw[tb]at J1;injection J1 with e;injection e with _ e2 _;exact absurd e2 (by decide)
 have kJ:∀k,k<wr.heap.size->lv.ownBlock≠some k->w6.heap[k]?=wr.heap[k]?:=λk hk lV=>(V4.block k (Nat.lt_of_lt_of_le hk hb.size) (λe=>lV e.symm)).trans (hb.block k hk)
 have jI:w6.heap[L]?=wr.heap[L]?:=kJ L (by omega) (λe=>by have:=(C1 L e).2;omega);have NI:w6.heap[Tb]?=wr.heap[Tb]?:=kJ Tb AB (λe=>(C1 Tb e).1 rfl);have bU:w6.heap[rb]?=wr.heap[rb]?:=kJ rb (by omega) (λe=>by have:=(C1 rb e).2;omega);have LY:Mid rb L W w6:=⟨(V4.os.trans hb.os).trans mid.os,(V4.tape.trans hb.tape).trans mid.tape,(V4.output.trans hb.output).trans mid.output,Nat.le_trans (Nat.le_trans hz hb.size) V4.size,λk hk h1 h2=>(kJ k (by omega) (λe=>by have:=(C1 k e).2;omega)).trans (mid.block k hk h1 h2)⟩;refine⟨g,cap,w6,hr,jI.trans nb,bU,Nat.le_trans hb.size V4.size,LY.but ((But.refl L w6).set 5 _), ?_,⟨k0,a0,z0,S0,n0, ?_⟩,tp, ?_⟩
 ·rw[va5 (jI.trans nb),O5]
 ·rw[Below.heap_setCell _ ⟨L,5,none⟩ _ Tb (by show Tb≠L;omega)];exact NI.trans tb
 ·rw[List.length_append,qa1,List.map_append]
  exact ownsRow_setCell_below eG (by show L<_;omega) _
end
end
end Go.Proofs.YtfkcaldjphakpaaGreatDoor
