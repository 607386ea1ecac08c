/- The document's answer: all but a variable is as it was. The document's answer: BETWEEN. The document's answer: a text has to come. The document's answer: a reader that may have an error; what IN's loop keeps. -/
import Derived.Test.YtfkcaldjphakpaaGreatDoorM22
import Derived.ArgAppend
import Derived.Test.YtfkcaldjphakpaaGreatDoorM06
set_option maxHeartbeats 16000000
set_option maxRecDepth 100000
namespace Go.Proofs.YtfkcaldjphakpaaGreatDoor
open Go.RowKit
section
structure But (L:Nat) (w w':World):Prop where
 os:w'.os=w.os
 tape:w'.tape=w.tape
 output:w'.output=w.output
 size:w.heap.size≤w'.heap.size
 block:∀k,k<w.heap.size→k≠L→w'.heap[k]?=w.heap[k]?
section
variable {L rb:Nat} {w w' w'':World} {ty:TypeId} {cs:Array Value}
theorem But.refl (L:Nat) (w:World):But L w w:=⟨rfl,rfl,rfl,Nat.le_refl _,fun _ _ _=>rfl⟩
theorem But.trans (h:But L w w') (k:But L w' w''):But L w w'':=⟨k.os.trans h.os,k.tape.trans h.tape,k.output.trans h.output,Nat.le_trans h.size k.size,fun i hi hn=>(k.block i (Nat.lt_of_lt_of_le hi h.size) hn).trans (h.block i hi hn)⟩
theorem But.below (h:But L w w') (hb:Below w'.heap.size w' w''):But L w w'':=h.trans ⟨hb.os,hb.tape,hb.output,hb.size,fun k hk _=>hb.block k hk⟩
theorem But.alloc (h:But L w w') (o:Obj):But L w (w'.alloc o):=h.below ((Below.refl _ _).alloc (Nat.le_refl _) o)
theorem But.set (h:But L w w') (i:Nat) (u:Value):But L w (w'.setCell ⟨L,i,none⟩ u):=
 h.trans ⟨rfl,rfl,rfl,by simp,fun k _ hn=>Below.heap_setCell w' ⟨L,i,none⟩ u k hn⟩
theorem But.grown (h:But L w w') {row:Option Nat} (hg:w'.grownBy w'' row) (hr:∀g,row=some g→w.heap.size≤g):But L w w'':=
 ⟨hg.os.trans h.os,hg.tape.trans h.tape,hg.output.trans h.output,Nat.le_trans h.size hg.size,fun k hk hn=>(hg.block k (Nat.lt_of_lt_of_le hk h.size) (fun e=>by have:=hr k e.symm;omega)).trans (h.block k hk hn)⟩
theorem But.cell0 (h:But L w w') (hlt:rb<w.heap.size) (hL:rb≠L) (i:Nat):w'.cell? ⟨rb,i,none⟩=w.cell? ⟨rb,i,none⟩:=World.cell?_of_block (w:=w) (w':=w') (a:=⟨rb,i,none⟩) (h.block rb hlt hL)
theorem But.own (h:But L w w') (hlt:rb<w.heap.size) (hL:rb≠L) (k:Nat):qy2 w' rb k↔qy2 w rb k:=by unfold qy2;rw [h.cell0 hlt hL]
theorem But.row (h:But L w w') (hlt:rb<w.heap.size) (hv:VN w rb L ty cs) {ty':TypeId} (hne:ty'≠ty) {v:Value} {vs:List Value} (hr:RowOf w rb ty' v vs):RowOf w' rb ty' v vs:=by
 have hL:rb≠L:=by have:=hv.past;omega
 rcases hr with hr|⟨g,cap,c,fr,hv',hg,hc,ho,hx⟩
 ·exact .inl hr
 ·have hgL:g≠L:=fun e=>by subst e;rw [hv.blk] at hc;injection hc with e;injection e with _ e2 _;exact hne e2.symm
  have hglt:=(Array.getElem?_eq_some_iff.1 hc).1
  exact .inr ⟨g,cap,c,fr,hv',hg,(h.block g hglt hgL).trans hc,fun h2=>ho ((h.own hlt hL g).1 h2),hx⟩
theorem But.tr {nv:Value} {s:ByteArray} {k a z:Int} {S:ByteArray} {n op er at':Int} (h:But L w w') (hL:rb≠L) (hT:TrC w rb nv s k a z S n op er at'):TrC w' rb nv s k a z S n op er at':=by
 have hc:∀j,w'.cell? ⟨rb,j,none⟩=w.cell? ⟨rb,j,none⟩:=h.cell0 hT.lt hL
 have hf:∀j,w'.frozen? ⟨rb,j,none⟩=w.frozen? ⟨rb,j,none⟩:=fun j=>World.frozen?_of_block (w:=w) (w':=w') (a:=⟨rb,j,none⟩) (h.block rb hT.lt hL)
 exact ⟨Nat.lt_of_lt_of_le hT.lt h.size,(hc _).trans hT.c0,(hc _).trans hT.c1,(hc _).trans hT.c2,(hc _).trans hT.c3,(hc _).trans hT.c4,(hc _).trans hT.c5,(hc _).trans hT.c6,(hc _).trans hT.c7,(hc _).trans hT.c8,(hc _).trans hT.c9,fun j=>(hf j).trans (hT.fz j)⟩
theorem But.nodes {nv:Value} {ns:List RN} (h:But L w w') (hlt:rb<w.heap.size) (c0:w.cell? ⟨rb,0,none⟩=some nv) (hv:VN w rb L ty cs) (h1:(3:TypeId)≠ty) (h2:(9:TypeId)≠ty) (hN:NodesAt w rb nv ns):NodesAt w' rb nv ns:=by
 obtain ⟨rs,hl,ho,hn⟩:=hN
 refine ⟨rs,hl,qq9 ho fun g hg=>h.block g (ho.lt g hg).2 (fun e=>hv.no (.inr ⟨nv,c0,e ▸ hg⟩)),fun i n r e1 e2=>⟨h.row hlt hv h1 (hn i n r e1 e2).1,h.row hlt hv h2 (hn i n r e1 e2).2⟩⟩
theorem But.rt {s:ByteArray} {ns:List RN} {j:Nat} {st:St} (h:But L w w') (hv:VN w rb L ty cs) (h1:(3:TypeId)≠ty) (h2:(9:TypeId)≠ty) (hr:RT w rb s ns j st):RT w' rb s ns j st:=by
 obtain ⟨nv,hT,hN,hF,hj⟩:=hr
 exact ⟨nv,h.tr (by have:=hv.past;omega) hT,h.nodes hT.lt hT.c0 hv h1 h2 hN,hF,hj⟩
theorem But.re {s:ByteArray} {en pl:Int} {op m:Nat} (h:But L w w') (hv:VN w rb L ty cs) (h1:(3:TypeId)≠ty) (h2:(9:TypeId)≠ty) (hr:RE w rb s en pl op m):RE w' rb s en pl op m:=by
 obtain ⟨nv,a,ns,hT,he,hN,hm⟩:=hr
 exact ⟨nv,a,ns,h.tr (by have:=hv.past;omega) hT,he,h.nodes hT.lt hT.c0 hv h1 h2 hN,hm⟩
theorem TKept.but {a:World} (hk:TKept rb a w) (h:But L w w') (hlt:rb<a.heap.size) (hp:a.heap.size≤L):TKept rb a w':=by
 refine ⟨h.os.trans hk.os,h.tape.trans hk.tape,h.output.trans hk.output,Nat.le_trans hk.size h.size,fun k hk1 hn=>(h.block k (Nat.lt_of_lt_of_le hk1 hk.size) (by omega)).trans (hk.block k hk1 hn),fun k hk1 ho=>hk.own k hk1 ((h.own (Nat.lt_of_lt_of_le hlt hk.size) (by omega) k).1 ho)⟩
theorem But.no (h:But L w w') (hv:VN w rb L ty cs) (hlt:rb<w.heap.size):¬qy2 w' rb L:=fun ho=>hv.no ((h.own hlt (by have:=hv.past;omega) L).1 ho)
end
theorem je4:(Tryz.prog.info? 3).map (fun i=>(i.zero,i.size,i.bytes))=some (some (.int .i64 0),1,8):=by kernel_rfl
theorem app_int1 {W:World} {g:Nat} {i0:Nat} (hg:W.cell? ⟨g,0,none⟩=some (.int .i64 i0)) (a:Nat) :
  ∃g' cap w',(jg0 #[52,52] 52 #[.slice (some ⟨g,0,none⟩) 1 1,.slice (some ⟨W.heap.size,0,none⟩) 1 1]).run Tryz.prog (W.alloc (.cells #[.int .i64 a] 3))=.ok (.slice (some ⟨g',0,none⟩) 2 cap) w' ∧
   Hid (w'.ownsRow W.heap.size 3 1 (.slice (some ⟨g',0,none⟩) 2 cap) 2 [.int .i64 i0,.int .i64 a])∧Hid (Below W.heap.size W w'):=by
 obtain ⟨i,hi,hz0,hz1,hz2⟩:=info_parts je4
 have hb:Below W.heap.size W (W.alloc (.cells #[.int .i64 (a:Int)] 3)):=(Below.refl _ _).alloc (Nat.le_refl _) _
 have hglt:g<W.heap.size:=World.block_lt_of_cell? W ⟨g,0,none⟩ hg
 obtain ⟨v',w',hr,ho,hgr⟩:=run_append_arg_grows (P:=Tryz.prog) (w:=W.alloc (.cells #[.int .i64 (a:Int)] 3)) 52 52 3 i _ 1 8 Tryz.underlying52 hi hz0 hz1 hz2 rfl (by omega) ⟨g,0,none⟩ 1 1 [.int .i64 i0] rfl
  (by
   intro j u hu
   rcases j with _|j
   ·simp at hu;subst hu;exact ((qa9 hb).1 _ _ hglt).trans hg
   ·simp at hu)
  ⟨W.heap.size,0,none⟩ 1 1 [.int .i64 a] rfl
  (by
   intro j u hu
   rcases j with _|j
   ·simp at hu;subst hu;simp [Addr.add]
   ·simp at hu) (by omega) (by unfold maxLen;omega) (by omega)
 obtain ⟨hl,hn|⟨g',cap,cur,rfl,hbg,hgg,h1,h2,h3,h4⟩⟩:=ho
 ·omega
 ·refine ⟨g',cap,w',hr,j4 ⟨hl,.inr ⟨g',cap,cur,rfl, ?_,hgg,h1,h2,h3,h4⟩⟩,j4 ⟨hgr.os.trans hb.os,hgr.tape.trans hb.tape,hgr.output.trans hb.output,Nat.le_trans hb.size hgr.size,fun k hk=>(hgr.block k (Nat.lt_of_lt_of_le hk hb.size) (by simp)).trans (hb.block k hk)⟩⟩
  simp at hbg;omega
theorem app_int2 {W:World} {B g cap:Nat} {i0 a:Nat} (ho:W.ownsRow B 3 1 (.slice (some ⟨g,0,none⟩) 2 cap) 2 [.int .i64 i0,.int .i64 a]) (hB:B≤W.heap.size) (b:Nat) :
  ∃g' cap' w',(jg0 #[52,52] 52 #[.slice (some ⟨g,0,none⟩) 2 cap,.slice (some ⟨W.heap.size,0,none⟩) 1 1]).run Tryz.prog (W.alloc (.cells #[.int .i64 b] 3))=.ok (.slice (some ⟨g',0,none⟩) 3 cap') w' ∧
   Hid (w'.ownsRow B 3 1 (.slice (some ⟨g',0,none⟩) 3 cap') 3 [.int .i64 i0,.int .i64 a,.int .i64 b])∧Hid (W.grownBy w' (some g))∧B≤g:=by
 obtain ⟨i,hi,hz0,hz1,hz2⟩:=info_parts je4
 have hb:Below W.heap.size W (W.alloc (.cells #[.int .i64 (b:Int)] 3)):=(Below.refl _ _).alloc (Nat.le_refl _) _
 have hBg:=ho.lt g rfl
 obtain ⟨g',cap',w',hr,ho',hgr,_,_⟩:=run_append_lies (P:=Tryz.prog) (W.alloc (.cells #[.int .i64 (b:Int)] 3)) 52 52 B 3 i _ 1 8 Tryz.underlying52 hi hz0 hz1 hz2 rfl (by omega) _ 2 _ (World.ownsRow.alloc ho _) ⟨W.heap.size,0,none⟩ 1 1 [.int .i64 b] rfl
  (by
   intro j u hu
   rcases j with _|j
   ·simp at hu;subst hu;simp [Addr.add]
   ·simp at hu) (by simp [Value.oneCell']) (by omega) (by unfold maxLen;omega) (by omega) (by simp;omega) _ rfl
 exact ⟨g',cap',w',hr,j4 ho',j4 ⟨hgr.os.trans hb.os,hgr.tape.trans hb.tape,hgr.output.trans hb.output,Nat.le_trans hb.size hgr.size,fun k hk hn=>(hgr.block k (Nat.lt_of_lt_of_le hk hb.size) hn).trans (hb.block k hk)⟩,hBg.1⟩
theorem own_row {w:World} {B rb:Nat} {ty:TypeId} {g n cap:Nat} {vs:List Value} (ho:w.ownsRow B ty 1 (.slice (some ⟨g,0,none⟩) n cap) n vs) (hB:rb<B) (hn:¬qy2 w rb g):RowOf w rb ty (.slice (some ⟨g,0,none⟩) n cap) vs:=by
 obtain ⟨hl,hx|⟨g',cap',cur,hv,hbg,hgg,h1,h2,h3,h4⟩⟩:=ho
 ·cases hx.1
 ·injection hv with e1 e2 e3
  injection e1 with e1
  injection e1 with e1
  subst e1 e3
  refine .inr ⟨g,cap,cur,(0,0),by rw [show vs.length=n by omega],by omega,hgg,hn,fun j u hj=>?_⟩
  rw [←h4] at hj
  have hj':=List.getElem?_eq_some_iff.1 hj
  have:=hj'.1
  simp only [List.length_take] at this
  rw [List.getElem?_take] at hj
  split at hj
  ·simpa using hj
  ·cases hj
end
section
attribute [local go_sem ↓] qj6
def negA (neg:Bool) (pl:Int) (t:Ast):Ast:=if neg=true then .un ⟨5,pl,0,[],[],[]⟩ t else t
def negR (neg:Bool) (pl:Int) (r:Res):Res:=match r with
 | .ok t st=>.ok (negA neg pl t) st
 | .err en p=>.err en p
theorem RT.own_lt {w:World} {rb:Nat} {s:ByteArray} {ns:List RN} {j:Nat} {st:St} (h:RT w rb s ns j st) (k:Nat) (ho:qy2 w rb k):k<w.heap.size:=by
 obtain ⟨nv,hT,⟨rs,_,hn,_⟩,_⟩:=h
 rcases ho with rfl|⟨nv',h1,h2⟩
 ·exact hT.lt
 ·rw [hT.c0] at h1;injection h1 with h1;subst h1;exact (hn.lt k h2).2
theorem RE.own_lt {w:World} {rb:Nat} {s:ByteArray} {en pl:Int} {op m:Nat} (h:RE w rb s en pl op m) (k:Nat) (ho:qy2 w rb k):k<w.heap.size:=by
 obtain ⟨nv,a,ns,hT,_,⟨rs,_,hn,_⟩,_⟩:=h
 rcases ho with rfl|⟨nv',h1,h2⟩
 ·exact hT.lt
 ·rw [hT.c0] at h1;injection h1 with h1;subst h1;exact (hn.lt k h2).2
theorem betR_e1 {s:ByteArray} {f:St→Res} {l:Ast} {st:St} {en pl:Int} (hk:st.tk.kind=10) (h:f (j3 s st)=.err en pl):qa8 s f l st=.err en pl:=by unfold qa8;rw [if_pos hk,h]
theorem betR_e2 {s:ByteArray} {f:St→Res} {l lo:Ast} {st st1:St} (hk:st.tk.kind=10) (h:f (j3 s st)=.ok lo st1) (k5:¬st1.tk.kind=5):qa8 s f l st=.err 2 st1.place:=by unfold qa8;rw [if_pos hk,h];simp only [if_neg k5]
theorem betR_e3 {s:ByteArray} {f:St→Res} {l lo:Ast} {st st1:St} {en pl:Int} (hk:st.tk.kind=10) (h:f (j3 s st)=.ok lo st1) (k5:st1.tk.kind=5) (h2:f (j3 s st1)=.err en pl):qa8 s f l st=.err en pl:=by unfold qa8;rw [if_pos hk,h];simp only [if_pos k5,h2]
theorem betR_ok {s:ByteArray} {f:St→Res} {l lo hi:Ast} {st st1 st2:St} (hk:st.tk.kind=10) (h:f (j3 s st)=.ok lo st1) (k5:st1.tk.kind=5) (h2:f (j3 s st1)=.ok hi st2):qa8 s f l st=.ok (.tri ⟨20,st.place,0,[],[],[]⟩ l lo hi) st2:=by unfold qa8;rw [if_pos hk,h];simp only [if_pos k5,h2]
theorem btail {W:World} {rb L g:Nat} {ty:TypeId} {cs:Array Value} {i0:Nat} (hlt:rb<W.heap.size) (hv:VN W rb L ty cs) (hg:W.cell? ⟨g,0,none⟩=some (.int .i64 i0)) (how:∀k,qy2 W rb k→k<W.heap.size) (a b:Nat) :
  ∃g1 cap1 w6 g2 cap2 w7,(jg0 #[52,52] 52 #[.slice (some ⟨g,0,none⟩) 1 1,.slice (some ⟨W.heap.size,0,none⟩) 1 1]).run Tryz.prog (W.alloc (.cells #[.int .i64 a] 3))=.ok (.slice (some ⟨g1,0,none⟩) 2 cap1) w6 ∧
   (jg0 #[52,52] 52 #[.slice (some ⟨g1,0,none⟩) 2 cap1,.slice (some ⟨w6.heap.size,0,none⟩) 1 1]).run Tryz.prog ((w6.setCell ⟨L,2,none⟩ (.slice (some ⟨g1,0,none⟩) 2 cap1)).alloc (.cells #[.int .i64 b] 3))=.ok (.slice (some ⟨g2,0,none⟩) 3 cap2) w7 ∧
   (∀i,w6.cell? ⟨L,i,none⟩=cs[i]?)∧(∀i,w6.frozen? ⟨L,i,none⟩=false)∧(∀i,w7.cell? ⟨L,i,none⟩=(cs.setIfInBounds 2 (.slice (some ⟨g1,0,none⟩) 2 cap1))[i]?)∧(∀i,w7.frozen? ⟨L,i,none⟩=false) ∧
   Hid (But L W (w7.setCell ⟨L,2,none⟩ (.slice (some ⟨g2,0,none⟩) 3 cap2)))∧Hid (RowOf (w7.setCell ⟨L,2,none⟩ (.slice (some ⟨g2,0,none⟩) 3 cap2)) rb 3 (.slice (some ⟨g2,0,none⟩) 3 cap2) (qy3 [i0,a,b])):=by
 have hL:=hv.lt
 have hp:=hv.past
 obtain ⟨g1,cap1,w6,hap1,HO1,HB1⟩:=app_int1 hg a
 have hb6:But L W w6:=(But.refl L W).below (q9 HB1)
 have hz6:=hb6.size
 have hv6:VN w6 rb L ty cs:=⟨((q9 HB1).block L hL).trans hv.blk,hp,hb6.no hv hlt⟩
 have hO1:(w6.setCell ⟨L,2,none⟩ (.slice (some ⟨g1,0,none⟩) 2 cap1)).ownsRow W.heap.size 3 1 (.slice (some ⟨g1,0,none⟩) 2 cap1) 2 [.int .i64 i0,.int .i64 a]:=ownsRow_setCell_below (q9 HO1) (by show L<_;omega) _
 have hv6':=hv6.set 2 (.slice (some ⟨g1,0,none⟩) 2 cap1)
 obtain ⟨g2,cap2,w7,hap2,HO2,HG2,hBg⟩:=app_int2 hO1 (by simp;omega) b
 rw [size_setCell] at hap2
 have hb7:But L W w7:=(hb6.set 2 (.slice (some ⟨g1,0,none⟩) 2 cap1)).grown (q9 HG2) (fun g' e=>by have:=Option.some.inj e;omega)
 have hg1:g1≠L:=by omega
 have hv7:VN w7 rb L ty (cs.setIfInBounds 2 (.slice (some ⟨g1,0,none⟩) 2 cap1)):=⟨((q9 HG2).block L (by simp;omega) (fun e=>hg1 (Option.some.inj e).symm)).trans hv6'.blk,hp,hb7.no hv hlt⟩
 have hb8:=hb7.set 2 (.slice (some ⟨g2,0,none⟩) 3 cap2)
 have hO2:(w7.setCell ⟨L,2,none⟩ (.slice (some ⟨g2,0,none⟩) 3 cap2)).ownsRow W.heap.size 3 1 (.slice (some ⟨g2,0,none⟩) 3 cap2) 3 [.int .i64 i0,.int .i64 a,.int .i64 b]:=ownsRow_setCell_below (q9 HO2) (by show L<_;omega) _
 refine ⟨g1,cap1,w6,g2,cap2,w7,hap1,hap2,hv6.cell,hv6.frz,hv7.cell,hv7.frz,j4 hb8,j4 (own_row hO2 hlt fun ho=>?_)⟩
 have:=how g2 ((hb8.own hlt (by omega) g2).1 ho)
 have:=(hO2.lt g2 rfl).1
 omega
theorem vc2 (rb:Nat) (s:ByteArray) (hs:s.size≤200) (op m:Nat) (hm:200≤m) (hm':m≤900) (f:St→Res) (hf:RReads 320 rb s op m f) (eS:qn9 320 rb s) (w:World) (st:St) (ns new:List RN) (j:Nat) (l:Ast) (h:RT w rb s (ns++new) j st) (ho:st.op=op) (hk:st.tk.kind=10) (hfl:Flat l ns.length new) (i0:Nat) (hi0:i0=ns.length+new.length - 1) (g:Nat) (hg:VN w rb g 3 #[.int .i64 i0]) (neg:Bool) (pl0:Int) :
  Calls Tryz.prog 323 #[.pointer (some ⟨rb,0,none⟩),.agg #[.string ⟨#[]⟩,.int .i64 st.place,.slice (some ⟨g,0,none⟩) 1 1,.string ⟨#[]⟩,.string ⟨#[]⟩,.slice none 0 0,.int .i64 0,.bool neg,.int .i64 0]] w (REnds rb s w op (m+1) ns j st.place (negR neg pl0 (qa8 s f l st))):=by
 have hlt:=h.lt
 have n0:¬w.heap.size=rb:=by omega
 have n1:¬rb=w.heap.size:=by omega
 have hglt:=hg.lt
 have hV0:VN (w.alloc (.cells #[.string ⟨#[66,69,84,87,69,69,78]⟩,.int .i64 st.place,.slice (some ⟨g,0,none⟩) 1 1,.string ⟨#[]⟩,.string ⟨#[]⟩,.slice none 0 0,.int .i64 0,.bool neg,.int .i64 0] 241)) rb w.heap.size 241 #[.string ⟨#[66,69,84,87,69,69,78]⟩,.int .i64 st.place,.slice (some ⟨g,0,none⟩) 1 1,.string ⟨#[]⟩,.string ⟨#[]⟩,.slice none 0 0,.int .i64 0,.bool neg,.int .i64 0]:=VN.new h _ _ rfl
 have hK0:TKept rb w (w.alloc (.cells #[.string ⟨#[66,69,84,87,69,69,78]⟩,.int .i64 st.place,.slice (some ⟨g,0,none⟩) 1 1,.string ⟨#[]⟩,.string ⟨#[]⟩,.slice none 0 0,.int .i64 0,.bool neg,.int .i64 0] 241)):=(TKept.refl rb w).alloc hlt _
 have h0:RT (w.alloc (.cells #[.string ⟨#[66,69,84,87,69,69,78]⟩,.int .i64 st.place,.slice (some ⟨g,0,none⟩) 1 1,.string ⟨#[]⟩,.string ⟨#[]⟩,.slice none 0 0,.int .i64 0,.bool neg,.int .i64 0] 241)) rb s (ns++new) j st:=h.alloc _
 have hG0:VN (w.alloc (.cells #[.string ⟨#[66,69,84,87,69,69,78]⟩,.int .i64 st.place,.slice (some ⟨g,0,none⟩) 1 1,.string ⟨#[]⟩,.string ⟨#[]⟩,.slice none 0 0,.int .i64 0,.bool neg,.int .i64 0] 241)) rb g 3 #[.int .i64 i0]:=hg.alloc hlt _
 have hpl:=h.fine.step_place (by omega)
 have H0:=j4 h0
 have HK0:=j4 hK0
 have HV0:=j4 hV0
 have HG0:=j4 hG0
 have HF:=j4 hf
 have ES:=j4 eS
 have HFL:=j4 hfl
 have HI0:=j4 hi0
 clear h hK0 h0 hV0 hG0 hg hf eS hfl hi0
 cases hf1:f (j3 s st) with
 | err en pl=>
  rw [betR_e1 hk hf1]
  have HF1:=j4 hf1
  clear hf1
  go_enter Tryz.func323,Tryz.ntmps323
  go_wp2_with (first|(go_at_call 172;refine (qa6 (q9 H0) hs (by omega) (by omega)).mono ?_;rintro e w1 ⟨rfl,hk1,hr1⟩;have HV1:=j4 ((q9 HV0).kept hk1);have HG1:=j4 ((q9 HG0).kept hk1);have HK1:=j4 ((q9 HK0).trans hk1);have HR1:=j4 hr1;clear hk1 hr1)|(go_at_call 320;refine (q9 HF w1 (j3 s st) (ns++new) (j+1) (q9 HR1) ho).mono ?_;rintro e w2 ⟨hk2,h2⟩;rw [q9 HF1] at h2;obtain ⟨a,rfl,hr2⟩:=h2;have HV2:=j4 ((q9 HV1).kept hk2);have HG2:=j4 ((q9 HG1).kept hk2);have HK2:=j4 ((q9 HK1).trans hk2);have HR2:=j4 hr2;clear hk2 hr2)|(go_at_call 343;refine (vp7 (q9 HR2) (by decide)).mono ?_;rintro e w3 ⟨rfl,hk3,hr3⟩;have HV3:=j4 ((q9 HV2).kept hk3);have HG3:=j4 ((q9 HG2).kept hk3);have HK3:=j4 ((q9 HK2).trans hk3);have HR3:=j4 hr3;clear hk3 hr3)|(go_at_call 320;refine (q9 ES w3 _ _ _ _ (q9 HR3)).mono ?_;rintro e w4 ⟨b,rfl,hk4,hr4⟩;have HV4:=j4 ((q9 HV3).kept hk4);have HG4:=j4 ((q9 HG3).kept hk4);have HK4:=j4 ((q9 HK3).trans hk4);have HR4:=j4 hr4;clear hk4 hr4;obtain ⟨g1,cap1,w6,g2,cap2,w7,hap1,hap2,x6,z6,x7,z7,HB8,HRW⟩:=btail (q9 HR4).lt (q9 HV4) ((q9 HG4).cell 0) (q9 HR4).own_lt a b;have p2:w4.cell? ⟨w.heap.size,2,none⟩=some (.slice (some ⟨g,0,none⟩) 1 1):=(q9 HV4).cell 2;have q2:w6.cell? ⟨w.heap.size,2,none⟩=some (.slice (some ⟨g,0,none⟩) 1 1):=x6 2;have r0:w7.cell? ⟨w.heap.size,0,none⟩=some (.string ⟨#[66,69,84,87,69,69,78]⟩):=x7 0;have r1:w7.cell? ⟨w.heap.size,1,none⟩=some (.int .i64 st.place):=x7 1;have r2:w7.cell? ⟨w.heap.size,2,none⟩=some (.slice (some ⟨g1,0,none⟩) 2 cap1):=x7 2;have r3:w7.cell? ⟨w.heap.size,3,none⟩=some (.string ⟨#[]⟩):=x7 3;have r4:w7.cell? ⟨w.heap.size,4,none⟩=some (.string ⟨#[]⟩):=x7 4;have r5:w7.cell? ⟨w.heap.size,5,none⟩=some (.slice none 0 0):=x7 5;have r6:w7.cell? ⟨w.heap.size,6,none⟩=some (.int .i64 0):=x7 6;have r7:w7.cell? ⟨w.heap.size,7,none⟩=some (.bool neg):=x7 7;have r8:w7.cell? ⟨w.heap.size,8,none⟩=some (.int .i64 0):=x7 8;clear x6 x7)|(go_at_call 216;refine (vb4 ((q9 HB8).re (q9 HV4) (by decide) (by decide) (q9 HR4)) (by omega) [i0,a,b] [] neg (q9 HRW) (RowOf.no _ _ _)).mono ?_;rintro e w9 ⟨i9,rfl,hk9,hr9⟩;have HK9:=j4 (((q9 HK4).but (q9 HB8) hlt (Nat.le_refl _)).trans hk9);have HR9:=j4 hr9;clear hk9 hr9))
  go_ret
  exact ⟨q9 HK9,i9,rfl,(q9 HR9).more (by omega)⟩
 | ok lo st1=>
  have HF1:=j4 hf1
  by_cases k5:st1.tk.kind=5
  ·cases hf2:f (j3 s st1) with
   | err en pl=>
    rw [betR_e3 hk hf1 k5 hf2]
    clear hf1
    have HF2:=j4 hf2
    clear hf2
    go_enter Tryz.func323,Tryz.ntmps323
    go_wp2_with (first|(go_at_call 172;refine (qa6 (q9 H0) hs (by omega) (by omega)).mono ?_;rintro e w1 ⟨rfl,hk1,hr1⟩;have HV1:=j4 ((q9 HV0).kept hk1);have HG1:=j4 ((q9 HG0).kept hk1);have HK1:=j4 ((q9 HK0).trans hk1);have HR1:=j4 hr1;clear hk1 hr1)|(go_at_call 320;refine (q9 HF w3 (j3 s st1) (ns++new++new1) (j+1+1) (q9 HR3) ho2).mono ?_;rintro e w4 ⟨hk4,h4⟩;rw [q9 HF2] at h4;obtain ⟨b,rfl,hr4⟩:=h4;have HV4:=j4 ((q9 HV3).kept hk4);have HG4:=j4 ((q9 HG3).kept hk4);have HK4:=j4 ((q9 HK3).trans hk4);have HR4:=j4 hr4;clear hk4 hr4;obtain ⟨g1,cap1,w6,g2,cap2,w7,hap1,hap2,x6,z6,x7,z7,HB8,HRW⟩:=btail (q9 HR4).lt (q9 HV4) ((q9 HG4).cell 0) (q9 HR4).own_lt a b;have p2:w4.cell? ⟨w.heap.size,2,none⟩=some (.slice (some ⟨g,0,none⟩) 1 1):=(q9 HV4).cell 2;have q2:w6.cell? ⟨w.heap.size,2,none⟩=some (.slice (some ⟨g,0,none⟩) 1 1):=x6 2;have r0:w7.cell? ⟨w.heap.size,0,none⟩=some (.string ⟨#[66,69,84,87,69,69,78]⟩):=x7 0;have r1:w7.cell? ⟨w.heap.size,1,none⟩=some (.int .i64 st.place):=x7 1;have r2:w7.cell? ⟨w.heap.size,2,none⟩=some (.slice (some ⟨g1,0,none⟩) 2 cap1):=x7 2;have r3:w7.cell? ⟨w.heap.size,3,none⟩=some (.string ⟨#[]⟩):=x7 3;have r4:w7.cell? ⟨w.heap.size,4,none⟩=some (.string ⟨#[]⟩):=x7 4;have r5:w7.cell? ⟨w.heap.size,5,none⟩=some (.slice none 0 0):=x7 5;have r6:w7.cell? ⟨w.heap.size,6,none⟩=some (.int .i64 0):=x7 6;have r7:w7.cell? ⟨w.heap.size,7,none⟩=some (.bool neg):=x7 7;have r8:w7.cell? ⟨w.heap.size,8,none⟩=some (.int .i64 0):=x7 8;clear x6 x7)|(go_at_call 320;refine (q9 HF w1 (j3 s st) (ns++new) (j+1) (q9 HR1) ho).mono ?_;rintro e w2 ⟨hk2,h2⟩;rw [q9 HF1] at h2;obtain ⟨new1,he,hr2,ho2,hp2,hfl1⟩:=h2;obtain ⟨a,ha⟩:∃k:Nat,(ns++new).length+new1.length - 1=k:=⟨_,rfl⟩;rw [ha] at he;subst he;have Ha:=j4 ha;clear ha;have HFL1:=j4 hfl1;clear hfl1;have HV2:=j4 ((q9 HV1).kept hk2);have HG2:=j4 ((q9 HG1).kept hk2);have HK2:=j4 ((q9 HK1).trans hk2);have HR2:=j4 hr2;clear hk2 hr2)|(go_at_call 343;refine (qz4 (q9 HR2) hs 5 rfl (by decide) (by decide) rfl k5).mono ?_;rintro e w3 ⟨rfl,hk3,hr3⟩;have HV3:=j4 ((q9 HV2).kept hk3);have HG3:=j4 ((q9 HG2).kept hk3);have HK3:=j4 ((q9 HK2).trans hk3);have HR3:=j4 hr3;clear hk3 hr3)|(go_at_call 216;refine (vb4 ((q9 HB8).re (q9 HV4) (by decide) (by decide) (q9 HR4)) (by omega) [i0,a,b] [] neg (q9 HRW) (RowOf.no _ _ _)).mono ?_;rintro e w9 ⟨i9,rfl,hk9,hr9⟩;have HK9:=j4 (((q9 HK4).but (q9 HB8) hlt (Nat.le_refl _)).trans hk9);have HR9:=j4 hr9;clear hk9 hr9))
    go_ret
    exact ⟨q9 HK9,i9,rfl,(q9 HR9).more (by omega)⟩
   | ok hi st2=>
    rw [betR_ok hk hf1 k5 hf2]
    clear hf1
    have HF2:=j4 hf2
    clear hf2
    go_enter Tryz.func323,Tryz.ntmps323
    go_wp2_with (first|(go_at_call 172;refine (qa6 (q9 H0) hs (by omega) (by omega)).mono ?_;rintro e w1 ⟨rfl,hk1,hr1⟩;have HV1:=j4 ((q9 HV0).kept hk1);have HG1:=j4 ((q9 HG0).kept hk1);have HK1:=j4 ((q9 HK0).trans hk1);have HR1:=j4 hr1;clear hk1 hr1)|(go_at_call 320;refine (q9 HF w3 (j3 s st1) (ns++new++new1) (j+1+1) (q9 HR3) ho2).mono ?_;rintro e w4 ⟨hk4,h4⟩;rw [q9 HF2] at h4;obtain ⟨new2,he,hr4,ho4,hp4,hfl2⟩:=h4;obtain ⟨b,hb⟩:∃k:Nat,(ns++new++new1).length+new2.length - 1=k:=⟨_,rfl⟩;rw [hb] at he;subst he;have Hb:=j4 hb;clear hb;have HFL2:=j4 hfl2;clear hfl2;have HV4:=j4 ((q9 HV3).kept hk4);have HG4:=j4 ((q9 HG3).kept hk4);have HK4:=j4 ((q9 HK3).trans hk4);have HR4:=j4 hr4;clear hk4 hr4;obtain ⟨g1,cap1,w6,g2,cap2,w7,hap1,hap2,x6,z6,x7,z7,HB8,HRW⟩:=btail (q9 HR4).lt (q9 HV4) ((q9 HG4).cell 0) (q9 HR4).own_lt a b;have p2:w4.cell? ⟨w.heap.size,2,none⟩=some (.slice (some ⟨g,0,none⟩) 1 1):=(q9 HV4).cell 2;have q2:w6.cell? ⟨w.heap.size,2,none⟩=some (.slice (some ⟨g,0,none⟩) 1 1):=x6 2;have r0:w7.cell? ⟨w.heap.size,0,none⟩=some (.string ⟨#[66,69,84,87,69,69,78]⟩):=x7 0;have r1:w7.cell? ⟨w.heap.size,1,none⟩=some (.int .i64 st.place):=x7 1;have r2:w7.cell? ⟨w.heap.size,2,none⟩=some (.slice (some ⟨g1,0,none⟩) 2 cap1):=x7 2;have r3:w7.cell? ⟨w.heap.size,3,none⟩=some (.string ⟨#[]⟩):=x7 3;have r4:w7.cell? ⟨w.heap.size,4,none⟩=some (.string ⟨#[]⟩):=x7 4;have r5:w7.cell? ⟨w.heap.size,5,none⟩=some (.slice none 0 0):=x7 5;have r6:w7.cell? ⟨w.heap.size,6,none⟩=some (.int .i64 0):=x7 6;have r7:w7.cell? ⟨w.heap.size,7,none⟩=some (.bool neg):=x7 7;have r8:w7.cell? ⟨w.heap.size,8,none⟩=some (.int .i64 0):=x7 8;clear x6 x7)|(go_at_call 320;refine (q9 HF w1 (j3 s st) (ns++new) (j+1) (q9 HR1) ho).mono ?_;rintro e w2 ⟨hk2,h2⟩;rw [q9 HF1] at h2;obtain ⟨new1,he,hr2,ho2,hp2,hfl1⟩:=h2;obtain ⟨a,ha⟩:∃k:Nat,(ns++new).length+new1.length - 1=k:=⟨_,rfl⟩;rw [ha] at he;subst he;have Ha:=j4 ha;clear ha;have HFA:=j4 hr2.fine;have HFL1:=j4 hfl1;clear hfl1;have HV2:=j4 ((q9 HV1).kept hk2);have HG2:=j4 ((q9 HG1).kept hk2);have HK2:=j4 ((q9 HK1).trans hk2);have HR2:=j4 hr2;clear hk2 hr2)|(go_at_call 343;refine (qz4 (q9 HR2) hs 5 rfl (by decide) (by decide) rfl k5).mono ?_;rintro e w3 ⟨rfl,hk3,hr3⟩;have HV3:=j4 ((q9 HV2).kept hk3);have HG3:=j4 ((q9 HG2).kept hk3);have HK3:=j4 ((q9 HK2).trans hk3);have HR3:=j4 hr3;clear hk3 hr3)|(go_at_call 216;refine (vu3 ((q9 HB8).rt (q9 HV4) (by decide) (by decide) (q9 HR4)) hs ⟨20,st.place,0,[],[],[]⟩ rfl [i0,a,b] neg rfl rfl rfl (q9 HRW) (RowOf.no _ _ _)).mono ?_;rintro e w9 ⟨rfl,hk9,hr9⟩;have HK9:=j4 (((q9 HK4).but (q9 HB8) hlt (Nat.le_refl _)).trans hk9);have HR9:=j4 hr9;clear hk9 hr9))
    go_ret
    refine ⟨q9 HK9,new++new1++new2++[qj5 ⟨20,st.place,0,[],[],[]⟩ [ns.length+new.length - 1,ns.length+new.length+new1.length - 1,ns.length+new.length+new1.length+new2.length - 1] neg],qg5 (by simp;omega), ?_,ho4, ?_, ?_⟩
    ·have:=q9 HR9
     rw [q9 HI0,←q9 Ha,←q9 Hb] at this
     simp only [List.length_append] at this
     have:=this.less (j':=j) (by omega)
     simpa only [List.append_assoc] using this
    ·have e1:=qf8 s st1
     have e2:=(q9 HFA).long (by omega)
     omega
    ·have f1:=q9 HFL1
     have f2:=q9 HFL2
     rw [List.length_append] at f1
     rw [List.length_append,List.length_append] at f2
     cases neg with
     | false=>exact Flat.tri _ (q9 HFL) f1 f2
     | true=>exact Flat.neg3 _ _ rfl (q9 HFL) f1 f2
  ·rw [betR_e2 hk hf1 k5]
   clear hf1
   go_enter Tryz.func323,Tryz.ntmps323
   go_wp2_with (first|(go_at_call 172;refine (qa6 (q9 H0) hs (by omega) (by omega)).mono ?_;rintro e w1 ⟨rfl,hk1,hr1⟩;have HV1:=j4 ((q9 HV0).kept hk1);have HG1:=j4 ((q9 HG0).kept hk1);have HK1:=j4 ((q9 HK0).trans hk1);have HR1:=j4 hr1;clear hk1 hr1)|(go_at_call 320;refine (q9 ES w3 _ _ _ _ (q9 HR3)).mono ?_;rintro e w4 ⟨b,rfl,hk4,hr4⟩;have HV4:=j4 ((q9 HV3).kept hk4);have HG4:=j4 ((q9 HG3).kept hk4);have HK4:=j4 ((q9 HK3).trans hk4);have HR4:=j4 hr4;clear hk4 hr4;obtain ⟨g1,cap1,w6,g2,cap2,w7,hap1,hap2,x6,z6,x7,z7,HB8,HRW⟩:=btail (q9 HR4).lt (q9 HV4) ((q9 HG4).cell 0) (q9 HR4).own_lt a b;have p2:w4.cell? ⟨w.heap.size,2,none⟩=some (.slice (some ⟨g,0,none⟩) 1 1):=(q9 HV4).cell 2;have q2:w6.cell? ⟨w.heap.size,2,none⟩=some (.slice (some ⟨g,0,none⟩) 1 1):=x6 2;have r0:w7.cell? ⟨w.heap.size,0,none⟩=some (.string ⟨#[66,69,84,87,69,69,78]⟩):=x7 0;have r1:w7.cell? ⟨w.heap.size,1,none⟩=some (.int .i64 st.place):=x7 1;have r2:w7.cell? ⟨w.heap.size,2,none⟩=some (.slice (some ⟨g1,0,none⟩) 2 cap1):=x7 2;have r3:w7.cell? ⟨w.heap.size,3,none⟩=some (.string ⟨#[]⟩):=x7 3;have r4:w7.cell? ⟨w.heap.size,4,none⟩=some (.string ⟨#[]⟩):=x7 4;have r5:w7.cell? ⟨w.heap.size,5,none⟩=some (.slice none 0 0):=x7 5;have r6:w7.cell? ⟨w.heap.size,6,none⟩=some (.int .i64 0):=x7 6;have r7:w7.cell? ⟨w.heap.size,7,none⟩=some (.bool neg):=x7 7;have r8:w7.cell? ⟨w.heap.size,8,none⟩=some (.int .i64 0):=x7 8;clear x6 x7)|(go_at_call 320;refine (q9 HF w1 (j3 s st) (ns++new) (j+1) (q9 HR1) ho).mono ?_;rintro e w2 ⟨hk2,h2⟩;rw [q9 HF1] at h2;obtain ⟨new1,he,hr2,ho2,hp2,hfl1⟩:=h2;obtain ⟨a,ha⟩:∃k:Nat,(ns++new).length+new1.length - 1=k:=⟨_,rfl⟩;rw [ha] at he;subst he;have Ha:=j4 ha;clear ha;have HFL1:=j4 hfl1;clear hfl1;have HV2:=j4 ((q9 HV1).kept hk2);have HG2:=j4 ((q9 HG1).kept hk2);have HK2:=j4 ((q9 HK1).trans hk2);have HR2:=j4 hr2;clear hk2 hr2)|(go_at_call 343;refine (qt0 (q9 HR2) hs 5 rfl (by decide) (by decide) rfl k5).mono ?_;rintro e w3 ⟨rfl,hk3,hr3⟩;have HV3:=j4 ((q9 HV2).kept hk3);have HG3:=j4 ((q9 HG2).kept hk3);have HK3:=j4 ((q9 HK2).trans hk3);have HR3:=j4 hr3;clear hk3 hr3)|(go_at_call 216;refine (vb4 ((q9 HB8).re (q9 HV4) (by decide) (by decide) (q9 HR4)) (by omega) [i0,a,b] [] neg (q9 HRW) (RowOf.no _ _ _)).mono ?_;rintro e w9 ⟨i9,rfl,hk9,hr9⟩;have HK9:=j4 (((q9 HK4).but (q9 HB8) hlt (Nat.le_refl _)).trans hk9);have HR9:=j4 hr9;clear hk9 hr9))
   go_ret
   exact ⟨q9 HK9,i9,rfl,ho2 ▸ (q9 HR9).more (by omega)⟩
end
section
theorem TrC.other {w:World} {rb:Nat} {nv:Value} {s:ByteArray} {k a z:Int} {S:ByteArray} {n op er at':Int} (h:TrC w rb nv s k a z S n op er at') {b:Nat} (hb:¬b=rb) (i:Nat) (u:Value):TrC (w.setCell ⟨b,i,none⟩ u) rb nv s k a z S n op er at':=
 ((But.refl b w).set i u).tr (fun e=>hb e.symm) h
section
variable {w:World} {rb:Nat} {nv:Value} {s:ByteArray} {k a z:Int} {p:Nat} {S:ByteArray} {n op er at':Int}
theorem vu2 (h:TrC w rb nv s 4 a p S n op 0 at') (hs:s.size≤200) (hp:p≤s.size) {k' a' z':Int} {S':ByteArray} {n':Int} (hT:NextIs s p k' a' z' S' n') :
  Calls Tryz.prog 344 #[.pointer (some ⟨rb,0,none⟩)] w fun e w'=>e=.returned (.agg #[.int .i64 4,.int .i64 a,.int .i64 p,.string S,.int .i64 n])∧TrC w' rb nv s k' a' z' S' n' op 0 at'∧Kept rb w w':=by
 have n0:¬w.heap.size=rb:=by have:=h.lt;omega
 have n1:¬rb=w.heap.size:=by have:=h.lt;omega
 have n2:¬w.heap.size+1=rb:=by have:=h.lt;omega
 have n3:¬rb=w.heap.size+1:=by have:=h.lt;omega
 have ST:=j4 (qr0 (w:=((w.alloc (.cells #[.int .i64 0,.int .i64 0,.int .i64 0,.string ⟨#[]⟩,.int .i64 0] 235)).alloc (.cells #[.int .i64 4,.int .i64 a,.int .i64 p,.string S,.int .i64 n] 235))) ((h.alloc _).alloc _) hs hp hT)
 obtain ⟨lt,c0,c1,c2,c3,c4,c5,c6,c7,c8,c9,fz⟩:=h
 clear hT
 go_enter Tryz.func344,Tryz.ntmps344
 go_wp2_with (go_at_call 172;refine (q9 ST).mono ?_;rintro e w1 ⟨rfl,ht1,hk1⟩;obtain ⟨hc,hf⟩:=qc2 hk1;have p0:w1.cell? ⟨w.heap.size+1,0,none⟩=some (.int .i64 4):=(hc _ 0 (by simp) n2).trans (by simp);have p1:w1.cell? ⟨w.heap.size+1,1,none⟩=some (.int .i64 a):=(hc _ 1 (by simp) n2).trans (by simp);have p2:w1.cell? ⟨w.heap.size+1,2,none⟩=some (.int .i64 p):=(hc _ 2 (by simp) n2).trans (by simp);have p3:w1.cell? ⟨w.heap.size+1,3,none⟩=some (.string S):=(hc _ 3 (by simp) n2).trans (by simp);have p4:w1.cell? ⟨w.heap.size+1,4,none⟩=some (.int .i64 n):=(hc _ 4 (by simp) n2).trans (by simp);have r0:w1.cell? ⟨w.heap.size,0,none⟩=some (.int .i64 0):=(hc _ 0 (by simp;omega) n0).trans (by simp);have r1:w1.cell? ⟨w.heap.size,1,none⟩=some (.int .i64 0):=(hc _ 1 (by simp;omega) n0).trans (by simp);have r2:w1.cell? ⟨w.heap.size,2,none⟩=some (.int .i64 0):=(hc _ 2 (by simp;omega) n0).trans (by simp);have r3:w1.cell? ⟨w.heap.size,3,none⟩=some (.string ⟨#[]⟩):=(hc _ 3 (by simp;omega) n0).trans (by simp);have r4:w1.cell? ⟨w.heap.size,4,none⟩=some (.int .i64 0):=(hc _ 4 (by simp;omega) n0).trans (by simp);have rz:∀i,w1.frozen? ⟨w.heap.size,i,none⟩=false:=fun i=>(hf _ i (by simp;omega) n0).trans (by simp);have HK1:=j4 ((((Kept.refl rb w).alloc _).alloc _).trans hk1);have HT1:=j4 ht1;clear hk1 ht1 hc hf)
 all_goals go_wp2_with fail
 refine bodyPost_ret (by simp [results,Tryz.results344,go_sem,r0,r1,r2,r3,r4]) rfl ⟨rfl,(((((q9 HT1).other (b:=w.heap.size) n0 0 _).other n0 1 _).other n0 2 _).other n0 3 _).other n0 4 _,(((((q9 HK1).far (p:=⟨w.heap.size,0,none⟩) (Nat.le_refl _) _).far (p:=⟨w.heap.size,1,none⟩) (Nat.le_refl _) _).far (p:=⟨w.heap.size,2,none⟩) (Nat.le_refl _) _).far (p:=⟨w.heap.size,3,none⟩) (Nat.le_refl _) _).far (p:=⟨w.heap.size,4,none⟩) (Nat.le_refl _) _⟩
theorem vu1 (h:TrC w rb nv s k a z S n op 0 at') (hk:k≠4) :
  Calls Tryz.prog 344 #[.pointer (some ⟨rb,0,none⟩)] w fun e w'=>e=.returned (.agg #[.int .i64 k,.int .i64 a,.int .i64 z,.string S,.int .i64 n])∧TrC w' rb nv s 1 a 0 ⟨#[]⟩ 0 op 2 a∧Kept rb w w':=by
 have n0:¬w.heap.size=rb:=by have:=h.lt;omega
 have n1:¬rb=w.heap.size:=by have:=h.lt;omega
 have n2:¬w.heap.size+1=rb:=by have:=h.lt;omega
 have n3:¬rb=w.heap.size+1:=by have:=h.lt;omega
 have FL:=j4 (qs9 (w:=((w.alloc (.cells #[.int .i64 0,.int .i64 0,.int .i64 0,.string ⟨#[]⟩,.int .i64 0] 235)).alloc (.cells #[.int .i64 k,.int .i64 a,.int .i64 z,.string S,.int .i64 n] 235))) ((h.alloc _).alloc _) 2 a)
 obtain ⟨lt,c0,c1,c2,c3,c4,c5,c6,c7,c8,c9,fz⟩:=h
 go_enter Tryz.func344,Tryz.ntmps344
 go_wp2_with (go_at_call 174;refine (q9 FL).mono ?_;rintro e w1 ⟨rfl,ht1,hk1⟩;obtain ⟨hc,hf⟩:=qc2 hk1;have p0:w1.cell? ⟨w.heap.size+1,0,none⟩=some (.int .i64 k):=(hc _ 0 (by simp) n2).trans (by simp);have p1:w1.cell? ⟨w.heap.size+1,1,none⟩=some (.int .i64 a):=(hc _ 1 (by simp) n2).trans (by simp);have p2:w1.cell? ⟨w.heap.size+1,2,none⟩=some (.int .i64 z):=(hc _ 2 (by simp) n2).trans (by simp);have p3:w1.cell? ⟨w.heap.size+1,3,none⟩=some (.string S):=(hc _ 3 (by simp) n2).trans (by simp);have p4:w1.cell? ⟨w.heap.size+1,4,none⟩=some (.int .i64 n):=(hc _ 4 (by simp) n2).trans (by simp);have r0:w1.cell? ⟨w.heap.size,0,none⟩=some (.int .i64 0):=(hc _ 0 (by simp;omega) n0).trans (by simp);have r1:w1.cell? ⟨w.heap.size,1,none⟩=some (.int .i64 0):=(hc _ 1 (by simp;omega) n0).trans (by simp);have r2:w1.cell? ⟨w.heap.size,2,none⟩=some (.int .i64 0):=(hc _ 2 (by simp;omega) n0).trans (by simp);have r3:w1.cell? ⟨w.heap.size,3,none⟩=some (.string ⟨#[]⟩):=(hc _ 3 (by simp;omega) n0).trans (by simp);have r4:w1.cell? ⟨w.heap.size,4,none⟩=some (.int .i64 0):=(hc _ 4 (by simp;omega) n0).trans (by simp);have rz:∀i,w1.frozen? ⟨w.heap.size,i,none⟩=false:=fun i=>(hf _ i (by simp;omega) n0).trans (by simp);have HK1:=j4 ((((Kept.refl rb w).alloc _).alloc _).trans hk1);have HT1:=j4 ht1;clear hk1 ht1 hc hf)
 all_goals go_wp2_with fail
 refine bodyPost_ret (by simp [results,Tryz.results344,go_sem,r0,r1,r2,r3,r4]) rfl ⟨rfl,(((((q9 HT1).other (b:=w.heap.size) n0 0 _).other n0 1 _).other n0 2 _).other n0 3 _).other n0 4 _,(((((q9 HK1).far (p:=⟨w.heap.size,0,none⟩) (Nat.le_refl _) _).far (p:=⟨w.heap.size,1,none⟩) (Nat.le_refl _) _).far (p:=⟨w.heap.size,2,none⟩) (Nat.le_refl _) _).far (p:=⟨w.heap.size,3,none⟩) (Nat.le_refl _) _).far (p:=⟨w.heap.size,4,none⟩) (Nat.le_refl _) _⟩
theorem jj3 (h:TrC w rb nv s 1 a z S n op er at') (he:er≠0) :
  Calls Tryz.prog 344 #[.pointer (some ⟨rb,0,none⟩)] w fun e w'=>e=.returned (.agg #[.int .i64 1,.int .i64 a,.int .i64 z,.string S,.int .i64 n])∧TrC w' rb nv s 1 a 0 ⟨#[]⟩ 0 op er at'∧Kept rb w w':=by
 have n0:¬w.heap.size=rb:=by have:=h.lt;omega
 have n1:¬rb=w.heap.size:=by have:=h.lt;omega
 have n2:¬w.heap.size+1=rb:=by have:=h.lt;omega
 have n3:¬rb=w.heap.size+1:=by have:=h.lt;omega
 have FL:=j4 (vh2 (w:=((w.alloc (.cells #[.int .i64 0,.int .i64 0,.int .i64 0,.string ⟨#[]⟩,.int .i64 0] 235)).alloc (.cells #[.int .i64 1,.int .i64 a,.int .i64 z,.string S,.int .i64 n] 235))) ((h.alloc _).alloc _) he 2 a)
 obtain ⟨lt,c0,c1,c2,c3,c4,c5,c6,c7,c8,c9,fz⟩:=h
 clear he
 go_enter Tryz.func344,Tryz.ntmps344
 go_wp2_with (go_at_call 174;refine (q9 FL).mono ?_;rintro e w1 ⟨rfl,ht1,hk1⟩;obtain ⟨hc,hf⟩:=qc2 hk1;have p0:w1.cell? ⟨w.heap.size+1,0,none⟩=some (.int .i64 1):=(hc _ 0 (by simp) n2).trans (by simp);have p1:w1.cell? ⟨w.heap.size+1,1,none⟩=some (.int .i64 a):=(hc _ 1 (by simp) n2).trans (by simp);have p2:w1.cell? ⟨w.heap.size+1,2,none⟩=some (.int .i64 z):=(hc _ 2 (by simp) n2).trans (by simp);have p3:w1.cell? ⟨w.heap.size+1,3,none⟩=some (.string S):=(hc _ 3 (by simp) n2).trans (by simp);have p4:w1.cell? ⟨w.heap.size+1,4,none⟩=some (.int .i64 n):=(hc _ 4 (by simp) n2).trans (by simp);have r0:w1.cell? ⟨w.heap.size,0,none⟩=some (.int .i64 0):=(hc _ 0 (by simp;omega) n0).trans (by simp);have r1:w1.cell? ⟨w.heap.size,1,none⟩=some (.int .i64 0):=(hc _ 1 (by simp;omega) n0).trans (by simp);have r2:w1.cell? ⟨w.heap.size,2,none⟩=some (.int .i64 0):=(hc _ 2 (by simp;omega) n0).trans (by simp);have r3:w1.cell? ⟨w.heap.size,3,none⟩=some (.string ⟨#[]⟩):=(hc _ 3 (by simp;omega) n0).trans (by simp);have r4:w1.cell? ⟨w.heap.size,4,none⟩=some (.int .i64 0):=(hc _ 4 (by simp;omega) n0).trans (by simp);have rz:∀i,w1.frozen? ⟨w.heap.size,i,none⟩=false:=fun i=>(hf _ i (by simp;omega) n0).trans (by simp);have HK1:=j4 ((((Kept.refl rb w).alloc _).alloc _).trans hk1);have HT1:=j4 ht1;clear hk1 ht1 hc hf)
 all_goals go_wp2_with fail
 refine bodyPost_ret (by simp [results,Tryz.results344,go_sem,r0,r1,r2,r3,r4]) rfl ⟨rfl,(((((q9 HT1).other (b:=w.heap.size) n0 0 _).other n0 1 _).other n0 2 _).other n0 3 _).other n0 4 _,(((((q9 HK1).far (p:=⟨w.heap.size,0,none⟩) (Nat.le_refl _) _).far (p:=⟨w.heap.size,1,none⟩) (Nat.le_refl _) _).far (p:=⟨w.heap.size,2,none⟩) (Nat.le_refl _) _).far (p:=⟨w.heap.size,3,none⟩) (Nat.le_refl _) _).far (p:=⟨w.heap.size,4,none⟩) (Nat.le_refl _) _⟩
end
end
section
inductive PS where
 | st (x:St)
 | er (en pl:Int)
def AT (w:World) (rb:Nat) (nv:Value) (s:ByteArray) (op:Nat):PS→Prop
 | .st x=>TrC w rb nv s (rK x.tk.kind) x.place (tkZ x) (BS (tkS x)) (tkN x) op 0 0∧Fine s x∧x.op=op
 | .er en pl=>en≠0∧∃a,TrC w rb nv s 1 a 0 ⟨#[]⟩ 0 op en pl
def vt2 (s:ByteArray) (c:Int):PS→PS
 | .st x=>if x.tk.kind=c then .st (j3 s x) else .er 2 x.place
 | .er en pl=>.er en pl
def vq3 (s:ByteArray):PS→PS
 | .st x=>if x.tk.kind=4 then .st (j3 s x) else .er 2 x.place
 | .er en pl=>.er en pl
theorem vn1 {s:ByteArray} {c:Int} {y:St} (h:y.tk.kind=c):vt2 s c (.st y)=.st (j3 s y):=if_pos h
theorem vn0 {s:ByteArray} {c:Int} {y:St} (h:¬y.tk.kind=c):vt2 s c (.st y)=.er 2 y.place:=if_neg h
theorem ve7 {s:ByteArray} {y:St} (h:y.tk.kind=4):vq3 s (.st y)=.st (j3 s y):=if_pos h
theorem ve6 {s:ByteArray} {y:St} (h:¬y.tk.kind=4):vq3 s (.st y)=.er 2 y.place:=if_neg h
def strP:PS→ByteArray→Prop
 | .st x,S=>S=BS (tkS x)
 | .er _ _,_=>True
section
variable {w:World} {rb:Nat} {nv:Value} {s:ByteArray} {op:Nat} {x:PS}
theorem AT.lt (h:AT w rb nv s op x):rb<w.heap.size:=by
 cases x with
 | st x=>exact h.1.lt
 | er en pl=>obtain ⟨_,a,h⟩:=h;exact h.lt
theorem AT.c0 (h:AT w rb nv s op x):w.cell? ⟨rb,0,none⟩=some nv:=by
 cases x with
 | st x=>exact h.1.c0
 | er en pl=>obtain ⟨_,a,h⟩:=h;exact h.c0
theorem AT.tr {w':World} {L:Nat} (h:AT w rb nv s op x) (hb:But L w w') (hL:rb≠L):AT w' rb nv s op x:=by
 cases x with
 | st x=>exact ⟨hb.tr hL h.1,h.2⟩
 | er en pl=>obtain ⟨he,a,h⟩:=h;exact ⟨he,a,hb.tr hL h⟩
theorem tstep {y:St} (h:AT w rb nv s op (.st y)) (hs:s.size≤200) (h1:y.tk.kind≠1) :
  Calls Tryz.prog 172 #[.pointer (some ⟨rb,0,none⟩)] w fun e w'=>e=.returned (.tuple #[])∧Kept rb w w'∧AT w' rb nv s op (.st (j3 s y)):=by
 obtain ⟨hT,hF,ho⟩:=h
 rw [show tkZ y=(y.after:Int) by unfold tkZ;rw [if_neg h1]] at hT
 refine (qr0 hT hs hF.after (qr4 s y)).mono ?_
 rintro e w' ⟨rfl,hT',hK⟩
 exact ⟨rfl,hK,hT',qa7 s y hF.after,ho⟩
theorem tmust (h:AT w rb nv s op x) (hs:s.size≤200) (c:Int) {kind:Int} {X:ByteArray} (hX:kwT c=X.data.toList) (h5:5≤c) (h28:c≤28) (hk:rK c=kind) :
  Calls Tryz.prog 343 #[.pointer (some ⟨rb,0,none⟩),.int .i64 kind,.string X] w fun e w'=>e=.returned (.tuple #[])∧Kept rb w w'∧AT w' rb nv s op (vt2 s c x):=by
 cases x with
 | st y=>
  have hi:=isK (st:=y) hX h5 h28 kind hk
  obtain ⟨hT,hF,ho⟩:=h
  by_cases hc:y.tk.kind=c
  ·rw [vn1 hc]
   rw [hc,beq_self_eq_true] at hi
   rw [show tkZ y=(y.after:Int) by unfold tkZ;rw [if_neg (by omega)]] at hT
   have hb:(rK c==kind)=true∧((BS (tkS y)).toList==X.toList)=true:=by simpa using hi
   refine (jf1 hT hs hF.after (qr4 s y) kind X (by rw [hc];exact hk) hb.2).mono ?_
   rintro e w' ⟨rfl,hT',hK⟩
   exact ⟨rfl,hK,hT',qa7 s y hF.after,ho⟩
  ·rw [vn0 hc]
   rw [show (y.tk.kind==c)=false from beq_eq_false_iff_ne.2 hc] at hi
   refine (vp6 hT kind X hi).mono ?_
   rintro e w' ⟨rfl,hT',hK⟩
   exact ⟨rfl,hK,by decide,_,hT'⟩
 | er en pl=>
  obtain ⟨he,a,hT⟩:=h
  refine (vv1 hT he kind X (by rw [←hk];unfold rK;rw [if_neg (by omega)];split<;>decide)).mono ?_
  rintro e w' ⟨rfl,hT',hK⟩
  exact ⟨rfl,hK,he,a,hT'⟩
theorem ttext (h:AT w rb nv s op x) (hs:s.size≤200) :
  Calls Tryz.prog 344 #[.pointer (some ⟨rb,0,none⟩)] w fun e w'=>∃(k a z:Int) (S:ByteArray) (n:Int),e=.returned (.agg #[.int .i64 k,.int .i64 a,.int .i64 z,.string S,.int .i64 n])∧Kept rb w w'∧AT w' rb nv s op (vq3 s x)∧strP x S:=by
 cases x with
 | st y=>
  obtain ⟨hT,hF,ho⟩:=h
  by_cases hc:y.tk.kind=4
  ·rw [ve7 hc]
   rw [show tkZ y=(y.after:Int) by unfold tkZ;rw [if_neg (by omega)],show rK y.tk.kind=4 by rw [hc];rfl] at hT
   refine (vu2 hT hs hF.after (qr4 s y)).mono ?_
   rintro e w' ⟨rfl,hT',hK⟩
   exact ⟨_,_,_,_,_,rfl,hK,⟨hT',qa7 s y hF.after,ho⟩,rfl⟩
  ·rw [ve6 hc]
   refine (vu1 hT (by unfold rK;split<;>(try split)<;>omega)).mono ?_
   rintro e w' ⟨rfl,hT',hK⟩
   exact ⟨_,_,_,_,_,rfl,hK,⟨by decide,_,hT'⟩,rfl⟩
 | er en pl=>
  obtain ⟨he,a,hT⟩:=h
  refine (jj3 hT he).mono ?_
  rintro e w' ⟨rfl,hT',hK⟩
  exact ⟨_,_,_,_,_,rfl,hK,⟨he,a,hT'⟩,trivial⟩
theorem tadd (h:AT w rb nv s op x) {ns:List RN} (hN:NodesAt w rb nv ns) (hn:ns.length≤100000) (p:Pay) (hp:p.num=0) (ins:List Nat) (neg:Bool) {N S E:ByteArray} {iv lv:Value} (hNN:BS (qb9 p.op)=N) (hS:BS p.str=S) (hE:BS p.esc=E) (hi:RowOf w rb 3 iv (qy3 ins)) (hl:RowOf w rb 9 lv (qa0 p.texts)) :
  Calls Tryz.prog 216 #[.pointer (some ⟨rb,0,none⟩),.agg #[.string N,.int .i64 p.place,iv,.string S,.string E,lv,.int .i64 0,.bool neg,.int .i64 0]] w
   fun e w'=>e=.returned (.int .i64 ns.length)∧TKept rb w w'∧∃nv',AT w' rb nv' s op x∧NodesAt w' rb nv' (ns++[qj5 p ins neg]):=by
 subst hNN hS hE
 have e4:(qj5 p ins neg).num=p.num:=rfl
 cases x with
 | st y=>
  have:=qz1 h.1 hN (qj5 p ins neg) hi hl hn
  rw [e4,hp] at this
  refine this.mono ?_
  rintro e w' ⟨rfl,hK,nv',hT',hN'⟩
  exact ⟨rfl,hK,nv',⟨hT',h.2⟩,hN'⟩
 | er en pl=>
  obtain ⟨he,a,hT⟩:=h
  have:=qz1 hT hN (qj5 p ins neg) hi hl hn
  rw [e4,hp] at this
  refine this.mono ?_
  rintro e w' ⟨rfl,hK,nv',hT',hN'⟩
  exact ⟨rfl,hK,nv',⟨he,a,hT'⟩,hN'⟩
end
structure Mid (rb L:Nat) (w w':World):Prop where
 os:w'.os=w.os
 tape:w'.tape=w.tape
 output:w'.output=w.output
 size:w.heap.size≤w'.heap.size
 block:∀k,k<w.heap.size→k≠rb→k≠L→w'.heap[k]?=w.heap[k]?
section
variable {L rb:Nat} {w w' w'':World} {ty:TypeId} {cs:Array Value}
theorem Mid.refl (rb L:Nat) (w:World):Mid rb L w w:=⟨rfl,rfl,rfl,Nat.le_refl _,fun _ _ _ _=>rfl⟩
theorem Mid.kept (h:Mid rb L w w') (k:Kept rb w' w''):Mid rb L w w'':=⟨k.os.trans h.os,k.tape.trans h.tape,k.output.trans h.output,Nat.le_trans h.size k.size,fun i hi hr hn=>(k.block i (Nat.lt_of_lt_of_le hi h.size) hr).trans (h.block i hi hr hn)⟩
theorem Mid.but (h:Mid rb L w w') (k:But L w' w''):Mid rb L w w'':=⟨k.os.trans h.os,k.tape.trans h.tape,k.output.trans h.output,Nat.le_trans h.size k.size,fun i hi hr hn=>(k.block i (Nat.lt_of_lt_of_le hi h.size) hn).trans (h.block i hi hr hn)⟩
theorem Mid.far (h:Mid rb L w w') {p:Addr} (hp:w.heap.size≤p.block) (u:Value):Mid rb L w (w'.setCell p u):=⟨h.os,h.tape,h.output,by have:=h.size;simpa using this,fun i hi hr hn=>(Below.heap_setCell w' p u i (by omega)).trans (h.block i hi hr hn)⟩
theorem Mid.grown (h:Mid rb L w w') {row:Option Nat} (hg:w'.grownBy w'' row) (hr:∀g,row=some g→w.heap.size≤g):Mid rb L w w'':=
 ⟨hg.os.trans h.os,hg.tape.trans h.tape,hg.output.trans h.output,Nat.le_trans h.size hg.size,fun k hk hrb hn=>(hg.block k (Nat.lt_of_lt_of_le hk h.size) (fun e=>by have:=hr k e.symm;omega)).trans (h.block k hk hrb hn)⟩
theorem je7 {nv:Value} (c:w.cell? ⟨rb,0,none⟩=some nv) (c':w'.cell? ⟨rb,0,none⟩=some nv) (k:Nat):qy2 w' rb k↔qy2 w rb k:=by unfold qy2;rw [c,c']
theorem Mid.row {nv:Value} (h:Mid rb L w w') (c:w.cell? ⟨rb,0,none⟩=some nv) (c':w'.cell? ⟨rb,0,none⟩=some nv) (hv:VN w rb L ty cs) {ty':TypeId} (hne:ty'≠ty) {v:Value} {vs:List Value} (hr:RowOf w rb ty' v vs):RowOf w' rb ty' v vs:=by
 rcases hr with hr|⟨g,cap,c1,fr,hv',hg,hc,ho,hx⟩
 ·exact .inl hr
 ·have hgL:g≠L:=fun e=>by subst e;rw [hv.blk] at hc;injection hc with e;injection e with _ e2 _;exact hne e2.symm
  have hglt:=(Array.getElem?_eq_some_iff.1 hc).1
  exact .inr ⟨g,cap,c1,fr,hv',hg,(h.block g hglt (by omega) hgL).trans hc,fun h2=>ho ((je7 c c' g).1 h2),hx⟩
theorem Mid.nodes {nv:Value} {ns:List RN} (h:Mid rb L w w') (c:w.cell? ⟨rb,0,none⟩=some nv) (c':w'.cell? ⟨rb,0,none⟩=some nv) (hv:VN w rb L ty cs) (h1:(3:TypeId)≠ty) (h2:(9:TypeId)≠ty) (hN:NodesAt w rb nv ns):NodesAt w' rb nv ns:=by
 obtain ⟨rs,hl,ho,hn⟩:=hN
 refine ⟨rs,hl,qq9 ho fun g hg=>h.block g (ho.lt g hg).2 (by have:=(ho.lt g hg).1;omega) (fun e=>hv.no (.inr ⟨nv,c,e ▸ hg⟩)),fun i n r e1 e2=>⟨h.row c c' hv h1 (hn i n r e1 e2).1,h.row c c' hv h2 (hn i n r e1 e2).2⟩⟩
theorem TKept.mid {a:World} {nv:Value} (hk:TKept rb a w) (h:Mid rb L w w') (c:w.cell? ⟨rb,0,none⟩=some nv) (c':w'.cell? ⟨rb,0,none⟩=some nv) (hp:a.heap.size≤L):TKept rb a w':=
 ⟨h.os.trans hk.os,h.tape.trans hk.tape,h.output.trans hk.output,Nat.le_trans hk.size h.size,fun k hk1 hn=>(h.block k (Nat.lt_of_lt_of_le hk1 hk.size) (fun e=>hn (.inl e)) (by omega)).trans (hk.block k hk1 hn),fun k hk1 ho=>hk.own k hk1 ((je7 c c' k).1 ho)⟩
end
structure AmV (W:World) (rb L Tb:Nat) (cs:Value→Array Value) (lv:Value) (ts:List (List UInt8)) (wr:World):Prop where
 mid:Mid rb L W wr
 nb:wr.heap[L]?=some (.cells (cs lv) 241 (0,0))
 tb:∃k a z S n,wr.heap[Tb]?=some (.cells #[.int .i64 k,.int .i64 a,.int .i64 z,.string S,.int .i64 n] 235 (0,0))
 tp:W.heap.size≤Tb
 row:wr.ownsRow W.heap.size 9 1 lv ts.length (qa0 ts)
section
variable {W:World} {rb L Tb:Nat} {cs:Value→Array Value} {lv:Value} {ts:List (List UInt8)} {wr w':World}
theorem AmV.kept (h:AmV W rb L Tb cs lv ts wr) (hL:L<W.heap.size) (hrb:rb<L) (hk:Kept rb wr w'):AmV W rb L Tb cs lv ts w':=by
 obtain ⟨mid,nb,⟨k,a,z,S,n,tb⟩,tp,row⟩:=h
 have hz:=mid.size
 have hT:=(Array.getElem?_eq_some_iff.1 tb).1
 exact ⟨mid.kept hk,(hk.block L (by omega) (by omega)).trans nb,⟨k,a,z,S,n,(hk.block Tb hT (by omega)).trans tb⟩,tp,qq9 row fun g hg=>hk.block g (row.lt g hg).2 (by have:=(row.lt g hg).1;omega)⟩
theorem qs3 {w:World} {b:Nat} {c:Array Value} {ty:TypeId} (h:w.heap[b]?=some (.cells c ty (0,0))):(∀i,w.cell? ⟨b,i,none⟩=c[i]?)∧∀i,w.frozen? ⟨b,i,none⟩=false:=
 ⟨fun i=>by simp [World.cell?,h],fun i=>by simp [World.frozen?,h]⟩
theorem qx6 {w:World} {b:Nat} {c:Array Value} {ty:TypeId} (h:w.heap[b]?=some (.cells c ty (0,0))) (i:Nat) (u:Value):(w.setCell ⟨b,i,none⟩ u).heap[b]?=some (.cells (c.setIfInBounds i u) ty (0,0)):=by
 simp [World.setCell,Array.getElem?_modify,h]
theorem AmV.tok (h:AmV W rb L Tb cs lv ts wr) (hL:L<W.heap.size) (k a z:Int) (S:ByteArray) (n:Int) :
  AmV W rb L Tb cs lv ts (((((wr.setCell ⟨Tb,0,none⟩ (.int .i64 k)).setCell ⟨Tb,1,none⟩ (.int .i64 a)).setCell ⟨Tb,2,none⟩ (.int .i64 z)).setCell ⟨Tb,3,none⟩ (.string S)).setCell ⟨Tb,4,none⟩ (.int .i64 n)):=by
 obtain ⟨mid,nb,⟨k0,a0,z0,S0,n0,tb⟩,tp,row⟩:=h
 have hne:∀g,lv.ownBlock=some g→g≠Tb:=by
  intro g hg e
  obtain ⟨_,hx|⟨g',cap,cur,rfl,_,hgg,_⟩⟩:=row
  ·rw [hx.1] at hg;cases hg
  ·injection hg with hg
   subst hg
   subst e
   rw [tb] at hgg
   injection hgg with e
   injection e with _ e2 _
   exact absurd e2 (by decide)
 have hLT:L≠Tb:=by omega
 refine ⟨((((mid.far (p:=⟨Tb,0,none⟩) tp _).far (p:=⟨Tb,1,none⟩) tp _).far (p:=⟨Tb,2,none⟩) tp _).far (p:=⟨Tb,3,none⟩) tp _).far (p:=⟨Tb,4,none⟩) tp _, ?_,⟨k,a,z,S,n,qx6 (qx6 (qx6 (qx6 (qx6 tb 0 _) 1 _) 2 _) 3 _) 4 _⟩,tp,qq9 row fun g hg=>?_⟩
 ·rw [Below.heap_setCell _ ⟨Tb,4,none⟩ _ L hLT,Below.heap_setCell _ ⟨Tb,3,none⟩ _ L hLT,Below.heap_setCell _ ⟨Tb,2,none⟩ _ L hLT,Below.heap_setCell _ ⟨Tb,1,none⟩ _ L hLT,Below.heap_setCell _ ⟨Tb,0,none⟩ _ L hLT];exact nb
 ·have hg':=hne g hg
  rw [Below.heap_setCell _ ⟨Tb,4,none⟩ _ g hg',Below.heap_setCell _ ⟨Tb,3,none⟩ _ g hg',Below.heap_setCell _ ⟨Tb,2,none⟩ _ g hg',Below.heap_setCell _ ⟨Tb,1,none⟩ _ g hg',Below.heap_setCell _ ⟨Tb,0,none⟩ _ g hg']
theorem AmV.app (h:AmV W rb L Tb cs lv ts wr) (hL:L<W.heap.size) (hrb:rb<L) (hcs:∀u v,(cs u).setIfInBounds 5 v=cs v) (hn:ts.length≤1000) (S:ByteArray) :
  ∃g cap w6,(jg0 #[62,62] 62 #[lv,.slice (some ⟨wr.heap.size,0,none⟩) 1 1]).run Tryz.prog (wr.alloc (.cells #[.string S] 9))=.ok (.slice (some ⟨g,0,none⟩) (ts.length+1) cap) w6 ∧
   w6.heap[L]?=some (.cells (cs lv) 241 (0,0))∧(w6.heap[rb]?=wr.heap[rb]?)∧wr.heap.size≤w6.heap.size ∧
   AmV W rb L Tb cs (.slice (some ⟨g,0,none⟩) (ts.length+1) cap) (ts++[S.data.toList]) (w6.setCell ⟨L,5,none⟩ (.slice (some ⟨g,0,none⟩) (ts.length+1) cap)):=by
 obtain ⟨mid,nb,⟨k0,a0,z0,S0,n0,tb⟩,tp,row⟩:=h
 obtain ⟨i,hi,hz0,hz1,hz2⟩:=info_parts vf5
 have hz:=mid.size
 have hTlt:=(Array.getElem?_eq_some_iff.1 tb).1
 have hb:Below wr.heap.size wr (wr.alloc (.cells #[.string S] 9)):=(Below.refl _ _).alloc (Nat.le_refl _) _
 obtain ⟨g,cap,w6,hr,ho',hgr,_,_⟩:=run_append_lies (P:=Tryz.prog) (wr.alloc (.cells #[.string S] 9)) 62 62 W.heap.size 9 i _ 1 16 Tryz.underlying62 hi hz0 hz1 hz2 rfl (by omega) lv ts.length _ (World.ownsRow.alloc row _) ⟨wr.heap.size,0,none⟩ 1 1 [.string S] rfl
  (by
   intro j u hu
   rcases j with _|j
   ·simp at hu;subst hu;simp [Addr.add]
   ·simp at hu) (by simp [Value.oneCell']) (by omega) (by unfold maxLen;omega) (by omega) (by simp;omega) _ rfl
 have hne:∀g,lv.ownBlock=some g→g≠Tb∧W.heap.size≤g:=by
  intro g hg
  refine ⟨fun e=>?_,(row.lt g hg).1⟩
  obtain ⟨_,hx|⟨g',cap,cur,rfl,_,hgg,_⟩⟩:=row
  ·rw [hx.1] at hg;cases hg
  ·injection hg with hg
   subst hg
   subst e
   rw [tb] at hgg
   injection hgg with e
   injection e with _ e2 _
   exact absurd e2 (by decide)
 have hblk:∀k,k<wr.heap.size→lv.ownBlock≠some k→w6.heap[k]?=wr.heap[k]?:=fun k hk hn'=>(hgr.block k (Nat.lt_of_lt_of_le hk hb.size) (fun e=>hn' e.symm)).trans (hb.block k hk)
 have hL6:w6.heap[L]?=wr.heap[L]?:=hblk L (by omega) (fun e=>by have:=(hne L e).2;omega)
 have hT6:w6.heap[Tb]?=wr.heap[Tb]?:=hblk Tb hTlt (fun e=>(hne Tb e).1 rfl)
 have hr6:w6.heap[rb]?=wr.heap[rb]?:=hblk rb (by omega) (fun e=>by have:=(hne rb e).2;omega)
 have hm6:Mid rb L W w6:=⟨(hgr.os.trans hb.os).trans mid.os,(hgr.tape.trans hb.tape).trans mid.tape,(hgr.output.trans hb.output).trans mid.output,Nat.le_trans (Nat.le_trans hz hb.size) hgr.size,fun k hk h1 h2=>(hblk k (by omega) (fun e=>by have:=(hne k e).2;omega)).trans (mid.block k hk h1 h2)⟩
 refine ⟨g,cap,w6,hr,hL6.trans nb,hr6,Nat.le_trans hb.size hgr.size,hm6.but ((But.refl L w6).set 5 _), ?_,⟨k0,a0,z0,S0,n0, ?_⟩,tp, ?_⟩
 ·rw [qx6 (hL6.trans nb),hcs]
 ·rw [Below.heap_setCell _ ⟨L,5,none⟩ _ Tb (by show Tb≠L;omega)];exact hT6.trans tb
 ·rw [List.length_append,qa0,List.map_append]
  exact ownsRow_setCell_below ho' (by show L<_;omega) _
end
end
end Go.Proofs.YtfkcaldjphakpaaGreatDoor
