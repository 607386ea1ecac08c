/- The document's answer: the nodes of a tree; what a reader's step leaves as it was. The document's answer: a node more. -/
import Derived.Test.YtfkcaldjphakpaaGreatDoorM15
import Derived.Test.YtfkcaldjphakpaaGreatDoorM04
import Derived.Deep.AppendLies
namespace Go.Proofs.YtfkcaldjphakpaaGreatDoor
open Go.RowKit
section
structure RN where
 op:List UInt8
 at':Int
 ins:List Nat
 str:List UInt8
 esc:List UInt8
 texts:List (List UInt8)
 num:Int
 neg:Bool
 cls:Int
def qv1 (n:RN) (iv lv:Value):List Value:=[.string (BS n.op),.int .i64 n.at',iv,.string (BS n.str),.string (BS n.esc),lv,.int .i64 n.num,.bool n.neg,.int .i64 n.cls]
def qy3 (l:List Nat):List Value:=l.map fun (i:Nat)=>Value.int .i64 (Int.ofNat i)
def qy2 (w:World) (rb k:Nat):Prop:=k=rb∨∃nv,w.cell? ⟨rb,0,none⟩=some nv∧nv.ownBlock=some k
structure TKept (rb:Nat) (w w':World):Prop where
 os:w'.os=w.os
 tape:w'.tape=w.tape
 output:w'.output=w.output
 size:w.heap.size≤w'.heap.size
 block:∀k,k<w.heap.size→¬qy2 w rb k→w'.heap[k]?=w.heap[k]?
 own:∀k,k<w.heap.size→qy2 w' rb k→qy2 w rb k
theorem TKept.refl (rb:Nat) (w:World):TKept rb w w:=⟨rfl,rfl,rfl,Nat.le_refl _,fun _ _ _=>rfl,fun _ _ h=>h⟩
theorem TKept.trans {rb:Nat} {a b c:World} (h:TKept rb a b) (k:TKept rb b c):TKept rb a c:=
 ⟨k.os.trans h.os,k.tape.trans h.tape,k.output.trans h.output,Nat.le_trans h.size k.size,
  fun i hi hn=>(k.block i (Nat.lt_of_lt_of_le hi h.size) (fun ho=>hn (h.own i hi ho))).trans (h.block i hi hn),
  fun i hi ho=>h.own i hi (k.own i (Nat.lt_of_lt_of_le hi h.size) ho)⟩
theorem TKept.of_kept {rb:Nat} {w w':World} (h:Kept rb w w') (hc:w'.cell? ⟨rb,0,none⟩=w.cell? ⟨rb,0,none⟩):TKept rb w w':=by
 refine ⟨h.os,h.tape,h.output,h.size,fun k hk hn=>h.block k hk (fun e=>hn (.inl e)),fun k hk ho=>?_⟩
 rcases ho with ho|⟨nv,h1,h2⟩
 ·exact .inl ho
 ·exact .inr ⟨nv,hc ▸ h1,h2⟩
theorem TKept.of_below {rb:Nat} {w w':World} (h:Below w.heap.size w w') (hlt:rb<w.heap.size):TKept rb w w':=TKept.of_kept (Kept.of_below h) ((qa9 h).1 _ _ hlt)
theorem TKept.alloc {rb:Nat} {a w:World} (h:TKept rb a w) (hlt:rb<a.heap.size) (o:Obj):TKept rb a (w.alloc o):=h.trans (TKept.of_below ((Below.refl _ _).alloc (Nat.le_refl _) o) (Nat.lt_of_lt_of_le hlt h.size))
theorem TKept.drew {rb:Nat} {a w:World} (h:TKept rb a w):TKept rb a w.drew:=⟨h.os,h.tape,h.output,h.size,h.block,h.own⟩
theorem TKept.far {rb:Nat} {a w:World} (h:TKept rb a w) (hlt:rb<a.heap.size) {p:Addr} (hp:a.heap.size≤p.block) (u:Value):TKept rb a (w.setCell p u):=by
 have hc:(w.setCell p u).cell? ⟨rb,0,none⟩=w.cell? ⟨rb,0,none⟩:=World.cell?_of_block (w:=w) (w':=w.setCell p u) (a:=⟨rb,0,none⟩) (Below.heap_setCell w p u rb (by omega))
 refine ⟨h.os,h.tape,h.output,by have:=h.size;simp;omega,fun k hk hn=>?_,fun k hk ho=>?_⟩
 ·rw [Below.heap_setCell w p u k (by omega)];exact h.block k hk hn
 ·refine h.own k hk ?_
  rcases ho with ho|⟨nv,h1,h2⟩
  ·exact .inl ho
  ·exact .inr ⟨nv,hc ▸ h1,h2⟩
def RowOf (w:World) (rb:Nat) (ty:TypeId) (v:Value) (vs:List Value):Prop:=
 (vs=[]∧v=.slice none 0 0)∨∃g cap c fr,v=.slice (some ⟨g,0,none⟩) vs.length cap∧rb<g∧w.heap[g]?=some (.cells c ty fr)∧¬qy2 w rb g∧∀(j:Nat) (u:Value),vs[j]?=some u→c[j]?=some u
theorem RowOf.kept {w w':World} {rb:Nat} {ty:TypeId} {v:Value} {vs:List Value} (h:RowOf w rb ty v vs) (hk:TKept rb w w'):RowOf w' rb ty v vs:=by
 rcases h with h|⟨g,cap,c,fr,hv,hg,hc,ho,hr⟩
 ·exact .inl h
 ·have hlt:=(Array.getElem?_eq_some_iff.1 hc).1
  exact .inr ⟨g,cap,c,fr,hv,hg,(hk.block g hlt ho).trans hc,fun h=>ho (hk.own g hlt h),hr⟩
theorem RowOf.far {w:World} {rb:Nat} {ty:TypeId} {v:Value} {vs:List Value} (h:RowOf w rb ty v vs) {L:Nat} {ty':TypeId} {c':Array Value} {fr':Nat×Nat} (hL:w.heap[L]?=some (.cells c' ty' fr')) (hne:ty≠ty') (hrb:L≠rb) (j:Nat) (u:Value):RowOf (w.setCell ⟨L,j,none⟩ u) rb ty v vs:=by
 rcases h with h|⟨g,cap,c,fr,hv,hg,hc,ho,hr⟩
 ·exact .inl h
 ·have hgL:g≠L:=fun e=>by subst e;rw [hc] at hL;injection hL with e;injection e with _ e2 _;exact hne e2
  have hc0:(w.setCell ⟨L,j,none⟩ u).cell? ⟨rb,0,none⟩=w.cell? ⟨rb,0,none⟩:=World.cell?_of_block (w:=w) (a:=⟨rb,0,none⟩) (Below.heap_setCell w ⟨L,j,none⟩ u rb (fun e=>hrb e.symm))
  refine .inr ⟨g,cap,c,fr,hv,hg,(Below.heap_setCell w ⟨L,j,none⟩ u g hgL).trans hc,fun h=>ho ?_,hr⟩
  rcases h with h|⟨nv,h1,h2⟩
  ·exact .inl h
  ·exact .inr ⟨nv,hc0 ▸ h1,h2⟩
theorem qq9 {base e size n:Nat} {w w':World} {v:Value} {xs:List Value} (h:w.ownsRow base e size v n xs) (hk:∀g,v.ownBlock=some g→w'.heap[g]?=w.heap[g]?):w'.ownsRow base e size v n xs:=by
 refine ⟨h.1, ?_⟩
 rcases h.2 with hn|⟨g,cap,cur,rfl,hbg,hgg,rest⟩
 ·exact .inl hn
 ·exact .inr ⟨g,cap,cur,rfl,hbg,(hk g rfl).trans hgg,rest⟩
def NodesAt (w:World) (rb:Nat) (nv:Value) (ns:List RN):Prop:=
 ∃rs:List (Value×Value),rs.length=ns.length∧w.ownsRow (rb+1) 241 9 nv ns.length ((ns.zip rs).flatMap fun x=>qv1 x.1 x.2.1 x.2.2) ∧
  ∀(j:Nat) (n:RN) (r:Value×Value),ns[j]?=some n→rs[j]?=some r→RowOf w rb 3 r.1 (qy3 n.ins)∧RowOf w rb 9 r.2 (qa0 n.texts)
theorem NodesAt.same {w w':World} {rb:Nat} {nv:Value} {ns:List RN} (h:NodesAt w rb nv ns) (hk:TKept rb w w') (hr:∀k,nv.ownBlock=some k→w'.heap[k]?=w.heap[k]?):NodesAt w' rb nv ns:=by
 obtain ⟨rs,hl,ho,hn⟩:=h
 exact ⟨rs,hl,qq9 ho hr,fun j n r h1 h2=>⟨(hn j n r h1 h2).1.kept hk,(hn j n r h1 h2).2.kept hk⟩⟩
theorem NodesAt.kept {w w':World} {rb:Nat} {nv:Value} {ns:List RN} (h:NodesAt w rb nv ns) (hc:w.cell? ⟨rb,0,none⟩=w'.cell? ⟨rb,0,none⟩) (hk:Kept rb w w'):NodesAt w' rb nv ns:=by
 have hk':=TKept.of_kept hk hc.symm
 refine h.same hk' fun k hk2=>?_
 obtain ⟨rs,hl,ho,hn⟩:=h
 have:=ho.lt k hk2
 exact hk.block k this.2 (by omega)
theorem NodesAt.below {w w':World} {rb:Nat} {nv:Value} {ns:List RN} (h:NodesAt w rb nv ns) (hlt:rb<w.heap.size) (hb:Below w.heap.size w w'):NodesAt w' rb nv ns:=by
 refine h.same (TKept.of_below hb hlt) fun k hk=>?_
 obtain ⟨rs,hl,ho,hn⟩:=h
 exact hb.block k (ho.lt k hk).2
theorem NodesAt.far {w:World} {rb:Nat} {nv:Value} {ns:List RN} (h:NodesAt w rb nv ns) {L:Nat} {ty':TypeId} {c':Array Value} {fr':Nat×Nat} (hL:w.heap[L]?=some (.cells c' ty' fr')) (h1:(3:TypeId)≠ty') (h2:(9:TypeId)≠ty') (hrb:L≠rb) (hnv:nv.ownBlock≠some L) (j:Nat) (u:Value) :
  NodesAt (w.setCell ⟨L,j,none⟩ u) rb nv ns:=by
 obtain ⟨rs,hl,ho,hn⟩:=h
 refine ⟨rs,hl,qq9 ho fun k hk=>Below.heap_setCell w ⟨L,j,none⟩ u k (fun e=>hnv (by have e':k=L:=e;rw [←e'];exact hk)),fun i n r e1 e2=>⟨(hn i n r e1 e2).1.far hL h1 hrb j u,(hn i n r e1 e2).2.far hL h2 hrb j u⟩⟩
theorem NodesAt.nil (w:World) (rb:Nat):NodesAt w rb (.slice none 0 0) []:=⟨[],rfl,World.ownsRow_nil _ _ _ _,fun j n r h=>by simp at h⟩
theorem info_rn:(Tryz.prog.info? 241).map (fun i=>(i.zero,i.size,i.bytes))=some (some (.agg #[.string ⟨#[]⟩,.int .i64 0,.slice none 0 0,.string ⟨#[]⟩,.string ⟨#[]⟩,.slice none 0 0,.int .i64 0,.bool false,.int .i64 0]),9,128):=by kernel_rfl
def jg0 (ats:Array TypeId) (ty:TypeId) (args:Array Value):Sem Value:=Builtin.append_ ats ty args
theorem qj6 (ats:Array TypeId) (ty:TypeId) (args:Array Value):Builtin.append_ ats ty args=jg0 ats ty args:=rfl
theorem RowOf.form {w:World} {rb:Nat} {ty:TypeId} {v:Value} {vs:List Value} (h:RowOf w rb ty v vs):∃a c,v=.slice a vs.length c:=by
 rcases h with ⟨rfl,rfl⟩|⟨g,cap,c,fr,hv,_⟩
 ·exact ⟨_,_,rfl⟩
 ·exact ⟨_,_,hv⟩
theorem NodesAt.app {W:World} {rb:Nat} {nv:Value} {ns:List RN} (h:NodesAt W rb nv ns) (c0:W.cell? ⟨rb,0,none⟩=some nv) (hlt:rb<W.heap.size) (n:RN) {iv lv:Value} (hiv:RowOf W rb 3 iv (qy3 n.ins)) (hlv:RowOf W rb 9 lv (qa0 n.texts)) (hn:ns.length≤100000) :
  ∃g cap w5,(jg0 #[233,233] 233 #[nv,.slice (some ⟨W.heap.size,0,none⟩) 1 1]).run Tryz.prog (W.alloc (.cells #[.string (BS n.op),.int .i64 n.at',iv,.string (BS n.str),.string (BS n.esc),lv,.int .i64 n.num,.bool n.neg,.int .i64 n.cls] 241))=.ok (.slice (some ⟨g,0,none⟩) (ns.length+1) cap) w5 ∧
   Hid (w5.heap[rb]?=W.heap[rb]?)∧rb<w5.heap.size ∧
   Hid (NodesAt (w5.setCell ⟨rb,0,none⟩ (.slice (some ⟨g,0,none⟩) (ns.length+1) cap)) rb (.slice (some ⟨g,0,none⟩) (ns.length+1) cap) (ns++[n])) ∧
   Hid (TKept rb W (w5.setCell ⟨rb,0,none⟩ (.slice (some ⟨g,0,none⟩) (ns.length+1) cap))):=by
 obtain ⟨i0,hi,hz0,hz1,hz2⟩:=info_parts info_rn
 obtain ⟨rs,hl,ho,hr⟩:=h
 obtain ⟨ai,ci,hi1⟩:=hiv.form
 obtain ⟨al,cl,hl1⟩:=hlv.form
 obtain ⟨g,cap,w5,hrun,hown,hgrow,hat,_⟩:=run_append_lies (P:=Tryz.prog) (W.alloc (.cells #[.string (BS n.op),.int .i64 n.at',iv,.string (BS n.str),.string (BS n.esc),lv,.int .i64 n.num,.bool n.neg,.int .i64 n.cls] 241)) 233 233 (rb+1) 241 i0 _ 9 128 Tryz.underlying233 hi hz0 hz1 hz2 rfl (by omega) nv ns.length _ (World.ownsRow.alloc ho _)
  ⟨W.heap.size,0,none⟩ 1 1 (qv1 n iv lv) rfl (World.news_of_block (cs:=#[.string (BS n.op),.int .i64 n.at',iv,.string (BS n.str),.string (BS n.esc),lv,.int .i64 n.num,.bool n.neg,.int .i64 n.cls]) (t:=241) (fr:=(0,0)) (heap_alloc_new W _)) (by subst hi1 hl1;simp [qv1,Value.oneCell']) (by omega) (by unfold maxLen;omega) (by omega) (by simp;omega) _ rfl
 have hz5:=hgrow.size
 simp only [World.size_alloc] at hz5
 have hrow:∀k,nv.ownBlock=some k→rb+1≤k∧k<W.heap.size:=fun k hk=>ho.lt k hk
 have hrb:w5.heap[rb]?=W.heap[rb]?:=(hgrow.block rb (by simp;omega) (fun e=>by have:=(hrow rb e.symm).1;omega)).trans (Below.heap_alloc W _ rb hlt)
 have hset:∀k,k≠rb→(w5.setCell ⟨rb,0,none⟩ (.slice (some ⟨g,0,none⟩) (ns.length+1) cap)).heap[k]?=w5.heap[k]?:=fun k hk=>Below.heap_setCell w5 ⟨rb,0,none⟩ _ k hk
 have hb:∀k,k<W.heap.size→nv.ownBlock≠some k→w5.heap[k]?=W.heap[k]?:=fun k hk hn=>(hgrow.block k (by simp;omega) (fun e=>hn e.symm)).trans (Below.heap_alloc W _ k hk)
 have c5:(w5.setCell ⟨rb,0,none⟩ (.slice (some ⟨g,0,none⟩) (ns.length+1) cap)).cell? ⟨rb,0,none⟩=some (.slice (some ⟨g,0,none⟩) (ns.length+1) cap):=by
  have:w5.cell? ⟨rb,0,none⟩=some nv:=(World.cell?_of_block (w:=W) (w':=w5) (a:=⟨rb,0,none⟩) hrb).trans c0
  simp [go_sem,this]
 have hown':∀k,k<W.heap.size→qy2 (w5.setCell ⟨rb,0,none⟩ (.slice (some ⟨g,0,none⟩) (ns.length+1) cap)) rb k→qy2 W rb k:=by
  intro k hk hk2
  rcases hk2 with e|⟨nv',e1,e2⟩
  ·exact .inl e
  ·rw [c5] at e1
   injection e1 with e1
   subst e1
   have hgk:g=k:=by simpa [Value.ownBlock] using e2
   subst hgk
   rcases hat with hat|hat
   ·exact .inr ⟨nv,c0,hat⟩
   ·simp at hat;omega
 have hK:TKept rb W (w5.setCell ⟨rb,0,none⟩ (.slice (some ⟨g,0,none⟩) (ns.length+1) cap)):=by
  refine ⟨hgrow.os,hgrow.tape,hgrow.output,by simp;omega,fun k hk hno=>?_,hown'⟩
  rw [hset k (fun e=>hno (.inl e))]
  exact hb k hk (fun e=>hno (.inr ⟨nv,c0,e⟩))
 refine ⟨g,cap,w5,hrun,j4 hrb,by omega,j4 ⟨rs++[(iv,lv)],by simp [hl], ?_,fun j x r hx hr'=>?_⟩,j4 hK⟩
 ·rw [List.zip_append hl.symm,List.flatMap_append,List.length_append]
  exact ownsRow_setCell_below (by simpa using hown) (by show rb<rb+1;omega) _
 ·by_cases hj:j<ns.length
  ·rw [List.getElem?_append_left hj] at hx
   rw [List.getElem?_append_left (by omega)] at hr'
   exact ⟨(hr j x r hx hr').1.kept hK,(hr j x r hx hr').2.kept hK⟩
  ·have hj2:j=ns.length:=by
    have:=(List.getElem?_eq_some_iff.1 hx).1
    simp at this
    omega
   subst hj2
   obtain rfl:n=x:=by simpa using hx
   rw [←hl] at hr'
   obtain rfl:(iv,lv)=r:=by simpa using hr'
   exact ⟨hiv.kept hK,hlv.kept hK⟩
end
section
attribute [local go_sem ↓] qj6
theorem TrC.put {w w':World} {rb:Nat} {nv:Value} {s:ByteArray} {k a z:Int} {S:ByteArray} {n op er at':Int} (h:TrC w rb nv s k a z S n op er at') (hb:w'.heap[rb]?=w.heap[rb]?) (hlt:rb<w'.heap.size) (v:Value):TrC (w'.setCell ⟨rb,0,none⟩ v) rb v s k a z S n op er at':=by
 obtain ⟨lt,c0,c1,c2,c3,c4,c5,c6,c7,c8,c9,fz⟩:=h
 have hc:∀j,w'.cell? ⟨rb,j,none⟩=w.cell? ⟨rb,j,none⟩:=fun j=>World.cell?_of_block (w:=w) (w':=w') (a:=⟨rb,j,none⟩) hb
 have hf:∀j,w'.frozen? ⟨rb,j,none⟩=w.frozen? ⟨rb,j,none⟩:=fun j=>World.frozen?_of_block (w:=w) (w':=w') (a:=⟨rb,j,none⟩) hb
 rw [←hc] at c0 c1 c2 c3 c4 c5 c6 c7 c8 c9
 refine ⟨by simpa using hlt, ?_, ?_, ?_, ?_, ?_, ?_, ?_, ?_, ?_, ?_,fun j=>?_⟩
 all_goals simp [go_sem,c0,c1,c2,c3,c4,c5,c6,c7,c8,c9,hf,fz]
def AddEnds (rb:Nat) (s:ByteArray) (k a z:Int) (S:ByteArray) (n op er at':Int) (w:World) (ns:List RN) (x:RN) (e:Ending) (w':World):Prop:=
 e=.returned (.int .i64 ns.length)∧TKept rb w w'∧∃nv',TrC w' rb nv' s k a z S n op er at'∧NodesAt w' rb nv' (ns++[x])
set_option maxHeartbeats 2000000 in
set_option maxRecDepth 100000 in
theorem qz1 {w:World} {rb:Nat} {nv:Value} {s:ByteArray} {k a z:Int} {S:ByteArray} {n op er at':Int} (h:TrC w rb nv s k a z S n op er at') {ns:List RN} (hN:NodesAt w rb nv ns) (x:RN) {iv lv:Value} (hiv:RowOf w rb 3 iv (qy3 x.ins)) (hlv:RowOf w rb 9 lv (qa0 x.texts)) (hn:ns.length≤100000) :
  Calls Tryz.prog 216 #[.pointer (some ⟨rb,0,none⟩),.agg #[.string (BS x.op),.int .i64 x.at',iv,.string (BS x.str),.string (BS x.esc),lv,.int .i64 x.num,.bool x.neg,.int .i64 x.cls]] w (AddEnds rb s k a z S n op er at' w ns x):=by
 have hb:Below w.heap.size w (w.alloc (.cells #[.string (BS x.op),.int .i64 x.at',iv,.string (BS x.str),.string (BS x.esc),lv,.int .i64 x.num,.bool x.neg,.int .i64 x.cls] 241)):=(Below.refl _ _).alloc (Nat.le_refl _) _
 have hK0:=TKept.of_below hb.drew h.lt
 have h1:=h.below hb.drew
 obtain ⟨g,cap,w5,hap,HB,hlt5,HN,HK⟩:=(hN.below h.lt hb.drew).app h1.c0 h1.lt x (hiv.kept hK0) (hlv.kept hK0) hn
 have HT:=j4 (h1.put (q9 HB) hlt5 (.slice (some ⟨g,0,none⟩) (ns.length+1) cap))
 have HK0:=j4 hK0
 obtain ⟨⟨ai,ci,rfl⟩,⟨al,cl,rfl⟩⟩:=And.intro hiv.form hlv.form
 have hform:∃a0 c0,nv=.slice a0 ns.length c0:=by
  obtain ⟨rs,_,ho,_⟩:=hN
  rcases ho.2 with ⟨h0,h0'⟩|⟨g,cap,cur,rfl,_⟩
  ·exact ⟨none,0,by simp_all⟩
  ·exact ⟨_,_,rfl⟩
 obtain ⟨a0,c00,rfl⟩:=hform
 obtain ⟨lt,c0,c1,c2,c3,c4,c5,c6,c7,c8,c9,fz⟩:=h
 have n0:¬w.heap.size=rb:=by omega
 have n1:¬rb=w.heap.size:=by omega
 have HB5:w5.cell? ⟨rb,0,none⟩=some (.slice a0 ns.length c00):=(World.cell?_of_block (w':=w5) (a:=⟨rb,0,none⟩) (q9 HB)).trans h1.c0
 have fz5:w5.frozen? ⟨rb,0,none⟩=false:=(World.frozen?_of_block (w':=w5) (a:=⟨rb,0,none⟩) (q9 HB)).trans (h1.fz 0)
 have hap2:(jg0 #[233,233] 233 #[.slice a0 ns.length c00,.slice (some ⟨w.heap.size+1,0,none⟩) 1 1]).run Tryz.prog ((w.alloc (.cells #[.string (BS x.op),.int .i64 x.at',.slice ai (qy3 x.ins).length ci,.string (BS x.str),.string (BS x.esc),.slice al (qa0 x.texts).length cl,.int .i64 x.num,.bool x.neg,.int .i64 x.cls] 241)).alloc (.cells #[.string (BS x.op),.int .i64 x.at',.slice ai (qy3 x.ins).length ci,.string (BS x.str),.string (BS x.esc),.slice al (qa0 x.texts).length cl,.int .i64 x.num,.bool x.neg,.int .i64 x.cls] 241)).drew=.ok (.slice (some ⟨g,0,none⟩) (ns.length+1) cap) w5:=by
  have e:(w.alloc (.cells #[.string (BS x.op),.int .i64 x.at',.slice ai (qy3 x.ins).length ci,.string (BS x.str),.string (BS x.esc),.slice al (qa0 x.texts).length cl,.int .i64 x.num,.bool x.neg,.int .i64 x.cls] 241)).drew.heap.size=w.heap.size+1:=by show (w.alloc _).heap.size=_;simp
  rw [e] at hap;exact hap
 clear h1 hb hK0 hN hiv hlv hap
 go_enter Tryz.func216,Tryz.ntmps216
 go_wp2_with fail
 go_region
 all_goals go_wp2_with fail
 all_goals go_ret
 all_goals exact ⟨qg5 (by simp),(q9 HK0).trans (q9 HK),_,q9 HT,q9 HN⟩
end
end Go.Proofs.YtfkcaldjphakpaaGreatDoor
