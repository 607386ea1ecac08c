/- The document's answer: the reader goes to the next token. The document's answer: what has to come, and what opens something. The document's answer: the nodes of a tree; what a reader's step leaves as it was. -/
import Derived.Test.YtfkcaldjphakpaaGreatDoorE10
import Derived.Deep.RegionWith
import Derived.Test.YtfkcaldjphakpaaGreatDoorE05
import Derived.Deep.AppendLies
set_option maxHeartbeats 2000000
namespace Go.Proofs.YtfkcaldjphakpaaGreatDoor
open Go.RowKit
section
theorem TrC.below {w w':World} {rb:Nat} {nv:Value} {s:ByteArray} {k a z:Int} {S:ByteArray} {n op er at':Int} (h:TrC w rb nv s k a z S n op er at') (hb:Below w.heap.size w w'):TrC w' rb nv s k a z S n op er at':=by
 obtain ⟨lt,c0,c1,c2,c3,c4,c5,c6,c7,c8,c9,fz⟩:=h
 obtain ⟨hc,hf⟩:=v9 hb
 exact ⟨Nat.lt_of_lt_of_le lt hb.size,(hc _ _ lt).trans c0,(hc _ _ lt).trans c1,(hc _ _ lt).trans c2,(hc _ _ lt).trans c3,(hc _ _ lt).trans c4,(hc _ _ lt).trans c5,(hc _ _ lt).trans c6,(hc _ _ lt).trans c7,(hc _ _ lt).trans c8,(hc _ _ lt).trans c9,fun j=>(hf _ _ lt).trans (fz j)⟩
theorem TrC.alloc {w:World} {rb:Nat} {nv:Value} {s:ByteArray} {k a z:Int} {S:ByteArray} {n op er at':Int} (h:TrC w rb nv s k a z S n op er at') (o:Obj):TrC (w.alloc o) rb nv s k a z S n op er at':=h.below ((Below.refl _ _).alloc (Nat.le_refl _) o)
theorem Kept.far {rb:Nat} {a w:World} (h:Kept rb a w) {p:Addr} (hp:a.heap.size≤p.block) (u:Value):Kept rb a (w.setCell p u):=by
 refine ⟨h.os,h.tape,h.output,by have:=h.size;simp;omega,fun k hk hn=>?_⟩
 rw [Below.heap_setCell w p u k (by omega)]
 exact h.block k hk hn
theorem Kept.more {rb:Nat} {a w:World} (h:Kept rb a w) (o:Obj):Kept rb a (w.alloc o):=h.trans (Kept.of_below ((Below.refl _ _).alloc (Nat.le_refl _) o))
theorem qp4 {w:World} {rb:Nat} {nv:Value} {s:ByteArray} {k a:Int} {p:Nat} {S:ByteArray} {n op at':Int} (h:TrC w rb nv s k a p S n op 0 at') (hs:s.size≤200) (hp:p≤s.size) {k' a' z':Int} {S':ByteArray} {n':Int}
  (hT:rTk (qd3 s.data.toList p) (qe8 s.data.toList p) (qh8 s.data.toList p)=.agg #[.int .i64 k',.int .i64 a',.int .i64 z',.string S',.int .i64 n']) :
  Calls Tryz.prog 172 #[.pointer (some ⟨rb,0,none⟩)] w fun e w'=>e=.returned (.tuple #[])∧TrC w' rb nv s k' a' z' S' n' op 0 at'∧Kept rb w w':=by
 have H:=v7 h
 obtain ⟨lt,c0,c1,c2,c3,c4,c5,c6,c7,c8,c9,fz⟩:=h
 have NX:=v7 (rnext_any s hs p hp)
 rw [hT] at NX
 clear hT
 go_enter Tryz.func172,Tryz.ntmps172
 go_wp2_with fail
 go_region_with (go_at_call 213;refine (q9 NX _).mono ?_;rintro e w1 ⟨rfl,hb1⟩;first|(have hb2:Below w.heap.size w w1:=((Below.refl w.heap.size w).drew).trans hb1;have B2:=v7 hb2;obtain ⟨lt',d0,d1,d2,d3,d4,d5,d6,d7,d8,d9,dz⟩:=(q9 H).below hb2;clear hb1 hb2)|(have hb2:Below w.heap.size w w1:=(((Below.refl w.heap.size w).alloc (Nat.le_refl _) _).drew).trans (hb1.mono (by show _≤(w.alloc _).heap.size;simp));have B2:=v7 hb2;obtain ⟨lt',d0,d1,d2,d3,d4,d5,d6,d7,d8,d9,dz⟩:=(q9 H).below hb2;obtain ⟨hc,hf⟩:=v9 hb1;have hz1:w.heap.size<w1.heap.size:=(by have:=hb1.size;have e:(w.alloc (.cells #[.int .i64 0,.int .i64 0,.int .i64 0,.string ⟨#[]⟩,.int .i64 0] 235)).drew.heap.size=w.heap.size+1:=(by show (w.alloc _).heap.size=_;simp);omega);have e0:w1.cell? ⟨w.heap.size,0,none⟩=some (.int .i64 0):=(hc _ 0 (by show _<(w.alloc _).heap.size;simp)).trans (by show (w.alloc _).cell? _=_;simp);have e1:w1.cell? ⟨w.heap.size,1,none⟩=some (.int .i64 0):=(hc _ 1 (by show _<(w.alloc _).heap.size;simp)).trans (by show (w.alloc _).cell? _=_;simp);have e2:w1.cell? ⟨w.heap.size,2,none⟩=some (.int .i64 0):=(hc _ 2 (by show _<(w.alloc _).heap.size;simp)).trans (by show (w.alloc _).cell? _=_;simp);have e3:w1.cell? ⟨w.heap.size,3,none⟩=some (.string ⟨#[]⟩):=(hc _ 3 (by show _<(w.alloc _).heap.size;simp)).trans (by show (w.alloc _).cell? _=_;simp);have e4:w1.cell? ⟨w.heap.size,4,none⟩=some (.int .i64 0):=(hc _ 4 (by show _<(w.alloc _).heap.size;simp)).trans (by show (w.alloc _).cell? _=_;simp);have ef:∀j,w1.frozen? ⟨w.heap.size,j,none⟩=false:=(fun j=>(hf _ j (by show _<(w.alloc _).heap.size;simp)).trans (by show (w.alloc _).frozen? _=_;simp));have hne:¬rb=w.heap.size:=(by omega);have hne':¬w.heap.size=rb:=(by omega);clear hc hf hb1 hb2))
 all_goals (go_wp2_with fail)
 all_goals go_end0
 all_goals first
  | (
   have _q:=hne
   refine ⟨rfl,⟨by simpa using lt', ?_, ?_, ?_, ?_, ?_, ?_, ?_, ?_, ?_, ?_,fun j=>?_⟩,((((((((((Kept.of_below (q9 B2)).far (p:=⟨w.heap.size,0,none⟩) (Nat.le_refl _) _).far (p:=⟨w.heap.size,1,none⟩) (Nat.le_refl _) _).far (p:=⟨w.heap.size,2,none⟩) (Nat.le_refl _) _).far (p:=⟨w.heap.size,3,none⟩) (Nat.le_refl _) _).far (p:=⟨w.heap.size,4,none⟩) (Nat.le_refl _) _).setCell 2 _).setCell 3 _).setCell 4 _).setCell 5 _).setCell 6 _⟩
   all_goals simp [go_sem,d0,d1,d2,d3,d4,d5,d6,d7,d8,d9,dz])
  | (
   refine ⟨rfl,TrC.alloc ⟨by simpa using lt', ?_, ?_, ?_, ?_, ?_, ?_, ?_, ?_, ?_, ?_,fun j=>?_⟩ _,((((((Kept.of_below (q9 B2)).setCell 2 _).setCell 3 _).setCell 4 _).setCell 5 _).setCell 6 _).more _⟩
   all_goals simp [go_sem,d0,d1,d2,d3,d4,d5,d6,d7,d8,d9,dz])
end
section
def NextIs (s:ByteArray) (p:Nat) (k a z:Int) (S:ByteArray) (n:Int):Prop:=rTk (qd3 s.data.toList p) (qe8 s.data.toList p) (qh8 s.data.toList p)=.agg #[.int .i64 k,.int .i64 a,.int .i64 z,.string S,.int .i64 n]
section
variable {w:World} {rb:Nat} {nv:Value} {s:ByteArray} {k a z:Int} {p:Nat} {S:ByteArray} {n op er at':Int}
theorem ja3 (h:TrC w rb nv s k a p S n op 0 at') (hs:s.size≤200) (hp:p≤s.size) {k' a' z':Int} {S':ByteArray} {n':Int} (hT:NextIs s p k' a' z' S' n') (kind:Int) (X:ByteArray) (hk:k=kind) (hX:(S.toList==X.toList)=true) :
  Calls Tryz.prog 343 #[.pointer (some ⟨rb,0,none⟩),.int .i64 kind,.string X] w fun e w'=>e=.returned (.tuple #[])∧TrC w' rb nv s k' a' z' S' n' op 0 at'∧Kept rb w w':=by
 have IS:=qt3 h kind X
 rw [hX,hk,beq_self_eq_true,Bool.and_true] at IS
 have I:=v7 IS
 have ST:=v7 (qp4 h hs hp hT)
 clear IS h hT hX hk
 go_enter Tryz.func343,Tryz.ntmps343
 go_wp2_with (first|(go_at_call 215;refine (q9 I).mono ?_;rintro e w1 ⟨rfl,rfl⟩)|(go_at_call 172;refine (q9 ST).mono ?_;rintro e w2 ⟨rfl,ht⟩;have HT:=v7 ht;clear ht))
 refine bodyPost_ret (by simp [results,Tryz.results343,go_sem]) rfl ⟨rfl,q9 HT⟩
theorem vj1 (h:TrC w rb nv s k a z S n op 0 at') (kind:Int) (X:ByteArray) (hX:(k==kind&&(S.toList==X.toList))=false) :
  Calls Tryz.prog 343 #[.pointer (some ⟨rb,0,none⟩),.int .i64 kind,.string X] w fun e w'=>e=.returned (.tuple #[])∧TrC w' rb nv s 1 a 0 ⟨#[]⟩ 0 op 2 a∧Kept rb w w':=by
 have IS:=qt3 h kind X
 rw [hX] at IS
 have I:=v7 IS
 have FL:=v7 (qs0 h 2 a)
 obtain ⟨lt,c0,c1,c2,c3,c4,c5,c6,c7,c8,c9,fz⟩:=h
 clear IS hX
 go_enter Tryz.func343,Tryz.ntmps343
 go_wp2_with (first|(go_at_call 215;refine (q9 I).mono ?_;rintro e w1 ⟨rfl,rfl⟩)|(go_at_call 174;refine (q9 FL).mono ?_;rintro e w2 ⟨rfl,ht⟩;have HT:=v7 ht;clear ht))
 go_end0
 exact ⟨rfl,q9 HT⟩
theorem vq8 (h:TrC w rb nv s 1 a z S n op er at') (he:er≠0) (kind:Int) (X:ByteArray) (hk:kind≠1) :
  Calls Tryz.prog 343 #[.pointer (some ⟨rb,0,none⟩),.int .i64 kind,.string X] w fun e w'=>e=.returned (.tuple #[])∧TrC w' rb nv s 1 a 0 ⟨#[]⟩ 0 op er at'∧Kept rb w w':=by
 have IS:=qt3 h kind X
 rw [show ((1:Int)==kind)=false from beq_eq_false_iff_ne.2 (fun e=>hk e.symm),Bool.false_and] at IS
 have I:=v7 IS
 have FL:=v7 (vc7 h he 2 a)
 obtain ⟨lt,c0,c1,c2,c3,c4,c5,c6,c7,c8,c9,fz⟩:=h
 clear IS hk he
 go_enter Tryz.func343,Tryz.ntmps343
 go_wp2_with (first|(go_at_call 215;refine (q9 I).mono ?_;rintro e w1 ⟨rfl,rfl⟩)|(go_at_call 174;refine (q9 FL).mono ?_;rintro e w2 ⟨rfl,ht⟩;have HT:=v7 ht;clear ht))
 go_end0
 exact ⟨rfl,q9 HT⟩
end
end
section
structure RN where
 op:List UInt8
 at':Int
 ins:List Nat
 str:List UInt8
 esc:List UInt8
 texts:List (List UInt8)
 num:Int
 neg:Bool
 cls:Int
def qt4 (n:RN) (iv lv:Value):List Value:=[.string (BS n.op),.int .i64 n.at',iv,.string (BS n.str),.string (BS n.esc),lv,.int .i64 n.num,.bool n.neg,.int .i64 n.cls]
def qv6 (l:List Nat):List Value:=l.map fun (i:Nat)=>Value.int .i64 (Int.ofNat i)
def qv5 (w:World) (rb k:Nat):Prop:=k=rb∨∃nv,w.cell? ⟨rb,0,none⟩=some nv∧nv.ownBlock=some k
structure TKept (rb:Nat) (w w':World):Prop where
 os:w'.os=w.os
 tape:w'.tape=w.tape
 output:w'.output=w.output
 size:w.heap.size≤w'.heap.size
 block:∀k,k<w.heap.size→¬qv5 w rb k→w'.heap[k]?=w.heap[k]?
 own:∀k,k<w.heap.size→qv5 w' rb k→qv5 w rb k
theorem TKept.refl (rb:Nat) (w:World):TKept rb w w:=⟨rfl,rfl,rfl,Nat.le_refl _,fun _ _ _=>rfl,fun _ _ h=>h⟩
theorem TKept.trans {rb:Nat} {a b c:World} (h:TKept rb a b) (k:TKept rb b c):TKept rb a c:=
 ⟨k.os.trans h.os,k.tape.trans h.tape,k.output.trans h.output,Nat.le_trans h.size k.size,
  fun i hi hn=>(k.block i (Nat.lt_of_lt_of_le hi h.size) (fun ho=>hn (h.own i hi ho))).trans (h.block i hi hn),
  fun i hi ho=>h.own i hi (k.own i (Nat.lt_of_lt_of_le hi h.size) ho)⟩
theorem TKept.of_kept {rb:Nat} {w w':World} (h:Kept rb w w') (hc:w'.cell? ⟨rb,0,none⟩=w.cell? ⟨rb,0,none⟩):TKept rb w w':=by
 refine ⟨h.os,h.tape,h.output,h.size,fun k hk hn=>h.block k hk (fun e=>hn (.inl e)),fun k hk ho=>?_⟩
 rcases ho with ho|⟨nv,h1,h2⟩
 ·exact .inl ho
 ·exact .inr ⟨nv,hc ▸ h1,h2⟩
theorem TKept.of_below {rb:Nat} {w w':World} (h:Below w.heap.size w w') (hlt:rb<w.heap.size):TKept rb w w':=TKept.of_kept (Kept.of_below h) ((v9 h).1 _ _ hlt)
theorem TKept.alloc {rb:Nat} {a w:World} (h:TKept rb a w) (hlt:rb<a.heap.size) (o:Obj):TKept rb a (w.alloc o):=h.trans (TKept.of_below ((Below.refl _ _).alloc (Nat.le_refl _) o) (Nat.lt_of_lt_of_le hlt h.size))
theorem TKept.drew {rb:Nat} {a w:World} (h:TKept rb a w):TKept rb a w.drew:=⟨h.os,h.tape,h.output,h.size,h.block,h.own⟩
theorem TKept.far {rb:Nat} {a w:World} (h:TKept rb a w) (hlt:rb<a.heap.size) {p:Addr} (hp:a.heap.size≤p.block) (u:Value):TKept rb a (w.setCell p u):=by
 have hc:(w.setCell p u).cell? ⟨rb,0,none⟩=w.cell? ⟨rb,0,none⟩:=World.cell?_of_block (w:=w) (w':=w.setCell p u) (a:=⟨rb,0,none⟩) (Below.heap_setCell w p u rb (by omega))
 refine ⟨h.os,h.tape,h.output,by have:=h.size;simp;omega,fun k hk hn=>?_,fun k hk ho=>?_⟩
 ·rw [Below.heap_setCell w p u k (by omega)];exact h.block k hk hn
 ·refine h.own k hk ?_
  rcases ho with ho|⟨nv,h1,h2⟩
  ·exact .inl ho
  ·exact .inr ⟨nv,hc ▸ h1,h2⟩
def RowOf (w:World) (rb:Nat) (ty:TypeId) (v:Value) (vs:List Value):Prop:=
 (vs=[]∧v=.slice none 0 0)∨∃g cap c fr,v=.slice (some ⟨g,0,none⟩) vs.length cap∧rb<g∧w.heap[g]?=some (.cells c ty fr)∧¬qv5 w rb g∧∀(j:Nat) (u:Value),vs[j]?=some u→c[j]?=some u
theorem RowOf.kept {w w':World} {rb:Nat} {ty:TypeId} {v:Value} {vs:List Value} (h:RowOf w rb ty v vs) (hk:TKept rb w w'):RowOf w' rb ty v vs:=by
 rcases h with h|⟨g,cap,c,fr,hv,hg,hc,ho,hr⟩
 ·exact .inl h
 ·have hlt:=(Array.getElem?_eq_some_iff.1 hc).1
  exact .inr ⟨g,cap,c,fr,hv,hg,(hk.block g hlt ho).trans hc,fun h=>ho (hk.own g hlt h),hr⟩
theorem RowOf.far {w:World} {rb:Nat} {ty:TypeId} {v:Value} {vs:List Value} (h:RowOf w rb ty v vs) {L:Nat} {ty':TypeId} {c':Array Value} {fr':Nat×Nat} (hL:w.heap[L]?=some (.cells c' ty' fr')) (hne:ty≠ty') (hrb:L≠rb) (j:Nat) (u:Value):RowOf (w.setCell ⟨L,j,none⟩ u) rb ty v vs:=by
 rcases h with h|⟨g,cap,c,fr,hv,hg,hc,ho,hr⟩
 ·exact .inl h
 ·have hgL:g≠L:=fun e=>by subst e;rw [hc] at hL;injection hL with e;injection e with _ e2 _;exact hne e2
  have hc0:(w.setCell ⟨L,j,none⟩ u).cell? ⟨rb,0,none⟩=w.cell? ⟨rb,0,none⟩:=World.cell?_of_block (w:=w) (a:=⟨rb,0,none⟩) (Below.heap_setCell w ⟨L,j,none⟩ u rb (fun e=>hrb e.symm))
  refine .inr ⟨g,cap,c,fr,hv,hg,(Below.heap_setCell w ⟨L,j,none⟩ u g hgL).trans hc,fun h=>ho ?_,hr⟩
  rcases h with h|⟨nv,h1,h2⟩
  ·exact .inl h
  ·exact .inr ⟨nv,hc0 ▸ h1,h2⟩
theorem qt9 {base e size n:Nat} {w w':World} {v:Value} {xs:List Value} (h:w.ownsRow base e size v n xs) (hk:∀g,v.ownBlock=some g→w'.heap[g]?=w.heap[g]?):w'.ownsRow base e size v n xs:=by
 refine ⟨h.1, ?_⟩
 rcases h.2 with hn|⟨g,cap,cur,rfl,hbg,hgg,rest⟩
 ·exact .inl hn
 ·exact .inr ⟨g,cap,cur,rfl,hbg,(hk g rfl).trans hgg,rest⟩
def NodesAt (w:World) (rb:Nat) (nv:Value) (ns:List RN):Prop:=
 ∃rs:List (Value×Value),rs.length=ns.length∧w.ownsRow (rb+1) 241 9 nv ns.length ((ns.zip rs).flatMap fun x=>qt4 x.1 x.2.1 x.2.2) ∧
  ∀(j:Nat) (n:RN) (r:Value×Value),ns[j]?=some n→rs[j]?=some r→RowOf w rb 3 r.1 (qv6 n.ins)∧RowOf w rb 9 r.2 (x9 n.texts)
theorem NodesAt.same {w w':World} {rb:Nat} {nv:Value} {ns:List RN} (h:NodesAt w rb nv ns) (hk:TKept rb w w') (hr:∀k,nv.ownBlock=some k→w'.heap[k]?=w.heap[k]?):NodesAt w' rb nv ns:=by
 obtain ⟨rs,hl,ho,hn⟩:=h
 exact ⟨rs,hl,qt9 ho hr,fun j n r h1 h2=>⟨(hn j n r h1 h2).1.kept hk,(hn j n r h1 h2).2.kept hk⟩⟩
theorem NodesAt.kept {w w':World} {rb:Nat} {nv:Value} {ns:List RN} (h:NodesAt w rb nv ns) (hc:w.cell? ⟨rb,0,none⟩=w'.cell? ⟨rb,0,none⟩) (hk:Kept rb w w'):NodesAt w' rb nv ns:=by
 have hk':=TKept.of_kept hk hc.symm
 refine h.same hk' fun k hk2=>?_
 obtain ⟨rs,hl,ho,hn⟩:=h
 have:=ho.lt k hk2
 exact hk.block k this.2 (by omega)
theorem NodesAt.below {w w':World} {rb:Nat} {nv:Value} {ns:List RN} (h:NodesAt w rb nv ns) (hlt:rb<w.heap.size) (hb:Below w.heap.size w w'):NodesAt w' rb nv ns:=by
 refine h.same (TKept.of_below hb hlt) fun k hk=>?_
 obtain ⟨rs,hl,ho,hn⟩:=h
 exact hb.block k (ho.lt k hk).2
theorem NodesAt.far {w:World} {rb:Nat} {nv:Value} {ns:List RN} (h:NodesAt w rb nv ns) {L:Nat} {ty':TypeId} {c':Array Value} {fr':Nat×Nat} (hL:w.heap[L]?=some (.cells c' ty' fr')) (h1:(3:TypeId)≠ty') (h2:(9:TypeId)≠ty') (hrb:L≠rb) (hnv:nv.ownBlock≠some L) (j:Nat) (u:Value) :
  NodesAt (w.setCell ⟨L,j,none⟩ u) rb nv ns:=by
 obtain ⟨rs,hl,ho,hn⟩:=h
 refine ⟨rs,hl,qt9 ho fun k hk=>Below.heap_setCell w ⟨L,j,none⟩ u k (fun e=>hnv (by have e':k=L:=e;rw [←e'];exact hk)),fun i n r e1 e2=>⟨(hn i n r e1 e2).1.far hL h1 hrb j u,(hn i n r e1 e2).2.far hL h2 hrb j u⟩⟩
theorem NodesAt.nil (w:World) (rb:Nat):NodesAt w rb (.slice none 0 0) []:=⟨[],rfl,World.ownsRow_nil _ _ _ _,fun j n r h=>by simp at h⟩
theorem info_rn:(Tryz.prog.info? 241).map (fun i=>(i.zero,i.size,i.bytes))=some (some (.agg #[.string ⟨#[]⟩,.int .i64 0,.slice none 0 0,.string ⟨#[]⟩,.string ⟨#[]⟩,.slice none 0 0,.int .i64 0,.bool false,.int .i64 0]),9,128):=by kernel_rfl
def appR (ats:Array TypeId) (ty:TypeId) (args:Array Value):Sem Value:=Builtin.append_ ats ty args
theorem qv7 (ats:Array TypeId) (ty:TypeId) (args:Array Value):Builtin.append_ ats ty args=appR ats ty args:=rfl
theorem RowOf.form {w:World} {rb:Nat} {ty:TypeId} {v:Value} {vs:List Value} (h:RowOf w rb ty v vs):∃a c,v=.slice a vs.length c:=by
 rcases h with ⟨rfl,rfl⟩|⟨g,cap,c,fr,hv,_⟩
 ·exact ⟨_,_,rfl⟩
 ·exact ⟨_,_,hv⟩
theorem NodesAt.app {W:World} {rb:Nat} {nv:Value} {ns:List RN} (h:NodesAt W rb nv ns) (c0:W.cell? ⟨rb,0,none⟩=some nv) (hlt:rb<W.heap.size) (n:RN) {iv lv:Value} (hiv:RowOf W rb 3 iv (qv6 n.ins)) (hlv:RowOf W rb 9 lv (x9 n.texts)) (hn:ns.length≤100000) :
  ∃g cap w5,(appR #[233,233] 233 #[nv,.slice (some ⟨W.heap.size,0,none⟩) 1 1]).run Tryz.prog (W.alloc (.cells #[.string (BS n.op),.int .i64 n.at',iv,.string (BS n.str),.string (BS n.esc),lv,.int .i64 n.num,.bool n.neg,.int .i64 n.cls] 241))=.ok (.slice (some ⟨g,0,none⟩) (ns.length+1) cap) w5 ∧
   Hid (w5.heap[rb]?=W.heap[rb]?)∧rb<w5.heap.size ∧
   Hid (NodesAt (w5.setCell ⟨rb,0,none⟩ (.slice (some ⟨g,0,none⟩) (ns.length+1) cap)) rb (.slice (some ⟨g,0,none⟩) (ns.length+1) cap) (ns++[n])) ∧
   Hid (TKept rb W (w5.setCell ⟨rb,0,none⟩ (.slice (some ⟨g,0,none⟩) (ns.length+1) cap))):=by
 obtain ⟨i0,hi,hz0,hz1,hz2⟩:=info_parts info_rn
 obtain ⟨rs,hl,ho,hr⟩:=h
 obtain ⟨ai,ci,hi1⟩:=hiv.form
 obtain ⟨al,cl,hl1⟩:=hlv.form
 obtain ⟨g,cap,w5,hrun,hown,hgrow,hat,_⟩:=run_append_lies (P:=Tryz.prog) (W.alloc (.cells #[.string (BS n.op),.int .i64 n.at',iv,.string (BS n.str),.string (BS n.esc),lv,.int .i64 n.num,.bool n.neg,.int .i64 n.cls] 241)) 233 233 (rb+1) 241 i0 _ 9 128 Tryz.underlying233 hi hz0 hz1 hz2 rfl (by omega) nv ns.length _ (World.ownsRow.alloc ho _)
  ⟨W.heap.size,0,none⟩ 1 1 (qt4 n iv lv) rfl (World.news_of_block (cs:=#[.string (BS n.op),.int .i64 n.at',iv,.string (BS n.str),.string (BS n.esc),lv,.int .i64 n.num,.bool n.neg,.int .i64 n.cls]) (t:=241) (fr:=(0,0)) (heap_alloc_new W _)) (by subst hi1 hl1;simp [qt4,Value.oneCell']) (by omega) (by unfold maxLen;omega) (by omega) (by simp;omega) _ rfl
 have hz5:=hgrow.size
 simp only [World.size_alloc] at hz5
 have hrow:∀k,nv.ownBlock=some k→rb+1≤k∧k<W.heap.size:=fun k hk=>ho.lt k hk
 have hrb:w5.heap[rb]?=W.heap[rb]?:=(hgrow.block rb (by simp;omega) (fun e=>by have:=(hrow rb e.symm).1;omega)).trans (Below.heap_alloc W _ rb hlt)
 have hset:∀k,k≠rb→(w5.setCell ⟨rb,0,none⟩ (.slice (some ⟨g,0,none⟩) (ns.length+1) cap)).heap[k]?=w5.heap[k]?:=fun k hk=>Below.heap_setCell w5 ⟨rb,0,none⟩ _ k hk
 have hb:∀k,k<W.heap.size→nv.ownBlock≠some k→w5.heap[k]?=W.heap[k]?:=fun k hk hn=>(hgrow.block k (by simp;omega) (fun e=>hn e.symm)).trans (Below.heap_alloc W _ k hk)
 have c5:(w5.setCell ⟨rb,0,none⟩ (.slice (some ⟨g,0,none⟩) (ns.length+1) cap)).cell? ⟨rb,0,none⟩=some (.slice (some ⟨g,0,none⟩) (ns.length+1) cap):=by
  have:w5.cell? ⟨rb,0,none⟩=some nv:=(World.cell?_of_block (w:=W) (w':=w5) (a:=⟨rb,0,none⟩) hrb).trans c0
  simp [go_sem,this]
 have hown':∀k,k<W.heap.size→qv5 (w5.setCell ⟨rb,0,none⟩ (.slice (some ⟨g,0,none⟩) (ns.length+1) cap)) rb k→qv5 W rb k:=by
  intro k hk hk2
  rcases hk2 with e|⟨nv',e1,e2⟩
  ·exact .inl e
  ·rw [c5] at e1
   injection e1 with e1
   subst e1
   have hgk:g=k:=by simpa [Value.ownBlock] using e2
   subst hgk
   rcases hat with hat|hat
   ·exact .inr ⟨nv,c0,hat⟩
   ·simp at hat;omega
 have hK:TKept rb W (w5.setCell ⟨rb,0,none⟩ (.slice (some ⟨g,0,none⟩) (ns.length+1) cap)):=by
  refine ⟨hgrow.os,hgrow.tape,hgrow.output,by simp;omega,fun k hk hno=>?_,hown'⟩
  rw [hset k (fun e=>hno (.inl e))]
  exact hb k hk (fun e=>hno (.inr ⟨nv,c0,e⟩))
 refine ⟨g,cap,w5,hrun,v7 hrb,by omega,v7 ⟨rs++[(iv,lv)],by simp [hl], ?_,fun j x r hx hr'=>?_⟩,v7 hK⟩
 ·rw [List.zip_append hl.symm,List.flatMap_append,List.length_append]
  exact ownsRow_setCell_below (by simpa using hown) (by show rb<rb+1;omega) _
 ·by_cases hj:j<ns.length
  ·rw [List.getElem?_append_left hj] at hx
   rw [List.getElem?_append_left (by omega)] at hr'
   exact ⟨(hr j x r hx hr').1.kept hK,(hr j x r hx hr').2.kept hK⟩
  ·have hj2:j=ns.length:=by
    have:=(List.getElem?_eq_some_iff.1 hx).1
    simp at this
    omega
   subst hj2
   obtain rfl:n=x:=by simpa using hx
   rw [←hl] at hr'
   obtain rfl:(iv,lv)=r:=by simpa using hr'
   exact ⟨hiv.kept hK,hlv.kept hK⟩
end
end Go.Proofs.YtfkcaldjphakpaaGreatDoor
