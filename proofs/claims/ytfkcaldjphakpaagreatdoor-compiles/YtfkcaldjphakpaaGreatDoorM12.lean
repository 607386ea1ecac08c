/- The document's answer. -/
import Derived.Test.YtfkcaldjphakpaaGreatDoorM11
import Derived.Test.YtfkcaldjphakpaaGreatDoorM04
import Derived.Deep.AppendLies
set_option maxHeartbeats 8000000
namespace Go.Proofs.YtfkcaldjphakpaaGreatDoor
open Go.RowKit Go.Proofs.Tryz
section
structure TrC(w:World)(rb:Nat)(nv:Value)(s:ByteArray)(k a z:Int)(S:ByteArray)(n op er at':Int):Prop where
 lt:rb<w.heap.size
 c0:w.cell? ⟨rb,0,none⟩=some nv
 c1:w.cell? ⟨rb,1,none⟩=some (.string s)
 c2:w.cell? ⟨rb,2,none⟩=some (.int .i64 k)
 c3:w.cell? ⟨rb,3,none⟩=some (.int .i64 a)
 c4:w.cell? ⟨rb,4,none⟩=some (.int .i64 z)
 c5:w.cell? ⟨rb,5,none⟩=some (.string S)
 c6:w.cell? ⟨rb,6,none⟩=some (.int .i64 n)
 c7:w.cell? ⟨rb,7,none⟩=some (.int .i64 op)
 c8:w.cell? ⟨rb,8,none⟩=some (.int .i64 er)
 c9:w.cell? ⟨rb,9,none⟩=some (.int .i64 at')
 fz:∀j,w.frozen? ⟨rb,j,none⟩=false
theorem qx0{w:World}{rb:Nat}{nv:Value}{s:ByteArray}{k a z:Int}{S:ByteArray}{n op er at':Int}(h:TrC w rb nv s k a z S n op er at')(kind:Int)(X:ByteArray):
  Calls prog 215 #[.pointer (some ⟨rb,0,none⟩),.int .i64 kind,.string X] w λe w'=>e=.returned (.bool (k==kind&&(S.toList==X.toList)))/\w'=w:=by
 obtain⟨lt,c0,c1,c2,c3,c4,c5,c6,c7,c8,c9,fz⟩:=h;cases hk:(k==kind)
 all_goals
  go_enter func215,ntmps215
  go_wp2_with fail
  all_goals(go_ret;exact⟨rfl,rfl⟩)
theorem qu5{w:World}{rb:Nat}{nv:Value}{s:ByteArray}{k a z:Int}{S:ByteArray}{n op at':Int}(h:TrC w rb nv s k a z S n op 0 at')(er pl:Int):
  Calls prog 174 #[.pointer (some ⟨rb,0,none⟩),.int .i64 er,.int .i64 pl] w λe w'=>e=.returned (.tuple #[])/\TrC w' rb nv s 1 a 0 ⟨#[]⟩ 0 op er pl/\Kept rb w w':=by
 obtain⟨lt,c0,c1,c2,c3,c4,c5,c6,c7,c8,c9,fz⟩:=h;go_enter func174,ntmps174
 go_wp2_with fail
 go_end0
 refine⟨rfl,⟨by simpa using lt, ?_, ?_, ?_, ?_, ?_, ?_, ?_, ?_, ?_, ?_,λj=>?_⟩,(((((((Kept.refl rb w).setCell 8 _).setCell 9 _).setCell 2 _).setCell 3 _).setCell 4 _).setCell 5 _).setCell 6 _⟩
 all_goals simp[go_sem,c0,c1,c2,c3,c4,c5,c6,c7,c8,c9,fz]
theorem vp1{w:World}{rb:Nat}{nv:Value}{s:ByteArray}{k a z:Int}{S:ByteArray}{n op er at':Int}(h:TrC w rb nv s k a z S n op er at')(he:er≠0)(er' pl:Int):
  Calls prog 174 #[.pointer (some ⟨rb,0,none⟩),.int .i64 er',.int .i64 pl] w λe w'=>e=.returned (.tuple #[])/\TrC w' rb nv s 1 a 0 ⟨#[]⟩ 0 op er at'/\Kept rb w w':=by
 obtain⟨lt,c0,c1,c2,c3,c4,c5,c6,c7,c8,c9,fz⟩:=h;have SY:(er==0)=false:=beq_eq_false_iff_ne.2 he;clear he;go_enter func174,ntmps174
 go_wp2_with fail
 go_end0
 refine⟨rfl,⟨by simpa using lt, ?_, ?_, ?_, ?_, ?_, ?_, ?_, ?_, ?_, ?_,λj=>?_⟩,(((((Kept.refl rb w).setCell 2 _).setCell 3 _).setCell 4 _).setCell 5 _).setCell 6 _⟩
 all_goals simp[go_sem,c0,c1,c2,c3,c4,c5,c6,c7,c8,c9,fz]
end
section
theorem TrC.below{w w':World}{rb:Nat}{nv:Value}{s:ByteArray}{k a z:Int}{S:ByteArray}{n op er at':Int}(h:TrC w rb nv s k a z S n op er at')(hb:Below w.heap.size w w'):TrC w' rb nv s k a z S n op er at':=by
 obtain⟨lt,c0,c1,c2,c3,c4,c5,c6,c7,c8,c9,fz⟩:=h;obtain⟨hc,hf⟩:=qb0 hb;exact⟨Nat.lt_of_lt_of_le lt hb.size,(hc _ _ lt).trans c0,(hc _ _ lt).trans c1,(hc _ _ lt).trans c2,(hc _ _ lt).trans c3,(hc _ _ lt).trans c4,(hc _ _ lt).trans c5,(hc _ _ lt).trans c6,(hc _ _ lt).trans c7,(hc _ _ lt).trans c8,(hc _ _ lt).trans c9,λj=>(hf _ _ lt).trans (fz j)⟩
theorem TrC.alloc{w:World}{rb:Nat}{nv:Value}{s:ByteArray}{k a z:Int}{S:ByteArray}{n op er at':Int}(h:TrC w rb nv s k a z S n op er at')(o:Obj):TrC (w.alloc o) rb nv s k a z S n op er at':=h.below ((Below.refl _ _).alloc (Nat.le_refl _) o)
theorem Kept.far{rb:Nat}{a w:World}(h:Kept rb a w){p:Addr}(hp:a.heap.size<=p.block)(u:Value):Kept rb a (w.setCell p u):=by
 refine⟨h.os,h.tape,h.output,by have:=h.size;simp;omega,λk hk hn=>?_⟩;rw[Below.heap_setCell w p u k (by omega)];exact h.block k hk hn
theorem Kept.more{rb:Nat}{a w:World}(h:Kept rb a w)(o:Obj):Kept rb a (w.alloc o):=h.trans (Kept.of_below ((Below.refl _ _).alloc (Nat.le_refl _) o))
theorem qr6{w:World}{rb:Nat}{nv:Value}{s:ByteArray}{k a:Int}{p:Nat}{S:ByteArray}{n op at':Int}(h:TrC w rb nv s k a p S n op 0 at')(hs:s.size<=200)(hp:p<=s.size){k' a' z':Int}{S':ByteArray}{n':Int}
  (hT:rTk (qc0 s.data.toList p) (qc2 s.data.toList p) (qd5 s.data.toList p)=.agg #[.int .i64 k',.int .i64 a',.int .i64 z',.string S',.int .i64 n']) :
  Calls prog 172 #[.pointer (some ⟨rb,0,none⟩)] w λe w'=>e=.returned (.tuple #[])/\TrC w' rb nv s k' a' z' S' n' op 0 at'/\Kept rb w w':=by
 have H:=j3 h;obtain⟨lt,c0,c1,c2,c3,c4,c5,c6,c7,c8,c9,fz⟩:=h;have NX:=j3 (rnext_any s hs p hp);rw[hT]at NX;clear hT;go_enter func172,ntmps172
 go_wp2_with fail
 go_region_with(go_at_call 213;refine(q9 NX _).mono ?_;rintro e w1⟨rfl,A7⟩;first|(have B9:Below w.heap.size w w1:=((Below.refl w.heap.size w).drew).trans A7;have B2:=j3 B9;obtain⟨lt',d0,d1,d2,d3,d4,d5,d6,d7,d8,d9,dz⟩:=(q9 H).below B9;clear A7 B9)|(have B9:Below w.heap.size w w1:=(((Below.refl w.heap.size w).alloc (Nat.le_refl _) _).drew).trans (A7.mono (by show _<=(w.alloc _).heap.size;simp));have B2:=j3 B9;obtain⟨lt',d0,d1,d2,d3,d4,d5,d6,d7,d8,d9,dz⟩:=(q9 H).below B9;obtain⟨hc,hf⟩:=qb0 A7;have C8:w.heap.size<w1.heap.size:=(by have:=A7.size;have e:(w.alloc (.cells #[.int .i64 0,.int .i64 0,.int .i64 0,.string ⟨#[]⟩,.int .i64 0] 235)).drew.heap.size=w.heap.size+1:=(by show(w.alloc _).heap.size=_;simp);omega);have e0:w1.cell? ⟨w.heap.size,0,none⟩=some (.int .i64 0):=(hc _ 0 (by show _<(w.alloc _).heap.size;simp)).trans (by show(w.alloc _).cell? _=_;simp);have e1:w1.cell? ⟨w.heap.size,1,none⟩=some (.int .i64 0):=(hc _ 1 (by show _<(w.alloc _).heap.size;simp)).trans (by show(w.alloc _).cell? _=_;simp);have e2:w1.cell? ⟨w.heap.size,2,none⟩=some (.int .i64 0):=(hc _ 2 (by show _<(w.alloc _).heap.size;simp)).trans (by show(w.alloc _).cell? _=_;simp);have e3:w1.cell? ⟨w.heap.size,3,none⟩=some (.string ⟨#[]⟩):=(hc _ 3 (by show _<(w.alloc _).heap.size;simp)).trans (by show(w.alloc _).cell? _=_;simp);have e4:w1.cell? ⟨w.heap.size,4,none⟩=some (.int .i64 0):=(hc _ 4 (by show _<(w.alloc _).heap.size;simp)).trans (by show(w.alloc _).cell? _=_;simp);have ef:∀j,w1.frozen? ⟨w.heap.size,j,none⟩=false:=(λj=>(hf _ j (by show _<(w.alloc _).heap.size;simp)).trans (by show(w.alloc _).frozen? _=_;simp));have C1:¬rb=w.heap.size:=(by omega);have nK:¬w.heap.size=rb:=(by omega);clear hc hf A7 B9))
 all_goals(go_wp2_with fail)
 all_goals go_end0
 all_goals first
  | (
   have _q:=C1;refine⟨rfl,⟨by simpa using lt', ?_, ?_, ?_, ?_, ?_, ?_, ?_, ?_, ?_, ?_,λj=>?_⟩,((((((((((Kept.of_below (q9 B2)).far (p:=⟨w.heap.size,0,none⟩) (Nat.le_refl _) _).far (p:=⟨w.heap.size,1,none⟩) (Nat.le_refl _) _).far (p:=⟨w.heap.size,2,none⟩) (Nat.le_refl _) _).far (p:=⟨w.heap.size,3,none⟩) (Nat.le_refl _) _).far (p:=⟨w.heap.size,4,none⟩) (Nat.le_refl _) _).setCell 2 _).setCell 3 _).setCell 4 _).setCell 5 _).setCell 6 _⟩
   all_goals simp[go_sem,d0,d1,d2,d3,d4,d5,d6,d7,d8,d9,dz])
  | (
   refine⟨rfl,TrC.alloc ⟨by simpa using lt', ?_, ?_, ?_, ?_, ?_, ?_, ?_, ?_, ?_, ?_,λj=>?_⟩ _,((((((Kept.of_below (q9 B2)).setCell 2 _).setCell 3 _).setCell 4 _).setCell 5 _).setCell 6 _).more _⟩
   all_goals simp[go_sem,d0,d1,d2,d3,d4,d5,d6,d7,d8,d9,dz])
end
section
def NextIs(s:ByteArray)(p:Nat)(k a z:Int)(S:ByteArray)(n:Int):Prop:=rTk (qc0 s.data.toList p) (qc2 s.data.toList p) (qd5 s.data.toList p)=.agg #[.int .i64 k,.int .i64 a,.int .i64 z,.string S,.int .i64 n]
section
variable {w:World} {rb:Nat} {nv:Value} {s:ByteArray} {k a z:Int} {p:Nat} {S:ByteArray} {n op er at':Int}
theorem js4(h:TrC w rb nv s k a p S n op 0 at')(hs:s.size<=200)(hp:p<=s.size){k' a' z':Int}{S':ByteArray}{n':Int}(hT:NextIs s p k' a' z' S' n')(kind:Int)(X:ByteArray)(hk:k=kind)(hX:(S.toList==X.toList)=true):
  Calls prog 343 #[.pointer (some ⟨rb,0,none⟩),.int .i64 kind,.string X] w λe w'=>e=.returned (.tuple #[])/\TrC w' rb nv s k' a' z' S' n' op 0 at'/\Kept rb w w':=by
 have IS:=qx0 h kind X;rw[hX,hk,beq_self_eq_true,Bool.and_true]at IS;have I:=j3 IS;have ST:=j3 (qr6 h hs hp hT);clear IS h hT hX hk;go_enter func343,ntmps343
 go_wp2_with(first|(go_at_call 215;refine(q9 I).mono ?_;rintro e w1⟨rfl,rfl⟩)|(go_at_call 172;refine(q9 ST).mono ?_;rintro e w2⟨rfl,ht⟩;have HT:=j3 ht;clear ht))
 refine bodyPost_ret (by simp[results,results343,go_sem]) rfl ⟨rfl,q9 HT⟩
theorem vx9(h:TrC w rb nv s k a z S n op 0 at')(kind:Int)(X:ByteArray)(hX:(k==kind&&(S.toList==X.toList))=false):
  Calls prog 343 #[.pointer (some ⟨rb,0,none⟩),.int .i64 kind,.string X] w λe w'=>e=.returned (.tuple #[])/\TrC w' rb nv s 1 a 0 ⟨#[]⟩ 0 op 2 a/\Kept rb w w':=by
 have IS:=qx0 h kind X;rw[hX]at IS;have I:=j3 IS;have FL:=j3 (qu5 h 2 a);obtain⟨lt,c0,c1,c2,c3,c4,c5,c6,c7,c8,c9,fz⟩:=h;clear IS hX;go_enter func343,ntmps343
 go_wp2_with(first|(go_at_call 215;refine(q9 I).mono ?_;rintro e w1⟨rfl,rfl⟩)|(go_at_call 174;refine(q9 FL).mono ?_;rintro e w2⟨rfl,ht⟩;have HT:=j3 ht;clear ht))
 go_end0
 exact⟨rfl,q9 HT⟩
theorem je8(h:TrC w rb nv s 1 a z S n op er at')(he:er≠0)(kind:Int)(X:ByteArray)(hk:kind≠1):
  Calls prog 343 #[.pointer (some ⟨rb,0,none⟩),.int .i64 kind,.string X] w λe w'=>e=.returned (.tuple #[])/\TrC w' rb nv s 1 a 0 ⟨#[]⟩ 0 op er at'/\Kept rb w w':=by
 have IS:=qx0 h kind X;rw[show((1:Int)==kind)=false from beq_eq_false_iff_ne.2 (λe=>hk e.symm),Bool.false_and]at IS;have I:=j3 IS;have FL:=j3 (vp1 h he 2 a);obtain⟨lt,c0,c1,c2,c3,c4,c5,c6,c7,c8,c9,fz⟩:=h;clear IS hk he;go_enter func343,ntmps343
 go_wp2_with(first|(go_at_call 215;refine(q9 I).mono ?_;rintro e w1⟨rfl,rfl⟩)|(go_at_call 174;refine(q9 FL).mono ?_;rintro e w2⟨rfl,ht⟩;have HT:=j3 ht;clear ht))
 go_end0
 exact⟨rfl,q9 HT⟩
end
end
section
structure RN where
 op:List UInt8
 at':Int
 ins:List Nat
 str:List UInt8
 esc:List UInt8
 texts:List (List UInt8)
 num:Int
 neg:Bool
 cls:Int
def qx2(n:RN)(iv lv:Value):List Value:=[.string (BS n.op),.int .i64 n.at',iv,.string (BS n.str),.string (BS n.esc),lv,.int .i64 n.num,.bool n.neg,.int .i64 n.cls]
def vb2(l:List Nat):List Value:=l.map λ(i:Nat)=>Value.int .i64 (Int.ofNat i)
def vb1(w:World)(rb k:Nat):Prop:=k=rb\/∃nv,w.cell? ⟨rb,0,none⟩=some nv/\nv.ownBlock=some k
structure TKept(rb:Nat)(w w':World):Prop where
 os:w'.os=w.os
 tape:w'.tape=w.tape
 output:w'.output=w.output
 size:w.heap.size<=w'.heap.size
 block:∀k,k<w.heap.size->¬vb1 w rb k->w'.heap[k]?=w.heap[k]?
 own:∀k,k<w.heap.size->vb1 w' rb k->vb1 w rb k
theorem TKept.refl(rb:Nat)(w:World):TKept rb w w:=⟨rfl,rfl,rfl,Nat.le_refl _,λ_ _ _=>rfl,λ_ _ h=>h⟩
theorem TKept.trans{rb:Nat}{a b c:World}(h:TKept rb a b)(k:TKept rb b c):TKept rb a c:=
 ⟨k.os.trans h.os,k.tape.trans h.tape,k.output.trans h.output,Nat.le_trans h.size k.size,
  λi hi hn=>(k.block i (Nat.lt_of_lt_of_le hi h.size) (λho=>hn (h.own i hi ho))).trans (h.block i hi hn),
  λi hi ho=>h.own i hi (k.own i (Nat.lt_of_lt_of_le hi h.size) ho)⟩
theorem TKept.of_kept{rb:Nat}{w w':World}(h:Kept rb w w')(hc:w'.cell? ⟨rb,0,none⟩=w.cell? ⟨rb,0,none⟩):TKept rb w w':=by
 refine⟨h.os,h.tape,h.output,h.size,λk hk hn=>h.block k hk (λe=>hn (.inl e)),λk hk ho=>?_⟩;rcases ho with ho|⟨nv,h1,h2⟩
 ·exact .inl ho
 ·exact .inr ⟨nv,hc ▸ h1,h2⟩
theorem TKept.of_below{rb:Nat}{w w':World}(h:Below w.heap.size w w')(A1:rb<w.heap.size):TKept rb w w':=TKept.of_kept (Kept.of_below h) ((qb0 h).1 _ _ A1)
theorem TKept.alloc{rb:Nat}{a w:World}(h:TKept rb a w)(A1:rb<a.heap.size)(o:Obj):TKept rb a (w.alloc o):=h.trans (TKept.of_below ((Below.refl _ _).alloc (Nat.le_refl _) o) (Nat.lt_of_lt_of_le A1 h.size))
theorem TKept.drew{rb:Nat}{a w:World}(h:TKept rb a w):TKept rb a w.drew:=⟨h.os,h.tape,h.output,h.size,h.block,h.own⟩
theorem TKept.far{rb:Nat}{a w:World}(h:TKept rb a w)(A1:rb<a.heap.size){p:Addr}(hp:a.heap.size<=p.block)(u:Value):TKept rb a (w.setCell p u):=by
 have hc:(w.setCell p u).cell? ⟨rb,0,none⟩=w.cell? ⟨rb,0,none⟩:=World.cell?_of_block (w:=w) (w':=w.setCell p u) (a:=⟨rb,0,none⟩) (Below.heap_setCell w p u rb (by omega));refine⟨h.os,h.tape,h.output,by have:=h.size;simp;omega,λk hk hn=>?_,λk hk ho=>?_⟩
 ·rw[Below.heap_setCell w p u k (by omega)];exact h.block k hk hn
 ·refine h.own k hk ?_
  rcases ho with ho|⟨nv,h1,h2⟩
  ·exact .inl ho
  ·exact .inr ⟨nv,hc ▸ h1,h2⟩
def RowOf(w:World)(rb:Nat)(ty:TypeId)(v:Value)(vs:List Value):Prop:=
 (vs=[]/\v=.slice none 0 0)\/∃g cap c fr,v=.slice (some ⟨g,0,none⟩) vs.length cap/\rb<g/\w.heap[g]?=some (.cells c ty fr)/\¬vb1 w rb g/\∀(j:Nat) (u:Value),vs[j]?=some u->c[j]?=some u
theorem RowOf.kept{w w':World}{rb:Nat}{ty:TypeId}{v:Value}{vs:List Value}(h:RowOf w rb ty v vs)(hk:TKept rb w w'):RowOf w' rb ty v vs:=by
 rcases h with h|⟨g,cap,c,fr,hv,hg,hc,ho,hr⟩
 ·exact .inl h
 ·have A1:=(Array.getElem?_eq_some_iff.1 hc).1
  exact .inr ⟨g,cap,c,fr,hv,hg,(hk.block g A1 ho).trans hc,λh=>ho (hk.own g A1 h),hr⟩
theorem RowOf.far{w:World}{rb:Nat}{ty:TypeId}{v:Value}{vs:List Value}(h:RowOf w rb ty v vs){L:Nat}{ty':TypeId}{c':Array Value}{fr':Nat×Nat}(hL:w.heap[L]?=some (.cells c' ty' fr'))(C1:ty≠ty')(g9:L≠rb)(j:Nat)(u:Value):RowOf (w.setCell ⟨L,j,none⟩ u) rb ty v vs:=by
 rcases h with h|⟨g,cap,c,fr,hv,hg,hc,ho,hr⟩
 ·exact .inl h
 ·have sJ:g≠L:=λe=>by subst e;rw[hc]at hL;injection hL with e;injection e with _ e2 _;exact C1 e2
  have aM:(w.setCell ⟨L,j,none⟩ u).cell? ⟨rb,0,none⟩=w.cell? ⟨rb,0,none⟩:=World.cell?_of_block (w:=w) (a:=⟨rb,0,none⟩) (Below.heap_setCell w ⟨L,j,none⟩ u rb (λe=>g9 e.symm));refine .inr ⟨g,cap,c,fr,hv,hg,(Below.heap_setCell w ⟨L,j,none⟩ u g sJ).trans hc,λh=>ho ?_,hr⟩;rcases h with h|⟨nv,h1,h2⟩
  ·exact .inl h
  ·exact .inr ⟨nv,aM ▸ h1,h2⟩
theorem qe7{base e size n:Nat}{w w':World}{v:Value}{xs:List Value}(h:w.ownsRow base e size v n xs)(hk:∀g,v.ownBlock=some g->w'.heap[g]?=w.heap[g]?):w'.ownsRow base e size v n xs:=by
 refine⟨h.1, ?_⟩;rcases h.2 with hn|⟨g,cap,cur,rfl,K7,J1,rest⟩
 ·exact .inl hn
 ·exact .inr ⟨g,cap,cur,rfl,K7,(hk g rfl).trans J1,rest⟩
def NodesAt(w:World)(rb:Nat)(nv:Value)(ns:List RN):Prop:=
 ∃rs:List (Value×Value),rs.length=ns.length/\w.ownsRow (rb+1) 241 9 nv ns.length ((ns.zip rs).flatMap λx=>qx2 x.1 x.2.1 x.2.2) /\
  ∀(j:Nat) (n:RN) (r:Value×Value),ns[j]?=some n->rs[j]?=some r->RowOf w rb 3 r.1 (vb2 n.ins)/\RowOf w rb 9 r.2 (qa1 n.texts)
theorem NodesAt.same{w w':World}{rb:Nat}{nv:Value}{ns:List RN}(h:NodesAt w rb nv ns)(hk:TKept rb w w')(hr:∀k,nv.ownBlock=some k->w'.heap[k]?=w.heap[k]?):NodesAt w' rb nv ns:=by
 obtain⟨rs,hl,ho,hn⟩:=h;exact⟨rs,hl,qe7 ho hr,λj n r h1 h2=>⟨(hn j n r h1 h2).1.kept hk,(hn j n r h1 h2).2.kept hk⟩⟩
theorem NodesAt.kept{w w':World}{rb:Nat}{nv:Value}{ns:List RN}(h:NodesAt w rb nv ns)(hc:w.cell? ⟨rb,0,none⟩=w'.cell? ⟨rb,0,none⟩)(hk:Kept rb w w'):NodesAt w' rb nv ns:=by
 have l8:=TKept.of_kept hk hc.symm;refine h.same l8 λk A3=>?_
 obtain⟨rs,hl,ho,hn⟩:=h;have:=ho.lt k A3;exact hk.block k this.2 (by omega)
theorem NodesAt.below{w w':World}{rb:Nat}{nv:Value}{ns:List RN}(h:NodesAt w rb nv ns)(A1:rb<w.heap.size)(hb:Below w.heap.size w w'):NodesAt w' rb nv ns:=by
 refine h.same (TKept.of_below hb A1) λk hk=>?_
 obtain⟨rs,hl,ho,hn⟩:=h;exact hb.block k (ho.lt k hk).2
theorem NodesAt.far{w:World}{rb:Nat}{nv:Value}{ns:List RN}(h:NodesAt w rb nv ns){L:Nat}{ty':TypeId}{c':Array Value}{fr':Nat×Nat}(hL:w.heap[L]?=some (.cells c' ty' fr'))(h1:(3:TypeId)≠ty')(h2:(9:TypeId)≠ty')(g9:L≠rb)(lS:nv.ownBlock≠some L)(j:Nat)(u:Value):
  NodesAt (w.setCell ⟨L,j,none⟩ u) rb nv ns:=by
 obtain⟨rs,hl,ho,hn⟩:=h;refine⟨rs,hl,qe7 ho λk hk=>Below.heap_setCell w ⟨L,j,none⟩ u k (λe=>lS (by have e':k=L:=e;rw[←e'];exact hk)),λi n r e1 e2=>⟨(hn i n r e1 e2).1.far hL h1 g9 j u,(hn i n r e1 e2).2.far hL h2 g9 j u⟩⟩
theorem NodesAt.nil(w:World)(rb:Nat):NodesAt w rb (.slice none 0 0) []:=⟨[],rfl,World.ownsRow_nil _ _ _ _,λj n r h=>by simp at h⟩
theorem info_rn:(prog.info? 241).map (λi=>(i.zero,i.size,i.bytes))=some (some (.agg #[.string ⟨#[]⟩,.int .i64 0,.slice none 0 0,.string ⟨#[]⟩,.string ⟨#[]⟩,.slice none 0 0,.int .i64 0,.bool false,.int .i64 0]),9,128):=by kernel_rfl
def vz2(ats:Array TypeId)(ty:TypeId)(args:Array Value):Sem Value:=Builtin.append_ ats ty args
theorem qe4(ats:Array TypeId)(ty:TypeId)(args:Array Value):Builtin.append_ ats ty args=vz2 ats ty args:=rfl
theorem RowOf.form{w:World}{rb:Nat}{ty:TypeId}{v:Value}{vs:List Value}(h:RowOf w rb ty v vs):∃a c,v=.slice a vs.length c:=by
 rcases h with⟨rfl,rfl⟩|⟨g,cap,c,fr,hv,_⟩
 ·exact⟨_,_,rfl⟩
 ·exact⟨_,_,hv⟩
theorem NodesAt.app{W:World}{rb:Nat}{nv:Value}{ns:List RN}(h:NodesAt W rb nv ns)(c0:W.cell? ⟨rb,0,none⟩=some nv)(A1:rb<W.heap.size)(n:RN){iv lv:Value}(aB:RowOf W rb 3 iv (vb2 n.ins))(t8:RowOf W rb 9 lv (qa1 n.texts))(hn:ns.length<=100000):
  ∃g cap w5,(vz2 #[233,233] 233 #[nv,.slice (some ⟨W.heap.size,0,none⟩) 1 1]).run prog (W.alloc (.cells #[.string (BS n.op),.int .i64 n.at',iv,.string (BS n.str),.string (BS n.esc),lv,.int .i64 n.num,.bool n.neg,.int .i64 n.cls] 241))=.ok (.slice (some ⟨g,0,none⟩) (ns.length+1) cap) w5 /\
   Hid (w5.heap[rb]?=W.heap[rb]?)/\rb<w5.heap.size /\
   Hid (NodesAt (w5.setCell ⟨rb,0,none⟩ (.slice (some ⟨g,0,none⟩) (ns.length+1) cap)) rb (.slice (some ⟨g,0,none⟩) (ns.length+1) cap) (ns++[n])) /\
   Hid (TKept rb W (w5.setCell ⟨rb,0,none⟩ (.slice (some ⟨g,0,none⟩) (ns.length+1) cap))):=by
 obtain⟨i0,hi,I8,C8,F8⟩:=info_parts info_rn;obtain⟨rs,hl,ho,hr⟩:=h;obtain⟨ai,ci,yQ⟩:=aB.form;obtain⟨al,cl,bZ⟩:=t8.form;obtain⟨g,cap,w5,O7,C2,B7,F0,_⟩:=run_append_lies (P:=prog) (W.alloc (.cells #[.string (BS n.op),.int .i64 n.at',iv,.string (BS n.str),.string (BS n.esc),lv,.int .i64 n.num,.bool n.neg,.int .i64 n.cls] 241)) 233 233 (rb+1) 241 i0 _ 9 128 underlying233 hi I8 C8 F8 rfl (by omega) nv ns.length _ (World.ownsRow.alloc ho _)
  ⟨W.heap.size,0,none⟩ 1 1 (qx2 n iv lv) rfl (World.news_of_block (cs:=#[.string (BS n.op),.int .i64 n.at',iv,.string (BS n.str),.string (BS n.esc),lv,.int .i64 n.num,.bool n.neg,.int .i64 n.cls]) (t:=241) (fr:=(0,0)) (heap_alloc_new W _)) (by subst yQ bZ;simp[qx2,Value.oneCell']) (by omega) (by unfold maxLen;omega) (by omega) (by simp;omega) _ rfl
 have lH:=B7.size;simp only[World.size_alloc]at lH;have J3:∀k,nv.ownBlock=some k->rb+1<=k/\k<W.heap.size:=λk hk=>ho.lt k hk
 have g9:w5.heap[rb]?=W.heap[rb]?:=(B7.block rb (by simp;omega) (λe=>by have:=(J3 rb e.symm).1;omega)).trans (Below.heap_alloc W _ rb A1);have V6:∀k,k≠rb->(w5.setCell ⟨rb,0,none⟩ (.slice (some ⟨g,0,none⟩) (ns.length+1) cap)).heap[k]?=w5.heap[k]?:=λk hk=>Below.heap_setCell w5 ⟨rb,0,none⟩ _ k hk
 have hb:∀k,k<W.heap.size->nv.ownBlock≠some k->w5.heap[k]?=W.heap[k]?:=λk hk hn=>(B7.block k (by simp;omega) (λe=>hn e.symm)).trans (Below.heap_alloc W _ k hk)
 have c5:(w5.setCell ⟨rb,0,none⟩ (.slice (some ⟨g,0,none⟩) (ns.length+1) cap)).cell? ⟨rb,0,none⟩=some (.slice (some ⟨g,0,none⟩) (ns.length+1) cap):=by
  have:w5.cell? ⟨rb,0,none⟩=some nv:=(World.cell?_of_block (w:=W) (w':=w5) (a:=⟨rb,0,none⟩) g9).trans c0;simp[go_sem,this]
 have G3:∀k,k<W.heap.size->vb1 (w5.setCell ⟨rb,0,none⟩ (.slice (some ⟨g,0,none⟩) (ns.length+1) cap)) rb k->vb1 W rb k:=by
  intro k hk A3;rcases A3 with e|⟨nv',e1,e2⟩
  ·exact .inl e
  ·rw[c5]at e1
   injection e1 with e1;subst e1;have ML:g=k:=by simpa [Value.ownBlock]using e2
   subst ML;rcases F0 with F0|F0
   ·exact .inr ⟨nv,c0,F0⟩
   ·simp at F0;omega
 have hK:TKept rb W (w5.setCell ⟨rb,0,none⟩ (.slice (some ⟨g,0,none⟩) (ns.length+1) cap)):=by
  refine⟨B7.os,B7.tape,B7.output,by simp;omega,λk hk D7=>?_,G3⟩;rw[V6 k (λe=>D7 (.inl e))];exact hb k hk (λe=>D7 (.inr ⟨nv,c0,e⟩))
 refine⟨g,cap,w5,O7,j3 g9,by omega,j3 ⟨rs++[(iv,lv)],by simp[hl], ?_,λj x r hx hr'=>?_⟩,j3 hK⟩
 ·rw[List.zip_append hl.symm,List.flatMap_append,List.length_append]
  exact ownsRow_setCell_below (by simpa using C2) (by show rb<rb+1;omega) _
 ·by_cases hj:j<ns.length
  ·rw[List.getElem?_append_left hj]at hx
   rw[List.getElem?_append_left (by omega)]at hr';exact⟨(hr j x r hx hr').1.kept hK,(hr j x r hx hr').2.kept hK⟩
  ·have yN:j=ns.length:=by
    have:=(List.getElem?_eq_some_iff.1 hx).1;simp at this;omega
   subst yN;obtain rfl:n=x:=by simpa using hx
   rw[←hl]at hr';obtain rfl:(iv,lv)=r:=by simpa using hr'
   exact⟨aB.kept hK,t8.kept hK⟩
end
end Go.Proofs.YtfkcaldjphakpaaGreatDoor
