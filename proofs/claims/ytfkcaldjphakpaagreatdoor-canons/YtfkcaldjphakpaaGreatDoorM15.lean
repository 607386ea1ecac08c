/- The document's answer: the reader goes to the next token. The document's answer: what has to come, and what opens something. -/
import Derived.Test.YtfkcaldjphakpaaGreatDoorM14
import Derived.Deep.RegionWith
set_option maxHeartbeats 2000000
namespace Go.Proofs.YtfkcaldjphakpaaGreatDoor
open Go.RowKit
section
theorem TrC.below {w w':World} {rb:Nat} {nv:Value} {s:ByteArray} {k a z:Int} {S:ByteArray} {n op er at':Int} (h:TrC w rb nv s k a z S n op er at') (hb:Below w.heap.size w w'):TrC w' rb nv s k a z S n op er at':=by
 obtain ⟨lt,c0,c1,c2,c3,c4,c5,c6,c7,c8,c9,fz⟩:=h
 obtain ⟨hc,hf⟩:=qa9 hb
 exact ⟨Nat.lt_of_lt_of_le lt hb.size,(hc _ _ lt).trans c0,(hc _ _ lt).trans c1,(hc _ _ lt).trans c2,(hc _ _ lt).trans c3,(hc _ _ lt).trans c4,(hc _ _ lt).trans c5,(hc _ _ lt).trans c6,(hc _ _ lt).trans c7,(hc _ _ lt).trans c8,(hc _ _ lt).trans c9,fun j=>(hf _ _ lt).trans (fz j)⟩
theorem TrC.alloc {w:World} {rb:Nat} {nv:Value} {s:ByteArray} {k a z:Int} {S:ByteArray} {n op er at':Int} (h:TrC w rb nv s k a z S n op er at') (o:Obj):TrC (w.alloc o) rb nv s k a z S n op er at':=h.below ((Below.refl _ _).alloc (Nat.le_refl _) o)
theorem Kept.far {rb:Nat} {a w:World} (h:Kept rb a w) {p:Addr} (hp:a.heap.size≤p.block) (u:Value):Kept rb a (w.setCell p u):=by
 refine ⟨h.os,h.tape,h.output,by have:=h.size;simp;omega,fun k hk hn=>?_⟩
 rw [Below.heap_setCell w p u k (by omega)]
 exact h.block k hk hn
theorem Kept.more {rb:Nat} {a w:World} (h:Kept rb a w) (o:Obj):Kept rb a (w.alloc o):=h.trans (Kept.of_below ((Below.refl _ _).alloc (Nat.le_refl _) o))
theorem qr0 {w:World} {rb:Nat} {nv:Value} {s:ByteArray} {k a:Int} {p:Nat} {S:ByteArray} {n op at':Int} (h:TrC w rb nv s k a p S n op 0 at') (hs:s.size≤200) (hp:p≤s.size) {k' a' z':Int} {S':ByteArray} {n':Int}
  (hT:rTk (qd8 s.data.toList p) (qe5 s.data.toList p) (qi1 s.data.toList p)=.agg #[.int .i64 k',.int .i64 a',.int .i64 z',.string S',.int .i64 n']) :
  Calls Tryz.prog 172 #[.pointer (some ⟨rb,0,none⟩)] w fun e w'=>e=.returned (.tuple #[])∧TrC w' rb nv s k' a' z' S' n' op 0 at'∧Kept rb w w':=by
 have H:=j4 h
 obtain ⟨lt,c0,c1,c2,c3,c4,c5,c6,c7,c8,c9,fz⟩:=h
 have NX:=j4 (rnext_any s hs p hp)
 rw [hT] at NX
 clear hT
 go_enter Tryz.func172,Tryz.ntmps172
 go_wp2_with fail
 go_region_with (go_at_call 213;refine (q9 NX _).mono ?_;rintro e w1 ⟨rfl,hb1⟩;first|(have hb2:Below w.heap.size w w1:=((Below.refl w.heap.size w).drew).trans hb1;have B2:=j4 hb2;obtain ⟨lt',d0,d1,d2,d3,d4,d5,d6,d7,d8,d9,dz⟩:=(q9 H).below hb2;clear hb1 hb2)|(have hb2:Below w.heap.size w w1:=(((Below.refl w.heap.size w).alloc (Nat.le_refl _) _).drew).trans (hb1.mono (by show _≤(w.alloc _).heap.size;simp));have B2:=j4 hb2;obtain ⟨lt',d0,d1,d2,d3,d4,d5,d6,d7,d8,d9,dz⟩:=(q9 H).below hb2;obtain ⟨hc,hf⟩:=qa9 hb1;have hz1:w.heap.size<w1.heap.size:=(by have:=hb1.size;have e:(w.alloc (.cells #[.int .i64 0,.int .i64 0,.int .i64 0,.string ⟨#[]⟩,.int .i64 0] 235)).drew.heap.size=w.heap.size+1:=(by show (w.alloc _).heap.size=_;simp);omega);have e0:w1.cell? ⟨w.heap.size,0,none⟩=some (.int .i64 0):=(hc _ 0 (by show _<(w.alloc _).heap.size;simp)).trans (by show (w.alloc _).cell? _=_;simp);have e1:w1.cell? ⟨w.heap.size,1,none⟩=some (.int .i64 0):=(hc _ 1 (by show _<(w.alloc _).heap.size;simp)).trans (by show (w.alloc _).cell? _=_;simp);have e2:w1.cell? ⟨w.heap.size,2,none⟩=some (.int .i64 0):=(hc _ 2 (by show _<(w.alloc _).heap.size;simp)).trans (by show (w.alloc _).cell? _=_;simp);have e3:w1.cell? ⟨w.heap.size,3,none⟩=some (.string ⟨#[]⟩):=(hc _ 3 (by show _<(w.alloc _).heap.size;simp)).trans (by show (w.alloc _).cell? _=_;simp);have e4:w1.cell? ⟨w.heap.size,4,none⟩=some (.int .i64 0):=(hc _ 4 (by show _<(w.alloc _).heap.size;simp)).trans (by show (w.alloc _).cell? _=_;simp);have ef:∀j,w1.frozen? ⟨w.heap.size,j,none⟩=false:=(fun j=>(hf _ j (by show _<(w.alloc _).heap.size;simp)).trans (by show (w.alloc _).frozen? _=_;simp));have hne:¬rb=w.heap.size:=(by omega);have hne':¬w.heap.size=rb:=(by omega);clear hc hf hb1 hb2))
 all_goals (go_wp2_with fail)
 all_goals go_end0
 all_goals first
  | (
   have _q:=hne
   refine ⟨rfl,⟨by simpa using lt', ?_, ?_, ?_, ?_, ?_, ?_, ?_, ?_, ?_, ?_,fun j=>?_⟩,((((((((((Kept.of_below (q9 B2)).far (p:=⟨w.heap.size,0,none⟩) (Nat.le_refl _) _).far (p:=⟨w.heap.size,1,none⟩) (Nat.le_refl _) _).far (p:=⟨w.heap.size,2,none⟩) (Nat.le_refl _) _).far (p:=⟨w.heap.size,3,none⟩) (Nat.le_refl _) _).far (p:=⟨w.heap.size,4,none⟩) (Nat.le_refl _) _).setCell 2 _).setCell 3 _).setCell 4 _).setCell 5 _).setCell 6 _⟩
   all_goals simp [go_sem,d0,d1,d2,d3,d4,d5,d6,d7,d8,d9,dz])
  | (
   refine ⟨rfl,TrC.alloc ⟨by simpa using lt', ?_, ?_, ?_, ?_, ?_, ?_, ?_, ?_, ?_, ?_,fun j=>?_⟩ _,((((((Kept.of_below (q9 B2)).setCell 2 _).setCell 3 _).setCell 4 _).setCell 5 _).setCell 6 _).more _⟩
   all_goals simp [go_sem,d0,d1,d2,d3,d4,d5,d6,d7,d8,d9,dz])
end
section
def NextIs (s:ByteArray) (p:Nat) (k a z:Int) (S:ByteArray) (n:Int):Prop:=rTk (qd8 s.data.toList p) (qe5 s.data.toList p) (qi1 s.data.toList p)=.agg #[.int .i64 k,.int .i64 a,.int .i64 z,.string S,.int .i64 n]
section
variable {w:World} {rb:Nat} {nv:Value} {s:ByteArray} {k a z:Int} {p:Nat} {S:ByteArray} {n op er at':Int}
theorem jf1 (h:TrC w rb nv s k a p S n op 0 at') (hs:s.size≤200) (hp:p≤s.size) {k' a' z':Int} {S':ByteArray} {n':Int} (hT:NextIs s p k' a' z' S' n') (kind:Int) (X:ByteArray) (hk:k=kind) (hX:(S.toList==X.toList)=true) :
  Calls Tryz.prog 343 #[.pointer (some ⟨rb,0,none⟩),.int .i64 kind,.string X] w fun e w'=>e=.returned (.tuple #[])∧TrC w' rb nv s k' a' z' S' n' op 0 at'∧Kept rb w w':=by
 have IS:=qu9 h kind X
 rw [hX,hk,beq_self_eq_true,Bool.and_true] at IS
 have I:=j4 IS
 have ST:=j4 (qr0 h hs hp hT)
 clear IS h hT hX hk
 go_enter Tryz.func343,Tryz.ntmps343
 go_wp2_with (first|(go_at_call 215;refine (q9 I).mono ?_;rintro e w1 ⟨rfl,rfl⟩)|(go_at_call 172;refine (q9 ST).mono ?_;rintro e w2 ⟨rfl,ht⟩;have HT:=j4 ht;clear ht))
 refine bodyPost_ret (by simp [results,Tryz.results343,go_sem]) rfl ⟨rfl,q9 HT⟩
theorem vp6 (h:TrC w rb nv s k a z S n op 0 at') (kind:Int) (X:ByteArray) (hX:(k==kind&&(S.toList==X.toList))=false) :
  Calls Tryz.prog 343 #[.pointer (some ⟨rb,0,none⟩),.int .i64 kind,.string X] w fun e w'=>e=.returned (.tuple #[])∧TrC w' rb nv s 1 a 0 ⟨#[]⟩ 0 op 2 a∧Kept rb w w':=by
 have IS:=qu9 h kind X
 rw [hX] at IS
 have I:=j4 IS
 have FL:=j4 (qs9 h 2 a)
 obtain ⟨lt,c0,c1,c2,c3,c4,c5,c6,c7,c8,c9,fz⟩:=h
 clear IS hX
 go_enter Tryz.func343,Tryz.ntmps343
 go_wp2_with (first|(go_at_call 215;refine (q9 I).mono ?_;rintro e w1 ⟨rfl,rfl⟩)|(go_at_call 174;refine (q9 FL).mono ?_;rintro e w2 ⟨rfl,ht⟩;have HT:=j4 ht;clear ht))
 go_end0
 exact ⟨rfl,q9 HT⟩
theorem vv1 (h:TrC w rb nv s 1 a z S n op er at') (he:er≠0) (kind:Int) (X:ByteArray) (hk:kind≠1) :
  Calls Tryz.prog 343 #[.pointer (some ⟨rb,0,none⟩),.int .i64 kind,.string X] w fun e w'=>e=.returned (.tuple #[])∧TrC w' rb nv s 1 a 0 ⟨#[]⟩ 0 op er at'∧Kept rb w w':=by
 have IS:=qu9 h kind X
 rw [show ((1:Int)==kind)=false from beq_eq_false_iff_ne.2 (fun e=>hk e.symm),Bool.false_and] at IS
 have I:=j4 IS
 have FL:=j4 (vh2 h he 2 a)
 obtain ⟨lt,c0,c1,c2,c3,c4,c5,c6,c7,c8,c9,fz⟩:=h
 clear IS hk he
 go_enter Tryz.func343,Tryz.ntmps343
 go_wp2_with (first|(go_at_call 215;refine (q9 I).mono ?_;rintro e w1 ⟨rfl,rfl⟩)|(go_at_call 174;refine (q9 FL).mono ?_;rintro e w2 ⟨rfl,ht⟩;have HT:=j4 ht;clear ht))
 go_end0
 exact ⟨rfl,q9 HT⟩
end
end
end Go.Proofs.YtfkcaldjphakpaaGreatDoor
