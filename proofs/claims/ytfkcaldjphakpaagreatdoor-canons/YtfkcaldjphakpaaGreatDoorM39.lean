/- The document's answer: the core of a node: one operand. The document's answer: the core of a node: two operands. The document's answer: the core of a node: LIKE. -/
import Derived.Test.YtfkcaldjphakpaaGreatDoorM38
set_option maxHeartbeats 16000000
set_option maxRecDepth 100000
namespace Go.Proofs.YtfkcaldjphakpaaGreatDoor
open Go.RowKit
section
theorem rcore_not {w:World} {a N c:Int} {iv lv inv:Value} {S E:ByteArray} {neg:Bool} {b n cap:Nat} {g:RF} (hi:inv=.slice (some ⟨b,0,none⟩) n cap) (hn:1≤n) (hlb:b<w.heap.size) (hc:∀k,k<6→w.cell? ⟨b,k,none⟩=(qa3 g)[k]?)
  {PZ P:RF→World→Prop} (HZ:qg9 w PZ) (H1:qj3 w PZ P 179 fun _=>#[g.v])
  {Q:Ending→World→Prop} (HQ:qi7 w P Q):Calls Tryz.prog 178 #[.agg #[.string ⟨#[78,79,84]⟩,.int .i64 a,iv,.string S,.string E,lv,.int .i64 N,.bool neg,.int .i64 c],inv] w Q:=by
 have DZ:=j4 HZ
 have D1:=j4 H1
 have HQ':=j4 HQ
 simp only [qg9,qj3,qi7,RF.v] at DZ D1 HQ'
 have hW2:Hid (Below w.heap.size w ((w.alloc (.cells #[.string ⟨#[78,79,84]⟩,.int .i64 a,iv,.string S,.string E,lv,.int .i64 N,.bool neg,.int .i64 c] 241)).alloc (.cells #[.string ⟨#[]⟩,.string ⟨#[]⟩,.int .i64 0,.slice none 0 0,.slice none 0 0,.slice none 0 0] 184))):=j4 (((Below.refl _ _).alloc (Nat.le_refl _) _).alloc (by simp) _)
 clear HZ H1 HQ
 have KB:Hid (∀W,Below w.heap.size w W→(W.cell? ⟨b,0,none⟩=some (.string g.op)∧W.cell? ⟨b,1,none⟩=some (.string (BS g.text))∧W.cell? ⟨b,2,none⟩=some (.int .i64 g.cls)∧W.cell? ⟨b,3,none⟩=some (.slice g.pa g.pn g.pc)∧W.cell? ⟨b,4,none⟩=some (.slice g.ta g.tn g.tc)∧W.cell? ⟨b,5,none⟩=some (.slice g.ra g.rn g.rc))):=j4 fun W hb=>jb8 fun i hi=>(hb.cell (p:=⟨b,i,none⟩) hlb).trans (hc i hi)
 obtain ⟨c0,c1,c2,c3,c4,c5⟩:=q9 KB w (Below.refl _ _)
 have np:¬b=w.heap.size:=by omega
 have np1:¬b=w.heap.size+1:=by omega
 have np2:¬w.heap.size+1=b:=by omega
 have hn0:0<n:=by omega
 have hni0:(0:Int)<(n:Int):=by omega
 clear hc
 subst hi
 go_enter Tryz.func178,Tryz.ntmps178
 go_wp2_with (first|(go_at_call 179;refine (q9 D1 _ _ _ (q9 HBZ) rl (q9 HPZ) (q9 HBV)).mono ?_;rintro e w1 ⟨hb1,r,rfl,hp⟩;have HB1:=j4 (j6 (j6 (q9 HBZ) (q9 HBV)) hb1);obtain ⟨-,-,-,-,-,-,-,-,-,q0,q1,q2,q3,q4,q5,qz,ql,-,-,-,-⟩:=(q9 HNV).below hb1;have HPP:=j4 hp;clear hb1 hp)|(go_at_call 224;refine (q9 DZ _ (q9 hW2) (by simp)).mono ?_;rintro e wz ⟨hbz,z,rfl,hpz⟩;have HBZ:=j4 (j6 (q9 hW2) hbz);have hnz:=qm5.below hbz;have HNV:=j4 (hnz.alloc (.cells #[.string z.op,.string (BS z.text),.int .i64 z.cls,.slice z.pa z.pn z.pc,.slice z.ta z.tn z.tc,.slice z.ra z.rn z.rc] 184));have HBV:=j4 ((Below.refl wz.heap.size wz).alloc (Nat.le_refl _) (.cells #[.string z.op,.string (BS z.text),.int .i64 z.cls,.slice z.pa z.pn z.pc,.slice z.ta z.tn z.tc,.slice z.ra z.rn z.rc] 184));have HPZ:=j4 hpz;obtain ⟨n0,-,-,-,-,-,-,-,-,r0,r1,r2,r3,r4,r5,rz,rl,nz0,nz1,nz2,nz3⟩:=hnz;obtain ⟨m0,-,-,-,-,-,-,-,-,s0,s1,s2,s3,s4,s5,sz,sl,-,-,-,-⟩:=q9 HNV;clear hbz hpz;obtain ⟨v0,v1,v2,v3,v4,v5⟩:=q9 KB _ (j6 (q9 HBZ) (q9 HBV));have nb0:¬b=wz.heap.size:=(by omega);have nb1:¬wz.heap.size=b:=(by omega)))
 all_goals refine bodyPost_ret (by simp [results,Tryz.results178,go_sem,q0,q1,q2,q3,q4,q5]<;>rfl) rfl ?_
 all_goals exact q9 HQ' r w1 _ (q9 HB1) (q9 HPP) (qj0 _ _ _ _ _ _ _ _)
theorem vj7 {w:World} {a N c:Int} {iv lv inv:Value} {S E:ByteArray} {neg:Bool} {b n cap:Nat} {g:RF} (hi:inv=.slice (some ⟨b,0,none⟩) n cap) (hn:1≤n) (hlb:b<w.heap.size) (hc:∀k,k<6→w.cell? ⟨b,k,none⟩=(qa3 g)[k]?) {O O2:ByteArray} (ho:(O=⟨#[112]⟩∧O2=⟨#[43]⟩)∨(O=⟨#[110]⟩∧O2=⟨#[45]⟩))
  {PZ P:RF→World→Prop} (HZ:qg9 w PZ) (H1:qj3 w PZ P 227 fun z=>#[.string O2,z.v,g.v])
  {Q:Ending→World→Prop} (HQ:qi7 w P Q):Calls Tryz.prog 178 #[.agg #[.string O,.int .i64 a,iv,.string S,.string E,lv,.int .i64 N,.bool neg,.int .i64 c],inv] w Q:=by
 have DZ:=j4 HZ
 have D1:=j4 H1
 have HQ':=j4 HQ
 simp only [qg9,qj3,qi7,RF.v] at DZ D1 HQ'
 have hW2:Hid (Below w.heap.size w ((w.alloc (.cells #[.string O,.int .i64 a,iv,.string S,.string E,lv,.int .i64 N,.bool neg,.int .i64 c] 241)).alloc (.cells #[.string ⟨#[]⟩,.string ⟨#[]⟩,.int .i64 0,.slice none 0 0,.slice none 0 0,.slice none 0 0] 184))):=j4 (((Below.refl _ _).alloc (Nat.le_refl _) _).alloc (by simp) _)
 clear HZ H1 HQ
 have KB:Hid (∀W,Below w.heap.size w W→(W.cell? ⟨b,0,none⟩=some (.string g.op)∧W.cell? ⟨b,1,none⟩=some (.string (BS g.text))∧W.cell? ⟨b,2,none⟩=some (.int .i64 g.cls)∧W.cell? ⟨b,3,none⟩=some (.slice g.pa g.pn g.pc)∧W.cell? ⟨b,4,none⟩=some (.slice g.ta g.tn g.tc)∧W.cell? ⟨b,5,none⟩=some (.slice g.ra g.rn g.rc))):=j4 fun W hb=>jb8 fun i hi=>(hb.cell (p:=⟨b,i,none⟩) hlb).trans (hc i hi)
 obtain ⟨c0,c1,c2,c3,c4,c5⟩:=q9 KB w (Below.refl _ _)
 have np:¬b=w.heap.size:=by omega
 have np1:¬b=w.heap.size+1:=by omega
 have np2:¬w.heap.size+1=b:=by omega
 have hn0:0<n:=by omega
 have hni0:(0:Int)<(n:Int):=by omega
 clear hc
 subst hi
 rcases ho with ⟨rfl,rfl⟩|⟨rfl,rfl⟩
 all_goals go_enter Tryz.func178,Tryz.ntmps178
 all_goals go_wp2_with (go_at_call 224;refine (q9 DZ _ (q9 hW2) (by simp)).mono ?_;rintro e wz ⟨hbz,z,rfl,hpz⟩;have HBZ:=j4 (j6 (q9 hW2) hbz);have hnz:=qm5.below hbz;have HNV:=j4 (hnz.alloc (.cells #[.string z.op,.string (BS z.text),.int .i64 z.cls,.slice z.pa z.pn z.pc,.slice z.ta z.tn z.tc,.slice z.ra z.rn z.rc] 184));have HBV:=j4 ((Below.refl wz.heap.size wz).alloc (Nat.le_refl _) (.cells #[.string z.op,.string (BS z.text),.int .i64 z.cls,.slice z.pa z.pn z.pc,.slice z.ta z.tn z.tc,.slice z.ra z.rn z.rc] 184));have HPZ:=j4 hpz;obtain ⟨n0,-,-,-,-,-,-,-,-,r0,r1,r2,r3,r4,r5,rz,rl,nz0,nz1,nz2,nz3⟩:=hnz;obtain ⟨m0,-,-,-,-,-,-,-,-,s0,s1,s2,s3,s4,s5,sz,sl,-,-,-,-⟩:=q9 HNV;clear hbz hpz;obtain ⟨v0,v1,v2,v3,v4,v5⟩:=q9 KB _ (j6 (q9 HBZ) (q9 HBV));have nb0:¬b=wz.heap.size:=(by omega);have nb1:¬wz.heap.size=b:=(by omega))
 all_goals go_region_held3 (fun W=>W.cell? ⟨wz.heap.size,0,none⟩=some (.string z.op)∧W.cell? ⟨wz.heap.size,1,none⟩=some (.string (BS z.text))∧W.cell? ⟨wz.heap.size,2,none⟩=some (.int .i64 z.cls)∧W.cell? ⟨wz.heap.size,3,none⟩=some (.slice z.pa z.pn z.pc)∧W.cell? ⟨wz.heap.size,4,none⟩=some (.slice z.ta z.tn z.tc)∧W.cell? ⟨wz.heap.size,5,none⟩=some (.slice z.ra z.rn z.rc)∧W.cell? ⟨b,0,none⟩=some (.string g.op)∧W.cell? ⟨b,1,none⟩=some (.string (BS g.text))∧W.cell? ⟨b,2,none⟩=some (.int .i64 g.cls)∧W.cell? ⟨b,3,none⟩=some (.slice g.pa g.pn g.pc)∧W.cell? ⟨b,4,none⟩=some (.slice g.ta g.tn g.tc)∧W.cell? ⟨b,5,none⟩=some (.slice g.ra g.rn g.rc)) (first|with_reducible assumption|go_keep) (first|(go_at_call 227;refine (q9 D1 _ _ _ (q9 HBZ) rl (q9 HPZ) (q9 HBV).drew).mono ?_;rintro e w1 ⟨hb1,r,rfl,hp⟩;have HB1:=j4 (j6 (j6 (q9 HBZ) (q9 HBV).drew) hb1);obtain ⟨-,-,-,-,-,-,-,-,-,q0,q1,q2,q3,q4,q5,qz,ql,-,-,-,-⟩:=(q9 HNV).drew.below hb1;have HPP:=j4 hp;have hS:(w1.cell? ⟨wz.heap.size,0,none⟩=some (.string z.op)∧w1.cell? ⟨wz.heap.size,1,none⟩=some (.string (BS z.text))∧w1.cell? ⟨wz.heap.size,2,none⟩=some (.int .i64 z.cls)∧w1.cell? ⟨wz.heap.size,3,none⟩=some (.slice z.pa z.pn z.pc)∧w1.cell? ⟨wz.heap.size,4,none⟩=some (.slice z.ta z.tn z.tc)∧w1.cell? ⟨wz.heap.size,5,none⟩=some (.slice z.ra z.rn z.rc)∧w1.cell? ⟨b,0,none⟩=some (.string g.op)∧w1.cell? ⟨b,1,none⟩=some (.string (BS g.text))∧w1.cell? ⟨b,2,none⟩=some (.int .i64 g.cls)∧w1.cell? ⟨b,3,none⟩=some (.slice g.pa g.pn g.pc)∧w1.cell? ⟨b,4,none⟩=some (.slice g.ta g.tn g.tc)∧w1.cell? ⟨b,5,none⟩=some (.slice g.ra g.rn g.rc)):=(by have hcz:=(qa9 hb1).1;exact ⟨(hcz _ 0 (by show wz.heap.size<(wz.alloc _).heap.size;simp)).trans (by show (wz.alloc _).cell? _=_;simp [go_sem]),(hcz _ 1 (by show wz.heap.size<(wz.alloc _).heap.size;simp)).trans (by show (wz.alloc _).cell? _=_;simp [go_sem]),(hcz _ 2 (by show wz.heap.size<(wz.alloc _).heap.size;simp)).trans (by show (wz.alloc _).cell? _=_;simp [go_sem]),(hcz _ 3 (by show wz.heap.size<(wz.alloc _).heap.size;simp)).trans (by show (wz.alloc _).cell? _=_;simp [go_sem]),(hcz _ 4 (by show wz.heap.size<(wz.alloc _).heap.size;simp)).trans (by show (wz.alloc _).cell? _=_;simp [go_sem]),(hcz _ 5 (by show wz.heap.size<(wz.alloc _).heap.size;simp)).trans (by show (wz.alloc _).cell? _=_;simp [go_sem]),q9 KB _ (q9 HB1)⟩);clear hb1 hp))
 all_goals go_wp2_with fail
 all_goals refine bodyPost_ret (by simp [results,Tryz.results178,go_sem,q0,q1,q2,q3,q4,q5]<;>rfl) rfl ?_
 all_goals exact q9 HQ' r w1 _ (q9 HB1) (q9 HPP) (qj0 _ _ _ _ _ _ _ _)
theorem vj6 {w:World} {a N c:Int} {iv lv inv:Value} {S E:ByteArray} {neg:Bool} {b n cap:Nat} {g h:RF} (hi:inv=.slice (some ⟨b,0,none⟩) n cap) (hn:2≤n) (hlb:b<w.heap.size) (hc:∀k,k<12→w.cell? ⟨b,k,none⟩=(qa3 g++qa3 h)[k]?) {O O2:ByteArray} (ho:(O=⟨#[62]⟩∧O2=⟨#[60]⟩)∨(O=⟨#[62,61]⟩∧O2=⟨#[60,61]⟩))
  {PZ P:RF→World→Prop} (HZ:qg9 w PZ) (H1:qj3 w PZ P 227 fun _=>#[.string O2,h.v,g.v])
  {Q:Ending→World→Prop} (HQ:qi7 w P Q):Calls Tryz.prog 178 #[.agg #[.string O,.int .i64 a,iv,.string S,.string E,lv,.int .i64 N,.bool neg,.int .i64 c],inv] w Q:=by
 have DZ:=j4 HZ
 have D1:=j4 H1
 have HQ':=j4 HQ
 simp only [qg9,qj3,qi7,RF.v] at DZ D1 HQ'
 have hW2:Hid (Below w.heap.size w ((w.alloc (.cells #[.string O,.int .i64 a,iv,.string S,.string E,lv,.int .i64 N,.bool neg,.int .i64 c] 241)).alloc (.cells #[.string ⟨#[]⟩,.string ⟨#[]⟩,.int .i64 0,.slice none 0 0,.slice none 0 0,.slice none 0 0] 184))):=j4 (((Below.refl _ _).alloc (Nat.le_refl _) _).alloc (by simp) _)
 clear HZ H1 HQ
 have KB:Hid (∀W,Below w.heap.size w W→(W.cell? ⟨b,0,none⟩=some (.string g.op)∧W.cell? ⟨b,1,none⟩=some (.string (BS g.text))∧W.cell? ⟨b,2,none⟩=some (.int .i64 g.cls)∧W.cell? ⟨b,3,none⟩=some (.slice g.pa g.pn g.pc)∧W.cell? ⟨b,4,none⟩=some (.slice g.ta g.tn g.tc)∧W.cell? ⟨b,5,none⟩=some (.slice g.ra g.rn g.rc)∧W.cell? ⟨b,6,none⟩=some (.string h.op)∧W.cell? ⟨b,7,none⟩=some (.string (BS h.text))∧W.cell? ⟨b,8,none⟩=some (.int .i64 h.cls)∧W.cell? ⟨b,9,none⟩=some (.slice h.pa h.pn h.pc)∧W.cell? ⟨b,10,none⟩=some (.slice h.ta h.tn h.tc)∧W.cell? ⟨b,11,none⟩=some (.slice h.ra h.rn h.rc))):=j4 fun W hb=>rowC2 fun i hi=>(hb.cell (p:=⟨b,i,none⟩) hlb).trans (hc i hi)
 obtain ⟨c0,c1,c2,c3,c4,c5,c6,c7,c8,c9,c10,c11⟩:=q9 KB w (Below.refl _ _)
 have np:¬b=w.heap.size:=by omega
 have np1:¬b=w.heap.size+1:=by omega
 have np2:¬w.heap.size+1=b:=by omega
 have hn0:0<n:=by omega
 have hni0:(0:Int)<(n:Int):=by omega
 have hn1:1<n:=by omega
 have hni1:(1:Int)<(n:Int):=by omega
 clear hc
 subst hi
 rcases ho with ⟨rfl,rfl⟩|⟨rfl,rfl⟩
 all_goals go_enter Tryz.func178,Tryz.ntmps178
 all_goals go_wp2_with (go_at_call 224;refine (q9 DZ _ (q9 hW2) (by simp)).mono ?_;rintro e wz ⟨hbz,z,rfl,hpz⟩;have HBZ:=j4 (j6 (q9 hW2) hbz);have hnz:=qm5.below hbz;have HNV:=j4 (hnz.alloc (.cells #[.string z.op,.string (BS z.text),.int .i64 z.cls,.slice z.pa z.pn z.pc,.slice z.ta z.tn z.tc,.slice z.ra z.rn z.rc] 184));have HBV:=j4 ((Below.refl wz.heap.size wz).alloc (Nat.le_refl _) (.cells #[.string z.op,.string (BS z.text),.int .i64 z.cls,.slice z.pa z.pn z.pc,.slice z.ta z.tn z.tc,.slice z.ra z.rn z.rc] 184));have HPZ:=j4 hpz;obtain ⟨n0,-,-,-,-,-,-,-,-,r0,r1,r2,r3,r4,r5,rz,rl,nz0,nz1,nz2,nz3⟩:=hnz;obtain ⟨m0,-,-,-,-,-,-,-,-,s0,s1,s2,s3,s4,s5,sz,sl,-,-,-,-⟩:=q9 HNV;clear hbz hpz;obtain ⟨v0,v1,v2,v3,v4,v5,v6,v7,v8,v9,v10,v11⟩:=q9 KB _ (j6 (q9 HBZ) (q9 HBV));have nb0:¬b=wz.heap.size:=(by omega);have nb1:¬wz.heap.size=b:=(by omega))
 all_goals go_region_held3 (fun W=>W.cell? ⟨b,0,none⟩=some (.string g.op)∧W.cell? ⟨b,1,none⟩=some (.string (BS g.text))∧W.cell? ⟨b,2,none⟩=some (.int .i64 g.cls)∧W.cell? ⟨b,3,none⟩=some (.slice g.pa g.pn g.pc)∧W.cell? ⟨b,4,none⟩=some (.slice g.ta g.tn g.tc)∧W.cell? ⟨b,5,none⟩=some (.slice g.ra g.rn g.rc)∧W.cell? ⟨b,6,none⟩=some (.string h.op)∧W.cell? ⟨b,7,none⟩=some (.string (BS h.text))∧W.cell? ⟨b,8,none⟩=some (.int .i64 h.cls)∧W.cell? ⟨b,9,none⟩=some (.slice h.pa h.pn h.pc)∧W.cell? ⟨b,10,none⟩=some (.slice h.ta h.tn h.tc)∧W.cell? ⟨b,11,none⟩=some (.slice h.ra h.rn h.rc)) (first|with_reducible assumption|go_keep) (first|(go_at_call 227;refine (q9 D1 _ _ _ (q9 HBZ) rl (q9 HPZ) (q9 HBV).drew).mono ?_;rintro e w1 ⟨hb1,r,rfl,hp⟩;have HB1:=j4 (j6 (j6 (q9 HBZ) (q9 HBV).drew) hb1);obtain ⟨-,-,-,-,-,-,-,-,-,q0,q1,q2,q3,q4,q5,qz,ql,-,-,-,-⟩:=(q9 HNV).drew.below hb1;have HPP:=j4 hp;have hS:(w1.cell? ⟨b,0,none⟩=some (.string g.op)∧w1.cell? ⟨b,1,none⟩=some (.string (BS g.text))∧w1.cell? ⟨b,2,none⟩=some (.int .i64 g.cls)∧w1.cell? ⟨b,3,none⟩=some (.slice g.pa g.pn g.pc)∧w1.cell? ⟨b,4,none⟩=some (.slice g.ta g.tn g.tc)∧w1.cell? ⟨b,5,none⟩=some (.slice g.ra g.rn g.rc)∧w1.cell? ⟨b,6,none⟩=some (.string h.op)∧w1.cell? ⟨b,7,none⟩=some (.string (BS h.text))∧w1.cell? ⟨b,8,none⟩=some (.int .i64 h.cls)∧w1.cell? ⟨b,9,none⟩=some (.slice h.pa h.pn h.pc)∧w1.cell? ⟨b,10,none⟩=some (.slice h.ta h.tn h.tc)∧w1.cell? ⟨b,11,none⟩=some (.slice h.ra h.rn h.rc)):=q9 KB _ (q9 HB1);clear hb1 hp))
 all_goals go_wp2_with fail
 all_goals refine bodyPost_ret (by simp [results,Tryz.results178,go_sem,q0,q1,q2,q3,q4,q5]<;>rfl) rfl ?_
 all_goals exact q9 HQ' r w1 _ (q9 HB1) (q9 HPP) (qj0 _ _ _ _ _ _ _ _)
end
section
theorem rcore_two {w:World} {a N c:Int} {iv lv inv:Value} {S E:ByteArray} {neg:Bool} {b n cap:Nat} {g h:RF} (hi:inv=.slice (some ⟨b,0,none⟩) n cap) (hn:2≤n) (hlb:b<w.heap.size) (hc:∀k,k<12→w.cell? ⟨b,k,none⟩=(qa3 g++qa3 h)[k]?) {O:ByteArray} (ho:∀l∈[[110,97,109,101],[110,117,109,98,101,114],[116,101,120,116],[84,82,85,69],[70,65,76,83,69],[78,79,84],[112],[110],[60,62],[62],[62,61],[66,69,84,87,69,69,78],[73,78],[78,85,76,76],[76,73,75,69]],(O.toList==l)=false)
  {PZ P:RF→World→Prop} (HZ:qg9 w PZ) (H1:qj3 w PZ P 227 fun _=>#[.string O,g.v,h.v])
  {Q:Ending→World→Prop} (HQ:qi7 w P Q):Calls Tryz.prog 178 #[.agg #[.string O,.int .i64 a,iv,.string S,.string E,lv,.int .i64 N,.bool neg,.int .i64 c],inv] w Q:=by
 have DZ:=j4 HZ
 have D1:=j4 H1
 have HQ':=j4 HQ
 simp only [qg9,qj3,qi7,RF.v] at DZ D1 HQ'
 have hW2:Hid (Below w.heap.size w ((w.alloc (.cells #[.string O,.int .i64 a,iv,.string S,.string E,lv,.int .i64 N,.bool neg,.int .i64 c] 241)).alloc (.cells #[.string ⟨#[]⟩,.string ⟨#[]⟩,.int .i64 0,.slice none 0 0,.slice none 0 0,.slice none 0 0] 184))):=j4 (((Below.refl _ _).alloc (Nat.le_refl _) _).alloc (by simp) _)
 clear HZ H1 HQ
 have KB:Hid (∀W,Below w.heap.size w W→(W.cell? ⟨b,0,none⟩=some (.string g.op)∧W.cell? ⟨b,1,none⟩=some (.string (BS g.text))∧W.cell? ⟨b,2,none⟩=some (.int .i64 g.cls)∧W.cell? ⟨b,3,none⟩=some (.slice g.pa g.pn g.pc)∧W.cell? ⟨b,4,none⟩=some (.slice g.ta g.tn g.tc)∧W.cell? ⟨b,5,none⟩=some (.slice g.ra g.rn g.rc)∧W.cell? ⟨b,6,none⟩=some (.string h.op)∧W.cell? ⟨b,7,none⟩=some (.string (BS h.text))∧W.cell? ⟨b,8,none⟩=some (.int .i64 h.cls)∧W.cell? ⟨b,9,none⟩=some (.slice h.pa h.pn h.pc)∧W.cell? ⟨b,10,none⟩=some (.slice h.ta h.tn h.tc)∧W.cell? ⟨b,11,none⟩=some (.slice h.ra h.rn h.rc))):=j4 fun W hb=>rowC2 fun i hi=>(hb.cell (p:=⟨b,i,none⟩) hlb).trans (hc i hi)
 obtain ⟨c0,c1,c2,c3,c4,c5,c6,c7,c8,c9,c10,c11⟩:=q9 KB w (Below.refl _ _)
 have np:¬b=w.heap.size:=by omega
 have np1:¬b=w.heap.size+1:=by omega
 have np2:¬w.heap.size+1=b:=by omega
 have hn0:0<n:=by omega
 have hni0:(0:Int)<(n:Int):=by omega
 have hn1:1<n:=by omega
 have hni1:(1:Int)<(n:Int):=by omega
 clear hc
 subst hi
 have k0:(O.toList==[110,97,109,101])=false:=ho _ (by simp)
 have k1:(O.toList==[110,117,109,98,101,114])=false:=ho _ (by simp)
 have k2:(O.toList==[116,101,120,116])=false:=ho _ (by simp)
 have k3:(O.toList==[84,82,85,69])=false:=ho _ (by simp)
 have k4:(O.toList==[70,65,76,83,69])=false:=ho _ (by simp)
 have k5:(O.toList==[78,79,84])=false:=ho _ (by simp)
 have k6:(O.toList==[112])=false:=ho _ (by simp)
 have k7:(O.toList==[110])=false:=ho _ (by simp)
 have k8:(O.toList==[60,62])=false:=ho _ (by simp)
 have k9:(O.toList==[62])=false:=ho _ (by simp)
 have k10:(O.toList==[62,61])=false:=ho _ (by simp)
 have k11:(O.toList==[66,69,84,87,69,69,78])=false:=ho _ (by simp)
 have k12:(O.toList==[73,78])=false:=ho _ (by simp)
 have k13:(O.toList==[78,85,76,76])=false:=ho _ (by simp)
 have k14:(O.toList==[76,73,75,69])=false:=ho _ (by simp)
 clear ho
 go_enter Tryz.func178,Tryz.ntmps178
 go_wp2_with (go_at_call 224;refine (q9 DZ _ (q9 hW2) (by simp)).mono ?_;rintro e wz ⟨hbz,z,rfl,hpz⟩;have HBZ:=j4 (j6 (q9 hW2) hbz);have hnz:=qm5.below hbz;have HNV:=j4 (hnz.alloc (.cells #[.string z.op,.string (BS z.text),.int .i64 z.cls,.slice z.pa z.pn z.pc,.slice z.ta z.tn z.tc,.slice z.ra z.rn z.rc] 184));have HBV:=j4 ((Below.refl wz.heap.size wz).alloc (Nat.le_refl _) (.cells #[.string z.op,.string (BS z.text),.int .i64 z.cls,.slice z.pa z.pn z.pc,.slice z.ta z.tn z.tc,.slice z.ra z.rn z.rc] 184));have HPZ:=j4 hpz;obtain ⟨n0,-,-,-,-,-,-,-,-,r0,r1,r2,r3,r4,r5,rz,rl,nz0,nz1,nz2,nz3⟩:=hnz;obtain ⟨m0,-,-,-,-,-,-,-,-,s0,s1,s2,s3,s4,s5,sz,sl,-,-,-,-⟩:=q9 HNV;clear hbz hpz;obtain ⟨v0,v1,v2,v3,v4,v5,v6,v7,v8,v9,v10,v11⟩:=q9 KB _ (j6 (q9 HBZ) (q9 HBV));have nb0:¬b=wz.heap.size:=(by omega);have nb1:¬wz.heap.size=b:=(by omega))
 go_region_held3 (fun W=>W.cell? ⟨w.heap.size,0,none⟩=some (.string O)∧W.cell? ⟨b,0,none⟩=some (.string g.op)∧W.cell? ⟨b,1,none⟩=some (.string (BS g.text))∧W.cell? ⟨b,2,none⟩=some (.int .i64 g.cls)∧W.cell? ⟨b,3,none⟩=some (.slice g.pa g.pn g.pc)∧W.cell? ⟨b,4,none⟩=some (.slice g.ta g.tn g.tc)∧W.cell? ⟨b,5,none⟩=some (.slice g.ra g.rn g.rc)∧W.cell? ⟨b,6,none⟩=some (.string h.op)∧W.cell? ⟨b,7,none⟩=some (.string (BS h.text))∧W.cell? ⟨b,8,none⟩=some (.int .i64 h.cls)∧W.cell? ⟨b,9,none⟩=some (.slice h.pa h.pn h.pc)∧W.cell? ⟨b,10,none⟩=some (.slice h.ta h.tn h.tc)∧W.cell? ⟨b,11,none⟩=some (.slice h.ra h.rn h.rc)) (first|with_reducible assumption|go_keep) (first|(go_at_call 227;refine (q9 D1 _ _ _ (q9 HBZ) rl (q9 HPZ) (q9 HBV).drew).mono ?_;rintro e w1 ⟨hb1,r,rfl,hp⟩;have HB1:=j4 (j6 (j6 (q9 HBZ) (q9 HBV).drew) hb1);obtain ⟨hS0,-,-,-,-,-,-,-,-,q0,q1,q2,q3,q4,q5,qz,ql,-,-,-,-⟩:=(q9 HNV).drew.below hb1;have HPP:=j4 hp;have hS:(w1.cell? ⟨w.heap.size,0,none⟩=some (.string O)∧w1.cell? ⟨b,0,none⟩=some (.string g.op)∧w1.cell? ⟨b,1,none⟩=some (.string (BS g.text))∧w1.cell? ⟨b,2,none⟩=some (.int .i64 g.cls)∧w1.cell? ⟨b,3,none⟩=some (.slice g.pa g.pn g.pc)∧w1.cell? ⟨b,4,none⟩=some (.slice g.ta g.tn g.tc)∧w1.cell? ⟨b,5,none⟩=some (.slice g.ra g.rn g.rc)∧w1.cell? ⟨b,6,none⟩=some (.string h.op)∧w1.cell? ⟨b,7,none⟩=some (.string (BS h.text))∧w1.cell? ⟨b,8,none⟩=some (.int .i64 h.cls)∧w1.cell? ⟨b,9,none⟩=some (.slice h.pa h.pn h.pc)∧w1.cell? ⟨b,10,none⟩=some (.slice h.ta h.tn h.tc)∧w1.cell? ⟨b,11,none⟩=some (.slice h.ra h.rn h.rc)):=⟨hS0,q9 KB _ (q9 HB1)⟩;clear hb1 hp))
 go_wp2_with fail
 all_goals refine bodyPost_ret (by simp [results,Tryz.results178,go_sem,q0,q1,q2,q3,q4,q5]<;>rfl) rfl ?_
 all_goals exact q9 HQ' r w1 _ (q9 HB1) (q9 HPP) (qj0 _ _ _ _ _ _ _ _)
end
section
theorem jb4 {w:World} {a N c:Int} {iv lv inv:Value} {S E:ByteArray} {neg:Bool} {b n cap:Nat} {g:RF} (hi:inv=.slice (some ⟨b,0,none⟩) n cap) (hn:1≤n) (hlb:b<w.heap.size) (hc:∀k,k<6→w.cell? ⟨b,k,none⟩=(qa3 g)[k]?) {q:List UInt8} (hE:E=⟨#[]⟩) (z1:g.text.length≤400000000) (z2:q.length≤100000) (HT:∀W,Calls Tryz.prog 226 #[.string S] W fun e w'=>e=.returned (.string (BS q))∧w'=W)
  {PZ P:RF→World→Prop} (HZ:qg9 w PZ) (H1:qj3 w PZ P 229 fun _=>#[.string ⟨#[76,73,75,69]⟩,.string (BS ([40]++g.text++[32,76,73,75,69,32]++q++[41])),.int .i64 1,.slice (some ⟨b,0,none⟩) n cap,.int .i64 (S.size:Nat)])
  {Q:Ending→World→Prop} (HQ:qi7 w P Q):Calls Tryz.prog 178 #[.agg #[.string ⟨#[76,73,75,69]⟩,.int .i64 a,iv,.string S,.string E,lv,.int .i64 N,.bool neg,.int .i64 c],inv] w Q:=by
 have DZ:=j4 HZ
 have D1:=j4 H1
 have HQ':=j4 HQ
 simp only [qg9,qj3,qi7,RF.v] at DZ D1 HQ'
 obtain ⟨R1,e1,y1,a1⟩:=qh6 ⟨#[40]⟩ (BS g.text) 1 400000000 (Nat.le_refl _) (by rw [qc4];exact z1) (by decide)
 obtain ⟨R2,e2,y2,a2⟩:=qh6 R1 ⟨#[32,76,73,75,69,32]⟩ 400000001 6 y1 (Nat.le_refl _) (by decide)
 obtain ⟨R3,e3,y3,a3⟩:=qh6 R2 (BS q) 400000007 100000 y2 (by rw [qc4];exact z2) (by decide)
 obtain ⟨R6,e6,y6,a6⟩:=qh6 R3 ⟨#[41]⟩ 400100007 1 y3 (Nat.le_refl _) (by decide)
 have hR:BS ([40]++g.text++[32,76,73,75,69,32]++q++[41])=R6:=by
  rw [e6,e3,e2,e1,show (⟨#[40]⟩:ByteArray)=BS [40] from rfl,show (⟨#[41]⟩:ByteArray)=BS [41] from rfl,show (⟨#[32,76,73,75,69,32]⟩:ByteArray)=BS [32,76,73,75,69,32] from rfl,qh7,qh7,qh7,qh7]
 rw [hR] at D1
 have DT:=j4 HT
 obtain ⟨QB,hQB⟩:∃x,BS q=x:=⟨_,rfl⟩
 rw [hQB] at DT a3
 subst hE
 clear HT hR e1 y1 e2 y2 e3 y3 e6 y6 z1 z2
 have hW2:Hid (Below w.heap.size w ((w.alloc (.cells #[.string ⟨#[76,73,75,69]⟩,.int .i64 a,iv,.string S,.string ⟨#[]⟩,lv,.int .i64 N,.bool neg,.int .i64 c] 241)).alloc (.cells #[.string ⟨#[]⟩,.string ⟨#[]⟩,.int .i64 0,.slice none 0 0,.slice none 0 0,.slice none 0 0] 184))):=j4 (((Below.refl _ _).alloc (Nat.le_refl _) _).alloc (by simp) _)
 clear HZ H1 HQ
 have KB:Hid (∀W,Below w.heap.size w W→(W.cell? ⟨b,0,none⟩=some (.string g.op)∧W.cell? ⟨b,1,none⟩=some (.string (BS g.text))∧W.cell? ⟨b,2,none⟩=some (.int .i64 g.cls)∧W.cell? ⟨b,3,none⟩=some (.slice g.pa g.pn g.pc)∧W.cell? ⟨b,4,none⟩=some (.slice g.ta g.tn g.tc)∧W.cell? ⟨b,5,none⟩=some (.slice g.ra g.rn g.rc))):=j4 fun W hb=>jb8 fun i hi=>(hb.cell (p:=⟨b,i,none⟩) hlb).trans (hc i hi)
 obtain ⟨c0,c1,c2,c3,c4,c5⟩:=q9 KB w (Below.refl _ _)
 have np:¬b=w.heap.size:=by omega
 have np1:¬b=w.heap.size+1:=by omega
 have np2:¬w.heap.size+1=b:=by omega
 have hn0:0<n:=by omega
 have hni0:(0:Int)<(n:Int):=by omega
 clear hc
 subst hi
 go_enter Tryz.func178,Tryz.ntmps178
 go_wp2_with (go_at_call 224;refine (q9 DZ _ (q9 hW2) (by simp)).mono ?_;rintro e wz ⟨hbz,z,rfl,hpz⟩;have HBZ:=j4 (j6 (q9 hW2) hbz);have hnz:=qm5.below hbz;have HNV:=j4 (hnz.alloc (.cells #[.string z.op,.string (BS z.text),.int .i64 z.cls,.slice z.pa z.pn z.pc,.slice z.ta z.tn z.tc,.slice z.ra z.rn z.rc] 184));have HBV:=j4 ((Below.refl wz.heap.size wz).alloc (Nat.le_refl _) (.cells #[.string z.op,.string (BS z.text),.int .i64 z.cls,.slice z.pa z.pn z.pc,.slice z.ta z.tn z.tc,.slice z.ra z.rn z.rc] 184));have HPZ:=j4 hpz;obtain ⟨n0,-,-,n3,n4,-,-,-,-,r0,r1,r2,r3,r4,r5,rz,rl,nz0,nz1,nz2,nz3⟩:=hnz;obtain ⟨m0,-,-,m3,m4,-,-,-,-,s0,s1,s2,s3,s4,s5,sz,sl,-,-,-,-⟩:=q9 HNV;clear hbz hpz;obtain ⟨v0,v1,v2,v3,v4,v5⟩:=q9 KB _ (j6 (q9 HBZ) (q9 HBV));have nb0:¬b=wz.heap.size:=(by omega);have nb1:¬wz.heap.size=b:=(by omega))
 go_region_held3 (fun W=>W.cell? ⟨w.heap.size,3,none⟩=some (.string S)∧W.cell? ⟨w.heap.size,4,none⟩=some (.string ⟨#[]⟩)∧W.cell? ⟨b,0,none⟩=some (.string g.op)∧W.cell? ⟨b,1,none⟩=some (.string (BS g.text))∧W.cell? ⟨b,2,none⟩=some (.int .i64 g.cls)∧W.cell? ⟨b,3,none⟩=some (.slice g.pa g.pn g.pc)∧W.cell? ⟨b,4,none⟩=some (.slice g.ta g.tn g.tc)∧W.cell? ⟨b,5,none⟩=some (.slice g.ra g.rn g.rc)) (first|with_reducible assumption|go_keep) ((go_at_call 226;refine (q9 DT _).mono ?_;rintro e wq ⟨rfl,hq⟩;subst wq))
 go_wp2_with (first|(go_at_call 229;refine (q9 D1 _ _ _ (q9 HBZ) rl (q9 HPZ) (q9 HBV).drew).mono ?_;rintro e w1 ⟨hb1,r,rfl,hp⟩;have HB1:=j4 (j6 (j6 (q9 HBZ) (q9 HBV).drew) hb1);obtain ⟨-,-,-,-,-,-,-,-,-,q0,q1,q2,q3,q4,q5,qz,ql,-,-,-,-⟩:=(q9 HNV).drew.below hb1;have HPP:=j4 hp;clear hb1 hp))
 all_goals refine bodyPost_ret (by simp [results,Tryz.results178,go_sem,q0,q1,q2,q3,q4,q5]<;>rfl) rfl ?_
 all_goals exact q9 HQ' r w1 _ (q9 HB1) (q9 HPP) (qj0 _ _ _ _ _ _ _ _)
theorem jb5 {w:World} {a N c:Int} {iv lv inv:Value} {S E:ByteArray} {neg:Bool} {b n cap:Nat} {g:RF} (hi:inv=.slice (some ⟨b,0,none⟩) n cap) (hn:1≤n) (hlb:b<w.heap.size) (hc:∀k,k<6→w.cell? ⟨b,k,none⟩=(qa3 g)[k]?) {q q':List UInt8} (hE:(E.toList==[])=false) (z1:g.text.length≤400000000) (z2:q.length≤100000) (z3:q'.length≤100000) (HT:∀W,Calls Tryz.prog 226 #[.string S] W fun e w'=>e=.returned (.string (BS q))∧w'=W) (HT2:∀W,Calls Tryz.prog 226 #[.string E] W fun e w'=>e=.returned (.string (BS q'))∧w'=W)
  {PZ P:RF→World→Prop} (HZ:qg9 w PZ) (H1:qj3 w PZ P 229 fun _=>#[.string ⟨#[76,73,75,69]⟩,.string (BS ([40]++g.text++[32,76,73,75,69,32]++q++[32,69,83,67,65,80,69,32]++q'++[41])),.int .i64 1,.slice (some ⟨b,0,none⟩) n cap,.int .i64 (S.size:Nat)])
  {Q:Ending→World→Prop} (HQ:qi7 w P Q):Calls Tryz.prog 178 #[.agg #[.string ⟨#[76,73,75,69]⟩,.int .i64 a,iv,.string S,.string E,lv,.int .i64 N,.bool neg,.int .i64 c],inv] w Q:=by
 have DZ:=j4 HZ
 have D1:=j4 H1
 have HQ':=j4 HQ
 simp only [qg9,qj3,qi7,RF.v] at DZ D1 HQ'
 obtain ⟨R1,e1,y1,a1⟩:=qh6 ⟨#[40]⟩ (BS g.text) 1 400000000 (Nat.le_refl _) (by rw [qc4];exact z1) (by decide)
 obtain ⟨R2,e2,y2,a2⟩:=qh6 R1 ⟨#[32,76,73,75,69,32]⟩ 400000001 6 y1 (Nat.le_refl _) (by decide)
 obtain ⟨R3,e3,y3,a3⟩:=qh6 R2 (BS q) 400000007 100000 y2 (by rw [qc4];exact z2) (by decide)
 obtain ⟨R4,e4,y4,a4⟩:=qh6 R3 ⟨#[32,69,83,67,65,80,69,32]⟩ 400100007 8 y3 (Nat.le_refl _) (by decide)
 obtain ⟨R5,e5,y5,a5⟩:=qh6 R4 (BS q') 400100015 100000 y4 (by rw [qc4];exact z3) (by decide)
 obtain ⟨R6,e6,y6,a6⟩:=qh6 R5 ⟨#[41]⟩ 400200015 1 y5 (Nat.le_refl _) (by decide)
 have hR:BS ([40]++g.text++[32,76,73,75,69,32]++q++[32,69,83,67,65,80,69,32]++q'++[41])=R6:=by
  rw [e6,e5,e4,e3,e2,e1,show (⟨#[40]⟩:ByteArray)=BS [40] from rfl,show (⟨#[41]⟩:ByteArray)=BS [41] from rfl,show (⟨#[32,76,73,75,69,32]⟩:ByteArray)=BS [32,76,73,75,69,32] from rfl,show (⟨#[32,69,83,67,65,80,69,32]⟩:ByteArray)=BS [32,69,83,67,65,80,69,32] from rfl,qh7,qh7,qh7,qh7,qh7,qh7]
 rw [hR] at D1
 have DT:=j4 HT
 have DT2:=j4 HT2
 obtain ⟨QB,hQB⟩:∃x,BS q=x:=⟨_,rfl⟩
 rw [hQB] at DT a3
 obtain ⟨QC,hQC⟩:∃x,BS q'=x:=⟨_,rfl⟩
 rw [hQC] at DT2 a5
 clear HT HT2 hR e1 y1 e2 y2 e3 y3 e4 y4 e5 y5 e6 y6 z1 z2
 have hW2:Hid (Below w.heap.size w ((w.alloc (.cells #[.string ⟨#[76,73,75,69]⟩,.int .i64 a,iv,.string S,.string E,lv,.int .i64 N,.bool neg,.int .i64 c] 241)).alloc (.cells #[.string ⟨#[]⟩,.string ⟨#[]⟩,.int .i64 0,.slice none 0 0,.slice none 0 0,.slice none 0 0] 184))):=j4 (((Below.refl _ _).alloc (Nat.le_refl _) _).alloc (by simp) _)
 clear HZ H1 HQ
 have KB:Hid (∀W,Below w.heap.size w W→(W.cell? ⟨b,0,none⟩=some (.string g.op)∧W.cell? ⟨b,1,none⟩=some (.string (BS g.text))∧W.cell? ⟨b,2,none⟩=some (.int .i64 g.cls)∧W.cell? ⟨b,3,none⟩=some (.slice g.pa g.pn g.pc)∧W.cell? ⟨b,4,none⟩=some (.slice g.ta g.tn g.tc)∧W.cell? ⟨b,5,none⟩=some (.slice g.ra g.rn g.rc))):=j4 fun W hb=>jb8 fun i hi=>(hb.cell (p:=⟨b,i,none⟩) hlb).trans (hc i hi)
 obtain ⟨c0,c1,c2,c3,c4,c5⟩:=q9 KB w (Below.refl _ _)
 have np:¬b=w.heap.size:=by omega
 have np1:¬b=w.heap.size+1:=by omega
 have np2:¬w.heap.size+1=b:=by omega
 have hn0:0<n:=by omega
 have hni0:(0:Int)<(n:Int):=by omega
 clear hc
 subst hi
 go_enter Tryz.func178,Tryz.ntmps178
 go_wp2_with (go_at_call 224;refine (q9 DZ _ (q9 hW2) (by simp)).mono ?_;rintro e wz ⟨hbz,z,rfl,hpz⟩;have HBZ:=j4 (j6 (q9 hW2) hbz);have hnz:=qm5.below hbz;have HNV:=j4 (hnz.alloc (.cells #[.string z.op,.string (BS z.text),.int .i64 z.cls,.slice z.pa z.pn z.pc,.slice z.ta z.tn z.tc,.slice z.ra z.rn z.rc] 184));have HBV:=j4 ((Below.refl wz.heap.size wz).alloc (Nat.le_refl _) (.cells #[.string z.op,.string (BS z.text),.int .i64 z.cls,.slice z.pa z.pn z.pc,.slice z.ta z.tn z.tc,.slice z.ra z.rn z.rc] 184));have HPZ:=j4 hpz;obtain ⟨n0,-,-,n3,n4,-,-,-,-,r0,r1,r2,r3,r4,r5,rz,rl,nz0,nz1,nz2,nz3⟩:=hnz;obtain ⟨m0,-,-,m3,m4,-,-,-,-,s0,s1,s2,s3,s4,s5,sz,sl,-,-,-,-⟩:=q9 HNV;clear hbz hpz;obtain ⟨v0,v1,v2,v3,v4,v5⟩:=q9 KB _ (j6 (q9 HBZ) (q9 HBV));have nb0:¬b=wz.heap.size:=(by omega);have nb1:¬wz.heap.size=b:=(by omega))
 go_region_held3 (fun W=>W.cell? ⟨w.heap.size,3,none⟩=some (.string S)∧W.cell? ⟨w.heap.size,4,none⟩=some (.string E)∧W.cell? ⟨b,0,none⟩=some (.string g.op)∧W.cell? ⟨b,1,none⟩=some (.string (BS g.text))∧W.cell? ⟨b,2,none⟩=some (.int .i64 g.cls)∧W.cell? ⟨b,3,none⟩=some (.slice g.pa g.pn g.pc)∧W.cell? ⟨b,4,none⟩=some (.slice g.ta g.tn g.tc)∧W.cell? ⟨b,5,none⟩=some (.slice g.ra g.rn g.rc)) (first|with_reducible assumption|go_keep) ((go_at_call 226;refine (q9 DT _).mono ?_;rintro e wq ⟨rfl,hq⟩;subst wq))
 go_wp2_with (first|(go_at_call 229;refine (q9 D1 _ _ _ (q9 HBZ) rl (q9 HPZ) (q9 HBV).drew).mono ?_;rintro e w1 ⟨hb1,r,rfl,hp⟩;have HB1:=j4 (j6 (j6 (q9 HBZ) (q9 HBV).drew) hb1);obtain ⟨-,-,-,-,-,-,-,-,-,q0,q1,q2,q3,q4,q5,qz,ql,-,-,-,-⟩:=(q9 HNV).drew.below hb1;have HPP:=j4 hp;clear hb1 hp)|(go_at_call 226;refine (q9 DT2 _).mono ?_;rintro e wq ⟨rfl,hq⟩;subst wq))
 all_goals refine bodyPost_ret (by simp [results,Tryz.results178,go_sem,q0,q1,q2,q3,q4,q5]<;>rfl) rfl ?_
 all_goals exact q9 HQ' r w1 _ (q9 HB1) (q9 HPP) (qj0 _ _ _ _ _ _ _ _)
end
end Go.Proofs.YtfkcaldjphakpaaGreatDoor
