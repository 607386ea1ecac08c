/- The document's answer: the core of a node: IN, NULL. The document's answer: the core of a node: <>, BETWEEN. The document's answer: the cores of a term's nodes in their order are its cores. The document's answer: the cores of a term's nodes, in their order. -/
import Derived.Test.YtfkcaldjphakpaaGreatDoorM38
import Derived.Test.YtfkcaldjphakpaaGreatDoorM37
import Derived.Test.YtfkcaldjphakpaaGreatDoorM31
import Derived.Test.YtfkcaldjphakpaaGreatDoorM30
set_option maxHeartbeats 4000000
set_option maxRecDepth 100000
namespace Go.Proofs.YtfkcaldjphakpaaGreatDoor
open Go.RowKit
section
theorem rcore_in {w:World} {a N c:Int} {iv lv inv:Value} {S E:ByteArray} {neg:Bool} {b n cap:Nat} {g:RF} (hi:inv=.slice (some ⟨b,0,none⟩) n cap) (hn:1≤n) (hlb:b<w.heap.size) (hc:∀k,k<6→w.cell? ⟨b,k,none⟩=(qa3 g)[k]?)
  {PZ P:RF→World→Prop} (HZ:qg9 w PZ) (H1:qj3 w PZ P 228 fun _=>#[g.v,lv])
  {Q:Ending→World→Prop} (HQ:qi7 w P Q):Calls Tryz.prog 178 #[.agg #[.string ⟨#[73,78]⟩,.int .i64 a,iv,.string S,.string E,lv,.int .i64 N,.bool neg,.int .i64 c],inv] w Q:=by
 have DZ:=j4 HZ
 have D1:=j4 H1
 have HQ':=j4 HQ
 simp only [qg9,qj3,qi7,RF.v] at DZ D1 HQ'
 have hW2:Hid (Below w.heap.size w ((w.alloc (.cells #[.string ⟨#[73,78]⟩,.int .i64 a,iv,.string S,.string E,lv,.int .i64 N,.bool neg,.int .i64 c] 241)).alloc (.cells #[.string ⟨#[]⟩,.string ⟨#[]⟩,.int .i64 0,.slice none 0 0,.slice none 0 0,.slice none 0 0] 184))):=j4 (((Below.refl _ _).alloc (Nat.le_refl _) _).alloc (by simp) _)
 clear HZ H1 HQ
 have KB:Hid (∀W,Below w.heap.size w W→(W.cell? ⟨b,0,none⟩=some (.string g.op)∧W.cell? ⟨b,1,none⟩=some (.string (BS g.text))∧W.cell? ⟨b,2,none⟩=some (.int .i64 g.cls)∧W.cell? ⟨b,3,none⟩=some (.slice g.pa g.pn g.pc)∧W.cell? ⟨b,4,none⟩=some (.slice g.ta g.tn g.tc)∧W.cell? ⟨b,5,none⟩=some (.slice g.ra g.rn g.rc))):=j4 fun W hb=>jb8 fun i hi=>(hb.cell (p:=⟨b,i,none⟩) hlb).trans (hc i hi)
 obtain ⟨c0,c1,c2,c3,c4,c5⟩:=q9 KB w (Below.refl _ _)
 have np:¬b=w.heap.size:=by omega
 have np1:¬b=w.heap.size+1:=by omega
 have np2:¬w.heap.size+1=b:=by omega
 have hn0:0<n:=by omega
 have hni0:(0:Int)<(n:Int):=by omega
 clear hc
 subst hi
 go_enter Tryz.func178,Tryz.ntmps178
 go_wp2_with (go_at_call 224;refine (q9 DZ _ (q9 hW2) (by simp)).mono ?_;rintro e wz ⟨hbz,z,rfl,hpz⟩;have HBZ:=j4 (j6 (q9 hW2) hbz);have hnz:=qm5.below hbz;have HNV:=j4 (hnz.alloc (.cells #[.string z.op,.string (BS z.text),.int .i64 z.cls,.slice z.pa z.pn z.pc,.slice z.ta z.tn z.tc,.slice z.ra z.rn z.rc] 184));have HBV:=j4 ((Below.refl wz.heap.size wz).alloc (Nat.le_refl _) (.cells #[.string z.op,.string (BS z.text),.int .i64 z.cls,.slice z.pa z.pn z.pc,.slice z.ta z.tn z.tc,.slice z.ra z.rn z.rc] 184));have HPZ:=j4 hpz;obtain ⟨n0,-,-,-,-,n5,-,-,-,r0,r1,r2,r3,r4,r5,rz,rl,nz0,nz1,nz2,nz3⟩:=hnz;obtain ⟨m0,-,-,-,-,m5,-,-,-,s0,s1,s2,s3,s4,s5,sz,sl,-,-,-,-⟩:=q9 HNV;clear hbz hpz;obtain ⟨v0,v1,v2,v3,v4,v5⟩:=q9 KB _ (j6 (q9 HBZ) (q9 HBV));have nb0:¬b=wz.heap.size:=(by omega);have nb1:¬wz.heap.size=b:=(by omega))
 go_region_held3 (fun W=>W.cell? ⟨w.heap.size,5,none⟩=some (lv)∧W.cell? ⟨b,0,none⟩=some (.string g.op)∧W.cell? ⟨b,1,none⟩=some (.string (BS g.text))∧W.cell? ⟨b,2,none⟩=some (.int .i64 g.cls)∧W.cell? ⟨b,3,none⟩=some (.slice g.pa g.pn g.pc)∧W.cell? ⟨b,4,none⟩=some (.slice g.ta g.tn g.tc)∧W.cell? ⟨b,5,none⟩=some (.slice g.ra g.rn g.rc)) (first|with_reducible assumption|go_keep) (first|(go_at_call 228;refine (q9 D1 _ _ _ (q9 HBZ) rl (q9 HPZ) (q9 HBV).drew).mono ?_;rintro e w1 ⟨hb1,r,rfl,hp⟩;have HB1:=j4 (j6 (j6 (q9 HBZ) (q9 HBV).drew) hb1);obtain ⟨-,-,-,-,-,hS5,-,-,-,q0,q1,q2,q3,q4,q5,qz,ql,-,-,-,-⟩:=(q9 HNV).drew.below hb1;have HPP:=j4 hp;have hS:(w1.cell? ⟨w.heap.size,5,none⟩=some (lv)∧w1.cell? ⟨b,0,none⟩=some (.string g.op)∧w1.cell? ⟨b,1,none⟩=some (.string (BS g.text))∧w1.cell? ⟨b,2,none⟩=some (.int .i64 g.cls)∧w1.cell? ⟨b,3,none⟩=some (.slice g.pa g.pn g.pc)∧w1.cell? ⟨b,4,none⟩=some (.slice g.ta g.tn g.tc)∧w1.cell? ⟨b,5,none⟩=some (.slice g.ra g.rn g.rc)):=⟨hS5,q9 KB _ (q9 HB1)⟩;clear hb1 hp))
 go_wp2_with fail
 all_goals refine bodyPost_ret (by simp [results,Tryz.results178,go_sem,q0,q1,q2,q3,q4,q5]<;>rfl) rfl ?_
 all_goals exact q9 HQ' r w1 _ (q9 HB1) (q9 HPP) (qj0 _ _ _ _ _ _ _ _)
theorem jj7 {w:World} {a N c:Int} {iv lv inv:Value} {S E:ByteArray} {neg:Bool} {b n cap:Nat} {g:RF} (hi:inv=.slice (some ⟨b,0,none⟩) n cap) (hn:1≤n) (hlb:b<w.heap.size) (hc:∀k,k<6→w.cell? ⟨b,k,none⟩=(qa3 g)[k]?) {T:List UInt8} (z1:g.text.length≤400000000) (hT:T=[40]++g.text++[32,73,83,32,78,85,76,76,41])
  {PZ P:RF→World→Prop} (HZ:qg9 w PZ) (H1:qj3 w PZ P 229 fun _=>#[.string ⟨#[78,85,76,76]⟩,.string (BS T),.int .i64 1,.slice (some ⟨b,0,none⟩) n cap,.int .i64 0])
  {Q:Ending→World→Prop} (HQ:qi7 w P Q):Calls Tryz.prog 178 #[.agg #[.string ⟨#[78,85,76,76]⟩,.int .i64 a,iv,.string S,.string E,lv,.int .i64 N,.bool neg,.int .i64 c],inv] w Q:=by
 have DZ:=j4 HZ
 have D1:=j4 H1
 have HQ':=j4 HQ
 simp only [qg9,qj3,qi7,RF.v] at DZ D1 HQ'
 obtain ⟨R1,e1,y1,a1⟩:=qh6 ⟨#[40]⟩ (BS g.text) 1 400000000 (Nat.le_refl _) (by rw [qc4];exact z1) (by decide)
 obtain ⟨R2,e2,y2,a2⟩:=qh6 R1 ⟨#[32,73,83,32,78,85,76,76,41]⟩ 400000001 9 y1 (Nat.le_refl _) (by decide)
 have hR:BS T=R2:=by
  rw [hT,e2,e1,show (⟨#[40]⟩:ByteArray)=BS [40] from rfl,show (⟨#[32,73,83,32,78,85,76,76,41]⟩:ByteArray)=BS [32,73,83,32,78,85,76,76,41] from rfl,qh7,qh7]
 rw [hR] at D1
 clear hT hR e1 e2 y1 y2 z1
 have hW2:Hid (Below w.heap.size w ((w.alloc (.cells #[.string ⟨#[78,85,76,76]⟩,.int .i64 a,iv,.string S,.string E,lv,.int .i64 N,.bool neg,.int .i64 c] 241)).alloc (.cells #[.string ⟨#[]⟩,.string ⟨#[]⟩,.int .i64 0,.slice none 0 0,.slice none 0 0,.slice none 0 0] 184))):=j4 (((Below.refl _ _).alloc (Nat.le_refl _) _).alloc (by simp) _)
 clear HZ H1 HQ
 have KB:Hid (∀W,Below w.heap.size w W→(W.cell? ⟨b,0,none⟩=some (.string g.op)∧W.cell? ⟨b,1,none⟩=some (.string (BS g.text))∧W.cell? ⟨b,2,none⟩=some (.int .i64 g.cls)∧W.cell? ⟨b,3,none⟩=some (.slice g.pa g.pn g.pc)∧W.cell? ⟨b,4,none⟩=some (.slice g.ta g.tn g.tc)∧W.cell? ⟨b,5,none⟩=some (.slice g.ra g.rn g.rc))):=j4 fun W hb=>jb8 fun i hi=>(hb.cell (p:=⟨b,i,none⟩) hlb).trans (hc i hi)
 obtain ⟨c0,c1,c2,c3,c4,c5⟩:=q9 KB w (Below.refl _ _)
 have np:¬b=w.heap.size:=by omega
 have np1:¬b=w.heap.size+1:=by omega
 have np2:¬w.heap.size+1=b:=by omega
 have hn0:0<n:=by omega
 have hni0:(0:Int)<(n:Int):=by omega
 clear hc
 subst hi
 go_enter Tryz.func178,Tryz.ntmps178
 go_wp2_with (first|(go_at_call 229;refine (q9 D1 _ _ _ (q9 HBZ) rl (q9 HPZ) (q9 HBV)).mono ?_;rintro e w1 ⟨hb1,r,rfl,hp⟩;have HB1:=j4 (j6 (j6 (q9 HBZ) (q9 HBV)) hb1);obtain ⟨-,-,-,-,-,-,-,-,-,q0,q1,q2,q3,q4,q5,qz,ql,-,-,-,-⟩:=(q9 HNV).below hb1;have HPP:=j4 hp;clear hb1 hp)|(go_at_call 224;refine (q9 DZ _ (q9 hW2) (by simp)).mono ?_;rintro e wz ⟨hbz,z,rfl,hpz⟩;have HBZ:=j4 (j6 (q9 hW2) hbz);have hnz:=qm5.below hbz;have HNV:=j4 (hnz.alloc (.cells #[.string z.op,.string (BS z.text),.int .i64 z.cls,.slice z.pa z.pn z.pc,.slice z.ta z.tn z.tc,.slice z.ra z.rn z.rc] 184));have HBV:=j4 ((Below.refl wz.heap.size wz).alloc (Nat.le_refl _) (.cells #[.string z.op,.string (BS z.text),.int .i64 z.cls,.slice z.pa z.pn z.pc,.slice z.ta z.tn z.tc,.slice z.ra z.rn z.rc] 184));have HPZ:=j4 hpz;obtain ⟨n0,-,-,-,-,-,-,-,-,r0,r1,r2,r3,r4,r5,rz,rl,nz0,nz1,nz2,nz3⟩:=hnz;obtain ⟨m0,-,-,-,-,-,-,-,-,s0,s1,s2,s3,s4,s5,sz,sl,-,-,-,-⟩:=q9 HNV;clear hbz hpz;obtain ⟨v0,v1,v2,v3,v4,v5⟩:=q9 KB _ (j6 (q9 HBZ) (q9 HBV));have nb0:¬b=wz.heap.size:=(by omega);have nb1:¬wz.heap.size=b:=(by omega)))
 all_goals refine bodyPost_ret (by simp [results,Tryz.results178,go_sem,q0,q1,q2,q3,q4,q5]<;>rfl) rfl ?_
 all_goals exact q9 HQ' r w1 _ (q9 HB1) (q9 HPP) (qj0 _ _ _ _ _ _ _ _)
end
section
theorem rcore_ne {M:Nat→Prop} {w:World} {a N c:Int} {iv lv inv:Value} {S E:ByteArray} {neg:Bool} {x y:Co} {b n cap:Nat} {g h:RF} (hi:inv=.slice (some ⟨b,0,none⟩) n cap) (hn:2≤n) (hlb:b<w.heap.size) (hc:∀k,k<12→w.cell? ⟨b,k,none⟩=(qa3 g++qa3 h)[k]?)
  {PZ:RF→World→Prop} (HZ:qg9 w PZ)
  (hx:RfAt M w x g) (hy:RfAt M w y h) (hN:∀b,M b→b<w.heap.size) (zx:qt8 x) (zy:qt8 y) (HD:vx3 (j8 8 x y)):Calls Tryz.prog 178 #[.agg #[.string ⟨#[60,62]⟩,.int .i64 a,iv,.string S,.string E,lv,.int .i64 N,.bool neg,.int .i64 c],inv] w (qp5 M w (qe3 (j8 8 x y))):=by
 have DZ:=j4 HZ
 simp only [qg9,RF.v] at DZ
 have hW2:Hid (Below w.heap.size w ((w.alloc (.cells #[.string ⟨#[60,62]⟩,.int .i64 a,iv,.string S,.string E,lv,.int .i64 N,.bool neg,.int .i64 c] 241)).alloc (.cells #[.string ⟨#[]⟩,.string ⟨#[]⟩,.int .i64 0,.slice none 0 0,.slice none 0 0,.slice none 0 0] 184))):=j4 (((Below.refl _ _).alloc (Nat.le_refl _) _).alloc (by simp) _)
 clear HZ
 have KB:Hid (∀W,Below w.heap.size w W→(W.cell? ⟨b,0,none⟩=some (.string g.op)∧W.cell? ⟨b,1,none⟩=some (.string (BS g.text))∧W.cell? ⟨b,2,none⟩=some (.int .i64 g.cls)∧W.cell? ⟨b,3,none⟩=some (.slice g.pa g.pn g.pc)∧W.cell? ⟨b,4,none⟩=some (.slice g.ta g.tn g.tc)∧W.cell? ⟨b,5,none⟩=some (.slice g.ra g.rn g.rc)∧W.cell? ⟨b,6,none⟩=some (.string h.op)∧W.cell? ⟨b,7,none⟩=some (.string (BS h.text))∧W.cell? ⟨b,8,none⟩=some (.int .i64 h.cls)∧W.cell? ⟨b,9,none⟩=some (.slice h.pa h.pn h.pc)∧W.cell? ⟨b,10,none⟩=some (.slice h.ta h.tn h.tc)∧W.cell? ⟨b,11,none⟩=some (.slice h.ra h.rn h.rc))):=j4 fun W hb=>rowC2 fun i hi=>(hb.cell (p:=⟨b,i,none⟩) hlb).trans (hc i hi)
 obtain ⟨c0,c1,c2,c3,c4,c5,c6,c7,c8,c9,c10,c11⟩:=q9 KB w (Below.refl _ _)
 have np:¬b=w.heap.size:=by omega
 have np1:¬b=w.heap.size+1:=by omega
 have np2:¬w.heap.size+1=b:=by omega
 have hn0:0<n:=by omega
 have hni0:(0:Int)<(n:Int):=by omega
 have hn1:1<n:=by omega
 have hni1:(1:Int)<(n:Int):=by omega
 clear hc
 subst hi
 go_enter Tryz.func178,Tryz.ntmps178
 go_wp2_with (go_at_call 224;refine (q9 DZ _ (q9 hW2) (by simp)).mono ?_;rintro e wz ⟨hbz,z,rfl,hpz⟩;have HBZ:=j4 (j6 (q9 hW2) hbz);have hnz:=qm5.below hbz;have HNV:=j4 (hnz.alloc (.cells #[.string z.op,.string (BS z.text),.int .i64 z.cls,.slice z.pa z.pn z.pc,.slice z.ta z.tn z.tc,.slice z.ra z.rn z.rc] 184));have HBV:=j4 ((Below.refl wz.heap.size wz).alloc (Nat.le_refl _) (.cells #[.string z.op,.string (BS z.text),.int .i64 z.cls,.slice z.pa z.pn z.pc,.slice z.ta z.tn z.tc,.slice z.ra z.rn z.rc] 184));have HPZ:=j4 hpz;obtain ⟨n0,-,-,-,-,-,-,-,-,r0,r1,r2,r3,r4,r5,rz,rl,nz0,nz1,nz2,nz3⟩:=hnz;obtain ⟨m0,-,-,-,-,-,-,-,-,s0,s1,s2,s3,s4,s5,sz,sl,-,-,-,-⟩:=q9 HNV;clear hbz hpz;obtain ⟨v0,v1,v2,v3,v4,v5,v6,v7,v8,v9,v10,v11⟩:=q9 KB _ (j6 (q9 HBZ) (q9 HBV));have nb0:¬b=wz.heap.size:=(by omega);have nb1:¬wz.heap.size=b:=(by omega))
 obtain ⟨w1,hw1⟩:∃w1,w1=(wz.alloc (.cells #[.string z.op,.string (BS z.text),.int .i64 z.cls,.slice z.pa z.pn z.pc,.slice z.ta z.tn z.tc,.slice z.ra z.rn z.rc] 184)):=⟨_,rfl⟩
 have hz1:wz.heap.size<w1.heap.size:=by rw [hw1];simp
 have HB1:=j4 (j6 (q9 HBZ) (q9 HBV))
 rw [←hw1] at s0 s1 s2 s3 s4 s5 sz sl v0 v1 v2 v3 v4 v5 v6 v7 v8 v9 v10 v11 HB1 HNV ⊢
 clear hw1 HBV HPZ m0 n0 r0 r1 r2 r3 r4 r5 rz c0 c1 c2 c3 c4 c5 c6 c7 c8 c9 c10 c11
 have hb1:b<w1.heap.size:=by omega
 have KX:Hid (∀W,Below w1.heap.size w1 W→(W.cell? ⟨b,0,none⟩=some (.string g.op)∧W.cell? ⟨b,1,none⟩=some (.string (BS g.text))∧W.cell? ⟨b,2,none⟩=some (.int .i64 g.cls)∧W.cell? ⟨b,3,none⟩=some (.slice g.pa g.pn g.pc)∧W.cell? ⟨b,4,none⟩=some (.slice g.ta g.tn g.tc)∧W.cell? ⟨b,5,none⟩=some (.slice g.ra g.rn g.rc)∧W.cell? ⟨b,6,none⟩=some (.string h.op)∧W.cell? ⟨b,7,none⟩=some (.string (BS h.text))∧W.cell? ⟨b,8,none⟩=some (.int .i64 h.cls)∧W.cell? ⟨b,9,none⟩=some (.slice h.pa h.pn h.pc)∧W.cell? ⟨b,10,none⟩=some (.slice h.ta h.tn h.tc)∧W.cell? ⟨b,11,none⟩=some (.slice h.ra h.rn h.rc))):=j4 fun W hb=>q9 KB W (j6 (q9 HB1) hb)
 have HXx:Hid (∀W,Below w1.heap.size w1 W→RfAt M W x g):=j4 fun W hb=>hx.below (j6 (q9 HB1) hb)
 have BXx:=j4 zx
 have HXy:Hid (∀W,Below w1.heap.size w1 W→RfAt M W y h):=j4 fun W hb=>hy.below (j6 (q9 HB1) hb)
 have BXy:=j4 zy
 have HNB:Hid (∀b,M b→b<w1.heap.size):=j4 fun b h=>Nat.lt_of_lt_of_le (hN b h) (q9 HB1).size
 have HNW:=j4 hN
 clear hN KB hx zx hy zy
 have DN:=j4 HD
 clear HD
 go_cut [6] (fun s6 wx=>∃ob r,s6=.pointer (some ⟨ob,0,none⟩)∧Hid (OutAt M w1 wx ob (j8 8 x y) r))
 case first=>
  have hbB:b<w1.heap.size:=(by omega)
  have na1:¬b=w1.heap.size:=(by omega)
  have na2:¬w1.heap.size=b:=(by omega)
  have TWA:Hid (∀W:World,Below w1.heap.size w1 W→w1.heap.size<W.heap.size→Calls Tryz.prog 227 #[.string ⟨#[61]⟩,.agg #[.string g.op,.string (BS g.text),.int .i64 g.cls,.slice g.pa g.pn g.pc,.slice g.ta g.tn g.tc,.slice g.ra g.rn g.rc],.agg #[.string h.op,.string (BS h.text),.int .i64 h.cls,.slice h.pa h.pn h.pc,.slice h.ta h.tn h.tc,.slice h.ra h.rn h.rc]] W fun e w'=>Below W.heap.size W w'∧∃r:RF,e=.returned (.agg #[.string r.op,.string (BS r.text),.int .i64 r.cls,.slice r.pa r.pn r.pc,.slice r.ta r.tn r.tc,.slice r.ra r.rn r.rc])∧RfAt (fun b=>M b∨(w1.heap.size≤b∧b≠w1.heap.size)) w' (j8 8 x y) r):=j4 fun W h1 h3=>vw5 (o:=8) (by simp [qf0]) h1 (qs8 (q9 HXx W h1) (fun _ h _=>.inl h)) (qs8 (q9 HXy W h1) (fun _ h _=>.inl h)) h3 (q9 BXx) (q9 BXy)
  have TWC:Hid (∀W:World,Below w1.heap.size w1 W→Calls Tryz.prog 227 #[.string ⟨#[61]⟩,.agg #[.string g.op,.string (BS g.text),.int .i64 g.cls,.slice g.pa g.pn g.pc,.slice g.ta g.tn g.tc,.slice g.ra g.rn g.rc],.agg #[.string h.op,.string (BS h.text),.int .i64 h.cls,.slice h.pa h.pn h.pc,.slice h.ta h.tn h.tc,.slice h.ra h.rn h.rc]] W fun e w'=>Below W.heap.size W w'∧∃r:RF,e=.returned (.agg #[.string r.op,.string (BS r.text),.int .i64 r.cls,.slice r.pa r.pn r.pc,.slice r.ta r.tn r.tc,.slice r.ra r.rn r.rc])∧RfAt (fun b=>M b∨w1.heap.size≤b) w' (j8 8 x y) r):=j4 fun W h1=>tw_no (o:=8) (by simp [qf0]) h1 (qs8 (q9 HXx W h1) (fun _ h _=>.inl h)) (qs8 (q9 HXy W h1) (fun _ h _=>.inl h)) (q9 BXx) (q9 BXy)
  go_region_held3 (fun W=>W.cell? ⟨b,0,none⟩=some (.string g.op)∧W.cell? ⟨b,1,none⟩=some (.string (BS g.text))∧W.cell? ⟨b,2,none⟩=some (.int .i64 g.cls)∧W.cell? ⟨b,3,none⟩=some (.slice g.pa g.pn g.pc)∧W.cell? ⟨b,4,none⟩=some (.slice g.ta g.tn g.tc)∧W.cell? ⟨b,5,none⟩=some (.slice g.ra g.rn g.rc)∧W.cell? ⟨b,6,none⟩=some (.string h.op)∧W.cell? ⟨b,7,none⟩=some (.string (BS h.text))∧W.cell? ⟨b,8,none⟩=some (.int .i64 h.cls)∧W.cell? ⟨b,9,none⟩=some (.slice h.pa h.pn h.pc)∧W.cell? ⟨b,10,none⟩=some (.slice h.ta h.tn h.tc)∧W.cell? ⟨b,11,none⟩=some (.slice h.ra h.rn h.rc)) (first|with_reducible assumption|go_keep) (first|(go_at_call 227;refine (q9 TWA (w1.alloc (.cells #[.string ⟨#[]⟩,.string ⟨#[]⟩,.int .i64 0,.slice none 0 0,.slice none 0 0,.slice none 0 0] 184)).drew ((Below.refl w1.heap.size w1).alloc (Nat.le_refl _) (.cells #[.string ⟨#[]⟩,.string ⟨#[]⟩,.int .i64 0,.slice none 0 0,.slice none 0 0,.slice none 0 0] 184)).drew (by show w1.heap.size<(w1.alloc _).heap.size;simp)).mono ?_;rintro e w3 ⟨hb3,r3,rfl,hr3⟩;have HRA:=j4 hr3;have HB3:=j4 (j6 ((Below.refl w1.heap.size w1).alloc (Nat.le_refl _) (.cells #[.string ⟨#[]⟩,.string ⟨#[]⟩,.int .i64 0,.slice none 0 0,.slice none 0 0,.slice none 0 0] 184)).drew hb3);obtain ⟨p0,p1,p2,p3,p4,p5,pz,hz3⟩:=(qt4 w1).drew.below hb3;have hSS3:=(q9 KX w3 (q9 HB3));clear hb3 hr3)|(go_at_call 227;refine (q9 TWC w1.drew (Below.refl w1.heap.size w1).drew).mono ?_;rintro e w3 ⟨hb3,r3,rfl,hr3⟩;have HRC:=j4 hr3;have HB3:=j4 (j6 (Below.refl w1.heap.size w1).drew hb3);have hz3c:w1.heap.size≤w3.heap.size:=hb3.size;have nc1:¬b=w3.heap.size:=(by omega);have nc2:¬w3.heap.size=b:=(by omega);have hSS3:=(q9 KX w3 (q9 HB3));clear hb3 hr3))
  all_goals
   go_wp2_with fail
   go_meet
   first
    | (have _q:=HRA;exact ⟨_,r3,rfl,j4 (OutAt.put (q9 HB3) (Nat.le_refl _) hz3 (q9 HNB) (fun k hk=>by match k,hk with|0,_=>exact ⟨_,p0⟩|1,_=>exact ⟨_,p1⟩|2,_=>exact ⟨_,p2⟩|3,_=>exact ⟨_,p3⟩|4,_=>exact ⟨_,p4⟩|5,_=>exact ⟨_,p5⟩) pz (q9 HRA))⟩)
    | (have _q:=HRC;exact ⟨_,r3,rfl,j4 (OutAt.new (q9 HB3) (q9 HRC))⟩)
 case rest=>
  obtain ⟨ob,r,rfl,HO⟩:=hcut
  have hbo:=(q9 HO).bel
  have o0:wc.cell? ⟨ob,0,none⟩=some (.string r.op):=(q9 HO).cells 0 (by omega)
  have o1:wc.cell? ⟨ob,1,none⟩=some (.string (BS r.text)):=(q9 HO).cells 1 (by omega)
  have o2:wc.cell? ⟨ob,2,none⟩=some (.int .i64 r.cls):=(q9 HO).cells 2 (by omega)
  have o3:wc.cell? ⟨ob,3,none⟩=some (.slice r.pa r.pn r.pc):=(q9 HO).cells 3 (by omega)
  have o4:wc.cell? ⟨ob,4,none⟩=some (.slice r.ta r.tn r.tc):=(q9 HO).cells 4 (by omega)
  have o5:wc.cell? ⟨ob,5,none⟩=some (.slice r.ra r.rn r.rc):=(q9 HO).cells 5 (by omega)
  have HNC:=j4 ((q9 HNV).below hbo)
  have hoc:ob<wc.heap.size:=(q9 HO).lt
  have slc:w.heap.size+1<wc.heap.size:=Nat.lt_of_lt_of_le sl hbo.size
  have HBC:=j4 (j6 (q9 HB1) hbo)
  have DNC:Hid (Calls Tryz.prog 179 #[.agg #[.string r.op,.string (BS r.text),.int .i64 r.cls,.slice r.pa r.pn r.pc,.slice r.ta r.tn r.tc,.slice r.ra r.rn r.rc]] wc fun e w'=>Below wc.heap.size wc w'∧∃q:RF,e=.returned (.agg #[.string q.op,.string (BS q.text),.int .i64 q.cls,.slice q.pa q.pn q.pc,.slice q.ta q.tn q.tc,.slice q.ra q.rn q.rc])∧RfAt (fun b=>M b∨w.heap.size+1+1≤b) w' (qe3 (j8 8 x y)) q):=j4 ((q9 DN _ wc r (qs8 (N':=fun b=>(M b∨w.heap.size+1+1≤b)∧b<wc.heap.size) (q9 HO).rf (fun b h hl=>⟨by rcases h with h|h;exact .inl h;right;omega,hl⟩)) (fun b h=>h.2)).mono (by rintro e w' ⟨h1,q,e1,h2⟩;exact ⟨h1,q,e1,qs8 h2 (fun b h _=>by rcases h with h|h;exact h.1;right;omega)⟩))
  clear DN HO hbo s0 s1 s2 s3 s4 s5 sz v0 v1 v2 v3 v4 v5 v6 v7 v8 v9 v10 v11 HXx HXy KX
  go_wp2_with (go_at_call 179;refine (q9 DNC).mono ?_;rintro e w4 ⟨hb4,q,rfl,hq⟩;have HQQ:=j4 hq;have HB4:=j4 (j6 (q9 HBC) hb4);obtain ⟨-,-,-,-,-,-,-,-,-,q0,q1,q2,q3,q4,q5,qz,ql,-,-,-,-⟩:=(q9 HNC).below hb4;clear hb4 hq)
  all_goals refine bodyPost_ret (by simp [results,Tryz.results178,go_sem,q0,q1,q2,q3,q4,q5]<;>rfl) rfl ?_
  all_goals exact qp8 (q9 HNW) (q9 HB4) (q9 HQQ) (qj0 _ _ _ _ _ _ _ _)
theorem vp3 {M:Nat→Prop} {w:World} {a N c:Int} {iv lv inv:Value} {S E:ByteArray} {neg:Bool} {x y u:Co} {b n cap:Nat} {g h j:RF} (hi:inv=.slice (some ⟨b,0,none⟩) n cap) (hn:3≤n) (hlb:b<w.heap.size) (hc:∀k,k<18→w.cell? ⟨b,k,none⟩=(qa3 g++qa3 h++qa3 j)[k]?)
  {PZ:RF→World→Prop} (HZ:qg9 w PZ)
  (hx:RfAt M w x g) (hy:RfAt M w y h) (hu:RfAt M w u j) (hN:∀b,M b→b<w.heap.size) (zx:qt8 x) (zy:qt8 y) (zu:qt8 u) (byx:qt8 (j8 11 y x)) (bxu:qt8 (j8 11 x u)):Calls Tryz.prog 178 #[.agg #[.string ⟨#[66,69,84,87,69,69,78]⟩,.int .i64 a,iv,.string S,.string E,lv,.int .i64 N,.bool neg,.int .i64 c],inv] w (qp5 M w (j8 6 (j8 11 y x) (j8 11 x u))):=by
 have DZ:=j4 HZ
 simp only [qg9,RF.v] at DZ
 have hW2:Hid (Below w.heap.size w ((w.alloc (.cells #[.string ⟨#[66,69,84,87,69,69,78]⟩,.int .i64 a,iv,.string S,.string E,lv,.int .i64 N,.bool neg,.int .i64 c] 241)).alloc (.cells #[.string ⟨#[]⟩,.string ⟨#[]⟩,.int .i64 0,.slice none 0 0,.slice none 0 0,.slice none 0 0] 184))):=j4 (((Below.refl _ _).alloc (Nat.le_refl _) _).alloc (by simp) _)
 clear HZ
 have KB:Hid (∀W,Below w.heap.size w W→(W.cell? ⟨b,0,none⟩=some (.string g.op)∧W.cell? ⟨b,1,none⟩=some (.string (BS g.text))∧W.cell? ⟨b,2,none⟩=some (.int .i64 g.cls)∧W.cell? ⟨b,3,none⟩=some (.slice g.pa g.pn g.pc)∧W.cell? ⟨b,4,none⟩=some (.slice g.ta g.tn g.tc)∧W.cell? ⟨b,5,none⟩=some (.slice g.ra g.rn g.rc)∧W.cell? ⟨b,6,none⟩=some (.string h.op)∧W.cell? ⟨b,7,none⟩=some (.string (BS h.text))∧W.cell? ⟨b,8,none⟩=some (.int .i64 h.cls)∧W.cell? ⟨b,9,none⟩=some (.slice h.pa h.pn h.pc)∧W.cell? ⟨b,10,none⟩=some (.slice h.ta h.tn h.tc)∧W.cell? ⟨b,11,none⟩=some (.slice h.ra h.rn h.rc)∧W.cell? ⟨b,12,none⟩=some (.string j.op)∧W.cell? ⟨b,13,none⟩=some (.string (BS j.text))∧W.cell? ⟨b,14,none⟩=some (.int .i64 j.cls)∧W.cell? ⟨b,15,none⟩=some (.slice j.pa j.pn j.pc)∧W.cell? ⟨b,16,none⟩=some (.slice j.ta j.tn j.tc)∧W.cell? ⟨b,17,none⟩=some (.slice j.ra j.rn j.rc))):=j4 fun W hb=>rowC3 fun i hi=>(hb.cell (p:=⟨b,i,none⟩) hlb).trans (hc i hi)
 obtain ⟨c0,c1,c2,c3,c4,c5,c6,c7,c8,c9,c10,c11,c12,c13,c14,c15,c16,c17⟩:=q9 KB w (Below.refl _ _)
 have np:¬b=w.heap.size:=by omega
 have np1:¬b=w.heap.size+1:=by omega
 have np2:¬w.heap.size+1=b:=by omega
 have hn0:0<n:=by omega
 have hni0:(0:Int)<(n:Int):=by omega
 have hn1:1<n:=by omega
 have hni1:(1:Int)<(n:Int):=by omega
 have hn2:2<n:=by omega
 have hni2:(2:Int)<(n:Int):=by omega
 clear hc
 subst hi
 go_enter Tryz.func178,Tryz.ntmps178
 go_wp2_with (go_at_call 224;refine (q9 DZ _ (q9 hW2) (by simp)).mono ?_;rintro e wz ⟨hbz,z,rfl,hpz⟩;have HBZ:=j4 (j6 (q9 hW2) hbz);have hnz:=qm5.below hbz;have HNV:=j4 (hnz.alloc (.cells #[.string z.op,.string (BS z.text),.int .i64 z.cls,.slice z.pa z.pn z.pc,.slice z.ta z.tn z.tc,.slice z.ra z.rn z.rc] 184));have HBV:=j4 ((Below.refl wz.heap.size wz).alloc (Nat.le_refl _) (.cells #[.string z.op,.string (BS z.text),.int .i64 z.cls,.slice z.pa z.pn z.pc,.slice z.ta z.tn z.tc,.slice z.ra z.rn z.rc] 184));have HPZ:=j4 hpz;obtain ⟨n0,-,-,-,-,-,-,-,-,r0,r1,r2,r3,r4,r5,rz,rl,nz0,nz1,nz2,nz3⟩:=hnz;obtain ⟨m0,-,-,-,-,-,-,-,-,s0,s1,s2,s3,s4,s5,sz,sl,-,-,-,-⟩:=q9 HNV;clear hbz hpz;obtain ⟨v0,v1,v2,v3,v4,v5,v6,v7,v8,v9,v10,v11,v12,v13,v14,v15,v16,v17⟩:=q9 KB _ (j6 (q9 HBZ) (q9 HBV));have nb0:¬b=wz.heap.size:=(by omega);have nb1:¬wz.heap.size=b:=(by omega))
 obtain ⟨w1,hw1⟩:∃w1,w1=(wz.alloc (.cells #[.string z.op,.string (BS z.text),.int .i64 z.cls,.slice z.pa z.pn z.pc,.slice z.ta z.tn z.tc,.slice z.ra z.rn z.rc] 184)):=⟨_,rfl⟩
 have hz1:wz.heap.size<w1.heap.size:=by rw [hw1];simp
 have HB1:=j4 (j6 (q9 HBZ) (q9 HBV))
 rw [←hw1] at s0 s1 s2 s3 s4 s5 sz sl v0 v1 v2 v3 v4 v5 v6 v7 v8 v9 v10 v11 v12 v13 v14 v15 v16 v17 HB1 HNV ⊢
 clear hw1 HBV HPZ m0 n0 r0 r1 r2 r3 r4 r5 rz c0 c1 c2 c3 c4 c5 c6 c7 c8 c9 c10 c11 c12 c13 c14 c15 c16 c17
 have hb1:b<w1.heap.size:=by omega
 have KX:Hid (∀W,Below w1.heap.size w1 W→(W.cell? ⟨b,0,none⟩=some (.string g.op)∧W.cell? ⟨b,1,none⟩=some (.string (BS g.text))∧W.cell? ⟨b,2,none⟩=some (.int .i64 g.cls)∧W.cell? ⟨b,3,none⟩=some (.slice g.pa g.pn g.pc)∧W.cell? ⟨b,4,none⟩=some (.slice g.ta g.tn g.tc)∧W.cell? ⟨b,5,none⟩=some (.slice g.ra g.rn g.rc)∧W.cell? ⟨b,6,none⟩=some (.string h.op)∧W.cell? ⟨b,7,none⟩=some (.string (BS h.text))∧W.cell? ⟨b,8,none⟩=some (.int .i64 h.cls)∧W.cell? ⟨b,9,none⟩=some (.slice h.pa h.pn h.pc)∧W.cell? ⟨b,10,none⟩=some (.slice h.ta h.tn h.tc)∧W.cell? ⟨b,11,none⟩=some (.slice h.ra h.rn h.rc)∧W.cell? ⟨b,12,none⟩=some (.string j.op)∧W.cell? ⟨b,13,none⟩=some (.string (BS j.text))∧W.cell? ⟨b,14,none⟩=some (.int .i64 j.cls)∧W.cell? ⟨b,15,none⟩=some (.slice j.pa j.pn j.pc)∧W.cell? ⟨b,16,none⟩=some (.slice j.ta j.tn j.tc)∧W.cell? ⟨b,17,none⟩=some (.slice j.ra j.rn j.rc))):=j4 fun W hb=>q9 KB W (j6 (q9 HB1) hb)
 have HXx:Hid (∀W,Below w1.heap.size w1 W→RfAt M W x g):=j4 fun W hb=>hx.below (j6 (q9 HB1) hb)
 have BXx:=j4 zx
 have HXy:Hid (∀W,Below w1.heap.size w1 W→RfAt M W y h):=j4 fun W hb=>hy.below (j6 (q9 HB1) hb)
 have BXy:=j4 zy
 have HXu:Hid (∀W,Below w1.heap.size w1 W→RfAt M W u j):=j4 fun W hb=>hu.below (j6 (q9 HB1) hb)
 have BXu:=j4 zu
 have HNB:Hid (∀b,M b→b<w1.heap.size):=j4 fun b h=>Nat.lt_of_lt_of_le (hN b h) (q9 HB1).size
 have HNW:=j4 hN
 clear hN KB hx zx hy zy hu zu
 have BYX:=j4 byx
 have BXU:=j4 bxu
 clear byx bxu
 go_cut [7] (fun s7 wx=>∃oa r,s7=.pointer (some ⟨oa,0,none⟩)∧Hid (OutAt M w1 wx oa (j8 11 y x) r))
 case first=>
  have hbB:b<w1.heap.size:=(by omega)
  have na1:¬b=w1.heap.size:=(by omega)
  have na2:¬w1.heap.size=b:=(by omega)
  have TWA:Hid (∀W:World,Below w1.heap.size w1 W→w1.heap.size<W.heap.size→Calls Tryz.prog 227 #[.string ⟨#[60,61]⟩,.agg #[.string h.op,.string (BS h.text),.int .i64 h.cls,.slice h.pa h.pn h.pc,.slice h.ta h.tn h.tc,.slice h.ra h.rn h.rc],.agg #[.string g.op,.string (BS g.text),.int .i64 g.cls,.slice g.pa g.pn g.pc,.slice g.ta g.tn g.tc,.slice g.ra g.rn g.rc]] W fun e w'=>Below W.heap.size W w'∧∃r:RF,e=.returned (.agg #[.string r.op,.string (BS r.text),.int .i64 r.cls,.slice r.pa r.pn r.pc,.slice r.ta r.tn r.tc,.slice r.ra r.rn r.rc])∧RfAt (fun b=>M b∨(w1.heap.size≤b∧b≠w1.heap.size)) w' (j8 11 y x) r):=j4 fun W h1 h3=>vw5 (o:=11) (by simp [qf0]) h1 (qs8 (q9 HXy W h1) (fun _ h _=>.inl h)) (qs8 (q9 HXx W h1) (fun _ h _=>.inl h)) h3 (q9 BXy) (q9 BXx)
  have TWC:Hid (∀W:World,Below w1.heap.size w1 W→Calls Tryz.prog 227 #[.string ⟨#[60,61]⟩,.agg #[.string h.op,.string (BS h.text),.int .i64 h.cls,.slice h.pa h.pn h.pc,.slice h.ta h.tn h.tc,.slice h.ra h.rn h.rc],.agg #[.string g.op,.string (BS g.text),.int .i64 g.cls,.slice g.pa g.pn g.pc,.slice g.ta g.tn g.tc,.slice g.ra g.rn g.rc]] W fun e w'=>Below W.heap.size W w'∧∃r:RF,e=.returned (.agg #[.string r.op,.string (BS r.text),.int .i64 r.cls,.slice r.pa r.pn r.pc,.slice r.ta r.tn r.tc,.slice r.ra r.rn r.rc])∧RfAt (fun b=>M b∨w1.heap.size≤b) w' (j8 11 y x) r):=j4 fun W h1=>tw_no (o:=11) (by simp [qf0]) h1 (qs8 (q9 HXy W h1) (fun _ h _=>.inl h)) (qs8 (q9 HXx W h1) (fun _ h _=>.inl h)) (q9 BXy) (q9 BXx)
  go_region_held3 (fun W=>W.cell? ⟨b,0,none⟩=some (.string g.op)∧W.cell? ⟨b,1,none⟩=some (.string (BS g.text))∧W.cell? ⟨b,2,none⟩=some (.int .i64 g.cls)∧W.cell? ⟨b,3,none⟩=some (.slice g.pa g.pn g.pc)∧W.cell? ⟨b,4,none⟩=some (.slice g.ta g.tn g.tc)∧W.cell? ⟨b,5,none⟩=some (.slice g.ra g.rn g.rc)∧W.cell? ⟨b,6,none⟩=some (.string h.op)∧W.cell? ⟨b,7,none⟩=some (.string (BS h.text))∧W.cell? ⟨b,8,none⟩=some (.int .i64 h.cls)∧W.cell? ⟨b,9,none⟩=some (.slice h.pa h.pn h.pc)∧W.cell? ⟨b,10,none⟩=some (.slice h.ta h.tn h.tc)∧W.cell? ⟨b,11,none⟩=some (.slice h.ra h.rn h.rc)∧W.cell? ⟨b,12,none⟩=some (.string j.op)∧W.cell? ⟨b,13,none⟩=some (.string (BS j.text))∧W.cell? ⟨b,14,none⟩=some (.int .i64 j.cls)∧W.cell? ⟨b,15,none⟩=some (.slice j.pa j.pn j.pc)∧W.cell? ⟨b,16,none⟩=some (.slice j.ta j.tn j.tc)∧W.cell? ⟨b,17,none⟩=some (.slice j.ra j.rn j.rc)) (first|with_reducible assumption|go_keep) (first|(go_at_call 227;refine (q9 TWA (w1.alloc (.cells #[.string ⟨#[]⟩,.string ⟨#[]⟩,.int .i64 0,.slice none 0 0,.slice none 0 0,.slice none 0 0] 184)).drew ((Below.refl w1.heap.size w1).alloc (Nat.le_refl _) (.cells #[.string ⟨#[]⟩,.string ⟨#[]⟩,.int .i64 0,.slice none 0 0,.slice none 0 0,.slice none 0 0] 184)).drew (by show w1.heap.size<(w1.alloc _).heap.size;simp)).mono ?_;rintro e w3 ⟨hb3,r3,rfl,hr3⟩;have HRA:=j4 hr3;have HB3:=j4 (j6 ((Below.refl w1.heap.size w1).alloc (Nat.le_refl _) (.cells #[.string ⟨#[]⟩,.string ⟨#[]⟩,.int .i64 0,.slice none 0 0,.slice none 0 0,.slice none 0 0] 184)).drew hb3);obtain ⟨p0,p1,p2,p3,p4,p5,pz,hz3⟩:=(qt4 w1).drew.below hb3;have hSS3:=(q9 KX w3 (q9 HB3));clear hb3 hr3)|(go_at_call 227;refine (q9 TWC w1.drew (Below.refl w1.heap.size w1).drew).mono ?_;rintro e w3 ⟨hb3,r3,rfl,hr3⟩;have HRC:=j4 hr3;have HB3:=j4 (j6 (Below.refl w1.heap.size w1).drew hb3);have hz3c:w1.heap.size≤w3.heap.size:=hb3.size;have nc1:¬b=w3.heap.size:=(by omega);have nc2:¬w3.heap.size=b:=(by omega);have hSS3:=(q9 KX w3 (q9 HB3));clear hb3 hr3))
  all_goals
   go_wp2_with fail
   go_meet
   first
    | (have _q:=HRA;exact ⟨_,r3,rfl,j4 (OutAt.put (q9 HB3) (Nat.le_refl _) hz3 (q9 HNB) (fun k hk=>by match k,hk with|0,_=>exact ⟨_,p0⟩|1,_=>exact ⟨_,p1⟩|2,_=>exact ⟨_,p2⟩|3,_=>exact ⟨_,p3⟩|4,_=>exact ⟨_,p4⟩|5,_=>exact ⟨_,p5⟩) pz (q9 HRA))⟩)
    | (have _q:=HRC;exact ⟨_,r3,rfl,j4 (OutAt.new (q9 HB3) (q9 HRC))⟩)
 case rest=>
  obtain ⟨oa,ra,rfl,HO⟩:=hcut
  obtain ⟨wa,rfl⟩:∃wa:World,wa=wc:=⟨_,rfl⟩
  have hbo:=(q9 HO).bel
  have hza:=hbo.size
  obtain ⟨u0,u1,u2,u3,u4,u5,u6,u7,u8,u9,u10,u11,u12,u13,u14,u15,u16,u17⟩:=q9 KX wa hbo
  have HOA:Hid (∀W,Below wa.heap.size wa W→(W.cell? ⟨oa,0,none⟩=some (.string ra.op)∧W.cell? ⟨oa,1,none⟩=some (.string (BS ra.text))∧W.cell? ⟨oa,2,none⟩=some (.int .i64 ra.cls)∧W.cell? ⟨oa,3,none⟩=some (.slice ra.pa ra.pn ra.pc)∧W.cell? ⟨oa,4,none⟩=some (.slice ra.ta ra.tn ra.tc)∧W.cell? ⟨oa,5,none⟩=some (.slice ra.ra ra.rn ra.rc))):=j4 fun W hb=>jb8 fun i hi=>(hb.cell (p:=⟨oa,i,none⟩) (q9 HO).lt).trans ((q9 HO).cells i hi)
  obtain ⟨o0,o1,o2,o3,o4,o5⟩:=q9 HOA wa (Below.refl _ _)
  have HNV:=j4 ((q9 HNV).below hbo)
  have hoc:oa<wa.heap.size:=(q9 HO).lt
  have hog:w1.heap.size≤oa:=(q9 HO).ge
  have hlba:b<wa.heap.size:=by omega
  have HBC:=j4 (j6 (q9 HB1) hbo)
  have HKA:=KX
  have HBO:=j4 hbo
  have KX:Hid (∀W,Below wa.heap.size wa W→(W.cell? ⟨b,0,none⟩=some (.string g.op)∧W.cell? ⟨b,1,none⟩=some (.string (BS g.text))∧W.cell? ⟨b,2,none⟩=some (.int .i64 g.cls)∧W.cell? ⟨b,3,none⟩=some (.slice g.pa g.pn g.pc)∧W.cell? ⟨b,4,none⟩=some (.slice g.ta g.tn g.tc)∧W.cell? ⟨b,5,none⟩=some (.slice g.ra g.rn g.rc)∧W.cell? ⟨b,6,none⟩=some (.string h.op)∧W.cell? ⟨b,7,none⟩=some (.string (BS h.text))∧W.cell? ⟨b,8,none⟩=some (.int .i64 h.cls)∧W.cell? ⟨b,9,none⟩=some (.slice h.pa h.pn h.pc)∧W.cell? ⟨b,10,none⟩=some (.slice h.ta h.tn h.tc)∧W.cell? ⟨b,11,none⟩=some (.slice h.ra h.rn h.rc)∧W.cell? ⟨b,12,none⟩=some (.string j.op)∧W.cell? ⟨b,13,none⟩=some (.string (BS j.text))∧W.cell? ⟨b,14,none⟩=some (.int .i64 j.cls)∧W.cell? ⟨b,15,none⟩=some (.slice j.pa j.pn j.pc)∧W.cell? ⟨b,16,none⟩=some (.slice j.ta j.tn j.tc)∧W.cell? ⟨b,17,none⟩=some (.slice j.ra j.rn j.rc))):=j4 fun W hb=>q9 HKA W (j6 (q9 HBO) hb)
  have HXx:Hid (∀W,Below wa.heap.size wa W→RfAt (fun b=>(M b∨(w1.heap.size≤b∧b≠oa))∧b<wa.heap.size) W x g):=j4 fun W hb=>qs8 (q9 HXx W (j6 (q9 HBO) hb)) (fun b h _=>⟨.inl h,Nat.lt_of_lt_of_le (q9 HNB b h) hza⟩)
  have HXu:Hid (∀W,Below wa.heap.size wa W→RfAt (fun b=>(M b∨(w1.heap.size≤b∧b≠oa))∧b<wa.heap.size) W u j):=j4 fun W hb=>qs8 (q9 HXu W (j6 (q9 HBO) hb)) (fun b h _=>⟨.inl h,Nat.lt_of_lt_of_le (q9 HNB b h) hza⟩)
  have HNB:Hid (∀b,(M b∨(w1.heap.size≤b∧b≠oa))∧b<wa.heap.size→b<wa.heap.size):=j4 fun b h=>h.2
  obtain ⟨-,-,-,-,-,-,-,-,-,t0,t1,t2,t3,t4,t5,tz,tl,-,-,-,-⟩:=q9 HNV
  clear s0 s1 s2 s3 s4 s5 sz v0 v1 v2 v3 v4 v5 v6 v7 v8 v9 v10 v11 v12 v13 v14 v15 v16 v17 hbo HKA HXy
  go_wp2_with fail
  go_cut [8] (fun s8 wx=>∃ob r,s8=.pointer (some ⟨ob,0,none⟩)∧Hid (OutAt (fun b=>(M b∨(w1.heap.size≤b∧b≠oa))∧b<wa.heap.size) wa wx ob (j8 11 x u) r))
  case first=>
   have hbB:b<wa.heap.size:=(by omega)
   have na1:¬b=wa.heap.size:=(by omega)
   have na2:¬wa.heap.size=b:=(by omega)
   have TWA:Hid (∀W:World,Below wa.heap.size wa W→wa.heap.size<W.heap.size→Calls Tryz.prog 227 #[.string ⟨#[60,61]⟩,.agg #[.string g.op,.string (BS g.text),.int .i64 g.cls,.slice g.pa g.pn g.pc,.slice g.ta g.tn g.tc,.slice g.ra g.rn g.rc],.agg #[.string j.op,.string (BS j.text),.int .i64 j.cls,.slice j.pa j.pn j.pc,.slice j.ta j.tn j.tc,.slice j.ra j.rn j.rc]] W fun e w'=>Below W.heap.size W w'∧∃r:RF,e=.returned (.agg #[.string r.op,.string (BS r.text),.int .i64 r.cls,.slice r.pa r.pn r.pc,.slice r.ta r.tn r.tc,.slice r.ra r.rn r.rc])∧RfAt (fun b=>(fun b=>(M b∨(w1.heap.size≤b∧b≠oa))∧b<wa.heap.size) b∨(wa.heap.size≤b∧b≠wa.heap.size)) w' (j8 11 x u) r):=j4 fun W h1 h3=>vw5 (o:=11) (by simp [qf0]) h1 (qs8 (q9 HXx W h1) (fun _ h _=>.inl h)) (qs8 (q9 HXu W h1) (fun _ h _=>.inl h)) h3 (q9 BXx) (q9 BXu)
   have TWC:Hid (∀W:World,Below wa.heap.size wa W→Calls Tryz.prog 227 #[.string ⟨#[60,61]⟩,.agg #[.string g.op,.string (BS g.text),.int .i64 g.cls,.slice g.pa g.pn g.pc,.slice g.ta g.tn g.tc,.slice g.ra g.rn g.rc],.agg #[.string j.op,.string (BS j.text),.int .i64 j.cls,.slice j.pa j.pn j.pc,.slice j.ta j.tn j.tc,.slice j.ra j.rn j.rc]] W fun e w'=>Below W.heap.size W w'∧∃r:RF,e=.returned (.agg #[.string r.op,.string (BS r.text),.int .i64 r.cls,.slice r.pa r.pn r.pc,.slice r.ta r.tn r.tc,.slice r.ra r.rn r.rc])∧RfAt (fun b=>(fun b=>(M b∨(w1.heap.size≤b∧b≠oa))∧b<wa.heap.size) b∨wa.heap.size≤b) w' (j8 11 x u) r):=j4 fun W h1=>tw_no (o:=11) (by simp [qf0]) h1 (qs8 (q9 HXx W h1) (fun _ h _=>.inl h)) (qs8 (q9 HXu W h1) (fun _ h _=>.inl h)) (q9 BXx) (q9 BXu)
   go_region_held3 (fun W=>W.cell? ⟨b,0,none⟩=some (.string g.op)∧W.cell? ⟨b,1,none⟩=some (.string (BS g.text))∧W.cell? ⟨b,2,none⟩=some (.int .i64 g.cls)∧W.cell? ⟨b,3,none⟩=some (.slice g.pa g.pn g.pc)∧W.cell? ⟨b,4,none⟩=some (.slice g.ta g.tn g.tc)∧W.cell? ⟨b,5,none⟩=some (.slice g.ra g.rn g.rc)∧W.cell? ⟨b,6,none⟩=some (.string h.op)∧W.cell? ⟨b,7,none⟩=some (.string (BS h.text))∧W.cell? ⟨b,8,none⟩=some (.int .i64 h.cls)∧W.cell? ⟨b,9,none⟩=some (.slice h.pa h.pn h.pc)∧W.cell? ⟨b,10,none⟩=some (.slice h.ta h.tn h.tc)∧W.cell? ⟨b,11,none⟩=some (.slice h.ra h.rn h.rc)∧W.cell? ⟨b,12,none⟩=some (.string j.op)∧W.cell? ⟨b,13,none⟩=some (.string (BS j.text))∧W.cell? ⟨b,14,none⟩=some (.int .i64 j.cls)∧W.cell? ⟨b,15,none⟩=some (.slice j.pa j.pn j.pc)∧W.cell? ⟨b,16,none⟩=some (.slice j.ta j.tn j.tc)∧W.cell? ⟨b,17,none⟩=some (.slice j.ra j.rn j.rc)) (first|with_reducible assumption|go_keep) (first|(go_at_call 227;refine (q9 TWA (wa.alloc (.cells #[.string ⟨#[]⟩,.string ⟨#[]⟩,.int .i64 0,.slice none 0 0,.slice none 0 0,.slice none 0 0] 184)).drew ((Below.refl wa.heap.size wa).alloc (Nat.le_refl _) (.cells #[.string ⟨#[]⟩,.string ⟨#[]⟩,.int .i64 0,.slice none 0 0,.slice none 0 0,.slice none 0 0] 184)).drew (by show wa.heap.size<(wa.alloc _).heap.size;simp)).mono ?_;rintro e w3 ⟨hb3,r3,rfl,hr3⟩;have HRA:=j4 hr3;have HB3:=j4 (j6 ((Below.refl wa.heap.size wa).alloc (Nat.le_refl _) (.cells #[.string ⟨#[]⟩,.string ⟨#[]⟩,.int .i64 0,.slice none 0 0,.slice none 0 0,.slice none 0 0] 184)).drew hb3);obtain ⟨p0,p1,p2,p3,p4,p5,pz,hz3⟩:=(qt4 wa).drew.below hb3;have hSS3:=(q9 KX w3 (q9 HB3));clear hb3 hr3)|(go_at_call 227;refine (q9 TWC wa.drew (Below.refl wa.heap.size wa).drew).mono ?_;rintro e w3 ⟨hb3,r3,rfl,hr3⟩;have HRC:=j4 hr3;have HB3:=j4 (j6 (Below.refl wa.heap.size wa).drew hb3);have hz3c:wa.heap.size≤w3.heap.size:=hb3.size;have nc1:¬b=w3.heap.size:=(by omega);have nc2:¬w3.heap.size=b:=(by omega);have hSS3:=(q9 KX w3 (q9 HB3));clear hb3 hr3))
   all_goals
    go_wp2_with fail
    go_meet
    first
     | (have _q:=HRA;exact ⟨_,r3,rfl,j4 (OutAt.put (q9 HB3) (Nat.le_refl _) hz3 (q9 HNB) (fun k hk=>by match k,hk with|0,_=>exact ⟨_,p0⟩|1,_=>exact ⟨_,p1⟩|2,_=>exact ⟨_,p2⟩|3,_=>exact ⟨_,p3⟩|4,_=>exact ⟨_,p4⟩|5,_=>exact ⟨_,p5⟩) pz (q9 HRA))⟩)
     | (have _q:=HRC;exact ⟨_,r3,rfl,j4 (OutAt.new (q9 HB3) (q9 HRC))⟩)
  case rest=>
   obtain ⟨ob,rb,rfl,HP⟩:=hcut
   have hbp:=(q9 HP).bel
   have hzp:=hbp.size
   obtain ⟨a0,a1,a2,a3,a4,a5⟩:=q9 HOA wc hbp
   have b0:wc.cell? ⟨ob,0,none⟩=some (.string rb.op):=(q9 HP).cells 0 (by omega)
   have b1:wc.cell? ⟨ob,1,none⟩=some (.string (BS rb.text)):=(q9 HP).cells 1 (by omega)
   have b2:wc.cell? ⟨ob,2,none⟩=some (.int .i64 rb.cls):=(q9 HP).cells 2 (by omega)
   have b3:wc.cell? ⟨ob,3,none⟩=some (.slice rb.pa rb.pn rb.pc):=(q9 HP).cells 3 (by omega)
   have b4:wc.cell? ⟨ob,4,none⟩=some (.slice rb.ta rb.tn rb.tc):=(q9 HP).cells 4 (by omega)
   have b5:wc.cell? ⟨ob,5,none⟩=some (.slice rb.ra rb.rn rb.rc):=(q9 HP).cells 5 (by omega)
   have HNC:=j4 ((q9 HNV).below hbp)
   have hpc:ob<wc.heap.size:=(q9 HP).lt
   have hoc2:oa<wc.heap.size:=by omega
   have sld:w.heap.size+1<wc.heap.size:=by omega
   have HBD:=j4 (j6 (q9 HBC) hbp)
   have TW:Hid (Calls Tryz.prog 227 #[.string ⟨#[65,78,68]⟩,.agg #[.string ra.op,.string (BS ra.text),.int .i64 ra.cls,.slice ra.pa ra.pn ra.pc,.slice ra.ta ra.tn ra.tc,.slice ra.ra ra.rn ra.rc],.agg #[.string rb.op,.string (BS rb.text),.int .i64 rb.cls,.slice rb.pa rb.pn rb.pc,.slice rb.ta rb.tn rb.tc,.slice rb.ra rb.rn rb.rc]] wc fun e w'=>Below wc.heap.size wc w'∧∃q:RF,e=.returned (.agg #[.string q.op,.string (BS q.text),.int .i64 q.cls,.slice q.pa q.pn q.pc,.slice q.ta q.tn q.tc,.slice q.ra q.rn q.rc])∧RfAt (fun b=>M b∨w.heap.size+1+1≤b) w' (j8 6 (j8 11 y x) (j8 11 x u)) q):=j4 ((qv9 (o:=6) (by simp [qf0]) (qs8 (N':=fun b=>(M b∨w.heap.size+1+1≤b)∧b<wc.heap.size) ((q9 HO).rf.below hbp) (fun b h hl=>⟨by rcases h with h|h;exact .inl h;right;omega,hl⟩)) (qs8 (N':=fun b=>(M b∨w.heap.size+1+1≤b)∧b<wc.heap.size) (q9 HP).rf (fun b h hl=>⟨by rcases h with h|h;rcases h.1 with h|h;exact .inl h;right;omega;right;omega,hl⟩)) (q9 BYX) (q9 BXU) (fun b h=>h.2)).mono (by rintro e w' ⟨h1,q,e1,h2⟩;exact ⟨h1,q,e1,qs8 h2 (fun b h _=>by rcases h with h|h;exact h.1;right;omega)⟩))
   clear HO HP hbp HXx HXu KX HOA
   go_wp2_with (go_at_call 227;refine (q9 TW).mono ?_;rintro e w4 ⟨hb4,q,rfl,hq⟩;have HQQ:=j4 hq;have HB4:=j4 (j6 (q9 HBD) hb4);obtain ⟨-,-,-,-,-,-,-,-,-,q0,q1,q2,q3,q4,q5,qz,ql,-,-,-,-⟩:=(q9 HNC).below hb4;clear hb4 hq)
   all_goals refine bodyPost_ret (by simp [results,Tryz.results178,go_sem,q0,q1,q2,q3,q4,q5]<;>rfl) rfl ?_
   all_goals exact qp8 (q9 HNW) (q9 HB4) (q9 HQQ) (qj0 _ _ _ _ _ _ _ _)
end
section
def qu1 (p:Pay):List Co→Co
 | []=>.leaf (qu0 p)
 | [x]=>if p.op==14 then j8 16 (vb2 0) x else if p.op==15 then j8 17 (vb2 0) x else if p.op==5 then qe3 x
   else if p.op==21 then qk7 x p.texts else .un (qu0 p) x
 | [x,y]=>if p.op==12 then j8 10 y x else if p.op==13 then j8 11 y x else if p.op==9 then qe3 (j8 8 x y) else j8 p.op x y
 | x::y::z::_=>j8 6 (j8 11 y x) (j8 11 x z)
def nC:Co:=.leaf (qb0 3)
def argC (cs:List Co) (n:RN):List Co:=n.ins.map fun k=>cs.getD k nC
def vn2 (cs:List Co) (n:RN):Co:=if n.neg=true then qe3 (qu1 (jj0 n) (argC cs n)) else qu1 (jj0 n) (argC cs n)
def qv2:List Co→List RN→List Co
 | cs,[]=>cs
 | cs,n::t=>qv2 (cs++[vn2 cs n]) t
theorem qz7 (cs:List Co) (l k:List RN):qv2 cs (l++k)=qv2 (qv2 cs l) k:=by
 induction l generalizing cs with
 | nil=>rfl
 | cons n t ih=>rw [List.cons_append,qv2,qv2];exact ih _
theorem runK_len:∀(l:List RN) (cs:List Co),(qv2 cs l).length=cs.length+l.length:=by
 intro l
 induction l with
 | nil=>intro cs;rfl
 | cons n t ih=>intro cs;rw [qv2,ih];simp;omega
theorem runK_take {ns:List RN} {k:Nat} {n:RN} {cs:List Co} (hn:ns[k]?=some n) (hv:qv2 [] (ns.take k)=cs):qv2 [] (ns.take (k+1))=cs++[vn2 cs n]:=by
 rw [List.take_add_one,hn,qz7,hv]
 rfl
theorem qv5:∀c,WfC c→(qb2 c).length≤(j9 c).length+1:=by
 intro c
 induction c with
 | leaf p=>intro _;simp [qb2]
 | un p x ih=>
  intro h
  have h1:=ih h.2
  have h2:(j9 x).length+1≤(j9 (.un p x)).length:=by
   show _≤(qc7 p (j9 x) []).length
   have hu:=h.1
   unfold unB at hu
   simp only [Bool.or_eq_true,beq_iff_eq] at hu
   rcases hu with (e|e)|e<;>(unfold qc7;simp [e]<;>omega)
  simp [qb2];omega
 | bin p x y ihx ihy=>
  intro h
  have h1:=ihx h.2.1
  have h2:=ihy h.2.2
  have h3:=qm8 h.1 x y
  simp [qb2];omega
structure Gc (c:Co):Prop where
 len:(j9 c).length≤120000000
 un:uC c≤200
 wt:WT c
theorem Gc.sz {c:Co} (h:Gc c):SzC c:=⟨by have:=h.len;have:=h.un;omega,by have:=h.len;have:=h.un;have:=qv5 c h.wt.wf;omega⟩
theorem Gc.big {c:Co} (h:Gc c):qt8 c:=h.sz.big
theorem two_bin {o:Int} (h:qf0 o):binB o=true∧qm4 o=false∧unB o=false:=by
 rcases h with rfl|rfl|rfl|rfl|rfl|rfl|rfl|rfl|rfl<;>exact ⟨rfl,rfl,rfl⟩
theorem sign_len3 (o:Int):(qj8 o).length≤3:=by
 unfold qj8
 repeat' split
 all_goals simp
theorem qk6 {o:Int} (ho:qf0 o) {x y:Co} (hx:WT x) (hy:WT y) (ht:o=6∨o=7→Tb x∧Tb y):WT (j8 o x y):=by
 unfold j8
 split
 ·exact ⟨ho,fun h=>⟨(ht h).2,(ht h).1⟩,hy,hx⟩
 ·exact ⟨ho,ht,hx,hy⟩
theorem op_pair (o:Int) (x y:Co):opC (j8 o x y)=o:=by
 unfold j8
 split<;>rfl
theorem qn5 {o:Int} (h:o=6∨o=7∨o=8∨o=10∨o=11) (x y:Co):Tb (j8 o x y):=by
 right
 rw [op_pair]
 rcases h with rfl|rfl|rfl|rfl|rfl<;>rfl
theorem wt_not:∀{c:Co},WT c→Tb c→WT (qe3 c)∧Tb (qe3 c):=by
 intro c
 induction c with
 | leaf p=>
  intro h ht
  unfold qe3
  split
  ·exact ⟨⟨by decide,by decide⟩,.inr rfl⟩
  ·split
   ·exact ⟨⟨by decide,by decide⟩,.inr rfl⟩
   ·exact ⟨⟨.inl rfl,fun _=>ht,h⟩,.inr rfl⟩
 | un p x ih=>
  intro h ht
  unfold qe3
  split
  ·rename_i h5
   simp only [Bool.and_eq_true,beq_iff_eq] at h5
   exact ⟨h.2.2,h.2.1 h5.1⟩
  ·exact ⟨⟨.inl rfl,fun _=>ht,h⟩,.inr rfl⟩
 | bin p x y ihx ihy=>
  intro h ht
  have two:∀o,o=6∨o=7→(p.op=6∨p.op=7)→WT (j8 o (qe3 x) (qe3 y))∧Tb (j8 o (qe3 x) (qe3 y)):=fun o ho hp=>by
   obtain ⟨tx,ty⟩:=h.2.1 hp
   obtain ⟨a,b⟩:=ihx h.2.2.1 tx
   obtain ⟨c,d⟩:=ihy h.2.2.2 ty
   exact ⟨qk6 (by unfold qf0;omega) a c (fun _=>⟨b,d⟩),qn5 (by omega) _ _⟩
  unfold qe3
  split
  ·rename_i e;exact two 7 (.inr rfl) (.inl (eq_of_beq e))
  ·split
   ·rename_i e;exact two 6 (.inl rfl) (.inr (eq_of_beq e))
   ·split
    ·exact ⟨qk6 (by unfold qf0;omega) h.2.2.2 h.2.2.1 (by omega),qn5 (by omega) _ _⟩
    ·split
     ·exact ⟨qk6 (by unfold qf0;omega) h.2.2.2 h.2.2.1 (by omega),qn5 (by omega) _ _⟩
     ·exact ⟨⟨.inl rfl,fun _=>ht,h⟩,.inr rfl⟩
theorem wt_text (t:List UInt8):WT (qd9 t):=⟨by show (0:Int)≤2;decide,by show (2:Int)≤4;decide⟩
theorem wt_num (n:Int):WT (vb2 n):=⟨by show (0:Int)≤1;decide,by show (1:Int)≤4;decide⟩
theorem wt_eq {x:Co} (hx:WT x) (t:List UInt8):WT (j8 8 x (qd9 t))∧Tb (j8 8 x (qd9 t)):=⟨qk6 (by unfold qf0;omega) hx (wt_text t) (by omega),qn5 (by omega) _ _⟩
theorem wt_orAll {x:Co} (hx:WT x):∀(r:List (List UInt8)) (f:Co),WT f→Tb f→WT (qp7 x f r)∧Tb (qp7 x f r):=by
 intro r
 induction r with
 | nil=>intro f h1 h2;exact ⟨h1,h2⟩
 | cons t r ih=>
  intro f h1 h2
  obtain ⟨a,b⟩:=wt_eq hx t
  exact ih _ (qk6 (by unfold qf0;omega) h1 a (fun _=>⟨h2,b⟩)) (qn5 (by omega) _ _)
theorem wt_among {x:Co} (hx:WT x) {ts:List (List UInt8)} (hn:ts≠[]):WT (qk7 x ts)∧Tb (qk7 x ts):=by
 unfold qk7
 cases h:qf4 ts with
 | nil=>exact absurd h (ve4 hn)
 | cons t r=>
  obtain ⟨a,b⟩:=wt_eq hx t
  exact wt_orAll hx r _ a b
theorem vy8 {want pl c k:Int} {rs:List CRes} (h:qt5 want pl c rs=.ok k):k=c:=by
 unfold qt5 at h
 split at h
 ·injection h with h;exact h.symm
 ·cases h
theorem cls_un {p:Pay} {x:Ast} {k:Int} (hs:ShA (.un p x)) (hc:qa4 (.un p x)=.ok k):∃d,qa4 x=.ok d∧(p.op=5→d=3∨d=0):=by
 have hc:qh2 p.op p.place [qa4 x]=.ok k:=hc
 rcases hs.1 with e|e|e|e|e|e
 ·rw [e] at hc
  obtain ⟨d,h1,h2⟩:=qh4 (show qt5 3 p.place 3 [qa4 x]=.ok k from hc) (qa4 x) (by simp)
  exact ⟨d,h1,fun _=>h2⟩
 ·rw [e] at hc
  obtain ⟨d,h1,_⟩:=qh4 (show qt5 1 p.place 1 [qa4 x]=.ok k from hc) (qa4 x) (by simp)
  exact ⟨d,h1,fun h=>by omega⟩
 ·rw [e] at hc
  obtain ⟨d,h1,_⟩:=qh4 (show qt5 1 p.place 1 [qa4 x]=.ok k from hc) (qa4 x) (by simp)
  exact ⟨d,h1,fun h=>by omega⟩
 all_goals
  obtain ⟨q,rfl,hq0⟩:=qp1 hs.2.2.2 (hs.2.2.1 (by omega))
  exact ⟨0,by show qh2 q.op q.place []=.ok 0;rw [hq0];rfl,fun _=>.inr rfl⟩
theorem cls_bin {p:Pay} {x y:Ast} {k:Int} (hs:ShA (.bin p x y)) (hc:qa4 (.bin p x y)=.ok k):∃d e,qa4 x=.ok d∧qa4 y=.ok e∧(p.op=6∨p.op=7→(d=3∨d=0)∧(e=3∨e=0)):=by
 have hc:qh2 p.op p.place [qa4 x,qa4 y]=.ok k:=hc
 have dm:∀w k',qt5 w p.place k' [qa4 x,qa4 y]=.ok k→∃d e,qa4 x=.ok d∧qa4 y=.ok e∧(d=w∨d=0)∧(e=w∨e=0):=fun w k' h=>by
  obtain ⟨d,h1,h2⟩:=qh4 h (qa4 x) (by simp)
  obtain ⟨e,h3,h4⟩:=qh4 h (qa4 y) (by simp)
  exact ⟨d,e,h1,h3,h2,h4⟩
 have d1:∀k',qt5 1 p.place k' [qa4 x,qa4 y]=.ok k→¬(p.op=6∨p.op=7)→∃d e,qa4 x=.ok d∧qa4 y=.ok e∧(p.op=6∨p.op=7→(d=3∨d=0)∧(e=3∨e=0)):=fun k' h hn=>by
  obtain ⟨d,e,h1,h2,_⟩:=dm 1 k' h
  exact ⟨d,e,h1,h2,fun h=>absurd h hn⟩
 have al:qm3 p.place (qa4 x) (qa4 y)=.ok k→¬(p.op=6∨p.op=7)→∃d e,qa4 x=.ok d∧qa4 y=.ok e∧(p.op=6∨p.op=7→(d=3∨d=0)∧(e=3∨e=0)):=fun h hn=>by
  obtain ⟨⟨d,h1⟩,e,h2⟩:=vd4 h
  exact ⟨d,e,h1,h2,fun h=>absurd h hn⟩
 rcases (show p.op=6∨p.op=7∨p.op=8∨p.op=9∨p.op=10∨p.op=11∨p.op=12∨p.op=13∨p.op=16∨p.op=17∨p.op=18∨p.op=19 by have:=hs.1;omega) with e|e|e|e|e|e|e|e|e|e|e|e<;>rw [e] at hc
 ·obtain ⟨d,f,h1,h2,h3⟩:=dm 3 3 hc;exact ⟨d,f,h1,h2,fun _=>h3⟩
 ·obtain ⟨d,f,h1,h2,h3⟩:=dm 3 3 hc;exact ⟨d,f,h1,h2,fun _=>h3⟩
 ·exact al hc (by omega)
 ·exact al hc (by omega)
 ·exact d1 3 hc (by omega)
 ·exact d1 3 hc (by omega)
 ·exact d1 3 hc (by omega)
 ·exact d1 3 hc (by omega)
 ·exact d1 1 hc (by omega)
 ·exact d1 1 hc (by omega)
 ·exact d1 1 hc (by omega)
 ·exact d1 1 hc (by omega)
theorem cls_tri {p:Pay} {x y z:Ast} {k:Int} (hs:ShA (.tri p x y z)) (hc:qa4 (.tri p x y z)=.ok k):(∃d,qa4 x=.ok d)∧(∃d,qa4 y=.ok d)∧∃d,qa4 z=.ok d:=by
 have hc:qh2 p.op p.place [qa4 x,qa4 y,qa4 z]=.ok k:=hc
 rw [hs.1] at hc
 have hc:qt5 1 p.place 3 [qa4 x,qa4 y,qa4 z]=.ok k:=hc
 obtain ⟨d1,x1,_⟩:=qh4 hc (qa4 x) (by simp)
 obtain ⟨d2,y1,_⟩:=qh4 hc (qa4 y) (by simp)
 obtain ⟨d3,z1,_⟩:=qh4 hc (qa4 z) (by simp)
 exact ⟨⟨_,x1⟩,⟨_,y1⟩,_,z1⟩
theorem wt_core:∀t,ShA t→∀k,qa4 t=.ok k→WT (j7 t)∧(k=3∨k=0→Tb (j7 t)):=by
 intro t
 induction t with
 | leaf p=>
  intro hs k hc
  refine ⟨⟨hs.1,hs.2⟩,fun hk=>?_⟩
  have hc:qh2 p.op p.place []=.ok k:=hc
  show p.op=0∨vy3 p.op=1
  have h1:=hs.1
  have h2:=hs.2
  rcases (show p.op=0∨p.op=1∨p.op=2∨p.op=3∨p.op=4 by omega) with e|e|e|e|e<;>rw [e] at hc ⊢
  ·exact .inl rfl
  ·simp [qh2] at hc;omega
  ·simp [qh2] at hc;omega
  ·exact .inr rfl
  ·exact .inr rfl
 | un p x ih=>
  intro hs k hc
  obtain ⟨d,hd,h5⟩:=cls_un hs hc
  obtain ⟨hx,tx⟩:=ih hs.2.2.2 d hd
  have hc:qh2 p.op p.place [qa4 x]=.ok k:=hc
  rcases hs.1 with e|e|e|e|e|e
  ·rw [show j7 (.un p x)=qe3 (j7 x) by rw [j7,e];rfl]
   have:=wt_not hx (tx (h5 e))
   exact ⟨this.1,fun _=>this.2⟩
  ·rw [show j7 (.un p x)=j8 16 (vb2 0) (j7 x) by rw [j7,e];rfl]
   rw [e] at hc
   have:=vy8 (show qt5 1 p.place 1 [qa4 x]=.ok k from hc)
   exact ⟨qk6 (by unfold qf0;omega) (wt_num 0) hx (by omega),by omega⟩
  ·rw [show j7 (.un p x)=j8 17 (vb2 0) (j7 x) by rw [j7,e];rfl]
   rw [e] at hc
   have:=vy8 (show qt5 1 p.place 1 [qa4 x]=.ok k from hc)
   exact ⟨qk6 (by unfold qf0;omega) (wt_num 0) hx (by omega),by omega⟩
  ·rw [show j7 (.un p x)=qk7 (j7 x) p.texts by rw [j7,e];rfl]
   have:=wt_among hx (hs.2.1 e)
   exact ⟨this.1,fun _=>this.2⟩
  ·rw [show j7 (.un p x)=.un (qu0 p) (j7 x) by rw [j7,e];rfl]
   exact ⟨⟨.inr (.inl e),fun h=>absurd (show p.op=5 from h) (by omega),hx⟩,fun _=>.inr (by show vy3 p.op=1;rw [e];rfl)⟩
  ·rw [show j7 (.un p x)=.un (qu0 p) (j7 x) by rw [j7,e];rfl]
   exact ⟨⟨.inr (.inr e),fun h=>absurd (show p.op=5 from h) (by omega),hx⟩,fun _=>.inr (by show vy3 p.op=1;rw [e];rfl)⟩
 | bin p x y ihx ihy=>
  intro hs k hc
  obtain ⟨d,e,h1,h2,h3⟩:=cls_bin hs hc
  obtain ⟨hx,tx⟩:=ihx hs.2.1 d h1
  obtain ⟨hy,ty⟩:=ihy hs.2.2 e h2
  by_cases h12:p.op=12
  ·rw [show j7 (.bin p x y)=j8 10 (j7 y) (j7 x) by rw [j7,h12];rfl]
   exact ⟨qk6 (by unfold qf0;omega) hy hx (by omega),fun _=>qn5 (by omega) _ _⟩
  by_cases h13:p.op=13
  ·rw [show j7 (.bin p x y)=j8 11 (j7 y) (j7 x) by rw [j7,h13];rfl]
   exact ⟨qk6 (by unfold qf0;omega) hy hx (by omega),fun _=>qn5 (by omega) _ _⟩
  by_cases h9:p.op=9
  ·rw [show j7 (.bin p x y)=qe3 (j8 8 (j7 x) (j7 y)) by rw [j7,h9];rfl]
   have:=wt_not (qk6 (by unfold qf0;omega) hx hy (by omega)) (qn5 (o:=8) (by omega) (j7 x) (j7 y))
   exact ⟨this.1,fun _=>this.2⟩
  rw [show j7 (.bin p x y)=j8 p.op (j7 x) (j7 y) by rw [j7,if_neg (by simpa using h12),if_neg (by simpa using h13),if_neg (by simpa using h9)]]
  refine ⟨qk6 (by have:=hs.1;unfold qf0;omega) hx hy fun h=>⟨tx (h3 h).1,ty (h3 h).2⟩,fun hk=>qn5 ?_ _ _⟩
  have ho:=hs.1
  by_cases h16:16≤p.op
  ·have hc:qh2 p.op p.place [qa4 x,qa4 y]=.ok k:=hc
   have:qt5 1 p.place 1 [qa4 x,qa4 y]=.ok k:=by
    rcases (show p.op=16∨p.op=17∨p.op=18∨p.op=19 by omega) with e|e|e|e<;>(rw [e] at hc;exact hc)
   have:=vy8 this
   omega
  ·omega
 | tri p x y z ihx ihy ihz=>
  intro hs k hc
  obtain ⟨⟨_,h1⟩,⟨_,h2⟩,_,h3⟩:=cls_tri hs hc
  have hx:=(ihx hs.2.1 _ h1).1
  have hy:=(ihy hs.2.2.1 _ h2).1
  have hz:=(ihz hs.2.2.2 _ h3).1
  exact ⟨qk6 (by unfold qf0;omega) (qk6 (by unfold qf0;omega) hy hx (by omega)) (qk6 (by unfold qf0;omega) hx hz (by omega)) (fun _=>⟨qn5 (by omega) _ _,qn5 (by omega) _ _⟩),fun _=>qn5 (by omega) _ _⟩
def GcA:Ast→Prop
 | .leaf p=>Gc (j7 (.leaf p))
 | .un p x=>Gc (j7 (.un p x))∧(p.op=5→Tb (j7 x))∧(p.op=21→(j9 (j7 x)).length≤402∧p.texts≠[]∧∀t∈p.texts,t.length≤200)∧GcA x
 | .bin p x y=>Gc (j7 (.bin p x y))∧GcA x∧GcA y
 | .tri p x y z=>Gc (j7 (.tri p x y z))∧GcA x∧GcA y∧GcA z
theorem GcA.gc {t:Ast} (h:GcA t):Gc (j7 t):=by
 cases t with
 | leaf p=>exact h
 | un p x=>exact h.1
 | bin p x y=>exact h.1
 | tri p x y z=>exact h.1
theorem vd8 {t:Ast} (h:Gd t) (hn:ndA t≤200) (hs:ShA t) {k:Int} (hc:qa4 t=.ok k):Gc (j7 t):=by
 refine ⟨?_,Nat.le_trans h.un hn,(wt_core t hs k hc).1⟩
 have h1:=h.len
 have h2:ndA t * ndA t≤200 * 200:=Nat.mul_le_mul hn hn
 omega
theorem gcA_every:∀t,GdA t→ndA t≤200→ShA t→vd2 t→vd3 t→BqA t→∀k,qa4 t=.ok k→GcA t:=by
 intro t
 induction t with
 | leaf p=>intro hg hn hs _ _ _ k hc;exact vd8 hg hn hs hc
 | un p x ih=>
  intro hg hn hs hb hm hq k hc
  obtain ⟨d,hd,h5⟩:=cls_un hs hc
  have hnx:ndA (.un p x)=1+p.texts.length+ndA x:=rfl
  refine ⟨vd8 hg.1 hn hs hc,fun e=>(wt_core x hs.2.2.2 d hd).2 (h5 e),fun e=>⟨?_,hs.2.1 e,hq.1.2⟩,ih hg.2 (by omega) hs.2.2.2 hb.2 hm.2 hq.2 d hd⟩
  obtain ⟨q,rfl,hq0⟩:=qp1 hs.2.2.2 (hs.2.2.1 (by omega))
  exact qy8 (qu0 q) hb.2.1 hm.2 (by unfold qm4;simp [qu0,hq0])
 | bin p x y ihx ihy=>
  intro hg hn hs hb hm hq k hc
  obtain ⟨d,e,h1,h2,_⟩:=cls_bin hs hc
  have hnx:ndA (.bin p x y)=1+ndA x+ndA y:=rfl
  exact ⟨vd8 hg.1 hn hs hc,ihx hg.2.1 (by omega) hs.2.1 hb.2.1 hm.2.1 hq.2.1 d h1,ihy hg.2.2 (by omega) hs.2.2 hb.2.2 hm.2.2 hq.2.2 e h2⟩
 | tri p x y z ihx ihy ihz=>
  intro hg hn hs hb hm hq k hc
  obtain ⟨⟨_,h1⟩,⟨_,h2⟩,_,h3⟩:=cls_tri hs hc
  have hnx:ndA (.tri p x y z)=1+ndA x+ndA y+ndA z:=rfl
  exact ⟨vd8 hg.1 hn hs hc,ihx hg.2.1 (by omega) hs.2.1 hb.2.1 hm.2.1 hq.2.1 _ h1,ihy hg.2.2.1 (by omega) hs.2.2.1 hb.2.2.1 hm.2.2.1 hq.2.2.1 _ h2,ihz hg.2.2.2 (by omega) hs.2.2.2 hb.2.2.2 hm.2.2.2 hq.2.2.2 _ h3⟩
end
section
structure NdC (p:Pay) (neg:Bool) (xs:List Co):Prop where
 few:xs.length=vc7 p.op
 gc:∀x∈xs,Gc x
 all:Gc (qu1 p xs)
 tb:p.op=5→∀x∈xs,Tb x
 no:neg=true→Tb (qu1 p xs)
 nm:p.op=21→∀x∈xs,(j9 x).length≤402
 tx:p.op=21→p.texts≠[]∧∀t∈p.texts,t.length≤200
def vx4:List Co→List RN→Prop
 | _,[]=>True
 | cs,n::t=>NdC (jj0 n) n.neg (argC cs n)∧vx4 (cs++[vn2 cs n]) t
theorem va2 (cs:List Co) (l k:List RN):vx4 cs (l++k)↔vx4 cs l∧vx4 (qv2 cs l) k:=by
 induction l generalizing cs with
 | nil=>simp [vx4,qv2]
 | cons n t ih=>rw [List.cons_append,vx4,vx4,ih,qv2,and_assoc]
theorem stOk_at {ns:List RN} {k:Nat} {n:RN} {cs:List Co} (h:vx4 [] ns) (hn:ns[k]?=some n) (hc:qv2 [] (ns.take k)=cs):NdC (jj0 n) n.neg (argC cs n):=by
 have hl:=(List.getElem?_eq_some_iff.1 hn)
 obtain ⟨hk,hk2⟩:=hl
 have e:ns=ns.take k++(n::ns.drop (k+1)):=by rw [←hk2,←List.drop_eq_getElem_cons hk,List.take_append_drop]
 rw [e,va2,hc] at h
 exact h.2.1
def KEnd (cs:List Co) (l:List RN) (x:Co):Prop:=∃ds,qv2 cs l=cs++ds∧ds.length=l.length∧ds.getD (l.length - 1) nC=x∧vx4 cs l
theorem vm3 {vs ds es:List Co} {k:Nat} (h:vs.length≤k) (h2:k<vs.length+ds.length):(vs++ds++es).getD k nC=ds.getD (k - vs.length) nC:=by
 rw [List.getD_eq_getElem?_getD,List.getD_eq_getElem?_getD,List.append_assoc,List.getElem?_append_right h,List.getElem?_append_left (by omega)]
theorem vm2 {vs ds:List Co} {k:Nat} (h:vs.length≤k) (h2:k<vs.length+ds.length):(vs++ds).getD k nC=ds.getD (k - vs.length) nC:=by
 have:=vm3 (vs:=vs) (ds:=ds) (es:=[]) h h2
 rwa [List.append_nil] at this
theorem lastC (l:List Co) (v:Co):(l++[v]).getD l.length nC=v:=by simp
theorem qy7 {vs ds:List Co} {l:List RN} {p:Pay} {ins:List Nat} {neg:Bool} {xs:List Co} (h:qv2 vs l=vs++ds) (hd:ds.length=l.length) (hst:vx4 vs l) (h0:0≤p.op) (h23:p.op≤23) (hi:ins.map (fun k=>(vs++ds).getD k nC)=xs) (hok:NdC p neg xs) :
  KEnd vs (l++[qj5 p ins neg]) (if neg=true then qe3 (qu1 p xs) else qu1 p xs):=by
 have ha:argC (vs++ds) (qj5 p ins neg)=xs:=hi
 have hx:vn2 (vs++ds) (qj5 p ins neg)=if neg=true then qe3 (qu1 p xs) else qu1 p xs:=by
  unfold vn2
  rw [ha,vn8 h0 h23]
  rfl
 refine ⟨ds++[vn2 (vs++ds) (qj5 p ins neg)], ?_,by simp [hd], ?_, ?_⟩
 ·rw [qz7,h,qv2,qv2,List.append_assoc]
 ·rw [show (l++[qj5 p ins neg]).length - 1=ds.length by simp [hd],lastC,hx]
 ·rw [va2,h]
  refine ⟨hst, ?_,trivial⟩
  rw [ha,vn8 h0 h23]
  exact hok
section
variable {vs:List Co} {off:Nat} {p:Pay} {neg:Bool}
theorem jd6 {l:List RN} {x:Co} (hv:vs.length=off) (hl:0<l.length) (h0:0≤p.op) (h23:p.op≤23) (hx:KEnd vs l x) (hok:NdC p neg [x]):KEnd vs (l++[qj5 p [off+l.length - 1] neg]) (if neg=true then qe3 (qu1 p [x]) else qu1 p [x]):=by
 obtain ⟨ds,h1,h2,h3,h4⟩:=hx
 refine qy7 h1 h2 h4 h0 h23 ?_ hok
 have hi:(vs++ds).getD (off+l.length - 1) nC=x:=by rw [vm2 (by omega) (by omega),show off+l.length - 1 - vs.length=l.length - 1 by omega];exact h3
 rw [List.map_cons,List.map_nil,hi]
theorem core_bin1 {l k:List RN} {x y:Co} (hv:vs.length=off) (hl:0<l.length) (hkl:0<k.length) (h0:0≤p.op) (h23:p.op≤23) (hx:KEnd vs l x) (hy:∀ds:List Co,ds.length=l.length→KEnd (vs++ds) k y) (hok:NdC p false [x,y]):KEnd vs (l++k++[qj5 p [off+l.length - 1,off+l.length+k.length - 1] false]) (qu1 p [x,y]):=by
 obtain ⟨ds,h1,h2,h3,h4⟩:=hx
 obtain ⟨es,g1,g2,g3,g4⟩:=hy ds h2
 have hlk:qv2 vs (l++k)=vs++(ds++es):=by rw [qz7,h1,g1,List.append_assoc]
 have hi:(vs++(ds++es)).getD (off+l.length - 1) nC=x:=by rw [←List.append_assoc,vm3 (by omega) (by omega),show off+l.length - 1 - vs.length=l.length - 1 by omega];exact h3
 have hj:(vs++(ds++es)).getD (off+l.length+k.length - 1) nC=y:=by rw [←List.append_assoc,vm2 (by simp;omega) (by simp;omega),show off+l.length+k.length - 1 - (vs++ds).length=k.length - 1 by simp;omega];exact g3
 have:=qy7 (neg:=false) hlk (by simp [h2,g2]) (by rw [va2,h1];exact ⟨h4,g4⟩) h0 h23 (ins:=[off+l.length - 1,off+l.length+k.length - 1]) (xs:=[x,y]) (by rw [List.map_cons,List.map_cons,List.map_nil,hi,hj]) hok
 simpa using this
theorem vr8 {l k r:List RN} {x y z:Co} (hv:vs.length=off) (hl:0<l.length) (hkl:0<k.length) (hrl:0<r.length) (h0:0≤p.op) (h23:p.op≤23) (hx:KEnd vs l x) (hy:∀ds:List Co,ds.length=l.length→KEnd (vs++ds) k y) (hz:∀ds:List Co,ds.length=l.length+k.length→KEnd (vs++ds) r z) (hok:NdC p neg [x,y,z]) :
  KEnd vs (l++k++r++[qj5 p [off+l.length - 1,off+l.length+k.length - 1,off+l.length+k.length+r.length - 1] neg]) (if neg=true then qe3 (qu1 p [x,y,z]) else qu1 p [x,y,z]):=by
 obtain ⟨ds,h1,h2,h3,h4⟩:=hx
 obtain ⟨es,g1,g2,g3,g4⟩:=hy ds h2
 have hlk:qv2 vs (l++k)=vs++(ds++es):=by rw [qz7,h1,g1,List.append_assoc]
 obtain ⟨fs,f1,f2,f3,f4⟩:=hz (ds++es) (by simp [h2,g2])
 have hlr:qv2 vs (l++k++r)=vs++(ds++es++fs):=by rw [qz7,hlk,f1,List.append_assoc]
 have hi:(vs++(ds++es++fs)).getD (off+l.length - 1) nC=x:=by
  rw [List.append_assoc ds,←List.append_assoc vs,vm3 (by omega) (by omega),show off+l.length - 1 - vs.length=l.length - 1 by omega];exact h3
 have hj:(vs++(ds++es++fs)).getD (off+l.length+k.length - 1) nC=y:=by
  rw [List.append_assoc ds,←List.append_assoc vs,←List.append_assoc (vs++ds),vm3 (by simp;omega) (by simp;omega),show off+l.length+k.length - 1 - (vs++ds).length=k.length - 1 by simp;omega];exact g3
 have hm:(vs++(ds++es++fs)).getD (off+l.length+k.length+r.length - 1) nC=z:=by
  rw [←List.append_assoc vs,vm2 (by simp;omega) (by simp;omega),show off+l.length+k.length+r.length - 1 - (vs++(ds++es)).length=r.length - 1 by simp;omega];exact f3
 exact qy7 hlr (by simp [h2,g2,f2]) (by rw [va2,va2,h1,hlk];exact ⟨⟨h4,g4⟩,f4⟩) h0 h23 (by rw [List.map_cons,List.map_cons,List.map_cons,List.map_nil,hi,hj,hm]) hok
end
theorem core_flat:∀{t:Ast} {off:Nat} {l:List RN},Flat t off l→ShA t→GcA t→∀vs:List Co,vs.length=off→KEnd vs l (j7 t):=by
 intro t off l h
 induction h with
 | leaf p off=>
  intro hs hg vs hv
  have hs1:=hs.1
  have hs2:=hs.2
  have:=qy7 (neg:=false) (vs:=vs) (ds:=[]) (l:=[]) (p:=p) (ins:=[]) (xs:=[]) (by rw [List.append_nil];rfl) rfl trivial hs1 (by omega) rfl ⟨by rw [arity_0 hs2];rfl,by simp,hg,by simp,by simp,by simp,by omega⟩
  exact this
 | un p hx ih=>
  intro hs hg vs hv
  have ho:=hs.1
  have:=jd6 (neg:=false) (p:=p) hv hx.pos (by omega) (by omega) (ih hs.2.2.2 hg.2.2.2 vs hv) ⟨by rw [vk6 (by omega)];rfl,by simpa using hg.2.2.2.gc,hg.1,by simpa using hg.2.1,by simp,by simpa using fun e=>(hg.2.2.1 e).1,fun e=>(hg.2.2.1 e).2⟩
  exact this
 | bin p hx hy ihx ihy=>
  intro hs hg vs hv
  have ho:=hs.1
  exact core_bin1 hv hx.pos hy.pos (by omega) (by omega) (ihx hs.2.1 hg.2.1 vs hv) (fun ds hd=>ihy hs.2.2 hg.2.2 (vs++ds) (by simp;omega)) ⟨by rw [vx6 (by omega)];rfl,by simpa using ⟨hg.2.1.gc,hg.2.2.gc⟩,hg.1,by omega,by simp,by omega,by omega⟩
 | tri p hx hy hz ihx ihy ihz=>
  intro hs hg vs hv
  have ho:=hs.1
  have:=vr8 (neg:=false) hv hx.pos hy.pos hz.pos (by omega) (by omega) (ihx hs.2.1 hg.2.1 vs hv) (fun ds hd=>ihy hs.2.2.1 hg.2.2.1 (vs++ds) (by simp;omega)) (fun ds hd=>ihz hs.2.2.2 hg.2.2.2 (vs++ds) (by simp;omega)) (p:=p) ⟨by rw [vk7 ho];rfl,by simpa using ⟨hg.2.1.gc,hg.2.2.1.gc,hg.2.2.2.gc⟩,hg.1,by omega,by simp,by omega,by omega⟩
  exact this
 | neg1 pl q hq hx ih=>
  intro hs hg vs hv
  obtain ⟨_,_,_,hs⟩:=hs
  obtain ⟨_,htb,_,hg⟩:=hg
  exact jd6 (neg:=true) hv hx.pos (by omega) (by omega) (ih hs.2.2.2 hg.2.2.2 vs hv) ⟨by rw [vk6 (by omega)];rfl,by simpa using hg.2.2.2.gc,hg.1,by simpa using hg.2.1,fun _=>htb rfl,by simpa using fun e=>(hg.2.2.1 e).1,fun e=>(hg.2.2.1 e).2⟩
 | neg3 pl q hq hx hy hz ihx ihy ihz=>
  intro hs hg vs hv
  obtain ⟨_,_,_,hs⟩:=hs
  obtain ⟨_,htb,_,hg⟩:=hg
  exact vr8 (neg:=true) hv hx.pos hy.pos hz.pos (by omega) (by omega) (ihx hs.2.1 hg.2.1 vs hv) (fun ds hd=>ihy hs.2.2.1 hg.2.2.1 (vs++ds) (by simp;omega)) (fun ds hd=>ihz hs.2.2.2 hg.2.2.2 (vs++ds) (by simp;omega)) ⟨by rw [vk7 hq];rfl,by simpa using ⟨hg.2.1.gc,hg.2.2.1.gc,hg.2.2.2.gc⟩,hg.1,by omega,fun _=>htb rfl,by omega,by omega⟩
theorem vt5 (cs:List Co) (n:RN) (c:Int):vn2 cs { n with cls:=c }=vn2 cs n:=rfl
theorem jf2 (ns:List RN) (is:List Int):qv2 [] (qq8 ns is)=qv2 [] ns∧(vx4 [] ns→vx4 [] (qq8 ns is)):=by
 unfold qq8
 have key:∀(l:List RN) (k:Nat) (vs:List Co),qv2 vs ((l.zipIdx k).map fun x=>{ x.1 with cls:=if x.2<is.length then is.getD x.2 0 else x.1.cls })=qv2 vs l∧(vx4 vs l→vx4 vs ((l.zipIdx k).map fun x=>{ x.1 with cls:=if x.2<is.length then is.getD x.2 0 else x.1.cls })):=by
  intro l
  induction l with
  | nil=>intro k vs;exact ⟨rfl,fun h=>h⟩
  | cons n t ih=>
   intro k vs
   rw [List.zipIdx_cons,List.map_cons,qv2,qv2,vt5]
   refine ⟨(ih _ _).1,fun h=>⟨h.1, ?_⟩⟩
   rw [vt5]
   exact (ih _ _).2 h.2
 exact key ns 0 []
end
end Go.Proofs.YtfkcaldjphakpaaGreatDoor
