/- Fits. join: BETWEEN. join: what needs nothing but Join. -/
import Derived.Test.YtfkcaldjphakpabGreatDoorF18
import Derived.Test.YtfkcaldjphakpabGreatDoorWOf2
import Derived.Deep.RegionHeld3
import Derived.Deep.RegionWith
set_option maxHeartbeats 2000000
set_option maxRecDepth 100000
namespace Go.Proofs.YtfkcaldjphakpabGreatDoor
open Go.RowKit
section
theorem jz2 (ps:List Pc):∀(k:Nat) (p:Pc),ps[k]?=some p→(qp9 ps)[k * 2]?=some (.int .i64 p.kind)∧(qp9 ps)[k * 2+1]?=some (.int .u8 p.c.toNat):=by
 induction ps with
 | nil=>intro k p h;simp at h
 | cons q r ih=>
  intro k p h
  have hc:qp9 (q::r)=.int .i64 q.kind::.int .u8 q.c.toNat::qp9 r:=rfl
  rw [hc]
  cases k with
  | zero=>simp at h;subst h;exact ⟨rfl,rfl⟩
  | succ k=>
   have:=ih k p (by simpa using h)
   rw [show (k+1) * 2=k * 2+1+1 by omega]
   exact ⟨by simpa using this.1,by simpa using this.2⟩
theorem fit_more {ps:List Pc} {k:Nat} {p:Pc} {t:List UInt8} {e:Nat→Bool} (h:ps[k]?=some p):vj7 (ps.drop k) t e=vj7 (ps.drop (k+1)) t (nextB p t e):=by
 obtain ⟨hk,he⟩:=List.getElem?_eq_some_iff.1 h
 rw [List.drop_eq_getElem_cons hk,he,vj7]
theorem fit_end {ps:List Pc} {k:Nat} {t:List UInt8} {e:Nat→Bool} (h:ps.length≤k):vj7 (ps.drop k) t e=e t.length:=by
 rw [List.drop_of_length_le h,vj7]
theorem vv2 (e:List UInt8):(p:List UInt8)→∀ps,qx4 e p=some ps→ps.length≤p.length
 | [],ps,h=>by rw [qx4] at h;injection h with h;subst h;simp
 | [c],ps,h=>by
  simp only [qx4] at h
  split at h
  ·cases h
  ·injection h with h;subst h;simp
 | c::d::t,ps,h=>by
  simp only [qx4] at h
  split at h
  ·cases hq:qx4 e t with
   | none=>rw [hq] at h;cases h
   | some q=>rw [hq] at h;injection h with h;subst h;have:=vv2 e t q hq;simp;omega
  ·cases hq:qx4 e (d::t) with
   | none=>rw [hq] at h;cases h
   | some q=>rw [hq] at h;injection h with h;subst h;have:=vv2 e (d::t) q hq;simp at this ⊢;omega
theorem jz0 {base e size n:Nat} {w:World} {v:Value} {xs:List Value} (h:w.ownsRow base e size v n xs):∃a c,v=.slice a n c∧∀(j:Nat) (u:Value),xs[j]?=some u→∃g,a=some ⟨g,0,none⟩∧w.cell? ⟨g,j,none⟩=some u∧g<w.heap.size∧base≤g:=by
 have h0:=h
 rcases h.2 with ⟨rfl,hn⟩|⟨g,cap,cur,rfl,hb,hg,_⟩
 ·refine ⟨none,0,by rw [hn],fun j u hu=>?_⟩
  have:=h.1;rw [hn,Nat.zero_mul] at this
  rw [List.eq_nil_of_length_eq_zero this] at hu;simp at hu
 ·refine ⟨some ⟨g,0,none⟩,cap,rfl,fun j u hu=>⟨g,rfl, ?_,(Array.getElem?_eq_some_iff.1 hg).1,hb⟩⟩
  have:=h0.cells (g:=g) rfl j u hu
  have hadd:(⟨g,0,none⟩:Addr).add j=⟨g,j,none⟩:=by unfold Addr.add;split<;>simp_all
  rwa [hadd] at this
theorem jw5 (w:World) (m:Nat):∀j,j<m→(w.alloc (.cells ((madeCells #[.bool false] m).setIfInBounds 0 (.bool true)) 4)).cell? ⟨w.heap.size,j,none⟩=some (.bool (j==0)):=by
 have hz:((madeCells #[.bool false] m).setIfInBounds 0 (Value.bool true)).size=m:=by rw [Array.size_setIfInBounds];exact size_madeCells _ _
 have hr:=World.rowIs_alloc w ((madeCells #[.bool false] m).setIfInBounds 0 (.bool true)) 4 (fun j=>.bool (j==0)) (fun i hi=>by
  rw [hz] at hi
  rw [Array.getElem?_setIfInBounds]
  by_cases h0:i=0
  ·subst h0
   rw [if_pos rfl,if_pos (by rw [size_madeCells _ _];exact hi)];rfl
  ·rw [if_neg (fun h=>h0 h.symm)]
   simp [madeCells,hi,Nat.mod_one,h0])
 intro j hj
 exact hr.cell (by rw [hz];exact hj)
theorem BoolsAt.below {w w':World} {b n:Nat} {e:Nat→Bool} (h:BoolsAt w b n e) (hb:Below w.heap.size w w') (hlt:b<w.heap.size):BoolsAt w' b n e:=fun j hj=>(hb.cell (p:=⟨b,j,none⟩) hlt).trans (h j hj)
theorem fits_any (pat esc t:ByteArray) (hp:pat.size≤200) (ht:t.size≤1000) (w:World) :
  Calls Tryz.prog 147 #[.string pat,.string esc,.string t] w fun en w'=>en=.returned (.bool (fitsB pat.data.toList esc.data.toList t.data.toList))∧Below w.heap.size w w':=by
 have CUT:=v7 (jg7 pat esc hp w)
 unfold fitsB
 cases hc:qx4 esc.data.toList pat.data.toList with
 | none=>
  rw [hc] at CUT
  clear hc
  go_enter Tryz.func147,Tryz.ntmps147
  go_wp2_with (go_at_call 195;refine (q9 CUT).mono ?_;rintro en w1 ⟨hb1,h1⟩;subst h1)
  go_ret
  exact ⟨rfl,hb1⟩
 | some ps=>
  rw [hc] at CUT
  have hpl:=vv2 _ _ _ hc
  rw [qb0] at hpl
  clear hc
  obtain ⟨m,hm⟩:∃m,t.size+1=m:=⟨_,rfl⟩
  have hmk:=run_make_row' (P:=Tryz.prog) 254 4 (.bool false) 1 Tryz.underlying254 jb7 rfl .i64 .i64 m (by omega) (by omega)
  have hm0:0<m:=by omega
  have hmi:(t.size:Int)+1=(m:Int):=by omega
  obtain ⟨R,hR⟩:∃r,vj7 ps t.data.toList (fun j=>j==0)=r:=⟨_,rfl⟩
  show Calls _ _ _ _ (fun en w'=>en=.returned (.bool (vj7 ps t.data.toList fun j=>j==0))∧Below w.heap.size w w')
  rw [hR]
  have HR:=v7 hR
  clear hR
  obtain ⟨n,hn⟩:∃n,ps.length=n:=⟨_,rfl⟩
  rw [hn] at hpl
  have HN:=v7 hn
  go_enter Tryz.func147,Tryz.ntmps147
  go_wp2_with (go_at_call 195;refine (q9 CUT).mono ?_;rintro en w1 ⟨hb1,v1,rfl,hown⟩;obtain ⟨va,vc,rfl,hat⟩:=jz0 hown;rw [q9 HN];have hz1:=hb1.size;have hrc:=(World.rowIs_made w1 (.bool false) m 4).cell (i:=0) hm0;have hrf:=(World.rowIs_made w1 (.bool false) m 4).frozen 0)
  have HAT:=v7 hat
  have ST:=v7 (jw5 w1 m)
  have hb1:=v7 hb1
  clear hown hrc hrf hat hn
  go_loopw [9,28] (fun s9 i wr=>∃(k eb:Nat) (f:Nat→Bool),k≤n∧i=.int .i64 k∧s9=.slice (some ⟨eb,0,none⟩) m m∧Hid (BoolsAt wr eb t.size f)∧eb<wr.heap.size∧Hid (R=vj7 (ps.drop k) t.data.toList f)∧Hid (Below w1.heap.size w1 wr)) (fun _ i _=>n - (intOf i).toNat)
  case atStart=>exact ⟨0,w1.heap.size,fun j=>j==0,Nat.zero_le _,rfl,rfl,v7 (fun j hj=>q9 ST j (by omega)),by simp,v7 (by rw [List.drop_zero,q9 HR]),v7 ((Below.refl _ _).alloc (Nat.le_refl _) _)⟩
  case round=>
   obtain ⟨k,eb,f,hk,rfl,rfl,hf,heb,hh,hbel⟩:=hrel
   have hzr:=(q9 hbel).size
   by_cases hlt:k<n
   ·obtain ⟨p,hpk⟩:∃p,ps[k]?=some p:=⟨_,List.getElem?_eq_getElem (by rw [q9 HN];exact hlt)⟩
    obtain ⟨q0,q1⟩:=jz2 ps k p hpk
    obtain ⟨g,rfl,hc0,hg,_⟩:=q9 HAT _ _ q0
    obtain ⟨g',hgg,hc1,_,_⟩:=q9 HAT _ _ q1
    obtain rfl:g=g':=by simpa using hgg
    have d0:=((q9 hbel).cell (p:=⟨g,k * 2,none⟩) hg).trans hc0
    have d1:=((q9 hbel).cell (p:=⟨g,k * 2+1,none⟩) hg).trans hc1
    have HH:Hid (R=vj7 (ps.drop (k+1)) t.data.toList (nextB p t.data.toList f)):=v7 (by rw [q9 hh,fit_more hpk])
    have FR:=v7 (fun w2 (h:BoolsAt w2 eb t.size f) (hl:eb<w2.heap.size)=>from_any p f eb m t ht w2 h hl)
    rw [hm] at FR
    clear hh hpk q0 q1 hgg hc0 hc1
    go_wp2_with (go_at_call 196;refine (q9 FR _ ((q9 hf).below ((Below.refl _ _).alloc (Nat.le_refl _) _) heb) (by simp;omega)).mono ?_;rintro en w2 ⟨nb,rfl,hnb,hnl,hbs,hb2⟩)
    go_roundw
    case rel=>exact ⟨k+1,nb,_,by omega,by go_num,rfl,v7 hbs,hnl,HH,v7 ((q9 hbel).trans ((qc4 hb2).mono (by omega)))⟩
    case measure=>simp [intOf];omega
   ·have HH:Hid (R=f t.size):=v7 (by rw [q9 hh,fit_end (by rw [q9 HN];omega),qb0])
    have hfl:=q9 hf t.size (Nat.le_refl _)
    have htm:t.size<m:=by omega
    clear hh
    go_wp2_with fail
    go_ret
    exact ⟨by rw [q9 HH];rfl,v8 (q9 hb1) (q9 hbel)⟩
end
section
structure JoinAt (w W:World) (x y z:V):Prop where
 x0:W.cell? ⟨w.heap.size,0,none⟩=some (.int .i64 x.kind)
 x1:W.cell? ⟨w.heap.size,1,none⟩=some (.int .i64 x.num)
 x2:W.cell? ⟨w.heap.size,2,none⟩=some (.string (BS x.str))
 y0:W.cell? ⟨w.heap.size+1,0,none⟩=some (.int .i64 y.kind)
 y1:W.cell? ⟨w.heap.size+1,1,none⟩=some (.int .i64 y.num)
 y2:W.cell? ⟨w.heap.size+1,2,none⟩=some (.string (BS y.str))
 z0:W.cell? ⟨w.heap.size+2,0,none⟩=some (.int .i64 z.kind)
 z1:W.cell? ⟨w.heap.size+2,1,none⟩=some (.int .i64 z.num)
 z2:W.cell? ⟨w.heap.size+2,2,none⟩=some (.string (BS z.str))
 r0:W.cell? ⟨w.heap.size+3,0,none⟩=some (.int .i64 0)
 r1:W.cell? ⟨w.heap.size+3,1,none⟩=some (.int .i64 0)
 r2:W.cell? ⟨w.heap.size+3,2,none⟩=some (.string ⟨#[]⟩)
 fz:∀j,W.frozen? ⟨w.heap.size+3,j,none⟩=false
 lt:w.heap.size+3<W.heap.size
 below:Below w.heap.size w W
theorem vf0 (w:World) (x y z:V):JoinAt w ((((w.alloc (.cells #[.int .i64 x.kind,.int .i64 x.num,.string (BS x.str)] 118)).alloc (.cells #[.int .i64 y.kind,.int .i64 y.num,.string (BS y.str)] 118)).alloc (.cells #[.int .i64 z.kind,.int .i64 z.num,.string (BS z.str)] 118)).alloc (.cells #[.int .i64 0,.int .i64 0,.string ⟨#[]⟩] 118)) x y z:=⟨by rw [World.cell?_alloc_past _ _ _ (by simp<;>omega),World.cell?_alloc_past _ _ _ (by simp<;>omega),World.cell?_alloc_past _ _ _ (by simp),World.cell?_alloc_at _ _ _ _ rfl];rfl,by rw [World.cell?_alloc_past _ _ _ (by simp<;>omega),World.cell?_alloc_past _ _ _ (by simp<;>omega),World.cell?_alloc_past _ _ _ (by simp),World.cell?_alloc_at _ _ _ _ rfl];rfl,by rw [World.cell?_alloc_past _ _ _ (by simp<;>omega),World.cell?_alloc_past _ _ _ (by simp<;>omega),World.cell?_alloc_past _ _ _ (by simp),World.cell?_alloc_at _ _ _ _ rfl];rfl,by rw [World.cell?_alloc_past _ _ _ (by simp<;>omega),World.cell?_alloc_past _ _ _ (by simp),World.cell?_alloc_at _ _ _ _ (by simp)];rfl,by rw [World.cell?_alloc_past _ _ _ (by simp<;>omega),World.cell?_alloc_past _ _ _ (by simp),World.cell?_alloc_at _ _ _ _ (by simp)];rfl,by rw [World.cell?_alloc_past _ _ _ (by simp<;>omega),World.cell?_alloc_past _ _ _ (by simp),World.cell?_alloc_at _ _ _ _ (by simp)];rfl,by rw [World.cell?_alloc_past _ _ _ (by simp),World.cell?_alloc_at _ _ _ _ (by simp)];rfl,by rw [World.cell?_alloc_past _ _ _ (by simp),World.cell?_alloc_at _ _ _ _ (by simp)];rfl,by rw [World.cell?_alloc_past _ _ _ (by simp),World.cell?_alloc_at _ _ _ _ (by simp)];rfl,by rw [World.cell?_alloc_at _ _ _ _ (by simp)];rfl,by rw [World.cell?_alloc_at _ _ _ _ (by simp)];rfl,by rw [World.cell?_alloc_at _ _ _ _ (by simp)];rfl,fun j=>by rw [World.frozen?_alloc_at _ _ _ _ (by simp)],by simp,(qb3 w _ _ _).alloc (by simp;omega) _⟩
theorem JoinAt.next {w W W':World} {x y z:V} (h:JoinAt w W x y z) (hb:Below W.heap.size W W'):JoinAt w W' x y z:=by
 obtain ⟨hc,hf⟩:=j6 hb
 have hl:=h.lt
 exact ⟨(hc _ 0 (by omega)).trans h.x0,(hc _ 1 (by omega)).trans h.x1,(hc _ 2 (by omega)).trans h.x2,(hc _ 0 (by omega)).trans h.y0,(hc _ 1 (by omega)).trans h.y1,(hc _ 2 (by omega)).trans h.y2,(hc _ 0 (by omega)).trans h.z0,(hc _ 1 (by omega)).trans h.z1,(hc _ 2 (by omega)).trans h.z2,(hc _ 0 (by omega)).trans h.r0,(hc _ 1 (by omega)).trans h.r1,(hc _ 2 (by omega)).trans h.r2,fun j=>(hf _ j (by omega)).trans (h.fz j),Nat.lt_of_lt_of_le hl hb.size,v8 h.below hb⟩
theorem JoinAt.drew {w W:World} {x y z:V} (h:JoinAt w W x y z):JoinAt w W.drew x y z:=h.next ((Below.refl _ _).drew)
theorem joinN_20 (lo:Nat) (t:Ast) (h20:(y8 t).op=20):vi4 lo t:=by
 intro w b x y z _ _ _ _ h
 have hr:qu3 (y8 t) x y z=andV (leV y x) (leV x z):=by rw [qu3,if_pos h20]
 rw [hr]
 obtain ⟨b',sv,hb,hnode,_⟩:=h.parts
 obtain rfl:b=b':=by simpa using hb
 have c0:=hnode.c0
 have hbw:=hnode.within
 have m1:b<w.heap.size+1:=by omega
 have m2:b<w.heap.size+1+1:=by omega
 have m3:b<w.heap.size+1+1+1:=by omega
 rw [h20] at c0
 have d0:¬w.heap.size+1+1+1=w.heap.size:=by omega
 have d1:¬w.heap.size+1+1+1=w.heap.size+1:=by omega
 have d2:¬w.heap.size=w.heap.size+1+1+1:=by omega
 have d3:¬w.heap.size+1=w.heap.size+1+1+1:=by omega
 have d4:¬w.heap.size+1+1=w.heap.size:=by omega
 have d5:¬w.heap.size=w.heap.size+1+1:=by omega
 have JA0:=v7 (vf0 w x y z).drew
 clear hr hnode hb h h20
 conv=>arg 3;simp only [vV]
 go_enter Tryz.func199,Tryz.ntmps199
 go_wp2_with fail
 obtain ⟨x0_0,x1_0,x2_0,y0_0,y1_0,y2_0,z0_0,z1_0,z2_0,r0_0,r1_0,r2_0,fz_0,lt_0,bel_0⟩:=q9 JA0
 go_region_held3 (fun W=>W.cell? ⟨w.heap.size,0,none⟩=some (.int .i64 x.kind)∧W.cell? ⟨w.heap.size,1,none⟩=some (.int .i64 x.num)∧W.cell? ⟨w.heap.size,2,none⟩=some (.string (BS x.str))∧W.cell? ⟨w.heap.size+1,0,none⟩=some (.int .i64 y.kind)∧W.cell? ⟨w.heap.size+1,1,none⟩=some (.int .i64 y.num)∧W.cell? ⟨w.heap.size+1,2,none⟩=some (.string (BS y.str))∧W.cell? ⟨w.heap.size+2,0,none⟩=some (.int .i64 z.kind)∧W.cell? ⟨w.heap.size+2,1,none⟩=some (.int .i64 z.num)∧W.cell? ⟨w.heap.size+2,2,none⟩=some (.string (BS z.str))) (go_keep) (first|(go_at_call_of 153 (Value.agg #[Value.int IntKind.i64 y.kind,Value.int IntKind.i64 y.num,Value.string (BS y.str)]);refine (qn0 y x _).mono ?_;rintro e w1 ⟨rfl,hb1⟩;have JA1:=v7 ((q9 JA0).next hb1);obtain ⟨x0_1,x1_1,x2_1,y0_1,y1_1,y2_1,z0_1,z1_1,z2_1,r0_1,r1_1,r2_1,fz_1,lt_1,bel_1⟩:=q9 JA1;clear hb1)|(go_at_call_of 153 (Value.agg #[Value.int IntKind.i64 z.kind,Value.int IntKind.i64 z.num,Value.string (BS z.str)]);refine (qn0 x z _).mono ?_;rintro e w2 ⟨rfl,hb2⟩;have JA2:=v7 ((q9 JA1).next hb2);obtain ⟨x0_2,x1_2,x2_2,y0_2,y1_2,y2_2,z0_2,z1_2,z2_2,r0_2,r1_2,r2_2,fz_2,lt_2,bel_2⟩:=q9 JA2;clear hb2)|(go_at_call 149;refine (jt9 (leV y x) (leV x z) _).mono ?_;rintro e w3 ⟨rfl,hb3⟩;have JA3:=v7 ((q9 JA2).next hb3);obtain ⟨x0_3,x1_3,x2_3,y0_3,y1_3,y2_3,z0_3,z1_3,z2_3,r0_3,r1_3,r2_3,fz_3,lt_3,bel_3⟩:=q9 JA3;clear hb3;simp only [vV]))
 go_wp2_with fail
 refine bodyPost_ret (by simp [results,Tryz.results199,go_sem,r0_3,r1_3,r2_3]<;>rfl) rfl ⟨rfl, ?_⟩
 exact ((bel_3.setCell (by simp;omega) _).setCell (by simp;omega) _).setCell (by simp;omega) _
end
section
theorem jx8 (lo:Nat) (t:Ast) (h20:¬(y8 t).op=20) (h21:¬(y8 t).op=21) (h22:¬(y8 t).op=22) (hJ:∀x y,Rng x.num→Rng y.num→qk3 (y8 t).op x y (qz6 (y8 t).op x y)):vi4 lo t:=by
 intro w b x y z hx hy _ _ h
 have hr:qu3 (y8 t) x y z=qz6 (y8 t).op x y:=by rw [qu3,if_neg h20,if_neg h21,if_neg h22]
 rw [hr]
 have CON:=v7 (hJ x y hx hy)
 obtain ⟨b',sv,hb,hnode,_⟩:=h.parts
 obtain rfl:b=b':=by simpa using hb
 have c0:=hnode.c0
 have hbw:=hnode.within
 have m1:b<w.heap.size+1:=by omega
 have m2:b<w.heap.size+1+1:=by omega
 have m3:b<w.heap.size+1+1+1:=by omega
 obtain ⟨op,hop⟩:∃op,(y8 t).op=op:=⟨_,rfl⟩
 rw [hop] at c0 h20 h21 h22 CON ⊢
 have e20:(op==20)=false:=beq_eq_false_iff_ne.2 h20
 have e21:(op==21)=false:=beq_eq_false_iff_ne.2 h21
 have e22:(op==22)=false:=beq_eq_false_iff_ne.2 h22
 obtain ⟨r,hr'⟩:∃r,qz6 op x y=r:=⟨_,rfl⟩
 rw [hr'] at CON ⊢
 clear hr hr' hnode hb h hx hy h20 h21 h22 hop hJ
 conv=>arg 3;simp only [vV]
 go_enter Tryz.func199,Tryz.ntmps199
 go_wp2_with fail
 go_region_with (go_at_call 106;refine (q9 CON _).mono ?_;rintro e w1 ⟨rfl,hb1'⟩;have hb1:Below w.heap.size w w1:=v8 (((qb3 _ _ _ _).alloc (by simp;omega) _).drew) hb1';obtain ⟨hc1,hf1⟩:=j6 hb1';have hz1:w.heap.size+3<w1.heap.size:=(by have:=hb1'.size;simp at this;omega);simp only [vV])
 all_goals go_wp2_with fail
 all_goals refine bodyPost_ret (by simp [results,Tryz.results199,go_sem,hc1]<;>rfl) rfl ⟨rfl, ?_⟩
 all_goals exact ((hb1.setCell (by simp;omega) _).setCell (by simp;omega) _).setCell (by simp;omega) _
end
end Go.Proofs.YtfkcaldjphakpabGreatDoor
