/- Subscribe: a subscription begins. Subscribe of a number that is there, and to a broker that is full; Canon; Compile of too many. Subscribe, as a whole. Publish. What a broker's calls do, whatever they are handed. A broker that was made since, and two rows beside it. -/
import Derived.Test.YtfkcaldjphakpabGreatDoorF28
import Derived.Test.YtfkcaldjphakpabGreatDoorF30
import Derived.Test.YtfkcaldjphakpabGreatDoorF22
import Derived.Test.YtfkcaldjphakpabGreatDoorF35
set_option maxHeartbeats 4000000
set_option maxRecDepth 100000
namespace Go.Proofs.YtfkcaldjphakpabGreatDoor
open Go.RowKit
section
def qv4 (l:List Sx) (k:Nat) (x:Sx):List Sx:=l.take k++x::l.drop k
def vw2 (L:List Su) (k:Nat) (x:Su):List Su:=L.take k++x::L.drop k
def qk5 (L:List Su) (id:Int):Nat:=L.countP fun s=>decide (s.id<id)
theorem vw3 (l:List Sx) (k:Nat) (x:Sx):(qv4 l k x).map Sx.sb=qx9 (l.map Sx.sb) k x.sb:=by simp [qv4,qx9,List.map_append,List.map_take,List.map_drop]
theorem insX_su (l:List Sx) (k:Nat) (x:Sx):(qv4 l k x).map Sx.su=vw2 (l.map Sx.su) k x.su:=by simp [qv4,vw2,List.map_append,List.map_take,List.map_drop]
theorem qr6 (l:List Sx) (k:Nat) (x:Sx):(qv4 l k x).length=l.length+1:=by simp [qv4];omega
theorem qq3 {l:List Sx} {k:Nat} {x y:Sx} (h:y∈qv4 l k x):y=x∨y∈l:=by
 unfold qv4 at h
 rcases List.mem_append.1 h with h|h
 ·exact .inr (List.mem_of_mem_take h)
 ·rcases List.mem_cons.1 h with h|h
  ·exact .inl h
  ·exact .inr (List.mem_of_mem_drop h)
theorem jd0 (l:List Sx) (id:Int):qb8 (l.map Sx.sb) id=qk5 (l.map Sx.su) id:=by
 unfold qb8 qk5
 rw [List.countP_map,List.countP_map]
 rfl
theorem qc1 {w:World} {base size n:Nat} {e:TypeId} {v:Value} {xs:List Value} (h:w.ownsRow base e size v n xs):∃a c,v=.slice a n c:=by
 rcases qc8 h with ⟨rfl,rfl⟩|⟨g,c,rfl⟩
 ·exact ⟨_,_,rfl⟩
 ·exact ⟨_,_,rfl⟩
theorem vs9 (l:List Sb) (id:Int):qb8 l id≤l.length:=List.countP_le_length
theorem za3 {l:List Sb} (h:qp6 l) (s:Sb) (hno:∀t∈l,t.id≠s.id):qp6 (qx9 l (qb8 l s.id) s):=by
 have hc:=qv0 h s.id
 unfold qp6 qx9
 have h1:∀t∈l.take (qb8 l s.id),t.id<s.id:=by
  intro t ht
  obtain ⟨i,hi⟩:=List.getElem?_of_mem ht
  rw [List.getElem?_take] at hi
  split at hi
  ·rename_i hlt
   exact (hc i t hi).2 hlt
  ·cases hi
 have h2:∀t∈l.drop (qb8 l s.id),s.id<t.id:=by
  intro t ht
  obtain ⟨i,hi⟩:=List.getElem?_of_mem ht
  rw [List.getElem?_drop] at hi
  have:=hc _ t hi
  have h3:=hno t (List.mem_of_mem_drop ht)
  by_cases h4:t.id<s.id
  ·have:=this.1 h4;omega
  ·omega
 rw [List.pairwise_append]
 refine ⟨h.sublist (List.take_sublist _ _),List.pairwise_cons.2 ⟨h2,h.sublist (List.drop_sublist _ _)⟩,fun a ha b hb=>?_⟩
 rcases List.mem_cons.1 hb with rfl|hb
 ·exact h1 a ha
 ·exact Int.lt_trans (h1 a ha) (h2 b hb)
theorem BrAt.inserted {w W:World} {bb:Nat} {last:Int} {sv tv rv sv' tv' rv':Value} {l:List Sx} (h:BrAt w bb last sv tv rv l) {k:Nat} {x:Sx} (hb:Below w.heap.size w W)
  (hrow:SbRow W w.heap.size sv' (qx9 (l.map Sx.sb) k x.sb)) (hr:RowsAt W w.heap.size tv' rv' (tsX (qv4 l k x)) (rsX (qv4 l k x)))
  (hx0:x.row=none) (hx1:x.cap=0) (hx2:x.ms=[]) (hco:CoAt x.lo x.hi W (.pointer x.cp) x.co) (hlo:w.heap.size≤x.lo) (hhi:x.hi≤W.heap.size) (hgd:vg9 x.co) (hsz:qt8 x.co≤250000000)
  (ho:∀k,sv'.ownBlock=some k∨tv'.ownBlock=some k∨rv'.ownBlock=some k→k<x.lo∨x.hi≤k)
  (hup:qp6 (qx9 (l.map Sx.sb) k x.sb)) (h8:l.length<8) (hp:Prg (tsX (qv4 l k x)) (rsX (qv4 l k x))) :
  BrAt (((W.setCell ⟨bb,1,none⟩ sv').setCell ⟨bb,2,none⟩ tv').setCell ⟨bb,3,none⟩ rv') bb last sv' tv' rv' (qv4 l k x):=by
 have hz:=hb.size
 have hlt:=h.lt
 have blk3:=jp9 (jp8 (vu9 ((hb.block bb hlt).trans h.blk) sv') tv') rv'
 have late:∀k,k≠bb→(((W.setCell ⟨bb,1,none⟩ sv').setCell ⟨bb,2,none⟩ tv').setCell ⟨bb,3,none⟩ rv').heap[k]?=W.heap[k]?:=fun k h2=>by
  rw [Below.heap_setCell _ ⟨bb,3,none⟩ _ k (by show k≠bb;exact h2),Below.heap_setCell _ ⟨bb,2,none⟩ _ k (by show k≠bb;exact h2),Below.heap_setCell _ ⟨bb,1,none⟩ _ k (by show k≠bb;exact h2)]
 have hxv:x.hv=.slice none 0 0:=by unfold Sx.hv;rw [hx0,hx1,hx2];rfl
 have hxo:∀k,x.hv.ownBlock≠some k:=fun k=>by rw [hxv];simp [Value.ownBlock]
 refine ⟨blk3, ?_,⟨?_, ?_,hr.ne⟩,fun y hy=>?_, ?_,fun y hy=>?_,fun y hy k' hk=>?_, ?_,by rw [qr6];omega,fun y hy=>?_,hp⟩
 ·show World.ownsRow _ 0 _ 3 _ ((qv4 l k x).map Sx.sb).length (j5 ((qv4 l k x).map Sx.sb))
  rw [vw3]
  exact qa3 (j3 hrow fun j hj=>late j (fun e=>by have:=(hrow.lt j hj).1;omega)) (Nat.zero_le _)
 ·exact qa3 (j3 hr.ats fun j hj=>late j (fun e=>by have:=(hr.ats.lt j hj).1;omega)) (Nat.zero_le _)
 ·exact qa3 (j3 hr.ars fun j hj=>late j (fun e=>by have:=(hr.ars.lt j hj).1;omega)) (Nat.zero_le _)
 ·rcases qq3 hy with rfl|hy
  ·rw [hxv,hx2]
   exact World.ownsRow_nil _ _ _ _
  ·have hq:=h.hps y hy
   exact j3 hq fun j hj=>by
    have hj1:=(hq.lt j hj).2
    rw [late j (fun e=>by subst e;exact qn9 hq h.blk (by decide) hj),hb.block j hj1]
 ·unfold qv4
  rw [List.pairwise_append]
  refine ⟨h.dis.sublist (List.take_sublist _ _),List.pairwise_cons.2 ⟨fun y _ j hj=>absurd hj (hxo j),h.dis.sublist (List.drop_sublist _ _)⟩,fun a ha b hb'=>?_⟩
  rcases List.mem_cons.1 hb' with rfl|hb'
  ·exact fun j _=>hxo j
  ·have hd:=h.dis
   rw [←List.take_append_drop k l,List.pairwise_append] at hd
   exact hd.2.2 a ha b hb'
 ·rcases qq3 hy with rfl|hy
  ·refine ⟨CoAt.keep (Nat.le_refl _) (fun j j1 j2=>late j (by omega)) (by simp) hco,by simp;omega,hgd,hsz⟩
  ·obtain ⟨h1,h2,h3⟩:=h.cos y hy
   refine ⟨CoAt.keep (Nat.le_refl _) (fun j j1 j2=>?_) (by simp;omega) h1,by simp;omega,h3⟩
   rw [late j (fun e=>by have:=h.out y hy j (.inl e);omega),hb.block j (by omega)]
 ·have hk2:k'=bb∨(∃z∈l,z.hv.ownBlock=some k')∨(w.heap.size≤k'∧(sv'.ownBlock=some k'∨tv'.ownBlock=some k'∨rv'.ownBlock=some k')):=by
   rcases hk with e|e|e|e|⟨z,hz',e⟩
   ·exact .inl e
   ·exact .inr (.inr ⟨(hrow.lt k' e).1,.inl e⟩)
   ·exact .inr (.inr ⟨(hr.ats.lt k' e).1,.inr (.inl e)⟩)
   ·exact .inr (.inr ⟨(hr.ars.lt k' e).1,.inr (.inr e)⟩)
   ·rcases qq3 hz' with rfl|hz'
    ·exact absurd e (hxo k')
    ·exact .inr (.inl ⟨z,hz',e⟩)
  rcases qq3 hy with rfl|hy
  ·rcases hk2 with e|⟨z,hz',e⟩|⟨_,e⟩
   ·left;omega
   ·have:=((h.hps z hz').lt k' e).2
    left;omega
   ·exact ho k' e
  ·have h2:=(h.cos y hy).2.1
   rcases hk2 with e|⟨z,hz',e⟩|⟨e,_⟩
   ·exact h.out y hy k' (.inl e)
   ·exact h.out y hy k' (.inr (.inr (.inr (.inr ⟨z,hz',e⟩))))
   ·right;omega
 ·rw [vw3]
  exact hup
 ·rcases qq3 hy with rfl|hy
  ·rw [hx2];exact Nat.zero_le _
  ·exact h.m6 y hy
structure SbReady (w:World) (ls:List Sb) (P n:Nat) (id:Int) (c:Co) (W:World) (g cap:Nat) (x:Sx):Prop where
 below:Below w.heap.size w W
 row:SbRow W w.heap.size (.slice (some ⟨g,0,none⟩) (n+1) cap) (qx9 ls P x.sb)
 core:CoAt x.lo x.hi W (.pointer x.cp) c
 lo:w.heap.size≤x.lo
 hi:x.hi≤W.heap.size
 out:g<x.lo∨x.hi≤g
 eid:x.id=id
 eco:x.co=c
 e0:x.row=none
 e1:x.cap=0
 e2:x.ms=[]
theorem SbReady.more {w:World} {ls:List Sb} {P n:Nat} {id:Int} {c:Co} {W W':World} {g cap:Nat} {x:Sx} (h:SbReady w ls P n id c W g cap x) (hb:Below W.heap.size W W'):SbReady w ls P n id c W' g cap x:=
 ⟨v8 h.below hb,j3 h.row fun k hk=>hb.block k (h.row.lt k hk).2,CoAt.keep (Nat.le_refl _) (fun k _ k2=>hb.block k (by have:=h.hi;omega)) hb.size h.core,h.lo,Nat.le_trans h.hi hb.size,h.out,h.eid,h.eco,h.e0,h.e1,h.e2⟩
theorem sub_ok (w:World) (F:Nat→Prop) (bb:Nat) (last:Int) (L:List Su) (h:Br w F bb last L) (id:Int) (hno:∀x∈L,x.id≠id) (s:List UInt8) (c:Co) (htx:TxOk s c) (h8:L.length<8) (hL:LibOk w)
  (h80:(qe3 (vw2 L (qk5 L id) ⟨id,c,[]⟩)).1.length≤80) (hprg:PrgS (vw2 L (qk5 L id) ⟨id,c,[]⟩))
  (Q:Ending→World→Prop) (hQ:∀w',Br w' (upF F w w') bb last (vw2 L (qk5 L id) ⟨id,c,[]⟩)→Grow F w w'→Q (.returned (.tuple #[.int .i64 0,.int .i64 0])) w') :
  Calls Tryz.prog 12 #[.pointer (some ⟨bb,0,none⟩),.int .i64 id,.string (BS s)] w Q:=by
 obtain ⟨hF,sv,tv,rv,l,hB,hLl,hfoot⟩:=h
 obtain ⟨t,hrd,hcore,hin,hgood,hsize,hslen⟩:=htx
 have hnl:∀x∈l,x.id≠id:=fun x hx=>by have:=hno x.su (by rw [←hLl];exact List.mem_map_of_mem hx);exact this
 have hll:l.length=L.length:=by rw [←hLl,List.length_map]
 have FD:=v7 (ve6 hB hnl)
 obtain ⟨P,hP⟩:∃P,qb8 (l.map Sx.sb) id=P:=⟨_,rfl⟩
 have hPS:qk5 L id=P:=by rw [←hP,←hLl,jd0]
 have hPle:P≤l.length:=by have:=vs9 (l.map Sx.sb) id;rw [List.length_map,hP] at this;exact this
 rw [hP] at FD
 rw [hPS] at h80 hprg hQ
 obtain ⟨a,cp,rfl⟩:∃a cp,sv=.slice a l.length cp:=by
  obtain ⟨a,cp,e⟩:=qc1 hB.row
  exact ⟨a,cp,by rw [e,List.length_map]⟩
 obtain ⟨n,hn⟩:∃n,l.length=n:=⟨_,rfl⟩
 have hn8:n<8:=by omega
 have RD:Hid (∀w',Below w.heap.size w w'→Calls Tryz.prog 31 #[.string (BS s)] w' (qu9 w' (.ok t))):=v7 fun w' hb=>hrd ▸ qs7 (BS s) w' (hL.below hb (Nat.le_refl _)).err (by rw [qc0];exact hslen)
 have CELLS:Hid (∀w',Below w.heap.size w w'→w'.cell? ⟨bb,1,none⟩=some (.slice a n cp)):=v7 fun w' hb=>by rw [←hn];exact (hB.below hb).cells.2.1
 have CL:Hid (∀w',Below w.heap.size w w'→Calls Tryz.prog 33 #[.slice a n cp] w' fun e w''=>∃a3 c3,e=.returned (.slice a3 n c3)∧Hid (SbRow w'' w'.heap.size (.slice a3 n c3) (l.map Sx.sb))∧Hid (Below w'.heap.size w' w'')):=v7 (by
  intro w' hb
  have hr:=(hB.below hb).row
  rw [hn] at hr
  refine (vi9 (l.map Sx.sb) (by rw [List.length_map];omega) _ 0 w' hr).mono ?_
  rintro e w'' ⟨v',rfl,h1,h2⟩
  obtain ⟨a3,c3,e3⟩:=qc1 h1
  rw [List.length_map,hn] at e3
  subst e3
  exact ⟨a3,c3,rfl,v7 h1,v7 h2⟩)
 have CO:Hid (∀(lo:Nat) (U U':World) (v:Value),Below w.heap.size w U→Below U.heap.size U U'→IsNode lo U v t→Calls Tryz.prog 34 #[v] U' (qx6 U'.heap.size U' c)):=v7 fun lo U U' v hU hU' hnd=>hcore ▸ vj2 lo t hin (vf1 hrd) U'.heap.size U' v (Nat.le_refl _) (hL.below (v8 hU hU') (Nat.le_refl _)) (hnd.above ⟨hU'.size,fun k _ h2=>hU'.block k h2⟩)
 have INS:Hid (∀(w2 w3 w4:World) (a3:Option Addr) (c3 b4:Nat),Below w.heap.size w w2→Below w2.heap.size w2 w3→SbRow w3 w2.heap.size (.slice a3 n c3) (l.map Sx.sb)→Below w3.heap.size w3 w4→CoAt w3.heap.size w4.heap.size w4 (.pointer (some ⟨b4,0,none⟩)) c →
   Calls Tryz.prog 32 #[.slice a3 n c3,.int .i64 P,.slice (some ⟨w4.heap.size,0,none⟩) 1 1] (w4.alloc (.cells #[.int .i64 id,.pointer (some ⟨b4,0,none⟩),.slice none 0 0] 83)) fun e W=>∃g cap x,e=.returned (.slice (some ⟨g,0,none⟩) (n+1) cap)∧Hid (SbReady w (l.map Sx.sb) P n id c W g cap x)):=v7 (by
  intro w2 w3 w4 a3 c3 b4 hb2 hb3 hr3 hb4 hc4
  obtain ⟨x,hx⟩:∃x:Sx,x=⟨id,some ⟨b4,0,none⟩,w3.heap.size,w4.heap.size,c,none,0,[]⟩:=⟨_,rfl⟩
  have hz2:=hb2.size
  have hz3:=hb3.size
  have hz4:=hb4.size
  obtain ⟨w5,hw5⟩:∃w5,w5=w4.alloc (.cells #[.int .i64 id,.pointer (some ⟨b4,0,none⟩),.slice none 0 0] 83):=⟨_,rfl⟩
  have hz5:w5.heap.size=w4.heap.size+1:=by rw [hw5];simp
  have hb5:Below w4.heap.size w4 w5:=by rw [hw5];exact (Below.refl _ _).alloc (Nat.le_refl _) _
  have hr5:SbRow w5 w2.heap.size (.slice a3 n c3) (l.map Sx.sb):=j3 hr3 fun k hk=>by
   have:=(hr3.lt k hk).2
   rw [hb5.block k (by omega),hb4.block k (by omega)]
  have hne5:(Value.slice a3 n c3).ownBlock≠some w4.heap.size:=fun e=>by have:=(hr3.lt _ e).2;omega
  rw [←hw5]
  refine (vs6 (l.map Sx.sb) x.sb P (by rw [List.length_map];exact hPle) (by rw [List.length_map];omega) _ w2.heap.size w4.heap.size w5 hr5 hne5 (by rw [hw5,hx];exact heap_alloc_new w4 _) (by omega)).mono ?_
  rintro e W ⟨g,cap,rfl,h1,h2,h3⟩
  rw [qh8,List.length_map,hn] at h1 ⊢
  have hzW:=h2.size
  have keep:∀k,w3.heap.size≤k→k<w4.heap.size→W.heap[k]?=w4.heap[k]?:=fun k k1 k2=>by
   rw [h2.block k (by omega) (fun e=>by have:=(hr3.lt _ e.symm).2;omega),hb5.block k k2]
  refine ⟨g,cap,x,rfl,v7 ⟨⟨?_, ?_, ?_,by omega,fun k hk=>?_⟩,qa3 h1 (by omega), ?_, ?_, ?_, ?_,by rw [hx],by rw [hx],by rw [hx],by rw [hx],by rw [hx]⟩⟩
  ·exact h2.os.trans (hb5.os.trans (hb4.os.trans (hb3.os.trans hb2.os)))
  ·exact h2.tape.trans (hb5.tape.trans (hb4.tape.trans (hb3.tape.trans hb2.tape)))
  ·exact h2.output.trans (hb5.output.trans (hb4.output.trans (hb3.output.trans hb2.output)))
  ·rw [h2.block k (by omega) (fun e=>by have:=(hr3.lt _ e.symm).1;omega),hb5.block k (by omega),hb4.block k (by omega),hb3.block k (by omega),hb2.block k hk]
  ·rw [hx]
   exact CoAt.keep (Nat.le_refl _) keep (by omega) hc4
  ·rw [hx];exact Nat.le_trans hz2 hz3
  ·rw [hx];show w4.heap.size≤_;omega
  ·rw [hx]
   show g<w3.heap.size∨w4.heap.size≤g
   rcases h3 with e|e
   ·left;exact (hr3.lt _ e).2
   ·right;omega)
 have TG:Hid (∀(W:World) (g cap:Nat) (x:Sx),SbReady w (l.map Sx.sb) P n id c W g cap x→Calls Tryz.prog 35 #[.slice (some ⟨g,0,none⟩) (n+1) cap] W fun e W'=>∃a7 n7 c7 a8 n8 c8,e=.returned (.agg #[.slice a7 n7 c7,.slice a8 n8 c8])∧n7≤80∧Hid (∀U,Below W'.heap.size W' U→U.cell? ⟨bb,1,none⟩=some (.slice a n cp)∧(∃u2 u3,U.cell? ⟨bb,2,none⟩=some u2∧U.cell? ⟨bb,3,none⟩=some u3)∧(∀j,U.frozen? ⟨bb,j,none⟩=false)∧bb<U.heap.size∧Hid (Q (.returned (.tuple #[.int .i64 0,.int .i64 0])) (((U.setCell ⟨bb,1,none⟩ (.slice (some ⟨g,0,none⟩) (n+1) cap)).setCell ⟨bb,2,none⟩ (.slice a7 n7 c7)).setCell ⟨bb,3,none⟩ (.slice a8 n8 c8))))):=v7 (by
  intro W g cap x hR
  have hlen:(qx9 (l.map Sx.sb) P x.sb).length=n+1:=by rw [qh8,List.length_map,hn]
  have hcl:(qk9 (qv4 l P x)).length=n+1:=by unfold qk9;rw [List.length_map,qr6,hn]
  have hzW:=hR.below.size
  have T:=qy8 (qx9 (l.map Sx.sb) P x.sb) (qk9 (qv4 l P x)) (by rw [hcl,hlen]) (by rw [hlen];omega) (.slice (some ⟨g,0,none⟩) (n+1) cap) W (SbRow.subs hR.row) (by
   intro k s' cc hs hc
   rw [←vw3,List.getElem?_map] at hs
   unfold qk9 at hc
   rw [List.getElem?_map] at hc
   cases hz:(qv4 l P x)[k]? with
   | none=>rw [hz] at hs;cases hs
   | some z=>
    rw [hz] at hs hc
    simp at hs hc
    subst hs hc
    rcases qq3 (List.mem_of_getElem? hz) with rfl|hzm
    ·refine ⟨?_,by rw [hR.eco];exact hgood,by rw [hR.eco];exact hsize⟩
     have q:=hR.core
     rw [←hR.eco] at q
     exact CoAt.low (Nat.zero_le _) (CoAt.keep hR.hi (fun _ _ _=>rfl) (Nat.le_refl _) q)
    ·obtain ⟨q1,q2,q3,q4⟩:=(hB.below hR.below).cos z hzm
     exact ⟨CoAt.low (Nat.zero_le _) (CoAt.keep q2 (fun _ _ _=>rfl) (Nat.le_refl _) q1),q3,q4⟩)
  refine T.mono ?_
  rintro e W' ⟨tv',rv',rfl,hr,hb'⟩
  rw [hlen] at hr
  have hSu:(qv4 l P x).map Sx.su=vw2 L P ⟨id,c,[]⟩:=by
   rw [insX_su,hLl]
   congr 1
   unfold Sx.su
   rw [hR.eid,hR.eco,hR.e2]
  have hpS:=qv8 (qv4 l P x)
  rw [hSu] at hpS
  have hp':Prg (tsX (qv4 l P x)) (rsX (qv4 l P x)):=PrgS.at (by rw [hSu];exact hprg)
  have hr':RowsAt W' W.heap.size tv' rv' (tsX (qv4 l P x)) (rsX (qv4 l P x)):=by
   unfold tsX rsX
   rw [qr6,hn]
   exact hr
  have h80':(tsX (qv4 l P x)).length≤80:=by rw [hpS] at h80;exact h80
  obtain ⟨a7,c7,e7⟩:=qc1 hr'.ats
  obtain ⟨a8,c8,e8⟩:=qc1 hr'.ars
  subst e7 e8
  refine ⟨a7,_,c7,a8,_,c8,rfl,h80',v7 fun U hU=>?_⟩
  have hRU:=(hR.more hb').more hU
  have hz':=hb'.size
  have hzU:=hU.size
  have hBU:=hB.below hRU.below
  obtain ⟨d0,d1,d2,d3,d4⟩:=hBU.cells
  rw [hn] at d1
  have hrU:RowsAt U w.heap.size (.slice a7 (tsX (qv4 l P x)).length c7) (.slice a8 (rsX (qv4 l P x)).length c8) (tsX (qv4 l P x)) (rsX (qv4 l P x)):=⟨qa3 (j3 hr'.ats fun k hk=>hU.block k (hr'.ats.lt k hk).2) hzW,qa3 (j3 hr'.ars fun k hk=>hU.block k (hr'.ars.lt k hk).2) hzW,hr'.ne⟩
  have hrow:=hRU.row
  have up:=za3 hB.up x.sb (fun t ht=>by
   obtain ⟨z,hz,rfl⟩:=List.mem_map.1 ht
   have:=hnl z hz
   show z.id≠x.id
   rw [hR.eid]
   exact this)
  have exid:x.sb.id=id:=hR.eid
  rw [exid,hP] at up
  have hBi:=hB.inserted hRU.below hrow hrU hR.e0 hR.e1 hR.e2 (by rw [hR.eco];exact hRU.core) hR.lo hRU.hi (by rw [hR.eco];exact hgood) (by rw [hR.eco];exact hsize) (by
   intro k hk
   rcases hk with e|e|e
   ·have e':g=k:=by simpa [Value.ownBlock] using e
    rw [←e'];exact hR.out
   ·have:=(hr'.ats.lt k e).1;have:=hR.hi;right;omega
   ·have:=(hr'.ars.lt k e).1;have:=hR.hi;right;omega) up (by omega) hp'
  refine ⟨d1,⟨_,_,d2,d3⟩,d4,hBU.lt,v7 (hQ _ ⟨?_,_,_,_,qv4 l P x,hBi,hSu, ?_⟩ ?_)⟩
  ·intro k hk
   rcases hk with hk|hk
   ·have:=hF k hk;simp;omega
   ·exact hk.2
  ·intro k hk
   have hlt:=hBi.foot_lt hk
   by_cases hkw:w.heap.size≤k
   ·exact .inr ⟨hkw,hlt⟩
   ·left
    apply hfoot
    rcases hk with (e|e|e|e|⟨z,hz,e⟩)|⟨z,hz,e⟩
    ·exact .inl (.inl e)
    ·have:=(hrow.lt k e).1;omega
    ·have:=(hrU.ats.lt k e).1;omega
    ·have:=(hrU.ars.lt k e).1;omega
    ·rcases qq3 hz with rfl|hz
     ·unfold Sx.hv at e;rw [hR.e0] at e;simp [Value.ownBlock] at e
     ·exact .inl (.inr (.inr (.inr (.inr ⟨z,hz,e⟩))))
    ·rcases qq3 hz with rfl|hz
     ·have:=hR.lo;omega
     ·exact .inr ⟨z,hz,e⟩
  ·refine ⟨hRU.below.os,hRU.below.tape,hRU.below.output,by simp;omega,fun k h1 h2=>?_⟩
   have hkb:k≠bb:=fun e=>h2 (hfoot k (.inl (.inl e)))
   rw [Below.heap_setCell _ ⟨bb,3,none⟩ _ k (by show k≠bb;exact hkb),Below.heap_setCell _ ⟨bb,2,none⟩ _ k (by show k≠bb;exact hkb),Below.heap_setCell _ ⟨bb,1,none⟩ _ k (by show k≠bb;exact hkb)]
   exact hRU.below.block k h1)
 have hd8:decide ((n:Int)=8)=false:=decide_eq_false (by omega)
 clear hB hLl hfoot hQ hn hF hprg hin hrd hcore hgood hsize hslen hnl hll hPle hL h80 hPS hP hno
 go_enter Tryz.func12,Tryz.ntmps12
 go_wp2_with (first|(go_at_call 30;refine (q9 FD).mono ?_;rintro e w1 ⟨rfl,hb1⟩;have B1:=v7 hb1;clear hb1)|(go_at_call 31;refine (q9 RD _ (q9 B1)).mono ?_;rintro e w2 ⟨hb2,v2,rfl,hn2⟩;obtain ⟨vb,rfl⟩:=hn2.ptr;have N2:=v7 hn2;have B2:=v7 (v8 (q9 B1) hb2);have c2:=q9 CELLS w2 (q9 B2);clear hn2 hb2)|(go_at_call 33;refine (q9 CL _ (q9 B2)).mono ?_;rintro e w3 ⟨a3,c3,rfl,R3,B3⟩)|(go_at_call 34;refine (q9 CO _ _ _ _ (q9 B2) (q9 B3) (q9 N2)).mono ?_;rintro e w4 ⟨b4,rfl,hc4,hb4⟩;have C4:=v7 hc4;have B4:=v7 hb4;clear hc4 hb4)|(go_at_call 32;refine (q9 INS _ _ _ _ _ _ (q9 B2) (q9 B3) (q9 R3) (q9 B4) (q9 C4)).mono ?_;rintro e w6 ⟨g6,cap6,x6,rfl,R6⟩)|(go_at_call 35;refine (q9 TG _ _ _ _ (q9 R6)).mono ?_;rintro e w7 ⟨a7,n7,c7,a8,n8,c8,rfl,h80,E7⟩)|(go_at_call 36;obtain ⟨U,hU⟩:∃U,U=w7.alloc (.cells #[.slice a7 n7 c7,.slice a8 n8 c8] 65):=⟨_,rfl⟩;rw [←hU];have t0:U.cell? ⟨w7.heap.size,0,none⟩=some (.slice a7 n7 c7):=(by rw [hU];simp [go_sem]);have t1:U.cell? ⟨w7.heap.size,1,none⟩=some (.slice a8 n8 c8):=(by rw [hU];simp [go_sem]);obtain ⟨d1,⟨u2,u3,d2,d3⟩,d4,dl,E8⟩:=q9 E7 U (by rw [hU];exact qq1 _ _);clear hU;refine (vd6 _ 0 n7 a7 c7 U t0).mono ?_;rintro e w8 ⟨rfl,rfl⟩))
 exact q9 E8
end
section
theorem sub_twice (w:World) (F:Nat→Prop) (bb:Nat) (last:Int) (L:List Su) (h:Br w F bb last L) (i:Nat) (x:Su) (hx:L[i]?=some x) (s:ByteArray) :
  Calls Tryz.prog 12 #[.pointer (some ⟨bb,0,none⟩),.int .i64 x.id,.string s] w fun e w'=>e=.returned (.tuple #[.int .i64 6,.int .i64 0])∧Below w.heap.size w w':=by
 obtain ⟨hF,sv,tv,rv,l,hB,hL,hfoot⟩:=h
 obtain ⟨y,hy,hyx⟩:=getX hL hx
 have hpl:=vx2 hB.up (i:=i) (s:=y.sb) (by rw [List.getElem?_map,hy];rfl)
 have hyid:y.sb.id=x.id:=by rw [←hyx];rfl
 rw [hyid] at hpl
 have FD:=v7 (vb7 bb (l.map Sx.sb) x.id _ w hB.cells.2.1 (SbRow.subs hB.row) hB.up (by rw [List.length_map];exact hB.n8))
 rw [hpl.1,hpl.2] at FD
 clear hB hL hfoot hF hpl hyid hx hy hyx
 go_enter Tryz.func12,Tryz.ntmps12
 go_wp2_with (go_at_call 30;refine (q9 FD).mono ?_;rintro e w1 ⟨rfl,hb1⟩;have B1:=v7 hb1;clear hb1)
 go_ret2
 exact ⟨rfl,q9 B1⟩
theorem sub_full8 (w:World) (F:Nat→Prop) (bb:Nat) (last:Int) (L:List Su) (h:Br w F bb last L) (id:Int) (hno:∀x∈L,x.id≠id) (s:ByteArray) (hs:s.size≤140737488355328) (t:Ast) (hrd:qj8 s=.ok t) (h8:L.length=8) (hE:ErrOk w) :
  Calls Tryz.prog 12 #[.pointer (some ⟨bb,0,none⟩),.int .i64 id,.string s] w fun e w'=>e=.returned (.tuple #[.int .i64 8,.int .i64 0])∧Below w.heap.size w w':=by
 obtain ⟨hF,sv,tv,rv,l,hB,hL,hfoot⟩:=h
 have hnl:∀x∈l,x.id≠id:=fun x hx=>by have:=hno x.su (by rw [←hL];exact List.mem_map_of_mem hx);exact this
 have hll:l.length=8:=by rw [←h8,←hL,List.length_map]
 have FD:=v7 (ve6 hB hnl)
 generalize qb8 (l.map Sx.sb) id=P at *
 obtain ⟨a,cp,rfl⟩:∃a cp,sv=.slice a 8 cp:=by
  obtain ⟨a,cp,e⟩:=qc1 hB.row
  exact ⟨a,cp,by rw [e,List.length_map,hll]⟩
 have RD:Hid (∀w',Below w.heap.size w w'→Calls Tryz.prog 31 #[.string s] w' (qu9 w' (.ok t))):=v7 fun w' hb=>hrd ▸ qs7 s w' (hE.below hb (Nat.le_refl _)) hs
 have CELLS:Hid (∀w',Below w.heap.size w w'→w'.cell? ⟨bb,1,none⟩=some (.slice a 8 cp)):=v7 fun w' hb=>(hB.below hb).cells.2.1
 clear hB hL hfoot hF hnl hll hno hrd h8 hE
 go_enter Tryz.func12,Tryz.ntmps12
 go_wp2_with (first|(go_at_call 30;refine (q9 FD).mono ?_;rintro e w1 ⟨rfl,hb1⟩;have B1:=v7 hb1;clear hb1)|(go_at_call 31;refine (q9 RD _ (q9 B1)).mono ?_;rintro e w2 ⟨hb2,v2,rfl,hn2⟩;obtain ⟨vb,rfl⟩:=hn2.ptr;have B2:=v7 (v8 (q9 B1) hb2);have c2:=q9 CELLS w2 (q9 B2);clear hn2 hb2))
 go_ret2
 exact ⟨rfl,q9 B2⟩
end
section
theorem sub_err (w:World) (F:Nat→Prop) (bb:Nat) (last:Int) (L:List Su) (h:Br w F bb last L) (id:Int) (hno:∀x∈L,x.id≠id) (s:ByteArray) (hs:s.size≤140737488355328) (en pl:Int) (hrd:qj8 s=.err en pl) (hE:ErrOk w) :
  Calls Tryz.prog 12 #[.pointer (some ⟨bb,0,none⟩),.int .i64 id,.string s] w fun e w'=>e=.returned (.tuple #[.int .i64 en,.int .i64 pl])∧Below w.heap.size w w':=by
 obtain ⟨hF,sv,tv,rv,l,hB,hL,hfoot⟩:=h
 have hnl:∀x∈l,x.id≠id:=fun x hx=>by have:=hno x.su (by rw [←hL];exact List.mem_map_of_mem hx);exact this
 have FD:=v7 (ve6 hB hnl)
 generalize qb8 (l.map Sx.sb) id=P at *
 have RD:Hid (∀w',Below w.heap.size w w'→Calls Tryz.prog 31 #[.string s] w' (qu9 w' (.err en pl))):=v7 fun w' hb=>hrd ▸ qs7 s w' (hE.below hb (Nat.le_refl _)) hs
 have he:=qs8 hrd
 have hd:(en != 0)=true:=by simp;omega
 clear hB hL hfoot hF hnl hno hrd hE he
 go_enter Tryz.func12,Tryz.ntmps12
 go_wp2_with (first|(go_at_call 30;refine (q9 FD).mono ?_;rintro e w1 ⟨rfl,hb1⟩;have B1:=v7 hb1;clear hb1)|(go_at_call 31;refine (q9 RD _ (q9 B1)).mono ?_;rintro e w2 ⟨hb2,rfl⟩;have B2:=v7 (v8 (q9 B1) hb2);clear hb2))
 go_ret2
 exact ⟨rfl,q9 B2⟩
theorem sub_terms (w:World) (F:Nat→Prop) (bb:Nat) (last:Int) (L:List Su) (h:Br w F bb last L) (id:Int) (hno:∀x∈L,x.id≠id) (s:List UInt8) (c:Co) (htx:TxOk s c) (h8:L.length<8) (hL:LibOk w)
  (h80:80<(qe3 (vw2 L (qk5 L id) ⟨id,c,[]⟩)).1.length) :
  Calls Tryz.prog 12 #[.pointer (some ⟨bb,0,none⟩),.int .i64 id,.string (BS s)] w fun e w'=>e=.returned (.tuple #[.int .i64 8,.int .i64 0])∧Below w.heap.size w w':=by
 obtain ⟨hF,sv,tv,rv,l,hB,hLl,hfoot⟩:=h
 obtain ⟨t,hrd,hcore,hin,hgood,hsize,hslen⟩:=htx
 have hnl:∀x∈l,x.id≠id:=fun x hx=>by have:=hno x.su (by rw [←hLl];exact List.mem_map_of_mem hx);exact this
 have hll:l.length=L.length:=by rw [←hLl,List.length_map]
 have FD:=v7 (ve6 hB hnl)
 obtain ⟨P,hP⟩:∃P,qb8 (l.map Sx.sb) id=P:=⟨_,rfl⟩
 have hPS:qk5 L id=P:=by rw [←hP,←hLl,jd0]
 have hPle:P≤l.length:=by have:=vs9 (l.map Sx.sb) id;rw [List.length_map,hP] at this;exact this
 rw [hP] at FD
 rw [hPS] at h80
 obtain ⟨a,cp,rfl⟩:∃a cp,sv=.slice a l.length cp:=by
  obtain ⟨a,cp,e⟩:=qc1 hB.row
  exact ⟨a,cp,by rw [e,List.length_map]⟩
 obtain ⟨n,hn⟩:∃n,l.length=n:=⟨_,rfl⟩
 have hn8:n<8:=by omega
 have RD:Hid (∀w',Below w.heap.size w w'→Calls Tryz.prog 31 #[.string (BS s)] w' (qu9 w' (.ok t))):=v7 fun w' hb=>hrd ▸ qs7 (BS s) w' (hL.below hb (Nat.le_refl _)).err (by rw [qc0];exact hslen)
 have CELLS:Hid (∀w',Below w.heap.size w w'→w'.cell? ⟨bb,1,none⟩=some (.slice a n cp)):=v7 fun w' hb=>by rw [←hn];exact (hB.below hb).cells.2.1
 have CL:Hid (∀w',Below w.heap.size w w'→Calls Tryz.prog 33 #[.slice a n cp] w' fun e w''=>∃a3 c3,e=.returned (.slice a3 n c3)∧Hid (SbRow w'' w'.heap.size (.slice a3 n c3) (l.map Sx.sb))∧Hid (Below w'.heap.size w' w'')):=v7 (by
  intro w' hb
  have hr:=(hB.below hb).row
  rw [hn] at hr
  refine (vi9 (l.map Sx.sb) (by rw [List.length_map];omega) _ 0 w' hr).mono ?_
  rintro e w'' ⟨v',rfl,h1,h2⟩
  obtain ⟨a3,c3,e3⟩:=qc1 h1
  rw [List.length_map,hn] at e3
  subst e3
  exact ⟨a3,c3,rfl,v7 h1,v7 h2⟩)
 have CO:Hid (∀(lo:Nat) (U U':World) (v:Value),Below w.heap.size w U→Below U.heap.size U U'→IsNode lo U v t→Calls Tryz.prog 34 #[v] U' (qx6 U'.heap.size U' c)):=v7 fun lo U U' v hU hU' hnd=>hcore ▸ vj2 lo t hin (vf1 hrd) U'.heap.size U' v (Nat.le_refl _) (hL.below (v8 hU hU') (Nat.le_refl _)) (hnd.above ⟨hU'.size,fun k _ h2=>hU'.block k h2⟩)
 have INS:Hid (∀(w2 w3 w4:World) (a3:Option Addr) (c3 b4:Nat),Below w.heap.size w w2→Below w2.heap.size w2 w3→SbRow w3 w2.heap.size (.slice a3 n c3) (l.map Sx.sb)→Below w3.heap.size w3 w4→CoAt w3.heap.size w4.heap.size w4 (.pointer (some ⟨b4,0,none⟩)) c →
   Calls Tryz.prog 32 #[.slice a3 n c3,.int .i64 P,.slice (some ⟨w4.heap.size,0,none⟩) 1 1] (w4.alloc (.cells #[.int .i64 id,.pointer (some ⟨b4,0,none⟩),.slice none 0 0] 83)) fun e W=>∃g cap x,e=.returned (.slice (some ⟨g,0,none⟩) (n+1) cap)∧Hid (SbReady w (l.map Sx.sb) P n id c W g cap x)):=v7 (by
  intro w2 w3 w4 a3 c3 b4 hb2 hb3 hr3 hb4 hc4
  obtain ⟨x,hx⟩:∃x:Sx,x=⟨id,some ⟨b4,0,none⟩,w3.heap.size,w4.heap.size,c,none,0,[]⟩:=⟨_,rfl⟩
  have hz2:=hb2.size
  have hz3:=hb3.size
  have hz4:=hb4.size
  obtain ⟨w5,hw5⟩:∃w5,w5=w4.alloc (.cells #[.int .i64 id,.pointer (some ⟨b4,0,none⟩),.slice none 0 0] 83):=⟨_,rfl⟩
  have hz5:w5.heap.size=w4.heap.size+1:=by rw [hw5];simp
  have hb5:Below w4.heap.size w4 w5:=by rw [hw5];exact (Below.refl _ _).alloc (Nat.le_refl _) _
  have hr5:SbRow w5 w2.heap.size (.slice a3 n c3) (l.map Sx.sb):=j3 hr3 fun k hk=>by
   have:=(hr3.lt k hk).2
   rw [hb5.block k (by omega),hb4.block k (by omega)]
  have hne5:(Value.slice a3 n c3).ownBlock≠some w4.heap.size:=fun e=>by have:=(hr3.lt _ e).2;omega
  rw [←hw5]
  refine (vs6 (l.map Sx.sb) x.sb P (by rw [List.length_map];exact hPle) (by rw [List.length_map];omega) _ w2.heap.size w4.heap.size w5 hr5 hne5 (by rw [hw5,hx];exact heap_alloc_new w4 _) (by omega)).mono ?_
  rintro e W ⟨g,cap,rfl,h1,h2,h3⟩
  rw [qh8,List.length_map,hn] at h1 ⊢
  have hzW:=h2.size
  have keep:∀k,w3.heap.size≤k→k<w4.heap.size→W.heap[k]?=w4.heap[k]?:=fun k k1 k2=>by
   rw [h2.block k (by omega) (fun e=>by have:=(hr3.lt _ e.symm).2;omega),hb5.block k k2]
  refine ⟨g,cap,x,rfl,v7 ⟨⟨?_, ?_, ?_,by omega,fun k hk=>?_⟩,qa3 h1 (by omega), ?_, ?_, ?_, ?_,by rw [hx],by rw [hx],by rw [hx],by rw [hx],by rw [hx]⟩⟩
  ·exact h2.os.trans (hb5.os.trans (hb4.os.trans (hb3.os.trans hb2.os)))
  ·exact h2.tape.trans (hb5.tape.trans (hb4.tape.trans (hb3.tape.trans hb2.tape)))
  ·exact h2.output.trans (hb5.output.trans (hb4.output.trans (hb3.output.trans hb2.output)))
  ·rw [h2.block k (by omega) (fun e=>by have:=(hr3.lt _ e.symm).1;omega),hb5.block k (by omega),hb4.block k (by omega),hb3.block k (by omega),hb2.block k hk]
  ·rw [hx]
   exact CoAt.keep (Nat.le_refl _) keep (by omega) hc4
  ·rw [hx];exact Nat.le_trans hz2 hz3
  ·rw [hx];show w4.heap.size≤_;omega
  ·rw [hx]
   show g<w3.heap.size∨w4.heap.size≤g
   rcases h3 with e|e
   ·left;exact (hr3.lt _ e).2
   ·right;omega)
 have TG:Hid (∀(W:World) (g cap:Nat) (x:Sx),SbReady w (l.map Sx.sb) P n id c W g cap x→Calls Tryz.prog 35 #[.slice (some ⟨g,0,none⟩) (n+1) cap] W fun e W'=>∃a7 n7 c7 a8 n8 c8,e=.returned (.agg #[.slice a7 n7 c7,.slice a8 n8 c8])∧80<n7∧Hid (Below w.heap.size w W')):=v7 (by
  intro W g cap x hR
  have hlen:(qx9 (l.map Sx.sb) P x.sb).length=n+1:=by rw [qh8,List.length_map,hn]
  have hcl:(qk9 (qv4 l P x)).length=n+1:=by unfold qk9;rw [List.length_map,qr6,hn]
  have T:=qy8 (qx9 (l.map Sx.sb) P x.sb) (qk9 (qv4 l P x)) (by rw [hcl,hlen]) (by rw [hlen];omega) (.slice (some ⟨g,0,none⟩) (n+1) cap) W (SbRow.subs hR.row) (by
   intro k s' cc hs hc
   rw [←vw3,List.getElem?_map] at hs
   unfold qk9 at hc
   rw [List.getElem?_map] at hc
   cases hz:(qv4 l P x)[k]? with
   | none=>rw [hz] at hs;cases hs
   | some z=>
    rw [hz] at hs hc
    simp at hs hc
    subst hs hc
    rcases qq3 (List.mem_of_getElem? hz) with rfl|hzm
    ·refine ⟨?_,by rw [hR.eco];exact hgood,by rw [hR.eco];exact hsize⟩
     have q:=hR.core
     rw [←hR.eco] at q
     exact CoAt.low (Nat.zero_le _) (CoAt.keep hR.hi (fun _ _ _=>rfl) (Nat.le_refl _) q)
    ·obtain ⟨q1,q2,q3,q4⟩:=(hB.below hR.below).cos z hzm
     exact ⟨CoAt.low (Nat.zero_le _) (CoAt.keep q2 (fun _ _ _=>rfl) (Nat.le_refl _) q1),q3,q4⟩)
  refine T.mono ?_
  rintro e W' ⟨tv',rv',rfl,hr,hb'⟩
  rw [hlen] at hr
  have hSu:(qv4 l P x).map Sx.su=vw2 L P ⟨id,c,[]⟩:=by
   rw [insX_su,hLl]
   congr 1
   unfold Sx.su
   rw [hR.eid,hR.eco,hR.e2]
  have hpS:=qv8 (qv4 l P x)
  rw [hSu] at hpS
  have h80':80<(tsX (qv4 l P x)).length:=by rw [hpS] at h80;exact h80
  have hr':RowsAt W' W.heap.size tv' rv' (tsX (qv4 l P x)) (rsX (qv4 l P x)):=by
   unfold tsX rsX
   rw [qr6,hn]
   exact hr
  obtain ⟨a7,c7,e7⟩:=qc1 hr'.ats
  obtain ⟨a8,c8,e8⟩:=qc1 hr'.ars
  subst e7 e8
  exact ⟨a7,_,c7,a8,_,c8,rfl,h80',v7 (v8 hR.below hb')⟩)
 have hd8:decide ((n:Int)=8)=false:=decide_eq_false (by omega)
 clear hB hLl hfoot hn hF hin hrd hcore hgood hsize hslen hnl hll hPle hL h80 hPS hP hno
 go_enter Tryz.func12,Tryz.ntmps12
 go_wp2_with (first|(go_at_call 30;refine (q9 FD).mono ?_;rintro e w1 ⟨rfl,hb1⟩;have B1:=v7 hb1;clear hb1)|(go_at_call 31;refine (q9 RD _ (q9 B1)).mono ?_;rintro e w2 ⟨hb2,v2,rfl,hn2⟩;obtain ⟨vb,rfl⟩:=hn2.ptr;have N2:=v7 hn2;have B2:=v7 (v8 (q9 B1) hb2);have c2:=q9 CELLS w2 (q9 B2);clear hn2 hb2)|(go_at_call 33;refine (q9 CL _ (q9 B2)).mono ?_;rintro e w3 ⟨a3,c3,rfl,R3,B3⟩)|(go_at_call 34;refine (q9 CO _ _ _ _ (q9 B2) (q9 B3) (q9 N2)).mono ?_;rintro e w4 ⟨b4,rfl,hc4,hb4⟩;have C4:=v7 hc4;have B4:=v7 hb4;clear hc4 hb4)|(go_at_call 32;refine (q9 INS _ _ _ _ _ _ (q9 B2) (q9 B3) (q9 R3) (q9 B4) (q9 C4)).mono ?_;rintro e w6 ⟨g6,cap6,x6,rfl,R6⟩)|(go_at_call 35;refine (q9 TG _ _ _ _ (q9 R6)).mono ?_;rintro e w7 ⟨a7,n7,c7,a8,n8,c8,rfl,h80,E7⟩)|(go_at_call 36;obtain ⟨U,hU⟩:∃U,U=w7.alloc (.cells #[.slice a7 n7 c7,.slice a8 n8 c8] 65):=⟨_,rfl⟩;rw [←hU];have t0:U.cell? ⟨w7.heap.size,0,none⟩=some (.slice a7 n7 c7):=(by rw [hU];simp [go_sem]);have E8:Hid (Below w.heap.size w U):=v7 (v8 (q9 E7) (by rw [hU];exact qq1 _ _));clear hU;refine (vd6 _ 0 n7 a7 c7 U t0).mono ?_;rintro e w8 ⟨rfl,rfl⟩))
 go_ret2
 exact ⟨rfl,q9 E8⟩
end
section
attribute [local go_sem ↓] qc3
def pubF (F:Nat→Prop) (w w':World) (mv fv:Value) (k:Nat):Prop:=upF F w w' k∧mv.ownBlock≠some k∧fv.ownBlock≠some k
def jr9 (ps:List Pr) (L:List Su):List Nat:=metR ps (qe3 L).1 (qe3 L).2
theorem jk1 (ps:List Pr) (L:List Su):∀p∈jr9 ps L,p<L.length:=by
 intro p hp
 have:=metK_lt _ _ _ p hp
 have e:(qe3 L).2.length=L.length:=(qq9 _ _).1
 rw [e] at this
 exact this
theorem vk5 (ps:List Pr) (L:List Su):(jr9 ps L).length≤L.length:=by
 have:=vk4 (qp3 ps (qe3 L).1 (qe3 L).1.length) (qe3 L).2 (qe3 L).2.length
 have e:(qe3 L).2.length=L.length:=(qq9 _ _).1
 rw [e] at this
 unfold jr9 metR
 rw [e]
 exact this
theorem PubAt.begun {w w1 w2:World} {F:Nat→Prop} {bb:Nat} {last last':Int} {sv tv rv posv:Value} {l:List Sx} {pos:List Nat} (hB:BrAt w bb last sv tv rv l) (hF:∀k,F k→k<w.heap.size) (hfoot:∀k,vi3 bb sv tv rv l k→F k) (h1:Below w.heap.size w w1)
  (h2:Below w1.heap.size (w1.setCell ⟨bb,0,none⟩ (.int .i64 last')) w2) (hp:IsAt w2 w1.heap.size posv pos):PubAt w w2 F bb last' sv tv rv posv pos (l.map Sx.su,[],[]) (.slice none 0 0) (.slice none 0 0) w2:=by
 have hz1:=h1.size
 have hz2:=h2.size
 rw [x9] at hz2
 have hB1:=hB.below h1
 have same:∀k,k<w1.heap.size→k≠bb→w2.heap[k]?=w1.heap[k]?:=fun k k1 k2=>by
  rw [h2.block k k1,Below.heap_setCell _ ⟨bb,0,none⟩ _ k (by show k≠bb;exact k2)]
 have hlt:=hB1.lt
 have r1:∀{b s m:Nat} {e:TypeId} {v:Value} {xs:List Value},w1.ownsRow b e s v m xs→e≠67→w2.ownsRow b e s v m xs:=fun ho hne=>j3 ho fun k hk=>same k (ho.lt k hk).2 (fun e=>by subst e;exact qn9 ho hB1.blk hne hk)
 refine ⟨⟨l,⟨?_,r1 hB1.row (by decide),⟨r1 hB1.rows.ats (by decide),r1 hB1.rows.ars (by decide),hB1.rows.ne⟩,fun x hx=>r1 (hB1.hps x hx) (by decide),hB1.dis,fun x hx=>?_,hB1.out,hB1.up,hB1.n8,hB1.m6,hB1.prg⟩,rfl,fun k hk=>.inl (hfoot k hk)⟩, ?_,hF,by omega,Nat.le_refl _,qa3 hp hz1,fun k hk=>(hp.lt k hk).2,ZsAt.nil _ _,ZsAt.nil _ _,fun k hk=>by simp [Value.ownBlock] at hk⟩
 ·rw [h2.block bb hlt]
  exact blk_set0 hB1.blk _
 ·obtain ⟨q1,q2,q3⟩:=hB1.cos x hx
  exact ⟨CoAt.keep (Nat.le_refl _) (fun k k1 k2=>same k (by omega) (fun e=>by have:=hB1.out x hx k (.inl e);omega)) (by omega) q1,by omega,q3⟩
 ·refine ⟨h2.os.trans h1.os,h2.tape.trans h1.tape,h2.output.trans h1.output,by omega,fun k k1 k2=>?_⟩
  rw [same k (by omega) (fun e=>k2 (hfoot k (.inl (.inl e)))),h1.block k k1]
theorem PubAt.done {w w2:World} {F:Nat→Prop} {bb:Nat} {last:Int} {sv tv rv posv:Value} {pos:List Nat} {st:List Su×List Int×List Int} {mv fv:Value} {wr:World} (h:PubAt w w2 F bb last sv tv rv posv pos st mv fv wr) :
  Br wr (pubF F w wr mv fv) bb last st.1∧Grow F w wr∧ZsAt wr w.heap.size mv st.2.1∧ZsAt wr w.heap.size fv st.2.2:=by
 obtain ⟨l,h1,h2,h3⟩:=h.ex
 have hz:=h.grow.size
 refine ⟨⟨fun k hk=>?_,sv,tv,rv,l,h1,h2,fun k hk=>?_⟩,h.grow,qa3 h.met h.zw,qa3 h.full h.zw⟩
 ·rcases hk.1 with e|e
  ·have:=h.hF k e;omega
  ·exact e.2
 ·refine ⟨?_,fun e=>PubAt.not_foot h.hF h.zw h1 h3 h.met e hk,fun e=>PubAt.not_foot h.hF h.zw h1 h3 h.full e hk⟩
  rcases h3 k hk with e|⟨e,_⟩
  ·exact .inl e
  ·exact .inr ⟨e,h1.foot_lt hk⟩
theorem PubAt.pos_cell {w w2:World} {F:Nat→Prop} {bb:Nat} {last:Int} {sv tv rv:Value} {a:Option Addr} {m c:Nat} {pos:List Nat} {st:List Su×List Int×List Int} {mv fv:Value} {wr:World} (h:PubAt w w2 F bb last sv tv rv (.slice a m c) pos st mv fv wr) {k p:Nat} (hp:pos[k]?=some p):∃d,a=some ⟨d,0,none⟩∧wr.cell? ⟨d,k,none⟩=some (.int .i64 p):=by
 rcases qc8 h.pos with ⟨_,h0⟩|⟨g,c',hv⟩
 ·have:=(List.getElem?_eq_some_iff.1 hp).1
  omega
 ·have e:a=some ⟨g,0,none⟩:=by simp at hv;exact hv.1
  refine ⟨g,e, ?_⟩
  have:=World.ownsRow.cells h.pos (g:=g) (by rw [e];rfl) k (.int .i64 p) (by simp [qj3,hp])
  rwa [qj2,Nat.zero_add] at this
theorem pub_ok (w:World) (F:Nat→Prop) (bb:Nat) (last:Int) (L:List Su) (h:Br w F bb last L) (pri:Int) (h0:0≤pri) (h9:pri≤9) (hlast:0≤last∧last<4611686018427387904) (ps:List Pr) (ev:Value)
  (hev:∀w',Grow F w w'→EvIn w' ev ps) (hg:EvGood ps) (hok:ve2 ps=true)
  (Q:Ending→World→Prop) (hQ:∀w' mv fv,Br w' (pubF F w w' mv fv) bb (last+1) (pubR ⟨pri,last+1⟩ L (jr9 ps L)).1→Grow F w w'→ZsAt w' w.heap.size mv (pubR ⟨pri,last+1⟩ L (jr9 ps L)).2.1→ZsAt w' w.heap.size fv (pubR ⟨pri,last+1⟩ L (jr9 ps L)).2.2→Q (.returned (.tuple #[mv,fv,.int .i64 0])) w') :
  Calls Tryz.prog 15 #[.pointer (some ⟨bb,0,none⟩),.int .i64 pri,ev] w Q:=by
 obtain ⟨hF,sv,tv,rv,l,hB,hL,hfoot⟩:=h
 have hev0:=hev w (Grow.of_below (Below.refl _ _))
 have HV:=v7 (ve0 hev0 hg)
 rw [hok] at HV
 obtain ⟨ea,en,ec,rfl⟩:=hev0.slice
 have hpr:qe3 L=(tsX l,rsX l):=by rw [←hL,qv8]
 obtain ⟨pos,hpos⟩:∃pos,jr9 ps L=pos:=⟨_,rfl⟩
 have hposlt:=jk1 ps L
 have hposlen:=vk5 ps L
 have hL8:L.length≤8:=by rw [←hL,List.length_map];exact hB.n8
 rw [hpos] at hQ hposlt hposlen
 obtain ⟨m,hm⟩:∃m,pos.length=m:=⟨_,rfl⟩
 obtain ⟨M,hM⟩:∃M:Mg,M=⟨pri,last+1⟩:=⟨_,rfl⟩
 rw [←hM] at hQ
 have hMp:M.pri=pri:=by rw [hM]
 have hMn:M.num=last+1:=by rw [hM]
 have hbb0:Hid (∀w1,Below w.heap.size w w1→w1.cell? ⟨bb,0,none⟩=some (.int .i64 last)∧w1.frozen? ⟨bb,0,none⟩=false∧bb<w1.heap.size):=v7 fun w1 hb=>by
  have hB1:=hB.below hb
  exact ⟨hB1.cells.1,hB1.cells.2.2.2.2 0,hB1.lt⟩
 have PR:Hid (∀w1,Below w.heap.size w w1→Calls Tryz.prog 42 #[.pointer (some ⟨bb,2,none⟩),.slice ea en ec] (w1.setCell ⟨bb,0,none⟩ (.int .i64 (last+1))) fun e w2=>∃a c,e=.returned (.slice a m c)∧Hid (PubAt w w2 F bb (last+1) sv tv rv (.slice a m c) pos (ve3 M L pos 0) (.slice none 0 0) (.slice none 0 0) w2)):=v7 (by
  intro w1 hb1
  have hB1:=hB.below hb1
  have hz1:=hb1.size
  have hlt1:=hB1.lt
  obtain ⟨wS,hS⟩:∃wS,wS=w1.setCell ⟨bb,0,none⟩ (.int .i64 (last+1)):=⟨_,rfl⟩
  have hzS:wS.heap.size=w1.heap.size:=by rw [hS];simp
  have hP1:=PubAt.begun (last':=last+1) (w2:=wS) (posv:=.slice none 0 0) (pos:=[]) hB hF hfoot hb1 (by rw [hS];exact Below.refl _ _) (IsAt.nil _ _)
  obtain ⟨l',b1,b2,_⟩:=hP1.ex
  have hpr':qe3 L=(tsX l',rsX l'):=by rw [←qv8,b2,hL]
  have PA:ProgAt wS bb 2 (qe3 L).1 (qe3 L).2:=by
   rw [hpr']
   exact ⟨b1.lt,⟨_,_,b1.cells.2.2.1,b1.rows.ats⟩,_,_,b1.cells.2.2.2.1,b1.rows.ars⟩
  have PG:Prg (qe3 L).1 (qe3 L).2:=by rw [hpr'];exact b1.prg
  have hevS:=hev wS ⟨by rw [hS];exact hb1.os,by rw [hS];exact hb1.tape,by rw [hS];exact hb1.output,by omega,fun k k1 k2=>by
   rw [hS,Below.heap_setCell _ ⟨bb,0,none⟩ _ k (by show k≠bb;exact fun e=>k2 (hfoot k (.inl (.inl e)))),hb1.block k k1]⟩
  rw [←hS]
  refine (js7 ps _ bb 2 _ _ wS PA PG (hevS.arg (evOk_8 hok)) hg.rng (vv8 hok)).mono ?_
  rintro e w2 ⟨v,rfl,hi,hb2⟩
  have hi':IsAt w2 wS.heap.size v pos:=by rw [←hpos];exact hi
  obtain ⟨a,c,hv⟩:=hi'.form
  rw [hm] at hv
  subst hv
  refine ⟨a,c,rfl,v7 ?_⟩
  have:=PubAt.begun (last':=last+1) hB hF hfoot hb1 (by rw [←hS,←hzS];exact hb2) (by rw [←hzS];exact hi')
  rw [hL] at this
  exact this)
 have HPOS:Hid (∀k p,pos[k]?=some p→∃x,(ve3 M L pos k).1[p]?=some x):=v7 fun k p hp=>by
  have:=hposlt p (List.mem_of_getElem? hp)
  exact ⟨_,List.getElem?_eq_getElem (by rw [jm4];exact this)⟩
 have HEND:Hid (∀w2 mv fv posv wr,PubAt w w2 F bb (last+1) sv tv rv posv pos (ve3 M L pos m) mv fv wr→Q (.returned (.tuple #[mv,fv,.int .i64 0])) wr):=v7 (by
  intro w2 mv fv posv wr hP
  have e:ve3 M L pos m=pubR M L pos:=by unfold ve3 pubR;rw [←hm,List.take_length]
  rw [e] at hP
  obtain ⟨q1,q2,q3,q4⟩:=hP.done
  exact hQ wr mv fv q1 q2 q3 q4)
 have hm8:m≤8:=by omega
 have HM:=v7 hm
 have hd0:decide (pri<0)=false:=decide_eq_false (by omega)
 have hd9:decide (pri > 9)=false:=decide_eq_false (by omega)
 have hd9':decide (9<pri)=false:=decide_eq_false (by omega)
 have hw:IntKind.i64.wrap (last+1)=last+1:=by rw [IntKind.wrap_i64];omega
 clear hB hL hfoot hQ hF hev hg hok hev0 hpr hpos hposlt hposlen hL8 hm hM
 go_enter Tryz.func15,Tryz.ntmps15
 go_wp2_with (first|(go_at_call 40;refine (q9 HV).mono ?_;rintro e w1 ⟨rfl,hb1⟩;have B1:=v7 hb1;obtain ⟨c1,f1,l1⟩:=q9 hbb0 w1 hb1;clear hb1)|(go_at_call 42;refine (q9 PR w1 (q9 B1)).mono ?_;rintro e w2 ⟨a2,c2,rfl,P2⟩))
 go_loopw [9,10,38] (fun mv fv i wr=>∃k:Nat,k≤m∧i=.int .i64 k∧Hid (PubAt w w2 F bb (last+1) sv tv rv (.slice a2 m c2) pos (ve3 M L pos k) mv fv wr)) (fun _ _ i _=>m - (intOf i).toNat)
 case atStart=>exact ⟨0,Nat.zero_le _,rfl,P2⟩
 case round=>
  obtain ⟨k,hk,rfl,PA⟩:=hrel
  by_cases hlt:k<m
  ·obtain ⟨p,hp⟩:∃p,pos[k]?=some p:=⟨_,List.getElem?_eq_getElem (by have:=q9 HM;omega)⟩
   obtain ⟨x,hx⟩:=q9 HPOS k p hp
   obtain ⟨g,n,c,rfl⟩:=(q9 PA).form hx
   have hS:Hid (ve3 M L pos (k+1)=qg6 M (ve3 M L pos k) p):=v7 (vm4 M L pos k p hp)
   obtain ⟨hsm1,hsm2⟩:=jz6 M L pos k
   obtain ⟨f1,f0,fi,hpn,h6,hv,hq⟩:=(q9 PA).facts hx
   obtain ⟨d,hd⟩:=(q9 PA).pos_cell hp
   obtain ⟨ma,mc,rfl⟩:=(q9 PA).met.form
   obtain ⟨fa,fc,rfl⟩:=(q9 PA).full.form
   have hzb:w2.heap.size≤wr.heap.size:=(q9 PA).z
   obtain ⟨ml,hml⟩:∃ml,(ve3 M L pos k).2.1.length=ml:=⟨_,rfl⟩
   obtain ⟨fl,hfl⟩:∃fl,(ve3 M L pos k).2.2.length=fl:=⟨_,rfl⟩
   obtain ⟨g5,cap5,w5,r5,Z5,G5,N5⟩:=(q9 PA).met.app hzb x.id (by omega) 29 wr.heap.size rfl rfl
   have hP5:=(q9 PA).more_met (q9 Z5) (q9 G5) (fun j hj=>by
    have e:g5=j:=by simpa [Value.ownBlock] using hj
    rw [←e];exact q9 N5)
   obtain ⟨f51,f50,f5i,_,_,hv5,hq5⟩:=hP5.facts (x:=x) (p:=p) hx
   rw [hml] at r5
   have P5:=v7 hP5
   rw [hml,hfl] at P5
   have LEN:=v7 (hlen_any g (p * 3+2) 0 hv5 x.ms w5 hq5)
   have hk0:(0:Int)≤(k:Int):=by omega
   have hk1:(k:Int)<(m:Int):=by omega
   have hp0:(0:Int)≤(p:Int):=by omega
   have hp1:(p:Int)<(n:Int):=by omega
   have z5:w2.heap.size≤w5.heap.size:=(q9 P5).z
   obtain ⟨rfl,dc⟩:=hd
   rw [hml,hfl]
   clear HEND PR HPOS Z5 G5 N5 hP5 hq hbb0 B1 P2
   by_cases h66:x.ms.length=6
   ·have hstep:Hid (ve3 M L pos (k+1)=((ve3 M L pos k).1,(ve3 M L pos k).2.1++[x.id],(ve3 M L pos k).2.2++[x.id])):=v7 (by
     rw [q9 hS]
     unfold qg6
     rw [hx]
     simp only
     rw [if_pos h66])
    rw [h66] at LEN
    obtain ⟨g6,cap6,w6,r6,Z6,G6,N6⟩:=(q9 P5).full.app z5 x.id (by rw [hfl];omega) 29 w5.heap.size rfl rfl
    have P6:=v7 ((q9 P5).more_full (q9 Z6) (q9 G6) (fun j hj=>by
     have e:g6=j:=by simpa [Value.ownBlock] using hj
     rw [←e];exact q9 N6))
    simp only [hfl] at r6 P6
    have HS6:Hid (∃q,q≤m∧(Value.int .i64 ((k:Int)+1))=.int .i64 (q:Nat)∧Hid (PubAt w w2 F bb (last+1) (.slice (some ⟨g,0,none⟩) n c) tv rv (.slice (some ⟨d,0,none⟩) m c2) pos (ve3 M L pos q) (.slice (some ⟨g5,0,none⟩) (ml+1) cap5) (.slice (some ⟨g6,0,none⟩) (fl+1) cap6) w6)):=v7 ⟨k+1,by omega,rfl,v7 (by rw [q9 hstep];exact q9 P6)⟩
    clear Z6 G6 N6 P6 hstep hS hx hq5 P5 PA h66
    go_wp2_with (go_at_call 43;refine (q9 LEN).mono ?_;rintro e w7 ⟨rfl,rfl⟩)
    exact ⟨q9 HS6,by simp [intOf];omega⟩
   ·have hstep:Hid (ve3 M L pos (k+1)=((ve3 M L pos k).1.set p { x with ms:=vq7 x.ms M },(ve3 M L pos k).2.1++[x.id],(ve3 M L pos k).2.2)):=v7 (by
     rw [q9 hS]
     unfold qg6
     rw [hx]
     simp only
     rw [if_neg h66])
    have PUSH:Hid (∀U,Below w5.heap.size w5 U→Calls Tryz.prog 44 #[.pointer (some ⟨g,p * 3+2,none⟩),.agg #[.int .i64 pri,.int .i64 (last+1)]] U fun e w'=>e=.returned (.tuple #[])∧Hid (∃q,q≤m∧(Value.int .i64 ((k:Int)+1))=.int .i64 (q:Nat)∧Hid (PubAt w w2 F bb (last+1) (.slice (some ⟨g,0,none⟩) n c) tv rv (.slice (some ⟨d,0,none⟩) m c2) pos (ve3 M L pos q) (.slice (some ⟨g5,0,none⟩) (ml+1) cap5) (.slice fa fl fc) w'))):=v7 (by
     intro U hU
     have hPU:=(q9 P5).below hU
     obtain ⟨_,_,_,_,_,hvU,hqU⟩:=hPU.facts (x:=x) (p:=p) hx
     have hmg:Value.agg #[.int .i64 pri,.int .i64 (last+1)]=mgV M:=by unfold mgV;rw [hMp,hMn]
     rw [hmg]
     refine (push_any g (p * 3+2) 0 hvU x.ms M (by omega) U hqU (Nat.zero_le _)).mono ?_
     rintro e w' ⟨v',rfl,h1,h2⟩
     refine ⟨rfl,v7 ⟨k+1,by omega,rfl,v7 ?_⟩⟩
     rw [q9 hstep]
     exact hPU.pushed (p:=p) hx hqU h1 h2 (by rw [jd4];omega))
    obtain ⟨q,hq⟩:∃q,x.ms.length=q:=⟨_,rfl⟩
    rw [hq] at LEN h66
    have hd6:decide ((q:Int)=6)=false:=decide_eq_false (by omega)
    clear hstep hS hx hq5 PA hq h6
    go_wp2_with (go_at_call 43;refine (q9 LEN).mono ?_;rintro e w7 ⟨rfl,rfl⟩)
    go_region_with (go_at_call 44;refine (q9 PUSH _ (by repeat (first|exact Below.refl _ _|apply Below.drew))).mono ?_;rintro e w8 ⟨rfl,S8⟩)
    all_goals go_wp2_with (go_at_call 44;refine (q9 PUSH _ (by repeat (first|exact Below.refl _ _|apply Below.drew))).mono ?_;rintro e w8 ⟨rfl,S8⟩)
    all_goals exact ⟨q9 S8,by simp [intOf];omega⟩
  ·have hkm:k=m:=by omega
   subst hkm
   have HE:Hid _:=v7 (q9 HEND w2 _ _ _ wr (q9 PA))
   clear HEND
   go_wp2_with fail
   refine bodyPost_ret (by simp [results,Tryz.results15,go_sem]<;>rfl) rfl ?_
   exact q9 HE
end
section
attribute [local go_sem ↓] qc3
def qx2 (L:List Su):Prop:=∀x∈L,CoreOk x.co
theorem Br.up {w w':World} {F:Nat→Prop} {bb:Nat} {last:Int} {L:List Su} (h:Br w F bb last L) (hb:Below w.heap.size w w'):Br w' (upF F w w') bb last L:=
 (h.below hb).wide (fun _ hk=>.inl hk) fun k hk=>by
  rcases hk with e|e
  ·have:=h.1 k e;have:=hb.size;omega
  ·exact e.2
theorem Br.rising {w:World} {F:Nat→Prop} {bb:Nat} {last:Int} {L:List Su} (h:Br w F bb last L):L.Pairwise (fun a b=>a.id<b.id)∧L.length≤8∧PrgS L:=by
 obtain ⟨_,sv,tv,rv,l,hB,hL,_⟩:=h
 refine ⟨?_,by rw [←hL,List.length_map];exact hB.n8, ?_⟩
 ·rw [←hL]
  have hu:=hB.up
  unfold qp6 at hu
  rw [List.pairwise_map] at hu ⊢
  exact hu
 ·unfold PrgS
  rw [←hL,qv8]
  exact hB.prg
def qm1 (L:List Su) (id:Int) (s:List UInt8):List Su×Int×Int:=
 if (L.any fun x=>x.id==id)=true then (L,6,0) else match qj8 (BS s) with
 | .err en pl=>(L,en,pl)
 | .ok t=>if L.length=8 then (L,8,0) else if 80<(qe3 (vw2 L (qk5 L id) ⟨id,j7 t,[]⟩)).1.length then (L,8,0) else (vw2 L (qk5 L id) ⟨id,j7 t,[]⟩,0,0)
theorem insS_mem' {L:List Su} {k:Nat} {x y:Su} (h:y∈vw2 L k x):y=x∨y∈L:=by
 unfold vw2 at h
 rcases List.mem_append.1 h with h|h
 ·exact .inr (List.mem_of_mem_take h)
 ·rcases List.mem_cons.1 h with h|h
  ·exact .inl h
  ·exact .inr (List.mem_of_mem_drop h)
theorem jn4 (w:World) (F:Nat→Prop) (bb:Nat) (last:Int) (L:List Su) (h:Br w F bb last L) (hg:qx2 L) (id:Int) (s:List UInt8) (hs:s.length≤140737488355328) (hL:LibOk w)
  (Q:Ending→World→Prop) (hQ:∀w',Br w' (upF F w w') bb last (qm1 L id s).1→qx2 (qm1 L id s).1→Grow F w w'→Q (.returned (.tuple #[.int .i64 (qm1 L id s).2.1,.int .i64 (qm1 L id s).2.2])) w') :
  Calls Tryz.prog 12 #[.pointer (some ⟨bb,0,none⟩),.int .i64 id,.string (BS s)] w Q:=by
 have hsz:(BS s).size≤140737488355328:=by rw [qc0];exact hs
 by_cases hh:(L.any fun x=>x.id==id)=true
 ·have e:qm1 L id s=(L,6,0):=by unfold qm1;rw [if_pos hh]
  rw [e] at hQ
  obtain ⟨x,hx,hxi⟩:=List.any_eq_true.1 hh
  have hxi:x.id=id:=by simpa using hxi
  obtain ⟨i,hi⟩:=List.getElem?_of_mem hx
  have:=sub_twice w F bb last L h i x hi (BS s)
  rw [hxi] at this
  exact this.mono (by rintro e w' ⟨rfl,hb⟩;exact hQ w' (h.up hb) hg (Grow.of_below hb))
 ·have hno:∀x∈L,x.id≠id:=fun x hx e=>hh (List.any_eq_true.2 ⟨x,hx,by simpa using e⟩)
  cases hrd:qj8 (BS s) with
  | err en pl=>
   have e:qm1 L id s=(L,en,pl):=by unfold qm1;rw [if_neg hh,hrd]
   rw [e] at hQ
   exact (sub_err w F bb last L h id hno (BS s) hsz en pl hrd hL.err).mono (by rintro e w' ⟨rfl,hb⟩;exact hQ w' (h.up hb) hg (Grow.of_below hb))
  | ok t=>
   have hco:=core_ok hrd
   have htx:TxOk s (j7 t):=⟨t,hrd,rfl,fun _=>amongOk,jr4 hco.fld,hco.size,hs⟩
   by_cases h8:L.length=8
   ·have e:qm1 L id s=(L,8,0):=by unfold qm1;rw [if_neg hh,hrd];simp only;rw [if_pos h8]
    rw [e] at hQ
    exact (sub_full8 w F bb last L h id hno (BS s) hsz t hrd h8 hL.err).mono (by rintro e w' ⟨rfl,hb⟩;exact hQ w' (h.up hb) hg (Grow.of_below hb))
   ·have hl8:L.length<8:=by have:=h.rising.2.1;omega
    by_cases h80:80<(qe3 (vw2 L (qk5 L id) ⟨id,j7 t,[]⟩)).1.length
    ·have e:qm1 L id s=(L,8,0):=by unfold qm1;rw [if_neg hh,hrd];simp only;rw [if_neg h8,if_pos h80]
     rw [e] at hQ
     exact (sub_terms w F bb last L h id hno s (j7 t) htx hl8 hL h80).mono (by rintro e w' ⟨rfl,hb⟩;exact hQ w' (h.up hb) hg (Grow.of_below hb))
    ·have e:qm1 L id s=(vw2 L (qk5 L id) ⟨id,j7 t,[]⟩,0,0):=by unfold qm1;rw [if_neg hh,hrd];simp only;rw [if_neg h8,if_neg h80]
     rw [e] at hQ
     have hg':qx2 (vw2 L (qk5 L id) ⟨id,j7 t,[]⟩):=fun x hx=>by
      rcases insS_mem' hx with rfl|hx
      ·exact hco
      ·exact hg x hx
     exact sub_ok w F bb last L h id hno s (j7 t) htx hl8 hL (by omega) (js5 hg' (by simp [vw2];omega) (by omega)) Q fun w' h1 h2=>hQ w' h1 hg' h2
def delS (L:List Su) (id:Int):List Su:=L.filter fun x=>!(x.id==id)
def qe2 (L:List Su) (id:Int):List Su×Int:=if (L.any fun x=>x.id==id)=true then (delS L id,0) else (L,5)
theorem del_at {L:List Su} (hp:L.Pairwise fun a b=>a.id<b.id) {i:Nat} {x:Su} (hi:L[i]?=some x):L.take i++L.drop (i+1)=delS L x.id:=by
 have hil:=(List.getElem?_eq_some_iff.1 hi).1
 have hd:L=L.take i++x::L.drop (i+1):=by
  have e:=List.drop_eq_getElem_cons hil
  rw [(List.getElem?_eq_some_iff.1 hi).2] at e
  rw [←e,List.take_append_drop]
 have hp':=hp
 rw [hd,List.pairwise_append,List.pairwise_cons] at hp'
 unfold delS
 conv=>rhs;rw [hd]
 rw [List.filter_append,List.filter_cons_of_neg (by simp),List.filter_eq_self.2 fun a ha=>?_,List.filter_eq_self.2 fun a ha=>?_]
 ·have:=hp'.2.1.1 a ha
  have:a.id≠x.id:=by omega
  simpa using this
 ·have:=hp'.2.2 a ha x (List.mem_cons_self ..)
  have:a.id≠x.id:=by omega
  simpa using this
theorem jq5 {L:List Su} {id:Int}:∀x∈delS L id,x∈L:=fun _ hx=>(List.mem_filter.1 hx).1
theorem unsub_any (w:World) (F:Nat→Prop) (bb:Nat) (last:Int) (L:List Su) (h:Br w F bb last L) (hg:qx2 L) (id:Int)
  (Q:Ending→World→Prop) (hQ:∀w',Br w' (upF F w w') bb last (qe2 L id).1→qx2 (qe2 L id).1→Grow F w w'→Q (.returned (.int .i64 (qe2 L id).2)) w') :
  Calls Tryz.prog 19 #[.pointer (some ⟨bb,0,none⟩),.int .i64 id] w Q:=by
 obtain ⟨hp,h8,hprg⟩:=h.rising
 by_cases hh:(L.any fun x=>x.id==id)=true
 ·have e:qe2 L id=(delS L id,0):=by unfold qe2;rw [if_pos hh]
  rw [e] at hQ
  obtain ⟨x,hx,hxi⟩:=List.any_eq_true.1 hh
  have hxi:x.id=id:=by simpa using hxi
  obtain ⟨i,hi⟩:=List.getElem?_of_mem hx
  have hdel:=del_at hp hi
  rw [hxi] at hdel
  have hg':qx2 (delS L id):=fun x hx=>hg x (jq5 x hx)
  have:=unsub_at w F bb last L h i x hi (by
   rw [hdel]
   have hle:=js6 hg (L':=delS L id) fun x hx=>⟨x,jq5 x hx,rfl⟩
   have h80:=hprg.terms
   refine js5 hg' (Nat.le_trans (List.length_filter_le _ _) h8) (by omega)) Q (fun w' h1 h2=>by rw [hdel] at h1;exact hQ w' h1 hg' h2)
  rw [hxi] at this
  exact this
 ·have hno:∀x∈L,x.id≠id:=fun x hx e=>hh (List.any_eq_true.2 ⟨x,hx,by simpa using e⟩)
  have e:qe2 L id=(L,5):=by unfold qe2;rw [if_neg hh]
  rw [e] at hQ
  exact (unsub_no w F bb last L h id hno).mono (by rintro e w' ⟨rfl,hb⟩;exact hQ w' (h.up hb) hg (Grow.of_below hb))
theorem pub_bad (w:World) (bb:Nat) (pri:Int) (ps:List Pr) (ev:Value) (hev:EvIn w ev ps) (hg:EvGood ps) (hno:¬(0≤pri∧pri≤9∧ve2 ps=true)) :
  Calls Tryz.prog 15 #[.pointer (some ⟨bb,0,none⟩),.int .i64 pri,ev] w fun e w'=>e=.returned (.tuple #[.slice none 0 0,.slice none 0 0,.int .i64 7])∧Below w.heap.size w w':=by
 have HV:=v7 (ve0 hev hg)
 obtain ⟨ea,en,ec,rfl⟩:=hev.slice
 clear hev hg
 by_cases h0:pri<0
 ·have hd0:decide (pri<0)=true:=decide_eq_true h0
  clear hno
  go_enter Tryz.func15,Tryz.ntmps15
  go_wp2_with fail
  refine bodyPost_ret (by simp [results,Tryz.results15,go_sem]<;>rfl) rfl ?_
  exact ⟨rfl,Below.refl _ _⟩
 ·have hd0:decide (pri<0)=false:=decide_eq_false h0
  by_cases h9:9<pri
  ·have hd9:decide (pri > 9)=true:=decide_eq_true h9
   have hd9':decide (9<pri)=true:=decide_eq_true h9
   clear hno
   go_enter Tryz.func15,Tryz.ntmps15
   go_wp2_with fail
   refine bodyPost_ret (by simp [results,Tryz.results15,go_sem]<;>rfl) rfl ?_
   exact ⟨rfl,Below.refl _ _⟩
  ·have hd9:decide (pri > 9)=false:=decide_eq_false h9
   have hd9':decide (9<pri)=false:=decide_eq_false h9
   have hok:ve2 ps=false:=by
    cases he:ve2 ps with
    | false=>rfl
    | true=>exact absurd ⟨by omega,by omega,he⟩ hno
   rw [hok] at HV
   clear hno hok
   go_enter Tryz.func15,Tryz.ntmps15
   go_wp2_with (go_at_call 40;refine (q9 HV).mono ?_;rintro e w1 ⟨rfl,hb1⟩;have B1:=v7 hb1;clear hb1)
   refine bodyPost_ret (by simp [results,Tryz.results15,go_sem]<;>rfl) rfl ?_
   exact ⟨rfl,q9 B1⟩
end
section
theorem ZsAt.cell {w:World} {base:Nat} {v:Value} {l:List Int} (h:ZsAt w base v l) {i:Nat} {x:Int} (hi:l[i]?=some x):∃g c,v=.slice (some ⟨g,0,none⟩) l.length c∧w.cell? ⟨g,i,none⟩=some (.int .i64 x):=by
 rcases qc8 h with ⟨_,h0⟩|⟨g,c,rfl⟩
 ·have:=(List.getElem?_eq_some_iff.1 hi).1
  omega
 ·refine ⟨g,c,rfl, ?_⟩
  have:=World.ownsRow.cells h (g:=g) rfl i (.int .i64 x) (by simp [jf7,hi])
  rwa [qj2,Nat.zero_add] at this
end
end Go.Proofs.YtfkcaldjphakpabGreatDoor
