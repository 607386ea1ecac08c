/- Of, over what join says. -/
import Derived.Test.YtfkcaldjphakpabGreatDoorF09
set_option maxHeartbeats 2000000
set_option maxRecDepth 100000
namespace Go.Proofs.YtfkcaldjphakpabGreatDoor
open Go.RowKit
def OfOk (lo:Nat) (ps:List Pr) (ev:Value) (t:Ast):Prop:=∀(w:World) (v:Value),IsNode lo w v t→EvArg w ev ps→Calls Tryz.prog 161 #[v,ev] w fun e w'=>e=.returned (vV (ofA ps t))∧Below w.heap.size w w'
def vi4 (lo:Nat) (t:Ast):Prop:=∀(w:World) (b:Nat) (x y z:V),Rng x.num→Rng y.num→Rng z.num→x.str.length≤1000→IsNode lo w (.pointer (some ⟨b,0,none⟩)) t →
 Calls Tryz.prog 199 #[.pointer (some ⟨b,0,none⟩),vV x,vV y,vV z] w fun e w'=>e=.returned (vV (qu3 (y8 t) x y z))∧Below w.heap.size w w'
theorem of_0 (lo:Nat) (ps:List Pr) (ev:Value) (t:Ast) (ho:(y8 t).op=0):OfOk lo ps ev t:=by
 intro w v h hev
 have hr:ofA ps t=qz5 ps (y8 t).str:=by rw [vs8,ofN,ho];rfl
 rw [hr]
 have CON:=v7 (fun w1 (h:EvArg w1 ev ps)=>jr2 h (BS (y8 t).str))
 obtain ⟨b,sv,rfl,hnode,_⟩:=h.parts
 have c0:=hnode.c0
 rw [ho] at c0
 have c3:=hnode.c3
 have c4:=hnode.c4
 have hbw:=hnode.within
 have HE:=v7 hev
 obtain ⟨ea,en,ec,rfl⟩:=hev.slice
 clear hnode h hr ho hev
 go_enter Tryz.func161,Tryz.ntmps161
 go_wp2_with (go_at_call 102;refine (q9 CON _ ((q9 HE).below ((Below.refl _ _).alloc (Nat.le_refl _) _))).mono ?_;rintro e w1 ⟨rfl,hb1⟩;obtain ⟨hc1,hf1⟩:=j6 hb1;have hz1:w.heap.size<w1.heap.size:=(by have:=hb1.size;simp at this;omega);simp only [vV])
 refine bodyPost_ret (by simp [results,Tryz.results161,go_sem,hc1]<;>rfl) rfl ⟨rfl, ?_⟩
 exact (((v8 ((Below.refl _ _).alloc (Nat.le_refl _) _) hb1).setCell (by simp) _).setCell (by simp) _).setCell (by simp) _
theorem of_1 (lo:Nat) (ps:List Pr) (ev:Value) (t:Ast) (ho:(y8 t).op=1):OfOk lo ps ev t:=by
 intro w v h hev
 have hr:ofA ps t=iV (y8 t).num:=by rw [vs8,ofN,ho];rfl
 rw [hr]
 have CON:=v7 (fun w1=>qq8 (y8 t).num w1)
 obtain ⟨b,sv,rfl,hnode,_⟩:=h.parts
 have c0:=hnode.c0
 rw [ho] at c0
 have c3:=hnode.c3
 have c4:=hnode.c4
 have hbw:=hnode.within
 have HE:=v7 hev
 obtain ⟨ea,en,ec,rfl⟩:=hev.slice
 clear hnode h hr ho hev
 go_enter Tryz.func161,Tryz.ntmps161
 go_wp2_with (go_at_call 103;refine (q9 CON _).mono ?_;rintro e w1 ⟨rfl,hb1⟩;obtain ⟨hc1,hf1⟩:=j6 hb1;have hz1:w.heap.size<w1.heap.size:=(by have:=hb1.size;simp at this;omega);simp only [vV])
 refine bodyPost_ret (by simp [results,Tryz.results161,go_sem,hc1]<;>rfl) rfl ⟨rfl, ?_⟩
 exact (((v8 ((Below.refl _ _).alloc (Nat.le_refl _) _) hb1).setCell (by simp) _).setCell (by simp) _).setCell (by simp) _
theorem of_2 (lo:Nat) (ps:List Pr) (ev:Value) (t:Ast) (ho:(y8 t).op=2):OfOk lo ps ev t:=by
 intro w v h hev
 have hr:ofA ps t=tV (y8 t).str:=by rw [vs8,ofN,ho];rfl
 rw [hr]
 have CON:=v7 (fun w1=>vp4 (BS (y8 t).str) w1)
 obtain ⟨b,sv,rfl,hnode,_⟩:=h.parts
 have c0:=hnode.c0
 rw [ho] at c0
 have c3:=hnode.c3
 have c4:=hnode.c4
 have hbw:=hnode.within
 have HE:=v7 hev
 obtain ⟨ea,en,ec,rfl⟩:=hev.slice
 clear hnode h hr ho hev
 go_enter Tryz.func161,Tryz.ntmps161
 go_wp2_with (go_at_call 104;refine (q9 CON _).mono ?_;rintro e w1 ⟨rfl,hb1⟩;obtain ⟨hc1,hf1⟩:=j6 hb1;have hz1:w.heap.size<w1.heap.size:=(by have:=hb1.size;simp at this;omega);simp only [vV])
 refine bodyPost_ret (by simp [results,Tryz.results161,go_sem,hc1]<;>rfl) rfl ⟨rfl, ?_⟩
 exact (((v8 ((Below.refl _ _).alloc (Nat.le_refl _) _) hb1).setCell (by simp) _).setCell (by simp) _).setCell (by simp) _
theorem of_3 (lo:Nat) (ps:List Pr) (ev:Value) (t:Ast) (ho:(y8 t).op=3):OfOk lo ps ev t:=by
 intro w v h hev
 have hr:ofA ps t=bV true:=by rw [vs8,ofN,ho];rfl
 rw [hr]
 have CON:=v7 (fun w1=>qg1 true w1)
 obtain ⟨b,sv,rfl,hnode,_⟩:=h.parts
 have c0:=hnode.c0
 rw [ho] at c0
 have c3:=hnode.c3
 have c4:=hnode.c4
 have hbw:=hnode.within
 have HE:=v7 hev
 obtain ⟨ea,en,ec,rfl⟩:=hev.slice
 clear hnode h hr ho hev
 go_enter Tryz.func161,Tryz.ntmps161
 go_wp2_with (go_at_call 70;refine (q9 CON _).mono ?_;rintro e w1 ⟨rfl,hb1⟩;obtain ⟨hc1,hf1⟩:=j6 hb1;have hz1:w.heap.size<w1.heap.size:=(by have:=hb1.size;simp at this;omega);simp only [vV])
 refine bodyPost_ret (by simp [results,Tryz.results161,go_sem,hc1]<;>rfl) rfl ⟨rfl, ?_⟩
 exact (((v8 ((Below.refl _ _).alloc (Nat.le_refl _) _) hb1).setCell (by simp) _).setCell (by simp) _).setCell (by simp) _
theorem of_4 (lo:Nat) (ps:List Pr) (ev:Value) (t:Ast) (ho:(y8 t).op=4):OfOk lo ps ev t:=by
 intro w v h hev
 have hr:ofA ps t=bV false:=by rw [vs8,ofN,ho];rfl
 rw [hr]
 have CON:=v7 (fun w1=>qg1 false w1)
 obtain ⟨b,sv,rfl,hnode,_⟩:=h.parts
 have c0:=hnode.c0
 rw [ho] at c0
 have c3:=hnode.c3
 have c4:=hnode.c4
 have hbw:=hnode.within
 have HE:=v7 hev
 obtain ⟨ea,en,ec,rfl⟩:=hev.slice
 clear hnode h hr ho hev
 go_enter Tryz.func161,Tryz.ntmps161
 go_wp2_with (go_at_call 70;refine (q9 CON _).mono ?_;rintro e w1 ⟨rfl,hb1⟩;obtain ⟨hc1,hf1⟩:=j6 hb1;have hz1:w.heap.size<w1.heap.size:=(by have:=hb1.size;simp at this;omega);simp only [vV])
 refine bodyPost_ret (by simp [results,Tryz.results161,go_sem,hc1]<;>rfl) rfl ⟨rfl, ?_⟩
 exact (((v8 ((Below.refl _ _).alloc (Nat.le_refl _) _) hb1).setCell (by simp) _).setCell (by simp) _).setCell (by simp) _
def OfAt (ps:List Pr) (t:Ast) (k:Nat) (x0 x1 x2:V):Prop:=
 x0=(if 0<k then ((j4 t).map (ofA ps)).getD 0 nV else nV)∧x1=(if 1<k then ((j4 t).map (ofA ps)).getD 1 nV else nV)∧x2=(if 2<k then ((j4 t).map (ofA ps)).getD 2 nV else nV)
theorem getD_ge (l:List V) (n:Nat) (h:l.length≤n):l.getD n nV=nV:=by rw [List.getD_eq_getElem?_getD,List.getElem?_eq_none h];rfl
theorem OfAt.done {ps:List Pr} {t:Ast} {x0 x1 x2:V} (h:OfAt ps t (j4 t).length x0 x1 x2):qu3 (y8 t) x0 x1 x2=qu3 (y8 t) (((j4 t).map (ofA ps)).getD 0 nV) (((j4 t).map (ofA ps)).getD 1 nV) (((j4 t).map (ofA ps)).getD 2 nV):=by
 obtain ⟨rfl,rfl,rfl⟩:=h
 have hz:∀i,(if i<(j4 t).length then ((j4 t).map (ofA ps)).getD i nV else nV)=((j4 t).map (ofA ps)).getD i nV:=by
  intro i
  split
  ·rfl
  ·rw [getD_ge];rw [List.length_map];omega
 rw [hz,hz,hz]
theorem OfAt.step0 {ps:List Pr} {t x:Ast} {x0 x1 x2:V} (h:OfAt ps t 0 x0 x1 x2) (hx:(j4 t)[0]?=some x):OfAt ps t 1 (ofA ps x) x1 x2:=by
 obtain ⟨_,h1,h2⟩:=h
 exact ⟨by simp [List.getD_eq_getElem?_getD,hx],by simpa using h1,by simpa using h2⟩
theorem OfAt.step1 {ps:List Pr} {t x:Ast} {x0 x1 x2:V} (h:OfAt ps t 1 x0 x1 x2) (hx:(j4 t)[1]?=some x):OfAt ps t 2 x0 (ofA ps x) x2:=by
 obtain ⟨h0,_,h2⟩:=h
 exact ⟨by simpa using h0,by simp [List.getD_eq_getElem?_getD,hx],by simpa using h2⟩
theorem OfAt.step2 {ps:List Pr} {t x:Ast} {x0 x1 x2:V} (h:OfAt ps t 2 x0 x1 x2) (hx:(j4 t)[2]?=some x):OfAt ps t 3 x0 x1 (ofA ps x):=by
 obtain ⟨h0,h1,_⟩:=h
 exact ⟨by simpa using h0,by simpa using h1,by simp [List.getD_eq_getElem?_getD,hx]⟩
theorem OfAt.rng {ps:List Pr} {t:Ast} {k:Nat} {x0 x1 x2:V} (h:OfAt ps t k x0 x1 x2) (hr:∀x∈j4 t,Rng (ofA ps x).num):Rng x0.num∧Rng x1.num∧Rng x2.num:=by
 have hz:∀i,Rng (((j4 t).map (ofA ps)).getD i nV).num:=by
  intro i
  rw [List.getD_eq_getElem?_getD,List.getElem?_map]
  cases hx:(j4 t)[i]? with
  | none=>exact qz8
  | some x=>exact hr x (List.mem_of_getElem? hx)
 obtain ⟨rfl,rfl,rfl⟩:=h
 refine ⟨?_, ?_, ?_⟩<;>split<;>first|exact hz _|exact qz8
theorem OfAt.len {ps:List Pr} {t:Ast} {k:Nat} {x0 x1 x2:V} (h:OfAt ps t k x0 x1 x2) (hr:∀x∈j4 t,(ofA ps x).str.length≤1000):x0.str.length≤1000:=by
 obtain ⟨rfl,_,_⟩:=h
 split
 ·rw [List.getD_eq_getElem?_getD,List.getElem?_map]
  cases hx:(j4 t)[0]? with
  | none=>simp [nV]
  | some x=>exact hr x (List.mem_of_getElem? hx)
 ·simp [nV]
theorem of_step (lo:Nat) (ps:List Pr) (ev:Value) (t:Ast) (hsub:∀x∈j4 t,OfOk lo ps ev x) (hrng:∀x∈j4 t,Rng (ofA ps x).num) (hlen:∀x∈j4 t,(ofA ps x).str.length≤1000) (hj:vi4 lo t) (h0:¬(y8 t).op=0) (h1:¬(y8 t).op=1) (h2:¬(y8 t).op=2) (h3:¬(y8 t).op=3) (h4:¬(y8 t).op=4):OfOk lo ps ev t:=by
 intro w v h hev
 have e0:((y8 t).op==0)=false:=beq_eq_false_iff_ne.2 h0
 have e1:((y8 t).op==1)=false:=beq_eq_false_iff_ne.2 h1
 have e2:((y8 t).op==2)=false:=beq_eq_false_iff_ne.2 h2
 have e3:((y8 t).op==3)=false:=beq_eq_false_iff_ne.2 h3
 have e4:((y8 t).op==4)=false:=beq_eq_false_iff_ne.2 h4
 have hr:ofA ps t=qu3 (y8 t) (((j4 t).map (ofA ps)).getD 0 nV) (((j4 t).map (ofA ps)).getD 1 nV) (((j4 t).map (ofA ps)).getD 2 nV):=by
  rw [vs8,ofN,if_neg h0,if_neg h1,if_neg h2,if_neg h3,if_neg h4]
 rw [hr]
 obtain ⟨r,hr'⟩:∃r,qu3 (y8 t) (((j4 t).map (ofA ps)).getD 0 nV) (((j4 t).map (ofA ps)).getD 1 nV) (((j4 t).map (ofA ps)).getD 2 nV)=r:=⟨_,rfl⟩
 rw [hr']
 have HR:Hid (qu3 (y8 t) (((j4 t).map (ofA ps)).getD 0 nV) (((j4 t).map (ofA ps)).getD 1 nV) (((j4 t).map (ofA ps)).getD 2 nV)=r):=v7 hr'
 have HNODE:=v7 h
 obtain ⟨b,sv,rfl,hnode,hsides⟩:=h.parts
 obtain ⟨a,rfl,hside⟩:=hsides.any
 have hn3:=vn1 t
 have c0:=hnode.c0
 have c2:=hnode.c2
 have hbw:=hnode.within
 obtain ⟨n,hn⟩:∃n,(j4 t).length=n:=⟨_,rfl⟩
 rw [hn] at c2 hn3
 have HN:=v7 hn
 have HS:=v7 hside
 have HSUB:=v7 hsub
 have HRNG:=v7 hrng
 have HLEN:=v7 hlen
 have HJ:=v7 hj
 have HE:=v7 hev
 obtain ⟨ea,en,ec,rfl⟩:=hev.slice
 clear hr hr' hsides h hn hside hsub hrng hlen hj hev hnode h0 h1 h2 h3 h4
 go_enter Tryz.func161,Tryz.ntmps161
 go_wp2_with fail
 go_loopw [48] (fun i wr=>∃(k:Nat) (x0 x1 x2:V),k≤n∧i=.int .i64 k∧Hid (OfAt ps t k x0 x1 x2)∧wr.cell? ⟨w.heap.size+1,0,none⟩=some (.int .i64 x0.kind)∧wr.cell? ⟨w.heap.size+1,1,none⟩=some (.int .i64 x0.num)∧wr.cell? ⟨w.heap.size+1,2,none⟩=some (.string (BS x0.str))∧wr.cell? ⟨w.heap.size+1,3,none⟩=some (.int .i64 x1.kind)∧wr.cell? ⟨w.heap.size+1,4,none⟩=some (.int .i64 x1.num)∧wr.cell? ⟨w.heap.size+1,5,none⟩=some (.string (BS x1.str))∧wr.cell? ⟨w.heap.size+1,6,none⟩=some (.int .i64 x2.kind)∧wr.cell? ⟨w.heap.size+1,7,none⟩=some (.int .i64 x2.num)∧wr.cell? ⟨w.heap.size+1,8,none⟩=some (.string (BS x2.str))∧wr.cell? ⟨w.heap.size,0,none⟩=some (.int .i64 0)∧wr.cell? ⟨w.heap.size,1,none⟩=some (.int .i64 0)∧wr.cell? ⟨w.heap.size,2,none⟩=some (.string ⟨#[]⟩)∧(∀j,wr.frozen? ⟨w.heap.size+1,j,none⟩=false)∧(∀j,wr.frozen? ⟨w.heap.size,j,none⟩=false)∧w.heap.size+1<wr.heap.size∧Hid (Below w.heap.size w wr)) (fun i _=>n - (intOf i).toNat)
 case atStart=>exact ⟨0,nV,nV,nV,Nat.zero_le _,rfl,v7 ⟨rfl,rfl,rfl⟩,by simp [nV],by simp [nV],by simp [nV,BS],by simp [nV],by simp [nV],by simp [nV,BS],by simp [nV],by simp [nV],by simp [nV,BS],by rw [World.cell?_alloc_past _ _ _ (by simp),World.cell?_alloc_at _ _ _ _ rfl];rfl,by rw [World.cell?_alloc_past _ _ _ (by simp),World.cell?_alloc_at _ _ _ _ rfl];rfl,by rw [World.cell?_alloc_past _ _ _ (by simp),World.cell?_alloc_at _ _ _ _ rfl];rfl,fun j=>by simp,fun j=>by rw [World.frozen?_alloc_past _ _ _ (by simp),World.frozen?_alloc_at _ _ _ _ rfl],by simp,v7 (qh0 _ _ _)⟩
 case round=>
  obtain ⟨k,x0,x1,x2,hk,rfl,hat,a0,a1,a2,a3,a4,a5,a6,a7,a8,r0,r1,r2,fz,fr,hzr,hbel⟩:=hrel
  by_cases hlt:k<n
  ·obtain ⟨x,hx⟩:∃x,(j4 t)[k]?=some x:=⟨_,List.getElem?_eq_getElem (by rw [q9 HN];exact hlt)⟩
   obtain ⟨g,bx,rfl,hg1,hg2,hcx,hnx⟩:=q9 HS k x hx
   have dx:=((q9 hbel).cell (p:=⟨g,k,none⟩) hg2).trans hcx
   have HNX:=v7 (hnx.kept (Kept.of_below (q9 hbel)))
   have CX:=v7 (q9 HSUB x (List.mem_of_getElem? hx))
   have HEV:=v7 ((q9 HE).below (q9 hbel))
   have HX:=v7 hx
   clear hx hnx hcx
   rcases (show k=0∨k=1∨k=2 by omega) with rfl|rfl|rfl
   ·go_wp2_with (go_at_call 161;refine (q9 CX _ _ (q9 HNX) (q9 HEV)).mono ?_;rintro e w1 ⟨rfl,hb1⟩;obtain ⟨hc1,hf1⟩:=j6 hb1;have hz1:w.heap.size+1<w1.heap.size:=(by have:=hb1.size;omega);have q0:w1.cell? ⟨w.heap.size+1,0,none⟩=some (.int .i64 x0.kind):=(hc1 _ 0 (by omega)).trans a0;have q1:w1.cell? ⟨w.heap.size+1,1,none⟩=some (.int .i64 x0.num):=(hc1 _ 1 (by omega)).trans a1;have q2:w1.cell? ⟨w.heap.size+1,2,none⟩=some (.string (BS x0.str)):=(hc1 _ 2 (by omega)).trans a2;have q3:w1.cell? ⟨w.heap.size+1,3,none⟩=some (.int .i64 x1.kind):=(hc1 _ 3 (by omega)).trans a3;have q4:w1.cell? ⟨w.heap.size+1,4,none⟩=some (.int .i64 x1.num):=(hc1 _ 4 (by omega)).trans a4;have q5:w1.cell? ⟨w.heap.size+1,5,none⟩=some (.string (BS x1.str)):=(hc1 _ 5 (by omega)).trans a5;have q6:w1.cell? ⟨w.heap.size+1,6,none⟩=some (.int .i64 x2.kind):=(hc1 _ 6 (by omega)).trans a6;have q7:w1.cell? ⟨w.heap.size+1,7,none⟩=some (.int .i64 x2.num):=(hc1 _ 7 (by omega)).trans a7;have q8:w1.cell? ⟨w.heap.size+1,8,none⟩=some (.string (BS x2.str)):=(hc1 _ 8 (by omega)).trans a8;have s0:w1.cell? ⟨w.heap.size,0,none⟩=some (.int .i64 0):=(hc1 _ 0 (by omega)).trans r0;have s1:w1.cell? ⟨w.heap.size,1,none⟩=some (.int .i64 0):=(hc1 _ 1 (by omega)).trans r1;have s2:w1.cell? ⟨w.heap.size,2,none⟩=some (.string ⟨#[]⟩):=(hc1 _ 2 (by omega)).trans r2;have f1:∀j,w1.frozen? ⟨w.heap.size+1,j,none⟩=false:=(fun j=>(hf1 _ j (by omega)).trans (fz j));have f0:∀j,w1.frozen? ⟨w.heap.size,j,none⟩=false:=(fun j=>(hf1 _ j (by omega)).trans (fr j));have hb1:=v7 hb1;clear hc1 hf1;simp only [vV])
    go_roundw
    case rel=>exact ⟨1,_,x1,x2,by omega,by go_num,v7 (OfAt.step0 (q9 hat) (q9 HX)),by simp [go_sem,q0],by simp [go_sem,q1],by simp [go_sem,q2],by simp [go_sem,q3],by simp [go_sem,q4],by simp [go_sem,q5],by simp [go_sem,q6],by simp [go_sem,q7],by simp [go_sem,q8],by simp [go_sem,s0],by simp [go_sem,s1],by simp [go_sem,s2],fun j=>by simp [go_sem,f1],fun j=>by simp [go_sem,f0],by simpa using hz1,v7 ((((v8 (q9 hbel) (q9 hb1)).setCell (by simp) _).setCell (by simp) _).setCell (by simp) _)⟩
    case measure=>simp [intOf];omega
   ·go_wp2_with (go_at_call 161;refine (q9 CX _ _ (q9 HNX) (q9 HEV)).mono ?_;rintro e w1 ⟨rfl,hb1⟩;obtain ⟨hc1,hf1⟩:=j6 hb1;have hz1:w.heap.size+1<w1.heap.size:=(by have:=hb1.size;omega);have q0:w1.cell? ⟨w.heap.size+1,0,none⟩=some (.int .i64 x0.kind):=(hc1 _ 0 (by omega)).trans a0;have q1:w1.cell? ⟨w.heap.size+1,1,none⟩=some (.int .i64 x0.num):=(hc1 _ 1 (by omega)).trans a1;have q2:w1.cell? ⟨w.heap.size+1,2,none⟩=some (.string (BS x0.str)):=(hc1 _ 2 (by omega)).trans a2;have q3:w1.cell? ⟨w.heap.size+1,3,none⟩=some (.int .i64 x1.kind):=(hc1 _ 3 (by omega)).trans a3;have q4:w1.cell? ⟨w.heap.size+1,4,none⟩=some (.int .i64 x1.num):=(hc1 _ 4 (by omega)).trans a4;have q5:w1.cell? ⟨w.heap.size+1,5,none⟩=some (.string (BS x1.str)):=(hc1 _ 5 (by omega)).trans a5;have q6:w1.cell? ⟨w.heap.size+1,6,none⟩=some (.int .i64 x2.kind):=(hc1 _ 6 (by omega)).trans a6;have q7:w1.cell? ⟨w.heap.size+1,7,none⟩=some (.int .i64 x2.num):=(hc1 _ 7 (by omega)).trans a7;have q8:w1.cell? ⟨w.heap.size+1,8,none⟩=some (.string (BS x2.str)):=(hc1 _ 8 (by omega)).trans a8;have s0:w1.cell? ⟨w.heap.size,0,none⟩=some (.int .i64 0):=(hc1 _ 0 (by omega)).trans r0;have s1:w1.cell? ⟨w.heap.size,1,none⟩=some (.int .i64 0):=(hc1 _ 1 (by omega)).trans r1;have s2:w1.cell? ⟨w.heap.size,2,none⟩=some (.string ⟨#[]⟩):=(hc1 _ 2 (by omega)).trans r2;have f1:∀j,w1.frozen? ⟨w.heap.size+1,j,none⟩=false:=(fun j=>(hf1 _ j (by omega)).trans (fz j));have f0:∀j,w1.frozen? ⟨w.heap.size,j,none⟩=false:=(fun j=>(hf1 _ j (by omega)).trans (fr j));have hb1:=v7 hb1;clear hc1 hf1;simp only [vV])
    go_roundw
    case rel=>exact ⟨2,x0,_,x2,by omega,by go_num,v7 (OfAt.step1 (q9 hat) (q9 HX)),by simp [go_sem,q0],by simp [go_sem,q1],by simp [go_sem,q2],by simp [go_sem,q3],by simp [go_sem,q4],by simp [go_sem,q5],by simp [go_sem,q6],by simp [go_sem,q7],by simp [go_sem,q8],by simp [go_sem,s0],by simp [go_sem,s1],by simp [go_sem,s2],fun j=>by simp [go_sem,f1],fun j=>by simp [go_sem,f0],by simpa using hz1,v7 ((((v8 (q9 hbel) (q9 hb1)).setCell (by simp) _).setCell (by simp) _).setCell (by simp) _)⟩
    case measure=>simp [intOf];omega
   ·go_wp2_with (go_at_call 161;refine (q9 CX _ _ (q9 HNX) (q9 HEV)).mono ?_;rintro e w1 ⟨rfl,hb1⟩;obtain ⟨hc1,hf1⟩:=j6 hb1;have hz1:w.heap.size+1<w1.heap.size:=(by have:=hb1.size;omega);have q0:w1.cell? ⟨w.heap.size+1,0,none⟩=some (.int .i64 x0.kind):=(hc1 _ 0 (by omega)).trans a0;have q1:w1.cell? ⟨w.heap.size+1,1,none⟩=some (.int .i64 x0.num):=(hc1 _ 1 (by omega)).trans a1;have q2:w1.cell? ⟨w.heap.size+1,2,none⟩=some (.string (BS x0.str)):=(hc1 _ 2 (by omega)).trans a2;have q3:w1.cell? ⟨w.heap.size+1,3,none⟩=some (.int .i64 x1.kind):=(hc1 _ 3 (by omega)).trans a3;have q4:w1.cell? ⟨w.heap.size+1,4,none⟩=some (.int .i64 x1.num):=(hc1 _ 4 (by omega)).trans a4;have q5:w1.cell? ⟨w.heap.size+1,5,none⟩=some (.string (BS x1.str)):=(hc1 _ 5 (by omega)).trans a5;have q6:w1.cell? ⟨w.heap.size+1,6,none⟩=some (.int .i64 x2.kind):=(hc1 _ 6 (by omega)).trans a6;have q7:w1.cell? ⟨w.heap.size+1,7,none⟩=some (.int .i64 x2.num):=(hc1 _ 7 (by omega)).trans a7;have q8:w1.cell? ⟨w.heap.size+1,8,none⟩=some (.string (BS x2.str)):=(hc1 _ 8 (by omega)).trans a8;have s0:w1.cell? ⟨w.heap.size,0,none⟩=some (.int .i64 0):=(hc1 _ 0 (by omega)).trans r0;have s1:w1.cell? ⟨w.heap.size,1,none⟩=some (.int .i64 0):=(hc1 _ 1 (by omega)).trans r1;have s2:w1.cell? ⟨w.heap.size,2,none⟩=some (.string ⟨#[]⟩):=(hc1 _ 2 (by omega)).trans r2;have f1:∀j,w1.frozen? ⟨w.heap.size+1,j,none⟩=false:=(fun j=>(hf1 _ j (by omega)).trans (fz j));have f0:∀j,w1.frozen? ⟨w.heap.size,j,none⟩=false:=(fun j=>(hf1 _ j (by omega)).trans (fr j));have hb1:=v7 hb1;clear hc1 hf1;simp only [vV])
    go_roundw
    case rel=>exact ⟨3,x0,x1,_,by omega,by go_num,v7 (OfAt.step2 (q9 hat) (q9 HX)),by simp [go_sem,q0],by simp [go_sem,q1],by simp [go_sem,q2],by simp [go_sem,q3],by simp [go_sem,q4],by simp [go_sem,q5],by simp [go_sem,q6],by simp [go_sem,q7],by simp [go_sem,q8],by simp [go_sem,s0],by simp [go_sem,s1],by simp [go_sem,s2],fun j=>by simp [go_sem,f1],fun j=>by simp [go_sem,f0],by simpa using hz1,v7 ((((v8 (q9 hbel) (q9 hb1)).setCell (by simp) _).setCell (by simp) _).setCell (by simp) _)⟩
    case measure=>simp [intOf];omega
  ·have hkn:k=(j4 t).length:=by have:=q9 HN;omega
   have HDONE:Hid (qu3 (y8 t) x0 x1 x2=r):=v7 (by rw [OfAt.done (by rw [←hkn];exact q9 hat)];exact q9 HR)
   have HRN:=v7 ((q9 hat).rng (q9 HRNG))
   have HLN:=v7 ((q9 hat).len (q9 HLEN))
   have HJN:=v7 (q9 HJ wr b x0 x1 x2 (q9 HRN).1 (q9 HRN).2.1 (q9 HRN).2.2 (q9 HLN) ((q9 HNODE).kept (Kept.of_below (q9 hbel))))
   clear hkn hat
   go_wp2_with (go_at_call 199;refine (q9 HJN).mono ?_;rw [q9 HDONE];rintro e w1 ⟨rfl,hb1⟩;obtain ⟨hc1,hf1⟩:=j6 hb1;have hz1:w.heap.size+1<w1.heap.size:=(by have:=hb1.size;omega);have s0:w1.cell? ⟨w.heap.size,0,none⟩=some (.int .i64 0):=(hc1 _ 0 (by omega)).trans r0;have s1:w1.cell? ⟨w.heap.size,1,none⟩=some (.int .i64 0):=(hc1 _ 1 (by omega)).trans r1;have s2:w1.cell? ⟨w.heap.size,2,none⟩=some (.string ⟨#[]⟩):=(hc1 _ 2 (by omega)).trans r2;have f1:∀j,w1.frozen? ⟨w.heap.size,j,none⟩=false:=(fun j=>(hf1 _ j (by omega)).trans (fr j));simp only [vV])
   refine bodyPost_ret (by simp [results,Tryz.results161,go_sem,s0,s1,s2]<;>rfl) rfl ⟨rfl, ?_⟩
   exact (((v8 (q9 hbel) hb1).setCell (by simp) _).setCell (by simp) _).setCell (by simp) _
end Go.Proofs.YtfkcaldjphakpabGreatDoor
