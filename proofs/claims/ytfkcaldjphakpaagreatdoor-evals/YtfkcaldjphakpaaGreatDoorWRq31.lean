/- The document's answer: a test: two sums. -/
import Derived.Test.YtfkcaldjphakpaaGreatDoorE19
namespace Go.Proofs.YtfkcaldjphakpaaGreatDoor
open Go.RowKit
theorem REnds.from {rb:Nat} {s:ByteArray} {w w2 w':World} {op m:Nat} {ns:List RN} {j lo lo':Nat} {r:Res} {e:Ending} (h:REnds rb s w2 op m ns j lo r e w') (hk:TKept rb w w2) (hl:lo'≤lo):REnds rb s w op m ns j lo' r e w':=by
 have h:=h.more (Nat.le_refl m) hl
 exact ⟨hk.trans h.1,h.2⟩
theorem REnds.ret {rb:Nat} {s:ByteArray} {w w':World} {op m:Nat} {ns:List RN} {j lo:Nat} {r:Res} {e:Ending} (h:REnds rb s w op m ns j lo r e w'):∃v,e=.returned v:=by
 cases r with
 | ok t st=>obtain ⟨_,_,rfl,_⟩:=h;exact ⟨_,rfl⟩
 | err en pl=>obtain ⟨_,_,rfl,_⟩:=h;exact ⟨_,rfl⟩
theorem qy2 (pl:Int) (r:Res):negR false pl r=r:=by cases r<;>rfl
structure T1 (rb:Nat) (s:ByteArray) (op m:Nat) (f:St→Res) (w:World) (st:St) (ns:List RN) (j:Nat) (l:Ast) (st1:St):Prop where
 hs:s.size≤200
 m1:200≤m
 m2:m≤900
 f1:RReads 320 rb s op m f
 es:qm1 320 rb s
 rt:RT w rb s ns j st
 op:st.op=op
 res:f st=.ok l st1
set_option maxHeartbeats 4000000 in
set_option maxRecDepth 100000 in
theorem rtest_cmp (rb:Nat) (s:ByteArray) (op m:Nat) (f:St→Res) (w:World) (st:St) (ns:List RN) (j:Nat) (l:Ast) (st1:St) (T:T1 rb s op m f w st ns j l st1) (hk:16≤st1.tk.kind∧st1.tk.kind≤21) :
  Calls Tryz.prog 294 #[.pointer (some ⟨rb,0,none⟩)] w (DEnds rb s w op (m+1) ns j st.place (qc2 s f st1 l)):=by
 obtain ⟨hs,hm,hm',hf,eS,h,ho,hres⟩:=T
 obtain ⟨k2,_⟩:=h.ct
 have hlt:=h.lt
 have HC:=v7 (hf w st ns j h ho)
 have HF:=v7 hf
 have ES:=v7 eS
 have HRES:=v7 hres
 obtain ⟨b0,hb0⟩:∃b:Bool,(opA l==0)=b:=⟨_,rfl⟩
 have HB0:=v7 hb0
 have hcmp:decide (16≤st1.tk.kind∧st1.tk.kind≤21)=true:=decide_eq_true hk
 have hnm:BS (qc6 (qu8 st1.tk.kind))=BS (tkS st1):=by rw [opName_of (.inr (.inr ⟨hk.1,by omega⟩)),vs2 (by omega)]
 have HNM:=v7 hnm
 clear hnm
 clear h hf eS hres hb0
 cases hres2:f (v6 s st1) with
 | ok r st2=>
  rw [qf8 hres2]
  have HRES2:=v7 hres2
  clear hres2
  rcases (show (rK st.tk.kind==2)=true∨(rK st.tk.kind==2)=false by cases (rK st.tk.kind==2)<;>simp) with q2|q2
  all_goals
   go_enter Tryz.func294,Tryz.ntmps294
   go_wp2_with (first|(go_at_call 320;refine (q9 HF _ (v6 s st1) (ns++new) (j+1) (q9 HR3) ho1).mono ?_;rintro e w4 ⟨hk4,h4⟩;rw [q9 HRES2] at h4;obtain ⟨new2,he,hr4,ho4,hp4,hfl2⟩:=h4;obtain ⟨i2,hi2⟩:∃k:Nat,(ns++new).length+new2.length - 1=k:=⟨_,rfl⟩;rw [hi2] at he;subst he;have HI2:=v7 hi2;have HFL2:=v7 hfl2;clear hi2 hfl2;have hv4:=(q9 HV3).kept hk4;have x1:w4.cell? ⟨w1.heap.size,1,none⟩=some (.int .i64 st1.place):=hv4.cell 1;have x3:w4.cell? ⟨w1.heap.size,3,none⟩=some (.string (BS (tkS st1))):=hv4.cell 3;have HK4:=v7 ((q9 HK3).trans hk4);have HR4:=v7 hr4;clear hk4 hr4 hv4)|(go_at_call 320;refine (q9 HC).mono ?_;rintro e w1 ⟨hk1,h1⟩;rw [q9 HRES] at h1;obtain ⟨new,he,hr1,ho1,hp1,hfl⟩:=h1;obtain ⟨i0,hi0⟩:∃k:Nat,ns.length+new.length - 1=k:=⟨_,rfl⟩;rw [hi0] at he;subst he;obtain ⟨gN,capN,LN,N,cN0,hLN,cN,hNm⟩:=hr1.opAt hfl hi0;rw [q9 HB0] at hNm;have c8:=hr1.c8;obtain ⟨t2,t3,t4,t5,t6⟩:=hr1.ct;have hlt1:=hr1.lt;have nL:¬rb=w1.heap.size:=(by omega);have nL':¬w1.heap.size=rb:=(by omega);have hgN:gN<w1.heap.size:=World.block_lt_of_cell? w1 _ cN;have HI0:=v7 hi0;have HR1:=v7 hr1;have HK1:=v7 hk1;have HFL:=v7 hfl;clear hk1 hr1 hfl hi0)|(go_at_call 321;refine (qb1 _ _ _ _ _ _).mono ?_;rintro e w2 ⟨rfl,hb2⟩;rw [qc5 st1,hcmp];have hv0:=VN.new (q9 HR1) 235 #[.int .i64 (rK st1.tk.kind),.int .i64 st1.place,.int .i64 (tkZ st1),.string (BS (tkS st1)),.int .i64 (tkN st1)] rfl;have hr0:=(q9 HR1).alloc (.cells #[.int .i64 (rK st1.tk.kind),.int .i64 st1.place,.int .i64 (tkZ st1),.string (BS (tkS st1)),.int .i64 (tkN st1)] 235);have hkb:=TKept.of_below hb2 hr0.lt;have hv2:=hv0.kept hkb;have hr2:=hr0.below hb2;have hk2:=((q9 HK1).alloc hlt (.cells #[.int .i64 (rK st1.tk.kind),.int .i64 st1.place,.int .i64 (tkZ st1),.string (BS (tkS st1)),.int .i64 (tkN st1)] 235)).trans hkb;have hlt2:=hr2.lt;have HV2:=v7 hv2;have HR2:=v7 hr2;have HK2:=v7 hk2;clear hb2 hv0 hr0 hkb hv2 hr2 hk2)|(go_at_call 172;refine (j7 (q9 HR2) hs (by omega) (by omega)).mono ?_;rintro e w3 ⟨rfl,hk3,hr3⟩;have hpp:=(q9 HR1).fine.step_place (by omega);have HV3:=v7 ((q9 HV2).kept hk3);have HK3:=v7 ((q9 HK2).trans hk3);have HR3:=v7 hr3;clear hk3 hr3)|(go_at_call 216;refine (qr9 (q9 HR4) hs ⟨qu8 st1.tk.kind,st1.place,0,[],[],[]⟩ i0 i2 (q9 HNM) rfl rfl rfl (by simp)).mono ?_;rintro e w5 ⟨rfl,hk5,hr5⟩;have HK5:=v7 ((q9 HK4).trans hk5);have HR5:=v7 hr5;clear hk5 hr5))
   go_ret
   refine ⟨q9 HK5,new++new2++[qi3 ⟨qu8 st1.tk.kind,st1.place,0,[],[],[]⟩ [ns.length+new.length - 1,ns.length+new.length+new2.length - 1] false],qf7 (by simp;omega), ?_,ho4,by omega,Flat.bin _ (q9 HFL) (by have:=q9 HFL2;rwa [List.length_append] at this)⟩
   have:=q9 HR5
   rw [←q9 HI0,←q9 HI2,List.length_append] at this
   simpa only [List.append_assoc] using this
 | err en pl=>
  rw [qe5 hres2]
  have HRES2:=v7 hres2
  clear hres2
  rcases (show (rK st.tk.kind==2)=true∨(rK st.tk.kind==2)=false by cases (rK st.tk.kind==2)<;>simp) with q2|q2
  all_goals
   go_enter Tryz.func294,Tryz.ntmps294
   go_wp2_with (first|(go_at_call 320;refine (q9 HF _ (v6 s st1) (ns++new) (j+1) (q9 HR3) ho1).mono ?_;rintro e w4 ⟨hk4,h4⟩;rw [q9 HRES2] at h4;obtain ⟨i2,rfl,hr4⟩:=h4;have hv4:=(q9 HV3).kept hk4;have x1:w4.cell? ⟨w1.heap.size,1,none⟩=some (.int .i64 st1.place):=hv4.cell 1;have x3:w4.cell? ⟨w1.heap.size,3,none⟩=some (.string (BS (tkS st1))):=hv4.cell 3;have HK4:=v7 ((q9 HK3).trans hk4);have HR4:=v7 hr4;clear hk4 hr4 hv4)|(go_at_call 320;refine (q9 HC).mono ?_;rintro e w1 ⟨hk1,h1⟩;rw [q9 HRES] at h1;obtain ⟨new,he,hr1,ho1,hp1,hfl⟩:=h1;obtain ⟨i0,hi0⟩:∃k:Nat,ns.length+new.length - 1=k:=⟨_,rfl⟩;rw [hi0] at he;subst he;obtain ⟨gN,capN,LN,N,cN0,hLN,cN,hNm⟩:=hr1.opAt hfl hi0;rw [q9 HB0] at hNm;have c8:=hr1.c8;obtain ⟨t2,t3,t4,t5,t6⟩:=hr1.ct;have hlt1:=hr1.lt;have nL:¬rb=w1.heap.size:=(by omega);have nL':¬w1.heap.size=rb:=(by omega);have hgN:gN<w1.heap.size:=World.block_lt_of_cell? w1 _ cN;have HI0:=v7 hi0;have HR1:=v7 hr1;have HK1:=v7 hk1;have HFL:=v7 hfl;clear hk1 hr1 hfl hi0)|(go_at_call 321;refine (qb1 _ _ _ _ _ _).mono ?_;rintro e w2 ⟨rfl,hb2⟩;rw [qc5 st1,hcmp];have hv0:=VN.new (q9 HR1) 235 #[.int .i64 (rK st1.tk.kind),.int .i64 st1.place,.int .i64 (tkZ st1),.string (BS (tkS st1)),.int .i64 (tkN st1)] rfl;have hr0:=(q9 HR1).alloc (.cells #[.int .i64 (rK st1.tk.kind),.int .i64 st1.place,.int .i64 (tkZ st1),.string (BS (tkS st1)),.int .i64 (tkN st1)] 235);have hkb:=TKept.of_below hb2 hr0.lt;have hv2:=hv0.kept hkb;have hr2:=hr0.below hb2;have hk2:=((q9 HK1).alloc hlt (.cells #[.int .i64 (rK st1.tk.kind),.int .i64 st1.place,.int .i64 (tkZ st1),.string (BS (tkS st1)),.int .i64 (tkN st1)] 235)).trans hkb;have hlt2:=hr2.lt;have HV2:=v7 hv2;have HR2:=v7 hr2;have HK2:=v7 hk2;clear hb2 hv0 hr0 hkb hv2 hr2 hk2)|(go_at_call 172;refine (j7 (q9 HR2) hs (by omega) (by omega)).mono ?_;rintro e w3 ⟨rfl,hk3,hr3⟩;have hpp:=(q9 HR1).fine.step_place (by omega);have HV3:=v7 ((q9 HV2).kept hk3);have HK3:=v7 ((q9 HK2).trans hk3);have HR3:=v7 hr3;clear hk3 hr3)|(go_at_call 216;refine (qn6 (q9 HR4) (by omega) (tkS st1) st1.place i0 i2 rfl (by simp)).mono ?_;rintro e w5 ⟨i5,rfl,hk5,hr5⟩;have HK5:=v7 ((q9 HK4).trans hk5);have HR5:=v7 hr5;clear hk5 hr5))
   go_ret
   exact ⟨q9 HK5,i5,rfl,.inl (q9 HR5)⟩
end Go.Proofs.YtfkcaldjphakpaaGreatDoor
