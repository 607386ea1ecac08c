/- The document's answer: a test: no keyword, or one without NOT. -/
import Derived.Test.YtfkcaldjphakpaaGreatDoorWRq31
set_option maxHeartbeats 4000000
set_option maxRecDepth 100000
namespace Go.Proofs.YtfkcaldjphakpaaGreatDoor
open Go.RowKit
theorem RT.rd {w:World} {rb:Nat} {s:ByteArray} {ns:List RN} {j:Nat} {st:St} (h:RT w rb s ns j st) (hk:st.tk.kind=11∨st.tk.kind=12) {op m lo:Nat} (ho:st.op=op) (hs:s.size≤200) (hm:200≤m) (hl:lo≤st.place):RD w rb s st.place op m lo:=by
 obtain ⟨nv,hT,hN,hF,hj⟩:=h
 have:=hF.place
 exact ⟨ns,nv,st,ho ▸ hT,hN,hk,rfl,by omega,hl,hF.place⟩
theorem jg3 (rb:Nat) (s:ByteArray) (op m:Nat) (f:St→Res) (w:World) (st:St) (ns:List RN) (j:Nat) (l:Ast) (st1:St) (T:T1 rb s op m f w st ns j l st1) (hb:qd8 st l=true) (hk14:st1.tk.kind=14) :
  Calls Tryz.prog 294 #[.pointer (some ⟨rb,0,none⟩)] w (DEnds rb s w op (m+1) ns j st.place (qd0 s l st1)):=by
 obtain ⟨hs,hm,hm',hf,eS,h,ho,hres⟩:=T
 obtain ⟨k2,_⟩:=h.ct
 have hlt:=h.lt
 have HC:=v7 (hf w st ns j h ho)
 have HF:=v7 hf
 have ES:=v7 eS
 have HRES:=v7 hres
 obtain ⟨b0,hb0⟩:∃b:Bool,(opA l==0)=b:=⟨_,rfl⟩
 have HB0:=v7 hb0
 have hcmp:decide (16≤st1.tk.kind∧st1.tk.kind≤21)=false:=decide_eq_false (by omega)
 have hbare:qd8 st l=(rK st.tk.kind==2&&b0):=by unfold qd8;rw [rK_2,hb0]
 rw [hbare,Bool.and_eq_true] at hb
 obtain ⟨q2,rfl⟩:=hb
 clear hbare
 have hi14:(rK st1.tk.kind==6&&((BS (tkS st1)).toList==(⟨#[73,83]⟩:ByteArray).toList))=true:=(isK (c:=14) rfl (by decide) (by decide) 6 rfl).trans (by rw [hk14];rfl)
 have HKc:=v7 hk14
 clear hk14
 clear h hf eS hres
 go_enter Tryz.func294,Tryz.ntmps294
 go_wp2_with (first|(go_at_call 320;refine (q9 HC).mono ?_;rintro e w1 ⟨hk1,h1⟩;rw [q9 HRES] at h1;obtain ⟨new,he,hr1,ho1,hp1,hfl⟩:=h1;obtain ⟨i0,hi0⟩:∃k:Nat,ns.length+new.length - 1=k:=⟨_,rfl⟩;rw [hi0] at he;subst he;obtain ⟨gN,capN,LN,N,cN0,hLN,cN,hNm⟩:=hr1.opAt hfl hi0;rw [q9 HB0] at hNm;have c8:=hr1.c8;obtain ⟨t2,t3,t4,t5,t6⟩:=hr1.ct;have hlt1:=hr1.lt;have nL:¬rb=w1.heap.size:=(by omega);have nL':¬w1.heap.size=rb:=(by omega);have hgN:gN<w1.heap.size:=World.block_lt_of_cell? w1 _ cN;have HI0:=v7 hi0;have HR1:=v7 hr1;have HK1:=v7 hk1;have HFL:=v7 hfl;clear hk1 hr1 hfl hi0)|(go_at_call 321;refine (qb1 _ _ _ _ _ _).mono ?_;rintro e w2 ⟨rfl,hb2⟩;rw [qc5 st1,hcmp];have hv0:=VN.new (q9 HR1) 235 #[.int .i64 (rK st1.tk.kind),.int .i64 st1.place,.int .i64 (tkZ st1),.string (BS (tkS st1)),.int .i64 (tkN st1)] rfl;have hr0:=(q9 HR1).alloc (.cells #[.int .i64 (rK st1.tk.kind),.int .i64 st1.place,.int .i64 (tkZ st1),.string (BS (tkS st1)),.int .i64 (tkN st1)] 235);have hkb:=TKept.of_below hb2 hr0.lt;have hv2:=hv0.kept hkb;have hr2:=hr0.below hb2;have hk2:=((q9 HK1).alloc hlt (.cells #[.int .i64 (rK st1.tk.kind),.int .i64 st1.place,.int .i64 (tkZ st1),.string (BS (tkS st1)),.int .i64 (tkN st1)] 235)).trans hkb;have hlt2:=hr2.lt;obtain ⟨_,u3,_⟩:=hr2.ct;have nM1:¬rb=w2.heap.size:=(by omega);have nM2:¬rb=w2.heap.size+1:=(by omega);have nM3:¬w2.heap.size=rb:=(by omega);have nM4:¬w2.heap.size+1=rb:=(by omega);have HR2:=v7 hr2;have HK2:=v7 hk2;clear hb2 hv0 hr0 hkb hv2 hr2 hk2)|(go_at_call 215;(first|refine (qg2 (q9 HR2)).mono ?_|refine (qg2 (((q9 HR2).alloc _).alloc _)).mono ?_);rintro e w' ⟨rfl,hw'⟩;subst w';simp only [hi14])|(go_at_call 322;refine (rnull_any rb s hs op (m+1) (by omega) _ st1 ns new j l (q9 HR2) ho1 (q9 HKc) (q9 HFL) i0 (q9 HI0).symm).mono ?_;rintro e w5 h5;obtain ⟨v5,rfl⟩:=h5.ret;have H5:=v7 h5;clear h5))
 go_ret
 exact ((q9 H5).from (q9 HK2) hp1).d
theorem vx4 (rb:Nat) (s:ByteArray) (op m:Nat) (f:St→Res) (w:World) (st:St) (ns:List RN) (j:Nat) (l:Ast) (st1:St) (T:T1 rb s op m f w st ns j l st1) (hk:st1.tk.kind≠7∧st1.tk.kind≠10∧st1.tk.kind≠11∧st1.tk.kind≠12∧st1.tk.kind≠14∧¬(16≤st1.tk.kind∧st1.tk.kind≤21)) :
  Calls Tryz.prog 294 #[.pointer (some ⟨rb,0,none⟩)] w (DEnds rb s w op (m+1) ns j st.place (.ok l st1)):=by
 obtain ⟨hs,hm,hm',hf,eS,h,ho,hres⟩:=T
 obtain ⟨k2,_⟩:=h.ct
 have hlt:=h.lt
 have HC:=v7 (hf w st ns j h ho)
 have HF:=v7 hf
 have ES:=v7 eS
 have HRES:=v7 hres
 obtain ⟨b0,hb0⟩:∃b:Bool,(opA l==0)=b:=⟨_,rfl⟩
 have HB0:=v7 hb0
 have hcmp:decide (16≤st1.tk.kind∧st1.tk.kind≤21)=false:=decide_eq_false (by omega)
 have hi14:(rK st1.tk.kind==6&&((BS (tkS st1)).toList==(⟨#[73,83]⟩:ByteArray).toList))=false:=(isK (c:=14) rfl (by decide) (by decide) 6 rfl).trans (beq_eq_false_iff_ne.2 (by omega))
 have hi7:(rK st1.tk.kind==6&&((BS (tkS st1)).toList==(⟨#[78,79,84]⟩:ByteArray).toList))=false:=(isK (c:=7) rfl (by decide) (by decide) 6 rfl).trans (beq_eq_false_iff_ne.2 (by omega))
 have hi10:(rK st1.tk.kind==6&&((BS (tkS st1)).toList==(⟨#[66,69,84,87,69,69,78]⟩:ByteArray).toList))=false:=(isK (c:=10) rfl (by decide) (by decide) 6 rfl).trans (beq_eq_false_iff_ne.2 (by omega))
 have hi11:(rK st1.tk.kind==6&&((BS (tkS st1)).toList==(⟨#[73,78]⟩:ByteArray).toList))=false:=(isK (c:=11) rfl (by decide) (by decide) 6 rfl).trans (beq_eq_false_iff_ne.2 (by omega))
 have hi12:(rK st1.tk.kind==6&&((BS (tkS st1)).toList==(⟨#[76,73,75,69]⟩:ByteArray).toList))=false:=(isK (c:=12) rfl (by decide) (by decide) 6 rfl).trans (beq_eq_false_iff_ne.2 (by omega))
 clear h hf eS hres
 rcases (show (rK st.tk.kind==2)=false∨((rK st.tk.kind==2)=true∧b0=false)∨((rK st.tk.kind==2)=true∧b0=true) by cases (rK st.tk.kind==2)<;>cases b0<;>simp) with q2|⟨q2,rfl⟩|⟨q2,rfl⟩
 all_goals
  go_enter Tryz.func294,Tryz.ntmps294
  go_wp2_with (first|(go_at_call 320;refine (q9 HC).mono ?_;rintro e w1 ⟨hk1,h1⟩;rw [q9 HRES] at h1;obtain ⟨new,he,hr1,ho1,hp1,hfl⟩:=h1;obtain ⟨i0,hi0⟩:∃k:Nat,ns.length+new.length - 1=k:=⟨_,rfl⟩;rw [hi0] at he;subst he;obtain ⟨gN,capN,LN,N,cN0,hLN,cN,hNm⟩:=hr1.opAt hfl hi0;rw [q9 HB0] at hNm;have c8:=hr1.c8;obtain ⟨t2,t3,t4,t5,t6⟩:=hr1.ct;have hlt1:=hr1.lt;have nL:¬rb=w1.heap.size:=(by omega);have nL':¬w1.heap.size=rb:=(by omega);have hgN:gN<w1.heap.size:=World.block_lt_of_cell? w1 _ cN;have HI0:=v7 hi0;have HR1:=v7 hr1;have HK1:=v7 hk1;have HFL:=v7 hfl;clear hk1 hr1 hfl hi0)|(go_at_call 321;refine (qb1 _ _ _ _ _ _).mono ?_;rintro e w2 ⟨rfl,hb2⟩;rw [qc5 st1,hcmp];have hv0:=VN.new (q9 HR1) 235 #[.int .i64 (rK st1.tk.kind),.int .i64 st1.place,.int .i64 (tkZ st1),.string (BS (tkS st1)),.int .i64 (tkN st1)] rfl;have hr0:=(q9 HR1).alloc (.cells #[.int .i64 (rK st1.tk.kind),.int .i64 st1.place,.int .i64 (tkZ st1),.string (BS (tkS st1)),.int .i64 (tkN st1)] 235);have hkb:=TKept.of_below hb2 hr0.lt;have hv2:=hv0.kept hkb;have hr2:=hr0.below hb2;have hk2:=((q9 HK1).alloc hlt (.cells #[.int .i64 (rK st1.tk.kind),.int .i64 st1.place,.int .i64 (tkZ st1),.string (BS (tkS st1)),.int .i64 (tkN st1)] 235)).trans hkb;have hlt2:=hr2.lt;obtain ⟨_,u3,_⟩:=hr2.ct;have nM1:¬rb=w2.heap.size:=(by omega);have nM2:¬rb=w2.heap.size+1:=(by omega);have nM3:¬w2.heap.size=rb:=(by omega);have nM4:¬w2.heap.size+1=rb:=(by omega);have HR2:=v7 hr2;have HK2:=v7 hk2;clear hb2 hv0 hr0 hkb hv2 hr2 hk2)|(go_at_call 215;(first|refine (qg2 (q9 HR2)).mono ?_|refine (qg2 (((q9 HR2).alloc _).alloc _)).mono ?_);rintro e w' ⟨rfl,hw'⟩;subst w';simp only [hi14,hi7,hi10,hi11,hi12]))
  go_ret
  exact ⟨(((q9 HK2).alloc hlt _).alloc hlt _),new,qf7 (by rw [q9 HI0]),((q9 HR2).alloc _).alloc _,ho1,hp1,q9 HFL⟩
theorem rtest_is (rb:Nat) (s:ByteArray) (op m:Nat) (f:St→Res) (w:World) (st:St) (ns:List RN) (j:Nat) (l:Ast) (st1:St) (T:T1 rb s op m f w st ns j l st1) (hb:qd8 st l=false) (hk14:st1.tk.kind=14) :
  Calls Tryz.prog 294 #[.pointer (some ⟨rb,0,none⟩)] w (DEnds rb s w op (m+1) ns j st.place (.ok l st1)):=by
 obtain ⟨hs,hm,hm',hf,eS,h,ho,hres⟩:=T
 obtain ⟨k2,_⟩:=h.ct
 have hlt:=h.lt
 have HC:=v7 (hf w st ns j h ho)
 have HF:=v7 hf
 have ES:=v7 eS
 have HRES:=v7 hres
 obtain ⟨b0,hb0⟩:∃b:Bool,(opA l==0)=b:=⟨_,rfl⟩
 have HB0:=v7 hb0
 have hcmp:decide (16≤st1.tk.kind∧st1.tk.kind≤21)=false:=decide_eq_false (by omega)
 have hbare:qd8 st l=(rK st.tk.kind==2&&b0):=by unfold qd8;rw [rK_2,hb0]
 rw [hbare] at hb
 clear hbare
 have hi14:(rK st1.tk.kind==6&&((BS (tkS st1)).toList==(⟨#[73,83]⟩:ByteArray).toList))=true:=(isK (c:=14) rfl (by decide) (by decide) 6 rfl).trans (by rw [hk14];rfl)
 have hi7:(rK st1.tk.kind==6&&((BS (tkS st1)).toList==(⟨#[78,79,84]⟩:ByteArray).toList))=false:=(isK (c:=7) rfl (by decide) (by decide) 6 rfl).trans (beq_eq_false_iff_ne.2 (by omega))
 have hi10:(rK st1.tk.kind==6&&((BS (tkS st1)).toList==(⟨#[66,69,84,87,69,69,78]⟩:ByteArray).toList))=false:=(isK (c:=10) rfl (by decide) (by decide) 6 rfl).trans (beq_eq_false_iff_ne.2 (by omega))
 have hi11:(rK st1.tk.kind==6&&((BS (tkS st1)).toList==(⟨#[73,78]⟩:ByteArray).toList))=false:=(isK (c:=11) rfl (by decide) (by decide) 6 rfl).trans (beq_eq_false_iff_ne.2 (by omega))
 have hi12:(rK st1.tk.kind==6&&((BS (tkS st1)).toList==(⟨#[76,73,75,69]⟩:ByteArray).toList))=false:=(isK (c:=12) rfl (by decide) (by decide) 6 rfl).trans (beq_eq_false_iff_ne.2 (by omega))
 have HKc:=v7 hk14
 clear hk14
 clear h hf eS hres
 rcases (show (rK st.tk.kind==2)=false∨((rK st.tk.kind==2)=true∧b0=false) by revert hb;cases (rK st.tk.kind==2)<;>cases b0<;>simp) with q2|⟨q2,rfl⟩
 all_goals
  go_enter Tryz.func294,Tryz.ntmps294
  go_wp2_with (first|(go_at_call 320;refine (q9 HC).mono ?_;rintro e w1 ⟨hk1,h1⟩;rw [q9 HRES] at h1;obtain ⟨new,he,hr1,ho1,hp1,hfl⟩:=h1;obtain ⟨i0,hi0⟩:∃k:Nat,ns.length+new.length - 1=k:=⟨_,rfl⟩;rw [hi0] at he;subst he;obtain ⟨gN,capN,LN,N,cN0,hLN,cN,hNm⟩:=hr1.opAt hfl hi0;rw [q9 HB0] at hNm;have c8:=hr1.c8;obtain ⟨t2,t3,t4,t5,t6⟩:=hr1.ct;have hlt1:=hr1.lt;have nL:¬rb=w1.heap.size:=(by omega);have nL':¬w1.heap.size=rb:=(by omega);have hgN:gN<w1.heap.size:=World.block_lt_of_cell? w1 _ cN;have HI0:=v7 hi0;have HR1:=v7 hr1;have HK1:=v7 hk1;have HFL:=v7 hfl;clear hk1 hr1 hfl hi0)|(go_at_call 321;refine (qb1 _ _ _ _ _ _).mono ?_;rintro e w2 ⟨rfl,hb2⟩;rw [qc5 st1,hcmp];have hv0:=VN.new (q9 HR1) 235 #[.int .i64 (rK st1.tk.kind),.int .i64 st1.place,.int .i64 (tkZ st1),.string (BS (tkS st1)),.int .i64 (tkN st1)] rfl;have hr0:=(q9 HR1).alloc (.cells #[.int .i64 (rK st1.tk.kind),.int .i64 st1.place,.int .i64 (tkZ st1),.string (BS (tkS st1)),.int .i64 (tkN st1)] 235);have hkb:=TKept.of_below hb2 hr0.lt;have hv2:=hv0.kept hkb;have hr2:=hr0.below hb2;have hk2:=((q9 HK1).alloc hlt (.cells #[.int .i64 (rK st1.tk.kind),.int .i64 st1.place,.int .i64 (tkZ st1),.string (BS (tkS st1)),.int .i64 (tkN st1)] 235)).trans hkb;have hlt2:=hr2.lt;obtain ⟨_,u3,_⟩:=hr2.ct;have nM1:¬rb=w2.heap.size:=(by omega);have nM2:¬rb=w2.heap.size+1:=(by omega);have nM3:¬w2.heap.size=rb:=(by omega);have nM4:¬w2.heap.size+1=rb:=(by omega);have HR2:=v7 hr2;have HK2:=v7 hk2;clear hb2 hv0 hr0 hkb hv2 hr2 hk2)|(go_at_call 215;(first|refine (qg2 (q9 HR2)).mono ?_|refine (qg2 (((q9 HR2).alloc _).alloc _)).mono ?_);rintro e w' ⟨rfl,hw'⟩;subst w';simp only [hi14,hi7,hi10,hi11,hi12]))
  go_ret
  exact ⟨(((q9 HK2).alloc hlt _).alloc hlt _),new,qf7 (by rw [q9 HI0]),((q9 HR2).alloc _).alloc _,ho1,hp1,q9 HFL⟩
theorem vj6 (rb:Nat) (s:ByteArray) (op m:Nat) (f:St→Res) (w:World) (st:St) (ns:List RN) (j:Nat) (l:Ast) (st1:St) (T:T1 rb s op m f w st ns j l st1) (hk10:st1.tk.kind=10) :
  Calls Tryz.prog 294 #[.pointer (some ⟨rb,0,none⟩)] w (DEnds rb s w op (m+1) ns j st.place (qa0 s f l st1)):=by
 obtain ⟨hs,hm,hm',hf,eS,h,ho,hres⟩:=T
 obtain ⟨k2,_⟩:=h.ct
 have hlt:=h.lt
 have HC:=v7 (hf w st ns j h ho)
 have HF:=v7 hf
 have ES:=v7 eS
 have HRES:=v7 hres
 obtain ⟨b0,hb0⟩:∃b:Bool,(opA l==0)=b:=⟨_,rfl⟩
 have HB0:=v7 hb0
 have hcmp:decide (16≤st1.tk.kind∧st1.tk.kind≤21)=false:=decide_eq_false (by omega)
 have hi14:(rK st1.tk.kind==6&&((BS (tkS st1)).toList==(⟨#[73,83]⟩:ByteArray).toList))=false:=(isK (c:=14) rfl (by decide) (by decide) 6 rfl).trans (beq_eq_false_iff_ne.2 (by omega))
 have hi7:(rK st1.tk.kind==6&&((BS (tkS st1)).toList==(⟨#[78,79,84]⟩:ByteArray).toList))=false:=(isK (c:=7) rfl (by decide) (by decide) 6 rfl).trans (beq_eq_false_iff_ne.2 (by omega))
 have hi10:(rK st1.tk.kind==6&&((BS (tkS st1)).toList==(⟨#[66,69,84,87,69,69,78]⟩:ByteArray).toList))=true:=(isK (c:=10) rfl (by decide) (by decide) 6 rfl).trans (by rw [hk10];rfl)
 have hi11:(rK st1.tk.kind==6&&((BS (tkS st1)).toList==(⟨#[73,78]⟩:ByteArray).toList))=false:=(isK (c:=11) rfl (by decide) (by decide) 6 rfl).trans (beq_eq_false_iff_ne.2 (by omega))
 have hi12:(rK st1.tk.kind==6&&((BS (tkS st1)).toList==(⟨#[76,73,75,69]⟩:ByteArray).toList))=false:=(isK (c:=12) rfl (by decide) (by decide) 6 rfl).trans (beq_eq_false_iff_ne.2 (by omega))
 have HKc:=v7 hk10
 clear hk10
 clear h hf eS hres
 rcases (show (rK st.tk.kind==2)=false∨((rK st.tk.kind==2)=true∧b0=false)∨((rK st.tk.kind==2)=true∧b0=true) by cases (rK st.tk.kind==2)<;>cases b0<;>simp) with q2|⟨q2,rfl⟩|⟨q2,rfl⟩
 all_goals
  go_enter Tryz.func294,Tryz.ntmps294
  go_wp2_with (first|(go_at_call 320;refine (q9 HC).mono ?_;rintro e w1 ⟨hk1,h1⟩;rw [q9 HRES] at h1;obtain ⟨new,he,hr1,ho1,hp1,hfl⟩:=h1;obtain ⟨i0,hi0⟩:∃k:Nat,ns.length+new.length - 1=k:=⟨_,rfl⟩;rw [hi0] at he;subst he;obtain ⟨gN,capN,LN,N,cN0,hLN,cN,hNm⟩:=hr1.opAt hfl hi0;rw [q9 HB0] at hNm;have c8:=hr1.c8;obtain ⟨t2,t3,t4,t5,t6⟩:=hr1.ct;have hlt1:=hr1.lt;have nL:¬rb=w1.heap.size:=(by omega);have nL':¬w1.heap.size=rb:=(by omega);have hgN:gN<w1.heap.size:=World.block_lt_of_cell? w1 _ cN;have HI0:=v7 hi0;have HR1:=v7 hr1;have HK1:=v7 hk1;have HFL:=v7 hfl;clear hk1 hr1 hfl hi0)|(go_at_call 321;refine (qb1 _ _ _ _ _ _).mono ?_;rintro e w2 ⟨rfl,hb2⟩;rw [qc5 st1,hcmp];have hv0:=VN.new (q9 HR1) 235 #[.int .i64 (rK st1.tk.kind),.int .i64 st1.place,.int .i64 (tkZ st1),.string (BS (tkS st1)),.int .i64 (tkN st1)] rfl;have hr0:=(q9 HR1).alloc (.cells #[.int .i64 (rK st1.tk.kind),.int .i64 st1.place,.int .i64 (tkZ st1),.string (BS (tkS st1)),.int .i64 (tkN st1)] 235);have hkb:=TKept.of_below hb2 hr0.lt;have hv2:=hv0.kept hkb;have hr2:=hr0.below hb2;have hk2:=((q9 HK1).alloc hlt (.cells #[.int .i64 (rK st1.tk.kind),.int .i64 st1.place,.int .i64 (tkZ st1),.string (BS (tkS st1)),.int .i64 (tkN st1)] 235)).trans hkb;have hlt2:=hr2.lt;obtain ⟨_,u3,_⟩:=hr2.ct;have nM1:¬rb=w2.heap.size:=(by omega);have nM2:¬rb=w2.heap.size+1:=(by omega);have nM3:¬w2.heap.size=rb:=(by omega);have nM4:¬w2.heap.size+1=rb:=(by omega);have HR2:=v7 hr2;have HK2:=v7 hk2;clear hb2 hv0 hr0 hkb hv2 hr2 hk2)|(go_at_call 215;(first|refine (qg2 (q9 HR2)).mono ?_|refine (qg2 (((q9 HR2).alloc _).alloc _)).mono ?_);rintro e w' ⟨rfl,hw'⟩;subst w';simp only [hi14,hi7,hi10,hi11,hi12])|(go_at_call 323;refine (qz8 rb s hs op m hm hm' f (q9 HF) (q9 ES) _ st1 ns new j l (((q9 HR2).alloc _).alloc _) ho1 (q9 HKc) (q9 HFL) i0 (q9 HI0).symm w2.heap.size ((VN.new (q9 HR2) 3 #[.int .i64 i0] rfl).alloc (by simp;omega) _) false 0).mono ?_;rintro e w5 h5;obtain ⟨v5,rfl⟩:=h5.ret;have H5:=v7 h5;clear h5))
  go_ret
  have:=q9 H5
  rw [qy2] at this
  exact (this.from (((q9 HK2).alloc hlt _).alloc hlt _) hp1).d
theorem rtest_in (rb:Nat) (s:ByteArray) (op m:Nat) (f:St→Res) (w:World) (st:St) (ns:List RN) (j:Nat) (l:Ast) (st1:St) (T:T1 rb s op m f w st ns j l st1) (hb:qd8 st l=true) (hk11:st1.tk.kind=11) :
  Calls Tryz.prog 294 #[.pointer (some ⟨rb,0,none⟩)] w (DEnds rb s w op (m+1) ns j st.place (qh7 s l st1)):=by
 obtain ⟨hs,hm,hm',hf,eS,h,ho,hres⟩:=T
 obtain ⟨k2,_⟩:=h.ct
 have hlt:=h.lt
 have HC:=v7 (hf w st ns j h ho)
 have HF:=v7 hf
 have ES:=v7 eS
 have HRES:=v7 hres
 obtain ⟨b0,hb0⟩:∃b:Bool,(opA l==0)=b:=⟨_,rfl⟩
 have HB0:=v7 hb0
 have hcmp:decide (16≤st1.tk.kind∧st1.tk.kind≤21)=false:=decide_eq_false (by omega)
 have hbare:qd8 st l=(rK st.tk.kind==2&&b0):=by unfold qd8;rw [rK_2,hb0]
 rw [hbare,Bool.and_eq_true] at hb
 obtain ⟨q2,rfl⟩:=hb
 clear hbare
 have hi14:(rK st1.tk.kind==6&&((BS (tkS st1)).toList==(⟨#[73,83]⟩:ByteArray).toList))=false:=(isK (c:=14) rfl (by decide) (by decide) 6 rfl).trans (beq_eq_false_iff_ne.2 (by omega))
 have hi7:(rK st1.tk.kind==6&&((BS (tkS st1)).toList==(⟨#[78,79,84]⟩:ByteArray).toList))=false:=(isK (c:=7) rfl (by decide) (by decide) 6 rfl).trans (beq_eq_false_iff_ne.2 (by omega))
 have hi10:(rK st1.tk.kind==6&&((BS (tkS st1)).toList==(⟨#[66,69,84,87,69,69,78]⟩:ByteArray).toList))=false:=(isK (c:=10) rfl (by decide) (by decide) 6 rfl).trans (beq_eq_false_iff_ne.2 (by omega))
 have hi11:(rK st1.tk.kind==6&&((BS (tkS st1)).toList==(⟨#[73,78]⟩:ByteArray).toList))=true:=(isK (c:=11) rfl (by decide) (by decide) 6 rfl).trans (by rw [hk11];rfl)
 have hi12:(rK st1.tk.kind==6&&((BS (tkS st1)).toList==(⟨#[76,73,75,69]⟩:ByteArray).toList))=false:=(isK (c:=12) rfl (by decide) (by decide) 6 rfl).trans (beq_eq_false_iff_ne.2 (by omega))
 have HKc:=v7 hk11
 clear hk11
 clear h hf eS hres
 go_enter Tryz.func294,Tryz.ntmps294
 go_wp2_with (first|(go_at_call 320;refine (q9 HC).mono ?_;rintro e w1 ⟨hk1,h1⟩;rw [q9 HRES] at h1;obtain ⟨new,he,hr1,ho1,hp1,hfl⟩:=h1;obtain ⟨i0,hi0⟩:∃k:Nat,ns.length+new.length - 1=k:=⟨_,rfl⟩;rw [hi0] at he;subst he;obtain ⟨gN,capN,LN,N,cN0,hLN,cN,hNm⟩:=hr1.opAt hfl hi0;rw [q9 HB0] at hNm;have c8:=hr1.c8;obtain ⟨t2,t3,t4,t5,t6⟩:=hr1.ct;have hlt1:=hr1.lt;have nL:¬rb=w1.heap.size:=(by omega);have nL':¬w1.heap.size=rb:=(by omega);have hgN:gN<w1.heap.size:=World.block_lt_of_cell? w1 _ cN;have HI0:=v7 hi0;have HR1:=v7 hr1;have HK1:=v7 hk1;have HFL:=v7 hfl;clear hk1 hr1 hfl hi0)|(go_at_call 321;refine (qb1 _ _ _ _ _ _).mono ?_;rintro e w2 ⟨rfl,hb2⟩;rw [qc5 st1,hcmp];have hv0:=VN.new (q9 HR1) 235 #[.int .i64 (rK st1.tk.kind),.int .i64 st1.place,.int .i64 (tkZ st1),.string (BS (tkS st1)),.int .i64 (tkN st1)] rfl;have hr0:=(q9 HR1).alloc (.cells #[.int .i64 (rK st1.tk.kind),.int .i64 st1.place,.int .i64 (tkZ st1),.string (BS (tkS st1)),.int .i64 (tkN st1)] 235);have hkb:=TKept.of_below hb2 hr0.lt;have hv2:=hv0.kept hkb;have hr2:=hr0.below hb2;have hk2:=((q9 HK1).alloc hlt (.cells #[.int .i64 (rK st1.tk.kind),.int .i64 st1.place,.int .i64 (tkZ st1),.string (BS (tkS st1)),.int .i64 (tkN st1)] 235)).trans hkb;have hlt2:=hr2.lt;obtain ⟨_,u3,_⟩:=hr2.ct;have nM1:¬rb=w2.heap.size:=(by omega);have nM2:¬rb=w2.heap.size+1:=(by omega);have nM3:¬w2.heap.size=rb:=(by omega);have nM4:¬w2.heap.size+1=rb:=(by omega);have HR2:=v7 hr2;have HK2:=v7 hk2;clear hb2 hv0 hr0 hkb hv2 hr2 hk2)|(go_at_call 215;(first|refine (qg2 (q9 HR2)).mono ?_|refine (qg2 (((q9 HR2).alloc _).alloc _)).mono ?_);rintro e w' ⟨rfl,hw'⟩;subst w';simp only [hi14,hi7,hi10,hi11,hi12])|(go_at_call 324;refine (vf1 rb s hs op (m+1) (by omega) _ st1 ns new j l (((q9 HR2).alloc _).alloc _) ho1 (q9 HKc) (q9 HFL) i0 (q9 HI0).symm w2.heap.size ((VN.new (q9 HR2) 3 #[.int .i64 i0] rfl).alloc (by simp;omega) _) false 0).mono ?_;rintro e w5 h5;obtain ⟨v5,rfl⟩:=h5.ret;have H5:=v7 h5;clear h5))
 go_ret
 have:=q9 H5
 rw [qy2] at this
 exact (this.from (((q9 HK2).alloc hlt _).alloc hlt _) hp1).d
theorem jg2 (rb:Nat) (s:ByteArray) (op m:Nat) (f:St→Res) (w:World) (st:St) (ns:List RN) (j:Nat) (l:Ast) (st1:St) (T:T1 rb s op m f w st ns j l st1) (hb:qd8 st l=true) (hk12:st1.tk.kind=12) :
  Calls Tryz.prog 294 #[.pointer (some ⟨rb,0,none⟩)] w (DEnds rb s w op (m+1) ns j st.place (qa9 s l st1)):=by
 obtain ⟨hs,hm,hm',hf,eS,h,ho,hres⟩:=T
 obtain ⟨k2,_⟩:=h.ct
 have hlt:=h.lt
 have HC:=v7 (hf w st ns j h ho)
 have HF:=v7 hf
 have ES:=v7 eS
 have HRES:=v7 hres
 obtain ⟨b0,hb0⟩:∃b:Bool,(opA l==0)=b:=⟨_,rfl⟩
 have HB0:=v7 hb0
 have hcmp:decide (16≤st1.tk.kind∧st1.tk.kind≤21)=false:=decide_eq_false (by omega)
 have hbare:qd8 st l=(rK st.tk.kind==2&&b0):=by unfold qd8;rw [rK_2,hb0]
 rw [hbare,Bool.and_eq_true] at hb
 obtain ⟨q2,rfl⟩:=hb
 clear hbare
 have hi14:(rK st1.tk.kind==6&&((BS (tkS st1)).toList==(⟨#[73,83]⟩:ByteArray).toList))=false:=(isK (c:=14) rfl (by decide) (by decide) 6 rfl).trans (beq_eq_false_iff_ne.2 (by omega))
 have hi7:(rK st1.tk.kind==6&&((BS (tkS st1)).toList==(⟨#[78,79,84]⟩:ByteArray).toList))=false:=(isK (c:=7) rfl (by decide) (by decide) 6 rfl).trans (beq_eq_false_iff_ne.2 (by omega))
 have hi10:(rK st1.tk.kind==6&&((BS (tkS st1)).toList==(⟨#[66,69,84,87,69,69,78]⟩:ByteArray).toList))=false:=(isK (c:=10) rfl (by decide) (by decide) 6 rfl).trans (beq_eq_false_iff_ne.2 (by omega))
 have hi11:(rK st1.tk.kind==6&&((BS (tkS st1)).toList==(⟨#[73,78]⟩:ByteArray).toList))=false:=(isK (c:=11) rfl (by decide) (by decide) 6 rfl).trans (beq_eq_false_iff_ne.2 (by omega))
 have hi12:(rK st1.tk.kind==6&&((BS (tkS st1)).toList==(⟨#[76,73,75,69]⟩:ByteArray).toList))=true:=(isK (c:=12) rfl (by decide) (by decide) 6 rfl).trans (by rw [hk12];rfl)
 have HKc:=v7 hk12
 clear hk12
 clear h hf eS hres
 go_enter Tryz.func294,Tryz.ntmps294
 go_wp2_with (first|(go_at_call 320;refine (q9 HC).mono ?_;rintro e w1 ⟨hk1,h1⟩;rw [q9 HRES] at h1;obtain ⟨new,he,hr1,ho1,hp1,hfl⟩:=h1;obtain ⟨i0,hi0⟩:∃k:Nat,ns.length+new.length - 1=k:=⟨_,rfl⟩;rw [hi0] at he;subst he;obtain ⟨gN,capN,LN,N,cN0,hLN,cN,hNm⟩:=hr1.opAt hfl hi0;rw [q9 HB0] at hNm;have c8:=hr1.c8;obtain ⟨t2,t3,t4,t5,t6⟩:=hr1.ct;have hlt1:=hr1.lt;have nL:¬rb=w1.heap.size:=(by omega);have nL':¬w1.heap.size=rb:=(by omega);have hgN:gN<w1.heap.size:=World.block_lt_of_cell? w1 _ cN;have HI0:=v7 hi0;have HR1:=v7 hr1;have HK1:=v7 hk1;have HFL:=v7 hfl;clear hk1 hr1 hfl hi0)|(go_at_call 321;refine (qb1 _ _ _ _ _ _).mono ?_;rintro e w2 ⟨rfl,hb2⟩;rw [qc5 st1,hcmp];have hv0:=VN.new (q9 HR1) 235 #[.int .i64 (rK st1.tk.kind),.int .i64 st1.place,.int .i64 (tkZ st1),.string (BS (tkS st1)),.int .i64 (tkN st1)] rfl;have hr0:=(q9 HR1).alloc (.cells #[.int .i64 (rK st1.tk.kind),.int .i64 st1.place,.int .i64 (tkZ st1),.string (BS (tkS st1)),.int .i64 (tkN st1)] 235);have hkb:=TKept.of_below hb2 hr0.lt;have hv2:=hv0.kept hkb;have hr2:=hr0.below hb2;have hk2:=((q9 HK1).alloc hlt (.cells #[.int .i64 (rK st1.tk.kind),.int .i64 st1.place,.int .i64 (tkZ st1),.string (BS (tkS st1)),.int .i64 (tkN st1)] 235)).trans hkb;have hlt2:=hr2.lt;obtain ⟨_,u3,_⟩:=hr2.ct;have nM1:¬rb=w2.heap.size:=(by omega);have nM2:¬rb=w2.heap.size+1:=(by omega);have nM3:¬w2.heap.size=rb:=(by omega);have nM4:¬w2.heap.size+1=rb:=(by omega);have HR2:=v7 hr2;have HK2:=v7 hk2;clear hb2 hv0 hr0 hkb hv2 hr2 hk2)|(go_at_call 215;(first|refine (qg2 (q9 HR2)).mono ?_|refine (qg2 (((q9 HR2).alloc _).alloc _)).mono ?_);rintro e w' ⟨rfl,hw'⟩;subst w';simp only [hi14,hi7,hi10,hi11,hi12])|(go_at_call 325;refine (vq7 rb s hs op (m+1) (by omega) _ st1 ns new j l (((q9 HR2).alloc _).alloc _) ho1 (q9 HKc) (q9 HFL) i0 (q9 HI0).symm w2.heap.size ((VN.new (q9 HR2) 3 #[.int .i64 i0] rfl).alloc (by simp;omega) _) false 0).mono ?_;rintro e w5 h5;obtain ⟨v5,rfl⟩:=h5.ret;have H5:=v7 h5;clear h5))
 go_ret
 have:=q9 H5
 rw [qy2] at this
 exact (this.from (((q9 HK2).alloc hlt _).alloc hlt _) hp1).d
theorem vr3 (rb:Nat) (s:ByteArray) (op m:Nat) (f:St→Res) (w:World) (st:St) (ns:List RN) (j:Nat) (l:Ast) (st1:St) (T:T1 rb s op m f w st ns j l st1) (hb:qd8 st l=false) (hk11:st1.tk.kind=11) :
  Calls Tryz.prog 294 #[.pointer (some ⟨rb,0,none⟩)] w (DEnds rb s w op (m+1) ns j st.place (.err 2 st1.place)):=by
 obtain ⟨hs,hm,hm',hf,eS,h,ho,hres⟩:=T
 obtain ⟨k2,_⟩:=h.ct
 have hlt:=h.lt
 have HC:=v7 (hf w st ns j h ho)
 have HF:=v7 hf
 have ES:=v7 eS
 have HRES:=v7 hres
 obtain ⟨b0,hb0⟩:∃b:Bool,(opA l==0)=b:=⟨_,rfl⟩
 have HB0:=v7 hb0
 have hcmp:decide (16≤st1.tk.kind∧st1.tk.kind≤21)=false:=decide_eq_false (by omega)
 have hbare:qd8 st l=(rK st.tk.kind==2&&b0):=by unfold qd8;rw [rK_2,hb0]
 rw [hbare] at hb
 clear hbare
 have hi14:(rK st1.tk.kind==6&&((BS (tkS st1)).toList==(⟨#[73,83]⟩:ByteArray).toList))=false:=(isK (c:=14) rfl (by decide) (by decide) 6 rfl).trans (beq_eq_false_iff_ne.2 (by omega))
 have hi7:(rK st1.tk.kind==6&&((BS (tkS st1)).toList==(⟨#[78,79,84]⟩:ByteArray).toList))=false:=(isK (c:=7) rfl (by decide) (by decide) 6 rfl).trans (beq_eq_false_iff_ne.2 (by omega))
 have hi10:(rK st1.tk.kind==6&&((BS (tkS st1)).toList==(⟨#[66,69,84,87,69,69,78]⟩:ByteArray).toList))=false:=(isK (c:=10) rfl (by decide) (by decide) 6 rfl).trans (beq_eq_false_iff_ne.2 (by omega))
 have hi11:(rK st1.tk.kind==6&&((BS (tkS st1)).toList==(⟨#[73,78]⟩:ByteArray).toList))=true:=(isK (c:=11) rfl (by decide) (by decide) 6 rfl).trans (by rw [hk11];rfl)
 have hi12:(rK st1.tk.kind==6&&((BS (tkS st1)).toList==(⟨#[76,73,75,69]⟩:ByteArray).toList))=false:=(isK (c:=12) rfl (by decide) (by decide) 6 rfl).trans (beq_eq_false_iff_ne.2 (by omega))
 have HKc:=v7 hk11
 clear hk11
 clear h hf eS hres
 rcases (show (rK st.tk.kind==2)=false∨((rK st.tk.kind==2)=true∧b0=false) by revert hb;cases (rK st.tk.kind==2)<;>cases b0<;>simp) with q2|⟨q2,rfl⟩
 all_goals
  go_enter Tryz.func294,Tryz.ntmps294
  go_wp2_with (first|(go_at_call 320;refine (q9 HC).mono ?_;rintro e w1 ⟨hk1,h1⟩;rw [q9 HRES] at h1;obtain ⟨new,he,hr1,ho1,hp1,hfl⟩:=h1;obtain ⟨i0,hi0⟩:∃k:Nat,ns.length+new.length - 1=k:=⟨_,rfl⟩;rw [hi0] at he;subst he;obtain ⟨gN,capN,LN,N,cN0,hLN,cN,hNm⟩:=hr1.opAt hfl hi0;rw [q9 HB0] at hNm;have c8:=hr1.c8;obtain ⟨t2,t3,t4,t5,t6⟩:=hr1.ct;have hlt1:=hr1.lt;have nL:¬rb=w1.heap.size:=(by omega);have nL':¬w1.heap.size=rb:=(by omega);have hgN:gN<w1.heap.size:=World.block_lt_of_cell? w1 _ cN;have HI0:=v7 hi0;have HR1:=v7 hr1;have HK1:=v7 hk1;have HFL:=v7 hfl;clear hk1 hr1 hfl hi0)|(go_at_call 321;refine (qb1 _ _ _ _ _ _).mono ?_;rintro e w2 ⟨rfl,hb2⟩;rw [qc5 st1,hcmp];have hv0:=VN.new (q9 HR1) 235 #[.int .i64 (rK st1.tk.kind),.int .i64 st1.place,.int .i64 (tkZ st1),.string (BS (tkS st1)),.int .i64 (tkN st1)] rfl;have hr0:=(q9 HR1).alloc (.cells #[.int .i64 (rK st1.tk.kind),.int .i64 st1.place,.int .i64 (tkZ st1),.string (BS (tkS st1)),.int .i64 (tkN st1)] 235);have hkb:=TKept.of_below hb2 hr0.lt;have hv2:=hv0.kept hkb;have hr2:=hr0.below hb2;have hk2:=((q9 HK1).alloc hlt (.cells #[.int .i64 (rK st1.tk.kind),.int .i64 st1.place,.int .i64 (tkZ st1),.string (BS (tkS st1)),.int .i64 (tkN st1)] 235)).trans hkb;have hlt2:=hr2.lt;obtain ⟨_,u3,_⟩:=hr2.ct;have nM1:¬rb=w2.heap.size:=(by omega);have nM2:¬rb=w2.heap.size+1:=(by omega);have nM3:¬w2.heap.size=rb:=(by omega);have nM4:¬w2.heap.size+1=rb:=(by omega);have HR2:=v7 hr2;have HK2:=v7 hk2;clear hb2 hv0 hr0 hkb hv2 hr2 hk2)|(go_at_call 215;(first|refine (qg2 (q9 HR2)).mono ?_|refine (qg2 (((q9 HR2).alloc _).alloc _)).mono ?_);rintro e w' ⟨rfl,hw'⟩;subst w';simp only [hi14,hi7,hi10,hi11,hi12]))
  go_ret
  exact ⟨(((q9 HK2).alloc hlt _).alloc hlt _),i0,rfl,.inr ⟨rfl,(((q9 HR2).alloc _).alloc _).rd (by have:=q9 HKc;omega) ho1 hs (by omega) hp1⟩⟩
theorem vr4 (rb:Nat) (s:ByteArray) (op m:Nat) (f:St→Res) (w:World) (st:St) (ns:List RN) (j:Nat) (l:Ast) (st1:St) (T:T1 rb s op m f w st ns j l st1) (hb:qd8 st l=false) (hk12:st1.tk.kind=12) :
  Calls Tryz.prog 294 #[.pointer (some ⟨rb,0,none⟩)] w (DEnds rb s w op (m+1) ns j st.place (.err 2 st1.place)):=by
 obtain ⟨hs,hm,hm',hf,eS,h,ho,hres⟩:=T
 obtain ⟨k2,_⟩:=h.ct
 have hlt:=h.lt
 have HC:=v7 (hf w st ns j h ho)
 have HF:=v7 hf
 have ES:=v7 eS
 have HRES:=v7 hres
 obtain ⟨b0,hb0⟩:∃b:Bool,(opA l==0)=b:=⟨_,rfl⟩
 have HB0:=v7 hb0
 have hcmp:decide (16≤st1.tk.kind∧st1.tk.kind≤21)=false:=decide_eq_false (by omega)
 have hbare:qd8 st l=(rK st.tk.kind==2&&b0):=by unfold qd8;rw [rK_2,hb0]
 rw [hbare] at hb
 clear hbare
 have hi14:(rK st1.tk.kind==6&&((BS (tkS st1)).toList==(⟨#[73,83]⟩:ByteArray).toList))=false:=(isK (c:=14) rfl (by decide) (by decide) 6 rfl).trans (beq_eq_false_iff_ne.2 (by omega))
 have hi7:(rK st1.tk.kind==6&&((BS (tkS st1)).toList==(⟨#[78,79,84]⟩:ByteArray).toList))=false:=(isK (c:=7) rfl (by decide) (by decide) 6 rfl).trans (beq_eq_false_iff_ne.2 (by omega))
 have hi10:(rK st1.tk.kind==6&&((BS (tkS st1)).toList==(⟨#[66,69,84,87,69,69,78]⟩:ByteArray).toList))=false:=(isK (c:=10) rfl (by decide) (by decide) 6 rfl).trans (beq_eq_false_iff_ne.2 (by omega))
 have hi11:(rK st1.tk.kind==6&&((BS (tkS st1)).toList==(⟨#[73,78]⟩:ByteArray).toList))=false:=(isK (c:=11) rfl (by decide) (by decide) 6 rfl).trans (beq_eq_false_iff_ne.2 (by omega))
 have hi12:(rK st1.tk.kind==6&&((BS (tkS st1)).toList==(⟨#[76,73,75,69]⟩:ByteArray).toList))=true:=(isK (c:=12) rfl (by decide) (by decide) 6 rfl).trans (by rw [hk12];rfl)
 have HKc:=v7 hk12
 clear hk12
 clear h hf eS hres
 rcases (show (rK st.tk.kind==2)=false∨((rK st.tk.kind==2)=true∧b0=false) by revert hb;cases (rK st.tk.kind==2)<;>cases b0<;>simp) with q2|⟨q2,rfl⟩
 all_goals
  go_enter Tryz.func294,Tryz.ntmps294
  go_wp2_with (first|(go_at_call 320;refine (q9 HC).mono ?_;rintro e w1 ⟨hk1,h1⟩;rw [q9 HRES] at h1;obtain ⟨new,he,hr1,ho1,hp1,hfl⟩:=h1;obtain ⟨i0,hi0⟩:∃k:Nat,ns.length+new.length - 1=k:=⟨_,rfl⟩;rw [hi0] at he;subst he;obtain ⟨gN,capN,LN,N,cN0,hLN,cN,hNm⟩:=hr1.opAt hfl hi0;rw [q9 HB0] at hNm;have c8:=hr1.c8;obtain ⟨t2,t3,t4,t5,t6⟩:=hr1.ct;have hlt1:=hr1.lt;have nL:¬rb=w1.heap.size:=(by omega);have nL':¬w1.heap.size=rb:=(by omega);have hgN:gN<w1.heap.size:=World.block_lt_of_cell? w1 _ cN;have HI0:=v7 hi0;have HR1:=v7 hr1;have HK1:=v7 hk1;have HFL:=v7 hfl;clear hk1 hr1 hfl hi0)|(go_at_call 321;refine (qb1 _ _ _ _ _ _).mono ?_;rintro e w2 ⟨rfl,hb2⟩;rw [qc5 st1,hcmp];have hv0:=VN.new (q9 HR1) 235 #[.int .i64 (rK st1.tk.kind),.int .i64 st1.place,.int .i64 (tkZ st1),.string (BS (tkS st1)),.int .i64 (tkN st1)] rfl;have hr0:=(q9 HR1).alloc (.cells #[.int .i64 (rK st1.tk.kind),.int .i64 st1.place,.int .i64 (tkZ st1),.string (BS (tkS st1)),.int .i64 (tkN st1)] 235);have hkb:=TKept.of_below hb2 hr0.lt;have hv2:=hv0.kept hkb;have hr2:=hr0.below hb2;have hk2:=((q9 HK1).alloc hlt (.cells #[.int .i64 (rK st1.tk.kind),.int .i64 st1.place,.int .i64 (tkZ st1),.string (BS (tkS st1)),.int .i64 (tkN st1)] 235)).trans hkb;have hlt2:=hr2.lt;obtain ⟨_,u3,_⟩:=hr2.ct;have nM1:¬rb=w2.heap.size:=(by omega);have nM2:¬rb=w2.heap.size+1:=(by omega);have nM3:¬w2.heap.size=rb:=(by omega);have nM4:¬w2.heap.size+1=rb:=(by omega);have HR2:=v7 hr2;have HK2:=v7 hk2;clear hb2 hv0 hr0 hkb hv2 hr2 hk2)|(go_at_call 215;(first|refine (qg2 (q9 HR2)).mono ?_|refine (qg2 (((q9 HR2).alloc _).alloc _)).mono ?_);rintro e w' ⟨rfl,hw'⟩;subst w';simp only [hi14,hi7,hi10,hi11,hi12]))
  go_ret
  exact ⟨(((q9 HK2).alloc hlt _).alloc hlt _),i0,rfl,.inr ⟨rfl,(((q9 HR2).alloc _).alloc _).rd (by have:=q9 HKc;omega) ho1 hs (by omega) hp1⟩⟩
end Go.Proofs.YtfkcaldjphakpaaGreatDoor
