/- The document's answer: a test: no keyword, or one without NOT. The document's answer: a test: NOT ahead of a keyword. The document's answer: every test; all levels of the reader. The document's answer: classes of nodes in their order are those of the term. -/
import Derived.Test.YtfkcaldjphakpaaGreatDoorM25
import Derived.Test.YtfkcaldjphakpaaGreatDoorM26
import Derived.Test.YtfkcaldjphakpaaGreatDoorM06
set_option maxHeartbeats 16000000
set_option maxRecDepth 100000
namespace Go.Proofs.YtfkcaldjphakpaaGreatDoor
open Go.RowKit
section
theorem RT.rd {w:World} {rb:Nat} {s:ByteArray} {ns:List RN} {j:Nat} {st:St} (h:RT w rb s ns j st) (hk:st.tk.kind=11∨st.tk.kind=12) {op m lo:Nat} (ho:st.op=op) (hs:s.size≤200) (hm:200≤m) (hl:lo≤st.place):RD w rb s st.place op m lo:=by
 obtain ⟨nv,hT,hN,hF,hj⟩:=h
 have:=hF.place
 exact ⟨ns,nv,st,ho ▸ hT,hN,hk,rfl,by omega,hl,hF.place⟩
theorem jm3 (rb:Nat) (s:ByteArray) (op m:Nat) (f:St→Res) (w:World) (st:St) (ns:List RN) (j:Nat) (l:Ast) (st1:St) (T:T1 rb s op m f w st ns j l st1) (hb:qe6 st l=true) (hk14:st1.tk.kind=14) :
  Calls Tryz.prog 294 #[.pointer (some ⟨rb,0,none⟩)] w (DEnds rb s w op (m+1) ns j st.place (qd2 s l st1)):=by
 obtain ⟨hs,hm,hm',hf,eS,h,ho,hres⟩:=T
 obtain ⟨k2,_⟩:=h.ct
 have hlt:=h.lt
 have HC:=j4 (hf w st ns j h ho)
 have HF:=j4 hf
 have ES:=j4 eS
 have HRES:=j4 hres
 obtain ⟨b0,hb0⟩:∃b:Bool,(opA l==0)=b:=⟨_,rfl⟩
 have HB0:=j4 hb0
 have hcmp:decide (16≤st1.tk.kind∧st1.tk.kind≤21)=false:=decide_eq_false (by omega)
 have hbare:qe6 st l=(rK st.tk.kind==2&&b0):=by unfold qe6;rw [rK_2,hb0]
 rw [hbare,Bool.and_eq_true] at hb
 obtain ⟨q2,rfl⟩:=hb
 clear hbare
 have hi14:(rK st1.tk.kind==6&&((BS (tkS st1)).toList==(⟨#[73,83]⟩:ByteArray).toList))=true:=(isK (c:=14) rfl (by decide) (by decide) 6 rfl).trans (by rw [hk14];rfl)
 have HKc:=j4 hk14
 clear hk14
 clear h hf eS hres
 go_enter Tryz.func294,Tryz.ntmps294
 go_wp2_with (first|(go_at_call 320;refine (q9 HC).mono ?_;rintro e w1 ⟨hk1,h1⟩;rw [q9 HRES] at h1;obtain ⟨new,he,hr1,ho1,hp1,hfl⟩:=h1;obtain ⟨i0,hi0⟩:∃k:Nat,ns.length+new.length - 1=k:=⟨_,rfl⟩;rw [hi0] at he;subst he;obtain ⟨gN,capN,LN,N,cN0,hLN,cN,hNm⟩:=hr1.opAt hfl hi0;rw [q9 HB0] at hNm;have c8:=hr1.c8;obtain ⟨t2,t3,t4,t5,t6⟩:=hr1.ct;have hlt1:=hr1.lt;have nL:¬rb=w1.heap.size:=(by omega);have nL':¬w1.heap.size=rb:=(by omega);have hgN:gN<w1.heap.size:=World.block_lt_of_cell? w1 _ cN;have HI0:=j4 hi0;have HR1:=j4 hr1;have HK1:=j4 hk1;have HFL:=j4 hfl;clear hk1 hr1 hfl hi0)|(go_at_call 321;refine (qc3 _ _ _ _ _ _).mono ?_;rintro e w2 ⟨rfl,hb2⟩;rw [qd4 st1,hcmp];have hv0:=VN.new (q9 HR1) 235 #[.int .i64 (rK st1.tk.kind),.int .i64 st1.place,.int .i64 (tkZ st1),.string (BS (tkS st1)),.int .i64 (tkN st1)] rfl;have hr0:=(q9 HR1).alloc (.cells #[.int .i64 (rK st1.tk.kind),.int .i64 st1.place,.int .i64 (tkZ st1),.string (BS (tkS st1)),.int .i64 (tkN st1)] 235);have hkb:=TKept.of_below hb2 hr0.lt;have hv2:=hv0.kept hkb;have hr2:=hr0.below hb2;have hk2:=((q9 HK1).alloc hlt (.cells #[.int .i64 (rK st1.tk.kind),.int .i64 st1.place,.int .i64 (tkZ st1),.string (BS (tkS st1)),.int .i64 (tkN st1)] 235)).trans hkb;have hlt2:=hr2.lt;obtain ⟨_,u3,_⟩:=hr2.ct;have nM1:¬rb=w2.heap.size:=(by omega);have nM2:¬rb=w2.heap.size+1:=(by omega);have nM3:¬w2.heap.size=rb:=(by omega);have nM4:¬w2.heap.size+1=rb:=(by omega);have HR2:=j4 hr2;have HK2:=j4 hk2;clear hb2 hv0 hr0 hkb hv2 hr2 hk2)|(go_at_call 215;(first|refine (qh0 (q9 HR2)).mono ?_|refine (qh0 (((q9 HR2).alloc _).alloc _)).mono ?_);rintro e w' ⟨rfl,hw'⟩;subst w';simp only [hi14])|(go_at_call 322;refine (rnull_any rb s hs op (m+1) (by omega) _ st1 ns new j l (q9 HR2) ho1 (q9 HKc) (q9 HFL) i0 (q9 HI0).symm).mono ?_;rintro e w5 h5;obtain ⟨v5,rfl⟩:=h5.ret;have H5:=j4 h5;clear h5))
 go_ret
 exact ((q9 H5).from (q9 HK2) hp1).d
theorem jc1 (rb:Nat) (s:ByteArray) (op m:Nat) (f:St→Res) (w:World) (st:St) (ns:List RN) (j:Nat) (l:Ast) (st1:St) (T:T1 rb s op m f w st ns j l st1) (hk:st1.tk.kind≠7∧st1.tk.kind≠10∧st1.tk.kind≠11∧st1.tk.kind≠12∧st1.tk.kind≠14∧¬(16≤st1.tk.kind∧st1.tk.kind≤21)) :
  Calls Tryz.prog 294 #[.pointer (some ⟨rb,0,none⟩)] w (DEnds rb s w op (m+1) ns j st.place (.ok l st1)):=by
 obtain ⟨hs,hm,hm',hf,eS,h,ho,hres⟩:=T
 obtain ⟨k2,_⟩:=h.ct
 have hlt:=h.lt
 have HC:=j4 (hf w st ns j h ho)
 have HF:=j4 hf
 have ES:=j4 eS
 have HRES:=j4 hres
 obtain ⟨b0,hb0⟩:∃b:Bool,(opA l==0)=b:=⟨_,rfl⟩
 have HB0:=j4 hb0
 have hcmp:decide (16≤st1.tk.kind∧st1.tk.kind≤21)=false:=decide_eq_false (by omega)
 have hi14:(rK st1.tk.kind==6&&((BS (tkS st1)).toList==(⟨#[73,83]⟩:ByteArray).toList))=false:=(isK (c:=14) rfl (by decide) (by decide) 6 rfl).trans (beq_eq_false_iff_ne.2 (by omega))
 have hi7:(rK st1.tk.kind==6&&((BS (tkS st1)).toList==(⟨#[78,79,84]⟩:ByteArray).toList))=false:=(isK (c:=7) rfl (by decide) (by decide) 6 rfl).trans (beq_eq_false_iff_ne.2 (by omega))
 have hi10:(rK st1.tk.kind==6&&((BS (tkS st1)).toList==(⟨#[66,69,84,87,69,69,78]⟩:ByteArray).toList))=false:=(isK (c:=10) rfl (by decide) (by decide) 6 rfl).trans (beq_eq_false_iff_ne.2 (by omega))
 have hi11:(rK st1.tk.kind==6&&((BS (tkS st1)).toList==(⟨#[73,78]⟩:ByteArray).toList))=false:=(isK (c:=11) rfl (by decide) (by decide) 6 rfl).trans (beq_eq_false_iff_ne.2 (by omega))
 have hi12:(rK st1.tk.kind==6&&((BS (tkS st1)).toList==(⟨#[76,73,75,69]⟩:ByteArray).toList))=false:=(isK (c:=12) rfl (by decide) (by decide) 6 rfl).trans (beq_eq_false_iff_ne.2 (by omega))
 clear h hf eS hres
 rcases (show (rK st.tk.kind==2)=false∨((rK st.tk.kind==2)=true∧b0=false)∨((rK st.tk.kind==2)=true∧b0=true) by cases (rK st.tk.kind==2)<;>cases b0<;>simp) with q2|⟨q2,rfl⟩|⟨q2,rfl⟩
 all_goals
  go_enter Tryz.func294,Tryz.ntmps294
  go_wp2_with (first|(go_at_call 320;refine (q9 HC).mono ?_;rintro e w1 ⟨hk1,h1⟩;rw [q9 HRES] at h1;obtain ⟨new,he,hr1,ho1,hp1,hfl⟩:=h1;obtain ⟨i0,hi0⟩:∃k:Nat,ns.length+new.length - 1=k:=⟨_,rfl⟩;rw [hi0] at he;subst he;obtain ⟨gN,capN,LN,N,cN0,hLN,cN,hNm⟩:=hr1.opAt hfl hi0;rw [q9 HB0] at hNm;have c8:=hr1.c8;obtain ⟨t2,t3,t4,t5,t6⟩:=hr1.ct;have hlt1:=hr1.lt;have nL:¬rb=w1.heap.size:=(by omega);have nL':¬w1.heap.size=rb:=(by omega);have hgN:gN<w1.heap.size:=World.block_lt_of_cell? w1 _ cN;have HI0:=j4 hi0;have HR1:=j4 hr1;have HK1:=j4 hk1;have HFL:=j4 hfl;clear hk1 hr1 hfl hi0)|(go_at_call 321;refine (qc3 _ _ _ _ _ _).mono ?_;rintro e w2 ⟨rfl,hb2⟩;rw [qd4 st1,hcmp];have hv0:=VN.new (q9 HR1) 235 #[.int .i64 (rK st1.tk.kind),.int .i64 st1.place,.int .i64 (tkZ st1),.string (BS (tkS st1)),.int .i64 (tkN st1)] rfl;have hr0:=(q9 HR1).alloc (.cells #[.int .i64 (rK st1.tk.kind),.int .i64 st1.place,.int .i64 (tkZ st1),.string (BS (tkS st1)),.int .i64 (tkN st1)] 235);have hkb:=TKept.of_below hb2 hr0.lt;have hv2:=hv0.kept hkb;have hr2:=hr0.below hb2;have hk2:=((q9 HK1).alloc hlt (.cells #[.int .i64 (rK st1.tk.kind),.int .i64 st1.place,.int .i64 (tkZ st1),.string (BS (tkS st1)),.int .i64 (tkN st1)] 235)).trans hkb;have hlt2:=hr2.lt;obtain ⟨_,u3,_⟩:=hr2.ct;have nM1:¬rb=w2.heap.size:=(by omega);have nM2:¬rb=w2.heap.size+1:=(by omega);have nM3:¬w2.heap.size=rb:=(by omega);have nM4:¬w2.heap.size+1=rb:=(by omega);have HR2:=j4 hr2;have HK2:=j4 hk2;clear hb2 hv0 hr0 hkb hv2 hr2 hk2)|(go_at_call 215;(first|refine (qh0 (q9 HR2)).mono ?_|refine (qh0 (((q9 HR2).alloc _).alloc _)).mono ?_);rintro e w' ⟨rfl,hw'⟩;subst w';simp only [hi14,hi7,hi10,hi11,hi12]))
  go_ret
  exact ⟨(((q9 HK2).alloc hlt _).alloc hlt _),new,qg5 (by rw [q9 HI0]),((q9 HR2).alloc _).alloc _,ho1,hp1,q9 HFL⟩
theorem rtest_is (rb:Nat) (s:ByteArray) (op m:Nat) (f:St→Res) (w:World) (st:St) (ns:List RN) (j:Nat) (l:Ast) (st1:St) (T:T1 rb s op m f w st ns j l st1) (hb:qe6 st l=false) (hk14:st1.tk.kind=14) :
  Calls Tryz.prog 294 #[.pointer (some ⟨rb,0,none⟩)] w (DEnds rb s w op (m+1) ns j st.place (.ok l st1)):=by
 obtain ⟨hs,hm,hm',hf,eS,h,ho,hres⟩:=T
 obtain ⟨k2,_⟩:=h.ct
 have hlt:=h.lt
 have HC:=j4 (hf w st ns j h ho)
 have HF:=j4 hf
 have ES:=j4 eS
 have HRES:=j4 hres
 obtain ⟨b0,hb0⟩:∃b:Bool,(opA l==0)=b:=⟨_,rfl⟩
 have HB0:=j4 hb0
 have hcmp:decide (16≤st1.tk.kind∧st1.tk.kind≤21)=false:=decide_eq_false (by omega)
 have hbare:qe6 st l=(rK st.tk.kind==2&&b0):=by unfold qe6;rw [rK_2,hb0]
 rw [hbare] at hb
 clear hbare
 have hi14:(rK st1.tk.kind==6&&((BS (tkS st1)).toList==(⟨#[73,83]⟩:ByteArray).toList))=true:=(isK (c:=14) rfl (by decide) (by decide) 6 rfl).trans (by rw [hk14];rfl)
 have hi7:(rK st1.tk.kind==6&&((BS (tkS st1)).toList==(⟨#[78,79,84]⟩:ByteArray).toList))=false:=(isK (c:=7) rfl (by decide) (by decide) 6 rfl).trans (beq_eq_false_iff_ne.2 (by omega))
 have hi10:(rK st1.tk.kind==6&&((BS (tkS st1)).toList==(⟨#[66,69,84,87,69,69,78]⟩:ByteArray).toList))=false:=(isK (c:=10) rfl (by decide) (by decide) 6 rfl).trans (beq_eq_false_iff_ne.2 (by omega))
 have hi11:(rK st1.tk.kind==6&&((BS (tkS st1)).toList==(⟨#[73,78]⟩:ByteArray).toList))=false:=(isK (c:=11) rfl (by decide) (by decide) 6 rfl).trans (beq_eq_false_iff_ne.2 (by omega))
 have hi12:(rK st1.tk.kind==6&&((BS (tkS st1)).toList==(⟨#[76,73,75,69]⟩:ByteArray).toList))=false:=(isK (c:=12) rfl (by decide) (by decide) 6 rfl).trans (beq_eq_false_iff_ne.2 (by omega))
 have HKc:=j4 hk14
 clear hk14
 clear h hf eS hres
 rcases (show (rK st.tk.kind==2)=false∨((rK st.tk.kind==2)=true∧b0=false) by revert hb;cases (rK st.tk.kind==2)<;>cases b0<;>simp) with q2|⟨q2,rfl⟩
 all_goals
  go_enter Tryz.func294,Tryz.ntmps294
  go_wp2_with (first|(go_at_call 320;refine (q9 HC).mono ?_;rintro e w1 ⟨hk1,h1⟩;rw [q9 HRES] at h1;obtain ⟨new,he,hr1,ho1,hp1,hfl⟩:=h1;obtain ⟨i0,hi0⟩:∃k:Nat,ns.length+new.length - 1=k:=⟨_,rfl⟩;rw [hi0] at he;subst he;obtain ⟨gN,capN,LN,N,cN0,hLN,cN,hNm⟩:=hr1.opAt hfl hi0;rw [q9 HB0] at hNm;have c8:=hr1.c8;obtain ⟨t2,t3,t4,t5,t6⟩:=hr1.ct;have hlt1:=hr1.lt;have nL:¬rb=w1.heap.size:=(by omega);have nL':¬w1.heap.size=rb:=(by omega);have hgN:gN<w1.heap.size:=World.block_lt_of_cell? w1 _ cN;have HI0:=j4 hi0;have HR1:=j4 hr1;have HK1:=j4 hk1;have HFL:=j4 hfl;clear hk1 hr1 hfl hi0)|(go_at_call 321;refine (qc3 _ _ _ _ _ _).mono ?_;rintro e w2 ⟨rfl,hb2⟩;rw [qd4 st1,hcmp];have hv0:=VN.new (q9 HR1) 235 #[.int .i64 (rK st1.tk.kind),.int .i64 st1.place,.int .i64 (tkZ st1),.string (BS (tkS st1)),.int .i64 (tkN st1)] rfl;have hr0:=(q9 HR1).alloc (.cells #[.int .i64 (rK st1.tk.kind),.int .i64 st1.place,.int .i64 (tkZ st1),.string (BS (tkS st1)),.int .i64 (tkN st1)] 235);have hkb:=TKept.of_below hb2 hr0.lt;have hv2:=hv0.kept hkb;have hr2:=hr0.below hb2;have hk2:=((q9 HK1).alloc hlt (.cells #[.int .i64 (rK st1.tk.kind),.int .i64 st1.place,.int .i64 (tkZ st1),.string (BS (tkS st1)),.int .i64 (tkN st1)] 235)).trans hkb;have hlt2:=hr2.lt;obtain ⟨_,u3,_⟩:=hr2.ct;have nM1:¬rb=w2.heap.size:=(by omega);have nM2:¬rb=w2.heap.size+1:=(by omega);have nM3:¬w2.heap.size=rb:=(by omega);have nM4:¬w2.heap.size+1=rb:=(by omega);have HR2:=j4 hr2;have HK2:=j4 hk2;clear hb2 hv0 hr0 hkb hv2 hr2 hk2)|(go_at_call 215;(first|refine (qh0 (q9 HR2)).mono ?_|refine (qh0 (((q9 HR2).alloc _).alloc _)).mono ?_);rintro e w' ⟨rfl,hw'⟩;subst w';simp only [hi14,hi7,hi10,hi11,hi12]))
  go_ret
  exact ⟨(((q9 HK2).alloc hlt _).alloc hlt _),new,qg5 (by rw [q9 HI0]),((q9 HR2).alloc _).alloc _,ho1,hp1,q9 HFL⟩
theorem vp9 (rb:Nat) (s:ByteArray) (op m:Nat) (f:St→Res) (w:World) (st:St) (ns:List RN) (j:Nat) (l:Ast) (st1:St) (T:T1 rb s op m f w st ns j l st1) (hk10:st1.tk.kind=10) :
  Calls Tryz.prog 294 #[.pointer (some ⟨rb,0,none⟩)] w (DEnds rb s w op (m+1) ns j st.place (qa8 s f l st1)):=by
 obtain ⟨hs,hm,hm',hf,eS,h,ho,hres⟩:=T
 obtain ⟨k2,_⟩:=h.ct
 have hlt:=h.lt
 have HC:=j4 (hf w st ns j h ho)
 have HF:=j4 hf
 have ES:=j4 eS
 have HRES:=j4 hres
 obtain ⟨b0,hb0⟩:∃b:Bool,(opA l==0)=b:=⟨_,rfl⟩
 have HB0:=j4 hb0
 have hcmp:decide (16≤st1.tk.kind∧st1.tk.kind≤21)=false:=decide_eq_false (by omega)
 have hi14:(rK st1.tk.kind==6&&((BS (tkS st1)).toList==(⟨#[73,83]⟩:ByteArray).toList))=false:=(isK (c:=14) rfl (by decide) (by decide) 6 rfl).trans (beq_eq_false_iff_ne.2 (by omega))
 have hi7:(rK st1.tk.kind==6&&((BS (tkS st1)).toList==(⟨#[78,79,84]⟩:ByteArray).toList))=false:=(isK (c:=7) rfl (by decide) (by decide) 6 rfl).trans (beq_eq_false_iff_ne.2 (by omega))
 have hi10:(rK st1.tk.kind==6&&((BS (tkS st1)).toList==(⟨#[66,69,84,87,69,69,78]⟩:ByteArray).toList))=true:=(isK (c:=10) rfl (by decide) (by decide) 6 rfl).trans (by rw [hk10];rfl)
 have hi11:(rK st1.tk.kind==6&&((BS (tkS st1)).toList==(⟨#[73,78]⟩:ByteArray).toList))=false:=(isK (c:=11) rfl (by decide) (by decide) 6 rfl).trans (beq_eq_false_iff_ne.2 (by omega))
 have hi12:(rK st1.tk.kind==6&&((BS (tkS st1)).toList==(⟨#[76,73,75,69]⟩:ByteArray).toList))=false:=(isK (c:=12) rfl (by decide) (by decide) 6 rfl).trans (beq_eq_false_iff_ne.2 (by omega))
 have HKc:=j4 hk10
 clear hk10
 clear h hf eS hres
 rcases (show (rK st.tk.kind==2)=false∨((rK st.tk.kind==2)=true∧b0=false)∨((rK st.tk.kind==2)=true∧b0=true) by cases (rK st.tk.kind==2)<;>cases b0<;>simp) with q2|⟨q2,rfl⟩|⟨q2,rfl⟩
 all_goals
  go_enter Tryz.func294,Tryz.ntmps294
  go_wp2_with (first|(go_at_call 320;refine (q9 HC).mono ?_;rintro e w1 ⟨hk1,h1⟩;rw [q9 HRES] at h1;obtain ⟨new,he,hr1,ho1,hp1,hfl⟩:=h1;obtain ⟨i0,hi0⟩:∃k:Nat,ns.length+new.length - 1=k:=⟨_,rfl⟩;rw [hi0] at he;subst he;obtain ⟨gN,capN,LN,N,cN0,hLN,cN,hNm⟩:=hr1.opAt hfl hi0;rw [q9 HB0] at hNm;have c8:=hr1.c8;obtain ⟨t2,t3,t4,t5,t6⟩:=hr1.ct;have hlt1:=hr1.lt;have nL:¬rb=w1.heap.size:=(by omega);have nL':¬w1.heap.size=rb:=(by omega);have hgN:gN<w1.heap.size:=World.block_lt_of_cell? w1 _ cN;have HI0:=j4 hi0;have HR1:=j4 hr1;have HK1:=j4 hk1;have HFL:=j4 hfl;clear hk1 hr1 hfl hi0)|(go_at_call 321;refine (qc3 _ _ _ _ _ _).mono ?_;rintro e w2 ⟨rfl,hb2⟩;rw [qd4 st1,hcmp];have hv0:=VN.new (q9 HR1) 235 #[.int .i64 (rK st1.tk.kind),.int .i64 st1.place,.int .i64 (tkZ st1),.string (BS (tkS st1)),.int .i64 (tkN st1)] rfl;have hr0:=(q9 HR1).alloc (.cells #[.int .i64 (rK st1.tk.kind),.int .i64 st1.place,.int .i64 (tkZ st1),.string (BS (tkS st1)),.int .i64 (tkN st1)] 235);have hkb:=TKept.of_below hb2 hr0.lt;have hv2:=hv0.kept hkb;have hr2:=hr0.below hb2;have hk2:=((q9 HK1).alloc hlt (.cells #[.int .i64 (rK st1.tk.kind),.int .i64 st1.place,.int .i64 (tkZ st1),.string (BS (tkS st1)),.int .i64 (tkN st1)] 235)).trans hkb;have hlt2:=hr2.lt;obtain ⟨_,u3,_⟩:=hr2.ct;have nM1:¬rb=w2.heap.size:=(by omega);have nM2:¬rb=w2.heap.size+1:=(by omega);have nM3:¬w2.heap.size=rb:=(by omega);have nM4:¬w2.heap.size+1=rb:=(by omega);have HR2:=j4 hr2;have HK2:=j4 hk2;clear hb2 hv0 hr0 hkb hv2 hr2 hk2)|(go_at_call 215;(first|refine (qh0 (q9 HR2)).mono ?_|refine (qh0 (((q9 HR2).alloc _).alloc _)).mono ?_);rintro e w' ⟨rfl,hw'⟩;subst w';simp only [hi14,hi7,hi10,hi11,hi12])|(go_at_call 323;refine (vc2 rb s hs op m hm hm' f (q9 HF) (q9 ES) _ st1 ns new j l (((q9 HR2).alloc _).alloc _) ho1 (q9 HKc) (q9 HFL) i0 (q9 HI0).symm w2.heap.size ((VN.new (q9 HR2) 3 #[.int .i64 i0] rfl).alloc (by simp;omega) _) false 0).mono ?_;rintro e w5 h5;obtain ⟨v5,rfl⟩:=h5.ret;have H5:=j4 h5;clear h5))
  go_ret
  have:=q9 H5
  rw [va8] at this
  exact (this.from (((q9 HK2).alloc hlt _).alloc hlt _) hp1).d
theorem rtest_in (rb:Nat) (s:ByteArray) (op m:Nat) (f:St→Res) (w:World) (st:St) (ns:List RN) (j:Nat) (l:Ast) (st1:St) (T:T1 rb s op m f w st ns j l st1) (hb:qe6 st l=true) (hk11:st1.tk.kind=11) :
  Calls Tryz.prog 294 #[.pointer (some ⟨rb,0,none⟩)] w (DEnds rb s w op (m+1) ns j st.place (qh5 s l st1)):=by
 obtain ⟨hs,hm,hm',hf,eS,h,ho,hres⟩:=T
 obtain ⟨k2,_⟩:=h.ct
 have hlt:=h.lt
 have HC:=j4 (hf w st ns j h ho)
 have HF:=j4 hf
 have ES:=j4 eS
 have HRES:=j4 hres
 obtain ⟨b0,hb0⟩:∃b:Bool,(opA l==0)=b:=⟨_,rfl⟩
 have HB0:=j4 hb0
 have hcmp:decide (16≤st1.tk.kind∧st1.tk.kind≤21)=false:=decide_eq_false (by omega)
 have hbare:qe6 st l=(rK st.tk.kind==2&&b0):=by unfold qe6;rw [rK_2,hb0]
 rw [hbare,Bool.and_eq_true] at hb
 obtain ⟨q2,rfl⟩:=hb
 clear hbare
 have hi14:(rK st1.tk.kind==6&&((BS (tkS st1)).toList==(⟨#[73,83]⟩:ByteArray).toList))=false:=(isK (c:=14) rfl (by decide) (by decide) 6 rfl).trans (beq_eq_false_iff_ne.2 (by omega))
 have hi7:(rK st1.tk.kind==6&&((BS (tkS st1)).toList==(⟨#[78,79,84]⟩:ByteArray).toList))=false:=(isK (c:=7) rfl (by decide) (by decide) 6 rfl).trans (beq_eq_false_iff_ne.2 (by omega))
 have hi10:(rK st1.tk.kind==6&&((BS (tkS st1)).toList==(⟨#[66,69,84,87,69,69,78]⟩:ByteArray).toList))=false:=(isK (c:=10) rfl (by decide) (by decide) 6 rfl).trans (beq_eq_false_iff_ne.2 (by omega))
 have hi11:(rK st1.tk.kind==6&&((BS (tkS st1)).toList==(⟨#[73,78]⟩:ByteArray).toList))=true:=(isK (c:=11) rfl (by decide) (by decide) 6 rfl).trans (by rw [hk11];rfl)
 have hi12:(rK st1.tk.kind==6&&((BS (tkS st1)).toList==(⟨#[76,73,75,69]⟩:ByteArray).toList))=false:=(isK (c:=12) rfl (by decide) (by decide) 6 rfl).trans (beq_eq_false_iff_ne.2 (by omega))
 have HKc:=j4 hk11
 clear hk11
 clear h hf eS hres
 go_enter Tryz.func294,Tryz.ntmps294
 go_wp2_with (first|(go_at_call 320;refine (q9 HC).mono ?_;rintro e w1 ⟨hk1,h1⟩;rw [q9 HRES] at h1;obtain ⟨new,he,hr1,ho1,hp1,hfl⟩:=h1;obtain ⟨i0,hi0⟩:∃k:Nat,ns.length+new.length - 1=k:=⟨_,rfl⟩;rw [hi0] at he;subst he;obtain ⟨gN,capN,LN,N,cN0,hLN,cN,hNm⟩:=hr1.opAt hfl hi0;rw [q9 HB0] at hNm;have c8:=hr1.c8;obtain ⟨t2,t3,t4,t5,t6⟩:=hr1.ct;have hlt1:=hr1.lt;have nL:¬rb=w1.heap.size:=(by omega);have nL':¬w1.heap.size=rb:=(by omega);have hgN:gN<w1.heap.size:=World.block_lt_of_cell? w1 _ cN;have HI0:=j4 hi0;have HR1:=j4 hr1;have HK1:=j4 hk1;have HFL:=j4 hfl;clear hk1 hr1 hfl hi0)|(go_at_call 321;refine (qc3 _ _ _ _ _ _).mono ?_;rintro e w2 ⟨rfl,hb2⟩;rw [qd4 st1,hcmp];have hv0:=VN.new (q9 HR1) 235 #[.int .i64 (rK st1.tk.kind),.int .i64 st1.place,.int .i64 (tkZ st1),.string (BS (tkS st1)),.int .i64 (tkN st1)] rfl;have hr0:=(q9 HR1).alloc (.cells #[.int .i64 (rK st1.tk.kind),.int .i64 st1.place,.int .i64 (tkZ st1),.string (BS (tkS st1)),.int .i64 (tkN st1)] 235);have hkb:=TKept.of_below hb2 hr0.lt;have hv2:=hv0.kept hkb;have hr2:=hr0.below hb2;have hk2:=((q9 HK1).alloc hlt (.cells #[.int .i64 (rK st1.tk.kind),.int .i64 st1.place,.int .i64 (tkZ st1),.string (BS (tkS st1)),.int .i64 (tkN st1)] 235)).trans hkb;have hlt2:=hr2.lt;obtain ⟨_,u3,_⟩:=hr2.ct;have nM1:¬rb=w2.heap.size:=(by omega);have nM2:¬rb=w2.heap.size+1:=(by omega);have nM3:¬w2.heap.size=rb:=(by omega);have nM4:¬w2.heap.size+1=rb:=(by omega);have HR2:=j4 hr2;have HK2:=j4 hk2;clear hb2 hv0 hr0 hkb hv2 hr2 hk2)|(go_at_call 215;(first|refine (qh0 (q9 HR2)).mono ?_|refine (qh0 (((q9 HR2).alloc _).alloc _)).mono ?_);rintro e w' ⟨rfl,hw'⟩;subst w';simp only [hi14,hi7,hi10,hi11,hi12])|(go_at_call 324;refine (vj5 rb s hs op (m+1) (by omega) _ st1 ns new j l (((q9 HR2).alloc _).alloc _) ho1 (q9 HKc) (q9 HFL) i0 (q9 HI0).symm w2.heap.size ((VN.new (q9 HR2) 3 #[.int .i64 i0] rfl).alloc (by simp;omega) _) false 0).mono ?_;rintro e w5 h5;obtain ⟨v5,rfl⟩:=h5.ret;have H5:=j4 h5;clear h5))
 go_ret
 have:=q9 H5
 rw [va8] at this
 exact (this.from (((q9 HK2).alloc hlt _).alloc hlt _) hp1).d
theorem jm2 (rb:Nat) (s:ByteArray) (op m:Nat) (f:St→Res) (w:World) (st:St) (ns:List RN) (j:Nat) (l:Ast) (st1:St) (T:T1 rb s op m f w st ns j l st1) (hb:qe6 st l=true) (hk12:st1.tk.kind=12) :
  Calls Tryz.prog 294 #[.pointer (some ⟨rb,0,none⟩)] w (DEnds rb s w op (m+1) ns j st.place (qb6 s l st1)):=by
 obtain ⟨hs,hm,hm',hf,eS,h,ho,hres⟩:=T
 obtain ⟨k2,_⟩:=h.ct
 have hlt:=h.lt
 have HC:=j4 (hf w st ns j h ho)
 have HF:=j4 hf
 have ES:=j4 eS
 have HRES:=j4 hres
 obtain ⟨b0,hb0⟩:∃b:Bool,(opA l==0)=b:=⟨_,rfl⟩
 have HB0:=j4 hb0
 have hcmp:decide (16≤st1.tk.kind∧st1.tk.kind≤21)=false:=decide_eq_false (by omega)
 have hbare:qe6 st l=(rK st.tk.kind==2&&b0):=by unfold qe6;rw [rK_2,hb0]
 rw [hbare,Bool.and_eq_true] at hb
 obtain ⟨q2,rfl⟩:=hb
 clear hbare
 have hi14:(rK st1.tk.kind==6&&((BS (tkS st1)).toList==(⟨#[73,83]⟩:ByteArray).toList))=false:=(isK (c:=14) rfl (by decide) (by decide) 6 rfl).trans (beq_eq_false_iff_ne.2 (by omega))
 have hi7:(rK st1.tk.kind==6&&((BS (tkS st1)).toList==(⟨#[78,79,84]⟩:ByteArray).toList))=false:=(isK (c:=7) rfl (by decide) (by decide) 6 rfl).trans (beq_eq_false_iff_ne.2 (by omega))
 have hi10:(rK st1.tk.kind==6&&((BS (tkS st1)).toList==(⟨#[66,69,84,87,69,69,78]⟩:ByteArray).toList))=false:=(isK (c:=10) rfl (by decide) (by decide) 6 rfl).trans (beq_eq_false_iff_ne.2 (by omega))
 have hi11:(rK st1.tk.kind==6&&((BS (tkS st1)).toList==(⟨#[73,78]⟩:ByteArray).toList))=false:=(isK (c:=11) rfl (by decide) (by decide) 6 rfl).trans (beq_eq_false_iff_ne.2 (by omega))
 have hi12:(rK st1.tk.kind==6&&((BS (tkS st1)).toList==(⟨#[76,73,75,69]⟩:ByteArray).toList))=true:=(isK (c:=12) rfl (by decide) (by decide) 6 rfl).trans (by rw [hk12];rfl)
 have HKc:=j4 hk12
 clear hk12
 clear h hf eS hres
 go_enter Tryz.func294,Tryz.ntmps294
 go_wp2_with (first|(go_at_call 320;refine (q9 HC).mono ?_;rintro e w1 ⟨hk1,h1⟩;rw [q9 HRES] at h1;obtain ⟨new,he,hr1,ho1,hp1,hfl⟩:=h1;obtain ⟨i0,hi0⟩:∃k:Nat,ns.length+new.length - 1=k:=⟨_,rfl⟩;rw [hi0] at he;subst he;obtain ⟨gN,capN,LN,N,cN0,hLN,cN,hNm⟩:=hr1.opAt hfl hi0;rw [q9 HB0] at hNm;have c8:=hr1.c8;obtain ⟨t2,t3,t4,t5,t6⟩:=hr1.ct;have hlt1:=hr1.lt;have nL:¬rb=w1.heap.size:=(by omega);have nL':¬w1.heap.size=rb:=(by omega);have hgN:gN<w1.heap.size:=World.block_lt_of_cell? w1 _ cN;have HI0:=j4 hi0;have HR1:=j4 hr1;have HK1:=j4 hk1;have HFL:=j4 hfl;clear hk1 hr1 hfl hi0)|(go_at_call 321;refine (qc3 _ _ _ _ _ _).mono ?_;rintro e w2 ⟨rfl,hb2⟩;rw [qd4 st1,hcmp];have hv0:=VN.new (q9 HR1) 235 #[.int .i64 (rK st1.tk.kind),.int .i64 st1.place,.int .i64 (tkZ st1),.string (BS (tkS st1)),.int .i64 (tkN st1)] rfl;have hr0:=(q9 HR1).alloc (.cells #[.int .i64 (rK st1.tk.kind),.int .i64 st1.place,.int .i64 (tkZ st1),.string (BS (tkS st1)),.int .i64 (tkN st1)] 235);have hkb:=TKept.of_below hb2 hr0.lt;have hv2:=hv0.kept hkb;have hr2:=hr0.below hb2;have hk2:=((q9 HK1).alloc hlt (.cells #[.int .i64 (rK st1.tk.kind),.int .i64 st1.place,.int .i64 (tkZ st1),.string (BS (tkS st1)),.int .i64 (tkN st1)] 235)).trans hkb;have hlt2:=hr2.lt;obtain ⟨_,u3,_⟩:=hr2.ct;have nM1:¬rb=w2.heap.size:=(by omega);have nM2:¬rb=w2.heap.size+1:=(by omega);have nM3:¬w2.heap.size=rb:=(by omega);have nM4:¬w2.heap.size+1=rb:=(by omega);have HR2:=j4 hr2;have HK2:=j4 hk2;clear hb2 hv0 hr0 hkb hv2 hr2 hk2)|(go_at_call 215;(first|refine (qh0 (q9 HR2)).mono ?_|refine (qh0 (((q9 HR2).alloc _).alloc _)).mono ?_);rintro e w' ⟨rfl,hw'⟩;subst w';simp only [hi14,hi7,hi10,hi11,hi12])|(go_at_call 325;refine (vu8 rb s hs op (m+1) (by omega) _ st1 ns new j l (((q9 HR2).alloc _).alloc _) ho1 (q9 HKc) (q9 HFL) i0 (q9 HI0).symm w2.heap.size ((VN.new (q9 HR2) 3 #[.int .i64 i0] rfl).alloc (by simp;omega) _) false 0).mono ?_;rintro e w5 h5;obtain ⟨v5,rfl⟩:=h5.ret;have H5:=j4 h5;clear h5))
 go_ret
 have:=q9 H5
 rw [va8] at this
 exact (this.from (((q9 HK2).alloc hlt _).alloc hlt _) hp1).d
theorem vv4 (rb:Nat) (s:ByteArray) (op m:Nat) (f:St→Res) (w:World) (st:St) (ns:List RN) (j:Nat) (l:Ast) (st1:St) (T:T1 rb s op m f w st ns j l st1) (hb:qe6 st l=false) (hk11:st1.tk.kind=11) :
  Calls Tryz.prog 294 #[.pointer (some ⟨rb,0,none⟩)] w (DEnds rb s w op (m+1) ns j st.place (.err 2 st1.place)):=by
 obtain ⟨hs,hm,hm',hf,eS,h,ho,hres⟩:=T
 obtain ⟨k2,_⟩:=h.ct
 have hlt:=h.lt
 have HC:=j4 (hf w st ns j h ho)
 have HF:=j4 hf
 have ES:=j4 eS
 have HRES:=j4 hres
 obtain ⟨b0,hb0⟩:∃b:Bool,(opA l==0)=b:=⟨_,rfl⟩
 have HB0:=j4 hb0
 have hcmp:decide (16≤st1.tk.kind∧st1.tk.kind≤21)=false:=decide_eq_false (by omega)
 have hbare:qe6 st l=(rK st.tk.kind==2&&b0):=by unfold qe6;rw [rK_2,hb0]
 rw [hbare] at hb
 clear hbare
 have hi14:(rK st1.tk.kind==6&&((BS (tkS st1)).toList==(⟨#[73,83]⟩:ByteArray).toList))=false:=(isK (c:=14) rfl (by decide) (by decide) 6 rfl).trans (beq_eq_false_iff_ne.2 (by omega))
 have hi7:(rK st1.tk.kind==6&&((BS (tkS st1)).toList==(⟨#[78,79,84]⟩:ByteArray).toList))=false:=(isK (c:=7) rfl (by decide) (by decide) 6 rfl).trans (beq_eq_false_iff_ne.2 (by omega))
 have hi10:(rK st1.tk.kind==6&&((BS (tkS st1)).toList==(⟨#[66,69,84,87,69,69,78]⟩:ByteArray).toList))=false:=(isK (c:=10) rfl (by decide) (by decide) 6 rfl).trans (beq_eq_false_iff_ne.2 (by omega))
 have hi11:(rK st1.tk.kind==6&&((BS (tkS st1)).toList==(⟨#[73,78]⟩:ByteArray).toList))=true:=(isK (c:=11) rfl (by decide) (by decide) 6 rfl).trans (by rw [hk11];rfl)
 have hi12:(rK st1.tk.kind==6&&((BS (tkS st1)).toList==(⟨#[76,73,75,69]⟩:ByteArray).toList))=false:=(isK (c:=12) rfl (by decide) (by decide) 6 rfl).trans (beq_eq_false_iff_ne.2 (by omega))
 have HKc:=j4 hk11
 clear hk11
 clear h hf eS hres
 rcases (show (rK st.tk.kind==2)=false∨((rK st.tk.kind==2)=true∧b0=false) by revert hb;cases (rK st.tk.kind==2)<;>cases b0<;>simp) with q2|⟨q2,rfl⟩
 all_goals
  go_enter Tryz.func294,Tryz.ntmps294
  go_wp2_with (first|(go_at_call 320;refine (q9 HC).mono ?_;rintro e w1 ⟨hk1,h1⟩;rw [q9 HRES] at h1;obtain ⟨new,he,hr1,ho1,hp1,hfl⟩:=h1;obtain ⟨i0,hi0⟩:∃k:Nat,ns.length+new.length - 1=k:=⟨_,rfl⟩;rw [hi0] at he;subst he;obtain ⟨gN,capN,LN,N,cN0,hLN,cN,hNm⟩:=hr1.opAt hfl hi0;rw [q9 HB0] at hNm;have c8:=hr1.c8;obtain ⟨t2,t3,t4,t5,t6⟩:=hr1.ct;have hlt1:=hr1.lt;have nL:¬rb=w1.heap.size:=(by omega);have nL':¬w1.heap.size=rb:=(by omega);have hgN:gN<w1.heap.size:=World.block_lt_of_cell? w1 _ cN;have HI0:=j4 hi0;have HR1:=j4 hr1;have HK1:=j4 hk1;have HFL:=j4 hfl;clear hk1 hr1 hfl hi0)|(go_at_call 321;refine (qc3 _ _ _ _ _ _).mono ?_;rintro e w2 ⟨rfl,hb2⟩;rw [qd4 st1,hcmp];have hv0:=VN.new (q9 HR1) 235 #[.int .i64 (rK st1.tk.kind),.int .i64 st1.place,.int .i64 (tkZ st1),.string (BS (tkS st1)),.int .i64 (tkN st1)] rfl;have hr0:=(q9 HR1).alloc (.cells #[.int .i64 (rK st1.tk.kind),.int .i64 st1.place,.int .i64 (tkZ st1),.string (BS (tkS st1)),.int .i64 (tkN st1)] 235);have hkb:=TKept.of_below hb2 hr0.lt;have hv2:=hv0.kept hkb;have hr2:=hr0.below hb2;have hk2:=((q9 HK1).alloc hlt (.cells #[.int .i64 (rK st1.tk.kind),.int .i64 st1.place,.int .i64 (tkZ st1),.string (BS (tkS st1)),.int .i64 (tkN st1)] 235)).trans hkb;have hlt2:=hr2.lt;obtain ⟨_,u3,_⟩:=hr2.ct;have nM1:¬rb=w2.heap.size:=(by omega);have nM2:¬rb=w2.heap.size+1:=(by omega);have nM3:¬w2.heap.size=rb:=(by omega);have nM4:¬w2.heap.size+1=rb:=(by omega);have HR2:=j4 hr2;have HK2:=j4 hk2;clear hb2 hv0 hr0 hkb hv2 hr2 hk2)|(go_at_call 215;(first|refine (qh0 (q9 HR2)).mono ?_|refine (qh0 (((q9 HR2).alloc _).alloc _)).mono ?_);rintro e w' ⟨rfl,hw'⟩;subst w';simp only [hi14,hi7,hi10,hi11,hi12]))
  go_ret
  exact ⟨(((q9 HK2).alloc hlt _).alloc hlt _),i0,rfl,.inr ⟨rfl,(((q9 HR2).alloc _).alloc _).rd (by have:=q9 HKc;omega) ho1 hs (by omega) hp1⟩⟩
theorem vv5 (rb:Nat) (s:ByteArray) (op m:Nat) (f:St→Res) (w:World) (st:St) (ns:List RN) (j:Nat) (l:Ast) (st1:St) (T:T1 rb s op m f w st ns j l st1) (hb:qe6 st l=false) (hk12:st1.tk.kind=12) :
  Calls Tryz.prog 294 #[.pointer (some ⟨rb,0,none⟩)] w (DEnds rb s w op (m+1) ns j st.place (.err 2 st1.place)):=by
 obtain ⟨hs,hm,hm',hf,eS,h,ho,hres⟩:=T
 obtain ⟨k2,_⟩:=h.ct
 have hlt:=h.lt
 have HC:=j4 (hf w st ns j h ho)
 have HF:=j4 hf
 have ES:=j4 eS
 have HRES:=j4 hres
 obtain ⟨b0,hb0⟩:∃b:Bool,(opA l==0)=b:=⟨_,rfl⟩
 have HB0:=j4 hb0
 have hcmp:decide (16≤st1.tk.kind∧st1.tk.kind≤21)=false:=decide_eq_false (by omega)
 have hbare:qe6 st l=(rK st.tk.kind==2&&b0):=by unfold qe6;rw [rK_2,hb0]
 rw [hbare] at hb
 clear hbare
 have hi14:(rK st1.tk.kind==6&&((BS (tkS st1)).toList==(⟨#[73,83]⟩:ByteArray).toList))=false:=(isK (c:=14) rfl (by decide) (by decide) 6 rfl).trans (beq_eq_false_iff_ne.2 (by omega))
 have hi7:(rK st1.tk.kind==6&&((BS (tkS st1)).toList==(⟨#[78,79,84]⟩:ByteArray).toList))=false:=(isK (c:=7) rfl (by decide) (by decide) 6 rfl).trans (beq_eq_false_iff_ne.2 (by omega))
 have hi10:(rK st1.tk.kind==6&&((BS (tkS st1)).toList==(⟨#[66,69,84,87,69,69,78]⟩:ByteArray).toList))=false:=(isK (c:=10) rfl (by decide) (by decide) 6 rfl).trans (beq_eq_false_iff_ne.2 (by omega))
 have hi11:(rK st1.tk.kind==6&&((BS (tkS st1)).toList==(⟨#[73,78]⟩:ByteArray).toList))=false:=(isK (c:=11) rfl (by decide) (by decide) 6 rfl).trans (beq_eq_false_iff_ne.2 (by omega))
 have hi12:(rK st1.tk.kind==6&&((BS (tkS st1)).toList==(⟨#[76,73,75,69]⟩:ByteArray).toList))=true:=(isK (c:=12) rfl (by decide) (by decide) 6 rfl).trans (by rw [hk12];rfl)
 have HKc:=j4 hk12
 clear hk12
 clear h hf eS hres
 rcases (show (rK st.tk.kind==2)=false∨((rK st.tk.kind==2)=true∧b0=false) by revert hb;cases (rK st.tk.kind==2)<;>cases b0<;>simp) with q2|⟨q2,rfl⟩
 all_goals
  go_enter Tryz.func294,Tryz.ntmps294
  go_wp2_with (first|(go_at_call 320;refine (q9 HC).mono ?_;rintro e w1 ⟨hk1,h1⟩;rw [q9 HRES] at h1;obtain ⟨new,he,hr1,ho1,hp1,hfl⟩:=h1;obtain ⟨i0,hi0⟩:∃k:Nat,ns.length+new.length - 1=k:=⟨_,rfl⟩;rw [hi0] at he;subst he;obtain ⟨gN,capN,LN,N,cN0,hLN,cN,hNm⟩:=hr1.opAt hfl hi0;rw [q9 HB0] at hNm;have c8:=hr1.c8;obtain ⟨t2,t3,t4,t5,t6⟩:=hr1.ct;have hlt1:=hr1.lt;have nL:¬rb=w1.heap.size:=(by omega);have nL':¬w1.heap.size=rb:=(by omega);have hgN:gN<w1.heap.size:=World.block_lt_of_cell? w1 _ cN;have HI0:=j4 hi0;have HR1:=j4 hr1;have HK1:=j4 hk1;have HFL:=j4 hfl;clear hk1 hr1 hfl hi0)|(go_at_call 321;refine (qc3 _ _ _ _ _ _).mono ?_;rintro e w2 ⟨rfl,hb2⟩;rw [qd4 st1,hcmp];have hv0:=VN.new (q9 HR1) 235 #[.int .i64 (rK st1.tk.kind),.int .i64 st1.place,.int .i64 (tkZ st1),.string (BS (tkS st1)),.int .i64 (tkN st1)] rfl;have hr0:=(q9 HR1).alloc (.cells #[.int .i64 (rK st1.tk.kind),.int .i64 st1.place,.int .i64 (tkZ st1),.string (BS (tkS st1)),.int .i64 (tkN st1)] 235);have hkb:=TKept.of_below hb2 hr0.lt;have hv2:=hv0.kept hkb;have hr2:=hr0.below hb2;have hk2:=((q9 HK1).alloc hlt (.cells #[.int .i64 (rK st1.tk.kind),.int .i64 st1.place,.int .i64 (tkZ st1),.string (BS (tkS st1)),.int .i64 (tkN st1)] 235)).trans hkb;have hlt2:=hr2.lt;obtain ⟨_,u3,_⟩:=hr2.ct;have nM1:¬rb=w2.heap.size:=(by omega);have nM2:¬rb=w2.heap.size+1:=(by omega);have nM3:¬w2.heap.size=rb:=(by omega);have nM4:¬w2.heap.size+1=rb:=(by omega);have HR2:=j4 hr2;have HK2:=j4 hk2;clear hb2 hv0 hr0 hkb hv2 hr2 hk2)|(go_at_call 215;(first|refine (qh0 (q9 HR2)).mono ?_|refine (qh0 (((q9 HR2).alloc _).alloc _)).mono ?_);rintro e w' ⟨rfl,hw'⟩;subst w';simp only [hi14,hi7,hi10,hi11,hi12]))
  go_ret
  exact ⟨(((q9 HK2).alloc hlt _).alloc hlt _),i0,rfl,.inr ⟨rfl,(((q9 HR2).alloc _).alloc _).rd (by have:=q9 HKc;omega) ho1 hs (by omega) hp1⟩⟩
end
section
theorem REnds.slack {rb:Nat} {s:ByteArray} {w w':World} {op m:Nat} {ns:List RN} {j j' lo:Nat} {r:Res} {e:Ending} (h:REnds rb s w op m ns j lo r e w') (hj:j'≤j):REnds rb s w op m ns j' lo r e w':=by
 obtain ⟨hk,h⟩:=h
 refine ⟨hk, ?_⟩
 cases r with
 | ok t st=>obtain ⟨new,h1,h2,h3⟩:=h;exact ⟨new,h1,h2.less hj,h3⟩
 | err en pl=>exact h
theorem vi3 (rb:Nat) (s:ByteArray) (op m:Nat) (f:St→Res) (w:World) (st:St) (ns:List RN) (j:Nat) (l:Ast) (st1:St) (T:T1 rb s op m f w st ns j l st1) (hk7:st1.tk.kind=7) (hk210:(j3 s st1).tk.kind=10) :
  Calls Tryz.prog 294 #[.pointer (some ⟨rb,0,none⟩)] w (DEnds rb s w op (m+1) ns j st.place (negR true st1.place (qa8 s f l (j3 s st1)))):=by
 obtain ⟨hs,hm,hm',hf,eS,h,ho,hres⟩:=T
 obtain ⟨k2,_⟩:=h.ct
 have hlt:=h.lt
 have HC:=j4 (hf w st ns j h ho)
 have HF:=j4 hf
 have ES:=j4 eS
 have HRES:=j4 hres
 obtain ⟨b0,hb0⟩:∃b:Bool,(opA l==0)=b:=⟨_,rfl⟩
 have HB0:=j4 hb0
 have hcmp:decide (16≤st1.tk.kind∧st1.tk.kind≤21)=false:=decide_eq_false (by omega)
 have hi14:(rK st1.tk.kind==6&&((BS (tkS st1)).toList==(⟨#[73,83]⟩:ByteArray).toList))=false:=(isK (c:=14) rfl (by decide) (by decide) 6 rfl).trans (beq_eq_false_iff_ne.2 (by omega))
 have hi7:(rK st1.tk.kind==6&&((BS (tkS st1)).toList==(⟨#[78,79,84]⟩:ByteArray).toList))=true:=(isK (c:=7) rfl (by decide) (by decide) 6 rfl).trans (by rw [hk7];rfl)
 have hj10:(rK (j3 s st1).tk.kind==6&&((BS (tkS (j3 s st1))).toList==(⟨#[66,69,84,87,69,69,78]⟩:ByteArray).toList))=true:=(isK (c:=10) rfl (by decide) (by decide) 6 rfl).trans (by rw [hk210];rfl)
 have hj11:(rK (j3 s st1).tk.kind==6&&((BS (tkS (j3 s st1))).toList==(⟨#[73,78]⟩:ByteArray).toList))=false:=(isK (c:=11) rfl (by decide) (by decide) 6 rfl).trans (beq_eq_false_iff_ne.2 (by omega))
 have hj12:(rK (j3 s st1).tk.kind==6&&((BS (tkS (j3 s st1))).toList==(⟨#[76,73,75,69]⟩:ByteArray).toList))=false:=(isK (c:=12) rfl (by decide) (by decide) 6 rfl).trans (beq_eq_false_iff_ne.2 (by omega))
 have HKc:=j4 hk7
 clear hk7
 have HK2c:=j4 hk210
 clear hk210
 clear h hf eS hres
 rcases (show (rK st.tk.kind==2)=false∨((rK st.tk.kind==2)=true∧b0=false)∨((rK st.tk.kind==2)=true∧b0=true) by cases (rK st.tk.kind==2)<;>cases b0<;>simp) with q2|⟨q2,rfl⟩|⟨q2,rfl⟩
 all_goals
  go_enter Tryz.func294,Tryz.ntmps294
  go_wp2_with (first|(go_at_call 320;refine (q9 HC).mono ?_;rintro e w1 ⟨hk1,h1⟩;rw [q9 HRES] at h1;obtain ⟨new,he,hr1,ho1,hp1,hfl⟩:=h1;obtain ⟨i0,hi0⟩:∃k:Nat,ns.length+new.length - 1=k:=⟨_,rfl⟩;rw [hi0] at he;subst he;obtain ⟨gN,capN,LN,N,cN0,hLN,cN,hNm⟩:=hr1.opAt hfl hi0;rw [q9 HB0] at hNm;have c8:=hr1.c8;obtain ⟨t2,t3,t4,t5,t6⟩:=hr1.ct;have hlt1:=hr1.lt;have nL:¬rb=w1.heap.size:=(by omega);have nL':¬w1.heap.size=rb:=(by omega);have hgN:gN<w1.heap.size:=World.block_lt_of_cell? w1 _ cN;have HI0:=j4 hi0;have HR1:=j4 hr1;have HK1:=j4 hk1;have HFL:=j4 hfl;clear hk1 hr1 hfl hi0)|(go_at_call 321;refine (qc3 _ _ _ _ _ _).mono ?_;rintro e w2 ⟨rfl,hb2⟩;rw [qd4 st1,hcmp];have hv0:=VN.new (q9 HR1) 235 #[.int .i64 (rK st1.tk.kind),.int .i64 st1.place,.int .i64 (tkZ st1),.string (BS (tkS st1)),.int .i64 (tkN st1)] rfl;have hr0:=(q9 HR1).alloc (.cells #[.int .i64 (rK st1.tk.kind),.int .i64 st1.place,.int .i64 (tkZ st1),.string (BS (tkS st1)),.int .i64 (tkN st1)] 235);have hkb:=TKept.of_below hb2 hr0.lt;have hv2:=hv0.kept hkb;have hr2:=hr0.below hb2;have hk2:=((q9 HK1).alloc hlt (.cells #[.int .i64 (rK st1.tk.kind),.int .i64 st1.place,.int .i64 (tkZ st1),.string (BS (tkS st1)),.int .i64 (tkN st1)] 235)).trans hkb;have hlt2:=hr2.lt;obtain ⟨_,u3,_⟩:=hr2.ct;have nM1:¬rb=w2.heap.size:=(by omega);have nM2:¬rb=w2.heap.size+1:=(by omega);have nM3:¬w2.heap.size=rb:=(by omega);have nM4:¬w2.heap.size+1=rb:=(by omega);have HR2:=j4 hr2;have HK2:=j4 hk2;clear hb2 hv0 hr0 hkb hv2 hr2 hk2)|(go_at_call 215;(first|refine (qh0 (q9 HR4)).mono ?_|refine (qh0 (q9 HR2)).mono ?_|refine (qh0 (((q9 HR2).alloc _).alloc _)).mono ?_);rintro e w' ⟨rfl,hw'⟩;subst w';simp only [hi14,hi7,hj10,hj11,hj12])|(go_at_call 172;have hr2':RT ((w2.alloc (.cells #[.int .i64 i0] 3)).alloc (.cells #[.string ⟨#[]⟩,.int .i64 0,.slice (some ⟨w2.heap.size,0,none⟩) 1 1,.string ⟨#[]⟩,.string ⟨#[]⟩,.slice none 0 0,.int .i64 0,.bool true,.int .i64 0] 241)) rb s (ns++new) j st1:=((q9 HR2).alloc _).alloc _;refine (qa6 hr2' hs (by have:=q9 HKc;omega) (by have:=q9 HKc;omega)).mono ?_;rintro e w3 ⟨rfl,hk3,hr3⟩;have hg0:VN ((w2.alloc (.cells #[.int .i64 i0] 3)).alloc (.cells #[.string ⟨#[]⟩,.int .i64 0,.slice (some ⟨w2.heap.size,0,none⟩) 1 1,.string ⟨#[]⟩,.string ⟨#[]⟩,.slice none 0 0,.int .i64 0,.bool true,.int .i64 0] 241)) rb w2.heap.size 3 #[.int .i64 i0]:=(VN.new (q9 HR2) 3 #[.int .i64 i0] rfl).alloc (by simp;omega) _;have hv0:VN ((w2.alloc (.cells #[.int .i64 i0] 3)).alloc (.cells #[.string ⟨#[]⟩,.int .i64 0,.slice (some ⟨w2.heap.size,0,none⟩) 1 1,.string ⟨#[]⟩,.string ⟨#[]⟩,.slice none 0 0,.int .i64 0,.bool true,.int .i64 0] 241)) rb (w2.heap.size+1) 241 #[.string ⟨#[]⟩,.int .i64 0,.slice (some ⟨w2.heap.size,0,none⟩) 1 1,.string ⟨#[]⟩,.string ⟨#[]⟩,.slice none 0 0,.int .i64 0,.bool true,.int .i64 0]:=VN.new ((q9 HR2).alloc _) _ _ (by simp);have hv3:=hv0.kept hk3;have hg3:=hg0.kept hk3;have hL3:=hv3.lt;have hlt3:=hr3.lt;obtain ⟨_,u33,_⟩:=hr3.ct;have y0:w3.cell? ⟨w2.heap.size+1,0,none⟩=some (.string ⟨#[]⟩):=hv3.cell 0;have y1:w3.cell? ⟨w2.heap.size+1,1,none⟩=some (.int .i64 0):=hv3.cell 1;have y2:w3.cell? ⟨w2.heap.size+1,2,none⟩=some (.slice (some ⟨w2.heap.size,0,none⟩) 1 1):=hv3.cell 2;have y3:w3.cell? ⟨w2.heap.size+1,3,none⟩=some (.string ⟨#[]⟩):=hv3.cell 3;have y4:w3.cell? ⟨w2.heap.size+1,4,none⟩=some (.string ⟨#[]⟩):=hv3.cell 4;have y5:w3.cell? ⟨w2.heap.size+1,5,none⟩=some (.slice none 0 0):=hv3.cell 5;have y6:w3.cell? ⟨w2.heap.size+1,6,none⟩=some (.int .i64 0):=hv3.cell 6;have y7:w3.cell? ⟨w2.heap.size+1,7,none⟩=some (.bool true):=hv3.cell 7;have y8:w3.cell? ⟨w2.heap.size+1,8,none⟩=some (.int .i64 0):=hv3.cell 8;have yz:∀i,w3.frozen? ⟨w2.heap.size+1,i,none⟩=false:=hv3.frz;have hpp:=(q9 HR1).fine.step_place (by have:=q9 HKc;omega);have HR4:=j4 (hv3.rt (by decide) (by decide) hr3 1 (.int .i64 (j3 s st1).place));have HG4:=j4 (hg3.setB (by omega) nM4 1 (.int .i64 (j3 s st1).place));have HK4:=j4 ((((((q9 HK2).alloc hlt _).alloc hlt _).trans hk3).far hlt (p:=⟨w2.heap.size+1,1,none⟩) (by show w.heap.size≤w2.heap.size+1;have:=(q9 HK2).size;omega) (.int .i64 (j3 s st1).place)));clear hk3 hr3 hv0 hg0 hv3 hg3 hr2')|(go_at_call 323;refine (vc2 rb s hs op m hm hm' f (q9 HF) (q9 ES) _ (j3 s st1) ns new (j+1) l (q9 HR4) ho1 (q9 HK2c) (q9 HFL) i0 (q9 HI0).symm w2.heap.size (q9 HG4) true st1.place).mono ?_;rintro e w5 h5;obtain ⟨v5,rfl⟩:=h5.ret;have H5:=j4 h5;clear h5))
  go_ret
  exact (((q9 H5).slack (by omega)).from (q9 HK4) (by omega)).d
theorem rtest_nin (rb:Nat) (s:ByteArray) (op m:Nat) (f:St→Res) (w:World) (st:St) (ns:List RN) (j:Nat) (l:Ast) (st1:St) (T:T1 rb s op m f w st ns j l st1) (hb:qe6 st l=true) (hk7:st1.tk.kind=7) (hk211:(j3 s st1).tk.kind=11) :
  Calls Tryz.prog 294 #[.pointer (some ⟨rb,0,none⟩)] w (DEnds rb s w op (m+1) ns j st.place (negR true st1.place (qh5 s l (j3 s st1)))):=by
 obtain ⟨hs,hm,hm',hf,eS,h,ho,hres⟩:=T
 obtain ⟨k2,_⟩:=h.ct
 have hlt:=h.lt
 have HC:=j4 (hf w st ns j h ho)
 have HF:=j4 hf
 have ES:=j4 eS
 have HRES:=j4 hres
 obtain ⟨b0,hb0⟩:∃b:Bool,(opA l==0)=b:=⟨_,rfl⟩
 have HB0:=j4 hb0
 have hcmp:decide (16≤st1.tk.kind∧st1.tk.kind≤21)=false:=decide_eq_false (by omega)
 have hbare:qe6 st l=(rK st.tk.kind==2&&b0):=by unfold qe6;rw [rK_2,hb0]
 rw [hbare,Bool.and_eq_true] at hb
 obtain ⟨q2,rfl⟩:=hb
 clear hbare
 have hi14:(rK st1.tk.kind==6&&((BS (tkS st1)).toList==(⟨#[73,83]⟩:ByteArray).toList))=false:=(isK (c:=14) rfl (by decide) (by decide) 6 rfl).trans (beq_eq_false_iff_ne.2 (by omega))
 have hi7:(rK st1.tk.kind==6&&((BS (tkS st1)).toList==(⟨#[78,79,84]⟩:ByteArray).toList))=true:=(isK (c:=7) rfl (by decide) (by decide) 6 rfl).trans (by rw [hk7];rfl)
 have hj10:(rK (j3 s st1).tk.kind==6&&((BS (tkS (j3 s st1))).toList==(⟨#[66,69,84,87,69,69,78]⟩:ByteArray).toList))=false:=(isK (c:=10) rfl (by decide) (by decide) 6 rfl).trans (beq_eq_false_iff_ne.2 (by omega))
 have hj11:(rK (j3 s st1).tk.kind==6&&((BS (tkS (j3 s st1))).toList==(⟨#[73,78]⟩:ByteArray).toList))=true:=(isK (c:=11) rfl (by decide) (by decide) 6 rfl).trans (by rw [hk211];rfl)
 have hj12:(rK (j3 s st1).tk.kind==6&&((BS (tkS (j3 s st1))).toList==(⟨#[76,73,75,69]⟩:ByteArray).toList))=false:=(isK (c:=12) rfl (by decide) (by decide) 6 rfl).trans (beq_eq_false_iff_ne.2 (by omega))
 have HKc:=j4 hk7
 clear hk7
 have HK2c:=j4 hk211
 clear hk211
 clear h hf eS hres
 go_enter Tryz.func294,Tryz.ntmps294
 go_wp2_with (first|(go_at_call 320;refine (q9 HC).mono ?_;rintro e w1 ⟨hk1,h1⟩;rw [q9 HRES] at h1;obtain ⟨new,he,hr1,ho1,hp1,hfl⟩:=h1;obtain ⟨i0,hi0⟩:∃k:Nat,ns.length+new.length - 1=k:=⟨_,rfl⟩;rw [hi0] at he;subst he;obtain ⟨gN,capN,LN,N,cN0,hLN,cN,hNm⟩:=hr1.opAt hfl hi0;rw [q9 HB0] at hNm;have c8:=hr1.c8;obtain ⟨t2,t3,t4,t5,t6⟩:=hr1.ct;have hlt1:=hr1.lt;have nL:¬rb=w1.heap.size:=(by omega);have nL':¬w1.heap.size=rb:=(by omega);have hgN:gN<w1.heap.size:=World.block_lt_of_cell? w1 _ cN;have HI0:=j4 hi0;have HR1:=j4 hr1;have HK1:=j4 hk1;have HFL:=j4 hfl;clear hk1 hr1 hfl hi0)|(go_at_call 321;refine (qc3 _ _ _ _ _ _).mono ?_;rintro e w2 ⟨rfl,hb2⟩;rw [qd4 st1,hcmp];have hv0:=VN.new (q9 HR1) 235 #[.int .i64 (rK st1.tk.kind),.int .i64 st1.place,.int .i64 (tkZ st1),.string (BS (tkS st1)),.int .i64 (tkN st1)] rfl;have hr0:=(q9 HR1).alloc (.cells #[.int .i64 (rK st1.tk.kind),.int .i64 st1.place,.int .i64 (tkZ st1),.string (BS (tkS st1)),.int .i64 (tkN st1)] 235);have hkb:=TKept.of_below hb2 hr0.lt;have hv2:=hv0.kept hkb;have hr2:=hr0.below hb2;have hk2:=((q9 HK1).alloc hlt (.cells #[.int .i64 (rK st1.tk.kind),.int .i64 st1.place,.int .i64 (tkZ st1),.string (BS (tkS st1)),.int .i64 (tkN st1)] 235)).trans hkb;have hlt2:=hr2.lt;obtain ⟨_,u3,_⟩:=hr2.ct;have nM1:¬rb=w2.heap.size:=(by omega);have nM2:¬rb=w2.heap.size+1:=(by omega);have nM3:¬w2.heap.size=rb:=(by omega);have nM4:¬w2.heap.size+1=rb:=(by omega);have HR2:=j4 hr2;have HK2:=j4 hk2;clear hb2 hv0 hr0 hkb hv2 hr2 hk2)|(go_at_call 215;(first|refine (qh0 (q9 HR4)).mono ?_|refine (qh0 (q9 HR2)).mono ?_|refine (qh0 (((q9 HR2).alloc _).alloc _)).mono ?_);rintro e w' ⟨rfl,hw'⟩;subst w';simp only [hi14,hi7,hj10,hj11,hj12])|(go_at_call 172;have hr2':RT ((w2.alloc (.cells #[.int .i64 i0] 3)).alloc (.cells #[.string ⟨#[]⟩,.int .i64 0,.slice (some ⟨w2.heap.size,0,none⟩) 1 1,.string ⟨#[]⟩,.string ⟨#[]⟩,.slice none 0 0,.int .i64 0,.bool true,.int .i64 0] 241)) rb s (ns++new) j st1:=((q9 HR2).alloc _).alloc _;refine (qa6 hr2' hs (by have:=q9 HKc;omega) (by have:=q9 HKc;omega)).mono ?_;rintro e w3 ⟨rfl,hk3,hr3⟩;have hg0:VN ((w2.alloc (.cells #[.int .i64 i0] 3)).alloc (.cells #[.string ⟨#[]⟩,.int .i64 0,.slice (some ⟨w2.heap.size,0,none⟩) 1 1,.string ⟨#[]⟩,.string ⟨#[]⟩,.slice none 0 0,.int .i64 0,.bool true,.int .i64 0] 241)) rb w2.heap.size 3 #[.int .i64 i0]:=(VN.new (q9 HR2) 3 #[.int .i64 i0] rfl).alloc (by simp;omega) _;have hv0:VN ((w2.alloc (.cells #[.int .i64 i0] 3)).alloc (.cells #[.string ⟨#[]⟩,.int .i64 0,.slice (some ⟨w2.heap.size,0,none⟩) 1 1,.string ⟨#[]⟩,.string ⟨#[]⟩,.slice none 0 0,.int .i64 0,.bool true,.int .i64 0] 241)) rb (w2.heap.size+1) 241 #[.string ⟨#[]⟩,.int .i64 0,.slice (some ⟨w2.heap.size,0,none⟩) 1 1,.string ⟨#[]⟩,.string ⟨#[]⟩,.slice none 0 0,.int .i64 0,.bool true,.int .i64 0]:=VN.new ((q9 HR2).alloc _) _ _ (by simp);have hv3:=hv0.kept hk3;have hg3:=hg0.kept hk3;have hL3:=hv3.lt;have hlt3:=hr3.lt;obtain ⟨_,u33,_⟩:=hr3.ct;have y0:w3.cell? ⟨w2.heap.size+1,0,none⟩=some (.string ⟨#[]⟩):=hv3.cell 0;have y1:w3.cell? ⟨w2.heap.size+1,1,none⟩=some (.int .i64 0):=hv3.cell 1;have y2:w3.cell? ⟨w2.heap.size+1,2,none⟩=some (.slice (some ⟨w2.heap.size,0,none⟩) 1 1):=hv3.cell 2;have y3:w3.cell? ⟨w2.heap.size+1,3,none⟩=some (.string ⟨#[]⟩):=hv3.cell 3;have y4:w3.cell? ⟨w2.heap.size+1,4,none⟩=some (.string ⟨#[]⟩):=hv3.cell 4;have y5:w3.cell? ⟨w2.heap.size+1,5,none⟩=some (.slice none 0 0):=hv3.cell 5;have y6:w3.cell? ⟨w2.heap.size+1,6,none⟩=some (.int .i64 0):=hv3.cell 6;have y7:w3.cell? ⟨w2.heap.size+1,7,none⟩=some (.bool true):=hv3.cell 7;have y8:w3.cell? ⟨w2.heap.size+1,8,none⟩=some (.int .i64 0):=hv3.cell 8;have yz:∀i,w3.frozen? ⟨w2.heap.size+1,i,none⟩=false:=hv3.frz;have hpp:=(q9 HR1).fine.step_place (by have:=q9 HKc;omega);have HR4:=j4 (hv3.rt (by decide) (by decide) hr3 1 (.int .i64 (j3 s st1).place));have HG4:=j4 (hg3.setB (by omega) nM4 1 (.int .i64 (j3 s st1).place));have HK4:=j4 ((((((q9 HK2).alloc hlt _).alloc hlt _).trans hk3).far hlt (p:=⟨w2.heap.size+1,1,none⟩) (by show w.heap.size≤w2.heap.size+1;have:=(q9 HK2).size;omega) (.int .i64 (j3 s st1).place)));clear hk3 hr3 hv0 hg0 hv3 hg3 hr2')|(go_at_call 324;refine (vj5 rb s hs op (m+1) (by omega) _ (j3 s st1) ns new (j+1) l (q9 HR4) ho1 (q9 HK2c) (q9 HFL) i0 (q9 HI0).symm w2.heap.size (q9 HG4) true st1.place).mono ?_;rintro e w5 h5;obtain ⟨v5,rfl⟩:=h5.ret;have H5:=j4 h5;clear h5))
 go_ret
 exact (((q9 H5).slack (by omega)).from (q9 HK4) (by omega)).d
theorem jc0 (rb:Nat) (s:ByteArray) (op m:Nat) (f:St→Res) (w:World) (st:St) (ns:List RN) (j:Nat) (l:Ast) (st1:St) (T:T1 rb s op m f w st ns j l st1) (hb:qe6 st l=true) (hk7:st1.tk.kind=7) (hk212:(j3 s st1).tk.kind=12) :
  Calls Tryz.prog 294 #[.pointer (some ⟨rb,0,none⟩)] w (DEnds rb s w op (m+1) ns j st.place (negR true st1.place (qb6 s l (j3 s st1)))):=by
 obtain ⟨hs,hm,hm',hf,eS,h,ho,hres⟩:=T
 obtain ⟨k2,_⟩:=h.ct
 have hlt:=h.lt
 have HC:=j4 (hf w st ns j h ho)
 have HF:=j4 hf
 have ES:=j4 eS
 have HRES:=j4 hres
 obtain ⟨b0,hb0⟩:∃b:Bool,(opA l==0)=b:=⟨_,rfl⟩
 have HB0:=j4 hb0
 have hcmp:decide (16≤st1.tk.kind∧st1.tk.kind≤21)=false:=decide_eq_false (by omega)
 have hbare:qe6 st l=(rK st.tk.kind==2&&b0):=by unfold qe6;rw [rK_2,hb0]
 rw [hbare,Bool.and_eq_true] at hb
 obtain ⟨q2,rfl⟩:=hb
 clear hbare
 have hi14:(rK st1.tk.kind==6&&((BS (tkS st1)).toList==(⟨#[73,83]⟩:ByteArray).toList))=false:=(isK (c:=14) rfl (by decide) (by decide) 6 rfl).trans (beq_eq_false_iff_ne.2 (by omega))
 have hi7:(rK st1.tk.kind==6&&((BS (tkS st1)).toList==(⟨#[78,79,84]⟩:ByteArray).toList))=true:=(isK (c:=7) rfl (by decide) (by decide) 6 rfl).trans (by rw [hk7];rfl)
 have hj10:(rK (j3 s st1).tk.kind==6&&((BS (tkS (j3 s st1))).toList==(⟨#[66,69,84,87,69,69,78]⟩:ByteArray).toList))=false:=(isK (c:=10) rfl (by decide) (by decide) 6 rfl).trans (beq_eq_false_iff_ne.2 (by omega))
 have hj11:(rK (j3 s st1).tk.kind==6&&((BS (tkS (j3 s st1))).toList==(⟨#[73,78]⟩:ByteArray).toList))=false:=(isK (c:=11) rfl (by decide) (by decide) 6 rfl).trans (beq_eq_false_iff_ne.2 (by omega))
 have hj12:(rK (j3 s st1).tk.kind==6&&((BS (tkS (j3 s st1))).toList==(⟨#[76,73,75,69]⟩:ByteArray).toList))=true:=(isK (c:=12) rfl (by decide) (by decide) 6 rfl).trans (by rw [hk212];rfl)
 have HKc:=j4 hk7
 clear hk7
 have HK2c:=j4 hk212
 clear hk212
 clear h hf eS hres
 go_enter Tryz.func294,Tryz.ntmps294
 go_wp2_with (first|(go_at_call 320;refine (q9 HC).mono ?_;rintro e w1 ⟨hk1,h1⟩;rw [q9 HRES] at h1;obtain ⟨new,he,hr1,ho1,hp1,hfl⟩:=h1;obtain ⟨i0,hi0⟩:∃k:Nat,ns.length+new.length - 1=k:=⟨_,rfl⟩;rw [hi0] at he;subst he;obtain ⟨gN,capN,LN,N,cN0,hLN,cN,hNm⟩:=hr1.opAt hfl hi0;rw [q9 HB0] at hNm;have c8:=hr1.c8;obtain ⟨t2,t3,t4,t5,t6⟩:=hr1.ct;have hlt1:=hr1.lt;have nL:¬rb=w1.heap.size:=(by omega);have nL':¬w1.heap.size=rb:=(by omega);have hgN:gN<w1.heap.size:=World.block_lt_of_cell? w1 _ cN;have HI0:=j4 hi0;have HR1:=j4 hr1;have HK1:=j4 hk1;have HFL:=j4 hfl;clear hk1 hr1 hfl hi0)|(go_at_call 321;refine (qc3 _ _ _ _ _ _).mono ?_;rintro e w2 ⟨rfl,hb2⟩;rw [qd4 st1,hcmp];have hv0:=VN.new (q9 HR1) 235 #[.int .i64 (rK st1.tk.kind),.int .i64 st1.place,.int .i64 (tkZ st1),.string (BS (tkS st1)),.int .i64 (tkN st1)] rfl;have hr0:=(q9 HR1).alloc (.cells #[.int .i64 (rK st1.tk.kind),.int .i64 st1.place,.int .i64 (tkZ st1),.string (BS (tkS st1)),.int .i64 (tkN st1)] 235);have hkb:=TKept.of_below hb2 hr0.lt;have hv2:=hv0.kept hkb;have hr2:=hr0.below hb2;have hk2:=((q9 HK1).alloc hlt (.cells #[.int .i64 (rK st1.tk.kind),.int .i64 st1.place,.int .i64 (tkZ st1),.string (BS (tkS st1)),.int .i64 (tkN st1)] 235)).trans hkb;have hlt2:=hr2.lt;obtain ⟨_,u3,_⟩:=hr2.ct;have nM1:¬rb=w2.heap.size:=(by omega);have nM2:¬rb=w2.heap.size+1:=(by omega);have nM3:¬w2.heap.size=rb:=(by omega);have nM4:¬w2.heap.size+1=rb:=(by omega);have HR2:=j4 hr2;have HK2:=j4 hk2;clear hb2 hv0 hr0 hkb hv2 hr2 hk2)|(go_at_call 215;(first|refine (qh0 (q9 HR4)).mono ?_|refine (qh0 (q9 HR2)).mono ?_|refine (qh0 (((q9 HR2).alloc _).alloc _)).mono ?_);rintro e w' ⟨rfl,hw'⟩;subst w';simp only [hi14,hi7,hj10,hj11,hj12])|(go_at_call 172;have hr2':RT ((w2.alloc (.cells #[.int .i64 i0] 3)).alloc (.cells #[.string ⟨#[]⟩,.int .i64 0,.slice (some ⟨w2.heap.size,0,none⟩) 1 1,.string ⟨#[]⟩,.string ⟨#[]⟩,.slice none 0 0,.int .i64 0,.bool true,.int .i64 0] 241)) rb s (ns++new) j st1:=((q9 HR2).alloc _).alloc _;refine (qa6 hr2' hs (by have:=q9 HKc;omega) (by have:=q9 HKc;omega)).mono ?_;rintro e w3 ⟨rfl,hk3,hr3⟩;have hg0:VN ((w2.alloc (.cells #[.int .i64 i0] 3)).alloc (.cells #[.string ⟨#[]⟩,.int .i64 0,.slice (some ⟨w2.heap.size,0,none⟩) 1 1,.string ⟨#[]⟩,.string ⟨#[]⟩,.slice none 0 0,.int .i64 0,.bool true,.int .i64 0] 241)) rb w2.heap.size 3 #[.int .i64 i0]:=(VN.new (q9 HR2) 3 #[.int .i64 i0] rfl).alloc (by simp;omega) _;have hv0:VN ((w2.alloc (.cells #[.int .i64 i0] 3)).alloc (.cells #[.string ⟨#[]⟩,.int .i64 0,.slice (some ⟨w2.heap.size,0,none⟩) 1 1,.string ⟨#[]⟩,.string ⟨#[]⟩,.slice none 0 0,.int .i64 0,.bool true,.int .i64 0] 241)) rb (w2.heap.size+1) 241 #[.string ⟨#[]⟩,.int .i64 0,.slice (some ⟨w2.heap.size,0,none⟩) 1 1,.string ⟨#[]⟩,.string ⟨#[]⟩,.slice none 0 0,.int .i64 0,.bool true,.int .i64 0]:=VN.new ((q9 HR2).alloc _) _ _ (by simp);have hv3:=hv0.kept hk3;have hg3:=hg0.kept hk3;have hL3:=hv3.lt;have hlt3:=hr3.lt;obtain ⟨_,u33,_⟩:=hr3.ct;have y0:w3.cell? ⟨w2.heap.size+1,0,none⟩=some (.string ⟨#[]⟩):=hv3.cell 0;have y1:w3.cell? ⟨w2.heap.size+1,1,none⟩=some (.int .i64 0):=hv3.cell 1;have y2:w3.cell? ⟨w2.heap.size+1,2,none⟩=some (.slice (some ⟨w2.heap.size,0,none⟩) 1 1):=hv3.cell 2;have y3:w3.cell? ⟨w2.heap.size+1,3,none⟩=some (.string ⟨#[]⟩):=hv3.cell 3;have y4:w3.cell? ⟨w2.heap.size+1,4,none⟩=some (.string ⟨#[]⟩):=hv3.cell 4;have y5:w3.cell? ⟨w2.heap.size+1,5,none⟩=some (.slice none 0 0):=hv3.cell 5;have y6:w3.cell? ⟨w2.heap.size+1,6,none⟩=some (.int .i64 0):=hv3.cell 6;have y7:w3.cell? ⟨w2.heap.size+1,7,none⟩=some (.bool true):=hv3.cell 7;have y8:w3.cell? ⟨w2.heap.size+1,8,none⟩=some (.int .i64 0):=hv3.cell 8;have yz:∀i,w3.frozen? ⟨w2.heap.size+1,i,none⟩=false:=hv3.frz;have hpp:=(q9 HR1).fine.step_place (by have:=q9 HKc;omega);have HR4:=j4 (hv3.rt (by decide) (by decide) hr3 1 (.int .i64 (j3 s st1).place));have HG4:=j4 (hg3.setB (by omega) nM4 1 (.int .i64 (j3 s st1).place));have HK4:=j4 ((((((q9 HK2).alloc hlt _).alloc hlt _).trans hk3).far hlt (p:=⟨w2.heap.size+1,1,none⟩) (by show w.heap.size≤w2.heap.size+1;have:=(q9 HK2).size;omega) (.int .i64 (j3 s st1).place)));clear hk3 hr3 hv0 hg0 hv3 hg3 hr2')|(go_at_call 325;refine (vu8 rb s hs op (m+1) (by omega) _ (j3 s st1) ns new (j+1) l (q9 HR4) ho1 (q9 HK2c) (q9 HFL) i0 (q9 HI0).symm w2.heap.size (q9 HG4) true st1.place).mono ?_;rintro e w5 h5;obtain ⟨v5,rfl⟩:=h5.ret;have H5:=j4 h5;clear h5))
 go_ret
 exact (((q9 H5).slack (by omega)).from (q9 HK4) (by omega)).d
theorem vv6 (rb:Nat) (s:ByteArray) (op m:Nat) (f:St→Res) (w:World) (st:St) (ns:List RN) (j:Nat) (l:Ast) (st1:St) (T:T1 rb s op m f w st ns j l st1) (hk7:st1.tk.kind=7) (hk2:(j3 s st1).tk.kind≠10∧(j3 s st1).tk.kind≠11∧(j3 s st1).tk.kind≠12) :
  Calls Tryz.prog 294 #[.pointer (some ⟨rb,0,none⟩)] w (DEnds rb s w op (m+1) ns j st.place (.err 2 (j3 s st1).place)):=by
 obtain ⟨hs,hm,hm',hf,eS,h,ho,hres⟩:=T
 obtain ⟨k2,_⟩:=h.ct
 have hlt:=h.lt
 have HC:=j4 (hf w st ns j h ho)
 have HF:=j4 hf
 have ES:=j4 eS
 have HRES:=j4 hres
 obtain ⟨b0,hb0⟩:∃b:Bool,(opA l==0)=b:=⟨_,rfl⟩
 have HB0:=j4 hb0
 have hcmp:decide (16≤st1.tk.kind∧st1.tk.kind≤21)=false:=decide_eq_false (by omega)
 have hi14:(rK st1.tk.kind==6&&((BS (tkS st1)).toList==(⟨#[73,83]⟩:ByteArray).toList))=false:=(isK (c:=14) rfl (by decide) (by decide) 6 rfl).trans (beq_eq_false_iff_ne.2 (by omega))
 have hi7:(rK st1.tk.kind==6&&((BS (tkS st1)).toList==(⟨#[78,79,84]⟩:ByteArray).toList))=true:=(isK (c:=7) rfl (by decide) (by decide) 6 rfl).trans (by rw [hk7];rfl)
 have hj10:(rK (j3 s st1).tk.kind==6&&((BS (tkS (j3 s st1))).toList==(⟨#[66,69,84,87,69,69,78]⟩:ByteArray).toList))=false:=(isK (c:=10) rfl (by decide) (by decide) 6 rfl).trans (beq_eq_false_iff_ne.2 (by omega))
 have hj11:(rK (j3 s st1).tk.kind==6&&((BS (tkS (j3 s st1))).toList==(⟨#[73,78]⟩:ByteArray).toList))=false:=(isK (c:=11) rfl (by decide) (by decide) 6 rfl).trans (beq_eq_false_iff_ne.2 (by omega))
 have hj12:(rK (j3 s st1).tk.kind==6&&((BS (tkS (j3 s st1))).toList==(⟨#[76,73,75,69]⟩:ByteArray).toList))=false:=(isK (c:=12) rfl (by decide) (by decide) 6 rfl).trans (beq_eq_false_iff_ne.2 (by omega))
 have HKc:=j4 hk7
 clear hk7
 clear h hf eS hres
 rcases (show (rK st.tk.kind==2)=false∨((rK st.tk.kind==2)=true∧b0=false)∨((rK st.tk.kind==2)=true∧b0=true) by cases (rK st.tk.kind==2)<;>cases b0<;>simp) with q2|⟨q2,rfl⟩|⟨q2,rfl⟩
 all_goals
  go_enter Tryz.func294,Tryz.ntmps294
  go_wp2_with (first|(go_at_call 320;refine (q9 HC).mono ?_;rintro e w1 ⟨hk1,h1⟩;rw [q9 HRES] at h1;obtain ⟨new,he,hr1,ho1,hp1,hfl⟩:=h1;obtain ⟨i0,hi0⟩:∃k:Nat,ns.length+new.length - 1=k:=⟨_,rfl⟩;rw [hi0] at he;subst he;obtain ⟨gN,capN,LN,N,cN0,hLN,cN,hNm⟩:=hr1.opAt hfl hi0;rw [q9 HB0] at hNm;have c8:=hr1.c8;obtain ⟨t2,t3,t4,t5,t6⟩:=hr1.ct;have hlt1:=hr1.lt;have nL:¬rb=w1.heap.size:=(by omega);have nL':¬w1.heap.size=rb:=(by omega);have hgN:gN<w1.heap.size:=World.block_lt_of_cell? w1 _ cN;have HI0:=j4 hi0;have HR1:=j4 hr1;have HK1:=j4 hk1;have HFL:=j4 hfl;clear hk1 hr1 hfl hi0)|(go_at_call 321;refine (qc3 _ _ _ _ _ _).mono ?_;rintro e w2 ⟨rfl,hb2⟩;rw [qd4 st1,hcmp];have hv0:=VN.new (q9 HR1) 235 #[.int .i64 (rK st1.tk.kind),.int .i64 st1.place,.int .i64 (tkZ st1),.string (BS (tkS st1)),.int .i64 (tkN st1)] rfl;have hr0:=(q9 HR1).alloc (.cells #[.int .i64 (rK st1.tk.kind),.int .i64 st1.place,.int .i64 (tkZ st1),.string (BS (tkS st1)),.int .i64 (tkN st1)] 235);have hkb:=TKept.of_below hb2 hr0.lt;have hv2:=hv0.kept hkb;have hr2:=hr0.below hb2;have hk2:=((q9 HK1).alloc hlt (.cells #[.int .i64 (rK st1.tk.kind),.int .i64 st1.place,.int .i64 (tkZ st1),.string (BS (tkS st1)),.int .i64 (tkN st1)] 235)).trans hkb;have hlt2:=hr2.lt;obtain ⟨_,u3,_⟩:=hr2.ct;have nM1:¬rb=w2.heap.size:=(by omega);have nM2:¬rb=w2.heap.size+1:=(by omega);have nM3:¬w2.heap.size=rb:=(by omega);have nM4:¬w2.heap.size+1=rb:=(by omega);have HR2:=j4 hr2;have HK2:=j4 hk2;clear hb2 hv0 hr0 hkb hv2 hr2 hk2)|(go_at_call 215;(first|refine (qh0 (q9 HR4)).mono ?_|refine (qh0 (q9 HR2)).mono ?_|refine (qh0 (((q9 HR2).alloc _).alloc _)).mono ?_);rintro e w' ⟨rfl,hw'⟩;subst w';simp only [hi14,hi7,hj10,hj11,hj12])|(go_at_call 172;have hr2':RT ((w2.alloc (.cells #[.int .i64 i0] 3)).alloc (.cells #[.string ⟨#[]⟩,.int .i64 0,.slice (some ⟨w2.heap.size,0,none⟩) 1 1,.string ⟨#[]⟩,.string ⟨#[]⟩,.slice none 0 0,.int .i64 0,.bool true,.int .i64 0] 241)) rb s (ns++new) j st1:=((q9 HR2).alloc _).alloc _;refine (qa6 hr2' hs (by have:=q9 HKc;omega) (by have:=q9 HKc;omega)).mono ?_;rintro e w3 ⟨rfl,hk3,hr3⟩;have hg0:VN ((w2.alloc (.cells #[.int .i64 i0] 3)).alloc (.cells #[.string ⟨#[]⟩,.int .i64 0,.slice (some ⟨w2.heap.size,0,none⟩) 1 1,.string ⟨#[]⟩,.string ⟨#[]⟩,.slice none 0 0,.int .i64 0,.bool true,.int .i64 0] 241)) rb w2.heap.size 3 #[.int .i64 i0]:=(VN.new (q9 HR2) 3 #[.int .i64 i0] rfl).alloc (by simp;omega) _;have hv0:VN ((w2.alloc (.cells #[.int .i64 i0] 3)).alloc (.cells #[.string ⟨#[]⟩,.int .i64 0,.slice (some ⟨w2.heap.size,0,none⟩) 1 1,.string ⟨#[]⟩,.string ⟨#[]⟩,.slice none 0 0,.int .i64 0,.bool true,.int .i64 0] 241)) rb (w2.heap.size+1) 241 #[.string ⟨#[]⟩,.int .i64 0,.slice (some ⟨w2.heap.size,0,none⟩) 1 1,.string ⟨#[]⟩,.string ⟨#[]⟩,.slice none 0 0,.int .i64 0,.bool true,.int .i64 0]:=VN.new ((q9 HR2).alloc _) _ _ (by simp);have hv3:=hv0.kept hk3;have hg3:=hg0.kept hk3;have hL3:=hv3.lt;have hlt3:=hr3.lt;obtain ⟨_,u33,_⟩:=hr3.ct;have y0:w3.cell? ⟨w2.heap.size+1,0,none⟩=some (.string ⟨#[]⟩):=hv3.cell 0;have y1:w3.cell? ⟨w2.heap.size+1,1,none⟩=some (.int .i64 0):=hv3.cell 1;have y2:w3.cell? ⟨w2.heap.size+1,2,none⟩=some (.slice (some ⟨w2.heap.size,0,none⟩) 1 1):=hv3.cell 2;have y3:w3.cell? ⟨w2.heap.size+1,3,none⟩=some (.string ⟨#[]⟩):=hv3.cell 3;have y4:w3.cell? ⟨w2.heap.size+1,4,none⟩=some (.string ⟨#[]⟩):=hv3.cell 4;have y5:w3.cell? ⟨w2.heap.size+1,5,none⟩=some (.slice none 0 0):=hv3.cell 5;have y6:w3.cell? ⟨w2.heap.size+1,6,none⟩=some (.int .i64 0):=hv3.cell 6;have y7:w3.cell? ⟨w2.heap.size+1,7,none⟩=some (.bool true):=hv3.cell 7;have y8:w3.cell? ⟨w2.heap.size+1,8,none⟩=some (.int .i64 0):=hv3.cell 8;have yz:∀i,w3.frozen? ⟨w2.heap.size+1,i,none⟩=false:=hv3.frz;have hpp:=(q9 HR1).fine.step_place (by have:=q9 HKc;omega);have HR4:=j4 (hv3.rt (by decide) (by decide) hr3 1 (.int .i64 (j3 s st1).place));have HG4:=j4 (hg3.setB (by omega) nM4 1 (.int .i64 (j3 s st1).place));have HK4:=j4 ((((((q9 HK2).alloc hlt _).alloc hlt _).trans hk3).far hlt (p:=⟨w2.heap.size+1,1,none⟩) (by show w.heap.size≤w2.heap.size+1;have:=(q9 HK2).size;omega) (.int .i64 (j3 s st1).place)));clear hk3 hr3 hv0 hg0 hv3 hg3 hr2')|(go_at_call 174;refine (qp9 (q9 HR4) hs 2 (j3 s st1).place (by decide)).mono ?_;rintro e w5 ⟨rfl,hk5,hr5⟩;have HK5:=j4 ((q9 HK4).trans hk5);have HR5:=j4 hr5;clear hk5 hr5))
  go_ret
  exact ⟨q9 HK5,i0,rfl,.inl (ho1 ▸ (q9 HR5).more (by omega))⟩
theorem vq0 (rb:Nat) (s:ByteArray) (op m:Nat) (f:St→Res) (w:World) (st:St) (ns:List RN) (j:Nat) (l:Ast) (st1:St) (T:T1 rb s op m f w st ns j l st1) (hb:qe6 st l=false) (hk7:st1.tk.kind=7) (hk211:(j3 s st1).tk.kind=11) :
  Calls Tryz.prog 294 #[.pointer (some ⟨rb,0,none⟩)] w (DEnds rb s w op (m+1) ns j st.place (.err 2 (j3 s st1).place)):=by
 obtain ⟨hs,hm,hm',hf,eS,h,ho,hres⟩:=T
 obtain ⟨k2,_⟩:=h.ct
 have hlt:=h.lt
 have HC:=j4 (hf w st ns j h ho)
 have HF:=j4 hf
 have ES:=j4 eS
 have HRES:=j4 hres
 obtain ⟨b0,hb0⟩:∃b:Bool,(opA l==0)=b:=⟨_,rfl⟩
 have HB0:=j4 hb0
 have hcmp:decide (16≤st1.tk.kind∧st1.tk.kind≤21)=false:=decide_eq_false (by omega)
 have hbare:qe6 st l=(rK st.tk.kind==2&&b0):=by unfold qe6;rw [rK_2,hb0]
 rw [hbare] at hb
 clear hbare
 have hi14:(rK st1.tk.kind==6&&((BS (tkS st1)).toList==(⟨#[73,83]⟩:ByteArray).toList))=false:=(isK (c:=14) rfl (by decide) (by decide) 6 rfl).trans (beq_eq_false_iff_ne.2 (by omega))
 have hi7:(rK st1.tk.kind==6&&((BS (tkS st1)).toList==(⟨#[78,79,84]⟩:ByteArray).toList))=true:=(isK (c:=7) rfl (by decide) (by decide) 6 rfl).trans (by rw [hk7];rfl)
 have hj10:(rK (j3 s st1).tk.kind==6&&((BS (tkS (j3 s st1))).toList==(⟨#[66,69,84,87,69,69,78]⟩:ByteArray).toList))=false:=(isK (c:=10) rfl (by decide) (by decide) 6 rfl).trans (beq_eq_false_iff_ne.2 (by omega))
 have hj11:(rK (j3 s st1).tk.kind==6&&((BS (tkS (j3 s st1))).toList==(⟨#[73,78]⟩:ByteArray).toList))=true:=(isK (c:=11) rfl (by decide) (by decide) 6 rfl).trans (by rw [hk211];rfl)
 have hj12:(rK (j3 s st1).tk.kind==6&&((BS (tkS (j3 s st1))).toList==(⟨#[76,73,75,69]⟩:ByteArray).toList))=false:=(isK (c:=12) rfl (by decide) (by decide) 6 rfl).trans (beq_eq_false_iff_ne.2 (by omega))
 have HKc:=j4 hk7
 clear hk7
 have HK2c:=j4 hk211
 clear hk211
 clear h hf eS hres
 rcases (show (rK st.tk.kind==2)=false∨((rK st.tk.kind==2)=true∧b0=false) by revert hb;cases (rK st.tk.kind==2)<;>cases b0<;>simp) with q2|⟨q2,rfl⟩
 all_goals
  go_enter Tryz.func294,Tryz.ntmps294
  go_wp2_with (first|(go_at_call 320;refine (q9 HC).mono ?_;rintro e w1 ⟨hk1,h1⟩;rw [q9 HRES] at h1;obtain ⟨new,he,hr1,ho1,hp1,hfl⟩:=h1;obtain ⟨i0,hi0⟩:∃k:Nat,ns.length+new.length - 1=k:=⟨_,rfl⟩;rw [hi0] at he;subst he;obtain ⟨gN,capN,LN,N,cN0,hLN,cN,hNm⟩:=hr1.opAt hfl hi0;rw [q9 HB0] at hNm;have c8:=hr1.c8;obtain ⟨t2,t3,t4,t5,t6⟩:=hr1.ct;have hlt1:=hr1.lt;have nL:¬rb=w1.heap.size:=(by omega);have nL':¬w1.heap.size=rb:=(by omega);have hgN:gN<w1.heap.size:=World.block_lt_of_cell? w1 _ cN;have HI0:=j4 hi0;have HR1:=j4 hr1;have HK1:=j4 hk1;have HFL:=j4 hfl;clear hk1 hr1 hfl hi0)|(go_at_call 321;refine (qc3 _ _ _ _ _ _).mono ?_;rintro e w2 ⟨rfl,hb2⟩;rw [qd4 st1,hcmp];have hv0:=VN.new (q9 HR1) 235 #[.int .i64 (rK st1.tk.kind),.int .i64 st1.place,.int .i64 (tkZ st1),.string (BS (tkS st1)),.int .i64 (tkN st1)] rfl;have hr0:=(q9 HR1).alloc (.cells #[.int .i64 (rK st1.tk.kind),.int .i64 st1.place,.int .i64 (tkZ st1),.string (BS (tkS st1)),.int .i64 (tkN st1)] 235);have hkb:=TKept.of_below hb2 hr0.lt;have hv2:=hv0.kept hkb;have hr2:=hr0.below hb2;have hk2:=((q9 HK1).alloc hlt (.cells #[.int .i64 (rK st1.tk.kind),.int .i64 st1.place,.int .i64 (tkZ st1),.string (BS (tkS st1)),.int .i64 (tkN st1)] 235)).trans hkb;have hlt2:=hr2.lt;obtain ⟨_,u3,_⟩:=hr2.ct;have nM1:¬rb=w2.heap.size:=(by omega);have nM2:¬rb=w2.heap.size+1:=(by omega);have nM3:¬w2.heap.size=rb:=(by omega);have nM4:¬w2.heap.size+1=rb:=(by omega);have HR2:=j4 hr2;have HK2:=j4 hk2;clear hb2 hv0 hr0 hkb hv2 hr2 hk2)|(go_at_call 215;(first|refine (qh0 (q9 HR4)).mono ?_|refine (qh0 (q9 HR2)).mono ?_|refine (qh0 (((q9 HR2).alloc _).alloc _)).mono ?_);rintro e w' ⟨rfl,hw'⟩;subst w';simp only [hi14,hi7,hj10,hj11,hj12])|(go_at_call 172;have hr2':RT ((w2.alloc (.cells #[.int .i64 i0] 3)).alloc (.cells #[.string ⟨#[]⟩,.int .i64 0,.slice (some ⟨w2.heap.size,0,none⟩) 1 1,.string ⟨#[]⟩,.string ⟨#[]⟩,.slice none 0 0,.int .i64 0,.bool true,.int .i64 0] 241)) rb s (ns++new) j st1:=((q9 HR2).alloc _).alloc _;refine (qa6 hr2' hs (by have:=q9 HKc;omega) (by have:=q9 HKc;omega)).mono ?_;rintro e w3 ⟨rfl,hk3,hr3⟩;have hg0:VN ((w2.alloc (.cells #[.int .i64 i0] 3)).alloc (.cells #[.string ⟨#[]⟩,.int .i64 0,.slice (some ⟨w2.heap.size,0,none⟩) 1 1,.string ⟨#[]⟩,.string ⟨#[]⟩,.slice none 0 0,.int .i64 0,.bool true,.int .i64 0] 241)) rb w2.heap.size 3 #[.int .i64 i0]:=(VN.new (q9 HR2) 3 #[.int .i64 i0] rfl).alloc (by simp;omega) _;have hv0:VN ((w2.alloc (.cells #[.int .i64 i0] 3)).alloc (.cells #[.string ⟨#[]⟩,.int .i64 0,.slice (some ⟨w2.heap.size,0,none⟩) 1 1,.string ⟨#[]⟩,.string ⟨#[]⟩,.slice none 0 0,.int .i64 0,.bool true,.int .i64 0] 241)) rb (w2.heap.size+1) 241 #[.string ⟨#[]⟩,.int .i64 0,.slice (some ⟨w2.heap.size,0,none⟩) 1 1,.string ⟨#[]⟩,.string ⟨#[]⟩,.slice none 0 0,.int .i64 0,.bool true,.int .i64 0]:=VN.new ((q9 HR2).alloc _) _ _ (by simp);have hv3:=hv0.kept hk3;have hg3:=hg0.kept hk3;have hL3:=hv3.lt;have hlt3:=hr3.lt;obtain ⟨_,u33,_⟩:=hr3.ct;have y0:w3.cell? ⟨w2.heap.size+1,0,none⟩=some (.string ⟨#[]⟩):=hv3.cell 0;have y1:w3.cell? ⟨w2.heap.size+1,1,none⟩=some (.int .i64 0):=hv3.cell 1;have y2:w3.cell? ⟨w2.heap.size+1,2,none⟩=some (.slice (some ⟨w2.heap.size,0,none⟩) 1 1):=hv3.cell 2;have y3:w3.cell? ⟨w2.heap.size+1,3,none⟩=some (.string ⟨#[]⟩):=hv3.cell 3;have y4:w3.cell? ⟨w2.heap.size+1,4,none⟩=some (.string ⟨#[]⟩):=hv3.cell 4;have y5:w3.cell? ⟨w2.heap.size+1,5,none⟩=some (.slice none 0 0):=hv3.cell 5;have y6:w3.cell? ⟨w2.heap.size+1,6,none⟩=some (.int .i64 0):=hv3.cell 6;have y7:w3.cell? ⟨w2.heap.size+1,7,none⟩=some (.bool true):=hv3.cell 7;have y8:w3.cell? ⟨w2.heap.size+1,8,none⟩=some (.int .i64 0):=hv3.cell 8;have yz:∀i,w3.frozen? ⟨w2.heap.size+1,i,none⟩=false:=hv3.frz;have hpp:=(q9 HR1).fine.step_place (by have:=q9 HKc;omega);have HR4:=j4 (hv3.rt (by decide) (by decide) hr3 1 (.int .i64 (j3 s st1).place));have HG4:=j4 (hg3.setB (by omega) nM4 1 (.int .i64 (j3 s st1).place));have HK4:=j4 ((((((q9 HK2).alloc hlt _).alloc hlt _).trans hk3).far hlt (p:=⟨w2.heap.size+1,1,none⟩) (by show w.heap.size≤w2.heap.size+1;have:=(q9 HK2).size;omega) (.int .i64 (j3 s st1).place)));clear hk3 hr3 hv0 hg0 hv3 hg3 hr2')|(go_at_call 174;refine (qp9 (q9 HR4) hs 2 (j3 s st1).place (by decide)).mono ?_;rintro e w5 ⟨rfl,hk5,hr5⟩;have HK5:=j4 ((q9 HK4).trans hk5);have HR5:=j4 hr5;clear hk5 hr5))
  go_ret
  exact ⟨q9 HK5,i0,rfl,.inl (ho1 ▸ (q9 HR5).more (by omega))⟩
theorem vq1 (rb:Nat) (s:ByteArray) (op m:Nat) (f:St→Res) (w:World) (st:St) (ns:List RN) (j:Nat) (l:Ast) (st1:St) (T:T1 rb s op m f w st ns j l st1) (hb:qe6 st l=false) (hk7:st1.tk.kind=7) (hk212:(j3 s st1).tk.kind=12) :
  Calls Tryz.prog 294 #[.pointer (some ⟨rb,0,none⟩)] w (DEnds rb s w op (m+1) ns j st.place (.err 2 (j3 s st1).place)):=by
 obtain ⟨hs,hm,hm',hf,eS,h,ho,hres⟩:=T
 obtain ⟨k2,_⟩:=h.ct
 have hlt:=h.lt
 have HC:=j4 (hf w st ns j h ho)
 have HF:=j4 hf
 have ES:=j4 eS
 have HRES:=j4 hres
 obtain ⟨b0,hb0⟩:∃b:Bool,(opA l==0)=b:=⟨_,rfl⟩
 have HB0:=j4 hb0
 have hcmp:decide (16≤st1.tk.kind∧st1.tk.kind≤21)=false:=decide_eq_false (by omega)
 have hbare:qe6 st l=(rK st.tk.kind==2&&b0):=by unfold qe6;rw [rK_2,hb0]
 rw [hbare] at hb
 clear hbare
 have hi14:(rK st1.tk.kind==6&&((BS (tkS st1)).toList==(⟨#[73,83]⟩:ByteArray).toList))=false:=(isK (c:=14) rfl (by decide) (by decide) 6 rfl).trans (beq_eq_false_iff_ne.2 (by omega))
 have hi7:(rK st1.tk.kind==6&&((BS (tkS st1)).toList==(⟨#[78,79,84]⟩:ByteArray).toList))=true:=(isK (c:=7) rfl (by decide) (by decide) 6 rfl).trans (by rw [hk7];rfl)
 have hj10:(rK (j3 s st1).tk.kind==6&&((BS (tkS (j3 s st1))).toList==(⟨#[66,69,84,87,69,69,78]⟩:ByteArray).toList))=false:=(isK (c:=10) rfl (by decide) (by decide) 6 rfl).trans (beq_eq_false_iff_ne.2 (by omega))
 have hj11:(rK (j3 s st1).tk.kind==6&&((BS (tkS (j3 s st1))).toList==(⟨#[73,78]⟩:ByteArray).toList))=false:=(isK (c:=11) rfl (by decide) (by decide) 6 rfl).trans (beq_eq_false_iff_ne.2 (by omega))
 have hj12:(rK (j3 s st1).tk.kind==6&&((BS (tkS (j3 s st1))).toList==(⟨#[76,73,75,69]⟩:ByteArray).toList))=true:=(isK (c:=12) rfl (by decide) (by decide) 6 rfl).trans (by rw [hk212];rfl)
 have HKc:=j4 hk7
 clear hk7
 have HK2c:=j4 hk212
 clear hk212
 clear h hf eS hres
 rcases (show (rK st.tk.kind==2)=false∨((rK st.tk.kind==2)=true∧b0=false) by revert hb;cases (rK st.tk.kind==2)<;>cases b0<;>simp) with q2|⟨q2,rfl⟩
 all_goals
  go_enter Tryz.func294,Tryz.ntmps294
  go_wp2_with (first|(go_at_call 320;refine (q9 HC).mono ?_;rintro e w1 ⟨hk1,h1⟩;rw [q9 HRES] at h1;obtain ⟨new,he,hr1,ho1,hp1,hfl⟩:=h1;obtain ⟨i0,hi0⟩:∃k:Nat,ns.length+new.length - 1=k:=⟨_,rfl⟩;rw [hi0] at he;subst he;obtain ⟨gN,capN,LN,N,cN0,hLN,cN,hNm⟩:=hr1.opAt hfl hi0;rw [q9 HB0] at hNm;have c8:=hr1.c8;obtain ⟨t2,t3,t4,t5,t6⟩:=hr1.ct;have hlt1:=hr1.lt;have nL:¬rb=w1.heap.size:=(by omega);have nL':¬w1.heap.size=rb:=(by omega);have hgN:gN<w1.heap.size:=World.block_lt_of_cell? w1 _ cN;have HI0:=j4 hi0;have HR1:=j4 hr1;have HK1:=j4 hk1;have HFL:=j4 hfl;clear hk1 hr1 hfl hi0)|(go_at_call 321;refine (qc3 _ _ _ _ _ _).mono ?_;rintro e w2 ⟨rfl,hb2⟩;rw [qd4 st1,hcmp];have hv0:=VN.new (q9 HR1) 235 #[.int .i64 (rK st1.tk.kind),.int .i64 st1.place,.int .i64 (tkZ st1),.string (BS (tkS st1)),.int .i64 (tkN st1)] rfl;have hr0:=(q9 HR1).alloc (.cells #[.int .i64 (rK st1.tk.kind),.int .i64 st1.place,.int .i64 (tkZ st1),.string (BS (tkS st1)),.int .i64 (tkN st1)] 235);have hkb:=TKept.of_below hb2 hr0.lt;have hv2:=hv0.kept hkb;have hr2:=hr0.below hb2;have hk2:=((q9 HK1).alloc hlt (.cells #[.int .i64 (rK st1.tk.kind),.int .i64 st1.place,.int .i64 (tkZ st1),.string (BS (tkS st1)),.int .i64 (tkN st1)] 235)).trans hkb;have hlt2:=hr2.lt;obtain ⟨_,u3,_⟩:=hr2.ct;have nM1:¬rb=w2.heap.size:=(by omega);have nM2:¬rb=w2.heap.size+1:=(by omega);have nM3:¬w2.heap.size=rb:=(by omega);have nM4:¬w2.heap.size+1=rb:=(by omega);have HR2:=j4 hr2;have HK2:=j4 hk2;clear hb2 hv0 hr0 hkb hv2 hr2 hk2)|(go_at_call 215;(first|refine (qh0 (q9 HR4)).mono ?_|refine (qh0 (q9 HR2)).mono ?_|refine (qh0 (((q9 HR2).alloc _).alloc _)).mono ?_);rintro e w' ⟨rfl,hw'⟩;subst w';simp only [hi14,hi7,hj10,hj11,hj12])|(go_at_call 172;have hr2':RT ((w2.alloc (.cells #[.int .i64 i0] 3)).alloc (.cells #[.string ⟨#[]⟩,.int .i64 0,.slice (some ⟨w2.heap.size,0,none⟩) 1 1,.string ⟨#[]⟩,.string ⟨#[]⟩,.slice none 0 0,.int .i64 0,.bool true,.int .i64 0] 241)) rb s (ns++new) j st1:=((q9 HR2).alloc _).alloc _;refine (qa6 hr2' hs (by have:=q9 HKc;omega) (by have:=q9 HKc;omega)).mono ?_;rintro e w3 ⟨rfl,hk3,hr3⟩;have hg0:VN ((w2.alloc (.cells #[.int .i64 i0] 3)).alloc (.cells #[.string ⟨#[]⟩,.int .i64 0,.slice (some ⟨w2.heap.size,0,none⟩) 1 1,.string ⟨#[]⟩,.string ⟨#[]⟩,.slice none 0 0,.int .i64 0,.bool true,.int .i64 0] 241)) rb w2.heap.size 3 #[.int .i64 i0]:=(VN.new (q9 HR2) 3 #[.int .i64 i0] rfl).alloc (by simp;omega) _;have hv0:VN ((w2.alloc (.cells #[.int .i64 i0] 3)).alloc (.cells #[.string ⟨#[]⟩,.int .i64 0,.slice (some ⟨w2.heap.size,0,none⟩) 1 1,.string ⟨#[]⟩,.string ⟨#[]⟩,.slice none 0 0,.int .i64 0,.bool true,.int .i64 0] 241)) rb (w2.heap.size+1) 241 #[.string ⟨#[]⟩,.int .i64 0,.slice (some ⟨w2.heap.size,0,none⟩) 1 1,.string ⟨#[]⟩,.string ⟨#[]⟩,.slice none 0 0,.int .i64 0,.bool true,.int .i64 0]:=VN.new ((q9 HR2).alloc _) _ _ (by simp);have hv3:=hv0.kept hk3;have hg3:=hg0.kept hk3;have hL3:=hv3.lt;have hlt3:=hr3.lt;obtain ⟨_,u33,_⟩:=hr3.ct;have y0:w3.cell? ⟨w2.heap.size+1,0,none⟩=some (.string ⟨#[]⟩):=hv3.cell 0;have y1:w3.cell? ⟨w2.heap.size+1,1,none⟩=some (.int .i64 0):=hv3.cell 1;have y2:w3.cell? ⟨w2.heap.size+1,2,none⟩=some (.slice (some ⟨w2.heap.size,0,none⟩) 1 1):=hv3.cell 2;have y3:w3.cell? ⟨w2.heap.size+1,3,none⟩=some (.string ⟨#[]⟩):=hv3.cell 3;have y4:w3.cell? ⟨w2.heap.size+1,4,none⟩=some (.string ⟨#[]⟩):=hv3.cell 4;have y5:w3.cell? ⟨w2.heap.size+1,5,none⟩=some (.slice none 0 0):=hv3.cell 5;have y6:w3.cell? ⟨w2.heap.size+1,6,none⟩=some (.int .i64 0):=hv3.cell 6;have y7:w3.cell? ⟨w2.heap.size+1,7,none⟩=some (.bool true):=hv3.cell 7;have y8:w3.cell? ⟨w2.heap.size+1,8,none⟩=some (.int .i64 0):=hv3.cell 8;have yz:∀i,w3.frozen? ⟨w2.heap.size+1,i,none⟩=false:=hv3.frz;have hpp:=(q9 HR1).fine.step_place (by have:=q9 HKc;omega);have HR4:=j4 (hv3.rt (by decide) (by decide) hr3 1 (.int .i64 (j3 s st1).place));have HG4:=j4 (hg3.setB (by omega) nM4 1 (.int .i64 (j3 s st1).place));have HK4:=j4 ((((((q9 HK2).alloc hlt _).alloc hlt _).trans hk3).far hlt (p:=⟨w2.heap.size+1,1,none⟩) (by show w.heap.size≤w2.heap.size+1;have:=(q9 HK2).size;omega) (.int .i64 (j3 s st1).place)));clear hk3 hr3 hv0 hg0 hv3 hg3 hr2')|(go_at_call 174;refine (qp9 (q9 HR4) hs 2 (j3 s st1).place (by decide)).mono ?_;rintro e w5 ⟨rfl,hk5,hr5⟩;have HK5:=j4 ((q9 HK4).trans hk5);have HR5:=j4 hr5;clear hk5 hr5))
  go_ret
  exact ⟨q9 HK5,i0,rfl,.inl (ho1 ▸ (q9 HR5).more (by omega))⟩
end
section
theorem rtest_err (rb:Nat) (s:ByteArray) (op m:Nat) (f:St→Res) (hf:RReads 320 rb s op m f) (w:World) (st:St) (ns:List RN) (j:Nat) (h:RT w rb s ns j st) (ho:st.op=op) {en pl:Int} (hres:f st=.err en pl) :
  Calls Tryz.prog 294 #[.pointer (some ⟨rb,0,none⟩)] w (DEnds rb s w op (m+1) ns j st.place (.err en pl)):=by
 obtain ⟨k2,_⟩:=h.ct
 have HC:=j4 (hf w st ns j h ho)
 have HRES:=j4 hres
 clear h hf hres
 go_enter Tryz.func294,Tryz.ntmps294
 go_wp2_with (go_at_call 320;refine (q9 HC).mono ?_;rintro e w1 ⟨hk1,h1⟩;rw [q9 HRES] at h1;obtain ⟨i,rfl,hr1⟩:=h1;obtain ⟨c8,hen⟩:=hr1.c8;have HK1:=j4 hk1;have HR1:=j4 hr1;clear hk1 hr1)
 go_ret
 exact ⟨q9 HK1,i,rfl,.inl ((q9 HR1).more (by omega))⟩
theorem jc2 (rb:Nat) (s:ByteArray) (hs:s.size≤200) (op m:Nat) (hm:200≤m) (hm':m≤900) (f:St→Res) (hf:RReads 320 rb s op m f) (eS:qn9 320 rb s):DReads 294 rb s op (m+1) (qg1 s f (qh5 s) (qb6 s)):=by
 intro w st ns j h ho
 cases hres:f st with
 | err en pl=>
  rw [show qg1 s f (qh5 s) (qb6 s) st=.err en pl by unfold qg1;rw [hres]]
  exact rtest_err rb s op m f hf w st ns j h ho hres
 | ok l st1=>
  rw [show qg1 s f (qh5 s) (qb6 s) st=qb5 s f (qh5 s) (qb6 s) (qe6 st l) l st1 by unfold qg1;rw [hres]]
  have T:T1 rb s op m f w st ns j l st1:=⟨hs,hm,hm',hf,eS,h,ho,hres⟩
  unfold qb5
  split
  ·rename_i hk;exact rtest_cmp rb s op m f w st ns j l st1 T (by omega)
  split
  ·rename_i hk
   split
   ·rename_i hb;exact jm3 rb s op m f w st ns j l st1 T hb hk
   ·rename_i hb;exact rtest_is rb s op m f w st ns j l st1 T (by simpa using hb) hk
  split
  ·rename_i hk7
   obtain ⟨r,hr⟩:∃r,qb1 s f (qh5 s) (qb6 s) (qe6 st l) l (j3 s st1)=r:=⟨_,rfl⟩
   rw [hr]
   suffices hS:Calls Tryz.prog 294 #[.pointer (some ⟨rb,0,none⟩)] w (DEnds rb s w op (m+1) ns j st.place (negR true st1.place r)) by cases r<;>exact hS
   rw [←hr]
   unfold qb1
   split
   ·rename_i h2;exact rtest_nin rb s op m f w st ns j l st1 T h2.2 hk7 h2.1
   rename_i h11
   split
   ·rename_i h2;exact jc0 rb s op m f w st ns j l st1 T h2.2 hk7 h2.1
   rename_i h12
   by_cases k10:(j3 s st1).tk.kind=10
   ·exact vi3 rb s op m f w st ns j l st1 T hk7 k10
   ·rw [show qa8 s f l (j3 s st1)=.err 2 (j3 s st1).place by unfold qa8;rw [if_neg k10]]
    show Calls _ _ _ _ (DEnds rb s w op (m+1) ns j st.place (.err 2 (j3 s st1).place))
    by_cases k11:(j3 s st1).tk.kind=11
    ·exact vq0 rb s op m f w st ns j l st1 T (by simpa [k11] using h11) hk7 k11
    ·by_cases k12:(j3 s st1).tk.kind=12
     ·exact vq1 rb s op m f w st ns j l st1 T (by simpa [k12] using h12) hk7 k12
     ·exact vv6 rb s op m f w st ns j l st1 T hk7 ⟨k10,k11,k12⟩
  split
  ·rename_i hk
   unfold qb1
   split
   ·rename_i h2;exact rtest_in rb s op m f w st ns j l st1 T h2.2 h2.1
   rename_i h11
   split
   ·rename_i h2;exact jm2 rb s op m f w st ns j l st1 T h2.2 h2.1
   rename_i h12
   by_cases k10:st1.tk.kind=10
   ·exact vp9 rb s op m f w st ns j l st1 T k10
   ·rw [show qa8 s f l st1=.err 2 st1.place by unfold qa8;rw [if_neg k10]]
    rcases hk with hk|hk|hk
    ·omega
    ·exact vv4 rb s op m f w st ns j l st1 T (by simpa [hk] using h11) hk
    ·exact vv5 rb s op m f w st ns j l st1 T (by simpa [hk] using h12) hk
  ·exact jc1 rb s op m f w st ns j l st1 T (by omega)
structure RR3 (rb:Nat) (s:ByteArray) (op m:Nat) (L:L3):Prop where
 S:RReads 351 rb s op m L.S
 D:DReads 259 rb s op m L.D
 E:DReads 173 rb s op m L.E
theorem rerrs (rb:Nat) (s:ByteArray):qn9 320 rb s∧qn9 259 rb s∧qn9 173 rb s:=
 have h1:=sum_errs rb s (vu0 rb s (vh4 rb s))
 have h2:=vy9 rb s (test_errs rb s h1)
 ⟨h1,h2,vz0 rb s (both_errs rb s h2)⟩
theorem up3_rr (rb:Nat) (s:ByteArray) (hs:s.size≤200) (op m:Nat) (hop:op≤12) (hm:200≤m) (hm':m≤800) (L:L3) (h:op<12→RR3 rb s (op+1) m L):RR3 rb s op (m+8) (up3 s L):=by
 obtain ⟨eS,eD,eE⟩:=rerrs rb s
 have hS:=vp8 rb s hs op m hm (by omega) hop L.S L.E (fun k=>(h k).S) (fun k=>(h k).E) (vh4 rb s) eE
 have hP:=vi2 rb s hs op (m+1) (by omega) (by omega) _ hS
 have hU:=jm0 rb s hs op (m+2) (by omega) (by omega) _ hP
 have hT:=jc2 rb s hs op (m+3) (by omega) (by omega) _ hU eS
 have hD:=vp4 rb s hs op (m+3) (by omega) (by omega) hop L.D _ (fun k=>(h k).D.more (by omega)) eD hT
 have hB:=jb3 rb s hs op (m+4) (by omega) (by omega) _ hD
 have hE:=vp5 rb s hs op (m+5) (by omega) (by omega) _ hB
 exact ⟨hS.more (by omega),hD.more (by omega),hE.more (by omega)⟩
theorem je5 (rb:Nat) (s:ByteArray) (hs:s.size≤200):∀d op,op+d=12→RR3 rb s op (200+8 * (d+1)) (lvl s d):=by
 intro d
 induction d with
 | zero=>intro op h;exact up3_rr rb s hs op 200 (by omega) (by omega) (by omega) _ (fun k=>by omega)
 | succ d ih=>intro op h;exact up3_rr rb s hs op (200+8 * (d+1)) (by omega) (by omega) (by omega) _ (fun _=>ih (op+1) (by omega))
end
section
def wnt (o:Int):Int:=if 14≤o∧o≤19 then 2 else if 10≤o∧o≤13∨o=20 then 2 else if 5≤o∧o≤7 then 1 else -1
def hsc (o:Int):Int:=if o=0 then 0 else if o=1 then 2 else if o=2 then 3 else if 14≤o∧o≤19 then 2 else 1
def cc (c:Int):Int:=if c=1 then 2 else if c=2 then 3 else if c=3 then 1 else c
theorem jc5 (o:Int) (h0:0≤o) (h23:o≤23) (w:World) :
  Calls Tryz.prog 217 #[.string (BS (qb9 o))] w fun e w'=>e=.returned (.tuple #[.int .i64 (wnt o),.int .i64 (hsc o)])∧w'=w:=by
 have ho:o=0∨o=1∨o=2∨o=3∨o=4∨o=5∨o=6∨o=7∨o=8∨o=9∨o=10∨o=11∨o=12∨o=13∨o=14∨o=15∨o=16∨o=17∨o=18∨o=19∨o=20∨o=21∨o=22∨o=23:=by omega
 rcases ho with rfl|rfl|rfl|rfl|rfl|rfl|rfl|rfl|rfl|rfl|rfl|rfl|rfl|rfl|rfl|rfl|rfl|rfl|rfl|rfl|rfl|rfl|rfl|rfl
 all_goals
  simp only [BS,qb9,Int.reduceEq,if_true,if_false]
  go_enter Tryz.func217,Tryz.ntmps217
  go_wp2_with fail
  exact bodyPost_ret (by simp [results,Tryz.results217,go_sem];decide) rfl ⟨rfl,rfl⟩
def ja7 (l:List UInt8):Int:=(((List.range 24).find? fun i=>qb9 (Int.ofNat i)==l).getD 23:Nat)
theorem qy9 {o:Int} (h0:0≤o) (h23:o≤23):ja7 (qb9 o)=o:=by
 have:∀i:Fin 24,ja7 (qb9 (i.val:Int))=(i.val:Int):=by decide +kernel
 have:=this ⟨o.toNat,by omega⟩
 rwa [show ((o.toNat:Nat):Int)=o by omega] at this
def qi8 (cs:List Int) (k:Nat):Int:=cs.getD k 0
def qi9 (want c:Int):Bool:=decide (0≤want)&&c != 0&&c != want
def vr3 (cs:List Int) (n:RN):Bool:=
 (n.ins.any fun k=>qi9 (wnt (ja7 n.op)) (qi8 cs k))||((ja7 n.op==8||ja7 n.op==9)&&(qi8 cs (n.ins.getD 0 0) != qi8 cs (n.ins.getD 1 0)&&qi8 cs (n.ins.getD 0 0) != 0&&qi8 cs (n.ins.getD 1 0) != 0))
def qr7:List Int→List RN→Sum Int (List Int)
 | cs,[]=>.inr cs
 | cs,n::t=>if vr3 cs n=true then .inl n.at' else qr7 (cs++[hsc (ja7 n.op)]) t
theorem qr1 (cs:List Int) (l k:List RN):qr7 cs (l++k)=match qr7 cs l with
  | .inl q=>.inl q
  | .inr cs'=>qr7 cs' k:=by
 induction l generalizing cs with
 | nil=>rfl
 | cons n t ih=>
  rw [List.cons_append,qr7,qr7]
  split
  ·rfl
  ·exact ih _
def CEnd (cs:List Int) (l:List RN):CRes→Prop
 | .ok c=>∃ds,qr7 cs l=.inr (cs++ds)∧ds.length=l.length∧ds.getD (l.length - 1) 0=cc c
 | .err q=>qr7 cs l=.inl q
theorem qx1 (t:Ast):∀c,qa4 t=.ok c→0≤c∧c≤3:=by
 intro c h
 rw [qd3] at h
 generalize (x9 t).map qa4=rs at h
 generalize (qg0 t).place=pl at h
 have hd:∀w1 c1,0≤c1∧c1≤3→qt5 w1 pl c1 rs=.ok c→0≤c∧c≤3:=by
  intro w1 c1 h1 h2
  unfold qt5 at h2
  split at h2
  ·injection h2 with h2;omega
  ·cases h2
 unfold qh2 at h
 split at h
 ·injection h with h;omega
 split at h
 ·injection h with h;omega
 split at h
 ·injection h with h;omega
 split at h
 ·exact hd _ _ (by decide) h
 split at h
 ·exact hd _ _ (by decide) h
 split at h
 ·exact hd _ _ (by decide) h
 split at h
 ·split at h
  ·rename_i a b
   unfold qm3 at h
   split at h
   ·cases h
   ·cases h
   ·split at h
    ·cases h
    ·injection h with h;omega
  ·injection h with h;omega
 ·injection h with h;omega
theorem cend_ok {cs:List Int} {l:List RN} {c:Int} (ds:List Int) (h1:qr7 cs l=.inr (cs++ds)) (h2:ds.length=l.length) (h3:ds.getD (l.length - 1) 0=cc c):CEnd cs l (.ok c):=⟨ds,h1,h2,h3⟩
theorem qs0 {cs:List Int} {l:List RN} {ds:List Int} (h:qr7 cs l=.inr (cs++ds)) (n:RN):qr7 cs (l++[n])=if vr3 (cs++ds) n=true then .inl n.at' else .inr (cs++(ds++[hsc (ja7 n.op)])):=by
 rw [qr1,h]
 show qr7 (cs++ds) [n]=_
 rw [qr7]
 split
 ·rfl
 ·rw [qr7,List.append_assoc]
theorem jg1 {cs ds es:List Int} {k:Nat} (h:cs.length≤k) (h2:k<cs.length+ds.length):qi8 (cs++ds++es) k=ds.getD (k - cs.length) 0:=by
 unfold qi8
 rw [List.getD_eq_getElem?_getD,List.getD_eq_getElem?_getD,List.append_assoc,List.getElem?_append_right h,List.getElem?_append_left (by omega)]
section
variable {p:Pay} {cs:List Int}
theorem op_of {x:Int} {ins:List Nat} {neg:Bool} (h:p.op=x) (h0:0≤x) (h23:x≤23):ja7 (qj5 p ins neg).op=x:=by
 show ja7 (qb9 p.op)=x
 rw [h];exact qy9 h0 h23
theorem cls_leaf (off:Nat) (h:0≤p.op∧p.op≤4) (_:cs.length=off):CEnd cs [qj5 p [] false] (qa4 (.leaf p)):=by
 have ho:p.op=0∨p.op=1∨p.op=2∨p.op=3∨p.op=4:=by omega
 have key:∀x c,p.op=x→0≤x→x≤4→qh2 x p.place []=.ok c→hsc x=cc c→CEnd cs [qj5 p [] false] (qa4 (.leaf p)):=by
  intro x c hx h0 h4 hc hh
  rw [show qa4 (.leaf p)=.ok c by show qh2 p.op p.place []=_;rw [hx];exact hc]
  refine cend_ok [hsc x] ?_ rfl (by simpa using hh)
  rw [qr7,op_of hx h0 (by omega),if_neg,qr7]
  unfold vr3
  rw [op_of hx h0 (by omega)]
  have e8:(x==8||x==9)=false:=by
   rw [Bool.or_eq_false_iff];exact ⟨beq_eq_false_iff_ne.2 (by omega),beq_eq_false_iff_ne.2 (by omega)⟩
  rw [e8]
  show ¬((([]:List Nat).any _||_)=true)
  simp
 rcases ho with h|h|h|h|h
 ·exact key 0 0 h (by decide) (by decide) rfl rfl
 ·exact key 1 1 h (by decide) (by decide) rfl rfl
 ·exact key 2 2 h (by decide) (by decide) rfl rfl
 ·exact key 3 3 h (by decide) (by decide) rfl rfl
 ·exact key 4 3 h (by decide) (by decide) rfl rfl
end
end
end Go.Proofs.YtfkcaldjphakpaaGreatDoor
