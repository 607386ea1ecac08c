/- The document's answer: a test: NOT ahead of a keyword. The document's answer: every test; all levels of the reader. -/
import Derived.Test.YtfkcaldjphakpaaGreatDoorWRq32
import Derived.Test.YtfkcaldjphakpaaGreatDoorE26
import Derived.Test.YtfkcaldjphakpaaGreatDoorE21
set_option maxHeartbeats 4000000
set_option maxRecDepth 100000
namespace Go.Proofs.YtfkcaldjphakpaaGreatDoor
open Go.RowKit
section
theorem REnds.slack {rb:Nat} {s:ByteArray} {w w':World} {op m:Nat} {ns:List RN} {j j' lo:Nat} {r:Res} {e:Ending} (h:REnds rb s w op m ns j lo r e w') (hj:j'≤j):REnds rb s w op m ns j' lo r e w':=by
 obtain ⟨hk,h⟩:=h
 refine ⟨hk, ?_⟩
 cases r with
 | ok t st=>obtain ⟨new,h1,h2,h3⟩:=h;exact ⟨new,h1,h2.less hj,h3⟩
 | err en pl=>exact h
theorem vd7 (rb:Nat) (s:ByteArray) (op m:Nat) (f:St→Res) (w:World) (st:St) (ns:List RN) (j:Nat) (l:Ast) (st1:St) (T:T1 rb s op m f w st ns j l st1) (hk7:st1.tk.kind=7) (hk210:(v6 s st1).tk.kind=10) :
  Calls Tryz.prog 294 #[.pointer (some ⟨rb,0,none⟩)] w (DEnds rb s w op (m+1) ns j st.place (negR true st1.place (qa0 s f l (v6 s st1)))):=by
 obtain ⟨hs,hm,hm',hf,eS,h,ho,hres⟩:=T
 obtain ⟨k2,_⟩:=h.ct
 have hlt:=h.lt
 have HC:=v7 (hf w st ns j h ho)
 have HF:=v7 hf
 have ES:=v7 eS
 have HRES:=v7 hres
 obtain ⟨b0,hb0⟩:∃b:Bool,(opA l==0)=b:=⟨_,rfl⟩
 have HB0:=v7 hb0
 have hcmp:decide (16≤st1.tk.kind∧st1.tk.kind≤21)=false:=decide_eq_false (by omega)
 have hi14:(rK st1.tk.kind==6&&((BS (tkS st1)).toList==(⟨#[73,83]⟩:ByteArray).toList))=false:=(isK (c:=14) rfl (by decide) (by decide) 6 rfl).trans (beq_eq_false_iff_ne.2 (by omega))
 have hi7:(rK st1.tk.kind==6&&((BS (tkS st1)).toList==(⟨#[78,79,84]⟩:ByteArray).toList))=true:=(isK (c:=7) rfl (by decide) (by decide) 6 rfl).trans (by rw [hk7];rfl)
 have hj10:(rK (v6 s st1).tk.kind==6&&((BS (tkS (v6 s st1))).toList==(⟨#[66,69,84,87,69,69,78]⟩:ByteArray).toList))=true:=(isK (c:=10) rfl (by decide) (by decide) 6 rfl).trans (by rw [hk210];rfl)
 have hj11:(rK (v6 s st1).tk.kind==6&&((BS (tkS (v6 s st1))).toList==(⟨#[73,78]⟩:ByteArray).toList))=false:=(isK (c:=11) rfl (by decide) (by decide) 6 rfl).trans (beq_eq_false_iff_ne.2 (by omega))
 have hj12:(rK (v6 s st1).tk.kind==6&&((BS (tkS (v6 s st1))).toList==(⟨#[76,73,75,69]⟩:ByteArray).toList))=false:=(isK (c:=12) rfl (by decide) (by decide) 6 rfl).trans (beq_eq_false_iff_ne.2 (by omega))
 have HKc:=v7 hk7
 clear hk7
 have HK2c:=v7 hk210
 clear hk210
 clear h hf eS hres
 rcases (show (rK st.tk.kind==2)=false∨((rK st.tk.kind==2)=true∧b0=false)∨((rK st.tk.kind==2)=true∧b0=true) by cases (rK st.tk.kind==2)<;>cases b0<;>simp) with q2|⟨q2,rfl⟩|⟨q2,rfl⟩
 all_goals
  go_enter Tryz.func294,Tryz.ntmps294
  go_wp2_with (first|(go_at_call 320;refine (q9 HC).mono ?_;rintro e w1 ⟨hk1,h1⟩;rw [q9 HRES] at h1;obtain ⟨new,he,hr1,ho1,hp1,hfl⟩:=h1;obtain ⟨i0,hi0⟩:∃k:Nat,ns.length+new.length - 1=k:=⟨_,rfl⟩;rw [hi0] at he;subst he;obtain ⟨gN,capN,LN,N,cN0,hLN,cN,hNm⟩:=hr1.opAt hfl hi0;rw [q9 HB0] at hNm;have c8:=hr1.c8;obtain ⟨t2,t3,t4,t5,t6⟩:=hr1.ct;have hlt1:=hr1.lt;have nL:¬rb=w1.heap.size:=(by omega);have nL':¬w1.heap.size=rb:=(by omega);have hgN:gN<w1.heap.size:=World.block_lt_of_cell? w1 _ cN;have HI0:=v7 hi0;have HR1:=v7 hr1;have HK1:=v7 hk1;have HFL:=v7 hfl;clear hk1 hr1 hfl hi0)|(go_at_call 321;refine (qb1 _ _ _ _ _ _).mono ?_;rintro e w2 ⟨rfl,hb2⟩;rw [qc5 st1,hcmp];have hv0:=VN.new (q9 HR1) 235 #[.int .i64 (rK st1.tk.kind),.int .i64 st1.place,.int .i64 (tkZ st1),.string (BS (tkS st1)),.int .i64 (tkN st1)] rfl;have hr0:=(q9 HR1).alloc (.cells #[.int .i64 (rK st1.tk.kind),.int .i64 st1.place,.int .i64 (tkZ st1),.string (BS (tkS st1)),.int .i64 (tkN st1)] 235);have hkb:=TKept.of_below hb2 hr0.lt;have hv2:=hv0.kept hkb;have hr2:=hr0.below hb2;have hk2:=((q9 HK1).alloc hlt (.cells #[.int .i64 (rK st1.tk.kind),.int .i64 st1.place,.int .i64 (tkZ st1),.string (BS (tkS st1)),.int .i64 (tkN st1)] 235)).trans hkb;have hlt2:=hr2.lt;obtain ⟨_,u3,_⟩:=hr2.ct;have nM1:¬rb=w2.heap.size:=(by omega);have nM2:¬rb=w2.heap.size+1:=(by omega);have nM3:¬w2.heap.size=rb:=(by omega);have nM4:¬w2.heap.size+1=rb:=(by omega);have HR2:=v7 hr2;have HK2:=v7 hk2;clear hb2 hv0 hr0 hkb hv2 hr2 hk2)|(go_at_call 215;(first|refine (qg2 (q9 HR4)).mono ?_|refine (qg2 (q9 HR2)).mono ?_|refine (qg2 (((q9 HR2).alloc _).alloc _)).mono ?_);rintro e w' ⟨rfl,hw'⟩;subst w';simp only [hi14,hi7,hj10,hj11,hj12])|(go_at_call 172;have hr2':RT ((w2.alloc (.cells #[.int .i64 i0] 3)).alloc (.cells #[.string ⟨#[]⟩,.int .i64 0,.slice (some ⟨w2.heap.size,0,none⟩) 1 1,.string ⟨#[]⟩,.string ⟨#[]⟩,.slice none 0 0,.int .i64 0,.bool true,.int .i64 0] 241)) rb s (ns++new) j st1:=((q9 HR2).alloc _).alloc _;refine (j7 hr2' hs (by have:=q9 HKc;omega) (by have:=q9 HKc;omega)).mono ?_;rintro e w3 ⟨rfl,hk3,hr3⟩;have hg0:VN ((w2.alloc (.cells #[.int .i64 i0] 3)).alloc (.cells #[.string ⟨#[]⟩,.int .i64 0,.slice (some ⟨w2.heap.size,0,none⟩) 1 1,.string ⟨#[]⟩,.string ⟨#[]⟩,.slice none 0 0,.int .i64 0,.bool true,.int .i64 0] 241)) rb w2.heap.size 3 #[.int .i64 i0]:=(VN.new (q9 HR2) 3 #[.int .i64 i0] rfl).alloc (by simp;omega) _;have hv0:VN ((w2.alloc (.cells #[.int .i64 i0] 3)).alloc (.cells #[.string ⟨#[]⟩,.int .i64 0,.slice (some ⟨w2.heap.size,0,none⟩) 1 1,.string ⟨#[]⟩,.string ⟨#[]⟩,.slice none 0 0,.int .i64 0,.bool true,.int .i64 0] 241)) rb (w2.heap.size+1) 241 #[.string ⟨#[]⟩,.int .i64 0,.slice (some ⟨w2.heap.size,0,none⟩) 1 1,.string ⟨#[]⟩,.string ⟨#[]⟩,.slice none 0 0,.int .i64 0,.bool true,.int .i64 0]:=VN.new ((q9 HR2).alloc _) _ _ (by simp);have hv3:=hv0.kept hk3;have hg3:=hg0.kept hk3;have hL3:=hv3.lt;have hlt3:=hr3.lt;obtain ⟨_,u33,_⟩:=hr3.ct;have y0:w3.cell? ⟨w2.heap.size+1,0,none⟩=some (.string ⟨#[]⟩):=hv3.cell 0;have y1:w3.cell? ⟨w2.heap.size+1,1,none⟩=some (.int .i64 0):=hv3.cell 1;have y2:w3.cell? ⟨w2.heap.size+1,2,none⟩=some (.slice (some ⟨w2.heap.size,0,none⟩) 1 1):=hv3.cell 2;have y3:w3.cell? ⟨w2.heap.size+1,3,none⟩=some (.string ⟨#[]⟩):=hv3.cell 3;have y4:w3.cell? ⟨w2.heap.size+1,4,none⟩=some (.string ⟨#[]⟩):=hv3.cell 4;have y5:w3.cell? ⟨w2.heap.size+1,5,none⟩=some (.slice none 0 0):=hv3.cell 5;have y6:w3.cell? ⟨w2.heap.size+1,6,none⟩=some (.int .i64 0):=hv3.cell 6;have y7:w3.cell? ⟨w2.heap.size+1,7,none⟩=some (.bool true):=hv3.cell 7;have y8:w3.cell? ⟨w2.heap.size+1,8,none⟩=some (.int .i64 0):=hv3.cell 8;have yz:∀i,w3.frozen? ⟨w2.heap.size+1,i,none⟩=false:=hv3.frz;have hpp:=(q9 HR1).fine.step_place (by have:=q9 HKc;omega);have HR4:=v7 (hv3.rt (by decide) (by decide) hr3 1 (.int .i64 (v6 s st1).place));have HG4:=v7 (hg3.setB (by omega) nM4 1 (.int .i64 (v6 s st1).place));have HK4:=v7 ((((((q9 HK2).alloc hlt _).alloc hlt _).trans hk3).far hlt (p:=⟨w2.heap.size+1,1,none⟩) (by show w.heap.size≤w2.heap.size+1;have:=(q9 HK2).size;omega) (.int .i64 (v6 s st1).place)));clear hk3 hr3 hv0 hg0 hv3 hg3 hr2')|(go_at_call 323;refine (qz8 rb s hs op m hm hm' f (q9 HF) (q9 ES) _ (v6 s st1) ns new (j+1) l (q9 HR4) ho1 (q9 HK2c) (q9 HFL) i0 (q9 HI0).symm w2.heap.size (q9 HG4) true st1.place).mono ?_;rintro e w5 h5;obtain ⟨v5,rfl⟩:=h5.ret;have H5:=v7 h5;clear h5))
  go_ret
  exact (((q9 H5).slack (by omega)).from (q9 HK4) (by omega)).d
theorem rtest_nin (rb:Nat) (s:ByteArray) (op m:Nat) (f:St→Res) (w:World) (st:St) (ns:List RN) (j:Nat) (l:Ast) (st1:St) (T:T1 rb s op m f w st ns j l st1) (hb:qd8 st l=true) (hk7:st1.tk.kind=7) (hk211:(v6 s st1).tk.kind=11) :
  Calls Tryz.prog 294 #[.pointer (some ⟨rb,0,none⟩)] w (DEnds rb s w op (m+1) ns j st.place (negR true st1.place (qh7 s l (v6 s st1)))):=by
 obtain ⟨hs,hm,hm',hf,eS,h,ho,hres⟩:=T
 obtain ⟨k2,_⟩:=h.ct
 have hlt:=h.lt
 have HC:=v7 (hf w st ns j h ho)
 have HF:=v7 hf
 have ES:=v7 eS
 have HRES:=v7 hres
 obtain ⟨b0,hb0⟩:∃b:Bool,(opA l==0)=b:=⟨_,rfl⟩
 have HB0:=v7 hb0
 have hcmp:decide (16≤st1.tk.kind∧st1.tk.kind≤21)=false:=decide_eq_false (by omega)
 have hbare:qd8 st l=(rK st.tk.kind==2&&b0):=by unfold qd8;rw [rK_2,hb0]
 rw [hbare,Bool.and_eq_true] at hb
 obtain ⟨q2,rfl⟩:=hb
 clear hbare
 have hi14:(rK st1.tk.kind==6&&((BS (tkS st1)).toList==(⟨#[73,83]⟩:ByteArray).toList))=false:=(isK (c:=14) rfl (by decide) (by decide) 6 rfl).trans (beq_eq_false_iff_ne.2 (by omega))
 have hi7:(rK st1.tk.kind==6&&((BS (tkS st1)).toList==(⟨#[78,79,84]⟩:ByteArray).toList))=true:=(isK (c:=7) rfl (by decide) (by decide) 6 rfl).trans (by rw [hk7];rfl)
 have hj10:(rK (v6 s st1).tk.kind==6&&((BS (tkS (v6 s st1))).toList==(⟨#[66,69,84,87,69,69,78]⟩:ByteArray).toList))=false:=(isK (c:=10) rfl (by decide) (by decide) 6 rfl).trans (beq_eq_false_iff_ne.2 (by omega))
 have hj11:(rK (v6 s st1).tk.kind==6&&((BS (tkS (v6 s st1))).toList==(⟨#[73,78]⟩:ByteArray).toList))=true:=(isK (c:=11) rfl (by decide) (by decide) 6 rfl).trans (by rw [hk211];rfl)
 have hj12:(rK (v6 s st1).tk.kind==6&&((BS (tkS (v6 s st1))).toList==(⟨#[76,73,75,69]⟩:ByteArray).toList))=false:=(isK (c:=12) rfl (by decide) (by decide) 6 rfl).trans (beq_eq_false_iff_ne.2 (by omega))
 have HKc:=v7 hk7
 clear hk7
 have HK2c:=v7 hk211
 clear hk211
 clear h hf eS hres
 go_enter Tryz.func294,Tryz.ntmps294
 go_wp2_with (first|(go_at_call 320;refine (q9 HC).mono ?_;rintro e w1 ⟨hk1,h1⟩;rw [q9 HRES] at h1;obtain ⟨new,he,hr1,ho1,hp1,hfl⟩:=h1;obtain ⟨i0,hi0⟩:∃k:Nat,ns.length+new.length - 1=k:=⟨_,rfl⟩;rw [hi0] at he;subst he;obtain ⟨gN,capN,LN,N,cN0,hLN,cN,hNm⟩:=hr1.opAt hfl hi0;rw [q9 HB0] at hNm;have c8:=hr1.c8;obtain ⟨t2,t3,t4,t5,t6⟩:=hr1.ct;have hlt1:=hr1.lt;have nL:¬rb=w1.heap.size:=(by omega);have nL':¬w1.heap.size=rb:=(by omega);have hgN:gN<w1.heap.size:=World.block_lt_of_cell? w1 _ cN;have HI0:=v7 hi0;have HR1:=v7 hr1;have HK1:=v7 hk1;have HFL:=v7 hfl;clear hk1 hr1 hfl hi0)|(go_at_call 321;refine (qb1 _ _ _ _ _ _).mono ?_;rintro e w2 ⟨rfl,hb2⟩;rw [qc5 st1,hcmp];have hv0:=VN.new (q9 HR1) 235 #[.int .i64 (rK st1.tk.kind),.int .i64 st1.place,.int .i64 (tkZ st1),.string (BS (tkS st1)),.int .i64 (tkN st1)] rfl;have hr0:=(q9 HR1).alloc (.cells #[.int .i64 (rK st1.tk.kind),.int .i64 st1.place,.int .i64 (tkZ st1),.string (BS (tkS st1)),.int .i64 (tkN st1)] 235);have hkb:=TKept.of_below hb2 hr0.lt;have hv2:=hv0.kept hkb;have hr2:=hr0.below hb2;have hk2:=((q9 HK1).alloc hlt (.cells #[.int .i64 (rK st1.tk.kind),.int .i64 st1.place,.int .i64 (tkZ st1),.string (BS (tkS st1)),.int .i64 (tkN st1)] 235)).trans hkb;have hlt2:=hr2.lt;obtain ⟨_,u3,_⟩:=hr2.ct;have nM1:¬rb=w2.heap.size:=(by omega);have nM2:¬rb=w2.heap.size+1:=(by omega);have nM3:¬w2.heap.size=rb:=(by omega);have nM4:¬w2.heap.size+1=rb:=(by omega);have HR2:=v7 hr2;have HK2:=v7 hk2;clear hb2 hv0 hr0 hkb hv2 hr2 hk2)|(go_at_call 215;(first|refine (qg2 (q9 HR4)).mono ?_|refine (qg2 (q9 HR2)).mono ?_|refine (qg2 (((q9 HR2).alloc _).alloc _)).mono ?_);rintro e w' ⟨rfl,hw'⟩;subst w';simp only [hi14,hi7,hj10,hj11,hj12])|(go_at_call 172;have hr2':RT ((w2.alloc (.cells #[.int .i64 i0] 3)).alloc (.cells #[.string ⟨#[]⟩,.int .i64 0,.slice (some ⟨w2.heap.size,0,none⟩) 1 1,.string ⟨#[]⟩,.string ⟨#[]⟩,.slice none 0 0,.int .i64 0,.bool true,.int .i64 0] 241)) rb s (ns++new) j st1:=((q9 HR2).alloc _).alloc _;refine (j7 hr2' hs (by have:=q9 HKc;omega) (by have:=q9 HKc;omega)).mono ?_;rintro e w3 ⟨rfl,hk3,hr3⟩;have hg0:VN ((w2.alloc (.cells #[.int .i64 i0] 3)).alloc (.cells #[.string ⟨#[]⟩,.int .i64 0,.slice (some ⟨w2.heap.size,0,none⟩) 1 1,.string ⟨#[]⟩,.string ⟨#[]⟩,.slice none 0 0,.int .i64 0,.bool true,.int .i64 0] 241)) rb w2.heap.size 3 #[.int .i64 i0]:=(VN.new (q9 HR2) 3 #[.int .i64 i0] rfl).alloc (by simp;omega) _;have hv0:VN ((w2.alloc (.cells #[.int .i64 i0] 3)).alloc (.cells #[.string ⟨#[]⟩,.int .i64 0,.slice (some ⟨w2.heap.size,0,none⟩) 1 1,.string ⟨#[]⟩,.string ⟨#[]⟩,.slice none 0 0,.int .i64 0,.bool true,.int .i64 0] 241)) rb (w2.heap.size+1) 241 #[.string ⟨#[]⟩,.int .i64 0,.slice (some ⟨w2.heap.size,0,none⟩) 1 1,.string ⟨#[]⟩,.string ⟨#[]⟩,.slice none 0 0,.int .i64 0,.bool true,.int .i64 0]:=VN.new ((q9 HR2).alloc _) _ _ (by simp);have hv3:=hv0.kept hk3;have hg3:=hg0.kept hk3;have hL3:=hv3.lt;have hlt3:=hr3.lt;obtain ⟨_,u33,_⟩:=hr3.ct;have y0:w3.cell? ⟨w2.heap.size+1,0,none⟩=some (.string ⟨#[]⟩):=hv3.cell 0;have y1:w3.cell? ⟨w2.heap.size+1,1,none⟩=some (.int .i64 0):=hv3.cell 1;have y2:w3.cell? ⟨w2.heap.size+1,2,none⟩=some (.slice (some ⟨w2.heap.size,0,none⟩) 1 1):=hv3.cell 2;have y3:w3.cell? ⟨w2.heap.size+1,3,none⟩=some (.string ⟨#[]⟩):=hv3.cell 3;have y4:w3.cell? ⟨w2.heap.size+1,4,none⟩=some (.string ⟨#[]⟩):=hv3.cell 4;have y5:w3.cell? ⟨w2.heap.size+1,5,none⟩=some (.slice none 0 0):=hv3.cell 5;have y6:w3.cell? ⟨w2.heap.size+1,6,none⟩=some (.int .i64 0):=hv3.cell 6;have y7:w3.cell? ⟨w2.heap.size+1,7,none⟩=some (.bool true):=hv3.cell 7;have y8:w3.cell? ⟨w2.heap.size+1,8,none⟩=some (.int .i64 0):=hv3.cell 8;have yz:∀i,w3.frozen? ⟨w2.heap.size+1,i,none⟩=false:=hv3.frz;have hpp:=(q9 HR1).fine.step_place (by have:=q9 HKc;omega);have HR4:=v7 (hv3.rt (by decide) (by decide) hr3 1 (.int .i64 (v6 s st1).place));have HG4:=v7 (hg3.setB (by omega) nM4 1 (.int .i64 (v6 s st1).place));have HK4:=v7 ((((((q9 HK2).alloc hlt _).alloc hlt _).trans hk3).far hlt (p:=⟨w2.heap.size+1,1,none⟩) (by show w.heap.size≤w2.heap.size+1;have:=(q9 HK2).size;omega) (.int .i64 (v6 s st1).place)));clear hk3 hr3 hv0 hg0 hv3 hg3 hr2')|(go_at_call 324;refine (vf1 rb s hs op (m+1) (by omega) _ (v6 s st1) ns new (j+1) l (q9 HR4) ho1 (q9 HK2c) (q9 HFL) i0 (q9 HI0).symm w2.heap.size (q9 HG4) true st1.place).mono ?_;rintro e w5 h5;obtain ⟨v5,rfl⟩:=h5.ret;have H5:=v7 h5;clear h5))
 go_ret
 exact (((q9 H5).slack (by omega)).from (q9 HK4) (by omega)).d
theorem vx3 (rb:Nat) (s:ByteArray) (op m:Nat) (f:St→Res) (w:World) (st:St) (ns:List RN) (j:Nat) (l:Ast) (st1:St) (T:T1 rb s op m f w st ns j l st1) (hb:qd8 st l=true) (hk7:st1.tk.kind=7) (hk212:(v6 s st1).tk.kind=12) :
  Calls Tryz.prog 294 #[.pointer (some ⟨rb,0,none⟩)] w (DEnds rb s w op (m+1) ns j st.place (negR true st1.place (qa9 s l (v6 s st1)))):=by
 obtain ⟨hs,hm,hm',hf,eS,h,ho,hres⟩:=T
 obtain ⟨k2,_⟩:=h.ct
 have hlt:=h.lt
 have HC:=v7 (hf w st ns j h ho)
 have HF:=v7 hf
 have ES:=v7 eS
 have HRES:=v7 hres
 obtain ⟨b0,hb0⟩:∃b:Bool,(opA l==0)=b:=⟨_,rfl⟩
 have HB0:=v7 hb0
 have hcmp:decide (16≤st1.tk.kind∧st1.tk.kind≤21)=false:=decide_eq_false (by omega)
 have hbare:qd8 st l=(rK st.tk.kind==2&&b0):=by unfold qd8;rw [rK_2,hb0]
 rw [hbare,Bool.and_eq_true] at hb
 obtain ⟨q2,rfl⟩:=hb
 clear hbare
 have hi14:(rK st1.tk.kind==6&&((BS (tkS st1)).toList==(⟨#[73,83]⟩:ByteArray).toList))=false:=(isK (c:=14) rfl (by decide) (by decide) 6 rfl).trans (beq_eq_false_iff_ne.2 (by omega))
 have hi7:(rK st1.tk.kind==6&&((BS (tkS st1)).toList==(⟨#[78,79,84]⟩:ByteArray).toList))=true:=(isK (c:=7) rfl (by decide) (by decide) 6 rfl).trans (by rw [hk7];rfl)
 have hj10:(rK (v6 s st1).tk.kind==6&&((BS (tkS (v6 s st1))).toList==(⟨#[66,69,84,87,69,69,78]⟩:ByteArray).toList))=false:=(isK (c:=10) rfl (by decide) (by decide) 6 rfl).trans (beq_eq_false_iff_ne.2 (by omega))
 have hj11:(rK (v6 s st1).tk.kind==6&&((BS (tkS (v6 s st1))).toList==(⟨#[73,78]⟩:ByteArray).toList))=false:=(isK (c:=11) rfl (by decide) (by decide) 6 rfl).trans (beq_eq_false_iff_ne.2 (by omega))
 have hj12:(rK (v6 s st1).tk.kind==6&&((BS (tkS (v6 s st1))).toList==(⟨#[76,73,75,69]⟩:ByteArray).toList))=true:=(isK (c:=12) rfl (by decide) (by decide) 6 rfl).trans (by rw [hk212];rfl)
 have HKc:=v7 hk7
 clear hk7
 have HK2c:=v7 hk212
 clear hk212
 clear h hf eS hres
 go_enter Tryz.func294,Tryz.ntmps294
 go_wp2_with (first|(go_at_call 320;refine (q9 HC).mono ?_;rintro e w1 ⟨hk1,h1⟩;rw [q9 HRES] at h1;obtain ⟨new,he,hr1,ho1,hp1,hfl⟩:=h1;obtain ⟨i0,hi0⟩:∃k:Nat,ns.length+new.length - 1=k:=⟨_,rfl⟩;rw [hi0] at he;subst he;obtain ⟨gN,capN,LN,N,cN0,hLN,cN,hNm⟩:=hr1.opAt hfl hi0;rw [q9 HB0] at hNm;have c8:=hr1.c8;obtain ⟨t2,t3,t4,t5,t6⟩:=hr1.ct;have hlt1:=hr1.lt;have nL:¬rb=w1.heap.size:=(by omega);have nL':¬w1.heap.size=rb:=(by omega);have hgN:gN<w1.heap.size:=World.block_lt_of_cell? w1 _ cN;have HI0:=v7 hi0;have HR1:=v7 hr1;have HK1:=v7 hk1;have HFL:=v7 hfl;clear hk1 hr1 hfl hi0)|(go_at_call 321;refine (qb1 _ _ _ _ _ _).mono ?_;rintro e w2 ⟨rfl,hb2⟩;rw [qc5 st1,hcmp];have hv0:=VN.new (q9 HR1) 235 #[.int .i64 (rK st1.tk.kind),.int .i64 st1.place,.int .i64 (tkZ st1),.string (BS (tkS st1)),.int .i64 (tkN st1)] rfl;have hr0:=(q9 HR1).alloc (.cells #[.int .i64 (rK st1.tk.kind),.int .i64 st1.place,.int .i64 (tkZ st1),.string (BS (tkS st1)),.int .i64 (tkN st1)] 235);have hkb:=TKept.of_below hb2 hr0.lt;have hv2:=hv0.kept hkb;have hr2:=hr0.below hb2;have hk2:=((q9 HK1).alloc hlt (.cells #[.int .i64 (rK st1.tk.kind),.int .i64 st1.place,.int .i64 (tkZ st1),.string (BS (tkS st1)),.int .i64 (tkN st1)] 235)).trans hkb;have hlt2:=hr2.lt;obtain ⟨_,u3,_⟩:=hr2.ct;have nM1:¬rb=w2.heap.size:=(by omega);have nM2:¬rb=w2.heap.size+1:=(by omega);have nM3:¬w2.heap.size=rb:=(by omega);have nM4:¬w2.heap.size+1=rb:=(by omega);have HR2:=v7 hr2;have HK2:=v7 hk2;clear hb2 hv0 hr0 hkb hv2 hr2 hk2)|(go_at_call 215;(first|refine (qg2 (q9 HR4)).mono ?_|refine (qg2 (q9 HR2)).mono ?_|refine (qg2 (((q9 HR2).alloc _).alloc _)).mono ?_);rintro e w' ⟨rfl,hw'⟩;subst w';simp only [hi14,hi7,hj10,hj11,hj12])|(go_at_call 172;have hr2':RT ((w2.alloc (.cells #[.int .i64 i0] 3)).alloc (.cells #[.string ⟨#[]⟩,.int .i64 0,.slice (some ⟨w2.heap.size,0,none⟩) 1 1,.string ⟨#[]⟩,.string ⟨#[]⟩,.slice none 0 0,.int .i64 0,.bool true,.int .i64 0] 241)) rb s (ns++new) j st1:=((q9 HR2).alloc _).alloc _;refine (j7 hr2' hs (by have:=q9 HKc;omega) (by have:=q9 HKc;omega)).mono ?_;rintro e w3 ⟨rfl,hk3,hr3⟩;have hg0:VN ((w2.alloc (.cells #[.int .i64 i0] 3)).alloc (.cells #[.string ⟨#[]⟩,.int .i64 0,.slice (some ⟨w2.heap.size,0,none⟩) 1 1,.string ⟨#[]⟩,.string ⟨#[]⟩,.slice none 0 0,.int .i64 0,.bool true,.int .i64 0] 241)) rb w2.heap.size 3 #[.int .i64 i0]:=(VN.new (q9 HR2) 3 #[.int .i64 i0] rfl).alloc (by simp;omega) _;have hv0:VN ((w2.alloc (.cells #[.int .i64 i0] 3)).alloc (.cells #[.string ⟨#[]⟩,.int .i64 0,.slice (some ⟨w2.heap.size,0,none⟩) 1 1,.string ⟨#[]⟩,.string ⟨#[]⟩,.slice none 0 0,.int .i64 0,.bool true,.int .i64 0] 241)) rb (w2.heap.size+1) 241 #[.string ⟨#[]⟩,.int .i64 0,.slice (some ⟨w2.heap.size,0,none⟩) 1 1,.string ⟨#[]⟩,.string ⟨#[]⟩,.slice none 0 0,.int .i64 0,.bool true,.int .i64 0]:=VN.new ((q9 HR2).alloc _) _ _ (by simp);have hv3:=hv0.kept hk3;have hg3:=hg0.kept hk3;have hL3:=hv3.lt;have hlt3:=hr3.lt;obtain ⟨_,u33,_⟩:=hr3.ct;have y0:w3.cell? ⟨w2.heap.size+1,0,none⟩=some (.string ⟨#[]⟩):=hv3.cell 0;have y1:w3.cell? ⟨w2.heap.size+1,1,none⟩=some (.int .i64 0):=hv3.cell 1;have y2:w3.cell? ⟨w2.heap.size+1,2,none⟩=some (.slice (some ⟨w2.heap.size,0,none⟩) 1 1):=hv3.cell 2;have y3:w3.cell? ⟨w2.heap.size+1,3,none⟩=some (.string ⟨#[]⟩):=hv3.cell 3;have y4:w3.cell? ⟨w2.heap.size+1,4,none⟩=some (.string ⟨#[]⟩):=hv3.cell 4;have y5:w3.cell? ⟨w2.heap.size+1,5,none⟩=some (.slice none 0 0):=hv3.cell 5;have y6:w3.cell? ⟨w2.heap.size+1,6,none⟩=some (.int .i64 0):=hv3.cell 6;have y7:w3.cell? ⟨w2.heap.size+1,7,none⟩=some (.bool true):=hv3.cell 7;have y8:w3.cell? ⟨w2.heap.size+1,8,none⟩=some (.int .i64 0):=hv3.cell 8;have yz:∀i,w3.frozen? ⟨w2.heap.size+1,i,none⟩=false:=hv3.frz;have hpp:=(q9 HR1).fine.step_place (by have:=q9 HKc;omega);have HR4:=v7 (hv3.rt (by decide) (by decide) hr3 1 (.int .i64 (v6 s st1).place));have HG4:=v7 (hg3.setB (by omega) nM4 1 (.int .i64 (v6 s st1).place));have HK4:=v7 ((((((q9 HK2).alloc hlt _).alloc hlt _).trans hk3).far hlt (p:=⟨w2.heap.size+1,1,none⟩) (by show w.heap.size≤w2.heap.size+1;have:=(q9 HK2).size;omega) (.int .i64 (v6 s st1).place)));clear hk3 hr3 hv0 hg0 hv3 hg3 hr2')|(go_at_call 325;refine (vq7 rb s hs op (m+1) (by omega) _ (v6 s st1) ns new (j+1) l (q9 HR4) ho1 (q9 HK2c) (q9 HFL) i0 (q9 HI0).symm w2.heap.size (q9 HG4) true st1.place).mono ?_;rintro e w5 h5;obtain ⟨v5,rfl⟩:=h5.ret;have H5:=v7 h5;clear h5))
 go_ret
 exact (((q9 H5).slack (by omega)).from (q9 HK4) (by omega)).d
theorem vr5 (rb:Nat) (s:ByteArray) (op m:Nat) (f:St→Res) (w:World) (st:St) (ns:List RN) (j:Nat) (l:Ast) (st1:St) (T:T1 rb s op m f w st ns j l st1) (hk7:st1.tk.kind=7) (hk2:(v6 s st1).tk.kind≠10∧(v6 s st1).tk.kind≠11∧(v6 s st1).tk.kind≠12) :
  Calls Tryz.prog 294 #[.pointer (some ⟨rb,0,none⟩)] w (DEnds rb s w op (m+1) ns j st.place (.err 2 (v6 s st1).place)):=by
 obtain ⟨hs,hm,hm',hf,eS,h,ho,hres⟩:=T
 obtain ⟨k2,_⟩:=h.ct
 have hlt:=h.lt
 have HC:=v7 (hf w st ns j h ho)
 have HF:=v7 hf
 have ES:=v7 eS
 have HRES:=v7 hres
 obtain ⟨b0,hb0⟩:∃b:Bool,(opA l==0)=b:=⟨_,rfl⟩
 have HB0:=v7 hb0
 have hcmp:decide (16≤st1.tk.kind∧st1.tk.kind≤21)=false:=decide_eq_false (by omega)
 have hi14:(rK st1.tk.kind==6&&((BS (tkS st1)).toList==(⟨#[73,83]⟩:ByteArray).toList))=false:=(isK (c:=14) rfl (by decide) (by decide) 6 rfl).trans (beq_eq_false_iff_ne.2 (by omega))
 have hi7:(rK st1.tk.kind==6&&((BS (tkS st1)).toList==(⟨#[78,79,84]⟩:ByteArray).toList))=true:=(isK (c:=7) rfl (by decide) (by decide) 6 rfl).trans (by rw [hk7];rfl)
 have hj10:(rK (v6 s st1).tk.kind==6&&((BS (tkS (v6 s st1))).toList==(⟨#[66,69,84,87,69,69,78]⟩:ByteArray).toList))=false:=(isK (c:=10) rfl (by decide) (by decide) 6 rfl).trans (beq_eq_false_iff_ne.2 (by omega))
 have hj11:(rK (v6 s st1).tk.kind==6&&((BS (tkS (v6 s st1))).toList==(⟨#[73,78]⟩:ByteArray).toList))=false:=(isK (c:=11) rfl (by decide) (by decide) 6 rfl).trans (beq_eq_false_iff_ne.2 (by omega))
 have hj12:(rK (v6 s st1).tk.kind==6&&((BS (tkS (v6 s st1))).toList==(⟨#[76,73,75,69]⟩:ByteArray).toList))=false:=(isK (c:=12) rfl (by decide) (by decide) 6 rfl).trans (beq_eq_false_iff_ne.2 (by omega))
 have HKc:=v7 hk7
 clear hk7
 clear h hf eS hres
 rcases (show (rK st.tk.kind==2)=false∨((rK st.tk.kind==2)=true∧b0=false)∨((rK st.tk.kind==2)=true∧b0=true) by cases (rK st.tk.kind==2)<;>cases b0<;>simp) with q2|⟨q2,rfl⟩|⟨q2,rfl⟩
 all_goals
  go_enter Tryz.func294,Tryz.ntmps294
  go_wp2_with (first|(go_at_call 320;refine (q9 HC).mono ?_;rintro e w1 ⟨hk1,h1⟩;rw [q9 HRES] at h1;obtain ⟨new,he,hr1,ho1,hp1,hfl⟩:=h1;obtain ⟨i0,hi0⟩:∃k:Nat,ns.length+new.length - 1=k:=⟨_,rfl⟩;rw [hi0] at he;subst he;obtain ⟨gN,capN,LN,N,cN0,hLN,cN,hNm⟩:=hr1.opAt hfl hi0;rw [q9 HB0] at hNm;have c8:=hr1.c8;obtain ⟨t2,t3,t4,t5,t6⟩:=hr1.ct;have hlt1:=hr1.lt;have nL:¬rb=w1.heap.size:=(by omega);have nL':¬w1.heap.size=rb:=(by omega);have hgN:gN<w1.heap.size:=World.block_lt_of_cell? w1 _ cN;have HI0:=v7 hi0;have HR1:=v7 hr1;have HK1:=v7 hk1;have HFL:=v7 hfl;clear hk1 hr1 hfl hi0)|(go_at_call 321;refine (qb1 _ _ _ _ _ _).mono ?_;rintro e w2 ⟨rfl,hb2⟩;rw [qc5 st1,hcmp];have hv0:=VN.new (q9 HR1) 235 #[.int .i64 (rK st1.tk.kind),.int .i64 st1.place,.int .i64 (tkZ st1),.string (BS (tkS st1)),.int .i64 (tkN st1)] rfl;have hr0:=(q9 HR1).alloc (.cells #[.int .i64 (rK st1.tk.kind),.int .i64 st1.place,.int .i64 (tkZ st1),.string (BS (tkS st1)),.int .i64 (tkN st1)] 235);have hkb:=TKept.of_below hb2 hr0.lt;have hv2:=hv0.kept hkb;have hr2:=hr0.below hb2;have hk2:=((q9 HK1).alloc hlt (.cells #[.int .i64 (rK st1.tk.kind),.int .i64 st1.place,.int .i64 (tkZ st1),.string (BS (tkS st1)),.int .i64 (tkN st1)] 235)).trans hkb;have hlt2:=hr2.lt;obtain ⟨_,u3,_⟩:=hr2.ct;have nM1:¬rb=w2.heap.size:=(by omega);have nM2:¬rb=w2.heap.size+1:=(by omega);have nM3:¬w2.heap.size=rb:=(by omega);have nM4:¬w2.heap.size+1=rb:=(by omega);have HR2:=v7 hr2;have HK2:=v7 hk2;clear hb2 hv0 hr0 hkb hv2 hr2 hk2)|(go_at_call 215;(first|refine (qg2 (q9 HR4)).mono ?_|refine (qg2 (q9 HR2)).mono ?_|refine (qg2 (((q9 HR2).alloc _).alloc _)).mono ?_);rintro e w' ⟨rfl,hw'⟩;subst w';simp only [hi14,hi7,hj10,hj11,hj12])|(go_at_call 172;have hr2':RT ((w2.alloc (.cells #[.int .i64 i0] 3)).alloc (.cells #[.string ⟨#[]⟩,.int .i64 0,.slice (some ⟨w2.heap.size,0,none⟩) 1 1,.string ⟨#[]⟩,.string ⟨#[]⟩,.slice none 0 0,.int .i64 0,.bool true,.int .i64 0] 241)) rb s (ns++new) j st1:=((q9 HR2).alloc _).alloc _;refine (j7 hr2' hs (by have:=q9 HKc;omega) (by have:=q9 HKc;omega)).mono ?_;rintro e w3 ⟨rfl,hk3,hr3⟩;have hg0:VN ((w2.alloc (.cells #[.int .i64 i0] 3)).alloc (.cells #[.string ⟨#[]⟩,.int .i64 0,.slice (some ⟨w2.heap.size,0,none⟩) 1 1,.string ⟨#[]⟩,.string ⟨#[]⟩,.slice none 0 0,.int .i64 0,.bool true,.int .i64 0] 241)) rb w2.heap.size 3 #[.int .i64 i0]:=(VN.new (q9 HR2) 3 #[.int .i64 i0] rfl).alloc (by simp;omega) _;have hv0:VN ((w2.alloc (.cells #[.int .i64 i0] 3)).alloc (.cells #[.string ⟨#[]⟩,.int .i64 0,.slice (some ⟨w2.heap.size,0,none⟩) 1 1,.string ⟨#[]⟩,.string ⟨#[]⟩,.slice none 0 0,.int .i64 0,.bool true,.int .i64 0] 241)) rb (w2.heap.size+1) 241 #[.string ⟨#[]⟩,.int .i64 0,.slice (some ⟨w2.heap.size,0,none⟩) 1 1,.string ⟨#[]⟩,.string ⟨#[]⟩,.slice none 0 0,.int .i64 0,.bool true,.int .i64 0]:=VN.new ((q9 HR2).alloc _) _ _ (by simp);have hv3:=hv0.kept hk3;have hg3:=hg0.kept hk3;have hL3:=hv3.lt;have hlt3:=hr3.lt;obtain ⟨_,u33,_⟩:=hr3.ct;have y0:w3.cell? ⟨w2.heap.size+1,0,none⟩=some (.string ⟨#[]⟩):=hv3.cell 0;have y1:w3.cell? ⟨w2.heap.size+1,1,none⟩=some (.int .i64 0):=hv3.cell 1;have y2:w3.cell? ⟨w2.heap.size+1,2,none⟩=some (.slice (some ⟨w2.heap.size,0,none⟩) 1 1):=hv3.cell 2;have y3:w3.cell? ⟨w2.heap.size+1,3,none⟩=some (.string ⟨#[]⟩):=hv3.cell 3;have y4:w3.cell? ⟨w2.heap.size+1,4,none⟩=some (.string ⟨#[]⟩):=hv3.cell 4;have y5:w3.cell? ⟨w2.heap.size+1,5,none⟩=some (.slice none 0 0):=hv3.cell 5;have y6:w3.cell? ⟨w2.heap.size+1,6,none⟩=some (.int .i64 0):=hv3.cell 6;have y7:w3.cell? ⟨w2.heap.size+1,7,none⟩=some (.bool true):=hv3.cell 7;have y8:w3.cell? ⟨w2.heap.size+1,8,none⟩=some (.int .i64 0):=hv3.cell 8;have yz:∀i,w3.frozen? ⟨w2.heap.size+1,i,none⟩=false:=hv3.frz;have hpp:=(q9 HR1).fine.step_place (by have:=q9 HKc;omega);have HR4:=v7 (hv3.rt (by decide) (by decide) hr3 1 (.int .i64 (v6 s st1).place));have HG4:=v7 (hg3.setB (by omega) nM4 1 (.int .i64 (v6 s st1).place));have HK4:=v7 ((((((q9 HK2).alloc hlt _).alloc hlt _).trans hk3).far hlt (p:=⟨w2.heap.size+1,1,none⟩) (by show w.heap.size≤w2.heap.size+1;have:=(q9 HK2).size;omega) (.int .i64 (v6 s st1).place)));clear hk3 hr3 hv0 hg0 hv3 hg3 hr2')|(go_at_call 174;refine (qn1 (q9 HR4) hs 2 (v6 s st1).place (by decide)).mono ?_;rintro e w5 ⟨rfl,hk5,hr5⟩;have HK5:=v7 ((q9 HK4).trans hk5);have HR5:=v7 hr5;clear hk5 hr5))
  go_ret
  exact ⟨q9 HK5,i0,rfl,.inl (ho1 ▸ (q9 HR5).more (by omega))⟩
theorem vj7 (rb:Nat) (s:ByteArray) (op m:Nat) (f:St→Res) (w:World) (st:St) (ns:List RN) (j:Nat) (l:Ast) (st1:St) (T:T1 rb s op m f w st ns j l st1) (hb:qd8 st l=false) (hk7:st1.tk.kind=7) (hk211:(v6 s st1).tk.kind=11) :
  Calls Tryz.prog 294 #[.pointer (some ⟨rb,0,none⟩)] w (DEnds rb s w op (m+1) ns j st.place (.err 2 (v6 s st1).place)):=by
 obtain ⟨hs,hm,hm',hf,eS,h,ho,hres⟩:=T
 obtain ⟨k2,_⟩:=h.ct
 have hlt:=h.lt
 have HC:=v7 (hf w st ns j h ho)
 have HF:=v7 hf
 have ES:=v7 eS
 have HRES:=v7 hres
 obtain ⟨b0,hb0⟩:∃b:Bool,(opA l==0)=b:=⟨_,rfl⟩
 have HB0:=v7 hb0
 have hcmp:decide (16≤st1.tk.kind∧st1.tk.kind≤21)=false:=decide_eq_false (by omega)
 have hbare:qd8 st l=(rK st.tk.kind==2&&b0):=by unfold qd8;rw [rK_2,hb0]
 rw [hbare] at hb
 clear hbare
 have hi14:(rK st1.tk.kind==6&&((BS (tkS st1)).toList==(⟨#[73,83]⟩:ByteArray).toList))=false:=(isK (c:=14) rfl (by decide) (by decide) 6 rfl).trans (beq_eq_false_iff_ne.2 (by omega))
 have hi7:(rK st1.tk.kind==6&&((BS (tkS st1)).toList==(⟨#[78,79,84]⟩:ByteArray).toList))=true:=(isK (c:=7) rfl (by decide) (by decide) 6 rfl).trans (by rw [hk7];rfl)
 have hj10:(rK (v6 s st1).tk.kind==6&&((BS (tkS (v6 s st1))).toList==(⟨#[66,69,84,87,69,69,78]⟩:ByteArray).toList))=false:=(isK (c:=10) rfl (by decide) (by decide) 6 rfl).trans (beq_eq_false_iff_ne.2 (by omega))
 have hj11:(rK (v6 s st1).tk.kind==6&&((BS (tkS (v6 s st1))).toList==(⟨#[73,78]⟩:ByteArray).toList))=true:=(isK (c:=11) rfl (by decide) (by decide) 6 rfl).trans (by rw [hk211];rfl)
 have hj12:(rK (v6 s st1).tk.kind==6&&((BS (tkS (v6 s st1))).toList==(⟨#[76,73,75,69]⟩:ByteArray).toList))=false:=(isK (c:=12) rfl (by decide) (by decide) 6 rfl).trans (beq_eq_false_iff_ne.2 (by omega))
 have HKc:=v7 hk7
 clear hk7
 have HK2c:=v7 hk211
 clear hk211
 clear h hf eS hres
 rcases (show (rK st.tk.kind==2)=false∨((rK st.tk.kind==2)=true∧b0=false) by revert hb;cases (rK st.tk.kind==2)<;>cases b0<;>simp) with q2|⟨q2,rfl⟩
 all_goals
  go_enter Tryz.func294,Tryz.ntmps294
  go_wp2_with (first|(go_at_call 320;refine (q9 HC).mono ?_;rintro e w1 ⟨hk1,h1⟩;rw [q9 HRES] at h1;obtain ⟨new,he,hr1,ho1,hp1,hfl⟩:=h1;obtain ⟨i0,hi0⟩:∃k:Nat,ns.length+new.length - 1=k:=⟨_,rfl⟩;rw [hi0] at he;subst he;obtain ⟨gN,capN,LN,N,cN0,hLN,cN,hNm⟩:=hr1.opAt hfl hi0;rw [q9 HB0] at hNm;have c8:=hr1.c8;obtain ⟨t2,t3,t4,t5,t6⟩:=hr1.ct;have hlt1:=hr1.lt;have nL:¬rb=w1.heap.size:=(by omega);have nL':¬w1.heap.size=rb:=(by omega);have hgN:gN<w1.heap.size:=World.block_lt_of_cell? w1 _ cN;have HI0:=v7 hi0;have HR1:=v7 hr1;have HK1:=v7 hk1;have HFL:=v7 hfl;clear hk1 hr1 hfl hi0)|(go_at_call 321;refine (qb1 _ _ _ _ _ _).mono ?_;rintro e w2 ⟨rfl,hb2⟩;rw [qc5 st1,hcmp];have hv0:=VN.new (q9 HR1) 235 #[.int .i64 (rK st1.tk.kind),.int .i64 st1.place,.int .i64 (tkZ st1),.string (BS (tkS st1)),.int .i64 (tkN st1)] rfl;have hr0:=(q9 HR1).alloc (.cells #[.int .i64 (rK st1.tk.kind),.int .i64 st1.place,.int .i64 (tkZ st1),.string (BS (tkS st1)),.int .i64 (tkN st1)] 235);have hkb:=TKept.of_below hb2 hr0.lt;have hv2:=hv0.kept hkb;have hr2:=hr0.below hb2;have hk2:=((q9 HK1).alloc hlt (.cells #[.int .i64 (rK st1.tk.kind),.int .i64 st1.place,.int .i64 (tkZ st1),.string (BS (tkS st1)),.int .i64 (tkN st1)] 235)).trans hkb;have hlt2:=hr2.lt;obtain ⟨_,u3,_⟩:=hr2.ct;have nM1:¬rb=w2.heap.size:=(by omega);have nM2:¬rb=w2.heap.size+1:=(by omega);have nM3:¬w2.heap.size=rb:=(by omega);have nM4:¬w2.heap.size+1=rb:=(by omega);have HR2:=v7 hr2;have HK2:=v7 hk2;clear hb2 hv0 hr0 hkb hv2 hr2 hk2)|(go_at_call 215;(first|refine (qg2 (q9 HR4)).mono ?_|refine (qg2 (q9 HR2)).mono ?_|refine (qg2 (((q9 HR2).alloc _).alloc _)).mono ?_);rintro e w' ⟨rfl,hw'⟩;subst w';simp only [hi14,hi7,hj10,hj11,hj12])|(go_at_call 172;have hr2':RT ((w2.alloc (.cells #[.int .i64 i0] 3)).alloc (.cells #[.string ⟨#[]⟩,.int .i64 0,.slice (some ⟨w2.heap.size,0,none⟩) 1 1,.string ⟨#[]⟩,.string ⟨#[]⟩,.slice none 0 0,.int .i64 0,.bool true,.int .i64 0] 241)) rb s (ns++new) j st1:=((q9 HR2).alloc _).alloc _;refine (j7 hr2' hs (by have:=q9 HKc;omega) (by have:=q9 HKc;omega)).mono ?_;rintro e w3 ⟨rfl,hk3,hr3⟩;have hg0:VN ((w2.alloc (.cells #[.int .i64 i0] 3)).alloc (.cells #[.string ⟨#[]⟩,.int .i64 0,.slice (some ⟨w2.heap.size,0,none⟩) 1 1,.string ⟨#[]⟩,.string ⟨#[]⟩,.slice none 0 0,.int .i64 0,.bool true,.int .i64 0] 241)) rb w2.heap.size 3 #[.int .i64 i0]:=(VN.new (q9 HR2) 3 #[.int .i64 i0] rfl).alloc (by simp;omega) _;have hv0:VN ((w2.alloc (.cells #[.int .i64 i0] 3)).alloc (.cells #[.string ⟨#[]⟩,.int .i64 0,.slice (some ⟨w2.heap.size,0,none⟩) 1 1,.string ⟨#[]⟩,.string ⟨#[]⟩,.slice none 0 0,.int .i64 0,.bool true,.int .i64 0] 241)) rb (w2.heap.size+1) 241 #[.string ⟨#[]⟩,.int .i64 0,.slice (some ⟨w2.heap.size,0,none⟩) 1 1,.string ⟨#[]⟩,.string ⟨#[]⟩,.slice none 0 0,.int .i64 0,.bool true,.int .i64 0]:=VN.new ((q9 HR2).alloc _) _ _ (by simp);have hv3:=hv0.kept hk3;have hg3:=hg0.kept hk3;have hL3:=hv3.lt;have hlt3:=hr3.lt;obtain ⟨_,u33,_⟩:=hr3.ct;have y0:w3.cell? ⟨w2.heap.size+1,0,none⟩=some (.string ⟨#[]⟩):=hv3.cell 0;have y1:w3.cell? ⟨w2.heap.size+1,1,none⟩=some (.int .i64 0):=hv3.cell 1;have y2:w3.cell? ⟨w2.heap.size+1,2,none⟩=some (.slice (some ⟨w2.heap.size,0,none⟩) 1 1):=hv3.cell 2;have y3:w3.cell? ⟨w2.heap.size+1,3,none⟩=some (.string ⟨#[]⟩):=hv3.cell 3;have y4:w3.cell? ⟨w2.heap.size+1,4,none⟩=some (.string ⟨#[]⟩):=hv3.cell 4;have y5:w3.cell? ⟨w2.heap.size+1,5,none⟩=some (.slice none 0 0):=hv3.cell 5;have y6:w3.cell? ⟨w2.heap.size+1,6,none⟩=some (.int .i64 0):=hv3.cell 6;have y7:w3.cell? ⟨w2.heap.size+1,7,none⟩=some (.bool true):=hv3.cell 7;have y8:w3.cell? ⟨w2.heap.size+1,8,none⟩=some (.int .i64 0):=hv3.cell 8;have yz:∀i,w3.frozen? ⟨w2.heap.size+1,i,none⟩=false:=hv3.frz;have hpp:=(q9 HR1).fine.step_place (by have:=q9 HKc;omega);have HR4:=v7 (hv3.rt (by decide) (by decide) hr3 1 (.int .i64 (v6 s st1).place));have HG4:=v7 (hg3.setB (by omega) nM4 1 (.int .i64 (v6 s st1).place));have HK4:=v7 ((((((q9 HK2).alloc hlt _).alloc hlt _).trans hk3).far hlt (p:=⟨w2.heap.size+1,1,none⟩) (by show w.heap.size≤w2.heap.size+1;have:=(q9 HK2).size;omega) (.int .i64 (v6 s st1).place)));clear hk3 hr3 hv0 hg0 hv3 hg3 hr2')|(go_at_call 174;refine (qn1 (q9 HR4) hs 2 (v6 s st1).place (by decide)).mono ?_;rintro e w5 ⟨rfl,hk5,hr5⟩;have HK5:=v7 ((q9 HK4).trans hk5);have HR5:=v7 hr5;clear hk5 hr5))
  go_ret
  exact ⟨q9 HK5,i0,rfl,.inl (ho1 ▸ (q9 HR5).more (by omega))⟩
theorem vj8 (rb:Nat) (s:ByteArray) (op m:Nat) (f:St→Res) (w:World) (st:St) (ns:List RN) (j:Nat) (l:Ast) (st1:St) (T:T1 rb s op m f w st ns j l st1) (hb:qd8 st l=false) (hk7:st1.tk.kind=7) (hk212:(v6 s st1).tk.kind=12) :
  Calls Tryz.prog 294 #[.pointer (some ⟨rb,0,none⟩)] w (DEnds rb s w op (m+1) ns j st.place (.err 2 (v6 s st1).place)):=by
 obtain ⟨hs,hm,hm',hf,eS,h,ho,hres⟩:=T
 obtain ⟨k2,_⟩:=h.ct
 have hlt:=h.lt
 have HC:=v7 (hf w st ns j h ho)
 have HF:=v7 hf
 have ES:=v7 eS
 have HRES:=v7 hres
 obtain ⟨b0,hb0⟩:∃b:Bool,(opA l==0)=b:=⟨_,rfl⟩
 have HB0:=v7 hb0
 have hcmp:decide (16≤st1.tk.kind∧st1.tk.kind≤21)=false:=decide_eq_false (by omega)
 have hbare:qd8 st l=(rK st.tk.kind==2&&b0):=by unfold qd8;rw [rK_2,hb0]
 rw [hbare] at hb
 clear hbare
 have hi14:(rK st1.tk.kind==6&&((BS (tkS st1)).toList==(⟨#[73,83]⟩:ByteArray).toList))=false:=(isK (c:=14) rfl (by decide) (by decide) 6 rfl).trans (beq_eq_false_iff_ne.2 (by omega))
 have hi7:(rK st1.tk.kind==6&&((BS (tkS st1)).toList==(⟨#[78,79,84]⟩:ByteArray).toList))=true:=(isK (c:=7) rfl (by decide) (by decide) 6 rfl).trans (by rw [hk7];rfl)
 have hj10:(rK (v6 s st1).tk.kind==6&&((BS (tkS (v6 s st1))).toList==(⟨#[66,69,84,87,69,69,78]⟩:ByteArray).toList))=false:=(isK (c:=10) rfl (by decide) (by decide) 6 rfl).trans (beq_eq_false_iff_ne.2 (by omega))
 have hj11:(rK (v6 s st1).tk.kind==6&&((BS (tkS (v6 s st1))).toList==(⟨#[73,78]⟩:ByteArray).toList))=false:=(isK (c:=11) rfl (by decide) (by decide) 6 rfl).trans (beq_eq_false_iff_ne.2 (by omega))
 have hj12:(rK (v6 s st1).tk.kind==6&&((BS (tkS (v6 s st1))).toList==(⟨#[76,73,75,69]⟩:ByteArray).toList))=true:=(isK (c:=12) rfl (by decide) (by decide) 6 rfl).trans (by rw [hk212];rfl)
 have HKc:=v7 hk7
 clear hk7
 have HK2c:=v7 hk212
 clear hk212
 clear h hf eS hres
 rcases (show (rK st.tk.kind==2)=false∨((rK st.tk.kind==2)=true∧b0=false) by revert hb;cases (rK st.tk.kind==2)<;>cases b0<;>simp) with q2|⟨q2,rfl⟩
 all_goals
  go_enter Tryz.func294,Tryz.ntmps294
  go_wp2_with (first|(go_at_call 320;refine (q9 HC).mono ?_;rintro e w1 ⟨hk1,h1⟩;rw [q9 HRES] at h1;obtain ⟨new,he,hr1,ho1,hp1,hfl⟩:=h1;obtain ⟨i0,hi0⟩:∃k:Nat,ns.length+new.length - 1=k:=⟨_,rfl⟩;rw [hi0] at he;subst he;obtain ⟨gN,capN,LN,N,cN0,hLN,cN,hNm⟩:=hr1.opAt hfl hi0;rw [q9 HB0] at hNm;have c8:=hr1.c8;obtain ⟨t2,t3,t4,t5,t6⟩:=hr1.ct;have hlt1:=hr1.lt;have nL:¬rb=w1.heap.size:=(by omega);have nL':¬w1.heap.size=rb:=(by omega);have hgN:gN<w1.heap.size:=World.block_lt_of_cell? w1 _ cN;have HI0:=v7 hi0;have HR1:=v7 hr1;have HK1:=v7 hk1;have HFL:=v7 hfl;clear hk1 hr1 hfl hi0)|(go_at_call 321;refine (qb1 _ _ _ _ _ _).mono ?_;rintro e w2 ⟨rfl,hb2⟩;rw [qc5 st1,hcmp];have hv0:=VN.new (q9 HR1) 235 #[.int .i64 (rK st1.tk.kind),.int .i64 st1.place,.int .i64 (tkZ st1),.string (BS (tkS st1)),.int .i64 (tkN st1)] rfl;have hr0:=(q9 HR1).alloc (.cells #[.int .i64 (rK st1.tk.kind),.int .i64 st1.place,.int .i64 (tkZ st1),.string (BS (tkS st1)),.int .i64 (tkN st1)] 235);have hkb:=TKept.of_below hb2 hr0.lt;have hv2:=hv0.kept hkb;have hr2:=hr0.below hb2;have hk2:=((q9 HK1).alloc hlt (.cells #[.int .i64 (rK st1.tk.kind),.int .i64 st1.place,.int .i64 (tkZ st1),.string (BS (tkS st1)),.int .i64 (tkN st1)] 235)).trans hkb;have hlt2:=hr2.lt;obtain ⟨_,u3,_⟩:=hr2.ct;have nM1:¬rb=w2.heap.size:=(by omega);have nM2:¬rb=w2.heap.size+1:=(by omega);have nM3:¬w2.heap.size=rb:=(by omega);have nM4:¬w2.heap.size+1=rb:=(by omega);have HR2:=v7 hr2;have HK2:=v7 hk2;clear hb2 hv0 hr0 hkb hv2 hr2 hk2)|(go_at_call 215;(first|refine (qg2 (q9 HR4)).mono ?_|refine (qg2 (q9 HR2)).mono ?_|refine (qg2 (((q9 HR2).alloc _).alloc _)).mono ?_);rintro e w' ⟨rfl,hw'⟩;subst w';simp only [hi14,hi7,hj10,hj11,hj12])|(go_at_call 172;have hr2':RT ((w2.alloc (.cells #[.int .i64 i0] 3)).alloc (.cells #[.string ⟨#[]⟩,.int .i64 0,.slice (some ⟨w2.heap.size,0,none⟩) 1 1,.string ⟨#[]⟩,.string ⟨#[]⟩,.slice none 0 0,.int .i64 0,.bool true,.int .i64 0] 241)) rb s (ns++new) j st1:=((q9 HR2).alloc _).alloc _;refine (j7 hr2' hs (by have:=q9 HKc;omega) (by have:=q9 HKc;omega)).mono ?_;rintro e w3 ⟨rfl,hk3,hr3⟩;have hg0:VN ((w2.alloc (.cells #[.int .i64 i0] 3)).alloc (.cells #[.string ⟨#[]⟩,.int .i64 0,.slice (some ⟨w2.heap.size,0,none⟩) 1 1,.string ⟨#[]⟩,.string ⟨#[]⟩,.slice none 0 0,.int .i64 0,.bool true,.int .i64 0] 241)) rb w2.heap.size 3 #[.int .i64 i0]:=(VN.new (q9 HR2) 3 #[.int .i64 i0] rfl).alloc (by simp;omega) _;have hv0:VN ((w2.alloc (.cells #[.int .i64 i0] 3)).alloc (.cells #[.string ⟨#[]⟩,.int .i64 0,.slice (some ⟨w2.heap.size,0,none⟩) 1 1,.string ⟨#[]⟩,.string ⟨#[]⟩,.slice none 0 0,.int .i64 0,.bool true,.int .i64 0] 241)) rb (w2.heap.size+1) 241 #[.string ⟨#[]⟩,.int .i64 0,.slice (some ⟨w2.heap.size,0,none⟩) 1 1,.string ⟨#[]⟩,.string ⟨#[]⟩,.slice none 0 0,.int .i64 0,.bool true,.int .i64 0]:=VN.new ((q9 HR2).alloc _) _ _ (by simp);have hv3:=hv0.kept hk3;have hg3:=hg0.kept hk3;have hL3:=hv3.lt;have hlt3:=hr3.lt;obtain ⟨_,u33,_⟩:=hr3.ct;have y0:w3.cell? ⟨w2.heap.size+1,0,none⟩=some (.string ⟨#[]⟩):=hv3.cell 0;have y1:w3.cell? ⟨w2.heap.size+1,1,none⟩=some (.int .i64 0):=hv3.cell 1;have y2:w3.cell? ⟨w2.heap.size+1,2,none⟩=some (.slice (some ⟨w2.heap.size,0,none⟩) 1 1):=hv3.cell 2;have y3:w3.cell? ⟨w2.heap.size+1,3,none⟩=some (.string ⟨#[]⟩):=hv3.cell 3;have y4:w3.cell? ⟨w2.heap.size+1,4,none⟩=some (.string ⟨#[]⟩):=hv3.cell 4;have y5:w3.cell? ⟨w2.heap.size+1,5,none⟩=some (.slice none 0 0):=hv3.cell 5;have y6:w3.cell? ⟨w2.heap.size+1,6,none⟩=some (.int .i64 0):=hv3.cell 6;have y7:w3.cell? ⟨w2.heap.size+1,7,none⟩=some (.bool true):=hv3.cell 7;have y8:w3.cell? ⟨w2.heap.size+1,8,none⟩=some (.int .i64 0):=hv3.cell 8;have yz:∀i,w3.frozen? ⟨w2.heap.size+1,i,none⟩=false:=hv3.frz;have hpp:=(q9 HR1).fine.step_place (by have:=q9 HKc;omega);have HR4:=v7 (hv3.rt (by decide) (by decide) hr3 1 (.int .i64 (v6 s st1).place));have HG4:=v7 (hg3.setB (by omega) nM4 1 (.int .i64 (v6 s st1).place));have HK4:=v7 ((((((q9 HK2).alloc hlt _).alloc hlt _).trans hk3).far hlt (p:=⟨w2.heap.size+1,1,none⟩) (by show w.heap.size≤w2.heap.size+1;have:=(q9 HK2).size;omega) (.int .i64 (v6 s st1).place)));clear hk3 hr3 hv0 hg0 hv3 hg3 hr2')|(go_at_call 174;refine (qn1 (q9 HR4) hs 2 (v6 s st1).place (by decide)).mono ?_;rintro e w5 ⟨rfl,hk5,hr5⟩;have HK5:=v7 ((q9 HK4).trans hk5);have HR5:=v7 hr5;clear hk5 hr5))
  go_ret
  exact ⟨q9 HK5,i0,rfl,.inl (ho1 ▸ (q9 HR5).more (by omega))⟩
end
section
theorem rtest_err (rb:Nat) (s:ByteArray) (op m:Nat) (f:St→Res) (hf:RReads 320 rb s op m f) (w:World) (st:St) (ns:List RN) (j:Nat) (h:RT w rb s ns j st) (ho:st.op=op) {en pl:Int} (hres:f st=.err en pl) :
  Calls Tryz.prog 294 #[.pointer (some ⟨rb,0,none⟩)] w (DEnds rb s w op (m+1) ns j st.place (.err en pl)):=by
 obtain ⟨k2,_⟩:=h.ct
 have HC:=v7 (hf w st ns j h ho)
 have HRES:=v7 hres
 clear h hf hres
 go_enter Tryz.func294,Tryz.ntmps294
 go_wp2_with (go_at_call 320;refine (q9 HC).mono ?_;rintro e w1 ⟨hk1,h1⟩;rw [q9 HRES] at h1;obtain ⟨i,rfl,hr1⟩:=h1;obtain ⟨c8,hen⟩:=hr1.c8;have HK1:=v7 hk1;have HR1:=v7 hr1;clear hk1 hr1)
 go_ret
 exact ⟨q9 HK1,i,rfl,.inl ((q9 HR1).more (by omega))⟩
theorem vx5 (rb:Nat) (s:ByteArray) (hs:s.size≤200) (op m:Nat) (hm:200≤m) (hm':m≤900) (f:St→Res) (hf:RReads 320 rb s op m f) (eS:qm1 320 rb s):DReads 294 rb s op (m+1) (qg6 s f (qh7 s) (qa9 s)):=by
 intro w st ns j h ho
 cases hres:f st with
 | err en pl=>
  rw [show qg6 s f (qh7 s) (qa9 s) st=.err en pl by unfold qg6;rw [hres]]
  exact rtest_err rb s op m f hf w st ns j h ho hres
 | ok l st1=>
  rw [show qg6 s f (qh7 s) (qa9 s) st=qa3 s f (qh7 s) (qa9 s) (qd8 st l) l st1 by unfold qg6;rw [hres]]
  have T:T1 rb s op m f w st ns j l st1:=⟨hs,hm,hm',hf,eS,h,ho,hres⟩
  unfold qa3
  split
  ·rename_i hk;exact rtest_cmp rb s op m f w st ns j l st1 T (by omega)
  split
  ·rename_i hk
   split
   ·rename_i hb;exact jg3 rb s op m f w st ns j l st1 T hb hk
   ·rename_i hb;exact rtest_is rb s op m f w st ns j l st1 T (by simpa using hb) hk
  split
  ·rename_i hk7
   obtain ⟨r,hr⟩:∃r,qa2 s f (qh7 s) (qa9 s) (qd8 st l) l (v6 s st1)=r:=⟨_,rfl⟩
   rw [hr]
   suffices hS:Calls Tryz.prog 294 #[.pointer (some ⟨rb,0,none⟩)] w (DEnds rb s w op (m+1) ns j st.place (negR true st1.place r)) by cases r<;>exact hS
   rw [←hr]
   unfold qa2
   split
   ·rename_i h2;exact rtest_nin rb s op m f w st ns j l st1 T h2.2 hk7 h2.1
   rename_i h11
   split
   ·rename_i h2;exact vx3 rb s op m f w st ns j l st1 T h2.2 hk7 h2.1
   rename_i h12
   by_cases k10:(v6 s st1).tk.kind=10
   ·exact vd7 rb s op m f w st ns j l st1 T hk7 k10
   ·rw [show qa0 s f l (v6 s st1)=.err 2 (v6 s st1).place by unfold qa0;rw [if_neg k10]]
    show Calls _ _ _ _ (DEnds rb s w op (m+1) ns j st.place (.err 2 (v6 s st1).place))
    by_cases k11:(v6 s st1).tk.kind=11
    ·exact vj7 rb s op m f w st ns j l st1 T (by simpa [k11] using h11) hk7 k11
    ·by_cases k12:(v6 s st1).tk.kind=12
     ·exact vj8 rb s op m f w st ns j l st1 T (by simpa [k12] using h12) hk7 k12
     ·exact vr5 rb s op m f w st ns j l st1 T hk7 ⟨k10,k11,k12⟩
  split
  ·rename_i hk
   unfold qa2
   split
   ·rename_i h2;exact rtest_in rb s op m f w st ns j l st1 T h2.2 h2.1
   rename_i h11
   split
   ·rename_i h2;exact jg2 rb s op m f w st ns j l st1 T h2.2 h2.1
   rename_i h12
   by_cases k10:st1.tk.kind=10
   ·exact vj6 rb s op m f w st ns j l st1 T k10
   ·rw [show qa0 s f l st1=.err 2 st1.place by unfold qa0;rw [if_neg k10]]
    rcases hk with hk|hk|hk
    ·omega
    ·exact vr3 rb s op m f w st ns j l st1 T (by simpa [hk] using h11) hk
    ·exact vr4 rb s op m f w st ns j l st1 T (by simpa [hk] using h12) hk
  ·exact vx4 rb s op m f w st ns j l st1 T (by omega)
structure RR3 (rb:Nat) (s:ByteArray) (op m:Nat) (L:L3):Prop where
 S:RReads 351 rb s op m L.S
 D:DReads 259 rb s op m L.D
 E:DReads 173 rb s op m L.E
theorem rerrs (rb:Nat) (s:ByteArray):qm1 320 rb s∧qm1 259 rb s∧qm1 173 rb s:=
 have h1:=sum_errs rb s (vq1 rb s (vd1 rb s))
 have h2:=vt9 rb s (test_errs rb s h1)
 ⟨h1,h2,vu0 rb s (both_errs rb s h2)⟩
theorem up3_rr (rb:Nat) (s:ByteArray) (hs:s.size≤200) (op m:Nat) (hop:op≤12) (hm:200≤m) (hm':m≤800) (L:L3) (h:op<12→RR3 rb s (op+1) m L):RR3 rb s op (m+8) (up3 s L):=by
 obtain ⟨eS,eD,eE⟩:=rerrs rb s
 have hS:=vj5 rb s hs op m hm (by omega) hop L.S L.E (fun k=>(h k).S) (fun k=>(h k).E) (vd1 rb s) eE
 have hP:=vd6 rb s hs op (m+1) (by omega) (by omega) _ hS
 have hU:=jg1 rb s hs op (m+2) (by omega) (by omega) _ hP
 have hT:=vx5 rb s hs op (m+3) (by omega) (by omega) _ hU eS
 have hD:=vi8 rb s hs op (m+3) (by omega) (by omega) hop L.D _ (fun k=>(h k).D.more (by omega)) eD hT
 have hB:=vw7 rb s hs op (m+4) (by omega) (by omega) _ hD
 have hE:=vj0 rb s hs op (m+5) (by omega) (by omega) _ hB
 exact ⟨hS.more (by omega),hD.more (by omega),hE.more (by omega)⟩
theorem vz5 (rb:Nat) (s:ByteArray) (hs:s.size≤200):∀d op,op+d=12→RR3 rb s op (200+8 * (d+1)) (lvl s d):=by
 intro d
 induction d with
 | zero=>intro op h;exact up3_rr rb s hs op 200 (by omega) (by omega) (by omega) _ (fun k=>by omega)
 | succ d ih=>intro op h;exact up3_rr rb s hs op (200+8 * (d+1)) (by omega) (by omega) (by omega) _ (fun _=>ih (op+1) (by omega))
end
end Go.Proofs.YtfkcaldjphakpaaGreatDoor
