/- The document's answer. -/
import Derived.Test.YtfkcaldjphakpaaGreatDoorM19
import Derived.Test.YtfkcaldjphakpaaGreatDoorM21
set_option maxHeartbeats 64000000
set_option maxRecDepth 100000
namespace Go.Proofs.YtfkcaldjphakpaaGreatDoor
open Go.RowKit Go.Proofs.Tryz
section
theorem RT.rd{w:World}{rb:Nat}{s:ByteArray}{ns:List RN}{j:Nat}{st:St}(h:RT w rb s ns j st)(hk:st.tk.kind=11\/st.tk.kind=12){op m lo:Nat}(ho:st.op=op)(hs:s.size<=200)(hm:200<=m)(hl:lo<=st.place):RD w rb s st.place op m lo:=by
 obtain⟨nv,hT,hN,hF,hj⟩:=h;have:=hF.place;exact⟨ns,nv,st,ho ▸ hT,hN,hk,rfl,by omega,hl,hF.place⟩
theorem vr0{st:St}{l:Ast}{b b0:Bool}(hb:ve7 st l=b)(T4:(opA l==0)=b0):((rK st.tk.kind==2)=false/\b=false)\/((rK st.tk.kind==2)=true/\b0=false/\b=false)\/((rK st.tk.kind==2)=true/\b0=true/\b=true):=by
 rw[←hb,show ve7 st l=(rK st.tk.kind==2&&b0) by unfold ve7;rw[rK_2,T4]];cases (rK st.tk.kind==2)<;>cases b0<;>simp
structure W2(st:St)(b14 b7:Bool):Prop where
 i14:(rK st.tk.kind==6&&((BS (tkS st)).toList==(⟨#[73,83]⟩:ByteArray).toList))=b14
 i7:(rK st.tk.kind==6&&((BS (tkS st)).toList==(⟨#[78,79,84]⟩:ByteArray).toList))=b7
structure W3(st:St)(b10 b11 b12:Bool):Prop where
 i10:(rK st.tk.kind==6&&((BS (tkS st)).toList==(⟨#[66,69,84,87,69,69,78]⟩:ByteArray).toList))=b10
 i11:(rK st.tk.kind==6&&((BS (tkS st)).toList==(⟨#[73,78]⟩:ByteArray).toList))=b11
 i12:(rK st.tk.kind==6&&((BS (tkS st)).toList==(⟨#[76,73,75,69]⟩:ByteArray).toList))=b12
theorem W2.lit{st:St}{b14 b7:Bool}(h14:(st.tk.kind==14)=b14)(h7:(st.tk.kind==7)=b7):W2 st b14 b7:=⟨(isK (c:=14) rfl (by decide) (by decide) 6 rfl).trans h14,(isK (c:=7) rfl (by decide) (by decide) 6 rfl).trans h7⟩
theorem W3.lit{st:St}{b10 b11 b12:Bool}(h10:(st.tk.kind==10)=b10)(L6:(st.tk.kind==11)=b11)(F9:(st.tk.kind==12)=b12):W3 st b10 b11 b12:=⟨(isK (c:=10) rfl (by decide) (by decide) 6 rfl).trans h10,(isK (c:=11) rfl (by decide) (by decide) 6 rfl).trans L6,(isK (c:=12) rfl (by decide) (by decide) 6 rfl).trans F9⟩
theorem qr7(rb:Nat)(s:ByteArray)(op m:Nat)(f:St->Res)(w:World)(st:St)(ns:List RN)(j:Nat)(l:Ast)(A6:St)(T:T1 rb s op m f w st ns j l A6){r:Res}{b:Bool}(hb:ve7 st l=b)(m7:decide (16<=A6.tk.kind/\A6.tk.kind<=21)=false)
  (hC:(W2 A6 true false/\W3 A6 false false false/\A6.tk.kind=14/\b=true/\r=qd0 s l A6)\/(W2 A6 false false/\W3 A6 false false false/\True/\True/\r=.ok l A6)\/(W2 A6 true false/\W3 A6 false false false/\True/\b=false/\r=.ok l A6)\/(W2 A6 false false/\W3 A6 true false false/\A6.tk.kind=10/\True/\r=qa9 s f l A6)\/(W2 A6 false false/\W3 A6 false true false/\A6.tk.kind=11/\b=true/\r=qg7 s l A6)\/(W2 A6 false false/\W3 A6 false false true/\A6.tk.kind=12/\b=true/\r=qb5 s l A6)\/(W2 A6 false false/\W3 A6 false true false/\A6.tk.kind=11/\b=false/\r=.err 2 A6.place)\/(W2 A6 false false/\W3 A6 false false true/\A6.tk.kind=12/\b=false/\r=.err 2 A6.place)) :
  Calls prog 294 #[.pointer (some ⟨rb,0,none⟩)] w (DEnds rb s w op (m+1) ns j st.place r):=by
 obtain⟨hs,hm,V9,hf,eS,h,ho,A8⟩:=T;obtain⟨k2,_⟩:=h.ct;have A1:=h.lt;have HC:=j3 (hf w st ns j h ho);have HF:=j3 hf;have ES:=j3 eS;have D4:=j3 A8;obtain⟨b0,T4⟩:∃b:Bool,(opA l==0)=b:=⟨_,rfl⟩;have qP:=j3 T4;have hq:=vr0 hb T4;clear h hf eS A8 hb T4;rcases hC with⟨⟨l9,jC⟩,⟨bF,bE,bD⟩,hk,A7,rfl⟩|⟨⟨l9,jC⟩,⟨bF,bE,bD⟩,hk,A7,rfl⟩|⟨⟨l9,jC⟩,⟨bF,bE,bD⟩,hk,A7,rfl⟩|⟨⟨l9,jC⟩,⟨bF,bE,bD⟩,hk,A7,rfl⟩|⟨⟨l9,jC⟩,⟨bF,bE,bD⟩,hk,A7,rfl⟩|⟨⟨l9,jC⟩,⟨bF,bE,bD⟩,hk,A7,rfl⟩|⟨⟨l9,jC⟩,⟨bF,bE,bD⟩,hk,A7,rfl⟩|⟨⟨l9,jC⟩,⟨bF,bE,bD⟩,hk,A7,rfl⟩
 all_goals
  rcases hq with⟨q2,aU⟩|⟨q2,rfl,aU⟩|⟨q2,rfl,aU⟩
 all_goals
  first|exact absurd (A7.symm.trans aU) (by decide)|skip
 all_goals
  clear A7 aU;have lA:=j3 hk;clear hk;go_enter func294,ntmps294
  go_wp2_with(first|(go_at_call 320;refine(q9 HC).mono ?_;rintro e w1⟨A0,h1⟩;rw[q9 D4]at h1;obtain⟨new,he,A4,K8,U5,F6⟩:=h1;obtain⟨i0,O8⟩:∃k:Nat,ns.length+new.length - 1=k:=⟨_,rfl⟩;rw[O8]at he;subst he;obtain⟨gN,capN,LN,N,AW,fU,cN,oJ⟩:=A4.opAt F6 O8;rw[q9 qP]at oJ;have c8:=A4.c8;obtain⟨t2,t3,t4,t5,t6⟩:=A4.ct;have cP:=A4.lt;have nL:¬rb=w1.heap.size:=(by omega);have nL':¬w1.heap.size=rb:=(by omega);have jD:gN<w1.heap.size:=World.block_lt_of_cell? w1 _ cN;have Z9:=j3 O8;have D5:=j3 A4;have D8:=j3 A0;have K0:=j3 F6;clear A0 A4 F6 O8)|(go_at_call 321;refine(qp8 _ _ _ _ _ _).mono ?_;rintro e w2⟨rfl,B9⟩;rw[qt6 A6,m7];have dD:=VN.new (q9 D5) 235 #[.int .i64 (rK A6.tk.kind),.int .i64 A6.place,.int .i64 (tkZ A6),.string (BS (tkS A6)),.int .i64 (tkN A6)] rfl;have Y6:=(q9 D5).alloc (.cells #[.int .i64 (rK A6.tk.kind),.int .i64 A6.place,.int .i64 (tkZ A6),.string (BS (tkS A6)),.int .i64 (tkN A6)] 235);have Z0:=TKept.of_below B9 Y6.lt;have N6:=dD.kept Z0;have A5:=Y6.below B9;have A3:=((q9 D8).alloc A1 (.cells #[.int .i64 (rK A6.tk.kind),.int .i64 A6.place,.int .i64 (tkZ A6),.string (BS (tkS A6)),.int .i64 (tkN A6)] 235)).trans Z0;have L4:=A5.lt;obtain⟨_,u3,_⟩:=A5.ct;have KK:¬rb=w2.heap.size:=(by omega);have KJ:¬rb=w2.heap.size+1:=(by omega);have KI:¬w2.heap.size=rb:=(by omega);have DW:¬w2.heap.size+1=rb:=(by omega);have D6:=j3 A5;have E9:=j3 A3;clear B9 dD Y6 Z0 N6 A5 A3)|(go_at_call 215;(first|refine(va4 (q9 D6)).mono ?_|refine(va4 (((q9 D6).alloc _).alloc _)).mono ?_);rintro e w'⟨rfl,hw'⟩;subst w';simp only[l9,jC,bF,bE,bD])|(go_at_call 323;refine(vg9 rb s hs op m hm V9 f (q9 HF) (q9 ES) _ A6 ns new j l (((q9 D6).alloc _).alloc _) K8 (q9 lA) (q9 K0) i0 (q9 Z9).symm w2.heap.size ((VN.new (q9 D6) 3 #[.int .i64 i0] rfl).alloc (by simp;omega) _) false 0).mono ?_;rintro e w5 h5;obtain⟨v5,rfl⟩:=h5.ret;have H5:=j3 h5;clear h5)|(go_at_call 324;refine(vs4 rb s hs op (m+1) (by omega) _ A6 ns new j l (((q9 D6).alloc _).alloc _) K8 (q9 lA) (q9 K0) i0 (q9 Z9).symm w2.heap.size ((VN.new (q9 D6) 3 #[.int .i64 i0] rfl).alloc (by simp;omega) _) false 0).mono ?_;rintro e w5 h5;obtain⟨v5,rfl⟩:=h5.ret;have H5:=j3 h5;clear h5)|(go_at_call 325;refine(je5 rb s hs op (m+1) (by omega) _ A6 ns new j l (((q9 D6).alloc _).alloc _) K8 (q9 lA) (q9 K0) i0 (q9 Z9).symm w2.heap.size ((VN.new (q9 D6) 3 #[.int .i64 i0] rfl).alloc (by simp;omega) _) false 0).mono ?_;rintro e w5 h5;obtain⟨v5,rfl⟩:=h5.ret;have H5:=j3 h5;clear h5)|(go_at_call 322;refine(rnull_any rb s hs op (m+1) (by omega) _ A6 ns new j l (q9 D6) K8 (q9 lA) (q9 K0) i0 (q9 Z9).symm).mono ?_;rintro e w5 h5;obtain⟨v5,rfl⟩:=h5.ret;have H5:=j3 h5;clear h5))
  go_ret
  first
   | (
    have:=q9 H5
    first
     | (rw[jw5]at this;exact(this.from (((q9 E9).alloc A1 _).alloc A1 _) U5).d)
     | exact(this.from (q9 E9) U5).d)
   | exact⟨(((q9 E9).alloc A1 _).alloc A1 _),new,qg3 (by rw[q9 Z9]),((q9 D6).alloc _).alloc _,K8,U5,q9 K0⟩
   | exact⟨(((q9 E9).alloc A1 _).alloc A1 _),i0,rfl,.inr ⟨rfl,(((q9 D6).alloc _).alloc _).rd (by have:=q9 lA;omega) K8 hs (by omega) U5⟩⟩
end
section
theorem REnds.slack{rb:Nat}{s:ByteArray}{w w':World}{op m:Nat}{ns:List RN}{j j' lo:Nat}{r:Res}{e:Ending}(h:REnds rb s w op m ns j lo r e w')(hj:j'<=j):REnds rb s w op m ns j' lo r e w':=by
 obtain⟨hk,h⟩:=h;refine⟨hk, ?_⟩
 cases r with
 | ok t st=>obtain⟨new,h1,h2,h3⟩:=h;exact⟨new,h1,h2.less hj,h3⟩
 | err en pl=>exact h
theorem qs9(rb:Nat)(s:ByteArray)(op m:Nat)(f:St->Res)(w:World)(st:St)(ns:List RN)(j:Nat)(l:Ast)(A6:St)(T:T1 rb s op m f w st ns j l A6){r:Res}{b:Bool}(hb:ve7 st l=b)(V3:A6.tk.kind=7)
  (hC:(W3 (j4 s A6) true false false/\(j4 s A6).tk.kind=10/\True/\r=negR true A6.place (qa9 s f l (j4 s A6)))\/(W3 (j4 s A6) false true false/\(j4 s A6).tk.kind=11/\b=true/\r=negR true A6.place (qg7 s l (j4 s A6)))\/(W3 (j4 s A6) false false true/\(j4 s A6).tk.kind=12/\b=true/\r=negR true A6.place (qb5 s l (j4 s A6)))\/(W3 (j4 s A6) false false false/\True/\True/\r=.err 2 (j4 s A6).place)\/(W3 (j4 s A6) false true false/\True/\b=false/\r=.err 2 (j4 s A6).place)\/(W3 (j4 s A6) false false true/\True/\b=false/\r=.err 2 (j4 s A6).place)) :
  Calls prog 294 #[.pointer (some ⟨rb,0,none⟩)] w (DEnds rb s w op (m+1) ns j st.place r):=by
 obtain⟨hs,hm,V9,hf,eS,h,ho,A8⟩:=T;obtain⟨k2,_⟩:=h.ct;have A1:=h.lt;have HC:=j3 (hf w st ns j h ho);have HF:=j3 hf;have ES:=j3 eS;have D4:=j3 A8;obtain⟨b0,T4⟩:∃b:Bool,(opA l==0)=b:=⟨_,rfl⟩;have qP:=j3 T4;have hq:=vr0 hb T4;have m7:decide (16<=A6.tk.kind/\A6.tk.kind<=21)=false:=decide_eq_false (by omega);obtain⟨l9,jC⟩:W2 A6 false true:=.lit (by rw[V3];rfl) (by rw[V3];rfl);have lA:=j3 V3;clear h hf eS A8 hb T4 V3;rcases hC with⟨⟨eL,eK,eJ⟩,hk,A7,rfl⟩|⟨⟨eL,eK,eJ⟩,hk,A7,rfl⟩|⟨⟨eL,eK,eJ⟩,hk,A7,rfl⟩|⟨⟨eL,eK,eJ⟩,hk,A7,rfl⟩|⟨⟨eL,eK,eJ⟩,hk,A7,rfl⟩|⟨⟨eL,eK,eJ⟩,hk,A7,rfl⟩
 all_goals
  rcases hq with⟨q2,aU⟩|⟨q2,rfl,aU⟩|⟨q2,rfl,aU⟩
 all_goals
  first|exact absurd (A7.symm.trans aU) (by decide)|skip
 all_goals
  clear A7 aU;have pC:=j3 hk;clear hk;go_enter func294,ntmps294
  go_wp2_with(first|(go_at_call 320;refine(q9 HC).mono ?_;rintro e w1⟨A0,h1⟩;rw[q9 D4]at h1;obtain⟨new,he,A4,K8,U5,F6⟩:=h1;obtain⟨i0,O8⟩:∃k:Nat,ns.length+new.length - 1=k:=⟨_,rfl⟩;rw[O8]at he;subst he;obtain⟨gN,capN,LN,N,AW,fU,cN,oJ⟩:=A4.opAt F6 O8;rw[q9 qP]at oJ;have c8:=A4.c8;obtain⟨t2,t3,t4,t5,t6⟩:=A4.ct;have cP:=A4.lt;have nL:¬rb=w1.heap.size:=(by omega);have nL':¬w1.heap.size=rb:=(by omega);have jD:gN<w1.heap.size:=World.block_lt_of_cell? w1 _ cN;have Z9:=j3 O8;have D5:=j3 A4;have D8:=j3 A0;have K0:=j3 F6;clear A0 A4 F6 O8)|(go_at_call 321;refine(qp8 _ _ _ _ _ _).mono ?_;rintro e w2⟨rfl,B9⟩;rw[qt6 A6,m7];have dD:=VN.new (q9 D5) 235 #[.int .i64 (rK A6.tk.kind),.int .i64 A6.place,.int .i64 (tkZ A6),.string (BS (tkS A6)),.int .i64 (tkN A6)] rfl;have Y6:=(q9 D5).alloc (.cells #[.int .i64 (rK A6.tk.kind),.int .i64 A6.place,.int .i64 (tkZ A6),.string (BS (tkS A6)),.int .i64 (tkN A6)] 235);have Z0:=TKept.of_below B9 Y6.lt;have N6:=dD.kept Z0;have A5:=Y6.below B9;have A3:=((q9 D8).alloc A1 (.cells #[.int .i64 (rK A6.tk.kind),.int .i64 A6.place,.int .i64 (tkZ A6),.string (BS (tkS A6)),.int .i64 (tkN A6)] 235)).trans Z0;have L4:=A5.lt;obtain⟨_,u3,_⟩:=A5.ct;have KK:¬rb=w2.heap.size:=(by omega);have KJ:¬rb=w2.heap.size+1:=(by omega);have KI:¬w2.heap.size=rb:=(by omega);have DW:¬w2.heap.size+1=rb:=(by omega);have D6:=j3 A5;have E9:=j3 A3;clear B9 dD Y6 Z0 N6 A5 A3)|(go_at_call 215;(first|refine(va4 (q9 I6)).mono ?_|refine(va4 (q9 D6)).mono ?_|refine(va4 (((q9 D6).alloc _).alloc _)).mono ?_);rintro e w'⟨rfl,hw'⟩;subst w';simp only[l9,jC,eL,eK,eJ])|(go_at_call 172;have rH:RT ((w2.alloc (.cells #[.int .i64 i0] 3)).alloc (.cells #[.string ⟨#[]⟩,.int .i64 0,.slice (some ⟨w2.heap.size,0,none⟩) 1 1,.string ⟨#[]⟩,.string ⟨#[]⟩,.slice none 0 0,.int .i64 0,.bool true,.int .i64 0] 241)) rb s (ns++new) j A6:=((q9 D6).alloc _).alloc _;refine(qb4 rH hs (by have:=q9 lA;omega) (by have:=q9 lA;omega)).mono ?_;rintro e w3⟨rfl,A9,B8⟩;have kG:VN ((w2.alloc (.cells #[.int .i64 i0] 3)).alloc (.cells #[.string ⟨#[]⟩,.int .i64 0,.slice (some ⟨w2.heap.size,0,none⟩) 1 1,.string ⟨#[]⟩,.string ⟨#[]⟩,.slice none 0 0,.int .i64 0,.bool true,.int .i64 0] 241)) rb w2.heap.size 3 #[.int .i64 i0]:=(VN.new (q9 D6) 3 #[.int .i64 i0] rfl).alloc (by simp;omega) _;have dD:VN ((w2.alloc (.cells #[.int .i64 i0] 3)).alloc (.cells #[.string ⟨#[]⟩,.int .i64 0,.slice (some ⟨w2.heap.size,0,none⟩) 1 1,.string ⟨#[]⟩,.string ⟨#[]⟩,.slice none 0 0,.int .i64 0,.bool true,.int .i64 0] 241)) rb (w2.heap.size+1) 241 #[.string ⟨#[]⟩,.int .i64 0,.slice (some ⟨w2.heap.size,0,none⟩) 1 1,.string ⟨#[]⟩,.string ⟨#[]⟩,.slice none 0 0,.int .i64 0,.bool true,.int .i64 0]:=VN.new ((q9 D6).alloc _) _ _ (by simp);have G5:=dD.kept A9;have dI:=kG.kept A9;have TC:=G5.lt;have cO:=B8.lt;obtain⟨_,QK,_⟩:=B8.ct;have y0:w3.cell? ⟨w2.heap.size+1,0,none⟩=some (.string ⟨#[]⟩):=G5.cell 0;have y1:w3.cell? ⟨w2.heap.size+1,1,none⟩=some (.int .i64 0):=G5.cell 1;have y2:w3.cell? ⟨w2.heap.size+1,2,none⟩=some (.slice (some ⟨w2.heap.size,0,none⟩) 1 1):=G5.cell 2;have y3:w3.cell? ⟨w2.heap.size+1,3,none⟩=some (.string ⟨#[]⟩):=G5.cell 3;have y4:w3.cell? ⟨w2.heap.size+1,4,none⟩=some (.string ⟨#[]⟩):=G5.cell 4;have y5:w3.cell? ⟨w2.heap.size+1,5,none⟩=some (.slice none 0 0):=G5.cell 5;have y6:w3.cell? ⟨w2.heap.size+1,6,none⟩=some (.int .i64 0):=G5.cell 6;have y7:w3.cell? ⟨w2.heap.size+1,7,none⟩=some (.bool true):=G5.cell 7;have y8:w3.cell? ⟨w2.heap.size+1,8,none⟩=some (.int .i64 0):=G5.cell 8;have yz:∀i,w3.frozen? ⟨w2.heap.size+1,i,none⟩=false:=G5.frz;have jA:=(q9 D5).fine.step_place (by have:=q9 lA;omega);have I6:=j3 (G5.rt (by decide) (by decide) B8 1 (.int .i64 (j4 s A6).place));have iQ:=j3 (dI.setB (by omega) DW 1 (.int .i64 (j4 s A6).place));have K6:=j3 ((((((q9 E9).alloc A1 _).alloc A1 _).trans A9).far A1 (p:=⟨w2.heap.size+1,1,none⟩) (by show w.heap.size<=w2.heap.size+1;have:=(q9 E9).size;omega) (.int .i64 (j4 s A6).place)));clear A9 B8 dD kG G5 dI rH)|(go_at_call 323;refine(vg9 rb s hs op m hm V9 f (q9 HF) (q9 ES) _ (j4 s A6) ns new (j+1) l (q9 I6) K8 (q9 pC) (q9 K0) i0 (q9 Z9).symm w2.heap.size (q9 iQ) true A6.place).mono ?_;rintro e w5 h5;obtain⟨v5,rfl⟩:=h5.ret;have H5:=j3 h5;clear h5)|(go_at_call 324;refine(vs4 rb s hs op (m+1) (by omega) _ (j4 s A6) ns new (j+1) l (q9 I6) K8 (q9 pC) (q9 K0) i0 (q9 Z9).symm w2.heap.size (q9 iQ) true A6.place).mono ?_;rintro e w5 h5;obtain⟨v5,rfl⟩:=h5.ret;have H5:=j3 h5;clear h5)|(go_at_call 325;refine(je5 rb s hs op (m+1) (by omega) _ (j4 s A6) ns new (j+1) l (q9 I6) K8 (q9 pC) (q9 K0) i0 (q9 Z9).symm w2.heap.size (q9 iQ) true A6.place).mono ?_;rintro e w5 h5;obtain⟨v5,rfl⟩:=h5.ret;have H5:=j3 h5;clear h5)|(go_at_call 174;refine(qy6 (q9 I6) hs 2 (j4 s A6).place (by decide)).mono ?_;rintro e w5⟨rfl,M6,r9⟩;have aQ:=j3 ((q9 K6).trans M6);have cF:=j3 r9;clear M6 r9))
  go_ret
  first
   | exact(((q9 H5).slack (by omega)).from (q9 K6) (by omega)).d
   | exact⟨q9 aQ,i0,rfl,.inl (K8 ▸ (q9 cF).more (by omega))⟩
end
section
theorem rtest_err(rb:Nat)(s:ByteArray)(op m:Nat)(f:St->Res)(hf:RReads 320 rb s op m f)(w:World)(st:St)(ns:List RN)(j:Nat)(h:RT w rb s ns j st)(ho:st.op=op){en pl:Int}(A8:f st=.err en pl):
  Calls prog 294 #[.pointer (some ⟨rb,0,none⟩)] w (DEnds rb s w op (m+1) ns j st.place (.err en pl)):=by
 obtain⟨k2,_⟩:=h.ct;have HC:=j3 (hf w st ns j h ho);have D4:=j3 A8;clear h hf A8;go_enter func294,ntmps294
 go_wp2_with(go_at_call 320;refine(q9 HC).mono ?_;rintro e w1⟨A0,h1⟩;rw[q9 D4]at h1;obtain⟨i,rfl,A4⟩:=h1;obtain⟨c8,dJ⟩:=A4.c8;have D8:=j3 A0;have D5:=j3 A4;clear A0 A4)
 go_ret;exact⟨q9 D8,i,rfl,.inl ((q9 D5).more (by omega))⟩
theorem jp2(rb:Nat)(s:ByteArray)(hs:s.size<=200)(op m:Nat)(hm:200<=m)(V9:m<=900)(f:St->Res)(hf:RReads 320 rb s op m f)(eS:qn6 320 rb s):DReads 294 rb s op (m+1) (qf6 s f (qg7 s) (qb5 s)):=by
 intro w st ns j h ho
 cases A8:f st with
 | err en pl=>
  rw[show qf6 s f (qg7 s) (qb5 s) st=.err en pl by unfold qf6;rw[A8]];exact rtest_err rb s op m f hf w st ns j h ho A8
 | ok l A6=>
  rw[show qf6 s f (qg7 s) (qb5 s) st=qh8 s f (qg7 s) (qb5 s) (ve7 st l) l A6 by unfold qf6;rw[A8]];have T:T1 rb s op m f w st ns j l A6:=⟨hs,hm,V9,hf,eS,h,ho,A8⟩;unfold qh8
  split
  ·rename_i hk;exact rtest_cmp rb s op m f w st ns j l A6 T (by omega)
  split
  ·rename_i hk
   split
   ·rename_i hb;exact qr7 rb s op m f w st ns j l A6 T hb (decide_eq_false (by omega)) (.inl ⟨.lit (by simp<;>omega) (by simp<;>omega),.lit (by simp<;>omega) (by simp<;>omega) (by simp<;>omega),hk,rfl,rfl⟩)
   ·rename_i hb;exact qr7 rb s op m f w st ns j l A6 T (Bool.eq_false_iff.2 hb) (decide_eq_false (by omega)) (.inr (.inr (.inl ⟨.lit (by simp<;>omega) (by simp<;>omega),.lit (by simp<;>omega) (by simp<;>omega) (by simp<;>omega),trivial,rfl,rfl⟩)))
  split
  ·rename_i V3
   obtain⟨r,hr⟩:∃r,qb6 s f (qg7 s) (qb5 s) (ve7 st l) l (j4 s A6)=r:=⟨_,rfl⟩;rw[hr];suffices hS:Calls prog 294 #[.pointer (some ⟨rb,0,none⟩)] w (DEnds rb s w op (m+1) ns j st.place (negR true A6.place r)) by cases r<;>exact hS
   rw[←hr];unfold qb6
   split
   ·rename_i h2;have:=h2.1;exact qs9 rb s op m f w st ns j l A6 T h2.2 V3 (.inr (.inl ⟨.lit (by simp<;>omega) (by simp<;>omega) (by simp<;>omega),h2.1,rfl,rfl⟩))
   rename_i L6
   split
   ·rename_i h2;have:=h2.1;exact qs9 rb s op m f w st ns j l A6 T h2.2 V3 (.inr (.inr (.inl ⟨.lit (by simp<;>omega) (by simp<;>omega) (by simp<;>omega),h2.1,rfl,rfl⟩)))
   rename_i F9
   by_cases k10:(j4 s A6).tk.kind=10
   ·exact qs9 rb s op m f w st ns j l A6 T rfl V3 (.inl ⟨.lit (by simp<;>omega) (by simp<;>omega) (by simp<;>omega),k10,trivial,rfl⟩)
   ·rw[show qa9 s f l (j4 s A6)=.err 2 (j4 s A6).place by unfold qa9;rw[if_neg k10]]
    show Calls _ _ _ _ (DEnds rb s w op (m+1) ns j st.place (.err 2 (j4 s A6).place))
    by_cases k11:(j4 s A6).tk.kind=11
    ·exact qs9 rb s op m f w st ns j l A6 T (by simpa [k11]using L6) V3 (.inr (.inr (.inr (.inr (.inl ⟨.lit (by simp<;>omega) (by simp<;>omega) (by simp<;>omega),trivial,rfl,rfl⟩)))))
    ·by_cases k12:(j4 s A6).tk.kind=12
     ·exact qs9 rb s op m f w st ns j l A6 T (by simpa [k12]using F9) V3 (.inr (.inr (.inr (.inr (.inr (⟨.lit (by simp<;>omega) (by simp<;>omega) (by simp<;>omega),trivial,rfl,rfl⟩))))))
     ·exact qs9 rb s op m f w st ns j l A6 T rfl V3 (.inr (.inr (.inr (.inl ⟨.lit (by simp<;>omega) (by simp<;>omega) (by simp<;>omega),trivial,trivial,rfl⟩))))
  split
  ·rename_i hk
   unfold qb6
   split
   ·rename_i h2;have:=h2.1;exact qr7 rb s op m f w st ns j l A6 T h2.2 (decide_eq_false (by omega)) (.inr (.inr (.inr (.inr (.inl ⟨.lit (by simp<;>omega) (by simp<;>omega),.lit (by simp<;>omega) (by simp<;>omega) (by simp<;>omega),h2.1,rfl,rfl⟩)))))
   rename_i L6
   split
   ·rename_i h2;have:=h2.1;exact qr7 rb s op m f w st ns j l A6 T h2.2 (decide_eq_false (by omega)) (.inr (.inr (.inr (.inr (.inr (.inl ⟨.lit (by simp<;>omega) (by simp<;>omega),.lit (by simp<;>omega) (by simp<;>omega) (by simp<;>omega),h2.1,rfl,rfl⟩))))))
   rename_i F9
   by_cases k10:A6.tk.kind=10
   ·exact qr7 rb s op m f w st ns j l A6 T rfl (decide_eq_false (by omega)) (.inr (.inr (.inr (.inl ⟨.lit (by simp<;>omega) (by simp<;>omega),.lit (by simp<;>omega) (by simp<;>omega) (by simp<;>omega),k10,trivial,rfl⟩))))
   ·rw[show qa9 s f l A6=.err 2 A6.place by unfold qa9;rw[if_neg k10]]
    rcases hk with hk|hk|hk
    ·omega
    ·exact qr7 rb s op m f w st ns j l A6 T (by simpa [hk]using L6) (decide_eq_false (by omega)) (.inr (.inr (.inr (.inr (.inr (.inr (.inl ⟨.lit (by simp<;>omega) (by simp<;>omega),.lit (by simp<;>omega) (by simp<;>omega) (by simp<;>omega),hk,rfl,rfl⟩)))))))
    ·exact qr7 rb s op m f w st ns j l A6 T (by simpa [hk]using F9) (decide_eq_false (by omega)) (.inr (.inr (.inr (.inr (.inr (.inr (.inr (⟨.lit (by simp<;>omega) (by simp<;>omega),.lit (by simp<;>omega) (by simp<;>omega) (by simp<;>omega),hk,rfl,rfl⟩))))))))
  ·exact qr7 rb s op m f w st ns j l A6 T rfl (decide_eq_false (by omega)) (.inr (.inl ⟨.lit (by simp<;>omega) (by simp<;>omega),.lit (by simp<;>omega) (by simp<;>omega) (by simp<;>omega),trivial,trivial,rfl⟩))
structure RR3(rb:Nat)(s:ByteArray)(op m:Nat)(L:L3):Prop where
 S:RReads 351 rb s op m L.S
 D:DReads 259 rb s op m L.D
 E:DReads 173 rb s op m L.E
theorem rerrs(rb:Nat)(s:ByteArray):qn6 320 rb s/\qn6 259 rb s/\qn6 173 rb s:=
 have h1:=sum_errs rb s (jd7 rb s (vp4 rb s));have h2:=jj7 rb s (test_errs rb s h1)
 ⟨h1,h2,jj9 rb s (both_errs rb s h2)⟩
theorem up3_rr(rb:Nat)(s:ByteArray)(hs:s.size<=200)(op m:Nat)(H6:op<=12)(hm:200<=m)(V9:m<=800)(L:L3)(h:op<12->RR3 rb s (op+1) m L):RR3 rb s op (m+8) (up3 s L):=by
 obtain⟨eS,eD,eE⟩:=rerrs rb s;have hS:=vy2 rb s hs op m hm (by omega) H6 L.S L.E (λk=>(h k).S) (λk=>(h k).E) (vp4 rb s) eE;have hP:=vq5 rb s hs op (m+1) (by omega) (by omega) _ hS;have hU:=jy9 rb s hs op (m+2) (by omega) (by omega) _ hP;have hT:=jp2 rb s hs op (m+3) (by omega) (by omega) _ hU eS;have hD:=vx7 rb s hs op (m+3) (by omega) (by omega) H6 L.D _ (λk=>(h k).D.more (by omega)) eD hT;have hB:=jn7 rb s hs op (m+4) (by omega) (by omega) _ hD;have hE:=vx8 rb s hs op (m+5) (by omega) (by omega) _ hB;exact⟨hS.more (by omega),hD.more (by omega),hE.more (by omega)⟩
theorem jr7(rb:Nat)(s:ByteArray)(hs:s.size<=200):∀d op,op+d=12->RR3 rb s op (200+8 * (d+1)) (lvl s d):=by
 intro d
 induction d with
 | zero=>intro op h;exact up3_rr rb s hs op 200 (by omega) (by omega) (by omega) _ (λk=>by omega)
 | succ d ih=>intro op h;exact up3_rr rb s hs op (200+8 * (d+1)) (by omega) (by omega) (by omega) _ (λ_=>ih (op+1) (by omega))
end
section
def wnt(o:Int):Int:=if 14<=o/\o<=19 then 2 else if 10<=o/\o<=13\/o=20 then 2 else if 5<=o/\o<=7 then 1 else -1
def hsc(o:Int):Int:=if o=0 then 0 else if o=1 then 2 else if o=2 then 3 else if 14<=o/\o<=19 then 2 else 1
def cc(c:Int):Int:=if c=1 then 2 else if c=2 then 3 else if c=3 then 1 else c
theorem jp5(o:Int)(h0:0<=o)(L9:o<=23)(w:World):
  Calls prog 217 #[.string (BS (qb7 o))] w λe w'=>e=.returned (.tuple #[.int .i64 (wnt o),.int .i64 (hsc o)])/\w'=w:=by
 have ho:o=0\/o=1\/o=2\/o=3\/o=4\/o=5\/o=6\/o=7\/o=8\/o=9\/o=10\/o=11\/o=12\/o=13\/o=14\/o=15\/o=16\/o=17\/o=18\/o=19\/o=20\/o=21\/o=22\/o=23:=by omega
 rcases ho with rfl|rfl|rfl|rfl|rfl|rfl|rfl|rfl|rfl|rfl|rfl|rfl|rfl|rfl|rfl|rfl|rfl|rfl|rfl|rfl|rfl|rfl|rfl|rfl
 all_goals
  simp only[BS,qb7,Int.reduceEq,if_true,if_false];go_enter func217,ntmps217
  go_wp2_with fail
  exact bodyPost_ret (by simp[results,results217,go_sem];decide) rfl ⟨rfl,rfl⟩
def jn1(l:List UInt8):Int:=(((List.range 24).find? λi=>qb7 (Int.ofNat i)==l).getD 23:Nat)
theorem vc3{o:Int}(h0:0<=o)(L9:o<=23):jn1 (qb7 o)=o:=by
 have:∀i:Fin 24,jn1 (qb7 (i.val:Int))=(i.val:Int):=by decide +kernel
 have:=this ⟨o.toNat,by omega⟩;rwa [show((o.toNat:Nat):Int)=o by omega]at this
def qi0(cs:List Int)(k:Nat):Int:=cs.getD k 0
def qi1(want c:Int):Bool:=decide (0<=want)&&c != 0&&c != want
def ja2(cs:List Int)(n:RN):Bool:=
 (n.ins.any λk=>qi1 (wnt (jn1 n.op)) (qi0 cs k))||((jn1 n.op==8||jn1 n.op==9)&&(qi0 cs (n.ins.getD 0 0) != qi0 cs (n.ins.getD 1 0)&&qi0 cs (n.ins.getD 0 0) != 0&&qi0 cs (n.ins.getD 1 0) != 0))
def qs4:List Int->List RN->Sum Int (List Int)
 | cs,[]=>.inr cs
 | cs,n::t=>if ja2 cs n=true then .inl n.at' else qs4 (cs++[hsc (jn1 n.op)]) t
theorem qr8(cs:List Int)(l k:List RN):qs4 cs (l++k)=match qs4 cs l with
  | .inl q=>.inl q
  | .inr cs'=>qs4 cs' k:=by
 induction l generalizing cs with
 | nil=>rfl
 | cons n t ih=>
  rw[List.cons_append,qs4,qs4]
  split
  ·rfl
  ·exact ih _
def CEnd(cs:List Int)(l:List RN):CRes->Prop
 | .ok c=>∃ds,qs4 cs l=.inr (cs++ds)/\ds.length=l.length/\ds.getD (l.length - 1) 0=cc c
 | .err q=>qs4 cs l=.inl q
theorem qz8(t:Ast):∀c,qb3 t=.ok c->0<=c/\c<=3:=by
 intro c h;rw[vu1]at h;generalize (qb8 t).map qb3=rs at h;generalize (qj1 t).place=pl at h
 have hd:∀w1 c1,0<=c1/\c1<=3->qt7 w1 pl c1 rs=.ok c->0<=c/\c<=3:=by
  intro w1 c1 h1 h2;unfold qt7 at h2
  split at h2
  ·injection h2 with h2;omega
  ·cases h2
 unfold qg1 at h
 split at h
 ·injection h with h;omega
 split at h
 ·injection h with h;omega
 split at h
 ·injection h with h;omega
 split at h
 ·exact hd _ _ (by decide) h
 split at h
 ·exact hd _ _ (by decide) h
 split at h
 ·exact hd _ _ (by decide) h
 split at h
 ·split at h
  ·rename_i a b
   unfold qq1 at h
   split at h
   ·cases h
   ·cases h
   ·split at h
    ·cases h
    ·injection h with h;omega
  ·injection h with h;omega
 ·injection h with h;omega
theorem cend_ok{cs:List Int}{l:List RN}{c:Int}(ds:List Int)(h1:qs4 cs l=.inr (cs++ds))(h2:ds.length=l.length)(h3:ds.getD (l.length - 1) 0=cc c):CEnd cs l (.ok c):=⟨ds,h1,h2,h3⟩
theorem qt0{cs:List Int}{l:List RN}{ds:List Int}(h:qs4 cs l=.inr (cs++ds))(n:RN):qs4 cs (l++[n])=if ja2 (cs++ds) n=true then .inl n.at' else .inr (cs++(ds++[hsc (jn1 n.op)])):=by
 rw[qr8,h];show qs4 (cs++ds) [n]=_;rw[qs4]
 split
 ·rfl
 ·rw[qs4,List.append_assoc]
theorem jt6{cs ds es:List Int}{k:Nat}(h:cs.length<=k)(h2:k<cs.length+ds.length):qi0 (cs++ds++es) k=ds.getD (k - cs.length) 0:=by
 unfold qi0;rw[List.getD_eq_getElem?_getD,List.getD_eq_getElem?_getD,List.append_assoc,List.getElem?_append_right h,List.getElem?_append_left (by omega)]
section
variable {p:Pay} {cs:List Int}
theorem op_of{x:Int}{ins:List Nat}{neg:Bool}(h:p.op=x)(h0:0<=x)(L9:x<=23):jn1 (qi5 p ins neg).op=x:=by
 show jn1 (qb7 p.op)=x;rw[h];exact vc3 h0 L9
theorem cls_leaf(off:Nat)(h:0<=p.op/\p.op<=4)(_:cs.length=off):CEnd cs [qi5 p [] false] (qb3 (.leaf p)):=by
 have ho:p.op=0\/p.op=1\/p.op=2\/p.op=3\/p.op=4:=by omega
 have key:∀x c,p.op=x->0<=x->x<=4->qg1 x p.place []=.ok c->hsc x=cc c->CEnd cs [qi5 p [] false] (qb3 (.leaf p)):=by
  intro x c hx h0 h4 hc hh;rw[show qb3 (.leaf p)=.ok c by show qg1 p.op p.place []=_;rw[hx];exact hc];refine cend_ok [hsc x] ?_ rfl (by simpa using hh);rw[qs4,op_of hx h0 (by omega),if_neg,qs4];unfold ja2;rw[op_of hx h0 (by omega)]
  have e8:(x==8||x==9)=false:=by
   rw[Bool.or_eq_false_iff];exact⟨beq_eq_false_iff_ne.2 (by omega),beq_eq_false_iff_ne.2 (by omega)⟩
  rw[e8];show ¬((([]:List Nat).any _||_)=true);simp
 rcases ho with h|h|h|h|h
 ·exact key 0 0 h (by decide) (by decide) rfl rfl
 ·exact key 1 1 h (by decide) (by decide) rfl rfl
 ·exact key 2 2 h (by decide) (by decide) rfl rfl
 ·exact key 3 3 h (by decide) (by decide) rfl rfl
 ·exact key 4 3 h (by decide) (by decide) rfl rfl
end
end
end Go.Proofs.YtfkcaldjphakpaaGreatDoor
