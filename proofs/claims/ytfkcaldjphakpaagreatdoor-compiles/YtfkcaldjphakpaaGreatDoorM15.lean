/- The document's answer. -/
import Derived.Test.YtfkcaldjphakpaaGreatDoorM14
set_option maxHeartbeats 16000000
set_option maxRecDepth 100000
namespace Go.Proofs.YtfkcaldjphakpaaGreatDoor
open Go.RowKit Go.Proofs.Tryz
theorem rsigned_2(rb:Nat)(s:ByteArray)(hs:s.size<=200)(op m:Nat)(w:World)(st:St)(ns:List RN)(j:Nat)(h:RT w rb s ns j st)(ho:st.op=op)(hk:st.tk.kind=2):
  Calls prog 351 #[.pointer (some ⟨rb,0,none⟩)] w (REnds rb s w op m ns j st.place (.ok (qz4 0 st 0 st.tk.str) (j4 s st))):=by
 obtain⟨c2,c3,c4,c5,c6⟩:=h.ct;have c8:=h.c8;have A1:=h.lt;have n0:¬w.heap.size=rb:=by omega
 have n1:¬rb=w.heap.size:=by omega
 rw[show rK st.tk.kind=2 by rw[hk];rfl]at c2;rw[show tkZ st=(st.after:Int) by unfold tkZ;rw[if_neg (by omega)]]at c4;rw[show BS (tkS st)=(BS st.tk.str) by unfold tkS rS;rw[if_neg (by omega),if_pos (by omega)]]at c5;rw[show tkN st=st.tk.num by unfold tkN;rw[if_neg (by omega)]]at c6;have N0:=qb4 (h.alloc (.cells #[.int .i64 2,.int .i64 st.place,.int .i64 st.after,.string (BS st.tk.str),.int .i64 st.tk.num] 235)) hs (by omega) (by omega);have P9:=h.fresh (.cells #[.int .i64 2,.int .i64 st.place,.int .i64 st.after,.string (BS st.tk.str),.int .i64 st.tk.num] 235);have T8:=h.fine.step_place (by omega);have ST:=j3 N0;have FR:=j3 P9;clear h N0 P9;go_enter func351,ntmps351
 go_wp2_with(first|(go_at_call 172;refine(q9 ST).mono ?_;rintro e w1⟨rfl,A0,A4⟩;obtain⟨hc,hf,_,D7,hL⟩:=A0.mine (by simp) (q9 FR);have p1:w1.cell? ⟨w.heap.size,1,none⟩=some (.int .i64 st.place):=(hc 1).trans (by simp);have p3:w1.cell? ⟨w.heap.size,3,none⟩=some (.string (BS st.tk.str)):=(hc 3).trans (by simp);have p4:w1.cell? ⟨w.heap.size,4,none⟩=some (.int .i64 st.tk.num):=(hc 4).trans (by simp);have D8:=j3 (qf3 A1 A0);have D5:=j3 A4;clear A0 A4 hc hf D7)|(go_at_call 216;refine(qw9 (q9 D5) hs ⟨0,st.place,0,st.tk.str,[],[]⟩ rfl rfl rfl rfl).mono ?_;rintro e w2⟨rfl,A3,A5⟩;have E9:=j3 A3;have D6:=j3 A5;clear A3 A5))
 go_ret;exact⟨(q9 D8).trans (q9 E9),_,rfl,q9 D6,ho,by omega,Flat.leaf _ _⟩
theorem rsigned_3(rb:Nat)(s:ByteArray)(hs:s.size<=200)(op m:Nat)(w:World)(st:St)(ns:List RN)(j:Nat)(h:RT w rb s ns j st)(ho:st.op=op)(hk:st.tk.kind=3):
  Calls prog 351 #[.pointer (some ⟨rb,0,none⟩)] w (REnds rb s w op m ns j st.place (.ok (qz4 1 st st.tk.num []) (j4 s st))):=by
 obtain⟨c2,c3,c4,c5,c6⟩:=h.ct;have c8:=h.c8;have A1:=h.lt;have n0:¬w.heap.size=rb:=by omega
 have n1:¬rb=w.heap.size:=by omega
 rw[show rK st.tk.kind=3 by rw[hk];rfl]at c2;rw[show tkZ st=(st.after:Int) by unfold tkZ;rw[if_neg (by omega)]]at c4;rw[show BS (tkS st)=⟨#[]⟩ by unfold tkS rS;rw[if_neg (by omega),if_neg (by omega),hk];rfl]at c5;rw[show tkN st=st.tk.num by unfold tkN;rw[if_neg (by omega)]]at c6;have N0:=qb4 (h.alloc (.cells #[.int .i64 3,.int .i64 st.place,.int .i64 st.after,.string ⟨#[]⟩,.int .i64 st.tk.num] 235)) hs (by omega) (by omega);have P9:=h.fresh (.cells #[.int .i64 3,.int .i64 st.place,.int .i64 st.after,.string ⟨#[]⟩,.int .i64 st.tk.num] 235);have T8:=h.fine.step_place (by omega);have ST:=j3 N0;have FR:=j3 P9;clear h N0 P9;go_enter func351,ntmps351
 go_wp2_with(first|(go_at_call 172;refine(q9 ST).mono ?_;rintro e w1⟨rfl,A0,A4⟩;obtain⟨hc,hf,_,D7,hL⟩:=A0.mine (by simp) (q9 FR);have p1:w1.cell? ⟨w.heap.size,1,none⟩=some (.int .i64 st.place):=(hc 1).trans (by simp);have p3:w1.cell? ⟨w.heap.size,3,none⟩=some (.string ⟨#[]⟩):=(hc 3).trans (by simp);have p4:w1.cell? ⟨w.heap.size,4,none⟩=some (.int .i64 st.tk.num):=(hc 4).trans (by simp);have D8:=j3 (qf3 A1 A0);have D5:=j3 A4;clear A0 A4 hc hf D7)|(go_at_call 216;refine(qw9 (q9 D5) hs ⟨1,st.place,st.tk.num,[],[],[]⟩ rfl rfl rfl rfl).mono ?_;rintro e w2⟨rfl,A3,A5⟩;have E9:=j3 A3;have D6:=j3 A5;clear A3 A5))
 go_ret;exact⟨(q9 D8).trans (q9 E9),_,rfl,q9 D6,ho,by omega,Flat.leaf _ _⟩
theorem rsigned_4(rb:Nat)(s:ByteArray)(hs:s.size<=200)(op m:Nat)(w:World)(st:St)(ns:List RN)(j:Nat)(h:RT w rb s ns j st)(ho:st.op=op)(hk:st.tk.kind=4):
  Calls prog 351 #[.pointer (some ⟨rb,0,none⟩)] w (REnds rb s w op m ns j st.place (.ok (qz4 2 st 0 st.tk.str) (j4 s st))):=by
 obtain⟨c2,c3,c4,c5,c6⟩:=h.ct;have c8:=h.c8;have A1:=h.lt;have n0:¬w.heap.size=rb:=by omega
 have n1:¬rb=w.heap.size:=by omega
 rw[show rK st.tk.kind=4 by rw[hk];rfl]at c2;rw[show tkZ st=(st.after:Int) by unfold tkZ;rw[if_neg (by omega)]]at c4;rw[show BS (tkS st)=(BS st.tk.str) by unfold tkS rS;rw[if_neg (by omega),if_pos (by omega)]]at c5;rw[show tkN st=st.tk.num by unfold tkN;rw[if_neg (by omega)]]at c6;have N0:=qb4 (h.alloc (.cells #[.int .i64 4,.int .i64 st.place,.int .i64 st.after,.string (BS st.tk.str),.int .i64 st.tk.num] 235)) hs (by omega) (by omega);have P9:=h.fresh (.cells #[.int .i64 4,.int .i64 st.place,.int .i64 st.after,.string (BS st.tk.str),.int .i64 st.tk.num] 235);have T8:=h.fine.step_place (by omega);have ST:=j3 N0;have FR:=j3 P9;clear h N0 P9;go_enter func351,ntmps351
 go_wp2_with(first|(go_at_call 172;refine(q9 ST).mono ?_;rintro e w1⟨rfl,A0,A4⟩;obtain⟨hc,hf,_,D7,hL⟩:=A0.mine (by simp) (q9 FR);have p1:w1.cell? ⟨w.heap.size,1,none⟩=some (.int .i64 st.place):=(hc 1).trans (by simp);have p3:w1.cell? ⟨w.heap.size,3,none⟩=some (.string (BS st.tk.str)):=(hc 3).trans (by simp);have p4:w1.cell? ⟨w.heap.size,4,none⟩=some (.int .i64 st.tk.num):=(hc 4).trans (by simp);have D8:=j3 (qf3 A1 A0);have D5:=j3 A4;clear A0 A4 hc hf D7)|(go_at_call 216;refine(qw9 (q9 D5) hs ⟨2,st.place,0,st.tk.str,[],[]⟩ rfl rfl rfl rfl).mono ?_;rintro e w2⟨rfl,A3,A5⟩;have E9:=j3 A3;have D6:=j3 A5;clear A3 A5))
 go_ret;exact⟨(q9 D8).trans (q9 E9),_,rfl,q9 D6,ho,by omega,Flat.leaf _ _⟩
theorem rsigned_8(rb:Nat)(s:ByteArray)(hs:s.size<=200)(op m:Nat)(w:World)(st:St)(ns:List RN)(j:Nat)(h:RT w rb s ns j st)(ho:st.op=op)(hk:st.tk.kind=8):
  Calls prog 351 #[.pointer (some ⟨rb,0,none⟩)] w (REnds rb s w op m ns j st.place (.ok (qz4 3 st 0 []) (j4 s st))):=by
 obtain⟨c2,c3,c4,c5,c6⟩:=h.ct;have c8:=h.c8;have A1:=h.lt;have n0:¬w.heap.size=rb:=by omega
 have n1:¬rb=w.heap.size:=by omega
 rw[show rK st.tk.kind=6 by rw[hk];rfl]at c2;rw[show tkZ st=(st.after:Int) by unfold tkZ;rw[if_neg (by omega)]]at c4;rw[show BS (tkS st)=⟨#[84,82,85,69]⟩ by unfold tkS rS;rw[if_neg (by omega),if_neg (by omega),hk];rfl]at c5;rw[show tkN st=st.tk.num by unfold tkN;rw[if_neg (by omega)]]at c6;have N0:=qb4 (h.alloc (.cells #[.int .i64 6,.int .i64 st.place,.int .i64 st.after,.string ⟨#[84,82,85,69]⟩,.int .i64 st.tk.num] 235)) hs (by omega) (by omega);have P9:=h.fresh (.cells #[.int .i64 6,.int .i64 st.place,.int .i64 st.after,.string ⟨#[84,82,85,69]⟩,.int .i64 st.tk.num] 235);have T8:=h.fine.step_place (by omega);have ST:=j3 N0;have FR:=j3 P9;clear h N0 P9;go_enter func351,ntmps351
 go_wp2_with(first|(go_at_call 172;refine(q9 ST).mono ?_;rintro e w1⟨rfl,A0,A4⟩;obtain⟨hc,hf,_,D7,hL⟩:=A0.mine (by simp) (q9 FR);have p1:w1.cell? ⟨w.heap.size,1,none⟩=some (.int .i64 st.place):=(hc 1).trans (by simp);have p3:w1.cell? ⟨w.heap.size,3,none⟩=some (.string ⟨#[84,82,85,69]⟩):=(hc 3).trans (by simp);have p4:w1.cell? ⟨w.heap.size,4,none⟩=some (.int .i64 st.tk.num):=(hc 4).trans (by simp);have D8:=j3 (qf3 A1 A0);have D5:=j3 A4;clear A0 A4 hc hf D7)|(go_at_call 216;refine(qw9 (q9 D5) hs ⟨3,st.place,0,[],[],[]⟩ rfl rfl rfl rfl).mono ?_;rintro e w2⟨rfl,A3,A5⟩;have E9:=j3 A3;have D6:=j3 A5;clear A3 A5))
 go_ret;exact⟨(q9 D8).trans (q9 E9),_,rfl,q9 D6,ho,by omega,Flat.leaf _ _⟩
theorem rsigned_9(rb:Nat)(s:ByteArray)(hs:s.size<=200)(op m:Nat)(w:World)(st:St)(ns:List RN)(j:Nat)(h:RT w rb s ns j st)(ho:st.op=op)(hk:st.tk.kind=9):
  Calls prog 351 #[.pointer (some ⟨rb,0,none⟩)] w (REnds rb s w op m ns j st.place (.ok (qz4 4 st 0 []) (j4 s st))):=by
 obtain⟨c2,c3,c4,c5,c6⟩:=h.ct;have c8:=h.c8;have A1:=h.lt;have n0:¬w.heap.size=rb:=by omega
 have n1:¬rb=w.heap.size:=by omega
 rw[show rK st.tk.kind=6 by rw[hk];rfl]at c2;rw[show tkZ st=(st.after:Int) by unfold tkZ;rw[if_neg (by omega)]]at c4;rw[show BS (tkS st)=⟨#[70,65,76,83,69]⟩ by unfold tkS rS;rw[if_neg (by omega),if_neg (by omega),hk];rfl]at c5;rw[show tkN st=st.tk.num by unfold tkN;rw[if_neg (by omega)]]at c6;have N0:=qb4 (h.alloc (.cells #[.int .i64 6,.int .i64 st.place,.int .i64 st.after,.string ⟨#[70,65,76,83,69]⟩,.int .i64 st.tk.num] 235)) hs (by omega) (by omega);have P9:=h.fresh (.cells #[.int .i64 6,.int .i64 st.place,.int .i64 st.after,.string ⟨#[70,65,76,83,69]⟩,.int .i64 st.tk.num] 235);have T8:=h.fine.step_place (by omega);have ST:=j3 N0;have FR:=j3 P9;clear h N0 P9;go_enter func351,ntmps351
 go_wp2_with(first|(go_at_call 172;refine(q9 ST).mono ?_;rintro e w1⟨rfl,A0,A4⟩;obtain⟨hc,hf,_,D7,hL⟩:=A0.mine (by simp) (q9 FR);have p1:w1.cell? ⟨w.heap.size,1,none⟩=some (.int .i64 st.place):=(hc 1).trans (by simp);have p3:w1.cell? ⟨w.heap.size,3,none⟩=some (.string ⟨#[70,65,76,83,69]⟩):=(hc 3).trans (by simp);have p4:w1.cell? ⟨w.heap.size,4,none⟩=some (.int .i64 st.tk.num):=(hc 4).trans (by simp);have D8:=j3 (qf3 A1 A0);have D5:=j3 A4;clear A0 A4 hc hf D7)|(go_at_call 216;refine(qw9 (q9 D5) hs ⟨4,st.place,0,[],[],[]⟩ rfl rfl rfl rfl).mono ?_;rintro e w2⟨rfl,A3,A5⟩;have E9:=j3 A3;have D6:=j3 A5;clear A3 A5))
 go_ret;exact⟨(q9 D8).trans (q9 E9),_,rfl,q9 D6,ho,by omega,Flat.leaf _ _⟩
theorem qx7{s:ByteArray}{f:St->Res}{o:Int}{st:St}(h:st.op=12):qd9 s f o st=.err 3 st.place:=by unfold qd9;rw[if_pos h]
theorem vf8{s:ByteArray}{f:St->Res}{o:Int}{st:St}(h:st.op<12){x:Ast}{st':St}(hf:f (qk2 s st)=.ok x st'):qd9 s f o st=.ok (.un ⟨o,st.place,0,[],[],[]⟩ x) { st' with op:=st.op }:=by unfold qd9;rw[if_neg (by omega),hf]
theorem va6{s:ByteArray}{f:St->Res}{o:Int}{st:St}(h:st.op<12){en pl:Int}(hf:f (qk2 s st)=.err en pl):qd9 s f o st=.err en pl:=by unfold qd9;rw[if_neg (by omega),hf]
theorem vv2{s:ByteArray}{f:St->Res}{st:St}(h:st.op=12):qd3 s f st=.err 3 st.place:=by unfold qd3;rw[if_pos h]
theorem jm1{s:ByteArray}{f:St->Res}{st:St}(h:st.op<12){x:Ast}{st':St}(hf:f (qk2 s st)=.ok x st')(hk:st'.tk.kind=27):qd3 s f st=.ok x { j4 s st' with op:=st.op }:=by unfold qd3;rw[if_neg (by omega),hf];simp only[if_pos hk]
theorem jm0{s:ByteArray}{f:St->Res}{st:St}(h:st.op<12){x:Ast}{st':St}(hf:f (qk2 s st)=.ok x st')(hk:¬st'.tk.kind=27):qd3 s f st=.err 2 st'.place:=by unfold qd3;rw[if_neg (by omega),hf];simp only[if_neg hk]
theorem jb9{s:ByteArray}{f:St->Res}{st:St}(h:st.op<12){en pl:Int}(hf:f (qk2 s st)=.err en pl):qd3 s f st=.err en pl:=by unfold qd3;rw[if_neg (by omega),hf]
theorem jy5(rb:Nat)(s:ByteArray)(hs:s.size<=200)(op m:Nat)(hm:200<=m)(V9:m<=900)(H6:op<=12)(fS:St->Res)(hS:op<12->RReads 351 rb s (op+1) m fS)(eS:qn6 351 rb s)(w:World)(st:St)(ns:List RN)(j:Nat)(h:RT w rb s ns j st)(ho:st.op=op)(hk:st.tk.kind=22):
  Calls prog 351 #[.pointer (some ⟨rb,0,none⟩)] w (REnds rb s w op (m+1) ns j st.place (qd9 s fS 14 st)):=by
 obtain⟨c2,c3,c4,c5,c6⟩:=h.ct;have c8:=h.c8;have A1:=h.lt;have n0:¬w.heap.size=rb:=by omega
 have n1:¬rb=w.heap.size:=by omega
 rw[show rK st.tk.kind=5 by rw[hk];rfl]at c2;rw[show tkZ st=(st.after:Int) by unfold tkZ;rw[if_neg (by omega)]]at c4;rw[show BS (tkS st)=⟨#[43]⟩ by unfold tkS rS;rw[if_neg (by omega),if_neg (by omega),hk];rfl]at c5;rw[show tkN st=st.tk.num by unfold tkN;rw[if_neg (by omega)]]at c6;have P9:=h.fresh (.cells #[.int .i64 5,.int .i64 st.place,.int .i64 st.after,.string ⟨#[43]⟩,.int .i64 st.tk.num] 235);have h':=h.alloc (.cells #[.int .i64 5,.int .i64 st.place,.int .i64 st.after,.string ⟨#[43]⟩,.int .i64 st.tk.num] 235);have T8:=h.fine.step_place (by omega);have FR:=j3 P9;have H':=j3 h';have HS:=j3 hS;have ES:=j3 eS;clear h P9 h' hS eS
 by_cases F9:st.op=12
 ·rw[qx7 F9]
  go_enter func351,ntmps351
  go_wp2_with(first|(go_at_call 295;refine(vc7 (q9 H') hs (by omega)).mono ?_;rintro e w1⟨rfl,A0,A4⟩;obtain⟨hc,hf,_,D7,hL⟩:=A0.mine (by simp) (q9 FR);have p1:w1.cell? ⟨w.heap.size,1,none⟩=some (.int .i64 st.place):=(hc 1).trans (by simp);have p3:w1.cell? ⟨w.heap.size,3,none⟩=some (.string ⟨#[43]⟩):=(hc 3).trans (by simp);have fF:=j3 D7;have D8:=j3 (qf3 A1 A0);have D5:=j3 A4;clear A0 A4 hc hf D7)|(go_at_call 351;refine(q9 ES _ _ _ _ _ (q9 D5)).mono ?_;rintro e w2⟨i,rfl,A3,A5⟩;obtain⟨hc,hf,_,D7,aC⟩:=A3.mine hL (q9 fF);have q1:w2.cell? ⟨w.heap.size,1,none⟩=some (.int .i64 st.place):=(hc 1).trans p1;have q3:w2.cell? ⟨w.heap.size,3,none⟩=some (.string ⟨#[43]⟩):=(hc 3).trans p3;have L4:=A5.lt;obtain⟨d7,dz⟩:=A5.c7;have E9:=j3 A3;have D6:=j3 A5;clear A3 A5 hc hf D7)|(go_at_call 216;refine(qs7 (((q9 D6).setOp 12 12 rfl).1) (by omega) [112] st.place i rfl (by simp)).mono ?_;rintro e w3⟨i3,rfl,A9,B8⟩;have F5:=j3 A9;have F4:=j3 B8;clear A9 B8))
  go_ret;refine⟨((q9 D8).trans (q9 E9)).trans (((q9 D6).setOp 12 12 rfl).2.trans (q9 F5)),_,rfl, ?_⟩;rw[←ho,F9];exact(q9 F4).more (by omega)
 have J0:st.op<12:=by omega
 cases hf:fS (qk2 s st) with
 | ok x st'=>
  rw[vf8 J0 hf];have HF:=j3 hf;clear hf;go_enter func351,ntmps351
  go_wp2_with(first|(go_at_call 295;refine(qm1 (q9 H') hs (by omega) (by omega) (by omega)).mono ?_;rintro e w1⟨rfl,A0,A4⟩;obtain⟨hc,hf,_,D7,hL⟩:=A0.mine (by simp) (q9 FR);have p1:w1.cell? ⟨w.heap.size,1,none⟩=some (.int .i64 st.place):=(hc 1).trans (by simp);have p3:w1.cell? ⟨w.heap.size,3,none⟩=some (.string ⟨#[43]⟩):=(hc 3).trans (by simp);have fF:=j3 D7;have D8:=j3 (qf3 A1 A0);have D5:=j3 A4;clear A0 A4 hc hf D7)|(go_at_call 351;refine(q9 HS (by omega) _ (qk2 s st) ns (j+1) (q9 D5) (by show st.op+1=op+1;omega)).mono ?_;rintro e w2⟨A3,h2⟩;rw[q9 HF]at h2;obtain⟨new,rfl,A5,I2,S8,F6⟩:=h2;obtain⟨hc,hf,_,D7,aC⟩:=A3.mine hL (q9 fF);have q1:w2.cell? ⟨w.heap.size,1,none⟩=some (.int .i64 st.place):=(hc 1).trans p1;have q3:w2.cell? ⟨w.heap.size,3,none⟩=some (.string ⟨#[43]⟩):=(hc 3).trans p3;have L4:=A5.lt;obtain⟨d7,dz⟩:=A5.c7;have E9:=j3 A3;have D6:=j3 A5;clear A3 A5 hc hf D7;rw[I2]at d7;have K0:=j3 F6;clear F6)|(go_at_call 216;refine(jn6 (((q9 D6).setOp op _ (by omega)).1) hs ⟨14,st.place,0,[],[],[]⟩ (ns.length+new.length - 1) rfl rfl rfl rfl (by simp)).mono ?_;rintro e w3⟨rfl,A9,B8⟩;have F5:=j3 A9;have F4:=j3 B8;clear A9 B8))
  go_ret;refine⟨((q9 D8).trans (q9 E9)).trans (((q9 D6).setOp op _ (by omega)).2.trans (q9 F5)),_,qg3 (by simp), ?_,ho, ?_,Flat.un _ (q9 K0)⟩
  ·have:=q9 F4
   rw[List.append_assoc]at this;rw[ho];exact this
  ·have:(qk2 s st).place<=st'.place:=S8
   have e:(qk2 s st).place=(j4 s st).place:=rfl;show st.place<=st'.place;omega
 | err en pl=>
  rw[va6 J0 hf];have HF:=j3 hf;clear hf;go_enter func351,ntmps351
  go_wp2_with(first|(go_at_call 295;refine(qm1 (q9 H') hs (by omega) (by omega) (by omega)).mono ?_;rintro e w1⟨rfl,A0,A4⟩;obtain⟨hc,hf,_,D7,hL⟩:=A0.mine (by simp) (q9 FR);have p1:w1.cell? ⟨w.heap.size,1,none⟩=some (.int .i64 st.place):=(hc 1).trans (by simp);have p3:w1.cell? ⟨w.heap.size,3,none⟩=some (.string ⟨#[43]⟩):=(hc 3).trans (by simp);have fF:=j3 D7;have D8:=j3 (qf3 A1 A0);have D5:=j3 A4;clear A0 A4 hc hf D7)|(go_at_call 351;refine(q9 HS (by omega) _ (qk2 s st) ns (j+1) (q9 D5) (by show st.op+1=op+1;omega)).mono ?_;rintro e w2⟨A3,h2⟩;rw[q9 HF]at h2;obtain⟨i,rfl,A5⟩:=h2;obtain⟨hc,hf,_,D7,aC⟩:=A3.mine hL (q9 fF);have q1:w2.cell? ⟨w.heap.size,1,none⟩=some (.int .i64 st.place):=(hc 1).trans p1;have q3:w2.cell? ⟨w.heap.size,3,none⟩=some (.string ⟨#[43]⟩):=(hc 3).trans p3;have L4:=A5.lt;obtain⟨d7,dz⟩:=A5.c7;have E9:=j3 A3;have D6:=j3 A5;clear A3 A5 hc hf D7)|(go_at_call 216;refine(qs7 (((q9 D6).setOp op _ (by omega)).1) (by omega) [112] st.place i rfl (by simp)).mono ?_;rintro e w3⟨i3,rfl,A9,B8⟩;have F5:=j3 A9;have F4:=j3 B8;clear A9 B8))
  go_ret;exact⟨((q9 D8).trans (q9 E9)).trans (((q9 D6).setOp op _ (by omega)).2.trans (q9 F5)),_,rfl,q9 F4⟩
theorem jy6(rb:Nat)(s:ByteArray)(hs:s.size<=200)(op m:Nat)(hm:200<=m)(V9:m<=900)(H6:op<=12)(fS:St->Res)(hS:op<12->RReads 351 rb s (op+1) m fS)(eS:qn6 351 rb s)(w:World)(st:St)(ns:List RN)(j:Nat)(h:RT w rb s ns j st)(ho:st.op=op)(hk:st.tk.kind=23):
  Calls prog 351 #[.pointer (some ⟨rb,0,none⟩)] w (REnds rb s w op (m+1) ns j st.place (qd9 s fS 15 st)):=by
 obtain⟨c2,c3,c4,c5,c6⟩:=h.ct;have c8:=h.c8;have A1:=h.lt;have n0:¬w.heap.size=rb:=by omega
 have n1:¬rb=w.heap.size:=by omega
 rw[show rK st.tk.kind=5 by rw[hk];rfl]at c2;rw[show tkZ st=(st.after:Int) by unfold tkZ;rw[if_neg (by omega)]]at c4;rw[show BS (tkS st)=⟨#[45]⟩ by unfold tkS rS;rw[if_neg (by omega),if_neg (by omega),hk];rfl]at c5;rw[show tkN st=st.tk.num by unfold tkN;rw[if_neg (by omega)]]at c6;have P9:=h.fresh (.cells #[.int .i64 5,.int .i64 st.place,.int .i64 st.after,.string ⟨#[45]⟩,.int .i64 st.tk.num] 235);have h':=h.alloc (.cells #[.int .i64 5,.int .i64 st.place,.int .i64 st.after,.string ⟨#[45]⟩,.int .i64 st.tk.num] 235);have T8:=h.fine.step_place (by omega);have FR:=j3 P9;have H':=j3 h';have HS:=j3 hS;have ES:=j3 eS;clear h P9 h' hS eS
 by_cases F9:st.op=12
 ·rw[qx7 F9]
  go_enter func351,ntmps351
  go_wp2_with(first|(go_at_call 295;refine(vc7 (q9 H') hs (by omega)).mono ?_;rintro e w1⟨rfl,A0,A4⟩;obtain⟨hc,hf,_,D7,hL⟩:=A0.mine (by simp) (q9 FR);have p1:w1.cell? ⟨w.heap.size,1,none⟩=some (.int .i64 st.place):=(hc 1).trans (by simp);have p3:w1.cell? ⟨w.heap.size,3,none⟩=some (.string ⟨#[45]⟩):=(hc 3).trans (by simp);have fF:=j3 D7;have D8:=j3 (qf3 A1 A0);have D5:=j3 A4;clear A0 A4 hc hf D7)|(go_at_call 351;refine(q9 ES _ _ _ _ _ (q9 D5)).mono ?_;rintro e w2⟨i,rfl,A3,A5⟩;obtain⟨hc,hf,_,D7,aC⟩:=A3.mine hL (q9 fF);have q1:w2.cell? ⟨w.heap.size,1,none⟩=some (.int .i64 st.place):=(hc 1).trans p1;have q3:w2.cell? ⟨w.heap.size,3,none⟩=some (.string ⟨#[45]⟩):=(hc 3).trans p3;have L4:=A5.lt;obtain⟨d7,dz⟩:=A5.c7;have E9:=j3 A3;have D6:=j3 A5;clear A3 A5 hc hf D7)|(go_at_call 216;refine(qs7 (((q9 D6).setOp 12 12 rfl).1) (by omega) [110] st.place i rfl (by simp)).mono ?_;rintro e w3⟨i3,rfl,A9,B8⟩;have F5:=j3 A9;have F4:=j3 B8;clear A9 B8))
  go_ret;refine⟨((q9 D8).trans (q9 E9)).trans (((q9 D6).setOp 12 12 rfl).2.trans (q9 F5)),_,rfl, ?_⟩;rw[←ho,F9];exact(q9 F4).more (by omega)
 have J0:st.op<12:=by omega
 cases hf:fS (qk2 s st) with
 | ok x st'=>
  rw[vf8 J0 hf];have HF:=j3 hf;clear hf;go_enter func351,ntmps351
  go_wp2_with(first|(go_at_call 295;refine(qm1 (q9 H') hs (by omega) (by omega) (by omega)).mono ?_;rintro e w1⟨rfl,A0,A4⟩;obtain⟨hc,hf,_,D7,hL⟩:=A0.mine (by simp) (q9 FR);have p1:w1.cell? ⟨w.heap.size,1,none⟩=some (.int .i64 st.place):=(hc 1).trans (by simp);have p3:w1.cell? ⟨w.heap.size,3,none⟩=some (.string ⟨#[45]⟩):=(hc 3).trans (by simp);have fF:=j3 D7;have D8:=j3 (qf3 A1 A0);have D5:=j3 A4;clear A0 A4 hc hf D7)|(go_at_call 351;refine(q9 HS (by omega) _ (qk2 s st) ns (j+1) (q9 D5) (by show st.op+1=op+1;omega)).mono ?_;rintro e w2⟨A3,h2⟩;rw[q9 HF]at h2;obtain⟨new,rfl,A5,I2,S8,F6⟩:=h2;obtain⟨hc,hf,_,D7,aC⟩:=A3.mine hL (q9 fF);have q1:w2.cell? ⟨w.heap.size,1,none⟩=some (.int .i64 st.place):=(hc 1).trans p1;have q3:w2.cell? ⟨w.heap.size,3,none⟩=some (.string ⟨#[45]⟩):=(hc 3).trans p3;have L4:=A5.lt;obtain⟨d7,dz⟩:=A5.c7;have E9:=j3 A3;have D6:=j3 A5;clear A3 A5 hc hf D7;rw[I2]at d7;have K0:=j3 F6;clear F6)|(go_at_call 216;refine(jn6 (((q9 D6).setOp op _ (by omega)).1) hs ⟨15,st.place,0,[],[],[]⟩ (ns.length+new.length - 1) rfl rfl rfl rfl (by simp)).mono ?_;rintro e w3⟨rfl,A9,B8⟩;have F5:=j3 A9;have F4:=j3 B8;clear A9 B8))
  go_ret;refine⟨((q9 D8).trans (q9 E9)).trans (((q9 D6).setOp op _ (by omega)).2.trans (q9 F5)),_,qg3 (by simp), ?_,ho, ?_,Flat.un _ (q9 K0)⟩
  ·have:=q9 F4
   rw[List.append_assoc]at this;rw[ho];exact this
  ·have:(qk2 s st).place<=st'.place:=S8
   have e:(qk2 s st).place=(j4 s st).place:=rfl;show st.place<=st'.place;omega
 | err en pl=>
  rw[va6 J0 hf];have HF:=j3 hf;clear hf;go_enter func351,ntmps351
  go_wp2_with(first|(go_at_call 295;refine(qm1 (q9 H') hs (by omega) (by omega) (by omega)).mono ?_;rintro e w1⟨rfl,A0,A4⟩;obtain⟨hc,hf,_,D7,hL⟩:=A0.mine (by simp) (q9 FR);have p1:w1.cell? ⟨w.heap.size,1,none⟩=some (.int .i64 st.place):=(hc 1).trans (by simp);have p3:w1.cell? ⟨w.heap.size,3,none⟩=some (.string ⟨#[45]⟩):=(hc 3).trans (by simp);have fF:=j3 D7;have D8:=j3 (qf3 A1 A0);have D5:=j3 A4;clear A0 A4 hc hf D7)|(go_at_call 351;refine(q9 HS (by omega) _ (qk2 s st) ns (j+1) (q9 D5) (by show st.op+1=op+1;omega)).mono ?_;rintro e w2⟨A3,h2⟩;rw[q9 HF]at h2;obtain⟨i,rfl,A5⟩:=h2;obtain⟨hc,hf,_,D7,aC⟩:=A3.mine hL (q9 fF);have q1:w2.cell? ⟨w.heap.size,1,none⟩=some (.int .i64 st.place):=(hc 1).trans p1;have q3:w2.cell? ⟨w.heap.size,3,none⟩=some (.string ⟨#[45]⟩):=(hc 3).trans p3;have L4:=A5.lt;obtain⟨d7,dz⟩:=A5.c7;have E9:=j3 A3;have D6:=j3 A5;clear A3 A5 hc hf D7)|(go_at_call 216;refine(qs7 (((q9 D6).setOp op _ (by omega)).1) (by omega) [110] st.place i rfl (by simp)).mono ?_;rintro e w3⟨i3,rfl,A9,B8⟩;have F5:=j3 A9;have F4:=j3 B8;clear A9 B8))
  go_ret;exact⟨((q9 D8).trans (q9 E9)).trans (((q9 D6).setOp op _ (by omega)).2.trans (q9 F5)),_,rfl,q9 F4⟩
theorem jy8(rb:Nat)(s:ByteArray)(hs:s.size<=200)(op m:Nat)(hm:200<=m)(w:World)(st:St)(ns:List RN)(j:Nat)(h:RT w rb s ns j st)(ho:st.op=op)(hk:st.tk.kind≠2/\st.tk.kind≠3/\st.tk.kind≠4/\st.tk.kind≠8/\st.tk.kind≠9/\st.tk.kind≠22/\st.tk.kind≠23/\st.tk.kind≠26):
  Calls prog 351 #[.pointer (some ⟨rb,0,none⟩)] w (REnds rb s w op m ns j st.place (.err 2 st.place)):=by
 obtain⟨c2,c3,c4,c5,c6⟩:=h.ct;have c8:=h.c8;have A1:=h.lt;have n0:¬w.heap.size=rb:=by omega
 have n1:¬rb=w.heap.size:=by omega
 have i8:=isK (st:=st) (c:=8) (X:=⟨#[84,82,85,69]⟩) rfl (by decide) (by decide) 6 rfl;have i9:=isK (st:=st) (c:=9) (X:=⟨#[70,65,76,83,69]⟩) rfl (by decide) (by decide) 6 rfl;have pO:=isK (st:=st) (c:=22) (X:=⟨#[43]⟩) rfl (by decide) (by decide) 5 rfl;have pN:=isK (st:=st) (c:=23) (X:=⟨#[45]⟩) rfl (by decide) (by decide) 5 rfl;have pM:=isK (st:=st) (c:=26) (X:=⟨#[40]⟩) rfl (by decide) (by decide) 5 rfl;rw[beq_eq_false_iff_ne.2 hk.2.2.2.1]at i8;rw[beq_eq_false_iff_ne.2 hk.2.2.2.2.1]at i9;rw[beq_eq_false_iff_ne.2 hk.2.2.2.2.2.1]at pO;rw[beq_eq_false_iff_ne.2 hk.2.2.2.2.2.2.1]at pN;rw[beq_eq_false_iff_ne.2 hk.2.2.2.2.2.2.2]at pM
 have r2:(rK st.tk.kind==2)=false/\(rK st.tk.kind==3)=false/\(rK st.tk.kind==4)=false:=by
  obtain⟨h2,h3,h4,_⟩:=hk;refine⟨beq_eq_false_iff_ne.2 ?_,beq_eq_false_iff_ne.2 ?_,beq_eq_false_iff_ne.2 ?_⟩<;>(unfold rK;split<;>(try split)<;>omega)
 obtain⟨r2,r3,r4⟩:=r2;have H:=j3 h;clear h hk;generalize rK st.tk.kind=K at *;generalize BS (tkS st)=S at *;generalize tkZ st=Z at *;generalize tkN st=N at *;have FL:∀o,Hid (Calls prog 174 #[.pointer (some ⟨rb,0,none⟩),.int .i64 2,.int .i64 st.place] (w.alloc o) λe w'=>e=.returned (.tuple #[])/\TKept rb (w.alloc o) w'/\RE w' rb s 2 st.place st.op 200):=λo=>j3 (qy6 ((q9 H).alloc o) hs 2 st.place (by decide))
 rcases(show K=6\/K=5\/(K≠6/\K≠5) by omega) with rfl|rfl|⟨k6,k5⟩
 ·rw[beq_self_eq_true,Bool.true_and]at i8 i9
  rw[show(⟨#[84,82,85,69]⟩:ByteArray).toList=[84,82,85,69] from by rw[Lib.toList_data]]at i8;rw[show(⟨#[70,65,76,83,69]⟩:ByteArray).toList=[70,65,76,83,69] from by rw[Lib.toList_data]]at i9;clear pO pN pM r2 r3 r4;go_enter func351,ntmps351
  go_wp2_with(go_at_call 174;refine(q9 (FL _)).mono ?_;rintro e w1⟨rfl,A0,A4⟩;have D8:=j3 (qf3 A1 A0);have D5:=j3 A4;clear A0 A4)
  go_ret;exact⟨q9 D8,0,rfl,ho ▸ (q9 D5).more hm⟩
 ·rw[beq_self_eq_true,Bool.true_and]at pO pN pM
  rw[show(⟨#[43]⟩:ByteArray).toList=[43] from by rw[Lib.toList_data]]at pO;rw[show(⟨#[45]⟩:ByteArray).toList=[45] from by rw[Lib.toList_data]]at pN;rw[show(⟨#[40]⟩:ByteArray).toList=[40] from by rw[Lib.toList_data]]at pM;have RU:¬S.toList=[43]:=beq_eq_false_iff_ne.1 pO;have RS:¬S.toList=[45]:=beq_eq_false_iff_ne.1 pN;have RR:¬S.toList=[40]:=beq_eq_false_iff_ne.1 pM;clear i8 i9 r2 r3 r4;go_enter func351,ntmps351
  go_wp2_with(go_at_call 174;refine(q9 (FL _)).mono ?_;rintro e w1⟨rfl,A0,A4⟩;have D8:=j3 (qf3 A1 A0);have D5:=j3 A4;clear A0 A4)
  go_ret;exact⟨q9 D8,0,rfl,ho ▸ (q9 D5).more hm⟩
 ·have RO:(K==6)=false:=beq_eq_false_iff_ne.2 k6
  have RP:(K==5)=false:=beq_eq_false_iff_ne.2 k5;have j5:¬K=5:=k5;clear i8 i9 pO pN pM k6 k5;go_enter func351,ntmps351
  go_wp2_with(go_at_call 174;refine(q9 (FL _)).mono ?_;rintro e w1⟨rfl,A0,A4⟩;have D8:=j3 (qf3 A1 A0);have D5:=j3 A4;clear A0 A4)
  go_ret;exact⟨q9 D8,0,rfl,ho ▸ (q9 D5).more hm⟩
def plT(w:World)(rb:Nat):Nat:=match w.cell? ⟨rb,3,none⟩ with
 | some (.int _ n)=>n.toNat
 | _=>0
def meT(s:ByteArray)(w:World)(rb:Nat):Nat:=match w.cell? ⟨rb,8,none⟩ with
 | some (.int _ n)=>if n=0 then s.size+2 - plT w rb else 0
 | _=>0
theorem qz5{w:World}{rb:Nat}{s:ByteArray}{ns:List RN}{j:Nat}{st:St}(h:RT w rb s ns j st):meT s w rb=s.size+2 - st.place:=by
 have h3:=h.ct.2.1;have h8:=h.c8;unfold meT plT;rw[h8,h3];simp
theorem jc7{w:World}{rb:Nat}{s:ByteArray}{en pl:Int}{op m:Nat}(h:RE w rb s en pl op m):meT s w rb=0:=by
 obtain⟨h8,he⟩:=h.c8;unfold meT;rw[h8];simp only;rw[if_neg (by intro e;rw[e]at he;simp at he)]
theorem va4{w:World}{rb:Nat}{s:ByteArray}{ns:List RN}{j:Nat}{st:St}(h:RT w rb s ns j st){kind:Int}{X:ByteArray}:
  Calls prog 215 #[.pointer (some ⟨rb,0,none⟩),.int .i64 kind,.string X] w λe w'=>e=.returned (.bool (rK st.tk.kind==kind&&((BS (tkS st)).toList==X.toList)))/\w'=w:=by
 obtain⟨nv,h,_⟩:=h;exact qx0 h kind X
theorem vr9{a b:Int}(h:a=b):Value.int .i64 a=Value.int .i64 b:=by rw[h]
def RowAt(rb:Nat)(s:ByteArray)(w:World)(op m:Nat)(ns:List RN)(j lo:Nat)(R:Res)(f:St->Res)(ks:List Int)(v:Value)(wr:World):Prop:=
 TKept rb w wr/\((∃(n:Nat) (l:Ast) (sl:St) (new:List RN),R=qc7 s f ks n l sl/\s.size<n+sl.place/\v=.int .i64 ((ns.length+new.length - 1:Nat):Int)/\RT wr rb s (ns++new) j sl/\sl.op=op/\lo<=sl.place/\Flat l ns.length new) \/
  ∃(en pl:Int) (i:Nat),R=.err en pl/\v=.int .i64 i/\RE wr rb s en pl op m)
end Go.Proofs.YtfkcaldjphakpaaGreatDoor
