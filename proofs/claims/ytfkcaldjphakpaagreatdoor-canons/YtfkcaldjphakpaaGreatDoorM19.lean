/- The document's answer: signed. The document's answer: signed: a sign ahead of a term. -/
import Derived.Test.YtfkcaldjphakpaaGreatDoorM18
import Derived.Test.YtfkcaldjphakpaaGreatDoorM05
set_option maxHeartbeats 16000000
set_option maxRecDepth 100000
namespace Go.Proofs.YtfkcaldjphakpaaGreatDoor
open Go.RowKit
section
theorem rsigned_2 (rb:Nat) (s:ByteArray) (hs:s.size≤200) (op m:Nat) (w:World) (st:St) (ns:List RN) (j:Nat) (h:RT w rb s ns j st) (ho:st.op=op) (hk:st.tk.kind=2) :
  Calls Tryz.prog 351 #[.pointer (some ⟨rb,0,none⟩)] w (REnds rb s w op m ns j st.place (.ok (qw7 0 st 0 st.tk.str) (j3 s st))):=by
 obtain ⟨c2,c3,c4,c5,c6⟩:=h.ct
 have c8:=h.c8
 have hlt:=h.lt
 have n0:¬w.heap.size=rb:=by omega
 have n1:¬rb=w.heap.size:=by omega
 rw [show rK st.tk.kind=2 by rw [hk];rfl] at c2
 rw [show tkZ st=(st.after:Int) by unfold tkZ;rw [if_neg (by omega)]] at c4
 rw [show BS (tkS st)=(BS st.tk.str) by unfold tkS rS;rw [if_neg (by omega),if_pos (by omega)]] at c5
 rw [show tkN st=st.tk.num by unfold tkN;rw [if_neg (by omega)]] at c6
 have hst:=qa6 (h.alloc (.cells #[.int .i64 2,.int .i64 st.place,.int .i64 st.after,.string (BS st.tk.str),.int .i64 st.tk.num] 235)) hs (by omega) (by omega)
 have hfr:=h.fresh (.cells #[.int .i64 2,.int .i64 st.place,.int .i64 st.after,.string (BS st.tk.str),.int .i64 st.tk.num] 235)
 have hpl:=h.fine.step_place (by omega)
 have ST:=j4 hst
 have FR:=j4 hfr
 clear h hst hfr
 go_enter Tryz.func351,Tryz.ntmps351
 go_wp2_with (first|(go_at_call 172;refine (q9 ST).mono ?_;rintro e w1 ⟨rfl,hk1,hr1⟩;obtain ⟨hc,hf,_,hno,hL⟩:=hk1.mine (by simp) (q9 FR);have p1:w1.cell? ⟨w.heap.size,1,none⟩=some (.int .i64 st.place):=(hc 1).trans (by simp);have p3:w1.cell? ⟨w.heap.size,3,none⟩=some (.string (BS st.tk.str)):=(hc 3).trans (by simp);have p4:w1.cell? ⟨w.heap.size,4,none⟩=some (.int .i64 st.tk.num):=(hc 4).trans (by simp);have HK1:=j4 (qf6 hlt hk1);have HR1:=j4 hr1;clear hk1 hr1 hc hf hno)|(go_at_call 216;refine (qu8 (q9 HR1) hs ⟨0,st.place,0,st.tk.str,[],[]⟩ rfl rfl rfl rfl).mono ?_;rintro e w2 ⟨rfl,hk2,hr2⟩;have HK2:=j4 hk2;have HR2:=j4 hr2;clear hk2 hr2))
 go_ret
 exact ⟨(q9 HK1).trans (q9 HK2),_,rfl,q9 HR2,ho,by omega,Flat.leaf _ _⟩
theorem rsigned_3 (rb:Nat) (s:ByteArray) (hs:s.size≤200) (op m:Nat) (w:World) (st:St) (ns:List RN) (j:Nat) (h:RT w rb s ns j st) (ho:st.op=op) (hk:st.tk.kind=3) :
  Calls Tryz.prog 351 #[.pointer (some ⟨rb,0,none⟩)] w (REnds rb s w op m ns j st.place (.ok (qw7 1 st st.tk.num []) (j3 s st))):=by
 obtain ⟨c2,c3,c4,c5,c6⟩:=h.ct
 have c8:=h.c8
 have hlt:=h.lt
 have n0:¬w.heap.size=rb:=by omega
 have n1:¬rb=w.heap.size:=by omega
 rw [show rK st.tk.kind=3 by rw [hk];rfl] at c2
 rw [show tkZ st=(st.after:Int) by unfold tkZ;rw [if_neg (by omega)]] at c4
 rw [show BS (tkS st)=⟨#[]⟩ by unfold tkS rS;rw [if_neg (by omega),if_neg (by omega),hk];rfl] at c5
 rw [show tkN st=st.tk.num by unfold tkN;rw [if_neg (by omega)]] at c6
 have hst:=qa6 (h.alloc (.cells #[.int .i64 3,.int .i64 st.place,.int .i64 st.after,.string ⟨#[]⟩,.int .i64 st.tk.num] 235)) hs (by omega) (by omega)
 have hfr:=h.fresh (.cells #[.int .i64 3,.int .i64 st.place,.int .i64 st.after,.string ⟨#[]⟩,.int .i64 st.tk.num] 235)
 have hpl:=h.fine.step_place (by omega)
 have ST:=j4 hst
 have FR:=j4 hfr
 clear h hst hfr
 go_enter Tryz.func351,Tryz.ntmps351
 go_wp2_with (first|(go_at_call 172;refine (q9 ST).mono ?_;rintro e w1 ⟨rfl,hk1,hr1⟩;obtain ⟨hc,hf,_,hno,hL⟩:=hk1.mine (by simp) (q9 FR);have p1:w1.cell? ⟨w.heap.size,1,none⟩=some (.int .i64 st.place):=(hc 1).trans (by simp);have p3:w1.cell? ⟨w.heap.size,3,none⟩=some (.string ⟨#[]⟩):=(hc 3).trans (by simp);have p4:w1.cell? ⟨w.heap.size,4,none⟩=some (.int .i64 st.tk.num):=(hc 4).trans (by simp);have HK1:=j4 (qf6 hlt hk1);have HR1:=j4 hr1;clear hk1 hr1 hc hf hno)|(go_at_call 216;refine (qu8 (q9 HR1) hs ⟨1,st.place,st.tk.num,[],[],[]⟩ rfl rfl rfl rfl).mono ?_;rintro e w2 ⟨rfl,hk2,hr2⟩;have HK2:=j4 hk2;have HR2:=j4 hr2;clear hk2 hr2))
 go_ret
 exact ⟨(q9 HK1).trans (q9 HK2),_,rfl,q9 HR2,ho,by omega,Flat.leaf _ _⟩
theorem rsigned_4 (rb:Nat) (s:ByteArray) (hs:s.size≤200) (op m:Nat) (w:World) (st:St) (ns:List RN) (j:Nat) (h:RT w rb s ns j st) (ho:st.op=op) (hk:st.tk.kind=4) :
  Calls Tryz.prog 351 #[.pointer (some ⟨rb,0,none⟩)] w (REnds rb s w op m ns j st.place (.ok (qw7 2 st 0 st.tk.str) (j3 s st))):=by
 obtain ⟨c2,c3,c4,c5,c6⟩:=h.ct
 have c8:=h.c8
 have hlt:=h.lt
 have n0:¬w.heap.size=rb:=by omega
 have n1:¬rb=w.heap.size:=by omega
 rw [show rK st.tk.kind=4 by rw [hk];rfl] at c2
 rw [show tkZ st=(st.after:Int) by unfold tkZ;rw [if_neg (by omega)]] at c4
 rw [show BS (tkS st)=(BS st.tk.str) by unfold tkS rS;rw [if_neg (by omega),if_pos (by omega)]] at c5
 rw [show tkN st=st.tk.num by unfold tkN;rw [if_neg (by omega)]] at c6
 have hst:=qa6 (h.alloc (.cells #[.int .i64 4,.int .i64 st.place,.int .i64 st.after,.string (BS st.tk.str),.int .i64 st.tk.num] 235)) hs (by omega) (by omega)
 have hfr:=h.fresh (.cells #[.int .i64 4,.int .i64 st.place,.int .i64 st.after,.string (BS st.tk.str),.int .i64 st.tk.num] 235)
 have hpl:=h.fine.step_place (by omega)
 have ST:=j4 hst
 have FR:=j4 hfr
 clear h hst hfr
 go_enter Tryz.func351,Tryz.ntmps351
 go_wp2_with (first|(go_at_call 172;refine (q9 ST).mono ?_;rintro e w1 ⟨rfl,hk1,hr1⟩;obtain ⟨hc,hf,_,hno,hL⟩:=hk1.mine (by simp) (q9 FR);have p1:w1.cell? ⟨w.heap.size,1,none⟩=some (.int .i64 st.place):=(hc 1).trans (by simp);have p3:w1.cell? ⟨w.heap.size,3,none⟩=some (.string (BS st.tk.str)):=(hc 3).trans (by simp);have p4:w1.cell? ⟨w.heap.size,4,none⟩=some (.int .i64 st.tk.num):=(hc 4).trans (by simp);have HK1:=j4 (qf6 hlt hk1);have HR1:=j4 hr1;clear hk1 hr1 hc hf hno)|(go_at_call 216;refine (qu8 (q9 HR1) hs ⟨2,st.place,0,st.tk.str,[],[]⟩ rfl rfl rfl rfl).mono ?_;rintro e w2 ⟨rfl,hk2,hr2⟩;have HK2:=j4 hk2;have HR2:=j4 hr2;clear hk2 hr2))
 go_ret
 exact ⟨(q9 HK1).trans (q9 HK2),_,rfl,q9 HR2,ho,by omega,Flat.leaf _ _⟩
theorem rsigned_8 (rb:Nat) (s:ByteArray) (hs:s.size≤200) (op m:Nat) (w:World) (st:St) (ns:List RN) (j:Nat) (h:RT w rb s ns j st) (ho:st.op=op) (hk:st.tk.kind=8) :
  Calls Tryz.prog 351 #[.pointer (some ⟨rb,0,none⟩)] w (REnds rb s w op m ns j st.place (.ok (qw7 3 st 0 []) (j3 s st))):=by
 obtain ⟨c2,c3,c4,c5,c6⟩:=h.ct
 have c8:=h.c8
 have hlt:=h.lt
 have n0:¬w.heap.size=rb:=by omega
 have n1:¬rb=w.heap.size:=by omega
 rw [show rK st.tk.kind=6 by rw [hk];rfl] at c2
 rw [show tkZ st=(st.after:Int) by unfold tkZ;rw [if_neg (by omega)]] at c4
 rw [show BS (tkS st)=⟨#[84,82,85,69]⟩ by unfold tkS rS;rw [if_neg (by omega),if_neg (by omega),hk];rfl] at c5
 rw [show tkN st=st.tk.num by unfold tkN;rw [if_neg (by omega)]] at c6
 have hst:=qa6 (h.alloc (.cells #[.int .i64 6,.int .i64 st.place,.int .i64 st.after,.string ⟨#[84,82,85,69]⟩,.int .i64 st.tk.num] 235)) hs (by omega) (by omega)
 have hfr:=h.fresh (.cells #[.int .i64 6,.int .i64 st.place,.int .i64 st.after,.string ⟨#[84,82,85,69]⟩,.int .i64 st.tk.num] 235)
 have hpl:=h.fine.step_place (by omega)
 have ST:=j4 hst
 have FR:=j4 hfr
 clear h hst hfr
 go_enter Tryz.func351,Tryz.ntmps351
 go_wp2_with (first|(go_at_call 172;refine (q9 ST).mono ?_;rintro e w1 ⟨rfl,hk1,hr1⟩;obtain ⟨hc,hf,_,hno,hL⟩:=hk1.mine (by simp) (q9 FR);have p1:w1.cell? ⟨w.heap.size,1,none⟩=some (.int .i64 st.place):=(hc 1).trans (by simp);have p3:w1.cell? ⟨w.heap.size,3,none⟩=some (.string ⟨#[84,82,85,69]⟩):=(hc 3).trans (by simp);have p4:w1.cell? ⟨w.heap.size,4,none⟩=some (.int .i64 st.tk.num):=(hc 4).trans (by simp);have HK1:=j4 (qf6 hlt hk1);have HR1:=j4 hr1;clear hk1 hr1 hc hf hno)|(go_at_call 216;refine (qu8 (q9 HR1) hs ⟨3,st.place,0,[],[],[]⟩ rfl rfl rfl rfl).mono ?_;rintro e w2 ⟨rfl,hk2,hr2⟩;have HK2:=j4 hk2;have HR2:=j4 hr2;clear hk2 hr2))
 go_ret
 exact ⟨(q9 HK1).trans (q9 HK2),_,rfl,q9 HR2,ho,by omega,Flat.leaf _ _⟩
theorem rsigned_9 (rb:Nat) (s:ByteArray) (hs:s.size≤200) (op m:Nat) (w:World) (st:St) (ns:List RN) (j:Nat) (h:RT w rb s ns j st) (ho:st.op=op) (hk:st.tk.kind=9) :
  Calls Tryz.prog 351 #[.pointer (some ⟨rb,0,none⟩)] w (REnds rb s w op m ns j st.place (.ok (qw7 4 st 0 []) (j3 s st))):=by
 obtain ⟨c2,c3,c4,c5,c6⟩:=h.ct
 have c8:=h.c8
 have hlt:=h.lt
 have n0:¬w.heap.size=rb:=by omega
 have n1:¬rb=w.heap.size:=by omega
 rw [show rK st.tk.kind=6 by rw [hk];rfl] at c2
 rw [show tkZ st=(st.after:Int) by unfold tkZ;rw [if_neg (by omega)]] at c4
 rw [show BS (tkS st)=⟨#[70,65,76,83,69]⟩ by unfold tkS rS;rw [if_neg (by omega),if_neg (by omega),hk];rfl] at c5
 rw [show tkN st=st.tk.num by unfold tkN;rw [if_neg (by omega)]] at c6
 have hst:=qa6 (h.alloc (.cells #[.int .i64 6,.int .i64 st.place,.int .i64 st.after,.string ⟨#[70,65,76,83,69]⟩,.int .i64 st.tk.num] 235)) hs (by omega) (by omega)
 have hfr:=h.fresh (.cells #[.int .i64 6,.int .i64 st.place,.int .i64 st.after,.string ⟨#[70,65,76,83,69]⟩,.int .i64 st.tk.num] 235)
 have hpl:=h.fine.step_place (by omega)
 have ST:=j4 hst
 have FR:=j4 hfr
 clear h hst hfr
 go_enter Tryz.func351,Tryz.ntmps351
 go_wp2_with (first|(go_at_call 172;refine (q9 ST).mono ?_;rintro e w1 ⟨rfl,hk1,hr1⟩;obtain ⟨hc,hf,_,hno,hL⟩:=hk1.mine (by simp) (q9 FR);have p1:w1.cell? ⟨w.heap.size,1,none⟩=some (.int .i64 st.place):=(hc 1).trans (by simp);have p3:w1.cell? ⟨w.heap.size,3,none⟩=some (.string ⟨#[70,65,76,83,69]⟩):=(hc 3).trans (by simp);have p4:w1.cell? ⟨w.heap.size,4,none⟩=some (.int .i64 st.tk.num):=(hc 4).trans (by simp);have HK1:=j4 (qf6 hlt hk1);have HR1:=j4 hr1;clear hk1 hr1 hc hf hno)|(go_at_call 216;refine (qu8 (q9 HR1) hs ⟨4,st.place,0,[],[],[]⟩ rfl rfl rfl rfl).mono ?_;rintro e w2 ⟨rfl,hk2,hr2⟩;have HK2:=j4 hk2;have HR2:=j4 hr2;clear hk2 hr2))
 go_ret
 exact ⟨(q9 HK1).trans (q9 HK2),_,rfl,q9 HR2,ho,by omega,Flat.leaf _ _⟩
end
section
theorem qv3 {s:ByteArray} {f:St→Res} {o:Int} {st:St} (h:st.op=12):qd7 s f o st=.err 3 st.place:=by unfold qd7;rw [if_pos h]
theorem vb6 {s:ByteArray} {f:St→Res} {o:Int} {st:St} (h:st.op<12) {x:Ast} {st':St} (hf:f (qk8 s st)=.ok x st'):qd7 s f o st=.ok (.un ⟨o,st.place,0,[],[],[]⟩ x) { st' with op:=st.op }:=by unfold qd7;rw [if_neg (by omega),hf]
theorem qx7 {s:ByteArray} {f:St→Res} {o:Int} {st:St} (h:st.op<12) {en pl:Int} (hf:f (qk8 s st)=.err en pl):qd7 s f o st=.err en pl:=by unfold qd7;rw [if_neg (by omega),hf]
theorem vm5 {s:ByteArray} {f:St→Res} {st:St} (h:st.op=12):qd5 s f st=.err 3 st.place:=by unfold qd5;rw [if_pos h]
theorem vz9 {s:ByteArray} {f:St→Res} {st:St} (h:st.op<12) {x:Ast} {st':St} (hf:f (qk8 s st)=.ok x st') (hk:st'.tk.kind=27):qd5 s f st=.ok x { j3 s st' with op:=st.op }:=by unfold qd5;rw [if_neg (by omega),hf];simp only [if_pos hk]
theorem vz8 {s:ByteArray} {f:St→Res} {st:St} (h:st.op<12) {x:Ast} {st':St} (hf:f (qk8 s st)=.ok x st') (hk:¬st'.tk.kind=27):qd5 s f st=.err 2 st'.place:=by unfold qd5;rw [if_neg (by omega),hf];simp only [if_neg hk]
theorem vs6 {s:ByteArray} {f:St→Res} {st:St} (h:st.op<12) {en pl:Int} (hf:f (qk8 s st)=.err en pl):qd5 s f st=.err en pl:=by unfold qd5;rw [if_neg (by omega),hf]
theorem jk6 (rb:Nat) (s:ByteArray) (hs:s.size≤200) (op m:Nat) (hm:200≤m) (hm':m≤900) (hop:op≤12) (fS:St→Res) (hS:op<12→RReads 351 rb s (op+1) m fS) (eS:qn9 351 rb s) (w:World) (st:St) (ns:List RN) (j:Nat) (h:RT w rb s ns j st) (ho:st.op=op) (hk:st.tk.kind=22) :
  Calls Tryz.prog 351 #[.pointer (some ⟨rb,0,none⟩)] w (REnds rb s w op (m+1) ns j st.place (qd7 s fS 14 st)):=by
 obtain ⟨c2,c3,c4,c5,c6⟩:=h.ct
 have c8:=h.c8
 have hlt:=h.lt
 have n0:¬w.heap.size=rb:=by omega
 have n1:¬rb=w.heap.size:=by omega
 rw [show rK st.tk.kind=5 by rw [hk];rfl] at c2
 rw [show tkZ st=(st.after:Int) by unfold tkZ;rw [if_neg (by omega)]] at c4
 rw [show BS (tkS st)=⟨#[43]⟩ by unfold tkS rS;rw [if_neg (by omega),if_neg (by omega),hk];rfl] at c5
 rw [show tkN st=st.tk.num by unfold tkN;rw [if_neg (by omega)]] at c6
 have hfr:=h.fresh (.cells #[.int .i64 5,.int .i64 st.place,.int .i64 st.after,.string ⟨#[43]⟩,.int .i64 st.tk.num] 235)
 have h':=h.alloc (.cells #[.int .i64 5,.int .i64 st.place,.int .i64 st.after,.string ⟨#[43]⟩,.int .i64 st.tk.num] 235)
 have hpl:=h.fine.step_place (by omega)
 have FR:=j4 hfr
 have H':=j4 h'
 have HS:=j4 hS
 have ES:=j4 eS
 clear h hfr h' hS eS
 by_cases h12:st.op=12
 ·rw [qv3 h12]
  go_enter Tryz.func351,Tryz.ntmps351
  go_wp2_with (first|(go_at_call 295;refine (qz3 (q9 H') hs (by omega)).mono ?_;rintro e w1 ⟨rfl,hk1,hr1⟩;obtain ⟨hc,hf,_,hno,hL⟩:=hk1.mine (by simp) (q9 FR);have p1:w1.cell? ⟨w.heap.size,1,none⟩=some (.int .i64 st.place):=(hc 1).trans (by simp);have p3:w1.cell? ⟨w.heap.size,3,none⟩=some (.string ⟨#[43]⟩):=(hc 3).trans (by simp);have HO1:=j4 hno;have HK1:=j4 (qf6 hlt hk1);have HR1:=j4 hr1;clear hk1 hr1 hc hf hno)|(go_at_call 351;refine (q9 ES _ _ _ _ _ (q9 HR1)).mono ?_;rintro e w2 ⟨i,rfl,hk2,hr2⟩;obtain ⟨hc,hf,_,hno,hL2⟩:=hk2.mine hL (q9 HO1);have q1:w2.cell? ⟨w.heap.size,1,none⟩=some (.int .i64 st.place):=(hc 1).trans p1;have q3:w2.cell? ⟨w.heap.size,3,none⟩=some (.string ⟨#[43]⟩):=(hc 3).trans p3;have hlt2:=hr2.lt;obtain ⟨d7,dz⟩:=hr2.c7;have HK2:=j4 hk2;have HR2:=j4 hr2;clear hk2 hr2 hc hf hno)|(go_at_call 216;refine (qr9 (((q9 HR2).setOp 12 12 rfl).1) (by omega) [112] st.place i rfl (by simp)).mono ?_;rintro e w3 ⟨i3,rfl,hk3,hr3⟩;have HK3:=j4 hk3;have HR3:=j4 hr3;clear hk3 hr3))
  go_ret
  refine ⟨((q9 HK1).trans (q9 HK2)).trans (((q9 HR2).setOp 12 12 rfl).2.trans (q9 HK3)),_,rfl, ?_⟩
  rw [←ho,h12]
  exact (q9 HR3).more (by omega)
 have hlt12:st.op<12:=by omega
 cases hf:fS (qk8 s st) with
 | ok x st'=>
  rw [vb6 hlt12 hf]
  have HF:=j4 hf
  clear hf
  go_enter Tryz.func351,Tryz.ntmps351
  go_wp2_with (first|(go_at_call 295;refine (qm6 (q9 H') hs (by omega) (by omega) (by omega)).mono ?_;rintro e w1 ⟨rfl,hk1,hr1⟩;obtain ⟨hc,hf,_,hno,hL⟩:=hk1.mine (by simp) (q9 FR);have p1:w1.cell? ⟨w.heap.size,1,none⟩=some (.int .i64 st.place):=(hc 1).trans (by simp);have p3:w1.cell? ⟨w.heap.size,3,none⟩=some (.string ⟨#[43]⟩):=(hc 3).trans (by simp);have HO1:=j4 hno;have HK1:=j4 (qf6 hlt hk1);have HR1:=j4 hr1;clear hk1 hr1 hc hf hno)|(go_at_call 351;refine (q9 HS (by omega) _ (qk8 s st) ns (j+1) (q9 HR1) (by show st.op+1=op+1;omega)).mono ?_;rintro e w2 ⟨hk2,h2⟩;rw [q9 HF] at h2;obtain ⟨new,rfl,hr2,ho2,hp2,hfl⟩:=h2;obtain ⟨hc,hf,_,hno,hL2⟩:=hk2.mine hL (q9 HO1);have q1:w2.cell? ⟨w.heap.size,1,none⟩=some (.int .i64 st.place):=(hc 1).trans p1;have q3:w2.cell? ⟨w.heap.size,3,none⟩=some (.string ⟨#[43]⟩):=(hc 3).trans p3;have hlt2:=hr2.lt;obtain ⟨d7,dz⟩:=hr2.c7;have HK2:=j4 hk2;have HR2:=j4 hr2;clear hk2 hr2 hc hf hno;rw [ho2] at d7;have HFL:=j4 hfl;clear hfl)|(go_at_call 216;refine (jb2 (((q9 HR2).setOp op _ (by omega)).1) hs ⟨14,st.place,0,[],[],[]⟩ (ns.length+new.length - 1) rfl rfl rfl rfl (by simp)).mono ?_;rintro e w3 ⟨rfl,hk3,hr3⟩;have HK3:=j4 hk3;have HR3:=j4 hr3;clear hk3 hr3))
  go_ret
  refine ⟨((q9 HK1).trans (q9 HK2)).trans (((q9 HR2).setOp op _ (by omega)).2.trans (q9 HK3)),_,qg5 (by simp), ?_,ho, ?_,Flat.un _ (q9 HFL)⟩
  ·have:=q9 HR3
   rw [List.append_assoc] at this
   rw [ho]
   exact this
  ·have:(qk8 s st).place≤st'.place:=hp2
   have e:(qk8 s st).place=(j3 s st).place:=rfl
   show st.place≤st'.place
   omega
 | err en pl=>
  rw [qx7 hlt12 hf]
  have HF:=j4 hf
  clear hf
  go_enter Tryz.func351,Tryz.ntmps351
  go_wp2_with (first|(go_at_call 295;refine (qm6 (q9 H') hs (by omega) (by omega) (by omega)).mono ?_;rintro e w1 ⟨rfl,hk1,hr1⟩;obtain ⟨hc,hf,_,hno,hL⟩:=hk1.mine (by simp) (q9 FR);have p1:w1.cell? ⟨w.heap.size,1,none⟩=some (.int .i64 st.place):=(hc 1).trans (by simp);have p3:w1.cell? ⟨w.heap.size,3,none⟩=some (.string ⟨#[43]⟩):=(hc 3).trans (by simp);have HO1:=j4 hno;have HK1:=j4 (qf6 hlt hk1);have HR1:=j4 hr1;clear hk1 hr1 hc hf hno)|(go_at_call 351;refine (q9 HS (by omega) _ (qk8 s st) ns (j+1) (q9 HR1) (by show st.op+1=op+1;omega)).mono ?_;rintro e w2 ⟨hk2,h2⟩;rw [q9 HF] at h2;obtain ⟨i,rfl,hr2⟩:=h2;obtain ⟨hc,hf,_,hno,hL2⟩:=hk2.mine hL (q9 HO1);have q1:w2.cell? ⟨w.heap.size,1,none⟩=some (.int .i64 st.place):=(hc 1).trans p1;have q3:w2.cell? ⟨w.heap.size,3,none⟩=some (.string ⟨#[43]⟩):=(hc 3).trans p3;have hlt2:=hr2.lt;obtain ⟨d7,dz⟩:=hr2.c7;have HK2:=j4 hk2;have HR2:=j4 hr2;clear hk2 hr2 hc hf hno)|(go_at_call 216;refine (qr9 (((q9 HR2).setOp op _ (by omega)).1) (by omega) [112] st.place i rfl (by simp)).mono ?_;rintro e w3 ⟨i3,rfl,hk3,hr3⟩;have HK3:=j4 hk3;have HR3:=j4 hr3;clear hk3 hr3))
  go_ret
  exact ⟨((q9 HK1).trans (q9 HK2)).trans (((q9 HR2).setOp op _ (by omega)).2.trans (q9 HK3)),_,rfl,q9 HR3⟩
theorem jk7 (rb:Nat) (s:ByteArray) (hs:s.size≤200) (op m:Nat) (hm:200≤m) (hm':m≤900) (hop:op≤12) (fS:St→Res) (hS:op<12→RReads 351 rb s (op+1) m fS) (eS:qn9 351 rb s) (w:World) (st:St) (ns:List RN) (j:Nat) (h:RT w rb s ns j st) (ho:st.op=op) (hk:st.tk.kind=23) :
  Calls Tryz.prog 351 #[.pointer (some ⟨rb,0,none⟩)] w (REnds rb s w op (m+1) ns j st.place (qd7 s fS 15 st)):=by
 obtain ⟨c2,c3,c4,c5,c6⟩:=h.ct
 have c8:=h.c8
 have hlt:=h.lt
 have n0:¬w.heap.size=rb:=by omega
 have n1:¬rb=w.heap.size:=by omega
 rw [show rK st.tk.kind=5 by rw [hk];rfl] at c2
 rw [show tkZ st=(st.after:Int) by unfold tkZ;rw [if_neg (by omega)]] at c4
 rw [show BS (tkS st)=⟨#[45]⟩ by unfold tkS rS;rw [if_neg (by omega),if_neg (by omega),hk];rfl] at c5
 rw [show tkN st=st.tk.num by unfold tkN;rw [if_neg (by omega)]] at c6
 have hfr:=h.fresh (.cells #[.int .i64 5,.int .i64 st.place,.int .i64 st.after,.string ⟨#[45]⟩,.int .i64 st.tk.num] 235)
 have h':=h.alloc (.cells #[.int .i64 5,.int .i64 st.place,.int .i64 st.after,.string ⟨#[45]⟩,.int .i64 st.tk.num] 235)
 have hpl:=h.fine.step_place (by omega)
 have FR:=j4 hfr
 have H':=j4 h'
 have HS:=j4 hS
 have ES:=j4 eS
 clear h hfr h' hS eS
 by_cases h12:st.op=12
 ·rw [qv3 h12]
  go_enter Tryz.func351,Tryz.ntmps351
  go_wp2_with (first|(go_at_call 295;refine (qz3 (q9 H') hs (by omega)).mono ?_;rintro e w1 ⟨rfl,hk1,hr1⟩;obtain ⟨hc,hf,_,hno,hL⟩:=hk1.mine (by simp) (q9 FR);have p1:w1.cell? ⟨w.heap.size,1,none⟩=some (.int .i64 st.place):=(hc 1).trans (by simp);have p3:w1.cell? ⟨w.heap.size,3,none⟩=some (.string ⟨#[45]⟩):=(hc 3).trans (by simp);have HO1:=j4 hno;have HK1:=j4 (qf6 hlt hk1);have HR1:=j4 hr1;clear hk1 hr1 hc hf hno)|(go_at_call 351;refine (q9 ES _ _ _ _ _ (q9 HR1)).mono ?_;rintro e w2 ⟨i,rfl,hk2,hr2⟩;obtain ⟨hc,hf,_,hno,hL2⟩:=hk2.mine hL (q9 HO1);have q1:w2.cell? ⟨w.heap.size,1,none⟩=some (.int .i64 st.place):=(hc 1).trans p1;have q3:w2.cell? ⟨w.heap.size,3,none⟩=some (.string ⟨#[45]⟩):=(hc 3).trans p3;have hlt2:=hr2.lt;obtain ⟨d7,dz⟩:=hr2.c7;have HK2:=j4 hk2;have HR2:=j4 hr2;clear hk2 hr2 hc hf hno)|(go_at_call 216;refine (qr9 (((q9 HR2).setOp 12 12 rfl).1) (by omega) [110] st.place i rfl (by simp)).mono ?_;rintro e w3 ⟨i3,rfl,hk3,hr3⟩;have HK3:=j4 hk3;have HR3:=j4 hr3;clear hk3 hr3))
  go_ret
  refine ⟨((q9 HK1).trans (q9 HK2)).trans (((q9 HR2).setOp 12 12 rfl).2.trans (q9 HK3)),_,rfl, ?_⟩
  rw [←ho,h12]
  exact (q9 HR3).more (by omega)
 have hlt12:st.op<12:=by omega
 cases hf:fS (qk8 s st) with
 | ok x st'=>
  rw [vb6 hlt12 hf]
  have HF:=j4 hf
  clear hf
  go_enter Tryz.func351,Tryz.ntmps351
  go_wp2_with (first|(go_at_call 295;refine (qm6 (q9 H') hs (by omega) (by omega) (by omega)).mono ?_;rintro e w1 ⟨rfl,hk1,hr1⟩;obtain ⟨hc,hf,_,hno,hL⟩:=hk1.mine (by simp) (q9 FR);have p1:w1.cell? ⟨w.heap.size,1,none⟩=some (.int .i64 st.place):=(hc 1).trans (by simp);have p3:w1.cell? ⟨w.heap.size,3,none⟩=some (.string ⟨#[45]⟩):=(hc 3).trans (by simp);have HO1:=j4 hno;have HK1:=j4 (qf6 hlt hk1);have HR1:=j4 hr1;clear hk1 hr1 hc hf hno)|(go_at_call 351;refine (q9 HS (by omega) _ (qk8 s st) ns (j+1) (q9 HR1) (by show st.op+1=op+1;omega)).mono ?_;rintro e w2 ⟨hk2,h2⟩;rw [q9 HF] at h2;obtain ⟨new,rfl,hr2,ho2,hp2,hfl⟩:=h2;obtain ⟨hc,hf,_,hno,hL2⟩:=hk2.mine hL (q9 HO1);have q1:w2.cell? ⟨w.heap.size,1,none⟩=some (.int .i64 st.place):=(hc 1).trans p1;have q3:w2.cell? ⟨w.heap.size,3,none⟩=some (.string ⟨#[45]⟩):=(hc 3).trans p3;have hlt2:=hr2.lt;obtain ⟨d7,dz⟩:=hr2.c7;have HK2:=j4 hk2;have HR2:=j4 hr2;clear hk2 hr2 hc hf hno;rw [ho2] at d7;have HFL:=j4 hfl;clear hfl)|(go_at_call 216;refine (jb2 (((q9 HR2).setOp op _ (by omega)).1) hs ⟨15,st.place,0,[],[],[]⟩ (ns.length+new.length - 1) rfl rfl rfl rfl (by simp)).mono ?_;rintro e w3 ⟨rfl,hk3,hr3⟩;have HK3:=j4 hk3;have HR3:=j4 hr3;clear hk3 hr3))
  go_ret
  refine ⟨((q9 HK1).trans (q9 HK2)).trans (((q9 HR2).setOp op _ (by omega)).2.trans (q9 HK3)),_,qg5 (by simp), ?_,ho, ?_,Flat.un _ (q9 HFL)⟩
  ·have:=q9 HR3
   rw [List.append_assoc] at this
   rw [ho]
   exact this
  ·have:(qk8 s st).place≤st'.place:=hp2
   have e:(qk8 s st).place=(j3 s st).place:=rfl
   show st.place≤st'.place
   omega
 | err en pl=>
  rw [qx7 hlt12 hf]
  have HF:=j4 hf
  clear hf
  go_enter Tryz.func351,Tryz.ntmps351
  go_wp2_with (first|(go_at_call 295;refine (qm6 (q9 H') hs (by omega) (by omega) (by omega)).mono ?_;rintro e w1 ⟨rfl,hk1,hr1⟩;obtain ⟨hc,hf,_,hno,hL⟩:=hk1.mine (by simp) (q9 FR);have p1:w1.cell? ⟨w.heap.size,1,none⟩=some (.int .i64 st.place):=(hc 1).trans (by simp);have p3:w1.cell? ⟨w.heap.size,3,none⟩=some (.string ⟨#[45]⟩):=(hc 3).trans (by simp);have HO1:=j4 hno;have HK1:=j4 (qf6 hlt hk1);have HR1:=j4 hr1;clear hk1 hr1 hc hf hno)|(go_at_call 351;refine (q9 HS (by omega) _ (qk8 s st) ns (j+1) (q9 HR1) (by show st.op+1=op+1;omega)).mono ?_;rintro e w2 ⟨hk2,h2⟩;rw [q9 HF] at h2;obtain ⟨i,rfl,hr2⟩:=h2;obtain ⟨hc,hf,_,hno,hL2⟩:=hk2.mine hL (q9 HO1);have q1:w2.cell? ⟨w.heap.size,1,none⟩=some (.int .i64 st.place):=(hc 1).trans p1;have q3:w2.cell? ⟨w.heap.size,3,none⟩=some (.string ⟨#[45]⟩):=(hc 3).trans p3;have hlt2:=hr2.lt;obtain ⟨d7,dz⟩:=hr2.c7;have HK2:=j4 hk2;have HR2:=j4 hr2;clear hk2 hr2 hc hf hno)|(go_at_call 216;refine (qr9 (((q9 HR2).setOp op _ (by omega)).1) (by omega) [110] st.place i rfl (by simp)).mono ?_;rintro e w3 ⟨i3,rfl,hk3,hr3⟩;have HK3:=j4 hk3;have HR3:=j4 hr3;clear hk3 hr3))
  go_ret
  exact ⟨((q9 HK1).trans (q9 HK2)).trans (((q9 HR2).setOp op _ (by omega)).2.trans (q9 HK3)),_,rfl,q9 HR3⟩
end
end Go.Proofs.YtfkcaldjphakpaaGreatDoor
