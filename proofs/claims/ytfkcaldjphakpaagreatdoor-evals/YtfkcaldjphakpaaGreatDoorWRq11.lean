/- The document's answer: signed: a sign ahead of a term. -/
import Derived.Test.YtfkcaldjphakpaaGreatDoorWRq10
set_option maxHeartbeats 4000000
set_option maxRecDepth 100000
namespace Go.Proofs.YtfkcaldjphakpaaGreatDoor
open Go.RowKit
theorem qt5 {s:ByteArray} {f:St→Res} {o:Int} {st:St} (h:st.op=12):qd4 s f o st=.err 3 st.place:=by unfold qd4;rw [if_pos h]
theorem qz1 {s:ByteArray} {f:St→Res} {o:Int} {st:St} (h:st.op<12) {x:Ast} {st':St} (hf:f (qj8 s st)=.ok x st'):qd4 s f o st=.ok (.un ⟨o,st.place,0,[],[],[]⟩ x) { st' with op:=st.op }:=by unfold qd4;rw [if_neg (by omega),hf]
theorem qv3 {s:ByteArray} {f:St→Res} {o:Int} {st:St} (h:st.op<12) {en pl:Int} (hf:f (qj8 s st)=.err en pl):qd4 s f o st=.err en pl:=by unfold qd4;rw [if_neg (by omega),hf]
theorem vh2 {s:ByteArray} {f:St→Res} {st:St} (h:st.op=12):qd2 s f st=.err 3 st.place:=by unfold qd2;rw [if_pos h]
theorem vv3 {s:ByteArray} {f:St→Res} {st:St} (h:st.op<12) {x:Ast} {st':St} (hf:f (qj8 s st)=.ok x st') (hk:st'.tk.kind=27):qd2 s f st=.ok x { v6 s st' with op:=st.op }:=by unfold qd2;rw [if_neg (by omega),hf];simp only [if_pos hk]
theorem vv2 {s:ByteArray} {f:St→Res} {st:St} (h:st.op<12) {x:Ast} {st':St} (hf:f (qj8 s st)=.ok x st') (hk:¬st'.tk.kind=27):qd2 s f st=.err 2 st'.place:=by unfold qd2;rw [if_neg (by omega),hf];simp only [if_neg hk]
theorem vp0 {s:ByteArray} {f:St→Res} {st:St} (h:st.op<12) {en pl:Int} (hf:f (qj8 s st)=.err en pl):qd2 s f st=.err en pl:=by unfold qd2;rw [if_neg (by omega),hf]
theorem jf7 (rb:Nat) (s:ByteArray) (hs:s.size≤200) (op m:Nat) (hm:200≤m) (hm':m≤900) (hop:op≤12) (fS:St→Res) (hS:op<12→RReads 351 rb s (op+1) m fS) (eS:qm1 351 rb s) (w:World) (st:St) (ns:List RN) (j:Nat) (h:RT w rb s ns j st) (ho:st.op=op) (hk:st.tk.kind=22) :
  Calls Tryz.prog 351 #[.pointer (some ⟨rb,0,none⟩)] w (REnds rb s w op (m+1) ns j st.place (qd4 s fS 14 st)):=by
 obtain ⟨c2,c3,c4,c5,c6⟩:=h.ct
 have c8:=h.c8
 have hlt:=h.lt
 have n0:¬w.heap.size=rb:=by omega
 have n1:¬rb=w.heap.size:=by omega
 rw [show rK st.tk.kind=5 by rw [hk];rfl] at c2
 rw [show tkZ st=(st.after:Int) by unfold tkZ;rw [if_neg (by omega)]] at c4
 rw [show BS (tkS st)=⟨#[43]⟩ by unfold tkS rS;rw [if_neg (by omega),if_neg (by omega),hk];rfl] at c5
 rw [show tkN st=st.tk.num by unfold tkN;rw [if_neg (by omega)]] at c6
 have hfr:=h.fresh (.cells #[.int .i64 5,.int .i64 st.place,.int .i64 st.after,.string ⟨#[43]⟩,.int .i64 st.tk.num] 235)
 have h':=h.alloc (.cells #[.int .i64 5,.int .i64 st.place,.int .i64 st.after,.string ⟨#[43]⟩,.int .i64 st.tk.num] 235)
 have hpl:=h.fine.step_place (by omega)
 have FR:=v7 hfr
 have H':=v7 h'
 have HS:=v7 hS
 have ES:=v7 eS
 clear h hfr h' hS eS
 by_cases h12:st.op=12
 ·rw [qt5 h12]
  go_enter Tryz.func351,Tryz.ntmps351
  go_wp2_with (first|(go_at_call 295;refine (qw6 (q9 H') hs (by omega)).mono ?_;rintro e w1 ⟨rfl,hk1,hr1⟩;obtain ⟨hc,hf,_,hno,hL⟩:=hk1.mine (by simp) (q9 FR);have p1:w1.cell? ⟨w.heap.size,1,none⟩=some (.int .i64 st.place):=(hc 1).trans (by simp);have p3:w1.cell? ⟨w.heap.size,3,none⟩=some (.string ⟨#[43]⟩):=(hc 3).trans (by simp);have HO1:=v7 hno;have HK1:=v7 (qf0 hlt hk1);have HR1:=v7 hr1;clear hk1 hr1 hc hf hno)|(go_at_call 351;refine (q9 ES _ _ _ _ _ (q9 HR1)).mono ?_;rintro e w2 ⟨i,rfl,hk2,hr2⟩;obtain ⟨hc,hf,_,hno,hL2⟩:=hk2.mine hL (q9 HO1);have q1:w2.cell? ⟨w.heap.size,1,none⟩=some (.int .i64 st.place):=(hc 1).trans p1;have q3:w2.cell? ⟨w.heap.size,3,none⟩=some (.string ⟨#[43]⟩):=(hc 3).trans p3;have hlt2:=hr2.lt;obtain ⟨d7,dz⟩:=hr2.c7;have HK2:=v7 hk2;have HR2:=v7 hr2;clear hk2 hr2 hc hf hno)|(go_at_call 216;refine (qq7 (((q9 HR2).setOp 12 12 rfl).1) (by omega) [112] st.place i rfl (by simp)).mono ?_;rintro e w3 ⟨i3,rfl,hk3,hr3⟩;have HK3:=v7 hk3;have HR3:=v7 hr3;clear hk3 hr3))
  go_ret
  refine ⟨((q9 HK1).trans (q9 HK2)).trans (((q9 HR2).setOp 12 12 rfl).2.trans (q9 HK3)),_,rfl, ?_⟩
  rw [←ho,h12]
  exact (q9 HR3).more (by omega)
 have hlt12:st.op<12:=by omega
 cases hf:fS (qj8 s st) with
 | ok x st'=>
  rw [qz1 hlt12 hf]
  have HF:=v7 hf
  clear hf
  go_enter Tryz.func351,Tryz.ntmps351
  go_wp2_with (first|(go_at_call 295;refine (qk0 (q9 H') hs (by omega) (by omega) (by omega)).mono ?_;rintro e w1 ⟨rfl,hk1,hr1⟩;obtain ⟨hc,hf,_,hno,hL⟩:=hk1.mine (by simp) (q9 FR);have p1:w1.cell? ⟨w.heap.size,1,none⟩=some (.int .i64 st.place):=(hc 1).trans (by simp);have p3:w1.cell? ⟨w.heap.size,3,none⟩=some (.string ⟨#[43]⟩):=(hc 3).trans (by simp);have HO1:=v7 hno;have HK1:=v7 (qf0 hlt hk1);have HR1:=v7 hr1;clear hk1 hr1 hc hf hno)|(go_at_call 351;refine (q9 HS (by omega) _ (qj8 s st) ns (j+1) (q9 HR1) (by show st.op+1=op+1;omega)).mono ?_;rintro e w2 ⟨hk2,h2⟩;rw [q9 HF] at h2;obtain ⟨new,rfl,hr2,ho2,hp2,hfl⟩:=h2;obtain ⟨hc,hf,_,hno,hL2⟩:=hk2.mine hL (q9 HO1);have q1:w2.cell? ⟨w.heap.size,1,none⟩=some (.int .i64 st.place):=(hc 1).trans p1;have q3:w2.cell? ⟨w.heap.size,3,none⟩=some (.string ⟨#[43]⟩):=(hc 3).trans p3;have hlt2:=hr2.lt;obtain ⟨d7,dz⟩:=hr2.c7;have HK2:=v7 hk2;have HR2:=v7 hr2;clear hk2 hr2 hc hf hno;rw [ho2] at d7;have HFL:=v7 hfl;clear hfl)|(go_at_call 216;refine (vw6 (((q9 HR2).setOp op _ (by omega)).1) hs ⟨14,st.place,0,[],[],[]⟩ (ns.length+new.length - 1) rfl rfl rfl rfl (by simp)).mono ?_;rintro e w3 ⟨rfl,hk3,hr3⟩;have HK3:=v7 hk3;have HR3:=v7 hr3;clear hk3 hr3))
  go_ret
  refine ⟨((q9 HK1).trans (q9 HK2)).trans (((q9 HR2).setOp op _ (by omega)).2.trans (q9 HK3)),_,qf7 (by simp), ?_,ho, ?_,Flat.un _ (q9 HFL)⟩
  ·have:=q9 HR3
   rw [List.append_assoc] at this
   rw [ho]
   exact this
  ·have:(qj8 s st).place≤st'.place:=hp2
   have e:(qj8 s st).place=(v6 s st).place:=rfl
   show st.place≤st'.place
   omega
 | err en pl=>
  rw [qv3 hlt12 hf]
  have HF:=v7 hf
  clear hf
  go_enter Tryz.func351,Tryz.ntmps351
  go_wp2_with (first|(go_at_call 295;refine (qk0 (q9 H') hs (by omega) (by omega) (by omega)).mono ?_;rintro e w1 ⟨rfl,hk1,hr1⟩;obtain ⟨hc,hf,_,hno,hL⟩:=hk1.mine (by simp) (q9 FR);have p1:w1.cell? ⟨w.heap.size,1,none⟩=some (.int .i64 st.place):=(hc 1).trans (by simp);have p3:w1.cell? ⟨w.heap.size,3,none⟩=some (.string ⟨#[43]⟩):=(hc 3).trans (by simp);have HO1:=v7 hno;have HK1:=v7 (qf0 hlt hk1);have HR1:=v7 hr1;clear hk1 hr1 hc hf hno)|(go_at_call 351;refine (q9 HS (by omega) _ (qj8 s st) ns (j+1) (q9 HR1) (by show st.op+1=op+1;omega)).mono ?_;rintro e w2 ⟨hk2,h2⟩;rw [q9 HF] at h2;obtain ⟨i,rfl,hr2⟩:=h2;obtain ⟨hc,hf,_,hno,hL2⟩:=hk2.mine hL (q9 HO1);have q1:w2.cell? ⟨w.heap.size,1,none⟩=some (.int .i64 st.place):=(hc 1).trans p1;have q3:w2.cell? ⟨w.heap.size,3,none⟩=some (.string ⟨#[43]⟩):=(hc 3).trans p3;have hlt2:=hr2.lt;obtain ⟨d7,dz⟩:=hr2.c7;have HK2:=v7 hk2;have HR2:=v7 hr2;clear hk2 hr2 hc hf hno)|(go_at_call 216;refine (qq7 (((q9 HR2).setOp op _ (by omega)).1) (by omega) [112] st.place i rfl (by simp)).mono ?_;rintro e w3 ⟨i3,rfl,hk3,hr3⟩;have HK3:=v7 hk3;have HR3:=v7 hr3;clear hk3 hr3))
  go_ret
  exact ⟨((q9 HK1).trans (q9 HK2)).trans (((q9 HR2).setOp op _ (by omega)).2.trans (q9 HK3)),_,rfl,q9 HR3⟩
theorem jf8 (rb:Nat) (s:ByteArray) (hs:s.size≤200) (op m:Nat) (hm:200≤m) (hm':m≤900) (hop:op≤12) (fS:St→Res) (hS:op<12→RReads 351 rb s (op+1) m fS) (eS:qm1 351 rb s) (w:World) (st:St) (ns:List RN) (j:Nat) (h:RT w rb s ns j st) (ho:st.op=op) (hk:st.tk.kind=23) :
  Calls Tryz.prog 351 #[.pointer (some ⟨rb,0,none⟩)] w (REnds rb s w op (m+1) ns j st.place (qd4 s fS 15 st)):=by
 obtain ⟨c2,c3,c4,c5,c6⟩:=h.ct
 have c8:=h.c8
 have hlt:=h.lt
 have n0:¬w.heap.size=rb:=by omega
 have n1:¬rb=w.heap.size:=by omega
 rw [show rK st.tk.kind=5 by rw [hk];rfl] at c2
 rw [show tkZ st=(st.after:Int) by unfold tkZ;rw [if_neg (by omega)]] at c4
 rw [show BS (tkS st)=⟨#[45]⟩ by unfold tkS rS;rw [if_neg (by omega),if_neg (by omega),hk];rfl] at c5
 rw [show tkN st=st.tk.num by unfold tkN;rw [if_neg (by omega)]] at c6
 have hfr:=h.fresh (.cells #[.int .i64 5,.int .i64 st.place,.int .i64 st.after,.string ⟨#[45]⟩,.int .i64 st.tk.num] 235)
 have h':=h.alloc (.cells #[.int .i64 5,.int .i64 st.place,.int .i64 st.after,.string ⟨#[45]⟩,.int .i64 st.tk.num] 235)
 have hpl:=h.fine.step_place (by omega)
 have FR:=v7 hfr
 have H':=v7 h'
 have HS:=v7 hS
 have ES:=v7 eS
 clear h hfr h' hS eS
 by_cases h12:st.op=12
 ·rw [qt5 h12]
  go_enter Tryz.func351,Tryz.ntmps351
  go_wp2_with (first|(go_at_call 295;refine (qw6 (q9 H') hs (by omega)).mono ?_;rintro e w1 ⟨rfl,hk1,hr1⟩;obtain ⟨hc,hf,_,hno,hL⟩:=hk1.mine (by simp) (q9 FR);have p1:w1.cell? ⟨w.heap.size,1,none⟩=some (.int .i64 st.place):=(hc 1).trans (by simp);have p3:w1.cell? ⟨w.heap.size,3,none⟩=some (.string ⟨#[45]⟩):=(hc 3).trans (by simp);have HO1:=v7 hno;have HK1:=v7 (qf0 hlt hk1);have HR1:=v7 hr1;clear hk1 hr1 hc hf hno)|(go_at_call 351;refine (q9 ES _ _ _ _ _ (q9 HR1)).mono ?_;rintro e w2 ⟨i,rfl,hk2,hr2⟩;obtain ⟨hc,hf,_,hno,hL2⟩:=hk2.mine hL (q9 HO1);have q1:w2.cell? ⟨w.heap.size,1,none⟩=some (.int .i64 st.place):=(hc 1).trans p1;have q3:w2.cell? ⟨w.heap.size,3,none⟩=some (.string ⟨#[45]⟩):=(hc 3).trans p3;have hlt2:=hr2.lt;obtain ⟨d7,dz⟩:=hr2.c7;have HK2:=v7 hk2;have HR2:=v7 hr2;clear hk2 hr2 hc hf hno)|(go_at_call 216;refine (qq7 (((q9 HR2).setOp 12 12 rfl).1) (by omega) [110] st.place i rfl (by simp)).mono ?_;rintro e w3 ⟨i3,rfl,hk3,hr3⟩;have HK3:=v7 hk3;have HR3:=v7 hr3;clear hk3 hr3))
  go_ret
  refine ⟨((q9 HK1).trans (q9 HK2)).trans (((q9 HR2).setOp 12 12 rfl).2.trans (q9 HK3)),_,rfl, ?_⟩
  rw [←ho,h12]
  exact (q9 HR3).more (by omega)
 have hlt12:st.op<12:=by omega
 cases hf:fS (qj8 s st) with
 | ok x st'=>
  rw [qz1 hlt12 hf]
  have HF:=v7 hf
  clear hf
  go_enter Tryz.func351,Tryz.ntmps351
  go_wp2_with (first|(go_at_call 295;refine (qk0 (q9 H') hs (by omega) (by omega) (by omega)).mono ?_;rintro e w1 ⟨rfl,hk1,hr1⟩;obtain ⟨hc,hf,_,hno,hL⟩:=hk1.mine (by simp) (q9 FR);have p1:w1.cell? ⟨w.heap.size,1,none⟩=some (.int .i64 st.place):=(hc 1).trans (by simp);have p3:w1.cell? ⟨w.heap.size,3,none⟩=some (.string ⟨#[45]⟩):=(hc 3).trans (by simp);have HO1:=v7 hno;have HK1:=v7 (qf0 hlt hk1);have HR1:=v7 hr1;clear hk1 hr1 hc hf hno)|(go_at_call 351;refine (q9 HS (by omega) _ (qj8 s st) ns (j+1) (q9 HR1) (by show st.op+1=op+1;omega)).mono ?_;rintro e w2 ⟨hk2,h2⟩;rw [q9 HF] at h2;obtain ⟨new,rfl,hr2,ho2,hp2,hfl⟩:=h2;obtain ⟨hc,hf,_,hno,hL2⟩:=hk2.mine hL (q9 HO1);have q1:w2.cell? ⟨w.heap.size,1,none⟩=some (.int .i64 st.place):=(hc 1).trans p1;have q3:w2.cell? ⟨w.heap.size,3,none⟩=some (.string ⟨#[45]⟩):=(hc 3).trans p3;have hlt2:=hr2.lt;obtain ⟨d7,dz⟩:=hr2.c7;have HK2:=v7 hk2;have HR2:=v7 hr2;clear hk2 hr2 hc hf hno;rw [ho2] at d7;have HFL:=v7 hfl;clear hfl)|(go_at_call 216;refine (vw6 (((q9 HR2).setOp op _ (by omega)).1) hs ⟨15,st.place,0,[],[],[]⟩ (ns.length+new.length - 1) rfl rfl rfl rfl (by simp)).mono ?_;rintro e w3 ⟨rfl,hk3,hr3⟩;have HK3:=v7 hk3;have HR3:=v7 hr3;clear hk3 hr3))
  go_ret
  refine ⟨((q9 HK1).trans (q9 HK2)).trans (((q9 HR2).setOp op _ (by omega)).2.trans (q9 HK3)),_,qf7 (by simp), ?_,ho, ?_,Flat.un _ (q9 HFL)⟩
  ·have:=q9 HR3
   rw [List.append_assoc] at this
   rw [ho]
   exact this
  ·have:(qj8 s st).place≤st'.place:=hp2
   have e:(qj8 s st).place=(v6 s st).place:=rfl
   show st.place≤st'.place
   omega
 | err en pl=>
  rw [qv3 hlt12 hf]
  have HF:=v7 hf
  clear hf
  go_enter Tryz.func351,Tryz.ntmps351
  go_wp2_with (first|(go_at_call 295;refine (qk0 (q9 H') hs (by omega) (by omega) (by omega)).mono ?_;rintro e w1 ⟨rfl,hk1,hr1⟩;obtain ⟨hc,hf,_,hno,hL⟩:=hk1.mine (by simp) (q9 FR);have p1:w1.cell? ⟨w.heap.size,1,none⟩=some (.int .i64 st.place):=(hc 1).trans (by simp);have p3:w1.cell? ⟨w.heap.size,3,none⟩=some (.string ⟨#[45]⟩):=(hc 3).trans (by simp);have HO1:=v7 hno;have HK1:=v7 (qf0 hlt hk1);have HR1:=v7 hr1;clear hk1 hr1 hc hf hno)|(go_at_call 351;refine (q9 HS (by omega) _ (qj8 s st) ns (j+1) (q9 HR1) (by show st.op+1=op+1;omega)).mono ?_;rintro e w2 ⟨hk2,h2⟩;rw [q9 HF] at h2;obtain ⟨i,rfl,hr2⟩:=h2;obtain ⟨hc,hf,_,hno,hL2⟩:=hk2.mine hL (q9 HO1);have q1:w2.cell? ⟨w.heap.size,1,none⟩=some (.int .i64 st.place):=(hc 1).trans p1;have q3:w2.cell? ⟨w.heap.size,3,none⟩=some (.string ⟨#[45]⟩):=(hc 3).trans p3;have hlt2:=hr2.lt;obtain ⟨d7,dz⟩:=hr2.c7;have HK2:=v7 hk2;have HR2:=v7 hr2;clear hk2 hr2 hc hf hno)|(go_at_call 216;refine (qq7 (((q9 HR2).setOp op _ (by omega)).1) (by omega) [110] st.place i rfl (by simp)).mono ?_;rintro e w3 ⟨i3,rfl,hk3,hr3⟩;have HK3:=v7 hk3;have HR3:=v7 hr3;clear hk3 hr3))
  go_ret
  exact ⟨((q9 HK1).trans (q9 HK2)).trans (((q9 HR2).setOp op _ (by omega)).2.trans (q9 HK3)),_,rfl,q9 HR3⟩
end Go.Proofs.YtfkcaldjphakpaaGreatDoor
