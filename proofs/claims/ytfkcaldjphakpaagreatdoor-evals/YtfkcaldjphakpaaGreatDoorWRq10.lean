/- The document's answer: signed. -/
import Derived.Test.YtfkcaldjphakpaaGreatDoorE12
import Derived.Test.YtfkcaldjphakpaaGreatDoorE05
set_option maxHeartbeats 2000000
namespace Go.Proofs.YtfkcaldjphakpaaGreatDoor
open Go.RowKit
theorem rsigned_2 (rb:Nat) (s:ByteArray) (hs:s.size≤200) (op m:Nat) (w:World) (st:St) (ns:List RN) (j:Nat) (h:RT w rb s ns j st) (ho:st.op=op) (hk:st.tk.kind=2) :
  Calls Tryz.prog 351 #[.pointer (some ⟨rb,0,none⟩)] w (REnds rb s w op m ns j st.place (.ok (qu6 0 st 0 st.tk.str) (v6 s st))):=by
 obtain ⟨c2,c3,c4,c5,c6⟩:=h.ct
 have c8:=h.c8
 have hlt:=h.lt
 have n0:¬w.heap.size=rb:=by omega
 have n1:¬rb=w.heap.size:=by omega
 rw [show rK st.tk.kind=2 by rw [hk];rfl] at c2
 rw [show tkZ st=(st.after:Int) by unfold tkZ;rw [if_neg (by omega)]] at c4
 rw [show BS (tkS st)=(BS st.tk.str) by unfold tkS rS;rw [if_neg (by omega),if_pos (by omega)]] at c5
 rw [show tkN st=st.tk.num by unfold tkN;rw [if_neg (by omega)]] at c6
 have hst:=j7 (h.alloc (.cells #[.int .i64 2,.int .i64 st.place,.int .i64 st.after,.string (BS st.tk.str),.int .i64 st.tk.num] 235)) hs (by omega) (by omega)
 have hfr:=h.fresh (.cells #[.int .i64 2,.int .i64 st.place,.int .i64 st.after,.string (BS st.tk.str),.int .i64 st.tk.num] 235)
 have hpl:=h.fine.step_place (by omega)
 have ST:=v7 hst
 have FR:=v7 hfr
 clear h hst hfr
 go_enter Tryz.func351,Tryz.ntmps351
 go_wp2_with (first|(go_at_call 172;refine (q9 ST).mono ?_;rintro e w1 ⟨rfl,hk1,hr1⟩;obtain ⟨hc,hf,_,hno,hL⟩:=hk1.mine (by simp) (q9 FR);have p1:w1.cell? ⟨w.heap.size,1,none⟩=some (.int .i64 st.place):=(hc 1).trans (by simp);have p3:w1.cell? ⟨w.heap.size,3,none⟩=some (.string (BS st.tk.str)):=(hc 3).trans (by simp);have p4:w1.cell? ⟨w.heap.size,4,none⟩=some (.int .i64 st.tk.num):=(hc 4).trans (by simp);have HK1:=v7 (qf0 hlt hk1);have HR1:=v7 hr1;clear hk1 hr1 hc hf hno)|(go_at_call 216;refine (qt2 (q9 HR1) hs ⟨0,st.place,0,st.tk.str,[],[]⟩ rfl rfl rfl rfl).mono ?_;rintro e w2 ⟨rfl,hk2,hr2⟩;have HK2:=v7 hk2;have HR2:=v7 hr2;clear hk2 hr2))
 go_ret
 exact ⟨(q9 HK1).trans (q9 HK2),_,rfl,q9 HR2,ho,by omega,Flat.leaf _ _⟩
theorem rsigned_3 (rb:Nat) (s:ByteArray) (hs:s.size≤200) (op m:Nat) (w:World) (st:St) (ns:List RN) (j:Nat) (h:RT w rb s ns j st) (ho:st.op=op) (hk:st.tk.kind=3) :
  Calls Tryz.prog 351 #[.pointer (some ⟨rb,0,none⟩)] w (REnds rb s w op m ns j st.place (.ok (qu6 1 st st.tk.num []) (v6 s st))):=by
 obtain ⟨c2,c3,c4,c5,c6⟩:=h.ct
 have c8:=h.c8
 have hlt:=h.lt
 have n0:¬w.heap.size=rb:=by omega
 have n1:¬rb=w.heap.size:=by omega
 rw [show rK st.tk.kind=3 by rw [hk];rfl] at c2
 rw [show tkZ st=(st.after:Int) by unfold tkZ;rw [if_neg (by omega)]] at c4
 rw [show BS (tkS st)=⟨#[]⟩ by unfold tkS rS;rw [if_neg (by omega),if_neg (by omega),hk];rfl] at c5
 rw [show tkN st=st.tk.num by unfold tkN;rw [if_neg (by omega)]] at c6
 have hst:=j7 (h.alloc (.cells #[.int .i64 3,.int .i64 st.place,.int .i64 st.after,.string ⟨#[]⟩,.int .i64 st.tk.num] 235)) hs (by omega) (by omega)
 have hfr:=h.fresh (.cells #[.int .i64 3,.int .i64 st.place,.int .i64 st.after,.string ⟨#[]⟩,.int .i64 st.tk.num] 235)
 have hpl:=h.fine.step_place (by omega)
 have ST:=v7 hst
 have FR:=v7 hfr
 clear h hst hfr
 go_enter Tryz.func351,Tryz.ntmps351
 go_wp2_with (first|(go_at_call 172;refine (q9 ST).mono ?_;rintro e w1 ⟨rfl,hk1,hr1⟩;obtain ⟨hc,hf,_,hno,hL⟩:=hk1.mine (by simp) (q9 FR);have p1:w1.cell? ⟨w.heap.size,1,none⟩=some (.int .i64 st.place):=(hc 1).trans (by simp);have p3:w1.cell? ⟨w.heap.size,3,none⟩=some (.string ⟨#[]⟩):=(hc 3).trans (by simp);have p4:w1.cell? ⟨w.heap.size,4,none⟩=some (.int .i64 st.tk.num):=(hc 4).trans (by simp);have HK1:=v7 (qf0 hlt hk1);have HR1:=v7 hr1;clear hk1 hr1 hc hf hno)|(go_at_call 216;refine (qt2 (q9 HR1) hs ⟨1,st.place,st.tk.num,[],[],[]⟩ rfl rfl rfl rfl).mono ?_;rintro e w2 ⟨rfl,hk2,hr2⟩;have HK2:=v7 hk2;have HR2:=v7 hr2;clear hk2 hr2))
 go_ret
 exact ⟨(q9 HK1).trans (q9 HK2),_,rfl,q9 HR2,ho,by omega,Flat.leaf _ _⟩
theorem rsigned_4 (rb:Nat) (s:ByteArray) (hs:s.size≤200) (op m:Nat) (w:World) (st:St) (ns:List RN) (j:Nat) (h:RT w rb s ns j st) (ho:st.op=op) (hk:st.tk.kind=4) :
  Calls Tryz.prog 351 #[.pointer (some ⟨rb,0,none⟩)] w (REnds rb s w op m ns j st.place (.ok (qu6 2 st 0 st.tk.str) (v6 s st))):=by
 obtain ⟨c2,c3,c4,c5,c6⟩:=h.ct
 have c8:=h.c8
 have hlt:=h.lt
 have n0:¬w.heap.size=rb:=by omega
 have n1:¬rb=w.heap.size:=by omega
 rw [show rK st.tk.kind=4 by rw [hk];rfl] at c2
 rw [show tkZ st=(st.after:Int) by unfold tkZ;rw [if_neg (by omega)]] at c4
 rw [show BS (tkS st)=(BS st.tk.str) by unfold tkS rS;rw [if_neg (by omega),if_pos (by omega)]] at c5
 rw [show tkN st=st.tk.num by unfold tkN;rw [if_neg (by omega)]] at c6
 have hst:=j7 (h.alloc (.cells #[.int .i64 4,.int .i64 st.place,.int .i64 st.after,.string (BS st.tk.str),.int .i64 st.tk.num] 235)) hs (by omega) (by omega)
 have hfr:=h.fresh (.cells #[.int .i64 4,.int .i64 st.place,.int .i64 st.after,.string (BS st.tk.str),.int .i64 st.tk.num] 235)
 have hpl:=h.fine.step_place (by omega)
 have ST:=v7 hst
 have FR:=v7 hfr
 clear h hst hfr
 go_enter Tryz.func351,Tryz.ntmps351
 go_wp2_with (first|(go_at_call 172;refine (q9 ST).mono ?_;rintro e w1 ⟨rfl,hk1,hr1⟩;obtain ⟨hc,hf,_,hno,hL⟩:=hk1.mine (by simp) (q9 FR);have p1:w1.cell? ⟨w.heap.size,1,none⟩=some (.int .i64 st.place):=(hc 1).trans (by simp);have p3:w1.cell? ⟨w.heap.size,3,none⟩=some (.string (BS st.tk.str)):=(hc 3).trans (by simp);have p4:w1.cell? ⟨w.heap.size,4,none⟩=some (.int .i64 st.tk.num):=(hc 4).trans (by simp);have HK1:=v7 (qf0 hlt hk1);have HR1:=v7 hr1;clear hk1 hr1 hc hf hno)|(go_at_call 216;refine (qt2 (q9 HR1) hs ⟨2,st.place,0,st.tk.str,[],[]⟩ rfl rfl rfl rfl).mono ?_;rintro e w2 ⟨rfl,hk2,hr2⟩;have HK2:=v7 hk2;have HR2:=v7 hr2;clear hk2 hr2))
 go_ret
 exact ⟨(q9 HK1).trans (q9 HK2),_,rfl,q9 HR2,ho,by omega,Flat.leaf _ _⟩
theorem rsigned_8 (rb:Nat) (s:ByteArray) (hs:s.size≤200) (op m:Nat) (w:World) (st:St) (ns:List RN) (j:Nat) (h:RT w rb s ns j st) (ho:st.op=op) (hk:st.tk.kind=8) :
  Calls Tryz.prog 351 #[.pointer (some ⟨rb,0,none⟩)] w (REnds rb s w op m ns j st.place (.ok (qu6 3 st 0 []) (v6 s st))):=by
 obtain ⟨c2,c3,c4,c5,c6⟩:=h.ct
 have c8:=h.c8
 have hlt:=h.lt
 have n0:¬w.heap.size=rb:=by omega
 have n1:¬rb=w.heap.size:=by omega
 rw [show rK st.tk.kind=6 by rw [hk];rfl] at c2
 rw [show tkZ st=(st.after:Int) by unfold tkZ;rw [if_neg (by omega)]] at c4
 rw [show BS (tkS st)=⟨#[84,82,85,69]⟩ by unfold tkS rS;rw [if_neg (by omega),if_neg (by omega),hk];rfl] at c5
 rw [show tkN st=st.tk.num by unfold tkN;rw [if_neg (by omega)]] at c6
 have hst:=j7 (h.alloc (.cells #[.int .i64 6,.int .i64 st.place,.int .i64 st.after,.string ⟨#[84,82,85,69]⟩,.int .i64 st.tk.num] 235)) hs (by omega) (by omega)
 have hfr:=h.fresh (.cells #[.int .i64 6,.int .i64 st.place,.int .i64 st.after,.string ⟨#[84,82,85,69]⟩,.int .i64 st.tk.num] 235)
 have hpl:=h.fine.step_place (by omega)
 have ST:=v7 hst
 have FR:=v7 hfr
 clear h hst hfr
 go_enter Tryz.func351,Tryz.ntmps351
 go_wp2_with (first|(go_at_call 172;refine (q9 ST).mono ?_;rintro e w1 ⟨rfl,hk1,hr1⟩;obtain ⟨hc,hf,_,hno,hL⟩:=hk1.mine (by simp) (q9 FR);have p1:w1.cell? ⟨w.heap.size,1,none⟩=some (.int .i64 st.place):=(hc 1).trans (by simp);have p3:w1.cell? ⟨w.heap.size,3,none⟩=some (.string ⟨#[84,82,85,69]⟩):=(hc 3).trans (by simp);have p4:w1.cell? ⟨w.heap.size,4,none⟩=some (.int .i64 st.tk.num):=(hc 4).trans (by simp);have HK1:=v7 (qf0 hlt hk1);have HR1:=v7 hr1;clear hk1 hr1 hc hf hno)|(go_at_call 216;refine (qt2 (q9 HR1) hs ⟨3,st.place,0,[],[],[]⟩ rfl rfl rfl rfl).mono ?_;rintro e w2 ⟨rfl,hk2,hr2⟩;have HK2:=v7 hk2;have HR2:=v7 hr2;clear hk2 hr2))
 go_ret
 exact ⟨(q9 HK1).trans (q9 HK2),_,rfl,q9 HR2,ho,by omega,Flat.leaf _ _⟩
theorem rsigned_9 (rb:Nat) (s:ByteArray) (hs:s.size≤200) (op m:Nat) (w:World) (st:St) (ns:List RN) (j:Nat) (h:RT w rb s ns j st) (ho:st.op=op) (hk:st.tk.kind=9) :
  Calls Tryz.prog 351 #[.pointer (some ⟨rb,0,none⟩)] w (REnds rb s w op m ns j st.place (.ok (qu6 4 st 0 []) (v6 s st))):=by
 obtain ⟨c2,c3,c4,c5,c6⟩:=h.ct
 have c8:=h.c8
 have hlt:=h.lt
 have n0:¬w.heap.size=rb:=by omega
 have n1:¬rb=w.heap.size:=by omega
 rw [show rK st.tk.kind=6 by rw [hk];rfl] at c2
 rw [show tkZ st=(st.after:Int) by unfold tkZ;rw [if_neg (by omega)]] at c4
 rw [show BS (tkS st)=⟨#[70,65,76,83,69]⟩ by unfold tkS rS;rw [if_neg (by omega),if_neg (by omega),hk];rfl] at c5
 rw [show tkN st=st.tk.num by unfold tkN;rw [if_neg (by omega)]] at c6
 have hst:=j7 (h.alloc (.cells #[.int .i64 6,.int .i64 st.place,.int .i64 st.after,.string ⟨#[70,65,76,83,69]⟩,.int .i64 st.tk.num] 235)) hs (by omega) (by omega)
 have hfr:=h.fresh (.cells #[.int .i64 6,.int .i64 st.place,.int .i64 st.after,.string ⟨#[70,65,76,83,69]⟩,.int .i64 st.tk.num] 235)
 have hpl:=h.fine.step_place (by omega)
 have ST:=v7 hst
 have FR:=v7 hfr
 clear h hst hfr
 go_enter Tryz.func351,Tryz.ntmps351
 go_wp2_with (first|(go_at_call 172;refine (q9 ST).mono ?_;rintro e w1 ⟨rfl,hk1,hr1⟩;obtain ⟨hc,hf,_,hno,hL⟩:=hk1.mine (by simp) (q9 FR);have p1:w1.cell? ⟨w.heap.size,1,none⟩=some (.int .i64 st.place):=(hc 1).trans (by simp);have p3:w1.cell? ⟨w.heap.size,3,none⟩=some (.string ⟨#[70,65,76,83,69]⟩):=(hc 3).trans (by simp);have p4:w1.cell? ⟨w.heap.size,4,none⟩=some (.int .i64 st.tk.num):=(hc 4).trans (by simp);have HK1:=v7 (qf0 hlt hk1);have HR1:=v7 hr1;clear hk1 hr1 hc hf hno)|(go_at_call 216;refine (qt2 (q9 HR1) hs ⟨4,st.place,0,[],[],[]⟩ rfl rfl rfl rfl).mono ?_;rintro e w2 ⟨rfl,hk2,hr2⟩;have HK2:=v7 hk2;have HR2:=v7 hr2;clear hk2 hr2))
 go_ret
 exact ⟨(q9 HK1).trans (q9 HK2),_,rfl,q9 HR2,ho,by omega,Flat.leaf _ _⟩
end Go.Proofs.YtfkcaldjphakpaaGreatDoor
