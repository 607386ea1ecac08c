/- signed. denied. isNull. -/
import Derived.Test.YtfkcaldjphakpaaGreatDoorM04
set_option maxHeartbeats 2000000
set_option maxRecDepth 100000
namespace Go.Proofs.YtfkcaldjphakpaaGreatDoor
open Go.RowKit
section
def qw7 (o:Int) (st:St) (num:Int) (str:List UInt8):Ast:=.leaf ⟨o,st.place,num,str,[],[]⟩
def qc6 (s:ByteArray) (fS fE:St→Res) (st:St):Res:=
 if st.tk.kind=22 then qd7 s fS 14 st else if st.tk.kind=23 then qd7 s fS 15 st else if st.tk.kind=26 then qd5 s fE st
 else if st.tk.kind=2 then .ok (qw7 0 st 0 st.tk.str) (j3 s st)
 else if st.tk.kind=3 then .ok (qw7 1 st st.tk.num []) (j3 s st)
 else if st.tk.kind=4 then .ok (qw7 2 st 0 st.tk.str) (j3 s st)
 else if st.tk.kind=8 then .ok (qw7 3 st 0 []) (j3 s st)
 else if st.tk.kind=9 then .ok (qw7 4 st 0 []) (j3 s st) else .err 2 st.place
theorem IsNode.leafed {rb:Nat} {w:World} (hlt:rb<w.heap.size) (op place num:Int) (str:List UInt8) :
  IsNode rb (w.alloc (.cells #[.int .i64 op,.int .i64 place,.slice none 0 0,.int .i64 num,.string (BS str),.string ⟨#[]⟩,.slice none 0 0] 102))
   (.pointer (some ⟨w.heap.size,0,none⟩)) (.leaf ⟨op,place,num,str,[],[]⟩):=
 ⟨w.heap.size,rfl,⟨hlt,by simp,by simp,by simp,by simp,by simp,by simp,by simp [BS],.slice none 0 0,by simp,.inl ⟨rfl,rfl⟩⟩⟩
theorem vz1 (k p n:Int) (b:ByteArray) (w:World):(Instr.field 91 (.agg #[.int .i64 k,.int .i64 p,.int .i64 n,.string b]) 1).run Tryz.prog w=.ok (.int .i64 p) w:=by kernel_rfl
theorem vw0 (rb:Nat) (s:ByteArray) (op:Nat) (hop:op≤12) (fS fE:St→Res) (hS:op<12→qg4 301 rb s (op+1) fS) (hE:op<12→qg4 55 rb s (op+1) fE):qg4 301 rb s op (qc6 s fS fE):=by
 intro w st h ho
 have H:=j4 h
 have HS:=j4 hS
 have HE:=j4 hE
 have hlt:=h.lt
 have n0:¬w.heap.size=rb:=by omega
 have hle:st.tk.kind≠0→st.place≤(j3 s st).place:=h.fine.le
 have HFN:=j4 h.fine.next
 obtain ⟨c0,c1,c2,c3,c4,c5,c6,fz⟩:=h.at'
 clear h hS hE
 by_cases hk:st.tk.kind=22
 ·have hne:st.tk.kind≠0:=by rw [hk];decide
  have e22:(st.tk.kind==22)=true:=by rw [hk];rfl
  rw [qc6,if_pos hk]
  have hlp:=hle hne
  have HNE:=j4 hne
  clear hk hle hne
  go_enter Tryz.func301,Tryz.ntmps301
  go_wp2_with fail
  refine (vk1 rb s op hop fS (q9 HS) 14 _ st ((q9 H).allocd _) ho (q9 HNE)).mono ?_
  rintro e w' hg
  rcases hg.cases with ⟨v,rfl,hg⟩|⟨en,pl,rfl,hg⟩
  ·have HG:=j4 (hg.from ((Kept.refl rb w).alloc _))
   clear hg
   go_wp2_with fail
   go_ret
   exact q9 HG
  ·exact ⟨rfl,hg.from ((Kept.refl rb w).alloc _)⟩
 have h22:=hk
 clear hk
 by_cases hk:st.tk.kind=23
 ·have hne:st.tk.kind≠0:=by rw [hk];decide
  have e22:(st.tk.kind==22)=false:=by rw [hk];rfl
  have e23:(st.tk.kind==23)=true:=by rw [hk];rfl
  rw [qc6,if_neg (show ¬st.tk.kind=22 by rw [hk];decide),if_pos hk]
  have hlp:=hle hne
  have HNE:=j4 hne
  clear hk hle hne
  go_enter Tryz.func301,Tryz.ntmps301
  go_wp2_with fail
  refine (vk1 rb s op hop fS (q9 HS) 15 _ st ((q9 H).allocd _) ho (q9 HNE)).mono ?_
  rintro e w' hg
  rcases hg.cases with ⟨v,rfl,hg⟩|⟨en,pl,rfl,hg⟩
  ·have HG:=j4 (hg.from ((Kept.refl rb w).alloc _))
   clear hg
   go_wp2_with fail
   go_ret
   exact q9 HG
  ·exact ⟨rfl,hg.from ((Kept.refl rb w).alloc _)⟩
 have h23:=hk
 clear hk
 by_cases hk:st.tk.kind=26
 ·have hne:st.tk.kind≠0:=by rw [hk];decide
  have e22:(st.tk.kind==22)=false:=by rw [hk];rfl
  have e23:(st.tk.kind==23)=false:=by rw [hk];rfl
  have e26:(st.tk.kind==26)=true:=by rw [hk];rfl
  rw [qc6,if_neg (show ¬st.tk.kind=22 by rw [hk];decide),if_neg (show ¬st.tk.kind=23 by rw [hk];decide),if_pos hk]
  have hlp:=hle hne
  have HNE:=j4 hne
  clear hk hle hne
  go_enter Tryz.func301,Tryz.ntmps301
  go_wp2_with fail
  refine (ja0 rb s op hop fE (q9 HE) _ st ((q9 H).allocd _) ho (q9 HNE)).mono ?_
  rintro e w' hg
  rcases hg.cases with ⟨v,rfl,hg⟩|⟨en,pl,rfl,hg⟩
  ·have HG:=j4 (hg.from ((Kept.refl rb w).alloc _))
   clear hg
   go_wp2_with fail
   go_ret
   exact q9 HG
  ·exact ⟨rfl,hg.from ((Kept.refl rb w).alloc _)⟩
 have h26:=hk
 clear hk
 by_cases hk:st.tk.kind=2
 ·have hne:st.tk.kind≠0:=by rw [hk];decide
  have e22:(st.tk.kind==22)=false:=by rw [hk];rfl
  have e23:(st.tk.kind==23)=false:=by rw [hk];rfl
  have e26:(st.tk.kind==26)=false:=by rw [hk];rfl
  have e2:(st.tk.kind==2)=true:=by rw [hk];rfl
  rw [qc6,if_neg (show ¬st.tk.kind=22 by rw [hk];decide),if_neg (show ¬st.tk.kind=23 by rw [hk];decide),if_neg (show ¬st.tk.kind=26 by rw [hk];decide),if_pos hk]
  have hlp:=hle hne
  have HNE:=j4 hne
  clear hk hle hne
  go_enter Tryz.func301,Tryz.ntmps301
  go_wp2_with (go_at_call 54;refine (qd6 rb s st _ (q9 H).size (q9 H).fine.after ((q9 H).at'.allocd _ hlt) (by simp;omega) ((q9 H).err.alloc _)).mono ?_;rintro e w1 ⟨rfl,hr1,hk1⟩;have hz1:w.heap.size<w1.heap.size:=(by have:=hk1.size;simp at this;omega);have q1:w1.cell? ⟨w.heap.size,1,none⟩=some (.int .i64 st.place):=((qc2 hk1).1 _ 1 (by simp) n0).trans (by simp);have q2:w1.cell? ⟨w.heap.size,2,none⟩=some (.int .i64 st.tk.num):=((qc2 hk1).1 _ 2 (by simp) n0).trans (by simp);have q3:w1.cell? ⟨w.heap.size,3,none⟩=some (.string (BS st.tk.str)):=((qc2 hk1).1 _ 3 (by simp) n0).trans (by simp);have hr1:=j4 hr1;have hK1:=j4 (((Kept.refl rb w).alloc _).trans hk1);clear hk1)
  go_ret
  refine ⟨(q9 hK1).alloc _,_,rfl, ?_,(q9 hr1).allocd _ (by omega),q9 HFN,ho,hlp⟩
  exact IsNode.leafed (by omega) 0 st.place (0) (st.tk.str)
 have h2:=hk
 clear hk
 by_cases hk:st.tk.kind=3
 ·have hne:st.tk.kind≠0:=by rw [hk];decide
  have e22:(st.tk.kind==22)=false:=by rw [hk];rfl
  have e23:(st.tk.kind==23)=false:=by rw [hk];rfl
  have e26:(st.tk.kind==26)=false:=by rw [hk];rfl
  have e2:(st.tk.kind==2)=false:=by rw [hk];rfl
  have e3:(st.tk.kind==3)=true:=by rw [hk];rfl
  rw [qc6,if_neg (show ¬st.tk.kind=22 by rw [hk];decide),if_neg (show ¬st.tk.kind=23 by rw [hk];decide),if_neg (show ¬st.tk.kind=26 by rw [hk];decide),if_neg (show ¬st.tk.kind=2 by rw [hk];decide),if_pos hk]
  have hlp:=hle hne
  have HNE:=j4 hne
  clear hk hle hne
  go_enter Tryz.func301,Tryz.ntmps301
  go_wp2_with (go_at_call 54;refine (qd6 rb s st _ (q9 H).size (q9 H).fine.after ((q9 H).at'.allocd _ hlt) (by simp;omega) ((q9 H).err.alloc _)).mono ?_;rintro e w1 ⟨rfl,hr1,hk1⟩;have hz1:w.heap.size<w1.heap.size:=(by have:=hk1.size;simp at this;omega);have q1:w1.cell? ⟨w.heap.size,1,none⟩=some (.int .i64 st.place):=((qc2 hk1).1 _ 1 (by simp) n0).trans (by simp);have q2:w1.cell? ⟨w.heap.size,2,none⟩=some (.int .i64 st.tk.num):=((qc2 hk1).1 _ 2 (by simp) n0).trans (by simp);have q3:w1.cell? ⟨w.heap.size,3,none⟩=some (.string (BS st.tk.str)):=((qc2 hk1).1 _ 3 (by simp) n0).trans (by simp);have hr1:=j4 hr1;have hK1:=j4 (((Kept.refl rb w).alloc _).trans hk1);clear hk1)
  go_ret
  refine ⟨(q9 hK1).alloc _,_,rfl, ?_,(q9 hr1).allocd _ (by omega),q9 HFN,ho,hlp⟩
  exact IsNode.leafed (by omega) 1 st.place (st.tk.num) ([])
 have h3:=hk
 clear hk
 by_cases hk:st.tk.kind=4
 ·have hne:st.tk.kind≠0:=by rw [hk];decide
  have e22:(st.tk.kind==22)=false:=by rw [hk];rfl
  have e23:(st.tk.kind==23)=false:=by rw [hk];rfl
  have e26:(st.tk.kind==26)=false:=by rw [hk];rfl
  have e2:(st.tk.kind==2)=false:=by rw [hk];rfl
  have e3:(st.tk.kind==3)=false:=by rw [hk];rfl
  have e4:(st.tk.kind==4)=true:=by rw [hk];rfl
  rw [qc6,if_neg (show ¬st.tk.kind=22 by rw [hk];decide),if_neg (show ¬st.tk.kind=23 by rw [hk];decide),if_neg (show ¬st.tk.kind=26 by rw [hk];decide),if_neg (show ¬st.tk.kind=2 by rw [hk];decide),if_neg (show ¬st.tk.kind=3 by rw [hk];decide),if_pos hk]
  have hlp:=hle hne
  have HNE:=j4 hne
  clear hk hle hne
  go_enter Tryz.func301,Tryz.ntmps301
  go_wp2_with (go_at_call 54;refine (qd6 rb s st _ (q9 H).size (q9 H).fine.after ((q9 H).at'.allocd _ hlt) (by simp;omega) ((q9 H).err.alloc _)).mono ?_;rintro e w1 ⟨rfl,hr1,hk1⟩;have hz1:w.heap.size<w1.heap.size:=(by have:=hk1.size;simp at this;omega);have q1:w1.cell? ⟨w.heap.size,1,none⟩=some (.int .i64 st.place):=((qc2 hk1).1 _ 1 (by simp) n0).trans (by simp);have q2:w1.cell? ⟨w.heap.size,2,none⟩=some (.int .i64 st.tk.num):=((qc2 hk1).1 _ 2 (by simp) n0).trans (by simp);have q3:w1.cell? ⟨w.heap.size,3,none⟩=some (.string (BS st.tk.str)):=((qc2 hk1).1 _ 3 (by simp) n0).trans (by simp);have hr1:=j4 hr1;have hK1:=j4 (((Kept.refl rb w).alloc _).trans hk1);clear hk1)
  go_ret
  refine ⟨(q9 hK1).alloc _,_,rfl, ?_,(q9 hr1).allocd _ (by omega),q9 HFN,ho,hlp⟩
  exact IsNode.leafed (by omega) 2 st.place (0) (st.tk.str)
 have h4:=hk
 clear hk
 by_cases hk:st.tk.kind=8
 ·have hne:st.tk.kind≠0:=by rw [hk];decide
  have e22:(st.tk.kind==22)=false:=by rw [hk];rfl
  have e23:(st.tk.kind==23)=false:=by rw [hk];rfl
  have e26:(st.tk.kind==26)=false:=by rw [hk];rfl
  have e2:(st.tk.kind==2)=false:=by rw [hk];rfl
  have e3:(st.tk.kind==3)=false:=by rw [hk];rfl
  have e4:(st.tk.kind==4)=false:=by rw [hk];rfl
  have e8:(st.tk.kind==8)=true:=by rw [hk];rfl
  rw [qc6,if_neg (show ¬st.tk.kind=22 by rw [hk];decide),if_neg (show ¬st.tk.kind=23 by rw [hk];decide),if_neg (show ¬st.tk.kind=26 by rw [hk];decide),if_neg (show ¬st.tk.kind=2 by rw [hk];decide),if_neg (show ¬st.tk.kind=3 by rw [hk];decide),if_neg (show ¬st.tk.kind=4 by rw [hk];decide),if_pos hk]
  have hlp:=hle hne
  have HNE:=j4 hne
  clear hk hle hne
  go_enter Tryz.func301,Tryz.ntmps301
  go_wp2_with (go_at_call 54;refine (qd6 rb s st _ (q9 H).size (q9 H).fine.after ((q9 H).at'.allocd _ hlt) (by simp;omega) ((q9 H).err.alloc _)).mono ?_;rintro e w1 ⟨rfl,hr1,hk1⟩;have hz1:w.heap.size<w1.heap.size:=(by have:=hk1.size;simp at this;omega);have q1:w1.cell? ⟨w.heap.size,1,none⟩=some (.int .i64 st.place):=((qc2 hk1).1 _ 1 (by simp) n0).trans (by simp);have q2:w1.cell? ⟨w.heap.size,2,none⟩=some (.int .i64 st.tk.num):=((qc2 hk1).1 _ 2 (by simp) n0).trans (by simp);have q3:w1.cell? ⟨w.heap.size,3,none⟩=some (.string (BS st.tk.str)):=((qc2 hk1).1 _ 3 (by simp) n0).trans (by simp);have hr1:=j4 hr1;have hK1:=j4 (((Kept.refl rb w).alloc _).trans hk1);clear hk1)
  go_ret
  refine ⟨(q9 hK1).alloc _,_,rfl, ?_,(q9 hr1).allocd _ (by omega),q9 HFN,ho,hlp⟩
  exact IsNode.leafed (by omega) 3 st.place (0) ([])
 have h8:=hk
 clear hk
 have e22:(st.tk.kind==22)=false:=beq_eq_false_iff_ne.2 h22
 have e23:(st.tk.kind==23)=false:=beq_eq_false_iff_ne.2 h23
 have e26:(st.tk.kind==26)=false:=beq_eq_false_iff_ne.2 h26
 have e2:(st.tk.kind==2)=false:=beq_eq_false_iff_ne.2 h2
 have e3:(st.tk.kind==3)=false:=beq_eq_false_iff_ne.2 h3
 have e4:(st.tk.kind==4)=false:=beq_eq_false_iff_ne.2 h4
 have e8:(st.tk.kind==8)=false:=beq_eq_false_iff_ne.2 h8
 rw [qc6,if_neg h22,if_neg h23,if_neg h26,if_neg h2,if_neg h3,if_neg h4,if_neg h8]
 clear h22 h23 h26 h2 h3 h4 h8
 by_cases h9:st.tk.kind=9
 ·rw [if_pos h9]
  have hlp:=hle (by rw [h9];decide)
  have H9:=j4 h9
  clear h9 hle
  have hfd:=vz1
  go_enter Tryz.func301,Tryz.ntmps301
  go_wp2_with (go_at_call 56;refine (qd1 rb s st 9 _ (q9 H).size (q9 H).fine.after ((q9 H).at'.allocd _ hlt) (by simp;omega) ((q9 H).err.alloc _) (q9 H9)).mono ?_;rintro e w1 ⟨rfl,hr1,hk1⟩;have hz1:w.heap.size<w1.heap.size:=(by have:=hk1.size;simp at this;omega);have hr1:=j4 hr1;have hK1:=j4 (((Kept.refl rb w).alloc _).trans hk1);clear hk1;simp only [tkV])
  go_ret
  refine ⟨(q9 hK1).alloc _,_,rfl, ?_,(q9 hr1).allocd _ (by omega),q9 HFN,ho,hlp⟩
  exact IsNode.leafed (by omega) 4 st.place 0 []
 ·rw [if_neg h9]
  have H9:=j4 h9
  clear h9 hle
  go_enter Tryz.func301,Tryz.ntmps301
  go_wp2_with (go_at_call 56;refine (qn4 rb s st 9 _ ((q9 H).at'.allocd _ hlt) (by simp;omega) (q9 H9)).mono ?_;rintro e w1 ⟨rfl,hk1⟩;simp only [qb4])
  exact ⟨rfl,((Kept.refl rb w).alloc _).trans hk1,rfl⟩
end
section
def qe1 (s:ByteArray) (fD fT:St→Res) (st:St):Res:=if st.tk.kind=7 then qd7 s fD 5 st else fT st
theorem jh2 (rb:Nat) (s:ByteArray) (op:Nat) (hop:op≤12) (f:St→Res) (hf:op<12→qg4 147 rb s (op+1) f) (w:World) (st:St) (h:Ready rb s w st) (ho:st.op=op) (hk7:st.tk.kind=7) :
  Calls Tryz.prog 147 #[.pointer (some ⟨rb,0,none⟩)] w (Gives rb s w op st.place (qd7 s f 5 st)):=by
 have H:=j4 h
 have hlt:=h.lt
 have hk0:st.tk.kind≠0:=by rw [hk7];decide
 have e7:(st.tk.kind != 7)=false:=by rw [hk7];rfl
 obtain ⟨c0,c1,c2,c3,c4,c5,c6,fz⟩:=h.at'
 clear hk7
 by_cases h12:st.op=12
 ·rw [qd7,if_pos h12]
  have H12:=j4 h12
  clear h hf h12
  go_enter Tryz.func147,Tryz.ntmps147
  go_wp2_with (go_at_call 199;refine (vm1 rb s st _ (q9 H).at' hlt (q9 H12)).mono ?_;rintro e w1 ⟨rfl,hk1⟩;simp only [qb4])
  exact ⟨rfl,hk1,rfl⟩
 ·have hlt12:op<12:=by omega
  have HF:=j4 (hf hlt12)
  have hle:=h.fine.le hk0
  rw [qd7,if_neg h12]
  have HS:Hid (st.op<12):=j4 (by omega)
  have READY:∀w1,Kept rb w w1→RdAt w1 rb s (qk8 s st)→Ready rb s w1 (qk8 s st):=fun w1 hk hr=>h.kept hk hr (h.fine.next.op _)
  have HREADY:=j4 READY
  have hin:(qk8 s st).op=op+1:=by show st.op+1=op+1;omega
  have HIN:=j4 hin
  clear h hf h12 READY hin
  cases hres:f (qk8 s st) with
  | err en pl=>
   have HRES:=j4 hres
   clear hres
   go_enter Tryz.func147,Tryz.ntmps147
   go_wp2_with (first|(go_at_call 199;refine (qs4 rb s st _ (q9 H).size (q9 H).fine.after (q9 H).at' hlt (q9 H).err (q9 H).glob (q9 HS)).mono ?_;rintro e w1 ⟨rfl,hr1,hk1⟩;have hr1:=j4 hr1;have hk1:=j4 hk1;simp only [tkV])|(go_at_call 147;refine (q9 HF _ (qk8 s st) ((q9 HREADY _ (q9 hk1) (q9 hr1)).allocd _) (q9 HIN)).mono ?_;rintro e w2 ⟨hk2,h2⟩;rw [q9 HRES] at h2;subst h2;simp only [qb4]))
   exact ⟨rfl,((q9 hk1).alloc _).trans hk2,rfl⟩
  | ok x st2=>
   have HRES:=j4 hres
   clear hres
   go_enter Tryz.func147,Tryz.ntmps147
   go_wp2_with (first|(go_at_call 199;refine (qs4 rb s st _ (q9 H).size (q9 H).fine.after (q9 H).at' hlt (q9 H).err (q9 H).glob (q9 HS)).mono ?_;rintro e w1 ⟨rfl,hr1,hk1⟩;have hz1:=hk1.size;have hr1:=j4 hr1;have hk1:=j4 hk1;have n1:¬w1.heap.size=rb:=(by omega);have n2:¬rb=w1.heap.size:=(by omega);simp only [tkV])|(go_at_call 147;refine (q9 HF _ (qk8 s st) ((q9 HREADY _ (q9 hk1) (q9 hr1)).allocd _) (q9 HIN)).mono ?_;rintro e w2 ⟨hk2,h2⟩;rw [q9 HRES] at h2;obtain ⟨v2,rfl,hn2,hr2,hf2,ho2,hp2⟩:=h2;obtain ⟨vb,rfl⟩:=hn2.ptr;have hz2:w1.heap.size<w2.heap.size:=(by have:=hk2.size;simp at this;omega);have q1:w2.cell? ⟨w1.heap.size,1,none⟩=some (.int .i64 st.place):=((qc2 hk2).1 _ 1 (by simp) n1).trans (by simp);have d6:w2.cell? ⟨rb,6,none⟩=some (.int .i64 ((op:Int)+1)):=(by rw [hr2.c6,ho2];simp);have dz:=hr2.fz;have hlt2:rb<w2.heap.size:=(by omega);have hr2:=j4 hr2;have hn2:=j4 hn2;have hk2:=j4 hk2;have hf2:=j4 hf2;have ho2:=j4 ho2)|(go_at_call 200;refine (qv7 rb x _ _ _ ((q9 hn2).kept ((Kept.refl rb w2).setCell 6 _)) (by rw [size_setCell];exact hlt2)).mono ?_;rintro e w3 ⟨⟨v3,rfl,hn3⟩,hb3⟩;have hn3:=j4 hn3;have hb3:=j4 hb3))
   go_ret
   refine ⟨((((q9 hk1).alloc _).trans (q9 hk2)).setCell 6 _).trans (Kept.of_below (q9 hb3)),_,rfl,q9 hn3, ?_,(q9 hf2).op _,ho, ?_⟩
   ·exact ((q9 hr2).setOp st.op _ (by omega)).below (q9 hb3) (by simpa using hlt2)
   ·have h2:(qk8 s st).place=(j3 s st).place:=rfl
    show st.place≤st2.place
    omega
theorem vs1 (rb:Nat) (s:ByteArray) (op:Nat) (hop:op≤12) (fD fT:St→Res) (hD:op<12→qg4 147 rb s (op+1) fD) (hT:qg4 198 rb s op fT):qg4 147 rb s op (qe1 s fD fT):=by
 intro w st h ho
 by_cases h7:st.tk.kind=7
 ·rw [qe1,if_pos h7]
  exact jh2 rb s op hop fD hD w st h ho h7
 ·rw [qe1,if_neg h7]
  have e7:(st.tk.kind != 7)=true:=by simpa using h7
  obtain ⟨c0,c1,c2,c3,c4,c5,c6,fz⟩:=h.at'
  have H:=j4 h
  have HT:=j4 hT
  clear h hT h7
  go_enter Tryz.func147,Tryz.ntmps147
  go_wp2_with fail
  refine (q9 HT _ st (q9 H) ho).mono ?_
  rintro e w' hg
  rcases hg.cases with ⟨v,rfl,hg⟩|⟨en,pl,rfl,hg⟩
  ·have HG:=j4 hg
   clear hg
   go_wp2_with fail
   go_ret
   exact q9 HG
  ·exact ⟨rfl,hg⟩
end
section
def nullOf (st:St) (l:Ast):Ast:=.un ⟨23,st.place,0,[],[],[]⟩ l
def qd2 (s:ByteArray) (l:Ast) (st:St):Res:=
 if (j3 s st).tk.kind=7 then (if (j3 s (j3 s st)).tk.kind=15 then .ok (.un ⟨5,st.place,0,[],[],[]⟩ (nullOf st l)) (j3 s (j3 s (j3 s st))) else .err 2 (j3 s (j3 s st)).place)
 else if (j3 s st).tk.kind=15 then .ok (nullOf st l) (j3 s (j3 s st)) else .err 2 (j3 s st).place
theorem ji1 (rb:Nat) (s:ByteArray) (op:Nat) (l:Ast) (lv:Value) (w:World) (st:St) (h:Ready rb s w st) (ho:st.op=op) (hl:IsNode rb w lv l) (h14:st.tk.kind=14) :
  Calls Tryz.prog 242 #[.pointer (some ⟨rb,0,none⟩),lv] w (Gives rb s w op st.place (qd2 s l st)):=by
 have H:=j4 h
 have hlt:=h.lt
 have hle1:=h.fine.le (by rw [h14];decide)
 have hf1:=h.fine.next
 have H14:=j4 h14
 obtain ⟨lb,rfl⟩:=hl.ptr
 have HL:=j4 hl
 have R1:Hid (∀w1,Kept rb w w1→RdAt w1 rb s (j3 s st)→Ready rb s w1 (j3 s st)):=j4 fun w1 hk hr=>h.kept hk hr hf1
 have R2:Hid (∀w1,Kept rb w w1→RdAt w1 rb s (j3 s (j3 s st))→Ready rb s w1 (j3 s (j3 s st))):=j4 fun w1 hk hr=>h.kept hk hr hf1.next
 clear h hl h14
 by_cases h7:(j3 s st).tk.kind=7
 ·have hle2:=hf1.le (by rw [h7];decide)
  by_cases h15:(j3 s (j3 s st)).tk.kind=15
  ·have hle3:=hf1.next.le (by rw [h15];decide)
   rw [qd2,if_pos h7,if_pos h15]
   have H7:=j4 h7
   have H15:=j4 h15
   have HFN:=j4 hf1.next.next
   clear h7 h15 hf1
   go_enter Tryz.func242,Tryz.ntmps242
   go_wp2_with (first|(go_at_call_of 56 (Value.int IntKind.i64 14);refine (qd1 rb s st 14 _ (q9 H).size (q9 H).fine.after (q9 H).at' hlt (q9 H).err (q9 H14)).mono ?_;rintro e w1 ⟨rfl,hr1,hk1⟩;have hz1:=hk1.size;have n1:¬w1.heap.size=rb:=(by omega);have hR1:=j4 ((q9 R1 _ hk1 hr1).allocd (.cells #[.int .i64 st.tk.kind,.int .i64 st.place,.int .i64 st.tk.num,.string (BS st.tk.str)] 91));have hK1:=j4 hk1;clear hr1 hk1;simp only [tkV])|(go_at_call 267;refine (qw0 rb s (j3 s st) 7 _ (q9 hR1).size (q9 hR1).fine.after (q9 hR1).at' (q9 hR1).lt (q9 hR1).err (q9 H7)).mono ?_;rintro e w2 ⟨rfl,hr2,hk2⟩;have hz2:w1.heap.size<w2.heap.size:=(by have:=hk2.size;simp at this;omega);have q1:w2.cell? ⟨w1.heap.size,1,none⟩=some (.int .i64 st.place):=((qc2 hk2).1 _ 1 (by simp) n1).trans (by simp);have hK2:=j4 (((q9 hK1).alloc _).trans hk2);have hR2:=j4 (q9 R2 _ (((q9 hK1).alloc _).trans hk2) hr2);clear hr2 hk2)|(go_at_call_of 56 (Value.int IntKind.i64 15);refine (qd1 rb s (j3 s (j3 s st)) 15 _ (q9 hR2).size (q9 hR2).fine.after (q9 hR2).at' (q9 hR2).lt (q9 hR2).err (q9 H15)).mono ?_;rintro e w3 ⟨rfl,hr3,hk3⟩;have hz3:w1.heap.size<w3.heap.size:=(by have:=hk3.size;omega);have q3:w3.cell? ⟨w1.heap.size,1,none⟩=some (.int .i64 st.place):=((qc2 hk3).1 _ 1 hz2 n1).trans q1;have hr3:=j4 hr3;have hK3:=j4 ((q9 hK2).trans hk3);clear hk3;simp only [tkV])|(go_at_call 200;refine (qv7 rb (nullOf st l) _ _ _ (IsNode.one ((q9 HL).kept (q9 hK3)) (by omega) 23 st.place) (by simp;omega)).mono ?_;rintro e w4 ⟨⟨v4,rfl,hn4⟩,hb4⟩;have hn4:=j4 hn4;have hb4:=j4 hb4))
   go_ret
   refine ⟨(((q9 hK3).alloc _).alloc _).trans (Kept.of_below (q9 hb4)),_,rfl,q9 hn4, ?_,q9 HFN,ho,by omega⟩
   exact (((q9 hr3).allocd _ (by omega)).allocd _ (by simp;omega)).below (q9 hb4) (by simp;omega)
  ·rw [qd2,if_pos h7,if_neg h15]
   have H7:=j4 h7
   have H15:=j4 h15
   clear h7 h15 hf1
   go_enter Tryz.func242,Tryz.ntmps242
   go_wp2_with (first|(go_at_call_of 56 (Value.int IntKind.i64 14);refine (qd1 rb s st 14 _ (q9 H).size (q9 H).fine.after (q9 H).at' hlt (q9 H).err (q9 H14)).mono ?_;rintro e w1 ⟨rfl,hr1,hk1⟩;have hz1:=hk1.size;have n1:¬w1.heap.size=rb:=(by omega);have hR1:=j4 ((q9 R1 _ hk1 hr1).allocd (.cells #[.int .i64 st.tk.kind,.int .i64 st.place,.int .i64 st.tk.num,.string (BS st.tk.str)] 91));have hK1:=j4 hk1;clear hr1 hk1;simp only [tkV])|(go_at_call 267;refine (qw0 rb s (j3 s st) 7 _ (q9 hR1).size (q9 hR1).fine.after (q9 hR1).at' (q9 hR1).lt (q9 hR1).err (q9 H7)).mono ?_;rintro e w2 ⟨rfl,hr2,hk2⟩;have hz2:w1.heap.size<w2.heap.size:=(by have:=hk2.size;simp at this;omega);have q1:w2.cell? ⟨w1.heap.size,1,none⟩=some (.int .i64 st.place):=((qc2 hk2).1 _ 1 (by simp) n1).trans (by simp);have hK2:=j4 (((q9 hK1).alloc _).trans hk2);have hR2:=j4 (q9 R2 _ (((q9 hK1).alloc _).trans hk2) hr2);clear hr2 hk2)|(go_at_call_of 56 (Value.int IntKind.i64 15);refine (qn4 rb s (j3 s (j3 s st)) 15 _ (q9 hR2).at' (q9 hR2).lt (q9 H15)).mono ?_;rintro e w3 ⟨rfl,hk3⟩;simp only [qb4]))
   exact ⟨rfl,(q9 hK2).trans hk3,rfl⟩
 ·by_cases h15:(j3 s st).tk.kind=15
  ·have hle3:=hf1.le (by rw [h15];decide)
   rw [qd2,if_neg h7,if_pos h15]
   have H7:=j4 h7
   have H15:=j4 h15
   have HFN:=j4 hf1.next
   clear h7 h15 hf1
   go_enter Tryz.func242,Tryz.ntmps242
   go_wp2_with (first|(go_at_call_of 56 (Value.int IntKind.i64 14);refine (qd1 rb s st 14 _ (q9 H).size (q9 H).fine.after (q9 H).at' hlt (q9 H).err (q9 H14)).mono ?_;rintro e w1 ⟨rfl,hr1,hk1⟩;have hz1:=hk1.size;have n1:¬w1.heap.size=rb:=(by omega);have hR1:=j4 ((q9 R1 _ hk1 hr1).allocd (.cells #[.int .i64 st.tk.kind,.int .i64 st.place,.int .i64 st.tk.num,.string (BS st.tk.str)] 91));have hK1:=j4 hk1;clear hr1 hk1;simp only [tkV])|(go_at_call 267;refine (vh5 rb s (j3 s st) 7 _ (q9 hR1).at' (q9 H7)).mono ?_;rintro e w2 ⟨rfl,rfl⟩)|(go_at_call_of 56 (Value.int IntKind.i64 15);refine (qd1 rb s (j3 s st) 15 _ (q9 hR1).size (q9 hR1).fine.after (q9 hR1).at' (q9 hR1).lt (q9 hR1).err (q9 H15)).mono ?_;rintro e w3 ⟨rfl,hr3,hk3⟩;have hz3:w1.heap.size<w3.heap.size:=(by have:=hk3.size;simp at this;omega);have q3:w3.cell? ⟨w1.heap.size,1,none⟩=some (.int .i64 st.place):=((qc2 hk3).1 _ 1 (by simp) n1).trans (by simp);have hr3:=j4 hr3;have hK3:=j4 (((q9 hK1).alloc _).trans hk3);clear hk3;simp only [tkV]))
   go_ret
   refine ⟨((q9 hK3).alloc _).alloc _,_,rfl,IsNode.one ((q9 HL).kept (q9 hK3)) (by omega) 23 st.place,((q9 hr3).allocd _ (by omega)).allocd _ (by simp;omega),q9 HFN,ho,by omega⟩
  ·rw [qd2,if_neg h7,if_neg h15]
   have H7:=j4 h7
   have H15:=j4 h15
   clear h7 h15 hf1
   go_enter Tryz.func242,Tryz.ntmps242
   go_wp2_with (first|(go_at_call_of 56 (Value.int IntKind.i64 14);refine (qd1 rb s st 14 _ (q9 H).size (q9 H).fine.after (q9 H).at' hlt (q9 H).err (q9 H14)).mono ?_;rintro e w1 ⟨rfl,hr1,hk1⟩;have hz1:=hk1.size;have n1:¬w1.heap.size=rb:=(by omega);have hR1:=j4 ((q9 R1 _ hk1 hr1).allocd (.cells #[.int .i64 st.tk.kind,.int .i64 st.place,.int .i64 st.tk.num,.string (BS st.tk.str)] 91));have hK1:=j4 hk1;clear hr1 hk1;simp only [tkV])|(go_at_call 267;refine (vh5 rb s (j3 s st) 7 _ (q9 hR1).at' (q9 H7)).mono ?_;rintro e w2 ⟨rfl,rfl⟩)|(go_at_call_of 56 (Value.int IntKind.i64 15);refine (qn4 rb s (j3 s st) 15 _ (q9 hR1).at' (q9 hR1).lt (q9 H15)).mono ?_;rintro e w3 ⟨rfl,hk3⟩;simp only [qb4]))
   exact ⟨rfl,((q9 hK1).alloc _).trans hk3,rfl⟩
end
end Go.Proofs.YtfkcaldjphakpaaGreatDoor
