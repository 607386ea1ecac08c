/- The document's answer: IS NULL. The document's answer: all but a variable is as it was. -/
import Derived.Test.YtfkcaldjphakpaaGreatDoorE14
import Derived.ArgAppend
namespace Go.Proofs.YtfkcaldjphakpaaGreatDoor
open Go.RowKit
section
set_option maxHeartbeats 4000000 in
set_option maxRecDepth 100000 in
theorem rnull_any (rb:Nat) (s:ByteArray) (hs:s.size≤200) (op m:Nat) (hm:201≤m) (w:World) (st:St) (ns new:List RN) (j:Nat) (l:Ast) (h:RT w rb s (ns++new) j st) (ho:st.op=op) (hk:st.tk.kind=14) (hfl:Flat l ns.length new) (i0:Nat) (hi0:i0=ns.length+new.length - 1) :
  Calls Tryz.prog 322 #[.pointer (some ⟨rb,0,none⟩),.int .i64 i0] w (REnds rb s w op m ns j st.place (qd0 s l st)):=by
 obtain ⟨_,c3,_⟩:=h.ct
 have hlt:=h.lt
 have n0:¬w.heap.size=rb:=by omega
 have n1:¬rb=w.heap.size:=by omega
 have n2:¬w.heap.size+1=rb:=by omega
 have n3:¬rb=w.heap.size+1:=by omega
 have hK0:TKept rb w ((w.alloc (.cells #[.int .i64 i0] 3)).alloc (.cells #[.string ⟨#[78,85,76,76]⟩,.int .i64 st.place,.slice (some ⟨w.heap.size,0,none⟩) 1 1,.string ⟨#[]⟩,.string ⟨#[]⟩,.slice none 0 0,.int .i64 0,.bool false,.int .i64 0] 241)):=((TKept.refl rb w).alloc hlt _).alloc hlt _
 have h0:RT ((w.alloc (.cells #[.int .i64 i0] 3)).alloc (.cells #[.string ⟨#[78,85,76,76]⟩,.int .i64 st.place,.slice (some ⟨w.heap.size,0,none⟩) 1 1,.string ⟨#[]⟩,.string ⟨#[]⟩,.slice none 0 0,.int .i64 0,.bool false,.int .i64 0] 241)) rb s (ns++new) j st:=(h.alloc _).alloc _
 have hV0:VN ((w.alloc (.cells #[.int .i64 i0] 3)).alloc (.cells #[.string ⟨#[78,85,76,76]⟩,.int .i64 st.place,.slice (some ⟨w.heap.size,0,none⟩) 1 1,.string ⟨#[]⟩,.string ⟨#[]⟩,.slice none 0 0,.int .i64 0,.bool false,.int .i64 0] 241)) rb (w.heap.size+1) 241 #[.string ⟨#[78,85,76,76]⟩,.int .i64 st.place,.slice (some ⟨w.heap.size,0,none⟩) 1 1,.string ⟨#[]⟩,.string ⟨#[]⟩,.slice none 0 0,.int .i64 0,.bool false,.int .i64 0]:=VN.new (h.alloc _) _ _ (by simp)
 have hR0:RowOf ((w.alloc (.cells #[.int .i64 i0] 3)).alloc (.cells #[.string ⟨#[78,85,76,76]⟩,.int .i64 st.place,.slice (some ⟨w.heap.size,0,none⟩) 1 1,.string ⟨#[]⟩,.string ⟨#[]⟩,.slice none 0 0,.int .i64 0,.bool false,.int .i64 0] 241)) rb 3 (.slice (some ⟨w.heap.size,0,none⟩) 1 1) (qv6 [i0]):=RowOf.kept (RowOf.made hlt h.fresh 3 #[.int .i64 i0] 1 rfl) (TKept.of_below ((Below.refl _ _).alloc (Nat.le_refl _) _) (h.alloc _).lt)
 have hpl:=h.fine.step_place (by omega)
 have HK0:=v7 hK0
 have H0:=v7 h0
 have HV0:=v7 hV0
 have HR0:=v7 hR0
 have HFL:=v7 hfl
 have HI0:=v7 hi0
 have hpl1:(v6 s st).tk.kind≠0→(v6 s st).place<(v6 s (v6 s st)).place:=(x8 s st h.fine.after).step_place
 have hpl2:(v6 s (v6 s st)).tk.kind≠0→(v6 s (v6 s st)).place<(v6 s (v6 s (v6 s st))).place:=(x8 s _ (x8 s st h.fine.after).after).step_place
 clear h hK0 h0 hV0 hR0 hfl hi0
 unfold qd0
 by_cases k7:(v6 s st).tk.kind=7
 ·rw [if_pos k7]
  have hq7:((v6 s st).tk.kind==7)=true:=by rw [k7];rfl
  by_cases k15:(v6 s (v6 s st)).tk.kind=15
  ·rw [if_pos k15]
   go_enter Tryz.func322,Tryz.ntmps322
   go_wp2_with (first|(go_at_call 215;refine (qk1 (q9 HR1) 7 (X:=⟨#[78,79,84]⟩) rfl (by decide) (by decide) rfl).mono ?_;rintro e w' ⟨rfl,hw'⟩;subst w';rw [hq7])|(go_at_call 172;refine (j7 ((q9 HV1).rt (by decide) (by decide) (q9 HR1) 7 (.bool true)) hs (by omega) (by omega)).mono ?_;rintro e w2 ⟨rfl,hk2,hr2⟩;have HV2:=v7 (((q9 HV1).set 7 (.bool true)).kept hk2);have HRw2:=v7 (((q9 HV1).row (by decide) (q9 HRw1) 7 (.bool true)).kept hk2);have HK2:=v7 (((q9 HK1).far hlt (p:=⟨w.heap.size+1,7,none⟩) (by show w.heap.size≤w.heap.size+1;omega) (.bool true)).trans hk2);have HR2:=v7 hr2;clear hk2 hr2)|(go_at_call 172;refine (j7 (q9 H0) hs (by omega) (by omega)).mono ?_;rintro e w1 ⟨rfl,hk1,hr1⟩;have hv1:=(q9 HV0).kept hk1;have p7:w1.cell? ⟨w.heap.size+1,7,none⟩=some (.bool false):=hv1.cell 7;have pz:∀i,w1.frozen? ⟨w.heap.size+1,i,none⟩=false:=hv1.frz;have HRw1:=v7 ((q9 HR0).kept hk1);have hK1:=(q9 HK0).trans hk1;have hz1:=hr1.lt;have HV1:=v7 hv1;have HK1:=v7 hK1;have HR1:=v7 hr1;clear hk1 hr1 hv1 hK1)|(go_at_call 343;refine (qw7 (q9 HR2) hs 15 rfl (by decide) (by decide) rfl k15).mono ?_;rintro e w3 ⟨rfl,hk3,hr3⟩;have hv3:=(q9 HV2).kept hk3;have q0:w3.cell? ⟨w.heap.size+1,0,none⟩=some (.string ⟨#[78,85,76,76]⟩):=hv3.cell 0;have q1:w3.cell? ⟨w.heap.size+1,1,none⟩=some (.int .i64 st.place):=hv3.cell 1;have q2:w3.cell? ⟨w.heap.size+1,2,none⟩=some (.slice (some ⟨w.heap.size,0,none⟩) 1 1):=hv3.cell 2;have q3:w3.cell? ⟨w.heap.size+1,3,none⟩=some (.string ⟨#[]⟩):=hv3.cell 3;have q4:w3.cell? ⟨w.heap.size+1,4,none⟩=some (.string ⟨#[]⟩):=hv3.cell 4;have q5:w3.cell? ⟨w.heap.size+1,5,none⟩=some (.slice none 0 0):=hv3.cell 5;have q6:w3.cell? ⟨w.heap.size+1,6,none⟩=some (.int .i64 0):=hv3.cell 6;have q7:w3.cell? ⟨w.heap.size+1,7,none⟩=some (.bool true):=hv3.cell 7;have q8:w3.cell? ⟨w.heap.size+1,8,none⟩=some (.int .i64 0):=hv3.cell 8;have HRw3:=v7 ((q9 HRw2).kept hk3);have HK3:=v7 ((q9 HK2).trans hk3);have HR3:=v7 hr3;clear hk3 hr3 hv3)|(go_at_call 216;refine (vq4 (q9 HR3) hs ⟨23,st.place,0,[],[],[]⟩ rfl [i0] true rfl rfl rfl (q9 HRw3) (RowOf.no _ _ _)).mono ?_;rintro e w4 ⟨rfl,hk4,hr4⟩;have HK4:=v7 ((q9 HK3).trans hk4);have HR4:=v7 hr4;clear hk4 hr4))
   go_ret
   refine ⟨q9 HK4,new++[qi3 ⟨23,st.place,0,[],[],[]⟩ [ns.length+new.length - 1] true],qf7 (by simp), ?_,ho,by have:=hpl1 (by omega);have:=hpl2 (by omega);omega,Flat.neg1 _ _ (.inr (.inr rfl)) (q9 HFL)⟩
   have:=q9 HR4
   rw [List.append_assoc,q9 HI0] at this
   exact this.less (by omega)
  ·rw [if_neg k15]
   go_enter Tryz.func322,Tryz.ntmps322
   go_wp2_with (first|(go_at_call 215;refine (qk1 (q9 HR1) 7 (X:=⟨#[78,79,84]⟩) rfl (by decide) (by decide) rfl).mono ?_;rintro e w' ⟨rfl,hw'⟩;subst w';rw [hq7])|(go_at_call 172;refine (j7 ((q9 HV1).rt (by decide) (by decide) (q9 HR1) 7 (.bool true)) hs (by omega) (by omega)).mono ?_;rintro e w2 ⟨rfl,hk2,hr2⟩;have HV2:=v7 (((q9 HV1).set 7 (.bool true)).kept hk2);have HRw2:=v7 (((q9 HV1).row (by decide) (q9 HRw1) 7 (.bool true)).kept hk2);have HK2:=v7 (((q9 HK1).far hlt (p:=⟨w.heap.size+1,7,none⟩) (by show w.heap.size≤w.heap.size+1;omega) (.bool true)).trans hk2);have HR2:=v7 hr2;clear hk2 hr2)|(go_at_call 172;refine (j7 (q9 H0) hs (by omega) (by omega)).mono ?_;rintro e w1 ⟨rfl,hk1,hr1⟩;have hv1:=(q9 HV0).kept hk1;have p7:w1.cell? ⟨w.heap.size+1,7,none⟩=some (.bool false):=hv1.cell 7;have pz:∀i,w1.frozen? ⟨w.heap.size+1,i,none⟩=false:=hv1.frz;have HRw1:=v7 ((q9 HR0).kept hk1);have hK1:=(q9 HK0).trans hk1;have hz1:=hr1.lt;have HV1:=v7 hv1;have HK1:=v7 hK1;have HR1:=v7 hr1;clear hk1 hr1 hv1 hK1)|(go_at_call 343;refine (qs1 (q9 HR2) hs 15 rfl (by decide) (by decide) rfl k15).mono ?_;rintro e w3 ⟨rfl,hk3,hr3⟩;have hv3:=(q9 HV2).kept hk3;have q0:w3.cell? ⟨w.heap.size+1,0,none⟩=some (.string ⟨#[78,85,76,76]⟩):=hv3.cell 0;have q1:w3.cell? ⟨w.heap.size+1,1,none⟩=some (.int .i64 st.place):=hv3.cell 1;have q2:w3.cell? ⟨w.heap.size+1,2,none⟩=some (.slice (some ⟨w.heap.size,0,none⟩) 1 1):=hv3.cell 2;have q3:w3.cell? ⟨w.heap.size+1,3,none⟩=some (.string ⟨#[]⟩):=hv3.cell 3;have q4:w3.cell? ⟨w.heap.size+1,4,none⟩=some (.string ⟨#[]⟩):=hv3.cell 4;have q5:w3.cell? ⟨w.heap.size+1,5,none⟩=some (.slice none 0 0):=hv3.cell 5;have q6:w3.cell? ⟨w.heap.size+1,6,none⟩=some (.int .i64 0):=hv3.cell 6;have q7:w3.cell? ⟨w.heap.size+1,7,none⟩=some (.bool true):=hv3.cell 7;have q8:w3.cell? ⟨w.heap.size+1,8,none⟩=some (.int .i64 0):=hv3.cell 8;have HRw3:=v7 ((q9 HRw2).kept hk3);have HK3:=v7 ((q9 HK2).trans hk3);have HR3:=v7 hr3;clear hk3 hr3 hv3)|(go_at_call 216;refine (qy6 (q9 HR3) (by omega) [i0] [] true (q9 HRw3) (RowOf.no _ _ _)).mono ?_;rintro e w4 ⟨i4,rfl,hk4,hr4⟩;have HK4:=v7 ((q9 HK3).trans hk4);have HR4:=v7 hr4;clear hk4 hr4))
   go_ret
   exact ⟨q9 HK4,i4,rfl,ho ▸ (q9 HR4).more (by omega)⟩
 ·rw [if_neg k7]
  have hq7:((v6 s st).tk.kind==7)=false:=beq_eq_false_iff_ne.2 k7
  by_cases k15:(v6 s st).tk.kind=15
  ·rw [if_pos k15]
   go_enter Tryz.func322,Tryz.ntmps322
   go_wp2_with (first|(go_at_call 215;refine (qk1 (q9 HR1) 7 (X:=⟨#[78,79,84]⟩) rfl (by decide) (by decide) rfl).mono ?_;rintro e w' ⟨rfl,hw'⟩;subst w';rw [hq7])|(go_at_call 172;refine (j7 (q9 H0) hs (by omega) (by omega)).mono ?_;rintro e w1 ⟨rfl,hk1,hr1⟩;have hv1:=(q9 HV0).kept hk1;have p7:w1.cell? ⟨w.heap.size+1,7,none⟩=some (.bool false):=hv1.cell 7;have pz:∀i,w1.frozen? ⟨w.heap.size+1,i,none⟩=false:=hv1.frz;have HRw1:=v7 ((q9 HR0).kept hk1);have hK1:=(q9 HK0).trans hk1;have hz1:=hr1.lt;have HV1:=v7 hv1;have HK1:=v7 hK1;have HR1:=v7 hr1;clear hk1 hr1 hv1 hK1)|(go_at_call 343;refine (qw7 (q9 HR1) hs 15 rfl (by decide) (by decide) rfl k15).mono ?_;rintro e w3 ⟨rfl,hk3,hr3⟩;have hv3:=(q9 HV1).kept hk3;have q0:w3.cell? ⟨w.heap.size+1,0,none⟩=some (.string ⟨#[78,85,76,76]⟩):=hv3.cell 0;have q1:w3.cell? ⟨w.heap.size+1,1,none⟩=some (.int .i64 st.place):=hv3.cell 1;have q2:w3.cell? ⟨w.heap.size+1,2,none⟩=some (.slice (some ⟨w.heap.size,0,none⟩) 1 1):=hv3.cell 2;have q3:w3.cell? ⟨w.heap.size+1,3,none⟩=some (.string ⟨#[]⟩):=hv3.cell 3;have q4:w3.cell? ⟨w.heap.size+1,4,none⟩=some (.string ⟨#[]⟩):=hv3.cell 4;have q5:w3.cell? ⟨w.heap.size+1,5,none⟩=some (.slice none 0 0):=hv3.cell 5;have q6:w3.cell? ⟨w.heap.size+1,6,none⟩=some (.int .i64 0):=hv3.cell 6;have q7:w3.cell? ⟨w.heap.size+1,7,none⟩=some (.bool false):=hv3.cell 7;have q8:w3.cell? ⟨w.heap.size+1,8,none⟩=some (.int .i64 0):=hv3.cell 8;have HRw3:=v7 ((q9 HRw1).kept hk3);have HK3:=v7 ((q9 HK1).trans hk3);have HR3:=v7 hr3;clear hk3 hr3 hv3)|(go_at_call 216;refine (vq4 (q9 HR3) hs ⟨23,st.place,0,[],[],[]⟩ rfl [i0] false rfl rfl rfl (q9 HRw3) (RowOf.no _ _ _)).mono ?_;rintro e w4 ⟨rfl,hk4,hr4⟩;have HK4:=v7 ((q9 HK3).trans hk4);have HR4:=v7 hr4;clear hk4 hr4))
   go_ret
   refine ⟨q9 HK4,new++[qi3 ⟨23,st.place,0,[],[],[]⟩ [ns.length+new.length - 1] false],qf7 (by simp), ?_,ho,by have:=hpl1 (by omega);omega,Flat.un _ (q9 HFL)⟩
   have:=q9 HR4
   rw [List.append_assoc,q9 HI0] at this
   exact this.less (by omega)
  ·rw [if_neg k15]
   go_enter Tryz.func322,Tryz.ntmps322
   go_wp2_with (first|(go_at_call 215;refine (qk1 (q9 HR1) 7 (X:=⟨#[78,79,84]⟩) rfl (by decide) (by decide) rfl).mono ?_;rintro e w' ⟨rfl,hw'⟩;subst w';rw [hq7])|(go_at_call 172;refine (j7 (q9 H0) hs (by omega) (by omega)).mono ?_;rintro e w1 ⟨rfl,hk1,hr1⟩;have hv1:=(q9 HV0).kept hk1;have p7:w1.cell? ⟨w.heap.size+1,7,none⟩=some (.bool false):=hv1.cell 7;have pz:∀i,w1.frozen? ⟨w.heap.size+1,i,none⟩=false:=hv1.frz;have HRw1:=v7 ((q9 HR0).kept hk1);have hK1:=(q9 HK0).trans hk1;have hz1:=hr1.lt;have HV1:=v7 hv1;have HK1:=v7 hK1;have HR1:=v7 hr1;clear hk1 hr1 hv1 hK1)|(go_at_call 343;refine (qs1 (q9 HR1) hs 15 rfl (by decide) (by decide) rfl k15).mono ?_;rintro e w3 ⟨rfl,hk3,hr3⟩;have hv3:=(q9 HV1).kept hk3;have q0:w3.cell? ⟨w.heap.size+1,0,none⟩=some (.string ⟨#[78,85,76,76]⟩):=hv3.cell 0;have q1:w3.cell? ⟨w.heap.size+1,1,none⟩=some (.int .i64 st.place):=hv3.cell 1;have q2:w3.cell? ⟨w.heap.size+1,2,none⟩=some (.slice (some ⟨w.heap.size,0,none⟩) 1 1):=hv3.cell 2;have q3:w3.cell? ⟨w.heap.size+1,3,none⟩=some (.string ⟨#[]⟩):=hv3.cell 3;have q4:w3.cell? ⟨w.heap.size+1,4,none⟩=some (.string ⟨#[]⟩):=hv3.cell 4;have q5:w3.cell? ⟨w.heap.size+1,5,none⟩=some (.slice none 0 0):=hv3.cell 5;have q6:w3.cell? ⟨w.heap.size+1,6,none⟩=some (.int .i64 0):=hv3.cell 6;have q7:w3.cell? ⟨w.heap.size+1,7,none⟩=some (.bool false):=hv3.cell 7;have q8:w3.cell? ⟨w.heap.size+1,8,none⟩=some (.int .i64 0):=hv3.cell 8;have HRw3:=v7 ((q9 HRw1).kept hk3);have HK3:=v7 ((q9 HK1).trans hk3);have HR3:=v7 hr3;clear hk3 hr3 hv3)|(go_at_call 216;refine (qy6 (q9 HR3) (by omega) [i0] [] false (q9 HRw3) (RowOf.no _ _ _)).mono ?_;rintro e w4 ⟨i4,rfl,hk4,hr4⟩;have HK4:=v7 ((q9 HK3).trans hk4);have HR4:=v7 hr4;clear hk4 hr4))
   go_ret
   exact ⟨q9 HK4,i4,rfl,ho ▸ (q9 HR4).more (by omega)⟩
end
section
structure But (L:Nat) (w w':World):Prop where
 os:w'.os=w.os
 tape:w'.tape=w.tape
 output:w'.output=w.output
 size:w.heap.size≤w'.heap.size
 block:∀k,k<w.heap.size→k≠L→w'.heap[k]?=w.heap[k]?
section
variable {L rb:Nat} {w w' w'':World} {ty:TypeId} {cs:Array Value}
theorem But.refl (L:Nat) (w:World):But L w w:=⟨rfl,rfl,rfl,Nat.le_refl _,fun _ _ _=>rfl⟩
theorem But.trans (h:But L w w') (k:But L w' w''):But L w w'':=⟨k.os.trans h.os,k.tape.trans h.tape,k.output.trans h.output,Nat.le_trans h.size k.size,fun i hi hn=>(k.block i (Nat.lt_of_lt_of_le hi h.size) hn).trans (h.block i hi hn)⟩
theorem But.below (h:But L w w') (hb:Below w'.heap.size w' w''):But L w w'':=h.trans ⟨hb.os,hb.tape,hb.output,hb.size,fun k hk _=>hb.block k hk⟩
theorem But.alloc (h:But L w w') (o:Obj):But L w (w'.alloc o):=h.below ((Below.refl _ _).alloc (Nat.le_refl _) o)
theorem But.set (h:But L w w') (i:Nat) (u:Value):But L w (w'.setCell ⟨L,i,none⟩ u):=
 h.trans ⟨rfl,rfl,rfl,by simp,fun k _ hn=>Below.heap_setCell w' ⟨L,i,none⟩ u k hn⟩
theorem But.grown (h:But L w w') {row:Option Nat} (hg:w'.grownBy w'' row) (hr:∀g,row=some g→w.heap.size≤g):But L w w'':=
 ⟨hg.os.trans h.os,hg.tape.trans h.tape,hg.output.trans h.output,Nat.le_trans h.size hg.size,fun k hk hn=>(hg.block k (Nat.lt_of_lt_of_le hk h.size) (fun e=>by have:=hr k e.symm;omega)).trans (h.block k hk hn)⟩
theorem But.cell0 (h:But L w w') (hlt:rb<w.heap.size) (hL:rb≠L) (i:Nat):w'.cell? ⟨rb,i,none⟩=w.cell? ⟨rb,i,none⟩:=World.cell?_of_block (w:=w) (w':=w') (a:=⟨rb,i,none⟩) (h.block rb hlt hL)
theorem But.own (h:But L w w') (hlt:rb<w.heap.size) (hL:rb≠L) (k:Nat):qv5 w' rb k↔qv5 w rb k:=by unfold qv5;rw [h.cell0 hlt hL]
theorem But.row (h:But L w w') (hlt:rb<w.heap.size) (hv:VN w rb L ty cs) {ty':TypeId} (hne:ty'≠ty) {v:Value} {vs:List Value} (hr:RowOf w rb ty' v vs):RowOf w' rb ty' v vs:=by
 have hL:rb≠L:=by have:=hv.past;omega
 rcases hr with hr|⟨g,cap,c,fr,hv',hg,hc,ho,hx⟩
 ·exact .inl hr
 ·have hgL:g≠L:=fun e=>by subst e;rw [hv.blk] at hc;injection hc with e;injection e with _ e2 _;exact hne e2.symm
  have hglt:=(Array.getElem?_eq_some_iff.1 hc).1
  exact .inr ⟨g,cap,c,fr,hv',hg,(h.block g hglt hgL).trans hc,fun h2=>ho ((h.own hlt hL g).1 h2),hx⟩
theorem But.tr {nv:Value} {s:ByteArray} {k a z:Int} {S:ByteArray} {n op er at':Int} (h:But L w w') (hL:rb≠L) (hT:TrC w rb nv s k a z S n op er at'):TrC w' rb nv s k a z S n op er at':=by
 have hc:∀j,w'.cell? ⟨rb,j,none⟩=w.cell? ⟨rb,j,none⟩:=h.cell0 hT.lt hL
 have hf:∀j,w'.frozen? ⟨rb,j,none⟩=w.frozen? ⟨rb,j,none⟩:=fun j=>World.frozen?_of_block (w:=w) (w':=w') (a:=⟨rb,j,none⟩) (h.block rb hT.lt hL)
 exact ⟨Nat.lt_of_lt_of_le hT.lt h.size,(hc _).trans hT.c0,(hc _).trans hT.c1,(hc _).trans hT.c2,(hc _).trans hT.c3,(hc _).trans hT.c4,(hc _).trans hT.c5,(hc _).trans hT.c6,(hc _).trans hT.c7,(hc _).trans hT.c8,(hc _).trans hT.c9,fun j=>(hf j).trans (hT.fz j)⟩
theorem But.nodes {nv:Value} {ns:List RN} (h:But L w w') (hlt:rb<w.heap.size) (c0:w.cell? ⟨rb,0,none⟩=some nv) (hv:VN w rb L ty cs) (h1:(3:TypeId)≠ty) (h2:(9:TypeId)≠ty) (hN:NodesAt w rb nv ns):NodesAt w' rb nv ns:=by
 obtain ⟨rs,hl,ho,hn⟩:=hN
 refine ⟨rs,hl,qt9 ho fun g hg=>h.block g (ho.lt g hg).2 (fun e=>hv.no (.inr ⟨nv,c0,e ▸ hg⟩)),fun i n r e1 e2=>⟨h.row hlt hv h1 (hn i n r e1 e2).1,h.row hlt hv h2 (hn i n r e1 e2).2⟩⟩
theorem But.rt {s:ByteArray} {ns:List RN} {j:Nat} {st:St} (h:But L w w') (hv:VN w rb L ty cs) (h1:(3:TypeId)≠ty) (h2:(9:TypeId)≠ty) (hr:RT w rb s ns j st):RT w' rb s ns j st:=by
 obtain ⟨nv,hT,hN,hF,hj⟩:=hr
 exact ⟨nv,h.tr (by have:=hv.past;omega) hT,h.nodes hT.lt hT.c0 hv h1 h2 hN,hF,hj⟩
theorem But.re {s:ByteArray} {en pl:Int} {op m:Nat} (h:But L w w') (hv:VN w rb L ty cs) (h1:(3:TypeId)≠ty) (h2:(9:TypeId)≠ty) (hr:RE w rb s en pl op m):RE w' rb s en pl op m:=by
 obtain ⟨nv,a,ns,hT,he,hN,hm⟩:=hr
 exact ⟨nv,a,ns,h.tr (by have:=hv.past;omega) hT,he,h.nodes hT.lt hT.c0 hv h1 h2 hN,hm⟩
theorem TKept.but {a:World} (hk:TKept rb a w) (h:But L w w') (hlt:rb<a.heap.size) (hp:a.heap.size≤L):TKept rb a w':=by
 refine ⟨h.os.trans hk.os,h.tape.trans hk.tape,h.output.trans hk.output,Nat.le_trans hk.size h.size,fun k hk1 hn=>(h.block k (Nat.lt_of_lt_of_le hk1 hk.size) (by omega)).trans (hk.block k hk1 hn),fun k hk1 ho=>hk.own k hk1 ((h.own (Nat.lt_of_lt_of_le hlt hk.size) (by omega) k).1 ho)⟩
theorem But.no (h:But L w w') (hv:VN w rb L ty cs) (hlt:rb<w.heap.size):¬qv5 w' rb L:=fun ho=>hv.no ((h.own hlt (by have:=hv.past;omega) L).1 ho)
end
theorem vz4:(Tryz.prog.info? 3).map (fun i=>(i.zero,i.size,i.bytes))=some (some (.int .i64 0),1,8):=by kernel_rfl
theorem app_int1 {W:World} {g:Nat} {i0:Nat} (hg:W.cell? ⟨g,0,none⟩=some (.int .i64 i0)) (a:Nat) :
  ∃g' cap w',(appR #[52,52] 52 #[.slice (some ⟨g,0,none⟩) 1 1,.slice (some ⟨W.heap.size,0,none⟩) 1 1]).run Tryz.prog (W.alloc (.cells #[.int .i64 a] 3))=.ok (.slice (some ⟨g',0,none⟩) 2 cap) w' ∧
   Hid (w'.ownsRow W.heap.size 3 1 (.slice (some ⟨g',0,none⟩) 2 cap) 2 [.int .i64 i0,.int .i64 a])∧Hid (Below W.heap.size W w'):=by
 obtain ⟨i,hi,hz0,hz1,hz2⟩:=info_parts vz4
 have hb:Below W.heap.size W (W.alloc (.cells #[.int .i64 (a:Int)] 3)):=(Below.refl _ _).alloc (Nat.le_refl _) _
 have hglt:g<W.heap.size:=World.block_lt_of_cell? W ⟨g,0,none⟩ hg
 obtain ⟨v',w',hr,ho,hgr⟩:=run_append_arg_grows (P:=Tryz.prog) (w:=W.alloc (.cells #[.int .i64 (a:Int)] 3)) 52 52 3 i _ 1 8 Tryz.underlying52 hi hz0 hz1 hz2 rfl (by omega) ⟨g,0,none⟩ 1 1 [.int .i64 i0] rfl
  (by
   intro j u hu
   rcases j with _|j
   ·simp at hu;subst hu;exact ((v9 hb).1 _ _ hglt).trans hg
   ·simp at hu)
  ⟨W.heap.size,0,none⟩ 1 1 [.int .i64 a] rfl
  (by
   intro j u hu
   rcases j with _|j
   ·simp at hu;subst hu;simp [Addr.add]
   ·simp at hu) (by omega) (by unfold maxLen;omega) (by omega)
 obtain ⟨hl,hn|⟨g',cap,cur,rfl,hbg,hgg,h1,h2,h3,h4⟩⟩:=ho
 ·omega
 ·refine ⟨g',cap,w',hr,v7 ⟨hl,.inr ⟨g',cap,cur,rfl, ?_,hgg,h1,h2,h3,h4⟩⟩,v7 ⟨hgr.os.trans hb.os,hgr.tape.trans hb.tape,hgr.output.trans hb.output,Nat.le_trans hb.size hgr.size,fun k hk=>(hgr.block k (Nat.lt_of_lt_of_le hk hb.size) (by simp)).trans (hb.block k hk)⟩⟩
  simp at hbg;omega
theorem app_int2 {W:World} {B g cap:Nat} {i0 a:Nat} (ho:W.ownsRow B 3 1 (.slice (some ⟨g,0,none⟩) 2 cap) 2 [.int .i64 i0,.int .i64 a]) (hB:B≤W.heap.size) (b:Nat) :
  ∃g' cap' w',(appR #[52,52] 52 #[.slice (some ⟨g,0,none⟩) 2 cap,.slice (some ⟨W.heap.size,0,none⟩) 1 1]).run Tryz.prog (W.alloc (.cells #[.int .i64 b] 3))=.ok (.slice (some ⟨g',0,none⟩) 3 cap') w' ∧
   Hid (w'.ownsRow B 3 1 (.slice (some ⟨g',0,none⟩) 3 cap') 3 [.int .i64 i0,.int .i64 a,.int .i64 b])∧Hid (W.grownBy w' (some g))∧B≤g:=by
 obtain ⟨i,hi,hz0,hz1,hz2⟩:=info_parts vz4
 have hb:Below W.heap.size W (W.alloc (.cells #[.int .i64 (b:Int)] 3)):=(Below.refl _ _).alloc (Nat.le_refl _) _
 have hBg:=ho.lt g rfl
 obtain ⟨g',cap',w',hr,ho',hgr,_,_⟩:=run_append_lies (P:=Tryz.prog) (W.alloc (.cells #[.int .i64 (b:Int)] 3)) 52 52 B 3 i _ 1 8 Tryz.underlying52 hi hz0 hz1 hz2 rfl (by omega) _ 2 _ (World.ownsRow.alloc ho _) ⟨W.heap.size,0,none⟩ 1 1 [.int .i64 b] rfl
  (by
   intro j u hu
   rcases j with _|j
   ·simp at hu;subst hu;simp [Addr.add]
   ·simp at hu) (by simp [Value.oneCell']) (by omega) (by unfold maxLen;omega) (by omega) (by simp;omega) _ rfl
 exact ⟨g',cap',w',hr,v7 ho',v7 ⟨hgr.os.trans hb.os,hgr.tape.trans hb.tape,hgr.output.trans hb.output,Nat.le_trans hb.size hgr.size,fun k hk hn=>(hgr.block k (Nat.lt_of_lt_of_le hk hb.size) hn).trans (hb.block k hk)⟩,hBg.1⟩
theorem own_row {w:World} {B rb:Nat} {ty:TypeId} {g n cap:Nat} {vs:List Value} (ho:w.ownsRow B ty 1 (.slice (some ⟨g,0,none⟩) n cap) n vs) (hB:rb<B) (hn:¬qv5 w rb g):RowOf w rb ty (.slice (some ⟨g,0,none⟩) n cap) vs:=by
 obtain ⟨hl,hx|⟨g',cap',cur,hv,hbg,hgg,h1,h2,h3,h4⟩⟩:=ho
 ·cases hx.1
 ·injection hv with e1 e2 e3
  injection e1 with e1
  injection e1 with e1
  subst e1 e3
  refine .inr ⟨g,cap,cur,(0,0),by rw [show vs.length=n by omega],by omega,hgg,hn,fun j u hj=>?_⟩
  rw [←h4] at hj
  have hj':=List.getElem?_eq_some_iff.1 hj
  have:=hj'.1
  simp only [List.length_take] at this
  rw [List.getElem?_take] at hj
  split at hj
  ·simpa using hj
  ·cases hj
end
end Go.Proofs.YtfkcaldjphakpaaGreatDoor
