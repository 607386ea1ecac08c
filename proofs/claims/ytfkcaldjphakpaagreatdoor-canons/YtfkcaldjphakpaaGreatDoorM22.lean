/- The document's answer: a node that is being made, in a variable; NULL. The document's answer: IS NULL. -/
import Derived.Test.YtfkcaldjphakpaaGreatDoorM21
import Derived.Test.YtfkcaldjphakpaaGreatDoorM05
namespace Go.Proofs.YtfkcaldjphakpaaGreatDoor
open Go.RowKit
section
structure VN (w:World) (rb L:Nat) (ty:TypeId) (cs:Array Value):Prop where
 blk:w.heap[L]?=some (.cells cs ty (0,0))
 past:rb<L
 no:¬qy2 w rb L
section
variable {w w':World} {rb L:Nat} {ty:TypeId} {cs:Array Value}
theorem VN.lt (h:VN w rb L ty cs):L<w.heap.size:=(Array.getElem?_eq_some_iff.1 h.blk).1
theorem VN.cell (h:VN w rb L ty cs) (i:Nat):w.cell? ⟨L,i,none⟩=cs[i]?:=by
 have:=h.blk
 simp [World.cell?,this]
theorem VN.frz (h:VN w rb L ty cs) (i:Nat):w.frozen? ⟨L,i,none⟩=false:=by
 have:=h.blk
 simp [World.frozen?,this]
theorem VN.kept (h:VN w rb L ty cs) (hk:TKept rb w w'):VN w' rb L ty cs:=
 ⟨(hk.block L h.lt h.no).trans h.blk,h.past,fun ho=>h.no (hk.own L h.lt ho)⟩
theorem ja9 (w:World) {rb L:Nat} (hL:L≠rb) (i:Nat) (u:Value) (k:Nat):qy2 (w.setCell ⟨L,i,none⟩ u) rb k↔qy2 w rb k:=by
 have hc:(w.setCell ⟨L,i,none⟩ u).cell? ⟨rb,0,none⟩=w.cell? ⟨rb,0,none⟩:=World.cell?_of_block (w:=w) (a:=⟨rb,0,none⟩) (Below.heap_setCell w ⟨L,i,none⟩ u rb (fun e=>hL e.symm))
 unfold qy2;rw [hc]
theorem VN.set (h:VN w rb L ty cs) (i:Nat) (u:Value):VN (w.setCell ⟨L,i,none⟩ u) rb L ty (cs.setIfInBounds i u):=by
 refine ⟨?_,h.past,fun ho=>h.no ((ja9 w (by have:=h.past;omega) i u L).1 ho)⟩
 have:=h.blk
 simp [World.setCell,Array.getElem?_modify,this]
theorem VN.setB (h:VN w rb L ty cs) {M:Nat} (hM:L≠M) (hMr:M≠rb) (i:Nat) (u:Value):VN (w.setCell ⟨M,i,none⟩ u) rb L ty cs:=
 ⟨(Below.heap_setCell w ⟨M,i,none⟩ u L hM).trans h.blk,h.past,fun ho=>h.no ((ja9 w hMr i u L).1 ho)⟩
theorem VN.rt {s:ByteArray} {ns:List RN} {j:Nat} {st:St} (h:VN w rb L ty cs) (h1:(3:TypeId)≠ty) (h2:(9:TypeId)≠ty) (hr:RT w rb s ns j st) (i:Nat) (u:Value):RT (w.setCell ⟨L,i,none⟩ u) rb s ns j st:=by
 obtain ⟨nv,hT,hN,hF,hj⟩:=hr
 have hL:L≠rb:=by have:=h.past;omega
 have hb:(w.setCell ⟨L,i,none⟩ u).heap[rb]?=w.heap[rb]?:=Below.heap_setCell w ⟨L,i,none⟩ u rb (fun e=>hL e.symm)
 have hc:∀j,(w.setCell ⟨L,i,none⟩ u).cell? ⟨rb,j,none⟩=w.cell? ⟨rb,j,none⟩:=fun j=>World.cell?_of_block (w:=w) (a:=⟨rb,j,none⟩) hb
 have hf:∀j,(w.setCell ⟨L,i,none⟩ u).frozen? ⟨rb,j,none⟩=w.frozen? ⟨rb,j,none⟩:=fun j=>World.frozen?_of_block (w:=w) (a:=⟨rb,j,none⟩) hb
 refine ⟨nv,⟨by simpa using hT.lt,(hc _).trans hT.c0,(hc _).trans hT.c1,(hc _).trans hT.c2,(hc _).trans hT.c3,(hc _).trans hT.c4,(hc _).trans hT.c5,(hc _).trans hT.c6,(hc _).trans hT.c7,(hc _).trans hT.c8,(hc _).trans hT.c9,fun j=>(hf j).trans (hT.fz j)⟩,hN.far h.blk h1 h2 hL (fun e=>h.no (.inr ⟨nv,hT.c0,e⟩)) i u,hF,hj⟩
theorem VN.re {s:ByteArray} {en pl:Int} {op m:Nat} (h:VN w rb L ty cs) (h1:(3:TypeId)≠ty) (h2:(9:TypeId)≠ty) (hr:RE w rb s en pl op m) (i:Nat) (u:Value):RE (w.setCell ⟨L,i,none⟩ u) rb s en pl op m:=by
 obtain ⟨nv,a,ns,hT,he,hN,hm⟩:=hr
 have hL:L≠rb:=by have:=h.past;omega
 have hb:(w.setCell ⟨L,i,none⟩ u).heap[rb]?=w.heap[rb]?:=Below.heap_setCell w ⟨L,i,none⟩ u rb (fun e=>hL e.symm)
 have hc:∀j,(w.setCell ⟨L,i,none⟩ u).cell? ⟨rb,j,none⟩=w.cell? ⟨rb,j,none⟩:=fun j=>World.cell?_of_block (w:=w) (a:=⟨rb,j,none⟩) hb
 have hf:∀j,(w.setCell ⟨L,i,none⟩ u).frozen? ⟨rb,j,none⟩=w.frozen? ⟨rb,j,none⟩:=fun j=>World.frozen?_of_block (w:=w) (a:=⟨rb,j,none⟩) hb
 refine ⟨nv,a,ns,⟨by simpa using hT.lt,(hc _).trans hT.c0,(hc _).trans hT.c1,(hc _).trans hT.c2,(hc _).trans hT.c3,(hc _).trans hT.c4,(hc _).trans hT.c5,(hc _).trans hT.c6,(hc _).trans hT.c7,(hc _).trans hT.c8,(hc _).trans hT.c9,fun j=>(hf j).trans (hT.fz j)⟩,he,hN.far h.blk h1 h2 hL (fun e=>h.no (.inr ⟨nv,hT.c0,e⟩)) i u,hm⟩
theorem VN.row {ty':TypeId} {v:Value} {vs:List Value} (h:VN w rb L ty cs) (h1:ty'≠ty) (hr:RowOf w rb ty' v vs) (i:Nat) (u:Value):RowOf (w.setCell ⟨L,i,none⟩ u) rb ty' v vs:=hr.far h.blk h1 (by have:=h.past;omega) i u
theorem VN.new {s:ByteArray} {ns:List RN} {j:Nat} {st:St} (h:RT w rb s ns j st) (ty:TypeId) (cs:Array Value) {L:Nat} (hL:L=w.heap.size):VN (w.alloc (.cells cs ty)) rb L ty cs:=by
 subst hL;exact ⟨heap_alloc_new w _,h.lt,h.fresh _⟩
theorem VN.newE {s:ByteArray} {en pl:Int} {op m:Nat} (h:RE w rb s en pl op m) (ty:TypeId) (cs:Array Value) {L:Nat} (hL:L=w.heap.size):VN (w.alloc (.cells cs ty)) rb L ty cs:=by
 subst hL;exact ⟨heap_alloc_new w _,h.lt,h.fresh _⟩
theorem VN.alloc (h:VN w rb L ty cs) (hlt:rb<w.heap.size) (o:Obj):VN (w.alloc o) rb L ty cs:=h.kept (TKept.of_below ((Below.refl _ _).alloc (Nat.le_refl _) o) hlt)
end
section
variable {w:World} {rb:Nat} {s:ByteArray} {ns:List RN} {j:Nat} {st:St} {en pl:Int} {op m:Nat}
theorem vu3 (h:RT w rb s ns (j+1) st) (hs:s.size≤200) (p:Pay) (hp:p.num=0) (ins:List Nat) (neg:Bool) {N S E:ByteArray} {iv lv:Value} (hN:BS (qb9 p.op)=N) (hS:BS p.str=S) (hE:BS p.esc=E) (hi:RowOf w rb 3 iv (qy3 ins)) (hl:RowOf w rb 9 lv (qa0 p.texts)) :
  Calls Tryz.prog 216 #[.pointer (some ⟨rb,0,none⟩),.agg #[.string N,.int .i64 p.place,iv,.string S,.string E,lv,.int .i64 0,.bool neg,.int .i64 0]] w
   fun e w'=>e=.returned (.int .i64 ns.length)∧TKept rb w w'∧RT w' rb s (ns++[qj5 p ins neg]) j st:=by
 have:=vp1 h hs (qj5 p ins neg) hi hl
 unfold rnV at this
 have e1:(qj5 p ins neg).op=qb9 p.op:=rfl
 have e2:(qj5 p ins neg).str=p.str:=rfl
 have e3:(qj5 p ins neg).esc=p.esc:=rfl
 have e4:(qj5 p ins neg).num=p.num:=rfl
 rw [e1,e2,e3,e4,hp,hN,hS,hE] at this
 exact this
theorem vb4 (h:RE w rb s en pl op m) (hm:m≤1000) (ins:List Nat) (ts:List (List UInt8)) (neg:Bool) {N S E:ByteArray} {a:Int} {iv lv:Value} (hi:RowOf w rb 3 iv (qy3 ins)) (hl:RowOf w rb 9 lv (qa0 ts)) :
  Calls Tryz.prog 216 #[.pointer (some ⟨rb,0,none⟩),.agg #[.string N,.int .i64 a,iv,.string S,.string E,lv,.int .i64 0,.bool neg,.int .i64 0]] w
   fun e w'=>∃i:Nat,e=.returned (.int .i64 i)∧TKept rb w w'∧RE w' rb s en pl op (m+1):=
 vp0 h hm ⟨N.data.toList,a,ins,S.data.toList,E.data.toList,ts,0,neg,0⟩ hi hl
end
end
section
set_option maxHeartbeats 16000000 in
set_option maxRecDepth 100000 in
theorem rnull_any (rb:Nat) (s:ByteArray) (hs:s.size≤200) (op m:Nat) (hm:201≤m) (w:World) (st:St) (ns new:List RN) (j:Nat) (l:Ast) (h:RT w rb s (ns++new) j st) (ho:st.op=op) (hk:st.tk.kind=14) (hfl:Flat l ns.length new) (i0:Nat) (hi0:i0=ns.length+new.length - 1) :
  Calls Tryz.prog 322 #[.pointer (some ⟨rb,0,none⟩),.int .i64 i0] w (REnds rb s w op m ns j st.place (qd2 s l st)):=by
 obtain ⟨_,c3,_⟩:=h.ct
 have hlt:=h.lt
 have n0:¬w.heap.size=rb:=by omega
 have n1:¬rb=w.heap.size:=by omega
 have n2:¬w.heap.size+1=rb:=by omega
 have n3:¬rb=w.heap.size+1:=by omega
 have hK0:TKept rb w ((w.alloc (.cells #[.int .i64 i0] 3)).alloc (.cells #[.string ⟨#[78,85,76,76]⟩,.int .i64 st.place,.slice (some ⟨w.heap.size,0,none⟩) 1 1,.string ⟨#[]⟩,.string ⟨#[]⟩,.slice none 0 0,.int .i64 0,.bool false,.int .i64 0] 241)):=((TKept.refl rb w).alloc hlt _).alloc hlt _
 have h0:RT ((w.alloc (.cells #[.int .i64 i0] 3)).alloc (.cells #[.string ⟨#[78,85,76,76]⟩,.int .i64 st.place,.slice (some ⟨w.heap.size,0,none⟩) 1 1,.string ⟨#[]⟩,.string ⟨#[]⟩,.slice none 0 0,.int .i64 0,.bool false,.int .i64 0] 241)) rb s (ns++new) j st:=(h.alloc _).alloc _
 have hV0:VN ((w.alloc (.cells #[.int .i64 i0] 3)).alloc (.cells #[.string ⟨#[78,85,76,76]⟩,.int .i64 st.place,.slice (some ⟨w.heap.size,0,none⟩) 1 1,.string ⟨#[]⟩,.string ⟨#[]⟩,.slice none 0 0,.int .i64 0,.bool false,.int .i64 0] 241)) rb (w.heap.size+1) 241 #[.string ⟨#[78,85,76,76]⟩,.int .i64 st.place,.slice (some ⟨w.heap.size,0,none⟩) 1 1,.string ⟨#[]⟩,.string ⟨#[]⟩,.slice none 0 0,.int .i64 0,.bool false,.int .i64 0]:=VN.new (h.alloc _) _ _ (by simp)
 have hR0:RowOf ((w.alloc (.cells #[.int .i64 i0] 3)).alloc (.cells #[.string ⟨#[78,85,76,76]⟩,.int .i64 st.place,.slice (some ⟨w.heap.size,0,none⟩) 1 1,.string ⟨#[]⟩,.string ⟨#[]⟩,.slice none 0 0,.int .i64 0,.bool false,.int .i64 0] 241)) rb 3 (.slice (some ⟨w.heap.size,0,none⟩) 1 1) (qy3 [i0]):=RowOf.kept (RowOf.made hlt h.fresh 3 #[.int .i64 i0] 1 rfl) (TKept.of_below ((Below.refl _ _).alloc (Nat.le_refl _) _) (h.alloc _).lt)
 have hpl:=h.fine.step_place (by omega)
 have HK0:=j4 hK0
 have H0:=j4 h0
 have HV0:=j4 hV0
 have HR0:=j4 hR0
 have HFL:=j4 hfl
 have HI0:=j4 hi0
 have hpl1:(j3 s st).tk.kind≠0→(j3 s st).place<(j3 s (j3 s st)).place:=(qa7 s st h.fine.after).step_place
 have hpl2:(j3 s (j3 s st)).tk.kind≠0→(j3 s (j3 s st)).place<(j3 s (j3 s (j3 s st))).place:=(qa7 s _ (qa7 s st h.fine.after).after).step_place
 clear h hK0 h0 hV0 hR0 hfl hi0
 unfold qd2
 by_cases k7:(j3 s st).tk.kind=7
 ·rw [if_pos k7]
  have hq7:((j3 s st).tk.kind==7)=true:=by rw [k7];rfl
  by_cases k15:(j3 s (j3 s st)).tk.kind=15
  ·rw [if_pos k15]
   go_enter Tryz.func322,Tryz.ntmps322
   go_wp2_with (first|(go_at_call 215;refine (qm7 (q9 HR1) 7 (X:=⟨#[78,79,84]⟩) rfl (by decide) (by decide) rfl).mono ?_;rintro e w' ⟨rfl,hw'⟩;subst w';rw [hq7])|(go_at_call 172;refine (qa6 ((q9 HV1).rt (by decide) (by decide) (q9 HR1) 7 (.bool true)) hs (by omega) (by omega)).mono ?_;rintro e w2 ⟨rfl,hk2,hr2⟩;have HV2:=j4 (((q9 HV1).set 7 (.bool true)).kept hk2);have HRw2:=j4 (((q9 HV1).row (by decide) (q9 HRw1) 7 (.bool true)).kept hk2);have HK2:=j4 (((q9 HK1).far hlt (p:=⟨w.heap.size+1,7,none⟩) (by show w.heap.size≤w.heap.size+1;omega) (.bool true)).trans hk2);have HR2:=j4 hr2;clear hk2 hr2)|(go_at_call 172;refine (qa6 (q9 H0) hs (by omega) (by omega)).mono ?_;rintro e w1 ⟨rfl,hk1,hr1⟩;have hv1:=(q9 HV0).kept hk1;have p7:w1.cell? ⟨w.heap.size+1,7,none⟩=some (.bool false):=hv1.cell 7;have pz:∀i,w1.frozen? ⟨w.heap.size+1,i,none⟩=false:=hv1.frz;have HRw1:=j4 ((q9 HR0).kept hk1);have hK1:=(q9 HK0).trans hk1;have hz1:=hr1.lt;have HV1:=j4 hv1;have HK1:=j4 hK1;have HR1:=j4 hr1;clear hk1 hr1 hv1 hK1)|(go_at_call 343;refine (qz4 (q9 HR2) hs 15 rfl (by decide) (by decide) rfl k15).mono ?_;rintro e w3 ⟨rfl,hk3,hr3⟩;have hv3:=(q9 HV2).kept hk3;have q0:w3.cell? ⟨w.heap.size+1,0,none⟩=some (.string ⟨#[78,85,76,76]⟩):=hv3.cell 0;have q1:w3.cell? ⟨w.heap.size+1,1,none⟩=some (.int .i64 st.place):=hv3.cell 1;have q2:w3.cell? ⟨w.heap.size+1,2,none⟩=some (.slice (some ⟨w.heap.size,0,none⟩) 1 1):=hv3.cell 2;have q3:w3.cell? ⟨w.heap.size+1,3,none⟩=some (.string ⟨#[]⟩):=hv3.cell 3;have q4:w3.cell? ⟨w.heap.size+1,4,none⟩=some (.string ⟨#[]⟩):=hv3.cell 4;have q5:w3.cell? ⟨w.heap.size+1,5,none⟩=some (.slice none 0 0):=hv3.cell 5;have q6:w3.cell? ⟨w.heap.size+1,6,none⟩=some (.int .i64 0):=hv3.cell 6;have q7:w3.cell? ⟨w.heap.size+1,7,none⟩=some (.bool true):=hv3.cell 7;have q8:w3.cell? ⟨w.heap.size+1,8,none⟩=some (.int .i64 0):=hv3.cell 8;have HRw3:=j4 ((q9 HRw2).kept hk3);have HK3:=j4 ((q9 HK2).trans hk3);have HR3:=j4 hr3;clear hk3 hr3 hv3)|(go_at_call 216;refine (vu3 (q9 HR3) hs ⟨23,st.place,0,[],[],[]⟩ rfl [i0] true rfl rfl rfl (q9 HRw3) (RowOf.no _ _ _)).mono ?_;rintro e w4 ⟨rfl,hk4,hr4⟩;have HK4:=j4 ((q9 HK3).trans hk4);have HR4:=j4 hr4;clear hk4 hr4))
   go_ret
   refine ⟨q9 HK4,new++[qj5 ⟨23,st.place,0,[],[],[]⟩ [ns.length+new.length - 1] true],qg5 (by simp), ?_,ho,by have:=hpl1 (by omega);have:=hpl2 (by omega);omega,Flat.neg1 _ _ (.inr (.inr rfl)) (q9 HFL)⟩
   have:=q9 HR4
   rw [List.append_assoc,q9 HI0] at this
   exact this.less (by omega)
  ·rw [if_neg k15]
   go_enter Tryz.func322,Tryz.ntmps322
   go_wp2_with (first|(go_at_call 215;refine (qm7 (q9 HR1) 7 (X:=⟨#[78,79,84]⟩) rfl (by decide) (by decide) rfl).mono ?_;rintro e w' ⟨rfl,hw'⟩;subst w';rw [hq7])|(go_at_call 172;refine (qa6 ((q9 HV1).rt (by decide) (by decide) (q9 HR1) 7 (.bool true)) hs (by omega) (by omega)).mono ?_;rintro e w2 ⟨rfl,hk2,hr2⟩;have HV2:=j4 (((q9 HV1).set 7 (.bool true)).kept hk2);have HRw2:=j4 (((q9 HV1).row (by decide) (q9 HRw1) 7 (.bool true)).kept hk2);have HK2:=j4 (((q9 HK1).far hlt (p:=⟨w.heap.size+1,7,none⟩) (by show w.heap.size≤w.heap.size+1;omega) (.bool true)).trans hk2);have HR2:=j4 hr2;clear hk2 hr2)|(go_at_call 172;refine (qa6 (q9 H0) hs (by omega) (by omega)).mono ?_;rintro e w1 ⟨rfl,hk1,hr1⟩;have hv1:=(q9 HV0).kept hk1;have p7:w1.cell? ⟨w.heap.size+1,7,none⟩=some (.bool false):=hv1.cell 7;have pz:∀i,w1.frozen? ⟨w.heap.size+1,i,none⟩=false:=hv1.frz;have HRw1:=j4 ((q9 HR0).kept hk1);have hK1:=(q9 HK0).trans hk1;have hz1:=hr1.lt;have HV1:=j4 hv1;have HK1:=j4 hK1;have HR1:=j4 hr1;clear hk1 hr1 hv1 hK1)|(go_at_call 343;refine (qt0 (q9 HR2) hs 15 rfl (by decide) (by decide) rfl k15).mono ?_;rintro e w3 ⟨rfl,hk3,hr3⟩;have hv3:=(q9 HV2).kept hk3;have q0:w3.cell? ⟨w.heap.size+1,0,none⟩=some (.string ⟨#[78,85,76,76]⟩):=hv3.cell 0;have q1:w3.cell? ⟨w.heap.size+1,1,none⟩=some (.int .i64 st.place):=hv3.cell 1;have q2:w3.cell? ⟨w.heap.size+1,2,none⟩=some (.slice (some ⟨w.heap.size,0,none⟩) 1 1):=hv3.cell 2;have q3:w3.cell? ⟨w.heap.size+1,3,none⟩=some (.string ⟨#[]⟩):=hv3.cell 3;have q4:w3.cell? ⟨w.heap.size+1,4,none⟩=some (.string ⟨#[]⟩):=hv3.cell 4;have q5:w3.cell? ⟨w.heap.size+1,5,none⟩=some (.slice none 0 0):=hv3.cell 5;have q6:w3.cell? ⟨w.heap.size+1,6,none⟩=some (.int .i64 0):=hv3.cell 6;have q7:w3.cell? ⟨w.heap.size+1,7,none⟩=some (.bool true):=hv3.cell 7;have q8:w3.cell? ⟨w.heap.size+1,8,none⟩=some (.int .i64 0):=hv3.cell 8;have HRw3:=j4 ((q9 HRw2).kept hk3);have HK3:=j4 ((q9 HK2).trans hk3);have HR3:=j4 hr3;clear hk3 hr3 hv3)|(go_at_call 216;refine (vb4 (q9 HR3) (by omega) [i0] [] true (q9 HRw3) (RowOf.no _ _ _)).mono ?_;rintro e w4 ⟨i4,rfl,hk4,hr4⟩;have HK4:=j4 ((q9 HK3).trans hk4);have HR4:=j4 hr4;clear hk4 hr4))
   go_ret
   exact ⟨q9 HK4,i4,rfl,ho ▸ (q9 HR4).more (by omega)⟩
 ·rw [if_neg k7]
  have hq7:((j3 s st).tk.kind==7)=false:=beq_eq_false_iff_ne.2 k7
  by_cases k15:(j3 s st).tk.kind=15
  ·rw [if_pos k15]
   go_enter Tryz.func322,Tryz.ntmps322
   go_wp2_with (first|(go_at_call 215;refine (qm7 (q9 HR1) 7 (X:=⟨#[78,79,84]⟩) rfl (by decide) (by decide) rfl).mono ?_;rintro e w' ⟨rfl,hw'⟩;subst w';rw [hq7])|(go_at_call 172;refine (qa6 (q9 H0) hs (by omega) (by omega)).mono ?_;rintro e w1 ⟨rfl,hk1,hr1⟩;have hv1:=(q9 HV0).kept hk1;have p7:w1.cell? ⟨w.heap.size+1,7,none⟩=some (.bool false):=hv1.cell 7;have pz:∀i,w1.frozen? ⟨w.heap.size+1,i,none⟩=false:=hv1.frz;have HRw1:=j4 ((q9 HR0).kept hk1);have hK1:=(q9 HK0).trans hk1;have hz1:=hr1.lt;have HV1:=j4 hv1;have HK1:=j4 hK1;have HR1:=j4 hr1;clear hk1 hr1 hv1 hK1)|(go_at_call 343;refine (qz4 (q9 HR1) hs 15 rfl (by decide) (by decide) rfl k15).mono ?_;rintro e w3 ⟨rfl,hk3,hr3⟩;have hv3:=(q9 HV1).kept hk3;have q0:w3.cell? ⟨w.heap.size+1,0,none⟩=some (.string ⟨#[78,85,76,76]⟩):=hv3.cell 0;have q1:w3.cell? ⟨w.heap.size+1,1,none⟩=some (.int .i64 st.place):=hv3.cell 1;have q2:w3.cell? ⟨w.heap.size+1,2,none⟩=some (.slice (some ⟨w.heap.size,0,none⟩) 1 1):=hv3.cell 2;have q3:w3.cell? ⟨w.heap.size+1,3,none⟩=some (.string ⟨#[]⟩):=hv3.cell 3;have q4:w3.cell? ⟨w.heap.size+1,4,none⟩=some (.string ⟨#[]⟩):=hv3.cell 4;have q5:w3.cell? ⟨w.heap.size+1,5,none⟩=some (.slice none 0 0):=hv3.cell 5;have q6:w3.cell? ⟨w.heap.size+1,6,none⟩=some (.int .i64 0):=hv3.cell 6;have q7:w3.cell? ⟨w.heap.size+1,7,none⟩=some (.bool false):=hv3.cell 7;have q8:w3.cell? ⟨w.heap.size+1,8,none⟩=some (.int .i64 0):=hv3.cell 8;have HRw3:=j4 ((q9 HRw1).kept hk3);have HK3:=j4 ((q9 HK1).trans hk3);have HR3:=j4 hr3;clear hk3 hr3 hv3)|(go_at_call 216;refine (vu3 (q9 HR3) hs ⟨23,st.place,0,[],[],[]⟩ rfl [i0] false rfl rfl rfl (q9 HRw3) (RowOf.no _ _ _)).mono ?_;rintro e w4 ⟨rfl,hk4,hr4⟩;have HK4:=j4 ((q9 HK3).trans hk4);have HR4:=j4 hr4;clear hk4 hr4))
   go_ret
   refine ⟨q9 HK4,new++[qj5 ⟨23,st.place,0,[],[],[]⟩ [ns.length+new.length - 1] false],qg5 (by simp), ?_,ho,by have:=hpl1 (by omega);omega,Flat.un _ (q9 HFL)⟩
   have:=q9 HR4
   rw [List.append_assoc,q9 HI0] at this
   exact this.less (by omega)
  ·rw [if_neg k15]
   go_enter Tryz.func322,Tryz.ntmps322
   go_wp2_with (first|(go_at_call 215;refine (qm7 (q9 HR1) 7 (X:=⟨#[78,79,84]⟩) rfl (by decide) (by decide) rfl).mono ?_;rintro e w' ⟨rfl,hw'⟩;subst w';rw [hq7])|(go_at_call 172;refine (qa6 (q9 H0) hs (by omega) (by omega)).mono ?_;rintro e w1 ⟨rfl,hk1,hr1⟩;have hv1:=(q9 HV0).kept hk1;have p7:w1.cell? ⟨w.heap.size+1,7,none⟩=some (.bool false):=hv1.cell 7;have pz:∀i,w1.frozen? ⟨w.heap.size+1,i,none⟩=false:=hv1.frz;have HRw1:=j4 ((q9 HR0).kept hk1);have hK1:=(q9 HK0).trans hk1;have hz1:=hr1.lt;have HV1:=j4 hv1;have HK1:=j4 hK1;have HR1:=j4 hr1;clear hk1 hr1 hv1 hK1)|(go_at_call 343;refine (qt0 (q9 HR1) hs 15 rfl (by decide) (by decide) rfl k15).mono ?_;rintro e w3 ⟨rfl,hk3,hr3⟩;have hv3:=(q9 HV1).kept hk3;have q0:w3.cell? ⟨w.heap.size+1,0,none⟩=some (.string ⟨#[78,85,76,76]⟩):=hv3.cell 0;have q1:w3.cell? ⟨w.heap.size+1,1,none⟩=some (.int .i64 st.place):=hv3.cell 1;have q2:w3.cell? ⟨w.heap.size+1,2,none⟩=some (.slice (some ⟨w.heap.size,0,none⟩) 1 1):=hv3.cell 2;have q3:w3.cell? ⟨w.heap.size+1,3,none⟩=some (.string ⟨#[]⟩):=hv3.cell 3;have q4:w3.cell? ⟨w.heap.size+1,4,none⟩=some (.string ⟨#[]⟩):=hv3.cell 4;have q5:w3.cell? ⟨w.heap.size+1,5,none⟩=some (.slice none 0 0):=hv3.cell 5;have q6:w3.cell? ⟨w.heap.size+1,6,none⟩=some (.int .i64 0):=hv3.cell 6;have q7:w3.cell? ⟨w.heap.size+1,7,none⟩=some (.bool false):=hv3.cell 7;have q8:w3.cell? ⟨w.heap.size+1,8,none⟩=some (.int .i64 0):=hv3.cell 8;have HRw3:=j4 ((q9 HRw1).kept hk3);have HK3:=j4 ((q9 HK1).trans hk3);have HR3:=j4 hr3;clear hk3 hr3 hv3)|(go_at_call 216;refine (vb4 (q9 HR3) (by omega) [i0] [] false (q9 HRw3) (RowOf.no _ _ _)).mono ?_;rintro e w4 ⟨i4,rfl,hk4,hr4⟩;have HK4:=j4 ((q9 HK3).trans hk4);have HR4:=j4 hr4;clear hk4 hr4))
   go_ret
   exact ⟨q9 HK4,i4,rfl,ho ▸ (q9 HR4).more (by omega)⟩
end
end Go.Proofs.YtfkcaldjphakpaaGreatDoor
