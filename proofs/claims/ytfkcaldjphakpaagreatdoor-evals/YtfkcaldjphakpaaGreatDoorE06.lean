/- denied. isNull. between. keyword, over what reads on from IN and from LIKE. in. escape. like. Terms by their sides; classes. demand. test, over what reads on from IN and from LIKE. The class of a whole selector. Contracts of package value: Or. Op.Join. -/
import Derived.Test.YtfkcaldjphakpaaGreatDoorE05
import Derived.Test.YtfkcaldjphakpaaGreatDoorE24
import Derived.Deep.RegionWith
import Derived.Deep.DeepCutAuto
set_option maxHeartbeats 4000000
set_option maxRecDepth 100000
namespace Go.Proofs.YtfkcaldjphakpaaGreatDoor
open Go.RowKit
section
def qd6 (s:ByteArray) (fD fT:St→Res) (st:St):Res:=if st.tk.kind=7 then qd4 s fD 5 st else fT st
theorem jc6 (rb:Nat) (s:ByteArray) (op:Nat) (hop:op≤12) (f:St→Res) (hf:op<12→qf6 147 rb s (op+1) f) (w:World) (st:St) (h:Ready rb s w st) (ho:st.op=op) (hk7:st.tk.kind=7) :
  Calls Tryz.prog 147 #[.pointer (some ⟨rb,0,none⟩)] w (Gives rb s w op st.place (qd4 s f 5 st)):=by
 have H:=v7 h
 have hlt:=h.lt
 have hk0:st.tk.kind≠0:=by rw [hk7];decide
 have e7:(st.tk.kind != 7)=false:=by rw [hk7];rfl
 obtain ⟨c0,c1,c2,c3,c4,c5,c6,fz⟩:=h.at'
 clear hk7
 by_cases h12:st.op=12
 ·rw [qd4,if_pos h12]
  have H12:=v7 h12
  clear h hf h12
  go_enter Tryz.func147,Tryz.ntmps147
  go_wp2_with (go_at_call 199;refine (vg7 rb s st _ (q9 H).at' hlt (q9 H12)).mono ?_;rintro e w1 ⟨rfl,hk1⟩;simp only [qa1])
  exact ⟨rfl,hk1,rfl⟩
 ·have hlt12:op<12:=by omega
  have HF:=v7 (hf hlt12)
  have hle:=h.fine.le hk0
  rw [qd4,if_neg h12]
  have HS:Hid (st.op<12):=v7 (by omega)
  have READY:∀w1,Kept rb w w1→RdAt w1 rb s (qj8 s st)→Ready rb s w1 (qj8 s st):=fun w1 hk hr=>h.kept hk hr (h.fine.next.op _)
  have HREADY:=v7 READY
  have hin:(qj8 s st).op=op+1:=by show st.op+1=op+1;omega
  have HIN:=v7 hin
  clear h hf h12 READY hin
  cases hres:f (qj8 s st) with
  | err en pl=>
   have HRES:=v7 hres
   clear hres
   go_enter Tryz.func147,Tryz.ntmps147
   go_wp2_with (first|(go_at_call 199;refine (qr2 rb s st _ (q9 H).size (q9 H).fine.after (q9 H).at' hlt (q9 H).err (q9 H).glob (q9 HS)).mono ?_;rintro e w1 ⟨rfl,hr1,hk1⟩;have hr1:=v7 hr1;have hk1:=v7 hk1;simp only [tkV])|(go_at_call 147;refine (q9 HF _ (qj8 s st) ((q9 HREADY _ (q9 hk1) (q9 hr1)).allocd _) (q9 HIN)).mono ?_;rintro e w2 ⟨hk2,h2⟩;rw [q9 HRES] at h2;subst h2;simp only [qa1]))
   exact ⟨rfl,((q9 hk1).alloc _).trans hk2,rfl⟩
  | ok x st2=>
   have HRES:=v7 hres
   clear hres
   go_enter Tryz.func147,Tryz.ntmps147
   go_wp2_with (first|(go_at_call 199;refine (qr2 rb s st _ (q9 H).size (q9 H).fine.after (q9 H).at' hlt (q9 H).err (q9 H).glob (q9 HS)).mono ?_;rintro e w1 ⟨rfl,hr1,hk1⟩;have hz1:=hk1.size;have hr1:=v7 hr1;have hk1:=v7 hk1;have n1:¬w1.heap.size=rb:=(by omega);have n2:¬rb=w1.heap.size:=(by omega);simp only [tkV])|(go_at_call 147;refine (q9 HF _ (qj8 s st) ((q9 HREADY _ (q9 hk1) (q9 hr1)).allocd _) (q9 HIN)).mono ?_;rintro e w2 ⟨hk2,h2⟩;rw [q9 HRES] at h2;obtain ⟨v2,rfl,hn2,hr2,hf2,ho2,hp2⟩:=h2;obtain ⟨vb,rfl⟩:=hn2.ptr;have hz2:w1.heap.size<w2.heap.size:=(by have:=hk2.size;simp at this;omega);have q1:w2.cell? ⟨w1.heap.size,1,none⟩=some (.int .i64 st.place):=((qa5 hk2).1 _ 1 (by simp) n1).trans (by simp);have d6:w2.cell? ⟨rb,6,none⟩=some (.int .i64 ((op:Int)+1)):=(by rw [hr2.c6,ho2];simp);have dz:=hr2.fz;have hlt2:rb<w2.heap.size:=(by omega);have hr2:=v7 hr2;have hn2:=v7 hn2;have hk2:=v7 hk2;have hf2:=v7 hf2;have ho2:=v7 ho2)|(go_at_call 200;refine (qt8 rb x _ _ _ ((q9 hn2).kept ((Kept.refl rb w2).setCell 6 _)) (by rw [qa8];exact hlt2)).mono ?_;rintro e w3 ⟨⟨v3,rfl,hn3⟩,hb3⟩;have hn3:=v7 hn3;have hb3:=v7 hb3))
   go_ret
   refine ⟨((((q9 hk1).alloc _).trans (q9 hk2)).setCell 6 _).trans (Kept.of_below (q9 hb3)),_,rfl,q9 hn3, ?_,(q9 hf2).op _,ho, ?_⟩
   ·exact ((q9 hr2).setOp st.op _ (by omega)).below (q9 hb3) (by simpa using hlt2)
   ·have h2:(qj8 s st).place=(v6 s st).place:=rfl
    show st.place≤st2.place
    omega
theorem vn0 (rb:Nat) (s:ByteArray) (op:Nat) (hop:op≤12) (fD fT:St→Res) (hD:op<12→qf6 147 rb s (op+1) fD) (hT:qf6 198 rb s op fT):qf6 147 rb s op (qd6 s fD fT):=by
 intro w st h ho
 by_cases h7:st.tk.kind=7
 ·rw [qd6,if_pos h7]
  exact jc6 rb s op hop fD hD w st h ho h7
 ·rw [qd6,if_neg h7]
  have e7:(st.tk.kind != 7)=true:=by simpa using h7
  obtain ⟨c0,c1,c2,c3,c4,c5,c6,fz⟩:=h.at'
  have H:=v7 h
  have HT:=v7 hT
  clear h hT h7
  go_enter Tryz.func147,Tryz.ntmps147
  go_wp2_with fail
  refine (q9 HT _ st (q9 H) ho).mono ?_
  rintro e w' hg
  rcases hg.cases with ⟨v,rfl,hg⟩|⟨en,pl,rfl,hg⟩
  ·have HG:=v7 hg
   clear hg
   go_wp2_with fail
   go_ret
   exact q9 HG
  ·exact ⟨rfl,hg⟩
end
section
def nullOf (st:St) (l:Ast):Ast:=.un ⟨23,st.place,0,[],[],[]⟩ l
def qd0 (s:ByteArray) (l:Ast) (st:St):Res:=
 if (v6 s st).tk.kind=7 then (if (v6 s (v6 s st)).tk.kind=15 then .ok (.un ⟨5,st.place,0,[],[],[]⟩ (nullOf st l)) (v6 s (v6 s (v6 s st))) else .err 2 (v6 s (v6 s st)).place)
 else if (v6 s st).tk.kind=15 then .ok (nullOf st l) (v6 s (v6 s st)) else .err 2 (v6 s st).place
theorem jd6 (rb:Nat) (s:ByteArray) (op:Nat) (l:Ast) (lv:Value) (w:World) (st:St) (h:Ready rb s w st) (ho:st.op=op) (hl:IsNode rb w lv l) (h14:st.tk.kind=14) :
  Calls Tryz.prog 242 #[.pointer (some ⟨rb,0,none⟩),lv] w (Gives rb s w op st.place (qd0 s l st)):=by
 have H:=v7 h
 have hlt:=h.lt
 have hle1:=h.fine.le (by rw [h14];decide)
 have hf1:=h.fine.next
 have H14:=v7 h14
 obtain ⟨lb,rfl⟩:=hl.ptr
 have HL:=v7 hl
 have R1:Hid (∀w1,Kept rb w w1→RdAt w1 rb s (v6 s st)→Ready rb s w1 (v6 s st)):=v7 fun w1 hk hr=>h.kept hk hr hf1
 have R2:Hid (∀w1,Kept rb w w1→RdAt w1 rb s (v6 s (v6 s st))→Ready rb s w1 (v6 s (v6 s st))):=v7 fun w1 hk hr=>h.kept hk hr hf1.next
 clear h hl h14
 by_cases h7:(v6 s st).tk.kind=7
 ·have hle2:=hf1.le (by rw [h7];decide)
  by_cases h15:(v6 s (v6 s st)).tk.kind=15
  ·have hle3:=hf1.next.le (by rw [h15];decide)
   rw [qd0,if_pos h7,if_pos h15]
   have H7:=v7 h7
   have H15:=v7 h15
   have HFN:=v7 hf1.next.next
   clear h7 h15 hf1
   go_enter Tryz.func242,Tryz.ntmps242
   go_wp2_with (first|(go_at_call_of 56 (Value.int IntKind.i64 14);refine (qc3 rb s st 14 _ (q9 H).size (q9 H).fine.after (q9 H).at' hlt (q9 H).err (q9 H14)).mono ?_;rintro e w1 ⟨rfl,hr1,hk1⟩;have hz1:=hk1.size;have n1:¬w1.heap.size=rb:=(by omega);have hR1:=v7 ((q9 R1 _ hk1 hr1).allocd (.cells #[.int .i64 st.tk.kind,.int .i64 st.place,.int .i64 st.tk.num,.string (BS st.tk.str)] 91));have hK1:=v7 hk1;clear hr1 hk1;simp only [tkV])|(go_at_call 267;refine (qu0 rb s (v6 s st) 7 _ (q9 hR1).size (q9 hR1).fine.after (q9 hR1).at' (q9 hR1).lt (q9 hR1).err (q9 H7)).mono ?_;rintro e w2 ⟨rfl,hr2,hk2⟩;have hz2:w1.heap.size<w2.heap.size:=(by have:=hk2.size;simp at this;omega);have q1:w2.cell? ⟨w1.heap.size,1,none⟩=some (.int .i64 st.place):=((qa5 hk2).1 _ 1 (by simp) n1).trans (by simp);have hK2:=v7 (((q9 hK1).alloc _).trans hk2);have hR2:=v7 (q9 R2 _ (((q9 hK1).alloc _).trans hk2) hr2);clear hr2 hk2)|(go_at_call_of 56 (Value.int IntKind.i64 15);refine (qc3 rb s (v6 s (v6 s st)) 15 _ (q9 hR2).size (q9 hR2).fine.after (q9 hR2).at' (q9 hR2).lt (q9 hR2).err (q9 H15)).mono ?_;rintro e w3 ⟨rfl,hr3,hk3⟩;have hz3:w1.heap.size<w3.heap.size:=(by have:=hk3.size;omega);have q3:w3.cell? ⟨w1.heap.size,1,none⟩=some (.int .i64 st.place):=((qa5 hk3).1 _ 1 hz2 n1).trans q1;have hr3:=v7 hr3;have hK3:=v7 ((q9 hK2).trans hk3);clear hk3;simp only [tkV])|(go_at_call 200;refine (qt8 rb (nullOf st l) _ _ _ (IsNode.one ((q9 HL).kept (q9 hK3)) (by omega) 23 st.place) (by simp;omega)).mono ?_;rintro e w4 ⟨⟨v4,rfl,hn4⟩,hb4⟩;have hn4:=v7 hn4;have hb4:=v7 hb4))
   go_ret
   refine ⟨(((q9 hK3).alloc _).alloc _).trans (Kept.of_below (q9 hb4)),_,rfl,q9 hn4, ?_,q9 HFN,ho,by omega⟩
   exact (((q9 hr3).allocd _ (by omega)).allocd _ (by simp;omega)).below (q9 hb4) (by simp;omega)
  ·rw [qd0,if_pos h7,if_neg h15]
   have H7:=v7 h7
   have H15:=v7 h15
   clear h7 h15 hf1
   go_enter Tryz.func242,Tryz.ntmps242
   go_wp2_with (first|(go_at_call_of 56 (Value.int IntKind.i64 14);refine (qc3 rb s st 14 _ (q9 H).size (q9 H).fine.after (q9 H).at' hlt (q9 H).err (q9 H14)).mono ?_;rintro e w1 ⟨rfl,hr1,hk1⟩;have hz1:=hk1.size;have n1:¬w1.heap.size=rb:=(by omega);have hR1:=v7 ((q9 R1 _ hk1 hr1).allocd (.cells #[.int .i64 st.tk.kind,.int .i64 st.place,.int .i64 st.tk.num,.string (BS st.tk.str)] 91));have hK1:=v7 hk1;clear hr1 hk1;simp only [tkV])|(go_at_call 267;refine (qu0 rb s (v6 s st) 7 _ (q9 hR1).size (q9 hR1).fine.after (q9 hR1).at' (q9 hR1).lt (q9 hR1).err (q9 H7)).mono ?_;rintro e w2 ⟨rfl,hr2,hk2⟩;have hz2:w1.heap.size<w2.heap.size:=(by have:=hk2.size;simp at this;omega);have q1:w2.cell? ⟨w1.heap.size,1,none⟩=some (.int .i64 st.place):=((qa5 hk2).1 _ 1 (by simp) n1).trans (by simp);have hK2:=v7 (((q9 hK1).alloc _).trans hk2);have hR2:=v7 (q9 R2 _ (((q9 hK1).alloc _).trans hk2) hr2);clear hr2 hk2)|(go_at_call_of 56 (Value.int IntKind.i64 15);refine (qk6 rb s (v6 s (v6 s st)) 15 _ (q9 hR2).at' (q9 hR2).lt (q9 H15)).mono ?_;rintro e w3 ⟨rfl,hk3⟩;simp only [qa1]))
   exact ⟨rfl,(q9 hK2).trans hk3,rfl⟩
 ·by_cases h15:(v6 s st).tk.kind=15
  ·have hle3:=hf1.le (by rw [h15];decide)
   rw [qd0,if_neg h7,if_pos h15]
   have H7:=v7 h7
   have H15:=v7 h15
   have HFN:=v7 hf1.next
   clear h7 h15 hf1
   go_enter Tryz.func242,Tryz.ntmps242
   go_wp2_with (first|(go_at_call_of 56 (Value.int IntKind.i64 14);refine (qc3 rb s st 14 _ (q9 H).size (q9 H).fine.after (q9 H).at' hlt (q9 H).err (q9 H14)).mono ?_;rintro e w1 ⟨rfl,hr1,hk1⟩;have hz1:=hk1.size;have n1:¬w1.heap.size=rb:=(by omega);have hR1:=v7 ((q9 R1 _ hk1 hr1).allocd (.cells #[.int .i64 st.tk.kind,.int .i64 st.place,.int .i64 st.tk.num,.string (BS st.tk.str)] 91));have hK1:=v7 hk1;clear hr1 hk1;simp only [tkV])|(go_at_call 267;refine (vd2 rb s (v6 s st) 7 _ (q9 hR1).at' (q9 H7)).mono ?_;rintro e w2 ⟨rfl,rfl⟩)|(go_at_call_of 56 (Value.int IntKind.i64 15);refine (qc3 rb s (v6 s st) 15 _ (q9 hR1).size (q9 hR1).fine.after (q9 hR1).at' (q9 hR1).lt (q9 hR1).err (q9 H15)).mono ?_;rintro e w3 ⟨rfl,hr3,hk3⟩;have hz3:w1.heap.size<w3.heap.size:=(by have:=hk3.size;simp at this;omega);have q3:w3.cell? ⟨w1.heap.size,1,none⟩=some (.int .i64 st.place):=((qa5 hk3).1 _ 1 (by simp) n1).trans (by simp);have hr3:=v7 hr3;have hK3:=v7 (((q9 hK1).alloc _).trans hk3);clear hk3;simp only [tkV]))
   go_ret
   refine ⟨((q9 hK3).alloc _).alloc _,_,rfl,IsNode.one ((q9 HL).kept (q9 hK3)) (by omega) 23 st.place,((q9 hr3).allocd _ (by omega)).allocd _ (by simp;omega),q9 HFN,ho,by omega⟩
  ·rw [qd0,if_neg h7,if_neg h15]
   have H7:=v7 h7
   have H15:=v7 h15
   clear h7 h15 hf1
   go_enter Tryz.func242,Tryz.ntmps242
   go_wp2_with (first|(go_at_call_of 56 (Value.int IntKind.i64 14);refine (qc3 rb s st 14 _ (q9 H).size (q9 H).fine.after (q9 H).at' hlt (q9 H).err (q9 H14)).mono ?_;rintro e w1 ⟨rfl,hr1,hk1⟩;have hz1:=hk1.size;have n1:¬w1.heap.size=rb:=(by omega);have hR1:=v7 ((q9 R1 _ hk1 hr1).allocd (.cells #[.int .i64 st.tk.kind,.int .i64 st.place,.int .i64 st.tk.num,.string (BS st.tk.str)] 91));have hK1:=v7 hk1;clear hr1 hk1;simp only [tkV])|(go_at_call 267;refine (vd2 rb s (v6 s st) 7 _ (q9 hR1).at' (q9 H7)).mono ?_;rintro e w2 ⟨rfl,rfl⟩)|(go_at_call_of 56 (Value.int IntKind.i64 15);refine (qk6 rb s (v6 s st) 15 _ (q9 hR1).at' (q9 hR1).lt (q9 H15)).mono ?_;rintro e w3 ⟨rfl,hk3⟩;simp only [qa1]))
   exact ⟨rfl,((q9 hK1).alloc _).trans hk3,rfl⟩
end
section
def qa0 (s:ByteArray) (f:St→Res) (l:Ast) (st:St):Res:=if st.tk.kind=10 then (match f (v6 s st) with
  | .ok lo st1=>if st1.tk.kind=5 then (match f (v6 s st1) with
    | .ok hi st2=>.ok (.tri ⟨20,st.place,0,[],[],[]⟩ l lo hi) st2
    | .err en pl=>.err en pl) else .err 2 st1.place
  | .err en pl=>.err en pl) else .err 2 st.place
theorem IsNode.three {rb:Nat} {w:World} {x y z:Ast} {xv yv zv:Value} (hx:IsNode rb w xv x) (hy:IsNode rb w yv y) (hz:IsNode rb w zv z) (hlt:rb<w.heap.size) (op place:Int) :
  IsNode rb ((w.alloc (.cells #[xv,yv,zv] 67)).alloc (.cells #[.int .i64 op,.int .i64 place,.slice (some ⟨w.heap.size,0,none⟩) 3 3,.int .i64 0,.string ⟨#[]⟩,.string ⟨#[]⟩,.slice none 0 0] 102))
   (.pointer (some ⟨w.heap.size+1,0,none⟩)) (.tri ⟨op,place,0,[],[],[]⟩ x y z):=by
 have hk:Kept rb w ((w.alloc (.cells #[xv,yv,zv] 67)).alloc (.cells #[.int .i64 op,.int .i64 place,.slice (some ⟨w.heap.size,0,none⟩) 3 3,.int .i64 0,.string ⟨#[]⟩,.string ⟨#[]⟩,.slice none 0 0] 102)):=((Kept.refl rb w).alloc _).alloc _
 refine ⟨w.heap.size+1,w.heap.size,xv,yv,zv,rfl,⟨by omega,by simp,by simp,by simp,by simp,by simp,by simp [BS],by simp [BS],.slice none 0 0,by simp,.inl ⟨rfl,rfl⟩⟩,hlt,by simp;omega, ?_, ?_, ?_,hx.kept hk,hy.kept hk,hz.kept hk⟩
 ·rw [World.cell?_alloc_past _ _ _ (by simp),World.cell?_alloc_at _ _ _ _ rfl];rfl
 ·rw [World.cell?_alloc_past _ _ _ (by simp),World.cell?_alloc_at _ _ _ _ rfl];rfl
 ·rw [World.cell?_alloc_past _ _ _ (by simp),World.cell?_alloc_at _ _ _ _ rfl];rfl
theorem vt6 (rb:Nat) (s:ByteArray) (op:Nat) (f:St→Res) (hf:qf6 241 rb s op f) (l:Ast) (lv:Value) (w:World) (st:St) (h:Ready rb s w st) (ho:st.op=op) (hl:IsNode rb w lv l) :
  Calls Tryz.prog 270 #[.pointer (some ⟨rb,0,none⟩),lv] w (Gives rb s w op st.place (qa0 s f l st)):=by
 have H:=v7 h
 have HF:=v7 hf
 have hlt:=h.lt
 obtain ⟨lb,rfl⟩:=hl.ptr
 have HL:=v7 hl
 clear hl hf
 by_cases h10:st.tk.kind=10
 ·rw [qa0,if_pos h10]
  have hle1:=h.fine.le (by rw [h10];decide)
  have hf1:=h.fine.next
  have H10:=v7 h10
  have R1:Hid (∀w1,Kept rb w w1→RdAt w1 rb s (v6 s st)→Ready rb s w1 (v6 s st)):=v7 fun w1 hk hr=>h.kept hk hr hf1
  have ho1:(v6 s st).op=op:=ho
  clear h h10 hf1
  cases hr1:f (v6 s st) with
  | err en pl=>
   have HR1:=v7 hr1
   clear hr1
   go_enter Tryz.func270,Tryz.ntmps270
   go_wp2_with (first|(go_at_call_of 56 (Value.int IntKind.i64 10);refine (qc3 rb s st 10 _ (q9 H).size (q9 H).fine.after (q9 H).at' hlt (q9 H).err (q9 H10)).mono ?_;rintro e w1 ⟨rfl,hr1,hk1⟩;have hz1:=hk1.size;have n1:¬w1.heap.size=rb:=(by omega);have hR1:=v7 ((q9 R1 _ hk1 hr1).allocd (.cells #[.int .i64 st.tk.kind,.int .i64 st.place,.int .i64 st.tk.num,.string (BS st.tk.str)] 91));have hK1:=v7 (hk1.alloc (.cells #[.int .i64 st.tk.kind,.int .i64 st.place,.int .i64 st.tk.num,.string (BS st.tk.str)] 91));clear hr1 hk1;simp only [tkV])|(go_at_call 241;refine (q9 HF _ (v6 s st) (q9 hR1) ho1).mono ?_;rintro e w2 ⟨hk2,h2⟩;rw [q9 HR1] at h2;subst h2;simp only [qa1]))
   exact ⟨rfl,(q9 hK1).trans hk2,rfl⟩
  | ok lo st1=>
   have HR1:=v7 hr1
   clear hr1
   by_cases h5:st1.tk.kind=5
   ·simp only [if_pos h5]
    have H5:=v7 h5
    have H50:Hid (st1.tk.kind≠0):=v7 (by rw [h5];decide)
    clear h5
    cases hr2:f (v6 s st1) with
    | err en pl=>
     have HR2:=v7 hr2
     clear hr2
     go_enter Tryz.func270,Tryz.ntmps270
     go_wp2_with (first|(go_at_call_of 56 (Value.int IntKind.i64 10);refine (qc3 rb s st 10 _ (q9 H).size (q9 H).fine.after (q9 H).at' hlt (q9 H).err (q9 H10)).mono ?_;rintro e w1 ⟨rfl,hr1,hk1⟩;have hz1:=hk1.size;have n1:¬w1.heap.size=rb:=(by omega);have hR1:=v7 ((q9 R1 _ hk1 hr1).allocd (.cells #[.int .i64 st.tk.kind,.int .i64 st.place,.int .i64 st.tk.num,.string (BS st.tk.str)] 91));have hK1:=v7 (hk1.alloc (.cells #[.int .i64 st.tk.kind,.int .i64 st.place,.int .i64 st.tk.num,.string (BS st.tk.str)] 91));clear hr1 hk1;simp only [tkV])|(go_at_call 241;refine (q9 HF _ (v6 s st) (q9 hR1) ho1).mono ?_;rintro e w2 ⟨hk2,h2⟩;rw [q9 HR1] at h2;obtain ⟨v2,rfl,hn2,hr2,hf2,ho2,hp2⟩:=h2;obtain ⟨vb,rfl⟩:=hn2.ptr;have hz2:w1.heap.size<w2.heap.size:=(by have:=hk2.size;simp at this;omega);have q2:w2.cell? ⟨w1.heap.size,1,none⟩=some (.int .i64 st.place):=((qa5 hk2).1 _ 1 (by simp) n1).trans (by simp);have hK2:=v7 ((q9 hK1).trans hk2);have hR2:=v7 ((q9 H).kept ((q9 hK1).trans hk2) hr2 hf2);have hn2:=v7 hn2;have hf2:=v7 hf2;clear hr2 hk2)|(go_at_call_of 56 (Value.int IntKind.i64 5);refine (qc3 rb s st1 5 _ (q9 hR2).size (q9 hR2).fine.after (q9 hR2).at' (q9 hR2).lt (q9 hR2).err (q9 H5)).mono ?_;rintro e w3 ⟨rfl,hr3,hk3⟩;have hz3:w1.heap.size<w3.heap.size:=(by have:=hk3.size;omega);have q3:w3.cell? ⟨w1.heap.size,1,none⟩=some (.int .i64 st.place):=((qa5 hk3).1 _ 1 hz2 n1).trans q2;have hn3:=v7 ((q9 hn2).kept hk3);have hK3:=v7 ((q9 hK2).trans hk3);have hR3:=v7 ((q9 hR2).stepped hk3 hr3);clear hr3 hk3;simp only [tkV]))
     have ho3:(v6 s st1).op=op:=ho2
     go_region_with (first|(go_at_call 241;refine (q9 HF _ (v6 s st1) (q9 hR3) ho3).mono ?_;rintro e w4 ⟨hk4,h4⟩;rw [q9 HR2] at h4;subst h4;refine gone (w:=w4) ⟨rfl,(q9 hK3).trans ((Kept.refl rb w3).drew.trans hk4),rfl⟩ ?_))
     all_goals trivial
    | ok hi st2=>
     have HR2:=v7 hr2
     clear hr2
     go_enter Tryz.func270,Tryz.ntmps270
     go_wp2_with (first|(go_at_call_of 56 (Value.int IntKind.i64 10);refine (qc3 rb s st 10 _ (q9 H).size (q9 H).fine.after (q9 H).at' hlt (q9 H).err (q9 H10)).mono ?_;rintro e w1 ⟨rfl,hr1,hk1⟩;have hz1:=hk1.size;have n1:¬w1.heap.size=rb:=(by omega);have hR1:=v7 ((q9 R1 _ hk1 hr1).allocd (.cells #[.int .i64 st.tk.kind,.int .i64 st.place,.int .i64 st.tk.num,.string (BS st.tk.str)] 91));have hK1:=v7 (hk1.alloc (.cells #[.int .i64 st.tk.kind,.int .i64 st.place,.int .i64 st.tk.num,.string (BS st.tk.str)] 91));clear hr1 hk1;simp only [tkV])|(go_at_call 241;refine (q9 HF _ (v6 s st) (q9 hR1) ho1).mono ?_;rintro e w2 ⟨hk2,h2⟩;rw [q9 HR1] at h2;obtain ⟨v2,rfl,hn2,hr2,hf2,ho2,hp2⟩:=h2;obtain ⟨vb,rfl⟩:=hn2.ptr;have hz2:w1.heap.size<w2.heap.size:=(by have:=hk2.size;simp at this;omega);have q2:w2.cell? ⟨w1.heap.size,1,none⟩=some (.int .i64 st.place):=((qa5 hk2).1 _ 1 (by simp) n1).trans (by simp);have hK2:=v7 ((q9 hK1).trans hk2);have hR2:=v7 ((q9 H).kept ((q9 hK1).trans hk2) hr2 hf2);have hn2:=v7 hn2;have hf2:=v7 hf2;clear hr2 hk2)|(go_at_call_of 56 (Value.int IntKind.i64 5);refine (qc3 rb s st1 5 _ (q9 hR2).size (q9 hR2).fine.after (q9 hR2).at' (q9 hR2).lt (q9 hR2).err (q9 H5)).mono ?_;rintro e w3 ⟨rfl,hr3,hk3⟩;have hz3:w1.heap.size<w3.heap.size:=(by have:=hk3.size;omega);have q3:w3.cell? ⟨w1.heap.size,1,none⟩=some (.int .i64 st.place):=((qa5 hk3).1 _ 1 hz2 n1).trans q2;have hn3:=v7 ((q9 hn2).kept hk3);have hK3:=v7 ((q9 hK2).trans hk3);have hR3:=v7 ((q9 hR2).stepped hk3 hr3);clear hr3 hk3;simp only [tkV]))
     have ho3:(v6 s st1).op=op:=ho2
     go_region_held3 (fun w'=>w'.cell? ⟨w1.heap.size,1,none⟩=some (.int .i64 st.place)) (go_keep) (first|(go_at_call 241;refine (q9 HF _ (v6 s st1) (q9 hR3) ho3).mono ?_;rintro e w4 ⟨hk4,h4⟩;rw [q9 HR2] at h4;obtain ⟨v4,rfl,hn4,hr4,hf4,ho4,hp4⟩:=h4;obtain ⟨vc,rfl⟩:=hn4.ptr;have q4:w4.cell? ⟨w1.heap.size,1,none⟩=some (.int .i64 st.place):=((qa5 hk4).1 _ 1 hz3 n1).trans q3;have hz4:w1.heap.size<w4.heap.size:=Nat.lt_of_lt_of_le hz3 hk4.size;have hk4:=v7 hk4;have hn4:=v7 hn4;have hr4:=v7 hr4;have hf4:=v7 hf4))
     go_wp2_with fail
     go_ret
     have hK4:=(q9 hK3).trans ((Kept.refl rb w3).drew.trans (q9 hk4))
     have hlt4:rb<w4.heap.size:=Nat.lt_of_lt_of_le hlt hK4.size
     refine ⟨(hK4.alloc _).alloc _,_,rfl,IsNode.three ((q9 HL).kept hK4) ((q9 hn3).kept ((Kept.refl rb w3).drew.trans (q9 hk4))) (q9 hn4) hlt4 20 st.place,((q9 hr4).allocd _ hlt4).allocd _ (by simp;omega),q9 hf4,ho4, ?_⟩
     have h1:=(q9 hf2).le (q9 H50)
     omega
   ·simp only [if_neg h5]
    have H5:=v7 h5
    clear h5
    go_enter Tryz.func270,Tryz.ntmps270
    go_wp2_with (first|(go_at_call_of 56 (Value.int IntKind.i64 10);refine (qc3 rb s st 10 _ (q9 H).size (q9 H).fine.after (q9 H).at' hlt (q9 H).err (q9 H10)).mono ?_;rintro e w1 ⟨rfl,hr1,hk1⟩;have hz1:=hk1.size;have n1:¬w1.heap.size=rb:=(by omega);have hR1:=v7 ((q9 R1 _ hk1 hr1).allocd (.cells #[.int .i64 st.tk.kind,.int .i64 st.place,.int .i64 st.tk.num,.string (BS st.tk.str)] 91));have hK1:=v7 (hk1.alloc (.cells #[.int .i64 st.tk.kind,.int .i64 st.place,.int .i64 st.tk.num,.string (BS st.tk.str)] 91));clear hr1 hk1;simp only [tkV])|(go_at_call 241;refine (q9 HF _ (v6 s st) (q9 hR1) ho1).mono ?_;rintro e w2 ⟨hk2,h2⟩;rw [q9 HR1] at h2;obtain ⟨v2,rfl,hn2,hr2,hf2,ho2,hp2⟩:=h2;obtain ⟨vb,rfl⟩:=hn2.ptr;have hz2:w1.heap.size<w2.heap.size:=(by have:=hk2.size;simp at this;omega);have q2:w2.cell? ⟨w1.heap.size,1,none⟩=some (.int .i64 st.place):=((qa5 hk2).1 _ 1 (by simp) n1).trans (by simp);have hK2:=v7 ((q9 hK1).trans hk2);have hR2:=v7 ((q9 H).kept ((q9 hK1).trans hk2) hr2 hf2);have hn2:=v7 hn2;have hf2:=v7 hf2;clear hr2 hk2)|(go_at_call_of 56 (Value.int IntKind.i64 5);refine (qk6 rb s st1 5 _ (q9 hR2).at' (q9 hR2).lt (q9 H5)).mono ?_;rintro e w3 ⟨rfl,hk3⟩;simp only [qa1]))
    exact ⟨rfl,(q9 hK2).trans hk3,rfl⟩
 ·rw [qa0,if_neg h10]
  have H10:=v7 h10
  clear h h10
  go_enter Tryz.func270,Tryz.ntmps270
  go_wp2_with (go_at_call 56;refine (qk6 rb s st 10 _ (q9 H).at' hlt (q9 H10)).mono ?_;rintro e w1 ⟨rfl,hk1⟩;simp only [qa1])
  exact ⟨rfl,hk1,rfl⟩
end
section
def qj5 (K:Nat) (rb:Nat) (s:ByteArray) (op:Nat) (k:Int) (g:Ast→St→Res):Prop:=
 ∀(w:World) (st:St) (l:Ast) (lv:Value),Ready rb s w st→st.op=op→IsNode rb w lv l→st.tk.kind=k→Calls Tryz.prog K #[.pointer (some ⟨rb,0,none⟩),lv] w (Gives rb s w op st.place (g l st))
def qa2 (s:ByteArray) (f:St→Res) (gI gL:Ast→St→Res) (bare:Bool) (l:Ast) (st:St):Res:=
 if st.tk.kind=11∧bare=true then gI l st else if st.tk.kind=12∧bare=true then gL l st else qa0 s f l st
theorem qj0 (rb:Nat) (s:ByteArray) (op:Nat) (f:St→Res) (gI gL:Ast→St→Res) (hf:qf6 241 rb s op f) (hI:qj5 268 rb s op 11 gI) (hL:qj5 269 rb s op 12 gL)
  (bare:Bool) (w:World) (st:St) (l:Ast) (lv:Value) (h:Ready rb s w st) (ho:st.op=op) (hl:IsNode rb w lv l) :
  Calls Tryz.prog 243 #[.pointer (some ⟨rb,0,none⟩),lv,.bool bare] w (Gives rb s w op st.place (qa2 s f gI gL bare l st)):=by
 obtain ⟨c0,c1,c2,c3,c4,c5,c6,fz⟩:=h.at'
 have BET:=v7 (vt6 rb s op f hf l lv w st h ho hl)
 have INN:Hid (st.tk.kind=11→Calls Tryz.prog 268 #[.pointer (some ⟨rb,0,none⟩),lv] w (Gives rb s w op st.place (gI l st))):=v7 fun hk=>hI w st l lv h ho hl hk
 have LIK:Hid (st.tk.kind=12→Calls Tryz.prog 269 #[.pointer (some ⟨rb,0,none⟩),lv] w (Gives rb s w op st.place (gL l st))):=v7 fun hk=>hL w st l lv h ho hl hk
 clear h hl hf hI hL
 by_cases h11:st.tk.kind=11
 ·have e11:(st.tk.kind==11)=true:=by rw [h11];rfl
  have e12:(st.tk.kind==12)=false:=by rw [h11];rfl
  have HK:=v7 h11
  cases bare with
  | false=>
   rw [qa2,if_neg (by simp),if_neg (by simp)]
   clear h11
   go_enter Tryz.func243,Tryz.ntmps243
   go_wp2_with (go_at_call 270;refine (q9 BET).mono ?_;rintro e w' hg;rcases hg.cases with ⟨v,rfl,hg⟩|⟨en,pl,rfl,hg⟩;rotate_left;(exact ⟨rfl,hg⟩);have HG:=v7 hg;clear hg)
   go_ret
   exact q9 HG
  | true=>
   rw [qa2,if_pos ⟨h11,rfl⟩]
   clear h11
   go_enter Tryz.func243,Tryz.ntmps243
   go_wp2_with (go_at_call 268;refine (q9 INN (q9 HK)).mono ?_;rintro e w' hg;rcases hg.cases with ⟨v,rfl,hg⟩|⟨en,pl,rfl,hg⟩;rotate_left;(exact ⟨rfl,hg⟩);have HG:=v7 hg;clear hg)
   go_ret
   exact q9 HG
 ·have e11:(st.tk.kind==11)=false:=beq_eq_false_iff_ne.2 h11
  by_cases h12:st.tk.kind=12
  ·have e12:(st.tk.kind==12)=true:=by rw [h12];rfl
   have HK:=v7 h12
   cases bare with
   | false=>
    rw [qa2,if_neg (by simp),if_neg (by simp)]
    clear h11 h12
    go_enter Tryz.func243,Tryz.ntmps243
    go_wp2_with (go_at_call 270;refine (q9 BET).mono ?_;rintro e w' hg;rcases hg.cases with ⟨v,rfl,hg⟩|⟨en,pl,rfl,hg⟩;rotate_left;(exact ⟨rfl,hg⟩);have HG:=v7 hg;clear hg)
    go_ret
    exact q9 HG
   | true=>
    rw [qa2,if_neg (fun h=>h11 h.1),if_pos ⟨h12,rfl⟩]
    clear h11 h12
    go_enter Tryz.func243,Tryz.ntmps243
    go_wp2_with (go_at_call 269;refine (q9 LIK (q9 HK)).mono ?_;rintro e w' hg;rcases hg.cases with ⟨v,rfl,hg⟩|⟨en,pl,rfl,hg⟩;rotate_left;(exact ⟨rfl,hg⟩);have HG:=v7 hg;clear hg)
    go_ret
    exact q9 HG
  ·have e12:(st.tk.kind==12)=false:=beq_eq_false_iff_ne.2 h12
   rw [qa2,if_neg (fun h=>h11 h.1),if_neg (fun h=>h12 h.1)]
   clear h11 h12
   cases bare with
   | false=>
    go_enter Tryz.func243,Tryz.ntmps243
    go_wp2_with (go_at_call 270;refine (q9 BET).mono ?_;rintro e w' hg;rcases hg.cases with ⟨v,rfl,hg⟩|⟨en,pl,rfl,hg⟩;rotate_left;(exact ⟨rfl,hg⟩);have HG:=v7 hg;clear hg)
    go_ret
    exact q9 HG
   | true=>
    go_enter Tryz.func243,Tryz.ntmps243
    go_wp2_with (go_at_call 270;refine (q9 BET).mono ?_;rintro e w' hg;rcases hg.cases with ⟨v,rfl,hg⟩|⟨en,pl,rfl,hg⟩;rotate_left;(exact ⟨rfl,hg⟩);have HG:=v7 hg;clear hg)
    go_ret
    exact q9 HG
end
section
theorem vb5:(Tryz.prog.info? 9).map (fun i=>(i.zero,i.size,i.bytes))=some (some (.string ⟨#[]⟩),1,16):=by kernel_rfl
theorem vi4 {base e size n:Nat} {w:World} {v:Value} {xs:List Value} (h:w.ownsRow base e size v n xs):∃a m c,v=.slice a m c:=by
 rcases h.2 with ⟨rfl,_⟩|⟨g,cap,cur,rfl,_⟩
 ·exact ⟨_,_,_,rfl⟩
 ·exact ⟨_,_,_,rfl⟩
theorem in_more {rb B:Nat} {s:ByteArray} {w wr w5 w6:World} {sl2:St} {v v':Value} {ts:List (List UInt8)} {t:List UInt8} {o:Obj} {pv:Value}
  (hown':w6.ownsRow (B+1) 9 1 v' (ts.length+1) (x9 ts++[.string (BS t)])) (hgrow:(w5.alloc o).grownBy w6 v.ownBlock) (hown:wr.ownsRow (B+1) 9 1 v ts.length (x9 ts))
  (hr:RdAt w5 rb s sl2) (hlt:rb<w5.heap.size) (hk:Kept rb w wr) (hk5:Kept rb wr w5) (hcr:wr.cell? ⟨B,1,none⟩=some pv) (hBr:B<wr.heap.size) (hbase:rb<B) (hB:w.heap.size≤B) :
  w6.ownsRow (B+1) 9 1 v' (ts++[t]).length (x9 (ts++[t]))∧RdAt w6 rb s sl2∧Kept rb w w6∧w6.cell? ⟨B,1,none⟩=some pv∧B<w6.heap.size:=by
 have hrow:∀k,v.ownBlock=some k→B+1≤k:=fun k hk'=>(hown.lt k hk').1
 have hz:=hk5.size
 have hg:=hgrow.size
 simp at hg
 refine ⟨by rw [List.length_append,x9,List.map_append];exact hown',(hr.allocd o hlt).grown hgrow (by simp;omega) (fun k hk'=>by have:=hrow k hk';omega),((hk.trans hk5).alloc o).grown hgrow (fun k hk'=>by have:=hrow k hk';omega), ?_,by omega⟩
 refine hgrow.cell ?_ (fun e=>by have:=hrow B e.symm;omega)
 rw [World.cell?_alloc_past _ _ _ (by omega)]
 exact ((qa5 hk5).1 B 1 hBr (by omega)).trans hcr
theorem in_reads (rb:Nat) (s:ByteArray) (op:Nat) (hs:s.size≤200):qj5 268 rb s op 11 (qh7 s):=by
 intro w st l lv h ho hl h11
 have H:=v7 h
 have hlt:=h.lt
 have hle1:=h.fine.lt (by rw [h11];decide)
 have hf1:=h.fine.next
 have H11:=v7 h11
 obtain ⟨lb,rfl⟩:=hl.ptr
 have HL:=v7 hl
 have RK:Hid (∀w1 st1,Fine s st1→Kept rb w w1→RdAt w1 rb s st1→Ready rb s w1 st1):=v7 fun w1 st1 hf hk hr=>h.kept hk hr hf
 have HF1:=v7 hf1
 obtain ⟨i0,hi,hz0,hz1',hz2'⟩:=info_parts vb5
 clear h hl h11
 by_cases h26:(v6 s st).tk.kind=26
 ·rw [qh7,if_pos h26]
  have hle2:=hf1.lt (by rw [h26];decide)
  have HF2:=v7 hf1.next
  have H26:=v7 h26
  clear h26
  by_cases h4:(v6 s (v6 s st)).tk.kind=4
  ·rw [if_pos h4]
   have hle3:=hf1.next.lt (by rw [h4];decide)
   have HF3:=v7 hf1.next.next
   have H4:=v7 h4
   have FS:=fun b=>vn5 (v6 s (v6 s st)).tk.kind (v6 s (v6 s st)).place (v6 s (v6 s st)).tk.num b
   clear h4 hf1
   obtain ⟨R,hR⟩:∃r,qg1 s l st.place (s.size+1) [(v6 s (v6 s st)).tk.str] (v6 s (v6 s (v6 s st)))=r:=⟨_,rfl⟩
   rw [hR]
   have HR:=v7 hR
   clear hR
   go_enter Tryz.func268,Tryz.ntmps268
   go_wp2_with (first|(go_at_call_of 56 (Value.int IntKind.i64 11);refine (qc3 rb s st 11 _ (q9 H).size (q9 H).fine.after (q9 H).at' hlt (q9 H).err (q9 H11)).mono ?_;rintro e w1 ⟨rfl,hr1,hk1⟩;have hz1:=hk1.size;have n1:¬w1.heap.size=rb:=(by omega);have hR1:=v7 ((q9 RK _ _ (q9 HF1) hk1 hr1).allocd (.cells #[.int .i64 st.tk.kind,.int .i64 st.place,.int .i64 st.tk.num,.string (BS st.tk.str)] 91));have hK1:=v7 (hk1.alloc (.cells #[.int .i64 st.tk.kind,.int .i64 st.place,.int .i64 st.tk.num,.string (BS st.tk.str)] 91));clear hr1 hk1;simp only [tkV])|(go_at_call_of 56 (Value.int IntKind.i64 26);refine (qc3 rb s (v6 s st) 26 _ (q9 hR1).size (q9 hR1).fine.after (q9 hR1).at' (q9 hR1).lt (q9 hR1).err (q9 H26)).mono ?_;rintro e w2 ⟨rfl,hr2,hk2⟩;have hz2:w1.heap.size<w2.heap.size:=(by have:=hk2.size;simp at this;omega);have q2:w2.cell? ⟨w1.heap.size,1,none⟩=some (.int .i64 st.place):=((qa5 hk2).1 _ 1 (by simp) n1).trans (by simp);have hK2:=v7 ((q9 hK1).trans hk2);have hR2:=v7 (q9 RK _ _ (q9 HF2) (q9 hK2) hr2);clear hr2 hk2;simp only [tkV])|(go_at_call_of 56 (Value.int IntKind.i64 4);refine (qc3 rb s (v6 s (v6 s st)) 4 _ (q9 hR2).size (q9 hR2).fine.after (q9 hR2).at' (q9 hR2).lt (q9 hR2).err (q9 H4)).mono ?_;rintro e w3 ⟨rfl,hr3,hk3⟩;have hz3:w1.heap.size<w3.heap.size:=(by have:=hk3.size;omega);have q3:w3.cell? ⟨w1.heap.size,1,none⟩=some (.int .i64 st.place):=((qa5 hk3).1 _ 1 hz2 n1).trans q2;have hK3:=v7 ((q9 hK2).trans hk3);have hR3:=v7 (q9 RK _ _ (q9 HF3) (q9 hK3) hr3);clear hr3 hk3;simp only [tkV]))
   go_loopw [6] (fun v wr=>∃(n:Nat) (ts:List (List UInt8)) (sl:St),Hid (R=qg1 s l st.place n ts sl)∧s.size<n+sl.place∧Hid (wr.ownsRow (w1.heap.size+1) 9 1 v ts.length (x9 ts))∧Hid (Ready rb s wr sl)∧sl.op=op∧ts.length≤sl.place∧st.place≤sl.place∧Hid (Kept rb w wr)∧wr.cell? ⟨w1.heap.size,1,none⟩=some (.int .i64 st.place)∧w1.heap.size<wr.heap.size) (fun v wr=>s.size+1 - plOf wr rb)
   case atStart=>exact ⟨s.size+1,_,_,v7 (q9 HR).symm,by omega,v7 (textRow _ _ (by omega) _),v7 ((q9 hR3).allocd _),ho,by simp;omega,by omega,v7 ((q9 hK3).alloc _),by rw [World.cell?_alloc_past _ _ _ (by first|omega|(simp;omega))];exact q3,by simp;omega⟩
   case round=>
    obtain ⟨n,ts,sl,hR,hn,hown,hready,hopl,htl,hpl,hk,hcr,hBr⟩:=hrel
    have hfine:=(q9 hready).fine
    have hfp:=hfine.place
    obtain ⟨m,rfl⟩:∃m,n=m+1:=⟨n - 1,by omega⟩
    have hltr:=(q9 hready).lt
    have HPL:=v7 (qq0 (q9 hready).at')
    have hbase:rb<w1.heap.size+1:=by omega
    have HFS:=v7 hfine.next
    have HFS2:=v7 hfine.next.next
    by_cases h28:sl.tk.kind=28
    ·have H28:=v7 h28
     have hlp:=hfine.lt (by rw [h28];decide)
     by_cases h4:(v6 s sl).tk.kind=4
     ·have H4:=v7 h4
      have hlp2:=hfine.next.lt (by rw [h4];decide)
      have hfp2:=hfine.next.next.place
      have HRR:Hid (R=qg1 s l st.place m (ts++[(v6 s sl).tk.str]) (v6 s (v6 s sl))):=v7 (by rw [q9 hR,vb2 h28 h4])
      have FS:=fun b=>vn5 (v6 s sl).tk.kind (v6 s sl).place (v6 s sl).tk.num b
      clear hR h28 h4 hfine
      go_wp2_with (first|(go_at_call 267;refine (qu0 rb s sl 28 _ (q9 hready).size (q9 hready).fine.after (q9 hready).at' hltr (q9 hready).err (q9 H28)).mono ?_;rintro e w4 ⟨rfl,hr4,hk4⟩;have hk4:=v7 hk4;have hR4:=v7 ((q9 hready).kept (q9 hk4) hr4 (q9 HFS));clear hr4)|(go_at_call_of 56 (Value.int IntKind.i64 4);refine (qc3 rb s (v6 s sl) 4 _ (q9 hR4).size (q9 hR4).fine.after (q9 hR4).at' (q9 hR4).lt (q9 hR4).err (q9 H4)).mono ?_;rintro e w5 ⟨rfl,hr5,hk5⟩;have hk5:=v7 ((q9 hk4).trans hk5);have hR5:=v7 ((q9 hready).kept (q9 hk5) hr5 (q9 HFS2));clear hr5;have hz5:=(q9 hk5).size;have hown5:=vi3 (q9 hown) (q9 hk5) hbase;simp only [tkV])|(at_builtin;refine wpList_append_own _ rfl _ _ 62 rfl (w1.heap.size+1) 9 i0 (.string ⟨#[]⟩) 1 16 Tryz.underlying62 hi hz0 hz1' hz2' rfl (by decide) _ _ _ rfl (hown5.alloc _) ⟨w5.heap.size,0,none⟩ 1 1 [.string (BS (v6 s sl).tk.str)] rfl rfl ?c1 ?c2 ?c3 ?c4 ?c5 ?_))
      case c1=>
       intro j u hj
       match j,hj with
       | 0,hj=>simp at hj;subst hj;simp [Addr.add]
       | j+1,hj=>simp at hj
      case c2=>intro u hu;simp at hu;subst hu;rfl
      case c3=>unfold maxLen;omega
      case c4=>omega
      case c5=>simp;omega
      ·intro v' w6 hown' hgrow _
       have G:=in_more hown' hgrow (q9 hown) (q9 hR5).at' (q9 hR5).lt (q9 hk) (q9 hk5) hcr hBr (by omega) (by omega)
       clear hown' hgrow hown hown5
       have HPL2:=v7 (qq0 G.2.1)
       have G:=v7 G
       go_wp2_with fail
       go_roundw
       case rel=>exact ⟨m,_,_,HRR,by omega,v7 (q9 G).1,v7 (q9 RK _ _ (q9 HFS2) (q9 G).2.2.1 (q9 G).2.1),hopl,by simp;omega,by omega,v7 (q9 G).2.2.1,(q9 G).2.2.2.1,(q9 G).2.2.2.2⟩
       case measure=>rw [q9 HPL,q9 HPL2];omega
     ·have H4:=v7 h4
      have HRR:Hid (R=.err 2 (v6 s sl).place):=v7 (by rw [q9 hR,ve7 h28 h4])
      clear hR h28 h4 hfine
      go_wp2_with (first|(go_at_call 267;refine (qu0 rb s sl 28 _ (q9 hready).size (q9 hready).fine.after (q9 hready).at' hltr (q9 hready).err (q9 H28)).mono ?_;rintro e w4 ⟨rfl,hr4,hk4⟩;have hk4:=v7 hk4;have hR4:=v7 ((q9 hready).kept (q9 hk4) hr4 (q9 HFS));clear hr4)|(go_at_call_of 56 (Value.int IntKind.i64 4);refine (qk6 rb s (v6 s sl) 4 _ (q9 hR4).at' (q9 hR4).lt (q9 H4)).mono ?_;rintro e w5 ⟨rfl,hk5⟩;simp only [qa1]))
      rw [q9 HRR]
      exact ⟨rfl,((q9 hk).trans (q9 hk4)).trans hk5,rfl⟩
    ·have H28:=v7 h28
     by_cases h27:sl.tk.kind=27
     ·have H27:=v7 h27
      have hlp:=hfine.lt (by rw [h27];decide)
      have HRR:Hid (R=.ok (.un ⟨21,st.place,0,[],[],ts⟩ l) (v6 s sl)):=v7 (by rw [q9 hR,ve8 h28 h27])
      clear hR h28 h27 hfine
      obtain ⟨va,vn,vc,rfl⟩:=vi4 (q9 hown)
      go_wp2_with (first|(go_at_call 267;refine (vd2 rb s sl 28 _ (q9 hready).at' (q9 H28)).mono ?_;rintro e w4 ⟨rfl,rfl⟩)|(go_at_call_of 56 (Value.int IntKind.i64 27);refine (qc3 rb s sl 27 _ (q9 hready).size (q9 hready).fine.after (q9 hready).at' hltr (q9 hready).err (q9 H27)).mono ?_;rintro e w5 ⟨rfl,hr5,hk5⟩;have q5:w5.cell? ⟨w1.heap.size,1,none⟩=some (.int .i64 st.place):=((qa5 hk5).1 _ 1 hBr n1).trans hcr;have hz5:=hk5.size;have hk5:=v7 hk5;have hr5:=v7 hr5;simp only [tkV]))
      go_ret
      rw [q9 HRR]
      have hK5:=(q9 hk).trans (q9 hk5)
      have hlt5:rb<w5.heap.size:=by omega
      refine ⟨(hK5.alloc _).alloc _,_,rfl,IsNode.texted ((q9 HL).kept hK5) hlt5 ((TextsAt.of_row (q9 hown) hbase).kept (q9 hk5)) 21 st.place [] [],((q9 hr5).allocd _ hlt5).allocd _ (by simp;omega),q9 HFS,hopl,by omega⟩
     ·have H27:=v7 h27
      have HRR:Hid (R=.err 2 sl.place):=v7 (by rw [q9 hR,vb3 h28 h27])
      clear hR h28 h27 hfine
      go_wp2_with (first|(go_at_call 267;refine (vd2 rb s sl 28 _ (q9 hready).at' (q9 H28)).mono ?_;rintro e w4 ⟨rfl,rfl⟩)|(go_at_call_of 56 (Value.int IntKind.i64 27);refine (qk6 rb s sl 27 _ (q9 hready).at' hltr (q9 H27)).mono ?_;rintro e w5 ⟨rfl,hk5⟩;simp only [qa1]))
      rw [q9 HRR]
      exact ⟨rfl,(q9 hk).trans hk5,rfl⟩
  ·rw [if_neg h4]
   have H4:=v7 h4
   clear h4 hf1
   go_enter Tryz.func268,Tryz.ntmps268
   go_wp2_with (first|(go_at_call_of 56 (Value.int IntKind.i64 11);refine (qc3 rb s st 11 _ (q9 H).size (q9 H).fine.after (q9 H).at' hlt (q9 H).err (q9 H11)).mono ?_;rintro e w1 ⟨rfl,hr1,hk1⟩;have hz1:=hk1.size;have n1:¬w1.heap.size=rb:=(by omega);have hR1:=v7 ((q9 RK _ _ (q9 HF1) hk1 hr1).allocd (.cells #[.int .i64 st.tk.kind,.int .i64 st.place,.int .i64 st.tk.num,.string (BS st.tk.str)] 91));have hK1:=v7 (hk1.alloc (.cells #[.int .i64 st.tk.kind,.int .i64 st.place,.int .i64 st.tk.num,.string (BS st.tk.str)] 91));clear hr1 hk1;simp only [tkV])|(go_at_call_of 56 (Value.int IntKind.i64 26);refine (qc3 rb s (v6 s st) 26 _ (q9 hR1).size (q9 hR1).fine.after (q9 hR1).at' (q9 hR1).lt (q9 hR1).err (q9 H26)).mono ?_;rintro e w2 ⟨rfl,hr2,hk2⟩;have hz2:w1.heap.size<w2.heap.size:=(by have:=hk2.size;simp at this;omega);have q2:w2.cell? ⟨w1.heap.size,1,none⟩=some (.int .i64 st.place):=((qa5 hk2).1 _ 1 (by simp) n1).trans (by simp);have hK2:=v7 ((q9 hK1).trans hk2);have hR2:=v7 (q9 RK _ _ (q9 HF2) (q9 hK2) hr2);clear hr2 hk2;simp only [tkV])|(go_at_call_of 56 (Value.int IntKind.i64 4);refine (qk6 rb s (v6 s (v6 s st)) 4 _ (q9 hR2).at' (q9 hR2).lt (q9 H4)).mono ?_;rintro e w3 ⟨rfl,hk3⟩;simp only [qa1]))
   exact ⟨rfl,(q9 hK2).trans hk3,rfl⟩
 ·rw [qh7,if_neg h26]
  have H26:=v7 h26
  clear h26 hf1
  go_enter Tryz.func268,Tryz.ntmps268
  go_wp2_with (first|(go_at_call_of 56 (Value.int IntKind.i64 11);refine (qc3 rb s st 11 _ (q9 H).size (q9 H).fine.after (q9 H).at' hlt (q9 H).err (q9 H11)).mono ?_;rintro e w1 ⟨rfl,hr1,hk1⟩;have hz1:=hk1.size;have n1:¬w1.heap.size=rb:=(by omega);have hR1:=v7 ((q9 RK _ _ (q9 HF1) hk1 hr1).allocd (.cells #[.int .i64 st.tk.kind,.int .i64 st.place,.int .i64 st.tk.num,.string (BS st.tk.str)] 91));have hK1:=v7 (hk1.alloc (.cells #[.int .i64 st.tk.kind,.int .i64 st.place,.int .i64 st.tk.num,.string (BS st.tk.str)] 91));clear hr1 hk1;simp only [tkV])|(go_at_call_of 56 (Value.int IntKind.i64 26);refine (qk6 rb s (v6 s st) 26 _ (q9 hR1).at' (q9 hR1).lt (q9 H26)).mono ?_;rintro e w2 ⟨rfl,hk2⟩;simp only [qa1]))
  exact ⟨rfl,(q9 hK1).trans hk2,rfl⟩
end
section
theorem vc4:(l:List UInt8)→∀r,qh3 l=some r→r.1.length≤l.length
 | [],r,h=>by simp [qh3] at h
 | [c],r,h=>by
  simp only [qh3] at h;split at h
  ·injection h with h;subst h;simp
  ·cases h
 | c::d::t,r,h=>by
  simp only [qh3] at h
  split at h
  ·split at h
   ·cases hq:qh3 t with
    | none=>rw [hq] at h;cases h
    | some q=>rw [hq] at h;injection h with h;subst h;have:=vc4 t q hq;simp;omega
   ·injection h with h;subst h;simp
  ·cases hq:qh3 (d::t) with
   | none=>rw [hq] at h;cases h
   | some q=>rw [hq] at h;injection h with h;subst h;have:=vc4 (d::t) q hq;simp at *;omega
theorem vu6 (l:List UInt8):(qe4 l).str.length≤l.length:=by
 unfold qe4
 split
 ·simp [j6]
 ·rename_i c t
  split
  ·unfold qi4;split
   ·simp only [List.length_take];omega
   ·simp [j6]
  split
  ·unfold qq6;split<;>simp [j6]
  split
  ·unfold qh9;split
   ·rename_i r hr
    have:=vc4 _ _ hr
    rw [List.length_drop] at this
    show r.1.length≤_
    omega
   ·simp [j6]
  ·simp [j6]
theorem qz2 (s:ByteArray) (st:St):(v6 s st).tk.str.length≤s.size:=by
 show (qd3 s.data.toList st.after).str.length≤s.size
 unfold qd3
 split
 ·have:=vu6 (s.data.toList.drop (qe8 s.data.toList st.after))
  rw [List.length_drop,j4] at this
  omega
 ·simp [j6]
inductive ERes where
 | ok (str:List UInt8) (st:St)
 | err (pl:Int)
def qq4 (s:ByteArray) (ft:Tk) (fp:Nat) (st:St):ERes:=
 if st.tk.kind=4 then (if st.tk.str.length=1 then (if (qk3 st.tk.str ft.str).isSome=true then .ok st.tk.str (v6 s st) else .err fp) else .err st.place) else .err st.place
def EscEnds (rb:Nat) (s:ByteArray) (w:World) (r:ERes) (e:Ending) (w':World):Prop:=
 Kept rb w w'∧match r with
 | .ok str st=>e=.returned (.string (BS str))∧RdAt w' rb s st
 | .err pl=>e=qa1 2 pl
theorem ve5 (rb:Nat) (s:ByteArray) (ft:Tk) (fp:Nat) (hft:ft.str.length≤200) (w:World) (st:St) (h:Ready rb s w st) :
  Calls Tryz.prog 302 #[.pointer (some ⟨rb,0,none⟩),tkV ft fp] w (EscEnds rb s w (qq4 s ft fp st)):=by
 have H:=v7 h
 have HA:=v7 (h.allocd (.cells #[.int .i64 ft.kind,.int .i64 fp,.int .i64 ft.num,.string (BS ft.str)] 91))
 have hlt:=h.lt
 have n0:¬w.heap.size=rb:=by omega
 have hz:=qi8 st.tk.str
 have hpz:(BS ft.str).size≤200:=by rw [qi8];exact hft
 clear h
 simp only [tkV]
 by_cases h4:st.tk.kind=4
 ·rw [qq4,if_pos h4]
  have H4:=v7 h4
  clear h4
  by_cases h1:st.tk.str.length=1
  ·rw [if_pos h1]
   have hz1:(BS st.tk.str).size=1:=by omega
   have hzb:(((BS st.tk.str).size:Int) != 1)=false:=by rw [hz1];rfl
   clear hz h1 hz1
   have VAL:=v7 (fun w=>valid_any (BS ft.str) (BS st.tk.str) hpz w)
   cases hv:(qk3 st.tk.str ft.str).isSome with
   | true=>
    have HV:Hid ((qk3 (BS st.tk.str).data.toList (BS ft.str).data.toList).isSome=true):=v7 (by rw [qm6,qm6];exact hv)
    rw [if_pos rfl]
    clear hv
    go_enter Tryz.func302,Tryz.ntmps302
    go_wp2_with (first|(go_at_call 56;refine (qc3 rb s st 4 _ (q9 H).size (q9 H).fine.after (q9 HA).at' (q9 HA).lt (q9 HA).err (q9 H4)).mono ?_;rintro e w1 ⟨rfl,hr1,hk1⟩;have hz1:w.heap.size<w1.heap.size:=(by have:=hk1.size;simp at this;omega);have n1:¬w1.heap.size=rb:=(by omega);have p1:w1.cell? ⟨w.heap.size,1,none⟩=some (.int .i64 fp):=((qa5 hk1).1 _ 1 (by simp) n0).trans (by simp);have p3:w1.cell? ⟨w.heap.size,3,none⟩=some (.string (BS ft.str)):=((qa5 hk1).1 _ 3 (by simp) n0).trans (by simp);have hK1:=v7 ((((Kept.refl rb w).alloc (.cells #[.int .i64 ft.kind,.int .i64 fp,.int .i64 ft.num,.string (BS ft.str)] 91)).trans hk1).alloc (.cells #[.int .i64 st.tk.kind,.int .i64 st.place,.int .i64 st.tk.num,.string (BS st.tk.str)] 91));have hR1:=v7 (hr1.allocd (.cells #[.int .i64 st.tk.kind,.int .i64 st.place,.int .i64 st.tk.num,.string (BS st.tk.str)] 91) (by omega));clear hr1 hk1;simp only [tkV])|(go_at_call 332;go_loud (refine (q9 VAL _).mono ?_;rintro e w2 ⟨rfl,hb2⟩;rw [q9 HV];obtain ⟨hc,hf⟩:=v9 hb2;have z2:=hb2.size;have q1:w2.cell? ⟨w.heap.size,1,none⟩=some (.int .i64 fp):=(hc _ 1 (by simp;omega)).trans (by rw [World.cell?_alloc_past _ _ _ (by first|omega|(simp;omega))];exact p1);have q3:w2.cell? ⟨w1.heap.size,3,none⟩=some (.string (BS st.tk.str)):=(hc _ 3 (by simp)).trans (by simp);have hb2:=v7 hb2;clear hc hf)))
    go_ret
    exact ⟨(q9 hK1).trans (Kept.of_below (q9 hb2)),rfl,(q9 hR1).below (q9 hb2) (by simp;omega)⟩
   | false=>
    have HV:Hid ((qk3 (BS st.tk.str).data.toList (BS ft.str).data.toList).isSome=false):=v7 (by rw [qm6,qm6];exact hv)
    rw [if_neg (by simp)]
    clear hv
    go_enter Tryz.func302,Tryz.ntmps302
    go_wp2_with (first|(go_at_call 56;refine (qc3 rb s st 4 _ (q9 H).size (q9 H).fine.after (q9 HA).at' (q9 HA).lt (q9 HA).err (q9 H4)).mono ?_;rintro e w1 ⟨rfl,hr1,hk1⟩;have hz1:w.heap.size<w1.heap.size:=(by have:=hk1.size;simp at this;omega);have n1:¬w1.heap.size=rb:=(by omega);have p1:w1.cell? ⟨w.heap.size,1,none⟩=some (.int .i64 fp):=((qa5 hk1).1 _ 1 (by simp) n0).trans (by simp);have p3:w1.cell? ⟨w.heap.size,3,none⟩=some (.string (BS ft.str)):=((qa5 hk1).1 _ 3 (by simp) n0).trans (by simp);have hK1:=v7 ((((Kept.refl rb w).alloc (.cells #[.int .i64 ft.kind,.int .i64 fp,.int .i64 ft.num,.string (BS ft.str)] 91)).trans hk1).alloc (.cells #[.int .i64 st.tk.kind,.int .i64 st.place,.int .i64 st.tk.num,.string (BS st.tk.str)] 91));have hR1:=v7 (hr1.allocd (.cells #[.int .i64 st.tk.kind,.int .i64 st.place,.int .i64 st.tk.num,.string (BS st.tk.str)] 91) (by omega));clear hr1 hk1;simp only [tkV])|(go_at_call 332;go_loud (refine (q9 VAL _).mono ?_;rintro e w2 ⟨rfl,hb2⟩;rw [q9 HV];obtain ⟨hc,hf⟩:=v9 hb2;have z2:=hb2.size;have q1:w2.cell? ⟨w.heap.size,1,none⟩=some (.int .i64 fp):=(hc _ 1 (by simp;omega)).trans (by rw [World.cell?_alloc_past _ _ _ (by first|omega|(simp;omega))];exact p1);have q3:w2.cell? ⟨w1.heap.size,3,none⟩=some (.string (BS st.tk.str)):=(hc _ 3 (by simp)).trans (by simp);have hb2:=v7 hb2;clear hc hf))|(go_at_call 103;refine (qy7 _ _ _).mono ?_;rintro e w2 ⟨rfl,rfl⟩;simp only [qa1]))
    exact ⟨rfl,(q9 hK1).trans (Kept.of_below (q9 hb2)),rfl⟩
  ·rw [if_neg h1]
   have hzb:(((BS st.tk.str).size:Int) != 1)=true:=bne_iff_ne.2 (by rw [hz];omega)
   clear hz h1
   go_enter Tryz.func302,Tryz.ntmps302
   go_wp2_with (first|(go_at_call 56;refine (qc3 rb s st 4 _ (q9 H).size (q9 H).fine.after (q9 HA).at' (q9 HA).lt (q9 HA).err (q9 H4)).mono ?_;rintro e w1 ⟨rfl,hr1,hk1⟩;have hz1:w.heap.size<w1.heap.size:=(by have:=hk1.size;simp at this;omega);have n1:¬w1.heap.size=rb:=(by omega);have p1:w1.cell? ⟨w.heap.size,1,none⟩=some (.int .i64 fp):=((qa5 hk1).1 _ 1 (by simp) n0).trans (by simp);have p3:w1.cell? ⟨w.heap.size,3,none⟩=some (.string (BS ft.str)):=((qa5 hk1).1 _ 3 (by simp) n0).trans (by simp);have hK1:=v7 ((((Kept.refl rb w).alloc (.cells #[.int .i64 ft.kind,.int .i64 fp,.int .i64 ft.num,.string (BS ft.str)] 91)).trans hk1).alloc (.cells #[.int .i64 st.tk.kind,.int .i64 st.place,.int .i64 st.tk.num,.string (BS st.tk.str)] 91));have hR1:=v7 (hr1.allocd (.cells #[.int .i64 st.tk.kind,.int .i64 st.place,.int .i64 st.tk.num,.string (BS st.tk.str)] 91) (by omega));clear hr1 hk1;simp only [tkV])|(go_at_call 103;refine (qy7 _ _ _).mono ?_;rintro e w2 ⟨rfl,rfl⟩;simp only [qa1]))
   exact ⟨rfl,q9 hK1,rfl⟩
 ·rw [qq4,if_neg h4]
  have H4:=v7 h4
  clear h4
  go_enter Tryz.func302,Tryz.ntmps302
  go_wp2_with (go_at_call 56;refine (qk6 rb s st 4 _ (q9 HA).at' (q9 HA).lt (q9 H4)).mono ?_;rintro e w1 ⟨rfl,hk1⟩;simp only [qa1])
  exact ⟨rfl,((Kept.refl rb w).alloc _).trans hk1,rfl⟩
end
section
def qa9 (s:ByteArray) (l:Ast) (st:St):Res:=
 if (v6 s st).tk.kind=4 then
  (if (v6 s (v6 s st)).tk.kind=13 then
   (match qq4 s (v6 s st).tk (v6 s st).place (v6 s (v6 s (v6 s st))) with
    | .ok str st'=>.ok (.un ⟨22,st.place,0,(v6 s st).tk.str,str,[]⟩ l) st'
    | .err pl=>.err 2 pl)
  else .ok (.un ⟨22,st.place,0,(v6 s st).tk.str,[],[]⟩ l) (v6 s (v6 s st)))
 else .err 2 (v6 s st).place
theorem qv8 {s:ByteArray} {ft:Tk} {fp:Nat} {st:St} {str:List UInt8} {st':St} (h:qq4 s ft fp st=.ok str st'):st.tk.kind=4∧st'=v6 s st:=by
 unfold qq4 at h
 split at h
 ·rename_i h4
  split at h
  ·split at h
   ·injection h with _ h2;exact ⟨h4,h2.symm⟩
   ·cases h
  ·cases h
 ·cases h
theorem jd9 (rb:Nat) (s:ByteArray) (op:Nat) (hs:s.size≤200):qj5 269 rb s op 12 (qa9 s):=by
 intro w st l lv h ho hl h12
 have H:=v7 h
 have hlt:=h.lt
 have hf1:=h.fine.next
 have hp1:=h.fine.le (by rw [h12];decide)
 have H12:=v7 h12
 obtain ⟨lb,rfl⟩:=hl.ptr
 have HL:=v7 hl
 have RK:Hid (∀w1 st1,Fine s st1→Kept rb w w1→RdAt w1 rb s st1→Ready rb s w1 st1):=v7 fun w1 st1 hf hk hr=>h.kept hk hr hf
 have hl1:(v6 s st).tk.str.length≤200:=Nat.le_trans (qz2 s st) hs
 have ho1:(v6 s st).op=op:=ho
 unfold qa9
 clear h hl h12
 obtain ⟨st1,h1⟩:∃x,v6 s st=x:=⟨_,rfl⟩
 have S1:=v7 h1
 rw [h1] at hf1 hl1 ho1 hp1 ⊢
 clear h1
 have HF1:=v7 hf1
 by_cases h4:st1.tk.kind=4
 ·rw [if_pos h4]
  have H4:=v7 h4
  have hf2:=hf1.next
  have hp2:=hf1.le (by rw [h4];decide)
  have ho2:(v6 s st1).op=op:=ho1
  obtain ⟨st2,h2⟩:∃x,v6 s st1=x:=⟨_,rfl⟩
  have S2:=v7 h2
  rw [h2] at hf2 ho2 hp2 ⊢
  have HF2:=v7 hf2
  clear h4 h2 hf1
  by_cases h13:st2.tk.kind=13
  ·rw [if_pos h13]
   have H13:=v7 h13
   have hf3:=hf2.next
   have hp3:=hf2.le (by rw [h13];decide)
   have ho3:(v6 s st2).op=op:=ho2
   obtain ⟨st3,h3⟩:∃x,v6 s st2=x:=⟨_,rfl⟩
   have S3:=v7 h3
   rw [h3] at hf3 ho3 hp3 ⊢
   have HF3:=v7 hf3
   clear h13 h3 hf2
   cases he:qq4 s st1.tk st1.place st3 with
   | ok str st4=>
    obtain ⟨hk4,h4'⟩:=qv8 he
    have hf4:=hf3.next
    have hp4:=hf3.le (by rw [hk4];decide)
    have ho4:(v6 s st3).op=op:=ho3
    rw [←h4'] at hf4 ho4 hp4
    have HE:=v7 he
    have HF4:=v7 hf4
    clear he hf3 hf4 hk4 h4'
    go_enter Tryz.func269,Tryz.ntmps269
    go_wp2_with (first|(go_at_call_of 56 (Value.int IntKind.i64 12);refine (qc3 rb s st 12 _ (q9 H).size (q9 H).fine.after (q9 H).at' hlt (q9 H).err (q9 H12)).mono ?_;rw [q9 S1];rintro e w1 ⟨rfl,hr1,hk1⟩;have hz1:=hk1.size;have n1:¬w1.heap.size=rb:=(by omega);have hR1:=v7 ((q9 RK _ _ (q9 HF1) hk1 hr1).allocd (.cells #[.int .i64 st.tk.kind,.int .i64 st.place,.int .i64 st.tk.num,.string (BS st.tk.str)] 91));have hK1:=v7 (hk1.alloc (.cells #[.int .i64 st.tk.kind,.int .i64 st.place,.int .i64 st.tk.num,.string (BS st.tk.str)] 91));clear hr1 hk1;simp only [tkV])|(go_at_call_of 56 (Value.int IntKind.i64 4);refine (qc3 rb s st1 4 _ (q9 hR1).size (q9 hR1).fine.after (q9 hR1).at' (q9 hR1).lt (q9 hR1).err (q9 H4)).mono ?_;rw [q9 S2];rintro e w2 ⟨rfl,hr2,hk2⟩;have hz2:w1.heap.size<w2.heap.size:=(by have:=hk2.size;simp at this;omega);have n2:¬w2.heap.size=rb:=(by omega);have q2:(w2.alloc (.cells #[.int .i64 st1.tk.kind,.int .i64 st1.place,.int .i64 st1.tk.num,.string (BS st1.tk.str)] 91)).cell? ⟨w1.heap.size,1,none⟩=some (.int .i64 st.place):=(by rw [World.cell?_alloc_past _ _ _ (by first|omega|(simp;omega))];exact ((qa5 hk2).1 _ 1 (by simp) n1).trans (by simp));have hK2:=v7 (((q9 hK1).trans hk2).alloc (.cells #[.int .i64 st1.tk.kind,.int .i64 st1.place,.int .i64 st1.tk.num,.string (BS st1.tk.str)] 91));have hR2:=v7 ((q9 RK _ _ (q9 HF2) ((q9 hK1).trans hk2) hr2).allocd (.cells #[.int .i64 st1.tk.kind,.int .i64 st1.place,.int .i64 st1.tk.num,.string (BS st1.tk.str)] 91));clear hr2 hk2;simp only [tkV])|(go_at_call 267;refine (qu0 rb s st2 13 _ (q9 hR2).size (q9 hR2).fine.after (q9 hR2).at' (q9 hR2).lt (q9 hR2).err (q9 H13)).mono ?_;rw [q9 S3];rintro e w3 ⟨rfl,hr3,hk3⟩;have hz3:w2.heap.size<w3.heap.size:=(by have:=hk3.size;simp at this;omega);obtain ⟨kc,kf⟩:=qa5 hk3;have r0:w3.cell? ⟨w2.heap.size,0,none⟩=some (.int .i64 st1.tk.kind):=(kc _ 0 (by simp) n2).trans (by simp);have r1:w3.cell? ⟨w2.heap.size,1,none⟩=some (.int .i64 st1.place):=(kc _ 1 (by simp) n2).trans (by simp);have r2:w3.cell? ⟨w2.heap.size,2,none⟩=some (.int .i64 st1.tk.num):=(kc _ 2 (by simp) n2).trans (by simp);have r3:w3.cell? ⟨w2.heap.size,3,none⟩=some (.string (BS st1.tk.str)):=(kc _ 3 (by simp) n2).trans (by simp);have q3:w3.cell? ⟨w1.heap.size,1,none⟩=some (.int .i64 st.place):=(kc _ 1 (by simp;omega) n1).trans q2;have hK3:=v7 ((q9 hK2).trans hk3);have hR3:=v7 (q9 RK _ _ (q9 HF3) (q9 hK3) hr3);clear hr3 hk3 kc kf)|(go_at_call 302;refine (ve5 rb s st1.tk st1.place hl1 _ st3 (q9 hR3)).mono ?_;rintro e w4 ⟨hk4,h4⟩;rw [q9 HE] at h4;obtain ⟨rfl,hr4⟩:=h4;have hz4:w2.heap.size<w4.heap.size:=(by have:=hk4.size;omega);obtain ⟨kc,kf⟩:=qa5 hk4;have u3:w4.cell? ⟨w2.heap.size,3,none⟩=some (.string (BS st1.tk.str)):=(kc _ 3 hz3 n2).trans r3;have u1:w4.cell? ⟨w1.heap.size,1,none⟩=some (.int .i64 st.place):=(kc _ 1 (by omega) n1).trans q3;have hK4:=v7 ((q9 hK3).trans hk4);have hr4:=v7 hr4;clear hk4 kc kf))
    go_ret
    have hlt4:rb<w4.heap.size:=Nat.lt_of_lt_of_le hlt (q9 hK4).size
    refine ⟨((q9 hK4).alloc _).alloc _,_,rfl,IsNode.texted ((q9 HL).kept (q9 hK4)) hlt4 (.inl ⟨rfl,rfl⟩) 22 st.place _ _,((q9 hr4).allocd _ hlt4).allocd _ (by simp;omega),q9 HF4,ho4,by omega⟩
   | err pl=>
    have HE:=v7 he
    clear he hf3
    go_enter Tryz.func269,Tryz.ntmps269
    go_wp2_with (first|(go_at_call_of 56 (Value.int IntKind.i64 12);refine (qc3 rb s st 12 _ (q9 H).size (q9 H).fine.after (q9 H).at' hlt (q9 H).err (q9 H12)).mono ?_;rw [q9 S1];rintro e w1 ⟨rfl,hr1,hk1⟩;have hz1:=hk1.size;have n1:¬w1.heap.size=rb:=(by omega);have hR1:=v7 ((q9 RK _ _ (q9 HF1) hk1 hr1).allocd (.cells #[.int .i64 st.tk.kind,.int .i64 st.place,.int .i64 st.tk.num,.string (BS st.tk.str)] 91));have hK1:=v7 (hk1.alloc (.cells #[.int .i64 st.tk.kind,.int .i64 st.place,.int .i64 st.tk.num,.string (BS st.tk.str)] 91));clear hr1 hk1;simp only [tkV])|(go_at_call_of 56 (Value.int IntKind.i64 4);refine (qc3 rb s st1 4 _ (q9 hR1).size (q9 hR1).fine.after (q9 hR1).at' (q9 hR1).lt (q9 hR1).err (q9 H4)).mono ?_;rw [q9 S2];rintro e w2 ⟨rfl,hr2,hk2⟩;have hz2:w1.heap.size<w2.heap.size:=(by have:=hk2.size;simp at this;omega);have n2:¬w2.heap.size=rb:=(by omega);have q2:(w2.alloc (.cells #[.int .i64 st1.tk.kind,.int .i64 st1.place,.int .i64 st1.tk.num,.string (BS st1.tk.str)] 91)).cell? ⟨w1.heap.size,1,none⟩=some (.int .i64 st.place):=(by rw [World.cell?_alloc_past _ _ _ (by first|omega|(simp;omega))];exact ((qa5 hk2).1 _ 1 (by simp) n1).trans (by simp));have hK2:=v7 (((q9 hK1).trans hk2).alloc (.cells #[.int .i64 st1.tk.kind,.int .i64 st1.place,.int .i64 st1.tk.num,.string (BS st1.tk.str)] 91));have hR2:=v7 ((q9 RK _ _ (q9 HF2) ((q9 hK1).trans hk2) hr2).allocd (.cells #[.int .i64 st1.tk.kind,.int .i64 st1.place,.int .i64 st1.tk.num,.string (BS st1.tk.str)] 91));clear hr2 hk2;simp only [tkV])|(go_at_call 267;refine (qu0 rb s st2 13 _ (q9 hR2).size (q9 hR2).fine.after (q9 hR2).at' (q9 hR2).lt (q9 hR2).err (q9 H13)).mono ?_;rw [q9 S3];rintro e w3 ⟨rfl,hr3,hk3⟩;have hz3:w2.heap.size<w3.heap.size:=(by have:=hk3.size;simp at this;omega);obtain ⟨kc,kf⟩:=qa5 hk3;have r0:w3.cell? ⟨w2.heap.size,0,none⟩=some (.int .i64 st1.tk.kind):=(kc _ 0 (by simp) n2).trans (by simp);have r1:w3.cell? ⟨w2.heap.size,1,none⟩=some (.int .i64 st1.place):=(kc _ 1 (by simp) n2).trans (by simp);have r2:w3.cell? ⟨w2.heap.size,2,none⟩=some (.int .i64 st1.tk.num):=(kc _ 2 (by simp) n2).trans (by simp);have r3:w3.cell? ⟨w2.heap.size,3,none⟩=some (.string (BS st1.tk.str)):=(kc _ 3 (by simp) n2).trans (by simp);have q3:w3.cell? ⟨w1.heap.size,1,none⟩=some (.int .i64 st.place):=(kc _ 1 (by simp;omega) n1).trans q2;have hK3:=v7 ((q9 hK2).trans hk3);have hR3:=v7 (q9 RK _ _ (q9 HF3) (q9 hK3) hr3);clear hr3 hk3 kc kf)|(go_at_call 302;refine (ve5 rb s st1.tk st1.place hl1 _ st3 (q9 hR3)).mono ?_;rintro e w4 ⟨hk4,h4⟩;rw [q9 HE] at h4;subst h4;simp only [qa1]))
    exact ⟨rfl,(q9 hK3).trans hk4,rfl⟩
  ·rw [if_neg h13]
   have H13:=v7 h13
   clear h13 hf2
   go_enter Tryz.func269,Tryz.ntmps269
   go_wp2_with (first|(go_at_call_of 56 (Value.int IntKind.i64 12);refine (qc3 rb s st 12 _ (q9 H).size (q9 H).fine.after (q9 H).at' hlt (q9 H).err (q9 H12)).mono ?_;rw [q9 S1];rintro e w1 ⟨rfl,hr1,hk1⟩;have hz1:=hk1.size;have n1:¬w1.heap.size=rb:=(by omega);have hR1:=v7 ((q9 RK _ _ (q9 HF1) hk1 hr1).allocd (.cells #[.int .i64 st.tk.kind,.int .i64 st.place,.int .i64 st.tk.num,.string (BS st.tk.str)] 91));have hK1:=v7 (hk1.alloc (.cells #[.int .i64 st.tk.kind,.int .i64 st.place,.int .i64 st.tk.num,.string (BS st.tk.str)] 91));clear hr1 hk1;simp only [tkV])|(go_at_call_of 56 (Value.int IntKind.i64 4);refine (qc3 rb s st1 4 _ (q9 hR1).size (q9 hR1).fine.after (q9 hR1).at' (q9 hR1).lt (q9 hR1).err (q9 H4)).mono ?_;rw [q9 S2];rintro e w2 ⟨rfl,hr2,hk2⟩;have hz2:w1.heap.size<w2.heap.size:=(by have:=hk2.size;simp at this;omega);have n2:¬w2.heap.size=rb:=(by omega);have q2:(w2.alloc (.cells #[.int .i64 st1.tk.kind,.int .i64 st1.place,.int .i64 st1.tk.num,.string (BS st1.tk.str)] 91)).cell? ⟨w1.heap.size,1,none⟩=some (.int .i64 st.place):=(by rw [World.cell?_alloc_past _ _ _ (by first|omega|(simp;omega))];exact ((qa5 hk2).1 _ 1 (by simp) n1).trans (by simp));have hK2:=v7 (((q9 hK1).trans hk2).alloc (.cells #[.int .i64 st1.tk.kind,.int .i64 st1.place,.int .i64 st1.tk.num,.string (BS st1.tk.str)] 91));have hR2:=v7 ((q9 RK _ _ (q9 HF2) ((q9 hK1).trans hk2) hr2).allocd (.cells #[.int .i64 st1.tk.kind,.int .i64 st1.place,.int .i64 st1.tk.num,.string (BS st1.tk.str)] 91));clear hr2 hk2;simp only [tkV])|(go_at_call 267;refine (vd2 rb s st2 13 _ (q9 hR2).at' (q9 H13)).mono ?_;rintro e w3 ⟨rfl,rfl⟩))
   go_ret
   have hK:=q9 hK2
   have hlt4:=(q9 hR2).lt
   have hnode:=IsNode.texted (ts:=[]) ((q9 HL).kept hK) hlt4 (.inl ⟨rfl,rfl⟩) 22 st.place st1.tk.str []
   refine ⟨(hK.alloc _).alloc _,_,rfl,by simpa [BS] using hnode,((q9 hR2).at'.allocd _ hlt4).allocd _ (by simp;omega),q9 HF2,ho2,by omega⟩
 ·rw [if_neg h4]
  have H4:=v7 h4
  clear h4 hf1
  go_enter Tryz.func269,Tryz.ntmps269
  go_wp2_with (first|(go_at_call_of 56 (Value.int IntKind.i64 12);refine (qc3 rb s st 12 _ (q9 H).size (q9 H).fine.after (q9 H).at' hlt (q9 H).err (q9 H12)).mono ?_;rw [q9 S1];rintro e w1 ⟨rfl,hr1,hk1⟩;have hz1:=hk1.size;have n1:¬w1.heap.size=rb:=(by omega);have hR1:=v7 ((q9 RK _ _ (q9 HF1) hk1 hr1).allocd (.cells #[.int .i64 st.tk.kind,.int .i64 st.place,.int .i64 st.tk.num,.string (BS st.tk.str)] 91));have hK1:=v7 (hk1.alloc (.cells #[.int .i64 st.tk.kind,.int .i64 st.place,.int .i64 st.tk.num,.string (BS st.tk.str)] 91));clear hr1 hk1;simp only [tkV])|(go_at_call_of 56 (Value.int IntKind.i64 4);refine (qk6 rb s st1 4 _ (q9 hR1).at' (q9 hR1).lt (q9 H4)).mono ?_;rintro e w2 ⟨rfl,hk2⟩;simp only [qa1]))
  exact ⟨rfl,(q9 hK1).trans hk2,rfl⟩
end
section
def qb4:Ast→Pay
 | .leaf p=>p
 | .un p _=>p
 | .bin p _ _=>p
 | .tri p _ _ _=>p
def j3:Ast→List Ast
 | .leaf _=>[]
 | .un _ x=>[x]
 | .bin _ x y=>[x,y]
 | .tri _ x y z=>[x,y,z]
def SidesAt (lo:Nat) (w:World) (sv:Value) (ts:List Ast):Prop:=
 (ts=[]∧sv=.slice none 0 0)∨∃g,sv=.slice (some ⟨g,0,none⟩) ts.length ts.length∧lo<g∧g<w.heap.size∧∀(j:Nat) (x:Ast),ts[j]?=some x→∃b,w.cell? ⟨g,j,none⟩=some (.pointer (some ⟨b,0,none⟩))∧IsNode lo w (.pointer (some ⟨b,0,none⟩)) x
theorem IsNode.parts {lo:Nat} {w:World} {v:Value} {t:Ast} (h:IsNode lo w v t):∃b sv,v=.pointer (some ⟨b,0,none⟩)∧NodeAt lo w b (qb4 t) sv∧SidesAt lo w sv (j3 t):=by
 cases t with
 | leaf p=>obtain ⟨b,rfl,h⟩:=h;exact ⟨b,_,rfl,h,.inl ⟨rfl,rfl⟩⟩
 | un p x=>
  obtain ⟨b,g,v1,rfl,h,h1,h2,e1,n1⟩:=h
  refine ⟨b,_,rfl,h,.inr ⟨g,rfl,h1,h2,fun j y hj=>?_⟩⟩
  match j,hj with
  | 0,hj=>
   obtain rfl:x=y:=by simpa [j3] using hj
   obtain ⟨b1,rfl⟩:=n1.ptr;exact ⟨b1,e1,n1⟩
  | j+1,hj=>simp [j3] at hj
 | bin p x y=>
  obtain ⟨b,g,v1,v2,rfl,h,h1,h2,e1,e2,n1,n2⟩:=h
  refine ⟨b,_,rfl,h,.inr ⟨g,rfl,h1,h2,fun j z hj=>?_⟩⟩
  match j,hj with
  | 0,hj=>
   obtain rfl:x=z:=by simpa [j3] using hj
   obtain ⟨b1,rfl⟩:=n1.ptr;exact ⟨b1,e1,n1⟩
  | 1,hj=>
   obtain rfl:y=z:=by simpa [j3] using hj
   obtain ⟨b1,rfl⟩:=n2.ptr;exact ⟨b1,e2,n2⟩
  | j+2,hj=>simp [j3] at hj
 | tri p x y z=>
  obtain ⟨b,g,v1,v2,v3,rfl,h,h1,h2,e1,e2,e3,n1,n2,n3⟩:=h
  refine ⟨b,_,rfl,h,.inr ⟨g,rfl,h1,h2,fun j u hj=>?_⟩⟩
  match j,hj with
  | 0,hj=>
   obtain rfl:x=u:=by simpa [j3] using hj
   obtain ⟨b1,rfl⟩:=n1.ptr;exact ⟨b1,e1,n1⟩
  | 1,hj=>
   obtain rfl:y=u:=by simpa [j3] using hj
   obtain ⟨b1,rfl⟩:=n2.ptr;exact ⟨b1,e2,n2⟩
  | 2,hj=>
   obtain rfl:z=u:=by simpa [j3] using hj
   obtain ⟨b1,rfl⟩:=n3.ptr;exact ⟨b1,e3,n3⟩
  | j+3,hj=>simp [j3] at hj
theorem SidesAt.any {lo:Nat} {w:World} {sv:Value} {ts:List Ast} (h:SidesAt lo w sv ts):∃a,sv=.slice a ts.length ts.length∧∀(j:Nat) (x:Ast),ts[j]?=some x→∃g b,a=some ⟨g,0,none⟩∧lo<g∧g<w.heap.size∧w.cell? ⟨g,j,none⟩=some (.pointer (some ⟨b,0,none⟩))∧IsNode lo w (.pointer (some ⟨b,0,none⟩)) x:=by
 rcases h with ⟨rfl,rfl⟩|⟨g,rfl,h1,h2,h3⟩
 ·exact ⟨none,rfl,fun j x hj=>by simp at hj⟩
 ·exact ⟨some ⟨g,0,none⟩,rfl,fun j x hj=>by obtain ⟨b,hc,hn⟩:=h3 j x hj;exact ⟨g,b,rfl,h1,h2,hc,hn⟩⟩
theorem vr8 (t:Ast):(j3 t).length≤3:=by cases t<;>simp [j3]
inductive CRes where
 | ok (c:Int)
 | err (pl:Int)
def dem (want pl:Int):List CRes→Bool→Option Int
 | [],fit=>if fit then none else some pl
 | .err q::_,_=>some q
 | .ok c::t,fit=>dem want pl t (fit&&(c==want||c==0))
def demR (want pl c:Int) (rs:List CRes):CRes:=match dem want pl rs true with
 | none=>.ok c
 | some q=>.err q
def qp2 (pl:Int):CRes→CRes→CRes
 | .err q,_=>.err q
 | .ok _,.err q=>.err q
 | .ok l,.ok r=>if (l != r&&l != 0&&r != 0)=true then .err pl else .ok 3
def qm2 (op pl:Int) (rs:List CRes):CRes:=
 if op==0 then .ok 0 else if op==1 then .ok 1 else if op==2 then .ok 2
 else if op==5||op==6||op==7 then demR 3 pl 3 rs
 else if op==10||op==11||op==12||op==13||op==20 then demR 1 pl 3 rs
 else if op==14||op==15||op==16||op==17||op==18||op==19 then demR 1 pl 1 rs
 else if op==8||op==9 then (match rs with
  | [a,b]=>qp2 pl a b
  | _=>.ok 3)
 else .ok 3
def qc8:Ast→CRes
 | .leaf p=>qm2 p.op p.place []
 | .un p x=>qm2 p.op p.place [qc8 x]
 | .bin p x y=>qm2 p.op p.place [qc8 x,qc8 y]
 | .tri p x y z=>qm2 p.op p.place [qc8 x,qc8 y,qc8 z]
theorem qc4 (t:Ast):qc8 t=qm2 (qb4 t).op (qb4 t).place ((j3 t).map qc8):=by cases t<;>rfl
def WfA:Ast→Prop
 | .leaf p=>¬p.op=8∧¬p.op=9
 | .un p x=>(¬p.op=8∧¬p.op=9)∧WfA x
 | .bin _ x y=>WfA x∧WfA y
 | .tri p x y z=>(¬p.op=8∧¬p.op=9)∧WfA x∧WfA y∧WfA z
theorem WfA.side {t x:Ast} (h:WfA t) (hx:x∈j3 t):WfA x:=by
 cases t with
 | leaf p=>simp [j3] at hx
 | un p y=>simp [j3] at hx;subst hx;exact h.2
 | bin p y z=>simp [j3] at hx;rcases hx with rfl|rfl;exact h.1;exact h.2
 | tri p y z u=>simp [j3] at hx;rcases hx with rfl|rfl|rfl;exact h.2.1;exact h.2.2.1;exact h.2.2.2
def ClsEnds (w:World) (r:CRes) (e:Ending) (w':World):Prop:=
 Below w.heap.size w w'∧match r with
 | .ok c=>e=.returned (.int .i64 c)
 | .err pl=>e=qa1 4 pl
def qg0 (lo:Nat) (t:Ast):Prop:=∀(w:World) (v:Value),IsNode lo w v t→Calls Tryz.prog 104 #[v] w (ClsEnds w (qc8 t))
theorem dem_err {want pl q:Int} {rs:List CRes} {j:Nat} {fit:Bool} (h:rs[j]?=some (.err q)):dem want pl (rs.drop j) fit=some q:=by
 obtain ⟨hj,he⟩:=List.getElem?_eq_some_iff.1 h
 rw [List.drop_eq_getElem_cons hj,he];rfl
theorem dem_ok {want pl c:Int} {rs:List CRes} {j:Nat} {fit:Bool} (h:rs[j]?=some (.ok c)):dem want pl (rs.drop j) fit=dem want pl (rs.drop (j+1)) (fit&&(c==want||c==0)):=by
 obtain ⟨hj,he⟩:=List.getElem?_eq_some_iff.1 h
 rw [List.drop_eq_getElem_cons hj,he];rfl
theorem dem_end {want pl:Int} {rs:List CRes} {j:Nat} {fit:Bool} (h:rs.length≤j):dem want pl (rs.drop j) fit=if fit then none else some pl:=by
 rw [List.drop_of_length_le h];rfl
end
section
def DemEnds (w:World) (r:Option Int) (e:Ending) (w':World):Prop:=Below w.heap.size w w'∧match r with
 | none=>e=.returned (.tuple #[])
 | some q=>e=qa1 4 q
theorem qe1 (lo:Nat) (t:Ast) (hcls:∀x∈j3 t,qg0 lo x) (want:Int) (w:World) (v:Value) (h:IsNode lo w v t) :
  Calls Tryz.prog 148 #[v,.int .i64 want] w (DemEnds w (dem want (qb4 t).place ((j3 t).map qc8) true)):=by
 obtain ⟨R,hR⟩:∃r,dem want (qb4 t).place ((j3 t).map qc8) true=r:=⟨_,rfl⟩
 rw [hR]
 have HR:=v7 hR
 obtain ⟨b,sv,rfl,hnode,hsides⟩:=h.parts
 obtain ⟨a,rfl,hside⟩:=hsides.any
 have hn3:=vr8 t
 obtain ⟨hab,hbw,c0,c1,c2,c3,c4,c5,c6⟩:=hnode
 obtain ⟨n,hn⟩:∃n,(j3 t).length=n:=⟨_,rfl⟩
 rw [hn] at c2 hn3
 have HN:=v7 hn
 have HS:=v7 hside
 have HC:=v7 hcls
 obtain ⟨pl,hpl⟩:∃pl,(qb4 t).place=pl:=⟨_,rfl⟩
 rw [hpl] at c1 HR
 clear hR hsides h c0 c3 c4 c5 c6 hn hside hcls hpl
 go_enter Tryz.func148,Tryz.ntmps148
 go_wp2_with fail
 go_loopw [4,13] (fun fit i wr=>∃(j:Nat) (fb:Bool),j≤n∧i=.int .i64 j∧fit=.bool fb∧Hid (R=dem want pl (((j3 t).map qc8).drop j) fb)∧Below w.heap.size w wr) (fun _ i _=>n - (intOf i).toNat)
 case atStart=>exact ⟨0,true,Nat.zero_le _,rfl,rfl,v7 (by rw [List.drop_zero,q9 HR]),Below.refl _ _⟩
 case round=>
  obtain ⟨j,fb,hj,rfl,rfl,hh,hbel⟩:=hrel
  have d1:=(hbel.cell (p:=⟨b,1,none⟩) hbw).trans c1
  by_cases hlt:j<n
  ·obtain ⟨x,hx⟩:∃x,(j3 t)[j]?=some x:=⟨_,List.getElem?_eq_getElem (by rw [q9 HN];exact hlt)⟩
   obtain ⟨g,bx,rfl,hg1,hg2,hcx,hnx⟩:=q9 HS j x hx
   have dx:=(hbel.cell (p:=⟨g,j,none⟩) hg2).trans hcx
   have hxm:x∈j3 t:=List.mem_of_getElem? hx
   have HNX:=v7 (hnx.kept (Kept.of_below hbel))
   have hm:((j3 t).map qc8)[j]?=some (qc8 x):=by rw [List.getElem?_map,hx];rfl
   have CX:=v7 (q9 HC x hxm)
   clear hx hnx hcx hxm
   cases hcl:qc8 x with
   | err q=>
    have HT:Hid (R=some q):=v7 (by rw [q9 hh,dem_err (by rw [hm,hcl])])
    have HCL:=v7 hcl
    clear hh hm hcl
    go_wp2_with (go_at_call 104;refine (q9 CX _ _ (q9 HNX)).mono ?_;rintro e w1 ⟨hb1,h1⟩;rw [q9 HCL] at h1;subst h1;simp only [qa1])
    rw [q9 HT]
    exact ⟨rfl,v8 hbel hb1,rfl⟩
   | ok c=>
    have HT:Hid (R=dem want pl (((j3 t).map qc8).drop (j+1)) (fb&&(c==want||c==0))):=v7 (by rw [q9 hh,dem_ok (by rw [hm,hcl])])
    have HCL:=v7 hcl
    clear hh hm hcl
    cases fb<;>cases hcw:(c==want)<;>cases hc0:(c==0)
    all_goals
     rw [hcw,hc0] at HT
     simp only [Bool.and_true,Bool.and_false,Bool.or_true,Bool.or_false,Bool.or_self,Bool.and_self] at HT
     go_wp2_with (go_at_call 104;refine (q9 CX _ _ (q9 HNX)).mono ?_;rintro e w1 ⟨hb1,h1⟩;rw [q9 HCL] at h1;subst h1)
     go_roundw
     case rel=>exact ⟨j+1,_,by omega,by go_num,rfl,HT,v8 hbel hb1⟩
     case measure=>simp [intOf];omega
  ·have HT:Hid (R=if fb then none else some pl):=v7 (by rw [q9 hh,dem_end (by rw [List.length_map,q9 HN];omega)])
   clear hh
   cases fb
   ·go_wp2_with fail
    rw [q9 HT]
    exact ⟨rfl,hbel,rfl⟩
   ·go_wp2_with fail
    go_end0
    rw [q9 HT]
    exact ⟨hbel,rfl⟩
end
section
def opA:Ast→Int
 | .leaf p=>p.op
 | .un p _=>p.op
 | .bin p _ _=>p.op
 | .tri p _ _ _=>p.op
theorem IsNode.opAt {rb:Nat} {w:World} {v:Value} {t:Ast} (h:IsNode rb w v t):∃b,v=.pointer (some ⟨b,0,none⟩)∧w.cell? ⟨b,0,none⟩=some (.int .i64 (opA t)):=by
 cases t with
 | leaf p=>obtain ⟨b,hv,h⟩:=h;exact ⟨b,hv,h.c0⟩
 | un p x=>obtain ⟨b,g,v1,hv,h,_⟩:=h;exact ⟨b,hv,h.c0⟩
 | bin p x y=>obtain ⟨b,g,v1,v2,hv,h,_⟩:=h;exact ⟨b,hv,h.c0⟩
 | tri p x y z=>obtain ⟨b,g,v1,v2,v3,hv,h,_⟩:=h;exact ⟨b,hv,h.c0⟩
def qd8 (st:St) (l:Ast):Bool:=st.tk.kind==2&&opA l==0
def qa3 (s:ByteArray) (f:St→Res) (gI gL:Ast→St→Res) (bare:Bool) (l:Ast) (st:St):Res:=
 if st.tk.kind=16∨st.tk.kind=17∨st.tk.kind=18∨st.tk.kind=19∨st.tk.kind=20∨st.tk.kind=21 then qc2 s f st l
 else if st.tk.kind=14 then (if bare=true then qd0 s l st else .ok l st)
 else if st.tk.kind=7 then (match qa2 s f gI gL bare l (v6 s st) with
  | .ok t st'=>.ok (.un ⟨5,st.place,0,[],[],[]⟩ t) st'
  | .err en pl=>.err en pl)
 else if st.tk.kind=10∨st.tk.kind=11∨st.tk.kind=12 then qa2 s f gI gL bare l st
 else .ok l st
def qg6 (s:ByteArray) (f:St→Res) (gI gL:Ast→St→Res) (st:St):Res:=match f st with
 | .ok l st'=>qa3 s f gI gL (qd8 st l) l st'
 | .err en pl=>.err en pl
theorem Gives.from' {rb:Nat} {s:ByteArray} {w w1:World} {op lo lo':Nat} {r:Res} {e:Ending} {w':World} (h:Gives rb s w1 op lo r e w') (hk:Kept rb w w1) (hl:lo'≤lo):Gives rb s w op lo' r e w':=by
 refine ⟨hk.trans h.1, ?_⟩
 cases r with
 | ok t st=>obtain ⟨_,v,h1,h2,h3,h4,h5,h6⟩:=h;exact ⟨v,h1,h2,h3,h4,h5,Nat.le_trans hl h6⟩
 | err en pl=>exact h.2
theorem test_none (rb:Nat) (s:ByteArray) (op:Nat) (f:St→Res) (gI gL:Ast→St→Res) (hf:qf6 241 rb s op f) (hI:qj5 268 rb s op 11 gI) (hL:qj5 269 rb s op 12 gL)
  (w:World) (st:St) (h:Ready rb s w st) (ho:st.op=op) (l:Ast) (st1:St) (hres:f st=.ok l st1)  (h16:¬st1.tk.kind=16) (h17:¬st1.tk.kind=17) (h18:¬st1.tk.kind=18) (h19:¬st1.tk.kind=19) (h20:¬st1.tk.kind=20) (h21:¬st1.tk.kind=21) (h14:¬st1.tk.kind=14) (h7:¬st1.tk.kind=7) (h10:¬st1.tk.kind=10) (h11:¬st1.tk.kind=11) (h12:¬st1.tk.kind=12) :
  Calls Tryz.prog 198 #[.pointer (some ⟨rb,0,none⟩)] w (Gives rb s w op st.place (qa3 s f gI gL (qd8 st l) l st1)):=by
 have H:=v7 h
 have HF:=v7 hf
 have HI:=v7 hI
 have HLK:=v7 hL
 have HRES:=v7 hres
 have hmf:∀(fn:Fn) (first cap:Array Value) (w:World),(Instr.makeFunc fn first cap).run Tryz.prog w=.ok (.func fn first cap) w:=fun _ _ _ _=>rfl
 obtain ⟨c0,c1,c2,c3,c4,c5,c6,fz⟩:=h.at'
 have hlt:=h.lt
 clear h hf hI hL hres
 have e16:(st1.tk.kind==16)=false:=beq_eq_false_iff_ne.2 h16
 have e17:(st1.tk.kind==17)=false:=beq_eq_false_iff_ne.2 h17
 have e18:(st1.tk.kind==18)=false:=beq_eq_false_iff_ne.2 h18
 have e19:(st1.tk.kind==19)=false:=beq_eq_false_iff_ne.2 h19
 have e20:(st1.tk.kind==20)=false:=beq_eq_false_iff_ne.2 h20
 have e21:(st1.tk.kind==21)=false:=beq_eq_false_iff_ne.2 h21
 have e14:(st1.tk.kind==14)=false:=beq_eq_false_iff_ne.2 h14
 have e7:(st1.tk.kind==7)=false:=beq_eq_false_iff_ne.2 h7
 have e10:(st1.tk.kind==10)=false:=beq_eq_false_iff_ne.2 h10
 have e11:(st1.tk.kind==11)=false:=beq_eq_false_iff_ne.2 h11
 have e12:(st1.tk.kind==12)=false:=beq_eq_false_iff_ne.2 h12
 have hT:∀bare,qa3 s f gI gL bare l st1=.ok l st1:=fun bare=>by unfold qa3;simp [h16,h17,h18,h19,h20,h21,h14,h7,h10,h11,h12]
 clear h16 h17 h18 h19 h20 h21 h14 h7 h10 h11 h12
 rw [hT]
 clear hT
 cases hb0:(st.tk.kind==2)<;>cases hb1:(opA l==0)
 all_goals
  go_enter Tryz.func198,Tryz.ntmps198
  go_wp2_with (go_at_call 241;refine (q9 HF _ st (q9 H) ho).mono ?_;rintro e w1 ⟨hk1,h1⟩;rw [q9 HRES] at h1;obtain ⟨v1,rfl,hn1,hr1,hf1,ho1,hp1⟩:=h1;obtain ⟨b,rfl,cb⟩:=hn1.opAt;obtain ⟨d0,d1,d2,d3,d4,d5,d6,dz⟩:=hr1;have hR1:=v7 ((q9 H).kept hk1 ⟨d0,d1,d2,d3,d4,d5,d6,dz⟩ hf1);have hn1:=v7 hn1;have hK1:=v7 hk1;clear hk1 d0 d3 d4 d5 d6)
  go_ret
  exact ⟨q9 hK1,_,rfl,q9 hn1,(q9 hR1).at',hf1,ho1,hp1⟩
theorem test_16 (rb:Nat) (s:ByteArray) (op:Nat) (f:St→Res) (gI gL:Ast→St→Res) (hf:qf6 241 rb s op f) (hI:qj5 268 rb s op 11 gI) (hL:qj5 269 rb s op 12 gL)
  (w:World) (st:St) (h:Ready rb s w st) (ho:st.op=op) (l:Ast) (st1:St) (hres:f st=.ok l st1) (hk:st1.tk.kind=16) :
  Calls Tryz.prog 198 #[.pointer (some ⟨rb,0,none⟩)] w (Gives rb s w op st.place (qa3 s f gI gL (qd8 st l) l st1)):=by
 have H:=v7 h
 have HF:=v7 hf
 have HI:=v7 hI
 have HLK:=v7 hL
 have HRES:=v7 hres
 have hmf:∀(fn:Fn) (first cap:Array Value) (w:World),(Instr.makeFunc fn first cap).run Tryz.prog w=.ok (.func fn first cap) w:=fun _ _ _ _=>rfl
 obtain ⟨c0,c1,c2,c3,c4,c5,c6,fz⟩:=h.at'
 have hlt:=h.lt
 clear h hf hI hL hres
 have e16:(st1.tk.kind==16)=true:=by rw [hk];rfl
 have hT:∀bare,qa3 s f gI gL bare l st1=qc2 s f st1 l:=fun bare=>by unfold qa3;simp [hk]
 rw [hT]
 clear hT
 have HKK:=v7 hk
 clear hk
 cases hb0:(st.tk.kind==2)<;>cases hb1:(opA l==0)
 all_goals
  go_enter Tryz.func198,Tryz.ntmps198
  go_wp2_with (first|(go_at_call 241;refine (q9 HF _ st (q9 H) ho).mono ?_;rintro e w1 ⟨hk1,h1⟩;rw [q9 HRES] at h1;obtain ⟨v1,rfl,hn1,hr1,hf1,ho1,hp1⟩:=h1;obtain ⟨b,rfl,cb⟩:=hn1.opAt;obtain ⟨d0,d1,d2,d3,d4,d5,d6,dz⟩:=hr1;have hR1:=v7 ((q9 H).kept hk1 ⟨d0,d1,d2,d3,d4,d5,d6,dz⟩ hf1);have hn1:=v7 hn1;have hK1:=v7 hk1;clear hk1 d0 d3 d4 d5 d6)|(go_at_call 146;refine (qn3 rb s op f (q9 HF) st1 l _ _ (q9 hR1) ho1 (q9 hn1)).mono ?_;rintro e w' hg;have hg:=hg.from' (q9 hK1) (Nat.le_trans hp1 (Nat.le_of_lt (hf1.long (by rw [q9 HKK];decide))));rcases hg.cases with ⟨v,rfl,hg⟩|⟨en,pl,rfl,hg⟩;rotate_left;(exact ⟨rfl,hg⟩);have HG:=v7 hg;clear hg))
  go_ret
  exact q9 HG
theorem test_17 (rb:Nat) (s:ByteArray) (op:Nat) (f:St→Res) (gI gL:Ast→St→Res) (hf:qf6 241 rb s op f) (hI:qj5 268 rb s op 11 gI) (hL:qj5 269 rb s op 12 gL)
  (w:World) (st:St) (h:Ready rb s w st) (ho:st.op=op) (l:Ast) (st1:St) (hres:f st=.ok l st1) (hk:st1.tk.kind=17) :
  Calls Tryz.prog 198 #[.pointer (some ⟨rb,0,none⟩)] w (Gives rb s w op st.place (qa3 s f gI gL (qd8 st l) l st1)):=by
 have H:=v7 h
 have HF:=v7 hf
 have HI:=v7 hI
 have HLK:=v7 hL
 have HRES:=v7 hres
 have hmf:∀(fn:Fn) (first cap:Array Value) (w:World),(Instr.makeFunc fn first cap).run Tryz.prog w=.ok (.func fn first cap) w:=fun _ _ _ _=>rfl
 obtain ⟨c0,c1,c2,c3,c4,c5,c6,fz⟩:=h.at'
 have hlt:=h.lt
 clear h hf hI hL hres
 have e16:(st1.tk.kind==16)=false:=by rw [hk];rfl
 have e17:(st1.tk.kind==17)=true:=by rw [hk];rfl
 have hT:∀bare,qa3 s f gI gL bare l st1=qc2 s f st1 l:=fun bare=>by unfold qa3;simp [hk]
 rw [hT]
 clear hT
 have HKK:=v7 hk
 clear hk
 cases hb0:(st.tk.kind==2)<;>cases hb1:(opA l==0)
 all_goals
  go_enter Tryz.func198,Tryz.ntmps198
  go_wp2_with (first|(go_at_call 241;refine (q9 HF _ st (q9 H) ho).mono ?_;rintro e w1 ⟨hk1,h1⟩;rw [q9 HRES] at h1;obtain ⟨v1,rfl,hn1,hr1,hf1,ho1,hp1⟩:=h1;obtain ⟨b,rfl,cb⟩:=hn1.opAt;obtain ⟨d0,d1,d2,d3,d4,d5,d6,dz⟩:=hr1;have hR1:=v7 ((q9 H).kept hk1 ⟨d0,d1,d2,d3,d4,d5,d6,dz⟩ hf1);have hn1:=v7 hn1;have hK1:=v7 hk1;clear hk1 d0 d3 d4 d5 d6)|(go_at_call 146;refine (qn3 rb s op f (q9 HF) st1 l _ _ (q9 hR1) ho1 (q9 hn1)).mono ?_;rintro e w' hg;have hg:=hg.from' (q9 hK1) (Nat.le_trans hp1 (Nat.le_of_lt (hf1.long (by rw [q9 HKK];decide))));rcases hg.cases with ⟨v,rfl,hg⟩|⟨en,pl,rfl,hg⟩;rotate_left;(exact ⟨rfl,hg⟩);have HG:=v7 hg;clear hg))
  go_ret
  exact q9 HG
theorem test_18 (rb:Nat) (s:ByteArray) (op:Nat) (f:St→Res) (gI gL:Ast→St→Res) (hf:qf6 241 rb s op f) (hI:qj5 268 rb s op 11 gI) (hL:qj5 269 rb s op 12 gL)
  (w:World) (st:St) (h:Ready rb s w st) (ho:st.op=op) (l:Ast) (st1:St) (hres:f st=.ok l st1) (hk:st1.tk.kind=18) :
  Calls Tryz.prog 198 #[.pointer (some ⟨rb,0,none⟩)] w (Gives rb s w op st.place (qa3 s f gI gL (qd8 st l) l st1)):=by
 have H:=v7 h
 have HF:=v7 hf
 have HI:=v7 hI
 have HLK:=v7 hL
 have HRES:=v7 hres
 have hmf:∀(fn:Fn) (first cap:Array Value) (w:World),(Instr.makeFunc fn first cap).run Tryz.prog w=.ok (.func fn first cap) w:=fun _ _ _ _=>rfl
 obtain ⟨c0,c1,c2,c3,c4,c5,c6,fz⟩:=h.at'
 have hlt:=h.lt
 clear h hf hI hL hres
 have e16:(st1.tk.kind==16)=false:=by rw [hk];rfl
 have e17:(st1.tk.kind==17)=false:=by rw [hk];rfl
 have e18:(st1.tk.kind==18)=true:=by rw [hk];rfl
 have hT:∀bare,qa3 s f gI gL bare l st1=qc2 s f st1 l:=fun bare=>by unfold qa3;simp [hk]
 rw [hT]
 clear hT
 have HKK:=v7 hk
 clear hk
 cases hb0:(st.tk.kind==2)<;>cases hb1:(opA l==0)
 all_goals
  go_enter Tryz.func198,Tryz.ntmps198
  go_wp2_with (first|(go_at_call 241;refine (q9 HF _ st (q9 H) ho).mono ?_;rintro e w1 ⟨hk1,h1⟩;rw [q9 HRES] at h1;obtain ⟨v1,rfl,hn1,hr1,hf1,ho1,hp1⟩:=h1;obtain ⟨b,rfl,cb⟩:=hn1.opAt;obtain ⟨d0,d1,d2,d3,d4,d5,d6,dz⟩:=hr1;have hR1:=v7 ((q9 H).kept hk1 ⟨d0,d1,d2,d3,d4,d5,d6,dz⟩ hf1);have hn1:=v7 hn1;have hK1:=v7 hk1;clear hk1 d0 d3 d4 d5 d6)|(go_at_call 146;refine (qn3 rb s op f (q9 HF) st1 l _ _ (q9 hR1) ho1 (q9 hn1)).mono ?_;rintro e w' hg;have hg:=hg.from' (q9 hK1) (Nat.le_trans hp1 (Nat.le_of_lt (hf1.long (by rw [q9 HKK];decide))));rcases hg.cases with ⟨v,rfl,hg⟩|⟨en,pl,rfl,hg⟩;rotate_left;(exact ⟨rfl,hg⟩);have HG:=v7 hg;clear hg))
  go_ret
  exact q9 HG
theorem test_19 (rb:Nat) (s:ByteArray) (op:Nat) (f:St→Res) (gI gL:Ast→St→Res) (hf:qf6 241 rb s op f) (hI:qj5 268 rb s op 11 gI) (hL:qj5 269 rb s op 12 gL)
  (w:World) (st:St) (h:Ready rb s w st) (ho:st.op=op) (l:Ast) (st1:St) (hres:f st=.ok l st1) (hk:st1.tk.kind=19) :
  Calls Tryz.prog 198 #[.pointer (some ⟨rb,0,none⟩)] w (Gives rb s w op st.place (qa3 s f gI gL (qd8 st l) l st1)):=by
 have H:=v7 h
 have HF:=v7 hf
 have HI:=v7 hI
 have HLK:=v7 hL
 have HRES:=v7 hres
 have hmf:∀(fn:Fn) (first cap:Array Value) (w:World),(Instr.makeFunc fn first cap).run Tryz.prog w=.ok (.func fn first cap) w:=fun _ _ _ _=>rfl
 obtain ⟨c0,c1,c2,c3,c4,c5,c6,fz⟩:=h.at'
 have hlt:=h.lt
 clear h hf hI hL hres
 have e16:(st1.tk.kind==16)=false:=by rw [hk];rfl
 have e17:(st1.tk.kind==17)=false:=by rw [hk];rfl
 have e18:(st1.tk.kind==18)=false:=by rw [hk];rfl
 have e19:(st1.tk.kind==19)=true:=by rw [hk];rfl
 have hT:∀bare,qa3 s f gI gL bare l st1=qc2 s f st1 l:=fun bare=>by unfold qa3;simp [hk]
 rw [hT]
 clear hT
 have HKK:=v7 hk
 clear hk
 cases hb0:(st.tk.kind==2)<;>cases hb1:(opA l==0)
 all_goals
  go_enter Tryz.func198,Tryz.ntmps198
  go_wp2_with (first|(go_at_call 241;refine (q9 HF _ st (q9 H) ho).mono ?_;rintro e w1 ⟨hk1,h1⟩;rw [q9 HRES] at h1;obtain ⟨v1,rfl,hn1,hr1,hf1,ho1,hp1⟩:=h1;obtain ⟨b,rfl,cb⟩:=hn1.opAt;obtain ⟨d0,d1,d2,d3,d4,d5,d6,dz⟩:=hr1;have hR1:=v7 ((q9 H).kept hk1 ⟨d0,d1,d2,d3,d4,d5,d6,dz⟩ hf1);have hn1:=v7 hn1;have hK1:=v7 hk1;clear hk1 d0 d3 d4 d5 d6)|(go_at_call 146;refine (qn3 rb s op f (q9 HF) st1 l _ _ (q9 hR1) ho1 (q9 hn1)).mono ?_;rintro e w' hg;have hg:=hg.from' (q9 hK1) (Nat.le_trans hp1 (Nat.le_of_lt (hf1.long (by rw [q9 HKK];decide))));rcases hg.cases with ⟨v,rfl,hg⟩|⟨en,pl,rfl,hg⟩;rotate_left;(exact ⟨rfl,hg⟩);have HG:=v7 hg;clear hg))
  go_ret
  exact q9 HG
theorem test_20 (rb:Nat) (s:ByteArray) (op:Nat) (f:St→Res) (gI gL:Ast→St→Res) (hf:qf6 241 rb s op f) (hI:qj5 268 rb s op 11 gI) (hL:qj5 269 rb s op 12 gL)
  (w:World) (st:St) (h:Ready rb s w st) (ho:st.op=op) (l:Ast) (st1:St) (hres:f st=.ok l st1) (hk:st1.tk.kind=20) :
  Calls Tryz.prog 198 #[.pointer (some ⟨rb,0,none⟩)] w (Gives rb s w op st.place (qa3 s f gI gL (qd8 st l) l st1)):=by
 have H:=v7 h
 have HF:=v7 hf
 have HI:=v7 hI
 have HLK:=v7 hL
 have HRES:=v7 hres
 have hmf:∀(fn:Fn) (first cap:Array Value) (w:World),(Instr.makeFunc fn first cap).run Tryz.prog w=.ok (.func fn first cap) w:=fun _ _ _ _=>rfl
 obtain ⟨c0,c1,c2,c3,c4,c5,c6,fz⟩:=h.at'
 have hlt:=h.lt
 clear h hf hI hL hres
 have e16:(st1.tk.kind==16)=false:=by rw [hk];rfl
 have e17:(st1.tk.kind==17)=false:=by rw [hk];rfl
 have e18:(st1.tk.kind==18)=false:=by rw [hk];rfl
 have e19:(st1.tk.kind==19)=false:=by rw [hk];rfl
 have e20:(st1.tk.kind==20)=true:=by rw [hk];rfl
 have hT:∀bare,qa3 s f gI gL bare l st1=qc2 s f st1 l:=fun bare=>by unfold qa3;simp [hk]
 rw [hT]
 clear hT
 have HKK:=v7 hk
 clear hk
 cases hb0:(st.tk.kind==2)<;>cases hb1:(opA l==0)
 all_goals
  go_enter Tryz.func198,Tryz.ntmps198
  go_wp2_with (first|(go_at_call 241;refine (q9 HF _ st (q9 H) ho).mono ?_;rintro e w1 ⟨hk1,h1⟩;rw [q9 HRES] at h1;obtain ⟨v1,rfl,hn1,hr1,hf1,ho1,hp1⟩:=h1;obtain ⟨b,rfl,cb⟩:=hn1.opAt;obtain ⟨d0,d1,d2,d3,d4,d5,d6,dz⟩:=hr1;have hR1:=v7 ((q9 H).kept hk1 ⟨d0,d1,d2,d3,d4,d5,d6,dz⟩ hf1);have hn1:=v7 hn1;have hK1:=v7 hk1;clear hk1 d0 d3 d4 d5 d6)|(go_at_call 146;refine (qn3 rb s op f (q9 HF) st1 l _ _ (q9 hR1) ho1 (q9 hn1)).mono ?_;rintro e w' hg;have hg:=hg.from' (q9 hK1) (Nat.le_trans hp1 (Nat.le_of_lt (hf1.long (by rw [q9 HKK];decide))));rcases hg.cases with ⟨v,rfl,hg⟩|⟨en,pl,rfl,hg⟩;rotate_left;(exact ⟨rfl,hg⟩);have HG:=v7 hg;clear hg))
  go_ret
  exact q9 HG
theorem test_21 (rb:Nat) (s:ByteArray) (op:Nat) (f:St→Res) (gI gL:Ast→St→Res) (hf:qf6 241 rb s op f) (hI:qj5 268 rb s op 11 gI) (hL:qj5 269 rb s op 12 gL)
  (w:World) (st:St) (h:Ready rb s w st) (ho:st.op=op) (l:Ast) (st1:St) (hres:f st=.ok l st1) (hk:st1.tk.kind=21) :
  Calls Tryz.prog 198 #[.pointer (some ⟨rb,0,none⟩)] w (Gives rb s w op st.place (qa3 s f gI gL (qd8 st l) l st1)):=by
 have H:=v7 h
 have HF:=v7 hf
 have HI:=v7 hI
 have HLK:=v7 hL
 have HRES:=v7 hres
 have hmf:∀(fn:Fn) (first cap:Array Value) (w:World),(Instr.makeFunc fn first cap).run Tryz.prog w=.ok (.func fn first cap) w:=fun _ _ _ _=>rfl
 obtain ⟨c0,c1,c2,c3,c4,c5,c6,fz⟩:=h.at'
 have hlt:=h.lt
 clear h hf hI hL hres
 have e16:(st1.tk.kind==16)=false:=by rw [hk];rfl
 have e17:(st1.tk.kind==17)=false:=by rw [hk];rfl
 have e18:(st1.tk.kind==18)=false:=by rw [hk];rfl
 have e19:(st1.tk.kind==19)=false:=by rw [hk];rfl
 have e20:(st1.tk.kind==20)=false:=by rw [hk];rfl
 have e21:(st1.tk.kind==21)=true:=by rw [hk];rfl
 have hT:∀bare,qa3 s f gI gL bare l st1=qc2 s f st1 l:=fun bare=>by unfold qa3;simp [hk]
 rw [hT]
 clear hT
 have HKK:=v7 hk
 clear hk
 cases hb0:(st.tk.kind==2)<;>cases hb1:(opA l==0)
 all_goals
  go_enter Tryz.func198,Tryz.ntmps198
  go_wp2_with (first|(go_at_call 241;refine (q9 HF _ st (q9 H) ho).mono ?_;rintro e w1 ⟨hk1,h1⟩;rw [q9 HRES] at h1;obtain ⟨v1,rfl,hn1,hr1,hf1,ho1,hp1⟩:=h1;obtain ⟨b,rfl,cb⟩:=hn1.opAt;obtain ⟨d0,d1,d2,d3,d4,d5,d6,dz⟩:=hr1;have hR1:=v7 ((q9 H).kept hk1 ⟨d0,d1,d2,d3,d4,d5,d6,dz⟩ hf1);have hn1:=v7 hn1;have hK1:=v7 hk1;clear hk1 d0 d3 d4 d5 d6)|(go_at_call 146;refine (qn3 rb s op f (q9 HF) st1 l _ _ (q9 hR1) ho1 (q9 hn1)).mono ?_;rintro e w' hg;have hg:=hg.from' (q9 hK1) (Nat.le_trans hp1 (Nat.le_of_lt (hf1.long (by rw [q9 HKK];decide))));rcases hg.cases with ⟨v,rfl,hg⟩|⟨en,pl,rfl,hg⟩;rotate_left;(exact ⟨rfl,hg⟩);have HG:=v7 hg;clear hg))
  go_ret
  exact q9 HG
theorem test_14 (rb:Nat) (s:ByteArray) (op:Nat) (f:St→Res) (gI gL:Ast→St→Res) (hf:qf6 241 rb s op f) (hI:qj5 268 rb s op 11 gI) (hL:qj5 269 rb s op 12 gL)
  (w:World) (st:St) (h:Ready rb s w st) (ho:st.op=op) (l:Ast) (st1:St) (hres:f st=.ok l st1) (hk:st1.tk.kind=14) :
  Calls Tryz.prog 198 #[.pointer (some ⟨rb,0,none⟩)] w (Gives rb s w op st.place (qa3 s f gI gL (qd8 st l) l st1)):=by
 have H:=v7 h
 have HF:=v7 hf
 have HI:=v7 hI
 have HLK:=v7 hL
 have HRES:=v7 hres
 have hmf:∀(fn:Fn) (first cap:Array Value) (w:World),(Instr.makeFunc fn first cap).run Tryz.prog w=.ok (.func fn first cap) w:=fun _ _ _ _=>rfl
 obtain ⟨c0,c1,c2,c3,c4,c5,c6,fz⟩:=h.at'
 have hlt:=h.lt
 clear h hf hI hL hres
 have e16:(st1.tk.kind==16)=false:=by rw [hk];rfl
 have e17:(st1.tk.kind==17)=false:=by rw [hk];rfl
 have e18:(st1.tk.kind==18)=false:=by rw [hk];rfl
 have e19:(st1.tk.kind==19)=false:=by rw [hk];rfl
 have e20:(st1.tk.kind==20)=false:=by rw [hk];rfl
 have e21:(st1.tk.kind==21)=false:=by rw [hk];rfl
 have e14:(st1.tk.kind==14)=true:=by rw [hk];rfl
 have hT:∀bare,qa3 s f gI gL bare l st1=if bare=true then qd0 s l st1 else .ok l st1:=fun bare=>by unfold qa3;simp [hk]
 rw [hT]
 clear hT
 have HKK:=v7 hk
 clear hk
 have hBB:qd8 st l=(st.tk.kind==2&&opA l==0):=rfl
 rw [hBB]
 clear hBB
 cases hb0:(st.tk.kind==2)<;>cases hb1:(opA l==0)
 all_goals simp only [Bool.and_self,Bool.and_true,Bool.and_false,Bool.false_eq_true,if_true,if_false]
 rotate_right
 ·go_enter Tryz.func198,Tryz.ntmps198
  go_wp2_with (first|(go_at_call 241;refine (q9 HF _ st (q9 H) ho).mono ?_;rintro e w1 ⟨hk1,h1⟩;rw [q9 HRES] at h1;obtain ⟨v1,rfl,hn1,hr1,hf1,ho1,hp1⟩:=h1;obtain ⟨b,rfl,cb⟩:=hn1.opAt;obtain ⟨d0,d1,d2,d3,d4,d5,d6,dz⟩:=hr1;have hR1:=v7 ((q9 H).kept hk1 ⟨d0,d1,d2,d3,d4,d5,d6,dz⟩ hf1);have hn1:=v7 hn1;have hK1:=v7 hk1;clear hk1 d0 d3 d4 d5 d6)|(go_at_call 242;refine (jd6 rb s op l _ _ st1 (q9 hR1) ho1 (q9 hn1) (q9 HKK)).mono ?_;rintro e w' hg;have hg:=hg.from' (q9 hK1) hp1;rcases hg.cases with ⟨v,rfl,hg⟩|⟨en,pl,rfl,hg⟩;rotate_left;(exact ⟨rfl,hg⟩);have HG:=v7 hg;clear hg))
  go_ret
  exact q9 HG
 all_goals
  go_enter Tryz.func198,Tryz.ntmps198
  go_wp2_with (go_at_call 241;refine (q9 HF _ st (q9 H) ho).mono ?_;rintro e w1 ⟨hk1,h1⟩;rw [q9 HRES] at h1;obtain ⟨v1,rfl,hn1,hr1,hf1,ho1,hp1⟩:=h1;obtain ⟨b,rfl,cb⟩:=hn1.opAt;obtain ⟨d0,d1,d2,d3,d4,d5,d6,dz⟩:=hr1;have hR1:=v7 ((q9 H).kept hk1 ⟨d0,d1,d2,d3,d4,d5,d6,dz⟩ hf1);have hn1:=v7 hn1;have hK1:=v7 hk1;clear hk1 d0 d3 d4 d5 d6)
  go_ret
  exact ⟨q9 hK1,_,rfl,q9 hn1,(q9 hR1).at',hf1,ho1,hp1⟩
theorem test_7 (rb:Nat) (s:ByteArray) (op:Nat) (f:St→Res) (gI gL:Ast→St→Res) (hf:qf6 241 rb s op f) (hI:qj5 268 rb s op 11 gI) (hL:qj5 269 rb s op 12 gL)
  (w:World) (st:St) (h:Ready rb s w st) (ho:st.op=op) (l:Ast) (st1:St) (hres:f st=.ok l st1) (hk:st1.tk.kind=7) :
  Calls Tryz.prog 198 #[.pointer (some ⟨rb,0,none⟩)] w (Gives rb s w op st.place (qa3 s f gI gL (qd8 st l) l st1)):=by
 have H:=v7 h
 have HF:=v7 hf
 have HI:=v7 hI
 have HLK:=v7 hL
 have HRES:=v7 hres
 have hmf:∀(fn:Fn) (first cap:Array Value) (w:World),(Instr.makeFunc fn first cap).run Tryz.prog w=.ok (.func fn first cap) w:=fun _ _ _ _=>rfl
 obtain ⟨c0,c1,c2,c3,c4,c5,c6,fz⟩:=h.at'
 have hlt:=h.lt
 clear h hf hI hL hres
 have e16:(st1.tk.kind==16)=false:=by rw [hk];rfl
 have e17:(st1.tk.kind==17)=false:=by rw [hk];rfl
 have e18:(st1.tk.kind==18)=false:=by rw [hk];rfl
 have e19:(st1.tk.kind==19)=false:=by rw [hk];rfl
 have e20:(st1.tk.kind==20)=false:=by rw [hk];rfl
 have e21:(st1.tk.kind==21)=false:=by rw [hk];rfl
 have e14:(st1.tk.kind==14)=false:=by rw [hk];rfl
 have e7:(st1.tk.kind==7)=true:=by rw [hk];rfl
 have hT:∀bare,qa3 s f gI gL bare l st1=(match qa2 s f gI gL bare l (v6 s st1) with|.ok t st'=>.ok (.un ⟨5,st1.place,0,[],[],[]⟩ t) st'|.err en pl=>.err en pl):=fun bare=>by unfold qa3;simp [hk]
 rw [hT]
 clear hT
 have HKK:=v7 hk
 clear hk
 have hBB:qd8 st l=(st.tk.kind==2&&opA l==0):=rfl
 rw [hBB]
 clear hBB
 cases hb0:(st.tk.kind==2)<;>cases hb1:(opA l==0)
 all_goals simp only [Bool.and_self,Bool.and_true,Bool.and_false]
 rotate_right
 ·skip
  cases hkr:qa2 s f gI gL true l (v6 s st1) with
  | err en pl=>
   have HKR:=v7 hkr
   clear hkr
   go_enter Tryz.func198,Tryz.ntmps198
   go_wp2_with (first|(go_at_call 241;refine (q9 HF _ st (q9 H) ho).mono ?_;rintro e w1 ⟨hk1,h1⟩;rw [q9 HRES] at h1;obtain ⟨v1,rfl,hn1,hr1,hf1,ho1,hp1⟩:=h1;obtain ⟨b,rfl,cb⟩:=hn1.opAt;obtain ⟨d0,d1,d2,d3,d4,d5,d6,dz⟩:=hr1;have hR1:=v7 ((q9 H).kept hk1 ⟨d0,d1,d2,d3,d4,d5,d6,dz⟩ hf1);have hn1:=v7 hn1;have hK1:=v7 hk1;clear hk1 d0 d3 d4 d5 d6)|(go_at_call 54;refine (qc9 rb s st1 _ (q9 hR1).size (q9 hR1).fine.after (q9 hR1).at' (q9 hR1).lt (q9 hR1).err).mono ?_;rintro e w2 ⟨rfl,hr2,hk2⟩;have hn2:=v7 ((q9 hn1).kept hk2);have hK2:=v7 ((q9 hK1).trans hk2);have hR2:=v7 ((q9 hR1).kept hk2 hr2 ((q9 hR1).fine.next));clear hr2 hk2)|(go_at_call 243;refine (qj0 rb s op f gI gL (q9 HF) (q9 HI) (q9 HLK) _ _ (v6 s st1) l _ (q9 hR2) ho1 (q9 hn2)).mono ?_;rintro e w3 ⟨hk3,h3⟩;rw [q9 HKR] at h3;subst h3;simp only [qa1]))
   exact ⟨rfl,(q9 hK2).trans hk3,rfl⟩
  | ok t st3=>
   have HKR:=v7 hkr
   clear hkr
   go_enter Tryz.func198,Tryz.ntmps198
   go_wp2_with (first|(go_at_call 241;refine (q9 HF _ st (q9 H) ho).mono ?_;rintro e w1 ⟨hk1,h1⟩;rw [q9 HRES] at h1;obtain ⟨v1,rfl,hn1,hr1,hf1,ho1,hp1⟩:=h1;obtain ⟨b,rfl,cb⟩:=hn1.opAt;obtain ⟨d0,d1,d2,d3,d4,d5,d6,dz⟩:=hr1;have hR1:=v7 ((q9 H).kept hk1 ⟨d0,d1,d2,d3,d4,d5,d6,dz⟩ hf1);have hn1:=v7 hn1;have hK1:=v7 hk1;clear hk1 d0 d3 d4 d5 d6)|(go_at_call 54;refine (qc9 rb s st1 _ (q9 hR1).size (q9 hR1).fine.after (q9 hR1).at' (q9 hR1).lt (q9 hR1).err).mono ?_;rintro e w2 ⟨rfl,hr2,hk2⟩;have hn2:=v7 ((q9 hn1).kept hk2);have hK2:=v7 ((q9 hK1).trans hk2);have hR2:=v7 ((q9 hR1).kept hk2 hr2 ((q9 hR1).fine.next));clear hr2 hk2)|(go_at_call 243;refine (qj0 rb s op f gI gL (q9 HF) (q9 HI) (q9 HLK) _ _ (v6 s st1) l _ (q9 hR2) ho1 (q9 hn2)).mono ?_;rintro e w3 ⟨hk3,h3⟩;rw [q9 HKR] at h3;obtain ⟨v3,rfl,hn3,hr3,hf3,ho3,hp3⟩:=h3;have hn3:=v7 hn3;have hr3:=v7 hr3;have hK3:=v7 ((q9 hK2).trans hk3);have hlt3:rb<w3.heap.size:=Nat.lt_of_lt_of_le (q9 hR2).lt hk3.size;clear hk3)|(go_at_call 200;refine (qt8 rb _ _ _ _ (q9 hn3) hlt3).mono ?_;rintro e w4 ⟨⟨v4,rfl,hn4⟩,hb4⟩;have hn4:=v7 hn4;have hb4:=v7 hb4))
   go_ret
   have hl1:=hf1.le (by rw [q9 HKK];decide)
   exact ⟨(q9 hK3).trans (Kept.of_below (q9 hb4)),_,rfl,q9 hn4,(q9 hr3).below (q9 hb4) hlt3,hf3,ho3,by omega⟩
 all_goals
  cases hkr:qa2 s f gI gL false l (v6 s st1) with
  | err en pl=>
   have HKR:=v7 hkr
   clear hkr
   go_enter Tryz.func198,Tryz.ntmps198
   go_wp2_with (first|(go_at_call 241;refine (q9 HF _ st (q9 H) ho).mono ?_;rintro e w1 ⟨hk1,h1⟩;rw [q9 HRES] at h1;obtain ⟨v1,rfl,hn1,hr1,hf1,ho1,hp1⟩:=h1;obtain ⟨b,rfl,cb⟩:=hn1.opAt;obtain ⟨d0,d1,d2,d3,d4,d5,d6,dz⟩:=hr1;have hR1:=v7 ((q9 H).kept hk1 ⟨d0,d1,d2,d3,d4,d5,d6,dz⟩ hf1);have hn1:=v7 hn1;have hK1:=v7 hk1;clear hk1 d0 d3 d4 d5 d6)|(go_at_call 54;refine (qc9 rb s st1 _ (q9 hR1).size (q9 hR1).fine.after (q9 hR1).at' (q9 hR1).lt (q9 hR1).err).mono ?_;rintro e w2 ⟨rfl,hr2,hk2⟩;have hn2:=v7 ((q9 hn1).kept hk2);have hK2:=v7 ((q9 hK1).trans hk2);have hR2:=v7 ((q9 hR1).kept hk2 hr2 ((q9 hR1).fine.next));clear hr2 hk2)|(go_at_call 243;refine (qj0 rb s op f gI gL (q9 HF) (q9 HI) (q9 HLK) _ _ (v6 s st1) l _ (q9 hR2) ho1 (q9 hn2)).mono ?_;rintro e w3 ⟨hk3,h3⟩;rw [q9 HKR] at h3;subst h3;simp only [qa1]))
   exact ⟨rfl,(q9 hK2).trans hk3,rfl⟩
  | ok t st3=>
   have HKR:=v7 hkr
   clear hkr
   go_enter Tryz.func198,Tryz.ntmps198
   go_wp2_with (first|(go_at_call 241;refine (q9 HF _ st (q9 H) ho).mono ?_;rintro e w1 ⟨hk1,h1⟩;rw [q9 HRES] at h1;obtain ⟨v1,rfl,hn1,hr1,hf1,ho1,hp1⟩:=h1;obtain ⟨b,rfl,cb⟩:=hn1.opAt;obtain ⟨d0,d1,d2,d3,d4,d5,d6,dz⟩:=hr1;have hR1:=v7 ((q9 H).kept hk1 ⟨d0,d1,d2,d3,d4,d5,d6,dz⟩ hf1);have hn1:=v7 hn1;have hK1:=v7 hk1;clear hk1 d0 d3 d4 d5 d6)|(go_at_call 54;refine (qc9 rb s st1 _ (q9 hR1).size (q9 hR1).fine.after (q9 hR1).at' (q9 hR1).lt (q9 hR1).err).mono ?_;rintro e w2 ⟨rfl,hr2,hk2⟩;have hn2:=v7 ((q9 hn1).kept hk2);have hK2:=v7 ((q9 hK1).trans hk2);have hR2:=v7 ((q9 hR1).kept hk2 hr2 ((q9 hR1).fine.next));clear hr2 hk2)|(go_at_call 243;refine (qj0 rb s op f gI gL (q9 HF) (q9 HI) (q9 HLK) _ _ (v6 s st1) l _ (q9 hR2) ho1 (q9 hn2)).mono ?_;rintro e w3 ⟨hk3,h3⟩;rw [q9 HKR] at h3;obtain ⟨v3,rfl,hn3,hr3,hf3,ho3,hp3⟩:=h3;have hn3:=v7 hn3;have hr3:=v7 hr3;have hK3:=v7 ((q9 hK2).trans hk3);have hlt3:rb<w3.heap.size:=Nat.lt_of_lt_of_le (q9 hR2).lt hk3.size;clear hk3)|(go_at_call 200;refine (qt8 rb _ _ _ _ (q9 hn3) hlt3).mono ?_;rintro e w4 ⟨⟨v4,rfl,hn4⟩,hb4⟩;have hn4:=v7 hn4;have hb4:=v7 hb4))
   go_ret
   have hl1:=hf1.le (by rw [q9 HKK];decide)
   exact ⟨(q9 hK3).trans (Kept.of_below (q9 hb4)),_,rfl,q9 hn4,(q9 hr3).below (q9 hb4) hlt3,hf3,ho3,by omega⟩
theorem test_10 (rb:Nat) (s:ByteArray) (op:Nat) (f:St→Res) (gI gL:Ast→St→Res) (hf:qf6 241 rb s op f) (hI:qj5 268 rb s op 11 gI) (hL:qj5 269 rb s op 12 gL)
  (w:World) (st:St) (h:Ready rb s w st) (ho:st.op=op) (l:Ast) (st1:St) (hres:f st=.ok l st1) (hk:st1.tk.kind=10) :
  Calls Tryz.prog 198 #[.pointer (some ⟨rb,0,none⟩)] w (Gives rb s w op st.place (qa3 s f gI gL (qd8 st l) l st1)):=by
 have H:=v7 h
 have HF:=v7 hf
 have HI:=v7 hI
 have HLK:=v7 hL
 have HRES:=v7 hres
 have hmf:∀(fn:Fn) (first cap:Array Value) (w:World),(Instr.makeFunc fn first cap).run Tryz.prog w=.ok (.func fn first cap) w:=fun _ _ _ _=>rfl
 obtain ⟨c0,c1,c2,c3,c4,c5,c6,fz⟩:=h.at'
 have hlt:=h.lt
 clear h hf hI hL hres
 have e16:(st1.tk.kind==16)=false:=by rw [hk];rfl
 have e17:(st1.tk.kind==17)=false:=by rw [hk];rfl
 have e18:(st1.tk.kind==18)=false:=by rw [hk];rfl
 have e19:(st1.tk.kind==19)=false:=by rw [hk];rfl
 have e20:(st1.tk.kind==20)=false:=by rw [hk];rfl
 have e21:(st1.tk.kind==21)=false:=by rw [hk];rfl
 have e14:(st1.tk.kind==14)=false:=by rw [hk];rfl
 have e7:(st1.tk.kind==7)=false:=by rw [hk];rfl
 have e10:(st1.tk.kind==10)=true:=by rw [hk];rfl
 have hT:∀bare,qa3 s f gI gL bare l st1=qa2 s f gI gL bare l st1:=fun bare=>by unfold qa3;simp [hk]
 rw [hT]
 clear hT
 have HKK:=v7 hk
 clear hk
 have hBB:qd8 st l=(st.tk.kind==2&&opA l==0):=rfl
 rw [hBB]
 clear hBB
 cases hb0:(st.tk.kind==2)<;>cases hb1:(opA l==0)
 all_goals simp only [Bool.and_self,Bool.and_true,Bool.and_false]
 all_goals
  go_enter Tryz.func198,Tryz.ntmps198
  go_wp2_with (first|(go_at_call 241;refine (q9 HF _ st (q9 H) ho).mono ?_;rintro e w1 ⟨hk1,h1⟩;rw [q9 HRES] at h1;obtain ⟨v1,rfl,hn1,hr1,hf1,ho1,hp1⟩:=h1;obtain ⟨b,rfl,cb⟩:=hn1.opAt;obtain ⟨d0,d1,d2,d3,d4,d5,d6,dz⟩:=hr1;have hR1:=v7 ((q9 H).kept hk1 ⟨d0,d1,d2,d3,d4,d5,d6,dz⟩ hf1);have hn1:=v7 hn1;have hK1:=v7 hk1;clear hk1 d0 d3 d4 d5 d6)|(go_at_call 243;refine (qj0 rb s op f gI gL (q9 HF) (q9 HI) (q9 HLK) _ _ st1 l _ (q9 hR1) ho1 (q9 hn1)).mono ?_;rintro e w' hg;have hg:=hg.from' (q9 hK1) hp1;rcases hg.cases with ⟨v,rfl,hg⟩|⟨en,pl,rfl,hg⟩;rotate_left;(exact ⟨rfl,hg⟩);have HG:=v7 hg;clear hg))
  go_ret
  exact q9 HG
theorem test_11 (rb:Nat) (s:ByteArray) (op:Nat) (f:St→Res) (gI gL:Ast→St→Res) (hf:qf6 241 rb s op f) (hI:qj5 268 rb s op 11 gI) (hL:qj5 269 rb s op 12 gL)
  (w:World) (st:St) (h:Ready rb s w st) (ho:st.op=op) (l:Ast) (st1:St) (hres:f st=.ok l st1) (hk:st1.tk.kind=11) :
  Calls Tryz.prog 198 #[.pointer (some ⟨rb,0,none⟩)] w (Gives rb s w op st.place (qa3 s f gI gL (qd8 st l) l st1)):=by
 have H:=v7 h
 have HF:=v7 hf
 have HI:=v7 hI
 have HLK:=v7 hL
 have HRES:=v7 hres
 have hmf:∀(fn:Fn) (first cap:Array Value) (w:World),(Instr.makeFunc fn first cap).run Tryz.prog w=.ok (.func fn first cap) w:=fun _ _ _ _=>rfl
 obtain ⟨c0,c1,c2,c3,c4,c5,c6,fz⟩:=h.at'
 have hlt:=h.lt
 clear h hf hI hL hres
 have e16:(st1.tk.kind==16)=false:=by rw [hk];rfl
 have e17:(st1.tk.kind==17)=false:=by rw [hk];rfl
 have e18:(st1.tk.kind==18)=false:=by rw [hk];rfl
 have e19:(st1.tk.kind==19)=false:=by rw [hk];rfl
 have e20:(st1.tk.kind==20)=false:=by rw [hk];rfl
 have e21:(st1.tk.kind==21)=false:=by rw [hk];rfl
 have e14:(st1.tk.kind==14)=false:=by rw [hk];rfl
 have e7:(st1.tk.kind==7)=false:=by rw [hk];rfl
 have e10:(st1.tk.kind==10)=false:=by rw [hk];rfl
 have e11:(st1.tk.kind==11)=true:=by rw [hk];rfl
 have hT:∀bare,qa3 s f gI gL bare l st1=qa2 s f gI gL bare l st1:=fun bare=>by unfold qa3;simp [hk]
 rw [hT]
 clear hT
 have HKK:=v7 hk
 clear hk
 have hBB:qd8 st l=(st.tk.kind==2&&opA l==0):=rfl
 rw [hBB]
 clear hBB
 cases hb0:(st.tk.kind==2)<;>cases hb1:(opA l==0)
 all_goals simp only [Bool.and_self,Bool.and_true,Bool.and_false]
 all_goals
  go_enter Tryz.func198,Tryz.ntmps198
  go_wp2_with (first|(go_at_call 241;refine (q9 HF _ st (q9 H) ho).mono ?_;rintro e w1 ⟨hk1,h1⟩;rw [q9 HRES] at h1;obtain ⟨v1,rfl,hn1,hr1,hf1,ho1,hp1⟩:=h1;obtain ⟨b,rfl,cb⟩:=hn1.opAt;obtain ⟨d0,d1,d2,d3,d4,d5,d6,dz⟩:=hr1;have hR1:=v7 ((q9 H).kept hk1 ⟨d0,d1,d2,d3,d4,d5,d6,dz⟩ hf1);have hn1:=v7 hn1;have hK1:=v7 hk1;clear hk1 d0 d3 d4 d5 d6)|(go_at_call 243;refine (qj0 rb s op f gI gL (q9 HF) (q9 HI) (q9 HLK) _ _ st1 l _ (q9 hR1) ho1 (q9 hn1)).mono ?_;rintro e w' hg;have hg:=hg.from' (q9 hK1) hp1;rcases hg.cases with ⟨v,rfl,hg⟩|⟨en,pl,rfl,hg⟩;rotate_left;(exact ⟨rfl,hg⟩);have HG:=v7 hg;clear hg))
  go_ret
  exact q9 HG
theorem test_12 (rb:Nat) (s:ByteArray) (op:Nat) (f:St→Res) (gI gL:Ast→St→Res) (hf:qf6 241 rb s op f) (hI:qj5 268 rb s op 11 gI) (hL:qj5 269 rb s op 12 gL)
  (w:World) (st:St) (h:Ready rb s w st) (ho:st.op=op) (l:Ast) (st1:St) (hres:f st=.ok l st1) (hk:st1.tk.kind=12) :
  Calls Tryz.prog 198 #[.pointer (some ⟨rb,0,none⟩)] w (Gives rb s w op st.place (qa3 s f gI gL (qd8 st l) l st1)):=by
 have H:=v7 h
 have HF:=v7 hf
 have HI:=v7 hI
 have HLK:=v7 hL
 have HRES:=v7 hres
 have hmf:∀(fn:Fn) (first cap:Array Value) (w:World),(Instr.makeFunc fn first cap).run Tryz.prog w=.ok (.func fn first cap) w:=fun _ _ _ _=>rfl
 obtain ⟨c0,c1,c2,c3,c4,c5,c6,fz⟩:=h.at'
 have hlt:=h.lt
 clear h hf hI hL hres
 have e16:(st1.tk.kind==16)=false:=by rw [hk];rfl
 have e17:(st1.tk.kind==17)=false:=by rw [hk];rfl
 have e18:(st1.tk.kind==18)=false:=by rw [hk];rfl
 have e19:(st1.tk.kind==19)=false:=by rw [hk];rfl
 have e20:(st1.tk.kind==20)=false:=by rw [hk];rfl
 have e21:(st1.tk.kind==21)=false:=by rw [hk];rfl
 have e14:(st1.tk.kind==14)=false:=by rw [hk];rfl
 have e7:(st1.tk.kind==7)=false:=by rw [hk];rfl
 have e10:(st1.tk.kind==10)=false:=by rw [hk];rfl
 have e11:(st1.tk.kind==11)=false:=by rw [hk];rfl
 have e12:(st1.tk.kind==12)=true:=by rw [hk];rfl
 have hT:∀bare,qa3 s f gI gL bare l st1=qa2 s f gI gL bare l st1:=fun bare=>by unfold qa3;simp [hk]
 rw [hT]
 clear hT
 have HKK:=v7 hk
 clear hk
 have hBB:qd8 st l=(st.tk.kind==2&&opA l==0):=rfl
 rw [hBB]
 clear hBB
 cases hb0:(st.tk.kind==2)<;>cases hb1:(opA l==0)
 all_goals simp only [Bool.and_self,Bool.and_true,Bool.and_false]
 all_goals
  go_enter Tryz.func198,Tryz.ntmps198
  go_wp2_with (first|(go_at_call 241;refine (q9 HF _ st (q9 H) ho).mono ?_;rintro e w1 ⟨hk1,h1⟩;rw [q9 HRES] at h1;obtain ⟨v1,rfl,hn1,hr1,hf1,ho1,hp1⟩:=h1;obtain ⟨b,rfl,cb⟩:=hn1.opAt;obtain ⟨d0,d1,d2,d3,d4,d5,d6,dz⟩:=hr1;have hR1:=v7 ((q9 H).kept hk1 ⟨d0,d1,d2,d3,d4,d5,d6,dz⟩ hf1);have hn1:=v7 hn1;have hK1:=v7 hk1;clear hk1 d0 d3 d4 d5 d6)|(go_at_call 243;refine (qj0 rb s op f gI gL (q9 HF) (q9 HI) (q9 HLK) _ _ st1 l _ (q9 hR1) ho1 (q9 hn1)).mono ?_;rintro e w' hg;have hg:=hg.from' (q9 hK1) hp1;rcases hg.cases with ⟨v,rfl,hg⟩|⟨en,pl,rfl,hg⟩;rotate_left;(exact ⟨rfl,hg⟩);have HG:=v7 hg;clear hg))
  go_ret
  exact q9 HG
end
section
def chkR:CRes→Option Int
 | .err q=>some q
 | .ok c=>if (c != 3&&c != 0)=true then some 0 else none
end
section
def orV (x y:V):V:=if decide (x=bV true)||decide (y=bV true) then bV true else if decide (x=bV false)&&decide (y=bV false) then bV false else nV
theorem vOr_any (x y:V) (w:World) :
  Calls Tryz.prog 154 #[vV x,vV y] w fun e w'=>e=.returned (vV (orV x y))∧Below w.heap.size w w':=by
 have ex:=fun w=>qr3 x (bV true) w
 have ey:=fun w=>qr3 y (bV true) w
 have fx:=fun w=>qr3 x (bV false) w
 have fy:=fun w=>qr3 y (bV false) w
 simp only [vV] at ex ey fx fy
 unfold orV
 generalize decide (x=bV true)=a at *
 generalize decide (y=bV true)=b at *
 generalize decide (x=bV false)=c at *
 generalize decide (y=bV false)=d at *
 cases a
 ·cases b
  ·cases c
   ·simp only [Bool.false_and,Bool.false_or,Bool.false_eq_true,if_false]
    conv=>arg 3;simp only [vV]
    go_enter Tryz.func154,Tryz.ntmps154
    go_wp2_with fail
    go_cut [5] (fun s5 wx=>s5=.bool false∧wx=((((((w.alloc (Obj.cells #[.int .i64 x.kind,.int .i64 x.num,.string (BS x.str)] 26)).alloc (Obj.cells #[.int .i64 y.kind,.int .i64 y.num,.string (BS y.str)] 26)).alloc (Obj.cells #[.int .i64 0,.int .i64 0,.string ⟨#[]⟩] 26)).alloc (Obj.cells #[.int .i64 (bV true).kind,.int .i64 (bV true).num,.string (BS (bV true).str)] 26)).alloc (Obj.cells #[.int .i64 (bV true).kind,.int .i64 (bV true).num,.string (BS (bV true).str)] 26))).drew)
    case first=>go_region_with (go_at_call 64;refine (qc7 _ _).mono ?_;rintro e w' ⟨rfl,rfl⟩;simp only [vV]);all_goals (go_wp2_with fail;go_meet;exact ⟨rfl,rfl⟩)
    case rest=>
     obtain ⟨rfl,rfl⟩:=hcut
     go_wp2_with fail
     go_cut [15] (fun s15 wx=>s15=.bool false∧wx=(((((((w.alloc (Obj.cells #[.int .i64 x.kind,.int .i64 x.num,.string (BS x.str)] 26)).alloc (Obj.cells #[.int .i64 y.kind,.int .i64 y.num,.string (BS y.str)] 26)).alloc (Obj.cells #[.int .i64 0,.int .i64 0,.string ⟨#[]⟩] 26)).alloc (Obj.cells #[.int .i64 (bV true).kind,.int .i64 (bV true).num,.string (BS (bV true).str)] 26)).alloc (Obj.cells #[.int .i64 (bV true).kind,.int .i64 (bV true).num,.string (BS (bV true).str)] 26)).alloc (Obj.cells #[.int .i64 (bV false).kind,.int .i64 (bV false).num,.string (BS (bV false).str)] 26))).drew.drew)
     case first=>go_region_with (go_at_call 64;refine (qc7 _ _).mono ?_;rintro e w' ⟨rfl,rfl⟩;simp only [vV]);all_goals (go_wp2_with fail;go_meet;exact ⟨rfl,rfl⟩)
     case rest=>
      obtain ⟨rfl,rfl⟩:=hcut
      go_wp2_with (first|(go_at_call 64;refine (qc7 _ _).mono ?_;rintro e w' ⟨rfl,rfl⟩;simp only [vV])|(go_at_call 152;refine (qm0 _).mono ?_;rintro e w' ⟨rfl,rfl⟩;simp only [vV]))
      refine bodyPost_ret (by simp [results,Tryz.results154,go_sem]<;>rfl) rfl ⟨rfl, ?_⟩
      repeat (first|exact Below.refl _ _|apply Below.drew|apply qe3)
   ·cases d
    ·simp only [Bool.and_false,Bool.false_or,Bool.false_eq_true,if_false]
     conv=>arg 3;simp only [vV]
     go_enter Tryz.func154,Tryz.ntmps154
     go_wp2_with fail
     go_cut [5] (fun s5 wx=>s5=.bool false∧wx=((((((w.alloc (Obj.cells #[.int .i64 x.kind,.int .i64 x.num,.string (BS x.str)] 26)).alloc (Obj.cells #[.int .i64 y.kind,.int .i64 y.num,.string (BS y.str)] 26)).alloc (Obj.cells #[.int .i64 0,.int .i64 0,.string ⟨#[]⟩] 26)).alloc (Obj.cells #[.int .i64 (bV true).kind,.int .i64 (bV true).num,.string (BS (bV true).str)] 26)).alloc (Obj.cells #[.int .i64 (bV true).kind,.int .i64 (bV true).num,.string (BS (bV true).str)] 26))).drew)
     case first=>go_region_with (go_at_call 64;refine (qc7 _ _).mono ?_;rintro e w' ⟨rfl,rfl⟩;simp only [vV]);all_goals (go_wp2_with fail;go_meet;exact ⟨rfl,rfl⟩)
     case rest=>
      obtain ⟨rfl,rfl⟩:=hcut
      go_wp2_with fail
      go_cut [15] (fun s15 wx=>s15=.bool false∧wx=((((((((w.alloc (Obj.cells #[.int .i64 x.kind,.int .i64 x.num,.string (BS x.str)] 26)).alloc (Obj.cells #[.int .i64 y.kind,.int .i64 y.num,.string (BS y.str)] 26)).alloc (Obj.cells #[.int .i64 0,.int .i64 0,.string ⟨#[]⟩] 26)).alloc (Obj.cells #[.int .i64 (bV true).kind,.int .i64 (bV true).num,.string (BS (bV true).str)] 26)).alloc (Obj.cells #[.int .i64 (bV true).kind,.int .i64 (bV true).num,.string (BS (bV true).str)] 26)).alloc (Obj.cells #[.int .i64 (bV false).kind,.int .i64 (bV false).num,.string (BS (bV false).str)] 26)).alloc (Obj.cells #[.int .i64 (bV false).kind,.int .i64 (bV false).num,.string (BS (bV false).str)] 26))).drew.drew)
      case first=>go_region_with (go_at_call 64;refine (qc7 _ _).mono ?_;rintro e w' ⟨rfl,rfl⟩;simp only [vV]);all_goals (go_wp2_with fail;go_meet;exact ⟨rfl,rfl⟩)
      case rest=>
       obtain ⟨rfl,rfl⟩:=hcut
       go_wp2_with (first|(go_at_call 64;refine (qc7 _ _).mono ?_;rintro e w' ⟨rfl,rfl⟩;simp only [vV])|(go_at_call 152;refine (qm0 _).mono ?_;rintro e w' ⟨rfl,rfl⟩;simp only [vV]))
       refine bodyPost_ret (by simp [results,Tryz.results154,go_sem]<;>rfl) rfl ⟨rfl, ?_⟩
       repeat (first|exact Below.refl _ _|apply Below.drew|apply qe3)
    ·simp only [Bool.and_true,Bool.false_or,Bool.false_eq_true,if_false,if_true]
     conv=>arg 3;simp only [vV]
     go_enter Tryz.func154,Tryz.ntmps154
     go_wp2_with fail
     go_cut [5] (fun s5 wx=>s5=.bool false∧wx=((((((w.alloc (Obj.cells #[.int .i64 x.kind,.int .i64 x.num,.string (BS x.str)] 26)).alloc (Obj.cells #[.int .i64 y.kind,.int .i64 y.num,.string (BS y.str)] 26)).alloc (Obj.cells #[.int .i64 0,.int .i64 0,.string ⟨#[]⟩] 26)).alloc (Obj.cells #[.int .i64 (bV true).kind,.int .i64 (bV true).num,.string (BS (bV true).str)] 26)).alloc (Obj.cells #[.int .i64 (bV true).kind,.int .i64 (bV true).num,.string (BS (bV true).str)] 26))).drew)
     case first=>go_region_with (go_at_call 64;refine (qc7 _ _).mono ?_;rintro e w' ⟨rfl,rfl⟩;simp only [vV]);all_goals (go_wp2_with fail;go_meet;exact ⟨rfl,rfl⟩)
     case rest=>
      obtain ⟨rfl,rfl⟩:=hcut
      go_wp2_with fail
      go_cut [15] (fun s15 wx=>s15=.bool true∧wx=((((((((w.alloc (Obj.cells #[.int .i64 x.kind,.int .i64 x.num,.string (BS x.str)] 26)).alloc (Obj.cells #[.int .i64 y.kind,.int .i64 y.num,.string (BS y.str)] 26)).alloc (Obj.cells #[.int .i64 0,.int .i64 0,.string ⟨#[]⟩] 26)).alloc (Obj.cells #[.int .i64 (bV true).kind,.int .i64 (bV true).num,.string (BS (bV true).str)] 26)).alloc (Obj.cells #[.int .i64 (bV true).kind,.int .i64 (bV true).num,.string (BS (bV true).str)] 26)).alloc (Obj.cells #[.int .i64 (bV false).kind,.int .i64 (bV false).num,.string (BS (bV false).str)] 26)).alloc (Obj.cells #[.int .i64 (bV false).kind,.int .i64 (bV false).num,.string (BS (bV false).str)] 26))).drew.drew)
      case first=>go_region_with (go_at_call 64;refine (qc7 _ _).mono ?_;rintro e w' ⟨rfl,rfl⟩;simp only [vV]);all_goals (go_wp2_with fail;go_meet;exact ⟨rfl,rfl⟩)
      case rest=>
       obtain ⟨rfl,rfl⟩:=hcut
       go_wp2_with (first|(go_at_call 64;refine (qc7 _ _).mono ?_;rintro e w' ⟨rfl,rfl⟩;simp only [vV])|(go_at_call 152;refine (qm0 _).mono ?_;rintro e w' ⟨rfl,rfl⟩;simp only [vV]))
       refine bodyPost_ret (by simp [results,Tryz.results154,go_sem]<;>rfl) rfl ⟨rfl, ?_⟩
       repeat (first|exact Below.refl _ _|apply Below.drew|apply qe3)
  ·simp only [Bool.false_or,if_true]
   conv=>arg 3;simp only [vV]
   go_enter Tryz.func154,Tryz.ntmps154
   go_wp2_with fail
   go_cut [5] (fun s5 wx=>s5=.bool true∧wx=((((((w.alloc (Obj.cells #[.int .i64 x.kind,.int .i64 x.num,.string (BS x.str)] 26)).alloc (Obj.cells #[.int .i64 y.kind,.int .i64 y.num,.string (BS y.str)] 26)).alloc (Obj.cells #[.int .i64 0,.int .i64 0,.string ⟨#[]⟩] 26)).alloc (Obj.cells #[.int .i64 (bV true).kind,.int .i64 (bV true).num,.string (BS (bV true).str)] 26)).alloc (Obj.cells #[.int .i64 (bV true).kind,.int .i64 (bV true).num,.string (BS (bV true).str)] 26))).drew)
   case first=>go_region_with (go_at_call 64;refine (qc7 _ _).mono ?_;rintro e w' ⟨rfl,rfl⟩;simp only [vV]);all_goals (go_wp2_with fail;go_meet;exact ⟨rfl,rfl⟩)
   case rest=>
    obtain ⟨rfl,rfl⟩:=hcut
    go_wp2_with (first|(go_at_call 64;refine (qc7 _ _).mono ?_;rintro e w' ⟨rfl,rfl⟩;simp only [vV])|(go_at_call 152;refine (qm0 _).mono ?_;rintro e w' ⟨rfl,rfl⟩;simp only [vV]))
    refine bodyPost_ret (by simp [results,Tryz.results154,go_sem]<;>rfl) rfl ⟨rfl, ?_⟩
    repeat (first|exact Below.refl _ _|apply Below.drew|apply qe3)
 ·simp only [Bool.true_or,if_true]
  conv=>arg 3;simp only [vV]
  go_enter Tryz.func154,Tryz.ntmps154
  go_wp2_with fail
  go_cut [5] (fun s5 wx=>s5=.bool true∧wx=(((((w.alloc (Obj.cells #[.int .i64 x.kind,.int .i64 x.num,.string (BS x.str)] 26)).alloc (Obj.cells #[.int .i64 y.kind,.int .i64 y.num,.string (BS y.str)] 26)).alloc (Obj.cells #[.int .i64 0,.int .i64 0,.string ⟨#[]⟩] 26)).alloc (Obj.cells #[.int .i64 (bV true).kind,.int .i64 (bV true).num,.string (BS (bV true).str)] 26))).drew)
  case first=>go_region_with (go_at_call 64;refine (qc7 _ _).mono ?_;rintro e w' ⟨rfl,rfl⟩;simp only [vV]);all_goals (go_wp2_with fail;go_meet;exact ⟨rfl,rfl⟩)
  case rest=>
   obtain ⟨rfl,rfl⟩:=hcut
   go_wp2_with (first|(go_at_call 64;refine (qc7 _ _).mono ?_;rintro e w' ⟨rfl,rfl⟩;simp only [vV])|(go_at_call 152;refine (qm0 _).mono ?_;rintro e w' ⟨rfl,rfl⟩;simp only [vV]))
   refine bodyPost_ret (by simp [results,Tryz.results154,go_sem]<;>rfl) rfl ⟨rfl, ?_⟩
   repeat (first|exact Below.refl _ _|apply Below.drew|apply qe3)
end
section
def va1 (op:Int) (x y:V):V:=
 if op=5 then qz7 x else if op=6 then jb6 x y else if op=7 then orV x y else if op=8 then eqV x y else if op=9 then qz7 (eqV x y)
 else if op=12 then qp0 y x else if op=10 then qp0 x y else if op=13 then leV y x else if op=11 then leV x y
 else if op=14 then vk4 (iV 0) x else if op=16 then vk4 x y else if op=15 then vk6 (iV 0) x else if op=17 then vk6 x y
 else if op=18 then je1 x y else if op=19 then jc7 x y else bV (x.kind==0)
def qj9 (op:Int) (x y r:V):Prop:=∀w:World,Calls Tryz.prog 110 #[.int .i64 op,vV x,vV y] w fun e w'=>e=.returned (vV r)∧Below w.heap.size w w'
theorem qe9 {next:Act→World→Prop} {Q:Exit→Act→World→Prop} {n:Nat} {a:Act} {w:World} (h:Q (.exit n) a w):Exit.then next Q (.exit n) a w:=h
theorem qb0 {id n:Nat} {Q:Exit→Act→World→Prop} {a:Act} {w:World} (hne:(n==id)=false) (h:Q (.exit n) a w):Exit.inBlock id Q (.exit n) a w:=by
 have hn:¬n=id:=by simpa using hne
 simp only [Exit.inBlock,hn,if_false];exact h
theorem qb8 {id:Nat} {Q:Exit→Act→World→Prop} {a:Act} {w:World} (h:Q .normal a w):Exit.inBlock id Q (.exit id) a w:=by
 simp only [Exit.inBlock,if_true];exact h
theorem qb9 {next:Act→World→Prop} {Q:Exit→Act→World→Prop} {a:Act} {w:World} (h:next a w):Exit.then next Q .normal a w:=h
theorem rng0:Rng 0:=⟨by decide,by decide⟩
end
end Go.Proofs.YtfkcaldjphakpaaGreatDoor
