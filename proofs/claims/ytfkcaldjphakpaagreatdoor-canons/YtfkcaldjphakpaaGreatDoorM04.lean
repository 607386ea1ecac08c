/- group and denial. What append leaves of the reader's things; terms with texts. sign, signed, denied. -/
import Derived.Test.YtfkcaldjphakpaaGreatDoorM03
set_option maxHeartbeats 1000000
namespace Go.Proofs.YtfkcaldjphakpaaGreatDoor
open Go.RowKit
section
def qk8 (s:ByteArray) (st:St):St:={ j3 s st with op:=st.op+1 }
def qd5 (s:ByteArray) (f:St→Res) (st:St):Res:=if st.op=12 then .err 3 st.place else match f (qk8 s st) with
 | .ok t st'=>if st'.tk.kind=27 then .ok t { j3 s st' with op:=st.op } else .err 2 st'.place
 | .err en pl=>.err en pl
theorem Fine.op {s:ByteArray} {st:St} (h:Fine s st) (n:Nat):Fine s { st with op:=n }:=⟨h.place,h.after,h.long⟩
theorem Fine.next {s:ByteArray} {st:St} (h:Fine s st):Fine s (j3 s st):=qa7 s st h.after
theorem Fine.le {s:ByteArray} {st:St} (h:Fine s st) (hk:st.tk.kind≠0):st.place≤(j3 s st).place:=Nat.le_trans (Nat.le_of_lt (h.long hk)) (qf8 s st)
theorem ja0 (rb:Nat) (s:ByteArray) (op:Nat) (hop:op≤12) (f:St→Res) (hf:op<12→qg4 55 rb s (op+1) f) (w:World) (st:St) (h:Ready rb s w st) (ho:st.op=op) (hk0:st.tk.kind≠0) :
  Calls Tryz.prog 331 #[.pointer (some ⟨rb,0,none⟩)] w (Gives rb s w op st.place (qd5 s f st)):=by
 have H:=j4 h
 have hlt:=h.lt
 by_cases h12:st.op=12
 ·rw [qd5,if_pos h12]
  have H12:=j4 h12
  clear h hf h12
  go_enter Tryz.func331,Tryz.ntmps331
  go_wp2_with (go_at_call 199;refine (vm1 rb s st _ (q9 H).at' hlt (q9 H12)).mono ?_;rintro e w1 ⟨rfl,hk1⟩;simp only [qb4])
  exact ⟨rfl,hk1,rfl⟩
 ·have hlt12:op<12:=by omega
  have HF:=j4 (hf hlt12)
  have hle:=h.fine.le hk0
  rw [qd5,if_neg h12]
  have HS:Hid (st.op<12):=j4 (by omega)
  have READY:∀w1,Kept rb w w1→RdAt w1 rb s (qk8 s st)→Ready rb s w1 (qk8 s st):=fun w1 hk hr=>h.kept hk hr (h.fine.next.op _)
  have HREADY:=j4 READY
  have hin:(qk8 s st).op=op+1:=by show st.op+1=op+1;omega
  have HIN:=j4 hin
  clear h hf h12 READY hin
  cases hres:f (qk8 s st) with
  | err en pl=>
   have HRES:=j4 hres
   clear hres
   go_enter Tryz.func331,Tryz.ntmps331
   go_wp2_with (first|(go_at_call 199;refine (qs4 rb s st _ (q9 H).size (q9 H).fine.after (q9 H).at' hlt (q9 H).err (q9 H).glob (q9 HS)).mono ?_;rintro e w1 ⟨rfl,hr1,hk1⟩;have hr1:=j4 hr1;have hk1:=j4 hk1;simp only [tkV])|(go_at_call 55;refine (q9 HF _ (qk8 s st) (q9 HREADY _ (q9 hk1) (q9 hr1)) (q9 HIN)).mono ?_;rintro e w2 ⟨hk2,h2⟩;rw [q9 HRES] at h2;subst h2;simp only [qb4]))
   exact ⟨rfl,(q9 hk1).trans hk2,rfl⟩
  | ok t st2=>
   have HRES:=j4 hres
   clear hres
   by_cases h27:st2.tk.kind=27
   ·simp only [if_pos h27]
    have H27:=j4 h27
    have Hne:Hid (st2.tk.kind≠0):=j4 (by rw [h27];decide)
    clear h27
    go_enter Tryz.func331,Tryz.ntmps331
    go_wp2_with (first|(go_at_call 199;refine (qs4 rb s st _ (q9 H).size (q9 H).fine.after (q9 H).at' hlt (q9 H).err (q9 H).glob (q9 HS)).mono ?_;rintro e w1 ⟨rfl,hr1,hk1⟩;have hr1:=j4 hr1;have hk1:=j4 hk1;simp only [tkV])|(go_at_call 55;refine (q9 HF _ (qk8 s st) (q9 HREADY _ (q9 hk1) (q9 hr1)) (q9 HIN)).mono ?_;rintro e w2 ⟨hk2,h2⟩;rw [q9 HRES] at h2;obtain ⟨v2,rfl,hn2,hr2,hf2,ho2,hp2⟩:=h2;obtain ⟨vb,rfl⟩:=hn2.ptr;have hR2:=j4 ((q9 H).kept ((q9 hk1).trans hk2) hr2 hf2);have hn2:=j4 hn2;have hk2:=j4 hk2;have hf2:=j4 hf2;have ho2:=j4 ho2;clear hr2)|(go_at_call 56;refine (qd1 rb s st2 27 _ (q9 hR2).size (q9 hf2).after (q9 hR2).at' (q9 hR2).lt (q9 hR2).err (q9 H27)).mono ?_;rintro e w3 ⟨rfl,hr3,hk3⟩;have d6:w3.cell? ⟨rb,6,none⟩=some (.int .i64 ((op:Int)+1)):=(by rw [hr3.c6,stepSt_op,q9 ho2];simp);have dz:=hr3.fz;have hr3:=j4 hr3;have hk3:=j4 hk3;simp only [tkV]))
    go_ret
    refine ⟨(((q9 hk1).trans (q9 hk2)).trans (q9 hk3)).setCell 6 _,_,rfl,(q9 hn2).kept ((q9 hk3).setCell 6 _),(q9 hr3).setOp st.op _ (by omega),(q9 hf2).next.op _,ho, ?_⟩
    have h1:=(q9 hf2).le (q9 Hne)
    have h2:(qk8 s st).place=(j3 s st).place:=rfl
    show st.place≤(j3 s st2).place
    omega
   ·simp only [if_neg h27]
    have H27:=j4 h27
    clear h27
    go_enter Tryz.func331,Tryz.ntmps331
    go_wp2_with (first|(go_at_call 199;refine (qs4 rb s st _ (q9 H).size (q9 H).fine.after (q9 H).at' hlt (q9 H).err (q9 H).glob (q9 HS)).mono ?_;rintro e w1 ⟨rfl,hr1,hk1⟩;have hr1:=j4 hr1;have hk1:=j4 hk1;simp only [tkV])|(go_at_call 55;refine (q9 HF _ (qk8 s st) (q9 HREADY _ (q9 hk1) (q9 hr1)) (q9 HIN)).mono ?_;rintro e w2 ⟨hk2,h2⟩;rw [q9 HRES] at h2;obtain ⟨v2,rfl,hn2,hr2,hf2,ho2,hp2⟩:=h2;obtain ⟨vb,rfl⟩:=hn2.ptr;have hR2:=j4 ((q9 H).kept ((q9 hk1).trans hk2) hr2 hf2);have hn2:=j4 hn2;have hk2:=j4 hk2;have hf2:=j4 hf2;have ho2:=j4 ho2;clear hr2)|(go_at_call 56;refine (qn4 rb s st2 27 _ (q9 hR2).at' (q9 hR2).lt (q9 H27)).mono ?_;rintro e w3 ⟨rfl,hk3⟩;simp only [qb4]))
    exact ⟨rfl,((q9 hk1).trans (q9 hk2)).trans hk3,rfl⟩
theorem IsNode.one {rb:Nat} {w:World} {l:Ast} {lv:Value} (hl:IsNode rb w lv l) (hlt:rb<w.heap.size) (op place:Int) :
  IsNode rb ((w.alloc (.cells #[lv] 67)).alloc (.cells #[.int .i64 op,.int .i64 place,.slice (some ⟨w.heap.size,0,none⟩) 1 1,.int .i64 0,.string ⟨#[]⟩,.string ⟨#[]⟩,.slice none 0 0] 102))
   (.pointer (some ⟨w.heap.size+1,0,none⟩)) (.un ⟨op,place,0,[],[],[]⟩ l):=by
 have hk:Kept rb w ((w.alloc (.cells #[lv] 67)).alloc (.cells #[.int .i64 op,.int .i64 place,.slice (some ⟨w.heap.size,0,none⟩) 1 1,.int .i64 0,.string ⟨#[]⟩,.string ⟨#[]⟩,.slice none 0 0] 102)):=((Kept.refl rb w).alloc _).alloc _
 refine ⟨w.heap.size+1,w.heap.size,lv,rfl,⟨by omega,by simp,by simp,by simp,by simp,by simp,by simp [BS],by simp [BS],.slice none 0 0,by simp,.inl ⟨rfl,rfl⟩⟩,hlt,by simp;omega, ?_,hl.kept hk⟩
 rw [World.cell?_alloc_past _ _ _ (by simp),World.cell?_alloc_at _ _ _ _ rfl];rfl
theorem qv7 (rb:Nat) (x:Ast) (xv:Value) (place:Int) (w:World) (hx:IsNode rb w xv x) (hlt:rb<w.heap.size) :
  Calls Tryz.prog 200 #[xv,.int .i64 place] w fun e w'=>(∃v,e=.returned v∧IsNode rb w' v (.un ⟨5,place,0,[],[],[]⟩ x))∧Below w.heap.size w w':=by
 obtain ⟨b,rfl⟩:=hx.ptr
 have HX:=j4 hx
 clear hx
 go_enter Tryz.func200,Tryz.ntmps200
 go_wp2_with fail
 go_ret
 exact ⟨⟨_,rfl,(q9 HX).one hlt 5 place⟩,vi6 _ _ _⟩
end
section
theorem Kept.grown {rb:Nat} {a w w':World} {row:Option Nat} (h:Kept rb a w) (hg:w.grownBy w' row) (hrow:∀k,row=some k→a.heap.size≤k):Kept rb a w':=
 ⟨hg.os.trans h.os,hg.tape.trans h.tape,hg.output.trans h.output,Nat.le_trans h.size hg.size,fun k hk hn=>(hg.block k (Nat.lt_of_lt_of_le hk h.size) (fun e=>by have:=hrow k e.symm;omega)).trans (h.block k hk hn)⟩
theorem RdAt.same {w w':World} {rb:Nat} {s:ByteArray} {st:St} (h:RdAt w rb s st) (hb:w'.heap[rb]?=w.heap[rb]?):RdAt w' rb s st:=by
 have hc:∀j,w'.cell? ⟨rb,j,none⟩=w.cell? ⟨rb,j,none⟩:=fun j=>World.cell?_of_block (w:=w) (w':=w') (a:=⟨rb,j,none⟩) hb
 have hf:∀j,w'.frozen? ⟨rb,j,none⟩=w.frozen? ⟨rb,j,none⟩:=fun j=>World.frozen?_of_block (w:=w) (w':=w') (a:=⟨rb,j,none⟩) hb
 exact ⟨(hc 0).trans h.c0,(hc 1).trans h.c1,(hc 2).trans h.c2,(hc 3).trans h.c3,(hc 4).trans h.c4,(hc 5).trans h.c5,(hc 6).trans h.c6,fun j=>(hf j).trans (h.fz j)⟩
theorem RdAt.grown {w w':World} {rb:Nat} {s:ByteArray} {st:St} {row:Option Nat} (h:RdAt w rb s st) (hg:w.grownBy w' row) (hlt:rb<w.heap.size) (hrow:∀k,row=some k→rb<k):RdAt w' rb s st:=
 h.same (hg.block rb hlt (fun e=>by have:=hrow rb e.symm;omega))
theorem vn6 {rb base e size n:Nat} {w w':World} {v:Value} {xs:List Value} (h:w.ownsRow base e size v n xs) (hk:Kept rb w w') (hb:rb<base):w'.ownsRow base e size v n xs:=by
 refine ⟨h.1, ?_⟩
 rcases h.2 with hn|⟨g,cap,cur,rfl,hbg,hgg,rest⟩
 ·exact .inl hn
 ·refine .inr ⟨g,cap,cur,rfl,hbg, ?_,rest⟩
  rw [hk.block g (Array.getElem?_eq_some_iff.1 hgg).1 (by omega)]
  exact hgg
def qa0 (ts:List (List UInt8)):List Value:=ts.map fun t=>.string (BS t)
theorem TextsAt.of_row {rb base e:Nat} {w:World} {v:Value} {ts:List (List UInt8)} (h:w.ownsRow base e 1 v ts.length (qa0 ts)) (hb:rb<base):TextsAt rb w v ts:=by
 have h0:=h
 rcases h.2 with ⟨hv,hn⟩|⟨g,cap,cur,rfl,hbg,hgg,_⟩
 ·exact .inl ⟨List.eq_nil_of_length_eq_zero hn,hv⟩
 ·refine .inr ⟨g,cap,rfl,by omega,(Array.getElem?_eq_some_iff.1 hgg).1,fun j t ht=>?_⟩
  have:=h0.cells (g:=g) rfl j (.string (BS t)) (by simp [qa0,ht])
  have hadd:(⟨g,0,none⟩:Addr).add j=⟨g,j,none⟩:=by unfold Addr.add;split<;>simp_all
  rwa [hadd] at this
theorem IsNode.texted {rb:Nat} {w:World} {l:Ast} {lv tv:Value} {ts:List (List UInt8)} (hl:IsNode rb w lv l) (hlt:rb<w.heap.size) (ht:TextsAt rb w tv ts) (op place:Int) (str esc:List UInt8) :
  IsNode rb ((w.alloc (.cells #[lv] 67)).alloc (.cells #[.int .i64 op,.int .i64 place,.slice (some ⟨w.heap.size,0,none⟩) 1 1,.int .i64 0,.string (BS str),.string (BS esc),tv] 102))
   (.pointer (some ⟨w.heap.size+1,0,none⟩)) (.un ⟨op,place,0,str,esc,ts⟩ l):=by
 have hk:Kept rb w ((w.alloc (.cells #[lv] 67)).alloc (.cells #[.int .i64 op,.int .i64 place,.slice (some ⟨w.heap.size,0,none⟩) 1 1,.int .i64 0,.string (BS str),.string (BS esc),tv] 102)):=((Kept.refl rb w).alloc _).alloc _
 refine ⟨w.heap.size+1,w.heap.size,lv,rfl,⟨by omega,by simp,by simp,by simp,by simp,by simp,by simp,by simp,tv,by simp,ht.kept hk⟩,hlt,by simp;omega, ?_,hl.kept hk⟩
 rw [World.cell?_alloc_past _ _ _ (by simp),World.cell?_alloc_at _ _ _ _ rfl];rfl
theorem Fine.lt {s:ByteArray} {st:St} (h:Fine s st) (hk:st.tk.kind≠0):st.place<(j3 s st).place:=Nat.lt_of_lt_of_le (h.long hk) (qf8 s st)
theorem vs4 (k p n:Int) (b:ByteArray) (w:World):(Instr.field 91 (.agg #[.int .i64 k,.int .i64 p,.int .i64 n,.string b]) 3).run Tryz.prog w=.ok (.string b) w:=by kernel_rfl
def qf5 (s:ByteArray) (l:Ast) (pl:Nat):Nat→List (List UInt8)→St→Res
 | 0,_,_=>.err 0 0
 | n+1,ts,st=>if st.tk.kind=28 then (if (j3 s st).tk.kind=4 then qf5 s l pl n (ts++[(j3 s st).tk.str]) (j3 s (j3 s st)) else .err 2 (j3 s st).place)
   else if st.tk.kind=27 then .ok (.un ⟨21,pl,0,[],[],ts⟩ l) (j3 s st) else .err 2 st.place
def qh5 (s:ByteArray) (l:Ast) (st:St):Res:=
 if (j3 s st).tk.kind=26 then (if (j3 s (j3 s st)).tk.kind=4 then qf5 s l st.place (s.size+1) [(j3 s (j3 s st)).tk.str] (j3 s (j3 s (j3 s st))) else .err 2 (j3 s (j3 s st)).place)
 else .err 2 (j3 s st).place
theorem vf3 {s:ByteArray} {l:Ast} {pl n:Nat} {ts:List (List UInt8)} {st:St} (h:st.tk.kind=28) (h4:(j3 s st).tk.kind=4):qf5 s l pl (n+1) ts st=qf5 s l pl n (ts++[(j3 s st).tk.str]) (j3 s (j3 s st)):=by rw [qf5,if_pos h,if_pos h4]
theorem vj2 {s:ByteArray} {l:Ast} {pl n:Nat} {ts:List (List UInt8)} {st:St} (h:st.tk.kind=28) (h4:¬(j3 s st).tk.kind=4):qf5 s l pl (n+1) ts st=.err 2 (j3 s st).place:=by rw [qf5,if_pos h,if_neg h4]
theorem vj3 {s:ByteArray} {l:Ast} {pl n:Nat} {ts:List (List UInt8)} {st:St} (h:¬st.tk.kind=28) (h4:st.tk.kind=27):qf5 s l pl (n+1) ts st=.ok (.un ⟨21,pl,0,[],[],ts⟩ l) (j3 s st):=by rw [qf5,if_neg h,if_pos h4]
theorem vf4 {s:ByteArray} {l:Ast} {pl n:Nat} {ts:List (List UInt8)} {st:St} (h:¬st.tk.kind=28) (h4:¬st.tk.kind=27):qf5 s l pl (n+1) ts st=.err 2 st.place:=by rw [qf5,if_neg h,if_neg h4]
theorem textRow (w:World) (base:Nat) (hb:base≤w.heap.size) (t:List UInt8):(w.alloc (.cells #[.string (BS t)] 9)).ownsRow base 9 1 (.slice (some ⟨w.heap.size,0,none⟩) 1 1) [t].length (qa0 [t]):=
 ⟨rfl,.inr ⟨w.heap.size,1,#[.string (BS t)],rfl,hb,heap_alloc_new w _,Nat.le_refl _,by decide,rfl,rfl⟩⟩
end
section
def qd7 (s:ByteArray) (f:St→Res) (o:Int) (st:St):Res:=if st.op=12 then .err 3 st.place else match f (qk8 s st) with
 | .ok x st'=>.ok (.un ⟨o,st.place,0,[],[],[]⟩ x) { st' with op:=st.op }
 | .err en pl=>.err en pl
theorem vk1 (rb:Nat) (s:ByteArray) (op:Nat) (hop:op≤12) (f:St→Res) (hf:op<12→qg4 301 rb s (op+1) f) (o:Int) (w:World) (st:St) (h:Ready rb s w st) (ho:st.op=op) (hk0:st.tk.kind≠0) :
  Calls Tryz.prog 330 #[.pointer (some ⟨rb,0,none⟩),.int .i64 o] w (Gives rb s w op st.place (qd7 s f o st)):=by
 have H:=j4 h
 have hlt:=h.lt
 by_cases h12:st.op=12
 ·rw [qd7,if_pos h12]
  have H12:=j4 h12
  clear h hf h12
  go_enter Tryz.func330,Tryz.ntmps330
  go_wp2_with (go_at_call 199;refine (vm1 rb s st _ (q9 H).at' hlt (q9 H12)).mono ?_;rintro e w1 ⟨rfl,hk1⟩;simp only [qb4])
  exact ⟨rfl,hk1,rfl⟩
 ·have hlt12:op<12:=by omega
  have HF:=j4 (hf hlt12)
  have hle:=h.fine.le hk0
  rw [qd7,if_neg h12]
  have HS:Hid (st.op<12):=j4 (by omega)
  have READY:∀w1,Kept rb w w1→RdAt w1 rb s (qk8 s st)→Ready rb s w1 (qk8 s st):=fun w1 hk hr=>h.kept hk hr (h.fine.next.op _)
  have HREADY:=j4 READY
  have hin:(qk8 s st).op=op+1:=by show st.op+1=op+1;omega
  have HIN:=j4 hin
  clear h hf h12 READY hin
  cases hres:f (qk8 s st) with
  | err en pl=>
   have HRES:=j4 hres
   clear hres
   go_enter Tryz.func330,Tryz.ntmps330
   go_wp2_with (first|(go_at_call 199;refine (qs4 rb s st _ (q9 H).size (q9 H).fine.after (q9 H).at' hlt (q9 H).err (q9 H).glob (q9 HS)).mono ?_;rintro e w1 ⟨rfl,hr1,hk1⟩;have hr1:=j4 hr1;have hk1:=j4 hk1;simp only [tkV])|(go_at_call 301;refine (q9 HF _ (qk8 s st) ((q9 HREADY _ (q9 hk1) (q9 hr1)).allocd _) (q9 HIN)).mono ?_;rintro e w2 ⟨hk2,h2⟩;rw [q9 HRES] at h2;subst h2;simp only [qb4]))
   exact ⟨rfl,((q9 hk1).alloc _).trans hk2,rfl⟩
  | ok x st2=>
   have HRES:=j4 hres
   clear hres
   go_enter Tryz.func330,Tryz.ntmps330
   go_wp2_with (first|(go_at_call 199;refine (qs4 rb s st _ (q9 H).size (q9 H).fine.after (q9 H).at' hlt (q9 H).err (q9 H).glob (q9 HS)).mono ?_;rintro e w1 ⟨rfl,hr1,hk1⟩;have hz1:=hk1.size;have hr1:=j4 hr1;have hk1:=j4 hk1;have n1:¬w1.heap.size=rb:=(by omega);have n2:¬rb=w1.heap.size:=(by omega);simp only [tkV])|(go_at_call 301;refine (q9 HF _ (qk8 s st) ((q9 HREADY _ (q9 hk1) (q9 hr1)).allocd _) (q9 HIN)).mono ?_;rintro e w2 ⟨hk2,h2⟩;rw [q9 HRES] at h2;obtain ⟨v2,rfl,hn2,hr2,hf2,ho2,hp2⟩:=h2;obtain ⟨vb,rfl⟩:=hn2.ptr;have hz2:w1.heap.size<w2.heap.size:=(by have:=hk2.size;simp at this;omega);have q1:w2.cell? ⟨w1.heap.size,1,none⟩=some (.int .i64 st.place):=((qc2 hk2).1 _ 1 (by simp) n1).trans (by simp);have d6:w2.cell? ⟨rb,6,none⟩=some (.int .i64 ((op:Int)+1)):=(by rw [hr2.c6,ho2];simp);have dz:=hr2.fz;have hr2:=j4 hr2;have hn2:=j4 hn2;have hk2:=j4 hk2;have hf2:=j4 hf2;have ho2:=j4 ho2))
   go_ret
   have hlt2:rb<w2.heap.size:=by omega
   refine ⟨((((((q9 hk1).alloc _).trans (q9 hk2)).setCell 6 _).alloc _).alloc _),_,rfl, ?_, ?_,(q9 hf2).op _,ho, ?_⟩
   ·have:=IsNode.one ((q9 hn2).kept ((Kept.refl rb w2).setCell 6 (.int .i64 (op:Int)))) (by rw [size_setCell];exact hlt2) o st.place
    simpa using this
   ·exact (((q9 hr2).setOp st.op _ (by omega)).allocd _ (by simpa using hlt2)).allocd _ (by simp;omega)
   ·have h2:(qk8 s st).place=(j3 s st).place:=rfl
    show st.place≤st2.place
    omega
end
end Go.Proofs.YtfkcaldjphakpaaGreatDoor
