/- The document's answer: signed: what stands in brackets; what is no term. The document's answer: operands with operators of one rank between them. -/
import Derived.Test.YtfkcaldjphakpaaGreatDoorM19
import Derived.Test.YtfkcaldjphakpaaGreatDoorM03
namespace Go.Proofs.YtfkcaldjphakpaaGreatDoor
open Go.RowKit
section
set_option maxHeartbeats 8000000 in
theorem jk9 (rb:Nat) (s:ByteArray) (hs:s.size≤200) (op m:Nat) (hm:200≤m) (w:World) (st:St) (ns:List RN) (j:Nat) (h:RT w rb s ns j st) (ho:st.op=op) (hk:st.tk.kind≠2∧st.tk.kind≠3∧st.tk.kind≠4∧st.tk.kind≠8∧st.tk.kind≠9∧st.tk.kind≠22∧st.tk.kind≠23∧st.tk.kind≠26) :
  Calls Tryz.prog 351 #[.pointer (some ⟨rb,0,none⟩)] w (REnds rb s w op m ns j st.place (.err 2 st.place)):=by
 obtain ⟨c2,c3,c4,c5,c6⟩:=h.ct
 have c8:=h.c8
 have hlt:=h.lt
 have n0:¬w.heap.size=rb:=by omega
 have n1:¬rb=w.heap.size:=by omega
 have i8:=isK (st:=st) (c:=8) (X:=⟨#[84,82,85,69]⟩) rfl (by decide) (by decide) 6 rfl
 have i9:=isK (st:=st) (c:=9) (X:=⟨#[70,65,76,83,69]⟩) rfl (by decide) (by decide) 6 rfl
 have i22:=isK (st:=st) (c:=22) (X:=⟨#[43]⟩) rfl (by decide) (by decide) 5 rfl
 have i23:=isK (st:=st) (c:=23) (X:=⟨#[45]⟩) rfl (by decide) (by decide) 5 rfl
 have i26:=isK (st:=st) (c:=26) (X:=⟨#[40]⟩) rfl (by decide) (by decide) 5 rfl
 rw [beq_eq_false_iff_ne.2 hk.2.2.2.1] at i8
 rw [beq_eq_false_iff_ne.2 hk.2.2.2.2.1] at i9
 rw [beq_eq_false_iff_ne.2 hk.2.2.2.2.2.1] at i22
 rw [beq_eq_false_iff_ne.2 hk.2.2.2.2.2.2.1] at i23
 rw [beq_eq_false_iff_ne.2 hk.2.2.2.2.2.2.2] at i26
 have r2:(rK st.tk.kind==2)=false∧(rK st.tk.kind==3)=false∧(rK st.tk.kind==4)=false:=by
  obtain ⟨h2,h3,h4,_⟩:=hk
  refine ⟨beq_eq_false_iff_ne.2 ?_,beq_eq_false_iff_ne.2 ?_,beq_eq_false_iff_ne.2 ?_⟩<;>(unfold rK;split<;>(try split)<;>omega)
 obtain ⟨r2,r3,r4⟩:=r2
 have H:=j4 h
 clear h hk
 generalize rK st.tk.kind=K at *
 generalize BS (tkS st)=S at *
 generalize tkZ st=Z at *
 generalize tkN st=N at *
 have FL:∀o,Hid (Calls Tryz.prog 174 #[.pointer (some ⟨rb,0,none⟩),.int .i64 2,.int .i64 st.place] (w.alloc o) fun e w'=>e=.returned (.tuple #[])∧TKept rb (w.alloc o) w'∧RE w' rb s 2 st.place st.op 200):=fun o=>j4 (qp9 ((q9 H).alloc o) hs 2 st.place (by decide))
 rcases (show K=6∨K=5∨(K≠6∧K≠5) by omega) with rfl|rfl|⟨k6,k5⟩
 ·rw [beq_self_eq_true,Bool.true_and] at i8 i9
  rw [show (⟨#[84,82,85,69]⟩:ByteArray).toList=[84,82,85,69] from by rw [Lib.toList_data]] at i8
  rw [show (⟨#[70,65,76,83,69]⟩:ByteArray).toList=[70,65,76,83,69] from by rw [Lib.toList_data]] at i9
  clear i22 i23 i26 r2 r3 r4
  go_enter Tryz.func351,Tryz.ntmps351
  go_wp2_with (go_at_call 174;refine (q9 (FL _)).mono ?_;rintro e w1 ⟨rfl,hk1,hr1⟩;have HK1:=j4 (qf6 hlt hk1);have HR1:=j4 hr1;clear hk1 hr1)
  go_ret
  exact ⟨q9 HK1,0,rfl,ho ▸ (q9 HR1).more hm⟩
 ·rw [beq_self_eq_true,Bool.true_and] at i22 i23 i26
  rw [show (⟨#[43]⟩:ByteArray).toList=[43] from by rw [Lib.toList_data]] at i22
  rw [show (⟨#[45]⟩:ByteArray).toList=[45] from by rw [Lib.toList_data]] at i23
  rw [show (⟨#[40]⟩:ByteArray).toList=[40] from by rw [Lib.toList_data]] at i26
  have j22:¬S.toList=[43]:=beq_eq_false_iff_ne.1 i22
  have j23:¬S.toList=[45]:=beq_eq_false_iff_ne.1 i23
  have j26:¬S.toList=[40]:=beq_eq_false_iff_ne.1 i26
  clear i8 i9 r2 r3 r4
  go_enter Tryz.func351,Tryz.ntmps351
  go_wp2_with (go_at_call 174;refine (q9 (FL _)).mono ?_;rintro e w1 ⟨rfl,hk1,hr1⟩;have HK1:=j4 (qf6 hlt hk1);have HR1:=j4 hr1;clear hk1 hr1)
  go_ret
  exact ⟨q9 HK1,0,rfl,ho ▸ (q9 HR1).more hm⟩
 ·have k6':(K==6)=false:=beq_eq_false_iff_ne.2 k6
  have k5':(K==5)=false:=beq_eq_false_iff_ne.2 k5
  have j5:¬K=5:=k5
  clear i8 i9 i22 i23 i26 k6 k5
  go_enter Tryz.func351,Tryz.ntmps351
  go_wp2_with (go_at_call 174;refine (q9 (FL _)).mono ?_;rintro e w1 ⟨rfl,hk1,hr1⟩;have HK1:=j4 (qf6 hlt hk1);have HR1:=j4 hr1;clear hk1 hr1)
  go_ret
  exact ⟨q9 HK1,0,rfl,ho ▸ (q9 HR1).more hm⟩
end
section
def plT (w:World) (rb:Nat):Nat:=match w.cell? ⟨rb,3,none⟩ with
 | some (.int _ n)=>n.toNat
 | _=>0
def meT (s:ByteArray) (w:World) (rb:Nat):Nat:=match w.cell? ⟨rb,8,none⟩ with
 | some (.int _ n)=>if n=0 then s.size+2 - plT w rb else 0
 | _=>0
theorem qw8 {w:World} {rb:Nat} {s:ByteArray} {ns:List RN} {j:Nat} {st:St} (h:RT w rb s ns j st):meT s w rb=s.size+2 - st.place:=by
 have h3:=h.ct.2.1
 have h8:=h.c8
 unfold meT plT;rw [h8,h3];simp
theorem vt1 {w:World} {rb:Nat} {s:ByteArray} {en pl:Int} {op m:Nat} (h:RE w rb s en pl op m):meT s w rb=0:=by
 obtain ⟨h8,he⟩:=h.c8
 unfold meT;rw [h8];simp only;rw [if_neg (by intro e;rw [e] at he;simp at he)]
theorem qh0 {w:World} {rb:Nat} {s:ByteArray} {ns:List RN} {j:Nat} {st:St} (h:RT w rb s ns j st) {kind:Int} {X:ByteArray} :
  Calls Tryz.prog 215 #[.pointer (some ⟨rb,0,none⟩),.int .i64 kind,.string X] w fun e w'=>e=.returned (.bool (rK st.tk.kind==kind&&((BS (tkS st)).toList==X.toList)))∧w'=w:=by
 obtain ⟨nv,h,_⟩:=h
 exact qu9 h kind X
theorem vj4 {a b:Int} (h:a=b):Value.int .i64 a=Value.int .i64 b:=by rw [h]
def RowAt (rb:Nat) (s:ByteArray) (w:World) (op m:Nat) (ns:List RN) (j lo:Nat) (R:Res) (f:St→Res) (ks:List Int) (v:Value) (wr:World):Prop:=
 TKept rb w wr∧((∃(n:Nat) (l:Ast) (sl:St) (new:List RN),R=qb7 s f ks n l sl∧s.size<n+sl.place∧v=.int .i64 ((ns.length+new.length - 1:Nat):Int)∧RT wr rb s (ns++new) j sl∧sl.op=op∧lo≤sl.place∧Flat l ns.length new) ∨
  ∃(en pl:Int) (i:Nat),R=.err en pl∧v=.int .i64 i∧RE wr rb s en pl op m)
end
end Go.Proofs.YtfkcaldjphakpaaGreatDoor
