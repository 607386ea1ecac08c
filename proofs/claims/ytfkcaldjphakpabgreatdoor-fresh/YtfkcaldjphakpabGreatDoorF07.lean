/- in. like. -/
import Derived.Test.YtfkcaldjphakpabGreatDoorF12
import Derived.Test.YtfkcaldjphakpabGreatDoorF06
set_option maxHeartbeats 1000000
set_option maxRecDepth 100000
namespace Go.Proofs.YtfkcaldjphakpabGreatDoor
open Go.RowKit
section
theorem jj5:(Tryz.prog.info? 9).map (fun i=>(i.zero,i.size,i.bytes))=some (some (.string ⟨#[]⟩),1,16):=by kernel_rfl
theorem vx0 {base e size n:Nat} {w:World} {v:Value} {xs:List Value} (h:w.ownsRow base e size v n xs):∃a m c,v=.slice a m c:=by
 rcases h.2 with ⟨rfl,_⟩|⟨g,cap,cur,rfl,_⟩
 ·exact ⟨_,_,_,rfl⟩
 ·exact ⟨_,_,_,rfl⟩
theorem in_more {rb B:Nat} {s:ByteArray} {w wr w5 w6:World} {sl2:St} {v v':Value} {ts:List (List UInt8)} {t:List UInt8} {o:Obj} {pv:Value}
  (hown':w6.ownsRow (B+1) 9 1 v' (ts.length+1) (qp1 ts++[.string (BS t)])) (hgrow:(w5.alloc o).grownBy w6 v.ownBlock) (hown:wr.ownsRow (B+1) 9 1 v ts.length (qp1 ts))
  (hr:RdAt w5 rb s sl2) (hlt:rb<w5.heap.size) (hk:Kept rb w wr) (hk5:Kept rb wr w5) (hcr:wr.cell? ⟨B,1,none⟩=some pv) (hBr:B<wr.heap.size) (hbase:rb<B) (hB:w.heap.size≤B) :
  w6.ownsRow (B+1) 9 1 v' (ts++[t]).length (qp1 (ts++[t]))∧RdAt w6 rb s sl2∧Kept rb w w6∧w6.cell? ⟨B,1,none⟩=some pv∧B<w6.heap.size:=by
 have hrow:∀k,v.ownBlock=some k→B+1≤k:=fun k hk'=>(hown.lt k hk').1
 have hz:=hk5.size
 have hg:=hgrow.size
 simp at hg
 refine ⟨by rw [List.length_append,qp1,List.map_append];exact hown',(hr.allocd o hlt).grown hgrow (by simp;omega) (fun k hk'=>by have:=hrow k hk';omega),((hk.trans hk5).alloc o).grown hgrow (fun k hk'=>by have:=hrow k hk';omega), ?_,by omega⟩
 refine hgrow.cell ?_ (fun e=>by have:=hrow B e.symm;omega)
 rw [World.cell?_alloc_past _ _ _ (by omega)]
 exact ((x5 hk5).1 B 1 hBr (by omega)).trans hcr
theorem in_reads (rb:Nat) (s:ByteArray) (op:Nat) (hs:s.size≤200):qk2 254 rb s op 11 (qn6 s):=by
 intro w st l lv h ho hl h11
 have H:=v7 h
 have hlt:=h.lt
 have hle1:=h.fine.lt (by rw [h11];decide)
 have hf1:=h.fine.next
 have H11:=v7 h11
 obtain ⟨lb,rfl⟩:=hl.ptr
 have HL:=v7 hl
 have RK:Hid (∀w1 st1,Fine s st1→Kept rb w w1→RdAt w1 rb s st1→Ready rb s w1 st1):=v7 fun w1 st1 hf hk hr=>h.kept hk hr hf
 have HF1:=v7 hf1
 obtain ⟨i0,hi,hz0,hz1',hz2'⟩:=info_parts jj5
 clear h hl h11
 by_cases h26:(v9 s st).tk.kind=26
 ·rw [qn6,if_pos h26]
  have hle2:=hf1.lt (by rw [h26];decide)
  have HF2:=v7 hf1.next
  have H26:=v7 h26
  clear h26
  by_cases h4:(v9 s (v9 s st)).tk.kind=4
  ·rw [if_pos h4]
   have hle3:=hf1.next.lt (by rw [h4];decide)
   have HF3:=v7 hf1.next.next
   have H4:=v7 h4
   have FS:=fun b=>jb4 (v9 s (v9 s st)).tk.kind (v9 s (v9 s st)).place (v9 s (v9 s st)).tk.num b
   clear h4 hf1
   obtain ⟨R,hR⟩:∃r,qf4 s l st.place (s.size+1) [(v9 s (v9 s st)).tk.str] (v9 s (v9 s (v9 s st)))=r:=⟨_,rfl⟩
   rw [hR]
   have HR:=v7 hR
   clear hR
   go_enter Tryz.func254,Tryz.ntmps254
   go_wp2_with (first|(go_at_call_of 57 (Value.int IntKind.i64 11);refine (qb2 rb s st 11 _ (q9 H).size (q9 H).fine.after (q9 H).at' hlt (q9 H).err (q9 H11)).mono ?_;rintro e w1 ⟨rfl,hr1,hk1⟩;have hz1:=hk1.size;have n1:¬w1.heap.size=rb:=(by omega);have hR1:=v7 ((q9 RK _ _ (q9 HF1) hk1 hr1).allocd (.cells #[.int .i64 st.tk.kind,.int .i64 st.place,.int .i64 st.tk.num,.string (BS st.tk.str)] 127));have hK1:=v7 (hk1.alloc (.cells #[.int .i64 st.tk.kind,.int .i64 st.place,.int .i64 st.tk.num,.string (BS st.tk.str)] 127));clear hr1 hk1;simp only [tkV])|(go_at_call_of 57 (Value.int IntKind.i64 26);refine (qb2 rb s (v9 s st) 26 _ (q9 hR1).size (q9 hR1).fine.after (q9 hR1).at' (q9 hR1).lt (q9 hR1).err (q9 H26)).mono ?_;rintro e w2 ⟨rfl,hr2,hk2⟩;have hz2:w1.heap.size<w2.heap.size:=(by have:=hk2.size;simp at this;omega);have q2:w2.cell? ⟨w1.heap.size,1,none⟩=some (.int .i64 st.place):=((x5 hk2).1 _ 1 (by simp) n1).trans (by simp);have hK2:=v7 ((q9 hK1).trans hk2);have hR2:=v7 (q9 RK _ _ (q9 HF2) (q9 hK2) hr2);clear hr2 hk2;simp only [tkV])|(go_at_call_of 57 (Value.int IntKind.i64 4);refine (qb2 rb s (v9 s (v9 s st)) 4 _ (q9 hR2).size (q9 hR2).fine.after (q9 hR2).at' (q9 hR2).lt (q9 hR2).err (q9 H4)).mono ?_;rintro e w3 ⟨rfl,hr3,hk3⟩;have hz3:w1.heap.size<w3.heap.size:=(by have:=hk3.size;omega);have q3:w3.cell? ⟨w1.heap.size,1,none⟩=some (.int .i64 st.place):=((x5 hk3).1 _ 1 hz2 n1).trans q2;have hK3:=v7 ((q9 hK2).trans hk3);have hR3:=v7 (q9 RK _ _ (q9 HF3) (q9 hK3) hr3);clear hr3 hk3;simp only [tkV]))
   go_loopw [6] (fun v wr=>∃(n:Nat) (ts:List (List UInt8)) (sl:St),Hid (R=qf4 s l st.place n ts sl)∧s.size<n+sl.place∧Hid (wr.ownsRow (w1.heap.size+1) 9 1 v ts.length (qp1 ts))∧Hid (Ready rb s wr sl)∧sl.op=op∧ts.length≤sl.place∧st.place≤sl.place∧Hid (Kept rb w wr)∧wr.cell? ⟨w1.heap.size,1,none⟩=some (.int .i64 st.place)∧w1.heap.size<wr.heap.size) (fun v wr=>s.size+1 - plOf wr rb)
   case atStart=>exact ⟨s.size+1,_,_,v7 (q9 HR).symm,by omega,v7 (textRow _ _ (by omega) _),v7 ((q9 hR3).allocd _),ho,by simp;omega,by omega,v7 ((q9 hK3).alloc _),by rw [World.cell?_alloc_past _ _ _ (by first|omega|(simp;omega))];exact q3,by simp;omega⟩
   case round=>
    obtain ⟨n,ts,sl,hR,hn,hown,hready,hopl,htl,hpl,hk,hcr,hBr⟩:=hrel
    have hfine:=(q9 hready).fine
    have hfp:=hfine.place
    obtain ⟨m,rfl⟩:∃m,n=m+1:=⟨n - 1,by omega⟩
    have hltr:=(q9 hready).lt
    have HPL:=v7 (qt5 (q9 hready).at')
    have hbase:rb<w1.heap.size+1:=by omega
    have HFS:=v7 hfine.next
    have HFS2:=v7 hfine.next.next
    by_cases h28:sl.tk.kind=28
    ·have H28:=v7 h28
     have hlp:=hfine.lt (by rw [h28];decide)
     by_cases h4:(v9 s sl).tk.kind=4
     ·have H4:=v7 h4
      have hlp2:=hfine.next.lt (by rw [h4];decide)
      have hfp2:=hfine.next.next.place
      have HRR:Hid (R=qf4 s l st.place m (ts++[(v9 s sl).tk.str]) (v9 s (v9 s sl))):=v7 (by rw [q9 hR,jj3 h28 h4])
      have FS:=fun b=>jb4 (v9 s sl).tk.kind (v9 s sl).place (v9 s sl).tk.num b
      clear hR h28 h4 hfine
      go_wp2_with (first|(go_at_call 253;refine (qz3 rb s sl 28 _ (q9 hready).size (q9 hready).fine.after (q9 hready).at' hltr (q9 hready).err (q9 H28)).mono ?_;rintro e w4 ⟨rfl,hr4,hk4⟩;have hk4:=v7 hk4;have hR4:=v7 ((q9 hready).kept (q9 hk4) hr4 (q9 HFS));clear hr4)|(go_at_call_of 57 (Value.int IntKind.i64 4);refine (qb2 rb s (v9 s sl) 4 _ (q9 hR4).size (q9 hR4).fine.after (q9 hR4).at' (q9 hR4).lt (q9 hR4).err (q9 H4)).mono ?_;rintro e w5 ⟨rfl,hr5,hk5⟩;have hk5:=v7 ((q9 hk4).trans hk5);have hR5:=v7 ((q9 hready).kept (q9 hk5) hr5 (q9 HFS2));clear hr5;have hz5:=(q9 hk5).size;have hown5:=qv7 (q9 hown) (q9 hk5) hbase;simp only [tkV])|(at_builtin;refine wpList_append_own _ rfl _ _ 30 rfl (w1.heap.size+1) 9 i0 (.string ⟨#[]⟩) 1 16 Tryz.underlying30 hi hz0 hz1' hz2' rfl (by decide) _ _ _ rfl (hown5.alloc _) ⟨w5.heap.size,0,none⟩ 1 1 [.string (BS (v9 s sl).tk.str)] rfl rfl ?c1 ?c2 ?c3 ?c4 ?c5 ?_))
      case c1=>
       intro j u hj
       match j,hj with
       | 0,hj=>simp at hj;subst hj;simp [Addr.add]
       | j+1,hj=>simp at hj
      case c2=>intro u hu;simp at hu;subst hu;rfl
      case c3=>unfold maxLen;omega
      case c4=>omega
      case c5=>simp;omega
      ·intro v' w6 hown' hgrow _
       have G:=in_more hown' hgrow (q9 hown) (q9 hR5).at' (q9 hR5).lt (q9 hk) (q9 hk5) hcr hBr (by omega) (by omega)
       clear hown' hgrow hown hown5
       have HPL2:=v7 (qt5 G.2.1)
       have G:=v7 G
       go_wp2_with fail
       go_roundw
       case rel=>exact ⟨m,_,_,HRR,by omega,v7 (q9 G).1,v7 (q9 RK _ _ (q9 HFS2) (q9 G).2.2.1 (q9 G).2.1),hopl,by simp;omega,by omega,v7 (q9 G).2.2.1,(q9 G).2.2.2.1,(q9 G).2.2.2.2⟩
       case measure=>rw [q9 HPL,q9 HPL2];omega
     ·have H4:=v7 h4
      have HRR:Hid (R=.err 2 (v9 s sl).place):=v7 (by rw [q9 hR,jx0 h28 h4])
      clear hR h28 h4 hfine
      go_wp2_with (first|(go_at_call 253;refine (qz3 rb s sl 28 _ (q9 hready).size (q9 hready).fine.after (q9 hready).at' hltr (q9 hready).err (q9 H28)).mono ?_;rintro e w4 ⟨rfl,hr4,hk4⟩;have hk4:=v7 hk4;have hR4:=v7 ((q9 hready).kept (q9 hk4) hr4 (q9 HFS));clear hr4)|(go_at_call_of 57 (Value.int IntKind.i64 4);refine (qm8 rb s (v9 s sl) 4 _ (q9 hR4).at' (q9 hR4).lt (q9 H4)).mono ?_;rintro e w5 ⟨rfl,hk5⟩;simp only [x4]))
      rw [q9 HRR]
      exact ⟨rfl,((q9 hk).trans (q9 hk4)).trans hk5,rfl⟩
    ·have H28:=v7 h28
     by_cases h27:sl.tk.kind=27
     ·have H27:=v7 h27
      have hlp:=hfine.lt (by rw [h27];decide)
      have HRR:Hid (R=.ok (.un ⟨21,st.place,0,[],[],ts⟩ l) (v9 s sl)):=v7 (by rw [q9 hR,jx1 h28 h27])
      clear hR h28 h27 hfine
      obtain ⟨va,vn,vc,rfl⟩:=vx0 (q9 hown)
      go_wp2_with (first|(go_at_call 253;refine (vn4 rb s sl 28 _ (q9 hready).at' (q9 H28)).mono ?_;rintro e w4 ⟨rfl,rfl⟩)|(go_at_call_of 57 (Value.int IntKind.i64 27);refine (qb2 rb s sl 27 _ (q9 hready).size (q9 hready).fine.after (q9 hready).at' hltr (q9 hready).err (q9 H27)).mono ?_;rintro e w5 ⟨rfl,hr5,hk5⟩;have q5:w5.cell? ⟨w1.heap.size,1,none⟩=some (.int .i64 st.place):=((x5 hk5).1 _ 1 hBr n1).trans hcr;have hz5:=hk5.size;have hk5:=v7 hk5;have hr5:=v7 hr5;simp only [tkV]))
      go_ret
      rw [q9 HRR]
      have hK5:=(q9 hk).trans (q9 hk5)
      have hlt5:rb<w5.heap.size:=by omega
      refine ⟨(hK5.alloc _).alloc _,_,rfl,IsNode.texted ((q9 HL).kept hK5) hlt5 ((TextsAt.of_row (q9 hown) hbase).kept (q9 hk5)) 21 st.place [] [],((q9 hr5).allocd _ hlt5).allocd _ (by simp;omega),q9 HFS,hopl,by omega⟩
     ·have H27:=v7 h27
      have HRR:Hid (R=.err 2 sl.place):=v7 (by rw [q9 hR,jj4 h28 h27])
      clear hR h28 h27 hfine
      go_wp2_with (first|(go_at_call 253;refine (vn4 rb s sl 28 _ (q9 hready).at' (q9 H28)).mono ?_;rintro e w4 ⟨rfl,rfl⟩)|(go_at_call_of 57 (Value.int IntKind.i64 27);refine (qm8 rb s sl 27 _ (q9 hready).at' hltr (q9 H27)).mono ?_;rintro e w5 ⟨rfl,hk5⟩;simp only [x4]))
      rw [q9 HRR]
      exact ⟨rfl,(q9 hk).trans hk5,rfl⟩
  ·rw [if_neg h4]
   have H4:=v7 h4
   clear h4 hf1
   go_enter Tryz.func254,Tryz.ntmps254
   go_wp2_with (first|(go_at_call_of 57 (Value.int IntKind.i64 11);refine (qb2 rb s st 11 _ (q9 H).size (q9 H).fine.after (q9 H).at' hlt (q9 H).err (q9 H11)).mono ?_;rintro e w1 ⟨rfl,hr1,hk1⟩;have hz1:=hk1.size;have n1:¬w1.heap.size=rb:=(by omega);have hR1:=v7 ((q9 RK _ _ (q9 HF1) hk1 hr1).allocd (.cells #[.int .i64 st.tk.kind,.int .i64 st.place,.int .i64 st.tk.num,.string (BS st.tk.str)] 127));have hK1:=v7 (hk1.alloc (.cells #[.int .i64 st.tk.kind,.int .i64 st.place,.int .i64 st.tk.num,.string (BS st.tk.str)] 127));clear hr1 hk1;simp only [tkV])|(go_at_call_of 57 (Value.int IntKind.i64 26);refine (qb2 rb s (v9 s st) 26 _ (q9 hR1).size (q9 hR1).fine.after (q9 hR1).at' (q9 hR1).lt (q9 hR1).err (q9 H26)).mono ?_;rintro e w2 ⟨rfl,hr2,hk2⟩;have hz2:w1.heap.size<w2.heap.size:=(by have:=hk2.size;simp at this;omega);have q2:w2.cell? ⟨w1.heap.size,1,none⟩=some (.int .i64 st.place):=((x5 hk2).1 _ 1 (by simp) n1).trans (by simp);have hK2:=v7 ((q9 hK1).trans hk2);have hR2:=v7 (q9 RK _ _ (q9 HF2) (q9 hK2) hr2);clear hr2 hk2;simp only [tkV])|(go_at_call_of 57 (Value.int IntKind.i64 4);refine (qm8 rb s (v9 s (v9 s st)) 4 _ (q9 hR2).at' (q9 hR2).lt (q9 H4)).mono ?_;rintro e w3 ⟨rfl,hk3⟩;simp only [x4]))
   exact ⟨rfl,(q9 hK2).trans hk3,rfl⟩
 ·rw [qn6,if_neg h26]
  have H26:=v7 h26
  clear h26 hf1
  go_enter Tryz.func254,Tryz.ntmps254
  go_wp2_with (first|(go_at_call_of 57 (Value.int IntKind.i64 11);refine (qb2 rb s st 11 _ (q9 H).size (q9 H).fine.after (q9 H).at' hlt (q9 H).err (q9 H11)).mono ?_;rintro e w1 ⟨rfl,hr1,hk1⟩;have hz1:=hk1.size;have n1:¬w1.heap.size=rb:=(by omega);have hR1:=v7 ((q9 RK _ _ (q9 HF1) hk1 hr1).allocd (.cells #[.int .i64 st.tk.kind,.int .i64 st.place,.int .i64 st.tk.num,.string (BS st.tk.str)] 127));have hK1:=v7 (hk1.alloc (.cells #[.int .i64 st.tk.kind,.int .i64 st.place,.int .i64 st.tk.num,.string (BS st.tk.str)] 127));clear hr1 hk1;simp only [tkV])|(go_at_call_of 57 (Value.int IntKind.i64 26);refine (qm8 rb s (v9 s st) 26 _ (q9 hR1).at' (q9 hR1).lt (q9 H26)).mono ?_;rintro e w2 ⟨rfl,hk2⟩;simp only [x4]))
  exact ⟨rfl,(q9 hK1).trans hk2,rfl⟩
end
section
def qd7 (s:ByteArray) (l:Ast) (st:St):Res:=
 if (v9 s st).tk.kind=4 then
  (if (v9 s (v9 s st)).tk.kind=13 then
   (match va0 s (v9 s st).tk (v9 s st).place (v9 s (v9 s (v9 s st))) with
    | .ok str st'=>.ok (.un ⟨22,st.place,0,(v9 s st).tk.str,str,[]⟩ l) st'
    | .err pl=>.err 2 pl)
  else .ok (.un ⟨22,st.place,0,(v9 s st).tk.str,[],[]⟩ l) (v9 s (v9 s st)))
 else .err 2 (v9 s st).place
theorem vb9 {s:ByteArray} {ft:Tk} {fp:Nat} {st:St} {str:List UInt8} {st':St} (h:va0 s ft fp st=.ok str st'):st.tk.kind=4∧st'=v9 s st:=by
 unfold va0 at h
 split at h
 ·rename_i h4
  split at h
  ·split at h
   ·injection h with _ h2;exact ⟨h4,h2.symm⟩
   ·cases h
  ·cases h
 ·cases h
theorem jy1 (rb:Nat) (s:ByteArray) (op:Nat) (hs:s.size≤200):qk2 255 rb s op 12 (qd7 s):=by
 intro w st l lv h ho hl h12
 have H:=v7 h
 have hlt:=h.lt
 have hf1:=h.fine.next
 have hp1:=h.fine.le (by rw [h12];decide)
 have H12:=v7 h12
 obtain ⟨lb,rfl⟩:=hl.ptr
 have HL:=v7 hl
 have RK:Hid (∀w1 st1,Fine s st1→Kept rb w w1→RdAt w1 rb s st1→Ready rb s w1 st1):=v7 fun w1 st1 hf hk hr=>h.kept hk hr hf
 have hl1:(v9 s st).tk.str.length≤200:=Nat.le_trans (vu1 s st) hs
 have ho1:(v9 s st).op=op:=ho
 unfold qd7
 clear h hl h12
 obtain ⟨st1,h1⟩:∃x,v9 s st=x:=⟨_,rfl⟩
 have S1:=v7 h1
 rw [h1] at hf1 hl1 ho1 hp1 ⊢
 clear h1
 have HF1:=v7 hf1
 by_cases h4:st1.tk.kind=4
 ·rw [if_pos h4]
  have H4:=v7 h4
  have hf2:=hf1.next
  have hp2:=hf1.le (by rw [h4];decide)
  have ho2:(v9 s st1).op=op:=ho1
  obtain ⟨st2,h2⟩:∃x,v9 s st1=x:=⟨_,rfl⟩
  have S2:=v7 h2
  rw [h2] at hf2 ho2 hp2 ⊢
  have HF2:=v7 hf2
  clear h4 h2 hf1
  by_cases h13:st2.tk.kind=13
  ·rw [if_pos h13]
   have H13:=v7 h13
   have hf3:=hf2.next
   have hp3:=hf2.le (by rw [h13];decide)
   have ho3:(v9 s st2).op=op:=ho2
   obtain ⟨st3,h3⟩:∃x,v9 s st2=x:=⟨_,rfl⟩
   have S3:=v7 h3
   rw [h3] at hf3 ho3 hp3 ⊢
   have HF3:=v7 hf3
   clear h13 h3 hf2
   cases he:va0 s st1.tk st1.place st3 with
   | ok str st4=>
    obtain ⟨hk4,h4'⟩:=vb9 he
    have hf4:=hf3.next
    have hp4:=hf3.le (by rw [hk4];decide)
    have ho4:(v9 s st3).op=op:=ho3
    rw [←h4'] at hf4 ho4 hp4
    have HE:=v7 he
    have HF4:=v7 hf4
    clear he hf3 hf4 hk4 h4'
    go_enter Tryz.func255,Tryz.ntmps255
    go_wp2_with (first|(go_at_call_of 57 (Value.int IntKind.i64 12);refine (qb2 rb s st 12 _ (q9 H).size (q9 H).fine.after (q9 H).at' hlt (q9 H).err (q9 H12)).mono ?_;rw [q9 S1];rintro e w1 ⟨rfl,hr1,hk1⟩;have hz1:=hk1.size;have n1:¬w1.heap.size=rb:=(by omega);have hR1:=v7 ((q9 RK _ _ (q9 HF1) hk1 hr1).allocd (.cells #[.int .i64 st.tk.kind,.int .i64 st.place,.int .i64 st.tk.num,.string (BS st.tk.str)] 127));have hK1:=v7 (hk1.alloc (.cells #[.int .i64 st.tk.kind,.int .i64 st.place,.int .i64 st.tk.num,.string (BS st.tk.str)] 127));clear hr1 hk1;simp only [tkV])|(go_at_call_of 57 (Value.int IntKind.i64 4);refine (qb2 rb s st1 4 _ (q9 hR1).size (q9 hR1).fine.after (q9 hR1).at' (q9 hR1).lt (q9 hR1).err (q9 H4)).mono ?_;rw [q9 S2];rintro e w2 ⟨rfl,hr2,hk2⟩;have hz2:w1.heap.size<w2.heap.size:=(by have:=hk2.size;simp at this;omega);have n2:¬w2.heap.size=rb:=(by omega);have q2:(w2.alloc (.cells #[.int .i64 st1.tk.kind,.int .i64 st1.place,.int .i64 st1.tk.num,.string (BS st1.tk.str)] 127)).cell? ⟨w1.heap.size,1,none⟩=some (.int .i64 st.place):=(by rw [World.cell?_alloc_past _ _ _ (by first|omega|(simp;omega))];exact ((x5 hk2).1 _ 1 (by simp) n1).trans (by simp));have hK2:=v7 (((q9 hK1).trans hk2).alloc (.cells #[.int .i64 st1.tk.kind,.int .i64 st1.place,.int .i64 st1.tk.num,.string (BS st1.tk.str)] 127));have hR2:=v7 ((q9 RK _ _ (q9 HF2) ((q9 hK1).trans hk2) hr2).allocd (.cells #[.int .i64 st1.tk.kind,.int .i64 st1.place,.int .i64 st1.tk.num,.string (BS st1.tk.str)] 127));clear hr2 hk2;simp only [tkV])|(go_at_call 253;refine (qz3 rb s st2 13 _ (q9 hR2).size (q9 hR2).fine.after (q9 hR2).at' (q9 hR2).lt (q9 hR2).err (q9 H13)).mono ?_;rw [q9 S3];rintro e w3 ⟨rfl,hr3,hk3⟩;have hz3:w2.heap.size<w3.heap.size:=(by have:=hk3.size;simp at this;omega);obtain ⟨kc,kf⟩:=x5 hk3;have r0:w3.cell? ⟨w2.heap.size,0,none⟩=some (.int .i64 st1.tk.kind):=(kc _ 0 (by simp) n2).trans (by simp);have r1:w3.cell? ⟨w2.heap.size,1,none⟩=some (.int .i64 st1.place):=(kc _ 1 (by simp) n2).trans (by simp);have r2:w3.cell? ⟨w2.heap.size,2,none⟩=some (.int .i64 st1.tk.num):=(kc _ 2 (by simp) n2).trans (by simp);have r3:w3.cell? ⟨w2.heap.size,3,none⟩=some (.string (BS st1.tk.str)):=(kc _ 3 (by simp) n2).trans (by simp);have q3:w3.cell? ⟨w1.heap.size,1,none⟩=some (.int .i64 st.place):=(kc _ 1 (by simp;omega) n1).trans q2;have hK3:=v7 ((q9 hK2).trans hk3);have hR3:=v7 (q9 RK _ _ (q9 HF3) (q9 hK3) hr3);clear hr3 hk3 kc kf)|(go_at_call 292;refine (vs3 rb s st1.tk st1.place hl1 _ st3 (q9 hR3)).mono ?_;rintro e w4 ⟨hk4,h4⟩;rw [q9 HE] at h4;obtain ⟨rfl,hr4⟩:=h4;have hz4:w2.heap.size<w4.heap.size:=(by have:=hk4.size;omega);obtain ⟨kc,kf⟩:=x5 hk4;have u3:w4.cell? ⟨w2.heap.size,3,none⟩=some (.string (BS st1.tk.str)):=(kc _ 3 hz3 n2).trans r3;have u1:w4.cell? ⟨w1.heap.size,1,none⟩=some (.int .i64 st.place):=(kc _ 1 (by omega) n1).trans q3;have hK4:=v7 ((q9 hK3).trans hk4);have hr4:=v7 hr4;clear hk4 kc kf))
    go_ret
    have hlt4:rb<w4.heap.size:=Nat.lt_of_lt_of_le hlt (q9 hK4).size
    refine ⟨((q9 hK4).alloc _).alloc _,_,rfl,IsNode.texted ((q9 HL).kept (q9 hK4)) hlt4 (.inl ⟨rfl,rfl⟩) 22 st.place _ _,((q9 hr4).allocd _ hlt4).allocd _ (by simp;omega),q9 HF4,ho4,by omega⟩
   | err pl=>
    have HE:=v7 he
    clear he hf3
    go_enter Tryz.func255,Tryz.ntmps255
    go_wp2_with (first|(go_at_call_of 57 (Value.int IntKind.i64 12);refine (qb2 rb s st 12 _ (q9 H).size (q9 H).fine.after (q9 H).at' hlt (q9 H).err (q9 H12)).mono ?_;rw [q9 S1];rintro e w1 ⟨rfl,hr1,hk1⟩;have hz1:=hk1.size;have n1:¬w1.heap.size=rb:=(by omega);have hR1:=v7 ((q9 RK _ _ (q9 HF1) hk1 hr1).allocd (.cells #[.int .i64 st.tk.kind,.int .i64 st.place,.int .i64 st.tk.num,.string (BS st.tk.str)] 127));have hK1:=v7 (hk1.alloc (.cells #[.int .i64 st.tk.kind,.int .i64 st.place,.int .i64 st.tk.num,.string (BS st.tk.str)] 127));clear hr1 hk1;simp only [tkV])|(go_at_call_of 57 (Value.int IntKind.i64 4);refine (qb2 rb s st1 4 _ (q9 hR1).size (q9 hR1).fine.after (q9 hR1).at' (q9 hR1).lt (q9 hR1).err (q9 H4)).mono ?_;rw [q9 S2];rintro e w2 ⟨rfl,hr2,hk2⟩;have hz2:w1.heap.size<w2.heap.size:=(by have:=hk2.size;simp at this;omega);have n2:¬w2.heap.size=rb:=(by omega);have q2:(w2.alloc (.cells #[.int .i64 st1.tk.kind,.int .i64 st1.place,.int .i64 st1.tk.num,.string (BS st1.tk.str)] 127)).cell? ⟨w1.heap.size,1,none⟩=some (.int .i64 st.place):=(by rw [World.cell?_alloc_past _ _ _ (by first|omega|(simp;omega))];exact ((x5 hk2).1 _ 1 (by simp) n1).trans (by simp));have hK2:=v7 (((q9 hK1).trans hk2).alloc (.cells #[.int .i64 st1.tk.kind,.int .i64 st1.place,.int .i64 st1.tk.num,.string (BS st1.tk.str)] 127));have hR2:=v7 ((q9 RK _ _ (q9 HF2) ((q9 hK1).trans hk2) hr2).allocd (.cells #[.int .i64 st1.tk.kind,.int .i64 st1.place,.int .i64 st1.tk.num,.string (BS st1.tk.str)] 127));clear hr2 hk2;simp only [tkV])|(go_at_call 253;refine (qz3 rb s st2 13 _ (q9 hR2).size (q9 hR2).fine.after (q9 hR2).at' (q9 hR2).lt (q9 hR2).err (q9 H13)).mono ?_;rw [q9 S3];rintro e w3 ⟨rfl,hr3,hk3⟩;have hz3:w2.heap.size<w3.heap.size:=(by have:=hk3.size;simp at this;omega);obtain ⟨kc,kf⟩:=x5 hk3;have r0:w3.cell? ⟨w2.heap.size,0,none⟩=some (.int .i64 st1.tk.kind):=(kc _ 0 (by simp) n2).trans (by simp);have r1:w3.cell? ⟨w2.heap.size,1,none⟩=some (.int .i64 st1.place):=(kc _ 1 (by simp) n2).trans (by simp);have r2:w3.cell? ⟨w2.heap.size,2,none⟩=some (.int .i64 st1.tk.num):=(kc _ 2 (by simp) n2).trans (by simp);have r3:w3.cell? ⟨w2.heap.size,3,none⟩=some (.string (BS st1.tk.str)):=(kc _ 3 (by simp) n2).trans (by simp);have q3:w3.cell? ⟨w1.heap.size,1,none⟩=some (.int .i64 st.place):=(kc _ 1 (by simp;omega) n1).trans q2;have hK3:=v7 ((q9 hK2).trans hk3);have hR3:=v7 (q9 RK _ _ (q9 HF3) (q9 hK3) hr3);clear hr3 hk3 kc kf)|(go_at_call 292;refine (vs3 rb s st1.tk st1.place hl1 _ st3 (q9 hR3)).mono ?_;rintro e w4 ⟨hk4,h4⟩;rw [q9 HE] at h4;subst h4;simp only [x4]))
    exact ⟨rfl,(q9 hK3).trans hk4,rfl⟩
  ·rw [if_neg h13]
   have H13:=v7 h13
   clear h13 hf2
   go_enter Tryz.func255,Tryz.ntmps255
   go_wp2_with (first|(go_at_call_of 57 (Value.int IntKind.i64 12);refine (qb2 rb s st 12 _ (q9 H).size (q9 H).fine.after (q9 H).at' hlt (q9 H).err (q9 H12)).mono ?_;rw [q9 S1];rintro e w1 ⟨rfl,hr1,hk1⟩;have hz1:=hk1.size;have n1:¬w1.heap.size=rb:=(by omega);have hR1:=v7 ((q9 RK _ _ (q9 HF1) hk1 hr1).allocd (.cells #[.int .i64 st.tk.kind,.int .i64 st.place,.int .i64 st.tk.num,.string (BS st.tk.str)] 127));have hK1:=v7 (hk1.alloc (.cells #[.int .i64 st.tk.kind,.int .i64 st.place,.int .i64 st.tk.num,.string (BS st.tk.str)] 127));clear hr1 hk1;simp only [tkV])|(go_at_call_of 57 (Value.int IntKind.i64 4);refine (qb2 rb s st1 4 _ (q9 hR1).size (q9 hR1).fine.after (q9 hR1).at' (q9 hR1).lt (q9 hR1).err (q9 H4)).mono ?_;rw [q9 S2];rintro e w2 ⟨rfl,hr2,hk2⟩;have hz2:w1.heap.size<w2.heap.size:=(by have:=hk2.size;simp at this;omega);have n2:¬w2.heap.size=rb:=(by omega);have q2:(w2.alloc (.cells #[.int .i64 st1.tk.kind,.int .i64 st1.place,.int .i64 st1.tk.num,.string (BS st1.tk.str)] 127)).cell? ⟨w1.heap.size,1,none⟩=some (.int .i64 st.place):=(by rw [World.cell?_alloc_past _ _ _ (by first|omega|(simp;omega))];exact ((x5 hk2).1 _ 1 (by simp) n1).trans (by simp));have hK2:=v7 (((q9 hK1).trans hk2).alloc (.cells #[.int .i64 st1.tk.kind,.int .i64 st1.place,.int .i64 st1.tk.num,.string (BS st1.tk.str)] 127));have hR2:=v7 ((q9 RK _ _ (q9 HF2) ((q9 hK1).trans hk2) hr2).allocd (.cells #[.int .i64 st1.tk.kind,.int .i64 st1.place,.int .i64 st1.tk.num,.string (BS st1.tk.str)] 127));clear hr2 hk2;simp only [tkV])|(go_at_call 253;refine (vn4 rb s st2 13 _ (q9 hR2).at' (q9 H13)).mono ?_;rintro e w3 ⟨rfl,rfl⟩))
   go_ret
   have hK:=q9 hK2
   have hlt4:=(q9 hR2).lt
   have hnode:=IsNode.texted (ts:=[]) ((q9 HL).kept hK) hlt4 (.inl ⟨rfl,rfl⟩) 22 st.place st1.tk.str []
   refine ⟨(hK.alloc _).alloc _,_,rfl,by simpa [BS] using hnode,((q9 hR2).at'.allocd _ hlt4).allocd _ (by simp;omega),q9 HF2,ho2,by omega⟩
 ·rw [if_neg h4]
  have H4:=v7 h4
  clear h4 hf1
  go_enter Tryz.func255,Tryz.ntmps255
  go_wp2_with (first|(go_at_call_of 57 (Value.int IntKind.i64 12);refine (qb2 rb s st 12 _ (q9 H).size (q9 H).fine.after (q9 H).at' hlt (q9 H).err (q9 H12)).mono ?_;rw [q9 S1];rintro e w1 ⟨rfl,hr1,hk1⟩;have hz1:=hk1.size;have n1:¬w1.heap.size=rb:=(by omega);have hR1:=v7 ((q9 RK _ _ (q9 HF1) hk1 hr1).allocd (.cells #[.int .i64 st.tk.kind,.int .i64 st.place,.int .i64 st.tk.num,.string (BS st.tk.str)] 127));have hK1:=v7 (hk1.alloc (.cells #[.int .i64 st.tk.kind,.int .i64 st.place,.int .i64 st.tk.num,.string (BS st.tk.str)] 127));clear hr1 hk1;simp only [tkV])|(go_at_call_of 57 (Value.int IntKind.i64 4);refine (qm8 rb s st1 4 _ (q9 hR1).at' (q9 hR1).lt (q9 H4)).mono ?_;rintro e w2 ⟨rfl,hk2⟩;simp only [x4]))
  exact ⟨rfl,(q9 hK1).trans hk2,rfl⟩
end
end Go.Proofs.YtfkcaldjphakpabGreatDoor
