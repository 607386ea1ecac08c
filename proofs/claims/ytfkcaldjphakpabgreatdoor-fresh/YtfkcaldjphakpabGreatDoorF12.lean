/- What append leaves of the reader's things; terms with texts. escape. Terms by their sides; classes. demand. The class of a whole selector. Op.Join. Op.Join: operator 6. Op.Join: operator 10. Op.Join: operator 11. Op.Join: operator 12. Op.Join: operator 13. Op.Join: operator 16. Op.Join: operator 17. Op.Join: operator none. -/
import Derived.Test.YtfkcaldjphakpabGreatDoorF04
import Derived.Test.YtfkcaldjphakpabGreatDoorF16
import Derived.Test.YtfkcaldjphakpabGreatDoorWRd5
import Derived.Test.YtfkcaldjphakpabGreatDoorWVal3
import Derived.Deep.RegionWith
set_option maxHeartbeats 1000000
set_option maxRecDepth 100000
namespace Go.Proofs.YtfkcaldjphakpabGreatDoor
open Go.RowKit
section
theorem Kept.grown {rb:Nat} {a w w':World} {row:Option Nat} (h:Kept rb a w) (hg:w.grownBy w' row) (hrow:∀k,row=some k→a.heap.size≤k):Kept rb a w':=
 ⟨hg.os.trans h.os,hg.tape.trans h.tape,hg.output.trans h.output,Nat.le_trans h.size hg.size,fun k hk hn=>(hg.block k (Nat.lt_of_lt_of_le hk h.size) (fun e=>by have:=hrow k e.symm;omega)).trans (h.block k hk hn)⟩
theorem RdAt.same {w w':World} {rb:Nat} {s:ByteArray} {st:St} (h:RdAt w rb s st) (hb:w'.heap[rb]?=w.heap[rb]?):RdAt w' rb s st:=by
 have hc:∀j,w'.cell? ⟨rb,j,none⟩=w.cell? ⟨rb,j,none⟩:=fun j=>World.cell?_of_block (w:=w) (w':=w') (a:=⟨rb,j,none⟩) hb
 have hf:∀j,w'.frozen? ⟨rb,j,none⟩=w.frozen? ⟨rb,j,none⟩:=fun j=>World.frozen?_of_block (w:=w) (w':=w') (a:=⟨rb,j,none⟩) hb
 exact ⟨(hc 0).trans h.c0,(hc 1).trans h.c1,(hc 2).trans h.c2,(hc 3).trans h.c3,(hc 4).trans h.c4,(hc 5).trans h.c5,(hc 6).trans h.c6,fun j=>(hf j).trans (h.fz j)⟩
theorem RdAt.grown {w w':World} {rb:Nat} {s:ByteArray} {st:St} {row:Option Nat} (h:RdAt w rb s st) (hg:w.grownBy w' row) (hlt:rb<w.heap.size) (hrow:∀k,row=some k→rb<k):RdAt w' rb s st:=
 h.same (hg.block rb hlt (fun e=>by have:=hrow rb e.symm;omega))
theorem qv7 {rb base e size n:Nat} {w w':World} {v:Value} {xs:List Value} (h:w.ownsRow base e size v n xs) (hk:Kept rb w w') (hb:rb<base):w'.ownsRow base e size v n xs:=by
 refine ⟨h.1, ?_⟩
 rcases h.2 with hn|⟨g,cap,cur,rfl,hbg,hgg,rest⟩
 ·exact .inl hn
 ·refine .inr ⟨g,cap,cur,rfl,hbg, ?_,rest⟩
  rw [hk.block g (Array.getElem?_eq_some_iff.1 hgg).1 (by omega)]
  exact hgg
def qp1 (ts:List (List UInt8)):List Value:=ts.map fun t=>.string (BS t)
theorem TextsAt.of_row {rb base e:Nat} {w:World} {v:Value} {ts:List (List UInt8)} (h:w.ownsRow base e 1 v ts.length (qp1 ts)) (hb:rb<base):TextsAt rb w v ts:=by
 have h0:=h
 rcases h.2 with ⟨hv,hn⟩|⟨g,cap,cur,rfl,hbg,hgg,_⟩
 ·exact .inl ⟨List.eq_nil_of_length_eq_zero hn,hv⟩
 ·refine .inr ⟨g,cap,rfl,by omega,(Array.getElem?_eq_some_iff.1 hgg).1,fun j t ht=>?_⟩
  have:=h0.cells (g:=g) rfl j (.string (BS t)) (by simp [qp1,ht])
  have hadd:(⟨g,0,none⟩:Addr).add j=⟨g,j,none⟩:=by unfold Addr.add;split<;>simp_all
  rwa [hadd] at this
theorem IsNode.texted {rb:Nat} {w:World} {l:Ast} {lv tv:Value} {ts:List (List UInt8)} (hl:IsNode rb w lv l) (hlt:rb<w.heap.size) (ht:TextsAt rb w tv ts) (op place:Int) (str esc:List UInt8) :
  IsNode rb ((w.alloc (.cells #[lv] 74)).alloc (.cells #[.int .i64 op,.int .i64 place,.slice (some ⟨w.heap.size,0,none⟩) 1 1,.int .i64 0,.string (BS str),.string (BS esc),tv] 138))
   (.pointer (some ⟨w.heap.size+1,0,none⟩)) (.un ⟨op,place,0,str,esc,ts⟩ l):=by
 have hk:Kept rb w ((w.alloc (.cells #[lv] 74)).alloc (.cells #[.int .i64 op,.int .i64 place,.slice (some ⟨w.heap.size,0,none⟩) 1 1,.int .i64 0,.string (BS str),.string (BS esc),tv] 138)):=((Kept.refl rb w).alloc _).alloc _
 refine ⟨w.heap.size+1,w.heap.size,lv,rfl,⟨by omega,by simp,by simp,by simp,by simp,by simp,by simp,by simp,tv,by simp,ht.kept hk⟩,hlt,by simp;omega, ?_,hl.kept hk⟩
 rw [World.cell?_alloc_past _ _ _ (by simp),World.cell?_alloc_at _ _ _ _ rfl];rfl
theorem Fine.lt {s:ByteArray} {st:St} (h:Fine s st) (hk:st.tk.kind≠0):st.place<(v9 s st).place:=Nat.lt_of_lt_of_le (h.long hk) (qi2 s st)
theorem jb4 (k p n:Int) (b:ByteArray) (w:World):(Instr.field 127 (.agg #[.int .i64 k,.int .i64 p,.int .i64 n,.string b]) 3).run Tryz.prog w=.ok (.string b) w:=by kernel_rfl
def qf4 (s:ByteArray) (l:Ast) (pl:Nat):Nat→List (List UInt8)→St→Res
 | 0,_,_=>.err 0 0
 | n+1,ts,st=>if st.tk.kind=28 then (if (v9 s st).tk.kind=4 then qf4 s l pl n (ts++[(v9 s st).tk.str]) (v9 s (v9 s st)) else .err 2 (v9 s st).place)
   else if st.tk.kind=27 then .ok (.un ⟨21,pl,0,[],[],ts⟩ l) (v9 s st) else .err 2 st.place
def qn6 (s:ByteArray) (l:Ast) (st:St):Res:=
 if (v9 s st).tk.kind=26 then (if (v9 s (v9 s st)).tk.kind=4 then qf4 s l st.place (s.size+1) [(v9 s (v9 s st)).tk.str] (v9 s (v9 s (v9 s st))) else .err 2 (v9 s (v9 s st)).place)
 else .err 2 (v9 s st).place
theorem jj3 {s:ByteArray} {l:Ast} {pl n:Nat} {ts:List (List UInt8)} {st:St} (h:st.tk.kind=28) (h4:(v9 s st).tk.kind=4):qf4 s l pl (n+1) ts st=qf4 s l pl n (ts++[(v9 s st).tk.str]) (v9 s (v9 s st)):=by rw [qf4,if_pos h,if_pos h4]
theorem jx0 {s:ByteArray} {l:Ast} {pl n:Nat} {ts:List (List UInt8)} {st:St} (h:st.tk.kind=28) (h4:¬(v9 s st).tk.kind=4):qf4 s l pl (n+1) ts st=.err 2 (v9 s st).place:=by rw [qf4,if_pos h,if_neg h4]
theorem jx1 {s:ByteArray} {l:Ast} {pl n:Nat} {ts:List (List UInt8)} {st:St} (h:¬st.tk.kind=28) (h4:st.tk.kind=27):qf4 s l pl (n+1) ts st=.ok (.un ⟨21,pl,0,[],[],ts⟩ l) (v9 s st):=by rw [qf4,if_neg h,if_pos h4]
theorem jj4 {s:ByteArray} {l:Ast} {pl n:Nat} {ts:List (List UInt8)} {st:St} (h:¬st.tk.kind=28) (h4:¬st.tk.kind=27):qf4 s l pl (n+1) ts st=.err 2 st.place:=by rw [qf4,if_neg h,if_neg h4]
theorem textRow (w:World) (base:Nat) (hb:base≤w.heap.size) (t:List UInt8):(w.alloc (.cells #[.string (BS t)] 9)).ownsRow base 9 1 (.slice (some ⟨w.heap.size,0,none⟩) 1 1) [t].length (qp1 [t]):=
 ⟨rfl,.inr ⟨w.heap.size,1,#[.string (BS t)],rfl,hb,heap_alloc_new w _,Nat.le_refl _,by decide,rfl,rfl⟩⟩
end
section
theorem vm6:(l:List UInt8)→∀r,qi0 l=some r→r.1.length≤l.length
 | [],r,h=>by simp [qi0] at h
 | [c],r,h=>by
  simp only [qi0] at h;split at h
  ·injection h with h;subst h;simp
  ·cases h
 | c::d::t,r,h=>by
  simp only [qi0] at h
  split at h
  ·split at h
   ·cases hq:qi0 t with
    | none=>rw [hq] at h;cases h
    | some q=>rw [hq] at h;injection h with h;subst h;have:=vm6 t q hq;simp;omega
   ·injection h with h;subst h;simp
  ·cases hq:qi0 (d::t) with
   | none=>rw [hq] at h;cases h
   | some q=>rw [hq] at h;injection h with h;subst h;have:=vm6 (d::t) q hq;simp at *;omega
theorem jh9 (l:List UInt8):(qt4 l).str.length≤l.length:=by
 unfold qt4
 split
 ·simp [qd8]
 ·rename_i c t
  split
  ·unfold ve1;split
   ·simp only [List.length_take];omega
   ·simp [qd8]
  split
  ·unfold vw8;split<;>simp [qd8]
  split
  ·unfold qu5;split
   ·rename_i r hr
    have:=vm6 _ _ hr
    rw [List.length_drop] at this
    show r.1.length≤_
    omega
   ·simp [qd8]
  ·simp [qd8]
theorem vu1 (s:ByteArray) (st:St):(v9 s st).tk.str.length≤s.size:=by
 show (qi7 s.data.toList st.after).str.length≤s.size
 unfold qi7
 split
 ·have:=jh9 (s.data.toList.drop (qf8 s.data.toList st.after))
  rw [List.length_drop,qb0] at this
  omega
 ·simp [qd8]
inductive ERes where
 | ok (str:List UInt8) (st:St)
 | err (pl:Int)
def va0 (s:ByteArray) (ft:Tk) (fp:Nat) (st:St):ERes:=
 if st.tk.kind=4 then (if st.tk.str.length=1 then (if (qx4 st.tk.str ft.str).isSome=true then .ok st.tk.str (v9 s st) else .err fp) else .err st.place) else .err st.place
def EscEnds (rb:Nat) (s:ByteArray) (w:World) (r:ERes) (e:Ending) (w':World):Prop:=
 Kept rb w w'∧match r with
 | .ok str st=>e=.returned (.string (BS str))∧RdAt w' rb s st
 | .err pl=>e=x4 2 pl
theorem vs3 (rb:Nat) (s:ByteArray) (ft:Tk) (fp:Nat) (hft:ft.str.length≤200) (w:World) (st:St) (h:Ready rb s w st) :
  Calls Tryz.prog 292 #[.pointer (some ⟨rb,0,none⟩),tkV ft fp] w (EscEnds rb s w (va0 s ft fp st)):=by
 have H:=v7 h
 have HA:=v7 (h.allocd (.cells #[.int .i64 ft.kind,.int .i64 fp,.int .i64 ft.num,.string (BS ft.str)] 127))
 have hlt:=h.lt
 have n0:¬w.heap.size=rb:=by omega
 have hz:=qc0 st.tk.str
 have hpz:(BS ft.str).size≤200:=by rw [qc0];exact hft
 clear h
 simp only [tkV]
 by_cases h4:st.tk.kind=4
 ·rw [va0,if_pos h4]
  have H4:=v7 h4
  clear h4
  by_cases h1:st.tk.str.length=1
  ·rw [if_pos h1]
   have hz1:(BS st.tk.str).size=1:=by omega
   have hzb:(((BS st.tk.str).size:Int) != 1)=false:=by rw [hz1];rfl
   clear hz h1 hz1
   have VAL:=v7 (fun w=>valid_any (BS ft.str) (BS st.tk.str) hpz w)
   cases hv:(qx4 st.tk.str ft.str).isSome with
   | true=>
    have HV:Hid ((qx4 (BS st.tk.str).data.toList (BS ft.str).data.toList).isSome=true):=v7 (by rw [qr2,qr2];exact hv)
    rw [if_pos rfl]
    clear hv
    go_enter Tryz.func292,Tryz.ntmps292
    go_wp2_with (first|(go_at_call 57;refine (qb2 rb s st 4 _ (q9 H).size (q9 H).fine.after (q9 HA).at' (q9 HA).lt (q9 HA).err (q9 H4)).mono ?_;rintro e w1 ⟨rfl,hr1,hk1⟩;have hz1:w.heap.size<w1.heap.size:=(by have:=hk1.size;simp at this;omega);have n1:¬w1.heap.size=rb:=(by omega);have p1:w1.cell? ⟨w.heap.size,1,none⟩=some (.int .i64 fp):=((x5 hk1).1 _ 1 (by simp) n0).trans (by simp);have p3:w1.cell? ⟨w.heap.size,3,none⟩=some (.string (BS ft.str)):=((x5 hk1).1 _ 3 (by simp) n0).trans (by simp);have hK1:=v7 ((((Kept.refl rb w).alloc (.cells #[.int .i64 ft.kind,.int .i64 fp,.int .i64 ft.num,.string (BS ft.str)] 127)).trans hk1).alloc (.cells #[.int .i64 st.tk.kind,.int .i64 st.place,.int .i64 st.tk.num,.string (BS st.tk.str)] 127));have hR1:=v7 (hr1.allocd (.cells #[.int .i64 st.tk.kind,.int .i64 st.place,.int .i64 st.tk.num,.string (BS st.tk.str)] 127) (by omega));clear hr1 hk1;simp only [tkV])|(go_at_call 318;go_loud (refine (q9 VAL _).mono ?_;rintro e w2 ⟨rfl,hb2⟩;rw [q9 HV];obtain ⟨hc,hf⟩:=j6 hb2;have z2:=hb2.size;have q1:w2.cell? ⟨w.heap.size,1,none⟩=some (.int .i64 fp):=(hc _ 1 (by simp;omega)).trans (by rw [World.cell?_alloc_past _ _ _ (by first|omega|(simp;omega))];exact p1);have q3:w2.cell? ⟨w1.heap.size,3,none⟩=some (.string (BS st.tk.str)):=(hc _ 3 (by simp)).trans (by simp);have hb2:=v7 hb2;clear hc hf)))
    go_ret
    exact ⟨(q9 hK1).trans (Kept.of_below (q9 hb2)),rfl,(q9 hR1).below (q9 hb2) (by simp;omega)⟩
   | false=>
    have HV:Hid ((qx4 (BS st.tk.str).data.toList (BS ft.str).data.toList).isSome=false):=v7 (by rw [qr2,qr2];exact hv)
    rw [if_neg (by simp)]
    clear hv
    go_enter Tryz.func292,Tryz.ntmps292
    go_wp2_with (first|(go_at_call 57;refine (qb2 rb s st 4 _ (q9 H).size (q9 H).fine.after (q9 HA).at' (q9 HA).lt (q9 HA).err (q9 H4)).mono ?_;rintro e w1 ⟨rfl,hr1,hk1⟩;have hz1:w.heap.size<w1.heap.size:=(by have:=hk1.size;simp at this;omega);have n1:¬w1.heap.size=rb:=(by omega);have p1:w1.cell? ⟨w.heap.size,1,none⟩=some (.int .i64 fp):=((x5 hk1).1 _ 1 (by simp) n0).trans (by simp);have p3:w1.cell? ⟨w.heap.size,3,none⟩=some (.string (BS ft.str)):=((x5 hk1).1 _ 3 (by simp) n0).trans (by simp);have hK1:=v7 ((((Kept.refl rb w).alloc (.cells #[.int .i64 ft.kind,.int .i64 fp,.int .i64 ft.num,.string (BS ft.str)] 127)).trans hk1).alloc (.cells #[.int .i64 st.tk.kind,.int .i64 st.place,.int .i64 st.tk.num,.string (BS st.tk.str)] 127));have hR1:=v7 (hr1.allocd (.cells #[.int .i64 st.tk.kind,.int .i64 st.place,.int .i64 st.tk.num,.string (BS st.tk.str)] 127) (by omega));clear hr1 hk1;simp only [tkV])|(go_at_call 318;go_loud (refine (q9 VAL _).mono ?_;rintro e w2 ⟨rfl,hb2⟩;rw [q9 HV];obtain ⟨hc,hf⟩:=j6 hb2;have z2:=hb2.size;have q1:w2.cell? ⟨w.heap.size,1,none⟩=some (.int .i64 fp):=(hc _ 1 (by simp;omega)).trans (by rw [World.cell?_alloc_past _ _ _ (by first|omega|(simp;omega))];exact p1);have q3:w2.cell? ⟨w1.heap.size,3,none⟩=some (.string (BS st.tk.str)):=(hc _ 3 (by simp)).trans (by simp);have hb2:=v7 hb2;clear hc hf))|(go_at_call 87;refine (vf4 _ _ _).mono ?_;rintro e w2 ⟨rfl,rfl⟩;simp only [x4]))
    exact ⟨rfl,(q9 hK1).trans (Kept.of_below (q9 hb2)),rfl⟩
  ·rw [if_neg h1]
   have hzb:(((BS st.tk.str).size:Int) != 1)=true:=bne_iff_ne.2 (by rw [hz];omega)
   clear hz h1
   go_enter Tryz.func292,Tryz.ntmps292
   go_wp2_with (first|(go_at_call 57;refine (qb2 rb s st 4 _ (q9 H).size (q9 H).fine.after (q9 HA).at' (q9 HA).lt (q9 HA).err (q9 H4)).mono ?_;rintro e w1 ⟨rfl,hr1,hk1⟩;have hz1:w.heap.size<w1.heap.size:=(by have:=hk1.size;simp at this;omega);have n1:¬w1.heap.size=rb:=(by omega);have p1:w1.cell? ⟨w.heap.size,1,none⟩=some (.int .i64 fp):=((x5 hk1).1 _ 1 (by simp) n0).trans (by simp);have p3:w1.cell? ⟨w.heap.size,3,none⟩=some (.string (BS ft.str)):=((x5 hk1).1 _ 3 (by simp) n0).trans (by simp);have hK1:=v7 ((((Kept.refl rb w).alloc (.cells #[.int .i64 ft.kind,.int .i64 fp,.int .i64 ft.num,.string (BS ft.str)] 127)).trans hk1).alloc (.cells #[.int .i64 st.tk.kind,.int .i64 st.place,.int .i64 st.tk.num,.string (BS st.tk.str)] 127));have hR1:=v7 (hr1.allocd (.cells #[.int .i64 st.tk.kind,.int .i64 st.place,.int .i64 st.tk.num,.string (BS st.tk.str)] 127) (by omega));clear hr1 hk1;simp only [tkV])|(go_at_call 87;refine (vf4 _ _ _).mono ?_;rintro e w2 ⟨rfl,rfl⟩;simp only [x4]))
   exact ⟨rfl,q9 hK1,rfl⟩
 ·rw [va0,if_neg h4]
  have H4:=v7 h4
  clear h4
  go_enter Tryz.func292,Tryz.ntmps292
  go_wp2_with (go_at_call 57;refine (qm8 rb s st 4 _ (q9 HA).at' (q9 HA).lt (q9 H4)).mono ?_;rintro e w1 ⟨rfl,hk1⟩;simp only [x4])
  exact ⟨rfl,((Kept.refl rb w).alloc _).trans hk1,rfl⟩
end
section
def y8:Ast→Pay
 | .leaf p=>p
 | .un p _=>p
 | .bin p _ _=>p
 | .tri p _ _ _=>p
def j4:Ast→List Ast
 | .leaf _=>[]
 | .un _ x=>[x]
 | .bin _ x y=>[x,y]
 | .tri _ x y z=>[x,y,z]
def SidesAt (lo:Nat) (w:World) (sv:Value) (ts:List Ast):Prop:=
 (ts=[]∧sv=.slice none 0 0)∨∃g,sv=.slice (some ⟨g,0,none⟩) ts.length ts.length∧lo<g∧g<w.heap.size∧∀(j:Nat) (x:Ast),ts[j]?=some x→∃b,w.cell? ⟨g,j,none⟩=some (.pointer (some ⟨b,0,none⟩))∧IsNode lo w (.pointer (some ⟨b,0,none⟩)) x
theorem IsNode.parts {lo:Nat} {w:World} {v:Value} {t:Ast} (h:IsNode lo w v t):∃b sv,v=.pointer (some ⟨b,0,none⟩)∧NodeAt lo w b (y8 t) sv∧SidesAt lo w sv (j4 t):=by
 cases t with
 | leaf p=>obtain ⟨b,rfl,h⟩:=h;exact ⟨b,_,rfl,h,.inl ⟨rfl,rfl⟩⟩
 | un p x=>
  obtain ⟨b,g,v1,rfl,h,h1,h2,e1,n1⟩:=h
  refine ⟨b,_,rfl,h,.inr ⟨g,rfl,h1,h2,fun j y hj=>?_⟩⟩
  match j,hj with
  | 0,hj=>
   obtain rfl:x=y:=by simpa [j4] using hj
   obtain ⟨b1,rfl⟩:=n1.ptr;exact ⟨b1,e1,n1⟩
  | j+1,hj=>simp [j4] at hj
 | bin p x y=>
  obtain ⟨b,g,v1,v2,rfl,h,h1,h2,e1,e2,n1,n2⟩:=h
  refine ⟨b,_,rfl,h,.inr ⟨g,rfl,h1,h2,fun j z hj=>?_⟩⟩
  match j,hj with
  | 0,hj=>
   obtain rfl:x=z:=by simpa [j4] using hj
   obtain ⟨b1,rfl⟩:=n1.ptr;exact ⟨b1,e1,n1⟩
  | 1,hj=>
   obtain rfl:y=z:=by simpa [j4] using hj
   obtain ⟨b1,rfl⟩:=n2.ptr;exact ⟨b1,e2,n2⟩
  | j+2,hj=>simp [j4] at hj
 | tri p x y z=>
  obtain ⟨b,g,v1,v2,v3,rfl,h,h1,h2,e1,e2,e3,n1,n2,n3⟩:=h
  refine ⟨b,_,rfl,h,.inr ⟨g,rfl,h1,h2,fun j u hj=>?_⟩⟩
  match j,hj with
  | 0,hj=>
   obtain rfl:x=u:=by simpa [j4] using hj
   obtain ⟨b1,rfl⟩:=n1.ptr;exact ⟨b1,e1,n1⟩
  | 1,hj=>
   obtain rfl:y=u:=by simpa [j4] using hj
   obtain ⟨b1,rfl⟩:=n2.ptr;exact ⟨b1,e2,n2⟩
  | 2,hj=>
   obtain rfl:z=u:=by simpa [j4] using hj
   obtain ⟨b1,rfl⟩:=n3.ptr;exact ⟨b1,e3,n3⟩
  | j+3,hj=>simp [j4] at hj
theorem SidesAt.any {lo:Nat} {w:World} {sv:Value} {ts:List Ast} (h:SidesAt lo w sv ts):∃a,sv=.slice a ts.length ts.length∧∀(j:Nat) (x:Ast),ts[j]?=some x→∃g b,a=some ⟨g,0,none⟩∧lo<g∧g<w.heap.size∧w.cell? ⟨g,j,none⟩=some (.pointer (some ⟨b,0,none⟩))∧IsNode lo w (.pointer (some ⟨b,0,none⟩)) x:=by
 rcases h with ⟨rfl,rfl⟩|⟨g,rfl,h1,h2,h3⟩
 ·exact ⟨none,rfl,fun j x hj=>by simp at hj⟩
 ·exact ⟨some ⟨g,0,none⟩,rfl,fun j x hj=>by obtain ⟨b,hc,hn⟩:=h3 j x hj;exact ⟨g,b,rfl,h1,h2,hc,hn⟩⟩
theorem vn1 (t:Ast):(j4 t).length≤3:=by cases t<;>simp [j4]
inductive CRes where
 | ok (c:Int)
 | err (pl:Int)
def dem (want pl:Int):List CRes→Bool→Option Int
 | [],fit=>if fit then none else some pl
 | .err q::_,_=>some q
 | .ok c::t,fit=>dem want pl t (fit&&(c==want||c==0))
def vg0 (want pl c:Int) (rs:List CRes):CRes:=match dem want pl rs true with
 | none=>.ok c
 | some q=>.err q
def qk4 (pl:Int):CRes→CRes→CRes
 | .err q,_=>.err q
 | .ok _,.err q=>.err q
 | .ok l,.ok r=>if (l != r&&l != 0&&r != 0)=true then .err pl else .ok 3
def qt3 (op pl:Int) (rs:List CRes):CRes:=
 if op==0 then .ok 0 else if op==1 then .ok 1 else if op==2 then .ok 2
 else if op==5||op==6||op==7 then vg0 3 pl 3 rs
 else if op==10||op==11||op==12||op==13||op==20 then vg0 1 pl 3 rs
 else if op==14||op==15||op==16||op==17||op==18||op==19 then vg0 1 pl 1 rs
 else if op==8||op==9 then (match rs with
  | [a,b]=>qk4 pl a b
  | _=>.ok 3)
 else .ok 3
def qa1:Ast→CRes
 | .leaf p=>qt3 p.op p.place []
 | .un p x=>qt3 p.op p.place [qa1 x]
 | .bin p x y=>qt3 p.op p.place [qa1 x,qa1 y]
 | .tri p x y z=>qt3 p.op p.place [qa1 x,qa1 y,qa1 z]
theorem qb6 (t:Ast):qa1 t=qt3 (y8 t).op (y8 t).place ((j4 t).map qa1):=by cases t<;>rfl
def WfA:Ast→Prop
 | .leaf p=>¬p.op=8∧¬p.op=9
 | .un p x=>(¬p.op=8∧¬p.op=9)∧WfA x
 | .bin _ x y=>WfA x∧WfA y
 | .tri p x y z=>(¬p.op=8∧¬p.op=9)∧WfA x∧WfA y∧WfA z
theorem WfA.side {t x:Ast} (h:WfA t) (hx:x∈j4 t):WfA x:=by
 cases t with
 | leaf p=>simp [j4] at hx
 | un p y=>simp [j4] at hx;subst hx;exact h.2
 | bin p y z=>simp [j4] at hx;rcases hx with rfl|rfl;exact h.1;exact h.2
 | tri p y z u=>simp [j4] at hx;rcases hx with rfl|rfl|rfl;exact h.2.1;exact h.2.2.1;exact h.2.2.2
def ClsEnds (w:World) (r:CRes) (e:Ending) (w':World):Prop:=
 Below w.heap.size w w'∧match r with
 | .ok c=>e=.returned (.int .i64 c)
 | .err pl=>e=x4 4 pl
def qe9 (lo:Nat) (t:Ast):Prop:=∀(w:World) (v:Value),IsNode lo w v t→Calls Tryz.prog 88 #[v] w (ClsEnds w (qa1 t))
theorem dem_err {want pl q:Int} {rs:List CRes} {j:Nat} {fit:Bool} (h:rs[j]?=some (.err q)):dem want pl (rs.drop j) fit=some q:=by
 obtain ⟨hj,he⟩:=List.getElem?_eq_some_iff.1 h
 rw [List.drop_eq_getElem_cons hj,he];rfl
theorem dem_ok {want pl c:Int} {rs:List CRes} {j:Nat} {fit:Bool} (h:rs[j]?=some (.ok c)):dem want pl (rs.drop j) fit=dem want pl (rs.drop (j+1)) (fit&&(c==want||c==0)):=by
 obtain ⟨hj,he⟩:=List.getElem?_eq_some_iff.1 h
 rw [List.drop_eq_getElem_cons hj,he];rfl
theorem dem_end {want pl:Int} {rs:List CRes} {j:Nat} {fit:Bool} (h:rs.length≤j):dem want pl (rs.drop j) fit=if fit then none else some pl:=by
 rw [List.drop_of_length_le h];rfl
end
section
def DemEnds (w:World) (r:Option Int) (e:Ending) (w':World):Prop:=Below w.heap.size w w'∧match r with
 | none=>e=.returned (.tuple #[])
 | some q=>e=x4 4 q
theorem qd5 (lo:Nat) (t:Ast) (hcls:∀x∈j4 t,qe9 lo x) (want:Int) (w:World) (v:Value) (h:IsNode lo w v t) :
  Calls Tryz.prog 135 #[v,.int .i64 want] w (DemEnds w (dem want (y8 t).place ((j4 t).map qa1) true)):=by
 obtain ⟨R,hR⟩:∃r,dem want (y8 t).place ((j4 t).map qa1) true=r:=⟨_,rfl⟩
 rw [hR]
 have HR:=v7 hR
 obtain ⟨b,sv,rfl,hnode,hsides⟩:=h.parts
 obtain ⟨a,rfl,hside⟩:=hsides.any
 have hn3:=vn1 t
 obtain ⟨hab,hbw,c0,c1,c2,c3,c4,c5,c6⟩:=hnode
 obtain ⟨n,hn⟩:∃n,(j4 t).length=n:=⟨_,rfl⟩
 rw [hn] at c2 hn3
 have HN:=v7 hn
 have HS:=v7 hside
 have HC:=v7 hcls
 obtain ⟨pl,hpl⟩:∃pl,(y8 t).place=pl:=⟨_,rfl⟩
 rw [hpl] at c1 HR
 clear hR hsides h c0 c3 c4 c5 c6 hn hside hcls hpl
 go_enter Tryz.func135,Tryz.ntmps135
 go_wp2_with fail
 go_loopw [4,13] (fun fit i wr=>∃(j:Nat) (fb:Bool),j≤n∧i=.int .i64 j∧fit=.bool fb∧Hid (R=dem want pl (((j4 t).map qa1).drop j) fb)∧Below w.heap.size w wr) (fun _ i _=>n - (intOf i).toNat)
 case atStart=>exact ⟨0,true,Nat.zero_le _,rfl,rfl,v7 (by rw [List.drop_zero,q9 HR]),Below.refl _ _⟩
 case round=>
  obtain ⟨j,fb,hj,rfl,rfl,hh,hbel⟩:=hrel
  have d1:=(hbel.cell (p:=⟨b,1,none⟩) hbw).trans c1
  by_cases hlt:j<n
  ·obtain ⟨x,hx⟩:∃x,(j4 t)[j]?=some x:=⟨_,List.getElem?_eq_getElem (by rw [q9 HN];exact hlt)⟩
   obtain ⟨g,bx,rfl,hg1,hg2,hcx,hnx⟩:=q9 HS j x hx
   have dx:=(hbel.cell (p:=⟨g,j,none⟩) hg2).trans hcx
   have hxm:x∈j4 t:=List.mem_of_getElem? hx
   have HNX:=v7 (hnx.kept (Kept.of_below hbel))
   have hm:((j4 t).map qa1)[j]?=some (qa1 x):=by rw [List.getElem?_map,hx];rfl
   have CX:=v7 (q9 HC x hxm)
   clear hx hnx hcx hxm
   cases hcl:qa1 x with
   | err q=>
    have HT:Hid (R=some q):=v7 (by rw [q9 hh,dem_err (by rw [hm,hcl])])
    have HCL:=v7 hcl
    clear hh hm hcl
    go_wp2_with (go_at_call 88;refine (q9 CX _ _ (q9 HNX)).mono ?_;rintro e w1 ⟨hb1,h1⟩;rw [q9 HCL] at h1;subst h1;simp only [x4])
    rw [q9 HT]
    exact ⟨rfl,v8 hbel hb1,rfl⟩
   | ok c=>
    have HT:Hid (R=dem want pl (((j4 t).map qa1).drop (j+1)) (fb&&(c==want||c==0))):=v7 (by rw [q9 hh,dem_ok (by rw [hm,hcl])])
    have HCL:=v7 hcl
    clear hh hm hcl
    cases fb<;>cases hcw:(c==want)<;>cases hc0:(c==0)
    all_goals
     rw [hcw,hc0] at HT
     simp only [Bool.and_true,Bool.and_false,Bool.or_true,Bool.or_false,Bool.or_self,Bool.and_self] at HT
     go_wp2_with (go_at_call 88;refine (q9 CX _ _ (q9 HNX)).mono ?_;rintro e w1 ⟨hb1,h1⟩;rw [q9 HCL] at h1;subst h1)
     go_roundw
     case rel=>exact ⟨j+1,_,by omega,by go_num,rfl,HT,v8 hbel hb1⟩
     case measure=>simp [intOf];omega
  ·have HT:Hid (R=if fb then none else some pl):=v7 (by rw [q9 hh,dem_end (by rw [List.length_map,q9 HN];omega)])
   clear hh
   cases fb
   ·go_wp2_with fail
    rw [q9 HT]
    exact ⟨rfl,hbel,rfl⟩
   ·go_wp2_with fail
    go_end0
    rw [q9 HT]
    exact ⟨hbel,rfl⟩
end
section
def chkR:CRes→Option Int
 | .err q=>some q
 | .ok c=>if (c != 3&&c != 0)=true then some 0 else none
end
section
def qz6 (op:Int) (x y:V):V:=
 if op=5 then notV x else if op=6 then andV x y else if op=7 then orV x y else if op=8 then eqV x y else if op=9 then notV (eqV x y)
 else if op=12 then jc1 y x else if op=10 then jc1 x y else if op=13 then leV y x else if op=11 then leV x y
 else if op=14 then addV (iV 0) x else if op=16 then addV x y else if op=15 then subV (iV 0) x else if op=17 then subV x y
 else if op=18 then mulV x y else if op=19 then divV x y else bV (x.kind==0)
def qk3 (op:Int) (x y r:V):Prop:=∀w:World,Calls Tryz.prog 106 #[.int .i64 op,vV x,vV y] w fun e w'=>e=.returned (vV r)∧Below w.heap.size w w'
theorem qe0 {next:Act→World→Prop} {Q:Exit→Act→World→Prop} {n:Nat} {a:Act} {w:World} (h:Q (.exit n) a w):Exit.then next Q (.exit n) a w:=h
theorem y6 {id n:Nat} {Q:Exit→Act→World→Prop} {a:Act} {w:World} (hne:(n==id)=false) (h:Q (.exit n) a w):Exit.inBlock id Q (.exit n) a w:=by
 have hn:¬n=id:=by simpa using hne
 simp only [Exit.inBlock,hn,if_false];exact h
theorem qa2 {id:Nat} {Q:Exit→Act→World→Prop} {a:Act} {w:World} (h:Q .normal a w):Exit.inBlock id Q (.exit id) a w:=by
 simp only [Exit.inBlock,if_true];exact h
theorem qa4 {next:Act→World→Prop} {Q:Exit→Act→World→Prop} {a:Act} {w:World} (h:next a w):Exit.then next Q .normal a w:=h
theorem rng0:Rng 0:=⟨by decide,by decide⟩
end
section
theorem join_6 (x y:V):qk3 6 x y (andV x y):=by
 intro w
 have CON:=v7 (fun w=>jt9 x y w)
 conv=>arg 3;simp only [vV]
 go_enter Tryz.func106,Tryz.ntmps106
 repeat ((fail_if_success (with_reducible refine wp_exit ?_));go_step)
 with_reducible refine wp_exit ?_
 repeat (first|(with_reducible refine qe0 ?_)|(with_reducible refine qa2 ?_)|((with_reducible refine y6 ?hne ?_);(case hne=>rfl)))
 with_reducible refine qa4 ?_
 go_wp2_with (go_at_call 149;refine (q9 CON _).mono ?_;rintro e w1 ⟨rfl,hb1⟩;obtain ⟨hc1,hf1⟩:=j6 hb1;have hz1:w.heap.size+2<w1.heap.size:=(by have:=hb1.size;simp at this;omega);simp only [vV])
 refine bodyPost_ret (by simp [results,Tryz.results106,go_sem,hc1]<;>rfl) rfl ⟨rfl, ?_⟩
 exact ((((v8 (qb3 _ _ _ _) hb1).setCell (by simp;omega) _).setCell (by simp;omega) _).setCell (by simp;omega) _)
end
section
theorem join_10 (x y:V):qk3 10 x y (jc1 x y):=by
 intro w
 have CON:=v7 (fun w=>jf2 x y w)
 conv=>arg 3;simp only [vV]
 go_enter Tryz.func106,Tryz.ntmps106
 repeat ((fail_if_success (with_reducible refine wp_exit ?_));go_step)
 with_reducible refine wp_exit ?_
 repeat (first|(with_reducible refine qe0 ?_)|(with_reducible refine qa2 ?_)|((with_reducible refine y6 ?hne ?_);(case hne=>rfl)))
 with_reducible refine qa4 ?_
 go_wp2_with (go_at_call 152;refine (q9 CON _).mono ?_;rintro e w1 ⟨rfl,hb1⟩;obtain ⟨hc1,hf1⟩:=j6 hb1;have hz1:w.heap.size+2<w1.heap.size:=(by have:=hb1.size;simp at this;omega);simp only [vV])
 refine bodyPost_ret (by simp [results,Tryz.results106,go_sem,hc1]<;>rfl) rfl ⟨rfl, ?_⟩
 exact ((((v8 (qb3 _ _ _ _) hb1).setCell (by simp;omega) _).setCell (by simp;omega) _).setCell (by simp;omega) _)
end
section
theorem join_11 (x y:V):qk3 11 x y (leV x y):=by
 intro w
 have CON:=v7 (fun w=>qn0 x y w)
 conv=>arg 3;simp only [vV]
 go_enter Tryz.func106,Tryz.ntmps106
 repeat ((fail_if_success (with_reducible refine wp_exit ?_));go_step)
 with_reducible refine wp_exit ?_
 repeat (first|(with_reducible refine qe0 ?_)|(with_reducible refine qa2 ?_)|((with_reducible refine y6 ?hne ?_);(case hne=>rfl)))
 with_reducible refine qa4 ?_
 go_wp2_with (go_at_call 153;refine (q9 CON _).mono ?_;rintro e w1 ⟨rfl,hb1⟩;obtain ⟨hc1,hf1⟩:=j6 hb1;have hz1:w.heap.size+2<w1.heap.size:=(by have:=hb1.size;simp at this;omega);simp only [vV])
 refine bodyPost_ret (by simp [results,Tryz.results106,go_sem,hc1]<;>rfl) rfl ⟨rfl, ?_⟩
 exact ((((v8 (qb3 _ _ _ _) hb1).setCell (by simp;omega) _).setCell (by simp;omega) _).setCell (by simp;omega) _)
end
section
theorem join_12 (x y:V):qk3 12 x y (jc1 y x):=by
 intro w
 have CON:=v7 (fun w=>jf2 y x w)
 conv=>arg 3;simp only [vV]
 go_enter Tryz.func106,Tryz.ntmps106
 repeat ((fail_if_success (with_reducible refine wp_exit ?_));go_step)
 with_reducible refine wp_exit ?_
 repeat (first|(with_reducible refine qe0 ?_)|(with_reducible refine qa2 ?_)|((with_reducible refine y6 ?hne ?_);(case hne=>rfl)))
 with_reducible refine qa4 ?_
 go_wp2_with (go_at_call 152;refine (q9 CON _).mono ?_;rintro e w1 ⟨rfl,hb1⟩;obtain ⟨hc1,hf1⟩:=j6 hb1;have hz1:w.heap.size+2<w1.heap.size:=(by have:=hb1.size;simp at this;omega);simp only [vV])
 refine bodyPost_ret (by simp [results,Tryz.results106,go_sem,hc1]<;>rfl) rfl ⟨rfl, ?_⟩
 exact ((((v8 (qb3 _ _ _ _) hb1).setCell (by simp;omega) _).setCell (by simp;omega) _).setCell (by simp;omega) _)
end
section
theorem join_13 (x y:V):qk3 13 x y (leV y x):=by
 intro w
 have CON:=v7 (fun w=>qn0 y x w)
 conv=>arg 3;simp only [vV]
 go_enter Tryz.func106,Tryz.ntmps106
 repeat ((fail_if_success (with_reducible refine wp_exit ?_));go_step)
 with_reducible refine wp_exit ?_
 repeat (first|(with_reducible refine qe0 ?_)|(with_reducible refine qa2 ?_)|((with_reducible refine y6 ?hne ?_);(case hne=>rfl)))
 with_reducible refine qa4 ?_
 go_wp2_with (go_at_call 153;refine (q9 CON _).mono ?_;rintro e w1 ⟨rfl,hb1⟩;obtain ⟨hc1,hf1⟩:=j6 hb1;have hz1:w.heap.size+2<w1.heap.size:=(by have:=hb1.size;simp at this;omega);simp only [vV])
 refine bodyPost_ret (by simp [results,Tryz.results106,go_sem,hc1]<;>rfl) rfl ⟨rfl, ?_⟩
 exact ((((v8 (qb3 _ _ _ _) hb1).setCell (by simp;omega) _).setCell (by simp;omega) _).setCell (by simp;omega) _)
end
section
theorem join_16 (x y:V) (hx:Rng x.num) (hy:Rng y.num):qk3 16 x y (addV x y):=by
 intro w
 have CON:=v7 (fun w=>jt8 x y hx hy w)
 conv=>arg 3;simp only [vV]
 go_enter Tryz.func106,Tryz.ntmps106
 repeat ((fail_if_success (with_reducible refine wp_exit ?_));go_step)
 with_reducible refine wp_exit ?_
 repeat (first|(with_reducible refine qe0 ?_)|(with_reducible refine qa2 ?_)|((with_reducible refine y6 ?hne ?_);(case hne=>rfl)))
 with_reducible refine qa4 ?_
 go_wp2_with (go_at_call 154;refine (q9 CON _).mono ?_;rintro e w1 ⟨rfl,hb1⟩;obtain ⟨hc1,hf1⟩:=j6 hb1;have hz1:w.heap.size+2<w1.heap.size:=(by have:=hb1.size;simp at this;omega);simp only [vV])
 refine bodyPost_ret (by simp [results,Tryz.results106,go_sem,hc1]<;>rfl) rfl ⟨rfl, ?_⟩
 exact ((((v8 (qb3 _ _ _ _) hb1).setCell (by simp;omega) _).setCell (by simp;omega) _).setCell (by simp;omega) _)
end
section
theorem join_17 (x y:V) (hx:Rng x.num) (hy:Rng y.num):qk3 17 x y (subV x y):=by
 intro w
 have CON:=v7 (fun w=>vd9 x y hx hy w)
 conv=>arg 3;simp only [vV]
 go_enter Tryz.func106,Tryz.ntmps106
 repeat ((fail_if_success (with_reducible refine wp_exit ?_));go_step)
 with_reducible refine wp_exit ?_
 repeat (first|(with_reducible refine qe0 ?_)|(with_reducible refine qa2 ?_)|((with_reducible refine y6 ?hne ?_);(case hne=>rfl)))
 with_reducible refine qa4 ?_
 go_wp2_with (go_at_call 155;refine (q9 CON _).mono ?_;rintro e w1 ⟨rfl,hb1⟩;obtain ⟨hc1,hf1⟩:=j6 hb1;have hz1:w.heap.size+2<w1.heap.size:=(by have:=hb1.size;simp at this;omega);simp only [vV])
 refine bodyPost_ret (by simp [results,Tryz.results106,go_sem,hc1]<;>rfl) rfl ⟨rfl, ?_⟩
 exact ((((v8 (qb3 _ _ _ _) hb1).setCell (by simp;omega) _).setCell (by simp;omega) _).setCell (by simp;omega) _)
end
section
theorem join_none (op:Int) (x y:V) (h5:¬op=5) (h6:¬op=6) (h7:¬op=7) (h8:¬op=8) (h9:¬op=9) (h12:¬op=12) (h10:¬op=10) (h13:¬op=13) (h11:¬op=11) (h14:¬op=14) (h16:¬op=16) (h15:¬op=15) (h17:¬op=17) (h18:¬op=18) (h19:¬op=19):qk3 op x y (bV (x.kind==0)):=by
 intro w
 have CON:=v7 (fun w=>jp2 x w)
 have e5:(op==5)=false:=beq_eq_false_iff_ne.2 h5
 have e6:(op==6)=false:=beq_eq_false_iff_ne.2 h6
 have e7:(op==7)=false:=beq_eq_false_iff_ne.2 h7
 have e8:(op==8)=false:=beq_eq_false_iff_ne.2 h8
 have e9:(op==9)=false:=beq_eq_false_iff_ne.2 h9
 have e12:(op==12)=false:=beq_eq_false_iff_ne.2 h12
 have e10:(op==10)=false:=beq_eq_false_iff_ne.2 h10
 have e13:(op==13)=false:=beq_eq_false_iff_ne.2 h13
 have e11:(op==11)=false:=beq_eq_false_iff_ne.2 h11
 have e14:(op==14)=false:=beq_eq_false_iff_ne.2 h14
 have e16:(op==16)=false:=beq_eq_false_iff_ne.2 h16
 have e15:(op==15)=false:=beq_eq_false_iff_ne.2 h15
 have e17:(op==17)=false:=beq_eq_false_iff_ne.2 h17
 have e18:(op==18)=false:=beq_eq_false_iff_ne.2 h18
 have e19:(op==19)=false:=beq_eq_false_iff_ne.2 h19
 clear h5 h6 h7 h8 h9 h12 h10 h13 h11 h14 h16 h15 h17 h18 h19
 obtain ⟨r,hr⟩:∃r,bV (x.kind==0)=r:=⟨_,rfl⟩
 rw [hr] at CON ⊢
 clear hr
 conv=>arg 3;simp only [vV]
 go_enter Tryz.func106,Tryz.ntmps106
 repeat ((fail_if_success (with_reducible refine wp_exit ?_));go_step)
 with_reducible refine wp_exit ?_
 repeat (first|(with_reducible refine qe0 ?_)|(with_reducible refine qa2 ?_)|((with_reducible refine y6 ?hne ?_);(case hne=>rfl)))
 with_reducible refine qa4 ?_
 go_wp2_with (go_at_call 158;refine (q9 CON _).mono ?_;rintro e w1 ⟨rfl,hb1⟩;obtain ⟨hc1,hf1⟩:=j6 hb1;have hz1:w.heap.size+2<w1.heap.size:=(by have:=hb1.size;simp at this;omega);simp only [vV])
 refine bodyPost_ret (by simp [results,Tryz.results106,go_sem,hc1]<;>rfl) rfl ⟨rfl, ?_⟩
 exact ((((v8 (qb3 _ _ _ _) hb1).setCell (by simp;omega) _).setCell (by simp;omega) _).setCell (by simp;omega) _)
end
end Go.Proofs.YtfkcaldjphakpabGreatDoor
