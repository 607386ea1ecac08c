/- The document's answer: what any node is. The document's answer: what a selector is of an event. The document's answer: Eval. -/
import Derived.Test.YtfkcaldjphakpaaGreatDoorE27
import Derived.Test.YtfkcaldjphakpaaGreatDoorWRq46
import Derived.Test.YtfkcaldjphakpaaGreatDoorE29
import Derived.Test.YtfkcaldjphakpaaGreatDoorE26
import Derived.Deep.AppendLies
set_option maxHeartbeats 4000000
set_option maxRecDepth 100000
namespace Go.Proofs.YtfkcaldjphakpaaGreatDoor
open Go.RowKit
section
def qx7 (o:Int):Nat:=if o≤4 then 0 else if o=5∨o=14∨o=15∨o=21∨o=22∨o=23 then 1 else if o=20 then 3 else 2
structure NG (n:RN) (p:Pay):Prop where
 is:∃ins neg c,n={ qi3 p ins neg with cls:=c }∧qx7 p.op≤ins.length
 o0:0≤p.op
 o23:p.op≤23
 num:Rng p.num
 bp:Bp p
 bz:Bz p
theorem qy4 {p:Pay} {ins:List Nat} {neg:Bool} (ha:qx7 p.op≤ins.length) (h0:0≤p.op) (h23:p.op≤23) (hn:Rng p.num) (hb:Bp p) (hz:Bz p):∃q,NG (qi3 p ins neg) q:=⟨p,⟨ins,neg,0,rfl,ha⟩,h0,h23,hn,hb,hz⟩
theorem arity_1 {o:Int} (h:o=5∨o=14∨o=15∨o=21∨o=22∨o=23):qx7 o=1:=by unfold qx7;rw [if_neg (by omega),if_pos h]
theorem arity_2 {o:Int} (h:6≤o∧o≤13∨16≤o∧o≤19):qx7 o=2:=by unfold qx7;rw [if_neg (by omega),if_neg (by omega),if_neg (by omega)]
theorem arity_3 {o:Int} (h:o=20):qx7 o=3:=by unfold qx7;rw [if_neg (by omega),if_neg (by omega),if_pos h]
theorem arity_0 {o:Int} (h:o≤4):qx7 o=0:=by unfold qx7;rw [if_pos h]
theorem ng_flat:∀{t:Ast} {off:Nat} {l:List RN},Flat t off l→ShA t→vg2 t→vg1 t→BzA t→∀n∈l,∃p,NG n p:=by
 intro t off l h
 induction h with
 | leaf p off=>
  intro hs hn hb hz n hm
  obtain rfl:=List.mem_singleton.1 hm
  have h1:=hs.1
  have h2:=hs.2
  exact qy4 (by rw [arity_0 h2];exact Nat.zero_le _) h1 (by omega) hn hb hz
 | un p hx ih=>
  intro hs hn hb hz n hm
  rcases List.mem_append.1 hm with h|h
  ·exact ih hs.2.2.2 hn.2 hb.2 hz.2 n h
  ·obtain rfl:=List.mem_singleton.1 h
   have ho:=hs.1
   exact qy4 (by rw [arity_1 ho];exact Nat.le_refl _) (by omega) (by omega) hn.1 hb.1 hz.1
 | bin p hx hy ihx ihy=>
  intro hs hn hb hz n hm
  rcases List.mem_append.1 hm with h|h
  ·rcases List.mem_append.1 h with h|h
   ·exact ihx hs.2.1 hn.2.1 hb.2.1 hz.2.1 n h
   ·exact ihy hs.2.2 hn.2.2 hb.2.2 hz.2.2 n h
  ·obtain rfl:=List.mem_singleton.1 h
   have ho:=hs.1
   exact qy4 (by rw [arity_2 ho];exact Nat.le_refl _) (by omega) (by omega) hn.1 hb.1 hz.1
 | tri p hx hy hz' ihx ihy ihz=>
  intro hs hn hb hz n hm
  rcases List.mem_append.1 hm with h|h
  ·rcases List.mem_append.1 h with h|h
   ·rcases List.mem_append.1 h with h|h
    ·exact ihx hs.2.1 hn.2.1 hb.2.1 hz.2.1 n h
    ·exact ihy hs.2.2.1 hn.2.2.1 hb.2.2.1 hz.2.2.1 n h
   ·exact ihz hs.2.2.2 hn.2.2.2 hb.2.2.2 hz.2.2.2 n h
  ·obtain rfl:=List.mem_singleton.1 h
   have ho:=hs.1
   exact qy4 (by rw [arity_3 ho];exact Nat.le_refl _) (by omega) (by omega) hn.1 hb.1 hz.1
 | neg1 pl q hq hx ih=>
  intro hs hn hb hz n hm
  obtain ⟨_,_,_,hs⟩:=hs
  obtain ⟨_,hn⟩:=hn
  obtain ⟨_,hb⟩:=hb
  obtain ⟨_,hz⟩:=hz
  rcases List.mem_append.1 hm with h|h
  ·exact ih hs.2.2.2 hn.2 hb.2 hz.2 n h
  ·obtain rfl:=List.mem_singleton.1 h
   have ho:=hs.1
   exact qy4 (by rw [arity_1 ho];exact Nat.le_refl _) (by omega) (by omega) hn.1 hb.1 hz.1
 | neg3 pl q hq hx hy hz' ihx ihy ihz=>
  intro hs hn hb hz n hm
  obtain ⟨_,_,_,hs⟩:=hs
  obtain ⟨_,hn⟩:=hn
  obtain ⟨_,hb⟩:=hb
  obtain ⟨_,hz⟩:=hz
  rcases List.mem_append.1 hm with h|h
  ·rcases List.mem_append.1 h with h|h
   ·rcases List.mem_append.1 h with h|h
    ·exact ihx hs.2.1 hn.2.1 hb.2.1 hz.2.1 n h
    ·exact ihy hs.2.2.1 hn.2.2.1 hb.2.2.1 hz.2.2.1 n h
   ·exact ihz hs.2.2.2 hn.2.2.2 hb.2.2.2 hz.2.2.2 n h
  ·obtain rfl:=List.mem_singleton.1 h
   have ho:=hs.1
   exact qy4 (by rw [arity_3 ho];exact Nat.le_refl _) (by omega) (by omega) hn.1 hb.1 hz.1
theorem withC_mem {ns:List RN} {cs:List Int} {n:RN} (h:n∈qp1 ns cs):∃m∈ns,∃c,n={ m with cls:=c }:=by
 obtain ⟨i,hi⟩:=List.getElem?_of_mem h
 rw [qs3] at hi
 cases hm:ns[i]? with
 | none=>rw [hm] at hi;cases hi
 | some m=>
  rw [hm] at hi
  simp only [Option.map_some] at hi
  injection hi with hi
  exact ⟨m,List.mem_of_getElem? hm,_,hi.symm⟩
theorem ng_withC {ns:List RN} {cs:List Int} (h:∀n∈ns,∃p,NG n p):∀n∈qp1 ns cs,∃p,NG n p:=by
 intro n hn
 obtain ⟨m,hm,c,rfl⟩:=withC_mem hn
 obtain ⟨p,⟨ins,neg,c',rfl,ha⟩,h0,h23,h1,h2,h3⟩:=h m hm
 exact ⟨p,⟨ins,neg,c,rfl,ha⟩,h0,h23,h1,h2,h3⟩
theorem cut_some {p:Pay} (h:Bz p) (ho:p.op=22):(qk3 p.esc p.str).isSome=true:=by
 rcases (h.like ho).2 with e|⟨_,e⟩
 ·rw [e]
  have:∀l:List UInt8,(qk3 [] l).isSome=true:=by
   intro l
   induction l with
   | nil=>rfl
   | cons c t ih=>
    cases t with
    | nil=>rfl
    | cons d r=>rw [qk3,if_neg (by simp)];rw [Option.isSome_map];exact ih
  exact this _
 ·exact e
theorem jf1 (x:V) (hx:Sh x) (P E:List UInt8) (hP:P.length≤1000) (hc:(qk3 E P).isSome=true) (w:World) :
  Calls Tryz.prog 223 #[vV x,.string (BS P),.string (BS E)] w fun e w'=>e=.returned (vV (vh3 x P E))∧Below w.heap.size w w':=by
 obtain ⟨ps,hps⟩:=Option.isSome_iff_exists.1 hc
 have FT:=v7 (fun w=>rfits_any (BS x.str) (BS P) (BS E) hx hP hps w)
 have hr:vn9 P E x.str=qr5 ps (BS x.str).data.toList (fun j=>j==0):=by unfold vn9;rw [hps];rfl
 rw [←hr] at FT
 unfold vh3
 generalize vn9 P E x.str=R at *
 generalize BS P=pb at *
 generalize BS E=eb at *
 have RT:=v7 (fun w=>j8 R w)
 clear hx hP hc hps hr
 cases hk:(x.kind==3)
 ·have hk':(x.kind != 3)=true:=by simp [bne,hk]
  simp only [Bool.false_eq_true,if_false]
  conv=>arg 3;simp only [vV]
  go_enter Tryz.func223,Tryz.ntmps223
  go_wp2_with fail
  exact bodyPost_ret (by simp [results,Tryz.results223,go_sem];rfl) rfl ⟨rfl,qb2 _ _ _⟩
 ·have hk':(x.kind != 3)=false:=by simp [bne,hk]
  simp only [if_true]
  conv=>arg 3;simp only [vV]
  go_enter Tryz.func223,Tryz.ntmps223
  go_wp2_with (first|(go_at_call 261;refine (q9 FT _).mono ?_;rintro e w1 ⟨rfl,hb1⟩;have hB1:=v8 (qb2 w _ _) hb1;obtain ⟨hc1,hf1⟩:=v9 hb1;have hz1:w.heap.size+2≤w1.heap.size:=(by have:=hb1.size;simp at this;omega);have s0:w1.cell? ⟨w.heap.size+1,0,none⟩=some (.int .i64 0):=(hc1 _ 0 (by simp)).trans (by simp);have s1:w1.cell? ⟨w.heap.size+1,1,none⟩=some (.int .i64 0):=(hc1 _ 1 (by simp)).trans (by simp);have s2:w1.cell? ⟨w.heap.size+1,2,none⟩=some (.string ⟨#[]⟩):=(hc1 _ 2 (by simp)).trans (by simp);have sz:∀i,w1.frozen? ⟨w.heap.size+1,i,none⟩=false:=(fun i=>(hf1 _ i (by simp)).trans (by simp));clear hb1 hc1 hf1)|(go_at_call 132;refine (q9 RT _).mono ?_;rintro e w2 ⟨rfl,hb2⟩;have hB2:=v8 hB1 hb2;obtain ⟨hc2,hf2⟩:=v9 hb2;have t0:=(hc2 _ 0 (by omega)).trans s0;have t1:=(hc2 _ 1 (by omega)).trans s1;have t2:=(hc2 _ 2 (by omega)).trans s2;have tz:=(fun i=>(hf2 (w.heap.size+1) i (by omega)).trans (sz i));clear hb2 hc2 hf2 s0 s1 s2 sz;simp only [vV]))
  refine bodyPost_ret (by simp [results,Tryz.results223,go_sem,t0,t1,t2]<;>rfl) rfl ⟨rfl, ?_⟩
  exact (((hB2.setCell (by simp) _).setCell (by simp) _).setCell (by simp) _)
def InsAt (w:World) (v:Value) (xs:List V):Prop:=
 (∃a cap,v=.slice a xs.length cap)∧(xs≠[]→∃b cap,v=.slice (some ⟨b,0,none⟩) xs.length cap∧b<w.heap.size ∧
  ∀(k:Nat) (x:V),xs[k]?=some x→w.cell? ⟨b,k * 3,none⟩=some (.int .i64 x.kind)∧w.cell? ⟨b,k * 3+1,none⟩=some (.int .i64 x.num)∧w.cell? ⟨b,k * 3+2,none⟩=some (.string (BS x.str)))
def TxtAt (w:World) (v:Value) (ts:List (List UInt8)):Prop:=
 ∃la lc,v=.slice la ts.length lc∧∀k t,ts[k]?=some t→∃lb,la=some ⟨lb,0,none⟩∧lb<w.heap.size∧w.cell? ⟨lb,k,none⟩=some (.string (BS t))
theorem jg5 {w:World} {ps:List Pr} {ev inv iv lv:Value} {neg:Bool} {c:Int} {p:Pay} {xs:List V} (hev:EvArg w ev ps) (h0:0≤p.op) (h23:p.op≤23) (ha:qx7 p.op≤xs.length) (hg:∀x∈xs,Rng x.num∧Sh x) (hp:Bp p) (hz:Bz p) (hin:InsAt w inv xs) (hlv:TxtAt w lv p.texts) :
  Calls Tryz.prog 176 #[.agg #[.string (BS (qc6 p.op)),.int .i64 p.place,iv,.string (BS p.str),.string (BS p.esc),lv,.int .i64 p.num,.bool neg,.int .i64 c],inv,ev] w fun e w'=>e=.returned (vV (ofN ps p xs))∧Below w.heap.size w w':=by
 have C1:1≤xs.length→∃x b cap,xs[0]?=some x∧0<xs.length∧inv=.slice (some ⟨b,0,none⟩) xs.length cap∧b<w.heap.size∧Rng x.num∧Sh x∧w.cell? ⟨b,0,none⟩=some (.int .i64 x.kind)∧w.cell? ⟨b,1,none⟩=some (.int .i64 x.num)∧w.cell? ⟨b,2,none⟩=some (.string (BS x.str)):=by
  intro h
  obtain ⟨b,cap,e,hb,hc⟩:=hin.2 (fun e=>by rw [e] at h;simp at h)
  have hx:xs[0]?=some xs[0]:=List.getElem?_eq_getElem (by omega)
  have:=hc 0 _ hx
  exact ⟨xs[0],b,cap,hx,by omega,e,hb,(hg _ (List.getElem_mem _)).1,(hg _ (List.getElem_mem _)).2,by simpa using this.1,by simpa using this.2.1,by simpa using this.2.2⟩
 have C2:2≤xs.length→∃x y b cap,xs[0]?=some x∧xs[1]?=some y∧1<xs.length∧inv=.slice (some ⟨b,0,none⟩) xs.length cap∧b<w.heap.size∧Rng x.num∧Rng y.num∧w.cell? ⟨b,0,none⟩=some (.int .i64 x.kind)∧w.cell? ⟨b,1,none⟩=some (.int .i64 x.num)∧w.cell? ⟨b,2,none⟩=some (.string (BS x.str))∧w.cell? ⟨b,3,none⟩=some (.int .i64 y.kind)∧w.cell? ⟨b,4,none⟩=some (.int .i64 y.num)∧w.cell? ⟨b,5,none⟩=some (.string (BS y.str)):=by
  intro h
  obtain ⟨b,cap,e,hb,hc⟩:=hin.2 (fun e=>by rw [e] at h;simp at h)
  have hx:xs[0]?=some xs[0]:=List.getElem?_eq_getElem (by omega)
  have hy:xs[1]?=some xs[1]:=List.getElem?_eq_getElem (by omega)
  have hx':=hc 0 _ hx
  have hy':=hc 1 _ hy
  exact ⟨xs[0],xs[1],b,cap,hx,hy,by omega,e,hb,(hg _ (List.getElem_mem _)).1,(hg _ (List.getElem_mem _)).1,by simpa using hx'.1,by simpa using hx'.2.1,by simpa using hx'.2.2,by simpa using hy'.1,by simpa using hy'.2.1,by simpa using hy'.2.2⟩
 have D0:∀x,xs[0]?=some x→xs.getD 0 nV=x:=fun x h=>by rw [List.getD_eq_getElem?_getD,h];rfl
 have D1:∀x,xs[1]?=some x→xs.getD 1 nV=x:=fun x h=>by rw [List.getD_eq_getElem?_getD,h];rfl
 have D2:∀x,xs[2]?=some x→xs.getD 2 nV=x:=fun x h=>by rw [List.getD_eq_getElem?_getD,h];rfl
 have RV:∀r:V,ofN ps p xs=r→(Calls Tryz.prog 176 #[.agg #[.string (BS (qc6 p.op)),.int .i64 p.place,iv,.string (BS p.str),.string (BS p.esc),lv,.int .i64 p.num,.bool neg,.int .i64 c],inv,ev] w fun e w'=>e=.returned (vV r)∧Below w.heap.size w w')→(Calls Tryz.prog 176 #[.agg #[.string (BS (qc6 p.op)),.int .i64 p.place,iv,.string (BS p.str),.string (BS p.esc),lv,.int .i64 p.num,.bool neg,.int .i64 c],inv,ev] w fun e w'=>e=.returned (vV (ofN ps p xs))∧Below w.heap.size w w'):=fun r e h=>by rw [e];exact h
 have one:qx7 p.op=1→1≤xs.length:=fun e=>by omega
 have two:qx7 p.op=2→2≤xs.length:=fun e=>by omega
 have hcut:=cut_some hz
 obtain ⟨op,place,num,str,esc,texts⟩:=p
 have hc:op=0∨op=1∨op=2∨op=3∨op=4∨op=5∨op=6∨op=7∨op=8∨op=9∨op=10∨op=11∨op=12∨op=13∨op=14∨op=15∨op=16∨op=17∨op=18∨op=19∨op=20∨op=21∨op=22∨op=23:=by
  simp only at h0 h23;omega
 rcases hc with rfl|rfl|rfl|rfl|rfl|rfl|rfl|rfl|rfl|rfl|rfl|rfl|rfl|rfl|rfl|rfl|rfl|rfl|rfl|rfl|rfl|rfl|rfl|rfl
 ·refine RV (qs6 ps str) rfl (rvalue_0 fun w2 hb=>?_)
  have hev2:=hev.below hb
  obtain ⟨h8,hcs⟩:=hev2
  rcases hcs with ⟨rfl,a,cap,rfl⟩|⟨b,off,cap,rfl,he,hlt⟩
  ·exact vr2 a cap [] (BS str) w2 (by simp) (fun k p h=>by simp at h)
  ·exact vr2 _ cap ps (BS str) w2 (by omega) (fun k p h=>⟨b,off,rfl,hlt,he⟩)
 ·exact RV (iV num) rfl rvalue_1
 ·exact RV (tV str) rfl rvalue_2
 ·exact RV (bV true) rfl rvalue_3
 ·exact RV (bV false) rfl rvalue_4
 ·obtain ⟨x,b,cap,e,hn,rfl,hb,hr,hs,x0,x1,x2⟩:=C1 (one rfl)
  exact RV (qz7 x) (by rw [←D0 x e];rfl) (rvalue_5 hn hb x0 x1 x2)
 ·obtain ⟨x,y,b,cap,e,e',hn,rfl,hb,hr,hr',x0,x1,x2,y0,y1,y2⟩:=C2 (two rfl)
  exact RV (jb6 x y) (by rw [←D0 x e,←D1 y e'];rfl) (rvalue_6 hn hb x0 x1 x2 y0 y1 y2)
 ·obtain ⟨x,y,b,cap,e,e',hn,rfl,hb,hr,hr',x0,x1,x2,y0,y1,y2⟩:=C2 (two rfl)
  exact RV (orV x y) (by rw [←D0 x e,←D1 y e'];rfl) (rvalue_7 hn hb x0 x1 x2 y0 y1 y2)
 ·obtain ⟨x,y,b,cap,e,e',hn,rfl,hb,hr,hr',x0,x1,x2,y0,y1,y2⟩:=C2 (two rfl)
  exact RV (eqV x y) (by rw [←D0 x e,←D1 y e'];rfl) (rvalue_8 hn hb x0 x1 x2 y0 y1 y2)
 ·obtain ⟨x,y,b,cap,e,e',hn,rfl,hb,hr,hr',x0,x1,x2,y0,y1,y2⟩:=C2 (two rfl)
  exact RV (qz7 (eqV x y)) (by rw [←D0 x e,←D1 y e'];rfl) (rvalue_9 hn hb x0 x1 x2 y0 y1 y2)
 ·obtain ⟨x,y,b,cap,e,e',hn,rfl,hb,hr,hr',x0,x1,x2,y0,y1,y2⟩:=C2 (two rfl)
  exact RV (qp0 x y) (by rw [←D0 x e,←D1 y e'];rfl) (rvalue_10 hn hb x0 x1 x2 y0 y1 y2)
 ·obtain ⟨x,y,b,cap,e,e',hn,rfl,hb,hr,hr',x0,x1,x2,y0,y1,y2⟩:=C2 (two rfl)
  exact RV (leV x y) (by rw [←D0 x e,←D1 y e'];rfl) (rvalue_11 hn hb x0 x1 x2 y0 y1 y2)
 ·obtain ⟨x,y,b,cap,e,e',hn,rfl,hb,hr,hr',x0,x1,x2,y0,y1,y2⟩:=C2 (two rfl)
  exact RV (qp0 y x) (by rw [←D0 x e,←D1 y e'];rfl) (rvalue_12 hn hb x0 x1 x2 y0 y1 y2)
 ·obtain ⟨x,y,b,cap,e,e',hn,rfl,hb,hr,hr',x0,x1,x2,y0,y1,y2⟩:=C2 (two rfl)
  exact RV (leV y x) (by rw [←D0 x e,←D1 y e'];rfl) (rvalue_13 hn hb x0 x1 x2 y0 y1 y2)
 ·obtain ⟨x,b,cap,e,hn,rfl,hb,hr,hs,x0,x1,x2⟩:=C1 (one rfl)
  exact RV (vk4 (iV 0) x) (by rw [←D0 x e];rfl) (rvalue_14 hn hb x0 x1 x2 hr)
 ·obtain ⟨x,b,cap,e,hn,rfl,hb,hr,hs,x0,x1,x2⟩:=C1 (one rfl)
  exact RV (vk6 (iV 0) x) (by rw [←D0 x e];rfl) (rvalue_15 hn hb x0 x1 x2 hr)
 ·obtain ⟨x,y,b,cap,e,e',hn,rfl,hb,hr,hr',x0,x1,x2,y0,y1,y2⟩:=C2 (two rfl)
  exact RV (vk4 x y) (by rw [←D0 x e,←D1 y e'];rfl) (rvalue_16 hn hb x0 x1 x2 y0 y1 y2 hr hr')
 ·obtain ⟨x,y,b,cap,e,e',hn,rfl,hb,hr,hr',x0,x1,x2,y0,y1,y2⟩:=C2 (two rfl)
  exact RV (vk6 x y) (by rw [←D0 x e,←D1 y e'];rfl) (rvalue_17 hn hb x0 x1 x2 y0 y1 y2 hr hr')
 ·obtain ⟨x,y,b,cap,e,e',hn,rfl,hb,hr,hr',x0,x1,x2,y0,y1,y2⟩:=C2 (two rfl)
  exact RV (je1 x y) (by rw [←D0 x e,←D1 y e'];rfl) (rvalue_18 hn hb x0 x1 x2 y0 y1 y2 hr hr')
 ·obtain ⟨x,y,b,cap,e,e',hn,rfl,hb,hr,hr',x0,x1,x2,y0,y1,y2⟩:=C2 (two rfl)
  exact RV (jc7 x y) (by rw [←D0 x e,←D1 y e'];rfl) (rvalue_19 hn hb x0 x1 x2 y0 y1 y2 hr)
 ·have h3:3≤xs.length:=ha
  obtain ⟨b,cap,rfl,hb,hc⟩:=hin.2 (fun e=>by rw [e] at h3;simp at h3)
  have hx:xs[0]?=some xs[0]:=List.getElem?_eq_getElem (by omega)
  have hy:xs[1]?=some xs[1]:=List.getElem?_eq_getElem (by omega)
  have hz2:xs[2]?=some xs[2]:=List.getElem?_eq_getElem (by omega)
  have hx':=hc 0 _ hx
  have hy':=hc 1 _ hy
  have hz':=hc 2 _ hz2
  exact RV (jb6 (leV xs[1] xs[0]) (leV xs[0] xs[2])) (by rw [←D0 _ hx,←D1 _ hy,←D2 _ hz2];rfl) (rvalue_20 (by omega) hb (by simpa using hx'.1) (by simpa using hx'.2.1) (by simpa using hx'.2.2) (by simpa using hy'.1) (by simpa using hy'.2.1) (by simpa using hy'.2.2) (by simpa using hz'.1) (by simpa using hz'.2.1) (by simpa using hz'.2.2) (fun w=>reck_ge _ _ w) (fun w=>reck_le _ _ w) (fun w=>ja0 _ _ w))
 ·obtain ⟨x,b,cap,e,hn,rfl,hb,hr,hs,x0,x1,x2⟩:=C1 (one rfl)
  obtain ⟨la,lc,rfl,hl⟩:=hlv
  exact RV (qu1 x texts) (by rw [←D0 x e];rfl) (rvalue_21 hn hb x0 x1 x2 hp.2 hl)
 ·obtain ⟨x,b,cap,e,hn,rfl,hb,hr,hs,x0,x1,x2⟩:=C1 (one rfl)
  exact RV (vh3 x str esc) (by rw [←D0 x e];rfl) (rvalue_22 hn hb x0 x1 x2 (fun w=>jf1 x hs str esc (Nat.le_trans hp.1 (by decide)) (hcut rfl) w))
 ·obtain ⟨x,b,cap,e,hn,rfl,hb,hr,hs,x0,x1,x2⟩:=C1 (one rfl)
  exact RV (bV (x.kind==0)) (by rw [←D0 x e];rfl) (rvalue_23 hn hb x0)
end
section
attribute [local go_sem ↓] qv7
def vs5 (x:V):List Value:=[.int .i64 x.kind,.int .i64 x.num,.string (BS x.str)]
def VsAt (w:World) (base:Nat) (v:Value) (vs:List V):Prop:=w.ownsRow base 26 3 v vs.length (vs.flatMap vs5)
theorem info_apiV:(Tryz.prog.info? 26).map (fun i=>(i.zero,i.size,i.bytes))=some (some (.agg #[.int .i64 0,.int .i64 0,.string ⟨#[]⟩]),3,32):=by kernel_rfl
theorem flatN {α:Type} (f:α→List Value) (m:Nat) (hf:∀a,(f a).length=m):∀(l:List α) (i:Nat) (a:α),l[i]?=some a→∀k,k<m→(l.flatMap f)[i * m+k]?=(f a)[k]?:=by
 intro l
 induction l with
 | nil=>intro i a h;simp at h
 | cons c t ih=>
  intro i a h k hk
  cases i with
  | zero=>
   simp at h;subst h
   rw [List.flatMap_cons,Nat.zero_mul,Nat.zero_add,List.getElem?_append_left (by rw [hf];exact hk)]
  | succ i=>
   rw [List.flatMap_cons,List.getElem?_append_right (by rw [hf,Nat.succ_mul];omega),hf,show (i+1) * m+k - m=i * m+k by rw [Nat.succ_mul];omega]
   exact ih i a (by simpa using h) k hk
theorem VsAt.nil (w:World) (base:Nat):VsAt w base (.slice none 0 0) []:=World.ownsRow_nil _ _ _ _
theorem VsAt.below {w w':World} {base:Nat} {v:Value} {vs:List V} (h:VsAt w base v vs) (hb:Below w.heap.size w w'):VsAt w' base v vs:=qn0 h hb (Nat.le_refl _)
theorem VsAt.ins {w:World} {base:Nat} {v:Value} {vs:List V} (h:VsAt w base v vs):InsAt w v vs:=by
 have h':=h
 rcases h.2 with ⟨rfl,h0⟩|⟨g,cap,cur,rfl,hbg,hgg,_⟩
 ·exact ⟨⟨none,0,by rw [h0]⟩,fun hn=>absurd (List.eq_nil_of_length_eq_zero h0) hn⟩
 ·refine ⟨⟨_,_,rfl⟩,fun _=>⟨g,cap,rfl,(Array.getElem?_eq_some_iff.1 hgg).1,fun k x hx=>?_⟩⟩
  have hk:=(List.getElem?_eq_some_iff.1 hx).1
  have key:∀j,j<3→w.cell? ⟨g,k * 3+j,none⟩=(vs5 x)[j]?:=fun j hj=>by
   rw [World.ownsRow.cellAt h' (k * 3+j) (by omega)]
   exact flatN vs5 3 (fun _=>rfl) vs k x hx j hj
  exact ⟨key 0 (by omega),key 1 (by omega),key 2 (by omega)⟩
theorem VsAt.app {W:World} {base:Nat} {v:Value} {vs:List V} (h:VsAt W base v vs) (hb:base≤W.heap.size) (x:V) (hn:vs.length≤1000) (H:Nat) (hH:W.heap.size=H) :
  ∃g cap w5,(appR #[127,127] 127 #[v,.slice (some ⟨H,0,none⟩) 1 1]).run Tryz.prog (W.alloc (.cells #[.int .i64 x.kind,.int .i64 x.num,.string (BS x.str)] 26))=.ok (.slice (some ⟨g,0,none⟩) (vs.length+1) cap) w5 ∧
   Hid (VsAt w5 base (.slice (some ⟨g,0,none⟩) (vs.length+1) cap) (vs++[x]))∧Hid (Below base W w5):=by
 subst hH
 obtain ⟨i0,hi,hz0,hz1,hz2⟩:=info_parts info_apiV
 have ha:=World.ownsRow.alloc h (.cells #[.int .i64 x.kind,.int .i64 x.num,.string (BS x.str)] 26)
 obtain ⟨g,cap,w5,hr,hown,hgrow,hat,_⟩:=run_append_lies (P:=Tryz.prog) (W.alloc (.cells #[.int .i64 x.kind,.int .i64 x.num,.string (BS x.str)] 26)) 127 127 base 26 i0 _ 3 32 Tryz.underlying127 hi hz0 hz1 hz2 rfl (by omega) v vs.length _ ha
  ⟨W.heap.size,0,none⟩ 1 1 (vs5 x) rfl (World.news_of_block (cs:=#[.int .i64 x.kind,.int .i64 x.num,.string (BS x.str)]) (t:=26) (fr:=(0,0)) (heap_alloc_new W _)) (by simp [vs5,Value.oneCell']) (by omega) (by unfold maxLen;omega) (by omega) (by simp;omega) _ rfl
 refine ⟨g,cap,w5,hr,v7 ?_,v7 ?_⟩
 ·show World.ownsRow _ _ _ _ _ _ _
  rw [List.length_append,List.length_singleton,List.flatMap_append]
  simpa using hown
 ·exact Go.RowKit.Below.grown (((Below.refl base W).alloc hb _)) hgrow (by simp;omega) (fun k hk=>(ha.lt k hk).1)
structure VlAt (w wr:World) (av:Value) (vs:List V):Prop where
 row:VsAt wr (w.heap.size+1) av vs
 bel:Below (w.heap.size+1) (w.alloc (.cells #[.int .i64 0,.int .i64 0,.string ⟨#[]⟩] 26)) wr
 good:∀x∈vs,Rng x.num∧Sh x
theorem VlAt.bel0 {w wr:World} {av:Value} {vs:List V} (h:VlAt w wr av vs):Below w.heap.size w wr:=((Below.refl _ _).alloc (Nat.le_refl _) _).trans (h.bel.mono (Nat.le_succ _))
theorem VlAt.size {w wr:World} {av:Value} {vs:List V} (h:VlAt w wr av vs):w.heap.size+1≤wr.heap.size:=by have:=h.bel.size;simpa using this
theorem rng_node {ps:List Pr} (h:vk8 ps) (hs:EvSh ps) {p:Pay} (hp:Rng p.num) (hb:Bp p) (xs:List V) (neg:Bool):Rng (if neg=true then qz7 (ofN ps p xs) else ofN ps p xs).num∧Sh (if neg=true then qz7 (ofN ps p xs) else ofN ps p xs):=by
 split
 ·exact ⟨vw9 _,by unfold qz7;exact qc1 (vd9 _) vf5⟩
 ·exact ⟨vq9 h hp xs,sh_of hs hb.1 xs⟩
theorem RowOf.txt {w:World} {rb:Nat} {v:Value} {ts:List (List UInt8)} (h:RowOf w rb 9 v (x9 ts)):TxtAt w v ts:=by
 obtain ⟨a,c,e⟩:=h.form
 refine ⟨a,c,by rw [e];simp [x9],fun k t ht=>?_⟩
 have hk:(x9 ts)[k]?=some (.string (BS t)):=by simp [x9,ht]
 obtain ⟨q,cap,e2,hc⟩:=h.get hk
 rw [e] at e2
 injection e2 with e2
 refine ⟨q,e2, ?_,hc⟩
 rcases h with ⟨h0,_⟩|⟨g,cap',c',fr,e3,_,hg,_⟩
 ·rw [h0] at hk;simp at hk
 ·rw [e] at e3
  injection e3 with e3
  rw [e2] at e3
  injection e3 with e3
  injection e3 with e3
  subst e3
  exact (Array.getElem?_eq_some_iff.1 hg).1
theorem TxtAt.below {w w':World} {v:Value} {ts:List (List UInt8)} (h:TxtAt w v ts) (hb:Below w.heap.size w w'):TxtAt w' v ts:=by
 obtain ⟨la,lc,e,hk⟩:=h
 refine ⟨la,lc,e,fun k t ht=>?_⟩
 obtain ⟨lb,e1,e2,e3⟩:=hk k t ht
 exact ⟨lb,e1,Nat.lt_of_lt_of_le e2 hb.size,((v9 hb).1 _ _ e2).trans e3⟩
def NumsAt (w:World) (v:Value) (l:List Nat):Prop:=
 ∃la lc,v=.slice la l.length lc∧∀(k q:Nat),l[k]?=some q→∃lb,la=some ⟨lb,0,none⟩∧lb<w.heap.size∧w.cell? ⟨lb,k,none⟩=some (.int .i64 (q:Int))
theorem RowOf.nums {w:World} {rb:Nat} {v:Value} {l:List Nat} (h:RowOf w rb 3 v (qv6 l)):NumsAt w v l:=by
 obtain ⟨a,c,e⟩:=h.form
 refine ⟨a,c,by rw [e];simp [qv6],fun k t ht=>?_⟩
 have hk:(qv6 l)[k]?=some (.int .i64 (t:Int)):=by simp [qv6,ht]
 obtain ⟨q,cap,e2,hc⟩:=h.get hk
 rw [e] at e2
 injection e2 with e2
 refine ⟨q,e2, ?_,hc⟩
 rcases h with ⟨h0,_⟩|⟨g,cap',c',fr,e3,_,hg,_⟩
 ·rw [h0] at hk;simp at hk
 ·rw [e] at e3
  injection e3 with e3
  rw [e2] at e3
  injection e3 with e3
  injection e3 with e3
  subst e3
  exact (Array.getElem?_eq_some_iff.1 hg).1
theorem runV_take {ps:List Pr} {ns:List RN} {k:Nat} {n:RN} {vs:List V} (hn:ns[k]?=some n) (hv:qu9 ps [] (ns.take k)=vs):qu9 ps [] (ns.take (k+1))=vs++[vh8 ps vs n]:=by
 rw [List.take_add_one,hn,qx1,hv]
 rfl
theorem vx7 {w:World} {rb g LN cap:Nat} {ns:List RN} {ps:List Pr} {ev:Value} (c0:w.cell? ⟨rb,0,none⟩=some (.slice (some ⟨g,0,none⟩) LN cap)) (hN:NodesAt w rb (.slice (some ⟨g,0,none⟩) LN cap) ns) (hrb:rb<w.heap.size) (hne:0<ns.length) (hlen:ns.length≤1000) (hev:EvArg w ev ps) (hr:vk8 ps) (hs:EvSh ps)
  (hf:∀i n,ns[i]?=some n→∃o,NF i n o) (hg:∀n∈ns,∃p,NG n p) :
  Calls Tryz.prog 124 #[.pointer (some ⟨rb,0,none⟩),ev] w fun e w'=>e=.returned (vV ((qu9 ps [] ns).getD (ns.length - 1) nV))∧Below w.heap.size w w':=by
 have hLN:LN=ns.length:=by
  obtain ⟨rs,_,ho,_⟩:=hN
  obtain ⟨_,hx|⟨g',cap',cur,e,_⟩⟩:=ho
  ·cases hx.1
  ·injection e with _ e2 _
 have hgl:g<w.heap.size:=by
  obtain ⟨rs,_,ho,_⟩:=hN
  exact (ho.lt g rfl).2
 obtain ⟨R,hR⟩:∃r,(qu9 ps [] ns).getD (ns.length - 1) nV=r:=⟨_,rfl⟩
 rw [hR]
 have HR:Hid ((qu9 ps [] (ns.take LN)).getD (LN - 1) nV=R):=v7 (by rw [hLN,List.take_length];exact hR)
 obtain ⟨ea,en,ec,rfl⟩:=hev.slice
 have HN:=v7 hN
 have HEV:=v7 hev
 have HF:=v7 hf
 have HG:=v7 hg
 have HLN:=v7 hLN
 have HRN:=v7 hr
 have HSH:=v7 hs
 have hpos:0<LN:=by omega
 have h1000:LN≤1000:=by omega
 clear hN hev hf hg hLN hR hne hlen hr hs
 go_enter Tryz.func124,Tryz.ntmps124
 go_wp2_with fail
 go_loopw [5,6] (fun av i wr=>∃k:Nat,k≤LN∧i=.int .i64 k∧Hid (VlAt w wr av (qu9 ps [] (ns.take k)))) (fun _ i _=>LN - (intOf i).toNat)
 case atStart=>exact ⟨0,Nat.zero_le _,rfl,v7 ⟨VsAt.nil _ _,Below.refl _ _,fun x hx=>by simp [qu9] at hx⟩⟩
 case round=>
  obtain ⟨k,hk,rfl,HL⟩:=hrel
  obtain ⟨vs,hvs⟩:∃vs,qu9 ps [] (ns.take k)=vs:=⟨_,rfl⟩
  rw [hvs] at HL
  have hvl:vs.length=k:=by rw [←hvs,runV_len];have:=q9 HLN;simp;omega
  have HVS:=v7 hvs
  have HVL:=v7 hvl
  have hB0:=(q9 HL).bel0
  have hzr:=(q9 HL).size
  have d0:wr.cell? ⟨rb,0,none⟩=some (.slice (some ⟨g,0,none⟩) LN cap):=((v9 hB0).1 _ 0 hrb).trans c0
  have hrl:rb<wr.heap.size:=by omega
  have hI:=(q9 HL).row.ins
  by_cases hlt:k<LN
  ·obtain ⟨n,hn⟩:∃n,ns[k]?=some n:=⟨_,List.getElem?_eq_getElem (by have:=q9 HLN;omega)⟩
   obtain ⟨o,hfo⟩:=q9 HF k n hn
   have hins:=hfo.ins
   have hfew:=hfo.few
   obtain ⟨p,⟨ins,neg,c,rfl,har⟩,ho0,ho23,hnum,hbp,hbz⟩:=q9 HG n (List.mem_of_getElem? hn)
   have hNr:=(q9 HN).below hrb hB0
   obtain ⟨hLN2,iv,lv,hiv',hlv',hc9⟩:=hNr.cells hn
   have hiv:RowOf wr rb 3 iv (qv6 ins):=hiv'
   have hlv:RowOf wr rb 9 lv (x9 p.texts):=hlv'
   have hins:∀q∈ins,q<k:=hins
   clear hLN2 hiv' hlv'
   have e0:wr.cell? ⟨g,k * 9,none⟩=some (.string (BS (qc6 p.op))):=by have:=hc9 0 (by omega);rw [Nat.add_zero] at this;exact this
   have e1:wr.cell? ⟨g,k * 9+1,none⟩=some (.int .i64 p.place):=hc9 1 (by omega)
   have e2:wr.cell? ⟨g,k * 9+2,none⟩=some iv:=hc9 2 (by omega)
   have e3:wr.cell? ⟨g,k * 9+3,none⟩=some (.string (BS p.str)):=hc9 3 (by omega)
   have e4:wr.cell? ⟨g,k * 9+4,none⟩=some (.string (BS p.esc)):=hc9 4 (by omega)
   have e5:wr.cell? ⟨g,k * 9+5,none⟩=some lv:=hc9 5 (by omega)
   have e6:wr.cell? ⟨g,k * 9+6,none⟩=some (.int .i64 p.num):=hc9 6 (by omega)
   have e7:wr.cell? ⟨g,k * 9+7,none⟩=some (.bool neg):=hc9 7 (by omega)
   have e8:wr.cell? ⟨g,k * 9+8,none⟩=some (.int .i64 c):=hc9 8 (by omega)
   have HNU:=v7 hiv.nums
   have HTX:=v7 hlv.txt
   obtain ⟨ia,ic,rfl,hnu⟩:=hiv.nums
   obtain ⟨la,lc,rfl,_⟩:=hlv.txt
   obtain ⟨xs,hxs⟩:∃xs,ins.map (fun q=>vs.getD q nV)=xs:=⟨_,rfl⟩
   have hxl:xs.length=ins.length:=by rw [←hxs,List.length_map]
   have hxg:∀x∈xs,Rng x.num∧Sh x:=by
    intro x hx
    rw [←hxs] at hx
    obtain ⟨q,hq,rfl⟩:=List.mem_map.1 hx
    have hqk:=hins q hq
    rw [List.getD_eq_getElem?_getD,List.getElem?_eq_getElem (by omega)]
    exact (q9 HL).good _ (List.getElem_mem _)
   obtain ⟨r,hr⟩:∃r,ofN ps p xs=r:=⟨_,rfl⟩
   have RV:=v7 (fun (w:World) (inv:Value) (h1:EvArg w (.slice ea en ec) ps) (h2:InsAt w inv xs) (h3:TxtAt w (.slice la p.texts.length lc) p.texts)=>jg5 (iv:=.slice ia ins.length ic) (neg:=neg) (c:=c) h1 ho0 ho23 (by rw [hxl];exact har) hxg hbp hbz h2 h3)
   rw [hr] at RV
   have RN:=v7 (fun w=>vj4 r w)
   simp only [vV] at RV RN
   have HST:Hid (qu9 ps [] (ns.take (k+1))=vs++[if neg=true then qz7 r else r]):=v7 (by
    rw [runV_take hn (q9 HVS)]
    congr 2
    show (if neg=true then qz7 (ofN ps (payOf (qi3 p ins neg)) (ins.map fun q=>vs.getD q nV)) else ofN ps (payOf (qi3 p ins neg)) (ins.map fun q=>vs.getD q nV))=_
    rw [qw3 ho0 ho23,hxs,hr])
   have HGD:Hid (∀x∈vs++[if neg=true then qz7 r else r],Rng x.num∧Sh x):=v7 (by
    intro x hx
    rcases List.mem_append.1 hx with h|h
    ·exact (q9 HL).good x h
    ·rw [List.mem_singleton.1 h,←hr]
     exact rng_node (q9 HRN) (q9 HSH) hnum hbp xs neg)
   have HXS:=v7 hxs
   have HXL:=v7 hxl
   have HINS:Hid (∀q∈ins,q<k):=v7 hins
   have h3:ins.length≤3:=hfew
   obtain ⟨lI,hlI⟩:∃x,ins.length=x:=⟨_,rfl⟩
   have HLI:=v7 hlI
   obtain ⟨lT,hlT⟩:∃x,p.texts.length=x:=⟨_,rfl⟩
   rw [hlI] at e2 RV h3
   rw [hlT] at e5 RV HTX
   have HNU2:=v7 hnu
   have hk0:(0:Int)≤(k:Int):=by omega
   have hk1:(k:Int)<(LN:Int):=by omega
   have ng:¬g=wr.heap.size:=by have:=hB0.size;omega
   have nr:¬rb=wr.heap.size:=by omega
   have hgr:g<wr.heap.size:=by have:=hB0.size;omega
   obtain ⟨W,hW⟩:∃W:World,W=wr.alloc (.cells #[.string (BS (qc6 p.op)),.int .i64 p.place,.slice ia lI ic,.string (BS p.str),.string (BS p.esc),.slice la lT lc,.int .i64 p.num,.bool neg,.int .i64 c] 241):=⟨_,rfl⟩
   have hWb:Below wr.heap.size wr W:=hW ▸ (Below.refl _ _).alloc (Nat.le_refl _) _
   have hcp:∀k,W.cell? ⟨wr.heap.size,k,none⟩=#[.string (BS (qc6 p.op)),.int .i64 p.place,.slice ia lI ic,.string (BS p.str),.string (BS p.esc),.slice la lT lc,.int .i64 p.num,.bool neg,.int .i64 c][k]?:=fun k=>by rw [hW,World.cell?_alloc_at _ _ _ _ (by simp)]
   have hWz:W.heap.size=wr.heap.size+1:=by rw [hW];simp
   have HW:=v7 hW
   have HWB:=v7 hWb
   have HWz:=v7 hWz
   have HCP:=v7 hcp
   obtain ⟨aa,ac,rfl⟩:=hI.1
   rw [hvl] at hI ⊢
   have HI:=v7 hI
   clear hn hfo hins hfew har ho0 ho23 hnum hbp hbz hNr hiv hlv hc9 hnu hxs hxl hxg hr hlI hlT hW hWb hcp hWz hI hvs hvl hB0 HVS
   go_wp2_with fail
   rw [←q9 HW]
   clear e0 e1 e2 e3 e4 e5 e6 e7 e8
   obtain ⟨wo,rfl⟩:∃wo:World,wo=wr:=⟨_,rfl⟩
   go_loopw [8,9] (fun nv j wq=>∃m:Nat,m≤lI∧j=.int .i64 m∧Hid (VsAt wq W.heap.size nv (xs.take m))∧Hid (Below W.heap.size W wq)) (fun _ j _=>lI - (intOf j).toNat)
   case atStart=>exact ⟨0,Nat.zero_le _,rfl,v7 (VsAt.nil _ _),v7 (Below.refl _ _)⟩
   case round=>
    obtain ⟨m,hm,rfl,HX,BM⟩:=hrel
    obtain ⟨hcb,hfb⟩:=v9 (q9 BM)
    have hzq:=(q9 BM).size
    have hWz:=q9 HWz
    have HBW:=v7 (v8 (q9 HWB) (q9 BM))
    have f0:wr.cell? ⟨wo.heap.size,0,none⟩=some (.string (BS (qc6 p.op))):=(hcb _ 0 (by omega)).trans (q9 HCP 0)
    have f1:wr.cell? ⟨wo.heap.size,1,none⟩=some (.int .i64 p.place):=(hcb _ 1 (by omega)).trans (q9 HCP 1)
    have f2:wr.cell? ⟨wo.heap.size,2,none⟩=some (.slice ia lI ic):=(hcb _ 2 (by omega)).trans (q9 HCP 2)
    have f3:wr.cell? ⟨wo.heap.size,3,none⟩=some (.string (BS p.str)):=(hcb _ 3 (by omega)).trans (q9 HCP 3)
    have f4:wr.cell? ⟨wo.heap.size,4,none⟩=some (.string (BS p.esc)):=(hcb _ 4 (by omega)).trans (q9 HCP 4)
    have f5:wr.cell? ⟨wo.heap.size,5,none⟩=some (.slice la lT lc):=(hcb _ 5 (by omega)).trans (q9 HCP 5)
    have f6:wr.cell? ⟨wo.heap.size,6,none⟩=some (.int .i64 p.num):=(hcb _ 6 (by omega)).trans (q9 HCP 6)
    have f7:wr.cell? ⟨wo.heap.size,7,none⟩=some (.bool neg):=(hcb _ 7 (by omega)).trans (q9 HCP 7)
    have f8:wr.cell? ⟨wo.heap.size,8,none⟩=some (.int .i64 c):=(hcb _ 8 (by omega)).trans (q9 HCP 8)
    clear hcb hfb
    by_cases hml:m<lI
    ·obtain ⟨q,hq⟩:∃q,ins[m]?=some q:=⟨_,List.getElem?_eq_getElem (by have:=q9 HLI;omega)⟩
     have hqk:q<k:=q9 HINS q (List.mem_of_getElem? hq)
     obtain ⟨lb,rfl,hlb,hlc⟩:=q9 HNU2 m q hq
     have hql:wr.cell? ⟨lb,m,none⟩=some (.int .i64 (q:Int)):=((q9 HBW).cell (p:=⟨lb,m,none⟩) hlb).trans hlc
     obtain ⟨ab,ac2,hae,hab,hac⟩:=(q9 HI).2 (fun e=>by have:=q9 HVL;rw [e] at this;simp at this;omega)
     injection hae with hae hae2 hae3
     subst hae hae3
     obtain ⟨y,hy⟩:∃y,vs[q]?=some y:=⟨_,List.getElem?_eq_getElem (by have:=q9 HVL;omega)⟩
     obtain ⟨y0,y1,y2⟩:=hac q y hy
     have a0:wr.cell? ⟨ab,q * 3,none⟩=some (.int .i64 y.kind):=((q9 HBW).cell (p:=⟨ab,q * 3,none⟩) hab).trans y0
     have a1:wr.cell? ⟨ab,q * 3+1,none⟩=some (.int .i64 y.num):=((q9 HBW).cell (p:=⟨ab,q * 3+1,none⟩) hab).trans y1
     have a2:wr.cell? ⟨ab,q * 3+2,none⟩=some (.string (BS y.str)):=((q9 HBW).cell (p:=⟨ab,q * 3+2,none⟩) hab).trans y2
     have hxm:xs[m]?=some y:=by rw [←q9 HXS,List.getElem?_map,hq,Option.map_some,List.getD_eq_getElem?_getD,hy];rfl
     have hxt:(xs.take m).length=m:=by rw [List.length_take,q9 HXL];have:=q9 HLI;omega
     obtain ⟨g5,cap5,w5,hap,HV5,HB5⟩:=(q9 HX).app (by omega) y (by omega) wr.heap.size rfl
     rw [show xs.take m++[y]=xs.take (m+1) by rw [List.take_add_one,hxm];rfl,hxt] at HV5
     rw [hxt] at hap
     obtain ⟨na,nc,rfl⟩:=(q9 HX).ins.1
     rw [hxt] at hap ⊢
     have hm0:(0:Int)≤(m:Int):=by omega
     have hm1:(m:Int)<(lI:Int):=by omega
     have hq1:(0:Int)≤(q:Int):=by omega
     have hq2:(q:Int)<(k:Int):=by omega
     clear hq hlc hac hy y0 y1 y2 hxm hxt HX f0 f1 f3 f4 f5 f6 f7 f8 hae2
     go_wp2_with fail
     go_roundw
     case rel=>exact ⟨m+1,by omega,by go_num,HV5,v7 ((q9 BM).trans (q9 HB5))⟩
     case measure=>simp [intOf];omega
    ·have hme:m=lI:=by omega
     have hxe:xs.take m=xs:=List.take_of_length_le (by have:=q9 HXL;have:=q9 HLI;omega)
     rw [hxe] at HX
     have HXI:=v7 (q9 HX).ins
     have hxlen:xs.length=lI:=by have:=q9 HXL;have:=q9 HLI;omega
     obtain ⟨na,nc,rfl⟩:=(q9 HX).ins.1
     rw [hxlen] at HXI HX ⊢
     have HVA:=v7 ((q9 HL).row.below (q9 HBW))
     have HBA:=v7 ((q9 HL).bel.trans ((q9 HBW).mono hzr))
     have EV2:=v7 ((q9 HEV).below (v8 (q9 HL).bel0 (q9 HBW)))
     have TX2:=v7 ((q9 HTX).below (q9 HBW))
     have hmn:¬(m:Int)<(lI:Int):=by omega
     have hzo:wo.heap.size<wr.heap.size:=by omega
     have hvk:=q9 HVL
     have hz0:w.heap.size+1≤wr.heap.size:=by omega
     clear hxe hme hxlen HX BM HWB HL
     cases neg with
     | false=>
      go_wp2_with (go_at_call 176;refine (q9 RV _ _ (q9 EV2) (q9 HXI) (q9 TX2)).mono ?_;rintro e w2 ⟨rfl,hb2⟩;have hz2:=hb2.size;obtain ⟨hc2,hf2⟩:=v9 hb2;have k7:=(hc2 _ 7 hzo).trans f7;have hzo2:wo.heap.size<w2.heap.size:=(by omega);have HV3:=v7 ((q9 HVA).below (hb2.alloc hb2.size (.cells #[.int .i64 r.kind,.int .i64 r.num,.string (BS r.str)] 26)));have HB3:=v7 ((q9 HBA).trans ((hb2.alloc hb2.size (.cells #[.int .i64 r.kind,.int .i64 r.num,.string (BS r.str)] 26)).mono hz0));obtain ⟨g5,cap5,w5,hap,HV5,HB5⟩:=(q9 HV3).app (by simp;omega) r (by omega) (w2.heap.size+1) (by simp);rw [hvk] at hap HV5;clear hb2 hc2 hf2)
      go_roundw
      case rel=>exact ⟨k+1,by omega,by go_num,v7 ⟨by rw [q9 HST];exact q9 HV5,(q9 HB3).trans (q9 HB5),by rw [q9 HST];exact q9 HGD⟩⟩
      case measure=>simp [intOf];omega
     | true=>
      obtain ⟨r2,hr2⟩:∃x,qz7 r=x:=⟨_,rfl⟩
      rw [hr2] at RN
      have HST2:Hid (qu9 ps [] (ns.take (k+1))=vs++[r2]):=v7 (by rw [q9 HST,if_pos rfl,hr2])
      have HGD2:Hid (∀x∈vs++[r2],Rng x.num∧Sh x):=v7 (by have:=q9 HGD;rw [if_pos rfl,hr2] at this;exact this)
      clear HST HGD hr2
      go_wp2_with (first|(go_at_call 176;refine (q9 RV _ _ (q9 EV2) (q9 HXI) (q9 TX2)).mono ?_;rintro e w2 ⟨rfl,hb2⟩;have hz2:=hb2.size;obtain ⟨hc2,hf2⟩:=v9 hb2;have k7:=(hc2 _ 7 hzo).trans f7;have hzo2:wo.heap.size<w2.heap.size:=(by omega);have HB2:=v7 (hb2.alloc hb2.size (.cells #[.int .i64 r.kind,.int .i64 r.num,.string (BS r.str)] 26));clear hb2 hc2 hf2)|(go_at_call 177;refine (q9 RN _).mono ?_;rintro e w3 ⟨rfl,hb3⟩;obtain ⟨hc3,hf3⟩:=v9 hb3;have hz3:w2.heap.size+1≤w3.heap.size:=(by have:=hb3.size;simp at this;omega);have v0:w3.cell? ⟨w2.heap.size,0,none⟩=some (.int .i64 r.kind):=(hc3 _ 0 (by simp)).trans (by simp);have v1:w3.cell? ⟨w2.heap.size,1,none⟩=some (.int .i64 r.num):=(hc3 _ 1 (by simp)).trans (by simp);have v2:w3.cell? ⟨w2.heap.size,2,none⟩=some (.string (BS r.str)):=(hc3 _ 2 (by simp)).trans (by simp);have vz:∀i,w3.frozen? ⟨w2.heap.size,i,none⟩=false:=(fun i=>(hf3 _ i (by simp)).trans (by simp));have hBW:Below wr.heap.size wr (((w3.setCell ⟨w2.heap.size,0,none⟩ (.int .i64 r2.kind)).setCell ⟨w2.heap.size,1,none⟩ (.int .i64 r2.num)).setCell ⟨w2.heap.size,2,none⟩ (.string (BS r2.str))):=((((v8 (q9 HB2) hb3).setCell hz2 _).setCell hz2 _).setCell hz2 _);have HV3:=v7 ((q9 HVA).below hBW);have HB3:=v7 ((q9 HBA).trans (hBW.mono hz0));obtain ⟨g5,cap5,w5,hap,HV5,HB5⟩:=(q9 HV3).app (by simp;omega) r2 (by omega) w3.heap.size (by simp);rw [hvk] at hap HV5;clear hb3 hc3 hf3 hBW))
      go_roundw
      case rel=>exact ⟨k+1,by omega,by go_num,v7 ⟨by rw [q9 HST2];exact q9 HV5,(q9 HB3).trans (q9 HB5),by rw [q9 HST2];exact q9 HGD2⟩⟩
      case measure=>simp [intOf];omega
  ·have hke:k=LN:=by omega
   subst hke
   obtain ⟨ab,ac2,rfl,hab,hac⟩:=hI.2 (fun e=>by rw [e] at hvl;simp at hvl;omega)
   obtain ⟨y,hy⟩:∃y,vs[k - 1]?=some y:=⟨_,List.getElem?_eq_getElem (by omega)⟩
   obtain ⟨y0,y1,y2⟩:=hac (k - 1) y hy
   have HRY:Hid (R=y):=v7 (by rw [←q9 HR,q9 HVS,List.getD_eq_getElem?_getD,hy];rfl)
   obtain ⟨k',rfl⟩:∃k',k=k'+1:=⟨k - 1,by omega⟩
   rw [show k'+1 - 1=k' by omega] at y0 y1 y2
   have r0:wr.cell? ⟨w.heap.size,0,none⟩=some (.int .i64 0):=((q9 HL).bel.cell (p:=⟨w.heap.size,0,none⟩) (Nat.lt_succ_self _)).trans (by simp)
   have r1:wr.cell? ⟨w.heap.size,1,none⟩=some (.int .i64 0):=((q9 HL).bel.cell (p:=⟨w.heap.size,1,none⟩) (Nat.lt_succ_self _)).trans (by simp)
   have r2:wr.cell? ⟨w.heap.size,2,none⟩=some (.string ⟨#[]⟩):=((q9 HL).bel.cell (p:=⟨w.heap.size,2,none⟩) (Nat.lt_succ_self _)).trans (by simp)
   have rz:∀i,wr.frozen? ⟨w.heap.size,i,none⟩=false:=fun i=>((q9 HL).bel.frozen (p:=⟨w.heap.size,i,none⟩) (Nat.lt_succ_self _)).trans (by simp)
   rw [hvl]
   have HBZ:=v7 hB0
   have hk1:(k':Int)+1 - 1=(k':Int):=by omega
   clear hy hac hI hvs HVS hB0 HL
   go_wp2_with fail
   refine bodyPost_ret (by simp [results,Tryz.results124,go_sem,r0,r1,r2]<;>rfl) rfl ⟨?_, ?_⟩
   ·rw [q9 HRY];rfl
   ·exact ((((q9 HBZ).setCell (Nat.le_refl _) _).setCell (Nat.le_refl _) _).setCell (Nat.le_refl _) _)
end
section
theorem vq5 (a:Option Addr) (cap:Nat) (w:World):Calls Tryz.prog 85 #[.slice a 0 cap] w fun e w'=>e=.returned (.bool true)∧Below w.heap.size w w':=by
 go_enter Tryz.func85,Tryz.ntmps85
 go_wp2_with fail
 go_loopw [3] (fun i wr=>i=.int .i64 0∧wr=w) (fun _ _=>0)
 case atStart=>exact ⟨rfl,rfl⟩
 case round=>
  obtain ⟨rfl,rfl⟩:=hrel
  go_wp2_with fail
  go_ret
  exact ⟨rfl,Below.refl _ _⟩
theorem vf2 {w:World} {ev:Value} {ps:List Pr} (h:EvIn w ev ps) (hg:EvGood ps):Calls Tryz.prog 85 #[ev] w fun e w'=>e=.returned (.bool (qz5 ps))∧Below w.heap.size w w':=by
 rcases h with ⟨rfl,a,cap,rfl⟩|⟨b,off,cap,rfl,hc,he,hlt⟩
 ·exact vq5 a cap w
 ·by_cases h8:ps.length≤8
  ·exact revent_in b off cap ps w h8 hg.short he hlt
  ·rw [vn4 h8]
   exact vw8 _ _ _ (by omega) w
theorem vx6 {s:ByteArray} {t:Ast} (hrd:qq1 s=.ok t) {w:World} {rb g LN cap:Nat} {ns:List RN} {cs:List Int} {ps:List Pr} {ev:Value} (hfl:Flat t 0 ns) (hsh:ShA t) (h200:ns.length≤200) (c0:w.cell? ⟨rb,0,none⟩=some (.slice (some ⟨g,0,none⟩) LN cap)) (hN:NodesAt w rb (.slice (some ⟨g,0,none⟩) LN cap) (qp1 ns cs)) (hrb:rb<w.heap.size) (hev:EvArg w ev ps) (hr:vk8 ps) (hs:EvSh ps) :
  Calls Tryz.prog 124 #[.pointer (some ⟨rb,0,none⟩),ev] w fun e w'=>e=.returned (vV (ofA ps t))∧Below w.heap.size w w':=by
 have hl:(qp1 ns cs).length=ns.length:=vs9 _ _
 have hpos:=hfl.pos
 have hgood:=qw5 hrd
 have key:=vx7 c0 hN hrb (by omega) (by omega) hev hr hs (fun i n hn=>by
   rw [qs3] at hn
   cases hm:ns[i]? with
   | none=>rw [hm] at hn;cases hn
   | some m=>
    rw [hm] at hn
    simp only [Option.map_some] at hn
    injection hn with hn
    obtain ⟨o,a,b,c,d,e,f⟩:=vw0 hfl hsh i m hm
    rw [Nat.zero_add] at d
    subst hn
    exact ⟨o,a,b,c,d,e,f⟩) (ng_withC (ng_flat hfl hsh hgood.1 hgood.2 (jc1 hrd)))
 obtain ⟨ds,h1,h2,h3⟩:=val_flat ps hfl hsh [] rfl
 have hv:(qu9 ps [] (qp1 ns cs)).getD ((qp1 ns cs).length - 1) nV=ofA ps t:=by
  rw [runV_cls,hl,h1,List.nil_append]
  exact h3
 rw [hv] at key
 exact key
theorem reval_err (s:ByteArray) (hs:s.size≤140737488355328) (en pl:Int) (hrd:qq1 s=.err en pl) (ev:Value) (w:World) (hev:∃a n c,ev=.slice a n c) :
  Calls Tryz.prog 77 #[.string s,ev] w fun e w'=>e=.returned (.tuple #[vV nV,.int .i64 en,.int .i64 pl])∧Below w.heap.size w w':=by
 have RD:=v7 (vc8 s hs (w.alloc (.cells #[.int .i64 0,.int .i64 0,.string ⟨#[]⟩] 26)))
 rw [hrd] at RD
 have hbl:=(Below.refl w.heap.size w).alloc (Nat.le_refl _) (.cells #[.int .i64 0,.int .i64 0,.string ⟨#[]⟩] 26)
 obtain ⟨a,n,c,rfl⟩:=hev
 have hen:(en != 0)=true:=by rcases qp3 hrd with h|h|h|h<;>rw [h]<;>rfl
 have hen':(en==0)=false:=by rcases qp3 hrd with h|h|h|h<;>rw [h]<;>rfl
 clear hrd
 go_enter Tryz.func77,Tryz.ntmps77
 go_wp2_with (first|(go_at_call 123;refine (q9 RD).mono ?_;rintro e w1 ⟨hb1,rfl⟩;have hz1:w.heap.size<w1.heap.size:=(by have:=hb1.size;simp at this;omega);have g0:w1.cell? ⟨w.heap.size,0,none⟩=some (.int .i64 0):=((v9 hb1).1 _ 0 (by simp)).trans (by simp);have g1:w1.cell? ⟨w.heap.size,1,none⟩=some (.int .i64 0):=((v9 hb1).1 _ 1 (by simp)).trans (by simp);have g2:w1.cell? ⟨w.heap.size,2,none⟩=some (.string ⟨#[]⟩):=((v9 hb1).1 _ 2 (by simp)).trans (by simp);have z0:∀j,w1.frozen? ⟨w.heap.size,j,none⟩=false:=(fun j=>((v9 hb1).2 _ j (by simp)).trans (by simp));have hB1:=v7 (v8 hbl hb1);clear hb1))
 refine bodyPost_ret (by simp [results,Tryz.results77,go_sem,g0,g1,g2]<;>rfl) rfl ⟨rfl, ?_⟩
 exact (((q9 hB1).setCell (by simp) _).setCell (by simp) _).setCell (by simp) _
theorem reval_bad (s:ByteArray) (hs:s.size≤140737488355328) (t:Ast) (hrd:qq1 s=.ok t) (ps:List Pr) (ev:Value) (w:World) (hev:EvIn w ev ps) (hg:EvGood ps) (hok:qz5 ps=false) :
  Calls Tryz.prog 77 #[.string s,ev] w fun e w'=>e=.returned (.tuple #[vV nV,.int .i64 7,.int .i64 0])∧Below w.heap.size w w':=by
 have RD:=v7 (vc8 s hs (w.alloc (.cells #[.int .i64 0,.int .i64 0,.string ⟨#[]⟩] 26)))
 rw [hrd] at RD
 have hbl:=(Below.refl w.heap.size w).alloc (Nat.le_refl _) (.cells #[.int .i64 0,.int .i64 0,.string ⟨#[]⟩] 26)
 have EVA:=v7 (hev.below hbl)
 obtain ⟨a,n,c,rfl⟩:=hev.slice
 have HV:=v7 (fun w1 (h:EvIn w1 (.slice a n c) ps)=>vf2 h hg)
 rw [hok] at HV
 clear hrd hg hev hok
 go_enter Tryz.func77,Tryz.ntmps77
 go_wp2_with (first|(go_at_call 123;refine (q9 RD).mono ?_;rintro e w1 ⟨hb1,rfl,_⟩;have hz1:w.heap.size<w1.heap.size:=(by have:=hb1.size;simp at this;omega);have EV1:=v7 ((q9 EVA).below hb1);have g0:w1.cell? ⟨w.heap.size,0,none⟩=some (.int .i64 0):=((v9 hb1).1 _ 0 (by simp)).trans (by simp);have g1:w1.cell? ⟨w.heap.size,1,none⟩=some (.int .i64 0):=((v9 hb1).1 _ 1 (by simp)).trans (by simp);have g2:w1.cell? ⟨w.heap.size,2,none⟩=some (.string ⟨#[]⟩):=((v9 hb1).1 _ 2 (by simp)).trans (by simp);have z0:∀j,w1.frozen? ⟨w.heap.size,j,none⟩=false:=(fun j=>((v9 hb1).2 _ j (by simp)).trans (by simp));have hB1:=v7 (v8 hbl hb1);clear hb1)|(go_at_call 85;refine (q9 HV _ (q9 EV1)).mono ?_;rintro e w2 ⟨rfl,hb2⟩;have hz2:w.heap.size<w2.heap.size:=(by have:=hb2.size;omega);have k0:w2.cell? ⟨w.heap.size,0,none⟩=some (.int .i64 0):=((v9 hb2).1 _ 0 hz1).trans g0;have k1:w2.cell? ⟨w.heap.size,1,none⟩=some (.int .i64 0):=((v9 hb2).1 _ 1 hz1).trans g1;have k2:w2.cell? ⟨w.heap.size,2,none⟩=some (.string ⟨#[]⟩):=((v9 hb2).1 _ 2 hz1).trans g2;have z2:∀j,w2.frozen? ⟨w.heap.size,j,none⟩=false:=(fun j=>((v9 hb2).2 _ j hz1).trans (z0 j));have hB2:=v7 (v8 (q9 hB1) hb2);clear hb2 g0 g1 g2 z0))
 refine bodyPost_ret (by simp [results,Tryz.results77,go_sem,k0,k1,k2]<;>rfl) rfl ⟨rfl, ?_⟩
 exact (((q9 hB2).setCell (by simp) _).setCell (by simp) _).setCell (by simp) _
theorem reval_ok (s:ByteArray) (hs:s.size≤140737488355328) (t:Ast) (hrd:qq1 s=.ok t) (ps:List Pr) (ev:Value) (w:World) (hev:EvIn w ev ps) (hg:EvGood ps) (hok:qz5 ps=true) :
  Calls Tryz.prog 77 #[.string s,ev] w fun e w'=>e=.returned (.tuple #[vV (ofA ps t),.int .i64 0,.int .i64 0])∧Below w.heap.size w w':=by
 have RD:=v7 (vc8 s hs (w.alloc (.cells #[.int .i64 0,.int .i64 0,.string ⟨#[]⟩] 26)))
 rw [hrd] at RD
 have hbl:=(Below.refl w.heap.size w).alloc (Nat.le_refl _) (.cells #[.int .i64 0,.int .i64 0,.string ⟨#[]⟩] 26)
 have EVA:=v7 (hev.below hbl)
 obtain ⟨a,n,c,rfl⟩:=hev.slice
 have HV:=v7 (fun w1 (h:EvIn w1 (.slice a n c) ps)=>vf2 h hg)
 rw [hok] at HV
 have TV:Hid (∀(w:World) (rb g LN cap:Nat) (ns:List RN) (cs:List Int),Flat t 0 ns→ShA t→ns.length≤200→w.cell? ⟨rb,0,none⟩=some (.slice (some ⟨g,0,none⟩) LN cap)→NodesAt w rb (.slice (some ⟨g,0,none⟩) LN cap) (qp1 ns cs)→rb<w.heap.size→EvArg w (.slice a n c) ps →
  Calls Tryz.prog 124 #[.pointer (some ⟨rb,0,none⟩),.slice a n c] w fun e w'=>e=.returned (vV (ofA ps t))∧Below w.heap.size w w'):=v7 fun w rb g LN cap ns cs h1 h2 h3 h4 h5 h6 h7=>vx6 hrd h1 h2 h3 h4 h5 h6 h7 hg.rng (vu1 hok)
 have HB8:=v7 (evOk_8 hok)
 obtain ⟨r,hr⟩:∃r,ofA ps t=r:=⟨_,rfl⟩
 rw [hr] at TV ⊢
 simp only [vV] at TV
 clear hrd hg hev hok hr
 go_enter Tryz.func77,Tryz.ntmps77
 go_wp2_with (first|(go_at_call 123;refine (q9 RD).mono ?_;rintro e w1 ⟨hb1,rfl,hzt,ns,cs,g,LN,cap,hfl,hsh,h200,c0,hN⟩;have hsz:(w.alloc (.cells #[.int .i64 0,.int .i64 0,.string ⟨#[]⟩] 26)).heap.size=w.heap.size+1:=(by simp);rw [hsz] at c0 hN hzt;have hz1:w.heap.size<w1.heap.size:=(by have:=hb1.size;simp at this;omega);have EV1:=v7 ((q9 EVA).below hb1);have g0:w1.cell? ⟨w.heap.size,0,none⟩=some (.int .i64 0):=((v9 hb1).1 _ 0 (by simp)).trans (by simp);have g1:w1.cell? ⟨w.heap.size,1,none⟩=some (.int .i64 0):=((v9 hb1).1 _ 1 (by simp)).trans (by simp);have g2:w1.cell? ⟨w.heap.size,2,none⟩=some (.string ⟨#[]⟩):=((v9 hb1).1 _ 2 (by simp)).trans (by simp);have z0:∀j,w1.frozen? ⟨w.heap.size,j,none⟩=false:=(fun j=>((v9 hb1).2 _ j (by simp)).trans (by simp));have hB1:=v7 (v8 hbl hb1);have HC0:=v7 c0;have HN:=v7 hN;have HFL:=v7 hfl;have HSH:=v7 hsh;have H200:=v7 h200;clear hb1 c0 hN hfl hsh h200 hsz)|(go_at_call 85;refine (q9 HV _ (q9 EV1)).mono ?_;rintro e w2 ⟨rfl,hb2⟩;have hz2:w.heap.size<w2.heap.size:=(by have:=hb2.size;omega);have hzt2:w.heap.size+1<w2.heap.size:=(by have:=hb2.size;omega);have EV2:=v7 ((q9 EV1).below hb2);have k0:w2.cell? ⟨w.heap.size,0,none⟩=some (.int .i64 0):=((v9 hb2).1 _ 0 hz1).trans g0;have k1:w2.cell? ⟨w.heap.size,1,none⟩=some (.int .i64 0):=((v9 hb2).1 _ 1 hz1).trans g1;have k2:w2.cell? ⟨w.heap.size,2,none⟩=some (.string ⟨#[]⟩):=((v9 hb2).1 _ 2 hz1).trans g2;have z2:∀j,w2.frozen? ⟨w.heap.size,j,none⟩=false:=(fun j=>((v9 hb2).2 _ j hz1).trans (z0 j));have HC2:=v7 (((v9 hb2).1 _ 0 hzt).trans (q9 HC0));have HN2:=v7 ((q9 HN).below hzt hb2);have hB2:=v7 (v8 (q9 hB1) hb2);clear hb2 g0 g1 g2 z0)|(go_at_call 124;refine (q9 TV _ _ _ _ _ _ _ (q9 HFL) (q9 HSH) (q9 H200) (q9 HC2) (q9 HN2) hzt2 ((q9 EV2).arg (q9 HB8))).mono ?_;rintro e w3 ⟨rfl,hb3⟩;have m0:w3.cell? ⟨w.heap.size,0,none⟩=some (.int .i64 0):=((v9 hb3).1 _ 0 hz2).trans k0;have m1:w3.cell? ⟨w.heap.size,1,none⟩=some (.int .i64 0):=((v9 hb3).1 _ 1 hz2).trans k1;have m2:w3.cell? ⟨w.heap.size,2,none⟩=some (.string ⟨#[]⟩):=((v9 hb3).1 _ 2 hz2).trans k2;have z3:∀j,w3.frozen? ⟨w.heap.size,j,none⟩=false:=(fun j=>((v9 hb3).2 _ j hz2).trans (z2 j));have hB3:=v7 (v8 (q9 hB2) hb3);clear hb3 k0 k1 k2 z2))
 refine bodyPost_ret (by simp [results,Tryz.results77,go_sem,m0,m1,m2]<;>rfl) rfl ⟨rfl, ?_⟩
 exact (((q9 hB3).setCell (by simp) _).setCell (by simp) _).setCell (by simp) _
theorem reval_any (s:ByteArray) (hs:s.size≤140737488355328) (ps:List Pr) (ev:Value) (w:World) (hev:EvIn w ev ps) (hg:EvGood ps) :
  Calls Tryz.prog 77 #[.string s,ev] w fun e w'=>e=.returned (.tuple #[vV (vg8 s ps).val,.int .i64 (vg8 s ps).errno,.int .i64 (vg8 s ps).place])∧Below w.heap.size w w':=by
 unfold vg8
 cases hrd:qq1 s with
 | err en pl=>exact reval_err s hs en pl hrd ev w hev.slice
 | ok t=>
  cases hok:qz5 ps with
  | true=>exact reval_ok s hs t hrd ps ev w hev hg hok
  | false=>exact reval_bad s hs t hrd ps ev w hev hg hok
end
end Go.Proofs.YtfkcaldjphakpaaGreatDoor
