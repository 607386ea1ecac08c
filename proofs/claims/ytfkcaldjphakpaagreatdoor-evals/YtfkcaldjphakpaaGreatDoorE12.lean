/- The document's answer: a node more. The document's answer: the states of the reader, and its small steps between them. The document's answer: a tree's nodes in their order; how a reading method ends; what opens something. The document's answer: a reader with an error stays as it is. The document's answer: a node more, of no, one or two operands. -/
import Derived.Test.YtfkcaldjphakpaaGreatDoorE11
import Derived.Test.YtfkcaldjphakpaaGreatDoorE05
set_option maxHeartbeats 2000000
set_option maxRecDepth 100000
namespace Go.Proofs.YtfkcaldjphakpaaGreatDoor
open Go.RowKit
section
attribute [local go_sem ↓] qv7
theorem TrC.put {w w':World} {rb:Nat} {nv:Value} {s:ByteArray} {k a z:Int} {S:ByteArray} {n op er at':Int} (h:TrC w rb nv s k a z S n op er at') (hb:w'.heap[rb]?=w.heap[rb]?) (hlt:rb<w'.heap.size) (v:Value):TrC (w'.setCell ⟨rb,0,none⟩ v) rb v s k a z S n op er at':=by
 obtain ⟨lt,c0,c1,c2,c3,c4,c5,c6,c7,c8,c9,fz⟩:=h
 have hc:∀j,w'.cell? ⟨rb,j,none⟩=w.cell? ⟨rb,j,none⟩:=fun j=>World.cell?_of_block (w:=w) (w':=w') (a:=⟨rb,j,none⟩) hb
 have hf:∀j,w'.frozen? ⟨rb,j,none⟩=w.frozen? ⟨rb,j,none⟩:=fun j=>World.frozen?_of_block (w:=w) (w':=w') (a:=⟨rb,j,none⟩) hb
 rw [←hc] at c0 c1 c2 c3 c4 c5 c6 c7 c8 c9
 refine ⟨by simpa using hlt, ?_, ?_, ?_, ?_, ?_, ?_, ?_, ?_, ?_, ?_,fun j=>?_⟩
 all_goals simp [go_sem,c0,c1,c2,c3,c4,c5,c6,c7,c8,c9,hf,fz]
def AddEnds (rb:Nat) (s:ByteArray) (k a z:Int) (S:ByteArray) (n op er at':Int) (w:World) (ns:List RN) (x:RN) (e:Ending) (w':World):Prop:=
 e=.returned (.int .i64 ns.length)∧TKept rb w w'∧∃nv',TrC w' rb nv' s k a z S n op er at'∧NodesAt w' rb nv' (ns++[x])
theorem qw4 {w:World} {rb:Nat} {nv:Value} {s:ByteArray} {k a z:Int} {S:ByteArray} {n op er at':Int} (h:TrC w rb nv s k a z S n op er at') {ns:List RN} (hN:NodesAt w rb nv ns) (x:RN) {iv lv:Value} (hiv:RowOf w rb 3 iv (qv6 x.ins)) (hlv:RowOf w rb 9 lv (x9 x.texts)) (hn:ns.length≤100000) :
  Calls Tryz.prog 216 #[.pointer (some ⟨rb,0,none⟩),.agg #[.string (BS x.op),.int .i64 x.at',iv,.string (BS x.str),.string (BS x.esc),lv,.int .i64 x.num,.bool x.neg,.int .i64 x.cls]] w (AddEnds rb s k a z S n op er at' w ns x):=by
 have hb:Below w.heap.size w (w.alloc (.cells #[.string (BS x.op),.int .i64 x.at',iv,.string (BS x.str),.string (BS x.esc),lv,.int .i64 x.num,.bool x.neg,.int .i64 x.cls] 241)):=(Below.refl _ _).alloc (Nat.le_refl _) _
 have hK0:=TKept.of_below hb.drew h.lt
 have h1:=h.below hb.drew
 obtain ⟨g,cap,w5,hap,HB,hlt5,HN,HK⟩:=(hN.below h.lt hb.drew).app h1.c0 h1.lt x (hiv.kept hK0) (hlv.kept hK0) hn
 have HT:=v7 (h1.put (q9 HB) hlt5 (.slice (some ⟨g,0,none⟩) (ns.length+1) cap))
 have HK0:=v7 hK0
 obtain ⟨⟨ai,ci,rfl⟩,⟨al,cl,rfl⟩⟩:=And.intro hiv.form hlv.form
 have hform:∃a0 c0,nv=.slice a0 ns.length c0:=by
  obtain ⟨rs,_,ho,_⟩:=hN
  rcases ho.2 with ⟨h0,h0'⟩|⟨g,cap,cur,rfl,_⟩
  ·exact ⟨none,0,by simp_all⟩
  ·exact ⟨_,_,rfl⟩
 obtain ⟨a0,c00,rfl⟩:=hform
 obtain ⟨lt,c0,c1,c2,c3,c4,c5,c6,c7,c8,c9,fz⟩:=h
 have n0:¬w.heap.size=rb:=by omega
 have n1:¬rb=w.heap.size:=by omega
 have HB5:w5.cell? ⟨rb,0,none⟩=some (.slice a0 ns.length c00):=(World.cell?_of_block (w':=w5) (a:=⟨rb,0,none⟩) (q9 HB)).trans h1.c0
 have fz5:w5.frozen? ⟨rb,0,none⟩=false:=(World.frozen?_of_block (w':=w5) (a:=⟨rb,0,none⟩) (q9 HB)).trans (h1.fz 0)
 have hap2:(appR #[233,233] 233 #[.slice a0 ns.length c00,.slice (some ⟨w.heap.size+1,0,none⟩) 1 1]).run Tryz.prog ((w.alloc (.cells #[.string (BS x.op),.int .i64 x.at',.slice ai (qv6 x.ins).length ci,.string (BS x.str),.string (BS x.esc),.slice al (x9 x.texts).length cl,.int .i64 x.num,.bool x.neg,.int .i64 x.cls] 241)).alloc (.cells #[.string (BS x.op),.int .i64 x.at',.slice ai (qv6 x.ins).length ci,.string (BS x.str),.string (BS x.esc),.slice al (x9 x.texts).length cl,.int .i64 x.num,.bool x.neg,.int .i64 x.cls] 241)).drew=.ok (.slice (some ⟨g,0,none⟩) (ns.length+1) cap) w5:=by
  have e:(w.alloc (.cells #[.string (BS x.op),.int .i64 x.at',.slice ai (qv6 x.ins).length ci,.string (BS x.str),.string (BS x.esc),.slice al (x9 x.texts).length cl,.int .i64 x.num,.bool x.neg,.int .i64 x.cls] 241)).drew.heap.size=w.heap.size+1:=by show (w.alloc _).heap.size=_;simp
  rw [e] at hap;exact hap
 clear h1 hb hK0 hN hiv hlv hap
 go_enter Tryz.func216,Tryz.ntmps216
 go_wp2_with fail
 go_region
 all_goals go_wp2_with fail
 all_goals go_ret
 all_goals exact ⟨qf7 (by simp),(q9 HK0).trans (q9 HK),_,q9 HT,q9 HN⟩
end
section
def tkZ (st:St):Int:=if st.tk.kind=1 then 0 else st.after
def tkS (st:St):List UInt8:=if st.tk.kind=1 then [] else rS st.tk
def tkN (st:St):Int:=if st.tk.kind=1 then 0 else st.tk.num
def RT (w:World) (rb:Nat) (s:ByteArray) (ns:List RN) (j:Nat) (st:St):Prop:=
 ∃nv,TrC w rb nv s (rK st.tk.kind) st.place (tkZ st) (BS (tkS st)) (tkN st) st.op 0 0∧NodesAt w rb nv ns∧Fine s st∧ns.length+j≤st.place
def RE (w:World) (rb:Nat) (s:ByteArray) (en pl:Int) (op:Nat) (m:Nat):Prop:=
 ∃nv a ns,TrC w rb nv s 1 a 0 ⟨#[]⟩ 0 op en pl∧en≠0∧NodesAt w rb nv ns∧ns.length≤m
theorem RT.lt {w:World} {rb:Nat} {s:ByteArray} {ns:List RN} {j:Nat} {st:St} (h:RT w rb s ns j st):rb<w.heap.size:=by obtain ⟨nv,h,_⟩:=h;exact h.lt
theorem RE.lt {w:World} {rb:Nat} {s:ByteArray} {en pl:Int} {op m:Nat} (h:RE w rb s en pl op m):rb<w.heap.size:=by obtain ⟨nv,a,ns,h,_⟩:=h;exact h.lt
theorem RT.fine {w:World} {rb:Nat} {s:ByteArray} {ns:List RN} {j:Nat} {st:St} (h:RT w rb s ns j st):Fine s st:=by obtain ⟨nv,_,_,h,_⟩:=h;exact h
theorem RT.few {w:World} {rb:Nat} {s:ByteArray} {ns:List RN} {j:Nat} {st:St} (h:RT w rb s ns j st):ns.length+j≤st.place:=by obtain ⟨nv,_,_,_,h⟩:=h;exact h
theorem RT.less {w:World} {rb:Nat} {s:ByteArray} {ns:List RN} {j j':Nat} {st:St} (h:RT w rb s ns j st) (hj:j'≤j):RT w rb s ns j' st:=by obtain ⟨nv,h1,h2,h3,h4⟩:=h;exact ⟨nv,h1,h2,h3,by omega⟩
theorem RE.more {w:World} {rb:Nat} {s:ByteArray} {en pl:Int} {op m m':Nat} (h:RE w rb s en pl op m) (hm:m≤m'):RE w rb s en pl op m':=by obtain ⟨nv,a,ns,h1,h2,h3,h4⟩:=h;exact ⟨nv,a,ns,h1,h2,h3,by omega⟩
theorem RT.below {w w':World} {rb:Nat} {s:ByteArray} {ns:List RN} {j:Nat} {st:St} (h:RT w rb s ns j st) (hb:Below w.heap.size w w'):RT w' rb s ns j st:=by
 obtain ⟨nv,h1,h2,h3,h4⟩:=h;exact ⟨nv,h1.below hb,h2.below h1.lt hb,h3,h4⟩
theorem RE.below {w w':World} {rb:Nat} {s:ByteArray} {en pl:Int} {op m:Nat} (h:RE w rb s en pl op m) (hb:Below w.heap.size w w'):RE w' rb s en pl op m:=by
 obtain ⟨nv,a,ns,h1,h2,h3,h4⟩:=h;exact ⟨nv,a,ns,h1.below hb,h2,h3.below h1.lt hb,h4⟩
theorem NodesAt.fresh {w:World} {rb:Nat} {nv:Value} {ns:List RN} (h:NodesAt w rb nv ns) (c0:w.cell? ⟨rb,0,none⟩=some nv) (hlt:rb<w.heap.size) (o:Obj):¬qv5 (w.alloc o) rb w.heap.size:=by
 obtain ⟨rs,hl,ho,hn⟩:=h
 rintro (e|⟨nv',e1,e2⟩)
 ·omega
 ·have hc:(w.alloc o).cell? ⟨rb,0,none⟩=w.cell? ⟨rb,0,none⟩:=(v9 ((Below.refl w.heap.size w).alloc (Nat.le_refl _) o)).1 _ _ hlt
  rw [hc,c0] at e1
  injection e1 with e1
  subst e1
  have:=(ho.lt _ e2).2
  omega
theorem RT.fresh {w:World} {rb:Nat} {s:ByteArray} {ns:List RN} {j:Nat} {st:St} (h:RT w rb s ns j st) (o:Obj):¬qv5 (w.alloc o) rb w.heap.size:=by obtain ⟨nv,h1,h2,_⟩:=h;exact h2.fresh h1.c0 h1.lt o
theorem RE.fresh {w:World} {rb:Nat} {s:ByteArray} {en pl:Int} {op m:Nat} (h:RE w rb s en pl op m) (o:Obj):¬qv5 (w.alloc o) rb w.heap.size:=by obtain ⟨nv,a,ns,h1,_,h2,_⟩:=h;exact h2.fresh h1.c0 h1.lt o
theorem kwT_in {k:Int} (h:kwT k≠[]):5≤k∧k≤28:=by
 by_cases h1:5≤k∧k≤28
 ·exact h1
 ·exfalso
  apply h
  unfold kwT
  iterate 24 rw [if_neg (by omega)]
theorem kwT_inj0:∀i:Fin 24,∀j:Fin 24,kwT (5+(i.val:Int))=kwT (5+(j.val:Int))→i=j:=by decide +kernel
theorem kwT_inj {k c:Int} (hc:kwT c≠[]) (h:kwT k=kwT c):k=c:=by
 obtain ⟨c1,c2⟩:=kwT_in hc
 obtain ⟨k1,k2⟩:=kwT_in (h ▸ hc)
 have:=kwT_inj0 ⟨(k - 5).toNat,by omega⟩ ⟨(c - 5).toNat,by omega⟩ (by
  show kwT (5+(((k - 5).toNat:Nat):Int))=kwT (5+(((c - 5).toNat:Nat):Int))
  rw [show (5:Int)+(((k - 5).toNat:Nat):Int)=k by omega,show (5:Int)+(((c - 5).toNat:Nat):Int)=c by omega];exact h)
 have h2:(k - 5).toNat=(c - 5).toNat:=congrArg Fin.val this
 omega
theorem isK {st:St} {c:Int} {X:ByteArray} (hX:kwT c=X.data.toList) (h5:5≤c) (h28:c≤28) (kind:Int) (hk:rK c=kind):(rK st.tk.kind==kind&&((BS (tkS st)).toList==X.toList))=(st.tk.kind==c):=by
 have hne:kwT c≠[]:=by
  have:∀i:Fin 24,kwT (5+(i.val:Int))≠[]:=by decide +kernel
  have:=this ⟨(c - 5).toNat,by omega⟩
  rwa [show (5:Int)+(((c - 5).toNat:Nat):Int)=c by omega] at this
 have hl:((BS (tkS st)).toList==X.toList)=(tkS st==kwT c):=by
  rw [hX,qi0,Lib.toList_data]
 rw [hl]
 by_cases h:st.tk.kind=c
 ·have e1:tkS st=kwT c:=by
   unfold tkS rS;rw [if_neg (by omega),if_neg (by omega),h]
  rw [e1,h,hk];simp
 ·have hR:(st.tk.kind==c)=false:=beq_eq_false_iff_ne.2 h
  rw [hR]
  rw [Bool.and_eq_false_iff]
  by_cases hk2:rK st.tk.kind=kind
  ·right
   rw [beq_eq_false_iff_ne]
   intro e
   apply h
   refine kwT_inj hne ?_
   have h4:5≤st.tk.kind:=by
    rw [←hk] at hk2
    unfold rK at hk2
    split at hk2<;>split at hk2<;>(try split at hk2)<;>omega
   rw [←e]
   unfold tkS rS
   rw [if_neg (by omega),if_neg (by omega)]
  ·left;rw [beq_eq_false_iff_ne];exact hk2
section
variable {w:World} {rb:Nat} {s:ByteArray} {ns:List RN} {j:Nat} {st:St} {en pl:Int} {op m:Nat}
theorem qk1 (h:RT w rb s ns j st) (c:Int) {kind:Int} {X:ByteArray} (hX:kwT c=X.data.toList) (h5:5≤c) (h28:c≤28) (hk:rK c=kind) :
  Calls Tryz.prog 215 #[.pointer (some ⟨rb,0,none⟩),.int .i64 kind,.string X] w fun e w'=>e=.returned (.bool (st.tk.kind==c))∧w'=w:=by
 obtain ⟨nv,h,_⟩:=h
 have:=qt3 h kind X
 rwa [isK hX h5 h28 kind hk] at this
theorem ris_re (h:RE w rb s en pl op m) {kind:Int} {X:ByteArray} (hk:kind≠1) :
  Calls Tryz.prog 215 #[.pointer (some ⟨rb,0,none⟩),.int .i64 kind,.string X] w fun e w'=>e=.returned (.bool false)∧w'=w:=by
 obtain ⟨nv,a,ns,h,_⟩:=h
 have:=qt3 h kind X
 rwa [show ((1:Int)==kind)=false from beq_eq_false_iff_ne.2 (fun e=>hk e.symm),Bool.false_and] at this
theorem qp9 (s:ByteArray) (st:St):NextIs s st.after (rK (v6 s st).tk.kind) (v6 s st).place (tkZ (v6 s st)) (BS (tkS (v6 s st))) (tkN (v6 s st)):=by
 show rTk (qd3 s.data.toList st.after) (qe8 s.data.toList st.after) (qh8 s.data.toList st.after)=_
 unfold rTk tkZ tkS tkN
 show (if (qd3 s.data.toList st.after).kind=1 then _ else _)=_
 show _=Value.agg #[.int .i64 (rK (qd3 s.data.toList st.after).kind),.int .i64 (qe8 s.data.toList st.after:Nat),.int .i64 (if (qd3 s.data.toList st.after).kind=1 then 0 else ((qh8 s.data.toList st.after:Nat):Int)),.string (BS (if (qd3 s.data.toList st.after).kind=1 then [] else rS (qd3 s.data.toList st.after))),.int .i64 (if (qd3 s.data.toList st.after).kind=1 then 0 else (qd3 s.data.toList st.after).num)]
 split
 ·rename_i h;rw [h];rfl
 ·rfl
theorem Fine.step_place (h:Fine s st) (h0:st.tk.kind≠0):st.place<(v6 s st).place:=Nat.lt_of_lt_of_le (h.long h0) (qf2 s st)
theorem j7 (h:RT w rb s ns j st) (hs:s.size≤200) (h0:st.tk.kind≠0) (h1:st.tk.kind≠1) :
  Calls Tryz.prog 172 #[.pointer (some ⟨rb,0,none⟩)] w fun e w'=>e=.returned (.tuple #[])∧TKept rb w w'∧RT w' rb s ns (j+1) (v6 s st):=by
 obtain ⟨nv,hT,hN,hF,hj⟩:=h
 have hp:=hF.step_place h0
 rw [show tkZ st=(st.after:Int) by unfold tkZ;rw [if_neg h1]] at hT
 refine (qp4 hT hs hF.after (qp9 s st)).mono ?_
 rintro e w' ⟨rfl,hT',hK⟩
 exact ⟨rfl,TKept.of_kept hK (hT'.c0.trans hT.c0.symm),nv,hT',hN.kept (hT.c0.trans hT'.c0.symm) hK,x8 s st hF.after,by omega⟩
theorem qn1 (h:RT w rb s ns j st) (hs:s.size≤200) (en pl:Int) (he:en≠0) :
  Calls Tryz.prog 174 #[.pointer (some ⟨rb,0,none⟩),.int .i64 en,.int .i64 pl] w fun e w'=>e=.returned (.tuple #[])∧TKept rb w w'∧RE w' rb s en pl st.op 200:=by
 obtain ⟨nv,hT,hN,hF,hj⟩:=h
 have:=hF.place
 refine (qs0 hT en pl).mono ?_
 rintro e w' ⟨rfl,hT',hK⟩
 exact ⟨rfl,TKept.of_kept hK (hT'.c0.trans hT.c0.symm),nv,_,ns,hT',he,hN.kept (hT.c0.trans hT'.c0.symm) hK,by omega⟩
theorem qw7 (h:RT w rb s ns j st) (hs:s.size≤200) (c:Int) {kind:Int} {X:ByteArray} (hX:kwT c=X.data.toList) (h5:5≤c) (h28:c≤28) (hk:rK c=kind) (hc:st.tk.kind=c) :
  Calls Tryz.prog 343 #[.pointer (some ⟨rb,0,none⟩),.int .i64 kind,.string X] w fun e w'=>e=.returned (.tuple #[])∧TKept rb w w'∧RT w' rb s ns (j+1) (v6 s st):=by
 have hi:=isK (st:=st) hX h5 h28 kind hk
 rw [hc] at hi
 obtain ⟨nv,hT,hN,hF,hj⟩:=h
 have hp:=hF.step_place (by omega)
 rw [show tkZ st=(st.after:Int) by unfold tkZ;rw [if_neg (by omega)]] at hT
 have hb:(rK c==kind)=true∧((BS (tkS st)).toList==X.toList)=true:=by simpa using hi
 refine (ja3 hT hs hF.after (qp9 s st) kind X (by rw [hc];exact hk) hb.2).mono ?_
 rintro e w' ⟨rfl,hT',hK⟩
 exact ⟨rfl,TKept.of_kept hK (hT'.c0.trans hT.c0.symm),nv,hT',hN.kept (hT.c0.trans hT'.c0.symm) hK,x8 s st hF.after,by omega⟩
theorem qs1 (h:RT w rb s ns j st) (hs:s.size≤200) (c:Int) {kind:Int} {X:ByteArray} (hX:kwT c=X.data.toList) (h5:5≤c) (h28:c≤28) (hk:rK c=kind) (hc:¬st.tk.kind=c) :
  Calls Tryz.prog 343 #[.pointer (some ⟨rb,0,none⟩),.int .i64 kind,.string X] w fun e w'=>e=.returned (.tuple #[])∧TKept rb w w'∧RE w' rb s 2 st.place st.op 200:=by
 have hi:=isK (st:=st) hX h5 h28 kind hk
 rw [show (st.tk.kind==c)=false from beq_eq_false_iff_ne.2 hc] at hi
 obtain ⟨nv,hT,hN,hF,hj⟩:=h
 have:=hF.place
 refine (vj1 hT kind X hi).mono ?_
 rintro e w' ⟨rfl,hT',hK⟩
 exact ⟨rfl,TKept.of_kept hK (hT'.c0.trans hT.c0.symm),nv,_,ns,hT',by decide,hN.kept (hT.c0.trans hT'.c0.symm) hK,by omega⟩
theorem vj2 (h:RE w rb s en pl op m) {kind:Int} {X:ByteArray} (hk:kind≠1) :
  Calls Tryz.prog 343 #[.pointer (some ⟨rb,0,none⟩),.int .i64 kind,.string X] w fun e w'=>e=.returned (.tuple #[])∧TKept rb w w'∧RE w' rb s en pl op m:=by
 obtain ⟨nv,a,ns,hT,he,hN,hm⟩:=h
 refine (vq8 hT he kind X hk).mono ?_
 rintro e w' ⟨rfl,hT',hK⟩
 exact ⟨rfl,TKept.of_kept hK (hT'.c0.trans hT.c0.symm),nv,_,ns,hT',he,hN.kept (hT.c0.trans hT'.c0.symm) hK,hm⟩
def rnV (x:RN) (iv lv:Value):Value:=.agg #[.string (BS x.op),.int .i64 x.at',iv,.string (BS x.str),.string (BS x.esc),lv,.int .i64 x.num,.bool x.neg,.int .i64 x.cls]
theorem vi7 (h:RT w rb s ns (j+1) st) (hs:s.size≤200) (x:RN) {iv lv:Value} (hiv:RowOf w rb 3 iv (qv6 x.ins)) (hlv:RowOf w rb 9 lv (x9 x.texts)) :
  Calls Tryz.prog 216 #[.pointer (some ⟨rb,0,none⟩),rnV x iv lv] w fun e w'=>e=.returned (.int .i64 ns.length)∧TKept rb w w'∧RT w' rb s (ns++[x]) j st:=by
 obtain ⟨nv,hT,hN,hF,hj⟩:=h
 have:=hF.place
 refine (qw4 hT hN x hiv hlv (by omega)).mono ?_
 rintro e w' ⟨rfl,hK,nv',hT',hN'⟩
 exact ⟨rfl,hK,nv',hT',hN',hF,by simp;omega⟩
theorem vi6 (h:RE w rb s en pl op m) (hm:m≤1000) (x:RN) {iv lv:Value} (hiv:RowOf w rb 3 iv (qv6 x.ins)) (hlv:RowOf w rb 9 lv (x9 x.texts)) :
  Calls Tryz.prog 216 #[.pointer (some ⟨rb,0,none⟩),rnV x iv lv] w fun e w'=>∃i:Nat,e=.returned (.int .i64 i)∧TKept rb w w'∧RE w' rb s en pl op (m+1):=by
 obtain ⟨nv,a,ns,hT,he,hN,hm'⟩:=h
 refine (qw4 hT hN x hiv hlv (by omega)).mono ?_
 rintro e w' ⟨rfl,hK,nv',hT',hN'⟩
 exact ⟨ns.length,rfl,hK,nv',_,_,hT',he,hN',by simp;omega⟩
end
end
section
def qc6 (o:Int):List UInt8:=
 if o=0 then [110,97,109,101] else if o=1 then [110,117,109,98,101,114] else if o=2 then [116,101,120,116] else if o=3 then [84,82,85,69] else if o=4 then [70,65,76,83,69]
 else if o=5 then [78,79,84] else if o=6 then [65,78,68] else if o=7 then [79,82] else if o=8 then [61] else if o=9 then [60,62] else if o=10 then [60] else if o=11 then [60,61] else if o=12 then [62] else if o=13 then [62,61]
 else if o=14 then [112] else if o=15 then [110] else if o=16 then [43] else if o=17 then [45] else if o=18 then [42] else if o=19 then [47] else if o=20 then [66,69,84,87,69,69,78] else if o=21 then [73,78] else if o=22 then [76,73,75,69] else [78,85,76,76]
def qi3 (p:Pay) (ins:List Nat) (neg:Bool):RN:=⟨qc6 p.op,p.place,ins,p.str,p.esc,p.texts,p.num,neg,0⟩
inductive Flat:Ast→Nat→List RN→Prop
 | leaf (p:Pay) (off:Nat):Flat (.leaf p) off [qi3 p [] false]
 | un (p:Pay) {x:Ast} {off:Nat} {l:List RN}:Flat x off l→Flat (.un p x) off (l++[qi3 p [off+l.length - 1] false])
 | bin (p:Pay) {x y:Ast} {off:Nat} {l k:List RN}:Flat x off l→Flat y (off+l.length) k→Flat (.bin p x y) off (l++k++[qi3 p [off+l.length - 1,off+l.length+k.length - 1] false])
 | tri (p:Pay) {x y z:Ast} {off:Nat} {l k m:List RN}:Flat x off l→Flat y (off+l.length) k→Flat z (off+l.length+k.length) m →
   Flat (.tri p x y z) off (l++k++m++[qi3 p [off+l.length - 1,off+l.length+k.length - 1,off+l.length+k.length+m.length - 1] false])
 | neg1 (pl:Int) (q:Pay) {x:Ast} {off:Nat} {l:List RN}:(q.op=21∨q.op=22∨q.op=23)→Flat x off l→Flat (.un ⟨5,pl,0,[],[],[]⟩ (.un q x)) off (l++[qi3 q [off+l.length - 1] true])
 | neg3 (pl:Int) (q:Pay) {x y z:Ast} {off:Nat} {l k m:List RN}:q.op=20→Flat x off l→Flat y (off+l.length) k→Flat z (off+l.length+k.length) m →
   Flat (.un ⟨5,pl,0,[],[],[]⟩ (.tri q x y z)) off (l++k++m++[qi3 q [off+l.length - 1,off+l.length+k.length - 1,off+l.length+k.length+m.length - 1] true])
theorem Flat.pos {t:Ast} {off:Nat} {l:List RN} (h:Flat t off l):0<l.length:=by cases h<;>simp<;>omega
def REnds (rb:Nat) (s:ByteArray) (w:World) (op m:Nat) (ns:List RN) (j lo:Nat) (r:Res) (e:Ending) (w':World):Prop:=
 TKept rb w w'∧match r with
 | .ok t st=>∃new,e=.returned (.int .i64 ((ns.length+new.length - 1:Nat):Int))∧RT w' rb s (ns++new) j st∧st.op=op∧lo≤st.place∧Flat t ns.length new
 | .err en pl=>∃i:Nat,e=.returned (.int .i64 i)∧RE w' rb s en pl op m
def RReads (K:Nat) (rb:Nat) (s:ByteArray) (op m:Nat) (f:St→Res):Prop:=
 ∀(w:World) (st:St) (ns:List RN) (j:Nat),RT w rb s ns j st→st.op=op→Calls Tryz.prog K #[.pointer (some ⟨rb,0,none⟩)] w (REnds rb s w op m ns j st.place (f st))
def qm1 (K:Nat) (rb:Nat) (s:ByteArray):Prop:=
 ∀(w:World) (en pl:Int) (op m:Nat),RE w rb s en pl op m→Calls Tryz.prog K #[.pointer (some ⟨rb,0,none⟩)] w fun e w'=>∃i:Nat,e=.returned (.int .i64 i)∧TKept rb w w'∧RE w' rb s en pl op m
theorem REnds.more {rb:Nat} {s:ByteArray} {w w':World} {op m m':Nat} {ns:List RN} {j lo lo':Nat} {r:Res} {e:Ending} (h:REnds rb s w op m ns j lo r e w') (hm:m≤m') (hl:lo'≤lo):REnds rb s w op m' ns j lo' r e w':=by
 obtain ⟨hk,h⟩:=h
 refine ⟨hk, ?_⟩
 cases r with
 | ok t st=>obtain ⟨new,h1,h2,h3,h4,h5⟩:=h;exact ⟨new,h1,h2,h3,by omega,h5⟩
 | err en pl=>obtain ⟨i,h1,h2⟩:=h;exact ⟨i,h1,h2.more hm⟩
theorem TrC.setOp {w:World} {rb:Nat} {nv:Value} {s:ByteArray} {k a z:Int} {S:ByteArray} {n op er at':Int} (h:TrC w rb nv s k a z S n op er at') (o:Int):TrC (w.setCell ⟨rb,7,none⟩ (.int .i64 o)) rb nv s k a z S n o er at':=by
 obtain ⟨lt,c0,c1,c2,c3,c4,c5,c6,c7,c8,c9,fz⟩:=h
 refine ⟨by simpa using lt, ?_, ?_, ?_, ?_, ?_, ?_, ?_, ?_, ?_, ?_,fun j=>?_⟩
 all_goals simp [go_sem,c0,c1,c2,c3,c4,c5,c6,c7,c8,c9,fz]
theorem RT.setOp {w:World} {rb:Nat} {s:ByteArray} {ns:List RN} {j:Nat} {st:St} (h:RT w rb s ns j st) (n:Nat) (o:Int) (ho:o=n):RT (w.setCell ⟨rb,7,none⟩ (.int .i64 o)) rb s ns j { st with op:=n }∧TKept rb w (w.setCell ⟨rb,7,none⟩ (.int .i64 o)):=by
 subst ho
 obtain ⟨nv,hT,hN,hF,hj⟩:=h
 have hK:=(Kept.refl rb w).setCell 7 (.int .i64 n)
 have hT':=hT.setOp n
 exact ⟨⟨nv,hT',hN.kept (hT.c0.trans hT'.c0.symm) hK,⟨hF.place,hF.after,hF.long⟩,hj⟩,TKept.of_kept hK (hT'.c0.trans hT.c0.symm)⟩
theorem RE.setOp {w:World} {rb:Nat} {s:ByteArray} {en pl:Int} {op m:Nat} (h:RE w rb s en pl op m) (n:Nat) (o:Int) (ho:o=n):RE (w.setCell ⟨rb,7,none⟩ (.int .i64 o)) rb s en pl n m∧TKept rb w (w.setCell ⟨rb,7,none⟩ (.int .i64 o)):=by
 subst ho
 obtain ⟨nv,a,ns,hT,he,hN,hm⟩:=h
 have hK:=(Kept.refl rb w).setCell 7 (.int .i64 n)
 have hT':=hT.setOp n
 exact ⟨⟨nv,a,ns,hT',he,hN.kept (hT.c0.trans hT'.c0.symm) hK,hm⟩,TKept.of_kept hK (hT'.c0.trans hT.c0.symm)⟩
theorem RT.c7 {w:World} {rb:Nat} {s:ByteArray} {ns:List RN} {j:Nat} {st:St} (h:RT w rb s ns j st):w.cell? ⟨rb,7,none⟩=some (.int .i64 st.op)∧∀i,w.frozen? ⟨rb,i,none⟩=false:=by obtain ⟨nv,h,_⟩:=h;exact ⟨h.c7,h.fz⟩
theorem RE.c7 {w:World} {rb:Nat} {s:ByteArray} {en pl:Int} {op m:Nat} (h:RE w rb s en pl op m):w.cell? ⟨rb,7,none⟩=some (.int .i64 op)∧∀i,w.frozen? ⟨rb,i,none⟩=false:=by obtain ⟨nv,a,ns,h,_⟩:=h;exact ⟨h.c7,h.fz⟩
theorem RT.c8 {w:World} {rb:Nat} {s:ByteArray} {ns:List RN} {j:Nat} {st:St} (h:RT w rb s ns j st):w.cell? ⟨rb,8,none⟩=some (.int .i64 0):=by obtain ⟨nv,h,_⟩:=h;exact h.c8
theorem RE.c8 {w:World} {rb:Nat} {s:ByteArray} {en pl:Int} {op m:Nat} (h:RE w rb s en pl op m):w.cell? ⟨rb,8,none⟩=some (.int .i64 en)∧(en==0)=false:=by obtain ⟨nv,a,ns,h,he,_⟩:=h;exact ⟨h.c8,beq_eq_false_iff_ne.2 he⟩
theorem RT.ct {w:World} {rb:Nat} {s:ByteArray} {ns:List RN} {j:Nat} {st:St} (h:RT w rb s ns j st):w.cell? ⟨rb,2,none⟩=some (.int .i64 (rK st.tk.kind))∧w.cell? ⟨rb,3,none⟩=some (.int .i64 st.place)∧w.cell? ⟨rb,4,none⟩=some (.int .i64 (tkZ st))∧w.cell? ⟨rb,5,none⟩=some (.string (BS (tkS st)))∧w.cell? ⟨rb,6,none⟩=some (.int .i64 (tkN st)):=by obtain ⟨nv,h,_⟩:=h;exact ⟨h.c2,h.c3,h.c4,h.c5,h.c6⟩
section
variable {w:World} {rb:Nat} {s:ByteArray} {ns:List RN} {j:Nat} {st:St} {en pl:Int} {op m:Nat}
theorem qk0 (h:RT w rb s ns j st) (hs:s.size≤200) (h0:st.tk.kind≠0) (h1:st.tk.kind≠1) (hop:st.op<12) :
  Calls Tryz.prog 295 #[.pointer (some ⟨rb,0,none⟩)] w fun e w'=>e=.returned (.tuple #[])∧TKept rb w w'∧RT w' rb s ns (j+1) (qj8 s st):=by
 obtain ⟨c7,fz⟩:=h.c7
 have hlt:=h.lt
 obtain ⟨h2,hK2⟩:=h.setOp (st.op+1) ((st.op:Int)+1) (by omega)
 have HK2:=v7 hK2
 have ST:=v7 (j7 h2 hs h0 h1)
 clear h h2 hK2
 go_enter Tryz.func295,Tryz.ntmps295
 go_wp2_with (go_at_call 172;refine (q9 ST).mono ?_;rintro e w1 ⟨rfl,hk1,hr1⟩;have HK1:=v7 hk1;have HR1:=v7 hr1;clear hk1 hr1)
 go_end0
 exact ⟨rfl,(q9 HK2).trans (q9 HK1),q9 HR1⟩
theorem qw6 (h:RT w rb s ns j st) (hs:s.size≤200) (hop:st.op=12) :
  Calls Tryz.prog 295 #[.pointer (some ⟨rb,0,none⟩)] w fun e w'=>e=.returned (.tuple #[])∧TKept rb w w'∧RE w' rb s 3 st.place 13 200:=by
 obtain ⟨c7,fz⟩:=h.c7
 obtain ⟨_,c3,_⟩:=h.ct
 have hlt:=h.lt
 rw [hop] at c7
 obtain ⟨h2,hK2⟩:=h.setOp 13 13 (by omega)
 have HK2:=v7 hK2
 have FL:=v7 (qn1 h2 hs 3 st.place (by decide))
 clear h h2 hK2
 go_enter Tryz.func295,Tryz.ntmps295
 go_wp2_with (go_at_call 174;refine (q9 FL).mono ?_;rintro e w1 ⟨rfl,hk1,hr1⟩;have HK1:=v7 hk1;have HR1:=v7 hr1;clear hk1 hr1)
 refine bodyPost_ret (by simp [results,Tryz.results295,go_sem]) rfl ⟨rfl,(q9 HK2).trans (q9 HK1),q9 HR1⟩
end
end
section
theorem RE.cells {w:World} {rb:Nat} {s:ByteArray} {en pl:Int} {op m:Nat} (h:RE w rb s en pl op m):∃a,w.cell? ⟨rb,2,none⟩=some (.int .i64 1)∧w.cell? ⟨rb,3,none⟩=some (.int .i64 a)∧w.cell? ⟨rb,4,none⟩=some (.int .i64 0)∧w.cell? ⟨rb,5,none⟩=some (.string ⟨#[]⟩)∧w.cell? ⟨rb,6,none⟩=some (.int .i64 0):=by obtain ⟨nv,a,ns,h,_⟩:=h;exact ⟨a,h.c2,h.c3,h.c4,h.c5,h.c6⟩
theorem vd1 (rb:Nat) (s:ByteArray):qm1 351 rb s:=by
 intro w en pl op m h
 obtain ⟨a,c2,c3,c4,c5,c6⟩:=h.cells
 obtain ⟨c8,hen⟩:=h.c8
 have hlt:=h.lt
 have n0:¬w.heap.size=rb:=by omega
 have n1:¬rb=w.heap.size:=by omega
 have H:=v7 h
 clear h
 go_enter Tryz.func351,Tryz.ntmps351
 go_wp2_with fail
 go_ret
 have hb:∀o,Below w.heap.size w (w.alloc o):=fun o=>(Below.refl _ _).alloc (Nat.le_refl _) o
 exact ⟨0,rfl,TKept.of_below (hb _) hlt,(q9 H).below (hb _)⟩
theorem vq1 (rb:Nat) (s:ByteArray) (hC:qm1 351 rb s):qm1 342 rb s:=by
 intro w en pl op m h
 have HC:=v7 (hC w en pl op m h)
 clear h hC
 go_enter Tryz.func342,Tryz.ntmps342
 go_wp2_with (go_at_call 351;refine (q9 HC).mono ?_;rintro e w1 ⟨i,rfl,hk1,hr1⟩;obtain ⟨c8,hen⟩:=hr1.c8;have HK1:=v7 hk1;have HR1:=v7 hr1;clear hk1 hr1)
 go_loopw [3] (fun v wr=>v=.int .i64 (i:Int)∧wr=w1) (fun _ _=>0)
 case atStart=>exact ⟨rfl,rfl⟩
 case round=>
  obtain ⟨rfl,rfl⟩:=hrel
  go_wp2_with fail
  go_ret
  exact ⟨i,rfl,q9 HK1,q9 HR1⟩
theorem sum_errs (rb:Nat) (s:ByteArray) (hC:qm1 342 rb s):qm1 320 rb s:=by
 intro w en pl op m h
 have HC:=v7 (hC w en pl op m h)
 clear h hC
 go_enter Tryz.func320,Tryz.ntmps320
 go_wp2_with (go_at_call 342;refine (q9 HC).mono ?_;rintro e w1 ⟨i,rfl,hk1,hr1⟩;obtain ⟨c8,hen⟩:=hr1.c8;have HK1:=v7 hk1;have HR1:=v7 hr1;clear hk1 hr1)
 go_loopw [3] (fun v wr=>v=.int .i64 (i:Int)∧wr=w1) (fun _ _=>0)
 case atStart=>exact ⟨rfl,rfl⟩
 case round=>
  obtain ⟨rfl,rfl⟩:=hrel
  go_wp2_with fail
  go_ret
  exact ⟨i,rfl,q9 HK1,q9 HR1⟩
theorem both_errs (rb:Nat) (s:ByteArray) (hC:qm1 259 rb s):qm1 214 rb s:=by
 intro w en pl op m h
 have HC:=v7 (hC w en pl op m h)
 clear h hC
 go_enter Tryz.func214,Tryz.ntmps214
 go_wp2_with (go_at_call 259;refine (q9 HC).mono ?_;rintro e w1 ⟨i,rfl,hk1,hr1⟩;obtain ⟨c8,hen⟩:=hr1.c8;have HK1:=v7 hk1;have HR1:=v7 hr1;clear hk1 hr1)
 go_loopw [3] (fun v wr=>v=.int .i64 (i:Int)∧wr=w1) (fun _ _=>0)
 case atStart=>exact ⟨rfl,rfl⟩
 case round=>
  obtain ⟨rfl,rfl⟩:=hrel
  go_wp2_with fail
  go_ret
  exact ⟨i,rfl,q9 HK1,q9 HR1⟩
theorem vu0 (rb:Nat) (s:ByteArray) (hC:qm1 214 rb s):qm1 173 rb s:=by
 intro w en pl op m h
 have HC:=v7 (hC w en pl op m h)
 clear h hC
 go_enter Tryz.func173,Tryz.ntmps173
 go_wp2_with (go_at_call 214;refine (q9 HC).mono ?_;rintro e w1 ⟨i,rfl,hk1,hr1⟩;obtain ⟨c8,hen⟩:=hr1.c8;have HK1:=v7 hk1;have HR1:=v7 hr1;clear hk1 hr1)
 go_loopw [3] (fun v wr=>v=.int .i64 (i:Int)∧wr=w1) (fun _ _=>0)
 case atStart=>exact ⟨rfl,rfl⟩
 case round=>
  obtain ⟨rfl,rfl⟩:=hrel
  go_wp2_with fail
  go_ret
  exact ⟨i,rfl,q9 HK1,q9 HR1⟩
theorem test_errs (rb:Nat) (s:ByteArray) (hC:qm1 320 rb s):qm1 294 rb s:=by
 intro w en pl op m h
 obtain ⟨a,c2,c3,c4,c5,c6⟩:=h.cells
 have HC:=v7 (hC w en pl op m h)
 clear h hC
 go_enter Tryz.func294,Tryz.ntmps294
 go_wp2_with (go_at_call 320;refine (q9 HC).mono ?_;rintro e w1 ⟨i,rfl,hk1,hr1⟩;obtain ⟨c8,hen⟩:=hr1.c8;have HK1:=v7 hk1;have HR1:=v7 hr1;clear hk1 hr1)
 go_ret
 exact ⟨i,rfl,q9 HK1,q9 HR1⟩
theorem vt9 (rb:Nat) (s:ByteArray) (hC:qm1 294 rb s):qm1 259 rb s:=by
 intro w en pl op m h
 have HI:=v7 (ris_re h (kind:=6) (X:=⟨#[78,79,84]⟩) (by decide))
 have HC:=v7 (hC w en pl op m h)
 clear h hC
 go_enter Tryz.func259,Tryz.ntmps259
 go_wp2_with (first|(go_at_call 215;refine (q9 HI).mono ?_;rintro e w1 ⟨rfl,rfl⟩)|(go_at_call 294;refine (q9 HC).mono ?_;rintro e w1 ⟨i,rfl,hk1,hr1⟩;have HK1:=v7 hk1;have HR1:=v7 hr1;clear hk1 hr1))
 go_ret
 exact ⟨i,rfl,q9 HK1,q9 HR1⟩
end
section
section
variable {w:World} {rb:Nat} {s:ByteArray} {ns:List RN} {j:Nat} {st:St} {en pl:Int} {op m:Nat}
theorem RowOf.no (w:World) (rb:Nat) (ty:TypeId):RowOf w rb ty (.slice none 0 0) []:=.inl ⟨rfl,rfl⟩
theorem RowOf.made {w:World} {rb:Nat} (hlt:rb<w.heap.size) (hf:∀o,¬qv5 (w.alloc o) rb w.heap.size) (ty:TypeId) (c:Array Value) (n:Nat) (hn:n=c.size):RowOf (w.alloc (.cells c ty)) rb ty (.slice (some ⟨w.heap.size,0,none⟩) n n) c.toList:=by
 subst hn
 exact .inr ⟨w.heap.size,c.size,c,(0,0),rfl,hlt,heap_alloc_new w _,hf _,fun j u h=>by simpa using h⟩
theorem qf0 {w w':World} {rb:Nat} (hlt:rb<w.heap.size) {o:Obj} (h:TKept rb (w.alloc o) w'):TKept rb w w':=(TKept.of_below ((Below.refl w.heap.size w).alloc (Nat.le_refl _) o) hlt).trans h
theorem RT.alloc (h:RT w rb s ns j st) (o:Obj):RT (w.alloc o) rb s ns j st:=h.below ((Below.refl _ _).alloc (Nat.le_refl _) o)
theorem RE.alloc (h:RE w rb s en pl op m) (o:Obj):RE (w.alloc o) rb s en pl op m:=h.below ((Below.refl _ _).alloc (Nat.le_refl _) o)
theorem qt2 (h:RT w rb s ns (j+1) st) (hs:s.size≤200) (p:Pay) {N S:ByteArray} (hN:BS (qc6 p.op)=N) (hS:BS p.str=S) (he:p.esc=[]) (ht:p.texts=[]) :
  Calls Tryz.prog 216 #[.pointer (some ⟨rb,0,none⟩),.agg #[.string N,.int .i64 p.place,.slice none 0 0,.string S,.string ⟨#[]⟩,.slice none 0 0,.int .i64 p.num,.bool false,.int .i64 0]] w
   fun e w'=>e=.returned (.int .i64 ns.length)∧TKept rb w w'∧RT w' rb s (ns++[qi3 p [] false]) j st:=by
 have:=vi7 h hs (qi3 p [] false) (iv:=.slice none 0 0) (lv:=.slice none 0 0) (RowOf.no _ _ _) (by show RowOf _ _ _ _ (x9 p.texts);rw [ht];exact RowOf.no _ _ _)
 unfold rnV at this
 have e1:(qi3 p [] false).op=qc6 p.op:=rfl
 have e2:(qi3 p [] false).str=p.str:=rfl
 have e3:(qi3 p [] false).esc=p.esc:=rfl
 rw [e1,e2,e3,hN,hS,he] at this
 exact this
theorem vw6 (h:RT w rb s ns (j+1) st) (hs:s.size≤200) (p:Pay) (i:Nat) {N:ByteArray} (hN:BS (qc6 p.op)=N) (hS:p.str=[]) (he:p.esc=[]) (ht:p.texts=[]) {g:Nat} (hg:g=w.heap.size) :
  Calls Tryz.prog 216 #[.pointer (some ⟨rb,0,none⟩),.agg #[.string N,.int .i64 p.place,.slice (some ⟨g,0,none⟩) 1 1,.string ⟨#[]⟩,.string ⟨#[]⟩,.slice none 0 0,.int .i64 p.num,.bool false,.int .i64 0]] (w.alloc (.cells #[.int .i64 i] 3))
   fun e w'=>e=.returned (.int .i64 ns.length)∧TKept rb w w'∧RT w' rb s (ns++[qi3 p [i] false]) j st:=by
 subst hg
 have:=vi7 (h.alloc (.cells #[.int .i64 i] 3)) hs (qi3 p [i] false) (iv:=.slice (some ⟨w.heap.size,0,none⟩) 1 1) (lv:=.slice none 0 0) (RowOf.made h.lt h.fresh _ _ 1 rfl) (by show RowOf _ _ _ _ (x9 p.texts);rw [ht];exact RowOf.no _ _ _)
 unfold rnV at this
 have e1:(qi3 p [i] false).op=qc6 p.op:=rfl
 have e2:(qi3 p [i] false).str=p.str:=rfl
 have e3:(qi3 p [i] false).esc=p.esc:=rfl
 rw [e1,e2,e3,hN,hS,he] at this
 refine this.mono ?_
 rintro e w' ⟨rfl,hk,hr⟩
 exact ⟨rfl,qf0 h.lt hk,hr⟩
theorem qr9 (h:RT w rb s ns (j+1) st) (hs:s.size≤200) (p:Pay) (i k:Nat) {N:ByteArray} (hN:BS (qc6 p.op)=N) (hS:p.str=[]) (he:p.esc=[]) (ht:p.texts=[]) {g:Nat} (hg:g=w.heap.size) :
  Calls Tryz.prog 216 #[.pointer (some ⟨rb,0,none⟩),.agg #[.string N,.int .i64 p.place,.slice (some ⟨g,0,none⟩) 2 2,.string ⟨#[]⟩,.string ⟨#[]⟩,.slice none 0 0,.int .i64 p.num,.bool false,.int .i64 0]] (w.alloc (.cells #[.int .i64 i,.int .i64 k] 3))
   fun e w'=>e=.returned (.int .i64 ns.length)∧TKept rb w w'∧RT w' rb s (ns++[qi3 p [i,k] false]) j st:=by
 subst hg
 have:=vi7 (h.alloc (.cells #[.int .i64 i,.int .i64 k] 3)) hs (qi3 p [i,k] false) (iv:=.slice (some ⟨w.heap.size,0,none⟩) 2 2) (lv:=.slice none 0 0) (RowOf.made h.lt h.fresh _ _ 2 rfl) (by show RowOf _ _ _ _ (x9 p.texts);rw [ht];exact RowOf.no _ _ _)
 unfold rnV at this
 have e1:(qi3 p [i,k] false).op=qc6 p.op:=rfl
 have e2:(qi3 p [i,k] false).str=p.str:=rfl
 have e3:(qi3 p [i,k] false).esc=p.esc:=rfl
 rw [e1,e2,e3,hN,hS,he] at this
 refine this.mono ?_
 rintro e w' ⟨rfl,hk,hr⟩
 exact ⟨rfl,qf0 h.lt hk,hr⟩
theorem qq7 (h:RE w rb s en pl op m) (hm:m≤1000) (N:List UInt8) (a:Int) (i:Nat) {NB:ByteArray} (hN:BS N=NB) {g:Nat} (hg:g=w.heap.size) :
  Calls Tryz.prog 216 #[.pointer (some ⟨rb,0,none⟩),.agg #[.string NB,.int .i64 a,.slice (some ⟨g,0,none⟩) 1 1,.string ⟨#[]⟩,.string ⟨#[]⟩,.slice none 0 0,.int .i64 0,.bool false,.int .i64 0]] (w.alloc (.cells #[.int .i64 i] 3))
   fun e w'=>∃i:Nat,e=.returned (.int .i64 i)∧TKept rb w w'∧RE w' rb s en pl op (m+1):=by
 subst hg
 subst hN
 refine (vi6 (h.alloc (.cells #[.int .i64 i] 3)) hm ⟨N,a,[i],[],[],[],0,false,0⟩ (iv:=.slice (some ⟨w.heap.size,0,none⟩) 1 1) (lv:=.slice none 0 0) (RowOf.made h.lt h.fresh _ _ 1 rfl) (RowOf.no _ _ _)).mono ?_
 rintro e w' ⟨k,rfl,hk,hr⟩
 exact ⟨k,rfl,qf0 h.lt hk,hr⟩
theorem qn6 (h:RE w rb s en pl op m) (hm:m≤1000) (N:List UInt8) (a:Int) (i k:Nat) {NB:ByteArray} (hN:BS N=NB) {g:Nat} (hg:g=w.heap.size) :
  Calls Tryz.prog 216 #[.pointer (some ⟨rb,0,none⟩),.agg #[.string NB,.int .i64 a,.slice (some ⟨g,0,none⟩) 2 2,.string ⟨#[]⟩,.string ⟨#[]⟩,.slice none 0 0,.int .i64 0,.bool false,.int .i64 0]] (w.alloc (.cells #[.int .i64 i,.int .i64 k] 3))
   fun e w'=>∃i:Nat,e=.returned (.int .i64 i)∧TKept rb w w'∧RE w' rb s en pl op (m+1):=by
 subst hg
 subst hN
 refine (vi6 (h.alloc (.cells #[.int .i64 i,.int .i64 k] 3)) hm ⟨N,a,[i,k],[],[],[],0,false,0⟩ (iv:=.slice (some ⟨w.heap.size,0,none⟩) 2 2) (lv:=.slice none 0 0) (RowOf.made h.lt h.fresh _ _ 2 rfl) (RowOf.no _ _ _)).mono ?_
 rintro e w' ⟨k,rfl,hk,hr⟩
 exact ⟨k,rfl,qf0 h.lt hk,hr⟩
theorem TKept.mine {w w':World} {rb L:Nat} (h:TKept rb w w') (hL:L<w.heap.size) (ho:¬qv5 w rb L):(∀i,w'.cell? ⟨L,i,none⟩=w.cell? ⟨L,i,none⟩)∧(∀i,w'.frozen? ⟨L,i,none⟩=w.frozen? ⟨L,i,none⟩)∧w'.heap[L]?=w.heap[L]?∧¬qv5 w' rb L∧L<w'.heap.size:=
 ⟨fun i=>World.cell?_of_block (w:=w) (w':=w') (a:=⟨L,i,none⟩) (h.block L hL ho),fun i=>World.frozen?_of_block (w:=w) (w':=w') (a:=⟨L,i,none⟩) (h.block L hL ho),h.block L hL ho,fun h2=>ho (h.own L hL h2),Nat.lt_of_lt_of_le hL h.size⟩
end
theorem opName_of {k:Int} (h:k=5∨k=6∨(16≤k∧k≤25)):qc6 (qu8 k)=kwT k:=by
 have:k=5∨k=6∨k=16∨k=17∨k=18∨k=19∨k=20∨k=21∨k=22∨k=23∨k=24∨k=25:=by omega
 rcases this with rfl|rfl|rfl|rfl|rfl|rfl|rfl|rfl|rfl|rfl|rfl|rfl<;>decide
theorem vs2 {st:St} (h:5≤st.tk.kind):tkS st=kwT st.tk.kind:=by unfold tkS rS;rw [if_neg (by omega),if_neg (by omega)]
end
end Go.Proofs.YtfkcaldjphakpaaGreatDoor
