/- The document's answer: the states of the reader, and its small steps between them. The document's answer: a tree's nodes in their order; how a reading method ends; what opens something. -/
import Derived.Test.YtfkcaldjphakpaaGreatDoorM16
import Derived.Test.YtfkcaldjphakpaaGreatDoorM04
namespace Go.Proofs.YtfkcaldjphakpaaGreatDoor
open Go.RowKit
section
def tkZ (st:St):Int:=if st.tk.kind=1 then 0 else st.after
def tkS (st:St):List UInt8:=if st.tk.kind=1 then [] else rS st.tk
def tkN (st:St):Int:=if st.tk.kind=1 then 0 else st.tk.num
def RT (w:World) (rb:Nat) (s:ByteArray) (ns:List RN) (j:Nat) (st:St):Prop:=
 ∃nv,TrC w rb nv s (rK st.tk.kind) st.place (tkZ st) (BS (tkS st)) (tkN st) st.op 0 0∧NodesAt w rb nv ns∧Fine s st∧ns.length+j≤st.place
def RE (w:World) (rb:Nat) (s:ByteArray) (en pl:Int) (op:Nat) (m:Nat):Prop:=
 ∃nv a ns,TrC w rb nv s 1 a 0 ⟨#[]⟩ 0 op en pl∧en≠0∧NodesAt w rb nv ns∧ns.length≤m
theorem RT.lt {w:World} {rb:Nat} {s:ByteArray} {ns:List RN} {j:Nat} {st:St} (h:RT w rb s ns j st):rb<w.heap.size:=by obtain ⟨nv,h,_⟩:=h;exact h.lt
theorem RE.lt {w:World} {rb:Nat} {s:ByteArray} {en pl:Int} {op m:Nat} (h:RE w rb s en pl op m):rb<w.heap.size:=by obtain ⟨nv,a,ns,h,_⟩:=h;exact h.lt
theorem RT.fine {w:World} {rb:Nat} {s:ByteArray} {ns:List RN} {j:Nat} {st:St} (h:RT w rb s ns j st):Fine s st:=by obtain ⟨nv,_,_,h,_⟩:=h;exact h
theorem RT.few {w:World} {rb:Nat} {s:ByteArray} {ns:List RN} {j:Nat} {st:St} (h:RT w rb s ns j st):ns.length+j≤st.place:=by obtain ⟨nv,_,_,_,h⟩:=h;exact h
theorem RT.less {w:World} {rb:Nat} {s:ByteArray} {ns:List RN} {j j':Nat} {st:St} (h:RT w rb s ns j st) (hj:j'≤j):RT w rb s ns j' st:=by obtain ⟨nv,h1,h2,h3,h4⟩:=h;exact ⟨nv,h1,h2,h3,by omega⟩
theorem RE.more {w:World} {rb:Nat} {s:ByteArray} {en pl:Int} {op m m':Nat} (h:RE w rb s en pl op m) (hm:m≤m'):RE w rb s en pl op m':=by obtain ⟨nv,a,ns,h1,h2,h3,h4⟩:=h;exact ⟨nv,a,ns,h1,h2,h3,by omega⟩
theorem RT.below {w w':World} {rb:Nat} {s:ByteArray} {ns:List RN} {j:Nat} {st:St} (h:RT w rb s ns j st) (hb:Below w.heap.size w w'):RT w' rb s ns j st:=by
 obtain ⟨nv,h1,h2,h3,h4⟩:=h;exact ⟨nv,h1.below hb,h2.below h1.lt hb,h3,h4⟩
theorem RE.below {w w':World} {rb:Nat} {s:ByteArray} {en pl:Int} {op m:Nat} (h:RE w rb s en pl op m) (hb:Below w.heap.size w w'):RE w' rb s en pl op m:=by
 obtain ⟨nv,a,ns,h1,h2,h3,h4⟩:=h;exact ⟨nv,a,ns,h1.below hb,h2,h3.below h1.lt hb,h4⟩
theorem NodesAt.fresh {w:World} {rb:Nat} {nv:Value} {ns:List RN} (h:NodesAt w rb nv ns) (c0:w.cell? ⟨rb,0,none⟩=some nv) (hlt:rb<w.heap.size) (o:Obj):¬qy2 (w.alloc o) rb w.heap.size:=by
 obtain ⟨rs,hl,ho,hn⟩:=h
 rintro (e|⟨nv',e1,e2⟩)
 ·omega
 ·have hc:(w.alloc o).cell? ⟨rb,0,none⟩=w.cell? ⟨rb,0,none⟩:=(qa9 ((Below.refl w.heap.size w).alloc (Nat.le_refl _) o)).1 _ _ hlt
  rw [hc,c0] at e1
  injection e1 with e1
  subst e1
  have:=(ho.lt _ e2).2
  omega
theorem RT.fresh {w:World} {rb:Nat} {s:ByteArray} {ns:List RN} {j:Nat} {st:St} (h:RT w rb s ns j st) (o:Obj):¬qy2 (w.alloc o) rb w.heap.size:=by obtain ⟨nv,h1,h2,_⟩:=h;exact h2.fresh h1.c0 h1.lt o
theorem RE.fresh {w:World} {rb:Nat} {s:ByteArray} {en pl:Int} {op m:Nat} (h:RE w rb s en pl op m) (o:Obj):¬qy2 (w.alloc o) rb w.heap.size:=by obtain ⟨nv,a,ns,h1,_,h2,_⟩:=h;exact h2.fresh h1.c0 h1.lt o
theorem kwT_in {k:Int} (h:kwT k≠[]):5≤k∧k≤28:=by
 by_cases h1:5≤k∧k≤28
 ·exact h1
 ·exfalso
  apply h
  unfold kwT
  iterate 24 rw [if_neg (by omega)]
theorem kwT_inj0:∀i:Fin 24,∀j:Fin 24,kwT (5+(i.val:Int))=kwT (5+(j.val:Int))→i=j:=by decide +kernel
theorem kwT_inj {k c:Int} (hc:kwT c≠[]) (h:kwT k=kwT c):k=c:=by
 obtain ⟨c1,c2⟩:=kwT_in hc
 obtain ⟨k1,k2⟩:=kwT_in (h ▸ hc)
 have:=kwT_inj0 ⟨(k - 5).toNat,by omega⟩ ⟨(c - 5).toNat,by omega⟩ (by
  show kwT (5+(((k - 5).toNat:Nat):Int))=kwT (5+(((c - 5).toNat:Nat):Int))
  rw [show (5:Int)+(((k - 5).toNat:Nat):Int)=k by omega,show (5:Int)+(((c - 5).toNat:Nat):Int)=c by omega];exact h)
 have h2:(k - 5).toNat=(c - 5).toNat:=congrArg Fin.val this
 omega
theorem isK {st:St} {c:Int} {X:ByteArray} (hX:kwT c=X.data.toList) (h5:5≤c) (h28:c≤28) (kind:Int) (hk:rK c=kind):(rK st.tk.kind==kind&&((BS (tkS st)).toList==X.toList))=(st.tk.kind==c):=by
 have hne:kwT c≠[]:=by
  have:∀i:Fin 24,kwT (5+(i.val:Int))≠[]:=by decide +kernel
  have:=this ⟨(c - 5).toNat,by omega⟩
  rwa [show (5:Int)+(((c - 5).toNat:Nat):Int)=c by omega] at this
 have hl:((BS (tkS st)).toList==X.toList)=(tkS st==kwT c):=by
  rw [hX,qe0,Lib.toList_data]
 rw [hl]
 by_cases h:st.tk.kind=c
 ·have e1:tkS st=kwT c:=by
   unfold tkS rS;rw [if_neg (by omega),if_neg (by omega),h]
  rw [e1,h,hk];simp
 ·have hR:(st.tk.kind==c)=false:=beq_eq_false_iff_ne.2 h
  rw [hR]
  rw [Bool.and_eq_false_iff]
  by_cases hk2:rK st.tk.kind=kind
  ·right
   rw [beq_eq_false_iff_ne]
   intro e
   apply h
   refine kwT_inj hne ?_
   have h4:5≤st.tk.kind:=by
    rw [←hk] at hk2
    unfold rK at hk2
    split at hk2<;>split at hk2<;>(try split at hk2)<;>omega
   rw [←e]
   unfold tkS rS
   rw [if_neg (by omega),if_neg (by omega)]
  ·left;rw [beq_eq_false_iff_ne];exact hk2
section
variable {w:World} {rb:Nat} {s:ByteArray} {ns:List RN} {j:Nat} {st:St} {en pl:Int} {op m:Nat}
theorem qm7 (h:RT w rb s ns j st) (c:Int) {kind:Int} {X:ByteArray} (hX:kwT c=X.data.toList) (h5:5≤c) (h28:c≤28) (hk:rK c=kind) :
  Calls Tryz.prog 215 #[.pointer (some ⟨rb,0,none⟩),.int .i64 kind,.string X] w fun e w'=>e=.returned (.bool (st.tk.kind==c))∧w'=w:=by
 obtain ⟨nv,h,_⟩:=h
 have:=qu9 h kind X
 rwa [isK hX h5 h28 kind hk] at this
theorem ris_re (h:RE w rb s en pl op m) {kind:Int} {X:ByteArray} (hk:kind≠1) :
  Calls Tryz.prog 215 #[.pointer (some ⟨rb,0,none⟩),.int .i64 kind,.string X] w fun e w'=>e=.returned (.bool false)∧w'=w:=by
 obtain ⟨nv,a,ns,h,_⟩:=h
 have:=qu9 h kind X
 rwa [show ((1:Int)==kind)=false from beq_eq_false_iff_ne.2 (fun e=>hk e.symm),Bool.false_and] at this
theorem qr4 (s:ByteArray) (st:St):NextIs s st.after (rK (j3 s st).tk.kind) (j3 s st).place (tkZ (j3 s st)) (BS (tkS (j3 s st))) (tkN (j3 s st)):=by
 show rTk (qd8 s.data.toList st.after) (qe5 s.data.toList st.after) (qi1 s.data.toList st.after)=_
 unfold rTk tkZ tkS tkN
 show (if (qd8 s.data.toList st.after).kind=1 then _ else _)=_
 show _=Value.agg #[.int .i64 (rK (qd8 s.data.toList st.after).kind),.int .i64 (qe5 s.data.toList st.after:Nat),.int .i64 (if (qd8 s.data.toList st.after).kind=1 then 0 else ((qi1 s.data.toList st.after:Nat):Int)),.string (BS (if (qd8 s.data.toList st.after).kind=1 then [] else rS (qd8 s.data.toList st.after))),.int .i64 (if (qd8 s.data.toList st.after).kind=1 then 0 else (qd8 s.data.toList st.after).num)]
 split
 ·rename_i h;rw [h];rfl
 ·rfl
theorem Fine.step_place (h:Fine s st) (h0:st.tk.kind≠0):st.place<(j3 s st).place:=Nat.lt_of_lt_of_le (h.long h0) (qf8 s st)
theorem qa6 (h:RT w rb s ns j st) (hs:s.size≤200) (h0:st.tk.kind≠0) (h1:st.tk.kind≠1) :
  Calls Tryz.prog 172 #[.pointer (some ⟨rb,0,none⟩)] w fun e w'=>e=.returned (.tuple #[])∧TKept rb w w'∧RT w' rb s ns (j+1) (j3 s st):=by
 obtain ⟨nv,hT,hN,hF,hj⟩:=h
 have hp:=hF.step_place h0
 rw [show tkZ st=(st.after:Int) by unfold tkZ;rw [if_neg h1]] at hT
 refine (qr0 hT hs hF.after (qr4 s st)).mono ?_
 rintro e w' ⟨rfl,hT',hK⟩
 exact ⟨rfl,TKept.of_kept hK (hT'.c0.trans hT.c0.symm),nv,hT',hN.kept (hT.c0.trans hT'.c0.symm) hK,qa7 s st hF.after,by omega⟩
theorem qp9 (h:RT w rb s ns j st) (hs:s.size≤200) (en pl:Int) (he:en≠0) :
  Calls Tryz.prog 174 #[.pointer (some ⟨rb,0,none⟩),.int .i64 en,.int .i64 pl] w fun e w'=>e=.returned (.tuple #[])∧TKept rb w w'∧RE w' rb s en pl st.op 200:=by
 obtain ⟨nv,hT,hN,hF,hj⟩:=h
 have:=hF.place
 refine (qs9 hT en pl).mono ?_
 rintro e w' ⟨rfl,hT',hK⟩
 exact ⟨rfl,TKept.of_kept hK (hT'.c0.trans hT.c0.symm),nv,_,ns,hT',he,hN.kept (hT.c0.trans hT'.c0.symm) hK,by omega⟩
theorem qz4 (h:RT w rb s ns j st) (hs:s.size≤200) (c:Int) {kind:Int} {X:ByteArray} (hX:kwT c=X.data.toList) (h5:5≤c) (h28:c≤28) (hk:rK c=kind) (hc:st.tk.kind=c) :
  Calls Tryz.prog 343 #[.pointer (some ⟨rb,0,none⟩),.int .i64 kind,.string X] w fun e w'=>e=.returned (.tuple #[])∧TKept rb w w'∧RT w' rb s ns (j+1) (j3 s st):=by
 have hi:=isK (st:=st) hX h5 h28 kind hk
 rw [hc] at hi
 obtain ⟨nv,hT,hN,hF,hj⟩:=h
 have hp:=hF.step_place (by omega)
 rw [show tkZ st=(st.after:Int) by unfold tkZ;rw [if_neg (by omega)]] at hT
 have hb:(rK c==kind)=true∧((BS (tkS st)).toList==X.toList)=true:=by simpa using hi
 refine (jf1 hT hs hF.after (qr4 s st) kind X (by rw [hc];exact hk) hb.2).mono ?_
 rintro e w' ⟨rfl,hT',hK⟩
 exact ⟨rfl,TKept.of_kept hK (hT'.c0.trans hT.c0.symm),nv,hT',hN.kept (hT.c0.trans hT'.c0.symm) hK,qa7 s st hF.after,by omega⟩
theorem qt0 (h:RT w rb s ns j st) (hs:s.size≤200) (c:Int) {kind:Int} {X:ByteArray} (hX:kwT c=X.data.toList) (h5:5≤c) (h28:c≤28) (hk:rK c=kind) (hc:¬st.tk.kind=c) :
  Calls Tryz.prog 343 #[.pointer (some ⟨rb,0,none⟩),.int .i64 kind,.string X] w fun e w'=>e=.returned (.tuple #[])∧TKept rb w w'∧RE w' rb s 2 st.place st.op 200:=by
 have hi:=isK (st:=st) hX h5 h28 kind hk
 rw [show (st.tk.kind==c)=false from beq_eq_false_iff_ne.2 hc] at hi
 obtain ⟨nv,hT,hN,hF,hj⟩:=h
 have:=hF.place
 refine (vp6 hT kind X hi).mono ?_
 rintro e w' ⟨rfl,hT',hK⟩
 exact ⟨rfl,TKept.of_kept hK (hT'.c0.trans hT.c0.symm),nv,_,ns,hT',by decide,hN.kept (hT.c0.trans hT'.c0.symm) hK,by omega⟩
theorem vp7 (h:RE w rb s en pl op m) {kind:Int} {X:ByteArray} (hk:kind≠1) :
  Calls Tryz.prog 343 #[.pointer (some ⟨rb,0,none⟩),.int .i64 kind,.string X] w fun e w'=>e=.returned (.tuple #[])∧TKept rb w w'∧RE w' rb s en pl op m:=by
 obtain ⟨nv,a,ns,hT,he,hN,hm⟩:=h
 refine (vv1 hT he kind X hk).mono ?_
 rintro e w' ⟨rfl,hT',hK⟩
 exact ⟨rfl,TKept.of_kept hK (hT'.c0.trans hT.c0.symm),nv,_,ns,hT',he,hN.kept (hT.c0.trans hT'.c0.symm) hK,hm⟩
def rnV (x:RN) (iv lv:Value):Value:=.agg #[.string (BS x.op),.int .i64 x.at',iv,.string (BS x.str),.string (BS x.esc),lv,.int .i64 x.num,.bool x.neg,.int .i64 x.cls]
theorem vp1 (h:RT w rb s ns (j+1) st) (hs:s.size≤200) (x:RN) {iv lv:Value} (hiv:RowOf w rb 3 iv (qy3 x.ins)) (hlv:RowOf w rb 9 lv (qa0 x.texts)) :
  Calls Tryz.prog 216 #[.pointer (some ⟨rb,0,none⟩),rnV x iv lv] w fun e w'=>e=.returned (.int .i64 ns.length)∧TKept rb w w'∧RT w' rb s (ns++[x]) j st:=by
 obtain ⟨nv,hT,hN,hF,hj⟩:=h
 have:=hF.place
 refine (qz1 hT hN x hiv hlv (by omega)).mono ?_
 rintro e w' ⟨rfl,hK,nv',hT',hN'⟩
 exact ⟨rfl,hK,nv',hT',hN',hF,by simp;omega⟩
theorem vp0 (h:RE w rb s en pl op m) (hm:m≤1000) (x:RN) {iv lv:Value} (hiv:RowOf w rb 3 iv (qy3 x.ins)) (hlv:RowOf w rb 9 lv (qa0 x.texts)) :
  Calls Tryz.prog 216 #[.pointer (some ⟨rb,0,none⟩),rnV x iv lv] w fun e w'=>∃i:Nat,e=.returned (.int .i64 i)∧TKept rb w w'∧RE w' rb s en pl op (m+1):=by
 obtain ⟨nv,a,ns,hT,he,hN,hm'⟩:=h
 refine (qz1 hT hN x hiv hlv (by omega)).mono ?_
 rintro e w' ⟨rfl,hK,nv',hT',hN'⟩
 exact ⟨ns.length,rfl,hK,nv',_,_,hT',he,hN',by simp;omega⟩
end
end
section
def qb9 (o:Int):List UInt8:=
 if o=0 then [110,97,109,101] else if o=1 then [110,117,109,98,101,114] else if o=2 then [116,101,120,116] else if o=3 then [84,82,85,69] else if o=4 then [70,65,76,83,69]
 else if o=5 then [78,79,84] else if o=6 then [65,78,68] else if o=7 then [79,82] else if o=8 then [61] else if o=9 then [60,62] else if o=10 then [60] else if o=11 then [60,61] else if o=12 then [62] else if o=13 then [62,61]
 else if o=14 then [112] else if o=15 then [110] else if o=16 then [43] else if o=17 then [45] else if o=18 then [42] else if o=19 then [47] else if o=20 then [66,69,84,87,69,69,78] else if o=21 then [73,78] else if o=22 then [76,73,75,69] else [78,85,76,76]
def qj5 (p:Pay) (ins:List Nat) (neg:Bool):RN:=⟨qb9 p.op,p.place,ins,p.str,p.esc,p.texts,p.num,neg,0⟩
inductive Flat:Ast→Nat→List RN→Prop
 | leaf (p:Pay) (off:Nat):Flat (.leaf p) off [qj5 p [] false]
 | un (p:Pay) {x:Ast} {off:Nat} {l:List RN}:Flat x off l→Flat (.un p x) off (l++[qj5 p [off+l.length - 1] false])
 | bin (p:Pay) {x y:Ast} {off:Nat} {l k:List RN}:Flat x off l→Flat y (off+l.length) k→Flat (.bin p x y) off (l++k++[qj5 p [off+l.length - 1,off+l.length+k.length - 1] false])
 | tri (p:Pay) {x y z:Ast} {off:Nat} {l k m:List RN}:Flat x off l→Flat y (off+l.length) k→Flat z (off+l.length+k.length) m →
   Flat (.tri p x y z) off (l++k++m++[qj5 p [off+l.length - 1,off+l.length+k.length - 1,off+l.length+k.length+m.length - 1] false])
 | neg1 (pl:Int) (q:Pay) {x:Ast} {off:Nat} {l:List RN}:(q.op=21∨q.op=22∨q.op=23)→Flat x off l→Flat (.un ⟨5,pl,0,[],[],[]⟩ (.un q x)) off (l++[qj5 q [off+l.length - 1] true])
 | neg3 (pl:Int) (q:Pay) {x y z:Ast} {off:Nat} {l k m:List RN}:q.op=20→Flat x off l→Flat y (off+l.length) k→Flat z (off+l.length+k.length) m →
   Flat (.un ⟨5,pl,0,[],[],[]⟩ (.tri q x y z)) off (l++k++m++[qj5 q [off+l.length - 1,off+l.length+k.length - 1,off+l.length+k.length+m.length - 1] true])
theorem Flat.pos {t:Ast} {off:Nat} {l:List RN} (h:Flat t off l):0<l.length:=by cases h<;>simp<;>omega
def REnds (rb:Nat) (s:ByteArray) (w:World) (op m:Nat) (ns:List RN) (j lo:Nat) (r:Res) (e:Ending) (w':World):Prop:=
 TKept rb w w'∧match r with
 | .ok t st=>∃new,e=.returned (.int .i64 ((ns.length+new.length - 1:Nat):Int))∧RT w' rb s (ns++new) j st∧st.op=op∧lo≤st.place∧Flat t ns.length new
 | .err en pl=>∃i:Nat,e=.returned (.int .i64 i)∧RE w' rb s en pl op m
def RReads (K:Nat) (rb:Nat) (s:ByteArray) (op m:Nat) (f:St→Res):Prop:=
 ∀(w:World) (st:St) (ns:List RN) (j:Nat),RT w rb s ns j st→st.op=op→Calls Tryz.prog K #[.pointer (some ⟨rb,0,none⟩)] w (REnds rb s w op m ns j st.place (f st))
def qn9 (K:Nat) (rb:Nat) (s:ByteArray):Prop:=
 ∀(w:World) (en pl:Int) (op m:Nat),RE w rb s en pl op m→Calls Tryz.prog K #[.pointer (some ⟨rb,0,none⟩)] w fun e w'=>∃i:Nat,e=.returned (.int .i64 i)∧TKept rb w w'∧RE w' rb s en pl op m
theorem REnds.more {rb:Nat} {s:ByteArray} {w w':World} {op m m':Nat} {ns:List RN} {j lo lo':Nat} {r:Res} {e:Ending} (h:REnds rb s w op m ns j lo r e w') (hm:m≤m') (hl:lo'≤lo):REnds rb s w op m' ns j lo' r e w':=by
 obtain ⟨hk,h⟩:=h
 refine ⟨hk, ?_⟩
 cases r with
 | ok t st=>obtain ⟨new,h1,h2,h3,h4,h5⟩:=h;exact ⟨new,h1,h2,h3,by omega,h5⟩
 | err en pl=>obtain ⟨i,h1,h2⟩:=h;exact ⟨i,h1,h2.more hm⟩
theorem TrC.setOp {w:World} {rb:Nat} {nv:Value} {s:ByteArray} {k a z:Int} {S:ByteArray} {n op er at':Int} (h:TrC w rb nv s k a z S n op er at') (o:Int):TrC (w.setCell ⟨rb,7,none⟩ (.int .i64 o)) rb nv s k a z S n o er at':=by
 obtain ⟨lt,c0,c1,c2,c3,c4,c5,c6,c7,c8,c9,fz⟩:=h
 refine ⟨by simpa using lt, ?_, ?_, ?_, ?_, ?_, ?_, ?_, ?_, ?_, ?_,fun j=>?_⟩
 all_goals simp [go_sem,c0,c1,c2,c3,c4,c5,c6,c7,c8,c9,fz]
theorem RT.setOp {w:World} {rb:Nat} {s:ByteArray} {ns:List RN} {j:Nat} {st:St} (h:RT w rb s ns j st) (n:Nat) (o:Int) (ho:o=n):RT (w.setCell ⟨rb,7,none⟩ (.int .i64 o)) rb s ns j { st with op:=n }∧TKept rb w (w.setCell ⟨rb,7,none⟩ (.int .i64 o)):=by
 subst ho
 obtain ⟨nv,hT,hN,hF,hj⟩:=h
 have hK:=(Kept.refl rb w).setCell 7 (.int .i64 n)
 have hT':=hT.setOp n
 exact ⟨⟨nv,hT',hN.kept (hT.c0.trans hT'.c0.symm) hK,⟨hF.place,hF.after,hF.long⟩,hj⟩,TKept.of_kept hK (hT'.c0.trans hT.c0.symm)⟩
theorem RE.setOp {w:World} {rb:Nat} {s:ByteArray} {en pl:Int} {op m:Nat} (h:RE w rb s en pl op m) (n:Nat) (o:Int) (ho:o=n):RE (w.setCell ⟨rb,7,none⟩ (.int .i64 o)) rb s en pl n m∧TKept rb w (w.setCell ⟨rb,7,none⟩ (.int .i64 o)):=by
 subst ho
 obtain ⟨nv,a,ns,hT,he,hN,hm⟩:=h
 have hK:=(Kept.refl rb w).setCell 7 (.int .i64 n)
 have hT':=hT.setOp n
 exact ⟨⟨nv,a,ns,hT',he,hN.kept (hT.c0.trans hT'.c0.symm) hK,hm⟩,TKept.of_kept hK (hT'.c0.trans hT.c0.symm)⟩
theorem RT.c7 {w:World} {rb:Nat} {s:ByteArray} {ns:List RN} {j:Nat} {st:St} (h:RT w rb s ns j st):w.cell? ⟨rb,7,none⟩=some (.int .i64 st.op)∧∀i,w.frozen? ⟨rb,i,none⟩=false:=by obtain ⟨nv,h,_⟩:=h;exact ⟨h.c7,h.fz⟩
theorem RE.c7 {w:World} {rb:Nat} {s:ByteArray} {en pl:Int} {op m:Nat} (h:RE w rb s en pl op m):w.cell? ⟨rb,7,none⟩=some (.int .i64 op)∧∀i,w.frozen? ⟨rb,i,none⟩=false:=by obtain ⟨nv,a,ns,h,_⟩:=h;exact ⟨h.c7,h.fz⟩
theorem RT.c8 {w:World} {rb:Nat} {s:ByteArray} {ns:List RN} {j:Nat} {st:St} (h:RT w rb s ns j st):w.cell? ⟨rb,8,none⟩=some (.int .i64 0):=by obtain ⟨nv,h,_⟩:=h;exact h.c8
theorem RE.c8 {w:World} {rb:Nat} {s:ByteArray} {en pl:Int} {op m:Nat} (h:RE w rb s en pl op m):w.cell? ⟨rb,8,none⟩=some (.int .i64 en)∧(en==0)=false:=by obtain ⟨nv,a,ns,h,he,_⟩:=h;exact ⟨h.c8,beq_eq_false_iff_ne.2 he⟩
theorem RT.ct {w:World} {rb:Nat} {s:ByteArray} {ns:List RN} {j:Nat} {st:St} (h:RT w rb s ns j st):w.cell? ⟨rb,2,none⟩=some (.int .i64 (rK st.tk.kind))∧w.cell? ⟨rb,3,none⟩=some (.int .i64 st.place)∧w.cell? ⟨rb,4,none⟩=some (.int .i64 (tkZ st))∧w.cell? ⟨rb,5,none⟩=some (.string (BS (tkS st)))∧w.cell? ⟨rb,6,none⟩=some (.int .i64 (tkN st)):=by obtain ⟨nv,h,_⟩:=h;exact ⟨h.c2,h.c3,h.c4,h.c5,h.c6⟩
section
variable {w:World} {rb:Nat} {s:ByteArray} {ns:List RN} {j:Nat} {st:St} {en pl:Int} {op m:Nat}
set_option maxHeartbeats 1000000 in
theorem qm6 (h:RT w rb s ns j st) (hs:s.size≤200) (h0:st.tk.kind≠0) (h1:st.tk.kind≠1) (hop:st.op<12) :
  Calls Tryz.prog 295 #[.pointer (some ⟨rb,0,none⟩)] w fun e w'=>e=.returned (.tuple #[])∧TKept rb w w'∧RT w' rb s ns (j+1) (qk8 s st):=by
 obtain ⟨c7,fz⟩:=h.c7
 have hlt:=h.lt
 obtain ⟨h2,hK2⟩:=h.setOp (st.op+1) ((st.op:Int)+1) (by omega)
 have HK2:=j4 hK2
 have ST:=j4 (qa6 h2 hs h0 h1)
 clear h h2 hK2
 go_enter Tryz.func295,Tryz.ntmps295
 go_wp2_with (go_at_call 172;refine (q9 ST).mono ?_;rintro e w1 ⟨rfl,hk1,hr1⟩;have HK1:=j4 hk1;have HR1:=j4 hr1;clear hk1 hr1)
 go_end0
 exact ⟨rfl,(q9 HK2).trans (q9 HK1),q9 HR1⟩
set_option maxHeartbeats 1000000 in
theorem qz3 (h:RT w rb s ns j st) (hs:s.size≤200) (hop:st.op=12) :
  Calls Tryz.prog 295 #[.pointer (some ⟨rb,0,none⟩)] w fun e w'=>e=.returned (.tuple #[])∧TKept rb w w'∧RE w' rb s 3 st.place 13 200:=by
 obtain ⟨c7,fz⟩:=h.c7
 obtain ⟨_,c3,_⟩:=h.ct
 have hlt:=h.lt
 rw [hop] at c7
 obtain ⟨h2,hK2⟩:=h.setOp 13 13 (by omega)
 have HK2:=j4 hK2
 have FL:=j4 (qp9 h2 hs 3 st.place (by decide))
 clear h h2 hK2
 go_enter Tryz.func295,Tryz.ntmps295
 go_wp2_with (go_at_call 174;refine (q9 FL).mono ?_;rintro e w1 ⟨rfl,hk1,hr1⟩;have HK1:=j4 hk1;have HR1:=j4 hr1;clear hk1 hr1)
 refine bodyPost_ret (by simp [results,Tryz.results295,go_sem]) rfl ⟨rfl,(q9 HK2).trans (q9 HK1),q9 HR1⟩
end
end
end Go.Proofs.YtfkcaldjphakpaaGreatDoor
