/- The document's answer. -/
import Derived.Test.YtfkcaldjphakpaaGreatDoorM12
namespace Go.Proofs.YtfkcaldjphakpaaGreatDoor
open Go.RowKit Go.Proofs.Tryz
section
attribute [local go_sem ↓] qe4
theorem TrC.put{w w':World}{rb:Nat}{nv:Value}{s:ByteArray}{k a z:Int}{S:ByteArray}{n op er at':Int}(h:TrC w rb nv s k a z S n op er at')(hb:w'.heap[rb]?=w.heap[rb]?)(A1:rb<w'.heap.size)(v:Value):TrC (w'.setCell ⟨rb,0,none⟩ v) rb v s k a z S n op er at':=by
 obtain⟨lt,c0,c1,c2,c3,c4,c5,c6,c7,c8,c9,fz⟩:=h;have hc:∀j,w'.cell? ⟨rb,j,none⟩=w.cell? ⟨rb,j,none⟩:=λj=>World.cell?_of_block (w:=w) (w':=w') (a:=⟨rb,j,none⟩) hb
 have hf:∀j,w'.frozen? ⟨rb,j,none⟩=w.frozen? ⟨rb,j,none⟩:=λj=>World.frozen?_of_block (w:=w) (w':=w') (a:=⟨rb,j,none⟩) hb
 rw[←hc]at c0 c1 c2 c3 c4 c5 c6 c7 c8 c9;refine⟨by simpa using A1, ?_, ?_, ?_, ?_, ?_, ?_, ?_, ?_, ?_, ?_,λj=>?_⟩
 all_goals simp[go_sem,c0,c1,c2,c3,c4,c5,c6,c7,c8,c9,hf,fz]
def AddEnds(rb:Nat)(s:ByteArray)(k a z:Int)(S:ByteArray)(n op er at':Int)(w:World)(ns:List RN)(x:RN)(e:Ending)(w':World):Prop:=
 e=.returned (.int .i64 ns.length)/\TKept rb w w'/\∃nv',TrC w' rb nv' s k a z S n op er at'/\NodesAt w' rb nv' (ns++[x])
set_option maxHeartbeats 8000000 in
set_option maxRecDepth 100000 in
theorem vc5{w:World}{rb:Nat}{nv:Value}{s:ByteArray}{k a z:Int}{S:ByteArray}{n op er at':Int}(h:TrC w rb nv s k a z S n op er at'){ns:List RN}(hN:NodesAt w rb nv ns)(x:RN){iv lv:Value}(aB:RowOf w rb 3 iv (vb2 x.ins))(t8:RowOf w rb 9 lv (qa1 x.texts))(hn:ns.length<=100000):
  Calls prog 216 #[.pointer (some ⟨rb,0,none⟩),.agg #[.string (BS x.op),.int .i64 x.at',iv,.string (BS x.str),.string (BS x.esc),lv,.int .i64 x.num,.bool x.neg,.int .i64 x.cls]] w (AddEnds rb s k a z S n op er at' w ns x):=by
 have hb:Below w.heap.size w (w.alloc (.cells #[.string (BS x.op),.int .i64 x.at',iv,.string (BS x.str),.string (BS x.esc),lv,.int .i64 x.num,.bool x.neg,.int .i64 x.cls] 241)):=(Below.refl _ _).alloc (Nat.le_refl _) _;have bK:=TKept.of_below hb.drew h.lt;have h1:=h.below hb.drew;obtain⟨g,cap,w5,o6,HB,kA,HN,HK⟩:=(hN.below h.lt hb.drew).app h1.c0 h1.lt x (aB.kept bK) (t8.kept bK) hn;have HT:=j3 (h1.put (q9 HB) kA (.slice (some ⟨g,0,none⟩) (ns.length+1) cap));have Z8:=j3 bK;obtain⟨⟨ai,ci,rfl⟩,⟨al,cl,rfl⟩⟩:=And.intro aB.form t8.form
 have sM:∃a0 c0,nv=.slice a0 ns.length c0:=by
  obtain⟨rs,_,ho,_⟩:=hN;rcases ho.2 with⟨h0,GQ⟩|⟨g,cap,cur,rfl,_⟩
  ·exact⟨none,0,by simp_all⟩
  ·exact⟨_,_,rfl⟩
 obtain⟨a0,GU,rfl⟩:=sM;obtain⟨lt,c0,c1,c2,c3,c4,c5,c6,c7,c8,c9,fz⟩:=h;have n0:¬w.heap.size=rb:=by omega
 have n1:¬rb=w.heap.size:=by omega
 have U0:w5.cell? ⟨rb,0,none⟩=some (.slice a0 ns.length GU):=(World.cell?_of_block (w':=w5) (a:=⟨rb,0,none⟩) (q9 HB)).trans h1.c0;have TD:w5.frozen? ⟨rb,0,none⟩=false:=(World.frozen?_of_block (w':=w5) (a:=⟨rb,0,none⟩) (q9 HB)).trans (h1.fz 0)
 have U8:(vz2 #[233,233] 233 #[.slice a0 ns.length GU,.slice (some ⟨w.heap.size+1,0,none⟩) 1 1]).run prog ((w.alloc (.cells #[.string (BS x.op),.int .i64 x.at',.slice ai (vb2 x.ins).length ci,.string (BS x.str),.string (BS x.esc),.slice al (qa1 x.texts).length cl,.int .i64 x.num,.bool x.neg,.int .i64 x.cls] 241)).alloc (.cells #[.string (BS x.op),.int .i64 x.at',.slice ai (vb2 x.ins).length ci,.string (BS x.str),.string (BS x.esc),.slice al (qa1 x.texts).length cl,.int .i64 x.num,.bool x.neg,.int .i64 x.cls] 241)).drew=.ok (.slice (some ⟨g,0,none⟩) (ns.length+1) cap) w5:=by
  have e:(w.alloc (.cells #[.string (BS x.op),.int .i64 x.at',.slice ai (vb2 x.ins).length ci,.string (BS x.str),.string (BS x.esc),.slice al (qa1 x.texts).length cl,.int .i64 x.num,.bool x.neg,.int .i64 x.cls] 241)).drew.heap.size=w.heap.size+1:=by show(w.alloc _).heap.size=_;simp
  rw[e]at o6;exact o6
 clear h1 hb bK hN aB t8 o6;go_enter func216,ntmps216
 go_wp2_with fail
 go_region
 all_goals go_wp2_with fail
 all_goals go_ret
 all_goals exact⟨qg3 (by simp),(q9 Z8).trans (q9 HK),_,q9 HT,q9 HN⟩
end
section
def tkZ(st:St):Int:=if st.tk.kind=1 then 0 else st.after
def tkS(st:St):List UInt8:=if st.tk.kind=1 then[] else rS st.tk
def tkN(st:St):Int:=if st.tk.kind=1 then 0 else st.tk.num
def RT(w:World)(rb:Nat)(s:ByteArray)(ns:List RN)(j:Nat)(st:St):Prop:=
 ∃nv,TrC w rb nv s (rK st.tk.kind) st.place (tkZ st) (BS (tkS st)) (tkN st) st.op 0 0/\NodesAt w rb nv ns/\Fine s st/\ns.length+j<=st.place
def RE(w:World)(rb:Nat)(s:ByteArray)(en pl:Int)(op:Nat)(m:Nat):Prop:=
 ∃nv a ns,TrC w rb nv s 1 a 0 ⟨#[]⟩ 0 op en pl/\en≠0/\NodesAt w rb nv ns/\ns.length<=m
theorem RT.lt{w:World}{rb:Nat}{s:ByteArray}{ns:List RN}{j:Nat}{st:St}(h:RT w rb s ns j st):rb<w.heap.size:=by obtain⟨nv,h,_⟩:=h;exact h.lt
theorem RE.lt{w:World}{rb:Nat}{s:ByteArray}{en pl:Int}{op m:Nat}(h:RE w rb s en pl op m):rb<w.heap.size:=by obtain⟨nv,a,ns,h,_⟩:=h;exact h.lt
theorem RT.fine{w:World}{rb:Nat}{s:ByteArray}{ns:List RN}{j:Nat}{st:St}(h:RT w rb s ns j st):Fine s st:=by obtain⟨nv,_,_,h,_⟩:=h;exact h
theorem RT.few{w:World}{rb:Nat}{s:ByteArray}{ns:List RN}{j:Nat}{st:St}(h:RT w rb s ns j st):ns.length+j<=st.place:=by obtain⟨nv,_,_,_,h⟩:=h;exact h
theorem RT.less{w:World}{rb:Nat}{s:ByteArray}{ns:List RN}{j j':Nat}{st:St}(h:RT w rb s ns j st)(hj:j'<=j):RT w rb s ns j' st:=by obtain⟨nv,h1,h2,h3,h4⟩:=h;exact⟨nv,h1,h2,h3,by omega⟩
theorem RE.more{w:World}{rb:Nat}{s:ByteArray}{en pl:Int}{op m m':Nat}(h:RE w rb s en pl op m)(hm:m<=m'):RE w rb s en pl op m':=by obtain⟨nv,a,ns,h1,h2,h3,h4⟩:=h;exact⟨nv,a,ns,h1,h2,h3,by omega⟩
theorem RT.below{w w':World}{rb:Nat}{s:ByteArray}{ns:List RN}{j:Nat}{st:St}(h:RT w rb s ns j st)(hb:Below w.heap.size w w'):RT w' rb s ns j st:=by
 obtain⟨nv,h1,h2,h3,h4⟩:=h;exact⟨nv,h1.below hb,h2.below h1.lt hb,h3,h4⟩
theorem RE.below{w w':World}{rb:Nat}{s:ByteArray}{en pl:Int}{op m:Nat}(h:RE w rb s en pl op m)(hb:Below w.heap.size w w'):RE w' rb s en pl op m:=by
 obtain⟨nv,a,ns,h1,h2,h3,h4⟩:=h;exact⟨nv,a,ns,h1.below hb,h2,h3.below h1.lt hb,h4⟩
theorem NodesAt.fresh{w:World}{rb:Nat}{nv:Value}{ns:List RN}(h:NodesAt w rb nv ns)(c0:w.cell? ⟨rb,0,none⟩=some nv)(A1:rb<w.heap.size)(o:Obj):¬vb1 (w.alloc o) rb w.heap.size:=by
 obtain⟨rs,hl,ho,hn⟩:=h;rintro (e|⟨nv',e1,e2⟩)
 ·omega
 ·have hc:(w.alloc o).cell? ⟨rb,0,none⟩=w.cell? ⟨rb,0,none⟩:=(qb0 ((Below.refl w.heap.size w).alloc (Nat.le_refl _) o)).1 _ _ A1
  rw[hc,c0]at e1;injection e1 with e1;subst e1;have:=(ho.lt _ e2).2;omega
theorem RT.fresh{w:World}{rb:Nat}{s:ByteArray}{ns:List RN}{j:Nat}{st:St}(h:RT w rb s ns j st)(o:Obj):¬vb1 (w.alloc o) rb w.heap.size:=by obtain⟨nv,h1,h2,_⟩:=h;exact h2.fresh h1.c0 h1.lt o
theorem RE.fresh{w:World}{rb:Nat}{s:ByteArray}{en pl:Int}{op m:Nat}(h:RE w rb s en pl op m)(o:Obj):¬vb1 (w.alloc o) rb w.heap.size:=by obtain⟨nv,a,ns,h1,_,h2,_⟩:=h;exact h2.fresh h1.c0 h1.lt o
theorem kwT_in{k:Int}(h:kwT k≠[]):5<=k/\k<=28:=by
 by_cases h1:5<=k/\k<=28
 ·exact h1
 ·exfalso
  apply h;unfold kwT
  iterate 24 rw[if_neg (by omega)]
theorem kwT_inj0:∀i:Fin 24,∀j:Fin 24,kwT (5+(i.val:Int))=kwT (5+(j.val:Int))->i=j:=by decide +kernel
theorem kwT_inj{k c:Int}(hc:kwT c≠[])(h:kwT k=kwT c):k=c:=by
 obtain⟨c1,c2⟩:=kwT_in hc;obtain⟨k1,k2⟩:=kwT_in (h ▸ hc)
 have:=kwT_inj0 ⟨(k - 5).toNat,by omega⟩ ⟨(c - 5).toNat,by omega⟩ (by
  show kwT (5+(((k - 5).toNat:Nat):Int))=kwT (5+(((c - 5).toNat:Nat):Int))
  rw[show(5:Int)+(((k - 5).toNat:Nat):Int)=k by omega,show(5:Int)+(((c - 5).toNat:Nat):Int)=c by omega];exact h)
 have h2:(k - 5).toNat=(c - 5).toNat:=congrArg Fin.val this;omega
theorem isK{st:St}{c:Int}{X:ByteArray}(hX:kwT c=X.data.toList)(h5:5<=c)(h28:c<=28)(kind:Int)(hk:rK c=kind):(rK st.tk.kind==kind&&((BS (tkS st)).toList==X.toList))=(st.tk.kind==c):=by
 have C1:kwT c≠[]:=by
  have:∀i:Fin 24,kwT (5+(i.val:Int))≠[]:=by decide +kernel
  have:=this ⟨(c - 5).toNat,by omega⟩;rwa [show(5:Int)+(((c - 5).toNat:Nat):Int)=c by omega]at this
 have hl:((BS (tkS st)).toList==X.toList)=(tkS st==kwT c):=by
  rw[hX,qc9,Lib.toList_data]
 rw[hl]
 by_cases h:st.tk.kind=c
 ·have e1:tkS st=kwT c:=by
   unfold tkS rS;rw[if_neg (by omega),if_neg (by omega),h]
  rw[e1,h,hk];simp
 ·have hR:(st.tk.kind==c)=false:=beq_eq_false_iff_ne.2 h
  rw[hR];rw[Bool.and_eq_false_iff]
  by_cases A3:rK st.tk.kind=kind
  ·right
   rw[beq_eq_false_iff_ne];intro e;apply h;refine kwT_inj C1 ?_
   have h4:5<=st.tk.kind:=by
    rw[←hk]at A3;unfold rK at A3
    split at A3<;>split at A3<;>(try split at A3)<;>omega
   rw[←e];unfold tkS rS;rw[if_neg (by omega),if_neg (by omega)]
  ·left;rw[beq_eq_false_iff_ne];exact A3
section
variable {w:World} {rb:Nat} {s:ByteArray} {ns:List RN} {j:Nat} {st:St} {en pl:Int} {op m:Nat}
theorem qp0(h:RT w rb s ns j st)(c:Int){kind:Int}{X:ByteArray}(hX:kwT c=X.data.toList)(h5:5<=c)(h28:c<=28)(hk:rK c=kind):
  Calls prog 215 #[.pointer (some ⟨rb,0,none⟩),.int .i64 kind,.string X] w λe w'=>e=.returned (.bool (st.tk.kind==c))/\w'=w:=by
 obtain⟨nv,h,_⟩:=h;have:=qx0 h kind X;rwa [isK hX h5 h28 kind hk]at this
theorem ris_re(h:RE w rb s en pl op m){kind:Int}{X:ByteArray}(hk:kind≠1):
  Calls prog 215 #[.pointer (some ⟨rb,0,none⟩),.int .i64 kind,.string X] w λe w'=>e=.returned (.bool false)/\w'=w:=by
 obtain⟨nv,a,ns,h,_⟩:=h;have:=qx0 h kind X;rwa [show((1:Int)==kind)=false from beq_eq_false_iff_ne.2 (λe=>hk e.symm),Bool.false_and]at this
theorem qs0(s:ByteArray)(st:St):NextIs s st.after (rK (j4 s st).tk.kind) (j4 s st).place (tkZ (j4 s st)) (BS (tkS (j4 s st))) (tkN (j4 s st)):=by
 show rTk (qc0 s.data.toList st.after) (qc2 s.data.toList st.after) (qd5 s.data.toList st.after)=_;unfold rTk tkZ tkS tkN;show(if(qc0 s.data.toList st.after).kind=1 then _ else _)=_;show _=Value.agg #[.int .i64 (rK (qc0 s.data.toList st.after).kind),.int .i64 (qc2 s.data.toList st.after:Nat),.int .i64 (if(qc0 s.data.toList st.after).kind=1 then 0 else((qd5 s.data.toList st.after:Nat):Int)),.string (BS (if(qc0 s.data.toList st.after).kind=1 then[] else rS (qc0 s.data.toList st.after))),.int .i64 (if(qc0 s.data.toList st.after).kind=1 then 0 else(qc0 s.data.toList st.after).num)]
 split
 ·rename_i h;rw[h];rfl
 ·rfl
theorem Fine.step_place(h:Fine s st)(h0:st.tk.kind≠0):st.place<(j4 s st).place:=Nat.lt_of_lt_of_le (h.long h0) (qk6 s st)
theorem qb4(h:RT w rb s ns j st)(hs:s.size<=200)(h0:st.tk.kind≠0)(h1:st.tk.kind≠1):
  Calls prog 172 #[.pointer (some ⟨rb,0,none⟩)] w λe w'=>e=.returned (.tuple #[])/\TKept rb w w'/\RT w' rb s ns (j+1) (j4 s st):=by
 obtain⟨nv,hT,hN,hF,hj⟩:=h;have hp:=hF.step_place h0;rw[show tkZ st=(st.after:Int) by unfold tkZ;rw[if_neg h1]]at hT;refine(qr6 hT hs hF.after (qs0 s st)).mono ?_;rintro e w'⟨rfl,G7,hK⟩;exact⟨rfl,TKept.of_kept hK (G7.c0.trans hT.c0.symm),nv,G7,hN.kept (hT.c0.trans G7.c0.symm) hK,qa7 s st hF.after,by omega⟩
theorem qy6(h:RT w rb s ns j st)(hs:s.size<=200)(en pl:Int)(he:en≠0):
  Calls prog 174 #[.pointer (some ⟨rb,0,none⟩),.int .i64 en,.int .i64 pl] w λe w'=>e=.returned (.tuple #[])/\TKept rb w w'/\RE w' rb s en pl st.op 200:=by
 obtain⟨nv,hT,hN,hF,hj⟩:=h;have:=hF.place;refine(qu5 hT en pl).mono ?_;rintro e w'⟨rfl,G7,hK⟩;exact⟨rfl,TKept.of_kept hK (G7.c0.trans hT.c0.symm),nv,_,ns,G7,he,hN.kept (hT.c0.trans G7.c0.symm) hK,by omega⟩
theorem vc9(h:RT w rb s ns j st)(hs:s.size<=200)(c:Int){kind:Int}{X:ByteArray}(hX:kwT c=X.data.toList)(h5:5<=c)(h28:c<=28)(hk:rK c=kind)(hc:st.tk.kind=c):
  Calls prog 343 #[.pointer (some ⟨rb,0,none⟩),.int .i64 kind,.string X] w λe w'=>e=.returned (.tuple #[])/\TKept rb w w'/\RT w' rb s ns (j+1) (j4 s st):=by
 have hi:=isK (st:=st) hX h5 h28 kind hk;rw[hc]at hi;obtain⟨nv,hT,hN,hF,hj⟩:=h;have hp:=hF.step_place (by omega);rw[show tkZ st=(st.after:Int) by unfold tkZ;rw[if_neg (by omega)]]at hT;have hb:(rK c==kind)=true/\((BS (tkS st)).toList==X.toList)=true:=by simpa using hi
 refine(js4 hT hs hF.after (qs0 s st) kind X (by rw[hc];exact hk) hb.2).mono ?_;rintro e w'⟨rfl,G7,hK⟩;exact⟨rfl,TKept.of_kept hK (G7.c0.trans hT.c0.symm),nv,G7,hN.kept (hT.c0.trans G7.c0.symm) hK,qa7 s st hF.after,by omega⟩
theorem qu6(h:RT w rb s ns j st)(hs:s.size<=200)(c:Int){kind:Int}{X:ByteArray}(hX:kwT c=X.data.toList)(h5:5<=c)(h28:c<=28)(hk:rK c=kind)(hc:¬st.tk.kind=c):
  Calls prog 343 #[.pointer (some ⟨rb,0,none⟩),.int .i64 kind,.string X] w λe w'=>e=.returned (.tuple #[])/\TKept rb w w'/\RE w' rb s 2 st.place st.op 200:=by
 have hi:=isK (st:=st) hX h5 h28 kind hk;rw[show(st.tk.kind==c)=false from beq_eq_false_iff_ne.2 hc]at hi;obtain⟨nv,hT,hN,hF,hj⟩:=h;have:=hF.place;refine(vx9 hT kind X hi).mono ?_;rintro e w'⟨rfl,G7,hK⟩;exact⟨rfl,TKept.of_kept hK (G7.c0.trans hT.c0.symm),nv,_,ns,G7,by decide,hN.kept (hT.c0.trans G7.c0.symm) hK,by omega⟩
theorem vy0(h:RE w rb s en pl op m){kind:Int}{X:ByteArray}(hk:kind≠1):
  Calls prog 343 #[.pointer (some ⟨rb,0,none⟩),.int .i64 kind,.string X] w λe w'=>e=.returned (.tuple #[])/\TKept rb w w'/\RE w' rb s en pl op m:=by
 obtain⟨nv,a,ns,hT,he,hN,hm⟩:=h;refine(je8 hT he kind X hk).mono ?_;rintro e w'⟨rfl,G7,hK⟩;exact⟨rfl,TKept.of_kept hK (G7.c0.trans hT.c0.symm),nv,_,ns,G7,he,hN.kept (hT.c0.trans G7.c0.symm) hK,hm⟩
def rnV(x:RN)(iv lv:Value):Value:=.agg #[.string (BS x.op),.int .i64 x.at',iv,.string (BS x.str),.string (BS x.esc),lv,.int .i64 x.num,.bool x.neg,.int .i64 x.cls]
theorem vx3(h:RT w rb s ns (j+1) st)(hs:s.size<=200)(x:RN){iv lv:Value}(aB:RowOf w rb 3 iv (vb2 x.ins))(t8:RowOf w rb 9 lv (qa1 x.texts)):
  Calls prog 216 #[.pointer (some ⟨rb,0,none⟩),rnV x iv lv] w λe w'=>e=.returned (.int .i64 ns.length)/\TKept rb w w'/\RT w' rb s (ns++[x]) j st:=by
 obtain⟨nv,hT,hN,hF,hj⟩:=h;have:=hF.place;refine(vc5 hT hN x aB t8 (by omega)).mono ?_;rintro e w'⟨rfl,hK,nv',G7,kP⟩;exact⟨rfl,hK,nv',G7,kP,hF,by simp;omega⟩
theorem vx2(h:RE w rb s en pl op m)(hm:m<=1000)(x:RN){iv lv:Value}(aB:RowOf w rb 3 iv (vb2 x.ins))(t8:RowOf w rb 9 lv (qa1 x.texts)):
  Calls prog 216 #[.pointer (some ⟨rb,0,none⟩),rnV x iv lv] w λe w'=>∃i:Nat,e=.returned (.int .i64 i)/\TKept rb w w'/\RE w' rb s en pl op (m+1):=by
 obtain⟨nv,a,ns,hT,he,hN,V9⟩:=h;refine(vc5 hT hN x aB t8 (by omega)).mono ?_;rintro e w'⟨rfl,hK,nv',G7,kP⟩;exact⟨ns.length,rfl,hK,nv',_,_,G7,he,kP,by simp;omega⟩
end
end
end Go.Proofs.YtfkcaldjphakpaaGreatDoor
