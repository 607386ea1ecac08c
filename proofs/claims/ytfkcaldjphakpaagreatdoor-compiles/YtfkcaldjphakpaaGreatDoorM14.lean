/- The document's answer. -/
import Derived.Test.YtfkcaldjphakpaaGreatDoorM13
import Derived.Test.YtfkcaldjphakpaaGreatDoorM05
set_option maxHeartbeats 4000000
namespace Go.Proofs.YtfkcaldjphakpaaGreatDoor
open Go.RowKit Go.Proofs.Tryz
section
def qb7(o:Int):List UInt8:=
 if o=0 then[110,97,109,101] else if o=1 then[110,117,109,98,101,114] else if o=2 then[116,101,120,116] else if o=3 then[84,82,85,69] else if o=4 then[70,65,76,83,69]
 else if o=5 then[78,79,84] else if o=6 then[65,78,68] else if o=7 then[79,82] else if o=8 then[61] else if o=9 then[60,62] else if o=10 then[60] else if o=11 then[60,61] else if o=12 then[62] else if o=13 then[62,61]
 else if o=14 then[112] else if o=15 then[110] else if o=16 then[43] else if o=17 then[45] else if o=18 then[42] else if o=19 then[47] else if o=20 then[66,69,84,87,69,69,78] else if o=21 then[73,78] else if o=22 then[76,73,75,69] else[78,85,76,76]
def qi5(p:Pay)(ins:List Nat)(neg:Bool):RN:=⟨qb7 p.op,p.place,ins,p.str,p.esc,p.texts,p.num,neg,0⟩
inductive Flat:Ast->Nat->List RN->Prop
 | leaf (p:Pay) (off:Nat):Flat (.leaf p) off [qi5 p [] false]
 | un (p:Pay) {x:Ast} {off:Nat} {l:List RN}:Flat x off l->Flat (.un p x) off (l++[qi5 p [off+l.length - 1] false])
 | bin (p:Pay) {x y:Ast} {off:Nat} {l k:List RN}:Flat x off l->Flat y (off+l.length) k->Flat (.bin p x y) off (l++k++[qi5 p [off+l.length - 1,off+l.length+k.length - 1] false])
 | tri (p:Pay) {x y z:Ast} {off:Nat} {l k m:List RN}:Flat x off l->Flat y (off+l.length) k->Flat z (off+l.length+k.length) m ->
   Flat (.tri p x y z) off (l++k++m++[qi5 p [off+l.length - 1,off+l.length+k.length - 1,off+l.length+k.length+m.length - 1] false])
 | neg1 (pl:Int) (q:Pay) {x:Ast} {off:Nat} {l:List RN}:(q.op=21\/q.op=22\/q.op=23)->Flat x off l->Flat (.un ⟨5,pl,0,[],[],[]⟩ (.un q x)) off (l++[qi5 q [off+l.length - 1] true])
 | neg3 (pl:Int) (q:Pay) {x y z:Ast} {off:Nat} {l k m:List RN}:q.op=20->Flat x off l->Flat y (off+l.length) k->Flat z (off+l.length+k.length) m ->
   Flat (.un ⟨5,pl,0,[],[],[]⟩ (.tri q x y z)) off (l++k++m++[qi5 q [off+l.length - 1,off+l.length+k.length - 1,off+l.length+k.length+m.length - 1] true])
theorem Flat.pos{t:Ast}{off:Nat}{l:List RN}(h:Flat t off l):0<l.length:=by cases h<;>simp<;>omega
def REnds(rb:Nat)(s:ByteArray)(w:World)(op m:Nat)(ns:List RN)(j lo:Nat)(r:Res)(e:Ending)(w':World):Prop:=
 TKept rb w w'/\match r with
 | .ok t st=>∃new,e=.returned (.int .i64 ((ns.length+new.length - 1:Nat):Int))/\RT w' rb s (ns++new) j st/\st.op=op/\lo<=st.place/\Flat t ns.length new
 | .err en pl=>∃i:Nat,e=.returned (.int .i64 i)/\RE w' rb s en pl op m
def RReads(K:Nat)(rb:Nat)(s:ByteArray)(op m:Nat)(f:St->Res):Prop:=
 ∀(w:World) (st:St) (ns:List RN) (j:Nat),RT w rb s ns j st->st.op=op->Calls prog K #[.pointer (some ⟨rb,0,none⟩)] w (REnds rb s w op m ns j st.place (f st))
def qn6(K:Nat)(rb:Nat)(s:ByteArray):Prop:=
 ∀(w:World) (en pl:Int) (op m:Nat),RE w rb s en pl op m->Calls prog K #[.pointer (some ⟨rb,0,none⟩)] w λe w'=>∃i:Nat,e=.returned (.int .i64 i)/\TKept rb w w'/\RE w' rb s en pl op m
theorem REnds.more{rb:Nat}{s:ByteArray}{w w':World}{op m m':Nat}{ns:List RN}{j lo lo':Nat}{r:Res}{e:Ending}(h:REnds rb s w op m ns j lo r e w')(hm:m<=m')(hl:lo'<=lo):REnds rb s w op m' ns j lo' r e w':=by
 obtain⟨hk,h⟩:=h;refine⟨hk, ?_⟩
 cases r with
 | ok t st=>obtain⟨new,h1,h2,h3,h4,h5⟩:=h;exact⟨new,h1,h2,h3,by omega,h5⟩
 | err en pl=>obtain⟨i,h1,h2⟩:=h;exact⟨i,h1,h2.more hm⟩
theorem TrC.setOp{w:World}{rb:Nat}{nv:Value}{s:ByteArray}{k a z:Int}{S:ByteArray}{n op er at':Int}(h:TrC w rb nv s k a z S n op er at')(o:Int):TrC (w.setCell ⟨rb,7,none⟩ (.int .i64 o)) rb nv s k a z S n o er at':=by
 obtain⟨lt,c0,c1,c2,c3,c4,c5,c6,c7,c8,c9,fz⟩:=h;refine⟨by simpa using lt, ?_, ?_, ?_, ?_, ?_, ?_, ?_, ?_, ?_, ?_,λj=>?_⟩
 all_goals simp[go_sem,c0,c1,c2,c3,c4,c5,c6,c7,c8,c9,fz]
theorem RT.setOp{w:World}{rb:Nat}{s:ByteArray}{ns:List RN}{j:Nat}{st:St}(h:RT w rb s ns j st)(n:Nat)(o:Int)(ho:o=n):RT (w.setCell ⟨rb,7,none⟩ (.int .i64 o)) rb s ns j { st with op:=n }/\TKept rb w (w.setCell ⟨rb,7,none⟩ (.int .i64 o)):=by
 subst ho;obtain⟨nv,hT,hN,hF,hj⟩:=h;have hK:=(Kept.refl rb w).setCell 7 (.int .i64 n);have G7:=hT.setOp n;exact⟨⟨nv,G7,hN.kept (hT.c0.trans G7.c0.symm) hK,⟨hF.place,hF.after,hF.long⟩,hj⟩,TKept.of_kept hK (G7.c0.trans hT.c0.symm)⟩
theorem RE.setOp{w:World}{rb:Nat}{s:ByteArray}{en pl:Int}{op m:Nat}(h:RE w rb s en pl op m)(n:Nat)(o:Int)(ho:o=n):RE (w.setCell ⟨rb,7,none⟩ (.int .i64 o)) rb s en pl n m/\TKept rb w (w.setCell ⟨rb,7,none⟩ (.int .i64 o)):=by
 subst ho;obtain⟨nv,a,ns,hT,he,hN,hm⟩:=h;have hK:=(Kept.refl rb w).setCell 7 (.int .i64 n);have G7:=hT.setOp n;exact⟨⟨nv,a,ns,G7,he,hN.kept (hT.c0.trans G7.c0.symm) hK,hm⟩,TKept.of_kept hK (G7.c0.trans hT.c0.symm)⟩
theorem RT.c7{w:World}{rb:Nat}{s:ByteArray}{ns:List RN}{j:Nat}{st:St}(h:RT w rb s ns j st):w.cell? ⟨rb,7,none⟩=some (.int .i64 st.op)/\∀i,w.frozen? ⟨rb,i,none⟩=false:=by obtain⟨nv,h,_⟩:=h;exact⟨h.c7,h.fz⟩
theorem RE.c7{w:World}{rb:Nat}{s:ByteArray}{en pl:Int}{op m:Nat}(h:RE w rb s en pl op m):w.cell? ⟨rb,7,none⟩=some (.int .i64 op)/\∀i,w.frozen? ⟨rb,i,none⟩=false:=by obtain⟨nv,a,ns,h,_⟩:=h;exact⟨h.c7,h.fz⟩
theorem RT.c8{w:World}{rb:Nat}{s:ByteArray}{ns:List RN}{j:Nat}{st:St}(h:RT w rb s ns j st):w.cell? ⟨rb,8,none⟩=some (.int .i64 0):=by obtain⟨nv,h,_⟩:=h;exact h.c8
theorem RE.c8{w:World}{rb:Nat}{s:ByteArray}{en pl:Int}{op m:Nat}(h:RE w rb s en pl op m):w.cell? ⟨rb,8,none⟩=some (.int .i64 en)/\(en==0)=false:=by obtain⟨nv,a,ns,h,he,_⟩:=h;exact⟨h.c8,beq_eq_false_iff_ne.2 he⟩
theorem RT.ct{w:World}{rb:Nat}{s:ByteArray}{ns:List RN}{j:Nat}{st:St}(h:RT w rb s ns j st):w.cell? ⟨rb,2,none⟩=some (.int .i64 (rK st.tk.kind))/\w.cell? ⟨rb,3,none⟩=some (.int .i64 st.place)/\w.cell? ⟨rb,4,none⟩=some (.int .i64 (tkZ st))/\w.cell? ⟨rb,5,none⟩=some (.string (BS (tkS st)))/\w.cell? ⟨rb,6,none⟩=some (.int .i64 (tkN st)):=by obtain⟨nv,h,_⟩:=h;exact⟨h.c2,h.c3,h.c4,h.c5,h.c6⟩
section
variable {w:World} {rb:Nat} {s:ByteArray} {ns:List RN} {j:Nat} {st:St} {en pl:Int} {op m:Nat}
theorem qm1(h:RT w rb s ns j st)(hs:s.size<=200)(h0:st.tk.kind≠0)(h1:st.tk.kind≠1)(H6:st.op<12):
  Calls prog 295 #[.pointer (some ⟨rb,0,none⟩)] w λe w'=>e=.returned (.tuple #[])/\TKept rb w w'/\RT w' rb s ns (j+1) (qk2 s st):=by
 obtain⟨c7,fz⟩:=h.c7;have A1:=h.lt;obtain⟨h2,P5⟩:=h.setOp (st.op+1) ((st.op:Int)+1) (by omega);have E9:=j3 P5;have ST:=j3 (qb4 h2 hs h0 h1);clear h h2 P5;go_enter func295,ntmps295
 go_wp2_with(go_at_call 172;refine(q9 ST).mono ?_;rintro e w1⟨rfl,A0,A4⟩;have D8:=j3 A0;have D5:=j3 A4;clear A0 A4)
 go_end0
 exact⟨rfl,(q9 E9).trans (q9 D8),q9 D5⟩
theorem vc7(h:RT w rb s ns j st)(hs:s.size<=200)(H6:st.op=12):
  Calls prog 295 #[.pointer (some ⟨rb,0,none⟩)] w λe w'=>e=.returned (.tuple #[])/\TKept rb w w'/\RE w' rb s 3 st.place 13 200:=by
 obtain⟨c7,fz⟩:=h.c7;obtain⟨_,c3,_⟩:=h.ct;have A1:=h.lt;rw[H6]at c7;obtain⟨h2,P5⟩:=h.setOp 13 13 (by omega);have E9:=j3 P5;have FL:=j3 (qy6 h2 hs 3 st.place (by decide));clear h h2 P5;go_enter func295,ntmps295
 go_wp2_with(go_at_call 174;refine(q9 FL).mono ?_;rintro e w1⟨rfl,A0,A4⟩;have D8:=j3 A0;have D5:=j3 A4;clear A0 A4)
 refine bodyPost_ret (by simp[results,results295,go_sem]) rfl ⟨rfl,(q9 E9).trans (q9 D8),q9 D5⟩
end
end
section
theorem RE.cells{w:World}{rb:Nat}{s:ByteArray}{en pl:Int}{op m:Nat}(h:RE w rb s en pl op m):∃a,w.cell? ⟨rb,2,none⟩=some (.int .i64 1)/\w.cell? ⟨rb,3,none⟩=some (.int .i64 a)/\w.cell? ⟨rb,4,none⟩=some (.int .i64 0)/\w.cell? ⟨rb,5,none⟩=some (.string ⟨#[]⟩)/\w.cell? ⟨rb,6,none⟩=some (.int .i64 0):=by obtain⟨nv,a,ns,h,_⟩:=h;exact⟨a,h.c2,h.c3,h.c4,h.c5,h.c6⟩
theorem vp4(rb:Nat)(s:ByteArray):qn6 351 rb s:=by
 intro w en pl op m h;obtain⟨a,c2,c3,c4,c5,c6⟩:=h.cells;obtain⟨c8,dJ⟩:=h.c8;have A1:=h.lt;have n0:¬w.heap.size=rb:=by omega
 have n1:¬rb=w.heap.size:=by omega
 have H:=j3 h;clear h;go_enter func351,ntmps351
 go_wp2_with fail
 go_ret;have hb:∀o,Below w.heap.size w (w.alloc o):=λo=>(Below.refl _ _).alloc (Nat.le_refl _) o
 exact⟨0,rfl,TKept.of_below (hb _) A1,(q9 H).below (hb _)⟩
theorem jd7(rb:Nat)(s:ByteArray)(hC:qn6 351 rb s):qn6 342 rb s:=by
 intro w en pl op m h;have HC:=j3 (hC w en pl op m h);clear h hC;go_enter func342,ntmps342
 go_wp2_with(go_at_call 351;refine(q9 HC).mono ?_;rintro e w1⟨i,rfl,A0,A4⟩;obtain⟨c8,dJ⟩:=A4.c8;have D8:=j3 A0;have D5:=j3 A4;clear A0 A4)
 go_loopw [3] (λv wr=>v=.int .i64 (i:Int)/\wr=w1) (λ_ _=>0)
 case atStart=>exact⟨rfl,rfl⟩
 case round=>
  obtain⟨rfl,rfl⟩:=hrel
  go_wp2_with fail
  go_ret;exact⟨i,rfl,q9 D8,q9 D5⟩
theorem sum_errs(rb:Nat)(s:ByteArray)(hC:qn6 342 rb s):qn6 320 rb s:=by
 intro w en pl op m h;have HC:=j3 (hC w en pl op m h);clear h hC;go_enter func320,ntmps320
 go_wp2_with(go_at_call 342;refine(q9 HC).mono ?_;rintro e w1⟨i,rfl,A0,A4⟩;obtain⟨c8,dJ⟩:=A4.c8;have D8:=j3 A0;have D5:=j3 A4;clear A0 A4)
 go_loopw [3] (λv wr=>v=.int .i64 (i:Int)/\wr=w1) (λ_ _=>0)
 case atStart=>exact⟨rfl,rfl⟩
 case round=>
  obtain⟨rfl,rfl⟩:=hrel
  go_wp2_with fail
  go_ret;exact⟨i,rfl,q9 D8,q9 D5⟩
theorem both_errs(rb:Nat)(s:ByteArray)(hC:qn6 259 rb s):qn6 214 rb s:=by
 intro w en pl op m h;have HC:=j3 (hC w en pl op m h);clear h hC;go_enter func214,ntmps214
 go_wp2_with(go_at_call 259;refine(q9 HC).mono ?_;rintro e w1⟨i,rfl,A0,A4⟩;obtain⟨c8,dJ⟩:=A4.c8;have D8:=j3 A0;have D5:=j3 A4;clear A0 A4)
 go_loopw [3] (λv wr=>v=.int .i64 (i:Int)/\wr=w1) (λ_ _=>0)
 case atStart=>exact⟨rfl,rfl⟩
 case round=>
  obtain⟨rfl,rfl⟩:=hrel
  go_wp2_with fail
  go_ret;exact⟨i,rfl,q9 D8,q9 D5⟩
theorem jj9(rb:Nat)(s:ByteArray)(hC:qn6 214 rb s):qn6 173 rb s:=by
 intro w en pl op m h;have HC:=j3 (hC w en pl op m h);clear h hC;go_enter func173,ntmps173
 go_wp2_with(go_at_call 214;refine(q9 HC).mono ?_;rintro e w1⟨i,rfl,A0,A4⟩;obtain⟨c8,dJ⟩:=A4.c8;have D8:=j3 A0;have D5:=j3 A4;clear A0 A4)
 go_loopw [3] (λv wr=>v=.int .i64 (i:Int)/\wr=w1) (λ_ _=>0)
 case atStart=>exact⟨rfl,rfl⟩
 case round=>
  obtain⟨rfl,rfl⟩:=hrel
  go_wp2_with fail
  go_ret;exact⟨i,rfl,q9 D8,q9 D5⟩
theorem test_errs(rb:Nat)(s:ByteArray)(hC:qn6 320 rb s):qn6 294 rb s:=by
 intro w en pl op m h;obtain⟨a,c2,c3,c4,c5,c6⟩:=h.cells;have HC:=j3 (hC w en pl op m h);clear h hC;go_enter func294,ntmps294
 go_wp2_with(go_at_call 320;refine(q9 HC).mono ?_;rintro e w1⟨i,rfl,A0,A4⟩;obtain⟨c8,dJ⟩:=A4.c8;have D8:=j3 A0;have D5:=j3 A4;clear A0 A4)
 go_ret;exact⟨i,rfl,q9 D8,q9 D5⟩
theorem jj7(rb:Nat)(s:ByteArray)(hC:qn6 294 rb s):qn6 259 rb s:=by
 intro w en pl op m h;have HI:=j3 (ris_re h (kind:=6) (X:=⟨#[78,79,84]⟩) (by decide));have HC:=j3 (hC w en pl op m h);clear h hC;go_enter func259,ntmps259
 go_wp2_with(first|(go_at_call 215;refine(q9 HI).mono ?_;rintro e w1⟨rfl,rfl⟩)|(go_at_call 294;refine(q9 HC).mono ?_;rintro e w1⟨i,rfl,A0,A4⟩;have D8:=j3 A0;have D5:=j3 A4;clear A0 A4))
 go_ret;exact⟨i,rfl,q9 D8,q9 D5⟩
end
section
section
variable {w:World} {rb:Nat} {s:ByteArray} {ns:List RN} {j:Nat} {st:St} {en pl:Int} {op m:Nat}
theorem RowOf.no(w:World)(rb:Nat)(ty:TypeId):RowOf w rb ty (.slice none 0 0) []:=.inl ⟨rfl,rfl⟩
theorem RowOf.made{w:World}{rb:Nat}(A1:rb<w.heap.size)(hf:∀o,¬vb1 (w.alloc o) rb w.heap.size)(ty:TypeId)(c:Array Value)(n:Nat)(hn:n=c.size):RowOf (w.alloc (.cells c ty)) rb ty (.slice (some ⟨w.heap.size,0,none⟩) n n) c.toList:=by
 subst hn;exact .inr ⟨w.heap.size,c.size,c,(0,0),rfl,A1,heap_alloc_new w _,hf _,λj u h=>by simpa using h⟩
theorem qf3{w w':World}{rb:Nat}(A1:rb<w.heap.size){o:Obj}(h:TKept rb (w.alloc o) w'):TKept rb w w':=(TKept.of_below ((Below.refl w.heap.size w).alloc (Nat.le_refl _) o) A1).trans h
theorem RT.alloc(h:RT w rb s ns j st)(o:Obj):RT (w.alloc o) rb s ns j st:=h.below ((Below.refl _ _).alloc (Nat.le_refl _) o)
theorem RE.alloc(h:RE w rb s en pl op m)(o:Obj):RE (w.alloc o) rb s en pl op m:=h.below ((Below.refl _ _).alloc (Nat.le_refl _) o)
theorem qw9(h:RT w rb s ns (j+1) st)(hs:s.size<=200)(p:Pay){N S:ByteArray}(hN:BS (qb7 p.op)=N)(hS:BS p.str=S)(he:p.esc=[])(ht:p.texts=[]):
  Calls prog 216 #[.pointer (some ⟨rb,0,none⟩),.agg #[.string N,.int .i64 p.place,.slice none 0 0,.string S,.string ⟨#[]⟩,.slice none 0 0,.int .i64 p.num,.bool false,.int .i64 0]] w
   λe w'=>e=.returned (.int .i64 ns.length)/\TKept rb w w'/\RT w' rb s (ns++[qi5 p [] false]) j st:=by
 have:=vx3 h hs (qi5 p [] false) (iv:=.slice none 0 0) (lv:=.slice none 0 0) (RowOf.no _ _ _) (by show RowOf _ _ _ _ (qa1 p.texts);rw[ht];exact RowOf.no _ _ _);unfold rnV at this;have e1:(qi5 p [] false).op=qb7 p.op:=rfl;have e2:(qi5 p [] false).str=p.str:=rfl;have e3:(qi5 p [] false).esc=p.esc:=rfl;rw[e1,e2,e3,hN,hS,he]at this;exact this
theorem jn6(h:RT w rb s ns (j+1) st)(hs:s.size<=200)(p:Pay)(i:Nat){N:ByteArray}(hN:BS (qb7 p.op)=N)(hS:p.str=[])(he:p.esc=[])(ht:p.texts=[]){g:Nat}(hg:g=w.heap.size):
  Calls prog 216 #[.pointer (some ⟨rb,0,none⟩),.agg #[.string N,.int .i64 p.place,.slice (some ⟨g,0,none⟩) 1 1,.string ⟨#[]⟩,.string ⟨#[]⟩,.slice none 0 0,.int .i64 p.num,.bool false,.int .i64 0]] (w.alloc (.cells #[.int .i64 i] 3))
   λe w'=>e=.returned (.int .i64 ns.length)/\TKept rb w w'/\RT w' rb s (ns++[qi5 p [i] false]) j st:=by
 subst hg;have:=vx3 (h.alloc (.cells #[.int .i64 i] 3)) hs (qi5 p [i] false) (iv:=.slice (some ⟨w.heap.size,0,none⟩) 1 1) (lv:=.slice none 0 0) (RowOf.made h.lt h.fresh _ _ 1 rfl) (by show RowOf _ _ _ _ (qa1 p.texts);rw[ht];exact RowOf.no _ _ _);unfold rnV at this;have e1:(qi5 p [i] false).op=qb7 p.op:=rfl;have e2:(qi5 p [i] false).str=p.str:=rfl;have e3:(qi5 p [i] false).esc=p.esc:=rfl;rw[e1,e2,e3,hN,hS,he]at this;refine this.mono ?_;rintro e w'⟨rfl,hk,hr⟩;exact⟨rfl,qf3 h.lt hk,hr⟩
theorem qu3(h:RT w rb s ns (j+1) st)(hs:s.size<=200)(p:Pay)(i k:Nat){N:ByteArray}(hN:BS (qb7 p.op)=N)(hS:p.str=[])(he:p.esc=[])(ht:p.texts=[]){g:Nat}(hg:g=w.heap.size):
  Calls prog 216 #[.pointer (some ⟨rb,0,none⟩),.agg #[.string N,.int .i64 p.place,.slice (some ⟨g,0,none⟩) 2 2,.string ⟨#[]⟩,.string ⟨#[]⟩,.slice none 0 0,.int .i64 p.num,.bool false,.int .i64 0]] (w.alloc (.cells #[.int .i64 i,.int .i64 k] 3))
   λe w'=>e=.returned (.int .i64 ns.length)/\TKept rb w w'/\RT w' rb s (ns++[qi5 p [i,k] false]) j st:=by
 subst hg;have:=vx3 (h.alloc (.cells #[.int .i64 i,.int .i64 k] 3)) hs (qi5 p [i,k] false) (iv:=.slice (some ⟨w.heap.size,0,none⟩) 2 2) (lv:=.slice none 0 0) (RowOf.made h.lt h.fresh _ _ 2 rfl) (by show RowOf _ _ _ _ (qa1 p.texts);rw[ht];exact RowOf.no _ _ _);unfold rnV at this;have e1:(qi5 p [i,k] false).op=qb7 p.op:=rfl;have e2:(qi5 p [i,k] false).str=p.str:=rfl;have e3:(qi5 p [i,k] false).esc=p.esc:=rfl;rw[e1,e2,e3,hN,hS,he]at this;refine this.mono ?_;rintro e w'⟨rfl,hk,hr⟩;exact⟨rfl,qf3 h.lt hk,hr⟩
theorem qs7(h:RE w rb s en pl op m)(hm:m<=1000)(N:List UInt8)(a:Int)(i:Nat){NB:ByteArray}(hN:BS N=NB){g:Nat}(hg:g=w.heap.size):
  Calls prog 216 #[.pointer (some ⟨rb,0,none⟩),.agg #[.string NB,.int .i64 a,.slice (some ⟨g,0,none⟩) 1 1,.string ⟨#[]⟩,.string ⟨#[]⟩,.slice none 0 0,.int .i64 0,.bool false,.int .i64 0]] (w.alloc (.cells #[.int .i64 i] 3))
   λe w'=>∃i:Nat,e=.returned (.int .i64 i)/\TKept rb w w'/\RE w' rb s en pl op (m+1):=by
 subst hg;subst hN;refine(vx2 (h.alloc (.cells #[.int .i64 i] 3)) hm ⟨N,a,[i],[],[],[],0,false,0⟩ (iv:=.slice (some ⟨w.heap.size,0,none⟩) 1 1) (lv:=.slice none 0 0) (RowOf.made h.lt h.fresh _ _ 1 rfl) (RowOf.no _ _ _)).mono ?_;rintro e w'⟨k,rfl,hk,hr⟩;exact⟨k,rfl,qf3 h.lt hk,hr⟩
theorem qq8(h:RE w rb s en pl op m)(hm:m<=1000)(N:List UInt8)(a:Int)(i k:Nat){NB:ByteArray}(hN:BS N=NB){g:Nat}(hg:g=w.heap.size):
  Calls prog 216 #[.pointer (some ⟨rb,0,none⟩),.agg #[.string NB,.int .i64 a,.slice (some ⟨g,0,none⟩) 2 2,.string ⟨#[]⟩,.string ⟨#[]⟩,.slice none 0 0,.int .i64 0,.bool false,.int .i64 0]] (w.alloc (.cells #[.int .i64 i,.int .i64 k] 3))
   λe w'=>∃i:Nat,e=.returned (.int .i64 i)/\TKept rb w w'/\RE w' rb s en pl op (m+1):=by
 subst hg;subst hN;refine(vx2 (h.alloc (.cells #[.int .i64 i,.int .i64 k] 3)) hm ⟨N,a,[i,k],[],[],[],0,false,0⟩ (iv:=.slice (some ⟨w.heap.size,0,none⟩) 2 2) (lv:=.slice none 0 0) (RowOf.made h.lt h.fresh _ _ 2 rfl) (RowOf.no _ _ _)).mono ?_;rintro e w'⟨k,rfl,hk,hr⟩;exact⟨k,rfl,qf3 h.lt hk,hr⟩
theorem TKept.mine{w w':World}{rb L:Nat}(h:TKept rb w w')(hL:L<w.heap.size)(ho:¬vb1 w rb L):(∀i,w'.cell? ⟨L,i,none⟩=w.cell? ⟨L,i,none⟩)/\(∀i,w'.frozen? ⟨L,i,none⟩=w.frozen? ⟨L,i,none⟩)/\w'.heap[L]?=w.heap[L]?/\¬vb1 w' rb L/\L<w'.heap.size:=
 ⟨λi=>World.cell?_of_block (w:=w) (w':=w') (a:=⟨L,i,none⟩) (h.block L hL ho),λi=>World.frozen?_of_block (w:=w) (w':=w') (a:=⟨L,i,none⟩) (h.block L hL ho),h.block L hL ho,λh2=>ho (h.own L hL h2),Nat.lt_of_lt_of_le hL h.size⟩
end
theorem opName_of{k:Int}(h:k=5\/k=6\/(16<=k/\k<=25)):qb7 (ve4 k)=kwT k:=by
 have:k=5\/k=6\/k=16\/k=17\/k=18\/k=19\/k=20\/k=21\/k=22\/k=23\/k=24\/k=25:=by omega
 rcases this with rfl|rfl|rfl|rfl|rfl|rfl|rfl|rfl|rfl|rfl|rfl|rfl<;>decide
theorem jg1{st:St}(h:5<=st.tk.kind):tkS st=kwT st.tk.kind:=by unfold tkS rS;rw[if_neg (by omega),if_neg (by omega)]
end
end Go.Proofs.YtfkcaldjphakpaaGreatDoor
