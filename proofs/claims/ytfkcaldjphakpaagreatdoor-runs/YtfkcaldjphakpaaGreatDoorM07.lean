/- The reader's state in -/
import Derived.Test.YtfkcaldjphakpaaGreatDoorM06
import Derived.Deep.RegionWith
import Derived.Deep.RegionHeld3
set_option maxHeartbeats 32000000
set_option maxRecDepth 100000
namespace Go.Proofs.YtfkcaldjphakpaaGreatDoor
open Go.RowKit Go.Proofs.Tryz
variable{p:Addr}{s:mu}{k:Int}{U l t:mv}{lo rb:Nat}{c:UInt8}{v:Value}{a w w' w1:World}
structure St where
 tk:Tk
 place:Nat
 after:Nat
 op:Nat
structure RdAt(w:World)(rb:Nat)(s:ByteArray)(st:St):Prop where
 c0:w.cell? ⟨rb,0,none⟩=some (.string s)
 c1:w.cell? ⟨rb,1,none⟩=some (.int .i64 st.tk.kind)
 c2:w.cell? ⟨rb,2,none⟩=some (.int .i64 st.place)
 c3:w.cell? ⟨rb,3,none⟩=some (.int .i64 st.tk.num)
 c4:w.cell? ⟨rb,4,none⟩=some (.string (BS st.tk.str))
 c5:w.cell? ⟨rb,5,none⟩=some (.int .i64 st.after)
 c6:w.cell? ⟨rb,6,none⟩=some (.int .i64 st.op)
 fz:∀j,w.frozen? ⟨rb,j,none⟩=false
structure Kept(rb:Nat)(w w':World):Prop where
 os:w'.os=w.os
 tape:w'.tape=w.tape
 output:w'.output=w.output
 size:w.heap.size<=w'.heap.size
 block:∀k,k<w.heap.size->k≠rb->w'.heap[k]?=w.heap[k]?
theorem Kept.refl(rb:Nat)(w:World):Kept rb w w:=⟨rfl,rfl,rfl,nt,λ_ _ _=>rfl⟩
theorem Kept.trans{b c:World}(h:Kept rb a b)(k:Kept rb b c):Kept rb a c:=
 ⟨k.os.trans h.os,k.tape.trans h.tape,k.output.trans h.output,bs h.size k.size,λi f e=>(k.block i (bg f h.size) e).trans (h.block i f e)⟩
theorem Kept.of_below(h:Xb w w'):Kept rb w w':=⟨h.os,h.tape,h.output,h.size,λk b _=>h.block k b⟩
theorem Kept.drew(h:Kept rb a w):Kept rb a w.drew:=⟨h.os,h.tape,h.output,h.size,h.block⟩
theorem Kept.setCell(h:Kept rb a w)(j:Nat)(u:Value):Kept rb a (w.setCell ⟨rb,j,none⟩ u):=by
 have b:=(Below.refl 0 w).setCell (p:=⟨rb,j,none⟩) (bj _) u;refine⟨b.os.trans h.os,b.tape.trans h.tape,b.output.trans h.output,bs h.size b.size,λk f e=>?_⟩;rw[bo w ⟨rb,j,none⟩ u k e];exact h.block k f e
theorem Kept.alloc(h:Kept rb a w)(o:Obj):Kept rb a (w.alloc o):=
 h.trans (Kept.of_below (nw.alloc nt o))
theorem RdAt.below{st:St}(h:RdAt w rb s st)(b:Xb w w')(e:rb<w.heap.size):RdAt w' rb s st:=
 ⟨(b.cell e).trans h.c0,(b.cell e).trans h.c1,(b.cell e).trans h.c2,(b.cell e).trans h.c3,(b.cell e).trans h.c4,(b.cell e).trans h.c5,(b.cell e).trans h.c6,λj=>(b.frozen e).trans (h.fz j)⟩
theorem ErrOk.kept(h:ErrOk w)(k:Kept rb w w')(g:3<rb):ErrOk w':=by
 obtain⟨b,ev,f,e⟩:=h;refine⟨bg b k.size,ev, ?_,e⟩;rw[aw (w:=w) (w':=w') (k.block _ b (by show 3≠rb;omega))];exact f
def qg(s:ByteArray)(st:St):St:=⟨qJ s.data.toList st.after,qN s.data.toList st.after,qZ s.data.toList st.after,st.op⟩
theorem xV(rb:Nat)(s:mu)(st:St)(w:World)(h:s.size<=140737488355328)(i:st.after<=s.size)(b:RdAt w rb s st)(B:rb<w.heap.size)(m:ErrOk w):
  nz 54 #[.pointer (some ⟨rb,0,none⟩)] w λe w'=>e=.returned (.tuple #[])/\RdAt w' rb s (qg s st)/\Kept rb w w':=by
 have A:=qd b;obtain⟨c0,G,F,E,c4,D,C,fz⟩:=b;go_enter func54,ntmps54
 go_wp2_with fail
 go_region_with(go_at_call 100;refine(vb3 s h st.after i _ (by exact m)).mono ?_;rintro e w1⟨rfl,g⟩;have f:Xb w w1:=((Below.refl w.heap.size w).drew).trans g;clear g;obtain⟨z,y,x,u,r,q,o,n⟩:=(q9 A).below f B;simp only[tkV])
 all_goals(go_wp2_with fail)
 all_goals go_end0
 all_goals refine⟨rfl,⟨?_, ?_, ?_, ?_, ?_, ?_, ?_, ?_⟩,(((((Kept.of_below f).setCell 1 _).setCell 2 _).setCell 3 _).setCell 4 _).setCell 5 _⟩
 all_goals first|(simp[go_sem,qg,z,y,x,u,r,q,o];done)|(intro j;simp[go_sem,n];done)
def qU(en pl:Int):Ending:=.panicked [{ v:=.iface 88 (.agg #[.int .i64 en,.int .i64 pl]),recovered:=false }]
theorem qdi(r:Value)(b:Int)(w:World):
  nz 103 #[r,.int .i64 b] w λe w'=>e=qU 2 b/\w'=w:=by
 go_enter func103,ntmps103
 go_wp2_with fail
 exact⟨rfl,rfl,rfl⟩
theorem RdAt.allocd{st:St}(h:RdAt w rb s st)(o:Obj)(b:rb<w.heap.size):RdAt (w.alloc o) rb s st:=
 h.below (nw.alloc nt o) b
theorem jG{W:World}(f:Kept rb W w1):(∀b o,b<W.heap.size->¬b=rb->w1.cell? ⟨b,o,none⟩=W.cell? ⟨b,o,none⟩)/\(∀b o,b<W.heap.size->¬b=rb->w1.frozen? ⟨b,o,none⟩=W.frozen? ⟨b,o,none⟩):=
 ⟨λb o h e=>aw (w:=W) (w':=w1) (a:=⟨b,o,none⟩) (f.block b h e),λb o h e=>cf (w:=W) (w':=w1) (a:=⟨b,o,none⟩) (f.block b h e)⟩
theorem Kept.later(h:Kept rb a w)(g:a.heap.size<=p.block)(u:Value):Kept rb a (w.setCell p u):=by
 have b:=(Below.refl 0 w).setCell (p:=p) (bj _) u;refine⟨b.os.trans h.os,b.tape.trans h.tape,b.output.trans h.output,bs h.size b.size,λk f e=>?_⟩;rw[bo w p u k mw];exact h.block k f e
theorem RdAt.setOther{st:St}(h:RdAt w rb s st)(g:¬p.block=rb)(u:Value):RdAt (w.setCell p u) rb s st:=by
 have e:=bo w p u rb mw;have b:∀j,(w.setCell p u).cell? ⟨rb,j,none⟩=w.cell? ⟨rb,j,none⟩:=λj=>aw (w:=w) (w':=w.setCell p u) (a:=⟨rb,j,none⟩) e
 have f:∀j,(w.setCell p u).frozen? ⟨rb,j,none⟩=w.frozen? ⟨rb,j,none⟩:=λj=>cf (w:=w) (w':=w.setCell p u) (a:=⟨rb,j,none⟩) e
 exact⟨(b 0).trans h.c0,(b 1).trans h.c1,(b 2).trans h.c2,(b 3).trans h.c3,(b 4).trans h.c4,(b 5).trans h.c5,(b 6).trans h.c6,λj=>(f j).trans (h.fz j)⟩
theorem qfu(rb:Nat)(s:mu)(st:St)(k:Int)(w:World)(r:s.size<=140737488355328)(x:st.after<=s.size)(g:RdAt w rb s st)(A:rb<w.heap.size)(y:ErrOk w)(i:st.tk.kind=k):
  nz 56 #[.pointer (some ⟨rb,0,none⟩),.int .i64 k] w λe w'=>e=.returned (tkV st.tk st.place)/\RdAt w' rb s (qg s st)/\Kept rb w w':=by
 have z:=qd g;obtain⟨c0,H,G,F,c4,E,D,fz⟩:=g;have u:(st.tk.kind != k)=false:=by rw[i];simp
 have n0:¬w.heap.size=rb:=mw;have B:¬w.heap.size+1=rb:=mw;clear i;go_enter func56,ntmps56
 go_wp2_with(go_at_call 54;refine(xV rb s st _ r x (z.below (qI _ _ _) A) my ((y.alloc _).alloc _)).mono ?_;rintro e w1⟨rfl,f,j⟩;obtain⟨b,C⟩:=jG j;have f:=qd f;have q:Xc w1 w.heap.size 0 (.int .i64 0):=(b _ 0 my n0).trans mx;have o:Xc w1 w.heap.size 1 (.int .i64 0):=(b _ 1 my n0).trans mx;have n:Xc w1 w.heap.size 2 (.int .i64 0):=(b _ 2 my n0).trans mx;have m:Xc w1 w.heap.size 3 (.string ⟨#[]⟩):=(b _ 3 my n0).trans mx)
 refine ak (by simp[go_sem,q,o,n,m]<;>rfl) rfl ⟨rfl, ?_, ?_⟩
 ·exact(((f.setOther (by simpa using n0) _).setOther (by simpa using n0) _).setOther (by simpa using n0) _).setOther (by simpa using n0) _
 ·exact(((((((Kept.refl rb w).alloc _).alloc _).trans j).later mx _).later mx _).later mx _).later mx _
theorem qmc(rb:Nat)(s:mu)(st:St)(k:Int)(w:World)(f:RdAt w rb s st)(o:rb<w.heap.size)(b:¬st.tk.kind=k):
  nz 56 #[.pointer (some ⟨rb,0,none⟩),.int .i64 k] w λe w'=>e=qU 2 st.place/\Kept rb w w':=by
 obtain⟨c0,n,m,j,c4,i,h,fz⟩:=f;have g:(st.tk.kind != k)=true:=by simpa using b
 clear b;go_enter func56,ntmps56
 go_wp2_with(go_at_call 103;refine(qdi _ _ _).mono ?_;rintro e w1⟨rfl,rfl⟩;simp only[qU])
 exact⟨rfl,rfl,((Kept.refl rb w).alloc _).alloc _⟩
theorem RdAt.setOp{st:St}(h:RdAt w rb s st)(n:Nat)(m:Int)(b:m=n):RdAt (w.setCell ⟨rb,6,none⟩ (.int .i64 m)) rb s { st with op:=n }:=by
 obtain⟨c0,o,i,g,c4,f,e,fz⟩:=h;subst b;exact⟨by simp[go_sem,c0],by simp[go_sem,o],by simp[go_sem,i],by simp[go_sem,g],by simp[go_sem,c4],by simp[go_sem,f],by simp[go_sem,e],λj=>by simp[go_sem,fz]⟩
theorem size_setCell(w:World)(p:Addr)(u:Value):(w.setCell p u).heap.size=w.heap.size:=mx
theorem qzy(rb:Nat)(s:mu)(st:St)(w:World)(u:s.size<=140737488355328)(y:st.after<=s.size)(g:RdAt w rb s st)(C:rb<w.heap.size)(i:ErrOk w)(z:3<rb)(K:st.op<12):
  nz 199 #[.pointer (some ⟨rb,0,none⟩)] w λe w'=>e=.returned (tkV st.tk st.place)/\RdAt w' rb s { qg s st with op:=st.op+1 }/\Kept rb w w':=by
 have A:=qd (g.setOp (st.op+1) ((st.op:Int)+1) mw);have j:=qd ((Kept.refl rb w).setCell 6 (.int .i64 ((st.op:Int)+1)));have B:=qd (i.kept j z);obtain⟨c0,J,I,H,c4,G,F,fz⟩:=g;have x:((st.op:Int)==12)=false:=ae.2 mw;have n0:¬w.heap.size=rb:=mw;have D:¬w.heap.size+1=rb:=mw;clear i;go_enter func199,ntmps199
 go_wp2_with fail
 refine(xV rb s { st with op:=st.op+1 } _ u y (A.below (qI _ _ _) (by rw[size_setCell];exact C)) my ((B.alloc _).alloc _)).mono ?_;rintro e w1⟨rfl,f,m⟩;obtain⟨b,E⟩:=jG m;have f:=qd f;have r:w1.cell? ⟨w.heap.size,0,none⟩=some (.int .i64 0):=(b _ 0 my n0).trans (by rw[bt _ _ _ mx,cd _ _ _ _ mx];rfl);have q:w1.cell? ⟨w.heap.size,1,none⟩=some (.int .i64 0):=(b _ 1 my n0).trans (by rw[bt _ _ _ mx,cd _ _ _ _ mx];rfl);have o:w1.cell? ⟨w.heap.size,2,none⟩=some (.int .i64 0):=(b _ 2 my n0).trans (by rw[bt _ _ _ mx,cd _ _ _ _ mx];rfl);have n:w1.cell? ⟨w.heap.size,3,none⟩=some (.string ⟨#[]⟩):=(b _ 3 my n0).trans (by rw[bt _ _ _ mx,cd _ _ _ _ mx];rfl)
 go_wp2_with fail
 refine ak (by simp[go_sem,r,q,o,n]<;>rfl) rfl ⟨rfl, ?_, ?_⟩
 ·exact(((f.setOther (by simpa using n0) _).setOther (by simpa using n0) _).setOther (by simpa using n0) _).setOther (by simpa using n0) _
 ·exact(((((((j.alloc _).alloc _).trans m).later mx _).later mx _).later mx _).later mx _)
theorem qzw(rb:Nat)(s:mu)(st:St)(w:World)(b:RdAt w rb s st)(q:rb<w.heap.size)(g:st.op=12):
  nz 199 #[.pointer (some ⟨rb,0,none⟩)] w λe w'=>e=qU 3 st.place/\Kept rb w w':=by
 obtain⟨c0,o,n,m,c4,j,i,fz⟩:=b;have f:((st.op:Int)==12)=true:=dg.2 mw;clear g;go_enter func199,ntmps199
 go_wp2_with fail
 exact⟨rfl,rfl,((Kept.refl rb w).alloc _).alloc _⟩
theorem vd2(rb:Nat)(s:mu)(st:St)(k:Int)(w:World)(h:s.size<=140737488355328)(j:st.after<=s.size)(f:RdAt w rb s st)(q:rb<w.heap.size)(m:ErrOk w)(g:st.tk.kind=k):
  nz 267 #[.pointer (some ⟨rb,0,none⟩),.int .i64 k] w λe w'=>e=.returned (.bool true)/\RdAt w' rb s (qg s st)/\Kept rb w w':=by
 have n:=qd f;obtain⟨c0,z,y,x,c4,u,r,fz⟩:=f;have i:(st.tk.kind != k)=false:=by rw[g];simp
 clear g;go_enter func267,ntmps267
 go_wp2_with(go_at_call 54;refine(xV rb s st _ h j n q m).mono ?_;rintro e w1⟨rfl,b,o⟩;have b:=qd b)
 go_ret;exact⟨rfl,q9 b,o⟩
theorem vhv(rb:Nat)(s:mu)(st:St)(k:Int)(w:World)(f:RdAt w rb s st)(b:¬st.tk.kind=k):
  nz 267 #[.pointer (some ⟨rb,0,none⟩),.int .i64 k] w λe w'=>e=.returned (.bool false)/\w'=w:=by
 obtain⟨c0,n,m,j,c4,i,h,fz⟩:=f;have g:(st.tk.kind != k)=true:=by simpa using b
 clear b;go_enter func267,ntmps267
 go_wp2_with fail
 go_ret;exact⟨rfl,rfl⟩
def KsAt(w:World)(b:Nat)(ks:List Int):Prop:=∀(j:Nat) (k:Int),ks[j]?=some k->w.cell? ⟨b,j,none⟩=some (.int .i64 k)
def qu5(ks:List Int)(x:Int)(j:Nat):Int:=match ks with
 | []=>-1
 | k::t=>if x==k then j else qu5 t x (j+1)
theorem qu6{ks:List Int}{x:Int}{j:Nat}(h:ks[j]?=some k):qu5 (ks.drop j) x j=if x==k then(j:Int) else qu5 (ks.drop (j+1)) x (j+1):=by
 obtain⟨b,e⟩:=au.1 h;rw[ce b,e];rfl
theorem vg6(ks:List Int)(x:Int):∀j:Nat,decide (0<=qu5 ks x j)=ks.contains x:=by
 induction ks with
 | nil=>intro j;rfl
 | cons k t ih=>
  intro j;rw[show qu5 (k::t) x j=if x==k then(j:Int) else qu5 t x (j+1) from rfl,mi]
  by_cases h:(x==k)=true
  ·rw[bh h,h,mn];exact de mw
  ·rw[aj h,ix.2 h,io];exact ih _
theorem qq9(b cap:Nat)(ks:List Int)(x:Int)(w:World)(u:ks.length<=8)(o:KsAt w b ks):
  nz 196 #[.slice (some ⟨b,0,none⟩) ks.length cap,.int .i64 x] w λe w'=>e=.returned (.int .i64 (qu5 ks x 0))/\w'=w:=by
 obtain⟨R,n⟩:∃r,qu5 ks x 0=r:=⟨_,rfl⟩;rw[n];have q:=qd n;clear n;go_enter func196,ntmps196
 go_wp2_with fail
 go_loop [5,8] (λ_ i=>∃j:Nat,j<=ks.length/\i=.int .i64 j/\Hid (R=qu5 (ks.drop j) x j)) (λ_ i=>ks.length - (intOf i).toNat)
 case atStart=>exact⟨0,bj _,rfl,qd (by rw[db,q9 q])⟩
 case round=>
  obtain⟨j,y,rfl,f⟩:=hrel
  by_cases A0:j<ks.length
  ·obtain⟨k,m⟩:∃k,ks[j]?=some k:=⟨_,ag A0⟩
   have z:=o j k m;have hd:=qu6 (x:=x) m
   cases hx:(x==k) with
   | true=>
    rw[hx,bh rfl]at hd;have g:Hid (R=j):=qd (by rw[q9 f,hd]);clear f hd m
    go_wp2_with fail
    go_ret;exact⟨j7 (by rw[q9 g]),rfl⟩
   | false=>
    rw[hx,aj mx]at hd;have g:Hid (R=qu5 (ks.drop (j+1)) x (j+1)):=qd (by rw[q9 f,hd]);clear f hd m
    go_wp2_with fail
    go_round
    case rel=>exact⟨j+1,mw,by go_num,g⟩
    case measure=>simp[intOf];omega
  ·have g:Hid (R=-1):=qd (by rw[q9 f,di mw];rfl)
   clear f
   go_wp2_with fail
   go_ret;exact⟨j7 (by rw[q9 g]),rfl⟩
theorem qe4(b cap:Nat)(ks:List Int)(x:Int)(w:World)(g:ks.length<=8)(h:KsAt w b ks):
  nz 145 #[.slice (some ⟨b,0,none⟩) ks.length cap,.int .i64 x] w λe w'=>e=.returned (.bool (ks.contains x))/\w'=w:=by
 have f:=qd (vg6 ks x 0);go_enter func145,ntmps145
 go_wp2_with(go_at_call 196;refine(qq9 _ _ _ _ _ g h).mono ?_;rintro e w'⟨rfl,rfl⟩;generalize qu5 ks x 0=r at f)
 all_goals(go_ret;exact⟨qR (by rw[←q9 f]),rfl⟩)
def qcv(k:Int):Int:=
 if k==5 then 6 else if k==6 then 7 else if k==16 then 8 else if k==17 then 9 else if k==18 then 10 else if k==19 then 11
 else if k==20 then 12 else if k==21 then 13 else if k==22 then 16 else if k==23 then 17 else if k==24 then 18 else 19
theorem qaf(k:Int)(w:World):
  nz 197 #[.int .i64 k] w λe w'=>e=.returned (.int .i64 (qcv k))/\w'=w:=by
 go_enter func197,ntmps197
 go_wp2_with fail
 all_goals(go_ret;refine⟨j7 ?_,rfl⟩;go_light;simp only[qcv, *,if_true,cu,if_false])
structure Pay where
 op:Int
 place:Int
 num:Int
 str:List UInt8
 esc:List UInt8
 texts:List (List UInt8)
inductive Ast where
 | leaf (p:Pay)
 | un (p:Pay) (x:Ast)
 | bin (p:Pay) (x y:Ast)
 | tri (p:Pay) (x y z:Ast)
def TextsAt(lo:Nat)(w:World)(v:Value)(ts:List (List UInt8)):Prop:=
 (ts=[]/\v=.slice none 0 0)\/∃g cap,v=.slice (some ⟨g,0,none⟩) ts.length cap/\lo<g/\g<w.heap.size/\∀(j:Nat) (t:List UInt8),ts[j]?=some t->w.cell? ⟨g,j,none⟩=some (.string (BS t))
structure NodeAt(lo:Nat)(w:World)(b:Nat)(p:Pay)(sides:Value):Prop where
 above:lo<b
 within:b<w.heap.size
 c0:w.cell? ⟨b,0,none⟩=some (.int .i64 p.op)
 c1:w.cell? ⟨b,1,none⟩=some (.int .i64 p.place)
 c2:w.cell? ⟨b,2,none⟩=some sides
 c3:w.cell? ⟨b,3,none⟩=some (.int .i64 p.num)
 c4:w.cell? ⟨b,4,none⟩=some (.string (BS p.str))
 c5:w.cell? ⟨b,5,none⟩=some (.string (BS p.esc))
 c6:∃tv,w.cell? ⟨b,6,none⟩=some tv/\TextsAt lo w tv p.texts
def IsNode(lo:Nat)(w:World):Value->Ast->Prop
 | v,.leaf p=>∃b,v=.pointer (some ⟨b,0,none⟩)/\NodeAt lo w b p (.slice none 0 0)
 | v,.un p x=>∃b g v1,v=.pointer (some ⟨b,0,none⟩)/\NodeAt lo w b p (.slice (some ⟨g,0,none⟩) 1 1)/\lo<g/\g<w.heap.size/\w.cell? ⟨g,0,none⟩=some v1/\IsNode lo w v1 x
 | v,.bin p x y=>∃b g v1 v2,v=.pointer (some ⟨b,0,none⟩)/\NodeAt lo w b p (.slice (some ⟨g,0,none⟩) 2 2)/\lo<g/\g<w.heap.size/\w.cell? ⟨g,0,none⟩=some v1/\w.cell? ⟨g,1,none⟩=some v2/\IsNode lo w v1 x/\IsNode lo w v2 y
 | v,.tri p x y z=>∃b g v1 v2 v3,v=.pointer (some ⟨b,0,none⟩)/\NodeAt lo w b p (.slice (some ⟨g,0,none⟩) 3 3)/\lo<g/\g<w.heap.size/\w.cell? ⟨g,0,none⟩=some v1/\w.cell? ⟨g,1,none⟩=some v2/\w.cell? ⟨g,2,none⟩=some v3/\IsNode lo w v1 x/\IsNode lo w v2 y/\IsNode lo w v3 z
theorem TextsAt.kept(b:Kept lo w w'){ts:List mv}(h:TextsAt lo w v ts):TextsAt lo w' v ts:=by
 rcases h with h|⟨g,cap,f,m,e,n⟩
 ·exact .inl h
 ·exact .inr ⟨g,cap,f,m,bg e b.size,λj t i=>((jG b).1 g j e mw).trans (n j t i)⟩
theorem NodeAt.kept(f:Kept lo w w'){b:Nat}{p:Pay}{sides:Value}(h:NodeAt lo w b p sides):NodeAt lo w' b p sides:=by
 obtain⟨m,g,c0,u,r,q,c4,o,tv,n,i⟩:=h;have e:=λj=>(jG f).1 b j g mw
 exact⟨m,bg g f.size,(e 0).trans c0,(e 1).trans u,(e 2).trans r,(e 3).trans q,(e 4).trans c4,(e 5).trans o,tv,(e 6).trans n,i.kept f⟩
theorem IsNode.kept(i:Kept lo w w'):∀{t:Ast} {v:Value},IsNode lo w v t->IsNode lo w' v t:=by
 have m:=λg j (f:lo<g) (e:g<w.heap.size)=>(jG i).1 g j e mw
 intro t
 induction t with
 | leaf p=>rintro v⟨b,rfl,h⟩;exact⟨b,rfl,h.kept i⟩
 | un p x ih=>
  rintro v⟨b,g,n,rfl,h,f,e,q,o⟩;exact⟨b,g,n,rfl,h.kept i,f,bg e i.size,(m g 0 f e).trans q,ih o⟩
 | bin p x y ihx ihy=>
  rintro v⟨b,g,n,r,rfl,h,f,e,q,A,o,u⟩;exact⟨b,g,n,r,rfl,h.kept i,f,bg e i.size,(m g 0 f e).trans q,(m g 1 f e).trans A,ihx o,ihy u⟩
 | tri p x y z ihx ihy ihz=>
  rintro v⟨b,g,n,r,B,rfl,h,f,e,q,A,D,o,u,C⟩;exact⟨b,g,n,r,B,rfl,h.kept i,f,bg e i.size,(m g 0 f e).trans q,(m g 1 f e).trans A,(m g 2 f e).trans D,ihx o,ihy u,ihz C⟩
inductive Res where
 | ok (t:Ast) (st:St)
 | err (en pl:Int)
structure Fine(s:ByteArray)(st:St):Prop where
 place:st.place<=s.size
 after:st.after<=s.size
 long:st.tk.kind≠0->st.place<st.after
def Gives(rb:Nat)(s:ByteArray)(w:World)(op lo:Nat)(r:Res)(e:Ending)(w':World):Prop:=
 Kept rb w w'/\match r with
 | .ok t st=>∃v,e=.returned v/\IsNode rb w' v t/\RdAt w' rb s st/\Fine s st/\st.op=op/\lo<=st.place
 | .err en pl=>e=qU en pl
structure Ready(rb:Nat)(s:ByteArray)(w:World)(st:St):Prop where
 at':RdAt w rb s st
 lt:rb<w.heap.size
 err:ErrOk w
 glob:3<rb
 fine:Fine s st
 size:s.size<=140737488355328
def zh(K:Nat)(rb:Nat)(s:ByteArray)(op:Nat)(f:St->Res):Prop:=
 ∀(w:World) (st:St),Ready rb s w st->st.op=op->Calls prog K #[.pointer (some ⟨rb,0,none⟩)] w (Gives rb s w op st.place (f st))
theorem Ready.kept{st b:St}(h:Ready rb s w st)(e:Kept rb w w')(f:RdAt w' rb s b)(g:Fine s b):Ready rb s w' b:=
 ⟨f,bg h.lt e.size,h.err.kept e h.glob,h.glob,g,h.size⟩
theorem qm3{p:UInt8->Bool}(h:p c=true):0<qw p (c::t):=by simp[qw,h]
theorem pT(l:mv)(h:0<l.length):0<zN l:=by
 cases l with
 | nil=>simp at h
 | cons c t=>
  simp only[zN]
  split
  ·rename_i b;simp[qx,b]
  ·split
   ·rename_i hd;exact qm3 hd
   ·split
    ·unfold xM;split
     ·omega
     ·exact h
    ·unfold yf;split
     ·omega
     ·omega
     ·split<;>omega
theorem qC(s:mu)(st:St)(h:st.after<=s.size):Fine s (qg s st):=by
 have e:=qhc s.data.toList st.after (by rw[qr];exact h);have b:=qbw s.data.toList st.after;rw[qr]at e b;refine⟨e,b,λf=>?_⟩;show qN s.data.toList st.after<qZ s.data.toList st.after;unfold qZ
 by_cases hl:qN s.data.toList st.after<s.data.toList.length
 ·rw[bh hl]
  have:=pT (s.data.toList.drop (qN s.data.toList st.after)) (by rw[dc];omega);omega
 ·exfalso;apply f
  show(qJ s.data.toList st.after).kind=0;unfold qJ;rw[aj hl];rfl
theorem jT(s:mu)(st:St):st.after<=(qg s st).place:=by
 show st.after<=qN s.data.toList st.after;unfold qN;omega
def vfc(st:St)(l r:Ast):Ast:=.bin ⟨qcv st.tk.kind,st.place,0,[],[],[]⟩ l r
def jy(s:ByteArray)(f:St->Res)(st:St)(l:Ast):Res:=match f (qg s st) with
 | .ok r st'=>.ok (vfc st l r) st'
 | .err en pl=>.err en pl
theorem kN{f:St->Res}{st:St}{l r:Ast}{b:St}(h:f (qg s st)=.ok r b):jy s f st l=.ok (vfc st l r) b:=by unfold jy;rw[h]
theorem yG{f:St->Res}{st:St}{l:Ast}{e b:Int}(h:f (qg s st)=.err e b):jy s f st l=.err e b:=by unfold jy;rw[h]
theorem vkm{Q:Prop}(h:Q)(_:wpAny prog .any #[] (λ_ _ _=>True) 0 #[] ⟨#[],[]⟩ w):Q:=h
theorem qxg(s:mu)(st:St):(qg s st).op=st.op:=rfl
theorem Ready.stepped{st:St}(h:Ready rb s w st)(b:Kept rb w w1)(e:RdAt w1 rb s (qg s st)):Ready rb s w1.drew (qg s st):=
 h.kept b.drew (e.below ((Below.refl w1.heap.size w1).drew) (bg h.lt b.size)) (qC s st h.fine.after)
theorem IsNode.ptr{t:Ast}(h:IsNode rb w v t):∃b,v=.pointer (some ⟨b,0,none⟩):=by
 cases t with
 | leaf p=>obtain⟨b,e,_⟩:=h;exact⟨b,e⟩
 | un p x=>obtain⟨b,g,f,e,_⟩:=h;exact⟨b,e⟩
 | bin p x y=>obtain⟨b,g,f,i,e,_⟩:=h;exact⟨b,e⟩
 | tri p x y z=>obtain⟨b,g,f,i,j,e,_⟩:=h;exact⟨b,e⟩
theorem IsNode.two{l r:Ast}{lv rv:Value}(f:IsNode rb w lv l)(e:IsNode rb w rv r)(g:rb<w.heap.size)(op place:Int):
  IsNode rb ((w.alloc (.cells #[lv,rv] 67)).alloc (.cells #[.int .i64 op,.int .i64 place,.slice (some ⟨w.heap.size,0,none⟩) 2 2,.int .i64 0,.string ⟨#[]⟩,.string ⟨#[]⟩,.slice none 0 0] 102))
   (.pointer (some ⟨w.heap.size+1,0,none⟩)) (.bin ⟨op,place,0,[],[],[]⟩ l r):=by
 have b:Kept rb w ((w.alloc (.cells #[lv,rv] 67)).alloc (.cells #[.int .i64 op,.int .i64 place,.slice (some ⟨w.heap.size,0,none⟩) 2 2,.int .i64 0,.string ⟨#[]⟩,.string ⟨#[]⟩,.slice none 0 0] 102)):=((Kept.refl rb w).alloc _).alloc _;refine⟨w.heap.size+1,w.heap.size,lv,rv,rfl,⟨mw,mx,mx,mx,mx,mx,by simp[BS],by simp[BS],.slice none 0 0,mx,.inl ⟨rfl,rfl⟩⟩,g,my, ?_, ?_,f.kept b,e.kept b⟩
 ·rw[bt _ _ _ mx,cd _ _ _ _ rfl];rfl
 ·rw[bt _ _ _ mx,cd _ _ _ _ rfl];rfl
theorem qdb{K:Nat}(L:K=102\/K=147\/K=266\/K=301\/K=241)(rb:Nat)(s:mu)(op:Nat)(f:St->Res)(B:zh K rb s op f)(st:St)(l:Ast)(lv:Value)(w:World)(h:Ready rb s w st)(D:st.op=op)(u:IsNode rb w lv l):
  nz 146 #[.pointer (some ⟨rb,0,none⟩),lv,.func (.func K) #[.pointer (some ⟨rb,0,none⟩)] #[]] w (Gives rb s w op st.after (jy s f st l)):=by
 have J:=h.at';have E:=h.lt;have H:=qd h;obtain⟨c0,X,W,T,c4,S,R,fz⟩:=J;have C:=qd B;obtain⟨lb,rfl⟩:=u.ptr;have O:=qd u;have n0:¬w.heap.size=rb:=mw;clear B h u;rcases L with rfl|rfl|rfl|rfl|rfl
 all_goals
  cases D4:f (qg s st) with
  | ok r st'=>
   rw[kN D4];have x:=qd D4;clear D4;go_enter func146,ntmps146
   go_wp2_with(go_at_call 54;refine(xV rb s st _ H.size H.fine.after (H.at'.allocd _ E) my (H.err.alloc _)).mono ?_;rintro e w1⟨rfl,i,b⟩;have i:=qd i;have q:w.heap.size<w1.heap.size:=(by have:=b.size;simp at this;omega);have A:Xc w1 w.heap.size 0 (.int .i64 st.tk.kind):=((jG b).1 _ 0 mx n0).trans mx;have z:Xc w1 w.heap.size 1 (.int .i64 st.place):=((jG b).1 _ 1 mx n0).trans mx;have j:=qd (((Kept.refl rb w).alloc _).trans b);clear b)
   go_region_held3 (λw'=>Xc w' w.heap.size 0 (.int .i64 st.tk.kind)/\Xc w' w.heap.size 1 (.int .i64 st.place)) (go_keep) (first|(go_at_call 197;refine(qaf _ _).mono ?_;rintro e w'⟨rfl,rfl⟩)|((first|go_at_call 102|go_at_call 147|go_at_call 266|go_at_call 301|go_at_call 241);refine(C _ (qg s st) (H.stepped j i) D).mono ?_;rintro e m⟨g,n⟩;rw[q9 x]at n;obtain⟨Q,rfl,o,y,F,N,M⟩:=n;obtain⟨P,rfl⟩:=o.ptr;have I:Xc m w.heap.size 0 (.int .i64 st.tk.kind):=((jG g).1 _ 0 q n0).trans A;have G:Xc m w.heap.size 1 (.int .i64 st.place):=((jG g).1 _ 1 q n0).trans z;have Y:w.heap.size<m.heap.size:=bg q g.size;have g:=qd g;have o:=qd o;have y:=qd y))
   all_goals(go_wp2_with fail)
   all_goals go_ret
   refine⟨?_,_,rfl, ?_, ?_,F,N,bs (jT s st) M⟩
   ·exact(((j.trans ((Kept.refl rb w1).drew.trans g)).alloc _).alloc _)
   ·have:=IsNode.two (op:=qcv st.tk.kind) (place:=st.place) (O.kept (j.trans ((Kept.refl rb w1).drew.trans g))) o mw
    exact this
   ·exact((y.allocd _ mw).allocd _ my)
  | err en pl=>
   rw[yG D4];have x:=qd D4;clear D4;go_enter func146,ntmps146
   go_wp2_with(go_at_call 54;refine(xV rb s st _ H.size H.fine.after (H.at'.allocd _ E) my (H.err.alloc _)).mono ?_;rintro e w1⟨rfl,i,b⟩;have i:=qd i;have q:w.heap.size<w1.heap.size:=(by have:=b.size;simp at this;omega);have A:Xc w1 w.heap.size 0 (.int .i64 st.tk.kind):=((jG b).1 _ 0 mx n0).trans mx;have z:Xc w1 w.heap.size 1 (.int .i64 st.place):=((jG b).1 _ 1 mx n0).trans mx;have j:=qd (((Kept.refl rb w).alloc _).trans b);clear b)
   go_region_with(first|(go_at_call 197;refine(qaf _ _).mono ?_;rintro e w'⟨rfl,rfl⟩)|((first|go_at_call 102|go_at_call 147|go_at_call 266|go_at_call 301|go_at_call 241);refine(C _ (qg s st) (H.stepped j i) D).mono ?_;rintro e m⟨g,n⟩;rw[q9 x]at n;subst n;refine vkm (w:=m) ⟨rfl,j.trans ((Kept.refl rb w1).drew.trans g),rfl⟩ ?_))
   all_goals trivial
def rtV(k a t:Int)(S:List UInt8)(n:Int):Value:=.agg #[.int .i64 k,.int .i64 a,.int .i64 t,.string (BS S),.int .i64 n]
def kwT(k:Int):List UInt8:=
 if k=5 then[65,78,68] else if k=6 then[79,82] else if k=7 then[78,79,84] else if k=8 then[84,82,85,69] else if k=9 then[70,65,76,83,69]
 else if k=10 then[66,69,84,87,69,69,78] else if k=11 then[73,78] else if k=12 then[76,73,75,69] else if k=13 then[69,83,67,65,80,69] else if k=14 then[73,83]
 else if k=15 then[78,85,76,76] else if k=16 then[61] else if k=17 then[60,62] else if k=18 then[60] else if k=19 then[60,61] else if k=20 then[62] else if k=21 then[62,61]
 else if k=22 then[43] else if k=23 then[45] else if k=24 then[42] else if k=25 then[47] else if k=26 then[40] else if k=27 then[41] else if k=28 then[44] else[]
def rK(k:Int):Int:=if k<=4 then k else if k<=15 then 6 else 5
def rS(t:Tk):List UInt8:=if t.kind=2\/t.kind=4 then t.str else kwT t.kind
def rTk(t:Tk)(a z:Nat):Value:=if t.kind=1 then rtV 1 a 0 [] 0 else rtV (rK t.kind) a z (rS t) t.num
theorem quf(h:kwK l≠2):kwT (kwK l)=l/\5<=kwK l/\kwK l<=15:=by
 by_cases e0:l=[65,78,68]
 ·subst e0;exact⟨rfl,nh,nh⟩
 by_cases e1:l=[79,82]
 ·subst e1;exact⟨rfl,nh,nh⟩
 by_cases e2:l=[78,79,84]
 ·subst e2;exact⟨rfl,nh,nh⟩
 by_cases e3:l=[84,82,85,69]
 ·subst e3;exact⟨rfl,nh,nh⟩
 by_cases e4:l=[70,65,76,83,69]
 ·subst e4;exact⟨rfl,nh,nh⟩
 by_cases e5:l=[66,69,84,87,69,69,78]
 ·subst e5;exact⟨rfl,nh,nh⟩
 by_cases e6:l=[73,78]
 ·subst e6;exact⟨rfl,nh,nh⟩
 by_cases e7:l=[76,73,75,69]
 ·subst e7;exact⟨rfl,nh,nh⟩
 by_cases e8:l=[69,83,67,65,80,69]
 ·subst e8;exact⟨rfl,nh,nh⟩
 by_cases e9:l=[73,83]
 ·subst e9;exact⟨rfl,nh,nh⟩
 by_cases fQ:l=[78,85,76,76]
 ·subst fQ;exact⟨rfl,nh,nh⟩
 exact absurd (by unfold kwK;simp[e0,e1,e2,e3,e4,e5,e6,e7,e8,e9,fQ]) h
theorem vdl(e:l=c::t)(b:yd c=true):qx l=qw yZ l:=by
 subst e;have:yZ c=true:=by unfold yZ vag;unfold yd at b;simp[b]
 simp[qx,b,qw,this]
theorem ved(e:kwT k=U)(i:5<=k)(b:k<=15)(a z:Nat):rTk (qh k) a z=rtV 6 a z U 0:=by
 unfold rTk;rw[aj (show ¬(qh k).kind=1 by show ¬k=1;omega)];have g:rK (qh k).kind=6:=by show rK k=6;unfold rK;rw[aj mw,bh b]
 have f:rS (qh k)=U:=by
  unfold rS;rw[aj (show ¬((qh k).kind=2\/(qh k).kind=4) by show ¬(k=2\/k=4);omega)];exact e
 rw[g,f];rfl
theorem qnm(S:mv)(a z:Nat):rTk ⟨2,0,S⟩ a z=rtV 2 a z S 0:=by simp[rTk,rK,rS]
theorem qi6(s:mu)(hs:s.size<=200)(p:Nat)(N:p<s.size)(O:yd s[p]=true)(w:World):
  nz 182 #[.string s,.int .i64 p] w λe w'=>e=.returned (rTk (vU (s.data.toList.drop p)) p (p+qx (s.data.toList.drop p)))/\Xb w w':=by
 have hl:=qr s
 have hd:s.data.toList.drop p=s[p]::s.data.toList.drop (p+1):=by
  rw[ce (by rw[qr];exact N),qy s p N]
 have T:=vdl hd O;have Z:=zF (s.data.toList.drop p);rw[dc,qr]at Z;obtain⟨z,x⟩:∃z,qx (s.data.toList.drop p)=z:=⟨_,rfl⟩;have y:(s.extract p (p+z)).data.toList=(s.data.toList.drop p).take z:=by rw[lq];simp
 have P:vU (s.data.toList.drop p)=if xI ((s.data.toList.drop p).take z)=2 then⟨2,0,(s.data.toList.drop p).take z⟩ else qh (xI ((s.data.toList.drop p).take z)):=by rw[←x];rfl
 rw[P,x];rw[x]at T Z;obtain⟨W,D⟩:∃W,s.extract p (p+z)=W:=⟨_,rfl⟩;rw[D]at y
 have C:W.size<=1000:=by
  have:=congrArg List.length y;rw[qr,dh,dc,qr]at this;omega
 rw[←y];have CAP:=qd (vc1 W C);obtain⟨U,E⟩:∃U,Lib.toUpperA W.data.toList=U:=⟨_,rfl⟩;have Q:xI W.data.toList=kwK U:=by unfold xI;rw[E]
 rw[E]at CAP;rw[Q];have KEY:Hid (∀w,nz 232 #[.string (BS U)] w λe w'=>e=.returned (.bool (kwK U != 2))/\w'=w):=qd λw=>qhv (BS U) w
 have X:=qd D;have S:Hid (z=qw yZ (s.data.toList.drop p)+0):=qd mw;obtain⟨r,n⟩:∃r,(kwK U != 2)=r:=⟨_,rfl⟩;rw[n]at KEY;obtain⟨R,o⟩:∃R,rTk (if kwK U=2 then⟨2,0,W.data.toList⟩ else qh (kwK U)) p (p+z)=R:=⟨_,rfl⟩;rw[o]
 have oI:Hid (r=true->R=rtV 6 p (p+z:Nat) U 0):=qd λe=>by
  have j:kwK U≠2:=by rw[e]at n;simpa using n
  rw[aj j]at o;obtain⟨q1,q2,q3⟩:=quf j;rw[←o,ved q1 q2 q3]
 have cA:Hid (r=false->R=rtV 2 p (p+z:Nat) W.data.toList 0):=qd λe=>by
  have j:kwK U=2:=by rw[e]at n;simpa using n
  rw[bh j]at o;rw[←o,qnm]
 clear o hd T x P y E Q n O D;go_enter func182,ntmps182
 go_wp2_with fail
 go_loop [5] (λi=>∃k:Nat,p<=k/\k<=s.size/\i=.int .i64 k/\Hid (z+p=qw yZ (s.data.toList.drop k)+k)) (λi=>s.size - (intOf i).toNat)
 case atStart=>exact⟨p,nt,mw,rfl,qd (by have:=q9 S;omega)⟩
 case round=>
  obtain⟨k,lZ,hk,rfl,u⟩:=hrel
  by_cases aG:∃f:k<s.size,yZ s[k]=true
  ·obtain⟨f,b⟩:=aG
   have A9:=vr yZ s.data.toList k mw b;have J:Hid (z+p=qw yZ (s.data.toList.drop (k+1))+(k+1)):=qd (by rw[q9 u,A9];omega);clear A9 u CAP KEY
   cases I7:yd s[k] with
   | true=>
    have A:=qd I7;clear b I7
    go_wp2_with(first|(go_at_call 181;refine(j8 _ _).mono ?_;rintro e w'⟨rfl,rfl⟩;rw[show qa9 (s[k].toNat:Int)=true from q9 A]))
    go_round
    case rel=>exact⟨k+1,mw,mw,by go_num,J⟩
    case measure=>simp[intOf];omega
   | false=>
    have A:=qd I7
    cases lB:jc s[k] with
    | true=>
     have I:=qd lB;clear b I7 lB
     go_wp2_with(first|(go_at_call 181;refine(j8 _ _).mono ?_;rintro e w'⟨rfl,rfl⟩;rw[show qa9 (s[k].toNat:Int)=false from q9 A])|(go_at_call 230;refine(yt _ _).mono ?_;rintro e w'⟨rfl,rfl⟩;rw[show qah (s[k].toNat:Int)=true from q9 I]))
     go_round
     case rel=>exact⟨k+1,mw,mw,by go_num,J⟩
     case measure=>simp[intOf];omega
    | false=>
     have I:=qd lB
     have K:Hid ((s[k].toNat:Int)=46):=qd (by
      unfold yZ vag at b;unfold yd at I7;unfold jc at lB;rw[I7,lB]at b
      simpa using b)
     clear b I7 lB
     go_wp2_with(first|(go_at_call 181;refine(j8 _ _).mono ?_;rintro e w'⟨rfl,rfl⟩;rw[show qa9 (s[k].toNat:Int)=false from q9 A])|(go_at_call 230;refine(yt _ _).mono ?_;rintro e w'⟨rfl,rfl⟩;rw[show qah (s[k].toNat:Int)=false from q9 I];have Y:=q9 K))
     go_round
     case rel=>exact⟨k+1,mw,mw,by go_num,J⟩
     case measure=>simp[intOf];omega
  ·have B:z+p=k:=by
    by_cases f:k<s.size
    ·have b:yZ s[k]=false:=by cases b:yZ s[k] with|false=>rfl|true=>exact absurd ⟨f,b⟩ aG
     have:=vH yZ s.data.toList k mw b;rw[q9 u,this];omega
    ·have:=vN yZ s.data.toList k mw
     rw[q9 u,this];omega
   have q:Hid (∀f:k<s.size,yd s[k]=false/\jc s[k]=false/\¬(s[k].toNat:Int)=46):=qd λf=>by
    have b:yZ s[k]=false:=by cases b:yZ s[k] with|false=>rfl|true=>exact absurd ⟨f,b⟩ aG
    unfold yZ vag at b;simp only[fa,ae]at b;exact⟨b.1.1,b.1.2,b.2⟩
   have M:Hid (s.extract p k=W):=qd (by rw[←B,Nat.add_comm z p];exact q9 X);have HZ:Hid (z+p=k):=qd B;clear u aG B X S
   cases r with
   | true=>
    by_cases f:k<s.size
    all_goals
     go_wp2_with(first|(go_at_call 181;refine(j8 _ _).mono ?_;rintro e w'⟨rfl,rfl⟩;rw[show qa9 (s[k].toNat:Int)=false from(q f).1])|(go_at_call 230;refine(yt _ _).mono ?_;rintro e w'⟨rfl,rfl⟩;rw[show qah (s[k].toNat:Int)=false from(q f).2.1];have Y:=(q f).2.2)|(go_at_call 231;rw[q9 M];refine(CAP _).mono ?_;rintro e w1⟨rfl,m⟩;obtain⟨g,hf⟩:=qj m;have B9:=m.size;have L:=qd m;clear m;have c0:w1.cell? ⟨w.heap.size,0,none⟩=some (.int .i64 0):=(g _ 0 my).trans (by rw[bt _ _ _ mx];simp);have H:w1.cell? ⟨w.heap.size,1,none⟩=some (.int .i64 0):=(g _ 1 my).trans (by rw[bt _ _ _ mx];simp);have G:w1.cell? ⟨w.heap.size,2,none⟩=some (.int .i64 0):=(g _ 2 my).trans (by rw[bt _ _ _ mx];simp);have F:w1.cell? ⟨w.heap.size,3,none⟩=some (.string ⟨#[]⟩):=(g _ 3 my).trans (by rw[bt _ _ _ mx];simp);have c4:w1.cell? ⟨w.heap.size,4,none⟩=some (.int .i64 0):=(g _ 4 my).trans (by rw[bt _ _ _ mx];simp))|(go_at_call 232;refine(KEY _).mono ?_;rintro e w2⟨rfl,rfl⟩))
     refine ak (by simp[go_sem,c0,H,G,F,c4]<;>rfl) rfl ⟨?_, ?_⟩
     all_goals go_light
     ·rw[q9 oI trivial,show((p+z:Nat):Int)=(k:Int) by have:=q9 HZ;omega]
      rfl
     ·exact(((((((qV (qV L)).setCell mx _).setCell mx _).setCell mx _).setCell mx _).setCell mx _).setCell mx _).setCell mx _
   | false=>
    by_cases f:k<s.size
    all_goals
     go_wp2_with(first|(go_at_call 181;refine(j8 _ _).mono ?_;rintro e w'⟨rfl,rfl⟩;rw[show qa9 (s[k].toNat:Int)=false from(q f).1])|(go_at_call 230;refine(yt _ _).mono ?_;rintro e w'⟨rfl,rfl⟩;rw[show qah (s[k].toNat:Int)=false from(q f).2.1];have Y:=(q f).2.2)|(go_at_call 231;rw[q9 M];refine(CAP _).mono ?_;rintro e w1⟨rfl,m⟩;obtain⟨g,hf⟩:=qj m;have B9:=m.size;have L:=qd m;clear m;have c0:w1.cell? ⟨w.heap.size,0,none⟩=some (.int .i64 0):=(g _ 0 my).trans (by rw[bt _ _ _ mx];simp);have H:w1.cell? ⟨w.heap.size,1,none⟩=some (.int .i64 0):=(g _ 1 my).trans (by rw[bt _ _ _ mx];simp);have G:w1.cell? ⟨w.heap.size,2,none⟩=some (.int .i64 0):=(g _ 2 my).trans (by rw[bt _ _ _ mx];simp);have F:w1.cell? ⟨w.heap.size,3,none⟩=some (.string ⟨#[]⟩):=(g _ 3 my).trans (by rw[bt _ _ _ mx];simp);have c4:w1.cell? ⟨w.heap.size,4,none⟩=some (.int .i64 0):=(g _ 4 my).trans (by rw[bt _ _ _ mx];simp))|(go_at_call 232;refine(KEY _).mono ?_;rintro e w2⟨rfl,rfl⟩))
     refine ak (by simp[go_sem,c0,H,G,F,c4]<;>rfl) rfl ⟨?_, ?_⟩
     all_goals go_light
     ·rw[q9 cA trivial,show((p+z:Nat):Int)=(k:Int) by have:=q9 HZ;omega]
      rfl
     ·exact(((((qV (qV L)).setCell mx _).setCell mx _).setCell mx _).setCell mx _).setCell mx _
theorem vhj(v:Int)(a z:Nat):rTk ⟨3,v,[]⟩ a z=rtV 3 a z [] v:=by simp[rTk,rK,rS,kwT]
theorem qkp(a z:Nat):rTk (qh 1) a z=rtV 1 a 0 [] 0:=by simp[rTk,qh]
theorem qpx(l:mv)(c:UInt8):∀k,vB k (l++[c])=vB k l * 10+(c.toNat - 48):=by
 induction l with
 | nil=>intro k;rfl
 | cons d t ih=>
  intro k;show vB (k * 10+(d.toNat - 48)) (t++[c])=vB (k * 10+(d.toNat - 48)) t * 10+(c.toNat - 48);rw[ih]
theorem qjk{p k:Nat}(f:p<=k)(b:k<s.size):vB 0 ((s.data.toList.drop p).take (k+1 - p))=vB 0 ((s.data.toList.drop p).take (k - p)) * 10+(s[k].toNat - 48):=by
 have e:(s.data.toList.drop p).take (k+1 - p)=(s.data.toList.drop p).take (k - p)++[s[k]]:=by
  rw[show k+1 - p=(k - p)+1 by omega,dn,mh,show p+(k - p)=k by omega,ag (by rw[qr];exact b),qy s k b];rfl
 rw[e,qpx]
def qyp(s:ByteArray)(p k:Nat)(n:Nat)(bad:Bool):Prop:=n<=9223372036854775807/\if bad=true then 9223372036854775807<vB 0 ((s.data.toList.drop p).take (k - p)) else n=vB 0 ((s.data.toList.drop p).take (k - p))
theorem qkw(s:mu)(hs:s.size<=200)(p:Nat)(hp:p<s.size)(w:World):
  nz 256 #[.string s,.int .i64 p] w λe w'=>e=.returned (rTk (xt (s.data.toList.drop p)) p (p+qw jc (s.data.toList.drop p)))/\Xb w w':=by
 have hl:=qr s;obtain⟨z,r⟩:∃z,qw jc (s.data.toList.drop p)=z:=⟨_,rfl⟩;obtain⟨v,x⟩:∃v,vB 0 ((s.data.toList.drop p).take z)=v:=⟨_,rfl⟩;obtain⟨R,A⟩:∃R,rTk (xt (s.data.toList.drop p)) p (p+z)=R:=⟨_,rfl⟩
 have C:Hid (v<=9223372036854775807->R=rtV 3 p (p+z:Nat) [] v):=qd λh=>by
  rw[←A];unfold xt;rw[r,x,bh mw,vhj]
 have G:Hid (¬v<=9223372036854775807->R=rtV 1 p 0 [] 0):=qd λh=>by
  rw[←A];unfold xt;rw[r,x,aj mw,qkp]
 have F:=qd r;have K:=qd x;rw[r,A];clear A r x;go_enter func256,ntmps256
 go_wp2_with fail
 go_loop [5,6,7] (λi m b=>∃(k n:Nat) (bad:Bool),p<=k/\k<=s.size/\i=.int .i64 k/\m=.int .u64 n/\b=.bool bad/\Hid (z+p=qw jc (s.data.toList.drop k)+k/\qyp s p k n bad)) (λi _ _=>s.size - (intOf i).toNat)
 case atStart=>exact⟨p,0,false,nt,mw,rfl,rfl,rfl,qd ⟨by have:=q9 F;omega,bj _,by rw[iu];rfl⟩⟩
 case round=>
  obtain⟨k,m,bad,S,hk,rfl,rfl,rfl,H⟩:=hrel
  by_cases aG:∃g:k<s.size,jc s[k]=true
  ·obtain⟨g,o⟩:=aG
   have q:=vr jc s.data.toList k mw o;have hd:=qjk S g;have D:48<=s[k].toNat/\s[k].toNat<=57:=by simp[jc,qah]at o;omega
   have U0:(48:Int)<=(s[k].toNat:Int):=mw;have D5:(s[k].toNat:Int)<=57:=mw;obtain⟨j,E,f⟩:=q9 H;obtain⟨d,B⟩:∃d:Nat,d=s[k].toNat - 48:=⟨_,rfl⟩;rw[←B]at hd;have P:d<=9:=mw;have J:(s[k].toNat:Int) - 48=(d:Int):=mw
   cases bad with
   | true=>
    have u:Hid (z+p=qw jc (s.data.toList.drop (k+1))+(k+1)/\qyp s p (k+1) m true):=qd ⟨by rw[j,q];omega,E,by rw[bh rfl,hd];rw[bh rfl]at f;omega⟩;clear q hd j f H o J B D
    go_wp2_with fail
    go_round
    case rel=>exact⟨k+1,m,true,mw,mw,by go_num,rfl,rfl,u⟩
    case measure=>simp[intOf];omega
   | false=>
    rw[aj nh]at f
    by_cases hb:m * 10+d<=9223372036854775807
    ·have u:Hid (z+p=qw jc (s.data.toList.drop (k+1))+(k+1)/\qyp s p (k+1) (m * 10+d) false):=qd ⟨by rw[j,q];omega,hb,by rw[aj nh,hd,←f]⟩
     have I:¬(9223372036854775807 - ((s[k].toNat:Int) - 48)) / 10<(m:Int):=mw;have X:decide ((9223372036854775807 - ((s[k].toNat:Int) - 48)) / 10<(m:Int))=false:=cw I;have O:(m:Int) * 10+((s[k].toNat:Int) - 48)<=9223372036854775807:=mw;have Z:Hid ((m:Int) * 10+((s[k].toNat:Int) - 48)=((m * 10+d:Nat):Int)):=qd mw;clear q hd j f H o J D P B hb
     go_wp2_with fail
     go_round
     case rel=>exact⟨k+1,m * 10+d,false,mw,mw,by go_num,by rw[q9 Z],rfl,u⟩
     case measure=>simp[intOf];omega
    ·have u:Hid (z+p=qw jc (s.data.toList.drop (k+1))+(k+1)/\qyp s p (k+1) m true):=qd ⟨by rw[j,q];omega,E,by rw[bh rfl,hd,←f];omega⟩
     have I:(9223372036854775807 - ((s[k].toNat:Int) - 48)) / 10<(m:Int):=mw;have X:decide ((9223372036854775807 - ((s[k].toNat:Int) - 48)) / 10<(m:Int))=true:=de I;clear q hd j f H o J B D P hb
     go_wp2_with fail
     go_round
     case rel=>exact⟨k+1,m,true,mw,mw,by go_num,rfl,rfl,u⟩
     case measure=>simp[intOf];omega
  ·obtain⟨j,E,f⟩:=q9 H
   have N:z+p=k:=by
    by_cases g:k<s.size
    ·have o:jc s[k]=false:=by cases o:jc s[k] with|false=>rfl|true=>exact absurd ⟨g,o⟩ aG
     have:=vH jc s.data.toList k mw o;rw[j,this];omega
    ·have:=vN jc s.data.toList k mw
     rw[j,this];omega
   rw[show k - p=z by omega,q9 K]at f;have L:∀g:k<s.size,¬(48<=s[k].toNat/\s[k].toNat<=57):=λg h=>aG ⟨g,by simp[jc,qah];omega⟩
   have Y:Hid ((p+z:Nat)=k):=qd mw
   have M:k=s.size\/∃g:k<s.size,(¬(48:Int)<=(s[k].toNat:Int))\/((48:Int)<=(s[k].toNat:Int)/\¬(s[k].toNat:Int)<=57):=by
    by_cases g:k<s.size
    ·right
     refine⟨g, ?_⟩;have:=L g;omega
    ·left;omega
   have bG:(m:Int)<=9223372036854775807:=mw
   cases bad with
   | true=>
    rw[bh rfl]at f;have y:=q9 G mw;clear L aG H j f N C G F K;rcases M with rfl|⟨g,T|⟨W,Q⟩⟩
    all_goals
     go_wp2_with fail
     refine nx ⟨?_, ?_⟩
     all_goals go_light
     ·first|rfl|(rw[y];rfl)
     ·repeat' (first|exact qI _ _ _|refine Below.setCell ?_ mx _)
   | false=>
    rw[aj nh]at f;have y:=q9 C mw;rw[q9 Y,←f]at y;clear L aG H j f N C G F K;rcases M with rfl|⟨g,T|⟨W,Q⟩⟩
    all_goals
     go_wp2_with fail
     refine nx ⟨?_, ?_⟩
     all_goals go_light
     ·first|rfl|(rw[y];rfl)
     ·repeat' (first|exact qI _ _ _|refine Below.setCell ?_ mx _)
theorem vbz(S:mv)(a z:Nat):rTk ⟨4,0,S⟩ a z=rtV 4 a z S 0:=by simp[rTk,rK,rS]
theorem qtq{i:Nat}(h:i<s.size):s.extract i (i+1)=BS [s[i]]:=by
 have e:(s.extract i (i+1)).data.toList=[s[i]]:=by
  rw[lq]
  have:(s.data.toList.drop i).take (i+1 - i)=[s[i]]:=by
   rw[mj,ce (by rw[qr];exact h),qy s i h];rfl
  simpa using this
 rw[←vex (s.extract i (i+1)),e]
theorem vbx{xs:mv}{k:Nat}(h:ve (l.drop 1)=some (xs,k))(p:Nat):rTk (vG l) p (p+xM l)=rtV 4 p (p+(k+1):Nat) xs 0:=by
 obtain⟨e,b⟩:=yN h;rw[e,b,vbz]
theorem vbw(h:ve (l.drop 1)=none)(p:Nat):rTk (vG l) p (p+xM l)=rtV 1 p 0 [] 0:=by
 rw[(qc7 h).1,qkp]
theorem qwt(s:mu)(N:s.size<=200)(p:Nat)(O:p<s.size)(w:World):
  nz 257 #[.string s,.int .i64 p] w λe w'=>e=.returned (rTk (vG (s.data.toList.drop p)) p (p+xM (s.data.toList.drop p)))/\Xb w w':=by
 have S:=qr s;obtain⟨l,q⟩:∃l,s.data.toList.drop p=l:=⟨_,rfl⟩;have D:l.length=s.size - p:=by rw[←q,dc,qr]
 have z:Hid (∀i (h:i<s.size),p<=i->∃h':i - p<l.length,l[i - p]=s[i]):=qd (by
  intro i h I;refine⟨mw, ?_⟩
  have e:l[i - p]?=some s[i]:=by
   rw[←q,mh,show p+(i - p)=i by omega,ag (by rw[qr];exact h),qy s i h]
  exact(au.1 e).2)
 obtain⟨R,n⟩:∃R,rTk (vG l) p (p+xM l)=R:=⟨_,rfl⟩;have f:Hid (∀xs k,ve (l.drop 1)=some (xs,k)->R=rtV 4 p (p+(k+1):Nat) xs 0):=qd λxs k h=>by rw[←n,vbx h]
 have m:Hid (ve (l.drop 1)=none->R=rtV 1 p 0 [] 0):=qd λh=>by rw[←n,vbw h]
 rw[q,n];have A:=qd D;clear n q D;go_enter func257,ntmps257
 go_wp2_with fail
 go_loop [5,6] (λo iv=>∃(i:Nat) (xs:mv),p+1<=i/\i<=s.size/\o=.string (BS xs)/\iv=.int .i64 i/\xs.length<=i/\Hid (QAt l (i - p) xs)) (λ_ iv=>s.size - (intOf iv).toNat)
 case atStart=>exact⟨p+1,[],nt,mw,rfl,by go_num,bj _,qd (by rw[mj];exact QAt.start l)⟩
 case round=>
  obtain⟨i,xs,I,T,rfl,rfl,M,Q⟩:=hrel
  by_cases A0:i<s.size
  ·obtain⟨j,b⟩:=q9 z i A0 mw
   by_cases hc:s[i]=39
   ·have G:(s[i].toNat:Int)=39:=by rw[hc];rfl
    by_cases hn:∃h:i+1<s.size,s[i+1]=39
    ·obtain⟨E,x⟩:=hn
     obtain⟨r,u⟩:=q9 z (i+1) E mw;have W:(s[i+1].toNat:Int)=39:=by rw[x];rfl
     have y:Hid (QAt l (i+2 - p) (xs++[39])):=qd (by
      have:=(q9 Q).two mw mw (by rw[b];exact hc) (by
       have e:l[i - p+1]?=some s[i+1]:=by rw[show i - p+1=i+1 - p by omega,ag r,u]
       rw[(au.1 e).2];exact x)
      rwa [show i - p+2=i+2 - p by omega]at this)
     have J:∀w:World,(Op.stringOp .add (BS xs) ⟨#[39]⟩).run prog w=.ok (.string (BS (xs++[39]))) w:=λw=>by
      rw[←jE];exact run_string_add_sum (P:=prog) (w:=w) _ _ (by rw[qG];show xs.length+1<=_;omega)
     have K:(i:Int)+1<(s.size:Int):=mw;have X:¬(i:Int)+1=(s.size:Int):=mw;clear Q b j u r f m hc x
     go_wp2_with fail
     go_round
     case rel=>exact⟨i+2,xs++[39],mw,mw,rfl,by go_num,my,y⟩
     case measure=>simp[intOf];omega
    ·have C:=(q9 Q).close mw j (by rw[b];exact hc) (λh e=>hn ⟨by have:=q9 A;omega,by
      obtain⟨r,u⟩:=q9 z (i+1) (by have:=q9 A;omega) mw;rw[←u];have F:l[i - p+1]?=some l[i+1 - p]:=by rw[show i - p+1=i+1 - p by omega,ag r]
      rw[←(au.1 F).2];exact e⟩)
     have g:=q9 f _ _ C;rw[show p+(i - p+1)=i+1 by omega]at g
     have H:i+1=s.size\/∃h:i+1<s.size,¬(s[i+1].toNat:Int)=39:=by
      by_cases h:i+1<s.size
      ·right
       refine⟨h,λe=>hn ⟨h, ?_⟩⟩;apply mc.1;show s[i+1].toNat=39;omega
      ·left;omega
     clear C Q b j f m hn hc;rcases H with B|⟨h,B⟩
     ·have hw':(i:Int)+1=(s.size:Int):=mw
      go_wp2_with fail
      refine nx ⟨?_, ?_⟩
      all_goals go_light
      ·first|rfl|(rw[g];rfl)
      ·repeat' (first|exact(nw).alloc nt _|refine Below.setCell ?_ mx _)
     ·have hw':¬(i:Int)+1=(s.size:Int):=mw
      have L:((s[i+1].toNat:Int) != 39)=true:=by simpa using B
      have K:(i:Int)+1<(s.size:Int):=mw
      go_wp2_with fail
      refine nx ⟨?_, ?_⟩
      all_goals go_light
      ·first|rfl|(rw[g];rfl)
      ·repeat' (first|exact(nw).alloc nt _|refine Below.setCell ?_ mx _)
   ·have G:¬(s[i].toNat:Int)=39:=λe=>hc (by apply mc.1;show s[i].toNat=39;omega)
    have y:Hid (QAt l (i+1 - p) (xs++[s[i]])):=qd (by
     have:=(q9 Q).one mw j (by rw[b];exact hc)
     rwa [b,show i - p+1=i+1 - p by omega]at this)
    have J:∀w:World,(Op.stringOp .add (BS xs) (s.extract i (i+1))).run prog w=.ok (.string (BS (xs++[s[i]]))) w:=λw=>by
     rw[qtq A0,←jE];exact run_string_add_sum (P:=prog) (w:=w) _ _ (by rw[qG,qG];show xs.length+1<=_;omega)
    clear Q b j f m hc
    go_wp2_with fail
    go_round
    case rel=>exact⟨i+1,xs++[s[i]],mw,mw,rfl,by go_num,my,y⟩
    case measure=>simp[intOf];omega
  ·obtain rfl:i=s.size:=mw
   have g:=q9 m (Q.over (by have:=q9 A;omega));clear Q f m
   go_wp2_with fail
   refine nx ⟨?_, ?_⟩
   all_goals go_light
   ·first|rfl|(rw[g];rfl)
   ·repeat' (first|exact(nw).alloc nt _|refine Below.setCell ?_ mx _)
def qcw(l:List UInt8):Prop:=l.take 2=[60,62]\/l.take 2=[60,61]\/l.take 2=[62,61]
def qm8:List UInt8:=[61,60,62,43,45,42,47,40,41,44]
theorem qav(b:kwT k=U)(g:16<=k)(a z:Nat):rTk (qh k) a z=rtV 5 a z U 0:=by
 unfold rTk;rw[aj (show ¬(qh k).kind=1 by show ¬k=1;omega)];have f:rK (qh k).kind=5:=by show rK k=5;unfold rK;rw[aj mw,aj mw]
 have e:rS (qh k)=U:=by
  unfold rS;rw[aj (show ¬((qh k).kind=2\/(qh k).kind=4) by show ¬(k=2\/k=4);omega)];exact b
 rw[f,e];rfl
theorem qxb(h:qcw l)(p:Nat):rTk (qh (xm l)) p (p+yf l)=rtV 5 p (p+2:Nat) (l.take 2) 0:=by
 match l,h with
 | [],h=>simp[qcw]at h
 | [a],h=>simp[qcw]at h
 | a::b::t,h=>
  have h:[a,b]=[60,62]\/[a,b]=[60,61]\/[a,b]=[62,61]:=h;rcases h with h|h|h
  ·injection h with f e
   injection e with e _;subst f e;exact qav (k:=17) rfl nh p _
  ·injection h with f e
   injection e with e _;subst f e;exact qav (k:=19) rfl nh p _
  ·injection h with f e
   injection e with e _;subst f e;exact qav (k:=21) rfl nh p _
theorem qh5{a:UInt8}(h:¬qcw (a::t)):yf (a::t)=1:=by
 cases t with
 | nil=>rfl
 | cons b t=>
  have h:¬([a,b]=[60,62]\/[a,b]=[60,61]\/[a,b]=[62,61]):=h;unfold yf;simp only;rw[aj];intro e;apply h;simp only[dk,cn,dg]at e;rcases e with⟨rfl,rfl⟩|⟨rfl|rfl,rfl⟩
  ·exact .inl rfl
  ·exact .inr (.inl rfl)
  ·exact .inr (.inr rfl)
theorem qh6{a:UInt8}(h:¬qcw (a::t)):xm (a::t)=qep [a]:=by
 unfold xm;rw[aj (λe=>h (.inl (by simpa using e))),qh5 h];rfl
theorem vd0{a:UInt8}(h:¬qcw (a::t))(b:a∈qm8)(p:Nat):rTk (qh (xm (a::t))) p (p+yf (a::t))=rtV 5 p (p+1:Nat) [a] 0:=by
 rw[qh6 h,qh5 h];unfold qm8 at b;simp only[eg,fl,or_false]at b;rcases b with rfl|rfl|rfl|rfl|rfl|rfl|rfl|rfl|rfl|rfl<;>exact qav rfl nh p _
theorem qxa{a:UInt8}(h:¬qcw (a::t))(b:a∉qm8)(p:Nat):rTk (qh (xm (a::t))) p (p+yf (a::t))=rtV 1 p 0 [] 0:=by
 rw[qh6 h];unfold qm8 at b;simp only[eg,fl,or_false,not_or]at b
 have:qep [a]=1:=by
  unfold qep;simp[b]
 rw[this,qkp]
theorem qwq(s:mu)(Q:s.size<=200)(p:Nat)(o:p<s.size)(w:World):
  nz 258 #[.string s,.int .i64 p] w λe w'=>e=.returned (rTk (qh (xm (s.data.toList.drop p))) p (p+yf (s.data.toList.drop p)))/\Xb w w':=by
 have W:=qr s
 have hd:s.data.toList.drop p=s[p]::s.data.toList.drop (p+1):=by
  rw[ce (by rw[qr];exact o),qy s p o]
 have i:(s.extract p (p+2)).data.toList=(s.data.toList.drop p).take 2:=by rw[lq];simp
 obtain⟨R,j⟩:∃R,rTk (qh (xm (s.data.toList.drop p))) p (p+yf (s.data.toList.drop p))=R:=⟨_,rfl⟩;rw[j];obtain⟨T,A⟩:∃T,s.extract p (p+2)=T:=⟨_,rfl⟩;rw[A]at i;have y:(p:Int)+2<=(s.size:Int)\/¬(p:Int)+2<=(s.size:Int):=mw
 by_cases lY:qcw (s.data.toList.drop p)
 ·have X:p+2<=s.size:=by
   have:((s.data.toList.drop p).take 2).length=2:=by rcases lY with h|h|h<;>rw[h]<;>rfl
   rw[dh,dc,qr]at this;omega
  have C:(p:Int)+2<=(s.size:Int):=mw;have g:=qxb lY p;rw[j,←i]at g;have z:T.toList=(s.data.toList.drop p).take 2:=by rw[ei,i]
  unfold qcw at lY;rw[←z]at lY;clear hd i j z y;rcases lY with h|h|h
  all_goals
   go_enter func258,ntmps258
   go_wp2_with fail
   refine nx ⟨?_, ?_⟩
   all_goals go_light
   ·first|rfl|(rw[g];rfl)
   ·repeat' (first|exact(nw).alloc nt _|refine Below.setCell ?_ mx _)
 ·have n:s.extract p (p+1)=BS [s[p]]:=qtq o
  rw[hd]at lY
  have m:∀x:mv,(x=[60,62]\/x=[60,61]\/x=[62,61])->(T.toList==x)=false:=λx u=>by
   rw[ei,i,hd];refine ae.2 λe=>lY ?_
   unfold qcw;rw[e];exact u
  have G:=m [60,62] (.inl rfl);have F:=m [60,61] (.inr (.inl rfl));have E:=m [62,61] (.inr (.inr rfl))
  by_cases ha:s[p]∈qm8
  ·have r:=vd0 lY ha p
   rw[←hd,j]at r;obtain⟨S,B⟩:∃S,s.extract p (p+1)=S:=⟨_,rfl⟩;have g:R=.agg #[.int .i64 5,.int .i64 p,.int .i64 ((p:Int)+1),.string S,.int .i64 0]:=by rw[r,←B,n];rfl
   have f:(s[p].toNat:Int)=61\/(s[p].toNat:Int)=60\/(s[p].toNat:Int)=62\/(s[p].toNat:Int)=43\/(s[p].toNat:Int)=45\/(s[p].toNat:Int)=42\/(s[p].toNat:Int)=47\/(s[p].toNat:Int)=40\/(s[p].toNat:Int)=41\/(s[p].toNat:Int)=44:=by
    unfold qm8 at ha;simp only[eg,fl,or_false]at ha;rcases ha with h|h|h|h|h|h|h|h|h|h<;>rw[h]<;>decide
   have D:=qd g;clear hd i j m lY ha n g r;rcases y with q|q<;>rcases f with f|f|f|f|f|f|f|f|f|f
   all_goals
    go_enter func258,ntmps258
    go_wp2_with fail
    refine nx ⟨?_, ?_⟩
    all_goals go_light
    ·rw[q9 D]
    ·repeat' (first|exact(nw).alloc nt _|refine Below.setCell ?_ mx _)
  ·have g:=qxa lY ha p
   rw[←hd,j]at g
   have b:∀x∈qm8,((s[p].toNat:Int)==(x.toNat:Int))=false:=λx u=>ae.2 λe=>ha (by
    have:s[p]=x:=mc.1 mw
    rw[this];exact u)
   have P:((s[p].toNat:Int)==61)=false:=b 61 nh;have O:((s[p].toNat:Int)==60)=false:=b 60 nh;have N:((s[p].toNat:Int)==62)=false:=b 62 nh;have M:((s[p].toNat:Int)==43)=false:=b 43 nh;have L:((s[p].toNat:Int)==45)=false:=b 45 nh;have K:((s[p].toNat:Int)==42)=false:=b 42 nh;have J:((s[p].toNat:Int)==47)=false:=b 47 nh;have I:((s[p].toNat:Int)==40)=false:=b 40 nh;have H:((s[p].toNat:Int)==41)=false:=b 41 nh;have n0:((s[p].toNat:Int)==44)=false:=b 44 nh;clear hd i j m lY ha n b;rcases y with q|q
   all_goals
    go_enter func258,ntmps258
    go_wp2_with fail
    refine nx ⟨?_, ?_⟩
    all_goals go_light
    ·first|rfl|(rw[g];rfl)
    ·repeat' (first|exact(nw).alloc nt _|refine Below.setCell ?_ mx _)
end Go.Proofs.YtfkcaldjphakpaaGreatDoor
