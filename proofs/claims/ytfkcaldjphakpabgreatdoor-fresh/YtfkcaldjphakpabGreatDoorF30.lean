/- join, whatever the term. core.Of. Compile of selectors that are all read, and together have no more terms than there may be. Texts in a slice: Values, Collect, Sorted, Compact, one behind the other. core.among of any texts. sieve.Run of any bytes and any event. -/
import Derived.Test.YtfkcaldjphakpabGreatDoorF35
import Derived.Test.YtfkcaldjphakpabGreatDoorF12
import Derived.Test.YtfkcaldjphakpabGreatDoorF21
import Derived.Test.YtfkcaldjphakpabGreatDoorF24
import Derived.Test.YtfkcaldjphakpabGreatDoorF27
import Derived.Test.YtfkcaldjphakpabGreatDoorF26
import Derived.Test.YtfkcaldjphakpabGreatDoorShelf3
import Derived.Sort.OwnSorted
import Derived.Test.YtfkcaldjphakpabGreatDoorF29
import Derived.Test.YtfkcaldjphakpabGreatDoorF25
set_option maxHeartbeats 2000000
set_option maxRecDepth 100000
namespace Go.Proofs.YtfkcaldjphakpabGreatDoor
open Go.RowKit
section
def ve4:Prop:=∀(lo B:Nat) (w:World) (x:Co) (vx tv:Value) (ts:List (List UInt8)),B≤w.heap.size→LibOk w→CoAt B w.heap.size w vx x→TextsAt lo w tv ts→ts≠[]→ts.length≤200→(∀t∈ts,t.length≤200)→(z9 x).length≤402 →
 Calls Tryz.prog 93 #[vx,tv] w (qx6 B w (qs6 x ts))
def vh0:Ast→Prop
 | .leaf _=>False
 | .un p x=>p.op=21∨vh0 x
 | .bin _ x y=>vh0 x∨vh0 y
 | .tri _ x y z=>vh0 x∨vh0 y∨vh0 z
theorem cjoin_21 (hA:ve4) (lo:Nat) (p:Pay) (sv:Value) {B:Nat} {w:World} {b:Nat} (hB:B≤w.heap.size) (hL:LibOk w) (hN:NodeAt lo w b p sv) (ho:p.op=21) {x:Co} {vx:Value} (hx:CoAt B w.heap.size w vx x) (hne:p.texts≠[]) (hz:p.texts.length≤200) (ht:∀t∈p.texts,t.length≤200) (zx:(z9 x).length≤402) :
  Calls Tryz.prog 61 #[.pointer (some ⟨b,0,none⟩),vx,.pointer none,.pointer none] w (qx6 B w (qs6 x p.texts)):=by
 obtain ⟨bx,rfl⟩:=hx.ptr
 have c0:=hN.c0
 obtain ⟨tv,c6,htv⟩:=hN.c6
 have AM:Hid (Calls Tryz.prog 93 #[.pointer (some ⟨bx,0,none⟩),tv] w (qx6 B w (qs6 x p.texts))):=v7 (hA lo B w x _ tv _ hB hL hx htv hne hz ht zx)
 obtain ⟨ta,tn,tc,rfl⟩:∃a n c,tv=.slice a n c:=by
  rcases htv with ⟨_,rfl⟩|⟨g,cap,rfl,_⟩
  ·exact ⟨_,_,_,rfl⟩
  ·exact ⟨_,_,_,rfl⟩
 have e14:(p.op==14)=false:=by rw [ho];rfl
 have e15:(p.op==15)=false:=by rw [ho];rfl
 have e12:(p.op==12)=false:=by rw [ho];rfl
 have e13:(p.op==13)=false:=by rw [ho];rfl
 have e9:(p.op==9)=false:=by rw [ho];rfl
 have e5:(p.op==5)=false:=by rw [ho];rfl
 have e20:(p.op==20)=false:=by rw [ho];rfl
 have e21:(p.op==21)=true:=by rw [ho];rfl
 clear hN hB hL hx zx ho hne hz ht htv hA
 go_enter Tryz.func61,Tryz.ntmps61
 go_wp2_with (go_at_call 93;refine (q9 AM).mono ?_;rintro e w2 ⟨b2,rfl,k2,hb2⟩)
 go_ret
 exact ⟨b2,rfl,k2,hb2⟩
structure Ok (t:Ast):Prop where
 gd:GdA t
 nd:ndA t≤200
 sh:ShA t
 num:vh1 t
 bnd:vg7 t
 bq:BqA t
theorem vf1 {s:ByteArray} {t:Ast} (h:qj8 s=.ok t):Ok t:=by
 obtain ⟨a,b,c,d,e,f⟩:=ve8 h
 exact ⟨a,b,c,d,e,f⟩
theorem Ok.side {t x:Ast} (h:Ok t) (hx:x∈j4 t):Ok x:=by
 obtain ⟨g,n,s,u,b,q⟩:=h
 cases t with
 | leaf p=>simp [j4] at hx
 | un p y=>
  simp [j4] at hx;subst hx
  have:ndA (.un p x)=1+p.texts.length+ndA x:=rfl
  exact ⟨g.2,by omega,s.2.2.2,u.2,b.2,q.2⟩
 | bin p y z=>
  have:ndA (.bin p y z)=1+ndA y+ndA z:=rfl
  simp [j4] at hx
  rcases hx with rfl|rfl
  ·exact ⟨g.2.1,by omega,s.2.1,u.2.1,b.2.1,q.2.1⟩
  ·exact ⟨g.2.2,by omega,s.2.2,u.2.2,b.2.2,q.2.2⟩
 | tri p y z v=>
  have:ndA (.tri p y z v)=1+ndA y+ndA z+ndA v:=rfl
  simp [j4] at hx
  rcases hx with rfl|rfl|rfl
  ·exact ⟨g.2.1,by omega,s.2.1,u.2.1,b.2.1,q.2.1⟩
  ·exact ⟨g.2.2.1,by omega,s.2.2.1,u.2.2.1,b.2.2.1,q.2.2.1⟩
  ·exact ⟨g.2.2.2,by omega,s.2.2.2,u.2.2.2,b.2.2.2,q.2.2.2⟩
theorem Ok.lm {t:Ast} (h:Ok t):Lm (j7 t):=h.gd.gd.lm h.nd
def SideIs (B:Nat) (w:World) (t:Ast) (j:Nat) (v:Value):Prop:=match (j4 t)[j]? with
 | some x=>CoAt B w.heap.size w v (j7 x)
 | none=>v=.pointer none
theorem cjoin_all (t:Ast) (hA:vh0 t→ve4) (hok:Ok t) (lo:Nat) (sv:Value) {B:Nat} {w:World} {b:Nat} (hB:B≤w.heap.size) (hL:LibOk w) (hN:NodeAt lo w b (y8 t) sv) {v0 v1 v2:Value} (h0:SideIs B w t 0 v0) (h1:SideIs B w t 1 v1) (h2:SideIs B w t 2 v2) :
  Calls Tryz.prog 61 #[.pointer (some ⟨b,0,none⟩),v0,v1,v2] w (qx6 B w (j7 t)):=by
 cases t with
 | leaf p=>
  have h0:v0=.pointer none:=h0
  have h1:v1=.pointer none:=h1
  have h2:v2=.pointer none:=h2
  subst h0 h1 h2
  have hs:0≤p.op∧p.op≤4:=hok.sh
  exact vr8 lo p sv hN (by omega) (by omega) (by omega) (by omega) (by omega) (by omega) (by omega) (by omega) (.leaf (vb4 p)) none
   (fun w1 hb=>qp0 (vb4 p) (by unfold qi5 vb4;simp only [Bool.or_eq_true,beq_iff_eq];omega) hok.num (Nat.le_trans hok.bnd.1 (by decide)) (Nat.le_trans hok.bq.1 (by decide)) (Nat.le_trans hB hb.size) (hL.below hb (Nat.le_refl _)))
 | un p x=>
  have h0:CoAt B w.heap.size w v0 (j7 x):=h0
  have h1:v1=.pointer none:=h1
  have h2:v2=.pointer none:=h2
  subst h1 h2
  have hx:=hok.side (x:=x) (by simp [j4])
  have zx:=hx.lm
  have hnd:1+p.texts.length+ndA x≤200:=hok.nd
  rcases hok.sh.1 with e|e|e|e|e|e
  ·rw [show j7 (.un p x)=qh4 (j7 x) by rw [j7,e];rfl]
   exact cjoin_5 lo p sv hB hL hN e h0 zx
  ·rw [show j7 (.un p x)=z8 16 (vq4 0) (j7 x) by rw [j7,e];rfl]
   exact cjoin_14 lo p sv hB hL hN e h0 zx
  ·rw [show j7 (.un p x)=z8 17 (vq4 0) (j7 x) by rw [j7,e];rfl]
   exact cjoin_15 lo p sv hB hL hN e h0 zx
  ·rw [show j7 (.un p x)=qs6 (j7 x) p.texts by rw [j7,e];rfl]
   obtain ⟨q,rfl,hq0⟩:=qy0 hok.sh.2.2.2 (hok.sh.2.2.1 (by omega))
   exact cjoin_21 (hA (.inl e)) lo p sv hB hL hN e h0 (hok.sh.2.1 e) (by omega) hok.bq.1.2 (vi0 (vb4 q) hok.bnd.2.1 hok.num.2 (by unfold qi5;simp [vb4,hq0]))
  all_goals
   obtain ⟨bx,rfl⟩:=h0.ptr
   rw [show j7 (.un p x)=.un (vb4 p) (j7 x) by rw [j7,e];rfl]
   exact vr8 lo p sv hN (by omega) (by omega) (by omega) (by omega) (by omega) (by omega) (by omega) (by omega) (.un (vb4 p) (j7 x)) (some ⟨bx,0,none⟩)
    (fun w1 hb=>vb2 (vb4 p) (by unfold unB;simp [vb4,e]) hok.num.1 (Nat.le_trans hok.bnd.1.1 (by decide)) (Nat.le_trans hok.bq.1.1 (by decide)) (Nat.le_trans hB hb.size) (hL.below hb (Nat.le_refl _)) (h0.below hb) (Nat.le_trans zx.1 (by decide)))
 | bin p x y=>
  have h0:CoAt B w.heap.size w v0 (j7 x):=h0
  have h1:CoAt B w.heap.size w v1 (j7 y):=h1
  have h2:v2=.pointer none:=h2
  subst h2
  have zx:=(hok.side (x:=x) (by simp [j4])).lm
  have zy:=(hok.side (x:=y) (by simp [j4])).lm
  by_cases h12:p.op=12
  ·rw [show j7 (.bin p x y)=z8 10 (j7 y) (j7 x) by rw [j7,h12];rfl]
   exact cjoin_12 lo p sv hB hL hN h12 h0 h1 zx zy
  by_cases h13:p.op=13
  ·rw [show j7 (.bin p x y)=z8 11 (j7 y) (j7 x) by rw [j7,h13];rfl]
   exact cjoin_13 lo p sv hB hL hN h13 h0 h1 zx zy
  by_cases h9:p.op=9
  ·rw [show j7 (.bin p x y)=qh4 (z8 8 (j7 x) (j7 y)) by rw [j7,h9];rfl]
   exact cjoin_9 lo p sv hB hL hN h9 h0 h1 zx zy
  rw [show j7 (.bin p x y)=z8 p.op (j7 x) (j7 y) by rw [j7,if_neg (by simpa using h12),if_neg (by simpa using h13),if_neg (by simpa using h9)]]
  have:=hok.sh.1
  exact cjoin_two lo p sv hB hL hN (by omega) (by omega) h12 h13 h9 (by omega) (by omega) (by omega) h0 h1 zx zy
 | tri p x y z=>
  have h0:CoAt B w.heap.size w v0 (j7 x):=h0
  have h1:CoAt B w.heap.size w v1 (j7 y):=h1
  have h2:CoAt B w.heap.size w v2 (j7 z):=h2
  exact cjoin_20 lo p sv hB hL hN hok.sh.1 h0 h1 h2 (hok.side (x:=x) (by simp [j4])).lm (hok.side (x:=y) (by simp [j4])).lm (hok.side (x:=z) (by simp [j4])).lm
end
section
def CofOk (lo:Nat) (t:Ast):Prop:=∀(B:Nat) (w:World) (v:Value),B≤w.heap.size→LibOk w→IsNode lo w v t→Calls Tryz.prog 34 #[v] w (qx6 B w (j7 t))
theorem CellsC.lower {B B' E:Nat} {w:World} {b:Nat} {p:CP} {l r:Value} {t:List UInt8} (h:CellsC B' E w b p l r t) (hB:B≤B'):CellsC B E w b p l r t:=
 ⟨Nat.le_trans hB h.lo,h.hi,h.within,h.c0,h.c1,h.c2,h.c3,h.c4,h.c5,h.c6⟩
theorem CoAt.lower {B B' E:Nat} {w:World} (hB:B≤B'):∀{c:Co} {v:Value},CoAt B' E w v c→CoAt B E w v c:=by
 intro c
 induction c with
 | leaf p=>rintro v ⟨b,rfl,h⟩;exact ⟨b,rfl,h.lower hB⟩
 | un p x ih=>rintro v ⟨b,vx,rfl,h,hx⟩;exact ⟨b,vx,rfl,h.lower hB,ih hx⟩
 | bin p x y ihx ihy=>rintro v ⟨b,vx,vy,rfl,h,hx,hy⟩;exact ⟨b,vx,vy,rfl,h.lower hB,ihx hx,ihy hy⟩
theorem CoAt.set {B:Nat} {w:World} {c:Co} {v:Value} (h:CoAt B w.heap.size w v c) {p:Addr} (hp:p.block<B) (u:Value):CoAt B (w.setCell p u).heap.size (w.setCell p u) v c:=by
 have hz:=x9 w p u
 exact h.keep (by rw [hz];exact Nat.le_refl _) (fun k hk _=>Below.heap_setCell w p u k (by omega)) (by rw [hz];exact Nat.le_refl _)
def SideK (B:Nat) (w:World) (t:Ast) (k j:Nat) (v:Value):Prop:=(j<k∧SideIs B w t j v)∨(¬j<k∧v=.pointer none)
theorem SideIs.set {B:Nat} {w w1:World} {t:Ast} {j:Nat} {v:Value} (h:SideIs B w t j v) (hb:Below w.heap.size w w1) {p:Addr} (hp:p.block<B) (u:Value):SideIs B (w1.setCell p u) t j v:=by
 unfold SideIs at h ⊢
 cases hx:(j4 t)[j]? with
 | none=>rw [hx] at h;exact h
 | some x=>rw [hx] at h;exact (h.below hb).set hp u
theorem SideK.old {B:Nat} {w w1:World} {t:Ast} {k j:Nat} {v:Value} (h:SideK B w t k j v) (hj:j≠k) (hb:Below w.heap.size w w1) {p:Addr} (hp:p.block<B) (u:Value):SideK B (w1.setCell p u) t (k+1) j v:=by
 rcases h with ⟨h1,h2⟩|⟨h1,h2⟩
 ·exact .inl ⟨by omega,h2.set hb hp u⟩
 ·exact .inr ⟨by omega,h2⟩
theorem SideK.new {B:Nat} {w1:World} {t x:Ast} {k:Nat} {v:Value} (hx:(j4 t)[k]?=some x) (h:CoAt B w1.heap.size w1 v (j7 x)) {p:Addr} (hp:p.block<B) (u:Value):SideK B (w1.setCell p u) t (k+1) k v:=by
 refine .inl ⟨by omega, ?_⟩
 unfold SideIs
 rw [hx]
 exact h.set hp u
theorem SideK.done {B:Nat} {w:World} {t:Ast} {j:Nat} {v:Value} (h:SideK B w t (j4 t).length j v):SideIs B w t j v:=by
 rcases h with ⟨_,h2⟩|⟨h1,h2⟩
 ·exact h2
 ·unfold SideIs
  rw [List.getElem?_eq_none (by omega)]
  exact h2
theorem vh7 (lo:Nat) (t:Ast) (hA:vh0 t→ve4) (hok:Ok t) (hsub:∀x∈j4 t,CofOk lo x):CofOk lo t:=by
 intro B w v hB hL h
 suffices hs:Calls Tryz.prog 34 #[v] w (qx6 (w.heap.size+1) w (j7 t)) by
  refine hs.mono ?_
  rintro e w' ⟨b,rfl,hc,hb⟩
  exact ⟨b,rfl,hc.lower (by omega),hb⟩
 have HNODE:=v7 h
 obtain ⟨b,sv,rfl,hnode,hsides⟩:=h.parts
 obtain ⟨a,rfl,hside⟩:=hsides.any
 have hn3:=vn1 t
 have c2:=hnode.c2
 have hbw:=hnode.within
 obtain ⟨n,hn⟩:∃n,(j4 t).length=n:=⟨_,rfl⟩
 rw [hn] at c2 hn3
 have HN:=v7 hn
 have HS:=v7 hside
 have HSUB:=v7 hsub
 have HND:=v7 hnode
 have HL:=v7 hL
 have JN:Hid (∀wr v0 v1 v2,Below w.heap.size w wr→w.heap.size<wr.heap.size→SideIs (w.heap.size+1) wr t 0 v0→SideIs (w.heap.size+1) wr t 1 v1→SideIs (w.heap.size+1) wr t 2 v2→Calls Tryz.prog 61 #[.pointer (some ⟨b,0,none⟩),v0,v1,v2] wr (qx6 (w.heap.size+1) wr (j7 t))):=
  v7 (fun wr v0 v1 v2 hb hz h0 h1 h2=>cjoin_all t hA hok lo _ (by omega) (hL.below hb (Nat.le_refl _)) (hnode.kept (Kept.of_below hb)) h0 h1 h2)
 clear hsides h hn hside hsub hnode hA hok hL hB
 go_enter Tryz.func34,Tryz.ntmps34
 go_wp2_with fail
 go_loopw [11] (fun i wr=>∃(k:Nat) (v0 v1 v2:Value),k≤n∧i=.int .i64 k∧Hid (SideK (w.heap.size+1) wr t k 0 v0∧SideK (w.heap.size+1) wr t k 1 v1∧SideK (w.heap.size+1) wr t k 2 v2)∧wr.cell? ⟨w.heap.size,0,none⟩=some v0∧wr.cell? ⟨w.heap.size,1,none⟩=some v1∧wr.cell? ⟨w.heap.size,2,none⟩=some v2∧(∀j,wr.frozen? ⟨w.heap.size,j,none⟩=false)∧w.heap.size<wr.heap.size∧Hid (Below w.heap.size w wr)) (fun i _=>n - (intOf i).toNat)
 case atStart=>exact ⟨0,.pointer none,.pointer none,.pointer none,Nat.zero_le _,rfl,v7 ⟨.inr ⟨by omega,rfl⟩,.inr ⟨by omega,rfl⟩,.inr ⟨by omega,rfl⟩⟩,by simp,by simp,by simp,fun j=>by simp,by simp,v7 ((Below.refl _ _).alloc (Nat.le_refl _) _)⟩
 case round=>
  obtain ⟨k,v0,v1,v2,hk,rfl,hat,a0,a1,a2,fz,hzr,hbel⟩:=hrel
  by_cases hlt:k<n
  ·obtain ⟨x,hx⟩:∃x,(j4 t)[k]?=some x:=⟨_,List.getElem?_eq_getElem (by rw [q9 HN];exact hlt)⟩
   obtain ⟨g,bx,rfl,hg1,hg2,hcx,hnx⟩:=q9 HS k x hx
   have dx:=((q9 hbel).cell (p:=⟨g,k,none⟩) hg2).trans hcx
   have CX:=v7 (q9 HSUB x (List.mem_of_getElem? hx) (w.heap.size+1) wr _ (by omega) ((q9 HL).below (q9 hbel) (Nat.le_refl _)) (hnx.kept (Kept.of_below (q9 hbel))))
   have HX:=v7 hx
   clear hx hnx hcx
   rcases (show k=0∨k=1∨k=2 by omega) with rfl|rfl|rfl
   ·go_wp2_with (go_at_call 34;refine (q9 CX).mono ?_;rintro e w1 ⟨b1,rfl,k1,hb1⟩;obtain ⟨hc1,hf1⟩:=j6 hb1;have hz1:w.heap.size<w1.heap.size:=(by have:=hb1.size;omega);have q0:w1.cell? ⟨w.heap.size,0,none⟩=some v0:=(hc1 _ 0 hzr).trans a0;have q1:w1.cell? ⟨w.heap.size,1,none⟩=some v1:=(hc1 _ 1 hzr).trans a1;have q2:w1.cell? ⟨w.heap.size,2,none⟩=some v2:=(hc1 _ 2 hzr).trans a2;have f1:∀j,w1.frozen? ⟨w.heap.size,j,none⟩=false:=(fun j=>(hf1 _ j hzr).trans (fz j));have HB1:=v7 hb1;have K1:=v7 k1;clear hc1 hf1 hb1 k1)
    go_roundw
    case rel=>exact ⟨1,_,v1,v2,by omega,by go_num,v7 ⟨SideK.new (q9 HX) (q9 K1) (by simp) _,(q9 hat).2.1.old (by decide) (q9 HB1) (by simp) _,(q9 hat).2.2.old (by decide) (q9 HB1) (by simp) _⟩,by simp [go_sem,q0],by simp [go_sem,q1],by simp [go_sem,q2],fun j=>by simp [go_sem,f1],by simpa using hz1,v7 ((v8 (q9 hbel) (q9 HB1)).setCell (by simp) _)⟩
    case measure=>simp [intOf];omega
   ·go_wp2_with (go_at_call 34;refine (q9 CX).mono ?_;rintro e w1 ⟨b1,rfl,k1,hb1⟩;obtain ⟨hc1,hf1⟩:=j6 hb1;have hz1:w.heap.size<w1.heap.size:=(by have:=hb1.size;omega);have q0:w1.cell? ⟨w.heap.size,0,none⟩=some v0:=(hc1 _ 0 hzr).trans a0;have q1:w1.cell? ⟨w.heap.size,1,none⟩=some v1:=(hc1 _ 1 hzr).trans a1;have q2:w1.cell? ⟨w.heap.size,2,none⟩=some v2:=(hc1 _ 2 hzr).trans a2;have f1:∀j,w1.frozen? ⟨w.heap.size,j,none⟩=false:=(fun j=>(hf1 _ j hzr).trans (fz j));have HB1:=v7 hb1;have K1:=v7 k1;clear hc1 hf1 hb1 k1)
    go_roundw
    case rel=>exact ⟨2,v0,_,v2,by omega,by go_num,v7 ⟨(q9 hat).1.old (by decide) (q9 HB1) (by simp) _,SideK.new (q9 HX) (q9 K1) (by simp) _,(q9 hat).2.2.old (by decide) (q9 HB1) (by simp) _⟩,by simp [go_sem,q0],by simp [go_sem,q1],by simp [go_sem,q2],fun j=>by simp [go_sem,f1],by simpa using hz1,v7 ((v8 (q9 hbel) (q9 HB1)).setCell (by simp) _)⟩
    case measure=>simp [intOf];omega
   ·go_wp2_with (go_at_call 34;refine (q9 CX).mono ?_;rintro e w1 ⟨b1,rfl,k1,hb1⟩;obtain ⟨hc1,hf1⟩:=j6 hb1;have hz1:w.heap.size<w1.heap.size:=(by have:=hb1.size;omega);have q0:w1.cell? ⟨w.heap.size,0,none⟩=some v0:=(hc1 _ 0 hzr).trans a0;have q1:w1.cell? ⟨w.heap.size,1,none⟩=some v1:=(hc1 _ 1 hzr).trans a1;have q2:w1.cell? ⟨w.heap.size,2,none⟩=some v2:=(hc1 _ 2 hzr).trans a2;have f1:∀j,w1.frozen? ⟨w.heap.size,j,none⟩=false:=(fun j=>(hf1 _ j hzr).trans (fz j));have HB1:=v7 hb1;have K1:=v7 k1;clear hc1 hf1 hb1 k1)
    go_roundw
    case rel=>exact ⟨3,v0,v1,_,by omega,by go_num,v7 ⟨(q9 hat).1.old (by decide) (q9 HB1) (by simp) _,(q9 hat).2.1.old (by decide) (q9 HB1) (by simp) _,SideK.new (q9 HX) (q9 K1) (by simp) _⟩,by simp [go_sem,q0],by simp [go_sem,q1],by simp [go_sem,q2],fun j=>by simp [go_sem,f1],by simpa using hz1,v7 ((v8 (q9 hbel) (q9 HB1)).setCell (by simp) _)⟩
    case measure=>simp [intOf];omega
  ·have hkn:k=(j4 t).length:=by have:=q9 HN;omega
   have HD:=v7 (hkn ▸ q9 hat)
   have HJ:=v7 (q9 JN wr v0 v1 v2 (q9 hbel) hzr (q9 HD).1.done (q9 HD).2.1.done (q9 HD).2.2.done)
   clear hkn hat HD
   go_wp2_with (go_at_call 61;refine (q9 HJ).mono ?_;rintro e w1 ⟨b1,rfl,k1,hb1⟩;have HB1:=v7 (v8 (q9 hbel) hb1);have K1:=v7 k1;clear hb1 k1)
   go_ret
   exact ⟨b1,rfl,q9 K1,q9 HB1⟩
theorem vj2 (lo:Nat):∀t,(vh0 t→ve4)→Ok t→CofOk lo t:=by
 intro t
 induction t with
 | leaf p=>intro hA hok;exact vh7 lo _ hA hok (fun x hx=>by simp [j4] at hx)
 | un p x ih=>
  intro hA hok
  refine vh7 lo _ hA hok (fun y hy=>?_)
  have hy':=hy
  simp [j4] at hy
  subst hy
  exact ih (fun h=>hA (.inr h)) (hok.side hy')
 | bin p x y ihx ihy=>
  intro hA hok
  refine vh7 lo _ hA hok (fun z hz=>?_)
  have hz':=hz
  simp [j4] at hz
  rcases hz with rfl|rfl
  ·exact ihx (fun h=>hA (.inl h)) (hok.side hz')
  ·exact ihy (fun h=>hA (.inr h)) (hok.side hz')
 | tri p x y z ihx ihy ihz=>
  intro hA hok
  refine vh7 lo _ hA hok (fun u hu=>?_)
  have hu':=hu
  simp [j4] at hu
  rcases hu with rfl|rfl|rfl
  ·exact ihx (fun h=>hA (.inl h)) (hok.side hu')
  ·exact ihy (fun h=>hA (.inr (.inl h))) (hok.side hu')
  ·exact ihz (fun h=>hA (.inr (.inr h))) (hok.side hu')
end
section
def qf5 (cs:List Co):Nat→List Tm×List Nat
 | 0=>([],[])
 | k+1=>((j8 (qf5 cs k).1 (cs.getD k (.leaf ⟨3,0,[],[]⟩))).1,(qf5 cs k).2++[(j8 (qf5 cs k).1 (cs.getD k (.leaf ⟨3,0,[],[]⟩))).2])
theorem qq9 (cs:List Co) (k:Nat):(qf5 cs k).2.length=k∧∀r∈(qf5 cs k).2,r<(qf5 cs k).1.length:=by
 induction k with
 | zero=>exact ⟨rfl,fun r hr=>by simp [qf5] at hr⟩
 | succ k ih=>
  have hp:=qm5 (qf5 cs k).1 (cs.getD k (.leaf ⟨3,0,[],[]⟩))
  refine ⟨by rw [qf5,List.length_append,ih.1];rfl,fun r hr=>?_⟩
  rw [qf5,List.mem_append] at hr
  rw [qf5]
  rcases hr with hr|hr
  ·have:=ih.2 r hr
   show r<(j8 (qf5 cs k).1 (cs.getD k (.leaf ⟨3,0,[],[]⟩))).1.length
   omega
  ·simp at hr
   subst hr
   exact hp.2.2
def TxOk (s:List UInt8) (c:Co):Prop:=∃t,qj8 (BS s)=.ok t∧j7 t=c∧(vh0 t→ve4)∧vg9 c∧qt8 c≤250000000∧s.length≤140737488355328
theorem MkAt.prog {W:World} {mb mp:Nat} {ts:List Tm} {rs:List Nat} {tv rv:Value} (h:MkAt W mb mp ts rs tv rv):ProgAt W mb 0 ts rs:=⟨h.lt,⟨tv,_,h.c0,h.ats⟩,rv,_,h.c1,h.ars⟩
theorem jp6 {w W W':World} {mb mp:Nat} {ts:List Tm} {rs:List Nat} {tv rv tv' rv':Value} (hb:Below w.heap.size w W) (hm:MkAt W mb mp ts rs tv rv) (hk:MkKept mb mp tv rv tv' rv' W W') (hp:w.heap.size≤mp):Below w.heap.size w W':=by
 have hlo:=hm.lo
 refine ⟨hk.os.trans hb.os,hk.tape.trans hb.tape,hk.output.trans hb.output,Nat.le_trans hb.size hk.size,fun k hlt=>(hk.block k (by have:=hb.size;omega) (fun ho=>?_)).trans (hb.block k hlt)⟩
 rcases ho with rfl|rfl|ho|ho
 ·omega
 ·omega
 ·have:=(hm.ats.lt k ho).1;omega
 ·have:=(hm.ars.lt k ho).1;omega
theorem add_ends (c:Co) (hg:vg9 c) (B mb mp:Nat) (W:World) (v:Value) (ts:List Tm) (rs:List Nat) (tv rv:Value) (hm:MkAt W mb mp ts rs tv rv) (hs:CoAt B W.heap.size W v c) (ho:Out B W.heap.size mb mp tv rv) (hn:ts.length+qt8 c≤2500000000) (hr:rs.length≤1000) :
  Calls Tryz.prog 38 #[.pointer (some ⟨mb,0,none⟩),v] W fun e w'=>∃tv' rv',e=.returned (.tuple #[])∧MkAt w' mb mp (j8 ts c).1 (rs++[(j8 ts c).2]) tv' rv'∧MkKept mb mp tv rv tv' rv' W w':=
 jr8 c hg B W.heap.size mb mp W v ts rs tv rv hm hs (Nat.le_refl _) ho hn hr _ fun _ tv' rv' h1 h2=>⟨tv',rv',rfl,h1,h2⟩
theorem vr9 (ss:List (List UInt8)) (cs:List Co) (hlen:cs.length=ss.length) (h8:ss.length≤8) (htx:∀(k:Nat) (s:List UInt8) (c:Co),ss[k]?=some s→cs[k]?=some c→TxOk s c) (h80:∀k,k≤ss.length→(qf5 cs k).1.length≤80)
  (hw:∀t∈(qf5 cs ss.length).1,SmallT t∧vi7 t) (a:Option Addr) (cap:Nat) (w:World) (hL:LibOk w) (hss:∀(k:Nat) (s:List UInt8),ss[k]?=some s→∃sb so,a=some ⟨sb,so,none⟩∧sb<w.heap.size∧w.cell? ⟨sb,so+k,none⟩=some (.string (BS s)))
  (Q:Ending→World→Prop) (hQ:∀v w',OB w' w.heap.size v (qr3 (qf5 cs ss.length).1 (qf5 cs ss.length).2)→Below w.heap.size w w'→Q (.returned (.tuple #[v,.int .i64 0,.int .i64 0])) w') :
  Calls Tryz.prog 13 #[.slice a ss.length cap] w Q:=by
 have HQ:=v7 hQ
 have HL:=v7 hL
 have HSS:=v7 hss
 have HTX:=v7 htx
 have H80:=v7 h80
 have HW:=v7 hw
 have HLEN:=v7 hlen
 have NM:=v7 (vg4 w)
 clear hQ hL hss htx h80 hw hlen
 obtain ⟨n,hn⟩:∃n,ss.length=n:=⟨_,rfl⟩
 rw [hn] at HQ H80 HW HLEN h8 ⊢
 have HN:=v7 hn
 clear hn
 have hd8:decide ((n:Int) > 8)=false:=decide_eq_false (by omega)
 go_enter Tryz.func13,Tryz.ntmps13
 go_wp2_with (go_at_call 37;refine (q9 NM).mono ?_;rintro e w1 ⟨rfl,hm1,hb1⟩;have M1:=v7 hm1;have B1:=v7 hb1;clear hm1 hb1)
 go_loopw [17] (fun i wr=>∃(k:Nat) (tv rv:Value),k≤n∧i=.int .i64 k∧Hid (MkAt wr (w.heap.size+1) w.heap.size (qf5 cs k).1 (qf5 cs k).2 tv rv)∧Hid (Below w.heap.size w wr)) (fun i _=>n - (intOf i).toNat)
 case atStart=>exact ⟨0,_,_,Nat.zero_le _,rfl,M1,B1⟩
 case round=>
  obtain ⟨k,tv,rv,hk,rfl,MK,HB⟩:=hrel
  by_cases hlt:k<n
  ·obtain ⟨s,hs⟩:∃s,ss[k]?=some s:=⟨_,List.getElem?_eq_getElem (by have:=q9 HN;omega)⟩
   obtain ⟨c,hc⟩:∃c,cs[k]?=some c:=⟨_,List.getElem?_eq_getElem (by have:=q9 HLEN;omega)⟩
   obtain ⟨sb,so,rfl,sblt,s0⟩:=q9 HSS k s hs
   obtain ⟨t,hrd,hcore,hin,hgood,hsize,hslen⟩:=q9 HTX k s c hs hc
   have hbz:=(q9 HB).size
   have d0:wr.cell? ⟨sb,so+k,none⟩=some (.string (BS s)):=((q9 HB).cell (p:=⟨sb,so+k,none⟩) sblt).trans s0
   have hk0:(0:Int)≤(k:Int):=by omega
   have hk1:(k:Int)<(n:Int):=by omega
   have RD:Hid (Calls Tryz.prog 31 #[.string (BS s)] wr (qu9 wr (.ok t))):=v7 (hrd ▸ qs7 (BS s) wr ((q9 HL).below (q9 HB) (Nat.le_refl _)).err (by rw [qc0];exact hslen))
   have CO:Hid (∀(lo:Nat) (U:World) (v:Value),Below wr.heap.size wr U→IsNode lo U v t→Calls Tryz.prog 34 #[v] U (qx6 wr.heap.size U c)):=v7 fun lo U v hU hn=>hcore ▸ vj2 lo t hin (vf1 hrd) wr.heap.size U v hU.size ((q9 HL).below (v8 (q9 HB) hU) (Nat.le_refl _)) hn
   have hS:Hid (qf5 cs (k+1)=((j8 (qf5 cs k).1 c).1,(qf5 cs k).2++[(j8 (qf5 cs k).1 c).2])):=v7 (by rw [qf5,List.getD_eq_getElem?_getD,hc];rfl)
   have hle:=q9 H80 k hk
   have hrl:=(qq9 cs k).1
   have AD:Hid (∀(U:World) (v:Value),Below wr.heap.size wr U→CoAt wr.heap.size U.heap.size U v c→Calls Tryz.prog 38 #[.pointer (some ⟨w.heap.size+1,0,none⟩),v] U fun e w'=>∃tv' rv',e=.returned (.tuple #[])∧MkAt w' (w.heap.size+1) w.heap.size (qf5 cs (k+1)).1 (qf5 cs (k+1)).2 tv' rv'∧Below w.heap.size w w'):=v7 (by
    intro U v hU hcU
    have hmU:=(q9 MK).below hU
    refine (add_ends c hgood wr.heap.size _ _ U v _ _ tv rv hmU hcU (fun j hj=>.inl ((q9 MK).own_lt hj)) (by omega) (by omega)).mono ?_
    rintro e w' ⟨tv',rv',rfl,h1,h2⟩
    rw [q9 hS]
    exact ⟨tv',rv',rfl,h1,jp6 (v8 (q9 HB) hU) hmU h2 (Nat.le_refl _)⟩)
   have hle2:=q9 H80 (k+1) (by omega)
   have hd80:decide (((qf5 cs (k+1)).1.length:Int) > 80)=false:=decide_eq_false (by omega)
   obtain ⟨R,hR⟩:∃R,qf5 cs (k+1)=R:=⟨_,rfl⟩
   rw [hR] at AD hd80
   have HR:=v7 hR
   clear hS hle hrl hle2 hR hs hc hrd hcore hin hgood hsize hslen
   go_wp2_with (first|(go_at_call 31;refine (q9 RD).mono ?_;rintro e w2 ⟨hb2,v2,rfl,hn2⟩;obtain ⟨vb,rfl⟩:=hn2.ptr;have N2:=v7 hn2;have B2:=v7 hb2;clear hn2 hb2)|(go_at_call 34;refine (q9 CO _ _ _ (q9 B2) (q9 N2)).mono ?_;rintro e w3 ⟨b3,rfl,hc3,hb3⟩;have C3:=v7 hc3;have B3:=v7 (v8 (q9 B2) hb3);clear hc3 hb3)|(go_at_call 38;refine (q9 AD _ _ (q9 B3) (q9 C3)).mono ?_;rintro e w4 ⟨tv4,rv4,rfl,hm4,hb4⟩;have M4:=v7 hm4;have B4:=v7 hb4;obtain ⟨a4,c4,rfl⟩:=hm4.ats.form;have e4:=hm4.c0;clear hm4 hb4)|(go_at_call 36;refine (vd6 _ 0 _ _ _ _ e4).mono ?_;rintro e w5 ⟨rfl,rfl⟩))
   exact ⟨⟨k+1,_,_,by omega,rfl,by rw [q9 HR];exact M4,B4⟩,by simp [intOf];omega⟩
  ·have:k=n:=by omega
   subst this
   have hP:=(q9 MK).prog
   have hroots:=qq9 cs k
   have hle:=q9 H80 k (Nat.le_refl _)
   have BY:=v7 (jz1 (w.heap.size+1) 0 _ _ wr hP (by omega) (by omega) (fun t ht=>(q9 HW t ht).1) (fun t ht=>(q9 HW t ht).2) (fun r hr=>by have:=hroots.2 r hr;omega) _ (fun e w' h=>h))
   clear hP hroots hle
   go_wp2_with (go_at_call 39;refine (q9 BY).mono ?_;rintro e w2 ⟨v2,rfl,ho2,hb2⟩;have O2:=v7 ho2;have B2:=v7 hb2;obtain ⟨a2,c2,rfl⟩:=ho2.form;clear ho2 hb2)
   refine bodyPost_ret (by simp [results,Tryz.results13,go_sem]<;>rfl) rfl ?_
   exact q9 HQ _ _ (by
    have h:=q9 O2
    refine ⟨h.1, ?_⟩
    rcases h.2 with hn|⟨g,cap,cur,hv,hbg,rest⟩
    ·exact .inl hn
    ·exact .inr ⟨g,cap,cur,hv,Nat.le_trans (q9 HB).size hbg,rest⟩) ((q9 HB).trans ((q9 B2).mono (q9 HB).size))
end
section
open Go.RowKit Go.Sort Go.Shelf
def je4 (ts:List (List UInt8)):List Value:=ts.map encStr
def TxRow (w:World) (base:Nat) (v:Value) (ts:List (List UInt8)):Prop:=w.ownsRow base 9 1 v ts.length (je4 ts)
theorem zc6 (a:Option Addr) (n cap:Nat) (w:World):Calls Tryz.prog 141 #[.slice a n cap] w fun e w'=>e=.returned (.func (.func 188) #[] #[.pointer (some ⟨w.heap.size,0,none⟩)])∧w'=w.alloc (.cells #[.slice a n cap] 30):=by
 have hmf:∀(fn:Fn) (first cap:Array Value) (w:World),(Instr.makeFunc fn first cap).run Tryz.prog w=.ok (.func fn first cap) w:=fun _ _ _ _=>rfl
 go_enter Tryz.func141,Tryz.ntmps141
 go_wp2_with fail
 go_ret
 exact ⟨rfl,rfl⟩
theorem jg4 (Bs b cap:Nat) (ts:List (List UInt8)) (hne:ts≠[]) (hlen:ts.length≤1000) (w:World) (hb:b<w.heap.size) (hBs:Bs<w.heap.size)
  (hc:w.cell? ⟨Bs,0,none⟩=some (.slice (some ⟨b,0,none⟩) ts.length cap)) (hcs:∀j,j<ts.length→w.cell? ⟨b,j,none⟩=some (.string (BS (ts[j]?.getD [])))) :
  Calls Tryz.prog 186 #[.func (.func 188) #[] #[.pointer (some ⟨Bs,0,none⟩)]] w fun e w'=>∃g c,e=.returned (.slice (some ⟨g,0,none⟩) ts.length c)∧TxRow w' w.heap.size (.slice (some ⟨g,0,none⟩) ts.length c) ts∧Below w.heap.size w w':=by
 have A:Hid (Calls Tryz.prog 217 #[.slice none 0 0,.func (.func 188) #[] #[.pointer (some ⟨Bs,0,none⟩)]] w fun e w'=>∃g c,e=.returned (.slice (some ⟨g,0,none⟩) ts.length c)∧TxRow w' w.heap.size (.slice (some ⟨g,0,none⟩) ts.length c) ts∧Below w.heap.size w w'):=v7 (((callsIn_wide (n:=5)).1 (ja0 5 (by omega) Bs b cap ts hlen w hb hBs hc hcs)).mono (by
  rintro e w' ⟨v,rfl,h1,h2⟩
  rcases qc8 h1 with ⟨_,h0⟩|⟨g,c,rfl⟩
  ·exact absurd (List.eq_nil_of_length_eq_zero h0) hne
  ·exact ⟨g,c,rfl,h1,h2⟩))
 clear hc hcs
 go_enter Tryz.func186,Tryz.ntmps186
 go_wp2_with (go_at_call 217;refine (q9 A).mono ?_;rintro e w1 ⟨g,c,rfl,h1,h2⟩;have H1:=v7 h1;have H2:=v7 h2;clear h1 h2)
 go_ret
 exact ⟨g,c,rfl,q9 H1,q9 H2⟩
def ordT (ts:List (List UInt8)):List (List UInt8):=ts.mergeSort fun x y=>decide (x≤y)
theorem qr9 (ts:List (List UInt8)):(ordT ts).length=ts.length:=List.length_mergeSort ts
theorem zb5 (Bs b cap:Nat) (ts:List (List UInt8)) (hne:ts≠[]) (hlen:ts.length≤1000) (w:World) (hb:b<w.heap.size) (hBs:Bs<w.heap.size)
  (hc:w.cell? ⟨Bs,0,none⟩=some (.slice (some ⟨b,0,none⟩) ts.length cap)) (hcs:∀j,j<ts.length→w.cell? ⟨b,j,none⟩=some (.string (BS (ts[j]?.getD [])))) :
  Calls Tryz.prog 140 #[.func (.func 188) #[] #[.pointer (some ⟨Bs,0,none⟩)]] w fun e w'=>∃g c,e=.returned (.slice (some ⟨g,0,none⟩) ts.length c)∧TxRow w' w.heap.size (.slice (some ⟨g,0,none⟩) ts.length c) (ordT ts)∧Below w.heap.size w w':=by
 have CO:=v7 (jg4 Bs b cap ts hne hlen w hb hBs hc hcs)
 have SO:Hid (∀g c w1,TxRow w1 w.heap.size (.slice (some ⟨g,0,none⟩) ts.length c) ts→Below w.heap.size w w1→Calls Tryz.prog 187 #[.slice (some ⟨g,0,none⟩) ts.length c] w1 fun e w'=>e=.returned (.tuple #[])∧Hid (TxRow w' w.heap.size (.slice (some ⟨g,0,none⟩) ts.length c) (ordT ts)∧Below w.heap.size w w')):=v7 (by
  intro g c w1 h1 h2
  obtain ⟨hbg,hnc,hcm,cur,hcur,hcs',hct⟩:=qe5 h1
  rw [Nat.mul_one] at hct
  have hH:Holds encStr w1 g 0 ts.toArray:=holds_of_block hcur hct
  refine (Tryz.slices_Sort_string g 0 c ts w1 hH (Array.getElem?_eq_some_iff.1 hcur).1 (by omega)).mono ?_
  rintro e w' ⟨rfl,k,os,rfl⟩
  refine ⟨rfl,v7 ⟨?_, ?_⟩⟩
  ·have:=ownsRow_sorted (n:=k) (os:=os) (qr9 ts) hbg hcur hnc hcm hcs'
   show World.ownsRow _ _ _ _ _ _ _
   rw [qr9]
   exact this
  ·exact h2.grown (grownBy_sorted _) h2.size (fun j hj=>by cases hj;exact hbg))
 obtain ⟨n,hn⟩:∃n,ts.length=n:=⟨_,rfl⟩
 rw [hn] at CO SO ⊢
 clear hc hcs hn hlen
 go_enter Tryz.func140,Tryz.ntmps140
 go_wp2_with (first|(go_at_call 186;refine (q9 CO).mono ?_;rintro e w1 ⟨g,c,rfl,h1,h2⟩;have H1:=v7 h1;have H2:=v7 h2;clear h1 h2)|(go_at_call 187;refine (q9 SO g c w1 (q9 H1) (q9 H2)).mono ?_;rintro e w2 ⟨rfl,H3⟩))
 go_ret
 exact ⟨g,c,rfl,(q9 H3).1,(q9 H3).2⟩
theorem vv1 (g c:Nat) (zs:List (List UInt8)) (base:Nat) (w:World) (h:TxRow w base (.slice (some ⟨g,0,none⟩) zs.length c) zs) (hlen:zs.length≤1000) :
  Calls Tryz.prog 139 #[.slice (some ⟨g,0,none⟩) zs.length c] w fun e w'=>e=.returned (.slice (some ⟨g,0,none⟩) (Lib.compact zs).length c)∧Hid ((∀j t,(Lib.compact zs)[j]?=some t→w'.cell? ⟨g,j,none⟩=some (.string (BS t)))∧base≤g∧g<w'.heap.size∧w.grownBy w' (some g)):=by
 obtain ⟨hbg,hnc,hcm,cur,hcur,hcs',hct⟩:=qe5 h
 rw [Nat.mul_one] at hct
 have hH:Holds encStr w g 0 zs.toArray:=holds_of_block hcur hct
 refine (Tryz.slices_Compact_string g 0 c zs w hH (by omega) hnc).mono ?_
 rintro e w' ⟨rfl,q,rfl⟩
 have hcl:(Lib.compact zs).length≤zs.length:=vj3 zs
 obtain ⟨ws,hws⟩:∃ws,Lib.compact zs++List.replicate (zs.length - (Lib.compact zs).length) []=ws:=⟨_,rfl⟩
 have hwl:ws.length=zs.length:=by rw [←hws];simp;omega
 have hg0:grow (putRow encStr (Sort.ahead w q) g 0 ws.toArray) #[]=putRow encStr (Sort.ahead w q) g 0 ws.toArray:=by simp [grow];rfl
 have ho:=ownsRow_sorted (n:=q) (os:=#[]) hwl hbg hcur hnc hcm hcs'
 have hgr:=grownBy_sorted (w:=w) (g:=g) (n:=q) (os:=#[]) ws.toArray
 rw [hg0] at ho hgr
 rw [hws]
 refine ⟨rfl,v7 ⟨fun j t hj=>?_,hbg, ?_,hgr⟩⟩
 ·have hjl:=(List.getElem?_eq_some_iff.1 hj).1
  have hj2:ws[j]?=some t:=by rw [←hws,List.getElem?_append_left hjl];exact hj
  have:=World.ownsRow.cells ho (g:=g) rfl j (encStr t) (by rw [List.getElem?_map,hj2];rfl)
  rwa [qj2,Nat.zero_add] at this
 ·have:=hgr.size
  have:=(Array.getElem?_eq_some_iff.1 hcur).1
  omega
end
section
def qw7 (x:Co):List (List UInt8)→Nat→Co
 | [],_=>x
 | t::r,k=>qx3 x (z8 8 x (qq6 t)) (r.take (k - 1))
theorem jy9 (x:Co):∀(l:List (List UInt8)) (f:Co) (t:List UInt8),qx3 x f (l++[t])=z8 7 (qx3 x f l) (z8 8 x (qq6 t)):=by
 intro l
 induction l with
 | nil=>intro f t;rfl
 | cons a l ih=>intro f t;exact ih _ t
theorem jw9 (x:Co) {zs:List (List UInt8)} {t:List UInt8} (h:zs[0]?=some t):qw7 x zs 1=z8 8 x (qq6 t):=by
 cases zs with
 | nil=>simp at h
 | cons a r=>simp at h;subst h;simp [qw7,qx3]
theorem ji2 (x:Co) {zs:List (List UInt8)} {k:Nat} {t:List UInt8} (hk:0<k) (h:zs[k]?=some t):qw7 x zs (k+1)=z8 7 (qw7 x zs k) (z8 8 x (qq6 t)):=by
 cases zs with
 | nil=>simp at h
 | cons a r=>
  obtain ⟨j,rfl⟩:∃j,k=j+1:=⟨k - 1,by omega⟩
  have h':r[j]?=some t:=by simpa using h
  show qx3 x (z8 8 x (qq6 a)) (r.take (j+1+1 - 1))=z8 7 (qx3 x (z8 8 x (qq6 a)) (r.take (j+1 - 1))) _
  rw [show j+1+1 - 1=j+1 by omega,show j+1 - 1=j by omega,List.take_add_one,h']
  exact jy9 x _ _ t
theorem jw7 (x:Co) (ts:List (List UInt8)):qw7 x (qs1 ts) (qs1 ts).length=qs6 x ts:=by
 unfold qs6
 cases qs1 ts with
 | nil=>rfl
 | cons a r=>
  show qx3 x _ (r.take (r.length+1 - 1))=_
  rw [show r.length+1 - 1=r.length by omega,List.take_length]
theorem jw8 (x:Co) (zs:List (List UInt8)) (k:Nat) (h:∀t∈zs,t.length≤200) (hl:zs.length≤200) (hx:(z9 x).length≤402):(z9 (qw7 x zs k)).length≤1000000:=by
 cases zs with
 | nil=>show (z9 x).length≤_;omega
 | cons a r=>
  have h1:=jc8 x (r.take (k - 1)) (z8 8 x (qq6 a)) (fun t ht=>h t (List.mem_cons_of_mem _ (List.mem_of_mem_take ht)))
  rw [y9 8 rfl rfl] at h1
  have h2:=qy7 a (h a List.mem_cons_self)
  have e8:(qm6 8).length=1:=rfl
  have h3:(r.take (k - 1)).length≤200:=by
   have:=List.length_take_le (k - 1) r
   simp at hl
   have h4:(r.take (k - 1)).length≤r.length:=by rw [List.length_take];omega
   omega
  have h5:(r.take (k - 1)).length * ((z9 x).length+420)≤200 * 822:=Nat.mul_le_mul h3 (by omega)
  show (z9 (qx3 x (z8 8 x (qq6 a)) (r.take (k - 1)))).length≤_
  omega
def FoundAt (B:Nat) (W:World) (x:Co) (zs:List (List UInt8)) (k:Nat) (v:Value):Prop:=(k=0∧v=.pointer none)∨(0<k∧∃b,v=.pointer (some ⟨b,0,none⟩)∧CoAt B W.heap.size W v (qw7 x zs k))
theorem amongOk:ve4:=by
 intro lo B w x vx tv ts hB hL hx ht hne h200 hlen hsx
 obtain ⟨bx,rfl⟩:=hx.ptr
 obtain ⟨b,cap,rfl,_,hb,hcells⟩:∃g cap,tv=.slice (some ⟨g,0,none⟩) ts.length cap∧lo<g∧g<w.heap.size∧∀(j:Nat) (t:List UInt8),ts[j]?=some t→w.cell? ⟨g,j,none⟩=some (.string (BS t)):=by
  rcases ht with ⟨h1,_⟩|h
  ·exact absurd h1 hne
  ·exact h
 obtain ⟨w1,hw1⟩:∃w1,w1=w.alloc (.cells #[.slice (some ⟨b,0,none⟩) ts.length cap] 30):=⟨_,rfl⟩
 have hb1:Below w.heap.size w w1:=by rw [hw1];exact (Below.refl _ _).alloc (Nat.le_refl _) _
 have hz1:w1.heap.size=w.heap.size+1:=by rw [hw1];simp
 have VA:=v7 (zc6 (some ⟨b,0,none⟩) ts.length cap w)
 rw [←hw1] at VA
 have SO:=v7 (zb5 w.heap.size b cap ts hne (by omega) w1 (by omega) (by omega) (by rw [hw1];simp [go_sem]) (fun j hj=>by
  have e:ts[j]?=some (ts[j]?.getD []):=by rw [List.getElem?_eq_getElem hj];rfl
  exact (hb1.cell (p:=⟨b,j,none⟩) hb).trans (hcells j _ e)))
 have CP:Hid (∀g c w2,TxRow w2 w1.heap.size (.slice (some ⟨g,0,none⟩) ts.length c) (ordT ts)→Below w1.heap.size w1 w2→Calls Tryz.prog 139 #[.slice (some ⟨g,0,none⟩) ts.length c] w2 fun e w3=>e=.returned (.slice (some ⟨g,0,none⟩) (qs1 ts).length c)∧Hid ((∀j t,(qs1 ts)[j]?=some t→w3.cell? ⟨g,j,none⟩=some (.string (BS t)))∧g<w3.heap.size∧Below w.heap.size w w3)):=v7 (by
  intro g c w2 h1 h2
  have:=vv1 g c (ordT ts) w1.heap.size w2 (by rw [qr9];exact h1) (by rw [qr9];omega)
  rw [qr9] at this
  refine this.mono ?_
  rintro e w3 ⟨rfl,H⟩
  obtain ⟨a1,a2,a3,a4⟩:=q9 H
  refine ⟨rfl,v7 ⟨a1,a3, ?_⟩⟩
  have hb2:Below w.heap.size w w2:=v8 hb1 h2
  exact hb2.grown a4 hb2.size (fun j hj=>by
   have e:g=j:=by simpa using hj
   omega))
 have HZ:Hid (∀t∈qs1 ts,t.length≤200):=v7 fun t ht=>hlen t (vn6 ht)
 have hm200:(qs1 ts).length≤200:=Nat.le_trans (je1 ts) h200
 have hmne:(qs1 ts).length≠0:=fun e=>jt3 hne (List.eq_nil_of_length_eq_zero e)
 have HALL:Hid (qw7 x (qs1 ts) (qs1 ts).length=qs6 x ts):=v7 (jw7 x ts)
 have HX:Hid (∀W,Below w.heap.size w W→CoAt B W.heap.size W (.pointer (some ⟨bx,0,none⟩)) x):=v7 fun W hW=>hx.below hW
 have HLB:Hid (∀W,Below w.heap.size w W→LibOk W):=v7 fun W hW=>hL.below hW (Nat.le_refl _)
 obtain ⟨zs,hzs⟩:∃zs,qs1 ts=zs:=⟨_,rfl⟩
 rw [hzs] at CP HZ hm200 hmne HALL
 obtain ⟨n,hn⟩:∃n,ts.length=n:=⟨_,rfl⟩
 rw [hn] at VA SO CP ⊢
 obtain ⟨m,hm⟩:∃m,zs.length=m:=⟨_,rfl⟩
 rw [hm] at CP hm200 hmne HALL
 have HM:=v7 hm
 clear hzs hn hm hw1 hL hx ht hne hlen hcells
 go_enter Tryz.func93,Tryz.ntmps93
 go_wp2_with (first|(go_at_call 141;refine (q9 VA).mono ?_;rintro e w1' ⟨rfl,rfl⟩)|(go_at_call 140;refine (q9 SO).mono ?_;rintro e w2 ⟨g2,c2,rfl,h1,h2⟩;have H1:=v7 h1;have H2:=v7 h2;clear h1 h2)|(go_at_call 139;refine (q9 CP g2 c2 w2 (q9 H1) (q9 H2)).mono ?_;rintro e w3 ⟨rfl,H3⟩))
 go_loopw [5,14] (fun v i wr=>∃k:Nat,k≤m∧i=.int .i64 k∧Hid (FoundAt B wr x zs k v)∧Hid (Below w3.heap.size w3 wr)) (fun _ i _=>m - (intOf i).toNat)
 case atStart=>exact ⟨0,Nat.zero_le _,rfl,v7 (.inl ⟨rfl,rfl⟩),v7 (Below.refl _ _)⟩
 case round=>
  obtain ⟨k,hk,rfl,FA,HB⟩:=hrel
  by_cases hlt:k<m
  ·obtain ⟨t,ht⟩:∃t,zs[k]?=some t:=⟨_,List.getElem?_eq_getElem (by have:=q9 HM;omega)⟩
   have htl:t.length≤200:=q9 HZ t (List.mem_of_getElem? ht)
   obtain ⟨a1,a2,a3⟩:=q9 H3
   have d0:wr.cell? ⟨g2,k,none⟩=some (.string (BS t)):=((q9 HB).cell (p:=⟨g2,k,none⟩) a2).trans (a1 k t ht)
   have hBw:Below w.heap.size w wr:=v8 a3 (q9 HB)
   have hzw:=hBw.size
   have hk0:(0:Int)≤(k:Int):=by omega
   have hk1:(k:Int)<(m:Int):=by omega
   have SP:Hid (Calls Tryz.prog 94 #[.agg #[.int .i64 2,.pointer none,.pointer none,.int .i64 0,.string (BS t),.string ⟨#[]⟩,.string ⟨#[]⟩]] wr fun e w'=>∃b,e=.returned (.pointer (some ⟨b,0,none⟩))∧CoAt B w'.heap.size w' (.pointer (some ⟨b,0,none⟩)) (qq6 t)∧Below wr.heap.size wr w'):=v7 (qp0 ⟨2,0,t,[]⟩ rfl rng0 (by show t.length≤_;omega) (Nat.zero_le _) (by omega) (q9 HLB wr hBw))
   have P8:Hid (∀w4 b4,CoAt B w4.heap.size w4 (.pointer (some ⟨b4,0,none⟩)) (qq6 t)→Below wr.heap.size wr w4→Calls Tryz.prog 90 #[.int .i64 8,.pointer (some ⟨bx,0,none⟩),.pointer (some ⟨b4,0,none⟩)] w4 fun e w'=>∃b,e=.returned (.pointer (some ⟨b,0,none⟩))∧CoAt B w'.heap.size w' (.pointer (some ⟨b,0,none⟩)) (z8 8 x (qq6 t))∧Below wr.heap.size wr w'):=v7 (by
    intro w4 b4 h1 h2
    have h3:=v8 hBw h2
    refine (qg5 8 (by have:=h3.size;omega) (q9 HLB w4 h3) (q9 HX w4 h3) h1 (by omega) (by have:=qy7 t htl;omega)).mono ?_
    rintro e w' ⟨b,rfl,q1,q2⟩
    exact ⟨b,rfl,q1,v8 h2 q2⟩)
   rcases q9 FA with ⟨rfl,rfl⟩|⟨hpos,b5,rfl,hc5⟩
   ·have H1C:Hid (qw7 x zs 1=z8 8 x (qq6 t)):=v7 (jw9 x ht)
    clear FA a1 a2 a3 ht HZ
    go_wp2_with (first|(go_at_call 94;refine (q9 SP).mono ?_;rintro e w4 ⟨b4,rfl,h1,h2⟩;have C4:=v7 h1;have B4:=v7 h2;clear h1 h2)|(go_at_call 90;refine (q9 P8 w4 b4 (q9 C4) (q9 B4)).mono ?_;rintro e w5 ⟨b5,rfl,h1,h2⟩;have C5:=v7 h1;have B5:=v7 h2;clear h1 h2))
    exact ⟨⟨1,by omega,rfl,v7 (.inr ⟨by omega,b5,rfl,by rw [q9 H1C];exact q9 C5⟩),v7 (v8 (q9 HB) (q9 B5))⟩,by simp [intOf];omega⟩
   ·have HSC:Hid (qw7 x zs (k+1)=z8 7 (qw7 x zs k) (z8 8 x (qq6 t))):=v7 (ji2 x hpos ht)
    have P7:Hid (∀w5 b6,CoAt B w5.heap.size w5 (.pointer (some ⟨b6,0,none⟩)) (z8 8 x (qq6 t))→Below wr.heap.size wr w5→Calls Tryz.prog 90 #[.int .i64 7,.pointer (some ⟨b5,0,none⟩),.pointer (some ⟨b6,0,none⟩)] w5 fun e w'=>∃b,e=.returned (.pointer (some ⟨b,0,none⟩))∧CoAt B w'.heap.size w' (.pointer (some ⟨b,0,none⟩)) (qw7 x zs (k+1))∧Below wr.heap.size wr w'):=v7 (by
     intro w5 b6 h1 h2
     have h3:=v8 hBw h2
     have hl8:(z9 (z8 8 x (qq6 t))).length≤1000000:=by
      rw [y9 8 rfl rfl]
      have:=qy7 t htl
      have e8:(qm6 8).length=1:=rfl
      omega
     have hlf:=jw8 x zs k (q9 HZ) (by rw [q9 HM];exact hm200) hsx
     rw [q9 HSC]
     refine (qg5 7 (by have:=h3.size;omega) (q9 HLB w5 h3) (hc5.below h2) h1 (by omega) (by omega)).mono ?_
     rintro e w' ⟨b,rfl,q1,q2⟩
     exact ⟨b,rfl,q1,v8 h2 q2⟩)
    clear FA a1 a2 a3 ht hc5 HSC
    go_wp2_with (first|(go_at_call 94;refine (q9 SP).mono ?_;rintro e w4 ⟨b4,rfl,h1,h2⟩;have C4:=v7 h1;have B4:=v7 h2;clear h1 h2)|(go_at_call 90;refine (q9 P8 w4 b4 (q9 C4) (q9 B4)).mono ?_;clear P8;rintro e w5 ⟨b6,rfl,h1,h2⟩;have C5:=v7 h1;have B5:=v7 h2;clear h1 h2)|(go_at_call 90;refine (q9 P7 w5 b6 (q9 C5) (q9 B5)).mono ?_;rintro e w6 ⟨b7,rfl,h1,h2⟩;have C6:=v7 h1;have B6:=v7 h2;clear h1 h2))
    exact ⟨⟨k+1,by omega,rfl,v7 (.inr ⟨by omega,b7,rfl,q9 C6⟩),v7 (v8 (q9 HB) (q9 B6))⟩,by simp [intOf];omega⟩
  ·have hkm:k=m:=by omega
   subst hkm
   rcases q9 FA with ⟨h0,_⟩|⟨_,b5,rfl,hc5⟩
   ·exact absurd h0 hmne
   ·have C5:=v7 hc5
    clear hc5 FA
    have HBw:Hid (Below w.heap.size w wr):=v7 (v8 (q9 H3).2.2 (q9 HB))
    go_wp2_with fail
    go_ret
    exact ⟨b5,rfl,by rw [←q9 HALL];exact q9 C5,q9 HBw⟩
end
section
def za7 (code:List UInt8) (ps:List Pr):List Nat×Int:=
 if ve2 ps then (if (qt7 code).2.2 then (metR ps (qt7 code).1 (qt7 code).2.1,0) else ([],9)) else ([],7)
theorem BytesAt.below {w w':World} {v:Value} {l:List UInt8} (h:BytesAt w w.heap.size v l) (hb:Below w.heap.size w w'):BytesAt w' w'.heap.size v l:=by
 obtain ⟨a,c,hv,hc,hx⟩:=h
 refine ⟨a,c,hv,hc,fun i x hi=>?_⟩
 obtain ⟨b,o,ha,hbl,hcell⟩:=hx i x hi
 exact ⟨b,o,ha,Nat.lt_of_lt_of_le hbl hb.size,(hb.cell (p:=⟨b,o+i,none⟩) hbl).trans hcell⟩
def SrEnds (w:World) (r:List Nat×Int) (e:Ending) (w':World):Prop:=∃v,e=.returned (.tuple #[v,.int .i64 r.2])∧IsAt w' w.heap.size v r.1∧Below w.heap.size w w'
theorem srun_ok (code:List UInt8) (hT:∀k,k<(vc7 code).1→vr4 (qd0 (qz7 code).2 k).2 k) (cv:Value) (ps:List Pr) (ev:Value) (w:World) (h:BytesAt w w.heap.size cv code) (hev:EvIn w ev ps) (hg:EvGood ps) :
  Calls Tryz.prog 14 #[cv,ev] w (SrEnds w (za7 code ps)):=by
 have HV:=v7 (ve0 hev hg)
 obtain ⟨a,c,rfl,_⟩:∃a c,cv=.slice a code.length c∧True:=by obtain ⟨a,c,h1,_⟩:=h;exact ⟨a,c,h1,trivial⟩
 have HB:=v7 h
 have HE:=v7 hev
 obtain ⟨ea,en,ec,rfl⟩:=hev.slice
 cases hok:ve2 ps with
 | false=>
  have hR:za7 code ps=([],7):=by rw [za7,hok];rfl
  rw [hR]
  rw [hok] at HV
  clear hok hR
  go_enter Tryz.func14,Tryz.ntmps14
  go_wp2_with (go_at_call 40;refine (q9 HV).mono ?_;rintro e w1 ⟨rfl,hb1⟩)
  go_ret2
  exact ⟨_,rfl,IsAt.nil _ _,hb1⟩
 | true=>
  rw [hok] at HV
  have H8:=evOk_8 hok
  have HSH:=v7 (vv8 hok)
  have HRG:=v7 hg.rng
  have RD:Hid (∀w1,Below w.heap.size w w1→Calls Tryz.prog 41 #[.slice a code.length c] w1 (vu7 w1 (qt7 code))):=v7 fun w1 hb=>pread_ok code hT _ w1 ((q9 HB).below hb)
  cases hP:(qt7 code).2.2 with
  | false=>
   have hR:za7 code ps=([],9):=by rw [za7,hok,hP];rfl
   rw [hR]
   unfold vu7 at RD
   rw [hP] at RD
   clear hok hR hP
   go_enter Tryz.func14,Tryz.ntmps14
   go_wp2_with (first|(go_at_call 40;refine (q9 HV).mono ?_;rintro e w1 ⟨rfl,hb1⟩;have hb1:=v7 hb1)|(go_at_call 41;refine (q9 RD _ (q9 hb1)).mono ?_;rintro e w2 ⟨pb,rfl,hp2,hb2⟩;have hp2:=v7 hp2;have hb2:=v7 hb2))
   go_ret2
   exact ⟨_,rfl,IsAt.nil _ _,v8 (q9 hb1) (q9 hb2)⟩
  | true=>
   have hR:za7 code ps=(metR ps (qt7 code).1 (qt7 code).2.1,0):=by rw [za7,hok,hP];rfl
   rw [hR]
   have HF:=v7 (jz9 hP)
   unfold vu7 at RD
   rw [hP] at RD
   generalize (qt7 code).1=ts at *
   generalize (qt7 code).2.1=rs at *
   clear hok hR hP
   obtain ⟨R,hR⟩:∃R,metR ps ts rs=R:=⟨_,rfl⟩
   have PR:Hid (∀w1 pb,EvArg w1 (.slice ea en ec) ps→ProgAt w1 pb 0 ts rs→Calls Tryz.prog 42 #[.pointer (some ⟨pb,0,none⟩),.slice ea en ec] w1 (RunEnds w1 R)):=v7 fun w1 pb h1 h2=>hR ▸ js7 ps _ pb 0 ts rs w1 h2 (q9 HF) h1 (q9 HRG) (q9 HSH)
   rw [hR]
   clear hR
   go_enter Tryz.func14,Tryz.ntmps14
   go_wp2_with (first|(go_at_call 40;refine (q9 HV).mono ?_;rintro e w1 ⟨rfl,hb1⟩;have hb1:=v7 hb1)|(go_at_call 41;refine (q9 RD _ (q9 hb1)).mono ?_;rintro e w2 ⟨pb,rfl,hp2,hb2⟩;have hp2:=v7 hp2;have hb2:=v7 hb2)|(go_at_call 42;refine (q9 PR _ _ (((q9 HE).below (v8 (q9 hb1) (q9 hb2))).arg H8) (q9 hp2)).mono ?_;rintro e w3 ⟨v,rfl,hi3,hb3⟩;have hi3:=v7 hi3;have hb3:=v7 hb3))
   go_ret2
   exact ⟨_,rfl,IsAt.mono (q9 hi3) (Nat.le_trans (q9 hb1).size (q9 hb2).size),v8 (v8 (q9 hb1) (q9 hb2)) (q9 hb3)⟩
theorem srun_any (code:List UInt8) (cv:Value) (ps:List Pr) (ev:Value) (w:World) (h:BytesAt w w.heap.size cv code) (hev:EvIn w ev ps) (hg:EvGood ps):Calls Tryz.prog 14 #[cv,ev] w (SrEnds w (za7 code ps)):=
 srun_ok code (fun k hk=>je6 _ k (by have:(vc7 code).1≤255:=Ps.upTo_le ⟨code,false⟩ 80;omega)) cv ps ev w h hev hg
end
end Go.Proofs.YtfkcaldjphakpabGreatDoor
