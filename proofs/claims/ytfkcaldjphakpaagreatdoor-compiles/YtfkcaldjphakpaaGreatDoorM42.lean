/- The laws by the document's answer. -/
import Derived.Test.YtfkcaldjphakpaaGreatDoorM09
import Derived.Laws.CopyRow
import Derived.Test.YtfkcaldjphakpaaGreatDoorM34
import Derived.Test.YtfkcaldjphakpaaGreatDoorM38
import Derived.Test.YtfkcaldjphakpaaGreatDoorShelf3
import Derived.Sort.OwnSorted
import Derived.Lib.LaidTab
import Derived.Shelf.Vars
set_option maxHeartbeats 8000000
set_option maxRecDepth 100000
namespace Go.Proofs.YtfkcaldjphakpaaGreatDoor
open Go.RowKit Go.Proofs.Tryz
section
def cpR(ats:Array TypeId)(ty:TypeId)(args:Array Value):Sem Value:=Builtin.copy_ ats ty args
theorem cp_foldR(ats:Array TypeId)(ty:TypeId)(args:Array Value):Builtin.copy_ ats ty args=cpR ats ty args:=rfl
theorem vy4{P:Program}(w:World)(dT sT ty elem:TypeId)(g o dLen dCap:Nat)(a:Addr)(sLen sCap:Nat)(cur:Array Value)(t:TypeId)(cs:List Value)(m:Nat)
  (hu:P.underlying dT=some (.slice elem)) (hs:(P.info? elem).map (·.size)=some m)
  (hg:w.heap[g]?=some (.cells cur t (0,0))) (hn:cs.length=Nat.min sLen dLen * m)
  (hsrc:∀j v,cs[j]?=some v->w.cell? (a.add j)=some v) (hfit:o+cs.length<=cur.size) (h1:∀v∈cs,v.oneCell'=true) :
  (cpR #[dT,sT] ty #[.slice (some ⟨g,o,none⟩) dLen dCap,.slice (some a) sLen sCap]).run P w =
   .ok (goInt (Nat.min sLen dLen)) (w.setRow g (cur.toList.take o++cs++cur.toList.drop (o+cs.length)).toArray):=by
 have hl:=run_loadCells_list (P:=P) w a cs hsrc;have N0:=run_storeCells_at P g o t cs 0 cur w hg (by simpa using hfit) h1;unfold cpR
 cases hq:P.info? elem with
 | none=>simp[hq]at hs
 | some i=>
  have hi:i.size=m:=by simpa [hq]using hs
  rw[hn]at hl;simp[Builtin.copy_,run_underlying hu,Builtin.lenOf,Builtin.firstCells,sizeOf,typeInfo,hq,hi,hl,N0]
theorem vq6{P:Program}(w:World)(dT sT ty elem:TypeId)(d a:Option Addr)(dLen dCap sCap:Nat)(m:Nat)(hu:P.underlying dT=some (.slice elem))(hs:(P.info? elem).map (·.size)=some m):
  (cpR #[dT,sT] ty #[.slice d dLen dCap,.slice a 0 sCap]).run P w=.ok (goInt 0) w:=by
 unfold cpR
 cases hq:P.info? elem with
 | none=>simp[hq]at hs
 | some i=>
  have bB:Nat.min 0 dLen=0:=Nat.zero_min _
  cases a with
  | none=>cases d<;>simp[Builtin.copy_,run_underlying hu,Builtin.lenOf,Builtin.firstCells,sizeOf,typeInfo,hq,bB,storeCells]
  | some a=>
   have hl:=run_loadCells_list (P:=P) w a [] (λj v h=>by simp at h);simp only[List.length_nil]at hl;cases d<;>simp[Builtin.copy_,run_underlying hu,Builtin.lenOf,Builtin.firstCells,sizeOf,typeInfo,hq,bB,hl,storeCells]
end
section
def vj5:Prop:=∀(lo B:Nat) (w:World) (x:Co) (vx tv:Value) (ts:List (List UInt8)),B<=w.heap.size->LibOk w->CoAt B w.heap.size w vx x->TextsAt lo w tv ts->ts≠[]->ts.length<=200->(∀t∈ts,t.length<=200)->(x9 x).length<=402 ->
 Calls prog 114 #[vx,tv] w (qz0 B w (qh1 x ts))
def vt7:Ast->Prop
 | .leaf _=>False
 | .un p x=>p.op=21\/vt7 x
 | .bin _ x y=>vt7 x\/vt7 y
 | .tri _ x y z=>vt7 x\/vt7 y\/vt7 z
theorem cjoin_21(hA:vj5)(lo:Nat)(p:Pay)(sv:Value){B:Nat}{w:World}{b:Nat}(hB:B<=w.heap.size)(hL:LibOk w)(hN:NodeAt lo w b p sv)(ho:p.op=21){x:Co}{vx:Value}(hx:CoAt B w.heap.size w vx x)(C1:p.texts≠[])(hz:p.texts.length<=200)(ht:∀t∈p.texts,t.length<=200)(zx:(x9 x).length<=402):
  Calls prog 67 #[.pointer (some ⟨b,0,none⟩),vx,.pointer none,.pointer none] w (qz0 B w (qh1 x p.texts)):=by
 obtain⟨bx,rfl⟩:=hx.ptr;have c0:=hN.c0;obtain⟨tv,c6,xP⟩:=hN.c6;have AM:Hid (Calls prog 114 #[.pointer (some ⟨bx,0,none⟩),tv] w (qz0 B w (qh1 x p.texts))):=j3 (hA lo B w x _ tv _ hB hL hx xP C1 hz ht zx)
 obtain⟨ta,tn,tc,rfl⟩:∃a n c,tv=.slice a n c:=by
  rcases xP with⟨_,rfl⟩|⟨g,cap,rfl,_⟩
  ·exact⟨_,_,_,rfl⟩
  ·exact⟨_,_,_,rfl⟩
 have eW:(p.op==14)=false:=by rw[ho];rfl
 have jK:(p.op==15)=false:=by rw[ho];rfl
 have dM:(p.op==12)=false:=by rw[ho];rfl
 have mH:(p.op==13)=false:=by rw[ho];rfl
 have e9:(p.op==9)=false:=by rw[ho];rfl
 have e5:(p.op==5)=false:=by rw[ho];rfl
 have oR:(p.op==20)=false:=by rw[ho];rfl
 have wE:(p.op==21)=true:=by rw[ho];rfl
 clear hN hB hL hx zx ho C1 hz ht xP hA;go_enter func67,ntmps67
 go_wp2_with(go_at_call 114;refine(q9 AM).mono ?_;rintro e w2⟨b2,rfl,k2,B9⟩)
 go_ret;exact⟨b2,rfl,k2,B9⟩
structure Ok(t:Ast):Prop where
 gd:GdA t
 nd:ndA t<=200
 sh:ShA t
 num:vg5 t
 bnd:vg4 t
 bq:BqA t
theorem jw9{s:ByteArray}{t:Ast}(h:qg4 s=.ok t):Ok t:=by
 obtain⟨a,b,c,d,e,f⟩:=qs6 h;exact⟨a,b,c,d,e,f⟩
theorem Ok.side{t x:Ast}(h:Ok t)(hx:x∈qb8 t):Ok x:=by
 obtain⟨g,n,s,u,b,q⟩:=h
 cases t with
 | leaf p=>simp[qb8]at hx
 | un p y=>
  simp[qb8]at hx;subst hx;have:ndA (.un p x)=1+p.texts.length+ndA x:=rfl;exact⟨g.2,by omega,s.2.2.2,u.2,b.2,q.2⟩
 | bin p y z=>
  have:ndA (.bin p y z)=1+ndA y+ndA z:=rfl;simp[qb8]at hx;rcases hx with rfl|rfl
  ·exact⟨g.2.1,by omega,s.2.1,u.2.1,b.2.1,q.2.1⟩
  ·exact⟨g.2.2,by omega,s.2.2,u.2.2,b.2.2,q.2.2⟩
 | tri p y z v=>
  have:ndA (.tri p y z v)=1+ndA y+ndA z+ndA v:=rfl;simp[qb8]at hx;rcases hx with rfl|rfl|rfl
  ·exact⟨g.2.1,by omega,s.2.1,u.2.1,b.2.1,q.2.1⟩
  ·exact⟨g.2.2.1,by omega,s.2.2.1,u.2.2.1,b.2.2.1,q.2.2.1⟩
  ·exact⟨g.2.2.2,by omega,s.2.2.2,u.2.2.2,b.2.2.2,q.2.2.2⟩
theorem Ok.lm{t:Ast}(h:Ok t):Lm (j8 t):=h.gd.gd.lm h.nd
def SideIs(B:Nat)(w:World)(t:Ast)(j:Nat)(v:Value):Prop:=match (qb8 t)[j]? with
 | some x=>CoAt B w.heap.size w v (j8 x)
 | none=>v=.pointer none
theorem cjoin_all(t:Ast)(hA:vt7 t->vj5)(J4:Ok t)(lo:Nat)(sv:Value){B:Nat}{w:World}{b:Nat}(hB:B<=w.heap.size)(hL:LibOk w)(hN:NodeAt lo w b (qj1 t) sv){v0 v1 v2:Value}(h0:SideIs B w t 0 v0)(h1:SideIs B w t 1 v1)(h2:SideIs B w t 2 v2):
  Calls prog 67 #[.pointer (some ⟨b,0,none⟩),v0,v1,v2] w (qz0 B w (j8 t)):=by
 cases t with
 | leaf p=>
  have h0:v0=.pointer none:=h0;have h1:v1=.pointer none:=h1;have h2:v2=.pointer none:=h2;subst h0 h1 h2;have hs:0<=p.op/\p.op<=4:=J4.sh;exact vr3 lo p sv hN (by omega) (by omega) (by omega) (by omega) (by omega) (by omega) (by omega) (by omega) (.leaf (qt4 p)) none
   (λw1 hb=>qp2 (qt4 p) (by unfold qk8 qt4;simp only[Bool.or_eq_true,beq_iff_eq];omega) J4.num (Nat.le_trans J4.bnd.1 (by decide)) (Nat.le_trans J4.bq.1 (by decide)) (Nat.le_trans hB hb.size) (hL.below hb (Nat.le_refl _)))
 | un p x=>
  have h0:CoAt B w.heap.size w v0 (j8 x):=h0;have h1:v1=.pointer none:=h1;have h2:v2=.pointer none:=h2;subst h1 h2;have hx:=J4.side (x:=x) (by simp[qb8]);have zx:=hx.lm;have I3:1+p.texts.length+ndA x<=200:=J4.nd;rcases J4.sh.1 with e|e|e|e|e|e
  ·rw[show j8 (.un p x)=qd8 (j8 x) by rw[j8,e];rfl]
   exact cjoin_5 lo p sv hB hL hN e h0 zx
  ·rw[show j8 (.un p x)=j9 16 (qz1 0) (j8 x) by rw[j8,e];rfl]
   exact cjoin_14 lo p sv hB hL hN e h0 zx
  ·rw[show j8 (.un p x)=j9 17 (qz1 0) (j8 x) by rw[j8,e];rfl]
   exact cjoin_15 lo p sv hB hL hN e h0 zx
  ·rw[show j8 (.un p x)=qh1 (j8 x) p.texts by rw[j8,e];rfl]
   obtain⟨q,rfl,jU⟩:=qn8 J4.sh.2.2.2 (J4.sh.2.2.1 (by omega));exact cjoin_21 (hA (.inl e)) lo p sv hB hL hN e h0 (J4.sh.2.1 e) (by omega) J4.bq.1.2 (vc1 (qt4 q) J4.bnd.2.1 J4.num.2 (by unfold qk8;simp[qt4,jU]))
  all_goals
   obtain⟨bx,rfl⟩:=h0.ptr;rw[show j8 (.un p x)=.un (qt4 p) (j8 x) by rw[j8,e];rfl];exact vr3 lo p sv hN (by omega) (by omega) (by omega) (by omega) (by omega) (by omega) (by omega) (by omega) (.un (qt4 p) (j8 x)) (some ⟨bx,0,none⟩)
    (λw1 hb=>va8 (qt4 p) (by unfold unB;simp[qt4,e]) J4.num.1 (Nat.le_trans J4.bnd.1.1 (by decide)) (Nat.le_trans J4.bq.1.1 (by decide)) (Nat.le_trans hB hb.size) (hL.below hb (Nat.le_refl _)) (h0.below hb) (Nat.le_trans zx.1 (by decide)))
 | bin p x y=>
  have h0:CoAt B w.heap.size w v0 (j8 x):=h0;have h1:CoAt B w.heap.size w v1 (j8 y):=h1;have h2:v2=.pointer none:=h2;subst h2;have zx:=(J4.side (x:=x) (by simp[qb8])).lm;have zy:=(J4.side (x:=y) (by simp[qb8])).lm
  by_cases F9:p.op=12
  ·rw[show j8 (.bin p x y)=j9 10 (j8 y) (j8 x) by rw[j8,F9];rfl]
   exact cjoin_12 lo p sv hB hL hN F9 h0 h1 zx zy
  by_cases h13:p.op=13
  ·rw[show j8 (.bin p x y)=j9 11 (j8 y) (j8 x) by rw[j8,h13];rfl]
   exact cjoin_13 lo p sv hB hL hN h13 h0 h1 zx zy
  by_cases h9:p.op=9
  ·rw[show j8 (.bin p x y)=qd8 (j9 8 (j8 x) (j8 y)) by rw[j8,h9];rfl]
   exact cjoin_9 lo p sv hB hL hN h9 h0 h1 zx zy
  rw[show j8 (.bin p x y)=j9 p.op (j8 x) (j8 y) by rw[j8,if_neg (by simpa using F9),if_neg (by simpa using h13),if_neg (by simpa using h9)]];have:=J4.sh.1;exact cjoin_two lo p sv hB hL hN (by omega) (by omega) F9 h13 h9 (by omega) (by omega) (by omega) h0 h1 zx zy
 | tri p x y z=>
  have h0:CoAt B w.heap.size w v0 (j8 x):=h0;have h1:CoAt B w.heap.size w v1 (j8 y):=h1;have h2:CoAt B w.heap.size w v2 (j8 z):=h2;exact cjoin_20 lo p sv hB hL hN J4.sh.1 h0 h1 h2 (J4.side (x:=x) (by simp[qb8])).lm (J4.side (x:=y) (by simp[qb8])).lm (J4.side (x:=z) (by simp[qb8])).lm
end
section
def CofOk(lo:Nat)(t:Ast):Prop:=∀(B:Nat) (w:World) (v:Value),B<=w.heap.size->LibOk w->IsNode lo w v t->Calls prog 40 #[v] w (qz0 B w (j8 t))
theorem CellsC.lower{B B' E:Nat}{w:World}{b:Nat}{p:CP}{l r:Value}{t:List UInt8}(h:CellsC B' E w b p l r t)(hB:B<=B'):CellsC B E w b p l r t:=
 ⟨Nat.le_trans hB h.lo,h.hi,h.within,h.c0,h.c1,h.c2,h.c3,h.c4,h.c5,h.c6⟩
theorem CoAt.lower{B B' E:Nat}{w:World}(hB:B<=B'):∀{c:Co} {v:Value},CoAt B' E w v c->CoAt B E w v c:=by
 intro c
 induction c with
 | leaf p=>rintro v⟨b,rfl,h⟩;exact⟨b,rfl,h.lower hB⟩
 | un p x ih=>rintro v⟨b,vx,rfl,h,hx⟩;exact⟨b,vx,rfl,h.lower hB,ih hx⟩
 | bin p x y ihx ihy=>rintro v⟨b,vx,vy,rfl,h,hx,hy⟩;exact⟨b,vx,vy,rfl,h.lower hB,ihx hx,ihy hy⟩
theorem CoAt.set{B:Nat}{w:World}{c:Co}{v:Value}(h:CoAt B w.heap.size w v c){p:Addr}(hp:p.block<B)(u:Value):CoAt B (w.setCell p u).heap.size (w.setCell p u) v c:=by
 have hz:=size_setCell w p u;exact h.keep (by rw[hz];exact Nat.le_refl _) (λk hk _=>Below.heap_setCell w p u k (by omega)) (by rw[hz];exact Nat.le_refl _)
def SideK(B:Nat)(w:World)(t:Ast)(k j:Nat)(v:Value):Prop:=(j<k/\SideIs B w t j v)\/(¬j<k/\v=.pointer none)
theorem SideIs.set{B:Nat}{w w1:World}{t:Ast}{j:Nat}{v:Value}(h:SideIs B w t j v)(hb:Below w.heap.size w w1){p:Addr}(hp:p.block<B)(u:Value):SideIs B (w1.setCell p u) t j v:=by
 unfold SideIs at h ⊢
 cases hx:(qb8 t)[j]? with
 | none=>rw[hx]at h;exact h
 | some x=>rw[hx]at h;exact(h.below hb).set hp u
theorem SideK.old{B:Nat}{w w1:World}{t:Ast}{k j:Nat}{v:Value}(h:SideK B w t k j v)(hj:j≠k)(hb:Below w.heap.size w w1){p:Addr}(hp:p.block<B)(u:Value):SideK B (w1.setCell p u) t (k+1) j v:=by
 rcases h with⟨h1,h2⟩|⟨h1,h2⟩
 ·exact .inl ⟨by omega,h2.set hb hp u⟩
 ·exact .inr ⟨by omega,h2⟩
theorem SideK.new{B:Nat}{w1:World}{t x:Ast}{k:Nat}{v:Value}(hx:(qb8 t)[k]?=some x)(h:CoAt B w1.heap.size w1 v (j8 x)){p:Addr}(hp:p.block<B)(u:Value):SideK B (w1.setCell p u) t (k+1) k v:=by
 refine .inl ⟨by omega, ?_⟩;unfold SideIs;rw[hx];exact h.set hp u
theorem SideK.done{B:Nat}{w:World}{t:Ast}{j:Nat}{v:Value}(h:SideK B w t (qb8 t).length j v):SideIs B w t j v:=by
 rcases h with⟨_,h2⟩|⟨h1,h2⟩
 ·exact h2
 ·unfold SideIs
  rw[List.getElem?_eq_none (by omega)];exact h2
theorem vi3(lo:Nat)(t:Ast)(hA:vt7 t->vj5)(J4:Ok t)(eC:∀x∈qb8 t,CofOk lo x):CofOk lo t:=by
 intro B w v hB hL h
 suffices hs:Calls prog 40 #[v] w (qz0 (w.heap.size+1) w (j8 t)) by
  refine hs.mono ?_;rintro e w'⟨b,rfl,hc,hb⟩;exact⟨b,rfl,hc.lower (by omega),hb⟩
 have IQ:=j3 h;obtain⟨b,sv,rfl,G6,X9⟩:=h.parts;obtain⟨a,rfl,bA⟩:=X9.any;have bW:=jf4 t;have c2:=G6.c2;have K9:=G6.within;obtain⟨n,hn⟩:∃n,(qb8 t).length=n:=⟨_,rfl⟩;rw[hn]at c2 bW;have HN:=j3 hn;have HS:=j3 bA;have BI:=j3 eC;have wS:=j3 G6;have HL:=j3 hL
 have JN:Hid (∀wr v0 v1 v2,Below w.heap.size w wr->w.heap.size<wr.heap.size->SideIs (w.heap.size+1) wr t 0 v0->SideIs (w.heap.size+1) wr t 1 v1->SideIs (w.heap.size+1) wr t 2 v2->Calls prog 67 #[.pointer (some ⟨b,0,none⟩),v0,v1,v2] wr (qz0 (w.heap.size+1) wr (j8 t))):=
  j3 (λwr v0 v1 v2 hb hz h0 h1 h2=>cjoin_all t hA J4 lo _ (by omega) (hL.below hb (Nat.le_refl _)) (G6.kept (Kept.of_below hb)) h0 h1 h2)
 clear X9 h hn bA eC G6 hA J4 hL hB;go_enter func40,ntmps40
 go_wp2_with fail
 go_loopw [11] (λi wr=>∃(k:Nat) (v0 v1 v2:Value),k<=n/\i=.int .i64 k/\Hid (SideK (w.heap.size+1) wr t k 0 v0/\SideK (w.heap.size+1) wr t k 1 v1/\SideK (w.heap.size+1) wr t k 2 v2)/\wr.cell? ⟨w.heap.size,0,none⟩=some v0/\wr.cell? ⟨w.heap.size,1,none⟩=some v1/\wr.cell? ⟨w.heap.size,2,none⟩=some v2/\(∀j,wr.frozen? ⟨w.heap.size,j,none⟩=false)/\w.heap.size<wr.heap.size/\Hid (Below w.heap.size w wr)) (λi _=>n - (intOf i).toNat)
 case atStart=>exact⟨0,.pointer none,.pointer none,.pointer none,Nat.zero_le _,rfl,j3 ⟨.inr ⟨by omega,rfl⟩,.inr ⟨by omega,rfl⟩,.inr ⟨by omega,rfl⟩⟩,by simp,by simp,by simp,λj=>by simp,by simp,j3 ((Below.refl _ _).alloc (Nat.le_refl _) _)⟩
 case round=>
  obtain⟨k,v0,v1,v2,hk,rfl,F0,a0,a1,a2,fz,aW,F2⟩:=hrel
  by_cases A1:k<n
  ·obtain⟨x,hx⟩:∃x,(qb8 t)[k]?=some x:=⟨_,List.getElem?_eq_getElem (by rw[q9 HN];exact A1)⟩
   obtain⟨g,bx,rfl,bH,O4,cS,bV⟩:=q9 HS k x hx;have dx:=((q9 F2).cell (p:=⟨g,k,none⟩) O4).trans cS;have CX:=j3 (q9 BI x (List.mem_of_getElem? hx) (w.heap.size+1) wr _ (by omega) ((q9 HL).below (q9 F2) (Nat.le_refl _)) (bV.kept (Kept.of_below (q9 F2))));have HX:=j3 hx;clear hx bV cS;rcases(show k=0\/k=1\/k=2 by omega) with rfl|rfl|rfl
   ·go_wp2_with(go_at_call 40;refine(q9 CX).mono ?_;rintro e w1⟨b1,rfl,k1,A7⟩;obtain⟨F1,F7⟩:=qb0 A7;have C8:w.heap.size<w1.heap.size:=(by have:=A7.size;omega);have q0:w1.cell? ⟨w.heap.size,0,none⟩=some v0:=(F1 _ 0 aW).trans a0;have q1:w1.cell? ⟨w.heap.size,1,none⟩=some v1:=(F1 _ 1 aW).trans a1;have q2:w1.cell? ⟨w.heap.size,2,none⟩=some v2:=(F1 _ 2 aW).trans a2;have f1:∀j,w1.frozen? ⟨w.heap.size,j,none⟩=false:=(λj=>(F7 _ j aW).trans (fz j));have E7:=j3 A7;have K1:=j3 k1;clear F1 F7 A7 k1)
    go_roundw
    case rel=>exact⟨1,_,v1,v2,by omega,by go_num,j3 ⟨SideK.new (q9 HX) (q9 K1) (by simp) _,(q9 F0).2.1.old (by decide) (q9 E7) (by simp) _,(q9 F0).2.2.old (by decide) (q9 E7) (by simp) _⟩,by simp[go_sem,q0],by simp[go_sem,q1],by simp[go_sem,q2],λj=>by simp[go_sem,f1],by simpa using C8,j3 ((j6 (q9 F2) (q9 E7)).setCell (by simp) _)⟩
    case measure=>simp[intOf];omega
   ·go_wp2_with(go_at_call 40;refine(q9 CX).mono ?_;rintro e w1⟨b1,rfl,k1,A7⟩;obtain⟨F1,F7⟩:=qb0 A7;have C8:w.heap.size<w1.heap.size:=(by have:=A7.size;omega);have q0:w1.cell? ⟨w.heap.size,0,none⟩=some v0:=(F1 _ 0 aW).trans a0;have q1:w1.cell? ⟨w.heap.size,1,none⟩=some v1:=(F1 _ 1 aW).trans a1;have q2:w1.cell? ⟨w.heap.size,2,none⟩=some v2:=(F1 _ 2 aW).trans a2;have f1:∀j,w1.frozen? ⟨w.heap.size,j,none⟩=false:=(λj=>(F7 _ j aW).trans (fz j));have E7:=j3 A7;have K1:=j3 k1;clear F1 F7 A7 k1)
    go_roundw
    case rel=>exact⟨2,v0,_,v2,by omega,by go_num,j3 ⟨(q9 F0).1.old (by decide) (q9 E7) (by simp) _,SideK.new (q9 HX) (q9 K1) (by simp) _,(q9 F0).2.2.old (by decide) (q9 E7) (by simp) _⟩,by simp[go_sem,q0],by simp[go_sem,q1],by simp[go_sem,q2],λj=>by simp[go_sem,f1],by simpa using C8,j3 ((j6 (q9 F2) (q9 E7)).setCell (by simp) _)⟩
    case measure=>simp[intOf];omega
   ·go_wp2_with(go_at_call 40;refine(q9 CX).mono ?_;rintro e w1⟨b1,rfl,k1,A7⟩;obtain⟨F1,F7⟩:=qb0 A7;have C8:w.heap.size<w1.heap.size:=(by have:=A7.size;omega);have q0:w1.cell? ⟨w.heap.size,0,none⟩=some v0:=(F1 _ 0 aW).trans a0;have q1:w1.cell? ⟨w.heap.size,1,none⟩=some v1:=(F1 _ 1 aW).trans a1;have q2:w1.cell? ⟨w.heap.size,2,none⟩=some v2:=(F1 _ 2 aW).trans a2;have f1:∀j,w1.frozen? ⟨w.heap.size,j,none⟩=false:=(λj=>(F7 _ j aW).trans (fz j));have E7:=j3 A7;have K1:=j3 k1;clear F1 F7 A7 k1)
    go_roundw
    case rel=>exact⟨3,v0,v1,_,by omega,by go_num,j3 ⟨(q9 F0).1.old (by decide) (q9 E7) (by simp) _,(q9 F0).2.1.old (by decide) (q9 E7) (by simp) _,SideK.new (q9 HX) (q9 K1) (by simp) _⟩,by simp[go_sem,q0],by simp[go_sem,q1],by simp[go_sem,q2],λj=>by simp[go_sem,f1],by simpa using C8,j3 ((j6 (q9 F2) (q9 E7)).setCell (by simp) _)⟩
    case measure=>simp[intOf];omega
  ·have Y9:k=(qb8 t).length:=by have:=q9 HN;omega
   have HD:=j3 (Y9 ▸ q9 F0);have HJ:=j3 (q9 JN wr v0 v1 v2 (q9 F2) aW (q9 HD).1.done (q9 HD).2.1.done (q9 HD).2.2.done);clear Y9 F0 HD
   go_wp2_with(go_at_call 67;refine(q9 HJ).mono ?_;rintro e w1⟨b1,rfl,k1,A7⟩;have E7:=j3 (j6 (q9 F2) A7);have K1:=j3 k1;clear A7 k1)
   go_ret;exact⟨b1,rfl,q9 K1,q9 E7⟩
theorem cof_every(lo:Nat):∀t,(vt7 t->vj5)->Ok t->CofOk lo t:=by
 intro t
 induction t with
 | leaf p=>intro hA J4;exact vi3 lo _ hA J4 (λx hx=>by simp[qb8]at hx)
 | un p x ih=>
  intro hA J4;refine vi3 lo _ hA J4 (λy hy=>?_);have pP:=hy;simp[qb8]at hy;subst hy;exact ih (λh=>hA (.inr h)) (J4.side pP)
 | bin p x y ihx ihy=>
  intro hA J4;refine vi3 lo _ hA J4 (λz hz=>?_);have dC:=hz;simp[qb8]at hz;rcases hz with rfl|rfl
  ·exact ihx (λh=>hA (.inl h)) (J4.side dC)
  ·exact ihy (λh=>hA (.inr h)) (J4.side dC)
 | tri p x y z ihx ihy ihz=>
  intro hA J4;refine vi3 lo _ hA J4 (λu hu=>?_);have xO:=hu;simp[qb8]at hu;rcases hu with rfl|rfl|rfl
  ·exact ihx (λh=>hA (.inl h)) (J4.side xO)
  ·exact ihy (λh=>hA (.inr (.inl h))) (J4.side xO)
  ·exact ihz (λh=>hA (.inr (.inr h))) (J4.side xO)
end
section
open Go.RowKit Go.Sort Go.Shelf Go.Proofs.Tryz
def tCells(ts:List (List UInt8)):List Value:=ts.map encStr
def jh9(w:World)(base:Nat)(v:Value)(ts:List (List UInt8)):Prop:=w.ownsRow base 9 1 v ts.length (tCells ts)
theorem za9(a:Option Addr)(n cap:Nat)(w:World):Calls prog 167 #[.slice a n cap] w λe w'=>e=.returned (.func (.func 208) #[] #[.pointer (some ⟨w.heap.size,0,none⟩)])/\w'=w.alloc (.cells #[.slice a n cap] 62):=by
 have pT:∀(fn:Fn) (first cap:Array Value) (w:World),(Instr.makeFunc fn first cap).run prog w=.ok (.func fn first cap) w:=λ_ _ _ _=>rfl
 go_enter func167,ntmps167
 go_wp2_with fail
 go_ret;exact⟨rfl,rfl⟩
theorem jj1(Bs b cap:Nat)(ts:List (List UInt8))(C1:ts≠[])(C7:ts.length<=1000)(w:World)(hb:b<w.heap.size)(hBs:Bs<w.heap.size)
  (hc:w.cell? ⟨Bs,0,none⟩=some (.slice (some ⟨b,0,none⟩) ts.length cap)) (O5:∀j,j<ts.length->w.cell? ⟨b,j,none⟩=some (.string (BS (ts[j]?.getD [])))) :
  Calls prog 206 #[.func (.func 208) #[] #[.pointer (some ⟨Bs,0,none⟩)]] w λe w'=>∃g c,e=.returned (.slice (some ⟨g,0,none⟩) ts.length c)/\jh9 w' w.heap.size (.slice (some ⟨g,0,none⟩) ts.length c) ts/\Below w.heap.size w w':=by
 have A:Hid (Calls prog 251 #[.slice none 0 0,.func (.func 208) #[] #[.pointer (some ⟨Bs,0,none⟩)]] w λe w'=>∃g c,e=.returned (.slice (some ⟨g,0,none⟩) ts.length c)/\jh9 w' w.heap.size (.slice (some ⟨g,0,none⟩) ts.length c) ts/\Below w.heap.size w w'):=j3 (((callsIn_wide (n:=5)).1 (ja1 5 (by omega) Bs b cap ts C7 w hb hBs hc O5)).mono (by
  rintro e w'⟨v,rfl,h1,h2⟩;rcases row_forms h1 with⟨_,h0⟩|⟨g,c,rfl⟩
  ·exact absurd (List.eq_nil_of_length_eq_zero h0) C1
  ·exact⟨g,c,rfl,h1,h2⟩))
 clear hc O5;go_enter func206,ntmps206
 go_wp2_with(go_at_call 251;refine(q9 A).mono ?_;rintro e w1⟨g,c,rfl,h1,h2⟩;have H1:=j3 h1;have H2:=j3 h2;clear h1 h2)
 go_ret;exact⟨g,c,rfl,q9 H1,q9 H2⟩
def ordT(ts:List (List UInt8)):List (List UInt8):=ts.mergeSort λx y=>decide (x<=y)
theorem qq6(ts:List (List UInt8)):(ordT ts).length=ts.length:=List.length_mergeSort ts
theorem za3(Bs b cap:Nat)(ts:List (List UInt8))(C1:ts≠[])(C7:ts.length<=1000)(w:World)(hb:b<w.heap.size)(hBs:Bs<w.heap.size)
  (hc:w.cell? ⟨Bs,0,none⟩=some (.slice (some ⟨b,0,none⟩) ts.length cap)) (O5:∀j,j<ts.length->w.cell? ⟨b,j,none⟩=some (.string (BS (ts[j]?.getD [])))) :
  Calls prog 166 #[.func (.func 208) #[] #[.pointer (some ⟨Bs,0,none⟩)]] w λe w'=>∃g c,e=.returned (.slice (some ⟨g,0,none⟩) ts.length c)/\jh9 w' w.heap.size (.slice (some ⟨g,0,none⟩) ts.length c) (ordT ts)/\Below w.heap.size w w':=by
 have CO:=j3 (jj1 Bs b cap ts C1 C7 w hb hBs hc O5)
 have SO:Hid (∀g c w1,jh9 w1 w.heap.size (.slice (some ⟨g,0,none⟩) ts.length c) ts->Below w.heap.size w w1->Calls prog 207 #[.slice (some ⟨g,0,none⟩) ts.length c] w1 λe w'=>e=.returned (.tuple #[])/\Hid (jh9 w' w.heap.size (.slice (some ⟨g,0,none⟩) ts.length c) (ordT ts)/\Below w.heap.size w w')):=j3 (by
  intro g c w1 h1 h2;obtain⟨K7,t7,mA,cur,J9,nZ,kI⟩:=vn3 h1;rw[Nat.mul_one]at kI;have hH:Holds encStr w1 g 0 ts.toArray:=holds_of_block J9 kI;refine(Tryz.slices_Sort_string g 0 c ts w1 hH (Array.getElem?_eq_some_iff.1 J9).1 (by omega)).mono ?_;rintro e w'⟨rfl,k,os,rfl⟩;refine⟨rfl,j3 ⟨?_, ?_⟩⟩
  ·have:=ownsRow_sorted (n:=k) (os:=os) (qq6 ts) K7 J9 t7 mA nZ
   show World.ownsRow _ _ _ _ _ _ _;rw[qq6];exact this
  ·exact h2.grown (grownBy_sorted _) h2.size (λj hj=>by cases hj;exact K7))
 obtain⟨n,hn⟩:∃n,ts.length=n:=⟨_,rfl⟩;rw[hn]at CO SO ⊢;clear hc O5 hn C7;go_enter func166,ntmps166
 go_wp2_with(first|(go_at_call 206;refine(q9 CO).mono ?_;rintro e w1⟨g,c,rfl,h1,h2⟩;have H1:=j3 h1;have H2:=j3 h2;clear h1 h2)|(go_at_call 207;refine(q9 SO g c w1 (q9 H1) (q9 H2)).mono ?_;rintro e w2⟨rfl,H3⟩))
 go_ret;exact⟨g,c,rfl,(q9 H3).1,(q9 H3).2⟩
theorem vu2(g c:Nat)(zs:List (List UInt8))(base:Nat)(w:World)(h:jh9 w base (.slice (some ⟨g,0,none⟩) zs.length c) zs)(C7:zs.length<=1000):
  Calls prog 165 #[.slice (some ⟨g,0,none⟩) zs.length c] w λe w'=>e=.returned (.slice (some ⟨g,0,none⟩) (Lib.compact zs).length c)/\Hid ((∀j t,(Lib.compact zs)[j]?=some t->w'.cell? ⟨g,j,none⟩=some (.string (BS t)))/\base<=g/\g<w'.heap.size/\w.grownBy w' (some g)):=by
 obtain⟨K7,t7,mA,cur,J9,nZ,kI⟩:=vn3 h;rw[Nat.mul_one]at kI;have hH:Holds encStr w g 0 zs.toArray:=holds_of_block J9 kI;refine(Tryz.slices_Compact_string g 0 c zs w hH (by omega) t7).mono ?_;rintro e w'⟨rfl,q,rfl⟩;have R7:(Lib.compact zs).length<=zs.length:=vk5 zs;obtain⟨ws,xJ⟩:∃ws,Lib.compact zs++List.replicate (zs.length - (Lib.compact zs).length) []=ws:=⟨_,rfl⟩;have vC:ws.length=zs.length:=by rw[←xJ];simp;omega
 have kG:grow (putRow encStr (Sort.ahead w q) g 0 ws.toArray) #[]=putRow encStr (Sort.ahead w q) g 0 ws.toArray:=by simp[grow];rfl
 have ho:=ownsRow_sorted (n:=q) (os:=#[]) vC K7 J9 t7 mA nZ;have V4:=grownBy_sorted (w:=w) (g:=g) (n:=q) (os:=#[]) ws.toArray;rw[kG]at ho V4;rw[xJ];refine⟨rfl,j3 ⟨λj t hj=>?_,K7, ?_,V4⟩⟩
 ·have FG:=(List.getElem?_eq_some_iff.1 hj).1
  have yN:ws[j]?=some t:=by rw[←xJ,List.getElem?_append_left FG];exact hj
  have:=World.ownsRow.cells ho (g:=g) rfl j (encStr t) (by rw[List.getElem?_map,yN];rfl);rwa [addr_off,Nat.zero_add]at this
 ·have:=V4.size
  have:=(Array.getElem?_eq_some_iff.1 J9).1;omega
end
section
def qv4(x:Co):List (List UInt8)->Nat->Co
 | [],_=>x
 | t::r,k=>qm8 x (j9 8 x (qd4 t)) (r.take (k - 1))
theorem jx0(x:Co):∀(l:List (List UInt8)) (f:Co) (t:List UInt8),qm8 x f (l++[t])=j9 7 (qm8 x f l) (j9 8 x (qd4 t)):=by
 intro l
 induction l with
 | nil=>intro f t;rfl
 | cons a l ih=>intro f t;exact ih _ t
theorem jv7(x:Co){zs:List (List UInt8)}{t:List UInt8}(h:zs[0]?=some t):qv4 x zs 1=j9 8 x (qd4 t):=by
 cases zs with
 | nil=>simp at h
 | cons a r=>simp at h;subst h;simp[qv4,qm8]
theorem jk6(x:Co){zs:List (List UInt8)}{k:Nat}{t:List UInt8}(hk:0<k)(h:zs[k]?=some t):qv4 x zs (k+1)=j9 7 (qv4 x zs k) (j9 8 x (qd4 t)):=by
 cases zs with
 | nil=>simp at h
 | cons a r=>
  obtain⟨j,rfl⟩:∃j,k=j+1:=⟨k - 1,by omega⟩;have h':r[j]?=some t:=by simpa using h
  show qm8 x (j9 8 x (qd4 a)) (r.take (j+1+1 - 1))=j9 7 (qm8 x (j9 8 x (qd4 a)) (r.take (j+1 - 1))) _;rw[show j+1+1 - 1=j+1 by omega,show j+1 - 1=j by omega,List.take_add_one,h'];exact jx0 x _ _ t
theorem jv5(x:Co)(ts:List (List UInt8)):qv4 x (qe5 ts) (qe5 ts).length=qh1 x ts:=by
 unfold qh1
 cases qe5 ts with
 | nil=>rfl
 | cons a r=>
  show qm8 x _ (r.take (r.length+1 - 1))=_;rw[show r.length+1 - 1=r.length by omega,List.take_length]
theorem jv6(x:Co)(zs:List (List UInt8))(k:Nat)(h:∀t∈zs,t.length<=200)(hl:zs.length<=200)(hx:(x9 x).length<=402):(x9 (qv4 x zs k)).length<=1000000:=by
 cases zs with
 | nil=>show(x9 x).length<=_;omega
 | cons a r=>
  have h1:=vn2 x (r.take (k - 1)) (j9 8 x (qd4 a)) (λt ht=>h t (List.mem_cons_of_mem _ (List.mem_of_mem_take ht)));rw[qb9 8 rfl rfl]at h1;have h2:=qp3 a (h a List.mem_cons_self);have e8:(qi6 8).length=1:=rfl
  have h3:(r.take (k - 1)).length<=200:=by
   have:=List.length_take_le (k - 1) r;simp at hl;have h4:(r.take (k - 1)).length<=r.length:=by rw[List.length_take];omega
   omega
  have h5:(r.take (k - 1)).length * ((x9 x).length+420)<=200 * 822:=Nat.mul_le_mul h3 (by omega);show(x9 (qm8 x (j9 8 x (qd4 a)) (r.take (k - 1)))).length<=_;omega
def FoundAt(B:Nat)(W:World)(x:Co)(zs:List (List UInt8))(k:Nat)(v:Value):Prop:=(k=0/\v=.pointer none)\/(0<k/\∃b,v=.pointer (some ⟨b,0,none⟩)/\CoAt B W.heap.size W v (qv4 x zs k))
theorem amongOk:vj5:=by
 intro lo B w x vx tv ts hB hL hx ht C1 iF C7 LA;obtain⟨bx,rfl⟩:=hx.ptr
 obtain⟨b,cap,rfl,_,hb,gX⟩:∃g cap,tv=.slice (some ⟨g,0,none⟩) ts.length cap/\lo<g/\g<w.heap.size/\∀(j:Nat) (t:List UInt8),ts[j]?=some t->w.cell? ⟨g,j,none⟩=some (.string (BS t)):=by
  rcases ht with⟨h1,_⟩|h
  ·exact absurd h1 C1
  ·exact h
 obtain⟨w1,aH⟩:∃w1,w1=w.alloc (.cells #[.slice (some ⟨b,0,none⟩) ts.length cap] 62):=⟨_,rfl⟩;have A7:Below w.heap.size w w1:=by rw[aH];exact(Below.refl _ _).alloc (Nat.le_refl _) _
 have C8:w1.heap.size=w.heap.size+1:=by rw[aH];simp
 have VA:=j3 (za9 (some ⟨b,0,none⟩) ts.length cap w);rw[←aH]at VA
 have SO:=j3 (za3 w.heap.size b cap ts C1 (by omega) w1 (by omega) (by omega) (by rw[aH];simp[go_sem]) (λj hj=>by
  have e:ts[j]?=some (ts[j]?.getD []):=by rw[List.getElem?_eq_getElem hj];rfl
  exact(A7.cell (p:=⟨b,j,none⟩) hb).trans (gX j _ e)))
 have CP:Hid (∀g c w2,jh9 w2 w1.heap.size (.slice (some ⟨g,0,none⟩) ts.length c) (ordT ts)->Below w1.heap.size w1 w2->Calls prog 165 #[.slice (some ⟨g,0,none⟩) ts.length c] w2 λe w3=>e=.returned (.slice (some ⟨g,0,none⟩) (qe5 ts).length c)/\Hid ((∀j t,(qe5 ts)[j]?=some t->w3.cell? ⟨g,j,none⟩=some (.string (BS t)))/\g<w3.heap.size/\Below w.heap.size w w3)):=j3 (by
  intro g c w2 h1 h2;have:=vu2 g c (ordT ts) w1.heap.size w2 (by rw[qq6];exact h1) (by rw[qq6];omega);rw[qq6]at this;refine this.mono ?_;rintro e w3⟨rfl,H⟩;obtain⟨a1,a2,a3,a4⟩:=q9 H;refine⟨rfl,j3 ⟨a1,a3, ?_⟩⟩;have B9:Below w.heap.size w w2:=j6 A7 h2
  exact B9.grown a4 B9.size (λj hj=>by
   have e:g=j:=by simpa using hj
   omega))
 have HZ:Hid (∀t∈qe5 ts,t.length<=200):=j3 λt ht=>C7 t (qx9 ht)
 have gO:(qe5 ts).length<=200:=Nat.le_trans (vd6 ts) iF;have nN:(qe5 ts).length≠0:=λe=>vj1 C1 (List.eq_nil_of_length_eq_zero e)
 have bT:Hid (qv4 x (qe5 ts) (qe5 ts).length=qh1 x ts):=j3 (jv5 x ts);have HX:Hid (∀W,Below w.heap.size w W->CoAt B W.heap.size W (.pointer (some ⟨bx,0,none⟩)) x):=j3 λW hW=>hx.below hW
 have CA:Hid (∀W,Below w.heap.size w W->LibOk W):=j3 λW hW=>hL.below hW (Nat.le_refl _)
 obtain⟨zs,DX⟩:∃zs,qe5 ts=zs:=⟨_,rfl⟩;rw[DX]at CP HZ gO nN bT;obtain⟨n,hn⟩:∃n,ts.length=n:=⟨_,rfl⟩;rw[hn]at VA SO CP ⊢;obtain⟨m,hm⟩:∃m,zs.length=m:=⟨_,rfl⟩;rw[hm]at CP gO nN bT;have HM:=j3 hm;clear DX hn hm aH hL hx ht C1 C7 gX;go_enter func114,ntmps114
 go_wp2_with(first|(go_at_call 167;refine(q9 VA).mono ?_;rintro e QI⟨rfl,rfl⟩)|(go_at_call 166;refine(q9 SO).mono ?_;rintro e w2⟨g2,c2,rfl,h1,h2⟩;have H1:=j3 h1;have H2:=j3 h2;clear h1 h2)|(go_at_call 165;refine(q9 CP g2 c2 w2 (q9 H1) (q9 H2)).mono ?_;rintro e w3⟨rfl,H3⟩))
 go_loopw [5,14] (λv i wr=>∃k:Nat,k<=m/\i=.int .i64 k/\Hid (FoundAt B wr x zs k v)/\Hid (Below w3.heap.size w3 wr)) (λ_ i _=>m - (intOf i).toNat)
 case atStart=>exact⟨0,Nat.zero_le _,rfl,j3 (.inl ⟨rfl,rfl⟩),j3 (Below.refl _ _)⟩
 case round=>
  obtain⟨k,hk,rfl,FA,HB⟩:=hrel
  by_cases A1:k<m
  ·obtain⟨t,ht⟩:∃t,zs[k]?=some t:=⟨_,List.getElem?_eq_getElem (by have:=q9 HM;omega)⟩
   have U2:t.length<=200:=q9 HZ t (List.mem_of_getElem? ht);obtain⟨a1,a2,a3⟩:=q9 H3;have d0:wr.cell? ⟨g2,k,none⟩=some (.string (BS t)):=((q9 HB).cell (p:=⟨g2,k,none⟩) a2).trans (a1 k t ht);have wC:Below w.heap.size w wr:=j6 a3 (q9 HB);have uZ:=wC.size;have R0:(0:Int)<=(k:Int):=by omega
   have A0:(k:Int)<(m:Int):=by omega
   have SP:Hid (Calls prog 115 #[.agg #[.int .i64 2,.pointer none,.pointer none,.int .i64 0,.string (BS t),.string ⟨#[]⟩,.string ⟨#[]⟩]] wr λe w'=>∃b,e=.returned (.pointer (some ⟨b,0,none⟩))/\CoAt B w'.heap.size w' (.pointer (some ⟨b,0,none⟩)) (qd4 t)/\Below wr.heap.size wr w'):=j3 (qp2 ⟨2,0,t,[]⟩ rfl rng0 (by show t.length<=_;omega) (Nat.zero_le _) (by omega) (q9 CA wr wC))
   have P8:Hid (∀w4 b4,CoAt B w4.heap.size w4 (.pointer (some ⟨b4,0,none⟩)) (qd4 t)->Below wr.heap.size wr w4->Calls prog 111 #[.int .i64 8,.pointer (some ⟨bx,0,none⟩),.pointer (some ⟨b4,0,none⟩)] w4 λe w'=>∃b,e=.returned (.pointer (some ⟨b,0,none⟩))/\CoAt B w'.heap.size w' (.pointer (some ⟨b,0,none⟩)) (j9 8 x (qd4 t))/\Below wr.heap.size wr w'):=j3 (by
    intro w4 b4 h1 h2;have h3:=j6 wC h2;refine(qh6 8 (by have:=h3.size;omega) (q9 CA w4 h3) (q9 HX w4 h3) h1 (by omega) (by have:=qp3 t U2;omega)).mono ?_;rintro e w'⟨b,rfl,q1,q2⟩
    exact⟨b,rfl,q1,j6 h2 q2⟩)
   rcases q9 FA with⟨rfl,rfl⟩|⟨Y7,b5,rfl,m8⟩
   ·have QE:Hid (qv4 x zs 1=j9 8 x (qd4 t)):=j3 (jv7 x ht)
    clear FA a1 a2 a3 ht HZ
    go_wp2_with(first|(go_at_call 115;refine(q9 SP).mono ?_;rintro e w4⟨b4,rfl,h1,h2⟩;have C4:=j3 h1;have B4:=j3 h2;clear h1 h2)|(go_at_call 111;refine(q9 P8 w4 b4 (q9 C4) (q9 B4)).mono ?_;rintro e w5⟨b5,rfl,h1,h2⟩;have C5:=j3 h1;have B5:=j3 h2;clear h1 h2))
    exact⟨⟨1,by omega,rfl,j3 (.inr ⟨by omega,b5,rfl,by rw[q9 QE];exact q9 C5⟩),j3 (j6 (q9 HB) (q9 B5))⟩,by simp[intOf];omega⟩
   ·have II:Hid (qv4 x zs (k+1)=j9 7 (qv4 x zs k) (j9 8 x (qd4 t))):=j3 (jk6 x Y7 ht)
    have P7:Hid (∀w5 b6,CoAt B w5.heap.size w5 (.pointer (some ⟨b6,0,none⟩)) (j9 8 x (qd4 t))->Below wr.heap.size wr w5->Calls prog 111 #[.int .i64 7,.pointer (some ⟨b5,0,none⟩),.pointer (some ⟨b6,0,none⟩)] w5 λe w'=>∃b,e=.returned (.pointer (some ⟨b,0,none⟩))/\CoAt B w'.heap.size w' (.pointer (some ⟨b,0,none⟩)) (qv4 x zs (k+1))/\Below wr.heap.size wr w'):=j3 (by
     intro w5 b6 h1 h2;have h3:=j6 wC h2
     have SL:(x9 (j9 8 x (qd4 t))).length<=1000000:=by
      rw[qb9 8 rfl rfl];have:=qp3 t U2;have e8:(qi6 8).length=1:=rfl;omega
     have SK:=jv6 x zs k (q9 HZ) (by rw[q9 HM];exact gO) LA;rw[q9 II];refine(qh6 7 (by have:=h3.size;omega) (q9 CA w5 h3) (m8.below h2) h1 (by omega) (by omega)).mono ?_;rintro e w'⟨b,rfl,q1,q2⟩
     exact⟨b,rfl,q1,j6 h2 q2⟩)
    clear FA a1 a2 a3 ht m8 II
    go_wp2_with(first|(go_at_call 115;refine(q9 SP).mono ?_;rintro e w4⟨b4,rfl,h1,h2⟩;have C4:=j3 h1;have B4:=j3 h2;clear h1 h2)|(go_at_call 111;refine(q9 P8 w4 b4 (q9 C4) (q9 B4)).mono ?_;clear P8;rintro e w5⟨b6,rfl,h1,h2⟩;have C5:=j3 h1;have B5:=j3 h2;clear h1 h2)|(go_at_call 111;refine(q9 P7 w5 b6 (q9 C5) (q9 B5)).mono ?_;rintro e w6⟨b7,rfl,h1,h2⟩;have C6:=j3 h1;have B6:=j3 h2;clear h1 h2))
    exact⟨⟨k+1,by omega,rfl,j3 (.inr ⟨by omega,b7,rfl,q9 C6⟩),j3 (j6 (q9 HB) (q9 B6))⟩,by simp[intOf];omega⟩
  ·have MG:k=m:=by omega
   subst MG;rcases q9 FA with⟨h0,_⟩|⟨_,b5,rfl,m8⟩
   ·exact absurd h0 nN
   ·have C5:=j3 m8
    clear m8 FA;have PV:Hid (Below w.heap.size w wr):=j3 (j6 (q9 H3).2.2 (q9 HB))
    go_wp2_with fail
    go_ret;exact⟨b5,rfl,by rw[←q9 bT];exact q9 C5,q9 PV⟩
end
section
def qw0(op:Int):Prop:=op=6\/op=7\/op=8\/op=10\/op=11\/16<=op/\op<=19
end
section
def NmP(p:CP):Prop:=p.op=0/\p.num=0/\p.esc=[]/\vw0 p.str=true
def LfP(p:CP):Prop:=NmP p\/(p.op=1/\0<=p.num/\p.num<=9223372036854775807/\p.str=[]/\p.esc=[])\/(p.op=2/\p.num=0/\p.esc=[])\/((p.op=3\/p.op=4)/\p.num=0/\p.str=[]/\p.esc=[])
def LkP(p:CP):Prop:=p.op=22/\p.num=0/\(p.esc=[]\/p.esc.length=1/\(qs5 p.esc p.str).isSome=true)
def OkC:Co->Prop
 | .leaf p=>LfP p
 | .un p x=>OkC x/\(p=qa0 5\/(∃q,x=.leaf q/\NmP q)/\(p=qa0 23\/LkP p))
 | .bin p x y=>OkC x/\OkC y/\∃op,qw0 op/\p=qa0 op
theorem qj3{op:Int}(ho:qw0 op){x y:Co}(hx:OkC x)(hy:OkC y):OkC (j9 op x y):=by
 unfold j9
 split
 ·exact⟨hy,hx,op,ho,rfl⟩
 ·exact⟨hx,hy,op,ho,rfl⟩
theorem ok_tf{n:Int}(h:n=3\/n=4):OkC (.leaf (qa0 n)):=.inr (.inr (.inr ⟨h,rfl,rfl,rfl⟩))
theorem ok_not:∀{c:Co},OkC c->OkC (qd8 c):=by
 intro c
 induction c with
 | leaf p=>
  intro h;unfold qd8
  split
  ·exact ok_tf (.inr rfl)
  ·split
   ·exact ok_tf (.inl rfl)
   ·exact⟨h,.inl rfl⟩
 | un p x ih=>
  intro h;unfold qd8
  split
  ·exact h.1
  ·exact⟨h,.inl rfl⟩
 | bin p x y ihx ihy=>
  intro h;unfold qd8
  split
  ·exact qj3 (by unfold qw0;omega) (ihx h.1) (ihy h.2.1)
  ·split
   ·exact qj3 (by unfold qw0;omega) (ihx h.1) (ihy h.2.1)
   ·split
    ·exact qj3 (by unfold qw0;omega) h.2.1 h.1
    ·split
     ·exact qj3 (by unfold qw0;omega) h.2.1 h.1
     ·exact⟨h,.inl rfl⟩
theorem ok_text(t:List UInt8):OkC (qd4 t):=.inr (.inr (.inl ⟨rfl,rfl,rfl⟩))
theorem ok_orAll{x:Co}(hx:OkC x):∀(r:List (List UInt8)) (f:Co),OkC f->OkC (qm8 x f r):=by
 intro r
 induction r with
 | nil=>intro f hf;exact hf
 | cons t r ih=>intro f hf;exact ih _ (qj3 (by unfold qw0;omega) hf (qj3 (by unfold qw0;omega) hx (ok_text t)))
theorem ok_among{x:Co}(hx:OkC x)(ts:List (List UInt8)):OkC (qh1 x ts):=by
 unfold qh1
 cases qe5 ts with
 | nil=>exact hx
 | cons t r=>exact ok_orAll hx r _ (qj3 (by unfold qw0;omega) hx (ok_text t))
theorem jc9{x:Ast}(h0:opA x=0)(hs:ShA x)(hz:BzA x):∃q,j8 x=.leaf q/\NmP q:=by
 cases x with
 | leaf p=>have h0:p.op=0:=h0;exact⟨qt4 p,rfl,h0,hz.name h0⟩
 | un p y=>have h0:p.op=0:=h0;have:=hs.1;omega
 | bin p y z=>have h0:p.op=0:=h0;have:=hs.1;omega
 | tri p y z u=>have h0:p.op=0:=h0;have:=hs.1;omega
theorem ok_num0:OkC (qz1 0):=.inr (.inl ⟨rfl,by decide,by decide,rfl,rfl⟩)
theorem ok_core:∀t,ShA t->BzA t->vg5 t->OkC (j8 t):=by
 intro t
 induction t with
 | leaf p=>
  intro h0 hz hn;have ho:p.op=0\/p.op=1\/p.op=2\/p.op=3\/p.op=4:=by have:=h0.1;have:=h0.2;omega
  rcases ho with h|h|h|h|h
  ·exact .inl ⟨h,hz.name h⟩
  ·have:=hz.num h
   exact .inr (.inl ⟨h,this.1,hn.2,this.2.1,this.2.2⟩)
  ·have:=hz.text h
   exact .inr (.inr (.inl ⟨h,this.1,this.2⟩))
  ·exact .inr (.inr (.inr ⟨.inl h,hz.bare (.inl h)⟩))
  ·exact .inr (.inr (.inr ⟨.inr h,hz.bare (.inr (.inl h))⟩))
 | un p x ih=>
  intro h0 hz hn;have hx:=ih h0.2.2.2 hz.2 hn.2;rcases h0.1 with ho|ho|ho|ho|ho|ho
  ·have e:j8 (.un p x)=qd8 (j8 x):=by simp[j8,ho]
   rw[e];exact ok_not hx
  ·have e:j8 (.un p x)=j9 16 (qz1 0) (j8 x):=by simp[j8,ho]
   rw[e];exact qj3 (by unfold qw0;omega) ok_num0 hx
  ·have e:j8 (.un p x)=j9 17 (qz1 0) (j8 x):=by simp[j8,ho]
   rw[e];exact qj3 (by unfold qw0;omega) ok_num0 hx
  ·have e:j8 (.un p x)=qh1 (j8 x) p.texts:=by simp[j8,ho]
   rw[e];exact ok_among hx _
  ·have e:j8 (.un p x)=.un (qt4 p) (j8 x):=by simp[j8,ho]
   rw[e];have hl:=hz.1.like ho;exact⟨hx,.inr ⟨jc9 (h0.2.2.1 (.inr (.inl ho))) h0.2.2.2 hz.2,.inr ⟨ho,hl.1,hl.2⟩⟩⟩
  ·have e:j8 (.un p x)=.un (qt4 p) (j8 x):=by simp[j8,ho]
   rw[e];have hb:=hz.1.bare (.inr (.inr (.inr ho)));refine⟨hx,.inr ⟨jc9 (h0.2.2.1 (.inr (.inr ho))) h0.2.2.2 hz.2,.inl ?_⟩⟩;unfold qt4 qa0;rw[ho,hb.1,hb.2.1,hb.2.2]
 | bin p x y ihx ihy=>
  intro h0 hz hn;have hx:=ihx h0.2.1 hz.2.1 hn.2.1;have hy:=ihy h0.2.2 hz.2.2 hn.2.2;have ho:=h0.1
  by_cases F9:p.op=12
  ·simp[j8,F9];exact qj3 (by unfold qw0;omega) hy hx
  by_cases h13:p.op=13
  ·simp[j8,h13];exact qj3 (by unfold qw0;omega) hy hx
  by_cases h9:p.op=9
  ·simp[j8,h9];exact ok_not (qj3 (by unfold qw0;omega) hx hy)
  simp[j8,F9,h13,h9];exact qj3 (by unfold qw0;omega) hx hy
 | tri p x y z ihx ihy ihz=>
  intro h0 hz hn;have hx:=ihx h0.2.1 hz.2.1 hn.2.1;exact qj3 (by unfold qw0;omega) (qj3 (by unfold qw0;omega) (ihy h0.2.2.1 hz.2.2.1 hn.2.2.1) hx) (qj3 (by unfold qw0;omega) hx (ihz h0.2.2.2 hz.2.2.2 hn.2.2.2))
def sgK(op:Int):Int:=if op==6 then 5 else if op==7 then 6 else if op==8 then 16 else if op==10 then 18 else if op==11 then 19 else if op==16 then 22 else if op==17 then 23 else if op==18 then 24 else 25
def escK(e:List UInt8):List Tk:=if e.isEmpty then[] else[j7 13,⟨4,0,e⟩]
def ve0(p:CP)(l r:List Tk):List Tk:=
 if p.op==0 then[⟨2,0,p.str⟩] else if p.op==1 then[⟨3,p.num,[]⟩] else if p.op==2 then[⟨4,0,p.str⟩] else if p.op==3 then[j7 8] else if p.op==4 then[j7 9]
 else if p.op==5 then j7 26::j7 7::(l++[j7 27]) else if p.op==23 then j7 26::(l++[j7 14,j7 15,j7 27])
 else if p.op==22 then j7 26::(l++j7 12::⟨4,0,p.str⟩::(escK p.esc++[j7 27]))
 else j7 26::(l++j7 (sgK p.op)::(r++[j7 27]))
def toks:Co->List Tk
 | .leaf p=>ve0 p [] []
 | .un p x=>ve0 p (toks x) []
 | .bin p x y=>ve0 p (toks x) (toks y)
theorem lx_name{s:List UInt8}(h:vw0 s=true):Lx s [⟨2,0,s⟩]:=by
 unfold vw0 at h;simp only[Bool.and_eq_true,decide_eq_true_eq,beq_iff_eq]at h;obtain⟨⟨h0,hl⟩,hk⟩:=h
 cases s with
 | nil=>simp[qa8]at h0
 | cons c t=>
  have hb:qs3 c=true:=by
   by_cases hb:qs3 c=true
   ·exact hb
   ·simp[qa8,hb]at h0
  have fL:spU c=false:=by
   unfold qs3 vg6 at hb;unfold spU spB;simp at hb ⊢;omega
  have F0:qc2 (c::t) 0=0:=by unfold qc2;simp[qa3,fL]
  have C7:0<(c::t).length:=by simp
  have ht:(c::t).take (qa8 (c::t))=c::t:=by rw[hl];exact List.take_length
  have e1:qc0 (c::t) 0=⟨2,0,c::t⟩:=by
   unfold qc0;rw[F0,if_pos C7,List.drop_zero];show(if qs3 c then qh4 (c::t) else _)=_;rw[if_pos hb];unfold qh4;rw[ht,if_pos hk]
  have e2:qd5 (c::t) 0=(c::t).length:=by
   unfold qd5;rw[F0,if_pos C7,List.drop_zero,Nat.zero_add];show(if qs3 c then qa8 (c::t) else _)=_;rw[if_pos hb,hl]
  exact .cons e1 (show(2:Int)≠0 by decide) (by rw[e2,List.drop_length];exact qw4)
theorem dec_dig(u:Nat):Lib.decDigits u=vk7 u:=by
 induction u using Nat.strongRecOn with
 | ind u ih=>
  by_cases h:u<10
  ·rw[Lib.decDigits,dif_pos h,qy4 h]
   unfold dig;rw[Nat.mod_eq_of_lt h]
  ·rw[Lib.decDigits,dif_neg h,vb6 h,ih (u / 10) (by omega)]
   rfl
theorem lx_number{n:Int}(h0:0<=n)(h1:n<=9223372036854775807):Lx (Lib.itoa n) [⟨3,n,[]⟩]:=by
 have:=lx_digits (n:=n.toNat) (by omega) (r:=[]) (λc h=>by cases h) qw4;rw[List.append_nil,show((n.toNat:Nat):Int)=n by omega]at this;unfold Lib.itoa;rw[if_neg (by omega),dec_dig];exact this
theorem lx_q(s r:List UInt8){L:List Tk}(h:Lx r L)(hr:∀c,r.head?=some c->(c==39)=false):Lx (qL s++r) (⟨4,0,s⟩::L):=by
 have:=lx_quoted h hr s;unfold qL;simpa using this
theorem lx_sign{op:Int}(ho:qw0 op){r:List UInt8}{L:List Tk}(h:Lx r L):Lx (qi6 op++32::r) (j7 (sgK op)::L):=by
 have hs:=qk9 h;have:op=6\/op=7\/op=8\/op=10\/op=11\/op=16\/op=17\/op=18\/op=19:=by unfold qw0 at ho;omega
 rcases this with rfl|rfl|rfl|rfl|rfl|rfl|rfl|rfl|rfl
 ·exact lx_and h
 ·exact lx_or h
 ·exact .cons (k:=j7 16) rfl (show(16:Int)≠0 by decide) hs
 ·exact .cons (k:=j7 18) rfl (show(18:Int)≠0 by decide) hs
 ·exact .cons (k:=j7 19) rfl (show(19:Int)≠0 by decide) hs
 ·exact .cons (k:=j7 22) rfl (show(22:Int)≠0 by decide) hs
 ·exact .cons (k:=j7 23) rfl (show(23:Int)≠0 by decide) hs
 ·exact .cons (k:=j7 24) rfl (show(24:Int)≠0 by decide) hs
 ·exact .cons (k:=j7 25) rfl (show(25:Int)≠0 by decide) hs
theorem lx_esc'(e:List UInt8):Lx (vz3 e++[41]) (escK e++[j7 27])/\∀c,(vz3 e++[41]).head?=some c->(c==39)=false:=by
 unfold vz3 escK
 split
 ·exact⟨vc2 qw4,λc h=>by simp at h;subst h;rfl⟩
 ·refine⟨?_,λc h=>by simp at h;subst h;rfl⟩
  have h1:=lx_q e [41] (vc2 qw4) (λc h=>by simp at h;subst h;rfl);exact qk9 (.cons (k:=j7 13) rfl (show(13:Int)≠0 by decide) (qk9 h1))
theorem lx_null:Lx (78::85::76::76::41::[]) [j7 15,j7 27]:=.cons (k:=j7 15) rfl (show(15:Int)≠0 by decide) (vc2 qw4)
theorem lx_isnull:Lx (73::83::32::78::85::76::76::41::[]) [j7 14,j7 15,j7 27]:=.cons (k:=j7 14) rfl (show(14:Int)≠0 by decide) (qk9 lx_null)
theorem lx_likek{r:List UInt8}{L:List Tk}(h:Lx r L):Lx (76::73::75::69::32::r) (j7 12::L):=.cons (k:=j7 12) rfl (show(12:Int)≠0 by decide) (qk9 h)
theorem sgK_ne(op:Int):sgK op≠1:=by
 unfold sgK
 repeat' split
 all_goals decide
theorem lx_core:∀c,OkC c->Lx (x9 c) (toks c)/\∀k∈toks c,k.kind≠1:=by
 intro c
 induction c with
 | leaf p=>
  intro h;show Lx (qb1 p [] []) (ve0 p [] [])/\∀k∈ve0 p [] [],k.kind≠1;rcases h with⟨h,_,_,h2⟩|⟨h,h2,h3,_⟩|⟨h,_⟩|⟨h|h,_⟩
  ·simp[qb1,ve0,h];exact lx_name h2
  ·simp[qb1,ve0,h];exact lx_number h2 h3
  ·simp[qb1,ve0,h]
   have:=lx_q p.str [] qw4 (λc h=>by cases h);simpa using this
  ·simp[qb1,ve0,h,j7]
   exact .cons (k:=j7 8) rfl (show(8:Int)≠0 by decide) qw4
  ·simp[qb1,ve0,h,j7]
   exact .cons (k:=j7 9) rfl (show(9:Int)≠0 by decide) qw4
 | un p x ih=>
  intro h;obtain⟨hl,hk⟩:=ih h.1;show Lx (qb1 p (x9 x) []) (ve0 p (toks x) [])/\∀k∈ve0 p (toks x) [],k.kind≠1;rcases h.2 with rfl|⟨_,rfl|hp⟩
  ·have e1:qb1 (qa0 5) (x9 x) []=40::78::79::84::32::(x9 x++41::[]):=by simp[qb1,qa0]
   have e2:ve0 (qa0 5) (toks x) []=j7 26::j7 7::(toks x++[j7 27]):=by simp[ve0,qa0]
   rw[e1,e2];refine⟨vv4 (.cons (k:=j7 7) rfl (show(7:Int)≠0 by decide) (qk9 (jc3 stop41 (vc2 qw4) hl hk))),λk hm=>?_⟩;simp only[List.mem_cons,List.mem_append,List.not_mem_nil,or_false]at hm;rcases hm with rfl|rfl|hm|rfl
   ·decide
   ·decide
   ·exact hk k hm
   ·decide
  ·have e1:qb1 (qa0 23) (x9 x) []=40::(x9 x++32::73::83::32::78::85::76::76::41::[]):=by simp[qb1,qa0]
   have e2:ve0 (qa0 23) (toks x) []=j7 26::(toks x++[j7 14,j7 15,j7 27]):=by simp[ve0,qa0]
   rw[e1,e2];refine⟨vv4 (jc3 stop32 (qk9 lx_isnull) hl hk),λk hm=>?_⟩;simp only[List.mem_cons,List.mem_append,List.not_mem_nil,or_false]at hm;rcases hm with rfl|hm|rfl|rfl|rfl
   ·decide
   ·exact hk k hm
   ·decide
   ·decide
   ·decide
  ·have ho:=hp.1
   have e1:qb1 p (x9 x) []=40::(x9 x++32::76::73::75::69::32::(qL p.str++(vz3 p.esc++[41]))):=by simp[qb1,ho]
   have e2:ve0 p (toks x) []=j7 26::(toks x++j7 12::⟨4,0,p.str⟩::(escK p.esc++[j7 27])):=by simp[ve0,ho]
   rw[e1,e2];obtain⟨l1,l2⟩:=lx_esc' p.esc;refine⟨vv4 (jc3 stop32 (qk9 (lx_likek (lx_q p.str _ l1 l2))) hl hk),λk hm=>?_⟩;simp only[List.mem_cons,List.mem_append,List.not_mem_nil,or_false]at hm;rcases hm with rfl|hm|rfl|rfl|hm|rfl
   ·decide
   ·exact hk k hm
   ·decide
   ·exact(by decide:(4:Int)≠1)
   ·unfold escK at hm
    split at hm
    ·cases hm
    ·simp only[List.mem_cons,List.not_mem_nil,or_false]at hm
     rcases hm with rfl|rfl
     ·decide
     ·exact(by decide:(4:Int)≠1)
   ·decide
 | bin p x y ihx ihy=>
  intro h;obtain⟨hx,FE⟩:=ihx h.1;obtain⟨hy,FD⟩:=ihy h.2.1;obtain⟨op,ho,rfl⟩:=h.2.2;have C1:op≠0/\op≠1/\op≠2/\op≠3/\op≠4/\op≠5/\op≠22/\op≠23:=by unfold qw0 at ho;omega
  have e1:x9 (.bin (qa0 op) x y)=40::(x9 x++32::(qi6 op++32::(x9 y++41::[]))):=by simp[x9,qb1,qa0,C1]
  have e2:toks (.bin (qa0 op) x y)=j7 26::(toks x++j7 (sgK op)::(toks y++[j7 27])):=by simp[toks,ve0,qa0,C1]
  rw[e1,e2];refine⟨vv4 (jc3 stop32 (qk9 (lx_sign ho (jc3 stop41 (vc2 qw4) hy FD))) hx FE),λk hm=>?_⟩;simp only[List.mem_cons,List.mem_append,List.not_mem_nil,or_false]at hm;rcases hm with rfl|hm|rfl|hm|rfl
  ·decide
  ·exact FE k hm
  ·exact sgK_ne op
  ·exact FD k hm
  ·decide
end
section
section
variable {L:T3} {ts:TS} {t:Ast} {R:List Tk} {o:Nat}
end
theorem toks_hd{c:Co}(h:OkC c)(R:List Tk):(hd (toks c++R)).kind≠7:=by
 cases c with
 | leaf p=>
  show(hd (ve0 p [] []++R)).kind≠7;rcases h with⟨h,_⟩|⟨h,_⟩|⟨h,_⟩|⟨h|h,_⟩<;>simp[ve0,h,hd,j7]
 | un p x=>
  show(hd (ve0 p (toks x) []++R)).kind≠7;rcases h.2 with rfl|⟨_,rfl|hp⟩
  ·simp[ve0,qa0,hd,j7]
  ·simp[ve0,qa0,hd,j7]
  ·simp[ve0,hp.1,hd,j7]
 | bin p x y=>
  show(hd (ve0 p (toks x) (toks y)++R)).kind≠7;obtain⟨op,ho,rfl⟩:=h.2.2;have C1:op≠0/\op≠1/\op≠2/\op≠3/\op≠4/\op≠5/\op≠22/\op≠23:=by unfold qw0 at ho;omega
  simp[ve0,qa0,C1,hd,j7]
end
section
theorem lx_det:∀{s:List UInt8} {L:List Tk},Lx s L->∀{L':List Tk},Lx s L'->L=L':=by
 intro s L h
 induction h with
 | nil h=>
  intro L' h'
  cases h' with
  | nil _=>rfl
  | cons e hk t=>rw[h]at e;subst e;exact absurd rfl hk
 | cons e hk t ih=>
  intro L' h'
  cases h' with
  | nil h=>rw[h]at e;subst e;exact absurd rfl hk
  | cons e' l8 t'=>subst e;subst e';rw[ih t']
def backP(k:Tk):CP:=if k.kind=2 then⟨0,0,k.str,[]⟩ else if k.kind=3 then⟨1,k.num,[],[]⟩ else if k.kind=4 then⟨2,0,k.str,[]⟩ else if k.kind=8 then qa0 3 else qa0 4
theorem leaf_view{p:CP}(h:LfP p):∃k,toks (.leaf p)=[k]/\p=backP k/\k.kind≠26/\k.kind≠7:=by
 obtain⟨op,num,str,esc⟩:=p;rcases h with⟨a,b,c,_⟩|⟨a,_,_,b,c⟩|⟨a,b,c⟩|⟨a,b,c,d⟩
 ·simp only at a b c;subst a b c;exact⟨⟨2,0,str⟩,rfl,rfl,by show(2:Int)≠26;decide,by show(2:Int)≠7;decide⟩
 ·simp only at a b c;subst a b c;exact⟨⟨3,num,[]⟩,rfl,rfl,by show(3:Int)≠26;decide,by show(3:Int)≠7;decide⟩
 ·simp only at a b c;subst a b c;exact⟨⟨4,0,str⟩,rfl,rfl,by show(4:Int)≠26;decide,by show(4:Int)≠7;decide⟩
 ·simp only at a b c d;subst b c d
  rcases a with a|a<;>subst a
  ·exact⟨j7 8,rfl,rfl,by decide,by decide⟩
  ·exact⟨j7 9,rfl,rfl,by decide,by decide⟩
inductive CV:Co->List Tk->Prop
 | leaf (k:Tk):k.kind≠26->k.kind≠7->CV (.leaf (backP k)) [k]
 | no (x:Co):OkC x->CV (.un (qa0 5) x) (j7 26::j7 7::(toks x++[j7 27]))
 | null (x:Co):OkC x->CV (.un (qa0 23) x) (j7 26::(toks x++j7 14::[j7 15,j7 27]))
 | like (s e:List UInt8) (x:Co):OkC x->CV (.un ⟨22,0,s,e⟩ x) (j7 26::(toks x++j7 12::⟨4,0,s⟩::(escK e++[j7 27])))
 | bin (op:Int) (x y:Co):qw0 op->OkC x->OkC y->CV (.bin (qa0 op) x y) (j7 26::(toks x++j7 (sgK op)::(toks y++[j7 27])))
theorem bin_toks{op:Int}(ho:qw0 op)(x y:Co):toks (.bin (qa0 op) x y)=j7 26::(toks x++j7 (sgK op)::(toks y++[j7 27])):=by
 show ve0 (qa0 op) (toks x) (toks y)=_;unfold qw0 at ho;unfold ve0 qa0;simp only;rw[if_neg (by simp;omega),if_neg (by simp;omega),if_neg (by simp;omega),if_neg (by simp;omega),if_neg (by simp;omega),if_neg (by simp;omega),if_neg (by simp;omega),if_neg (by simp;omega)]
theorem view{c:Co}(h:OkC c):CV c (toks c):=by
 cases c with
 | leaf p=>
  obtain⟨k,h1,h2,h3,h4⟩:=leaf_view h;rw[h1,h2];exact .leaf k h3 h4
 | un p x=>
  obtain⟨hx,rfl|⟨_,rfl|hl⟩⟩:=h
  ·exact .no x hx
  ·exact .null x hx
  ·obtain⟨op,num,str,esc⟩:=p
   obtain⟨a,b,_⟩:=hl;simp only at a b;subst a b;exact .like str esc x hx
 | bin p x y=>
  obtain⟨hx,hy,op,ho,rfl⟩:=h;rw[bin_toks ho];exact .bin op x y ho hx hy
theorem toks_cons{c:Co}(h:OkC c):∃k t,toks c=k::t/\k.kind≠7:=by
 have h7:=toks_hd h [];have hv:=view h;generalize toks c=l at hv h7
 cases hv with
 | leaf k a b=>exact⟨k,[],rfl,b⟩
 | no x _=>exact⟨_,_,rfl,by decide⟩
 | null x _=>exact⟨_,_,rfl,by decide⟩
 | like s e x _=>exact⟨_,_,rfl,by decide⟩
 | bin op x y _ _ _=>exact⟨_,_,rfl,by decide⟩
theorem no7{x:Co}(h:OkC x){r t:List Tk}(e:j7 7::t=toks x++r):False:=by
 obtain⟨k,u,h1,h2⟩:=toks_cons h;rw[h1,List.cons_append]at e;injection e with e _;exact h2 (e ▸ rfl)
theorem vy5{op:Int}:sgK op≠14/\sgK op≠12:=by
 unfold sgK
 repeat' split
 all_goals decide
theorem sgK_inj{a b:Int}(ha:qw0 a)(hb:qw0 b)(h:sgK a=sgK b):a=b:=by
 have key:∀o,qw0 o->o=6\/o=7\/o=8\/o=10\/o=11\/o=16\/o=17\/o=18\/o=19:=λo h=>by unfold qw0 at h;omega
 rcases key a ha with rfl|rfl|rfl|rfl|rfl|rfl|rfl|rfl|rfl<;>rcases key b hb with rfl|rfl|rfl|rfl|rfl|rfl|rfl|rfl|rfl<;>first|rfl|exact absurd h (by decide)
theorem esc_inj{e f:List UInt8}{r s:List Tk}(h:escK e++[j7 27]++r=escK f++[j7 27]++s):e=f/\r=s:=by
 unfold escK at h
 cases e with
 | nil=>
  cases f with
  | nil=>exact⟨rfl,by simpa using h⟩
  | cons a b=>simp[j7]at h
 | cons a b=>
  cases f with
  | nil=>simp[j7]at h
  | cons c d=>simp at h;exact⟨by rw[h.1.1,h.1.2],h.2⟩
theorem qw7{a b:Int}{r s:List Tk}(h:j7 a::r=j7 b::s):a=b/\r=s:=by
 injection h with h1 h2;injection h1 with h1;exact⟨h1,h2⟩
theorem toks_inj:∀c,OkC c->∀d,OkC d->∀r s:List Tk,toks c++r=toks d++s->c=d/\r=s:=by
 intro c
 induction c with
 | leaf p=>
  intro hc d hd r s h;have v:=view hc;have w:=view hd;generalize toks (.leaf p)=l at v h;generalize toks d=m at w h
  cases v with
  | leaf k a b=>
   cases w with
   | leaf k' a' b'=>simp at h;exact⟨by rw[h.1],h.2⟩
   | _=>simp at h;exact absurd (by rw[h.1];rfl) a
 | un p x ih=>
  intro hc d hd r s h;have v:=view hc;have w:=view hd;have hx:=hc.1;generalize toks (.un p x)=l at v h;generalize toks d=m at w h
  cases v with
  | no x _=>
   cases w with
   | leaf k' a' b'=>simp at h;exact absurd (by rw[←h.1];rfl) a'
   | no x' M8=>
    simp only[List.cons_append,List.append_assoc]at h;obtain⟨rfl,h2⟩:=ih hx x' M8 _ _ (by injection h with _ h;injection h);exact⟨rfl,by simpa using h2⟩
   | null x' M8=>simp only[List.cons_append,List.append_assoc]at h;injection h with _ h;exact(no7 M8 h).elim
   | like s' e' x' M8=>simp only[List.cons_append,List.append_assoc]at h;injection h with _ h;exact(no7 M8 h).elim
   | bin op x' y' _ M8 _=>simp only[List.cons_append,List.append_assoc]at h;injection h with _ h;exact(no7 M8 h).elim
  | null x _=>
   cases w with
   | leaf k' a' b'=>simp at h;exact absurd (by rw[←h.1];rfl) a'
   | no x' M8=>simp only[List.cons_append,List.append_assoc]at h;injection h with _ h;exact(no7 hx h.symm).elim
   | null x' M8=>
    simp only[List.cons_append,List.append_assoc]at h;obtain⟨rfl,h2⟩:=ih hx x' M8 _ _ (by injection h);exact⟨rfl,by simpa using h2⟩
   | like s' e' x' M8=>
    simp only[List.cons_append,List.append_assoc]at h;obtain⟨rfl,h2⟩:=ih hx x' M8 _ _ (by injection h);exact absurd (qw7 h2).1 (by decide)
   | bin op x' y' _ M8 _=>
    simp only[List.cons_append,List.append_assoc]at h;obtain⟨rfl,h2⟩:=ih hx x' M8 _ _ (by injection h);exact absurd (qw7 h2).1.symm vy5.1
  | like s0 e0 x _=>
   cases w with
   | leaf k' a' b'=>simp at h;exact absurd (by rw[←h.1];rfl) a'
   | no x' M8=>simp only[List.cons_append,List.append_assoc]at h;injection h with _ h;exact(no7 hx h.symm).elim
   | null x' M8=>
    simp only[List.cons_append,List.append_assoc]at h;obtain⟨rfl,h2⟩:=ih hx x' M8 _ _ (by injection h);exact absurd (qw7 h2).1 (by decide)
   | like s' e' x' M8=>
    simp only[List.cons_append,List.append_assoc]at h;obtain⟨rfl,h2⟩:=ih hx x' M8 _ _ (by injection h);obtain⟨_,h3⟩:=qw7 h2;injection h3 with h4 h5;injection h4 with _ _ h4;subst h4;obtain⟨rfl,h6⟩:=esc_inj (by simpa using h5);exact⟨rfl,h6⟩
   | bin op x' y' _ M8 _=>
    simp only[List.cons_append,List.append_assoc]at h;obtain⟨rfl,h2⟩:=ih hx x' M8 _ _ (by injection h);exact absurd (qw7 h2).1.symm vy5.2
 | bin p x y ihx ihy=>
  intro hc d hd r s h;have v:=view hc;have w:=view hd;have hx:=hc.1;have hy:=hc.2.1;generalize toks (.bin p x y)=l at v h;generalize toks d=m at w h
  cases v with
  | bin op x y ho _ _=>
   cases w with
   | leaf k' a' b'=>simp at h;exact absurd (by rw[←h.1];rfl) a'
   | no x' M8=>simp only[List.cons_append,List.append_assoc]at h;injection h with _ h;exact(no7 hx h.symm).elim
   | null x' M8=>
    simp only[List.cons_append,List.append_assoc]at h;obtain⟨rfl,h2⟩:=ihx hx x' M8 _ _ (by injection h);exact absurd (qw7 h2).1 vy5.1
   | like s' e' x' M8=>
    simp only[List.cons_append,List.append_assoc]at h;obtain⟨rfl,h2⟩:=ihx hx x' M8 _ _ (by injection h);exact absurd (qw7 h2).1 vy5.2
   | bin op' x' y' eG M8 pP=>
    simp only[List.cons_append,List.append_assoc]at h;obtain⟨rfl,h2⟩:=ihx hx x' M8 _ _ (by injection h);obtain⟨h3,h4⟩:=qw7 h2;obtain rfl:=sgK_inj ho eG h3;obtain⟨rfl,h5⟩:=ihy hy y' pP _ _ h4;exact⟨rfl,by simpa using h5⟩
theorem spell_inj{c d:Co}(hc:OkC c)(hd:OkC d)(h:x9 c=x9 d):c=d:=by
 have h1:=(lx_core c hc).1;have h2:=(lx_core d hd).1;rw[h]at h1;exact(toks_inj c hc d hd [] [] (by rw[lx_det h1 h2])).1
end
section
theorem TsAt.cells{w:World}{base:Nat}{v:Value}{ts:List Tm}(h:TsAt w base v ts):∃a c,v=.slice a ts.length c/\∀(k:Nat) (t:Tm),ts[k]?=some t->∃g,a=some ⟨g,0,none⟩/\g<w.heap.size /\
  w.cell? ⟨g,k * 6,none⟩=some (.int .i64 t.op)/\w.cell? ⟨g,k * 6+1,none⟩=some (.int .i64 t.left)/\w.cell? ⟨g,k * 6+2,none⟩=some (.int .i64 t.right)/\w.cell? ⟨g,k * 6+3,none⟩=some (.int .i64 t.num)/\w.cell? ⟨g,k * 6+4,none⟩=some (.string (BS t.str))/\w.cell? ⟨g,k * 6+5,none⟩=some (.string (BS t.esc)):=by
 have h0:=h;rcases h.2 with⟨rfl,hn⟩|⟨g,cap,cur,rfl,K7,J1,_⟩
 ·refine⟨none,0,by rw[hn],λk t hk=>?_⟩
  have:=(List.getElem?_eq_some_iff.1 hk).1;omega
 ·refine⟨_,cap,rfl,λk t hk=>⟨g,rfl,(Array.getElem?_eq_some_iff.1 J1).1, ?_⟩⟩
  have O9:∀j,(⟨g,0,none⟩:Addr).add j=⟨g,j,none⟩:=λj=>by unfold Addr.add;split<;>simp_all
  have hc:∀j u,(qy1 t)[j]?=some u->w.cell? ⟨g,k * 6+j,none⟩=some u:=λj u hj=>by
   have:=World.ownsRow.cells h0 (g:=g) rfl (k * 6+j) u (jg2 hk hj);rwa [O9]at this
  exact⟨hc 0 _ rfl,hc 1 _ rfl,hc 2 _ rfl,hc 3 _ rfl,hc 4 _ rfl,hc 5 _ rfl⟩
theorem IsAt.cells{w:World}{base:Nat}{v:Value}{l:List Nat}(h:IsAt w base v l):∃a c,v=.slice a l.length c/\∀(k:Nat) (x:Nat),l[k]?=some x->∃g,a=some ⟨g,0,none⟩/\g<w.heap.size/\w.cell? ⟨g,k,none⟩=some (.int .i64 x):=by
 have h0:=h;rcases h.2 with⟨rfl,hn⟩|⟨g,cap,cur,rfl,K7,J1,_⟩
 ·refine⟨none,0,by rw[hn],λk t hk=>?_⟩
  have:=(List.getElem?_eq_some_iff.1 hk).1;omega
 ·refine⟨_,cap,rfl,λk x hk=>⟨g,rfl,(Array.getElem?_eq_some_iff.1 J1).1, ?_⟩⟩
  have O9:∀j,(⟨g,0,none⟩:Addr).add j=⟨g,j,none⟩:=λj=>by unfold Addr.add;split<;>simp_all
  have:=World.ownsRow.cells h0 (g:=g) rfl k (.int .i64 x) (by simp[vb8,hk]);rwa [O9]at this
end
section
attribute [local go_sem ↓] qp7
def vj8(t:Tm):Prop:=∀(base:Nat) (v:Value) (l:List UInt8) (W:World),OB W base v l->base<=W.heap.size->l.length<=800000->Calls prog 117 #[tmV t,v] W (qr5 base W (l++qv8 t))
theorem vz1(t:Tm)(ht:SmallT t)(h:t.op∈[0,1,2,3,4,5,6,7,8,10,11,16,17,18,19,23]):vj8 t:=by
 intro base v l W h1 h2 h3;simp only[List.mem_cons,List.not_mem_nil,or_false]at h;rcases h with h|h|h|h|h|h|h|h|h|h|h|h|h|h|h|h
 ·exact write_0 base v l t W h1 h2 h3 ht h _ λ_ _ h=>h
 ·exact write_1 base v l t W h1 h2 h3 ht h _ λ_ _ h=>h
 ·exact write_2 base v l t W h1 h2 h3 ht h _ λ_ _ h=>h
 ·exact write_c base v l t W h1 h2 h3 ht (by simp[h]) _ λ_ _ h=>h
 ·exact write_c base v l t W h1 h2 h3 ht (by simp[h]) _ λ_ _ h=>h
 ·exact write_5 base v l t W h1 h2 h3 ht h _ λ_ _ h=>h
 ·exact qv2 base v l t W h1 h2 h3 ht (by simp[h]) _ λ_ _ h=>h
 ·exact qv2 base v l t W h1 h2 h3 ht (by simp[h]) _ λ_ _ h=>h
 ·exact qv2 base v l t W h1 h2 h3 ht (by simp[h]) _ λ_ _ h=>h
 ·exact qv2 base v l t W h1 h2 h3 ht (by simp[h]) _ λ_ _ h=>h
 ·exact qv2 base v l t W h1 h2 h3 ht (by simp[h]) _ λ_ _ h=>h
 ·exact qv2 base v l t W h1 h2 h3 ht (by simp[h]) _ λ_ _ h=>h
 ·exact qv2 base v l t W h1 h2 h3 ht (by simp[h]) _ λ_ _ h=>h
 ·exact qv2 base v l t W h1 h2 h3 ht (by simp[h]) _ λ_ _ h=>h
 ·exact qv2 base v l t W h1 h2 h3 ht (by simp[h]) _ λ_ _ h=>h
 ·exact write_23 base v l t W h1 h2 h3 ht h _ λ_ _ h=>h
def jb5(hd:List UInt8)(ts:List Tm):Nat->List UInt8
 | 0=>hd
 | k+1=>jb5 hd ts k++qv8 (ts.getD k (.bare 3))
def zb4(hd:List UInt8)(rs:List Nat):Nat->List UInt8
 | 0=>hd
 | k+1=>zb4 hd rs k++[UInt8.ofNat (rs.getD k 0)]
def vg7(ts:List Tm)(rs:List Nat):List UInt8:=zb4 (jb5 [UInt8.ofNat ts.length,UInt8.ofNat rs.length] ts ts.length) rs rs.length
theorem qu0(s:List UInt8):(vi5 s).length=s.length+1:=rfl
theorem jk2(t:Tm)(ht:SmallT t):(qv8 t).length<=1000:=by
 have h1:=ht.str;have h2:=ht.esc;unfold qv8
 split
 ·simp[qu1]
 split
 ·simp[qu0];omega
 split
 ·simp[qu0];omega
 split
 ·simp
 split<;>simp
theorem jk0(hd:List UInt8)(ts:List Tm)(h:∀t∈ts,SmallT t)(k:Nat):(jb5 hd ts k).length<=hd.length+k * 1000:=by
 induction k with
 | zero=>simp[jb5]
 | succ k ih=>
  rw[jb5,List.length_append]
  have:(qv8 (ts.getD k (.bare 3))).length<=1000:=by
   apply jk2;rw[List.getD_eq_getElem?_getD]
   cases hk:ts[k]? with
   | none=>exact⟨Nat.zero_le _,Nat.zero_le _,Nat.zero_le _,Nat.zero_le _⟩
   | some t=>exact h t (List.mem_of_getElem? hk)
  omega
theorem jk1(hd:List UInt8)(rs:List Nat)(k:Nat):(zb4 hd rs k).length=hd.length+k:=by
 induction k with
 | zero=>rfl
 | succ k ih=>rw[zb4,List.length_append,ih,List.length_singleton];omega
theorem OB.below{B:Nat}{w w':World}{base:Nat}{v:Value}{l:List UInt8}(h:OB w base v l)(hb:Below B w w')(hB:w.heap.size<=B):OB w' base v l:=qc3 h hb hB
theorem jx2(pb o:Nat)(ts:List Tm)(rs:List Nat)(W:World)(hp:ProgAt W pb o ts rs)(bL:ts.length<=200)(h8:rs.length<=200)(hsm:∀t∈ts,SmallT t)(hw:∀t∈ts,vj8 t)(hrs:∀r∈rs,r<=255)(Q:Ending->World->Prop)(hQ:∀e w',qr5 W.heap.size W (vg7 ts rs) e w'->Q e w'):
  Calls prog 71 #[.pointer (some ⟨pb,o,none⟩)] W Q:=by
 have HQ:=j3 hQ;clear hQ;unfold vg7 at HQ;obtain⟨plt,⟨tv,tb,c0,aX⟩,rv,rb,c1,rC⟩:=hp;obtain⟨ta,tc,rfl,FW⟩:=aX.cells;obtain⟨ra,rc,rfl,FZ⟩:=rC.cells;have OS:Hid _:=j3 FW;have cE:Hid _:=j3 FZ;have HW:=j3 hw;have OW:=j3 hrs;have aE:Hid _:=j3 (jk0 [UInt8.ofNat ts.length,UInt8.ofNat rs.length] ts hsm);clear FW FZ aX rC hw hrs hsm;obtain⟨n,hn⟩:∃n,n=ts.length:=⟨_,rfl⟩;obtain⟨m,hm⟩:∃m,m=rs.length:=⟨_,rfl⟩;have HN:=j3 hn;have HM:=j3 hm;rw[←hn]at c0 bL;rw[←hm]at c1 h8;rw[←hn,←hm]at HQ aE;clear hn hm;have n0:(0:Int)<=(n:Int):=by omega
 have n1:(n:Int)<256:=by omega
 have m0:(0:Int)<=(m:Int):=by omega
 have m1:(m:Int)<256:=by omega
 have O0:Hid (OB (W.alloc (.cells #[.int .u8 n,.int .u8 m] 5)).drew W.heap.size (.slice (some ⟨W.heap.size,0,none⟩) 2 2) [UInt8.ofNat n,UInt8.ofNat m]):=j3 (by
  refine⟨rfl,.inr ⟨W.heap.size,2,#[.int .u8 n,.int .u8 m],rfl,Nat.le_refl _,heap_alloc_new W _,Nat.le_refl _,by decide,rfl, ?_⟩⟩;show[Value.int .u8 n,Value.int .u8 m]=[Value.int .u8 ((UInt8.ofNat n).toNat:Int),Value.int .u8 ((UInt8.ofNat m).toNat:Int)]
  rw[←vq9 (by omega),←vq9 (by omega)])
 have B0:Hid (Below W.heap.size W (W.alloc (.cells #[.int .u8 n,.int .u8 m] 5)).drew):=j3 ((Below.refl _ _).alloc (Nat.le_refl _) _).drew;have PM:Hid ([UInt8.ofNat n,UInt8.ofNat m].length=2):=j3 rfl;generalize [UInt8.ofNat n,UInt8.ofNat m]=hd at *;go_enter func71,ntmps71
 go_wp2_with fail
 go_region
 all_goals go_wp2_with fail
 go_loopw [3,26] (λu i wr=>∃k:Nat,k<=n/\i=.int .i64 k/\Hid (OB wr W.heap.size u (jb5 hd ts k))/\Hid (Below W.heap.size W wr)) (λ_ i _=>n - (intOf i).toNat)
 case atStart=>exact⟨0,Nat.zero_le _,rfl,O0,B0⟩
 case round=>
  obtain⟨k,hk,rfl,HO,HB⟩:=hrel;have C7:(jb5 hd ts k).length<=700000:=by have h1:=q9 aE k;have h2:=q9 PM;omega
  by_cases A1:k<n
  ·obtain⟨t,ht⟩:∃t,ts[k]?=some t:=⟨_,List.getElem?_eq_getElem (by have:=q9 HN;omega)⟩
   obtain⟨g,rfl,glt,t0,t1,t2,t3,t4,t5⟩:=q9 OS k t ht;have WT:Hid (∀(u:Value) (U:World),OB U W.heap.size u (jb5 hd ts k)->W.heap.size<=U.heap.size->Calls prog 117 #[tmV t,u] U (qr5 W.heap.size U (jb5 hd ts k++qv8 t))):=j3 λu U h1 h2=>q9 HW t (List.mem_of_getElem? ht) _ u _ U h1 h2 (by omega)
   have hS:Hid (jb5 hd ts (k+1)=jb5 hd ts k++qv8 t):=j3 (by rw[jb5,List.getD_eq_getElem?_getD,ht];rfl);obtain⟨L,hL⟩:∃L,jb5 hd ts k=L:=⟨_,rfl⟩;rw[hL]at HO WT hS C7;obtain⟨jE,yV⟩:=qb0 (q9 HB);rw[←jE g (k * 6) glt]at t0;rw[←jE g (k * 6+1) glt]at t1;rw[←jE g (k * 6+2) glt]at t2;rw[←jE g (k * 6+3) glt]at t3;rw[←jE g (k * 6+4) glt]at t4;rw[←jE g (k * 6+5) glt]at t5;have G9:=(q9 HB).size;have KN:g<wr.heap.size:=by omega
   have R0:(0:Int)<=(k:Int):=by omega
   have A0:(k:Int)<(n:Int):=by omega
   have O1:=j3 (λo=>World.ownsRow.alloc (q9 HO) o);obtain⟨a',c',rfl⟩:=(q9 HO).form;unfold tmV at WT;clear jE yV ht hL C7
   go_wp2_with(go_at_call 117;refine(q9 WT _ _ (q9 O1 _) (by simp;omega)).mono ?_;rintro e w2⟨v2,rfl,I2,B9⟩;have P4:=j3 I2;have J2:=j3 (((q9 HB).alloc G9 _).trans B9);clear I2 B9)
   exact⟨⟨k+1,by omega,rfl,j3 (by rw[q9 hS];exact q9 P4),J2⟩,by simp[intOf];omega⟩
  ·have:k=n:=by omega
   subst this;have d1:wr.cell? ⟨pb,o+1,none⟩=some (.slice ra m rc):=((q9 HB).cell (p:=⟨pb,o+1,none⟩) plt).trans c1;generalize jb5 hd ts k=L at *
   go_wp2_with fail
   go_loopw [3,39] (λu i wr=>∃j:Nat,j<=m/\i=.int .i64 j/\Hid (OB wr W.heap.size u (zb4 L rs j))/\Hid (Below W.heap.size W wr)) (λ_ i _=>m - (intOf i).toNat)
   case atStart=>exact⟨0,Nat.zero_le _,rfl,HO,HB⟩
   case round=>
    obtain⟨j,hj,rfl,wQ,wV⟩:=hrel
    by_cases L4:j<m
    ·obtain⟨r,hr⟩:∃r,rs[j]?=some r:=⟨_,List.getElem?_eq_getElem (by have:=q9 HM;omega)⟩
     obtain⟨g,rfl,glt,t0⟩:=q9 cE j r hr;have rG:r<=255:=q9 OW r (List.mem_of_getElem? hr);have hS:Hid (zb4 L rs (j+1)=zb4 L rs j++[UInt8.ofNat r]):=j3 (by rw[zb4,List.getD_eq_getElem?_getD,hr];rfl);have gP:(zb4 L rs j).length<=1000000:=by rw[jk1];omega
     obtain⟨L2,aC⟩:∃L2,zb4 L rs j=L2:=⟨_,rfl⟩;rw[aC]at wQ hS gP;obtain⟨jE,yV⟩:=qb0 (q9 wV);rw[←jE g j glt]at t0;have G9:=(q9 wV).size;have KN:g<wr.heap.size:=by omega
     have SR:(0:Int)<=(j:Int):=by omega
     have SQ:(j:Int)<(m:Int):=by omega
     have Y6:(0:Int)<=(r:Int):=by omega
     have A4:(r:Int)<256:=by omega
     obtain⟨g5,S6,w5,o6,fC,U0⟩:=OB.app (q9 wQ) G9 (UInt8.ofNat r) (r:Int) (vq9 rG) gP 51 _ rfl rfl;have CU:=j3 ((q9 wV).trans (q9 U0));obtain⟨a',c',rfl⟩:=OB.form (q9 wQ);clear jE yV hr aC gP U0
     go_wp2_with fail
     exact⟨⟨j+1,by omega,rfl,j3 (by rw[q9 hS];exact q9 fC),CU⟩,by simp[intOf];omega⟩
    ·have:j=m:=by omega
     subst this
     go_wp2_with fail
     exact q9 HQ _ _ ⟨_,rfl,q9 wQ,q9 wV⟩
end
section
open Go.ChangeShapes Go.WideShapes Go.RowKit Go.Proofs.Tryz
theorem powNamed : prog.globalNamed "internal/strconv.uint64pow10" = some 1 := by kernel_rfl
theorem max_ok{W:World}(h:W.ShapedOpen prog):4<W.heap.size/\∃m,W.cell? ⟨4,0,none⟩=some (.int .i64 m):=by
 obtain⟨m,hm⟩:=cell_of_shapedOpen_int (g:=4) (zero:=#[.int .i64 0]) (t:=3) h (of_decide_eq_true (by kernel_rfl)) (by kernel_rfl) rfl (by kernel_rfl) (by kernel_rfl) underlying3;exact⟨block_lt_of_cell hm,m,hm⟩
theorem powType:(prog.globals[1]?).map (·.type)=some 343:=by kernel_rfl
theorem cellsPow:prog.cellsOf 343=20:=by kernel_rfl
theorem cellsU64:prog.cellsOf 317=1:=by kernel_rfl
theorem powLaid:(Rows.laid_internal_strconv_uint64pow10:DataW Unit)=Lib.tabData .u64 Lib.pow10Tab:=by kernel_rfl
theorem pow_ok {W : World} {l : List (String × DataW Unit)} (hm : ("internal/strconv.uint64pow10", Rows.laid_internal_strconv_uint64pow10) ∈ l) (h : laidMet prog l W) : Lib.TabIs prog W "internal/strconv.uint64pow10" .u64 Lib.pow10Tab := by
 obtain⟨g,t,cs,fuel,p,h1,h2,h3,h4⟩:=Lib.laidMet.reads h hm;obtain rfl:1=g:=Option.some.inj (powNamed.symm.trans h1);obtain rfl:343=t:=Option.some.inj (powType.symm.trans h2);rw[powLaid]at h4;unfold Lib.TabIs;rw[h3,←Lib.cells_of_tab underlying343 underlying317 cellsU64 cellsPow h4]
end
end Go.Proofs.YtfkcaldjphakpaaGreatDoor
