/- The laws by the document's answer: Evals, of any script. core.Of. Texts in a slice: Values, Collect, Sorted, Compact, one behind the other. core.among of any texts. Canon of any text. -/
import Derived.Test.YtfkcaldjphakpaaGreatDoorM44
import Derived.Test.YtfkcaldjphakpaaGreatDoorM31
import Derived.Test.YtfkcaldjphakpaaGreatDoorM14
import Derived.Test.YtfkcaldjphakpaaGreatDoorM07
import Derived.Test.YtfkcaldjphakpaaGreatDoorM02
import Derived.Test.YtfkcaldjphakpaaGreatDoorM08
import Derived.Deep.RegionHeld3
import Derived.Deep.DeepCutAuto
import Derived.Deep.QuietTactic
import Derived.BigQuiet
import Derived.OwnWalk
import Derived.Test.YtfkcaldjphakpaaGreatDoorM41
import Derived.Test.YtfkcaldjphakpaaGreatDoorShelf3
import Derived.Sort.OwnSorted
set_option maxHeartbeats 8000000
set_option maxRecDepth 100000
namespace Go.Proofs.YtfkcaldjphakpaaGreatDoor
open Go.RowKit
section
theorem ji3 {w:World} {wb:Nat} (c1:w.cell? ⟨wb,1,none⟩=some (.slice none 0 0)):Calls Tryz.prog 34 #[.pointer (some ⟨wb,0,none⟩)] w fun e w'=>e=.returned (.bool true)∧w'=w:=by
 go_enter Tryz.func34,Tryz.ntmps34
 go_wp2_with fail
 go_loopw [3] (fun i wr=>i=.int .i64 0∧wr=w) (fun _ _=>0)
 case atStart=>exact ⟨rfl,rfl⟩
 case round=>
  obtain ⟨rfl,rfl⟩:=hrel
  go_wp2_with fail
  go_ret
  exact ⟨rfl,rfl⟩
structure Holdless (w W:World):Prop where
 bel:Below w.heap.size w W
 c1:W.cell? ⟨w.heap.size,1,none⟩=some (.slice none 0 0)
 lt:w.heap.size<W.heap.size
theorem Holdless.below {w W W':World} (h:Holdless w W) (hb:Below W.heap.size W W'):Holdless w W':=⟨j6 h.bel hb,((qa9 hb).1 _ _ h.lt).trans h.c1,Nat.lt_of_lt_of_le h.lt hb.size⟩
theorem Holdless.start (w:World):Holdless w (w.alloc (.cells #[.slice none 0 0,.slice none 0 0] 61)):=⟨(Below.refl _ _).alloc (Nat.le_refl _) _,by simp,by simp⟩
theorem jn8 (K:Int) (hK:K<5) (w:World) (v:Value) (l:List Ox) (hl:OpsAt w v l)
  (hstep:∀W x,Below w.heap.size w W→OxOk W x→x.kind=K→Calls Tryz.prog 33 #[.pointer (some ⟨w.heap.size,0,none⟩),oxV x] W fun e W'=>e=.returned (.bool true)∧Below W.heap.size W W') :
  Calls Tryz.prog 15 #[v,.int .i64 K,.int .i64 K] w fun e w'=>e=.returned (.int .i64 (-1))∧Below w.heap.size w w':=by
 refine (upto_any K K (Holdless w) w v l hl (Holdless.start w) (fun W h=>h.bel) (fun W W' h hb=>h.below hb) (fun W x h hx hk=>?_) (fun W h=>?_)).mono fun e w' h=>⟨h.1,h.2.bel⟩
 ·refine (hstep W x h.bel hx (by omega)).mono fun e W' h2=>⟨h2.1,h.below h2.2⟩
 ·refine (ji3 h.c1).mono fun e W' h2=>⟨h2.1,by rw [h2.2];exact h⟩
end
section
def CofOk (lo:Nat) (t:Ast):Prop:=∀(B:Nat) (w:World) (v:Value),B≤w.heap.size→LibOk w→IsNode lo w v t→Calls Tryz.prog 40 #[v] w (qw2 B w (j7 t))
theorem CellsC.lower {B B' E:Nat} {w:World} {b:Nat} {p:CP} {l r:Value} {t:List UInt8} (h:CellsC B' E w b p l r t) (hB:B≤B'):CellsC B E w b p l r t:=
 ⟨Nat.le_trans hB h.lo,h.hi,h.within,h.c0,h.c1,h.c2,h.c3,h.c4,h.c5,h.c6⟩
theorem CoAt.lower {B B' E:Nat} {w:World} (hB:B≤B'):∀{c:Co} {v:Value},CoAt B' E w v c→CoAt B E w v c:=by
 intro c
 induction c with
 | leaf p=>rintro v ⟨b,rfl,h⟩;exact ⟨b,rfl,h.lower hB⟩
 | un p x ih=>rintro v ⟨b,vx,rfl,h,hx⟩;exact ⟨b,vx,rfl,h.lower hB,ih hx⟩
 | bin p x y ihx ihy=>rintro v ⟨b,vx,vy,rfl,h,hx,hy⟩;exact ⟨b,vx,vy,rfl,h.lower hB,ihx hx,ihy hy⟩
theorem CoAt.set {B:Nat} {w:World} {c:Co} {v:Value} (h:CoAt B w.heap.size w v c) {p:Addr} (hp:p.block<B) (u:Value):CoAt B (w.setCell p u).heap.size (w.setCell p u) v c:=by
 have hz:=size_setCell w p u
 exact h.keep (by rw [hz];exact Nat.le_refl _) (fun k hk _=>Below.heap_setCell w p u k (by omega)) (by rw [hz];exact Nat.le_refl _)
def SideK (B:Nat) (w:World) (t:Ast) (k j:Nat) (v:Value):Prop:=(j<k∧SideIs B w t j v)∨(¬j<k∧v=.pointer none)
theorem SideIs.set {B:Nat} {w w1:World} {t:Ast} {j:Nat} {v:Value} (h:SideIs B w t j v) (hb:Below w.heap.size w w1) {p:Addr} (hp:p.block<B) (u:Value):SideIs B (w1.setCell p u) t j v:=by
 unfold SideIs at h ⊢
 cases hx:(x9 t)[j]? with
 | none=>rw [hx] at h;exact h
 | some x=>rw [hx] at h;exact (h.below hb).set hp u
theorem SideK.old {B:Nat} {w w1:World} {t:Ast} {k j:Nat} {v:Value} (h:SideK B w t k j v) (hj:j≠k) (hb:Below w.heap.size w w1) {p:Addr} (hp:p.block<B) (u:Value):SideK B (w1.setCell p u) t (k+1) j v:=by
 rcases h with ⟨h1,h2⟩|⟨h1,h2⟩
 ·exact .inl ⟨by omega,h2.set hb hp u⟩
 ·exact .inr ⟨by omega,h2⟩
theorem SideK.new {B:Nat} {w1:World} {t x:Ast} {k:Nat} {v:Value} (hx:(x9 t)[k]?=some x) (h:CoAt B w1.heap.size w1 v (j7 x)) {p:Addr} (hp:p.block<B) (u:Value):SideK B (w1.setCell p u) t (k+1) k v:=by
 refine .inl ⟨by omega, ?_⟩
 unfold SideIs
 rw [hx]
 exact h.set hp u
theorem SideK.done {B:Nat} {w:World} {t:Ast} {j:Nat} {v:Value} (h:SideK B w t (x9 t).length j v):SideIs B w t j v:=by
 rcases h with ⟨_,h2⟩|⟨h1,h2⟩
 ·exact h2
 ·unfold SideIs
  rw [List.getElem?_eq_none (by omega)]
  exact h2
theorem vd7 (lo:Nat) (t:Ast) (hA:vk5 t→ve8) (hok:Ok t) (hsub:∀x∈x9 t,CofOk lo x):CofOk lo t:=by
 intro B w v hB hL h
 suffices hs:Calls Tryz.prog 40 #[v] w (qw2 (w.heap.size+1) w (j7 t)) by
  refine hs.mono ?_
  rintro e w' ⟨b,rfl,hc,hb⟩
  exact ⟨b,rfl,hc.lower (by omega),hb⟩
 have HNODE:=j4 h
 obtain ⟨b,sv,rfl,hnode,hsides⟩:=h.parts
 obtain ⟨a,rfl,hside⟩:=hsides.any
 have hn3:=vv9 t
 have c2:=hnode.c2
 have hbw:=hnode.within
 obtain ⟨n,hn⟩:∃n,(x9 t).length=n:=⟨_,rfl⟩
 rw [hn] at c2 hn3
 have HN:=j4 hn
 have HS:=j4 hside
 have HSUB:=j4 hsub
 have HND:=j4 hnode
 have HL:=j4 hL
 have JN:Hid (∀wr v0 v1 v2,Below w.heap.size w wr→w.heap.size<wr.heap.size→SideIs (w.heap.size+1) wr t 0 v0→SideIs (w.heap.size+1) wr t 1 v1→SideIs (w.heap.size+1) wr t 2 v2→Calls Tryz.prog 67 #[.pointer (some ⟨b,0,none⟩),v0,v1,v2] wr (qw2 (w.heap.size+1) wr (j7 t))):=
  j4 (fun wr v0 v1 v2 hb hz h0 h1 h2=>cjoin_all t hA hok lo _ (by omega) (hL.below hb (Nat.le_refl _)) (hnode.kept (Kept.of_below hb)) h0 h1 h2)
 clear hsides h hn hside hsub hnode hA hok hL hB
 go_enter Tryz.func40,Tryz.ntmps40
 go_wp2_with fail
 go_loopw [11] (fun i wr=>∃(k:Nat) (v0 v1 v2:Value),k≤n∧i=.int .i64 k∧Hid (SideK (w.heap.size+1) wr t k 0 v0∧SideK (w.heap.size+1) wr t k 1 v1∧SideK (w.heap.size+1) wr t k 2 v2)∧wr.cell? ⟨w.heap.size,0,none⟩=some v0∧wr.cell? ⟨w.heap.size,1,none⟩=some v1∧wr.cell? ⟨w.heap.size,2,none⟩=some v2∧(∀j,wr.frozen? ⟨w.heap.size,j,none⟩=false)∧w.heap.size<wr.heap.size∧Hid (Below w.heap.size w wr)) (fun i _=>n - (intOf i).toNat)
 case atStart=>exact ⟨0,.pointer none,.pointer none,.pointer none,Nat.zero_le _,rfl,j4 ⟨.inr ⟨by omega,rfl⟩,.inr ⟨by omega,rfl⟩,.inr ⟨by omega,rfl⟩⟩,by simp,by simp,by simp,fun j=>by simp,by simp,j4 ((Below.refl _ _).alloc (Nat.le_refl _) _)⟩
 case round=>
  obtain ⟨k,v0,v1,v2,hk,rfl,hat,a0,a1,a2,fz,hzr,hbel⟩:=hrel
  by_cases hlt:k<n
  ·obtain ⟨x,hx⟩:∃x,(x9 t)[k]?=some x:=⟨_,List.getElem?_eq_getElem (by rw [q9 HN];exact hlt)⟩
   obtain ⟨g,bx,rfl,hg1,hg2,hcx,hnx⟩:=q9 HS k x hx
   have dx:=((q9 hbel).cell (p:=⟨g,k,none⟩) hg2).trans hcx
   have CX:=j4 (q9 HSUB x (List.mem_of_getElem? hx) (w.heap.size+1) wr _ (by omega) ((q9 HL).below (q9 hbel) (Nat.le_refl _)) (hnx.kept (Kept.of_below (q9 hbel))))
   have HX:=j4 hx
   clear hx hnx hcx
   rcases (show k=0∨k=1∨k=2 by omega) with rfl|rfl|rfl
   ·go_wp2_with (go_at_call 40;refine (q9 CX).mono ?_;rintro e w1 ⟨b1,rfl,k1,hb1⟩;obtain ⟨hc1,hf1⟩:=qa9 hb1;have hz1:w.heap.size<w1.heap.size:=(by have:=hb1.size;omega);have q0:w1.cell? ⟨w.heap.size,0,none⟩=some v0:=(hc1 _ 0 hzr).trans a0;have q1:w1.cell? ⟨w.heap.size,1,none⟩=some v1:=(hc1 _ 1 hzr).trans a1;have q2:w1.cell? ⟨w.heap.size,2,none⟩=some v2:=(hc1 _ 2 hzr).trans a2;have f1:∀j,w1.frozen? ⟨w.heap.size,j,none⟩=false:=(fun j=>(hf1 _ j hzr).trans (fz j));have HB1:=j4 hb1;have K1:=j4 k1;clear hc1 hf1 hb1 k1)
    go_roundw
    case rel=>exact ⟨1,_,v1,v2,by omega,by go_num,j4 ⟨SideK.new (q9 HX) (q9 K1) (by simp) _,(q9 hat).2.1.old (by decide) (q9 HB1) (by simp) _,(q9 hat).2.2.old (by decide) (q9 HB1) (by simp) _⟩,by simp [go_sem,q0],by simp [go_sem,q1],by simp [go_sem,q2],fun j=>by simp [go_sem,f1],by simpa using hz1,j4 ((j6 (q9 hbel) (q9 HB1)).setCell (by simp) _)⟩
    case measure=>simp [intOf];omega
   ·go_wp2_with (go_at_call 40;refine (q9 CX).mono ?_;rintro e w1 ⟨b1,rfl,k1,hb1⟩;obtain ⟨hc1,hf1⟩:=qa9 hb1;have hz1:w.heap.size<w1.heap.size:=(by have:=hb1.size;omega);have q0:w1.cell? ⟨w.heap.size,0,none⟩=some v0:=(hc1 _ 0 hzr).trans a0;have q1:w1.cell? ⟨w.heap.size,1,none⟩=some v1:=(hc1 _ 1 hzr).trans a1;have q2:w1.cell? ⟨w.heap.size,2,none⟩=some v2:=(hc1 _ 2 hzr).trans a2;have f1:∀j,w1.frozen? ⟨w.heap.size,j,none⟩=false:=(fun j=>(hf1 _ j hzr).trans (fz j));have HB1:=j4 hb1;have K1:=j4 k1;clear hc1 hf1 hb1 k1)
    go_roundw
    case rel=>exact ⟨2,v0,_,v2,by omega,by go_num,j4 ⟨(q9 hat).1.old (by decide) (q9 HB1) (by simp) _,SideK.new (q9 HX) (q9 K1) (by simp) _,(q9 hat).2.2.old (by decide) (q9 HB1) (by simp) _⟩,by simp [go_sem,q0],by simp [go_sem,q1],by simp [go_sem,q2],fun j=>by simp [go_sem,f1],by simpa using hz1,j4 ((j6 (q9 hbel) (q9 HB1)).setCell (by simp) _)⟩
    case measure=>simp [intOf];omega
   ·go_wp2_with (go_at_call 40;refine (q9 CX).mono ?_;rintro e w1 ⟨b1,rfl,k1,hb1⟩;obtain ⟨hc1,hf1⟩:=qa9 hb1;have hz1:w.heap.size<w1.heap.size:=(by have:=hb1.size;omega);have q0:w1.cell? ⟨w.heap.size,0,none⟩=some v0:=(hc1 _ 0 hzr).trans a0;have q1:w1.cell? ⟨w.heap.size,1,none⟩=some v1:=(hc1 _ 1 hzr).trans a1;have q2:w1.cell? ⟨w.heap.size,2,none⟩=some v2:=(hc1 _ 2 hzr).trans a2;have f1:∀j,w1.frozen? ⟨w.heap.size,j,none⟩=false:=(fun j=>(hf1 _ j hzr).trans (fz j));have HB1:=j4 hb1;have K1:=j4 k1;clear hc1 hf1 hb1 k1)
    go_roundw
    case rel=>exact ⟨3,v0,v1,_,by omega,by go_num,j4 ⟨(q9 hat).1.old (by decide) (q9 HB1) (by simp) _,(q9 hat).2.1.old (by decide) (q9 HB1) (by simp) _,SideK.new (q9 HX) (q9 K1) (by simp) _⟩,by simp [go_sem,q0],by simp [go_sem,q1],by simp [go_sem,q2],fun j=>by simp [go_sem,f1],by simpa using hz1,j4 ((j6 (q9 hbel) (q9 HB1)).setCell (by simp) _)⟩
    case measure=>simp [intOf];omega
  ·have hkn:k=(x9 t).length:=by have:=q9 HN;omega
   have HD:=j4 (hkn ▸ q9 hat)
   have HJ:=j4 (q9 JN wr v0 v1 v2 (q9 hbel) hzr (q9 HD).1.done (q9 HD).2.1.done (q9 HD).2.2.done)
   clear hkn hat HD
   go_wp2_with (go_at_call 67;refine (q9 HJ).mono ?_;rintro e w1 ⟨b1,rfl,k1,hb1⟩;have HB1:=j4 (j6 (q9 hbel) hb1);have K1:=j4 k1;clear hb1 k1)
   go_ret
   exact ⟨b1,rfl,q9 K1,q9 HB1⟩
theorem cof_every (lo:Nat):∀t,(vk5 t→ve8)→Ok t→CofOk lo t:=by
 intro t
 induction t with
 | leaf p=>intro hA hok;exact vd7 lo _ hA hok (fun x hx=>by simp [x9] at hx)
 | un p x ih=>
  intro hA hok
  refine vd7 lo _ hA hok (fun y hy=>?_)
  have hy':=hy
  simp [x9] at hy
  subst hy
  exact ih (fun h=>hA (.inr h)) (hok.side hy')
 | bin p x y ihx ihy=>
  intro hA hok
  refine vd7 lo _ hA hok (fun z hz=>?_)
  have hz':=hz
  simp [x9] at hz
  rcases hz with rfl|rfl
  ·exact ihx (fun h=>hA (.inl h)) (hok.side hz')
  ·exact ihy (fun h=>hA (.inr h)) (hok.side hz')
 | tri p x y z ihx ihy ihz=>
  intro hA hok
  refine vd7 lo _ hA hok (fun u hu=>?_)
  have hu':=hu
  simp [x9] at hu
  rcases hu with rfl|rfl|rfl
  ·exact ihx (fun h=>hA (.inl h)) (hok.side hu')
  ·exact ihy (fun h=>hA (.inr (.inl h))) (hok.side hu')
  ·exact ihz (fun h=>hA (.inr (.inr h))) (hok.side hu')
end
section
open Go.RowKit Go.Sort Go.Shelf
def tCells (ts:List (List UInt8)):List Value:=ts.map encStr
def vx5 (w:World) (base:Nat) (v:Value) (ts:List (List UInt8)):Prop:=w.ownsRow base 9 1 v ts.length (tCells ts)
theorem jp0 (a:Option Addr) (n cap:Nat) (w:World):Calls Tryz.prog 167 #[.slice a n cap] w fun e w'=>e=.returned (.func (.func 208) #[] #[.pointer (some ⟨w.heap.size,0,none⟩)])∧w'=w.alloc (.cells #[.slice a n cap] 62):=by
 have hmf:∀(fn:Fn) (first cap:Array Value) (w:World),(Instr.makeFunc fn first cap).run Tryz.prog w=.ok (.func fn first cap) w:=fun _ _ _ _=>rfl
 go_enter Tryz.func167,Tryz.ntmps167
 go_wp2_with fail
 go_ret
 exact ⟨rfl,rfl⟩
theorem vy5 (Bs b cap:Nat) (ts:List (List UInt8)) (hne:ts≠[]) (hlen:ts.length≤1000) (w:World) (hb:b<w.heap.size) (hBs:Bs<w.heap.size)
  (hc:w.cell? ⟨Bs,0,none⟩=some (.slice (some ⟨b,0,none⟩) ts.length cap)) (hcs:∀j,j<ts.length→w.cell? ⟨b,j,none⟩=some (.string (BS (ts[j]?.getD [])))) :
  Calls Tryz.prog 206 #[.func (.func 208) #[] #[.pointer (some ⟨Bs,0,none⟩)]] w fun e w'=>∃g c,e=.returned (.slice (some ⟨g,0,none⟩) ts.length c)∧vx5 w' w.heap.size (.slice (some ⟨g,0,none⟩) ts.length c) ts∧Below w.heap.size w w':=by
 have A:Hid (Calls Tryz.prog 251 #[.slice none 0 0,.func (.func 208) #[] #[.pointer (some ⟨Bs,0,none⟩)]] w fun e w'=>∃g c,e=.returned (.slice (some ⟨g,0,none⟩) ts.length c)∧vx5 w' w.heap.size (.slice (some ⟨g,0,none⟩) ts.length c) ts∧Below w.heap.size w w'):=j4 (((callsIn_wide (n:=5)).1 (vr2 5 (by omega) Bs b cap ts hlen w hb hBs hc hcs)).mono (by
  rintro e w' ⟨v,rfl,h1,h2⟩
  rcases row_forms h1 with ⟨_,h0⟩|⟨g,c,rfl⟩
  ·exact absurd (List.eq_nil_of_length_eq_zero h0) hne
  ·exact ⟨g,c,rfl,h1,h2⟩))
 clear hc hcs
 go_enter Tryz.func206,Tryz.ntmps206
 go_wp2_with (go_at_call 251;refine (q9 A).mono ?_;rintro e w1 ⟨g,c,rfl,h1,h2⟩;have H1:=j4 h1;have H2:=j4 h2;clear h1 h2)
 go_ret
 exact ⟨g,c,rfl,q9 H1,q9 H2⟩
def ordT (ts:List (List UInt8)):List (List UInt8):=ts.mergeSort fun x y=>decide (x≤y)
theorem qq4 (ts:List (List UInt8)):(ordT ts).length=ts.length:=List.length_mergeSort ts
theorem jn3 (Bs b cap:Nat) (ts:List (List UInt8)) (hne:ts≠[]) (hlen:ts.length≤1000) (w:World) (hb:b<w.heap.size) (hBs:Bs<w.heap.size)
  (hc:w.cell? ⟨Bs,0,none⟩=some (.slice (some ⟨b,0,none⟩) ts.length cap)) (hcs:∀j,j<ts.length→w.cell? ⟨b,j,none⟩=some (.string (BS (ts[j]?.getD [])))) :
  Calls Tryz.prog 166 #[.func (.func 208) #[] #[.pointer (some ⟨Bs,0,none⟩)]] w fun e w'=>∃g c,e=.returned (.slice (some ⟨g,0,none⟩) ts.length c)∧vx5 w' w.heap.size (.slice (some ⟨g,0,none⟩) ts.length c) (ordT ts)∧Below w.heap.size w w':=by
 have CO:=j4 (vy5 Bs b cap ts hne hlen w hb hBs hc hcs)
 have SO:Hid (∀g c w1,vx5 w1 w.heap.size (.slice (some ⟨g,0,none⟩) ts.length c) ts→Below w.heap.size w w1→Calls Tryz.prog 207 #[.slice (some ⟨g,0,none⟩) ts.length c] w1 fun e w'=>e=.returned (.tuple #[])∧Hid (vx5 w' w.heap.size (.slice (some ⟨g,0,none⟩) ts.length c) (ordT ts)∧Below w.heap.size w w')):=j4 (by
  intro g c w1 h1 h2
  obtain ⟨hbg,hnc,hcm,cur,hcur,hcs',hct⟩:=vg4 h1
  rw [Nat.mul_one] at hct
  have hH:Holds encStr w1 g 0 ts.toArray:=holds_of_block hcur hct
  refine (Tryz.slices_Sort_string g 0 c ts w1 hH (Array.getElem?_eq_some_iff.1 hcur).1 (by omega)).mono ?_
  rintro e w' ⟨rfl,k,os,rfl⟩
  refine ⟨rfl,j4 ⟨?_, ?_⟩⟩
  ·have:=ownsRow_sorted (n:=k) (os:=os) (qq4 ts) hbg hcur hnc hcm hcs'
   show World.ownsRow _ _ _ _ _ _ _
   rw [qq4]
   exact this
  ·exact h2.grown (grownBy_sorted _) h2.size (fun j hj=>by cases hj;exact hbg))
 obtain ⟨n,hn⟩:∃n,ts.length=n:=⟨_,rfl⟩
 rw [hn] at CO SO ⊢
 clear hc hcs hn hlen
 go_enter Tryz.func166,Tryz.ntmps166
 go_wp2_with (first|(go_at_call 206;refine (q9 CO).mono ?_;rintro e w1 ⟨g,c,rfl,h1,h2⟩;have H1:=j4 h1;have H2:=j4 h2;clear h1 h2)|(go_at_call 207;refine (q9 SO g c w1 (q9 H1) (q9 H2)).mono ?_;rintro e w2 ⟨rfl,H3⟩))
 go_ret
 exact ⟨g,c,rfl,(q9 H3).1,(q9 H3).2⟩
theorem vk9 (g c:Nat) (zs:List (List UInt8)) (base:Nat) (w:World) (h:vx5 w base (.slice (some ⟨g,0,none⟩) zs.length c) zs) (hlen:zs.length≤1000) :
  Calls Tryz.prog 165 #[.slice (some ⟨g,0,none⟩) zs.length c] w fun e w'=>e=.returned (.slice (some ⟨g,0,none⟩) (Lib.compact zs).length c)∧Hid ((∀j t,(Lib.compact zs)[j]?=some t→w'.cell? ⟨g,j,none⟩=some (.string (BS t)))∧base≤g∧g<w'.heap.size∧w.grownBy w' (some g)):=by
 obtain ⟨hbg,hnc,hcm,cur,hcur,hcs',hct⟩:=vg4 h
 rw [Nat.mul_one] at hct
 have hH:Holds encStr w g 0 zs.toArray:=holds_of_block hcur hct
 refine (Tryz.slices_Compact_string g 0 c zs w hH (by omega) hnc).mono ?_
 rintro e w' ⟨rfl,q,rfl⟩
 have hcl:(Lib.compact zs).length≤zs.length:=vf2 zs
 obtain ⟨ws,hws⟩:∃ws,Lib.compact zs++List.replicate (zs.length - (Lib.compact zs).length) []=ws:=⟨_,rfl⟩
 have hwl:ws.length=zs.length:=by rw [←hws];simp;omega
 have hg0:grow (putRow encStr (Sort.ahead w q) g 0 ws.toArray) #[]=putRow encStr (Sort.ahead w q) g 0 ws.toArray:=by simp [grow];rfl
 have ho:=ownsRow_sorted (n:=q) (os:=#[]) hwl hbg hcur hnc hcm hcs'
 have hgr:=grownBy_sorted (w:=w) (g:=g) (n:=q) (os:=#[]) ws.toArray
 rw [hg0] at ho hgr
 rw [hws]
 refine ⟨rfl,j4 ⟨fun j t hj=>?_,hbg, ?_,hgr⟩⟩
 ·have hjl:=(List.getElem?_eq_some_iff.1 hj).1
  have hj2:ws[j]?=some t:=by rw [←hws,List.getElem?_append_left hjl];exact hj
  have:=World.ownsRow.cells ho (g:=g) rfl j (encStr t) (by rw [List.getElem?_map,hj2];rfl)
  rwa [addr_off,Nat.zero_add] at this
 ·have:=hgr.size
  have:=(Array.getElem?_eq_some_iff.1 hcur).1
  omega
end
section
def qt6 (x:Co):List (List UInt8)→Nat→Co
 | [],_=>x
 | t::r,k=>qp7 x (j8 8 x (qd9 t)) (r.take (k - 1))
theorem ji9 (x:Co):∀(l:List (List UInt8)) (f:Co) (t:List UInt8),qp7 x f (l++[t])=j8 7 (qp7 x f l) (j8 8 x (qd9 t)):=by
 intro l
 induction l with
 | nil=>intro f t;rfl
 | cons a l ih=>intro f t;exact ih _ t
theorem jh7 (x:Co) {zs:List (List UInt8)} {t:List UInt8} (h:zs[0]?=some t):qt6 x zs 1=j8 8 x (qd9 t):=by
 cases zs with
 | nil=>simp at h
 | cons a r=>simp at h;subst h;simp [qt6,qp7]
theorem vz4 (x:Co) {zs:List (List UInt8)} {k:Nat} {t:List UInt8} (hk:0<k) (h:zs[k]?=some t):qt6 x zs (k+1)=j8 7 (qt6 x zs k) (j8 8 x (qd9 t)):=by
 cases zs with
 | nil=>simp at h
 | cons a r=>
  obtain ⟨j,rfl⟩:∃j,k=j+1:=⟨k - 1,by omega⟩
  have h':r[j]?=some t:=by simpa using h
  show qp7 x (j8 8 x (qd9 a)) (r.take (j+1+1 - 1))=j8 7 (qp7 x (j8 8 x (qd9 a)) (r.take (j+1 - 1))) _
  rw [show j+1+1 - 1=j+1 by omega,show j+1 - 1=j by omega,List.take_add_one,h']
  exact ji9 x _ _ t
theorem jh5 (x:Co) (ts:List (List UInt8)):qt6 x (qf4 ts) (qf4 ts).length=qk7 x ts:=by
 unfold qk7
 cases qf4 ts with
 | nil=>rfl
 | cons a r=>
  show qp7 x _ (r.take (r.length+1 - 1))=_
  rw [show r.length+1 - 1=r.length by omega,List.take_length]
theorem jh6 (x:Co) (zs:List (List UInt8)) (k:Nat) (h:∀t∈zs,t.length≤200) (hl:zs.length≤200) (hx:(j9 x).length≤402):(j9 (qt6 x zs k)).length≤1000000:=by
 cases zs with
 | nil=>show (j9 x).length≤_;omega
 | cons a r=>
  have h1:=vg3 x (r.take (k - 1)) (j8 8 x (qd9 a)) (fun t ht=>h t (List.mem_cons_of_mem _ (List.mem_of_mem_take ht)))
  rw [qc1 8 rfl rfl] at h1
  have h2:=qp4 a (h a List.mem_cons_self)
  have e8:(qj8 8).length=1:=rfl
  have h3:(r.take (k - 1)).length≤200:=by
   have:=List.length_take_le (k - 1) r
   simp at hl
   have h4:(r.take (k - 1)).length≤r.length:=by rw [List.length_take];omega
   omega
  have h5:(r.take (k - 1)).length * ((j9 x).length+420)≤200 * 822:=Nat.mul_le_mul h3 (by omega)
  show (j9 (qp7 x (j8 8 x (qd9 a)) (r.take (k - 1)))).length≤_
  omega
def FoundAt (B:Nat) (W:World) (x:Co) (zs:List (List UInt8)) (k:Nat) (v:Value):Prop:=(k=0∧v=.pointer none)∨(0<k∧∃b,v=.pointer (some ⟨b,0,none⟩)∧CoAt B W.heap.size W v (qt6 x zs k))
theorem amongOk:ve8:=by
 intro lo B w x vx tv ts hB hL hx ht hne h200 hlen hsx
 obtain ⟨bx,rfl⟩:=hx.ptr
 obtain ⟨b,cap,rfl,_,hb,hcells⟩:∃g cap,tv=.slice (some ⟨g,0,none⟩) ts.length cap∧lo<g∧g<w.heap.size∧∀(j:Nat) (t:List UInt8),ts[j]?=some t→w.cell? ⟨g,j,none⟩=some (.string (BS t)):=by
  rcases ht with ⟨h1,_⟩|h
  ·exact absurd h1 hne
  ·exact h
 obtain ⟨w1,hw1⟩:∃w1,w1=w.alloc (.cells #[.slice (some ⟨b,0,none⟩) ts.length cap] 62):=⟨_,rfl⟩
 have hb1:Below w.heap.size w w1:=by rw [hw1];exact (Below.refl _ _).alloc (Nat.le_refl _) _
 have hz1:w1.heap.size=w.heap.size+1:=by rw [hw1];simp
 have VA:=j4 (jp0 (some ⟨b,0,none⟩) ts.length cap w)
 rw [←hw1] at VA
 have SO:=j4 (jn3 w.heap.size b cap ts hne (by omega) w1 (by omega) (by omega) (by rw [hw1];simp [go_sem]) (fun j hj=>by
  have e:ts[j]?=some (ts[j]?.getD []):=by rw [List.getElem?_eq_getElem hj];rfl
  exact (hb1.cell (p:=⟨b,j,none⟩) hb).trans (hcells j _ e)))
 have CP:Hid (∀g c w2,vx5 w2 w1.heap.size (.slice (some ⟨g,0,none⟩) ts.length c) (ordT ts)→Below w1.heap.size w1 w2→Calls Tryz.prog 165 #[.slice (some ⟨g,0,none⟩) ts.length c] w2 fun e w3=>e=.returned (.slice (some ⟨g,0,none⟩) (qf4 ts).length c)∧Hid ((∀j t,(qf4 ts)[j]?=some t→w3.cell? ⟨g,j,none⟩=some (.string (BS t)))∧g<w3.heap.size∧Below w.heap.size w w3)):=j4 (by
  intro g c w2 h1 h2
  have:=vk9 g c (ordT ts) w1.heap.size w2 (by rw [qq4];exact h1) (by rw [qq4];omega)
  rw [qq4] at this
  refine this.mono ?_
  rintro e w3 ⟨rfl,H⟩
  obtain ⟨a1,a2,a3,a4⟩:=q9 H
  refine ⟨rfl,j4 ⟨a1,a3, ?_⟩⟩
  have hb2:Below w.heap.size w w2:=j6 hb1 h2
  exact hb2.grown a4 hb2.size (fun j hj=>by
   have e:g=j:=by simpa using hj
   omega))
 have HZ:Hid (∀t∈qf4 ts,t.length≤200):=j4 fun t ht=>hlen t (vh6 ht)
 have hm200:(qf4 ts).length≤200:=Nat.le_trans (va1 ts) h200
 have hmne:(qf4 ts).length≠0:=fun e=>ve4 hne (List.eq_nil_of_length_eq_zero e)
 have HALL:Hid (qt6 x (qf4 ts) (qf4 ts).length=qk7 x ts):=j4 (jh5 x ts)
 have HX:Hid (∀W,Below w.heap.size w W→CoAt B W.heap.size W (.pointer (some ⟨bx,0,none⟩)) x):=j4 fun W hW=>hx.below hW
 have HLB:Hid (∀W,Below w.heap.size w W→LibOk W):=j4 fun W hW=>hL.below hW (Nat.le_refl _)
 obtain ⟨zs,hzs⟩:∃zs,qf4 ts=zs:=⟨_,rfl⟩
 rw [hzs] at CP HZ hm200 hmne HALL
 obtain ⟨n,hn⟩:∃n,ts.length=n:=⟨_,rfl⟩
 rw [hn] at VA SO CP ⊢
 obtain ⟨m,hm⟩:∃m,zs.length=m:=⟨_,rfl⟩
 rw [hm] at CP hm200 hmne HALL
 have HM:=j4 hm
 clear hzs hn hm hw1 hL hx ht hne hlen hcells
 go_enter Tryz.func114,Tryz.ntmps114
 go_wp2_with (first|(go_at_call 167;refine (q9 VA).mono ?_;rintro e w1' ⟨rfl,rfl⟩)|(go_at_call 166;refine (q9 SO).mono ?_;rintro e w2 ⟨g2,c2,rfl,h1,h2⟩;have H1:=j4 h1;have H2:=j4 h2;clear h1 h2)|(go_at_call 165;refine (q9 CP g2 c2 w2 (q9 H1) (q9 H2)).mono ?_;rintro e w3 ⟨rfl,H3⟩))
 go_loopw [5,14] (fun v i wr=>∃k:Nat,k≤m∧i=.int .i64 k∧Hid (FoundAt B wr x zs k v)∧Hid (Below w3.heap.size w3 wr)) (fun _ i _=>m - (intOf i).toNat)
 case atStart=>exact ⟨0,Nat.zero_le _,rfl,j4 (.inl ⟨rfl,rfl⟩),j4 (Below.refl _ _)⟩
 case round=>
  obtain ⟨k,hk,rfl,FA,HB⟩:=hrel
  by_cases hlt:k<m
  ·obtain ⟨t,ht⟩:∃t,zs[k]?=some t:=⟨_,List.getElem?_eq_getElem (by have:=q9 HM;omega)⟩
   have htl:t.length≤200:=q9 HZ t (List.mem_of_getElem? ht)
   obtain ⟨a1,a2,a3⟩:=q9 H3
   have d0:wr.cell? ⟨g2,k,none⟩=some (.string (BS t)):=((q9 HB).cell (p:=⟨g2,k,none⟩) a2).trans (a1 k t ht)
   have hBw:Below w.heap.size w wr:=j6 a3 (q9 HB)
   have hzw:=hBw.size
   have hk0:(0:Int)≤(k:Int):=by omega
   have hk1:(k:Int)<(m:Int):=by omega
   have SP:Hid (Calls Tryz.prog 115 #[.agg #[.int .i64 2,.pointer none,.pointer none,.int .i64 0,.string (BS t),.string ⟨#[]⟩,.string ⟨#[]⟩]] wr fun e w'=>∃b,e=.returned (.pointer (some ⟨b,0,none⟩))∧CoAt B w'.heap.size w' (.pointer (some ⟨b,0,none⟩)) (qd9 t)∧Below wr.heap.size wr w'):=j4 (qp3 ⟨2,0,t,[]⟩ rfl rng0 (by show t.length≤_;omega) (Nat.zero_le _) (by omega) (q9 HLB wr hBw))
   have P8:Hid (∀w4 b4,CoAt B w4.heap.size w4 (.pointer (some ⟨b4,0,none⟩)) (qd9 t)→Below wr.heap.size wr w4→Calls Tryz.prog 111 #[.int .i64 8,.pointer (some ⟨bx,0,none⟩),.pointer (some ⟨b4,0,none⟩)] w4 fun e w'=>∃b,e=.returned (.pointer (some ⟨b,0,none⟩))∧CoAt B w'.heap.size w' (.pointer (some ⟨b,0,none⟩)) (j8 8 x (qd9 t))∧Below wr.heap.size wr w'):=j4 (by
    intro w4 b4 h1 h2
    have h3:=j6 hBw h2
    refine (qi4 8 (by have:=h3.size;omega) (q9 HLB w4 h3) (q9 HX w4 h3) h1 (by omega) (by have:=qp4 t htl;omega)).mono ?_
    rintro e w' ⟨b,rfl,q1,q2⟩
    exact ⟨b,rfl,q1,j6 h2 q2⟩)
   rcases q9 FA with ⟨rfl,rfl⟩|⟨hpos,b5,rfl,hc5⟩
   ·have H1C:Hid (qt6 x zs 1=j8 8 x (qd9 t)):=j4 (jh7 x ht)
    clear FA a1 a2 a3 ht HZ
    go_wp2_with (first|(go_at_call 115;refine (q9 SP).mono ?_;rintro e w4 ⟨b4,rfl,h1,h2⟩;have C4:=j4 h1;have B4:=j4 h2;clear h1 h2)|(go_at_call 111;refine (q9 P8 w4 b4 (q9 C4) (q9 B4)).mono ?_;rintro e w5 ⟨b5,rfl,h1,h2⟩;have C5:=j4 h1;have B5:=j4 h2;clear h1 h2))
    exact ⟨⟨1,by omega,rfl,j4 (.inr ⟨by omega,b5,rfl,by rw [q9 H1C];exact q9 C5⟩),j4 (j6 (q9 HB) (q9 B5))⟩,by simp [intOf];omega⟩
   ·have HSC:Hid (qt6 x zs (k+1)=j8 7 (qt6 x zs k) (j8 8 x (qd9 t))):=j4 (vz4 x hpos ht)
    have P7:Hid (∀w5 b6,CoAt B w5.heap.size w5 (.pointer (some ⟨b6,0,none⟩)) (j8 8 x (qd9 t))→Below wr.heap.size wr w5→Calls Tryz.prog 111 #[.int .i64 7,.pointer (some ⟨b5,0,none⟩),.pointer (some ⟨b6,0,none⟩)] w5 fun e w'=>∃b,e=.returned (.pointer (some ⟨b,0,none⟩))∧CoAt B w'.heap.size w' (.pointer (some ⟨b,0,none⟩)) (qt6 x zs (k+1))∧Below wr.heap.size wr w'):=j4 (by
     intro w5 b6 h1 h2
     have h3:=j6 hBw h2
     have hl8:(j9 (j8 8 x (qd9 t))).length≤1000000:=by
      rw [qc1 8 rfl rfl]
      have:=qp4 t htl
      have e8:(qj8 8).length=1:=rfl
      omega
     have hlf:=jh6 x zs k (q9 HZ) (by rw [q9 HM];exact hm200) hsx
     rw [q9 HSC]
     refine (qi4 7 (by have:=h3.size;omega) (q9 HLB w5 h3) (hc5.below h2) h1 (by omega) (by omega)).mono ?_
     rintro e w' ⟨b,rfl,q1,q2⟩
     exact ⟨b,rfl,q1,j6 h2 q2⟩)
    clear FA a1 a2 a3 ht hc5 HSC
    go_wp2_with (first|(go_at_call 115;refine (q9 SP).mono ?_;rintro e w4 ⟨b4,rfl,h1,h2⟩;have C4:=j4 h1;have B4:=j4 h2;clear h1 h2)|(go_at_call 111;refine (q9 P8 w4 b4 (q9 C4) (q9 B4)).mono ?_;clear P8;rintro e w5 ⟨b6,rfl,h1,h2⟩;have C5:=j4 h1;have B5:=j4 h2;clear h1 h2)|(go_at_call 111;refine (q9 P7 w5 b6 (q9 C5) (q9 B5)).mono ?_;rintro e w6 ⟨b7,rfl,h1,h2⟩;have C6:=j4 h1;have B6:=j4 h2;clear h1 h2))
    exact ⟨⟨k+1,by omega,rfl,j4 (.inr ⟨by omega,b7,rfl,q9 C6⟩),j4 (j6 (q9 HB) (q9 B6))⟩,by simp [intOf];omega⟩
  ·have hkm:k=m:=by omega
   subst hkm
   rcases q9 FA with ⟨h0,_⟩|⟨_,b5,rfl,hc5⟩
   ·exact absurd h0 hmne
   ·have C5:=j4 hc5
    clear hc5 FA
    have HBw:Hid (Below w.heap.size w wr):=j4 (j6 (q9 H3).2.2 (q9 HB))
    go_wp2_with fail
    go_ret
    exact ⟨b5,rfl,by rw [←q9 HALL];exact q9 C5,q9 HBw⟩
end
section
def ve9 (w:World) (r:RRes) (e:Ending) (w':World):Prop:=Below w.heap.size w w'∧match r with
 | .ok t=>e=.returned (.tuple #[.string (BS (j9 (j7 t))),.int .i64 0,.int .i64 0])
 | .err en pl=>e=.returned (.tuple #[.string ⟨#[]⟩,.int .i64 en,.int .i64 pl])
theorem canon_any (s:ByteArray) (hs:s.size≤140737488355328) (w:World) (hL:LibOk w):Calls Tryz.prog 28 #[.string s] w (ve9 w (qn2 s)):=by
 have RD:=j4 (read_any s w hL.err hs)
 cases hrd:qn2 s with
 | ok t=>
  rw [hrd] at RD
  have CO:Hid (∀(lo:Nat) (U:World) (v:Value),Below w.heap.size w U→IsNode lo U v t→Calls Tryz.prog 40 #[v] U fun e w'=>∃b,e=.returned (.pointer (some ⟨b,0,none⟩))∧w'.cell? ⟨b,6,none⟩=some (.string (BS (j9 (j7 t))))∧Below w.heap.size w w'):=j4 (by
   intro lo U v hU hn
   refine (cof_every lo t (fun _=>amongOk) (ji8 hrd) U.heap.size U v (Nat.le_refl _) (hL.below hU (Nat.le_refl _)) hn).mono ?_
   rintro e w' ⟨b,rfl,h1,h2⟩
   obtain ⟨b',e',_,h3⟩:=h1.text
   have eb:b=b':=by injection e' with e';injection e' with e';injection e' with e'
   subst eb
   exact ⟨b,rfl,h3,j6 hU h2⟩)
  obtain ⟨S,hS⟩:∃S,j9 (j7 t)=S:=⟨_,rfl⟩
  unfold ve9
  simp only
  rw [hS] at CO ⊢
  clear hrd hL hS
  go_enter Tryz.func28,Tryz.ntmps28
  go_wp2_with (first|(go_at_call 36;refine (q9 RD).mono ?_;rintro e w2 ⟨hb2,v2,rfl,hn2⟩;obtain ⟨vb,rfl⟩:=hn2.ptr;have N2:=j4 hn2;have B2:=j4 hb2;clear hn2 hb2)|(go_at_call 40;refine (q9 CO _ _ _ (q9 B2) (q9 N2)).mono ?_;rintro e w3 ⟨b3,rfl,c3,hb3⟩;have B3:=j4 hb3;clear hb3))
  refine bodyPost_ret (by simp [results,Tryz.results28,go_sem]<;>rfl) rfl ?_
  exact ⟨q9 B3,rfl⟩
 | err en pl=>
  rw [hrd] at RD
  have he:=vc4 hrd
  have hd:(en != 0)=true:=by simp;omega
  unfold ve9
  simp only
  clear hrd hL he
  go_enter Tryz.func28,Tryz.ntmps28
  go_wp2_with (go_at_call 36;refine (q9 RD).mono ?_;rintro e w2 ⟨hb2,rfl⟩;have B2:=j4 hb2;clear hb2)
  refine bodyPost_ret (by simp [results,Tryz.results28,go_sem]<;>rfl) rfl ?_
  exact ⟨q9 B2,rfl⟩
end
end Go.Proofs.YtfkcaldjphakpaaGreatDoor
