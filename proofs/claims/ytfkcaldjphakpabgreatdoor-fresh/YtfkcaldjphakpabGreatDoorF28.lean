/- together: one program of the selectors of subscriptions. A broker in memory. A broker and what it keeps; Poll. Unsubscribe; Poll and Unsubscribe of a number that there is not. How many terms a program has: as many as there are different terms in its selectors. Publish: what it keeps in memory. -/
import Derived.Test.YtfkcaldjphakpabGreatDoorF30
import Derived.Test.YtfkcaldjphakpabGreatDoorF24
import Derived.Test.YtfkcaldjphakpabGreatDoorF26
import Derived.Test.YtfkcaldjphakpabGreatDoorF25
import Derived.Lib.OwnKind
import Derived.Test.YtfkcaldjphakpabGreatDoorF35
set_option maxHeartbeats 4000000
set_option maxRecDepth 100000
namespace Go.Proofs.YtfkcaldjphakpabGreatDoor
open Go.RowKit
section
theorem CoAt.low {B B' E:Nat} {w:World} (hB:B'≤B):∀{c:Co} {v:Value},CoAt B E w v c→CoAt B' E w v c:=by
 have hc:∀{b:Nat} {p:CP} {l r:Value} {t:List UInt8},CellsC B E w b p l r t→CellsC B' E w b p l r t:=fun h=>⟨Nat.le_trans hB h.lo,h.hi,h.within,h.c0,h.c1,h.c2,h.c3,h.c4,h.c5,h.c6⟩
 intro c
 induction c with
 | leaf p=>rintro v ⟨b,rfl,h⟩;exact ⟨b,rfl,hc h⟩
 | un p x ih=>rintro v ⟨b,vx,rfl,h,hx⟩;exact ⟨b,vx,rfl,hc h,ih hx⟩
 | bin p x y ihx ihy=>rintro v ⟨b,vx,vy,rfl,h,hx,hy⟩;exact ⟨b,vx,vy,rfl,hc h,ihx hx,ihy hy⟩
theorem qa3 {w:World} {base base' size n:Nat} {e:TypeId} {v:Value} {xs:List Value} (h:w.ownsRow base e size v n xs) (hb:base'≤base):w.ownsRow base' e size v n xs:=by
 refine ⟨h.1, ?_⟩
 rcases h.2 with hn|⟨g,cap,cur,rfl,hbg,rest⟩
 ·exact .inl hn
 ·exact .inr ⟨g,cap,cur,rfl,by omega,rest⟩
structure RowsAt (w:World) (base:Nat) (tv rv:Value) (ts:List Tm) (rs:List Nat):Prop where
 ats:TsAt w base tv ts
 ars:IsAt w base rv rs
 ne:∀g,tv.ownBlock=some g→rv.ownBlock≠some g
def vr5 (w:World) (cs:List Co) (n:Nat) (e:Ending) (w':World):Prop:=∃tv rv,e=.returned (.agg #[tv,rv])∧RowsAt w' w.heap.size tv rv (qf5 cs n).1 (qf5 cs n).2∧Below w.heap.size w w'
theorem IsAt.form {w:World} {base:Nat} {v:Value} {l:List Nat} (h:IsAt w base v l):∃a c,v=.slice a l.length c:=by
 rcases h.2 with ⟨rfl,hn⟩|⟨g,cap,cur,rfl,_⟩
 ·exact ⟨none,0,by rw [hn]⟩
 ·exact ⟨_,_,rfl⟩
def CoOk (w:World) (v:Value) (c:Co):Prop:=CoAt 0 w.heap.size w v c∧vg9 c∧qt8 c≤250000000
theorem qy8 (l:List Sb) (cs:List Co) (hlen:cs.length=l.length) (h8:l.length≤8) (v:Value) (w:World) (hv:SubsAt w w.heap.size v l) (hcs:∀(k:Nat) (s:Sb) (c:Co),l[k]?=some s→cs[k]?=some c→CoOk w (.pointer s.core) c) :
  Calls Tryz.prog 35 #[v] w (vr5 w cs l.length):=by
 have HCS:=v7 hcs
 have HLEN:=v7 hlen
 obtain ⟨a,cap,rfl,hx⟩:=hv
 have HX:=v7 hx
 obtain ⟨W1,hW1⟩:∃W1,W1=w.alloc (.cells #[.slice none 0 0,.slice none 0 0] 65):=⟨_,rfl⟩
 have hz1:W1.heap.size=w.heap.size+1:=by rw [hW1];simp
 have HB1:Hid (Below w.heap.size w W1):=v7 (by rw [hW1];exact (Below.refl _ _).alloc (Nat.le_refl _) _)
 have HC1:Hid (W1.cell? ⟨w.heap.size,0,none⟩=some (.slice none 0 0)∧W1.cell? ⟨w.heap.size,1,none⟩=some (.slice none 0 0)∧∀j,W1.frozen? ⟨w.heap.size,j,none⟩=false):=v7 (by rw [hW1];simp [go_sem])
 have NM:=v7 (vg4 W1)
 have HK:Hid (∀k,k≤l.length→(qf5 cs k).1.length≤k * 250000000∧(qf5 cs k).2.length=k):=v7 (by
  intro k
  induction k with
  | zero=>intro _;exact ⟨by simp [qf5],rfl⟩
  | succ k ih=>
   intro hk
   obtain ⟨i1,i2⟩:=ih (by omega)
   obtain ⟨s,hs⟩:∃s,l[k]?=some s:=⟨_,List.getElem?_eq_getElem (by omega)⟩
   obtain ⟨c,hc⟩:∃c,cs[k]?=some c:=⟨_,List.getElem?_eq_getElem (by omega)⟩
   have hz:=(hcs k s c hs hc).2.2
   refine ⟨?_,(qq9 cs (k+1)).1⟩
   have:=(qm5 (qf5 cs k).1 c).2.1
   rw [qf5,List.getD_eq_getElem?_getD,hc]
   show (j8 (qf5 cs k).1 c).1.length≤_
   omega)
 have HQ:Hid (∀e w',vr5 w cs l.length e w'→vr5 w cs l.length e w'):=v7 fun _ _ h=>h
 obtain ⟨Q,hQ⟩:∃Q,vr5 w cs l.length=Q:=⟨_,rfl⟩
 rw [hQ] at HQ ⊢
 have HQ':Hid (∀e w',vr5 w cs l.length e w'→Q e w'):=v7 (by rw [←hQ];exact fun _ _ h=>h)
 clear HQ hQ hx hcs hlen
 obtain ⟨n,hn⟩:∃n,l.length=n:=⟨_,rfl⟩
 rw [hn] at HLEN HK HQ' h8 ⊢
 have HN:=v7 hn
 clear hn
 go_enter Tryz.func35,Tryz.ntmps35
 go_wp2_with (go_at_call 37;rw [←hW1];refine (q9 NM).mono ?_;rintro e w1 ⟨rfl,hm1,hb1⟩;have M1:=v7 hm1;have B1:=v7 hb1;rw [hz1] at M1 ⊢;clear hm1 hb1)
 clear hW1
 go_loopw [9] (fun i wr=>∃(k:Nat) (tv rv:Value),k≤n∧i=.int .i64 k∧Hid (MkAt wr (w.heap.size+1+1) (w.heap.size+1) (qf5 cs k).1 (qf5 cs k).2 tv rv)∧Hid (Below W1.heap.size W1 wr)) (fun i _=>n - (intOf i).toNat)
 case atStart=>exact ⟨0,_,_,Nat.zero_le _,rfl,M1,B1⟩
 case round=>
  obtain ⟨k,tv,rv,hk,rfl,MK,HB⟩:=hrel
  have hBw:Hid (Below w.heap.size w wr):=v7 ((q9 HB1).trans ((q9 HB).mono (by omega)))
  by_cases hlt:k<n
  ·obtain ⟨s,hs⟩:∃s,l[k]?=some s:=⟨_,List.getElem?_eq_getElem (by have:=q9 HN;omega)⟩
   obtain ⟨c,hc⟩:∃c,cs[k]?=some c:=⟨_,List.getElem?_eq_getElem (by have:=q9 HLEN;omega)⟩
   obtain ⟨g,rfl,glt,s0,s1,s2⟩:=q9 HX k s hs
   obtain ⟨hcoat,hgood,hsize⟩:=q9 HCS k s c hs hc
   rw [←(q9 hBw).cell (p:=⟨g,k * 3,none⟩) glt] at s0
   rw [←(q9 hBw).cell (p:=⟨g,k * 3+1,none⟩) glt] at s1
   rw [←(q9 hBw).cell (p:=⟨g,k * 3+2,none⟩) glt] at s2
   have hk0:(0:Int)≤(k:Int):=by omega
   have hk1:(k:Int)<(n:Int):=by omega
   have hS:Hid (qf5 cs (k+1)=((j8 (qf5 cs k).1 c).1,(qf5 cs k).2++[(j8 (qf5 cs k).1 c).2])):=v7 (by rw [qf5,List.getD_eq_getElem?_getD,hc];rfl)
   obtain ⟨hle,hrl⟩:=q9 HK k hk
   have AD:Hid (∀(U:World),Below wr.heap.size wr U→Calls Tryz.prog 38 #[.pointer (some ⟨w.heap.size+1+1,0,none⟩),.pointer s.core] U fun e w'=>∃tv' rv',e=.returned (.tuple #[])∧MkAt w' (w.heap.size+1+1) (w.heap.size+1) (qf5 cs (k+1)).1 (qf5 cs (k+1)).2 tv' rv'∧Below W1.heap.size W1 w'):=v7 (by
    intro U hU
    have hmU:=(q9 MK).below hU
    have hUw:=v8 (q9 hBw) hU
    have hcU:CoAt 0 w.heap.size U (.pointer s.core) c:=CoAt.keep (Nat.le_refl _) (fun i _ h2=>hUw.block i h2) hUw.size hcoat
    refine jr8 c hgood 0 w.heap.size _ _ U _ _ _ tv rv hmU hcU hUw.size (fun j hj=>?_) (by omega) (by omega) _ ?_
    ·rcases hj with rfl|rfl|hj|hj
     ·right;omega
     ·right;omega
     ·right;have:=(hmU.ats.lt j hj).1;omega
     ·right;have:=(hmU.ars.lt j hj).1;omega
    ·intro w' tv' rv' h1 h2
     rw [q9 hS]
     exact ⟨tv',rv',rfl,h1,jp6 (v8 (q9 HB) hU) hmU h2 (by omega)⟩)
   obtain ⟨R,hR⟩:∃R,qf5 cs (k+1)=R:=⟨_,rfl⟩
   rw [hR] at AD
   have HR:=v7 hR
   have hU1:Below wr.heap.size wr (wr.alloc (.cells #[.int .i64 s.id,.pointer s.core,.slice s.row s.len s.cap] 83)):=(Below.refl _ _).alloc (Nat.le_refl _) _
   clear hS hle hrl hR hs hc hcoat hgood hsize
   go_wp2_with (go_at_call 38;refine (q9 AD _ (by with_reducible assumption)).mono ?_;rintro e w4 ⟨tv4,rv4,rfl,hm4,hb4⟩;have M4:=v7 hm4;have B4:=v7 hb4;clear hm4 hb4)
   exact ⟨⟨k+1,_,_,by omega,rfl,by rw [q9 HR];exact M4,B4⟩,by simp [intOf];omega⟩
  ·have:k=n:=by omega
   subst this
   obtain ⟨ta,tc,rfl⟩:=(q9 MK).ats.form
   obtain ⟨ra,rc,rfl⟩:=(q9 MK).ars.form
   have m0:=(q9 MK).c0
   have m1:=(q9 MK).c1
   have mlt:=(q9 MK).lt
   obtain ⟨d0,d1,df⟩:=q9 HC1
   rw [←(q9 HB).cell (p:=⟨w.heap.size,0,none⟩) (by show w.heap.size<_;omega)] at d0
   rw [←(q9 HB).cell (p:=⟨w.heap.size,1,none⟩) (by show w.heap.size<_;omega)] at d1
   have df':∀j,wr.frozen? ⟨w.heap.size,j,none⟩=false:=fun j=>((q9 HB).frozen (p:=⟨w.heap.size,j,none⟩) (by show w.heap.size<_;omega)).trans (df j)
   have hRow:Hid (∀x y,vr5 w cs k (.returned (.agg #[.slice ta (qf5 cs k).1.length tc,.slice ra (qf5 cs k).2.length rc])) ((wr.setCell ⟨w.heap.size,0,none⟩ x).setCell ⟨w.heap.size,1,none⟩ y)):=v7 (by
    intro x y
    have hb2:Below w.heap.size wr ((wr.setCell ⟨w.heap.size,0,none⟩ x).setCell ⟨w.heap.size,1,none⟩ y):=((Below.refl _ _).setCell (by exact Nat.le_refl _) _).setCell (by exact Nat.le_refl _) _
    have hne:∀j,w.heap.size+1+1+1≤j→((wr.setCell ⟨w.heap.size,0,none⟩ x).setCell ⟨w.heap.size,1,none⟩ y).heap[j]?=wr.heap[j]?:=fun j hj=>
     (Below.heap_setCell _ ⟨w.heap.size,1,none⟩ y j (by show j≠w.heap.size;omega)).trans (Below.heap_setCell _ ⟨w.heap.size,0,none⟩ x j (by show j≠w.heap.size;omega))
    refine ⟨_,_,rfl,⟨?_, ?_,(q9 MK).ne⟩,(q9 hBw).trans hb2⟩
    ·have h:=(q9 MK).ats
     exact qa3 (j3 h fun g hg=>hne g (h.lt g hg).1) (by omega)
    ·have h:=(q9 MK).ars
     exact qa3 (j3 h fun g hg=>hne g (h.lt g hg).1) (by omega))
   go_wp2_with fail
   refine bodyPost_ret (by simp [results,Tryz.results35,go_sem,d0,d1]<;>rfl) rfl ?_
   exact q9 HQ' _ _ (q9 hRow _ _)
end
section
structure Sx where
 id:Int
 cp:Option Addr
 lo:Nat
 hi:Nat
 co:Co
 row:Option Addr
 cap:Nat
 ms:List Mg
def Sx.sb (x:Sx):Sb:=⟨x.id,x.cp,x.row,x.ms.length,x.cap⟩
def Sx.hv (x:Sx):Value:=.slice x.row x.ms.length x.cap
def BOwn (bb:Nat) (sv tv rv:Value) (l:List Sx) (k:Nat):Prop:=k=bb∨sv.ownBlock=some k∨tv.ownBlock=some k∨rv.ownBlock=some k∨∃x∈l,x.hv.ownBlock=some k
def vi3 (bb:Nat) (sv tv rv:Value) (l:List Sx) (k:Nat):Prop:=BOwn bb sv tv rv l k∨∃x∈l,x.lo≤k∧k<x.hi
def qk9 (l:List Sx):List Co:=l.map Sx.co
def tsX (l:List Sx):List Tm:=(qf5 (qk9 l) l.length).1
def rsX (l:List Sx):List Nat:=(qf5 (qk9 l) l.length).2
structure BrAt (w:World) (bb:Nat) (last:Int) (sv tv rv:Value) (l:List Sx):Prop where
 blk:w.heap[bb]?=some (.cells #[.int .i64 last,sv,tv,rv] 67 (0,0))
 row:SbRow w 0 sv (l.map Sx.sb)
 rows:RowsAt w 0 tv rv (tsX l) (rsX l)
 hps:∀x∈l,w.ownsRow 0 102 2 x.hv x.ms.length (qp8 x.ms)
 dis:l.Pairwise fun x y=>∀k,x.hv.ownBlock=some k→y.hv.ownBlock≠some k
 cos:∀x∈l,CoAt x.lo x.hi w (.pointer x.cp) x.co∧x.hi≤w.heap.size∧vg9 x.co∧qt8 x.co≤250000000
 out:∀x∈l,∀k,BOwn bb sv tv rv l k→k<x.lo∨x.hi≤k
 up:qp6 (l.map Sx.sb)
 n8:l.length≤8
 m6:∀x∈l,x.ms.length≤6
 prg:Prg (tsX l) (rsX l)
theorem BrAt.lt {w:World} {bb:Nat} {last:Int} {sv tv rv:Value} {l:List Sx} (h:BrAt w bb last sv tv rv l):bb<w.heap.size:=(Array.getElem?_eq_some_iff.1 h.blk).1
theorem BrAt.cells {w:World} {bb:Nat} {last:Int} {sv tv rv:Value} {l:List Sx} (h:BrAt w bb last sv tv rv l):w.cell? ⟨bb,0,none⟩=some (.int .i64 last)∧w.cell? ⟨bb,1,none⟩=some sv∧w.cell? ⟨bb,2,none⟩=some tv∧w.cell? ⟨bb,3,none⟩=some rv∧∀j,w.frozen? ⟨bb,j,none⟩=false:=by
 have hb:=h.blk
 simp [World.cell?,World.frozen?,hb]
theorem BrAt.foot_lt {w:World} {bb:Nat} {last:Int} {sv tv rv:Value} {l:List Sx} (h:BrAt w bb last sv tv rv l) {k:Nat} (hk:vi3 bb sv tv rv l k):k<w.heap.size:=by
 rcases hk with (rfl|hk|hk|hk|⟨x,hx,hk⟩)|⟨x,hx,_,hk⟩
 ·exact h.lt
 ·exact (h.row.lt k hk).2
 ·exact (h.rows.ats.lt k hk).2
 ·exact (h.rows.ars.lt k hk).2
 ·exact ((h.hps x hx).lt k hk).2
 ·have:=(h.cos x hx).2.1
  omega
theorem BrAt.same {w w':World} {bb:Nat} {last:Int} {sv tv rv:Value} {l:List Sx} (h:BrAt w bb last sv tv rv l) (hz:w.heap.size≤w'.heap.size) (hb:∀k,vi3 bb sv tv rv l k→w'.heap[k]?=w.heap[k]?):BrAt w' bb last sv tv rv l:=by
 refine ⟨(hb bb (.inl (.inl rfl))).trans h.blk,j3 h.row fun g hg=>hb g (.inl (.inr (.inl hg))),⟨j3 h.rows.ats fun g hg=>hb g (.inl (.inr (.inr (.inl hg)))),j3 h.rows.ars fun g hg=>hb g (.inl (.inr (.inr (.inr (.inl hg))))),h.rows.ne⟩,fun x hx=>j3 (h.hps x hx) fun g hg=>hb g (.inl (.inr (.inr (.inr (.inr ⟨x,hx,hg⟩))))),h.dis,fun x hx=>?_,h.out,h.up,h.n8,h.m6,h.prg⟩
 obtain ⟨h1,h2,h3⟩:=h.cos x hx
 exact ⟨CoAt.keep (Nat.le_refl _) (fun k k1 k2=>hb k (.inr ⟨x,hx,k1,k2⟩)) hz h1,Nat.le_trans h2 hz,h3⟩
theorem BrAt.below {w w':World} {bb:Nat} {last:Int} {sv tv rv:Value} {l:List Sx} (h:BrAt w bb last sv tv rv l) (hb:Below w.heap.size w w'):BrAt w' bb last sv tv rv l:=
 h.same hb.size fun k hk=>hb.block k (h.foot_lt hk)
theorem SbRow.subs {w:World} {base:Nat} {v:Value} {l:List Sb} (h:SbRow w base v l):SubsAt w w.heap.size v l:=by
 rcases qc8 h with ⟨rfl,h0⟩|⟨g,c,rfl⟩
 ·have e:l=[]:=List.length_eq_zero_iff.1 h0
  subst e
  exact ⟨none,0,rfl,fun i s hi=>by simp at hi⟩
 ·obtain ⟨_,_,_,cur,hcur,_⟩:=qe5 h
  refine ⟨_,c,rfl,fun i s hi=>⟨g,rfl,(Array.getElem?_eq_some_iff.1 hcur).1, ?_⟩⟩
  have hil:=(List.getElem?_eq_some_iff.1 hi).1
  have hs:∀j,j<3→(j5 l)[i * 3+j]?=(qa0 s)[j]?:=by
   intro j hj
   have h1:l=l.take i++(s::l.drop (i+1)):=by
    have e:=List.drop_eq_getElem_cons hil
    rw [(List.getElem?_eq_some_iff.1 hi).2] at e
    rw [←e,List.take_append_drop]
   have h2:j5 l=j5 (l.take i)++(qa0 s++j5 (l.drop (i+1))):=by
    conv=>lhs;rw [h1]
    rw [qe6]
    rfl
   rw [h2,List.getElem?_append_right (by rw [qc9,List.length_take];omega),qc9,List.length_take,List.getElem?_append_left (by show _<3;omega)]
   congr 1
   omega
  have hc:∀j u,(j5 l)[j]?=some u→w.cell? ⟨g,j,none⟩=some u:=fun j u hu=>by
   have:=World.ownsRow.cells h (g:=g) rfl j u hu
   rwa [qj2,Nat.zero_add] at this
  exact ⟨hc _ _ ((hs 0 (by omega)).trans rfl),hc _ _ ((hs 1 (by omega)).trans rfl),hc _ _ ((hs 2 (by omega)).trans rfl)⟩
theorem qw9 {w:World} {b1 b2 s1 s2 n1 n2:Nat} {e1 e2:TypeId} {v1 v2:Value} {x1 x2:List Value} (h1:w.ownsRow b1 e1 s1 v1 n1 x1) (h2:w.ownsRow b2 e2 s2 v2 n2 x2) (hne:e1≠e2) {k:Nat} (hk:v1.ownBlock=some k):v2.ownBlock≠some k:=by
 intro hk2
 obtain ⟨c1,f1,g1⟩:=Go.Lib.ownsRow_kind h1 k hk
 obtain ⟨c2,f2,g2⟩:=Go.Lib.ownsRow_kind h2 k hk2
 rw [g1] at g2
 simp at g2
 exact hne g2.2.1
theorem qn9 {w:World} {b1 s1 n1:Nat} {e1:TypeId} {v1:Value} {x1:List Value} (h1:w.ownsRow b1 e1 s1 v1 n1 x1) {k:Nat} {cs:Array Value} {t:TypeId} {fr:Nat×Nat} (hb:w.heap[k]?=some (.cells cs t fr)) (hne:e1≠t):v1.ownBlock≠some k:=by
 intro hk
 obtain ⟨c1,f1,g1⟩:=Go.Lib.ownsRow_kind h1 k hk
 rw [g1] at hb
 simp at hb
 exact hne hb.2.1
theorem BrAt.heap {w:World} {bb g n c:Nat} {last:Int} {tv rv:Value} {l:List Sx} (h:BrAt w bb last (.slice (some ⟨g,0,none⟩) n c) tv rv l) {i:Nat} {x:Sx} (hx:l[i]?=some x):HqAt w g (i * 3+2) x.hv 0 x.ms:=by
 have hr:=h.row
 have hxm:=List.mem_of_getElem? hx
 have hn:n=l.length:=by
  rcases qc8 hr with ⟨hv,_⟩|⟨g',c',hv⟩
  ·simp at hv
  ·simp at hv;exact hv.2.1
 have hr':w.ownsRow 0 83 3 (.slice (some ⟨g,0,none⟩) (l.map Sx.sb).length c) (l.map Sx.sb).length (j5 (l.map Sx.sb)):=by
  have:=hr
  rw [hn] at this
  simpa [SbRow] using this
 obtain ⟨_,_,_,cur,hcur,_⟩:=qe5 hr'
 obtain ⟨a,c',hv,hs⟩:=SbRow.subs hr
 obtain ⟨g',ha,hlt,_,_,h2⟩:=hs i x.sb (by rw [List.getElem?_map,hx];rfl)
 have e:g=g':=by
  rw [ha] at hv
  simp at hv
  exact hv.1
 subst e
 refine ⟨h2,by simp [World.frozen?,hcur],hlt,h.hps x hxm, ?_⟩
 exact fun hk=>qw9 (h.hps x hxm) hr (by decide) hk rfl
theorem jd7 {l:List Sb} {i:Nat} {s t:Sb} (hi:l[i]?=some s) (h0:t.id=s.id) (h1:t.core=s.core):j5 (l.set i t)=(j5 l).set (i * 3+2) (.slice t.row t.len t.cap):=by
 induction l generalizing i with
 | nil=>simp at hi
 | cons a r ih=>
  cases i with
  | zero=>
   simp at hi
   subst hi
   simp [j5,qa0,h0,h1]
  | succ i=>
   have:=ih (i:=i) (by simpa using hi)
   have e1:∀r':List Sb,j5 (a::r')=qa0 a++j5 r':=fun r'=>List.flatMap_cons
   rw [List.set_cons_succ,e1,e1,this]
   have e:(i+1) * 3+2=(qa0 a).length+(i * 3+2):=by simp [qa0];omega
   rw [e,List.set_append_right _ _ (by omega)]
   congr 2
   omega
theorem vm0 {w w':World} {base:Nat} {e:TypeId} {size g n cap j:Nat} {xs:List Value} {u:Value} (h:w.ownsRow base e size (.slice (some ⟨g,0,none⟩) n cap) n xs) (hb:w'.heap[g]?=(w.setCell ⟨g,j,none⟩ u).heap[g]?) (_hj:j<n * size):w'.ownsRow base e size (.slice (some ⟨g,0,none⟩) n cap) n (xs.set j u):=by
 obtain ⟨hbg,hnc,hcm,cur,hcur,hcs,hct⟩:=qe5 h
 have h2:(w.setCell ⟨g,j,none⟩ u).heap[g]?=some (.cells (cur.setIfInBounds j u) e (0,0)):=by
  rw [setCell_eq_setRow w g j cur e (0,0) u hcur]
  exact setRow_heap w g cur _ e (0,0) hcur
 refine ⟨by rw [List.length_set,h.1],.inr ⟨g,cap,cur.setIfInBounds j u,rfl,hbg,hb.trans h2,hnc,hcm,by simp [hcs], ?_⟩⟩
 rw [Array.toList_setIfInBounds,List.take_set,hct]
theorem BrAt.turned {w w':World} {bb g n c:Nat} {last:Int} {tv rv v':Value} {l:List Sx} (h:BrAt w bb last (.slice (some ⟨g,0,none⟩) n c) tv rv l) {i:Nat} {x:Sx} (hx:l[i]?=some x) {ms':List Mg} (hq:HqAt w' g (i * 3+2) v' 0 ms') (hk:PqKept g (i * 3+2) x.hv v' w w') (h6:ms'.length≤6) :
  ∃x':Sx,x'.hv=v'∧x'.ms=ms'∧x'.id=x.id∧x'.co=x.co∧x'.lo=x.lo∧x'.hi=x.hi∧BrAt w' bb last (.slice (some ⟨g,0,none⟩) n c) tv rv (l.set i x'):=by
 obtain ⟨a,cp,rfl⟩:=hq.form
 have hxm:=List.mem_of_getElem? hx
 have hil:=(List.getElem?_eq_some_iff.1 hx).1
 obtain ⟨x',hx'⟩:∃x':Sx,x'={ x with row:=a,cap:=cp,ms:=ms' }:=⟨_,rfl⟩
 have hhv:x'.hv=.slice a ms'.length cp:=by rw [hx'];rfl
 have hco:x'.co=x.co:=by rw [hx']
 refine ⟨x',hhv,by rw [hx'],by rw [hx'],hco,by rw [hx'],by rw [hx'], ?_⟩
 have hr:=h.row
 have hcores:qk9 (l.set i x')=qk9 l:=by
  unfold qk9
  rw [List.map_set,hco]
  apply List.ext_getElem?
  intro j
  rw [List.getElem?_set]
  split
  ·rename_i e
   subst e
   simp [hil,(List.getElem?_eq_some_iff.1 hx).2]
  ·rfl
 have hts:tsX (l.set i x')=tsX l:=by unfold tsX;rw [hcores,List.length_set]
 have hrs:rsX (l.set i x')=rsX l:=by unfold rsX;rw [hcores,List.length_set]
 have stay:∀k,k<w.heap.size→k≠g→x.hv.ownBlock≠some k→w'.heap[k]?=w.heap[k]?:=hk.block
 have hgx:∀k,x.hv.ownBlock=some k→k≠g:=fun k hk' e=>by subst e;exact (qw9 (h.hps x hxm) hr (by decide) hk') rfl
 have nx:∀{b s m:Nat} {e:TypeId} {v:Value} {xs:List Value},w.ownsRow b e s v m xs→e≠102→∀k,v.ownBlock=some k→x.hv.ownBlock≠some k:=fun ho hne k hk'=>qw9 ho (h.hps x hxm) hne hk'
 have ng:∀{b s m:Nat} {e:TypeId} {v:Value} {xs:List Value},w.ownsRow b e s v m xs→e≠83→∀k,v.ownBlock=some k→k≠g:=fun ho hne k hk' e=>by subst e;exact (qw9 ho hr hne hk') rfl
 have hbb:w'.heap[bb]?=w.heap[bb]?:=stay bb h.lt (fun e=>by subst e;exact (qn9 hr h.blk (by decide)) rfl) (qn9 (h.hps x hxm) h.blk (by decide))
 have newown:∀k,x'.hv.ownBlock=some k→x.hv.ownBlock=some k∨w.heap.size≤k:=fun k hk'=>hk.row k (by rw [←hhv];exact hk')
 have hmem:∀y∈l.set i x',y=x'∨∃j,j≠i∧l[j]?=some y:=by
  intro y hy
  obtain ⟨j,hj⟩:=List.getElem?_of_mem hy
  rw [List.getElem?_set] at hj
  split at hj
  ·left
   simp at hj
   exact hj.symm
  ·rename_i hne
   exact .inr ⟨j,fun e=>hne e.symm,hj⟩
 have disj:∀j y,j≠i→l[j]?=some y→∀k,y.hv.ownBlock=some k→x.hv.ownBlock≠some k:=by
  intro j y hji hy k hyk hxk
  have hp:=List.pairwise_iff_getElem.1 h.dis
  obtain ⟨jl,je⟩:=List.getElem?_eq_some_iff.1 hy
  obtain ⟨_,ie⟩:=List.getElem?_eq_some_iff.1 hx
  rcases Nat.lt_or_gt_of_ne hji with hlt|hgt
  ·have:=hp j i jl hil hlt k (by rw [je];exact hyk)
   rw [ie] at this
   exact this hxk
  ·have:=hp i j hil jl hgt k (by rw [ie];exact hxk)
   rw [je] at this
   exact this hyk
 have ownold:∀k,BOwn bb (.slice (some ⟨g,0,none⟩) n c) tv rv (l.set i x') k→BOwn bb (.slice (some ⟨g,0,none⟩) n c) tv rv l k∨w.heap.size≤k:=by
  intro k hk'
  rcases hk' with e|e|e|e|⟨y,hy,e⟩
  ·exact .inl (.inl e)
  ·exact .inl (.inr (.inl e))
  ·exact .inl (.inr (.inr (.inl e)))
  ·exact .inl (.inr (.inr (.inr (.inl e))))
  ·rcases hmem y hy with rfl|⟨j,_,hj⟩
   ·rcases newown k e with e'|e'
    ·exact .inl (.inr (.inr (.inr (.inr ⟨x,hxm,e'⟩))))
    ·exact .inr e'
   ·exact .inl (.inr (.inr (.inr (.inr ⟨y,List.mem_of_getElem? hj,e⟩))))
 have hout:∀y∈l.set i x',∃y0∈l,y.lo=y0.lo∧y.hi=y0.hi∧y.cp=y0.cp∧y.co=y0.co:=by
  intro y hy
  rcases hmem y hy with rfl|⟨j,_,hj⟩
  ·exact ⟨x,hxm,by rw [hx'],by rw [hx'],by rw [hx'],by rw [hx']⟩
  ·exact ⟨y,List.mem_of_getElem? hj,rfl,rfl,rfl,rfl⟩
 have hn:n=l.length:=by
  rcases qc8 hr with ⟨hv,_⟩|⟨g',c',hv⟩
  ·simp at hv
  ·simp at hv;exact hv.2.1
 refine ⟨hbb.trans h.blk, ?_,⟨?_, ?_,h.rows.ne⟩, ?_, ?_, ?_, ?_, ?_,by rw [List.length_set];exact h.n8, ?_,by rw [hts,hrs];exact h.prg⟩
 ·have hr':w.ownsRow 0 83 3 (.slice (some ⟨g,0,none⟩) n c) n (j5 (l.map Sx.sb)):=by
   have:=hr
   simp only [SbRow,List.length_map] at this
   rwa [←hn] at this
  have:=vm0 hr' hk.hdr (by omega)
  show w'.ownsRow 0 _ 3 _ ((l.set i x').map Sx.sb).length (j5 ((l.set i x').map Sx.sb))
  rw [List.length_map,List.length_set,←hn,List.map_set,jd7 (s:=x.sb) (by rw [List.getElem?_map,hx];rfl) (by rw [hx'];rfl) (by rw [hx'];rfl)]
  rw [hx']
  exact this
 ·rw [hts]
  exact j3 h.rows.ats fun k hk'=>stay k (h.rows.ats.lt k hk').2 (ng h.rows.ats (by decide) k hk') (nx h.rows.ats (by decide) k hk')
 ·rw [hrs]
  exact j3 h.rows.ars fun k hk'=>stay k (h.rows.ars.lt k hk').2 (ng h.rows.ars (by decide) k hk') (nx h.rows.ars (by decide) k hk')
 ·intro y hy
  rcases hmem y hy with rfl|⟨j,hji,hj⟩
  ·have:=hq.own
   rw [hhv]
   have e:y.ms=ms':=by rw [hx']
   rw [e]
   exact this
  ·have hy':=h.hps y (List.mem_of_getElem? hj)
   exact j3 hy' fun k hk'=>stay k (hy'.lt k hk').2 (ng hy' (by decide) k hk') (disj j y hji hj k hk')
 ·rw [List.pairwise_iff_getElem]
  intro p q hp0 hq0 hpq k hpk
  have hp:p<l.length:=by rwa [List.length_set] at hp0
  have hq':q<l.length:=by rwa [List.length_set] at hq0
  have hd:=List.pairwise_iff_getElem.1 h.dis
  by_cases hpi:p=i
  ·subst hpi
   rw [List.getElem_set_self] at hpk
   rw [List.getElem_set_ne (by omega)]
   intro e
   rcases newown k hpk with e'|e'
   ·exact disj q _ (by omega) (List.getElem?_eq_getElem hq') k e e'
   ·have:=((h.hps _ (List.getElem_mem hq')).lt k e).2
    omega
  ·rw [List.getElem_set_ne (fun e=>hpi e.symm)] at hpk
   by_cases hqi:q=i
   ·subst hqi
    rw [List.getElem_set_self]
    intro e
    rcases newown k e with e'|e'
    ·exact disj p _ hpi (List.getElem?_eq_getElem hp) k hpk e'
    ·have:=((h.hps _ (List.getElem_mem hp)).lt k hpk).2
     omega
   ·rw [List.getElem_set_ne (fun e=>hqi e.symm)]
    exact hd p q hp hq' hpq k hpk
 ·intro y hy
  obtain ⟨y0,hy0,e1,e2,e3,e4⟩:=hout y hy
  obtain ⟨h1,h2,h3⟩:=h.cos y0 hy0
  rw [e1,e2,e3,e4]
  refine ⟨CoAt.keep (Nat.le_refl _) (fun k k1 k2=>stay k (by omega) ?_ ?_) hk.size h1,Nat.le_trans h2 hk.size,h3⟩
  ·intro e
   have:=h.out y0 hy0 k (.inr (.inl (by rw [e];rfl)))
   omega
  ·intro e
   have:=h.out y0 hy0 k (.inr (.inr (.inr (.inr ⟨x,hxm,e⟩))))
   omega
 ·intro y hy k hk'
  obtain ⟨y0,hy0,e1,e2,_⟩:=hout y hy
  rw [e1,e2]
  rcases ownold k hk' with ho|ho
  ·exact h.out y0 hy0 k ho
  ·have:=(h.cos y0 hy0).2.1
   omega
 ·have e:(l.set i x').map Sx.sb=(l.map Sx.sb).set i x'.sb:=by rw [List.map_set]
  rw [e]
  unfold qp6
  rw [List.pairwise_iff_getElem]
  intro p q hp hq' hpq
  have hu:=List.pairwise_iff_getElem.1 h.up
  rw [List.length_set] at hp hq'
  have key:∀t (ht:t<(l.map Sx.sb).length),(((l.map Sx.sb).set i x'.sb)[t]'(by rw [List.length_set];exact ht)).id=((l.map Sx.sb)[t]).id:=by
   intro t ht
   rw [List.getElem_set]
   split
   ·rename_i e
    subst e
    have:(l.map Sx.sb)[i]=x.sb:=by
     rw [List.getElem_map,(List.getElem?_eq_some_iff.1 hx).2]
    rw [this,hx']
    rfl
   ·rfl
  rw [key p hp,key q hq']
  exact hu p q hp hq' hpq
 ·intro y hy
  rcases hmem y hy with rfl|⟨j,_,hj⟩
  ·rw [hx'];exact h6
  ·exact h.m6 y (List.mem_of_getElem? hj)
end
section
structure Su where
 id:Int
 co:Co
 ms:List Mg
def Sx.su (x:Sx):Su:=⟨x.id,x.co,x.ms⟩
structure Grow (F:Nat→Prop) (w w':World):Prop where
 os:w'.os=w.os
 tape:w'.tape=w.tape
 output:w'.output=w.output
 size:w.heap.size≤w'.heap.size
 block:∀k,k<w.heap.size→¬F k→w'.heap[k]?=w.heap[k]?
def upF (F:Nat→Prop) (w w':World) (k:Nat):Prop:=F k∨(w.heap.size≤k∧k<w'.heap.size)
def Br (w:World) (F:Nat→Prop) (bb:Nat) (last:Int) (L:List Su):Prop:=(∀k,F k→k<w.heap.size)∧∃sv tv rv l,BrAt w bb last sv tv rv l∧l.map Sx.su=L∧∀k,vi3 bb sv tv rv l k→F k
theorem Grow.of_below {F:Nat→Prop} {w w':World} (h:Below w.heap.size w w'):Grow F w w':=⟨h.os,h.tape,h.output,h.size,fun k hk _=>h.block k hk⟩
theorem Grow.trans {F:Nat→Prop} {a b c:World} (h:Grow F a b) (k:Grow (upF F a b) b c):Grow F a c:=
 ⟨k.os.trans h.os,k.tape.trans h.tape,k.output.trans h.output,Nat.le_trans h.size k.size,fun i h1 h2=>(k.block i (Nat.lt_of_lt_of_le h1 h.size) (fun e=>by rcases e with e|e;exact h2 e;omega)).trans (h.block i h1 h2)⟩
theorem Grow.trans' {F:Nat→Prop} {a b c:World} (h:Grow F a b) (k:Grow F b c):Grow F a c:=
 ⟨k.os.trans h.os,k.tape.trans h.tape,k.output.trans h.output,Nat.le_trans h.size k.size,fun i h1 h2=>(k.block i (Nat.lt_of_lt_of_le h1 h.size) h2).trans (h.block i h1 h2)⟩
theorem Br.frame {w w':World} {F:Nat→Prop} {bb:Nat} {last:Int} {L:List Su} (h:Br w F bb last L) (hz:w.heap.size≤w'.heap.size) (hb:∀k,F k→w'.heap[k]?=w.heap[k]?):Br w' F bb last L:=by
 obtain ⟨h1,sv,tv,rv,l,h2,h3,h4⟩:=h
 exact ⟨fun k hk=>Nat.lt_of_lt_of_le (h1 k hk) hz,sv,tv,rv,l,h2.same hz fun k hk=>hb k (h4 k hk),h3,h4⟩
theorem Br.below {w w':World} {F:Nat→Prop} {bb:Nat} {last:Int} {L:List Su} (h:Br w F bb last L) (hb:Below w.heap.size w w'):Br w' F bb last L:=h.frame hb.size fun k hk=>hb.block k (h.1 k hk)
theorem Br.wide {w:World} {F F':Nat→Prop} {bb:Nat} {last:Int} {L:List Su} (h:Br w F bb last L) (hF:∀k,F k→F' k) (hb:∀k,F' k→k<w.heap.size):Br w F' bb last L:=by
 obtain ⟨_,sv,tv,rv,l,h2,h3,h4⟩:=h
 exact ⟨hb,sv,tv,rv,l,h2,h3,fun k hk=>hF k (h4 k hk)⟩
theorem Br.lt {w:World} {F:Nat→Prop} {bb:Nat} {last:Int} {L:List Su} (h:Br w F bb last L):bb<w.heap.size:=by
 obtain ⟨_,sv,tv,rv,l,h2,_⟩:=h
 exact h2.lt
theorem vx2 {l:List Sb} (h:qp6 l) {i:Nat} {s:Sb} (hi:l[i]?=some s):qb8 l s.id=i∧(l.any fun t=>t.id==s.id)=true:=by
 have hc:=qv0 h s.id
 have h1:¬i<qb8 l s.id:=fun hh=>by have:=(hc i s hi).2 hh;omega
 refine ⟨?_,List.any_eq_true.2 ⟨s,List.mem_of_getElem? hi,by simp⟩⟩
 rcases Nat.lt_or_ge (qb8 l s.id) i with hlt|hge
 ·have hil:=(List.getElem?_eq_some_iff.1 hi).1
  have hp:=List.pairwise_iff_getElem.1 h (qb8 l s.id) i (by omega) hil hlt
  have e2:=(List.getElem?_eq_some_iff.1 hi).2
  rw [e2] at hp
  have:=(hc (qb8 l s.id) _ (List.getElem?_eq_getElem (by omega))).1 hp
  omega
 ·omega
theorem pop_any (hb ho:Nat) (v:Value) (ms:List Mg) (hn:ms.length≤90) (w:World) (h:HqAt w hb ho v 0 ms):Calls Tryz.prog 46 #[.pointer (some ⟨hb,ho,none⟩)] w (vi6 hb ho 0 v ms w):=by
 cases ms with
 | nil=>exact pop_none hb ho 0 v w h
 | cons x r=>
  rcases qc8 h.own with ⟨_,h0⟩|⟨g,c,rfl⟩
  ·simp at h0
  ·obtain ⟨y,hy⟩:∃y,(x::r)[r.length]?=some y:=⟨_,List.getElem?_eq_getElem (by simp)⟩
   exact pop_some hb ho 0 g c r.length (x::r) rfl hn x y rfl hy w h _ fun e w' h=>h
theorem jm2 (ms:List Mg):(popM ms).length=ms.length - 1:=by
 unfold popM
 split
 ·rw [je0,vg6];unfold vh5;rw [List.length_take,List.length_set];omega
 ·rename_i h
  have:ms=[]:=List.getLast?_eq_none_iff.1 h
  subst this
  rfl
def headN (ms:List Mg):Int:=((ms.head?).getD ⟨0,0⟩).num
theorem poll_at (w:World) (F:Nat→Prop) (bb:Nat) (last:Int) (L:List Su) (h:Br w F bb last L) (i:Nat) (x:Su) (hx:L[i]?=some x)
  (Q:Ending→World→Prop) (hQ:∀w',Br w' (upF F w w') bb last (L.set i { x with ms:=popM x.ms })→Grow F w w'→Q (.returned (.tuple #[.int .i64 (headN x.ms),.int .i64 0])) w') :
  Calls Tryz.prog 22 #[.pointer (some ⟨bb,0,none⟩),.int .i64 x.id] w Q:=by
 obtain ⟨hF,sv,tv,rv,l,hB,hL,hfoot⟩:=h
 obtain ⟨y,hy,hyx⟩:∃y,l[i]?=some y∧y.su=x:=by
  rw [←hL,List.getElem?_map] at hx
  cases hl:l[i]? with
  | none=>rw [hl] at hx;cases hx
  | some y=>rw [hl] at hx;exact ⟨y,rfl,by simpa using hx⟩
 have hil:=(List.getElem?_eq_some_iff.1 hy).1
 obtain ⟨g,c,rfl⟩:∃g c,sv=.slice (some ⟨g,0,none⟩) l.length c:=by
  rcases qc8 hB.row with ⟨_,h0⟩|⟨g,c,hv⟩
  ·simp at h0;subst h0;simp at hil
  ·exact ⟨g,c,by simpa using hv⟩
 have hpl:=vx2 hB.up (i:=i) (s:=y.sb) (by rw [List.getElem?_map,hy];rfl)
 have hyid:y.sb.id=x.id:=by rw [←hyx];rfl
 rw [hyid] at hpl
 have FD:=v7 (vb7 bb (l.map Sx.sb) x.id _ w hB.cells.2.1 (SbRow.subs hB.row) hB.up (by rw [List.length_map];exact hB.n8))
 rw [hpl.1,hpl.2] at FD
 have CELLS:Hid (∀w',Below w.heap.size w w'→w'.cell? ⟨bb,1,none⟩=some (.slice (some ⟨g,0,none⟩) l.length c)):=v7 fun w' hb=>(hB.below hb).cells.2.1
 have POP:Hid (∀w',Below w.heap.size w w'→Calls Tryz.prog 46 #[.pointer (some ⟨g,i * 3+2,none⟩)] w' (vi6 g (i * 3+2) 0 y.hv y.ms w')):=v7 fun w' hb=>pop_any _ _ _ _ (by have:=hB.m6 y (List.mem_of_getElem? hy);omega) w' ((hB.below hb).heap hy)
 have HE:Hid (∀w1 w2 w3 m,Below w.heap.size w w1→vi6 g (i * 3+2) 0 y.hv y.ms w1 (.returned (.tuple #[mgV m,.bool (decide (0<y.ms.length))])) w2→Below w2.heap.size w2 w3→Q (.returned (.tuple #[.int .i64 m.num,.int .i64 0])) w3):=v7 (by
  rintro w1 w2 w3 m hb1 ⟨v',m',he,hm,hq,hk⟩ hb3
  have em:mgV m=mgV m':=by injection he with e1;injection e1 with e2;simpa using e2
  have em2:m.num=m'.num:=by simp [mgV] at em;exact em.2
  have hB1:=hB.below hb1
  obtain ⟨x',a1,a2,a3,a4,a5,a6,hB2⟩:=hB1.turned hy hq hk (by rw [jm2];have:=hB.m6 y (List.mem_of_getElem? hy);omega)
  have hB3:=hB2.below hb3
  have hz1:=hb1.size
  have hz2:=hk.size
  have hz3:=hb3.size
  have hGrow:Grow F w w3:=by
   refine ⟨hb3.os.trans (hk.os.trans hb1.os),hb3.tape.trans (hk.tape.trans hb1.tape),hb3.output.trans (hk.output.trans hb1.output),by omega,fun k hk1 hk2=>?_⟩
   rw [hb3.block k (by omega),hk.block k (by omega) (fun e=>hk2 (hfoot k (.inl (.inr (.inl (by rw [e];rfl)))))) (fun e=>hk2 (hfoot k (.inl (.inr (.inr (.inr (.inr ⟨y,List.mem_of_getElem? hy,e⟩))))))),hb1.block k hk1]
  have hnum:headN x.ms=m.num:=by rw [em2,hm,←hyx];rfl
  rw [←hnum]
  refine hQ w3 ⟨?_,_,tv,rv,l.set i x',hB3, ?_, ?_⟩ hGrow
  ·intro k hk'
   rcases hk' with hk'|hk'
   ·have:=hF k hk';omega
   ·exact hk'.2
  ·rw [List.map_set,hL]
   congr 1
   rw [←hyx]
   simp [Sx.su,a2,a3,a4]
  ·intro k hk'
   have hlt:=hB2.foot_lt hk'
   by_cases hkw:w.heap.size≤k
   ·exact .inr ⟨hkw,by omega⟩
   ·left
    apply hfoot
    rcases hk' with (e|e|e|e|⟨z,hz,e⟩)|⟨z,hz,e⟩
    ·exact .inl (.inl e)
    ·exact .inl (.inr (.inl e))
    ·exact .inl (.inr (.inr (.inl e)))
    ·exact .inl (.inr (.inr (.inr (.inl e))))
    ·rcases List.mem_or_eq_of_mem_set hz with hz|rfl
     ·exact .inl (.inr (.inr (.inr (.inr ⟨z,hz,e⟩))))
     ·rw [a1] at e
      rcases hk.row k e with e'|e'
      ·exact .inl (.inr (.inr (.inr (.inr ⟨y,List.mem_of_getElem? hy,e'⟩))))
      ·omega
    ·rcases List.mem_or_eq_of_mem_set hz with hz|rfl
     ·exact .inr ⟨z,hz,e⟩
     ·rw [a5,a6] at e
      exact .inr ⟨y,List.mem_of_getElem? hy,e⟩)
 have hi8:l.length≤8:=hB.n8
 obtain ⟨n,hn⟩:∃n,l.length=n:=⟨_,rfl⟩
 rw [hn] at CELLS hi8 hil
 have i0:(0:Int)≤(i:Int):=by omega
 have i1:(i:Int)<(n:Int):=by omega
 clear hB hL hfoot hx hy hyx hpl hyid hQ hn hF
 go_enter Tryz.func22,Tryz.ntmps22
 go_wp2_with (first|(go_at_call 30;refine (q9 FD).mono ?_;rintro e w1 ⟨rfl,hb1⟩;have B1:=v7 hb1;have c1:=q9 CELLS w1 hb1;clear hb1)|(go_at_call 46;refine (q9 POP _ (q9 B1)).mono ?_;intro e w2 hp2;have P2:=v7 hp2;obtain ⟨v2,m2,rfl,hz2⟩:=hp2;clear hz2;unfold mgV))
 exact q9 HE w1 w2 _ m2 (q9 B1) (q9 P2) (by first|exact (Below.refl _ _).alloc (Nat.le_refl _) _|exact Below.refl _ _)
end
section
theorem vu9 {w:World} {bb:Nat} {a b c d:Value} {t:TypeId} (h:w.heap[bb]?=some (.cells #[a,b,c,d] t (0,0))) (x:Value):(w.setCell ⟨bb,1,none⟩ x).heap[bb]?=some (.cells #[a,x,c,d] t (0,0)):=by
 rw [setCell_eq_setRow w bb 1 _ t (0,0) x h]
 exact setRow_heap w bb _ _ t (0,0) h
theorem jp8 {w:World} {bb:Nat} {a b c d:Value} {t:TypeId} (h:w.heap[bb]?=some (.cells #[a,b,c,d] t (0,0))) (x:Value):(w.setCell ⟨bb,2,none⟩ x).heap[bb]?=some (.cells #[a,b,x,d] t (0,0)):=by
 rw [setCell_eq_setRow w bb 2 _ t (0,0) x h]
 exact setRow_heap w bb _ _ t (0,0) h
theorem jp9 {w:World} {bb:Nat} {a b c d:Value} {t:TypeId} (h:w.heap[bb]?=some (.cells #[a,b,c,d] t (0,0))) (x:Value):(w.setCell ⟨bb,3,none⟩ x).heap[bb]?=some (.cells #[a,b,c,x] t (0,0)):=by
 rw [setCell_eq_setRow w bb 3 _ t (0,0) x h]
 exact setRow_heap w bb _ _ t (0,0) h
theorem blk_set0 {w:World} {bb:Nat} {a b c d:Value} {t:TypeId} (h:w.heap[bb]?=some (.cells #[a,b,c,d] t (0,0))) (x:Value):(w.setCell ⟨bb,0,none⟩ x).heap[bb]?=some (.cells #[x,b,c,d] t (0,0)):=by
 rw [setCell_eq_setRow w bb 0 _ t (0,0) x h]
 exact setRow_heap w bb _ _ t (0,0) h
theorem ja2 {w:World} {bb:Nat} {a b c d:Value} {t:TypeId} (h:w.heap[bb]?=some (.cells #[a,b,c,d] t (0,0))):w.cell? ⟨bb,0,none⟩=some a∧w.cell? ⟨bb,1,none⟩=some b∧w.cell? ⟨bb,2,none⟩=some c∧w.cell? ⟨bb,3,none⟩=some d∧(∀j,w.frozen? ⟨bb,j,none⟩=false)∧bb<w.heap.size:=by
 refine ⟨?_, ?_, ?_, ?_, ?_,(Array.getElem?_eq_some_iff.1 h).1⟩<;>simp [World.cell?,World.frozen?,h]
def vp9 (l:List Sx) (k:Nat):List Sx:=l.take k++l.drop (k+1)
theorem delX_sb (l:List Sx) (k:Nat):(vp9 l k).map Sx.sb=vv4 (l.map Sx.sb) k:=by simp [vp9,vv4,List.map_append,List.map_take,List.map_drop]
theorem jq6 (l:List Sx) (k:Nat):(vp9 l k).Sublist l:=by
 have h:(l.take k++l.drop (k+1)).Sublist (l.take k++l.drop k):=List.Sublist.append_left (by
  have:l.drop (k+1)=(l.drop k).drop 1:=by rw [List.drop_drop]
  rw [this]
  exact List.drop_sublist _ _) _
 rwa [List.take_append_drop] at h
theorem getX {L:List Su} {l:List Sx} (hL:l.map Sx.su=L) {i:Nat} {x:Su} (hx:L[i]?=some x):∃y,l[i]?=some y∧y.su=x:=by
 rw [←hL,List.getElem?_map] at hx
 cases hl:l[i]? with
 | none=>rw [hl] at hx;cases hx
 | some y=>rw [hl] at hx;exact ⟨y,rfl,by simpa using hx⟩
def qe3 (L:List Su):List Tm×List Nat:=qf5 (L.map Su.co) L.length
theorem qv8 (l:List Sx):qe3 (l.map Sx.su)=(tsX l,rsX l):=by
 unfold qe3 tsX rsX qk9
 rw [List.map_map,List.length_map]
 rfl
def PrgS (L:List Su):Prop:=Prg (qe3 L).1 (qe3 L).2
theorem ve6 {w:World} {bb:Nat} {last:Int} {sv tv rv:Value} {l:List Sx} (hB:BrAt w bb last sv tv rv l) {id:Int} (hno:∀x∈l,x.id≠id):Calls Tryz.prog 30 #[.pointer (some ⟨bb,0,none⟩),.int .i64 id] w fun e w'=>e=.returned (.tuple #[.int .i64 (qb8 (l.map Sx.sb) id),.bool false])∧Below w.heap.size w w':=by
 have h:=vb7 bb (l.map Sx.sb) id _ w hB.cells.2.1 (SbRow.subs hB.row) hB.up (by rw [List.length_map];exact hB.n8)
 have e:((l.map Sx.sb).any fun s=>s.id==id)=false:=by
  rw [List.any_eq_false]
  intro s hs
  obtain ⟨x,hx,rfl⟩:=List.mem_map.1 hs
  have:=hno x hx
  simpa [Sx.sb] using this
 rw [e] at h
 exact h
theorem poll_no (w:World) (F:Nat→Prop) (bb:Nat) (last:Int) (L:List Su) (h:Br w F bb last L) (id:Int) (hno:∀x∈L,x.id≠id) :
  Calls Tryz.prog 22 #[.pointer (some ⟨bb,0,none⟩),.int .i64 id] w fun e w'=>e=.returned (.tuple #[.int .i64 0,.int .i64 5])∧Below w.heap.size w w':=by
 obtain ⟨hF,sv,tv,rv,l,hB,hL,hfoot⟩:=h
 have FD:=v7 (ve6 hB (id:=id) (fun x hx=>by have:=hno x.su (by rw [←hL];exact List.mem_map_of_mem hx);exact this))
 generalize qb8 (l.map Sx.sb) id=P at *
 clear hB hL hfoot hno hF
 go_enter Tryz.func22,Tryz.ntmps22
 go_wp2_with (go_at_call 30;refine (q9 FD).mono ?_;rintro e w1 ⟨rfl,hb1⟩;have B1:=v7 hb1;clear hb1)
 go_ret2
 exact ⟨rfl,q9 B1⟩
theorem unsub_no (w:World) (F:Nat→Prop) (bb:Nat) (last:Int) (L:List Su) (h:Br w F bb last L) (id:Int) (hno:∀x∈L,x.id≠id) :
  Calls Tryz.prog 19 #[.pointer (some ⟨bb,0,none⟩),.int .i64 id] w fun e w'=>e=.returned (.int .i64 5)∧Below w.heap.size w w':=by
 obtain ⟨hF,sv,tv,rv,l,hB,hL,hfoot⟩:=h
 have FD:=v7 (ve6 hB (id:=id) (fun x hx=>by have:=hno x.su (by rw [←hL];exact List.mem_map_of_mem hx);exact this))
 generalize qb8 (l.map Sx.sb) id=P at *
 clear hB hL hfoot hno hF
 go_enter Tryz.func19,Tryz.ntmps19
 go_wp2_with (go_at_call 30;refine (q9 FD).mono ?_;rintro e w1 ⟨rfl,hb1⟩;have B1:=v7 hb1;clear hb1)
 go_ret
 exact ⟨rfl,q9 B1⟩
theorem BrAt.deleted {w w1 wS w2:World} {bb g n c:Nat} {last:Int} {tv rv tv' rv':Value} {l:List Sx} (h:BrAt w bb last (.slice (some ⟨g,0,none⟩) (n+1) c) tv rv l) {i:Nat}
  (hrow:SbRow w1 0 (.slice (some ⟨g,0,none⟩) n c) (vv4 (l.map Sx.sb) i)) (hg:w.grownBy w1 (some g)) (hS:wS=w1.setCell ⟨bb,1,none⟩ (.slice (some ⟨g,0,none⟩) n c))
  (hr:RowsAt w2 wS.heap.size tv' rv' (tsX (vp9 l i)) (rsX (vp9 l i))) (hb2:Below wS.heap.size wS w2) (hp:Prg (tsX (vp9 l i)) (rsX (vp9 l i))) :
  BrAt ((w2.setCell ⟨bb,2,none⟩ tv').setCell ⟨bb,3,none⟩ rv') bb last (.slice (some ⟨g,0,none⟩) n c) tv' rv' (vp9 l i):=by
 have hz1:=hg.size
 have hzS:wS.heap.size=w1.heap.size:=by rw [hS];simp
 have hz2:=hb2.size
 have hlt:=h.lt
 have hne:bb≠g:=fun e=>by subst e;exact (qn9 h.row h.blk (by decide)) rfl
 have blk1:w1.heap[bb]?=some (.cells #[.int .i64 last,.slice (some ⟨g,0,none⟩) (n+1) c,tv,rv] 67 (0,0)):=(hg.block bb hlt (fun e=>hne (by simpa using e))).trans h.blk
 have blkS:=vu9 blk1 (.slice (some ⟨g,0,none⟩) n c)
 rw [←hS] at blkS
 have blk2:=(hb2.block bb (by omega)).trans blkS
 have blk3:=jp9 (jp8 blk2 tv') rv'
 have keep:∀k,k<w.heap.size→k≠bb→k≠g→((w2.setCell ⟨bb,2,none⟩ tv').setCell ⟨bb,3,none⟩ rv').heap[k]?=w.heap[k]?:=fun k h1 h2 h3=>by
  rw [Below.heap_setCell _ ⟨bb,3,none⟩ _ k (by show k≠bb;exact h2),Below.heap_setCell _ ⟨bb,2,none⟩ _ k (by show k≠bb;exact h2),hb2.block k (by omega),hS,Below.heap_setCell _ ⟨bb,1,none⟩ _ k (by show k≠bb;exact h2)]
  exact hg.block k h1 (fun e=>h3 (by simpa using e))
 have late:∀k,k≠bb→((w2.setCell ⟨bb,2,none⟩ tv').setCell ⟨bb,3,none⟩ rv').heap[k]?=w2.heap[k]?:=fun k h2=>by
  rw [Below.heap_setCell _ ⟨bb,3,none⟩ _ k (by show k≠bb;exact h2),Below.heap_setCell _ ⟨bb,2,none⟩ _ k (by show k≠bb;exact h2)]
 have sub:=jq6 l i
 have hgl:g<w.heap.size:=(h.row.lt g rfl).2
 refine ⟨blk3, ?_,⟨?_, ?_,hr.ne⟩,fun x hx=>?_,h.dis.sublist sub,fun x hx=>?_,fun x hx k hk=>?_, ?_,Nat.le_trans sub.length_le h.n8,fun x hx=>h.m6 x (sub.subset hx),hp⟩
 ·show World.ownsRow _ 0 _ 3 _ ((vp9 l i).map Sx.sb).length (j5 ((vp9 l i).map Sx.sb))
  rw [delX_sb]
  refine j3 hrow fun k hk=>?_
  have e:g=k:=by simpa [Value.ownBlock] using hk
  subst e
  rw [late g (fun e=>hne e.symm),hb2.block g (by omega),hS,Below.heap_setCell _ ⟨bb,1,none⟩ _ g (by show g≠bb;exact fun e=>hne e.symm)]
 ·exact qa3 (j3 hr.ats fun k hk=>late k (fun e=>by have:=(hr.ats.lt k hk).1;omega)) (Nat.zero_le _)
 ·exact qa3 (j3 hr.ars fun k hk=>late k (fun e=>by have:=(hr.ars.lt k hk).1;omega)) (Nat.zero_le _)
 ·have ho:=h.hps x (sub.subset hx)
  exact j3 ho fun k hk=>keep k (ho.lt k hk).2 (fun e=>by subst e;exact qn9 ho h.blk (by decide) hk) (fun e=>by subst e;exact qw9 ho h.row (by decide) hk rfl)
 ·obtain ⟨h1,h2,h3⟩:=h.cos x (sub.subset hx)
  refine ⟨CoAt.keep (Nat.le_refl _) (fun k k1 k2=>keep k (by omega) ?_ ?_) (by simp;omega) h1,by simp;omega,h3⟩
  ·intro e
   have:=h.out x (sub.subset hx) k (.inl e)
   omega
  ·intro e
   have:=h.out x (sub.subset hx) k (.inr (.inl (by rw [e];rfl)))
   omega
 ·have h2:=(h.cos x (sub.subset hx)).2.1
  rcases hk with e|e|e|e|⟨y,hy,e⟩
  ·exact h.out x (sub.subset hx) k (.inl e)
  ·exact h.out x (sub.subset hx) k (.inr (.inl e))
  ·have:=(hr.ats.lt k e).1;right;omega
  ·have:=(hr.ars.lt k e).1;right;omega
  ·exact h.out x (sub.subset hx) k (.inr (.inr (.inr (.inr ⟨y,sub.subset hy,e⟩))))
 ·exact h.up.sublist (sub.map _)
theorem PrgS.at {l:List Sx} (h:PrgS (l.map Sx.su)):Prg (tsX l) (rsX l):=by
 unfold PrgS at h
 rw [qv8] at h
 exact h
theorem vj5 {l:List Sx} {k:Nat} (hk:k<l.length):(vp9 l k).length=l.length - 1:=by simp [vp9];omega
theorem unsub_at (w:World) (F:Nat→Prop) (bb:Nat) (last:Int) (L:List Su) (h:Br w F bb last L) (i:Nat) (x:Su) (hx:L[i]?=some x) (hprg:PrgS (L.take i++L.drop (i+1)))
  (Q:Ending→World→Prop) (hQ:∀w',Br w' (upF F w w') bb last (L.take i++L.drop (i+1))→Grow F w w'→Q (.returned (.int .i64 0)) w') :
  Calls Tryz.prog 19 #[.pointer (some ⟨bb,0,none⟩),.int .i64 x.id] w Q:=by
 obtain ⟨hF,sv,tv,rv,l,hB,hL,hfoot⟩:=h
 obtain ⟨y,hy,hyx⟩:=getX hL hx
 have hil:=(List.getElem?_eq_some_iff.1 hy).1
 obtain ⟨n,hn⟩:∃n,l.length=n+1:=⟨l.length - 1,by omega⟩
 obtain ⟨g,c,rfl⟩:∃g c,sv=.slice (some ⟨g,0,none⟩) (n+1) c:=by
  rcases qc8 hB.row with ⟨_,h0⟩|⟨g,c,hv⟩
  ·simp at h0;subst h0;simp at hil
  ·exact ⟨g,c,by rw [hv,List.length_map,hn]⟩
 have hpl:=vx2 hB.up (i:=i) (s:=y.sb) (by rw [List.getElem?_map,hy];rfl)
 have hyid:y.sb.id=x.id:=by rw [←hyx];rfl
 rw [hyid] at hpl
 have FD:=v7 (vb7 bb (l.map Sx.sb) x.id _ w hB.cells.2.1 (SbRow.subs hB.row) hB.up (by rw [List.length_map];exact hB.n8))
 rw [hpl.1,hpl.2] at FD
 have hdL:(vp9 l i).map Sx.su=L.take i++L.drop (i+1):=by rw [←hL];simp [vp9,List.map_append,List.map_take,List.map_drop]
 have hp':Prg (tsX (vp9 l i)) (rsX (vp9 l i)):=PrgS.at (by rw [hdL];exact hprg)
 have hne:bb≠g:=fun e=>by subst e;exact (qn9 hB.row hB.blk (by decide)) rfl
 have CELLS:Hid (∀w',Below w.heap.size w w'→w'.cell? ⟨bb,1,none⟩=some (.slice (some ⟨g,0,none⟩) (n+1) c)):=v7 fun w' hb=>(hB.below hb).cells.2.1
 have DEL:Hid (∀w',Below w.heap.size w w'→Calls Tryz.prog 45 #[.slice (some ⟨g,0,none⟩) (n+1:Nat) c,.int .i64 i,.int .i64 ((i:Int)+1)] w' fun e w''=>e=.returned (.slice (some ⟨g,0,none⟩) n c)∧w''.cell? ⟨bb,1,none⟩=some (.slice (some ⟨g,0,none⟩) (n+1) c)∧(∀j,w''.frozen? ⟨bb,j,none⟩=false)∧bb<w''.heap.size∧Hid (SbRow w'' 0 (.slice (some ⟨g,0,none⟩) n c) (vv4 (l.map Sx.sb) i))∧Hid (w'.grownBy w'' (some g))):=v7 (by
  intro w' hb
  have hB':=hB.below hb
  refine (jv5 (l.map Sx.sb) n i c g (by rw [List.length_map,hn]) 0 w' hB'.row (by omega) (by have:=hB.n8;omega)).mono ?_
  rintro e w'' ⟨rfl,hrow,hgr⟩
  have hl:(vv4 (l.map Sx.sb) i).length=n:=by rw [qv1 (by rw [List.length_map];exact hil),List.length_map,hn];rfl
  rw [hl] at hrow ⊢
  obtain ⟨_,b1,_,_,b4,b5⟩:=ja2 ((hgr.block bb hB'.lt (fun e=>hne (by simpa using e))).trans hB'.blk)
  exact ⟨rfl,b1,b4,b5,v7 hrow,v7 hgr⟩)
 have TG:Hid (∀w' w'',Below w.heap.size w w'→SbRow w'' 0 (.slice (some ⟨g,0,none⟩) n c) (vv4 (l.map Sx.sb) i)→w'.grownBy w'' (some g)→Calls Tryz.prog 35 #[.slice (some ⟨g,0,none⟩) n c] (w''.setCell ⟨bb,1,none⟩ (.slice (some ⟨g,0,none⟩) n c)) fun e w3=>∃a2 n2 c2 a3 n3 c3,e=.returned (.agg #[.slice a2 n2 c2,.slice a3 n3 c3])∧(∃u2 u3,w3.cell? ⟨bb,2,none⟩=some u2∧w3.cell? ⟨bb,3,none⟩=some u3)∧(∀j,w3.frozen? ⟨bb,j,none⟩=false)∧bb<w3.heap.size∧Hid (Q (.returned (.int .i64 0)) ((w3.setCell ⟨bb,2,none⟩ (.slice a2 n2 c2)).setCell ⟨bb,3,none⟩ (.slice a3 n3 c3)))):=v7 (by
  intro w1 w2 hb1 hrow hgr
  have hB1:=hB.below hb1
  obtain ⟨wS,hS⟩:∃wS,wS=w2.setCell ⟨bb,1,none⟩ (.slice (some ⟨g,0,none⟩) n c):=⟨_,rfl⟩
  rw [←hS]
  have hzS:wS.heap.size=w2.heap.size:=by rw [hS];simp
  have hz1:=hb1.size
  have hzg:=hgr.size
  have hrowS:SbRow wS 0 (.slice (some ⟨g,0,none⟩) n c) (vv4 (l.map Sx.sb) i):=by
   rw [hS]
   exact j3 hrow fun k hk=>Below.heap_setCell _ ⟨bb,1,none⟩ _ k (by
    have e:g=k:=by simpa [Value.ownBlock] using hk
    show k≠bb
    exact fun e'=>hne (by rw [←e',←e]))
  have keepS:∀k,k<w1.heap.size→k≠bb→k≠g→wS.heap[k]?=w1.heap[k]?:=fun k h1 h2 h3=>by
   rw [hS,Below.heap_setCell _ ⟨bb,1,none⟩ _ k (by show k≠bb;exact h2)]
   exact hgr.block k h1 (fun e=>h3 (by simpa using e))
  have hlen:(vv4 (l.map Sx.sb) i).length=n:=by rw [qv1 (by rw [List.length_map];exact hil),List.length_map,hn];rfl
  have hcl:(qk9 (vp9 l i)).length=n:=by unfold qk9;rw [List.length_map,vj5 hil,hn];rfl
  have sub:=jq6 l i
  have T:=qy8 (vv4 (l.map Sx.sb) i) (qk9 (vp9 l i)) (by rw [hcl,hlen]) (by rw [hlen];have:=hB.n8;omega) (.slice (some ⟨g,0,none⟩) n c) wS (SbRow.subs hrowS) (by
   intro k s cc hs hc
   rw [←delX_sb,List.getElem?_map] at hs
   unfold qk9 at hc
   rw [List.getElem?_map] at hc
   cases hz:(vp9 l i)[k]? with
   | none=>rw [hz] at hs;cases hs
   | some z=>
    rw [hz] at hs hc
    simp at hs hc
    subst hs hc
    have hzm:=sub.subset (List.mem_of_getElem? hz)
    obtain ⟨q1,q2,q3,q4⟩:=hB1.cos z hzm
    refine ⟨?_,q3,q4⟩
    have q5:CoAt z.lo wS.heap.size wS (.pointer z.cp) z.co:=CoAt.keep (by omega) (fun k k1 k2=>keepS k (by omega) (fun e=>by have:=hB1.out z hzm k (.inl e);omega) (fun e=>by have:=hB1.out z hzm k (.inr (.inl (by rw [e];rfl)));omega)) (by omega) q1
    exact CoAt.low (Nat.zero_le _) q5)
  refine T.mono ?_
  rintro e w3 ⟨tv',rv',rfl,hr,hb3⟩
  rw [hlen] at hr
  have hr':RowsAt w3 wS.heap.size tv' rv' (tsX (vp9 l i)) (rsX (vp9 l i)):=by
   unfold tsX rsX
   rw [vj5 hil,hn]
   exact hr
  have hz3:=hb3.size
  have hBd:=hB1.deleted hrow hgr hS hr' hb3 hp'
  obtain ⟨a2,c2,rfl⟩:=hr.ats.form
  obtain ⟨a3,c3,rfl⟩:=hr.ars.form
  have blk1:=(hgr.block bb hB1.lt (fun e=>hne (by simpa using e))).trans hB1.blk
  have blkS:=vu9 blk1 (.slice (some ⟨g,0,none⟩) n c)
  rw [←hS] at blkS
  obtain ⟨_,_,b2,b3,b4,b5⟩:=ja2 ((hb3.block bb (by have:=hB.lt;omega)).trans blkS)
  refine ⟨a2,_,c2,a3,_,c3,rfl,⟨_,_,b2,b3⟩,b4,b5,v7 (hQ _ ⟨?_,_,_,_,vp9 l i,hBd,hdL, ?_⟩ ?_)⟩
  ·intro k hk
   rcases hk with hk|hk
   ·have:=hF k hk;simp;omega
   ·exact hk.2
  ·intro k hk
   have hlt:=hBd.foot_lt hk
   by_cases hkw:w.heap.size≤k
   ·exact .inr ⟨hkw,hlt⟩
   ·left
    apply hfoot
    rcases hk with (e|e|e|e|⟨z,hz,e⟩)|⟨z,hz,e⟩
    ·exact .inl (.inl e)
    ·exact .inl (.inr (.inl e))
    ·have:=(hr.ats.lt k e).1;omega
    ·have:=(hr.ars.lt k e).1;omega
    ·exact .inl (.inr (.inr (.inr (.inr ⟨z,sub.subset hz,e⟩))))
    ·exact .inr ⟨z,sub.subset hz,e⟩
  ·refine ⟨hb3.os.trans ?_,hb3.tape.trans ?_,hb3.output.trans ?_,by simp;omega,fun k h1 h2=>?_⟩
   ·rw [hS];exact hgr.os.trans hb1.os
   ·rw [hS];exact hgr.tape.trans hb1.tape
   ·rw [hS];exact hgr.output.trans hb1.output
   ·have hkb:k≠bb:=fun e=>h2 (hfoot k (.inl (.inl e)))
    have hkg:k≠g:=fun e=>h2 (hfoot k (.inl (.inr (.inl (by rw [e];rfl)))))
    rw [Below.heap_setCell _ ⟨bb,3,none⟩ _ k (by show k≠bb;exact hkb),Below.heap_setCell _ ⟨bb,2,none⟩ _ k (by show k≠bb;exact hkb),hb3.block k (by omega),keepS k (by omega) hkb hkg]
    exact hb1.block k h1)
 have hi8:l.length≤8:=hB.n8
 have iw:(i:Int)≤1000:=by omega
 have i0:(0:Int)≤(i:Int):=by omega
 clear hB hL hfoot hx hy hyx hpl hyid hQ hn hF hdL hp' hprg hil hi8
 go_enter Tryz.func19,Tryz.ntmps19
 go_wp2_with (first|(go_at_call 30;refine (q9 FD).mono ?_;rintro e w1 ⟨rfl,hb1⟩;have B1:=v7 hb1;have c1:=q9 CELLS w1 hb1;clear hb1)|(go_at_call 45;refine (q9 DEL _ (q9 B1)).mono ?_;rintro e w2 ⟨rfl,c2,f2,l2,R2,G2⟩)|(go_at_call 35;refine (q9 TG w1 w2 (q9 B1) (q9 R2) (q9 G2)).mono ?_;rintro e w3 ⟨a2,n2,cc2,a3,n3,cc3,rfl,⟨u2,u3,d2,d3⟩,f3,l3,E3⟩))
 exact q9 E3
end
section
def Rep (ts:List Tm):Nat→Co→Prop
 | i,.leaf p=>ts[i]?=some (qz9 p 0 0)
 | i,.un p x=>∃l,Rep ts l x∧ts[i]?=some (qz9 p l 0)
 | i,.bin p x y=>∃l r,Rep ts l x∧Rep ts r y∧ts[i]?=some (qz9 p l r)
def SubC:Co→Co→Prop
 | .leaf p,d=>d=.leaf p
 | .un p x,d=>d=.un p x∨SubC x d
 | .bin p x y,d=>d=.bin p x y∨SubC x d∨SubC y d
theorem ji7 {ts us:List Tm} {i:Nat} {t:Tm} (h:ts[i]?=some t):(ts++us)[i]?=some t:=by
 rw [List.getElem?_append_left (List.getElem?_eq_some_iff.1 h).1]
 exact h
theorem Rep.more {ts us:List Tm}:∀{c:Co} {i:Nat},Rep ts i c→Rep (ts++us) i c:=by
 intro c
 induction c with
 | leaf p=>intro i h;exact ji7 h
 | un p x ih=>rintro i ⟨l,h1,h2⟩;exact ⟨l,ih h1,ji7 h2⟩
 | bin p x y ihx ihy=>rintro i ⟨l,r,h1,h2,h3⟩;exact ⟨l,r,ihx h1,ihy h2,ji7 h3⟩
theorem Rep.lt {ts:List Tm} {c:Co} {i:Nat} (h:Rep ts i c):i<ts.length:=by
 cases c with
 | leaf p=>exact (List.getElem?_eq_some_iff.1 h).1
 | un p x=>obtain ⟨_,_,h⟩:=h;exact (List.getElem?_eq_some_iff.1 h).1
 | bin p x y=>obtain ⟨_,_,_,_,h⟩:=h;exact (List.getElem?_eq_some_iff.1 h).1
theorem Rep.sub {ts:List Tm}:∀{c d:Co} {i:Nat},Rep ts i c→SubC c d→∃j,Rep ts j d:=by
 intro c
 induction c with
 | leaf p=>rintro d i h rfl;exact ⟨i,h⟩
 | un p x ih=>
  intro d i h hs
  rcases hs with rfl|hs
  ·exact ⟨i,h⟩
  ·obtain ⟨l,h1,_⟩:=h
   exact ih h1 hs
 | bin p x y ihx ihy=>
  intro d i h hs
  rcases hs with rfl|hs|hs
  ·exact ⟨i,h⟩
  ·obtain ⟨l,r,h1,h2,_⟩:=h
   exact ihx h1 hs
  ·obtain ⟨l,r,h1,h2,_⟩:=h
   exact ihy h2 hs
theorem vw5 {ts:List Tm} (h:ts.Nodup) {i j:Nat} {t:Tm} (hi:ts[i]?=some t) (hj:ts[j]?=some t):i=j:=by
 obtain ⟨il,ie⟩:=List.getElem?_eq_some_iff.1 hi
 obtain ⟨jl,je⟩:=List.getElem?_eq_some_iff.1 hj
 have hp:=List.pairwise_iff_getElem.1 h
 rcases Nat.lt_trichotomy i j with hlt|rfl|hlt
 ·exact absurd (ie.trans je.symm) (hp i j il jl hlt)
 ·rfl
 ·exact absurd (je.trans ie.symm) (hp j i jl il hlt)
theorem Rep.inj {ts:List Tm} (hn:ts.Nodup):∀{c:Co} {i j:Nat},Rep ts i c→Rep ts j c→i=j:=by
 intro c
 induction c with
 | leaf p=>intro i j h1 h2;exact vw5 hn h1 h2
 | un p x ih=>
  rintro i j ⟨l,a1,a2⟩ ⟨l',b1,b2⟩
  obtain rfl:=ih a1 b1
  exact vw5 hn a2 b2
 | bin p x y ihx ihy=>
  rintro i j ⟨l,r,a1,a2,a3⟩ ⟨l',r',b1,b2,b3⟩
  obtain rfl:=ihx a1 b1
  obtain rfl:=ihy a2 b2
  exact vw5 hn a3 b3
theorem qq7 {p q:CP} (hp:FldP p) (hq:FldP q) {l r l' r':Nat} (h:qz9 p l r=qz9 q l' r'):p=q∧l=l'∧r=r':=by
 obtain ⟨po,pn,ps,pe⟩:=p
 obtain ⟨qo,qn,qs,qe⟩:=q
 simp only [qz9,Tm.mk.injEq] at h
 obtain ⟨h1,h2,h3,h4,h5,h6⟩:=h
 have e:po=qo:=by
  have a:0≤po:=hp.1.1
  have b:0≤qo:=hq.1.1
  omega
 subst e h4 h5 h6
 exact ⟨rfl,h2,h3⟩
theorem jx9 {op:Int}:(qi5 op=true→unB op=false∧binB op=false)∧(unB op=true→qi5 op=false∧binB op=false):=by
 unfold binB
 refine ⟨fun h=>?_,fun h=>?_⟩
 ·refine ⟨?_,by rw [h];rfl⟩
  unfold qi5 at h
  unfold unB
  simp only [Bool.or_eq_true,beq_iff_eq] at h
  rcases h with (((h|h)|h)|h)|h<;>rw [h]<;>decide
 ·refine ⟨?_,by rw [h];simp⟩
  unfold unB at h
  unfold qi5
  simp only [Bool.or_eq_true,beq_iff_eq] at h
  rcases h with (h|h)|h<;>rw [h]<;>decide
theorem Rep.func {ts:List Tm}:∀{c d:Co} {i:Nat},vg8 c→WfC c→vg8 d→WfC d→Rep ts i c→Rep ts i d→c=d:=by
 intro c
 induction c with
 | leaf p=>
  intro d i fc wc fd wd h1 h2
  cases d with
  | leaf q=>
   have e:=qq7 fc fd (Option.some.inj (h1.symm.trans h2))
   rw [e.1]
  | un q y=>
   obtain ⟨l,_,h2⟩:=h2
   have e:=qq7 fc fd.1 (Option.some.inj (h1.symm.trans h2))
   have:=(jx9.1 wc).1
   rw [e.1] at this
   rw [wd.1] at this
   cases this
  | bin q y z=>
   obtain ⟨l,r,_,_,h2⟩:=h2
   have e:=qq7 fc fd.1 (Option.some.inj (h1.symm.trans h2))
   have:=(jx9.1 wc).2
   rw [e.1] at this
   rw [wd.1] at this
   cases this
 | un p x ih=>
  intro d i fc wc fd wd h1 h2
  obtain ⟨l,a1,a2⟩:=h1
  cases d with
  | leaf q=>
   have e:=qq7 fc.1 fd (Option.some.inj (a2.symm.trans h2))
   have:=(jx9.1 wd).1
   rw [←e.1,wc.1] at this
   cases this
  | un q y=>
   obtain ⟨l',b1,b2⟩:=h2
   have e:=qq7 fc.1 fd.1 (Option.some.inj (a2.symm.trans b2))
   obtain ⟨rfl,rfl,_⟩:=e
   rw [ih fc.2 wc.2 fd.2 wd.2 a1 b1]
  | bin q y z=>
   obtain ⟨l',r',_,_,b2⟩:=h2
   have e:=qq7 fc.1 fd.1 (Option.some.inj (a2.symm.trans b2))
   have:=(jx9.2 wc.1).2
   rw [e.1,wd.1] at this
   cases this
 | bin p x y ihx ihy=>
  intro d i fc wc fd wd h1 h2
  obtain ⟨l,r,a1,a2,a3⟩:=h1
  cases d with
  | leaf q=>
   have e:=qq7 fc.1 fd (Option.some.inj (a3.symm.trans h2))
   have:=(jx9.1 wd).2
   rw [←e.1,wc.1] at this
   cases this
  | un q z=>
   obtain ⟨l',_,b2⟩:=h2
   have e:=qq7 fc.1 fd.1 (Option.some.inj (a3.symm.trans b2))
   have:=(jx9.2 wd.1).2
   rw [←e.1,wc.1] at this
   cases this
  | bin q z u=>
   obtain ⟨l',r',b1,b2,b3⟩:=h2
   have e:=qq7 fc.1 fd.1 (Option.some.inj (a3.symm.trans b3))
   obtain ⟨rfl,rfl,rfl⟩:=e
   rw [ihx fc.2.1 wc.2.1 fd.2.1 wd.2.1 a1 b1,ihy fc.2.2 wc.2.2 fd.2.2 wd.2.2 a2 b2]
theorem inj_le:∀(m n:Nat) (f:Nat→Nat),(∀i,i<n→f i<m)→(∀i j,i<n→j<n→f i=f j→i=j)→n≤m:=by
 intro m
 induction m with
 | zero=>
  intro n f h _
  cases n with
  | zero=>exact Nat.le_refl _
  | succ n=>exact absurd (h 0 (by omega)) (by omega)
 | succ m ih=>
  intro n f h hinj
  cases n with
  | zero=>omega
  | succ k=>
   have hk:=h k (by omega)
   have:=ih k (fun i=>if f i=m then f k else f i) (fun i hi=>by
    by_cases e:f i=m
    ·simp only [e,if_true]
     have:f k≠m:=fun e'=>by have:=hinj i k (by omega) (by omega) (e.trans e'.symm);omega
     omega
    ·simp only [e,if_false]
     have:=h i (by omega)
     omega) (fun i j hi hj e=>by
    by_cases e1:f i=m<;>by_cases e2:f j=m
    ·exact hinj i j (by omega) (by omega) (e1.trans e2.symm)
    ·simp only [e1,e2,if_true,if_false] at e
     have:=hinj k j (by omega) (by omega) e
     omega
    ·simp only [e1,e2,if_true,if_false] at e
     have:=hinj i k (by omega) (by omega) e
     omega
    ·simp only [e1,e2,if_false] at e
     exact hinj i j (by omega) (by omega) e)
   omega
structure Full (ts:List Tm) (P:Co→Prop):Prop where
 nodup:ts.Nodup
 all:∀i,i<ts.length→∃d,P d∧Rep ts i d
theorem vx6 {ts:List Tm} {P:Co→Prop} (h:Full ts P) {t:Tm} {d:Co} (hd:Rep (vb5 ts t).1 (vb5 ts t).2 d):Full (vb5 ts t).1 (fun c=>P c∨c=d):=by
 unfold vb5 at hd ⊢
 cases hw:qi3 ts t with
 | some i=>exact ⟨h.nodup,fun i hi=>by obtain ⟨e,h1,h2⟩:=h.all i hi;exact ⟨e,.inl h1,h2⟩⟩
 | none=>
  rw [hw] at hd
  have hno:∀x∈ts,x≠t:=by
   unfold qi3 at hw
   rw [List.findIdx?_eq_none_iff] at hw
   intro x hx e
   have:=hw x hx
   rw [e,(vd1 t t).2 rfl] at this
   cases this
  refine ⟨?_,fun i hi=>?_⟩
  ·show (ts++[t]).Nodup
   unfold List.Nodup
   rw [List.pairwise_append]
   exact ⟨h.nodup,List.pairwise_singleton _ _,fun a ha b hb=>by simp at hb;subst hb;exact hno a ha⟩
  ·by_cases hl:i<ts.length
   ·obtain ⟨e,h1,h2⟩:=h.all i hl
    exact ⟨e,.inl h1,h2.more⟩
   ·have e:i=ts.length:=by
     have:i<(ts++[t]).length:=hi
     simp at this
     omega
    subst e
    exact ⟨d,.inr rfl,hd⟩
theorem jm6 (ts:List Tm) (t:Tm):(vb5 ts t).1[(vb5 ts t).2]?=some t∧∃us,(vb5 ts t).1=ts++us:=by
 unfold vb5
 cases hw:qi3 ts t with
 | some i=>
  refine ⟨?_,[],by simp⟩
  unfold qi3 at hw
  obtain ⟨h1,h2,_⟩:=List.findIdx?_eq_some_iff_getElem.1 hw
  rw [List.getElem?_eq_some_iff]
  exact ⟨h1,(vd1 _ _).1 h2⟩
 | none=>exact ⟨by simp,[t],rfl⟩
theorem vc5:∀(c:Co) (ts:List Tm),Rep (j8 ts c).1 (j8 ts c).2 c∧∃us,(j8 ts c).1=ts++us:=by
 intro c
 induction c with
 | leaf p=>intro ts;exact jm6 ts (qz9 p 0 0)
 | un p x ih=>
  intro ts
  obtain ⟨h1,us,h2⟩:=ih ts
  obtain ⟨h3,vs,h4⟩:=jm6 (j8 ts x).1 (qz9 p (j8 ts x).2 0)
  refine ⟨⟨(j8 ts x).2, ?_,h3⟩,us++vs, ?_⟩
  ·show Rep (vb5 (j8 ts x).1 (qz9 p (j8 ts x).2 0)).1 _ _
   rw [h4]
   exact h1.more
  ·show (vb5 (j8 ts x).1 (qz9 p (j8 ts x).2 0)).1=_
   rw [h4,h2,List.append_assoc]
 | bin p x y ihx ihy=>
  intro ts
  obtain ⟨h1,us,h2⟩:=ihx ts
  obtain ⟨k1,vs,k2⟩:=ihy (j8 ts x).1
  obtain ⟨h3,ws,h4⟩:=jm6 (j8 (j8 ts x).1 y).1 (qz9 p (j8 ts x).2 (j8 (j8 ts x).1 y).2)
  refine ⟨⟨(j8 ts x).2,(j8 (j8 ts x).1 y).2, ?_, ?_,h3⟩,us++vs++ws, ?_⟩
  ·show Rep (vb5 (j8 (j8 ts x).1 y).1 (qz9 p (j8 ts x).2 (j8 (j8 ts x).1 y).2)).1 _ _
   rw [h4]
   refine Rep.more ?_
   rw [k2]
   exact h1.more
  ·show Rep (vb5 (j8 (j8 ts x).1 y).1 (qz9 p (j8 ts x).2 (j8 (j8 ts x).1 y).2)).1 _ _
   rw [h4]
   exact k1.more
  ·show (vb5 (j8 (j8 ts x).1 y).1 (qz9 p (j8 ts x).2 (j8 (j8 ts x).1 y).2)).1=_
   rw [h4,k2,h2]
   simp [List.append_assoc]
theorem Full.weak {ts:List Tm} {P Q:Co→Prop} (h:Full ts P) (hPQ:∀c,P c→Q c):Full ts Q:=⟨h.nodup,fun i hi=>by obtain ⟨d,h1,h2⟩:=h.all i hi;exact ⟨d,hPQ d h1,h2⟩⟩
theorem jz4:∀(c:Co) (ts:List Tm) (P:Co→Prop),Full ts P→Full (j8 ts c).1 (fun d=>P d∨SubC c d):=by
 intro c
 induction c with
 | leaf p=>
  intro ts P h
  exact (vx6 h (t:=qz9 p 0 0) (d:=.leaf p) (vc5 (.leaf p) ts).1).weak fun d hd=>hd
 | un p x ih=>
  intro ts P h
  have h1:=ih ts P h
  refine (vx6 h1 (t:=qz9 p (j8 ts x).2 0) (d:=.un p x) (vc5 (.un p x) ts).1).weak fun d hd=>?_
  rcases hd with (hd|hd)|hd
  ·exact .inl hd
  ·exact .inr (.inr hd)
  ·exact .inr (.inl hd)
 | bin p x y ihx ihy=>
  intro ts P h
  have h1:=ihy _ _ (ihx ts P h)
  refine (vx6 h1 (t:=qz9 p (j8 ts x).2 (j8 (j8 ts x).1 y).2) (d:=.bin p x y) (vc5 (.bin p x y) ts).1).weak fun d hd=>?_
  rcases hd with ((hd|hd)|hd)|hd
  ·exact .inl hd
  ·exact .inr (.inr (.inl hd))
  ·exact .inr (.inr (.inr hd))
  ·exact .inr (.inl hd)
theorem vz7 (cs:List Co):∀k,k≤cs.length→Full (qf5 cs k).1 (fun d=>∃j c,j<k∧cs[j]?=some c∧SubC c d)∧∀j c,j<k→cs[j]?=some c→∃i,Rep (qf5 cs k).1 i c:=by
 intro k
 induction k with
 | zero=>intro _;exact ⟨⟨List.Pairwise.nil,fun i hi=>by simp [qf5] at hi⟩,fun j c hj=>by omega⟩
 | succ k ih=>
  intro hk
  obtain ⟨h1,h2⟩:=ih (by omega)
  obtain ⟨c,hc⟩:∃c,cs[k]?=some c:=⟨_,List.getElem?_eq_getElem (by omega)⟩
  have e:(qf5 cs (k+1)).1=(j8 (qf5 cs k).1 c).1:=by rw [qf5,List.getD_eq_getElem?_getD,hc];rfl
  rw [e]
  obtain ⟨h3,us,h4⟩:=vc5 c (qf5 cs k).1
  refine ⟨(jz4 c _ _ h1).weak fun d hd=>?_,fun j x hj hx=>?_⟩
  ·rcases hd with ⟨j,x,hj,hx,hs⟩|hd
   ·exact ⟨j,x,by omega,hx,hs⟩
   ·exact ⟨k,c,by omega,hc,hd⟩
  ·by_cases ej:j=k
   ·subst ej
    rw [hc] at hx
    obtain rfl:=Option.some.inj hx
    exact ⟨_,h3⟩
   ·obtain ⟨i,hi⟩:=h2 j x (by omega) hx
    rw [h4]
    exact ⟨i,hi.more⟩
theorem SubC.fld:∀{c d:Co},vg8 c→WfC c→SubC c d→vg8 d∧WfC d:=by
 intro c
 induction c with
 | leaf p=>rintro d h1 h2 rfl;exact ⟨h1,h2⟩
 | un p x ih=>
  intro d h1 h2 hs
  rcases hs with rfl|hs
  ·exact ⟨h1,h2⟩
  ·exact ih h1.2 h2.2 hs
 | bin p x y ihx ihy=>
  intro d h1 h2 hs
  rcases hs with rfl|hs|hs
  ·exact ⟨h1,h2⟩
  ·exact ihx h1.2.1 h2.2.1 hs
  ·exact ihy h1.2.2 h2.2.2 hs
theorem terms_le {cs cs':List Co} (hg:∀c∈cs,CoreOk c) (hs:∀c∈cs',c∈cs):(qf5 cs' cs'.length).1.length≤(qf5 cs cs.length).1.length:=by
 obtain ⟨f1,_⟩:=vz7 cs' cs'.length (Nat.le_refl _)
 obtain ⟨g1,g2⟩:=vz7 cs cs.length (Nat.le_refl _)
 have key:∀i,∃j,i<(qf5 cs' cs'.length).1.length→∃d,Rep (qf5 cs' cs'.length).1 i d∧Rep (qf5 cs cs.length).1 j d∧vg8 d∧WfC d:=by
  intro i
  by_cases hi:i<(qf5 cs' cs'.length).1.length
  ·obtain ⟨d,⟨k,c,hk,hc,hsub⟩,hr⟩:=f1.all i hi
   have hm:=hs c (List.mem_of_getElem? hc)
   obtain ⟨k2,hk2⟩:=List.getElem?_of_mem hm
   obtain ⟨i2,hi2⟩:=g2 k2 c (List.getElem?_eq_some_iff.1 hk2).1 hk2
   obtain ⟨j,hj⟩:=hi2.sub hsub
   have ho:=hg c hm
   exact ⟨j,fun _=>⟨d,hr,hj,hsub.fld ho.fld ho.wf⟩⟩
  ·exact ⟨0,fun h=>absurd h hi⟩
 have hf:=fun i=>Classical.choose_spec (key i)
 refine inj_le _ _ (fun i=>Classical.choose (key i)) (fun i hi=>?_) (fun i j hi hj e=>?_)
 ·obtain ⟨d,_,h2,_⟩:=hf i hi
  exact h2.lt
 ·obtain ⟨d,a1,a2,a3,a4⟩:=hf i hi
  obtain ⟨d',b1,b2,b3,b4⟩:=hf j hj
  have e':Classical.choose (key i)=Classical.choose (key j):=e
  rw [e'] at a2
  obtain rfl:=Rep.func a3 a4 b3 b4 a2 b2
  exact Rep.inj f1.nodup a1 b1
theorem addK_fits {cs:List Co} (hg:∀c∈cs,CoreOk c):∀k,k≤cs.length→FitsL (qf5 cs k).1:=by
 intro k
 induction k with
 | zero=>intro _ i t h;simp [qf5] at h
 | succ k ih=>
  intro hk
  obtain ⟨c,hc⟩:∃c,cs[k]?=some c:=⟨_,List.getElem?_eq_getElem (by omega)⟩
  have e:(qf5 cs (k+1)).1=(j8 (qf5 cs k).1 c).1:=by rw [qf5,List.getD_eq_getElem?_getD,hc];rfl
  rw [e]
  have ho:=hg c (List.mem_of_getElem? hc)
  exact jw4 c _ ho.fld ho.wf (ih (by omega))
theorem js5 {L:List Su} (hg:∀x∈L,CoreOk x.co) (h8:L.length≤8) (h80:(qe3 L).1.length≤80):PrgS L:=by
 have hl:(L.map Su.co).length=L.length:=List.length_map _
 have hg':∀c∈L.map Su.co,CoreOk c:=fun c hc=>by
  obtain ⟨x,hx,rfl⟩:=List.mem_map.1 hc
  exact hg x hx
 have hr:=qq9 (L.map Su.co) L.length
 refine ⟨h80, ?_,addK_fits hg' L.length (by rw [hl];exact Nat.le_refl _),hr.2⟩
 show (qf5 (L.map Su.co) L.length).2.length≤8
 rw [hr.1]
 exact h8
theorem js6 {L L':List Su} (hg:∀x∈L,CoreOk x.co) (hs:∀x∈L',∃y∈L,x.co=y.co):(qe3 L').1.length≤(qe3 L).1.length:=by
 have:=terms_le (cs:=L.map Su.co) (cs':=L'.map Su.co) (fun c hc=>by
  obtain ⟨x,hx,rfl⟩:=List.mem_map.1 hc
  exact hg x hx) (fun c hc=>by
  obtain ⟨x,hx,rfl⟩:=List.mem_map.1 hc
  obtain ⟨y,hy,e⟩:=hs x hx
  rw [e]
  exact List.mem_map_of_mem hy)
 rw [List.length_map,List.length_map] at this
 exact this
end
section
def jf7 (l:List Int):List Value:=l.map fun x=>.int .i64 x
def ZsAt (w:World) (base:Nat) (v:Value) (l:List Int):Prop:=w.ownsRow base 3 1 v l.length (jf7 l)
theorem ZsAt.nil (w:World) (base:Nat):ZsAt w base (.slice none 0 0) []:=⟨rfl,.inl ⟨rfl,rfl⟩⟩
theorem ZsAt.form {w:World} {base:Nat} {v:Value} {l:List Int} (h:ZsAt w base v l):∃a c,v=.slice a l.length c:=by
 rcases h.2 with ⟨rfl,hn⟩|⟨g,cap,cur,rfl,_⟩
 ·exact ⟨none,0,by rw [hn]⟩
 ·exact ⟨_,_,rfl⟩
theorem ZsAt.app {W W':World} {base:Nat} {v:Value} {l:List Int} (h:ZsAt W base v l) (hb:base≤W.heap.size) (x:Int) (hn:l.length≤1000) (ty:TypeId) (H:Nat) (hH:W.heap.size=H) (hW:W'=W.alloc (.cells #[.int .i64 x] 3)) :
  ∃g cap w5,(qh7 #[29,29] ty #[v,.slice (some ⟨H,0,none⟩) 1 1]).run Tryz.prog W'=.ok (.slice (some ⟨g,0,none⟩) (l.length+1) cap) w5 ∧
   Hid (ZsAt w5 base (.slice (some ⟨g,0,none⟩) (l.length+1) cap) (l++[x]))∧Hid (W.grownBy w5 v.ownBlock)∧Hid (v.ownBlock=some g∨W.heap.size≤g):=by
 subst hH hW
 obtain ⟨i0,hi,hz0,hz1,hz2⟩:=info_parts qu2
 have ha:=World.ownsRow.alloc h (.cells #[.int .i64 x] 3)
 obtain ⟨g,cap,w5,hr,hown,hgrow,hat,_⟩:=run_append_lies (P:=Tryz.prog) (W.alloc (.cells #[.int .i64 x] 3)) 29 ty base 3 i0 _ 1 8 Tryz.underlying29 hi hz0 hz1 hz2 rfl (by omega) v l.length (jf7 l) ha
  ⟨W.heap.size,0,none⟩ 1 1 [.int .i64 x] rfl (World.news_of_block (cs:=#[.int .i64 x]) (t:=3) (fr:=(0,0)) (heap_alloc_new W _)) (by simp [Value.oneCell']) (by omega) (by unfold maxLen;omega) (by omega) (by simp;omega) _ rfl
 have hal:=qq1 W (.cells #[.int .i64 x] 3)
 refine ⟨g,cap,w5,hr,v7 ?_,v7 ⟨hgrow.os,hgrow.tape,hgrow.output, ?_,fun k h1 h2=>?_⟩,v7 ?_⟩
 ·show World.ownsRow _ _ _ _ _ _ _
  rw [List.length_append,List.length_singleton,jf7,List.map_append]
  exact hown
 ·have:=hgrow.size
  simp at this
  omega
 ·rw [hgrow.block k (by simp;omega) h2,hal.block k h1]
 ·rcases hat with e|e
  ·exact .inl e
  ·right;simp at e;omega
def qg6 (m:Mg) (st:List Su×List Int×List Int) (p:Nat):List Su×List Int×List Int:=match st.1[p]? with
 | none=>st
 | some x=>if x.ms.length=6 then (st.1,st.2.1++[x.id],st.2.2++[x.id]) else (st.1.set p { x with ms:=vq7 x.ms m },st.2.1++[x.id],st.2.2)
def ve3 (m:Mg) (L:List Su) (pos:List Nat) (k:Nat):List Su×List Int×List Int:=(pos.take k).foldl (qg6 m) (L,[],[])
def pubR (m:Mg) (L:List Su) (pos:List Nat):List Su×List Int×List Int:=pos.foldl (qg6 m) (L,[],[])
theorem vm4 (m:Mg) (L:List Su) (pos:List Nat) (k p:Nat) (h:pos[k]?=some p):ve3 m L pos (k+1)=qg6 m (ve3 m L pos k) p:=by
 unfold ve3
 rw [List.take_add_one,h,List.foldl_append]
 rfl
theorem vq6 (m:Mg) (st:List Su×List Int×List Int) (p:Nat):(qg6 m st p).1.length=st.1.length:=by
 unfold qg6
 split
 ·rfl
 ·split
  ·rfl
  ·simp
theorem jm4 (m:Mg) (L:List Su) (pos:List Nat) (k:Nat):(ve3 m L pos k).1.length=L.length:=by
 induction k with
 | zero=>rfl
 | succ k ih=>
  cases h:pos[k]? with
  | none=>
   have:pos.take (k+1)=pos.take k:=by rw [List.take_add_one,h];simp
   unfold ve3 at ih ⊢
   rw [this,ih]
  | some p=>rw [vm4 m L pos k p h,vq6,ih]
theorem jz6 (m:Mg) (L:List Su) (pos:List Nat) (k:Nat):(ve3 m L pos k).2.1.length≤k∧(ve3 m L pos k).2.2.length≤k:=by
 induction k with
 | zero=>exact ⟨Nat.le_refl _,Nat.le_refl _⟩
 | succ k ih=>
  cases h:pos[k]? with
  | none=>
   have:pos.take (k+1)=pos.take k:=by rw [List.take_add_one,h];simp
   unfold ve3 at ih ⊢
   rw [this]
   omega
  | some p=>
   rw [vm4 m L pos k p h,qg6]
   split
   ·omega
   ·split<;>simp<;>omega
theorem BrAt.grown {w w':World} {bb:Nat} {last:Int} {sv tv rv:Value} {l:List Sx} {r:Option Nat} (h:BrAt w bb last sv tv rv l) (hg:w.grownBy w' r) (hr:∀k,r=some k→¬vi3 bb sv tv rv l k):BrAt w' bb last sv tv rv l:=
 h.same hg.size fun k hk=>hg.block k (h.foot_lt hk) fun e=>hr k e.symm hk
structure PubAt (w w2:World) (F:Nat→Prop) (bb:Nat) (last:Int) (sv:Value) (tv rv posv:Value) (pos:List Nat) (st:List Su×List Int×List Int) (mv fv:Value) (wr:World):Prop where
 ex:∃l,BrAt wr bb last sv tv rv l∧l.map Sx.su=st.1∧∀k,vi3 bb sv tv rv l k→F k∨(w.heap.size≤k∧∃x∈l,x.hv.ownBlock=some k)
 grow:Grow F w wr
 hF:∀k,F k→k<w.heap.size
 zw:w.heap.size≤w2.heap.size
 z:w2.heap.size≤wr.heap.size
 pos:IsAt wr w.heap.size posv pos
 posb:∀k,posv.ownBlock=some k→k<w2.heap.size
 met:ZsAt wr w2.heap.size mv st.2.1
 full:ZsAt wr w2.heap.size fv st.2.2
 ne:∀k,mv.ownBlock=some k→fv.ownBlock≠some k
theorem PubAt.below {w w2:World} {F:Nat→Prop} {bb:Nat} {last:Int} {sv:Value} {tv rv posv:Value} {pos:List Nat} {st:List Su×List Int×List Int} {mv fv:Value} {wr wr':World} (h:PubAt w w2 F bb last sv tv rv posv pos st mv fv wr) (hb:Below wr.heap.size wr wr'):PubAt w w2 F bb last sv tv rv posv pos st mv fv wr':=by
 obtain ⟨l,h1,h2,h3⟩:=h.ex
 exact ⟨⟨l,h1.below hb,h2,h3⟩,h.grow.trans' (Grow.of_below hb),h.hF,h.zw,Nat.le_trans h.z hb.size,j3 h.pos fun k hk=>hb.block k (h.pos.lt k hk).2,h.posb,j3 h.met fun k hk=>hb.block k (h.met.lt k hk).2,j3 h.full fun k hk=>hb.block k (h.full.lt k hk).2,h.ne⟩
theorem PubAt.not_foot {w w2:World} {F:Nat→Prop} {bb:Nat} {last:Int} {sv:Value} {tv rv:Value} {wr:World} (hF:∀k,F k→k<w.heap.size) (zw:w.heap.size≤w2.heap.size) {l:List Sx} (h1:BrAt wr bb last sv tv rv l) (h3:∀k,vi3 bb sv tv rv l k→F k∨(w.heap.size≤k∧∃x∈l,x.hv.ownBlock=some k)) {v:Value} {z:List Int} (hv:ZsAt wr w2.heap.size v z) {k:Nat} (hk:v.ownBlock=some k):¬vi3 bb sv tv rv l k:=by
 intro hf
 have hlt:=(hv.lt k hk).1
 rcases h3 k hf with e|⟨_,x,hx,e⟩
 ·have:=hF k e;omega
 ·exact qw9 hv (h1.hps x hx) (by decide) hk e
theorem PubAt.more_met {w w2:World} {F:Nat→Prop} {bb:Nat} {last:Int} {sv:Value} {tv rv posv:Value} {pos:List Nat} {st:List Su×List Int×List Int} {mv fv mv':Value} {wr wr':World} (h:PubAt w w2 F bb last sv tv rv posv pos st mv fv wr) {z:List Int}
  (hz:ZsAt wr' w2.heap.size mv' z) (hg:wr.grownBy wr' mv.ownBlock) (hn:∀k,mv'.ownBlock=some k→mv.ownBlock=some k∨wr.heap.size≤k):PubAt w w2 F bb last sv tv rv posv pos (st.1,z,st.2.2) mv' fv wr':=by
 obtain ⟨l,h1,h2,h3⟩:=h.ex
 have nf:∀k,mv.ownBlock=some k→¬vi3 bb sv tv rv l k:=fun k hk=>PubAt.not_foot h.hF h.zw h1 h3 h.met hk
 refine ⟨⟨l,h1.grown hg nf,h2,h3⟩, ?_,h.hF,h.zw,Nat.le_trans h.z hg.size,j3 h.pos fun k hk=>hg.block k (h.pos.lt k hk).2 ?_,h.posb,hz,j3 h.full fun k hk=>hg.block k (h.full.lt k hk).2 (fun e=>h.ne k e.symm hk),fun k hk e=>?_⟩
 ·have:=h.zw
  have:=h.grow.size
  exact ⟨hg.os.trans h.grow.os,hg.tape.trans h.grow.tape,hg.output.trans h.grow.output,Nat.le_trans h.grow.size hg.size,fun k h4 h5=>(hg.block k (by omega) (fun e=>by have:=(h.met.lt k e.symm).1;omega)).trans (h.grow.block k h4 h5)⟩
 ·intro e
  have:=(h.met.lt k e.symm).1
  have:=h.posb k hk
  omega
 ·rcases hn k hk with e'|e'
  ·exact h.ne k e' e
  ·have:=(h.full.lt k e).2;omega
theorem PubAt.more_full {w w2:World} {F:Nat→Prop} {bb:Nat} {last:Int} {sv:Value} {tv rv posv:Value} {pos:List Nat} {st:List Su×List Int×List Int} {mv fv fv':Value} {wr wr':World} (h:PubAt w w2 F bb last sv tv rv posv pos st mv fv wr) {z:List Int}
  (hz:ZsAt wr' w2.heap.size fv' z) (hg:wr.grownBy wr' fv.ownBlock) (hn:∀k,fv'.ownBlock=some k→fv.ownBlock=some k∨wr.heap.size≤k):PubAt w w2 F bb last sv tv rv posv pos (st.1,st.2.1,z) mv fv' wr':=by
 obtain ⟨l,h1,h2,h3⟩:=h.ex
 have nf:∀k,fv.ownBlock=some k→¬vi3 bb sv tv rv l k:=fun k hk=>PubAt.not_foot h.hF h.zw h1 h3 h.full hk
 refine ⟨⟨l,h1.grown hg nf,h2,h3⟩, ?_,h.hF,h.zw,Nat.le_trans h.z hg.size,j3 h.pos fun k hk=>hg.block k (h.pos.lt k hk).2 ?_,h.posb,j3 h.met fun k hk=>hg.block k (h.met.lt k hk).2 (fun e=>h.ne k hk e.symm),hz,fun k hk e=>?_⟩
 ·have:=h.zw
  have:=h.grow.size
  exact ⟨hg.os.trans h.grow.os,hg.tape.trans h.grow.tape,hg.output.trans h.grow.output,Nat.le_trans h.grow.size hg.size,fun k h4 h5=>(hg.block k (by omega) (fun e=>by have:=(h.full.lt k e.symm).1;omega)).trans (h.grow.block k h4 h5)⟩
 ·intro e
  have:=(h.full.lt k e.symm).1
  have:=h.posb k hk
  omega
 ·rcases hn k e with e'|e'
  ·exact h.ne k hk e'
  ·have:=(h.met.lt k hk).2;omega
theorem PubAt.form {w w2:World} {F:Nat→Prop} {bb:Nat} {last:Int} {sv tv rv posv:Value} {pos:List Nat} {st:List Su×List Int×List Int} {mv fv:Value} {wr:World} (h:PubAt w w2 F bb last sv tv rv posv pos st mv fv wr) {p:Nat} {x:Su} (hx:st.1[p]?=some x):∃g n c,sv=.slice (some ⟨g,0,none⟩) n c:=by
 obtain ⟨l,h1,h2,h3⟩:=h.ex
 obtain ⟨y,hy,hyx⟩:=getX h2 hx
 rcases qc8 h1.row with ⟨_,h0⟩|⟨g,c,hv⟩
 ·have:=(List.getElem?_eq_some_iff.1 hy).1
  simp at h0
  subst h0
  simp at this
 ·exact ⟨g,_,c,hv⟩
theorem PubAt.facts {w w2:World} {F:Nat→Prop} {bb:Nat} {last:Int} {g n c:Nat} {tv rv posv:Value} {pos:List Nat} {st:List Su×List Int×List Int} {mv fv:Value} {wr:World} (h:PubAt w w2 F bb last (.slice (some ⟨g,0,none⟩) n c) tv rv posv pos st mv fv wr) {p:Nat} {x:Su} (hx:st.1[p]?=some x) :
  wr.cell? ⟨bb,1,none⟩=some (.slice (some ⟨g,0,none⟩) n c)∧wr.cell? ⟨bb,0,none⟩=some (.int .i64 last)∧wr.cell? ⟨g,p * 3,none⟩=some (.int .i64 x.id)∧p<n∧x.ms.length≤6∧∃hv,HqAt wr g (p * 3+2) hv 0 x.ms:=by
 obtain ⟨l,h1,h2,h3⟩:=h.ex
 obtain ⟨y,hy,hyx⟩:=getX h2 hx
 obtain ⟨a,c',hv,hs⟩:=SbRow.subs h1.row
 obtain ⟨g',ha,hlt,e0,_,_⟩:=hs p y.sb (by rw [List.getElem?_map,hy];rfl)
 have hg:g=g':=by
  rw [ha] at hv
  simp at hv
  exact hv.1
 have hn:n=l.length:=by
  simp at hv
  exact hv.2.1
 subst hg
 have hid:y.sb.id=x.id:=by rw [←hyx];rfl
 have hms:y.ms=x.ms:=by rw [←hyx];rfl
 rw [hid] at e0
 refine ⟨h1.cells.2.1,h1.cells.1,e0, ?_, ?_,y.hv, ?_⟩
 ·rw [hn];exact (List.getElem?_eq_some_iff.1 hy).1
 ·rw [←hms];exact h1.m6 y (List.mem_of_getElem? hy)
 ·rw [←hms];exact h1.heap hy
theorem PubAt.pushed {w w2:World} {F:Nat→Prop} {bb:Nat} {last:Int} {g n c:Nat} {tv rv posv:Value} {pos:List Nat} {st:List Su×List Int×List Int} {mv fv:Value} {wr:World} (h:PubAt w w2 F bb last (.slice (some ⟨g,0,none⟩) n c) tv rv posv pos st mv fv wr) {p:Nat} {x:Su} (hx:st.1[p]?=some x) {hv hv':Value} {wr':World} {ms':List Mg} (hq0:HqAt wr g (p * 3+2) hv 0 x.ms) (hq:HqAt wr' g (p * 3+2) hv' 0 ms') (hk:PqKept g (p * 3+2) hv hv' wr wr') (h6:ms'.length≤6) :
  PubAt w w2 F bb last (.slice (some ⟨g,0,none⟩) n c) tv rv posv pos (st.1.set p { x with ms:=ms' },st.2.1,st.2.2) mv fv wr':=by
 obtain ⟨l,h1,h2,h3⟩:=h.ex
 obtain ⟨y,hy,hyx⟩:=getX h2 hx
 have hym:=List.mem_of_getElem? hy
 have ehv:hv=y.hv:=by
  have a1:=hq0.c
  have a2:=(h1.heap hy).c
  rw [a1] at a2
  simpa using a2
 subst ehv
 obtain ⟨x',a1,a2,a3,a4,a5,a6,hB2⟩:=h1.turned hy hq hk h6
 have keepZ:∀{b:Nat} {v:Value} {m:Nat} {xs:List Value},wr.ownsRow b 3 1 v m xs→∀k,v.ownBlock=some k→wr'.heap[k]?=wr.heap[k]?:=fun ho k hk'=>hk.block k (ho.lt k hk').2 (fun e=>by subst e;exact qw9 ho h1.row (by decide) hk' rfl) (fun e=>qw9 ho (h1.hps y hym) (by decide) hk' e)
 have hgF:F g:=by
  rcases h3 g (.inl (.inr (.inl rfl))) with e|⟨_,z,hz,e⟩
  ·exact e
  ·exact absurd rfl (qw9 (h1.hps z hz) h1.row (by decide) e)
 have hzr:=h.grow.size
 refine ⟨⟨l.set p x',hB2, ?_,fun k hf=>?_⟩, ?_,h.hF,h.zw,Nat.le_trans h.z hk.size,j3 h.pos (keepZ h.pos),h.posb,j3 h.met (keepZ h.met),j3 h.full (keepZ h.full),h.ne⟩
 ·show (l.set p x').map Sx.su=st.1.set p { x with ms:=ms' }
  rw [List.map_set,h2]
  congr 1
  rw [←hyx]
  simp [Sx.su,a2,a3,a4]
 ·have two:∀k,vi3 bb (.slice (some ⟨g,0,none⟩) n c) tv rv l k→(∀z∈l,z.hv.ownBlock≠some k)→F k:=fun k hf' hno=>by
   rcases h3 k hf' with e|⟨_,z,hz,e⟩
   ·exact e
   ·exact absurd e (hno z hz)
  have core:∀z∈l,z.lo≤k→k<z.hi→F k:=fun z hz e1 e2=>two k (.inr ⟨z,hz,e1,e2⟩) fun z' hz' e'=>by
   have:=h1.out z hz k (.inr (.inr (.inr (.inr ⟨z',hz',e'⟩))))
   omega
  rcases hf with (e|e|e|e|⟨z,hz,e⟩)|⟨z,hz,e⟩
  ·exact .inl (two k (.inl (.inl e)) fun z hz e'=>by rw [e] at e';exact qn9 (h1.hps z hz) h1.blk (by decide) e')
  ·exact .inl (two k (.inl (.inr (.inl e))) fun z hz e'=>qw9 (h1.hps z hz) h1.row (by decide) e' e)
  ·exact .inl (two k (.inl (.inr (.inr (.inl e)))) fun z hz e'=>qw9 (h1.hps z hz) h1.rows.ats (by decide) e' e)
  ·exact .inl (two k (.inl (.inr (.inr (.inr (.inl e))))) fun z hz e'=>qw9 (h1.hps z hz) h1.rows.ars (by decide) e' e)
  ·by_cases hkw:w.heap.size≤k
   ·exact .inr ⟨hkw,z,hz,e⟩
   ·left
    have old:∀z∈l,z.hv.ownBlock=some k→F k:=fun z hz e=>by
     rcases h3 k (.inl (.inr (.inr (.inr (.inr ⟨z,hz,e⟩))))) with e'|⟨e',_⟩
     ·exact e'
     ·omega
    rcases List.mem_or_eq_of_mem_set hz with hz|rfl
    ·exact old z hz e
    ·rw [a1] at e
     rcases hk.row k e with e'|e'
     ·exact old y hym e'
     ·omega
  ·left
   rcases List.mem_or_eq_of_mem_set hz with hz|rfl
   ·exact core z hz e.1 e.2
   ·rw [a5,a6] at e
    exact core y hym e.1 e.2
 ·refine ⟨hk.os.trans h.grow.os,hk.tape.trans h.grow.tape,hk.output.trans h.grow.output,Nat.le_trans hzr hk.size,fun k h4 h5=>?_⟩
  rw [hk.block k (by omega) (fun e=>h5 (by rw [e];exact hgF)) (fun e=>?_)]
  ·exact h.grow.block k h4 h5
  ·rcases h3 k (.inl (.inr (.inr (.inr (.inr ⟨y,hym,e⟩))))) with e'|⟨e',_⟩
   ·exact h5 e'
   ·omega
end
end Go.Proofs.YtfkcaldjphakpabGreatDoor
