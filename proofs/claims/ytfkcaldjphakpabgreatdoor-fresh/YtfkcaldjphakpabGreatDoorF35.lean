/- The cores of what is read may be put into a program. not, operator by operator. number, join. Served: the messages that wait, by themselves; pick. small, is of any text and list, reads. A list of properties as an argument of a law. What the library's tables and variables are at a row's own world. -/
import Derived.Test.YtfkcaldjphakpabGreatDoorF17
import Derived.Test.YtfkcaldjphakpabGreatDoorF20
import Derived.Test.YtfkcaldjphakpabGreatDoorF19
import Derived.Test.YtfkcaldjphakpabGreatDoorF25
import Derived.WalkKit
import Derived.ProofKit
import Derived.Deep.Slices
import Derived.Deep.Strs
import Derived.SizedLaws
import Derived.WideKeyArgs
import Derived.Laws.Rows
import Derived.Test.YtfkcaldjphakpabGreatDoorF22
import Derived.Test.YtfkcaldjphakpabGreatDoorRows
import Derived.Lib.LaidTab
import Derived.Lib.LaidU8
import Derived.Shelf.Vars
set_option maxHeartbeats 1000000
set_option maxRecDepth 100000
namespace Go.Proofs.YtfkcaldjphakpabGreatDoor
open Go.RowKit
section
def FldP (p:CP):Prop:=(0≤p.op∧p.op≤23)∧Rng p.num∧p.str.length≤200∧p.esc.length≤1
def vg8:Co→Prop
 | .leaf p=>FldP p
 | .un p x=>FldP p∧vg8 x
 | .bin p x y=>FldP p∧vg8 x∧vg8 y
theorem qr5 {op:Int} (h:0≤op∧op≤23):FldP (qb1 op):=⟨h,rng0,Nat.zero_le _,Nat.zero_le _⟩
theorem qf6 {op:Int} (ho:0≤op∧op≤23) {x y:Co} (hx:vg8 x) (hy:vg8 y):vg8 (z8 op x y):=by
 unfold z8
 split
 ·exact ⟨qr5 ho,hy,hx⟩
 ·exact ⟨qr5 ho,hx,hy⟩
theorem fld_not:∀{c:Co},vg8 c→vg8 (qh4 c):=by
 intro c
 induction c with
 | leaf p=>
  intro h
  unfold qh4
  split
  ·exact qr5 (by decide)
  ·split
   ·exact qr5 (by decide)
   ·exact ⟨qr5 (by decide),h⟩
 | un p x ih=>
  intro h
  unfold qh4
  split
  ·exact h.2
  ·exact ⟨qr5 (by decide),h⟩
 | bin p x y ihx ihy=>
  intro h
  unfold qh4
  split
  ·exact qf6 (by decide) (ihx h.2.1) (ihy h.2.2)
  ·split
   ·exact qf6 (by decide) (ihx h.2.1) (ihy h.2.2)
   ·split
    ·exact qf6 (by decide) h.2.2 h.2.1
    ·split
     ·exact qf6 (by decide) h.2.2 h.2.1
     ·exact ⟨qr5 (by decide),h⟩
theorem jr3 {t:List UInt8} (h:t.length≤200):vg8 (qq6 t):=⟨(by show (0:Int)≤2∧(2:Int)≤23;decide),rng0,h,Nat.zero_le _⟩
theorem fld_num {n:Int} (h:Rng n):vg8 (vq4 n):=⟨(by show (0:Int)≤1∧(1:Int)≤23;decide),h,Nat.zero_le _,Nat.zero_le _⟩
theorem fld_orAll {x:Co} (hx:vg8 x):∀(r:List (List UInt8)) (f:Co),vg8 f→(∀t∈r,t.length≤200)→vg8 (qx3 x f r):=by
 intro r
 induction r with
 | nil=>intro f hf _;exact hf
 | cons t r ih=>
  intro f hf h
  exact ih _ (qf6 (by decide) hf (qf6 (by decide) hx (jr3 (h t List.mem_cons_self)))) fun u hu=>h u (List.mem_cons_of_mem _ hu)
theorem fld_among {x:Co} (hx:vg8 x) {ts:List (List UInt8)} (h:∀t∈ts,t.length≤200):vg8 (qs6 x ts):=by
 have hm:∀u∈qs1 ts,u.length≤200:=fun u hu=>h u (vn6 hu)
 unfold qs6
 cases hs:qs1 ts with
 | nil=>exact hx
 | cons t r=>
  rw [hs] at hm
  exact fld_orAll hx r _ (qf6 (by decide) hx (jr3 (hm t List.mem_cons_self))) fun u hu=>hm u (List.mem_cons_of_mem _ hu)
theorem fld_core:∀t,ShA t→vh1 t→vg7 t→BqA t→vg8 (j7 t):=by
 intro t
 induction t with
 | leaf p=>intro h0 h1 h2 h3;exact ⟨⟨h0.1,by have:=h0.2;show p.op≤23;omega⟩,h1,h2.1,h3.1⟩
 | un p x ih=>
  intro h0 h1 h2 h3
  have hx:=ih h0.2.2.2 h1.2 h2.2 h3.2
  rw [j7]
  split
  ·exact qf6 (by decide) (fld_num rng0) hx
  ·split
   ·exact qf6 (by decide) (fld_num rng0) hx
   ·split
    ·exact fld_not hx
    ·split
     ·exact fld_among hx h3.1.2
     ·exact ⟨⟨by have:=h0.1;show 0≤p.op∧p.op≤23;omega,h1.1,h2.1.1,h3.1.1⟩,hx⟩
 | bin p x y ihx ihy=>
  intro h0 h1 h2 h3
  have hx:=ihx h0.2.1 h1.2.1 h2.2.1 h3.2.1
  have hy:=ihy h0.2.2 h1.2.2 h2.2.2 h3.2.2
  rw [j7]
  split
  ·exact qf6 (by decide) hy hx
  ·split
   ·exact qf6 (by decide) hy hx
   ·split
    ·exact fld_not (qf6 (by decide) hx hy)
    ·exact qf6 (by have:=h0.1;omega) hx hy
 | tri p x y z ihx ihy ihz=>
  intro h0 h1 h2 h3
  have hx:=ihx h0.2.1 h1.2.1 h2.2.1 h3.2.1
  have hy:=ihy h0.2.2.1 h1.2.2.1 h2.2.2.1 h3.2.2.1
  have hz:=ihz h0.2.2.2 h1.2.2.2 h2.2.2.2 h3.2.2.2
  exact qf6 (by decide) (qf6 (by decide) hy hx) (qf6 (by decide) hx hz)
theorem jr4:∀{c:Co},vg8 c→vg9 c:=by
 have hp:∀{p:CP},FldP p→GoodP p:=fun h=>⟨h.1,h.2.1,by have:=h.2.2.1;omega,by have:=h.2.2.2;omega⟩
 intro c
 induction c with
 | leaf p=>exact fun h=>hp h
 | un p x ih=>exact fun h=>⟨hp h.1,ih h.2⟩
 | bin p x y ihx ihy=>exact fun h=>⟨hp h.1,ihx h.2.1,ihy h.2.2⟩
theorem zb4:∀{c:Co},WfC c→qt8 c≤2 * (z9 c).length+1:=by
 intro c
 induction c with
 | leaf p=>intro _;show 1≤_;omega
 | un p x ih=>
  intro h
  have hx:=ih h.2
  have hl:(z9 x).length+1≤(z9 (.un p x)).length:=by
   show _≤(y7 p (z9 x) []).length
   have hu:=h.1
   unfold unB at hu
   simp only [Bool.or_eq_true,beq_iff_eq] at hu
   unfold y7
   rcases hu with (hu|hu)|hu<;>rw [hu]<;>simp<;>omega
  show qt8 x+1≤_
  omega
 | bin p x y ihx ihy=>
  intro h
  have hx:=ihx h.2.1
  have hy:=ihy h.2.2
  have hl:=qw1 h.1 x y
  show qt8 x+qt8 y+1≤_
  omega
structure CoreOk (c:Co):Prop where
 fld:vg8 c
 wf:WfC c
 size:qt8 c≤250000000
theorem core_ok {s:ByteArray} {t:Ast} (h:qj8 s=.ok t):CoreOk (j7 t):=by
 obtain ⟨h1,h2,h3,h4,h5,h6⟩:=ve8 h
 refine ⟨fld_core t h3 h4 h5 h6,h1.gd.wf, ?_⟩
 have h7:=zb4 h1.gd.wf
 have h8:=h1.gd.len
 have h9:ndA t * ndA t≤200 * 200:=Nat.mul_le_mul h2 h2
 omega
def FitsL (ts:List Tm):Prop:=∀i t,ts[i]?=some t→FitsT i t
theorem vw0 {ts:List Tm} (h:FitsL ts) {t:Tm} (ht:FitsT ts.length t):FitsL (vb5 ts t).1:=by
 unfold vb5
 cases hw:qi3 ts t with
 | some i=>exact h
 | none=>
  intro i x hi
  by_cases hl:i<ts.length
  ·rw [List.getElem?_append_left hl] at hi
   exact h i x hi
  ·have e:i=ts.length:=by
    have:=(List.getElem?_eq_some_iff.1 hi).1
    simp at this
    omega
   subst e
   simp at hi
   subst hi
   exact ht
theorem ji1 {p:CP} (h:FldP p) {n l r:Nat} (hs:5≤p.op→l<n∧r<n):FitsT n (qz9 p l r):=by
 obtain ⟨⟨o1,o2⟩,h1,h2,h3⟩:=h
 refine ⟨by show p.op.toNat≤23;omega,h1,h2,h3,fun h5=>hs ?_⟩
 have h5':5≤p.op.toNat:=h5
 omega
theorem jw4:∀(c:Co) (ts:List Tm),vg8 c→WfC c→FitsL ts→FitsL (j8 ts c).1:=by
 intro c
 induction c with
 | leaf p=>
  intro ts hf hw h
  refine vw0 h (ji1 hf fun h5=>?_)
  have hl:qi5 p.op=true:=hw
  unfold qi5 at hl
  simp only [Bool.or_eq_true,beq_iff_eq] at hl
  omega
 | un p x ih=>
  intro ts hf hw h
  have h1:=ih ts hf.2 hw.2 h
  have hlt:=(qm5 ts x).2.2
  exact vw0 h1 (ji1 hf.1 fun _=>⟨hlt,by omega⟩)
 | bin p x y ihx ihy=>
  intro ts hf hw h
  have h1:=ihx ts hf.2.1 hw.2.1 h
  have h2:=ihy (j8 ts x).1 hf.2.2 hw.2.2 h1
  have l1:=qm5 ts x
  have l2:=qm5 (j8 ts x).1 y
  exact vw0 h2 (ji1 hf.1 fun _=>⟨by omega,l2.2.2⟩)
end
section
theorem not_leaf3 (p:CP) (ho:p.op=3):vb6 (.leaf p):=by
 intro B w v hB hL h
 have hv:qh4 (.leaf p)=.leaf (qb1 4):=by unfold qh4;rw [ho];rfl
 rw [hv]
 clear hv
 have S:=v7 (qp0 (qb1 4) rfl (show Rng 0 from ⟨by decide,by decide⟩) (Nat.zero_le _) (Nat.zero_le _) hB hL)
 replace S:Hid (Calls Tryz.prog 94 #[.agg #[.int .i64 4,.pointer none,.pointer none,.int .i64 0,.string ⟨#[]⟩,.string ⟨#[]⟩,.string ⟨#[]⟩]] w fun e w'=>∃b,e=.returned (.pointer (some ⟨b,0,none⟩))∧CoAt B w'.heap.size w' (.pointer (some ⟨b,0,none⟩)) (.leaf (qb1 4))∧Below w.heap.size w w'):=S
 obtain ⟨b,rfl,hc⟩:=h
 have c0:=hc.c0
 unfold at0
 have e3:(p.op==3)=true:=by rw [ho];rfl
 clear hc hL hB ho
 go_enter Tryz.func92,Tryz.ntmps92
 go_wp2_with (go_at_call 94;refine (q9 S).mono ?_;rintro e w1 ⟨b1,rfl,hc1,hb1⟩)
 go_ret
 exact ⟨b1,rfl,hc1,hb1⟩
theorem not_leaf4 (p:CP) (ho:p.op=4):vb6 (.leaf p):=by
 intro B w v hB hL h
 have hv:qh4 (.leaf p)=.leaf (qb1 3):=by unfold qh4;rw [ho];rfl
 rw [hv]
 clear hv
 have S:=v7 (qp0 (qb1 3) rfl (show Rng 0 from ⟨by decide,by decide⟩) (Nat.zero_le _) (Nat.zero_le _) hB hL)
 replace S:Hid (Calls Tryz.prog 94 #[.agg #[.int .i64 3,.pointer none,.pointer none,.int .i64 0,.string ⟨#[]⟩,.string ⟨#[]⟩,.string ⟨#[]⟩]] w fun e w'=>∃b,e=.returned (.pointer (some ⟨b,0,none⟩))∧CoAt B w'.heap.size w' (.pointer (some ⟨b,0,none⟩)) (.leaf (qb1 3))∧Below w.heap.size w w'):=S
 obtain ⟨b,rfl,hc⟩:=h
 have c0:=hc.c0
 unfold at0
 have e3:(p.op==3)=false:=by rw [ho];rfl
 have e4:(p.op==4)=true:=by rw [ho];rfl
 clear hc hL hB ho
 go_enter Tryz.func92,Tryz.ntmps92
 go_wp2_with (go_at_call 94;refine (q9 S).mono ?_;rintro e w1 ⟨b1,rfl,hc1,hb1⟩)
 go_ret
 exact ⟨b1,rfl,hc1,hb1⟩
theorem vw7 (c:Co) (p:CP) (hz:(z9 c).length≤1000000000) (hv:qh4 c=.un (qb1 5) c)
  (hop:∀B E w v,CoAt B E w v c→∃b l r,v=at0 b∧CellsC B E w b p l r (z9 c)) (h3:¬p.op=3) (h4:¬p.op=4) (h6:¬p.op=6) (h7:¬p.op=7) (h10:¬p.op=10) (h11:¬p.op=11) (h5:¬p.op=5):vb6 c:=by
 intro B w v hB hL h
 rw [hv]
 obtain ⟨b,l,r,rfl,hc⟩:=hop _ _ _ _ h
 have S:Hid (Calls Tryz.prog 94 #[.agg #[.int .i64 5,.pointer (some ⟨b,0,none⟩),.pointer none,.int .i64 0,.string ⟨#[]⟩,.string ⟨#[]⟩,.string ⟨#[]⟩]] w fun e w'=>∃b,e=.returned (.pointer (some ⟨b,0,none⟩))∧CoAt B w'.heap.size w' (.pointer (some ⟨b,0,none⟩)) (.un (qb1 5) c)∧Below w.heap.size w w'):=
  v7 (vb2 (qb1 5) rfl (show Rng 0 from ⟨by decide,by decide⟩) (Nat.zero_le _) (Nat.zero_le _) hB hL h hz)
 have c0:=hc.c0
 unfold at0
 have e3:(p.op==3)=false:=beq_eq_false_iff_ne.2 h3
 have e4:(p.op==4)=false:=beq_eq_false_iff_ne.2 h4
 have e6:(p.op==6)=false:=beq_eq_false_iff_ne.2 h6
 have e7:(p.op==7)=false:=beq_eq_false_iff_ne.2 h7
 have e10:(p.op==10)=false:=beq_eq_false_iff_ne.2 h10
 have e11:(p.op==11)=false:=beq_eq_false_iff_ne.2 h11
 have e5:(p.op==5)=false:=beq_eq_false_iff_ne.2 h5
 clear hc hL hB h hop hv hz h3 h4 h6 h7 h10 h11 h5
 go_enter Tryz.func92,Tryz.ntmps92
 go_wp2_with (go_at_call 94;refine (q9 S).mono ?_;rintro e w1 ⟨b1,rfl,hc1,hb1⟩)
 go_ret
 exact ⟨b1,rfl,hc1,hb1⟩
theorem not_un5 (p:CP) (x:Co) (ho:p.op=5) (hx0:¬opC x=0):vb6 (.un p x):=by
 intro B w v hB hL h
 have hv:qh4 (.un p x)=x:=by unfold qh4;rw [ho,if_pos];rw [Bool.and_eq_true];exact ⟨rfl,by simpa using hx0⟩
 rw [hv]
 obtain ⟨b,vx,rfl,hc,hx⟩:=h
 obtain ⟨bx,px,lx,rx,rfl,hop,hcx⟩:=hx.head
 have c0:=hc.c0
 have c1:=hc.c1
 have x0:=hcx.c0
 rw [hop] at x0
 have ex:(opC x != 0)=true:=by simpa using hx0
 unfold at0 at c1 hx ⊢
 have HX:=v7 hx
 have e3:(p.op==3)=false:=by rw [ho];rfl
 have e4:(p.op==4)=false:=by rw [ho];rfl
 have e6:(p.op==6)=false:=by rw [ho];rfl
 have e7:(p.op==7)=false:=by rw [ho];rfl
 have e10:(p.op==10)=false:=by rw [ho];rfl
 have e11:(p.op==11)=false:=by rw [ho];rfl
 have e5:(p.op==5)=true:=by rw [ho];rfl
 clear hc hL hB ho hx0 hv hx hop hcx
 go_enter Tryz.func92,Tryz.ntmps92
 go_wp2_with fail
 go_ret
 exact ⟨bx,rfl,q9 HX,Below.refl _ _⟩
theorem not_un50 (p:CP) (x:Co) (ho:p.op=5) (hx0:opC x=0) (hz:(z9 (.un p x)).length≤1000000000):vb6 (.un p x):=by
 intro B w v hB hL h
 have hv:qh4 (.un p x)=.un (qb1 5) (.un p x):=by unfold qh4;rw [hx0,if_neg];rw [Bool.and_eq_true];rintro ⟨_,h⟩;cases h
 rw [hv]
 have H:=h
 obtain ⟨b,vx,rfl,hc,hx⟩:=h
 have S:Hid (Calls Tryz.prog 94 #[.agg #[.int .i64 5,.pointer (some ⟨b,0,none⟩),.pointer none,.int .i64 0,.string ⟨#[]⟩,.string ⟨#[]⟩,.string ⟨#[]⟩]] w fun e w'=>∃b,e=.returned (.pointer (some ⟨b,0,none⟩))∧CoAt B w'.heap.size w' (.pointer (some ⟨b,0,none⟩)) (.un (qb1 5) (.un p x))∧Below w.heap.size w w'):=
  v7 (vb2 (qb1 5) rfl (show Rng 0 from ⟨by decide,by decide⟩) (Nat.zero_le _) (Nat.zero_le _) hB hL H hz)
 obtain ⟨bx,px,lx,rx,rfl,hop,hcx⟩:=hx.head
 have c0:=hc.c0
 have c1:=hc.c1
 have x0:=hcx.c0
 rw [hop,hx0] at x0
 unfold at0 at c1 ⊢
 have e3:(p.op==3)=false:=by rw [ho];rfl
 have e4:(p.op==4)=false:=by rw [ho];rfl
 have e6:(p.op==6)=false:=by rw [ho];rfl
 have e7:(p.op==7)=false:=by rw [ho];rfl
 have e10:(p.op==10)=false:=by rw [ho];rfl
 have e11:(p.op==11)=false:=by rw [ho];rfl
 have e5:(p.op==5)=true:=by rw [ho];rfl
 clear hc hL hB ho hx0 hv hx hop hcx H hz
 go_enter Tryz.func92,Tryz.ntmps92
 go_wp2_with (go_at_call 94;refine (q9 S).mono ?_;rintro e w1 ⟨b1,rfl,hc1,hb1⟩)
 go_ret
 exact ⟨b1,rfl,hc1,hb1⟩
theorem not_bin6 (p:CP) (x y:Co) (ho:p.op=6) (hx:vb6 x) (hy:vb6 y) (zx:(z9 (qh4 x)).length≤1000000000) (zy:(z9 (qh4 y)).length≤1000000000):vb6 (.bin p x y):=by
 intro B w v hB hL h
 have hv:qh4 (.bin p x y)=z8 7 (qh4 x) (qh4 y):=by rw [qh4,ho];rfl
 rw [hv]
 obtain ⟨b,vx,vy,rfl,hc,cx,cy⟩:=h
 obtain ⟨bx,rfl⟩:=cx.ptr
 obtain ⟨by',rfl⟩:=cy.ptr
 have c0:=hc.c0
 have c1:=hc.c1
 have c2:=hc.c2
 have hbw:=hc.within
 have NX:Hid (∀w1,Below w.heap.size w w1→Calls Tryz.prog 92 #[.pointer (some ⟨bx,0,none⟩)] w1 fun e w'=>∃b,e=.returned (.pointer (some ⟨b,0,none⟩))∧CoAt B w'.heap.size w' (.pointer (some ⟨b,0,none⟩)) (qh4 x)∧Below w1.heap.size w1 w'):=
  v7 (fun w1 hb=>hx B w1 _ (Nat.le_trans hB hb.size) (hL.below hb (Nat.le_refl _)) (cx.below hb))
 have NY:Hid (∀w1,Below w.heap.size w w1→Calls Tryz.prog 92 #[.pointer (some ⟨by',0,none⟩)] w1 fun e w'=>∃b,e=.returned (.pointer (some ⟨b,0,none⟩))∧CoAt B w'.heap.size w' (.pointer (some ⟨b,0,none⟩)) (qh4 y)∧Below w1.heap.size w1 w'):=
  v7 (fun w1 hb=>hy B w1 _ (Nat.le_trans hB hb.size) (hL.below hb (Nat.le_refl _)) (cy.below hb))
 have PR:Hid (∀w1 v1 v2,Below w.heap.size w w1→CoAt B w1.heap.size w1 v1 (qh4 x)→CoAt B w1.heap.size w1 v2 (qh4 y)→Calls Tryz.prog 90 #[.int .i64 7,v1,v2] w1 fun e w'=>∃b,e=.returned (.pointer (some ⟨b,0,none⟩))∧CoAt B w'.heap.size w' (.pointer (some ⟨b,0,none⟩)) (z8 7 (qh4 x) (qh4 y))∧Below w1.heap.size w1 w'):=
  v7 (fun w1 v1 v2 hb h1 h2=>qg5 7 (Nat.le_trans hB hb.size) (hL.below hb (Nat.le_refl _)) h1 h2 zx zy)
 have HB:Hid (Below w.heap.size w w.drew):=v7 (Below.refl _ _).drew
 unfold at0 at c1 c2 ⊢
 have e3:(p.op==3)=false:=by rw [ho];rfl
 have e4:(p.op==4)=false:=by rw [ho];rfl
 have e6:(p.op==6)=true:=by rw [ho];rfl
 clear hc hL hB ho hv hx hy zx zy cx cy
 go_enter Tryz.func92,Tryz.ntmps92
 go_wp2_with fail
 go_region_held3 (fun W=>W.cell? ⟨b,1,none⟩=some (.pointer (some ⟨bx,0,none⟩))∧W.cell? ⟨b,2,none⟩=some (.pointer (some ⟨by',0,none⟩))) (go_keep) (first|(go_at_call_of 92 (Value.pointer (some { block:=bx,off:=0 }));refine (q9 NX _ (q9 HB)).mono ?_;rintro e w1 ⟨b1,rfl,k1,hb1⟩;have HB1:=v7 (v8 (q9 HB) hb1);have d1:=((q9 HB1).cell (p:=⟨b,1,none⟩) hbw).trans c1;have d2:=((q9 HB1).cell (p:=⟨b,2,none⟩) hbw).trans c2;have K1:=v7 k1;clear k1 hb1)|(go_at_call_of 92 (Value.pointer (some { block:=by',off:=0 }));refine (q9 NY _ (q9 HB1)).mono ?_;rintro e w2 ⟨b2,rfl,k2,hb2⟩;have HB2:=v7 (v8 (q9 HB1) hb2);have d3:=((q9 HB2).cell (p:=⟨b,1,none⟩) hbw).trans c1;have d4:=((q9 HB2).cell (p:=⟨b,2,none⟩) hbw).trans c2;have K1':=v7 ((q9 K1).below hb2);have K2:=v7 k2;clear k2 hb2)|(go_at_call 90;refine (q9 PR _ _ _ (q9 HB2) (q9 K1') (q9 K2)).mono ?_;rintro e w3 ⟨b3,rfl,k3,hb3⟩;have HB3:=v7 (v8 (q9 HB2) hb3);have d5:=((q9 HB3).cell (p:=⟨b,1,none⟩) hbw).trans c1;have d6:=((q9 HB3).cell (p:=⟨b,2,none⟩) hbw).trans c2;have K3:=v7 k3;clear k3 hb3))
 all_goals (go_wp2_with fail;go_ret;exact ⟨b3,rfl,q9 K3,q9 HB3⟩)
theorem not_bin7 (p:CP) (x y:Co) (ho:p.op=7) (hx:vb6 x) (hy:vb6 y) (zx:(z9 (qh4 x)).length≤1000000000) (zy:(z9 (qh4 y)).length≤1000000000):vb6 (.bin p x y):=by
 intro B w v hB hL h
 have hv:qh4 (.bin p x y)=z8 6 (qh4 x) (qh4 y):=by rw [qh4,ho];rfl
 rw [hv]
 obtain ⟨b,vx,vy,rfl,hc,cx,cy⟩:=h
 obtain ⟨bx,rfl⟩:=cx.ptr
 obtain ⟨by',rfl⟩:=cy.ptr
 have c0:=hc.c0
 have c1:=hc.c1
 have c2:=hc.c2
 have hbw:=hc.within
 have NX:Hid (∀w1,Below w.heap.size w w1→Calls Tryz.prog 92 #[.pointer (some ⟨bx,0,none⟩)] w1 fun e w'=>∃b,e=.returned (.pointer (some ⟨b,0,none⟩))∧CoAt B w'.heap.size w' (.pointer (some ⟨b,0,none⟩)) (qh4 x)∧Below w1.heap.size w1 w'):=
  v7 (fun w1 hb=>hx B w1 _ (Nat.le_trans hB hb.size) (hL.below hb (Nat.le_refl _)) (cx.below hb))
 have NY:Hid (∀w1,Below w.heap.size w w1→Calls Tryz.prog 92 #[.pointer (some ⟨by',0,none⟩)] w1 fun e w'=>∃b,e=.returned (.pointer (some ⟨b,0,none⟩))∧CoAt B w'.heap.size w' (.pointer (some ⟨b,0,none⟩)) (qh4 y)∧Below w1.heap.size w1 w'):=
  v7 (fun w1 hb=>hy B w1 _ (Nat.le_trans hB hb.size) (hL.below hb (Nat.le_refl _)) (cy.below hb))
 have PR:Hid (∀w1 v1 v2,Below w.heap.size w w1→CoAt B w1.heap.size w1 v1 (qh4 x)→CoAt B w1.heap.size w1 v2 (qh4 y)→Calls Tryz.prog 90 #[.int .i64 6,v1,v2] w1 fun e w'=>∃b,e=.returned (.pointer (some ⟨b,0,none⟩))∧CoAt B w'.heap.size w' (.pointer (some ⟨b,0,none⟩)) (z8 6 (qh4 x) (qh4 y))∧Below w1.heap.size w1 w'):=
  v7 (fun w1 v1 v2 hb h1 h2=>qg5 6 (Nat.le_trans hB hb.size) (hL.below hb (Nat.le_refl _)) h1 h2 zx zy)
 have HB:Hid (Below w.heap.size w w.drew):=v7 (Below.refl _ _).drew
 unfold at0 at c1 c2 ⊢
 have e3:(p.op==3)=false:=by rw [ho];rfl
 have e4:(p.op==4)=false:=by rw [ho];rfl
 have e6:(p.op==6)=false:=by rw [ho];rfl
 have e7:(p.op==7)=true:=by rw [ho];rfl
 clear hc hL hB ho hv hx hy zx zy cx cy
 go_enter Tryz.func92,Tryz.ntmps92
 go_wp2_with fail
 go_region_held3 (fun W=>W.cell? ⟨b,1,none⟩=some (.pointer (some ⟨bx,0,none⟩))∧W.cell? ⟨b,2,none⟩=some (.pointer (some ⟨by',0,none⟩))) (go_keep) (first|(go_at_call_of 92 (Value.pointer (some { block:=bx,off:=0 }));refine (q9 NX _ (q9 HB)).mono ?_;rintro e w1 ⟨b1,rfl,k1,hb1⟩;have HB1:=v7 (v8 (q9 HB) hb1);have d1:=((q9 HB1).cell (p:=⟨b,1,none⟩) hbw).trans c1;have d2:=((q9 HB1).cell (p:=⟨b,2,none⟩) hbw).trans c2;have K1:=v7 k1;clear k1 hb1)|(go_at_call_of 92 (Value.pointer (some { block:=by',off:=0 }));refine (q9 NY _ (q9 HB1)).mono ?_;rintro e w2 ⟨b2,rfl,k2,hb2⟩;have HB2:=v7 (v8 (q9 HB1) hb2);have d3:=((q9 HB2).cell (p:=⟨b,1,none⟩) hbw).trans c1;have d4:=((q9 HB2).cell (p:=⟨b,2,none⟩) hbw).trans c2;have K1':=v7 ((q9 K1).below hb2);have K2:=v7 k2;clear k2 hb2)|(go_at_call 90;refine (q9 PR _ _ _ (q9 HB2) (q9 K1') (q9 K2)).mono ?_;rintro e w3 ⟨b3,rfl,k3,hb3⟩;have HB3:=v7 (v8 (q9 HB2) hb3);have d5:=((q9 HB3).cell (p:=⟨b,1,none⟩) hbw).trans c1;have d6:=((q9 HB3).cell (p:=⟨b,2,none⟩) hbw).trans c2;have K3:=v7 k3;clear k3 hb3))
 all_goals (go_wp2_with fail;go_ret;exact ⟨b3,rfl,q9 K3,q9 HB3⟩)
theorem not_bin10 (p:CP) (x y:Co) (ho:p.op=10) (zx:(z9 x).length≤1000000000) (zy:(z9 y).length≤1000000000):vb6 (.bin p x y):=by
 intro B w v hB hL h
 have hv:qh4 (.bin p x y)=z8 11 y x:=by rw [qh4,ho];rfl
 rw [hv]
 obtain ⟨b,vx,vy,rfl,hc,cx,cy⟩:=h
 obtain ⟨bx,rfl⟩:=cx.ptr
 obtain ⟨by',rfl⟩:=cy.ptr
 have c0:=hc.c0
 have c1:=hc.c1
 have c2:=hc.c2
 have hbw:=hc.within
 have PR:Hid (∀w1,Below w.heap.size w w1→Calls Tryz.prog 90 #[.int .i64 11,.pointer (some ⟨by',0,none⟩),.pointer (some ⟨bx,0,none⟩)] w1 fun e w'=>∃b,e=.returned (.pointer (some ⟨b,0,none⟩))∧CoAt B w'.heap.size w' (.pointer (some ⟨b,0,none⟩)) (z8 11 y x)∧Below w1.heap.size w1 w'):=
  v7 (fun w1 hb=>qg5 11 (Nat.le_trans hB hb.size) (hL.below hb (Nat.le_refl _)) (cy.below hb) (cx.below hb) zy zx)
 have HB:Hid (Below w.heap.size w w.drew):=v7 (Below.refl _ _).drew
 unfold at0 at c1 c2 ⊢
 have e3:(p.op==3)=false:=by rw [ho];rfl
 have e4:(p.op==4)=false:=by rw [ho];rfl
 have e6:(p.op==6)=false:=by rw [ho];rfl
 have e7:(p.op==7)=false:=by rw [ho];rfl
 have e10:(p.op==10)=true:=by rw [ho];rfl
 clear hc hL hB ho hv zx zy cx cy
 go_enter Tryz.func92,Tryz.ntmps92
 go_wp2_with fail
 go_region_held3 (fun W=>W.cell? ⟨b,1,none⟩=some (.pointer (some ⟨bx,0,none⟩))∧W.cell? ⟨b,2,none⟩=some (.pointer (some ⟨by',0,none⟩))) (go_keep) (first|(go_at_call 90;refine (q9 PR _ (q9 HB)).mono ?_;rintro e w3 ⟨b3,rfl,k3,hb3⟩;have HB3:=v7 (v8 (q9 HB) hb3);have d5:=((q9 HB3).cell (p:=⟨b,1,none⟩) hbw).trans c1;have d6:=((q9 HB3).cell (p:=⟨b,2,none⟩) hbw).trans c2;have K3:=v7 k3;clear k3 hb3))
 all_goals (go_wp2_with fail;go_ret;exact ⟨b3,rfl,q9 K3,q9 HB3⟩)
theorem not_bin11 (p:CP) (x y:Co) (ho:p.op=11) (zx:(z9 x).length≤1000000000) (zy:(z9 y).length≤1000000000):vb6 (.bin p x y):=by
 intro B w v hB hL h
 have hv:qh4 (.bin p x y)=z8 10 y x:=by rw [qh4,ho];rfl
 rw [hv]
 obtain ⟨b,vx,vy,rfl,hc,cx,cy⟩:=h
 obtain ⟨bx,rfl⟩:=cx.ptr
 obtain ⟨by',rfl⟩:=cy.ptr
 have c0:=hc.c0
 have c1:=hc.c1
 have c2:=hc.c2
 have hbw:=hc.within
 have PR:Hid (∀w1,Below w.heap.size w w1→Calls Tryz.prog 90 #[.int .i64 10,.pointer (some ⟨by',0,none⟩),.pointer (some ⟨bx,0,none⟩)] w1 fun e w'=>∃b,e=.returned (.pointer (some ⟨b,0,none⟩))∧CoAt B w'.heap.size w' (.pointer (some ⟨b,0,none⟩)) (z8 10 y x)∧Below w1.heap.size w1 w'):=
  v7 (fun w1 hb=>qg5 10 (Nat.le_trans hB hb.size) (hL.below hb (Nat.le_refl _)) (cy.below hb) (cx.below hb) zy zx)
 have HB:Hid (Below w.heap.size w w.drew):=v7 (Below.refl _ _).drew
 unfold at0 at c1 c2 ⊢
 have e3:(p.op==3)=false:=by rw [ho];rfl
 have e4:(p.op==4)=false:=by rw [ho];rfl
 have e6:(p.op==6)=false:=by rw [ho];rfl
 have e7:(p.op==7)=false:=by rw [ho];rfl
 have e10:(p.op==10)=false:=by rw [ho];rfl
 have e11:(p.op==11)=true:=by rw [ho];rfl
 clear hc hL hB ho hv zx zy cx cy
 go_enter Tryz.func92,Tryz.ntmps92
 go_wp2_with fail
 go_region_held3 (fun W=>W.cell? ⟨b,1,none⟩=some (.pointer (some ⟨bx,0,none⟩))∧W.cell? ⟨b,2,none⟩=some (.pointer (some ⟨by',0,none⟩))) (go_keep) (first|(go_at_call 90;refine (q9 PR _ (q9 HB)).mono ?_;rintro e w3 ⟨b3,rfl,k3,hb3⟩;have HB3:=v7 (v8 (q9 HB) hb3);have d5:=((q9 HB3).cell (p:=⟨b,1,none⟩) hbw).trans c1;have d6:=((q9 HB3).cell (p:=⟨b,2,none⟩) hbw).trans c2;have K3:=v7 k3;clear k3 hb3))
 all_goals (go_wp2_with fail;go_ret;exact ⟨b3,rfl,q9 K3,q9 HB3⟩)
theorem jc6:∀c,WfC c→(z9 c).length+7 * uC c≤1000000000→vb6 c:=by
 intro c
 induction c with
 | leaf p=>
  intro hw hz
  by_cases h3:p.op=3
  ·exact not_leaf3 p h3
  by_cases h4:p.op=4
  ·exact not_leaf4 p h4
  have hl:p.op=0∨p.op=1∨p.op=2:=by
   have:qi5 p.op=true:=hw
   unfold qi5 at this
   simp only [Bool.or_eq_true,beq_iff_eq] at this
   omega
  refine vw7 _ p (by omega) ?_ (fun B E w v h=>by obtain ⟨b,rfl,hc⟩:=h;exact ⟨b,_,_,rfl,hc⟩) h3 h4 (by omega) (by omega) (by omega) (by omega) (by omega)
  unfold qh4
  rw [if_neg (by simpa using h3),if_neg (by simpa using h4)]
 | un p x ih=>
  intro hw hz
  have hu:p.op=5∨p.op=22∨p.op=23:=by
   have:unB p.op=true:=hw.1
   unfold unB at this
   simp only [Bool.or_eq_true,beq_iff_eq] at this
   omega
  by_cases h5:p.op=5
  ·by_cases hx0:opC x=0
   ·exact not_un50 p x h5 hx0 (by omega)
   ·exact not_un5 p x h5 hx0
  refine vw7 _ p (by omega) ?_ (fun B E w v h=>by obtain ⟨b,vx,rfl,hc,_⟩:=h;exact ⟨b,_,_,rfl,hc⟩) (by omega) (by omega) (by omega) (by omega) (by omega) (by omega) h5
  unfold qh4
  rw [if_neg]
  rw [Bool.and_eq_true]
  rintro ⟨h,_⟩
  exact h5 (eq_of_beq h)
 | bin p x y ihx ihy=>
  intro hw hz
  have hs:=qw1 hw.1 x y
  have lx:=qq5 x hw.2.1
  have ly:=qq5 y hw.2.2
  have hu:uC (.bin p x y)=if (p.op==6||p.op==7)=true then uC x+uC y else 1:=rfl
  by_cases h6:p.op=6
  ·rw [h6] at hu
   have hu:uC (.bin p x y)=uC x+uC y:=hu
   exact not_bin6 p x y h6 (ihx hw.2.1 (by omega)) (ihy hw.2.2 (by omega)) (by omega) (by omega)
  by_cases h7:p.op=7
  ·rw [h7] at hu
   have hu:uC (.bin p x y)=uC x+uC y:=hu
   exact not_bin7 p x y h7 (ihx hw.2.1 (by omega)) (ihy hw.2.2 (by omega)) (by omega) (by omega)
  by_cases h10:p.op=10
  ·exact not_bin10 p x y h10 (by omega) (by omega)
  by_cases h11:p.op=11
  ·exact not_bin11 p x y h11 (by omega) (by omega)
  have hb:=hw.1
  unfold binB qi5 unB at hb
  simp only [Bool.and_eq_true,Bool.not_eq_true',Bool.or_eq_false_iff,beq_eq_false_iff_ne] at hb
  obtain ⟨⟨⟨⟨⟨_,_⟩,_⟩,h3⟩,h4⟩,⟨h5,_⟩,_⟩:=hb
  refine vw7 _ p (by omega) ?_ (fun B E w v h=>by obtain ⟨b,vx,vy,rfl,hc,_⟩:=h;exact ⟨b,_,_,rfl,hc⟩) h3 h4 h6 h7 h10 h11 h5
  unfold qh4
  rw [if_neg (by simpa using h6),if_neg (by simpa using h7),if_neg (by simpa using h10),if_neg (by simpa using h11)]
end
section
def qx6 (B:Nat) (w:World) (c:Co) (e:Ending) (w':World):Prop:=∃b,e=.returned (.pointer (some ⟨b,0,none⟩))∧CoAt B w'.heap.size w' (.pointer (some ⟨b,0,none⟩)) c∧Below w.heap.size w w'
theorem vj1 (n:Int) (hn:Rng n) {B:Nat} {w:World} (hB:B≤w.heap.size) (hL:LibOk w):Calls Tryz.prog 91 #[.int .i64 n] w (qx6 B w (vq4 n)):=by
 have S:Hid (Calls Tryz.prog 94 #[.agg #[.int .i64 1,.pointer none,.pointer none,.int .i64 n,.string ⟨#[]⟩,.string ⟨#[]⟩,.string ⟨#[]⟩]] w (qx6 B w (vq4 n))):=v7 (qp0 ⟨1,n,[],[]⟩ rfl hn (Nat.zero_le _) (Nat.zero_le _) hB hL)
 clear hB hL hn
 go_enter Tryz.func91,Tryz.ntmps91
 go_wp2_with (go_at_call 94;refine (q9 S).mono ?_;rintro e w1 ⟨b1,rfl,hc1,hb1⟩)
 go_ret
 exact ⟨b1,rfl,hc1,hb1⟩
def Lm (c:Co):Prop:=(z9 c).length≤200000000∧uC c≤1000∧WfC c
theorem Gd.lm {t:Ast} (h:Gd t) (hn:ndA t≤200):Lm (j7 t):=by
 have h1:=h.len
 have h2:=h.un
 have:ndA t * ndA t≤200 * 200:=Nat.mul_le_mul hn hn
 exact ⟨by omega,by omega,h.wf⟩
theorem cjoin_14 (lo:Nat) (p:Pay) (sv:Value) {B:Nat} {w:World} {b:Nat} (hB:B≤w.heap.size) (hL:LibOk w) (hN:NodeAt lo w b p sv) (ho:p.op=14) {x:Co} {vx:Value} (hx:CoAt B w.heap.size w vx x) (zx:Lm x) :
  Calls Tryz.prog 61 #[.pointer (some ⟨b,0,none⟩),vx,.pointer none,.pointer none] w (qx6 B w (z8 16 (vq4 0) x)):=by
 obtain ⟨bx,rfl⟩:=hx.ptr
 have c0:=hN.c0
 have NB:Hid (Calls Tryz.prog 91 #[.int .i64 0] w (qx6 B w (vq4 0))):=v7 (vj1 0 ⟨by decide,by decide⟩ hB hL)
 have PR:Hid (∀w1 v1,Below w.heap.size w w1→CoAt B w1.heap.size w1 v1 (vq4 0)→Calls Tryz.prog 90 #[.int .i64 16,v1,.pointer (some ⟨bx,0,none⟩)] w1 (qx6 B w1 (z8 16 (vq4 0) x))):=
  v7 (fun w1 v1 hb h1=>qg5 16 (Nat.le_trans hB hb.size) (hL.below hb (Nat.le_refl _)) h1 (hx.below hb) (Nat.le_trans vi1 (by decide)) (Nat.le_trans zx.1 (by decide)))
 have e14:(p.op==14)=true:=by rw [ho];rfl
 clear hN hB hL hx zx ho
 go_enter Tryz.func61,Tryz.ntmps61
 go_wp2_with (first|(go_at_call 91;refine (q9 NB).mono ?_;rintro e w1 ⟨b1,rfl,k1,hb1⟩;have HB1:=v7 hb1;have K1:=v7 k1;clear hb1 k1)|(go_at_call 90;refine (q9 PR _ _ (q9 HB1) (q9 K1)).mono ?_;rintro e w2 ⟨b2,rfl,k2,hb2⟩;have HB2:=v7 (v8 (q9 HB1) hb2);have K2:=v7 k2;clear hb2 k2))
 go_ret
 exact ⟨b2,rfl,q9 K2,q9 HB2⟩
theorem cjoin_15 (lo:Nat) (p:Pay) (sv:Value) {B:Nat} {w:World} {b:Nat} (hB:B≤w.heap.size) (hL:LibOk w) (hN:NodeAt lo w b p sv) (ho:p.op=15) {x:Co} {vx:Value} (hx:CoAt B w.heap.size w vx x) (zx:Lm x) :
  Calls Tryz.prog 61 #[.pointer (some ⟨b,0,none⟩),vx,.pointer none,.pointer none] w (qx6 B w (z8 17 (vq4 0) x)):=by
 obtain ⟨bx,rfl⟩:=hx.ptr
 have c0:=hN.c0
 have NB:Hid (Calls Tryz.prog 91 #[.int .i64 0] w (qx6 B w (vq4 0))):=v7 (vj1 0 ⟨by decide,by decide⟩ hB hL)
 have PR:Hid (∀w1 v1,Below w.heap.size w w1→CoAt B w1.heap.size w1 v1 (vq4 0)→Calls Tryz.prog 90 #[.int .i64 17,v1,.pointer (some ⟨bx,0,none⟩)] w1 (qx6 B w1 (z8 17 (vq4 0) x))):=
  v7 (fun w1 v1 hb h1=>qg5 17 (Nat.le_trans hB hb.size) (hL.below hb (Nat.le_refl _)) h1 (hx.below hb) (Nat.le_trans vi1 (by decide)) (Nat.le_trans zx.1 (by decide)))
 have e14:(p.op==14)=false:=by rw [ho];rfl
 have e15:(p.op==15)=true:=by rw [ho];rfl
 clear hN hB hL hx zx ho
 go_enter Tryz.func61,Tryz.ntmps61
 go_wp2_with (first|(go_at_call 91;refine (q9 NB).mono ?_;rintro e w1 ⟨b1,rfl,k1,hb1⟩;have HB1:=v7 hb1;have K1:=v7 k1;clear hb1 k1)|(go_at_call 90;refine (q9 PR _ _ (q9 HB1) (q9 K1)).mono ?_;rintro e w2 ⟨b2,rfl,k2,hb2⟩;have HB2:=v7 (v8 (q9 HB1) hb2);have K2:=v7 k2;clear hb2 k2))
 go_ret
 exact ⟨b2,rfl,q9 K2,q9 HB2⟩
theorem cjoin_12 (lo:Nat) (p:Pay) (sv:Value) {B:Nat} {w:World} {b:Nat} (hB:B≤w.heap.size) (hL:LibOk w) (hN:NodeAt lo w b p sv) (ho:p.op=12) {x y:Co} {vx vy:Value} (hx:CoAt B w.heap.size w vx x) (hy:CoAt B w.heap.size w vy y) (zx:Lm x) (zy:Lm y) :
  Calls Tryz.prog 61 #[.pointer (some ⟨b,0,none⟩),vx,vy,.pointer none] w (qx6 B w (z8 10 y x)):=by
 obtain ⟨bx,rfl⟩:=hx.ptr
 obtain ⟨by',rfl⟩:=hy.ptr
 have c0:=hN.c0
 have PR:Hid (Calls Tryz.prog 90 #[.int .i64 10,.pointer (some ⟨by',0,none⟩),.pointer (some ⟨bx,0,none⟩)] w (qx6 B w (z8 10 y x))):=
  v7 (qg5 10 hB hL hy hx (Nat.le_trans zy.1 (by decide)) (Nat.le_trans zx.1 (by decide)))
 have e14:(p.op==14)=false:=by rw [ho];rfl
 have e15:(p.op==15)=false:=by rw [ho];rfl
 have e12:(p.op==12)=true:=by rw [ho];rfl
 clear hN hB hL hx hy zx zy ho
 go_enter Tryz.func61,Tryz.ntmps61
 go_wp2_with (go_at_call 90;refine (q9 PR).mono ?_;rintro e w2 ⟨b2,rfl,k2,hb2⟩)
 go_ret
 exact ⟨b2,rfl,k2,hb2⟩
theorem cjoin_13 (lo:Nat) (p:Pay) (sv:Value) {B:Nat} {w:World} {b:Nat} (hB:B≤w.heap.size) (hL:LibOk w) (hN:NodeAt lo w b p sv) (ho:p.op=13) {x y:Co} {vx vy:Value} (hx:CoAt B w.heap.size w vx x) (hy:CoAt B w.heap.size w vy y) (zx:Lm x) (zy:Lm y) :
  Calls Tryz.prog 61 #[.pointer (some ⟨b,0,none⟩),vx,vy,.pointer none] w (qx6 B w (z8 11 y x)):=by
 obtain ⟨bx,rfl⟩:=hx.ptr
 obtain ⟨by',rfl⟩:=hy.ptr
 have c0:=hN.c0
 have PR:Hid (Calls Tryz.prog 90 #[.int .i64 11,.pointer (some ⟨by',0,none⟩),.pointer (some ⟨bx,0,none⟩)] w (qx6 B w (z8 11 y x))):=
  v7 (qg5 11 hB hL hy hx (Nat.le_trans zy.1 (by decide)) (Nat.le_trans zx.1 (by decide)))
 have e14:(p.op==14)=false:=by rw [ho];rfl
 have e15:(p.op==15)=false:=by rw [ho];rfl
 have e12:(p.op==12)=false:=by rw [ho];rfl
 have e13:(p.op==13)=true:=by rw [ho];rfl
 clear hN hB hL hx hy zx zy ho
 go_enter Tryz.func61,Tryz.ntmps61
 go_wp2_with (go_at_call 90;refine (q9 PR).mono ?_;rintro e w2 ⟨b2,rfl,k2,hb2⟩)
 go_ret
 exact ⟨b2,rfl,k2,hb2⟩
theorem cjoin_9 (lo:Nat) (p:Pay) (sv:Value) {B:Nat} {w:World} {b:Nat} (hB:B≤w.heap.size) (hL:LibOk w) (hN:NodeAt lo w b p sv) (ho:p.op=9) {x y:Co} {vx vy:Value} (hx:CoAt B w.heap.size w vx x) (hy:CoAt B w.heap.size w vy y) (zx:Lm x) (zy:Lm y) :
  Calls Tryz.prog 61 #[.pointer (some ⟨b,0,none⟩),vx,vy,.pointer none] w (qx6 B w (qh4 (z8 8 x y))):=by
 obtain ⟨bx,rfl⟩:=hx.ptr
 obtain ⟨by',rfl⟩:=hy.ptr
 have c0:=hN.c0
 have z1:=zx.1
 have z2:=zy.1
 have PR:Hid (Calls Tryz.prog 90 #[.int .i64 8,.pointer (some ⟨bx,0,none⟩),.pointer (some ⟨by',0,none⟩)] w (qx6 B w (z8 8 x y))):=
  v7 (qg5 8 hB hL hx hy (Nat.le_trans zx.1 (by decide)) (Nat.le_trans zy.1 (by decide)))
 have NT:Hid (∀w1 v1,Below w.heap.size w w1→CoAt B w1.heap.size w1 v1 (z8 8 x y)→Calls Tryz.prog 92 #[v1] w1 (qx6 B w1 (qh4 (z8 8 x y)))):=
  v7 (fun w1 v1 hb h1=>jc6 _ (qg9 rfl zx.2.2 zy.2.2) (by rw [y9 8 rfl rfl,qk0];have e8:(qm6 8).length=1:=rfl;show _+7 * 1≤_;omega) B w1 v1 (Nat.le_trans hB hb.size) (hL.below hb (Nat.le_refl _)) h1)
 have e14:(p.op==14)=false:=by rw [ho];rfl
 have e15:(p.op==15)=false:=by rw [ho];rfl
 have e12:(p.op==12)=false:=by rw [ho];rfl
 have e13:(p.op==13)=false:=by rw [ho];rfl
 have e9:(p.op==9)=true:=by rw [ho];rfl
 clear hN hB hL hx hy zx zy ho z1 z2
 go_enter Tryz.func61,Tryz.ntmps61
 go_wp2_with (first|(go_at_call 90;refine (q9 PR).mono ?_;rintro e w1 ⟨b1,rfl,k1,hb1⟩;have HB1:=v7 hb1;have K1:=v7 k1;clear hb1 k1)|(go_at_call 92;refine (q9 NT _ _ (q9 HB1) (q9 K1)).mono ?_;rintro e w2 ⟨b2,rfl,k2,hb2⟩;have HB2:=v7 (v8 (q9 HB1) hb2);have K2:=v7 k2;clear hb2 k2))
 go_ret
 exact ⟨b2,rfl,q9 K2,q9 HB2⟩
theorem cjoin_5 (lo:Nat) (p:Pay) (sv:Value) {B:Nat} {w:World} {b:Nat} (hB:B≤w.heap.size) (hL:LibOk w) (hN:NodeAt lo w b p sv) (ho:p.op=5) {x:Co} {vx:Value} (hx:CoAt B w.heap.size w vx x) (zx:Lm x) :
  Calls Tryz.prog 61 #[.pointer (some ⟨b,0,none⟩),vx,.pointer none,.pointer none] w (qx6 B w (qh4 x)):=by
 obtain ⟨bx,rfl⟩:=hx.ptr
 have c0:=hN.c0
 have z1:=zx.1
 have z2:=zx.2.1
 have NT:Hid (Calls Tryz.prog 92 #[.pointer (some ⟨bx,0,none⟩)] w (qx6 B w (qh4 x))):=v7 (jc6 x zx.2.2 (by omega) B w _ hB hL hx)
 have e14:(p.op==14)=false:=by rw [ho];rfl
 have e15:(p.op==15)=false:=by rw [ho];rfl
 have e12:(p.op==12)=false:=by rw [ho];rfl
 have e13:(p.op==13)=false:=by rw [ho];rfl
 have e9:(p.op==9)=false:=by rw [ho];rfl
 have e5:(p.op==5)=true:=by rw [ho];rfl
 clear hN hB hL hx zx ho z1 z2
 go_enter Tryz.func61,Tryz.ntmps61
 go_wp2_with (go_at_call 92;refine (q9 NT).mono ?_;rintro e w2 ⟨b2,rfl,k2,hb2⟩)
 go_ret
 exact ⟨b2,rfl,k2,hb2⟩
theorem cjoin_20 (lo:Nat) (p:Pay) (sv:Value) {B:Nat} {w:World} {b:Nat} (hB:B≤w.heap.size) (hL:LibOk w) (hN:NodeAt lo w b p sv) (ho:p.op=20) {x y z:Co} {vx vy vz:Value} (hx:CoAt B w.heap.size w vx x) (hy:CoAt B w.heap.size w vy y) (hz:CoAt B w.heap.size w vz z) (zx:Lm x) (zy:Lm y) (zz:Lm z) :
  Calls Tryz.prog 61 #[.pointer (some ⟨b,0,none⟩),vx,vy,vz] w (qx6 B w (z8 6 (z8 11 y x) (z8 11 x z))):=by
 obtain ⟨bx,rfl⟩:=hx.ptr
 obtain ⟨by',rfl⟩:=hy.ptr
 obtain ⟨bz,rfl⟩:=hz.ptr
 have c0:=hN.c0
 have z1:=zx.1
 have z2:=zy.1
 have z3:=zz.1
 have P1:Hid (Calls Tryz.prog 90 #[.int .i64 11,.pointer (some ⟨by',0,none⟩),.pointer (some ⟨bx,0,none⟩)] w (qx6 B w (z8 11 y x))):=
  v7 (qg5 11 hB hL hy hx (by omega) (by omega))
 have P2:Hid (∀w1,Below w.heap.size w w1→Calls Tryz.prog 90 #[.int .i64 11,.pointer (some ⟨bx,0,none⟩),.pointer (some ⟨bz,0,none⟩)] w1 (qx6 B w1 (z8 11 x z))):=
  v7 (fun w1 hb=>qg5 11 (Nat.le_trans hB hb.size) (hL.below hb (Nat.le_refl _)) (hx.below hb) (hz.below hb) (by omega) (by omega))
 have e11:(qm6 11).length=2:=rfl
 have P3:Hid (∀w1 v1 v2,Below w.heap.size w w1→CoAt B w1.heap.size w1 v1 (z8 11 y x)→CoAt B w1.heap.size w1 v2 (z8 11 x z)→Calls Tryz.prog 90 #[.int .i64 6,v1,v2] w1 (qx6 B w1 (z8 6 (z8 11 y x) (z8 11 x z)))):=
  v7 (fun w1 v1 v2 hb h1 h2=>qg5 6 (Nat.le_trans hB hb.size) (hL.below hb (Nat.le_refl _)) h1 h2 (by rw [y9 11 rfl rfl];omega) (by rw [y9 11 rfl rfl];omega))
 have e14:(p.op==14)=false:=by rw [ho];rfl
 have e15:(p.op==15)=false:=by rw [ho];rfl
 have e12:(p.op==12)=false:=by rw [ho];rfl
 have e13:(p.op==13)=false:=by rw [ho];rfl
 have e9:(p.op==9)=false:=by rw [ho];rfl
 have e5:(p.op==5)=false:=by rw [ho];rfl
 have e20:(p.op==20)=true:=by rw [ho];rfl
 clear hN hB hL hx hy hz zx zy zz ho z1 z2 z3 e11
 go_enter Tryz.func61,Tryz.ntmps61
 go_wp2_with fail
 refine (q9 P1).mono ?_
 rintro e w1 ⟨b1,rfl,k1,hb1⟩
 have HB1:=v7 hb1
 have K1:=v7 k1
 clear hb1 k1
 go_wp2_with fail
 refine (q9 P2 _ (q9 HB1)).mono ?_
 rintro e w2 ⟨b2,rfl,k2,hb2⟩
 have HB2:=v7 (v8 (q9 HB1) hb2)
 have K1':=v7 ((q9 K1).below hb2)
 have K2:=v7 k2
 clear hb2 k2
 go_wp2_with fail
 refine (q9 P3 _ _ _ (q9 HB2) (q9 K1') (q9 K2)).mono ?_
 rintro e w3 ⟨b3,rfl,k3,hb3⟩
 have HB3:=v7 (v8 (q9 HB2) hb3)
 have K3:=v7 k3
 clear hb3 k3
 go_wp2_with fail
 go_ret
 exact ⟨b3,rfl,q9 K3,q9 HB3⟩
theorem cjoin_two (lo:Nat) (p:Pay) (sv:Value) {B:Nat} {w:World} {b:Nat} (hB:B≤w.heap.size) (hL:LibOk w) (hN:NodeAt lo w b p sv) (h14:¬p.op=14) (h15:¬p.op=15) (h12:¬p.op=12) (h13:¬p.op=13) (h9:¬p.op=9) (h5:¬p.op=5) (h20:¬p.op=20) (h21:¬p.op=21) {x y:Co} {vx vy:Value} (hx:CoAt B w.heap.size w vx x) (hy:CoAt B w.heap.size w vy y) (zx:Lm x) (zy:Lm y) :
  Calls Tryz.prog 61 #[.pointer (some ⟨b,0,none⟩),vx,vy,.pointer none] w (qx6 B w (z8 p.op x y)):=by
 obtain ⟨bx,rfl⟩:=hx.ptr
 obtain ⟨by',rfl⟩:=hy.ptr
 have c0:=hN.c0
 have PR:Hid (Calls Tryz.prog 90 #[.int .i64 p.op,.pointer (some ⟨bx,0,none⟩),.pointer (some ⟨by',0,none⟩)] w (qx6 B w (z8 p.op x y))):=
  v7 (qg5 p.op hB hL hx hy (Nat.le_trans zx.1 (by decide)) (Nat.le_trans zy.1 (by decide)))
 have e14:(p.op==14)=false:=beq_eq_false_iff_ne.2 h14
 have e15:(p.op==15)=false:=beq_eq_false_iff_ne.2 h15
 have e12:(p.op==12)=false:=beq_eq_false_iff_ne.2 h12
 have e13:(p.op==13)=false:=beq_eq_false_iff_ne.2 h13
 have e9:(p.op==9)=false:=beq_eq_false_iff_ne.2 h9
 have e5:(p.op==5)=false:=beq_eq_false_iff_ne.2 h5
 have e20:(p.op==20)=false:=beq_eq_false_iff_ne.2 h20
 have e21:(p.op==21)=false:=beq_eq_false_iff_ne.2 h21
 clear hN hB hL hx hy zx zy h14 h15 h12 h13 h9 h5 h20 h21
 go_enter Tryz.func61,Tryz.ntmps61
 go_wp2_with (go_at_call 90;refine (q9 PR).mono ?_;rintro e w2 ⟨b2,rfl,k2,hb2⟩)
 go_ret
 exact ⟨b2,rfl,k2,hb2⟩
theorem vr8 (lo:Nat) (p:Pay) (sv:Value) {B:Nat} {w:World} {b:Nat} (hN:NodeAt lo w b p sv) (h14:¬p.op=14) (h15:¬p.op=15) (h12:¬p.op=12) (h13:¬p.op=13) (h9:¬p.op=9) (h5:¬p.op=5) (h20:¬p.op=20) (h21:¬p.op=21) (c:Co) (la:Option Addr)
  (hS:∀w1,Below w.heap.size w w1→Calls Tryz.prog 94 #[.agg #[.int .i64 p.op,.pointer la,.pointer none,.int .i64 p.num,.string (BS p.str),.string (BS p.esc),.string ⟨#[]⟩]] w1 (qx6 B w1 c)) :
  Calls Tryz.prog 61 #[.pointer (some ⟨b,0,none⟩),.pointer la,.pointer none,.pointer none] w (qx6 B w c):=by
 have c0:=hN.c0
 have c3:=hN.c3
 have c4:=hN.c4
 have c5:=hN.c5
 have hbw:=hN.within
 have S:=v7 hS
 have HB:Hid (Below w.heap.size w w.drew):=v7 (Below.refl _ _).drew
 have e14:(p.op==14)=false:=beq_eq_false_iff_ne.2 h14
 have e15:(p.op==15)=false:=beq_eq_false_iff_ne.2 h15
 have e12:(p.op==12)=false:=beq_eq_false_iff_ne.2 h12
 have e13:(p.op==13)=false:=beq_eq_false_iff_ne.2 h13
 have e9:(p.op==9)=false:=beq_eq_false_iff_ne.2 h9
 have e5:(p.op==5)=false:=beq_eq_false_iff_ne.2 h5
 have e20:(p.op==20)=false:=beq_eq_false_iff_ne.2 h20
 have e21:(p.op==21)=false:=beq_eq_false_iff_ne.2 h21
 clear hN hS h14 h15 h12 h13 h9 h5 h20 h21
 go_enter Tryz.func61,Tryz.ntmps61
 go_wp2_with fail
 go_region_held3 (fun W=>W.cell? ⟨b,0,none⟩=some (.int .i64 p.op)∧W.cell? ⟨b,3,none⟩=some (.int .i64 p.num)∧W.cell? ⟨b,4,none⟩=some (.string (BS p.str))∧W.cell? ⟨b,5,none⟩=some (.string (BS p.esc))) (go_keep) (first|(go_at_call 94;refine (q9 S _ (q9 HB)).mono ?_;rintro e w3 ⟨b3,rfl,k3,hb3⟩;have HB3:=v7 (v8 (q9 HB) hb3);have d0:=((q9 HB3).cell (p:=⟨b,0,none⟩) hbw).trans c0;have d3:=((q9 HB3).cell (p:=⟨b,3,none⟩) hbw).trans c3;have d4:=((q9 HB3).cell (p:=⟨b,4,none⟩) hbw).trans c4;have d5:=((q9 HB3).cell (p:=⟨b,5,none⟩) hbw).trans c5;have K3:=v7 k3;clear k3 hb3))
 all_goals (go_wp2_with fail;go_ret;exact ⟨b3,rfl,q9 K3,q9 HB3⟩)
end
section
def jz3 (c n:Int):Int:=if c<0 then -(c+1).tmod n else c % n
theorem pick_any (c n:Int) (hc:Rng c) (hn:0<n) (w:World):Calls Tryz.prog 21 #[.int .i64 c,.int .i64 n] w fun e w'=>e=.returned (.int .i64 (jz3 c n))∧w'=w:=by
 have h1:=hc.1
 have h2:=hc.2
 unfold jz3
 have hn0:n≠0:=by omega
 by_cases h:c<0
 ·rw [if_pos h]
  have hd:decide (c<0)=true:=decide_eq_true h
  have w1:IntKind.i64.wrap (c+1)=c+1:=by rw [IntKind.wrap_i64];omega
  have w2:IntKind.i64.wrap (-(c+1))=-(c+1):=by rw [IntKind.wrap_i64];omega
  go_enter Tryz.func21,Tryz.ntmps21
  go_wp2_with fail
  go_ret
  exact ⟨rfl,rfl⟩
 ·rw [if_neg h]
  have hd:decide (c<0)=false:=decide_eq_false h
  go_enter Tryz.func21,Tryz.ntmps21
  go_wp2_with fail
  go_ret
  exact ⟨rfl,rfl⟩
end
section
def evs:List Pr:=[⟨[97],iV 5⟩]
def qc5 (w:World):World:=w.alloc (.cells #[.string ⟨#[97]⟩,.int .i64 2,.int .i64 5,.string ⟨#[]⟩] 120)
theorem vn5 (w:World) :
  Calls Tryz.prog 27 #[] w fun e w'=>e=.returned (.slice (some ⟨w.heap.size,0,none⟩) 1 1)∧w'=qc5 w:=by
 go_enter Tryz.func27,Tryz.ntmps27
 go_wp2_with fail
 go_ret
 exact ⟨rfl,rfl⟩
theorem jh7 (w:World):EvAt (qc5 w) w.heap.size 0 evs:=by
 intro k p hk
 unfold qc5
 match k,hk with
 | 0,hk=>
  have:p=⟨[97],iV 5⟩:=by simpa [evs] using hk.symm
  subst this
  refine ⟨?_, ?_, ?_, ?_⟩
  all_goals (rw [World.cell?_alloc_at _ _ _ _ rfl];rfl)
 | k+1,hk=>simp [evs] at hk
theorem vh9:EvGood evs:=by
 refine ⟨fun p hp=>?_,fun p hp=>?_,by simp [evs]⟩
 ·simp [evs] at hp;subst hp;exact ⟨by decide,by decide⟩
 ·simp [evs] at hp;subst hp;exact ⟨by decide,by decide⟩
theorem jr1 {w w1:World} (hb:Below (qc5 w).heap.size (qc5 w) w1):EvIn w1 (.slice (some ⟨w.heap.size,0,none⟩) 1 1) evs:=by
 have hz:(qc5 w).heap.size=w.heap.size+1:=by simp [qc5]
 exact .inr ⟨w.heap.size,0,1,rfl,by simp [evs],(jh7 w).below hb (by omega),by have:=hb.size;omega⟩
theorem is_in (s:ByteArray) (hs:s.size≤140737488355328) (ps:List Pr) (ev:Value) (want:V) (w:World) (hE:ErrOk w) (hev:EvIn w ev ps) (hg:EvGood ps) (hr:jh4 s ps=⟨want,0,0⟩) :
  Calls Tryz.prog 81 #[.string s,ev,vV want] w fun e w'=>e=.returned (.bool true)∧Below w.heap.size w w':=by
 refine (is_any s ev want want hev.slice w (fun w1 hb _=>?_)).mono ?_
 ·have:=eval_any s hs ps ev w1 (hE.below hb (Nat.le_refl _)) (hev.below hb) hg
  rw [hr] at this
  exact this
 ·rintro e w' ⟨rfl,h⟩
  exact ⟨by simp,h⟩
def textR1:ByteArray:=⟨#[97,32,43,32,49,32,61,32,54,32,65,78,68,32,78,79,84,32,98,32,73,83,32,78,85,76,76,32,79,82,32,97,32,62,32,52]⟩
def textR2:ByteArray:=⟨#[97,32,60,32,53]⟩
theorem evalR1:jh4 textR1 evs=⟨bV true,0,0⟩:=by kernel_rfl
theorem evalR2:jh4 textR2 evs=⟨bV false,0,0⟩:=by kernel_rfl
theorem reads_any (w:World) (hE:ErrOk w) :
  Calls Tryz.prog 50 #[] w fun e w'=>e=.returned (.bool true)∧Below w.heap.size w w':=by
 have hz:(qc5 w).heap.size=w.heap.size+1:=by simp [qc5]
 have hE0:ErrOk (qc5 w):=hE.alloc _
 have I1:Hid (∀w1,Below (qc5 w).heap.size (qc5 w) w1→Calls Tryz.prog 81 #[.string textR1,.slice (some ⟨w.heap.size,0,none⟩) 1 1,vV (bV true)] w1 fun e w'=>e=.returned (.bool true)∧Below w1.heap.size w1 w'):=
  v7 (fun w1 hb=>is_in textR1 (by decide) evs _ _ w1 (hE0.below hb (Nat.le_refl _)) (jr1 hb) vh9 evalR1)
 have I2:Hid (∀w1,Below (qc5 w).heap.size (qc5 w) w1→Calls Tryz.prog 81 #[.string textR2,.slice (some ⟨w.heap.size,0,none⟩) 1 1,vV (bV false)] w1 fun e w'=>e=.returned (.bool true)∧Below w1.heap.size w1 w'):=
  v7 (fun w1 hb=>is_in textR2 (by decide) evs _ _ w1 (hE0.below hb (Nat.le_refl _)) (jr1 hb) vh9 evalR2)
 have HB:Hid (Below (qc5 w).heap.size (qc5 w) (qc5 w)):=v7 (Below.refl _ _)
 have BW:Hid (∀w1,Below (qc5 w).heap.size (qc5 w) w1→Below w.heap.size w w1):=v7 (fun w1 h=>v8 ((Below.refl _ _).alloc (Nat.le_refl _) _) h)
 clear hE hE0 hz
 go_enter Tryz.func50,Tryz.ntmps50
 go_wp2_with fail
 refine (vn5 _).mono ?_
 rintro e w1 ⟨rfl,rfl⟩
 go_wp2_with fail
 refine (jf0 _ _).mono ?_
 rintro e w1 ⟨rfl,hb⟩
 replace HB:=v7 (v8 (q9 HB) hb)
 clear hb
 go_wp2_with fail
 refine (q9 I1 _ (q9 HB)).mono ?_
 rintro e w2 ⟨rfl,hb⟩
 replace HB:=v7 (v8 (q9 HB) hb)
 clear hb
 go_wp2_with fail
 refine (jf0 _ _).mono ?_
 rintro e w3 ⟨rfl,hb⟩
 replace HB:=v7 (v8 (q9 HB) hb)
 clear hb
 go_wp2_with fail
 refine (q9 I2 _ (q9 HB)).mono ?_
 rintro e w4 ⟨rfl,hb⟩
 replace HB:=v7 (v8 (q9 HB) hb)
 clear hb
 go_wp2_with fail
 go_ret
 exact ⟨rfl,q9 BW _ (q9 HB)⟩
end
section
open Go.ChangeShapes Go.WideShapes Go.ChangeAt Go.RowKit Go.Deep
theorem ja3:Tryz.prog.cellsOf 120=4:=by kernel_rfl
theorem cellsVal:Tryz.prog.cellsOf 118=3:=by kernel_rfl
theorem vv0:Tryz.prog.cellsOf 9=1:=by kernel_rfl
theorem jq1:Tryz.prog.cellsOf 3=1:=by kernel_rfl
theorem cellsI64:Tryz.prog.cellsOf 2=1:=by kernel_rfl
theorem bytesProp:Tryz.prog.bytesOf 120=48:=by kernel_rfl
section
variable {H:Type} {enc:TypeId×Value→H}
theorem wf_rng {n:Int} (h:(Lit.int .i64 n).wf=true):Rng n:=by
 simp only [Lit.wf,Bool.and_eq_true,decide_eq_true_eq] at h
 exact ⟨h.1,h.2⟩
theorem open_prop {W:World} {base:Nat} {sp:Nat→Bool} {n:Nat} {cs:List Value} {x:DataW H×List MemPlace} (h:DataW.trod enc Tryz.prog W base sp true n 120 cs=some x) :
  ∃(nm st:ByteArray) (k m:Int),cs=[.string nm,.int .i64 k,.int .i64 m,.string st]∧x=(.agg [.lit (.string nm.data.toList),.agg [.lit (.int .i64 k),.lit (.int .i64 m),.lit (.string st.data.toList)]],[])∧Rng m:=by
 obtain ⟨y0,y1,n1,rfl,hl,t0,t1⟩:=trod_struct2 Tryz.underlying120 h
 rw [ja3] at hl
 match cs,hl with
 | [c0,c1,c2,c3],_=>
  simp only [vv0,cellsVal,List.drop,List.take] at t0 t1
  obtain ⟨nm,h0,rfl,_⟩:=DataW.trod_string Tryz.underlying9 t0
  obtain ⟨z0,z1,z2,n2,rfl,_,u0,u1,u2⟩:=trod_struct3 Tryz.underlying118 t1
  simp only [jq1,cellsI64,vv0,List.drop,List.take] at u0 u1 u2
  obtain ⟨k,h1,rfl,_⟩:=DataW.trod_int Tryz.underlying3 u0
  obtain ⟨m,h2,rfl,wm⟩:=DataW.trod_int Tryz.underlying2 u1
  obtain ⟨st,h3,rfl,_⟩:=DataW.trod_string Tryz.underlying9 u2
  simp only [List.cons.injEq,and_true] at h0 h1 h2 h3
  subst h0 h1 h2 h3
  exact ⟨nm,st,k,m,rfl,rfl,wf_rng wm⟩
theorem vp5 {P:Program} {e:TypeId} {d:DataW H}:∀{l:List (DataW H)},d∈l→∀n∈d.weights P e,n∈DataW.weightsAll P e l:=by
 intro l
 induction l with
 | nil=>intro h;cases h
 | cons a r ih=>
  intro h n hn
  rw [DataW.weightsAll]
  rcases List.mem_cons.1 h with rfl|h
  ·exact List.mem_append_left _ hn
  ·exact List.mem_append_right _ (ih h n hn)
theorem jf5 (nm st:List UInt8) (k m:Int):(DataW.agg [.lit (.string nm),.agg [.lit (.int .i64 k),.lit (.int .i64 m),.lit (.string st)]]:DataW H).weights Tryz.prog 120=[nm.length,st.length]:=by
 rw [DataW.weights,Tryz.underlying120]
 simp only [List.map,DataW.weightsEach,DataW.weights,Tryz.underlying118]
 rfl
theorem vc4 {W:World} {fuel:Nat} {cs:List Value} {d:DataW H} {pl:List MemPlace} (ht:DataW.trod enc Tryz.prog W 0 (fun _=>true) true fuel 23 cs=some (d,pl))
  (hw:∀n∈d.weights Tryz.prog 23,n≤reachBytes):∃v ps,cs=[v]∧EvIn W v ps∧EvGood ps:=by
 rcases open_slice Tryz.underlying23 ht with ⟨hc,hx⟩|⟨a,len0,cap0,m,n,D,Pl,hc,_,hl,hm,hmm,hx,hall⟩
 ·exact ⟨_,[],hc,.inl ⟨rfl,none,0,rfl⟩,⟨(fun p hp=>by cases hp),(fun p hp=>by cases hp),Nat.zero_le _⟩⟩
 ·simp only [if_true] at hmm
  subst hmm
  simp only [Prod.mk.injEq] at hx
  obtain ⟨rfl,rfl⟩:=hx
  refine ⟨.slice (some a) len0 m, ?_⟩
  suffices hgoal:∃ps,EvIn W (.slice (some a) len0 m) ps∧EvGood ps by
   obtain ⟨ps,h1,h2⟩:=hgoal
   exact ⟨ps,hc,h1,h2⟩
  rw [ja3] at hall
  have each:∀i,i<len0→∃p:Pr,(W.cell? (a.add (i * 4))=some (.string (BS p.name))∧W.cell? (a.add (i * 4+1))=some (.int .i64 p.val.kind)∧W.cell? (a.add (i * 4+2))=some (.int .i64 p.val.num)∧W.cell? (a.add (i * 4+3))=some (.string (BS p.val.str)))∧Rng p.val.num ∧
    D i=.agg [.lit (.string p.name),.agg [.lit (.int .i64 p.val.kind),.lit (.int .i64 p.val.num),.lit (.string p.val.str)]]:=by
   intro i hi
   obtain ⟨cs',h1,h2⟩:=hall i (by omega)
   obtain ⟨nm,st,k,mm,rfl,hD,hr⟩:=open_prop h2
   simp only [Prod.mk.injEq] at hD
   obtain ⟨_,_,hcell⟩:=World.cells?_some h1
   have c0:=hcell 0 (by decide)
   have c1:=hcell 1 (by decide)
   have c2:=hcell 2 (by decide)
   have c3:=hcell 3 (by decide)
   rw [add_add] at c0 c1 c2 c3
   exact ⟨⟨nm.data.toList,⟨k,mm,st.data.toList⟩⟩,⟨c0,c1,c2,c3⟩,hr,hD.1⟩
  have inh:Inhabited Pr:=⟨⟨[],nV⟩⟩
  obtain ⟨f,hf⟩:=choose_lt each
  have hget:∀(k:Nat) (p:Pr),((List.range len0).map f)[k]?=some p→k<len0∧p=f k:=by
   intro k p hk
   rw [List.getElem?_map] at hk
   cases hr:(List.range len0)[k]? with
   | none=>rw [hr] at hk;cases hk
   | some j=>
    rw [hr] at hk
    obtain ⟨h1,h2⟩:=List.getElem?_eq_some_iff.1 hr
    rw [List.length_range] at h1
    rw [List.getElem_range] at h2
    subst h2
    exact ⟨h1,by simpa using hk.symm⟩
  have hlen:((List.range len0).map f).length=len0:=by rw [List.length_map,List.length_range]
  have hmem:∀p∈(List.range len0).map f,∃k,k<len0∧p=f k:=by
   intro p hp
   obtain ⟨k,hk⟩:=List.getElem?_of_mem hp
   exact ⟨k,hget k p hk⟩
  have hwt:=hw
  rw [DataW.weights,Tryz.underlying23] at hwt
  simp only [List.mem_cons,List.mem_append] at hwt
  refine ⟨(List.range len0).map f, ?_,⟨?_, ?_, ?_⟩⟩
  ·cases len0 with
   | zero=>exact .inl ⟨rfl,some a,_,rfl⟩
   | succ l=>
    right
    obtain ⟨b,off,spot⟩:=a
    have hs:spot=none:=by
     have:=World.cell?_spot (hf 0 (by omega)).1.1
     simpa [Addr.add] using this
    subst hs
    have hadd:∀j,(⟨b,off,none⟩:Addr).add j=⟨b,off+j,none⟩:=by intro j;simp [Addr.add]
    refine ⟨b,off,_,by rw [hlen],by rw [hlen];exact hl, ?_, ?_⟩
    ·intro k p hk
     obtain ⟨hk1,rfl⟩:=hget k p hk
     obtain ⟨⟨c0,c1,c2,c3⟩,_,_⟩:=hf k hk1
     rw [hadd] at c0 c1 c2 c3
     exact ⟨c0,c1,c2,c3⟩
    ·have:=(hf 0 (by omega)).1.1
     rw [hadd] at this
     exact block_lt_of_cell this
  ·intro p hp
   obtain ⟨k,hk,rfl⟩:=hmem p hp
   have hD:=(hf k hk).2.2
   have hin:D k∈(List.range len0).map D:=List.mem_map.2 ⟨k,List.mem_range.2 hk,rfl⟩
   have h2:=fun n hn=>hwt n (.inr (.inl (vp5 hin n hn)))
   rw [hD,jf5] at h2
   have e1:=h2 _ (by simp:(f k).name.length∈[(f k).name.length,(f k).val.str.length])
   have e2:=h2 _ (by simp:(f k).val.str.length∈[(f k).name.length,(f k).val.str.length])
   unfold reachBytes at e1 e2
   exact ⟨by omega,by omega⟩
  ·intro p hp
   obtain ⟨k,hk,rfl⟩:=hmem p hp
   exact (hf k hk).2.1
  ·have:=hwt _ (.inl rfl)
   rw [bytesProp,List.length_map,List.length_range] at this
   rw [hlen]
   unfold reachBytes at this
   omega
theorem jy8 {W:World} {base:Nat} {v:Value} {d:DataW H} {pl:List MemPlace} (hval:Value.okWide Tryz.prog W .any base 23 v) (h:DataW.Trod enc Tryz.prog W 0 (fun _=>true) true 23 v d pl)
  (hw:∀n∈d.weights Tryz.prog 23,n≤reachBytes):∃ps,EvIn W v ps∧EvGood ps:=by
 obtain ⟨fuel,ht⟩:=h
 obtain ⟨a0,len0,cap0,rfl⟩:=okWide_slice Tryz.underlying23 hval
 obtain ⟨v,ps,hv,h1,h2⟩:=vc4 ht hw
 simp [Value.cells] at hv
 subst hv
 exact ⟨ps,h1,h2⟩
end
end
section
open Go.ChangeShapes Go.WideShapes Go.RowKit
theorem powNamed : Tryz.prog.globalNamed "internal/strconv.uint64pow10" = some 0 := by kernel_rfl
theorem max_ok {W:World} (h:W.ShapedOpen Tryz.prog):4<W.heap.size∧∃m,W.cell? ⟨4,0,none⟩=some (.int .i64 m):=by
 obtain ⟨m,hm⟩:=cell_of_shapedOpen_int (g:=4) (zero:=#[.int .i64 0]) (t:=3) h (of_decide_eq_true (by kernel_rfl)) (by kernel_rfl) rfl (by kernel_rfl) (by kernel_rfl) Tryz.underlying3
 exact ⟨block_lt_of_cell hm,m,hm⟩
theorem powType:(Tryz.prog.globals[0]?).map (·.type)=some 345:=by kernel_rfl
theorem cellsPow:Tryz.prog.cellsOf 345=20:=by kernel_rfl
theorem cellsU64:Tryz.prog.cellsOf 318=1:=by kernel_rfl
theorem powLaid:(Rows.laid_internal_strconv_uint64pow10:DataW Unit)=Lib.tabData .u64 Lib.pow10Tab:=by kernel_rfl
theorem pow_ok {W : World} {l : List (String × DataW Unit)} (hm : ("internal/strconv.uint64pow10", Rows.laid_internal_strconv_uint64pow10) ∈ l) (h : laidMet Tryz.prog l W) : Lib.TabIs Tryz.prog W "internal/strconv.uint64pow10" .u64 Lib.pow10Tab := by
 obtain ⟨g,t,cs,fuel,p,h1,h2,h3,h4⟩:=Lib.laidMet.reads h hm
 obtain rfl:0=g:=Option.some.inj (powNamed.symm.trans h1)
 obtain rfl:345=t:=Option.some.inj (powType.symm.trans h2)
 rw [powLaid] at h4
 unfold Lib.TabIs
 rw [h3,←Lib.cells_of_tab Tryz.underlying345 Tryz.underlying318 cellsU64 cellsPow h4]
end
end Go.Proofs.YtfkcaldjphakpabGreatDoor
