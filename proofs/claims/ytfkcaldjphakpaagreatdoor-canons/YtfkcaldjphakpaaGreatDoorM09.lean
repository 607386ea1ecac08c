/- Read's deferred function. What Read says of a text. The numbers of what is read fit an int64. What a term is of an event. The strings of what is read are short, its texts few. Reading a list of tokens, places left out; it goes as reading a text goes. Reading a list of tokens goes as reading a text goes: rows, signs, groups. Reading a list of tokens goes as reading a text goes: the rest. Reading a list of tokens goes as reading a text goes: tests, and all levels. -/
import Derived.Test.YtfkcaldjphakpaaGreatDoorM06
import Derived.Defers
import Derived.Recover
import Derived.Laws.Pointers
import Derived.Test.YtfkcaldjphakpaaGreatDoorM08
import Derived.Test.YtfkcaldjphakpaaGreatDoorM07
namespace Go.Proofs.YtfkcaldjphakpaaGreatDoor
open Go.RowKit
section
set_option maxHeartbeats 4000000 in
theorem jg8 (p0 p1 p2:Addr) (w:World) :
  CallsD Tryz.prog 53 #[.pointer (some p0),.pointer (some p1),.pointer (some p2)] .returning w fun e u' w'=>e=.returned (.tuple #[])∧u'=.returning∧w'=w:=by
 refine callsD_of_wpS Tryz.func53 rfl fun c₀ cs hu=>?_
 apply wpS_seq
 apply wpS_region
 simp [wpOpsS,go_sem,recoverD,hu,Tryz.ntmps53,Exit.thenS]
 refine wpS_of_wp ?_
 rw [show (#[Value.pointer (some p0),Value.pointer (some p1),Value.pointer (some p2)]++(Array.replicate 13 undef).setIfInBounds 3 Value.nilIface)=#[Value.pointer (some p0),Value.pointer (some p1),Value.pointer (some p2),undef,undef,undef,Value.nilIface,undef,undef,undef,undef,undef,undef,undef,undef,undef] from rfl]
 go_wp2_with fail
 refine ⟨rfl,.returning, ?_,_,results_none rfl _ _ _,rfl,rfl,rfl⟩
 cases c₀
 simp_all
theorem as_fault (v:Value) (w:World):(Instr.typeAssert (.iface 88 v) 20 88 true).run Tryz.prog w=.ok (.tuple #[v,.bool true]) w:=by kernel_rfl
theorem eq_fault (v:Value) (w:World):(binOp .eql 20 (.iface 88 v) .nilIface).run Tryz.prog w=.ok (.bool false) w:=by kernel_rfl
set_option maxHeartbeats 4000000 in
theorem qq2 (B:Nat) (x0 x1 x2:Value) (en pl:Int) (older:List PanicEntry) (w:World) (hB:B+2<w.heap.size) (h0:w.cell? ⟨B,0,none⟩=some x0) (h1:w.cell? ⟨B+1,0,none⟩=some x1) (h2:w.cell? ⟨B+2,0,none⟩=some x2)
  (f0:w.frozen? ⟨B,0,none⟩=false) (f1:w.frozen? ⟨B+1,0,none⟩=false) (f2:w.frozen? ⟨B+2,0,none⟩=false) :
  CallsD Tryz.prog 53 #[.pointer (some ⟨B,0,none⟩),.pointer (some ⟨B+1,0,none⟩),.pointer (some ⟨B+2,0,none⟩)] (.panicking ({ v:=.iface 88 (.agg #[.int .i64 en,.int .i64 pl]),recovered:=false }::older)) w fun e u' w'=>
   e=.returned (.tuple #[])∧u'=.panicking ({ v:=.iface 88 (.agg #[.int .i64 en,.int .i64 pl]),recovered:=true }::older) ∧
   w'.cell? ⟨B,0,none⟩=some (.pointer none)∧w'.cell? ⟨B+1,0,none⟩=some (.int .i64 en)∧w'.cell? ⟨B+2,0,none⟩=some (.int .i64 pl)∧Below B w w':=by
 refine callsD_of_wpS Tryz.func53 rfl fun c₀ cs hu=>?_
 apply wpS_seq
 apply wpS_region
 simp [wpOpsS,go_sem,recoverD,hu,Tryz.ntmps53,Exit.thenS]
 refine wpS_of_wp ?_
 rw [show (#[Value.pointer (some ⟨B,0,none⟩),Value.pointer (some ⟨B+1,0,none⟩),Value.pointer (some ⟨B+2,0,none⟩)]++(Array.replicate 13 undef).setIfInBounds 3 (.iface 88 (.agg #[.int .i64 en,.int .i64 pl])))=#[Value.pointer (some ⟨B,0,none⟩),Value.pointer (some ⟨B+1,0,none⟩),Value.pointer (some ⟨B+2,0,none⟩),undef,undef,undef,.iface 88 (.agg #[.int .i64 en,.int .i64 pl]),undef,undef,undef,undef,undef,undef,undef,undef,undef] from rfl]
 have ha:=as_fault
 have hq:=eq_fault
 have n0:B<w.heap.size:=by omega
 have n1:B+1<w.heap.size:=by omega
 have m0:¬w.heap.size=B:=by omega
 have m1:¬w.heap.size=B+1:=by omega
 have m2:¬w.heap.size=B+2:=by omega
 go_wp2_with fail
 go_region
 all_goals refine ⟨rfl,.panicking ({ v:=.iface 88 (.agg #[.int .i64 en,.int .i64 pl]),recovered:=true }::older), ?_,_,results_none rfl _ _ _,rfl,rfl, ?_, ?_, ?_, ?_⟩
 ·cases c₀
  simp_all
 ·rw [World.cell?_drew,World.cell?_alloc_past _ _ _ (by simp;omega)];simp [go_sem,h0]
 ·rw [World.cell?_drew,World.cell?_alloc_past _ _ _ (by simp;omega)];simp [go_sem,h1]
 ·rw [World.cell?_drew,World.cell?_alloc_past _ _ _ (by simp;omega)];simp [go_sem,h2]
 ·exact (((((Below.refl B w).setCell (Nat.le_refl _) _).setCell (by simp) _).setCell (by simp) _).alloc (by simp;omega) _).drew
end
section
structure Above (lo:Nat) (w w':World):Prop where
 size:w.heap.size≤w'.heap.size
 block:∀k,lo<k→k<w.heap.size→w'.heap[k]?=w.heap[k]?
theorem Kept.above {rb:Nat} {w w':World} (h:Kept rb w w'):Above rb w w':=⟨h.size,fun k h1 h2=>h.block k h2 (by omega)⟩
theorem Above.trans {lo:Nat} {a b c:World} (h:Above lo a b) (k:Above lo b c):Above lo a c:=⟨Nat.le_trans h.size k.size,fun i h1 h2=>(k.block i h1 (Nat.lt_of_lt_of_le h2 h.size)).trans (h.block i h1 h2)⟩
theorem Above.setCell {lo:Nat} {a w:World} (h:Above lo a w) {p:Addr} (hp:p.block≤lo) (u:Value):Above lo a (w.setCell p u):=by
 refine ⟨by rw [size_setCell];exact h.size,fun k h1 h2=>?_⟩
 rw [Below.heap_setCell w p u k (by omega)];exact h.block k h1 h2
theorem Above.cell {lo:Nat} {w w':World} (h:Above lo w w') {g:Nat} (h1:lo<g) (h2:g<w.heap.size) (j:Nat):w'.cell? ⟨g,j,none⟩=w.cell? ⟨g,j,none⟩:=
 World.cell?_of_block (w:=w) (w':=w') (a:=⟨g,j,none⟩) (h.block g h1 h2)
theorem TextsAt.keptA {lo:Nat} {w w':World} (hk:Above lo w w') {v:Value} {ts:List (List UInt8)} (h:TextsAt lo w v ts):TextsAt lo w' v ts:=by
 rcases h with h|⟨g,cap,hv,hg,hg2,hc⟩
 ·exact .inl h
 ·exact .inr ⟨g,cap,hv,hg,Nat.lt_of_lt_of_le hg2 hk.size,fun j t ht=>(hk.cell hg hg2 j).trans (hc j t ht)⟩
theorem NodeAt.keptA {lo:Nat} {w w':World} (hk:Above lo w w') {b:Nat} {p:Pay} {sides:Value} (h:NodeAt lo w b p sides):NodeAt lo w' b p sides:=by
 obtain ⟨h1,h2,c0,c1,c2,c3,c4,c5,tv,c6,ht⟩:=h
 have hc:=fun j=>hk.cell h1 h2 j
 exact ⟨h1,Nat.lt_of_lt_of_le h2 hk.size,(hc 0).trans c0,(hc 1).trans c1,(hc 2).trans c2,(hc 3).trans c3,(hc 4).trans c4,(hc 5).trans c5,tv,(hc 6).trans c6,ht.keptA hk⟩
theorem IsNode.above {lo:Nat} {w w':World} (hk:Above lo w w'):∀{t:Ast} {v:Value},IsNode lo w v t→IsNode lo w' v t:=by
 have hc:=fun g j (h1:lo<g) (h2:g<w.heap.size)=>hk.cell h1 h2 j
 intro t
 induction t with
 | leaf p=>rintro v ⟨b,rfl,h⟩;exact ⟨b,rfl,h.keptA hk⟩
 | un p x ih=>
  rintro v ⟨b,g,v1,rfl,h,h1,h2,e1,n1⟩
  exact ⟨b,g,v1,rfl,h.keptA hk,h1,Nat.lt_of_lt_of_le h2 hk.size,(hc g 0 h1 h2).trans e1,ih n1⟩
 | bin p x y ihx ihy=>
  rintro v ⟨b,g,v1,v2,rfl,h,h1,h2,e1,e2,n1,n2⟩
  exact ⟨b,g,v1,v2,rfl,h.keptA hk,h1,Nat.lt_of_lt_of_le h2 hk.size,(hc g 0 h1 h2).trans e1,(hc g 1 h1 h2).trans e2,ihx n1,ihy n2⟩
 | tri p x y z ihx ihy ihz=>
  rintro v ⟨b,g,v1,v2,v3,rfl,h,h1,h2,e1,e2,e3,n1,n2,n3⟩
  exact ⟨b,g,v1,v2,v3,rfl,h.keptA hk,h1,Nat.lt_of_lt_of_le h2 hk.size,(hc g 0 h1 h2).trans e1,(hc g 1 h1 h2).trans e2,(hc g 2 h1 h2).trans e3,ihx n1,ihy n2,ihz n3⟩
inductive RRes where
 | ok (t:Ast)
 | err (en pl:Int)
def st0:St:=⟨⟨0,0,[]⟩,0,0,0⟩
def vx2 (t:Ast) (st:St):RRes:=if st.tk.kind=0 then (match chkR (qa4 t) with
 | none=>.ok t
 | some q=>.err 4 q) else .err 2 st.place
def qn2 (s:ByteArray):RRes:=if s.size≤200 then (match (lvl s 12).E (j3 s st0) with
 | .err en pl=>.err en pl
 | .ok t st=>vx2 t st) else .err 1 0
def jd1 (w:World) (r:RRes) (e:Ending) (w':World):Prop:=Below w.heap.size w w'∧match r with
 | .ok t=>∃v,e=.returned (.tuple #[v,.int .i64 0,.int .i64 0])∧IsNode (w.heap.size+3) w' v t
 | .err en pl=>e=.returned (.tuple #[.pointer none,.int .i64 en,.int .i64 pl])
theorem Kept.below {rb B:Nat} {a w w':World} (h:Kept rb w w') (hb:Below B a w) (hB:B≤rb) (hz:B≤w.heap.size):Below B a w':=
 ⟨h.os.trans hb.os,h.tape.trans hb.tape,h.output.trans hb.output,Nat.le_trans hb.size h.size,fun k hk=>(h.block k (by omega) (by omega)).trans (hb.block k hk)⟩
def qt7 (w:World) (s:ByteArray):World:=(((w.alloc (.cells #[.pointer none] 67)).alloc (.cells #[.int .i64 0] 41)).alloc (.cells #[.int .i64 0] 3)).alloc (.cells #[.string s,.int .i64 0,.int .i64 0,.int .i64 0,.string ⟨#[]⟩,.int .i64 0,.int .i64 0] 93)
theorem qj1 (w:World) (s:ByteArray):(qt7 w s).heap.size=w.heap.size+4:=by simp [qt7]
theorem vx8 (w:World) (s:ByteArray):Below w.heap.size w (qt7 w s):=(below3 w _ _ _).alloc (by simp;omega) _
theorem vx9 (w:World) (s:ByteArray):(qt7 w s).cell? ⟨w.heap.size,0,none⟩=some (.pointer none)∧(qt7 w s).cell? ⟨w.heap.size+1,0,none⟩=some (.int .i64 0)∧(qt7 w s).cell? ⟨w.heap.size+2,0,none⟩=some (.int .i64 0) ∧
  (qt7 w s).frozen? ⟨w.heap.size,0,none⟩=false∧(qt7 w s).frozen? ⟨w.heap.size+1,0,none⟩=false∧(qt7 w s).frozen? ⟨w.heap.size+2,0,none⟩=false:=by
 unfold qt7
 refine ⟨?_, ?_, ?_, ?_, ?_, ?_⟩
 ·rw [World.cell?_alloc_past _ _ _ (by simp<;>omega),World.cell?_alloc_past _ _ _ (by simp<;>omega),World.cell?_alloc_past _ _ _ (by simp),World.cell?_alloc_at _ _ _ _ rfl];rfl
 ·rw [World.cell?_alloc_past _ _ _ (by simp<;>omega),World.cell?_alloc_past _ _ _ (by simp),World.cell?_alloc_at _ _ _ _ (by simp)];rfl
 ·rw [World.cell?_alloc_past _ _ _ (by simp),World.cell?_alloc_at _ _ _ _ (by simp)];rfl
 ·rw [World.frozen?_alloc_past _ _ _ (by simp<;>omega),World.frozen?_alloc_past _ _ _ (by simp<;>omega),World.frozen?_alloc_past _ _ _ (by simp),World.frozen?_alloc_at _ _ _ _ rfl]
 ·rw [World.frozen?_alloc_past _ _ _ (by simp<;>omega),World.frozen?_alloc_past _ _ _ (by simp),World.frozen?_alloc_at _ _ _ _ (by simp)]
 ·rw [World.frozen?_alloc_past _ _ _ (by simp),World.frozen?_alloc_at _ _ _ _ (by simp)]
theorem rd_new (w:World) (s:ByteArray):RdAt (w.alloc (.cells #[.string s,.int .i64 0,.int .i64 0,.int .i64 0,.string ⟨#[]⟩,.int .i64 0,.int .i64 0] 93)) w.heap.size s st0:=
 ⟨by simp,by simp [st0],by simp [st0],by simp [st0],by simp [st0,BS],by simp [st0],by simp [st0],fun j=>by simp⟩
theorem begun_rd (w:World) (s:ByteArray):RdAt (qt7 w s) (w.heap.size+3) s st0:=by
 have hs:w.heap.size+3=(((w.alloc (.cells #[.pointer none] 67)).alloc (.cells #[.int .i64 0] 41)).alloc (.cells #[.int .i64 0] 3)).heap.size:=by simp
 rw [hs]
 exact rd_new _ s
theorem vr4 (w:World) (s:ByteArray) (h:ErrOk w):ErrOk (qt7 w s):=(((h.alloc _).alloc _).alloc _).alloc _
theorem vy0 (w:World) (s:ByteArray) (h:ErrOk w) (hs:s.size≤200):Ready (w.heap.size+3) s (qt7 w s) st0:=
 ⟨begun_rd w s,by rw [qj1];omega,vr4 w s h,by have:=h.1;omega,⟨Nat.zero_le _,Nat.zero_le _,fun h=>absurd rfl h⟩,by omega⟩
end
section
theorem rngN {n:Nat} (h:n≤9223372036854775807):Rng (n:Int):=⟨by omega,by omega⟩
theorem vj8:Rng 0:=⟨by decide,by decide⟩
def TkOk (st:St):Prop:=Rng st.tk.num
theorem vz3 (l:List UInt8):Rng (qf1 l).num:=by
 unfold qf1
 split
 ·exact vj8
 ·split
  ·unfold qk2;split<;>exact vj8
  split
  ·unfold qr8;split
   ·rename_i h;exact rngN h
   ·exact vj8
  split
  ·unfold qj4;split<;>exact vj8
  ·exact vj8
theorem qe2 (s:ByteArray) (st:St):TkOk (j3 s st):=by
 show Rng (qd8 s.data.toList st.after).num
 unfold qd8
 split
 ·exact vz3 _
 ·exact vj8
def vd3:Ast→Prop
 | .leaf p=>Rng p.num
 | .un p x=>Rng p.num∧vd3 x
 | .bin p x y=>Rng p.num∧vd3 x∧vd3 y
 | .tri p x y z=>Rng p.num∧vd3 x∧vd3 y∧vd3 z
def NGood (f:St→Res):Prop:=∀st t st',TkOk st→f st=.ok t st'→vd3 t∧TkOk st'
def vq7 (g:Ast→St→Res):Prop:=∀l st t st',vd3 l→TkOk st→g l st=.ok t st'→vd3 t∧TkOk st'
theorem NGood.join {s:ByteArray} {f:St→Res} (h:NGood f):∀st l t st',vd3 l→qc9 s f st l=.ok t st'→vd3 t∧TkOk st':=by
 intro st l t st' hl he
 unfold qc9 at he
 split at he
 ·rename_i r st2 hr;injection he with h1 h2;subst h1;subst h2
  have:=h _ _ _ (qe2 s st) hr
  exact ⟨⟨vj8,hl,this.1⟩,this.2⟩
 ·cases he
theorem NGood.loop {s:ByteArray} {f:St→Res} {ks:List Int} (h:NGood f):∀n l st t st',vd3 l→TkOk st→qb7 s f ks n l st=.ok t st'→vd3 t∧TkOk st':=by
 intro n
 induction n with
 | zero=>intro l st t st' hl hs he;rw [qb7] at he;injection he with h1 h2;subst h1;subst h2;exact ⟨hl,hs⟩
 | succ n ih=>
  intro l st t st' hl hs he
  rw [qb7] at he
  split at he
  ·split at he
   ·rename_i hj;have:=h.join _ _ _ _ hl hj;exact ih _ _ _ _ this.1 this.2 he
   ·cases he
  ·injection he with h1 h2;subst h1;subst h2;exact ⟨hl,hs⟩
theorem NGood.row {s:ByteArray} {f:St→Res} {ks:List Int} (h:NGood f):NGood (qe4 s f ks):=by
 intro st t st' hs he
 unfold qe4 at he
 split at he
 ·rename_i hr;have:=h _ _ _ hs hr;exact h.loop _ _ _ _ _ this.1 this.2 he
 ·cases he
theorem NGood.sign {s:ByteArray} {f:St→Res} (h:NGood f) (o:Int):NGood (qd7 s f o):=by
 intro st t st' _ he
 unfold qd7 at he
 split at he
 ·cases he
 ·split at he
  ·rename_i hr;injection he with h1 h2;subst h1;subst h2
   have:=h (qk8 s st) _ _ (qe2 s st) hr
   exact ⟨⟨vj8,this.1⟩,this.2⟩
  ·cases he
theorem NGood.group {s:ByteArray} {f:St→Res} (h:NGood f):NGood (qd5 s f):=by
 intro st t st' _ he
 unfold qd5 at he
 split at he
 ·cases he
 ·split at he
  ·rename_i hr;split at he
   ·injection he with h1 h2;subst h1;subst h2
    exact ⟨(h (qk8 s st) _ _ (qe2 s st) hr).1,qe2 s _⟩
   ·cases he
  ·cases he
theorem NGood.signed {s:ByteArray} {fS fE:St→Res} (hS:NGood fS) (hE:NGood fE):NGood (qc6 s fS fE):=by
 intro st t st' hs he
 unfold qc6 at he
 split at he
 ·exact hS.sign 14 _ _ _ hs he
 split at he
 ·exact hS.sign 15 _ _ _ hs he
 split at he
 ·exact hE.group _ _ _ hs he
 split at he
 ·injection he with h1 h2;subst h1;subst h2;exact ⟨vj8,qe2 s st⟩
 split at he
 ·injection he with h1 h2;subst h1;subst h2;exact ⟨hs,qe2 s st⟩
 split at he
 ·injection he with h1 h2;subst h1;subst h2;exact ⟨vj8,qe2 s st⟩
 split at he
 ·injection he with h1 h2;subst h1;subst h2;exact ⟨vj8,qe2 s st⟩
 split at he
 ·injection he with h1 h2;subst h1;subst h2;exact ⟨vj8,qe2 s st⟩
 ·cases he
theorem ji6 {s:ByteArray}:vq7 (qd2 s):=by
 intro l st t st' hl _ he
 unfold qd2 at he
 split at he
 ·split at he
  ·injection he with h1 h2;subst h1;subst h2;exact ⟨⟨vj8,vj8,hl⟩,qe2 s _⟩
  ·cases he
 ·split at he
  ·injection he with h1 h2;subst h1;subst h2;exact ⟨⟨vj8,hl⟩,qe2 s _⟩
  ·cases he
theorem ji5 {s:ByteArray} {l:Ast} {pl:Nat} (hl:vd3 l):∀n ts st t st',qf5 s l pl n ts st=.ok t st'→vd3 t∧TkOk st':=by
 intro n
 induction n with
 | zero=>intro ts st t st' he;rw [qf5] at he;cases he
 | succ n ih=>
  intro ts st t st' he
  rw [qf5] at he
  split at he
  ·split at he
   ·exact ih _ _ _ _ he
   ·cases he
  ·split at he
   ·injection he with h1 h2;subst h1;subst h2;exact ⟨⟨vj8,hl⟩,qe2 s _⟩
   ·cases he
theorem num_in {s:ByteArray}:vq7 (qh5 s):=by
 intro l st t st' hl _ he
 unfold qh5 at he
 split at he
 ·split at he
  ·exact ji5 hl _ _ _ _ _ he
  ·cases he
 ·cases he
theorem num_like {s:ByteArray}:vq7 (qb6 s):=by
 intro l st t st' hl _ he
 unfold qb6 at he
 split at he
 ·split at he
  ·split at he
   ·rename_i hk;injection he with h1 h2;subst h1;subst h2;rw [(qu3 hk).2];exact ⟨⟨vj8,hl⟩,qe2 s _⟩
   ·cases he
  ·injection he with h1 h2;subst h1;subst h2;exact ⟨⟨vj8,hl⟩,qe2 s _⟩
 ·cases he
theorem NGood.between {s:ByteArray} {f:St→Res} (h:NGood f):vq7 (qa8 s f):=by
 intro l st t st' hl _ he
 unfold qa8 at he
 split at he
 ·split at he
  ·rename_i h1;split at he
   ·split at he
    ·rename_i h2;injection he with h3 h4;subst h3;subst h4
     have a:=h _ _ _ (qe2 s _) h1
     have b:=h _ _ _ (qe2 s _) h2
     exact ⟨⟨vj8,hl,a.1,b.1⟩,b.2⟩
    ·cases he
   ·cases he
  ·cases he
 ·cases he
theorem NGood.keyword {s:ByteArray} {f:St→Res} (h:NGood f) (bare:Bool):vq7 (qb1 s f (qh5 s) (qb6 s) bare):=by
 intro l st t st' hl hs he
 unfold qb1 at he
 split at he
 ·exact num_in _ _ _ _ hl hs he
 split at he
 ·exact num_like _ _ _ _ hl hs he
 ·exact h.between _ _ _ _ hl hs he
theorem NGood.test {s:ByteArray} {f:St→Res} (h:NGood f):NGood (qg1 s f (qh5 s) (qb6 s)):=by
 intro st t st' hs he
 unfold qg1 at he
 split at he
 ·rename_i hr
  obtain ⟨hl,hs1⟩:=h _ _ _ hs hr
  unfold qb5 at he
  split at he
  ·exact h.join _ _ _ _ hl he
  split at he
  ·split at he
   ·exact ji6 _ _ _ _ hl hs1 he
   ·injection he with h1 h2;subst h1;subst h2;exact ⟨hl,hs1⟩
  split at he
  ·split at he
   ·rename_i hk;injection he with h1 h2;subst h1;subst h2
    have:=h.keyword _ _ _ _ _ hl (qe2 s _) hk
    exact ⟨⟨vj8,this.1⟩,this.2⟩
   ·cases he
  split at he
  ·exact h.keyword _ _ _ _ _ hl hs1 he
  ·injection he with h1 h2;subst h1;subst h2;exact ⟨hl,hs1⟩
 ·cases he
theorem NGood.denied {s:ByteArray} {fD fT:St→Res} (hD:NGood fD) (hT:NGood fT):NGood (qe1 s fD fT):=by
 intro st t st' hs he
 unfold qe1 at he
 split at he
 ·exact hD.sign 5 _ _ _ hs he
 ·exact hT _ _ _ hs he
structure NGood3 (L:L3):Prop where
 S:NGood L.S
 D:NGood L.D
 E:NGood L.E
theorem up3_num {s:ByteArray} {L:L3} (h:NGood3 L):NGood3 (up3 s L):=by
 have hS:=NGood.signed (s:=s) h.S h.E
 have hD:=NGood.denied (s:=s) h.D (NGood.test (s:=s) ((hS.row (s:=s) (ks:=[24,25])).row (s:=s) (ks:=[22,23])))
 exact ⟨hS,hD,(hD.row (s:=s) (ks:=[5])).row (s:=s) (ks:=[6])⟩
theorem lvl_num (s:ByteArray):∀d,NGood3 (lvl s d):=by
 intro d
 induction d with
 | zero=>exact up3_num ⟨(fun _ _ _ _ h=>by cases h),(fun _ _ _ _ h=>by cases h),(fun _ _ _ _ h=>by cases h)⟩
 | succ d ih=>exact up3_num ih
end
section
def EvRng (ps:List Pr):Prop:=∀p∈ps,Rng p.val.num
end
section
def vq9 (st:St):Prop:=st.tk.str.length≤200
theorem qa1 {s:ByteArray} (hs:s.size≤200) (st:St):vq9 (j3 s st):=Nat.le_trans (vb8 s st) hs
def Bp (p:Pay):Prop:=p.str.length≤200∧p.texts.length≤1000
def vd2:Ast→Prop
 | .leaf p=>Bp p
 | .un p x=>Bp p∧vd2 x
 | .bin p x y=>Bp p∧vd2 x∧vd2 y
 | .tri p x y z=>Bp p∧vd2 x∧vd2 y∧vd2 z
theorem bp0 (op pl num:Int):Bp ⟨op,pl,num,[],[],[]⟩:=⟨by simp,by simp⟩
theorem bp1 {op pl num:Int} {s:List UInt8} (h:s.length≤200):Bp ⟨op,pl,num,s,[],[]⟩:=⟨h,by simp⟩
def BGood (f:St→Res):Prop:=∀st t st',vq9 st→f st=.ok t st'→vd2 t∧vq9 st'
def vq5 (g:Ast→St→Res):Prop:=∀l st t st',vd2 l→vq9 st→g l st=.ok t st'→vd2 t∧vq9 st'
theorem BGood.join {s:ByteArray} (H:s.size≤200) {f:St→Res} (h:BGood f):∀st l t st',vd2 l→qc9 s f st l=.ok t st'→vd2 t∧vq9 st':=by
 intro st l t st' hl he
 unfold qc9 at he
 split at he
 ·rename_i r st2 hr;injection he with h1 h2;subst h1;subst h2
  have:=h _ _ _ (qa1 H st) hr
  exact ⟨⟨(bp0 _ _ _),hl,this.1⟩,this.2⟩
 ·cases he
theorem BGood.loop {s:ByteArray} (H:s.size≤200) {f:St→Res} {ks:List Int} (h:BGood f):∀n l st t st',vd2 l→vq9 st→qb7 s f ks n l st=.ok t st'→vd2 t∧vq9 st':=by
 intro n
 induction n with
 | zero=>intro l st t st' hl hs he;rw [qb7] at he;injection he with h1 h2;subst h1;subst h2;exact ⟨hl,hs⟩
 | succ n ih=>
  intro l st t st' hl hs he
  rw [qb7] at he
  split at he
  ·split at he
   ·rename_i hj;have:=h.join H _ _ _ _ hl hj;exact ih _ _ _ _ this.1 this.2 he
   ·cases he
  ·injection he with h1 h2;subst h1;subst h2;exact ⟨hl,hs⟩
theorem BGood.row {s:ByteArray} (H:s.size≤200) {f:St→Res} {ks:List Int} (h:BGood f):BGood (qe4 s f ks):=by
 intro st t st' hs he
 unfold qe4 at he
 split at he
 ·rename_i hr;have:=h _ _ _ hs hr;exact h.loop H _ _ _ _ _ this.1 this.2 he
 ·cases he
theorem BGood.sign {s:ByteArray} (H:s.size≤200) {f:St→Res} (h:BGood f) (o:Int):BGood (qd7 s f o):=by
 intro st t st' _ he
 unfold qd7 at he
 split at he
 ·cases he
 ·split at he
  ·rename_i hr;injection he with h1 h2;subst h1;subst h2
   have:=h (qk8 s st) _ _ (qa1 H st) hr
   exact ⟨⟨(bp0 _ _ _),this.1⟩,this.2⟩
  ·cases he
theorem BGood.group {s:ByteArray} (H:s.size≤200) {f:St→Res} (h:BGood f):BGood (qd5 s f):=by
 intro st t st' _ he
 unfold qd5 at he
 split at he
 ·cases he
 ·split at he
  ·rename_i hr;split at he
   ·injection he with h1 h2;subst h1;subst h2
    exact ⟨(h (qk8 s st) _ _ (qa1 H st) hr).1,qa1 H _⟩
   ·cases he
  ·cases he
theorem BGood.signed {s:ByteArray} (H:s.size≤200) {fS fE:St→Res} (hS:BGood fS) (hE:BGood fE):BGood (qc6 s fS fE):=by
 intro st t st' hs he
 unfold qc6 at he
 split at he
 ·exact hS.sign H 14 _ _ _ hs he
 split at he
 ·exact hS.sign H 15 _ _ _ hs he
 split at he
 ·exact hE.group H _ _ _ hs he
 split at he
 ·injection he with h1 h2;subst h1;subst h2;exact ⟨bp1 hs,qa1 H st⟩
 split at he
 ·injection he with h1 h2;subst h1;subst h2;exact ⟨(bp0 _ _ _),qa1 H st⟩
 split at he
 ·injection he with h1 h2;subst h1;subst h2;exact ⟨bp1 hs,qa1 H st⟩
 split at he
 ·injection he with h1 h2;subst h1;subst h2;exact ⟨(bp0 _ _ _),qa1 H st⟩
 split at he
 ·injection he with h1 h2;subst h1;subst h2;exact ⟨(bp0 _ _ _),qa1 H st⟩
 ·cases he
theorem jg4 {s:ByteArray} (H:s.size≤200):vq5 (qd2 s):=by
 intro l st t st' hl _ he
 unfold qd2 at he
 split at he
 ·split at he
  ·injection he with h1 h2;subst h1;subst h2;exact ⟨⟨(bp0 _ _ _),(bp0 _ _ _),hl⟩,qa1 H _⟩
  ·cases he
 ·split at he
  ·injection he with h1 h2;subst h1;subst h2;exact ⟨⟨(bp0 _ _ _),hl⟩,qa1 H _⟩
  ·cases he
theorem jg3 {s:ByteArray} (H:s.size≤200) {l:Ast} {pl:Nat} (hl:vd2 l):∀n ts st t st',ts.length+n≤1000→qf5 s l pl n ts st=.ok t st'→vd2 t∧vq9 st':=by
 intro n
 induction n with
 | zero=>intro ts st t st' _ he;rw [qf5] at he;cases he
 | succ n ih=>
  intro ts st t st' hn he
  rw [qf5] at he
  split at he
  ·split at he
   ·exact ih _ _ _ _ (by simp;omega) he
   ·cases he
  ·split at he
   ·injection he with h1 h2;subst h1;subst h2;exact ⟨⟨⟨by simp,by show ts.length≤1000;omega⟩,hl⟩,qa1 H _⟩
   ·cases he
theorem bnd_in {s:ByteArray} (H:s.size≤200):vq5 (qh5 s):=by
 intro l st t st' hl _ he
 unfold qh5 at he
 split at he
 ·split at he
  ·exact jg3 H hl _ _ _ _ _ (by simp;omega) he
  ·cases he
 ·cases he
theorem bnd_like {s:ByteArray} (H:s.size≤200):vq5 (qb6 s):=by
 intro l st t st' hl _ he
 unfold qb6 at he
 split at he
 ·split at he
  ·split at he
   ·rename_i hk;injection he with h1 h2;subst h1;subst h2;rw [(qu3 hk).2];exact ⟨⟨⟨qa1 H _,by simp⟩,hl⟩,qa1 H _⟩
   ·cases he
  ·injection he with h1 h2;subst h1;subst h2;exact ⟨⟨⟨qa1 H _,by simp⟩,hl⟩,qa1 H _⟩
 ·cases he
theorem BGood.between {s:ByteArray} (H:s.size≤200) {f:St→Res} (h:BGood f):vq5 (qa8 s f):=by
 intro l st t st' hl _ he
 unfold qa8 at he
 split at he
 ·split at he
  ·rename_i h1;split at he
   ·split at he
    ·rename_i h2;injection he with h3 h4;subst h3;subst h4
     have a:=h _ _ _ (qa1 H _) h1
     have b:=h _ _ _ (qa1 H _) h2
     exact ⟨⟨(bp0 _ _ _),hl,a.1,b.1⟩,b.2⟩
    ·cases he
   ·cases he
  ·cases he
 ·cases he
theorem BGood.keyword {s:ByteArray} (H:s.size≤200) {f:St→Res} (h:BGood f) (bare:Bool):vq5 (qb1 s f (qh5 s) (qb6 s) bare):=by
 intro l st t st' hl hs he
 unfold qb1 at he
 split at he
 ·exact bnd_in H _ _ _ _ hl hs he
 split at he
 ·exact bnd_like H _ _ _ _ hl hs he
 ·exact h.between H _ _ _ _ hl hs he
theorem BGood.test {s:ByteArray} (H:s.size≤200) {f:St→Res} (h:BGood f):BGood (qg1 s f (qh5 s) (qb6 s)):=by
 intro st t st' hs he
 unfold qg1 at he
 split at he
 ·rename_i hr
  obtain ⟨hl,hs1⟩:=h _ _ _ hs hr
  unfold qb5 at he
  split at he
  ·exact h.join H _ _ _ _ hl he
  split at he
  ·split at he
   ·exact jg4 H _ _ _ _ hl hs1 he
   ·injection he with h1 h2;subst h1;subst h2;exact ⟨hl,hs1⟩
  split at he
  ·split at he
   ·rename_i hk;injection he with h1 h2;subst h1;subst h2
    have:=h.keyword H _ _ _ _ _ hl (qa1 H _) hk
    exact ⟨⟨(bp0 _ _ _),this.1⟩,this.2⟩
   ·cases he
  split at he
  ·exact h.keyword H _ _ _ _ _ hl hs1 he
  ·injection he with h1 h2;subst h1;subst h2;exact ⟨hl,hs1⟩
 ·cases he
theorem BGood.denied {s:ByteArray} (H:s.size≤200) {fD fT:St→Res} (hD:BGood fD) (hT:BGood fT):BGood (qe1 s fD fT):=by
 intro st t st' hs he
 unfold qe1 at he
 split at he
 ·exact hD.sign H 5 _ _ _ hs he
 ·exact hT _ _ _ hs he
structure BGood3 (L:L3):Prop where
 S:BGood L.S
 D:BGood L.D
 E:BGood L.E
theorem up3_bnd {s:ByteArray} (H:s.size≤200) {L:L3} (h:BGood3 L):BGood3 (up3 s L):=by
 have hS:=BGood.signed (s:=s) H h.S h.E
 have hD:=BGood.denied (s:=s) H h.D (BGood.test (s:=s) H ((hS.row (s:=s) H (ks:=[24,25])).row (s:=s) H (ks:=[22,23])))
 exact ⟨hS,hD,(hD.row (s:=s) H (ks:=[5])).row (s:=s) H (ks:=[6])⟩
theorem lvl_bnd (s:ByteArray) (H:s.size≤200):∀d,BGood3 (lvl s d):=by
 intro d
 induction d with
 | zero=>exact up3_bnd H ⟨(fun _ _ _ _ h=>by cases h),(fun _ _ _ _ h=>by cases h),(fun _ _ _ _ h=>by cases h)⟩
 | succ d ih=>exact up3_bnd H ih
end
section
def noPl (p:Pay):Pay:={ p with place:=0 }
def qn0:Ast→Ast
 | .leaf p=>.leaf (noPl p)
 | .un p x=>.un (noPl p) (qn0 x)
 | .bin p x y=>.bin (noPl p) (qn0 x) (qn0 y)
 | .tri p x y z=>.tri (noPl p) (qn0 x) (qn0 y) (qn0 z)
theorem vt7 (t:Ast):opA (qn0 t)=opA t:=by cases t<;>rfl
structure TS where
 toks:List Tk
 op:Nat
inductive TRes where
 | ok (t:Ast) (ts:TS)
 | err (en:Int)
def hd (L:List Tk):Tk:=match L with
 | []=>qa2 0
 | k::_=>k
def TS.tk (ts:TS):Tk:=hd ts.toks
def TS.next (ts:TS):TS:=⟨ts.toks.tail,ts.op⟩
def vd0 (f:TS→TRes) (ts:TS) (l:Ast):TRes:=match f ts.next with
 | .ok r ts'=>.ok (.bin ⟨qw9 ts.tk.kind,0,0,[],[],[]⟩ l r) ts'
 | .err en=>.err en
def va3 (f:TS→TRes) (ks:List Int):Nat→Ast→TS→TRes
 | 0,l,ts=>.ok l ts
 | n+1,l,ts=>if ks.contains ts.tk.kind then (match vd0 f ts l with
   | .ok l' ts'=>va3 f ks n l' ts'
   | .err en=>.err en) else .ok l ts
def jf4 (f:TS→TRes) (ks:List Int) (ts:TS):TRes:=match f ts with
 | .ok l ts'=>va3 f ks (ts'.toks.length+1) l ts'
 | .err en=>.err en
def tIn (ts:TS):TS:=⟨ts.toks.tail,ts.op+1⟩
def vd1 (f:TS→TRes) (o:Int) (ts:TS):TRes:=if ts.op=12 then .err 3 else match f (tIn ts) with
 | .ok x ts'=>.ok (.un ⟨o,0,0,[],[],[]⟩ x) ⟨ts'.toks,ts.op⟩
 | .err en=>.err en
def qx0 (f:TS→TRes) (ts:TS):TRes:=if ts.op=12 then .err 3 else match f (tIn ts) with
 | .ok t ts'=>if ts'.tk.kind=27 then .ok t ⟨ts'.toks.tail,ts.op⟩ else .err 2
 | .err en=>.err en
def jc9 (o:Int) (num:Int) (str:List UInt8):Ast:=.leaf ⟨o,0,num,str,[],[]⟩
def qq7 (fS fE:TS→TRes) (ts:TS):TRes:=
 if ts.tk.kind=22 then vd1 fS 14 ts else if ts.tk.kind=23 then vd1 fS 15 ts else if ts.tk.kind=26 then qx0 fE ts
 else if ts.tk.kind=2 then .ok (jc9 0 0 ts.tk.str) ts.next
 else if ts.tk.kind=3 then .ok (jc9 1 ts.tk.num []) ts.next
 else if ts.tk.kind=4 then .ok (jc9 2 0 ts.tk.str) ts.next
 else if ts.tk.kind=8 then .ok (jc9 3 0 []) ts.next
 else if ts.tk.kind=9 then .ok (jc9 4 0 []) ts.next else .err 2
def tNull (l:Ast):Ast:=.un ⟨23,0,0,[],[],[]⟩ l
def tIsNull (l:Ast) (ts:TS):TRes:=
 if ts.next.tk.kind=7 then (if ts.next.next.tk.kind=15 then .ok (.un ⟨5,0,0,[],[],[]⟩ (tNull l)) ts.next.next.next else .err 2)
 else if ts.next.tk.kind=15 then .ok (tNull l) ts.next.next else .err 2
def qn8 (f:TS→TRes) (l:Ast) (ts:TS):TRes:=if ts.tk.kind=10 then (match f ts.next with
  | .ok lo ts1=>if ts1.tk.kind=5 then (match f ts1.next with
    | .ok hi ts2=>.ok (.tri ⟨20,0,0,[],[],[]⟩ l lo hi) ts2
    | .err en=>.err en) else .err 2
  | .err en=>.err en) else .err 2
def qn3 (l:Ast):Nat→List (List UInt8)→TS→TRes
 | 0,_,_=>.err 0
 | n+1,xs,ts=>if ts.tk.kind=28 then (if ts.next.tk.kind=4 then qn3 l n (xs++[ts.next.tk.str]) ts.next.next else .err 2)
   else if ts.tk.kind=27 then .ok (.un ⟨21,0,0,[],[],xs⟩ l) ts.next else .err 2
def tInRes (l:Ast) (ts:TS):TRes:=
 if ts.next.tk.kind=26 then (if ts.next.next.tk.kind=4 then qn3 l (ts.toks.length+1) [ts.next.next.tk.str] ts.next.next.next else .err 2) else .err 2
def tLike (l:Ast) (ts:TS):TRes:=
 if ts.next.tk.kind=4 then
  (if ts.next.next.tk.kind=13 then
   (if ts.next.next.next.tk.kind=4∧ts.next.next.next.tk.str.length=1∧(qs2 ts.next.next.next.tk.str ts.next.tk.str).isSome=true
    then .ok (.un ⟨22,0,0,ts.next.tk.str,ts.next.next.next.tk.str,[]⟩ l) ts.next.next.next.next else .err 2)
  else .ok (.un ⟨22,0,0,ts.next.tk.str,[],[]⟩ l) ts.next.next)
 else .err 2
def qk3 (f:TS→TRes) (bare:Bool) (l:Ast) (ts:TS):TRes:=
 if ts.tk.kind=11∧bare=true then tInRes l ts else if ts.tk.kind=12∧bare=true then tLike l ts else qn8 f l ts
def vi4 (f:TS→TRes) (bare:Bool) (l:Ast) (ts:TS):TRes:=
 if ts.tk.kind=16∨ts.tk.kind=17∨ts.tk.kind=18∨ts.tk.kind=19∨ts.tk.kind=20∨ts.tk.kind=21 then vd0 f ts l
 else if ts.tk.kind=14 then (if bare=true then tIsNull l ts else .ok l ts)
 else if ts.tk.kind=7 then (match qk3 f bare l ts.next with
  | .ok t ts'=>.ok (.un ⟨5,0,0,[],[],[]⟩ t) ts'
  | .err en=>.err en)
 else if ts.tk.kind=10∨ts.tk.kind=11∨ts.tk.kind=12 then qk3 f bare l ts
 else .ok l ts
def vi5 (f:TS→TRes) (ts:TS):TRes:=match f ts with
 | .ok l ts'=>vi4 f (ts.tk.kind==2&&opA l==0) l ts'
 | .err en=>.err en
def qr6 (fD fT:TS→TRes) (ts:TS):TRes:=if ts.tk.kind=7 then vd1 fD 5 ts else fT ts
structure T3 where
 S:TS→TRes
 D:TS→TRes
 E:TS→TRes
def tUp (L:T3):T3:=
 ⟨qq7 L.S L.E,qr6 L.D (vi5 (jf4 (jf4 (qq7 L.S L.E) [24,25]) [22,23])),jf4 (jf4 (qr6 L.D (vi5 (jf4 (jf4 (qq7 L.S L.E) [24,25]) [22,23]))) [5]) [6]⟩
def tLvl:Nat→T3
 | 0=>tUp ⟨fun _=>.err 0,fun _=>.err 0,fun _=>.err 0⟩
 | d+1=>tUp (tLvl d)
inductive Str (s:ByteArray):St→List Tk→Prop where
 | nil {st:St} (h:st.tk=qa2 0):Str s st []
 | cons {st:St} {L:List Tk} (h:st.tk.kind≠0) (r:Str s (j3 s st) L):Str s st (st.tk::L)
theorem Str.tk {s:ByteArray} {st:St} {L:List Tk} (h:Str s st L):hd L=st.tk:=by
 cases h with
 | nil h=>exact h.symm
 | cons _ _=>rfl
theorem Str.next {s:ByteArray} {st:St} {L:List Tk} (h:Str s st L) (hk:st.tk.kind≠0):Str s (j3 s st) L.tail:=by
 cases h with
 | nil h=>rw [h] at hk;exact absurd rfl hk
 | cons _ r=>exact r
theorem Str.withOp {s:ByteArray} {st:St} {L:List Tk} (h:Str s st L) (n:Nat):Str s { st with op:=n } L:=by
 induction h generalizing n with
 | nil h=>exact .nil h
 | cons h r ih=>
  rename_i st L
  exact .cons (st:={ st with op:=n }) h (ih n)
theorem Str.len {s:ByteArray} {st:St} {L:List Tk} (h:Str s st L):Fine s st→L.length≤s.size - st.place:=by
 induction h with
 | nil h=>intro _;simp
 | cons h r ih=>
  rename_i st L
  intro hf
  have h1:=ih hf.next
  have h2:=hf.lt h
  have h3:=hf.next.place
  simp only [List.length_cons]
  omega
def SimR (s:ByteArray):Res→TRes→Prop
 | .ok t st,.ok t' ts=>qn0 t=t'∧Str s st ts.toks∧st.op=ts.op∧Fine s st
 | .err en _,.err en'=>en=en'
 | _,_=>False
def Sim (s:ByteArray) (f:St→Res) (f':TS→TRes):Prop:=∀st ts,Fine s st→Str s st ts.toks→st.op=ts.op→SimR s (f st) (f' ts)
end
section
theorem SimR.cases {s:ByteArray} {r:Res} {r':TRes} (h:SimR s r r'):(∃t st ts,r=.ok t st∧r'=.ok (qn0 t) ts∧Str s st ts.toks∧st.op=ts.op∧Fine s st)∨∃en pl,r=.err en pl∧r'=.err en:=by
 cases r with
 | ok t st=>
  cases r' with
  | ok t' ts=>obtain ⟨rfl,h2,h3,h4⟩:=h;exact .inl ⟨t,st,ts,rfl,rfl,h2,h3,h4⟩
  | err en=>exact h.elim
 | err en pl=>
  cases r' with
  | ok t' ts=>exact h.elim
  | err en'=>obtain rfl:en=en':=h;exact .inr ⟨en,pl,rfl,rfl⟩
theorem qi3 {s:ByteArray} {st:St} {ts:TS} (h:Str s st ts.toks):ts.tk=st.tk:=h.tk
theorem Sim.join {s:ByteArray} {f:St→Res} {f':TS→TRes} (h:Sim s f f') (st:St) (ts:TS) (l:Ast) (hf:Fine s st) (hs:Str s st ts.toks) (ho:st.op=ts.op) (hk:st.tk.kind≠0):SimR s (qc9 s f st l) (vd0 f' ts (qn0 l)):=by
 have:=h (j3 s st) ts.next hf.next (hs.next hk) ho
 unfold qc9 vd0
 rw [qi3 hs]
 rcases this.cases with ⟨t,st2,ts2,h1,h2,h3,h4,h5⟩|⟨en,pl,h1,h2⟩
 ·rw [h1,h2];exact ⟨rfl,h3,h4,h5⟩
 ·rw [h1,h2];rfl
def Shr (f:TS→TRes):Prop:=∀ts t ts',f ts=.ok t ts'→ts'.toks.length≤ts.toks.length
def ShrT (g:Ast→TS→TRes):Prop:=∀l ts t ts',g l ts=.ok t ts'→ts'.toks.length≤ts.toks.length
theorem vb9 (L:List Tk):L.tail.length≤L.length:=by rw [List.length_tail];omega
theorem qc8 (ts:TS):ts.next.toks.length≤ts.toks.length:=vb9 _
theorem Shr.join {f:TS→TRes} (h:Shr f) (ts:TS) (l t:Ast) (ts':TS) (he:vd0 f ts l=.ok t ts'):ts'.toks.length≤ts.next.toks.length:=by
 unfold vd0 at he
 split at he
 ·rename_i hr;injection he with _ h2;subst h2;exact h _ _ _ hr
 ·cases he
theorem Shr.loop {f:TS→TRes} (h:Shr f) (ks:List Int):∀n l ts t ts',va3 f ks n l ts=.ok t ts'→ts'.toks.length≤ts.toks.length:=by
 intro n
 induction n with
 | zero=>intro l ts t ts' he;rw [va3] at he;injection he with _ h2;subst h2;exact Nat.le_refl _
 | succ n ih=>
  intro l ts t ts' he
  rw [va3] at he
  split at he
  ·split at he
   ·rename_i hj;exact Nat.le_trans (ih _ _ _ _ he) (Nat.le_trans (h.join _ _ _ _ hj) (qc8 _))
   ·cases he
  ·injection he with _ h2;subst h2;exact Nat.le_refl _
theorem Shr.row {f:TS→TRes} (h:Shr f) (ks:List Int):Shr (jf4 f ks):=by
 intro ts t ts' he
 unfold jf4 at he
 split at he
 ·rename_i hr;exact Nat.le_trans (h.loop ks _ _ _ _ _ he) (h _ _ _ hr)
 ·cases he
theorem Shr.sign {f:TS→TRes} (h:Shr f) (o:Int):Shr (vd1 f o):=by
 intro ts t ts' he
 unfold vd1 at he
 split at he
 ·cases he
 ·split at he
  ·rename_i hr
   have h3:=h _ _ _ hr
   injection he with _ h2;subst h2;exact Nat.le_trans h3 (vb9 ts.toks)
  ·cases he
theorem Shr.group {f:TS→TRes} (h:Shr f):Shr (qx0 f):=by
 intro ts t ts' he
 unfold qx0 at he
 split at he
 ·cases he
 ·split at he
  ·rename_i hr;split at he
   ·have h3:=h _ _ _ hr
    injection he with _ h2;subst h2;exact Nat.le_trans (vb9 _) (Nat.le_trans h3 (vb9 ts.toks))
   ·cases he
  ·cases he
theorem Shr.signed {fS fE:TS→TRes} (hS:Shr fS) (hE:Shr fE):Shr (qq7 fS fE):=by
 intro ts t ts' he
 unfold qq7 at he
 split at he
 ·exact hS.sign 14 _ _ _ he
 split at he
 ·exact hS.sign 15 _ _ _ he
 split at he
 ·exact hE.group _ _ _ he
 split at he
 ·injection he with _ h2;subst h2;exact qc8 _
 split at he
 ·injection he with _ h2;subst h2;exact qc8 _
 split at he
 ·injection he with _ h2;subst h2;exact qc8 _
 split at he
 ·injection he with _ h2;subst h2;exact qc8 _
 split at he
 ·injection he with _ h2;subst h2;exact qc8 _
 ·cases he
theorem jn0:ShrT tIsNull:=by
 intro l ts t ts' he
 unfold tIsNull at he
 split at he
 ·split at he
  ·injection he with _ h2;subst h2;exact Nat.le_trans (qc8 _) (Nat.le_trans (qc8 _) (qc8 _))
  ·cases he
 ·split at he
  ·injection he with _ h2;subst h2;exact Nat.le_trans (qc8 _) (qc8 _)
  ·cases he
theorem jm9 (l:Ast):∀n xs ts t ts',qn3 l n xs ts=.ok t ts'→ts'.toks.length≤ts.toks.length:=by
 intro n
 induction n with
 | zero=>intro xs ts t ts' he;rw [qn3] at he;cases he
 | succ n ih=>
  intro xs ts t ts' he
  rw [qn3] at he
  split at he
  ·split at he
   ·exact Nat.le_trans (ih _ _ _ _ he) (Nat.le_trans (qc8 _) (qc8 _))
   ·cases he
  ·split at he
   ·injection he with _ h2;subst h2;exact qc8 _
   ·cases he
theorem shr_in:ShrT tInRes:=by
 intro l ts t ts' he
 unfold tInRes at he
 split at he
 ·split at he
  ·exact Nat.le_trans (jm9 l _ _ _ _ _ he) (Nat.le_trans (qc8 _) (Nat.le_trans (qc8 _) (qc8 _)))
  ·cases he
 ·cases he
theorem shr_like:ShrT tLike:=by
 intro l ts t ts' he
 unfold tLike at he
 split at he
 ·split at he
  ·split at he
   ·injection he with _ h2;subst h2;exact Nat.le_trans (qc8 _) (Nat.le_trans (qc8 _) (Nat.le_trans (qc8 _) (qc8 _)))
   ·cases he
  ·injection he with _ h2;subst h2;exact Nat.le_trans (qc8 _) (qc8 _)
 ·cases he
theorem Shr.between {f:TS→TRes} (h:Shr f):ShrT (qn8 f):=by
 intro l ts t ts' he
 unfold qn8 at he
 split at he
 ·split at he
  ·rename_i h1;split at he
   ·split at he
    ·rename_i h2;injection he with _ h3;subst h3
     exact Nat.le_trans (h _ _ _ h2) (Nat.le_trans (qc8 _) (Nat.le_trans (h _ _ _ h1) (qc8 _)))
    ·cases he
   ·cases he
  ·cases he
 ·cases he
theorem Shr.keyword {f:TS→TRes} (h:Shr f) (bare:Bool):ShrT (qk3 f bare):=by
 intro l ts t ts' he
 unfold qk3 at he
 split at he
 ·exact shr_in _ _ _ _ he
 split at he
 ·exact shr_like _ _ _ _ he
 ·exact h.between _ _ _ _ he
theorem Shr.test {f:TS→TRes} (h:Shr f):Shr (vi5 f):=by
 intro ts t ts' he
 unfold vi5 at he
 split at he
 ·rename_i hr
  refine Nat.le_trans ?_ (h _ _ _ hr)
  unfold vi4 at he
  split at he
  ·exact Nat.le_trans (h.join _ _ _ _ he) (qc8 _)
  split at he
  ·split at he
   ·exact jn0 _ _ _ _ he
   ·injection he with _ h2;subst h2;exact Nat.le_refl _
  split at he
  ·split at he
   ·rename_i hk;injection he with _ h2;subst h2;exact Nat.le_trans (h.keyword _ _ _ _ _ hk) (qc8 _)
   ·cases he
  split at he
  ·exact h.keyword _ _ _ _ _ he
  ·injection he with _ h2;subst h2;exact Nat.le_refl _
 ·cases he
theorem Shr.denied {fD fT:TS→TRes} (hD:Shr fD) (hT:Shr fT):Shr (qr6 fD fT):=by
 intro ts t ts' he
 unfold qr6 at he
 split at he
 ·exact hD.sign 5 _ _ _ he
 ·exact hT _ _ _ he
end
section
theorem Str.tail_lt {s:ByteArray} {st:St} {L:List Tk} (h:Str s st L) (hk:st.tk.kind≠0):L.tail.length<L.length:=by
 cases h with
 | nil h=>rw [h] at hk;exact absurd rfl hk
 | cons _ _=>simp
theorem Sim.loop {s:ByteArray} {f:St→Res} {f':TS→TRes} (h:Sim s f f') (hf':Shr f') (ks:List Int) (hk0:ks.contains 0=false):∀n n' l st ts,ts.toks.length<n→ts.toks.length<n'→Fine s st→Str s st ts.toks→st.op=ts.op→SimR s (qb7 s f ks n l st) (va3 f' ks n' (qn0 l) ts):=by
 intro n
 induction n with
 | zero=>intro n' l st ts h1;omega
 | succ n ih=>
  intro n' l st ts h1 h2 hfi hs ho
  obtain ⟨m,rfl⟩:∃m,n'=m+1:=⟨n' - 1,by omega⟩
  rw [qb7,va3,qi3 hs]
  by_cases hc:ks.contains st.tk.kind=true
  ·have hk:st.tk.kind≠0:=fun e=>by rw [e,hk0] at hc;cases hc
   rw [if_pos hc,if_pos hc]
   have hlen:ts.next.toks.length<ts.toks.length:=hs.tail_lt hk
   rcases (h.join st ts l hfi hs ho hk).cases with ⟨t,st2,ts2,e1,e2,e3,e4,e5⟩|⟨en,pl,e1,e2⟩
   ·have hl:=hf'.join _ _ _ _ e2
    rw [e1,e2]
    exact ih m t st2 ts2 (by omega) (by omega) e5 e3 e4
   ·rw [e1,e2];rfl
  ·rw [if_neg hc,if_neg hc]
   exact ⟨rfl,hs,ho,hfi⟩
theorem Sim.row {s:ByteArray} {f:St→Res} {f':TS→TRes} (h:Sim s f f') (hf':Shr f') (ks:List Int) (hk0:ks.contains 0=false):Sim s (qe4 s f ks) (jf4 f' ks):=by
 intro st ts hfi hs ho
 unfold qe4 jf4
 rcases (h st ts hfi hs ho).cases with ⟨t,st2,ts2,e1,e2,e3,e4,e5⟩|⟨en,pl,e1,e2⟩
 ·rw [e1,e2]
  have hl:=e3.len e5
  exact h.loop hf' ks hk0 _ _ t st2 ts2 (by omega) (by omega) e5 e3 e4
 ·rw [e1,e2];rfl
theorem Sim.sign {s:ByteArray} {f:St→Res} {f':TS→TRes} (h:Sim s f f') (o:Int) (st:St) (ts:TS) (hfi:Fine s st) (hs:Str s st ts.toks) (ho:st.op=ts.op) (hk:st.tk.kind≠0):SimR s (qd7 s f o st) (vd1 f' o ts):=by
 unfold qd7 vd1
 rw [ho]
 split
 ·rfl
 ·rcases (h (qk8 s st) (tIn ts) (hfi.next.op _) ((hs.next hk).withOp _) (by show st.op+1=ts.op+1;rw [ho])).cases with ⟨t,st2,ts2,e1,e2,e3,e4,e5⟩|⟨en,pl,e1,e2⟩
  ·rw [e1,e2];exact ⟨rfl,e3.withOp _,rfl,e5.op _⟩
  ·rw [e1,e2];rfl
theorem Sim.group {s:ByteArray} {f:St→Res} {f':TS→TRes} (h:Sim s f f') (st:St) (ts:TS) (hfi:Fine s st) (hs:Str s st ts.toks) (ho:st.op=ts.op) (hk:st.tk.kind≠0):SimR s (qd5 s f st) (qx0 f' ts):=by
 unfold qd5 qx0
 rw [ho]
 split
 ·rfl
 ·rcases (h (qk8 s st) (tIn ts) (hfi.next.op _) ((hs.next hk).withOp _) (by show st.op+1=ts.op+1;rw [ho])).cases with ⟨t,st2,ts2,e1,e2,e3,e4,e5⟩|⟨en,pl,e1,e2⟩
  ·rw [e1,e2]
   show SimR s (if st2.tk.kind=27 then _ else _) (if ts2.tk.kind=27 then _ else _)
   rw [qi3 e3]
   by_cases h27:st2.tk.kind=27
   ·rw [if_pos h27,if_pos h27]
    exact ⟨rfl,(e3.next (by rw [h27];decide)).withOp _,rfl,e5.next.op _⟩
   ·rw [if_neg h27,if_neg h27];rfl
  ·rw [e1,e2];rfl
theorem Sim.signed {s:ByteArray} {fS fE:St→Res} {fS' fE':TS→TRes} (hS:Sim s fS fS') (hE:Sim s fE fE'):Sim s (qc6 s fS fE) (qq7 fS' fE'):=by
 intro st ts hfi hs ho
 unfold qc6 qq7
 rw [qi3 hs]
 by_cases h22:st.tk.kind=22
 ·rw [if_pos h22,if_pos h22];exact hS.sign 14 st ts hfi hs ho (by rw [h22];decide)
 rw [if_neg h22,if_neg h22]
 by_cases h23:st.tk.kind=23
 ·rw [if_pos h23,if_pos h23];exact hS.sign 15 st ts hfi hs ho (by rw [h23];decide)
 rw [if_neg h23,if_neg h23]
 by_cases h26:st.tk.kind=26
 ·rw [if_pos h26,if_pos h26];exact hE.group st ts hfi hs ho (by rw [h26];decide)
 rw [if_neg h26,if_neg h26]
 by_cases h2:st.tk.kind=2
 ·rw [if_pos h2,if_pos h2];exact ⟨rfl,hs.next (by rw [h2];decide),ho,hfi.next⟩
 rw [if_neg h2,if_neg h2]
 by_cases h3:st.tk.kind=3
 ·rw [if_pos h3,if_pos h3];exact ⟨rfl,hs.next (by rw [h3];decide),ho,hfi.next⟩
 rw [if_neg h3,if_neg h3]
 by_cases h4:st.tk.kind=4
 ·rw [if_pos h4,if_pos h4];exact ⟨rfl,hs.next (by rw [h4];decide),ho,hfi.next⟩
 rw [if_neg h4,if_neg h4]
 by_cases h8:st.tk.kind=8
 ·rw [if_pos h8,if_pos h8];exact ⟨rfl,hs.next (by rw [h8];decide),ho,hfi.next⟩
 rw [if_neg h8,if_neg h8]
 by_cases h9:st.tk.kind=9
 ·rw [if_pos h9,if_pos h9];exact ⟨rfl,hs.next (by rw [h9];decide),ho,hfi.next⟩
 rw [if_neg h9,if_neg h9]
 rfl
theorem Sim.denied {s:ByteArray} {fD fT:St→Res} {fD' fT':TS→TRes} (hD:Sim s fD fD') (hT:Sim s fT fT'):Sim s (qe1 s fD fT) (qr6 fD' fT'):=by
 intro st ts hfi hs ho
 unfold qe1 qr6
 rw [qi3 hs]
 by_cases h7:st.tk.kind=7
 ·rw [if_pos h7,if_pos h7];exact hD.sign 5 st ts hfi hs ho (by rw [h7];decide)
 ·rw [if_neg h7,if_neg h7];exact hT st ts hfi hs ho
end
section
def SimT (s:ByteArray) (k:Int) (g:Ast→St→Res) (g':Ast→TS→TRes):Prop:=∀l st ts,Fine s st→Str s st ts.toks→st.op=ts.op→st.tk.kind=k→SimR s (g l st) (g' (qn0 l) ts)
theorem go1 {s:ByteArray} {st:St} {ts:TS} (hfi:Fine s st) (hs:Str s st ts.toks) (ho:st.op=ts.op) (hk:st.tk.kind≠0):Fine s (j3 s st)∧Str s (j3 s st) ts.next.toks∧(j3 s st).op=ts.next.op:=⟨hfi.next,hs.next hk,ho⟩
theorem jn2 (s:ByteArray):SimT s 14 (qd2 s) tIsNull:=by
 intro l st ts hfi hs ho hk
 obtain ⟨f1,s1,o1⟩:=go1 hfi hs ho (by rw [hk];decide)
 unfold qd2 tIsNull
 rw [qi3 s1]
 by_cases h7:(j3 s st).tk.kind=7
 ·rw [if_pos h7,if_pos h7]
  obtain ⟨f2,s2,o2⟩:=go1 f1 s1 o1 (by rw [h7];decide)
  rw [qi3 s2]
  by_cases h15:(j3 s (j3 s st)).tk.kind=15
  ·rw [if_pos h15,if_pos h15]
   obtain ⟨f3,s3,o3⟩:=go1 f2 s2 o2 (by rw [h15];decide)
   exact ⟨rfl,s3,o3,f3⟩
  ·rw [if_neg h15,if_neg h15];rfl
 ·rw [if_neg h7,if_neg h7]
  by_cases h15:(j3 s st).tk.kind=15
  ·rw [if_pos h15,if_pos h15]
   obtain ⟨f2,s2,o2⟩:=go1 f1 s1 o1 (by rw [h15];decide)
   exact ⟨rfl,s2,o2,f2⟩
  ·rw [if_neg h15,if_neg h15];rfl
theorem Sim.between {s:ByteArray} {f:St→Res} {f':TS→TRes} (h:Sim s f f'):∀l st ts,Fine s st→Str s st ts.toks→st.op=ts.op→SimR s (qa8 s f l st) (qn8 f' (qn0 l) ts):=by
 intro l st ts hfi hs ho
 unfold qa8 qn8
 rw [qi3 hs]
 by_cases h10:st.tk.kind=10
 ·rw [if_pos h10,if_pos h10]
  obtain ⟨f1,s1,o1⟩:=go1 hfi hs ho (by rw [h10];decide)
  rcases (h _ _ f1 s1 o1).cases with ⟨t,st2,ts2,e1,e2,e3,e4,e5⟩|⟨en,pl,e1,e2⟩
  ·rw [e1,e2]
   show SimR s (if st2.tk.kind=5 then _ else _) (if ts2.tk.kind=5 then _ else _)
   rw [qi3 e3]
   by_cases h5:st2.tk.kind=5
   ·rw [if_pos h5,if_pos h5]
    obtain ⟨f3,s3,o3⟩:=go1 e5 e3 e4 (by rw [h5];decide)
    rcases (h _ _ f3 s3 o3).cases with ⟨t3,st3,ts3,g1,g2,g3,g4,g5⟩|⟨en,pl,g1,g2⟩
    ·rw [g1,g2];exact ⟨rfl,g3,g4,g5⟩
    ·rw [g1,g2];rfl
   ·rw [if_neg h5,if_neg h5];rfl
  ·rw [e1,e2];rfl
 ·rw [if_neg h10,if_neg h10];rfl
theorem jn1 (s:ByteArray) (l:Ast) (pl:Nat):∀n n' xs st ts,ts.toks.length<n→ts.toks.length<n'→Fine s st→Str s st ts.toks→st.op=ts.op→SimR s (qf5 s l pl n xs st) (qn3 (qn0 l) n' xs ts):=by
 intro n
 induction n with
 | zero=>intro n' xs st ts h1;omega
 | succ n ih=>
  intro n' xs st ts h1 h2 hfi hs ho
  obtain ⟨m,rfl⟩:∃m,n'=m+1:=⟨n' - 1,by omega⟩
  rw [qf5,qn3,qi3 hs]
  by_cases h28:st.tk.kind=28
  ·rw [if_pos h28,if_pos h28]
   have hk:st.tk.kind≠0:=by rw [h28];decide
   obtain ⟨f1,s1,o1⟩:=go1 hfi hs ho hk
   have t1:ts.next.toks.length<ts.toks.length:=hs.tail_lt hk
   rw [qi3 s1]
   by_cases h4:(j3 s st).tk.kind=4
   ·rw [if_pos h4,if_pos h4]
    obtain ⟨f2,s2,o2⟩:=go1 f1 s1 o1 (by rw [h4];decide)
    have t2:=qc8 ts.next
    exact ih m _ _ _ (by omega) (by omega) f2 s2 o2
   ·rw [if_neg h4,if_neg h4];rfl
  ·rw [if_neg h28,if_neg h28]
   by_cases h27:st.tk.kind=27
   ·rw [if_pos h27,if_pos h27]
    obtain ⟨f1,s1,o1⟩:=go1 hfi hs ho (by rw [h27];decide)
    exact ⟨rfl,s1,o1,f1⟩
   ·rw [if_neg h27,if_neg h27];rfl
theorem sim_in (s:ByteArray):SimT s 11 (qh5 s) tInRes:=by
 intro l st ts hfi hs ho hk
 obtain ⟨f1,s1,o1⟩:=go1 hfi hs ho (by rw [hk];decide)
 unfold qh5 tInRes
 rw [qi3 s1]
 by_cases h26:(j3 s st).tk.kind=26
 ·rw [if_pos h26,if_pos h26]
  obtain ⟨f2,s2,o2⟩:=go1 f1 s1 o1 (by rw [h26];decide)
  rw [qi3 s2]
  by_cases h4:(j3 s (j3 s st)).tk.kind=4
  ·rw [if_pos h4,if_pos h4]
   obtain ⟨f3,s3,o3⟩:=go1 f2 s2 o2 (by rw [h4];decide)
   have hl:=s3.len f3
   have l1:=qc8 ts
   have l2:=qc8 ts.next
   have l3:=qc8 ts.next.next
   exact jn1 s l st.place _ _ _ _ _ (by omega) (by omega) f3 s3 o3
  ·rw [if_neg h4,if_neg h4];rfl
 ·rw [if_neg h26,if_neg h26];rfl
theorem sim_like (s:ByteArray):SimT s 12 (qb6 s) tLike:=by
 intro l st ts hfi hs ho hk
 obtain ⟨f1,s1,o1⟩:=go1 hfi hs ho (by rw [hk];decide)
 unfold qb6 tLike
 rw [qi3 s1]
 by_cases h4:(j3 s st).tk.kind=4
 ·rw [if_pos h4,if_pos h4]
  obtain ⟨f2,s2,o2⟩:=go1 f1 s1 o1 (by rw [h4];decide)
  rw [qi3 s2]
  by_cases h13:(j3 s (j3 s st)).tk.kind=13
  ·rw [if_pos h13,if_pos h13]
   obtain ⟨f3,s3,o3⟩:=go1 f2 s2 o2 (by rw [h13];decide)
   rw [qi3 s3]
   unfold qq3
   by_cases g4:(j3 s (j3 s (j3 s st))).tk.kind=4
   ·rw [if_pos g4]
    by_cases g1:(j3 s (j3 s (j3 s st))).tk.str.length=1
    ·rw [if_pos g1]
     by_cases g2:(qs2 (j3 s (j3 s (j3 s st))).tk.str (j3 s st).tk.str).isSome=true
     ·rw [if_pos g2,if_pos ⟨g4,g1,g2⟩]
      obtain ⟨f4,s4,o4⟩:=go1 f3 s3 o3 (by rw [g4];decide)
      exact ⟨rfl,s4,o4,f4⟩
     ·rw [if_neg g2,if_neg (fun h=>g2 h.2.2)];rfl
    ·rw [if_neg g1,if_neg (fun h=>g1 h.2.1)];rfl
   ·rw [if_neg g4,if_neg (fun h=>g4 h.1)];rfl
  ·rw [if_neg h13,if_neg h13]
   exact ⟨rfl,s2,o2,f2⟩
 ·rw [if_neg h4,if_neg h4];rfl
theorem Sim.keyword {s:ByteArray} {f:St→Res} {f':TS→TRes} (h:Sim s f f') (bare:Bool) (l:Ast) (st:St) (ts:TS) (hfi:Fine s st) (hs:Str s st ts.toks) (ho:st.op=ts.op):SimR s (qb1 s f (qh5 s) (qb6 s) bare l st) (qk3 f' bare (qn0 l) ts):=by
 unfold qb1 qk3
 rw [qi3 hs]
 by_cases h11:st.tk.kind=11∧bare=true
 ·rw [if_pos h11,if_pos h11];exact sim_in s l st ts hfi hs ho h11.1
 rw [if_neg h11,if_neg h11]
 by_cases h12:st.tk.kind=12∧bare=true
 ·rw [if_pos h12,if_pos h12];exact sim_like s l st ts hfi hs ho h12.1
 rw [if_neg h12,if_neg h12]
 exact h.between l st ts hfi hs ho
theorem Sim.tail {s:ByteArray} {f:St→Res} {f':TS→TRes} (h:Sim s f f') (bare:Bool) (l:Ast) (st:St) (ts:TS) (hfi:Fine s st) (hs:Str s st ts.toks) (ho:st.op=ts.op):SimR s (qb5 s f (qh5 s) (qb6 s) bare l st) (vi4 f' bare (qn0 l) ts):=by
 unfold qb5 vi4
 rw [qi3 hs]
 by_cases h16:st.tk.kind=16∨st.tk.kind=17∨st.tk.kind=18∨st.tk.kind=19∨st.tk.kind=20∨st.tk.kind=21
 ·rw [if_pos h16,if_pos h16];exact h.join st ts l hfi hs ho (by omega)
 rw [if_neg h16,if_neg h16]
 by_cases h14:st.tk.kind=14
 ·rw [if_pos h14,if_pos h14]
  cases bare
  ·exact ⟨rfl,hs,ho,hfi⟩
  ·exact jn2 s l st ts hfi hs ho h14
 rw [if_neg h14,if_neg h14]
 by_cases h7:st.tk.kind=7
 ·rw [if_pos h7,if_pos h7]
  obtain ⟨f1,s1,o1⟩:=go1 hfi hs ho (by rw [h7];decide)
  rcases (h.keyword bare l _ _ f1 s1 o1).cases with ⟨t,st2,ts2,e1,e2,e3,e4,e5⟩|⟨en,pl,e1,e2⟩
  ·rw [e1,e2];exact ⟨rfl,e3,e4,e5⟩
  ·rw [e1,e2];rfl
 rw [if_neg h7,if_neg h7]
 by_cases h10:st.tk.kind=10∨st.tk.kind=11∨st.tk.kind=12
 ·rw [if_pos h10,if_pos h10];exact h.keyword bare l st ts hfi hs ho
 ·rw [if_neg h10,if_neg h10];exact ⟨rfl,hs,ho,hfi⟩
theorem Sim.test {s:ByteArray} {f:St→Res} {f':TS→TRes} (h:Sim s f f'):Sim s (qg1 s f (qh5 s) (qb6 s)) (vi5 f'):=by
 intro st ts hfi hs ho
 unfold qg1 vi5
 rcases (h st ts hfi hs ho).cases with ⟨t,st2,ts2,e1,e2,e3,e4,e5⟩|⟨en,pl,e1,e2⟩
 ·rw [e1,e2]
  show SimR s (qb5 s f (qh5 s) (qb6 s) (qe6 st t) t st2) (vi4 f' (ts.tk.kind==2&&opA (qn0 t)==0) (qn0 t) ts2)
  rw [qi3 hs,vt7]
  exact h.tail _ t st2 ts2 e5 e3 e4
 ·rw [e1,e2];rfl
structure Sim3 (s:ByteArray) (L:L3) (L':T3):Prop where
 S:Sim s L.S L'.S
 D:Sim s L.D L'.D
 E:Sim s L.E L'.E
 s':Shr L'.S
 d':Shr L'.D
 e':Shr L'.E
theorem sim_up {s:ByteArray} {L:L3} {L':T3} (h:Sim3 s L L'):Sim3 s (up3 s L) (tUp L'):=by
 have hS:=Sim.signed h.S h.E
 have zS:=Shr.signed h.s' h.e'
 have hP:=hS.row zS [24,25] rfl
 have zP:=zS.row [24,25]
 have hU:=hP.row zP [22,23] rfl
 have zU:=zP.row [22,23]
 have hT:=hU.test
 have zT:=zU.test
 have hD:=Sim.denied h.D hT
 have zD:=Shr.denied h.d' zT
 have hB:=hD.row zD [5] rfl
 have zB:=zD.row [5]
 exact ⟨hS,hD,hB.row zB [6] rfl,zS,zD,zB.row [6]⟩
theorem jc8 (s:ByteArray):∀d,Sim3 s (lvl s d) (tLvl d):=by
 intro d
 induction d with
 | zero=>exact sim_up ⟨(fun _ _ _ _ _=>rfl),(fun _ _ _ _ _=>rfl),(fun _ _ _ _ _=>rfl),(fun _ _ _ h=>by cases h),(fun _ _ _ h=>by cases h),(fun _ _ _ h=>by cases h)⟩
 | succ d ih=>exact sim_up ih
end
end Go.Proofs.YtfkcaldjphakpaaGreatDoor
