/- Read's deferred function. -/
import Derived.Test.YtfkcaldjphakpaaGreatDoorM08
import Derived.Defers
import Derived.Recover
import Derived.Laws.Pointers
import Derived.Test.YtfkcaldjphakpaaGreatDoorM15
set_option maxHeartbeats 16000000
set_option maxRecDepth 100000
namespace Go.Proofs.YtfkcaldjphakpaaGreatDoor
open Go.RowKit Go.Proofs.Tryz
section
theorem ju1(p0 p1 p2:Addr)(w:World):
  CallsD prog 53 #[.pointer (some p0),.pointer (some p1),.pointer (some p2)] .returning w λe u' w'=>e=.returned (.tuple #[])/\u'=.returning/\w'=w:=by
 refine callsD_of_wpS func53 rfl λc₀ cs hu=>?_
 apply wpS_seq;apply wpS_region;simp[wpOpsS,go_sem,recoverD,hu,ntmps53,Exit.thenS];refine wpS_of_wp ?_;rw[show(#[Value.pointer (some p0),Value.pointer (some p1),Value.pointer (some p2)]++(Array.replicate 13 undef).setIfInBounds 3 Value.nilIface)=#[Value.pointer (some p0),Value.pointer (some p1),Value.pointer (some p2),undef,undef,undef,Value.nilIface,undef,undef,undef,undef,undef,undef,undef,undef,undef] from rfl]
 go_wp2_with fail
 refine⟨rfl,.returning, ?_,_,results_none rfl _ _ _,rfl,rfl,rfl⟩;cases c₀
 simp_all
theorem as_fault(v:Value)(w:World):(Instr.typeAssert (.iface 88 v) 20 88 true).run prog w=.ok (.tuple #[v,.bool true]) w:=by kernel_rfl
theorem eq_fault(v:Value)(w:World):(binOp .eql 20 (.iface 88 v) .nilIface).run prog w=.ok (.bool false) w:=by kernel_rfl
theorem qq2(B:Nat)(x0 x1 x2:Value)(en pl:Int)(older:List PanicEntry)(w:World)(hB:B+2<w.heap.size)(h0:w.cell? ⟨B,0,none⟩=some x0)(h1:w.cell? ⟨B+1,0,none⟩=some x1)(h2:w.cell? ⟨B+2,0,none⟩=some x2)
  (f0:w.frozen? ⟨B,0,none⟩=false) (f1:w.frozen? ⟨B+1,0,none⟩=false) (f2:w.frozen? ⟨B+2,0,none⟩=false) :
  CallsD prog 53 #[.pointer (some ⟨B,0,none⟩),.pointer (some ⟨B+1,0,none⟩),.pointer (some ⟨B+2,0,none⟩)] (.panicking ({ v:=.iface 88 (.agg #[.int .i64 en,.int .i64 pl]),recovered:=false }::older)) w λe u' w'=>
   e=.returned (.tuple #[])/\u'=.panicking ({ v:=.iface 88 (.agg #[.int .i64 en,.int .i64 pl]),recovered:=true }::older) /\
   w'.cell? ⟨B,0,none⟩=some (.pointer none)/\w'.cell? ⟨B+1,0,none⟩=some (.int .i64 en)/\w'.cell? ⟨B+2,0,none⟩=some (.int .i64 pl)/\Below B w w':=by
 refine callsD_of_wpS func53 rfl λc₀ cs hu=>?_
 apply wpS_seq;apply wpS_region;simp[wpOpsS,go_sem,recoverD,hu,ntmps53,Exit.thenS];refine wpS_of_wp ?_;rw[show(#[Value.pointer (some ⟨B,0,none⟩),Value.pointer (some ⟨B+1,0,none⟩),Value.pointer (some ⟨B+2,0,none⟩)]++(Array.replicate 13 undef).setIfInBounds 3 (.iface 88 (.agg #[.int .i64 en,.int .i64 pl])))=#[Value.pointer (some ⟨B,0,none⟩),Value.pointer (some ⟨B+1,0,none⟩),Value.pointer (some ⟨B+2,0,none⟩),undef,undef,undef,.iface 88 (.agg #[.int .i64 en,.int .i64 pl]),undef,undef,undef,undef,undef,undef,undef,undef,undef] from rfl];have ha:=as_fault;have hq:=eq_fault;have n0:B<w.heap.size:=by omega
 have n1:B+1<w.heap.size:=by omega
 have m0:¬w.heap.size=B:=by omega
 have m1:¬w.heap.size=B+1:=by omega
 have m2:¬w.heap.size=B+2:=by omega
 go_wp2_with fail
 go_region
 all_goals refine⟨rfl,.panicking ({ v:=.iface 88 (.agg #[.int .i64 en,.int .i64 pl]),recovered:=true }::older), ?_,_,results_none rfl _ _ _,rfl,rfl, ?_, ?_, ?_, ?_⟩
 ·cases c₀
  simp_all
 ·rw[World.cell?_drew,World.cell?_alloc_past _ _ _ (by simp;omega)];simp[go_sem,h0]
 ·rw[World.cell?_drew,World.cell?_alloc_past _ _ _ (by simp;omega)];simp[go_sem,h1]
 ·rw[World.cell?_drew,World.cell?_alloc_past _ _ _ (by simp;omega)];simp[go_sem,h2]
 ·exact(((((Below.refl B w).setCell (Nat.le_refl _) _).setCell (by simp) _).setCell (by simp) _).alloc (by simp;omega) _).drew
end
section
structure Above(lo:Nat)(w w':World):Prop where
 size:w.heap.size<=w'.heap.size
 block:∀k,lo<k->k<w.heap.size->w'.heap[k]?=w.heap[k]?
theorem Kept.above{rb:Nat}{w w':World}(h:Kept rb w w'):Above rb w w':=⟨h.size,λk h1 h2=>h.block k h2 (by omega)⟩
theorem Above.trans{lo:Nat}{a b c:World}(h:Above lo a b)(k:Above lo b c):Above lo a c:=⟨Nat.le_trans h.size k.size,λi h1 h2=>(k.block i h1 (Nat.lt_of_lt_of_le h2 h.size)).trans (h.block i h1 h2)⟩
theorem Above.setCell{lo:Nat}{a w:World}(h:Above lo a w){p:Addr}(hp:p.block<=lo)(u:Value):Above lo a (w.setCell p u):=by
 refine⟨by rw[size_setCell];exact h.size,λk h1 h2=>?_⟩;rw[Below.heap_setCell w p u k (by omega)];exact h.block k h1 h2
theorem Above.cell{lo:Nat}{w w':World}(h:Above lo w w'){g:Nat}(h1:lo<g)(h2:g<w.heap.size)(j:Nat):w'.cell? ⟨g,j,none⟩=w.cell? ⟨g,j,none⟩:=
 World.cell?_of_block (w:=w) (w':=w') (a:=⟨g,j,none⟩) (h.block g h1 h2)
theorem TextsAt.keptA{lo:Nat}{w w':World}(hk:Above lo w w'){v:Value}{ts:List (List UInt8)}(h:TextsAt lo w v ts):TextsAt lo w' v ts:=by
 rcases h with h|⟨g,cap,hv,hg,O4,hc⟩
 ·exact .inl h
 ·exact .inr ⟨g,cap,hv,hg,Nat.lt_of_lt_of_le O4 hk.size,λj t ht=>(hk.cell hg O4 j).trans (hc j t ht)⟩
theorem NodeAt.keptA{lo:Nat}{w w':World}(hk:Above lo w w'){b:Nat}{p:Pay}{sides:Value}(h:NodeAt lo w b p sides):NodeAt lo w' b p sides:=by
 obtain⟨h1,h2,c0,c1,c2,c3,c4,c5,tv,c6,ht⟩:=h;have hc:=λj=>hk.cell h1 h2 j
 exact⟨h1,Nat.lt_of_lt_of_le h2 hk.size,(hc 0).trans c0,(hc 1).trans c1,(hc 2).trans c2,(hc 3).trans c3,(hc 4).trans c4,(hc 5).trans c5,tv,(hc 6).trans c6,ht.keptA hk⟩
theorem IsNode.above{lo:Nat}{w w':World}(hk:Above lo w w'):∀{t:Ast} {v:Value},IsNode lo w v t->IsNode lo w' v t:=by
 have hc:=λg j (h1:lo<g) (h2:g<w.heap.size)=>hk.cell h1 h2 j
 intro t
 induction t with
 | leaf p=>rintro v⟨b,rfl,h⟩;exact⟨b,rfl,h.keptA hk⟩
 | un p x ih=>
  rintro v⟨b,g,v1,rfl,h,h1,h2,e1,n1⟩;exact⟨b,g,v1,rfl,h.keptA hk,h1,Nat.lt_of_lt_of_le h2 hk.size,(hc g 0 h1 h2).trans e1,ih n1⟩
 | bin p x y ihx ihy=>
  rintro v⟨b,g,v1,v2,rfl,h,h1,h2,e1,e2,n1,n2⟩;exact⟨b,g,v1,v2,rfl,h.keptA hk,h1,Nat.lt_of_lt_of_le h2 hk.size,(hc g 0 h1 h2).trans e1,(hc g 1 h1 h2).trans e2,ihx n1,ihy n2⟩
 | tri p x y z ihx ihy ihz=>
  rintro v⟨b,g,v1,v2,v3,rfl,h,h1,h2,e1,e2,e3,n1,n2,n3⟩;exact⟨b,g,v1,v2,v3,rfl,h.keptA hk,h1,Nat.lt_of_lt_of_le h2 hk.size,(hc g 0 h1 h2).trans e1,(hc g 1 h1 h2).trans e2,(hc g 2 h1 h2).trans e3,ihx n1,ihy n2,ihz n3⟩
inductive RRes where
 | ok (t:Ast)
 | err (en pl:Int)
def st0:St:=⟨⟨0,0,[]⟩,0,0,0⟩
def jh3(t:Ast)(st:St):RRes:=if st.tk.kind=0 then(match zb3 (qb3 t) with
 | none=>.ok t
 | some q=>.err 4 q) else .err 2 st.place
def qg4(s:ByteArray):RRes:=if s.size<=200 then(match (lvl s 12).E (j4 s st0) with
 | .err en pl=>.err en pl
 | .ok t st=>jh3 t st) else .err 1 0
def ReadEnds(w:World)(r:RRes)(e:Ending)(w':World):Prop:=Below w.heap.size w w'/\match r with
 | .ok t=>∃v,e=.returned (.tuple #[v,.int .i64 0,.int .i64 0])/\IsNode (w.heap.size+3) w' v t
 | .err en pl=>e=.returned (.tuple #[.pointer none,.int .i64 en,.int .i64 pl])
theorem Kept.below{rb B:Nat}{a w w':World}(h:Kept rb w w')(hb:Below B a w)(hB:B<=rb)(hz:B<=w.heap.size):Below B a w':=
 ⟨h.os.trans hb.os,h.tape.trans hb.tape,h.output.trans hb.output,Nat.le_trans hb.size h.size,λk hk=>(h.block k (by omega) (by omega)).trans (hb.block k hk)⟩
def qz7(w:World)(s:ByteArray):World:=(((w.alloc (.cells #[.pointer none] 67)).alloc (.cells #[.int .i64 0] 41)).alloc (.cells #[.int .i64 0] 3)).alloc (.cells #[.string s,.int .i64 0,.int .i64 0,.int .i64 0,.string ⟨#[]⟩,.int .i64 0,.int .i64 0] 93)
theorem qy2(w:World)(s:ByteArray):(qz7 w s).heap.size=w.heap.size+4:=by simp[qz7]
theorem ji2(w:World)(s:ByteArray):Below w.heap.size w (qz7 w s):=(below3 w _ _ _).alloc (by simp;omega) _
theorem ji3(w:World)(s:ByteArray):(qz7 w s).cell? ⟨w.heap.size,0,none⟩=some (.pointer none)/\(qz7 w s).cell? ⟨w.heap.size+1,0,none⟩=some (.int .i64 0)/\(qz7 w s).cell? ⟨w.heap.size+2,0,none⟩=some (.int .i64 0) /\
  (qz7 w s).frozen? ⟨w.heap.size,0,none⟩=false/\(qz7 w s).frozen? ⟨w.heap.size+1,0,none⟩=false/\(qz7 w s).frozen? ⟨w.heap.size+2,0,none⟩=false:=by
 unfold qz7;refine⟨?_, ?_, ?_, ?_, ?_, ?_⟩
 ·rw[World.cell?_alloc_past _ _ _ (by simp<;>omega),World.cell?_alloc_past _ _ _ (by simp<;>omega),World.cell?_alloc_past _ _ _ (by simp),World.cell?_alloc_at _ _ _ _ rfl];rfl
 ·rw[World.cell?_alloc_past _ _ _ (by simp<;>omega),World.cell?_alloc_past _ _ _ (by simp),World.cell?_alloc_at _ _ _ _ (by simp)];rfl
 ·rw[World.cell?_alloc_past _ _ _ (by simp),World.cell?_alloc_at _ _ _ _ (by simp)];rfl
 ·rw[World.frozen?_alloc_past _ _ _ (by simp<;>omega),World.frozen?_alloc_past _ _ _ (by simp<;>omega),World.frozen?_alloc_past _ _ _ (by simp),World.frozen?_alloc_at _ _ _ _ rfl]
 ·rw[World.frozen?_alloc_past _ _ _ (by simp<;>omega),World.frozen?_alloc_past _ _ _ (by simp),World.frozen?_alloc_at _ _ _ _ (by simp)]
 ·rw[World.frozen?_alloc_past _ _ _ (by simp),World.frozen?_alloc_at _ _ _ _ (by simp)]
theorem rd_new(w:World)(s:ByteArray):RdAt (w.alloc (.cells #[.string s,.int .i64 0,.int .i64 0,.int .i64 0,.string ⟨#[]⟩,.int .i64 0,.int .i64 0] 93)) w.heap.size s st0:=
 ⟨by simp,by simp[st0],by simp[st0],by simp[st0],by simp[st0,BS],by simp[st0],by simp[st0],λj=>by simp⟩
theorem begun_rd(w:World)(s:ByteArray):RdAt (qz7 w s) (w.heap.size+3) s st0:=by
 have hs:w.heap.size+3=(((w.alloc (.cells #[.pointer none] 67)).alloc (.cells #[.int .i64 0] 41)).alloc (.cells #[.int .i64 0] 3)).heap.size:=by simp
 rw[hs];exact rd_new _ s
theorem ja3(w:World)(s:ByteArray)(h:ErrOk w):ErrOk (qz7 w s):=(((h.alloc _).alloc _).alloc _).alloc _
theorem ji4(w:World)(s:ByteArray)(h:ErrOk w)(hs:s.size<=200):Ready (w.heap.size+3) s (qz7 w s) st0:=
 ⟨begun_rd w s,by rw[qy2];omega,ja3 w s h,by have:=h.1;omega,⟨Nat.zero_le _,Nat.zero_le _,λh=>absurd rfl h⟩,by omega⟩
end
section
theorem rngN{n:Nat}(h:n<=9223372036854775807):Rng (n:Int):=⟨by omega,by omega⟩
theorem vs7:Rng 0:=⟨by decide,by decide⟩
def TkOk(st:St):Prop:=Rng st.tk.num
theorem jk5(l:List UInt8):Rng (qd6 l).num:=by
 unfold qd6
 split
 ·exact vs7
 ·split
  ·unfold qh4;split<;>exact vs7
  split
  ·unfold qp5;split
   ·rename_i h;exact rngN h
   ·exact vs7
  split
  ·unfold qf5;split<;>exact vs7
  ·exact vs7
theorem qe3(s:ByteArray)(st:St):TkOk (j4 s st):=by
 show Rng (qc0 s.data.toList st.after).num;unfold qc0
 split
 ·exact jk5 _
 ·exact vs7
def vg5:Ast->Prop
 | .leaf p=>Rng p.num
 | .un p x=>Rng p.num/\vg5 x
 | .bin p x y=>Rng p.num/\vg5 x/\vg5 y
 | .tri p x y z=>Rng p.num/\vg5 x/\vg5 y/\vg5 z
def NGood(f:St->Res):Prop:=∀st t st',TkOk st->f st=.ok t st'->vg5 t/\TkOk st'
def vz6(g:Ast->St->Res):Prop:=∀l st t st',vg5 l->TkOk st->g l st=.ok t st'->vg5 t/\TkOk st'
theorem NGood.join{s:ByteArray}{f:St->Res}(h:NGood f):∀st l t st',vg5 l->qf1 s f st l=.ok t st'->vg5 t/\TkOk st':=by
 intro st l t st' hl he;unfold qf1 at he
 split at he
 ·rename_i r G4 hr;injection he with h1 h2;subst h1;subst h2
  have:=h _ _ _ (qe3 s st) hr;exact⟨⟨vs7,hl,this.1⟩,this.2⟩
 ·cases he
theorem NGood.loop{s:ByteArray}{f:St->Res}{ks:List Int}(h:NGood f):∀n l st t st',vg5 l->TkOk st->qc7 s f ks n l st=.ok t st'->vg5 t/\TkOk st':=by
 intro n
 induction n with
 | zero=>intro l st t st' hl hs he;rw[qc7]at he;injection he with h1 h2;subst h1;subst h2;exact⟨hl,hs⟩
 | succ n ih=>
  intro l st t st' hl hs he;rw[qc7]at he
  split at he
  ·split at he
   ·rename_i hj;have:=h.join _ _ _ _ hl hj;exact ih _ _ _ _ this.1 this.2 he
   ·cases he
  ·injection he with h1 h2;subst h1;subst h2;exact⟨hl,hs⟩
theorem NGood.row{s:ByteArray}{f:St->Res}{ks:List Int}(h:NGood f):NGood (qf0 s f ks):=by
 intro st t st' hs he;unfold qf0 at he
 split at he
 ·rename_i hr;have:=h _ _ _ hs hr;exact h.loop _ _ _ _ _ this.1 this.2 he
 ·cases he
theorem NGood.sign{s:ByteArray}{f:St->Res}(h:NGood f)(o:Int):NGood (qd9 s f o):=by
 intro st t st' _ he;unfold qd9 at he
 split at he
 ·cases he
 ·split at he
  ·rename_i hr;injection he with h1 h2;subst h1;subst h2
   have:=h (qk2 s st) _ _ (qe3 s st) hr;exact⟨⟨vs7,this.1⟩,this.2⟩
  ·cases he
theorem NGood.group{s:ByteArray}{f:St->Res}(h:NGood f):NGood (qd3 s f):=by
 intro st t st' _ he;unfold qd3 at he
 split at he
 ·cases he
 ·split at he
  ·rename_i hr;split at he
   ·injection he with h1 h2;subst h1;subst h2
    exact⟨(h (qk2 s st) _ _ (qe3 s st) hr).1,qe3 s _⟩
   ·cases he
  ·cases he
theorem NGood.signed{s:ByteArray}{fS fE:St->Res}(hS:NGood fS)(hE:NGood fE):NGood (qc5 s fS fE):=by
 intro st t st' hs he;unfold qc5 at he
 split at he
 ·exact hS.sign 14 _ _ _ hs he
 split at he
 ·exact hS.sign 15 _ _ _ hs he
 split at he
 ·exact hE.group _ _ _ hs he
 split at he
 ·injection he with h1 h2;subst h1;subst h2;exact⟨vs7,qe3 s st⟩
 split at he
 ·injection he with h1 h2;subst h1;subst h2;exact⟨hs,qe3 s st⟩
 split at he
 ·injection he with h1 h2;subst h1;subst h2;exact⟨vs7,qe3 s st⟩
 split at he
 ·injection he with h1 h2;subst h1;subst h2;exact⟨vs7,qe3 s st⟩
 split at he
 ·injection he with h1 h2;subst h1;subst h2;exact⟨vs7,qe3 s st⟩
 ·cases he
theorem jw7{s:ByteArray}:vz6 (qd0 s):=by
 intro l st t st' hl _ he;unfold qd0 at he
 split at he
 ·split at he
  ·injection he with h1 h2;subst h1;subst h2;exact⟨⟨vs7,vs7,hl⟩,qe3 s _⟩
  ·cases he
 ·split at he
  ·injection he with h1 h2;subst h1;subst h2;exact⟨⟨vs7,hl⟩,qe3 s _⟩
  ·cases he
theorem jw6{s:ByteArray}{l:Ast}{pl:Nat}(hl:vg5 l):∀n ts st t st',qf2 s l pl n ts st=.ok t st'->vg5 t/\TkOk st':=by
 intro n
 induction n with
 | zero=>intro ts st t st' he;rw[qf2]at he;cases he
 | succ n ih=>
  intro ts st t st' he;rw[qf2]at he
  split at he
  ·split at he
   ·exact ih _ _ _ _ he
   ·cases he
  ·split at he
   ·injection he with h1 h2;subst h1;subst h2;exact⟨⟨vs7,hl⟩,qe3 s _⟩
   ·cases he
theorem num_in{s:ByteArray}:vz6 (qg7 s):=by
 intro l st t st' hl _ he;unfold qg7 at he
 split at he
 ·split at he
  ·exact jw6 hl _ _ _ _ _ he
  ·cases he
 ·cases he
theorem num_like{s:ByteArray}:vz6 (qb5 s):=by
 intro l st t st' hl _ he;unfold qb5 at he
 split at he
 ·split at he
  ·split at he
   ·rename_i hk;injection he with h1 h2;subst h1;subst h2;rw[(qw3 hk).2];exact⟨⟨vs7,hl⟩,qe3 s _⟩
   ·cases he
  ·injection he with h1 h2;subst h1;subst h2;exact⟨⟨vs7,hl⟩,qe3 s _⟩
 ·cases he
theorem NGood.between{s:ByteArray}{f:St->Res}(h:NGood f):vz6 (qa9 s f):=by
 intro l st t st' hl _ he;unfold qa9 at he
 split at he
 ·split at he
  ·rename_i h1;split at he
   ·split at he
    ·rename_i h2;injection he with h3 h4;subst h3;subst h4
     have a:=h _ _ _ (qe3 s _) h1;have b:=h _ _ _ (qe3 s _) h2;exact⟨⟨vs7,hl,a.1,b.1⟩,b.2⟩
    ·cases he
   ·cases he
  ·cases he
 ·cases he
theorem NGood.keyword{s:ByteArray}{f:St->Res}(h:NGood f)(bare:Bool):vz6 (qb6 s f (qg7 s) (qb5 s) bare):=by
 intro l st t st' hl hs he;unfold qb6 at he
 split at he
 ·exact num_in _ _ _ _ hl hs he
 split at he
 ·exact num_like _ _ _ _ hl hs he
 ·exact h.between _ _ _ _ hl hs he
theorem NGood.test{s:ByteArray}{f:St->Res}(h:NGood f):NGood (qf6 s f (qg7 s) (qb5 s)):=by
 intro st t st' hs he;unfold qf6 at he
 split at he
 ·rename_i hr
  obtain⟨hl,S7⟩:=h _ _ _ hs hr;unfold qh8 at he
  split at he
  ·exact h.join _ _ _ _ hl he
  split at he
  ·split at he
   ·exact jw7 _ _ _ _ hl S7 he
   ·injection he with h1 h2;subst h1;subst h2;exact⟨hl,S7⟩
  split at he
  ·split at he
   ·rename_i hk;injection he with h1 h2;subst h1;subst h2
    have:=h.keyword _ _ _ _ _ hl (qe3 s _) hk;exact⟨⟨vs7,this.1⟩,this.2⟩
   ·cases he
  split at he
  ·exact h.keyword _ _ _ _ _ hl S7 he
  ·injection he with h1 h2;subst h1;subst h2;exact⟨hl,S7⟩
 ·cases he
theorem NGood.denied{s:ByteArray}{fD fT:St->Res}(hD:NGood fD)(hT:NGood fT):NGood (qe0 s fD fT):=by
 intro st t st' hs he;unfold qe0 at he
 split at he
 ·exact hD.sign 5 _ _ _ hs he
 ·exact hT _ _ _ hs he
structure NGood3(L:L3):Prop where
 S:NGood L.S
 D:NGood L.D
 E:NGood L.E
theorem up3_num{s:ByteArray}{L:L3}(h:NGood3 L):NGood3 (up3 s L):=by
 have hS:=NGood.signed (s:=s) h.S h.E;have hD:=NGood.denied (s:=s) h.D (NGood.test (s:=s) ((hS.row (s:=s) (ks:=[24,25])).row (s:=s) (ks:=[22,23])));exact⟨hS,hD,(hD.row (s:=s) (ks:=[5])).row (s:=s) (ks:=[6])⟩
theorem lvl_num(s:ByteArray):∀d,NGood3 (lvl s d):=by
 intro d
 induction d with
 | zero=>exact up3_num ⟨(λ_ _ _ _ h=>by cases h),(λ_ _ _ _ h=>by cases h),(λ_ _ _ _ h=>by cases h)⟩
 | succ d ih=>exact up3_num ih
end
section
def EvRng(ps:List Pr):Prop:=∀p∈ps,Rng p.val.num
end
section
def vz9(st:St):Prop:=st.tk.str.length<=200
theorem qa4{s:ByteArray}(hs:s.size<=200)(st:St):vz9 (j4 s st):=Nat.le_trans (vg1 s st) hs
def Bp(p:Pay):Prop:=p.str.length<=200/\p.texts.length<=1000
def vg4:Ast->Prop
 | .leaf p=>Bp p
 | .un p x=>Bp p/\vg4 x
 | .bin p x y=>Bp p/\vg4 x/\vg4 y
 | .tri p x y z=>Bp p/\vg4 x/\vg4 y/\vg4 z
theorem bp0(op pl num:Int):Bp ⟨op,pl,num,[],[],[]⟩:=⟨by simp,by simp⟩
theorem bp1{op pl num:Int}{s:List UInt8}(h:s.length<=200):Bp ⟨op,pl,num,s,[],[]⟩:=⟨h,by simp⟩
def BGood(f:St->Res):Prop:=∀st t st',vz9 st->f st=.ok t st'->vg4 t/\vz9 st'
def vz4(g:Ast->St->Res):Prop:=∀l st t st',vg4 l->vz9 st->g l st=.ok t st'->vg4 t/\vz9 st'
theorem BGood.join{s:ByteArray}(H:s.size<=200){f:St->Res}(h:BGood f):∀st l t st',vg4 l->qf1 s f st l=.ok t st'->vg4 t/\vz9 st':=by
 intro st l t st' hl he;unfold qf1 at he
 split at he
 ·rename_i r G4 hr;injection he with h1 h2;subst h1;subst h2
  have:=h _ _ _ (qa4 H st) hr;exact⟨⟨(bp0 _ _ _),hl,this.1⟩,this.2⟩
 ·cases he
theorem BGood.loop{s:ByteArray}(H:s.size<=200){f:St->Res}{ks:List Int}(h:BGood f):∀n l st t st',vg4 l->vz9 st->qc7 s f ks n l st=.ok t st'->vg4 t/\vz9 st':=by
 intro n
 induction n with
 | zero=>intro l st t st' hl hs he;rw[qc7]at he;injection he with h1 h2;subst h1;subst h2;exact⟨hl,hs⟩
 | succ n ih=>
  intro l st t st' hl hs he;rw[qc7]at he
  split at he
  ·split at he
   ·rename_i hj;have:=h.join H _ _ _ _ hl hj;exact ih _ _ _ _ this.1 this.2 he
   ·cases he
  ·injection he with h1 h2;subst h1;subst h2;exact⟨hl,hs⟩
theorem BGood.row{s:ByteArray}(H:s.size<=200){f:St->Res}{ks:List Int}(h:BGood f):BGood (qf0 s f ks):=by
 intro st t st' hs he;unfold qf0 at he
 split at he
 ·rename_i hr;have:=h _ _ _ hs hr;exact h.loop H _ _ _ _ _ this.1 this.2 he
 ·cases he
theorem BGood.sign{s:ByteArray}(H:s.size<=200){f:St->Res}(h:BGood f)(o:Int):BGood (qd9 s f o):=by
 intro st t st' _ he;unfold qd9 at he
 split at he
 ·cases he
 ·split at he
  ·rename_i hr;injection he with h1 h2;subst h1;subst h2
   have:=h (qk2 s st) _ _ (qa4 H st) hr;exact⟨⟨(bp0 _ _ _),this.1⟩,this.2⟩
  ·cases he
theorem BGood.group{s:ByteArray}(H:s.size<=200){f:St->Res}(h:BGood f):BGood (qd3 s f):=by
 intro st t st' _ he;unfold qd3 at he
 split at he
 ·cases he
 ·split at he
  ·rename_i hr;split at he
   ·injection he with h1 h2;subst h1;subst h2
    exact⟨(h (qk2 s st) _ _ (qa4 H st) hr).1,qa4 H _⟩
   ·cases he
  ·cases he
theorem BGood.signed{s:ByteArray}(H:s.size<=200){fS fE:St->Res}(hS:BGood fS)(hE:BGood fE):BGood (qc5 s fS fE):=by
 intro st t st' hs he;unfold qc5 at he
 split at he
 ·exact hS.sign H 14 _ _ _ hs he
 split at he
 ·exact hS.sign H 15 _ _ _ hs he
 split at he
 ·exact hE.group H _ _ _ hs he
 split at he
 ·injection he with h1 h2;subst h1;subst h2;exact⟨bp1 hs,qa4 H st⟩
 split at he
 ·injection he with h1 h2;subst h1;subst h2;exact⟨(bp0 _ _ _),qa4 H st⟩
 split at he
 ·injection he with h1 h2;subst h1;subst h2;exact⟨bp1 hs,qa4 H st⟩
 split at he
 ·injection he with h1 h2;subst h1;subst h2;exact⟨(bp0 _ _ _),qa4 H st⟩
 split at he
 ·injection he with h1 h2;subst h1;subst h2;exact⟨(bp0 _ _ _),qa4 H st⟩
 ·cases he
theorem jt9{s:ByteArray}(H:s.size<=200):vz4 (qd0 s):=by
 intro l st t st' hl _ he;unfold qd0 at he
 split at he
 ·split at he
  ·injection he with h1 h2;subst h1;subst h2;exact⟨⟨(bp0 _ _ _),(bp0 _ _ _),hl⟩,qa4 H _⟩
  ·cases he
 ·split at he
  ·injection he with h1 h2;subst h1;subst h2;exact⟨⟨(bp0 _ _ _),hl⟩,qa4 H _⟩
  ·cases he
theorem jt8{s:ByteArray}(H:s.size<=200){l:Ast}{pl:Nat}(hl:vg4 l):∀n ts st t st',ts.length+n<=1000->qf2 s l pl n ts st=.ok t st'->vg4 t/\vz9 st':=by
 intro n
 induction n with
 | zero=>intro ts st t st' _ he;rw[qf2]at he;cases he
 | succ n ih=>
  intro ts st t st' hn he;rw[qf2]at he
  split at he
  ·split at he
   ·exact ih _ _ _ _ (by simp;omega) he
   ·cases he
  ·split at he
   ·injection he with h1 h2;subst h1;subst h2;exact⟨⟨⟨by simp,by show ts.length<=1000;omega⟩,hl⟩,qa4 H _⟩
   ·cases he
theorem bnd_in{s:ByteArray}(H:s.size<=200):vz4 (qg7 s):=by
 intro l st t st' hl _ he;unfold qg7 at he
 split at he
 ·split at he
  ·exact jt8 H hl _ _ _ _ _ (by simp;omega) he
  ·cases he
 ·cases he
theorem bnd_like{s:ByteArray}(H:s.size<=200):vz4 (qb5 s):=by
 intro l st t st' hl _ he;unfold qb5 at he
 split at he
 ·split at he
  ·split at he
   ·rename_i hk;injection he with h1 h2;subst h1;subst h2;rw[(qw3 hk).2];exact⟨⟨⟨qa4 H _,by simp⟩,hl⟩,qa4 H _⟩
   ·cases he
  ·injection he with h1 h2;subst h1;subst h2;exact⟨⟨⟨qa4 H _,by simp⟩,hl⟩,qa4 H _⟩
 ·cases he
theorem BGood.between{s:ByteArray}(H:s.size<=200){f:St->Res}(h:BGood f):vz4 (qa9 s f):=by
 intro l st t st' hl _ he;unfold qa9 at he
 split at he
 ·split at he
  ·rename_i h1;split at he
   ·split at he
    ·rename_i h2;injection he with h3 h4;subst h3;subst h4
     have a:=h _ _ _ (qa4 H _) h1;have b:=h _ _ _ (qa4 H _) h2;exact⟨⟨(bp0 _ _ _),hl,a.1,b.1⟩,b.2⟩
    ·cases he
   ·cases he
  ·cases he
 ·cases he
theorem BGood.keyword{s:ByteArray}(H:s.size<=200){f:St->Res}(h:BGood f)(bare:Bool):vz4 (qb6 s f (qg7 s) (qb5 s) bare):=by
 intro l st t st' hl hs he;unfold qb6 at he
 split at he
 ·exact bnd_in H _ _ _ _ hl hs he
 split at he
 ·exact bnd_like H _ _ _ _ hl hs he
 ·exact h.between H _ _ _ _ hl hs he
theorem BGood.test{s:ByteArray}(H:s.size<=200){f:St->Res}(h:BGood f):BGood (qf6 s f (qg7 s) (qb5 s)):=by
 intro st t st' hs he;unfold qf6 at he
 split at he
 ·rename_i hr
  obtain⟨hl,S7⟩:=h _ _ _ hs hr;unfold qh8 at he
  split at he
  ·exact h.join H _ _ _ _ hl he
  split at he
  ·split at he
   ·exact jt9 H _ _ _ _ hl S7 he
   ·injection he with h1 h2;subst h1;subst h2;exact⟨hl,S7⟩
  split at he
  ·split at he
   ·rename_i hk;injection he with h1 h2;subst h1;subst h2
    have:=h.keyword H _ _ _ _ _ hl (qa4 H _) hk;exact⟨⟨(bp0 _ _ _),this.1⟩,this.2⟩
   ·cases he
  split at he
  ·exact h.keyword H _ _ _ _ _ hl S7 he
  ·injection he with h1 h2;subst h1;subst h2;exact⟨hl,S7⟩
 ·cases he
theorem BGood.denied{s:ByteArray}(H:s.size<=200){fD fT:St->Res}(hD:BGood fD)(hT:BGood fT):BGood (qe0 s fD fT):=by
 intro st t st' hs he;unfold qe0 at he
 split at he
 ·exact hD.sign H 5 _ _ _ hs he
 ·exact hT _ _ _ hs he
structure BGood3(L:L3):Prop where
 S:BGood L.S
 D:BGood L.D
 E:BGood L.E
theorem up3_bnd{s:ByteArray}(H:s.size<=200){L:L3}(h:BGood3 L):BGood3 (up3 s L):=by
 have hS:=BGood.signed (s:=s) H h.S h.E;have hD:=BGood.denied (s:=s) H h.D (BGood.test (s:=s) H ((hS.row (s:=s) H (ks:=[24,25])).row (s:=s) H (ks:=[22,23])));exact⟨hS,hD,(hD.row (s:=s) H (ks:=[5])).row (s:=s) H (ks:=[6])⟩
theorem lvl_bnd(s:ByteArray)(H:s.size<=200):∀d,BGood3 (lvl s d):=by
 intro d
 induction d with
 | zero=>exact up3_bnd H ⟨(λ_ _ _ _ h=>by cases h),(λ_ _ _ _ h=>by cases h),(λ_ _ _ _ h=>by cases h)⟩
 | succ d ih=>exact up3_bnd H ih
end
section
theorem Str.tail_lt{s:ByteArray}{st:St}{L:List Tk}(h:Str s st L)(hk:st.tk.kind≠0):L.tail.length<L.length:=by
 cases h with
 | nil h=>rw[h]at hk;exact absurd rfl hk
 | cons _ _=>simp
theorem Sim.loop{s:ByteArray}{f:St->Res}{f':TS->TRes}(h:Sim s f f')(sN:Shr f')(ks:List Int)(R0:ks.contains 0=false):∀n n' l st ts,ts.toks.length<n->ts.toks.length<n'->Fine s st->Str s st ts.toks->st.op=ts.op->SimR s (qc7 s f ks n l st) (vd8 f' ks n' (qm5 l) ts):=by
 intro n
 induction n with
 | zero=>intro n' l st ts h1;omega
 | succ n ih=>
  intro n' l st ts h1 h2 J7 hs ho;obtain⟨m,rfl⟩:∃m,n'=m+1:=⟨n' - 1,by omega⟩;rw[qc7,vd8,qh5 hs]
  by_cases hc:ks.contains st.tk.kind=true
  ·have hk:st.tk.kind≠0:=λe=>by rw[e,R0]at hc;cases hc
   rw[if_pos hc,if_pos hc];have C7:ts.next.toks.length<ts.toks.length:=hs.tail_lt hk;rcases(h.join st ts l J7 hs ho hk).cases with⟨t,G4,N5,e1,e2,e3,e4,e5⟩|⟨en,pl,e1,e2⟩
   ·have hl:=sN.join _ _ _ _ e2
    rw[e1,e2];exact ih m t G4 N5 (by omega) (by omega) e5 e3 e4
   ·rw[e1,e2];rfl
  ·rw[if_neg hc,if_neg hc]
   exact⟨rfl,hs,ho,J7⟩
theorem Sim.row{s:ByteArray}{f:St->Res}{f':TS->TRes}(h:Sim s f f')(sN:Shr f')(ks:List Int)(R0:ks.contains 0=false):Sim s (qf0 s f ks) (jt0 f' ks):=by
 intro st ts J7 hs ho;unfold qf0 jt0;rcases(h st ts J7 hs ho).cases with⟨t,G4,N5,e1,e2,e3,e4,e5⟩|⟨en,pl,e1,e2⟩
 ·rw[e1,e2]
  have hl:=e3.len e5;exact h.loop sN ks R0 _ _ t G4 N5 (by omega) (by omega) e5 e3 e4
 ·rw[e1,e2];rfl
theorem Sim.sign{s:ByteArray}{f:St->Res}{f':TS->TRes}(h:Sim s f f')(o:Int)(st:St)(ts:TS)(J7:Fine s st)(hs:Str s st ts.toks)(ho:st.op=ts.op)(hk:st.tk.kind≠0):SimR s (qd9 s f o st) (vh8 f' o ts):=by
 unfold qd9 vh8;rw[ho]
 split
 ·rfl
 ·rcases(h (qk2 s st) (tIn ts) (J7.next.op _) ((hs.next hk).withOp _) (by show st.op+1=ts.op+1;rw[ho])).cases with⟨t,G4,N5,e1,e2,e3,e4,e5⟩|⟨en,pl,e1,e2⟩
  ·rw[e1,e2];exact⟨rfl,e3.withOp _,rfl,e5.op _⟩
  ·rw[e1,e2];rfl
theorem Sim.group{s:ByteArray}{f:St->Res}{f':TS->TRes}(h:Sim s f f')(st:St)(ts:TS)(J7:Fine s st)(hs:Str s st ts.toks)(ho:st.op=ts.op)(hk:st.tk.kind≠0):SimR s (qd3 s f st) (qz6 f' ts):=by
 unfold qd3 qz6;rw[ho]
 split
 ·rfl
 ·rcases(h (qk2 s st) (tIn ts) (J7.next.op _) ((hs.next hk).withOp _) (by show st.op+1=ts.op+1;rw[ho])).cases with⟨t,G4,N5,e1,e2,e3,e4,e5⟩|⟨en,pl,e1,e2⟩
  ·rw[e1,e2]
   show SimR s (if G4.tk.kind=27 then _ else _) (if N5.tk.kind=27 then _ else _);rw[qh5 e3]
   by_cases h27:G4.tk.kind=27
   ·rw[if_pos h27,if_pos h27]
    exact⟨rfl,(e3.next (by rw[h27];decide)).withOp _,rfl,e5.next.op _⟩
   ·rw[if_neg h27,if_neg h27];rfl
  ·rw[e1,e2];rfl
theorem Sim.signed{s:ByteArray}{fS fE:St->Res}{fS' fE':TS->TRes}(hS:Sim s fS fS')(hE:Sim s fE fE'):Sim s (qc5 s fS fE) (qr0 fS' fE'):=by
 intro st ts J7 hs ho;unfold qc5 qr0;rw[qh5 hs]
 by_cases f9:st.tk.kind=22
 ·rw[if_pos f9,if_pos f9];exact hS.sign 14 st ts J7 hs ho (by rw[f9];decide)
 rw[if_neg f9,if_neg f9]
 by_cases L9:st.tk.kind=23
 ·rw[if_pos L9,if_pos L9];exact hS.sign 15 st ts J7 hs ho (by rw[L9];decide)
 rw[if_neg L9,if_neg L9]
 by_cases S9:st.tk.kind=26
 ·rw[if_pos S9,if_pos S9];exact hE.group st ts J7 hs ho (by rw[S9];decide)
 rw[if_neg S9,if_neg S9]
 by_cases h2:st.tk.kind=2
 ·rw[if_pos h2,if_pos h2];exact⟨rfl,hs.next (by rw[h2];decide),ho,J7.next⟩
 rw[if_neg h2,if_neg h2]
 by_cases h3:st.tk.kind=3
 ·rw[if_pos h3,if_pos h3];exact⟨rfl,hs.next (by rw[h3];decide),ho,J7.next⟩
 rw[if_neg h3,if_neg h3]
 by_cases h4:st.tk.kind=4
 ·rw[if_pos h4,if_pos h4];exact⟨rfl,hs.next (by rw[h4];decide),ho,J7.next⟩
 rw[if_neg h4,if_neg h4]
 by_cases h8:st.tk.kind=8
 ·rw[if_pos h8,if_pos h8];exact⟨rfl,hs.next (by rw[h8];decide),ho,J7.next⟩
 rw[if_neg h8,if_neg h8]
 by_cases h9:st.tk.kind=9
 ·rw[if_pos h9,if_pos h9];exact⟨rfl,hs.next (by rw[h9];decide),ho,J7.next⟩
 rw[if_neg h9,if_neg h9];rfl
theorem Sim.denied{s:ByteArray}{fD fT:St->Res}{fD' fT':TS->TRes}(hD:Sim s fD fD')(hT:Sim s fT fT'):Sim s (qe0 s fD fT) (qs1 fD' fT'):=by
 intro st ts J7 hs ho;unfold qe0 qs1;rw[qh5 hs]
 by_cases h7:st.tk.kind=7
 ·rw[if_pos h7,if_pos h7];exact hD.sign 5 st ts J7 hs ho (by rw[h7];decide)
 ·rw[if_neg h7,if_neg h7];exact hT st ts J7 hs ho
end
section
def SimT(s:ByteArray)(k:Int)(g:Ast->St->Res)(g':Ast->TS->TRes):Prop:=∀l st ts,Fine s st->Str s st ts.toks->st.op=ts.op->st.tk.kind=k->SimR s (g l st) (g' (qm5 l) ts)
theorem go1{s:ByteArray}{st:St}{ts:TS}(J7:Fine s st)(hs:Str s st ts.toks)(ho:st.op=ts.op)(hk:st.tk.kind≠0):Fine s (j4 s st)/\Str s (j4 s st) ts.next.toks/\(j4 s st).op=ts.next.op:=⟨J7.next,hs.next hk,ho⟩
theorem za1(s:ByteArray):SimT s 14 (qd0 s) tIsNull:=by
 intro l st ts J7 hs ho hk;obtain⟨f1,s1,o1⟩:=go1 J7 hs ho (by rw[hk];decide);unfold qd0 tIsNull;rw[qh5 s1]
 by_cases h7:(j4 s st).tk.kind=7
 ·rw[if_pos h7,if_pos h7]
  obtain⟨f2,s2,o2⟩:=go1 f1 s1 o1 (by rw[h7];decide);rw[qh5 s2]
  by_cases h15:(j4 s (j4 s st)).tk.kind=15
  ·rw[if_pos h15,if_pos h15]
   obtain⟨f3,s3,o3⟩:=go1 f2 s2 o2 (by rw[h15];decide);exact⟨rfl,s3,o3,f3⟩
  ·rw[if_neg h15,if_neg h15];rfl
 ·rw[if_neg h7,if_neg h7]
  by_cases h15:(j4 s st).tk.kind=15
  ·rw[if_pos h15,if_pos h15]
   obtain⟨f2,s2,o2⟩:=go1 f1 s1 o1 (by rw[h15];decide);exact⟨rfl,s2,o2,f2⟩
  ·rw[if_neg h15,if_neg h15];rfl
theorem Sim.between{s:ByteArray}{f:St->Res}{f':TS->TRes}(h:Sim s f f'):∀l st ts,Fine s st->Str s st ts.toks->st.op=ts.op->SimR s (qa9 s f l st) (qn5 f' (qm5 l) ts):=by
 intro l st ts J7 hs ho;unfold qa9 qn5;rw[qh5 hs]
 by_cases h10:st.tk.kind=10
 ·rw[if_pos h10,if_pos h10]
  obtain⟨f1,s1,o1⟩:=go1 J7 hs ho (by rw[h10];decide);rcases(h _ _ f1 s1 o1).cases with⟨t,G4,N5,e1,e2,e3,e4,e5⟩|⟨en,pl,e1,e2⟩
  ·rw[e1,e2]
   show SimR s (if G4.tk.kind=5 then _ else _) (if N5.tk.kind=5 then _ else _);rw[qh5 e3]
   by_cases h5:G4.tk.kind=5
   ·rw[if_pos h5,if_pos h5]
    obtain⟨f3,s3,o3⟩:=go1 e5 e3 e4 (by rw[h5];decide);rcases(h _ _ f3 s3 o3).cases with⟨t3,qS,QS,g1,g2,g3,g4,g5⟩|⟨en,pl,g1,g2⟩
    ·rw[g1,g2];exact⟨rfl,g3,g4,g5⟩
    ·rw[g1,g2];rfl
   ·rw[if_neg h5,if_neg h5];rfl
  ·rw[e1,e2];rfl
 ·rw[if_neg h10,if_neg h10];rfl
theorem za0(s:ByteArray)(l:Ast)(pl:Nat):∀n n' xs st ts,ts.toks.length<n->ts.toks.length<n'->Fine s st->Str s st ts.toks->st.op=ts.op->SimR s (qf2 s l pl n xs st) (qm9 (qm5 l) n' xs ts):=by
 intro n
 induction n with
 | zero=>intro n' xs st ts h1;omega
 | succ n ih=>
  intro n' xs st ts h1 h2 J7 hs ho;obtain⟨m,rfl⟩:∃m,n'=m+1:=⟨n' - 1,by omega⟩;rw[qf2,qm9,qh5 hs]
  by_cases h28:st.tk.kind=28
  ·rw[if_pos h28,if_pos h28]
   have hk:st.tk.kind≠0:=by rw[h28];decide
   obtain⟨f1,s1,o1⟩:=go1 J7 hs ho hk;have t1:ts.next.toks.length<ts.toks.length:=hs.tail_lt hk;rw[qh5 s1]
   by_cases h4:(j4 s st).tk.kind=4
   ·rw[if_pos h4,if_pos h4]
    obtain⟨f2,s2,o2⟩:=go1 f1 s1 o1 (by rw[h4];decide);have t2:=qc6 ts.next;exact ih m _ _ _ (by omega) (by omega) f2 s2 o2
   ·rw[if_neg h4,if_neg h4];rfl
  ·rw[if_neg h28,if_neg h28]
   by_cases h27:st.tk.kind=27
   ·rw[if_pos h27,if_pos h27]
    obtain⟨f1,s1,o1⟩:=go1 J7 hs ho (by rw[h27];decide);exact⟨rfl,s1,o1,f1⟩
   ·rw[if_neg h27,if_neg h27];rfl
theorem sim_in(s:ByteArray):SimT s 11 (qg7 s) tInRes:=by
 intro l st ts J7 hs ho hk;obtain⟨f1,s1,o1⟩:=go1 J7 hs ho (by rw[hk];decide);unfold qg7 tInRes;rw[qh5 s1]
 by_cases S9:(j4 s st).tk.kind=26
 ·rw[if_pos S9,if_pos S9]
  obtain⟨f2,s2,o2⟩:=go1 f1 s1 o1 (by rw[S9];decide);rw[qh5 s2]
  by_cases h4:(j4 s (j4 s st)).tk.kind=4
  ·rw[if_pos h4,if_pos h4]
   obtain⟨f3,s3,o3⟩:=go1 f2 s2 o2 (by rw[h4];decide);have hl:=s3.len f3;have l1:=qc6 ts;have l2:=qc6 ts.next;have l3:=qc6 ts.next.next;exact za0 s l st.place _ _ _ _ _ (by omega) (by omega) f3 s3 o3
  ·rw[if_neg h4,if_neg h4];rfl
 ·rw[if_neg S9,if_neg S9];rfl
theorem sim_like(s:ByteArray):SimT s 12 (qb5 s) tLike:=by
 intro l st ts J7 hs ho hk;obtain⟨f1,s1,o1⟩:=go1 J7 hs ho (by rw[hk];decide);unfold qb5 tLike;rw[qh5 s1]
 by_cases h4:(j4 s st).tk.kind=4
 ·rw[if_pos h4,if_pos h4]
  obtain⟨f2,s2,o2⟩:=go1 f1 s1 o1 (by rw[h4];decide);rw[qh5 s2]
  by_cases h13:(j4 s (j4 s st)).tk.kind=13
  ·rw[if_pos h13,if_pos h13]
   obtain⟨f3,s3,o3⟩:=go1 f2 s2 o2 (by rw[h13];decide);rw[qh5 s3];unfold qq3
   by_cases g4:(j4 s (j4 s (j4 s st))).tk.kind=4
   ·rw[if_pos g4]
    by_cases g1:(j4 s (j4 s (j4 s st))).tk.str.length=1
    ·rw[if_pos g1]
     by_cases g2:(qs5 (j4 s (j4 s (j4 s st))).tk.str (j4 s st).tk.str).isSome=true
     ·rw[if_pos g2,if_pos ⟨g4,g1,g2⟩]
      obtain⟨f4,s4,o4⟩:=go1 f3 s3 o3 (by rw[g4];decide);exact⟨rfl,s4,o4,f4⟩
     ·rw[if_neg g2,if_neg (λh=>g2 h.2.2)];rfl
    ·rw[if_neg g1,if_neg (λh=>g1 h.2.1)];rfl
   ·rw[if_neg g4,if_neg (λh=>g4 h.1)];rfl
  ·rw[if_neg h13,if_neg h13]
   exact⟨rfl,s2,o2,f2⟩
 ·rw[if_neg h4,if_neg h4];rfl
theorem Sim.keyword{s:ByteArray}{f:St->Res}{f':TS->TRes}(h:Sim s f f')(bare:Bool)(l:Ast)(st:St)(ts:TS)(J7:Fine s st)(hs:Str s st ts.toks)(ho:st.op=ts.op):SimR s (qb6 s f (qg7 s) (qb5 s) bare l st) (qj8 f' bare (qm5 l) ts):=by
 unfold qb6 qj8;rw[qh5 hs]
 by_cases L6:st.tk.kind=11/\bare=true
 ·rw[if_pos L6,if_pos L6];exact sim_in s l st ts J7 hs ho L6.1
 rw[if_neg L6,if_neg L6]
 by_cases F9:st.tk.kind=12/\bare=true
 ·rw[if_pos F9,if_pos F9];exact sim_like s l st ts J7 hs ho F9.1
 rw[if_neg F9,if_neg F9];exact h.between l st ts J7 hs ho
theorem Sim.tail{s:ByteArray}{f:St->Res}{f':TS->TRes}(h:Sim s f f')(bare:Bool)(l:Ast)(st:St)(ts:TS)(J7:Fine s st)(hs:Str s st ts.toks)(ho:st.op=ts.op):SimR s (qh8 s f (qg7 s) (qb5 s) bare l st) (vq7 f' bare (qm5 l) ts):=by
 unfold qh8 vq7;rw[qh5 hs]
 by_cases h16:st.tk.kind=16\/st.tk.kind=17\/st.tk.kind=18\/st.tk.kind=19\/st.tk.kind=20\/st.tk.kind=21
 ·rw[if_pos h16,if_pos h16];exact h.join st ts l J7 hs ho (by omega)
 rw[if_neg h16,if_neg h16]
 by_cases h14:st.tk.kind=14
 ·rw[if_pos h14,if_pos h14]
  cases bare
  ·exact⟨rfl,hs,ho,J7⟩
  ·exact za1 s l st ts J7 hs ho h14
 rw[if_neg h14,if_neg h14]
 by_cases h7:st.tk.kind=7
 ·rw[if_pos h7,if_pos h7]
  obtain⟨f1,s1,o1⟩:=go1 J7 hs ho (by rw[h7];decide);rcases(h.keyword bare l _ _ f1 s1 o1).cases with⟨t,G4,N5,e1,e2,e3,e4,e5⟩|⟨en,pl,e1,e2⟩
  ·rw[e1,e2];exact⟨rfl,e3,e4,e5⟩
  ·rw[e1,e2];rfl
 rw[if_neg h7,if_neg h7]
 by_cases h10:st.tk.kind=10\/st.tk.kind=11\/st.tk.kind=12
 ·rw[if_pos h10,if_pos h10];exact h.keyword bare l st ts J7 hs ho
 ·rw[if_neg h10,if_neg h10];exact⟨rfl,hs,ho,J7⟩
theorem Sim.test{s:ByteArray}{f:St->Res}{f':TS->TRes}(h:Sim s f f'):Sim s (qf6 s f (qg7 s) (qb5 s)) (vq8 f'):=by
 intro st ts J7 hs ho;unfold qf6 vq8;rcases(h st ts J7 hs ho).cases with⟨t,G4,N5,e1,e2,e3,e4,e5⟩|⟨en,pl,e1,e2⟩
 ·rw[e1,e2]
  show SimR s (qh8 s f (qg7 s) (qb5 s) (ve7 st t) t G4) (vq7 f' (ts.tk.kind==2&&opA (qm5 t)==0) (qm5 t) N5);rw[qh5 hs,jd4];exact h.tail _ t G4 N5 e5 e3 e4
 ·rw[e1,e2];rfl
structure Sim3(s:ByteArray)(L:L3)(L':T3):Prop where
 S:Sim s L.S L'.S
 D:Sim s L.D L'.D
 E:Sim s L.E L'.E
 s':Shr L'.S
 d':Shr L'.D
 e':Shr L'.E
theorem sim_up{s:ByteArray}{L:L3}{L':T3}(h:Sim3 s L L'):Sim3 s (up3 s L) (tUp L'):=by
 have hS:=Sim.signed h.S h.E;have zS:=Shr.signed h.s' h.e';have hP:=hS.row zS [24,25] rfl;have zP:=zS.row [24,25];have hU:=hP.row zP [22,23] rfl;have zU:=zP.row [22,23];have hT:=hU.test;have zT:=zU.test;have hD:=Sim.denied h.D hT;have zD:=Shr.denied h.d' zT;have hB:=hD.row zD [5] rfl;have zB:=zD.row [5];exact⟨hS,hD,hB.row zB [6] rfl,zS,zD,zB.row [6]⟩
theorem jp8(s:ByteArray):∀d,Sim3 s (lvl s d) (tLvl d):=by
 intro d
 induction d with
 | zero=>exact sim_up ⟨(λ_ _ _ _ _=>rfl),(λ_ _ _ _ _=>rfl),(λ_ _ _ _ _=>rfl),(λ_ _ _ h=>by cases h),(λ_ _ _ h=>by cases h),(λ_ _ _ h=>by cases h)⟩
 | succ d ih=>exact sim_up ih
end
section
def sh(X:List Tk)(k:Nat)(ts:TS):TS:=⟨ts.toks++X,ts.op+k⟩
theorem qc4{ts:TS}{c:Int}(hc:c≠0)(h:ts.tk.kind=c):ts.toks≠[]:=by
 intro e;unfold TS.tk at h;rw[e]at h;exact hc h.symm
section
variable {X:List Tk} {k o:Nat} {f f':TS->TRes}
end
end
section
theorem vq5(rb:Nat)(s:ByteArray)(hs:s.size<=200)(op m:Nat)(hm:200<=m)(V9:m<=900)(f:St->Res)(hf:RReads 351 rb s op m f):RReads 342 rb s op (m+1) (qf0 s f [24,25]):=by
 intro w st ns j h ho;have HF:=j3 hf;have HC:=j3 (hf w st ns j h ho);obtain⟨R,hR⟩:∃r,qf0 s f [24,25] st=r:=⟨_,rfl⟩;rw[hR];have HR:=j3 hR;clear hf h hR;go_enter func342,ntmps342
 go_wp2_with(go_at_call 351;refine(q9 HC).mono ?_;rintro e w1 h1;have H1:Hid (∃v,e=.returned v/\RowAt rb s w op (m+1) ns j st.place R f [24,25] v w1):=j3 (by
   obtain⟨A0,h1⟩:=h1;rw[←q9 HR]
   cases A8:f st with
   | ok l0 st0=>rw[A8]at h1;obtain⟨new,rfl,A4,K8,U5,F6⟩:=h1;exact⟨_,rfl,A0,.inl ⟨s.size+1,l0,st0,new,qx3 A8,by omega,rfl,A4,K8,U5,F6⟩⟩
   | err en pl=>rw[A8]at h1;obtain⟨i,rfl,A4⟩:=h1;exact⟨_,rfl,A0,.inr ⟨en,pl,i,qs8 A8,rfl,A4.more (by omega)⟩⟩);clear h1;obtain⟨v1,rfl,h1⟩:=q9 H1;have aS:=j3 h1;clear H1 h1)
 go_loopw [3] (λv wr=>Hid (RowAt rb s w op (m+1) ns j st.place R f [24,25] v wr)) (λv wr=>meT s wr rb)
 case atStart=>exact aS
 case round=>
  obtain⟨hk,hc⟩:=q9 hrel;rcases hc with⟨n,l,sl,new,L8,hn,rfl,N7,l7,T8,F6⟩|⟨en,pl,i,L8,rfl,U3⟩
  ·have E6:=N7.fine
   have pW:=E6.place;have P6:=N7.lt;obtain⟨c2,c3,c4,c5,c6⟩:=N7.ct;have c8:=N7.c8;have dG:=qz5 N7;obtain⟨mm,rfl⟩:∃mm,n=mm+1:=⟨n - 1,by omega⟩;have Q8:=j3 N7;have HK:=j3 hk;have K0:=j3 F6;have bQ:=j3 dG;clear N7 hk F6 dG hrel aS
   by_cases hk24:sl.tk.kind=24
   ·have eM:(rK sl.tk.kind==5&&((BS (tkS sl)).toList==(⟨#[42]⟩:ByteArray).toList))=true:=(isK (c:=24) rfl (by decide) (by decide) 5 rfl).trans (by rw[hk24];rfl)
    have G1:([24,25]:List Int).contains sl.tk.kind=true:=by rw[hk24];rfl
    have jA:=E6.step_place (by omega);rw[show rK sl.tk.kind=5 by rw[hk24];rfl]at c2;rw[show tkZ sl=(sl.after:Int) by unfold tkZ;rw[if_neg (by omega)]]at c4;rw[show BS (tkS sl)=⟨#[42]⟩ by rw[jg1 (by omega),hk24];rfl]at c5;have P9:=(q9 Q8).fresh (.cells #[.int .i64 5,.int .i64 sl.place,.int .i64 sl.after,.string ⟨#[42]⟩,.int .i64 (tkN sl)] 235);have h':=(q9 Q8).alloc (.cells #[.int .i64 5,.int .i64 sl.place,.int .i64 sl.after,.string ⟨#[42]⟩,.int .i64 (tkN sl)] 235);have n0:¬wr.heap.size=rb:=by omega
    have n1:¬rb=wr.heap.size:=by omega
    have FR:=j3 P9;have H':=j3 h';clear P9 h'
    cases A8:f (j4 s sl) with
    | ok r G4=>
     have K5:Hid (R=qc7 s f [24,25] mm (ja4 sl l r) G4):=j3 (by rw[L8,qi9 G1 (qk3 A8)]);have D4:=j3 A8;clear G1 L8 A8
     go_wp2_with(first|(go_at_call 215;refine(va4 (q9 Q8)).mono ?_;rintro e w'⟨rfl,hw'⟩;subst w';simp only[eM])|(go_at_call 172;refine(qb4 (q9 H') hs (by omega) (by omega)).mono ?_;rintro e w2⟨rfl,A3,A5⟩;obtain⟨hc,hf,_,D7,hL⟩:=A3.mine (by simp) (q9 FR);have p1:w2.cell? ⟨wr.heap.size,1,none⟩=some (.int .i64 sl.place):=(hc 1).trans (by simp);have p3:w2.cell? ⟨wr.heap.size,3,none⟩=some (.string ⟨#[42]⟩):=(hc 3).trans (by simp);have P4:=j3 D7;have E9:=j3 (qf3 P6 A3);have D6:=j3 A5;clear A3 A5 hc hf D7)|(go_at_call 351;refine(q9 HF _ (j4 s sl) (ns++new) (j+1) (q9 D6) l7).mono ?_;rintro e w3⟨A9,h3⟩;rw[q9 D4]at h3;obtain⟨L1,rfl,B8,Y8,s9,Q6⟩:=h3;have a7:=j3 Q6;clear Q6;obtain⟨hc,hf,_,D7,aC⟩:=A9.mine hL (q9 P4);have q1:w3.cell? ⟨wr.heap.size,1,none⟩=some (.int .i64 sl.place):=(hc 1).trans p1;have q3:w3.cell? ⟨wr.heap.size,3,none⟩=some (.string ⟨#[42]⟩):=(hc 3).trans p3;have F5:=j3 A9;have F4:=j3 B8;clear A9 B8 hc hf D7)|(go_at_call 216;refine(qu3 (q9 F4) hs ⟨ve4 sl.tk.kind,sl.place,0,[],[],[]⟩ (ns.length+new.length - 1) (ns.length+new.length+L1.length - 1) (by rw[hk24];rfl) rfl rfl rfl (by simp)).mono ?_;rintro e w4⟨rfl,D0,D9⟩;have cA:=D9.fine.place;have L5:=j3 (qz5 D9);have K6:=j3 D0;have I6:=j3 D9;clear D0 D9))
     go_roundw
     case rel=>
      refine j3 ⟨(((q9 HK).trans (q9 E9)).trans (q9 F5)).trans (q9 K6),.inl ⟨mm,_,G4,new++L1++[qi5 ⟨ve4 sl.tk.kind,sl.place,0,[],[],[]⟩ [ns.length+new.length - 1,ns.length+new.length+L1.length - 1] false],q9 K5,by omega,vr9 (by simp;omega), ?_,Y8,by omega,Flat.bin _ (q9 K0) (by have:=q9 a7;rwa [List.length_append]at this)⟩⟩;have:=q9 I6;simpa only[List.append_assoc]using this
     case measure=>rw[q9 bQ,q9 L5];omega
    | err en pl=>
     have K5:Hid (R=.err en pl):=j3 (by rw[L8,qk0 G1 (qi7 A8)]);have D4:=j3 A8;clear G1 L8 A8
     go_wp2_with(first|(go_at_call 215;refine(va4 (q9 Q8)).mono ?_;rintro e w'⟨rfl,hw'⟩;subst w';simp only[eM])|(go_at_call 172;refine(qb4 (q9 H') hs (by omega) (by omega)).mono ?_;rintro e w2⟨rfl,A3,A5⟩;obtain⟨hc,hf,_,D7,hL⟩:=A3.mine (by simp) (q9 FR);have p1:w2.cell? ⟨wr.heap.size,1,none⟩=some (.int .i64 sl.place):=(hc 1).trans (by simp);have p3:w2.cell? ⟨wr.heap.size,3,none⟩=some (.string ⟨#[42]⟩):=(hc 3).trans (by simp);have P4:=j3 D7;have E9:=j3 (qf3 P6 A3);have D6:=j3 A5;clear A3 A5 hc hf D7)|(go_at_call 351;refine(q9 HF _ (j4 s sl) (ns++new) (j+1) (q9 D6) l7).mono ?_;rintro e w3⟨A9,h3⟩;rw[q9 D4]at h3;obtain⟨i3,rfl,B8⟩:=h3;obtain⟨hc,hf,_,D7,aC⟩:=A9.mine hL (q9 P4);have q1:w3.cell? ⟨wr.heap.size,1,none⟩=some (.int .i64 sl.place):=(hc 1).trans p1;have q3:w3.cell? ⟨wr.heap.size,3,none⟩=some (.string ⟨#[42]⟩):=(hc 3).trans p3;have F5:=j3 A9;have F4:=j3 B8;clear A9 B8 hc hf D7)|(go_at_call 216;refine(qq8 (q9 F4) (by omega) [42] sl.place (ns.length+new.length - 1) i3 rfl (by simp)).mono ?_;rintro e w4⟨i4,rfl,D0,D9⟩;have L5:=j3 (jc7 D9);have K6:=j3 D0;have I6:=j3 D9;clear D0 D9))
     go_roundw
     case rel=>exact j3 ⟨(((q9 HK).trans (q9 E9)).trans (q9 F5)).trans (q9 K6),.inr ⟨en,pl,i4,q9 K5,rfl,q9 I6⟩⟩
     case measure=>rw[q9 bQ,q9 L5];omega
   ·have xB:¬sl.tk.kind=24:=hk24
    have eM:(rK sl.tk.kind==5&&((BS (tkS sl)).toList==(⟨#[42]⟩:ByteArray).toList))=false:=(isK (c:=24) rfl (by decide) (by decide) 5 rfl).trans (beq_eq_false_iff_ne.2 hk24)
    by_cases hk25:sl.tk.kind=25
    ·have kB:(rK sl.tk.kind==5&&((BS (tkS sl)).toList==(⟨#[47]⟩:ByteArray).toList))=true:=(isK (c:=25) rfl (by decide) (by decide) 5 rfl).trans (by rw[hk25];rfl)
     have G1:([24,25]:List Int).contains sl.tk.kind=true:=by rw[hk25];rfl
     have jA:=E6.step_place (by omega);rw[show rK sl.tk.kind=5 by rw[hk25];rfl]at c2;rw[show tkZ sl=(sl.after:Int) by unfold tkZ;rw[if_neg (by omega)]]at c4;rw[show BS (tkS sl)=⟨#[47]⟩ by rw[jg1 (by omega),hk25];rfl]at c5;have P9:=(q9 Q8).fresh (.cells #[.int .i64 5,.int .i64 sl.place,.int .i64 sl.after,.string ⟨#[47]⟩,.int .i64 (tkN sl)] 235);have h':=(q9 Q8).alloc (.cells #[.int .i64 5,.int .i64 sl.place,.int .i64 sl.after,.string ⟨#[47]⟩,.int .i64 (tkN sl)] 235);have n0:¬wr.heap.size=rb:=by omega
     have n1:¬rb=wr.heap.size:=by omega
     have FR:=j3 P9;have H':=j3 h';clear P9 h'
     cases A8:f (j4 s sl) with
     | ok r G4=>
      have K5:Hid (R=qc7 s f [24,25] mm (ja4 sl l r) G4):=j3 (by rw[L8,qi9 G1 (qk3 A8)]);have D4:=j3 A8;clear G1 L8 A8
      go_wp2_with(first|(go_at_call 215;refine(va4 (q9 Q8)).mono ?_;rintro e w'⟨rfl,hw'⟩;subst w';simp only[eM,kB])|(go_at_call 172;refine(qb4 (q9 H') hs (by omega) (by omega)).mono ?_;rintro e w2⟨rfl,A3,A5⟩;obtain⟨hc,hf,_,D7,hL⟩:=A3.mine (by simp) (q9 FR);have p1:w2.cell? ⟨wr.heap.size,1,none⟩=some (.int .i64 sl.place):=(hc 1).trans (by simp);have p3:w2.cell? ⟨wr.heap.size,3,none⟩=some (.string ⟨#[47]⟩):=(hc 3).trans (by simp);have P4:=j3 D7;have E9:=j3 (qf3 P6 A3);have D6:=j3 A5;clear A3 A5 hc hf D7)|(go_at_call 351;refine(q9 HF _ (j4 s sl) (ns++new) (j+1) (q9 D6) l7).mono ?_;rintro e w3⟨A9,h3⟩;rw[q9 D4]at h3;obtain⟨L1,rfl,B8,Y8,s9,Q6⟩:=h3;have a7:=j3 Q6;clear Q6;obtain⟨hc,hf,_,D7,aC⟩:=A9.mine hL (q9 P4);have q1:w3.cell? ⟨wr.heap.size,1,none⟩=some (.int .i64 sl.place):=(hc 1).trans p1;have q3:w3.cell? ⟨wr.heap.size,3,none⟩=some (.string ⟨#[47]⟩):=(hc 3).trans p3;have F5:=j3 A9;have F4:=j3 B8;clear A9 B8 hc hf D7)|(go_at_call 216;refine(qu3 (q9 F4) hs ⟨ve4 sl.tk.kind,sl.place,0,[],[],[]⟩ (ns.length+new.length - 1) (ns.length+new.length+L1.length - 1) (by rw[hk25];rfl) rfl rfl rfl (by simp)).mono ?_;rintro e w4⟨rfl,D0,D9⟩;have cA:=D9.fine.place;have L5:=j3 (qz5 D9);have K6:=j3 D0;have I6:=j3 D9;clear D0 D9))
      go_roundw
      case rel=>
       refine j3 ⟨(((q9 HK).trans (q9 E9)).trans (q9 F5)).trans (q9 K6),.inl ⟨mm,_,G4,new++L1++[qi5 ⟨ve4 sl.tk.kind,sl.place,0,[],[],[]⟩ [ns.length+new.length - 1,ns.length+new.length+L1.length - 1] false],q9 K5,by omega,vr9 (by simp;omega), ?_,Y8,by omega,Flat.bin _ (q9 K0) (by have:=q9 a7;rwa [List.length_append]at this)⟩⟩;have:=q9 I6;simpa only[List.append_assoc]using this
      case measure=>rw[q9 bQ,q9 L5];omega
     | err en pl=>
      have K5:Hid (R=.err en pl):=j3 (by rw[L8,qk0 G1 (qi7 A8)]);have D4:=j3 A8;clear G1 L8 A8
      go_wp2_with(first|(go_at_call 215;refine(va4 (q9 Q8)).mono ?_;rintro e w'⟨rfl,hw'⟩;subst w';simp only[eM,kB])|(go_at_call 172;refine(qb4 (q9 H') hs (by omega) (by omega)).mono ?_;rintro e w2⟨rfl,A3,A5⟩;obtain⟨hc,hf,_,D7,hL⟩:=A3.mine (by simp) (q9 FR);have p1:w2.cell? ⟨wr.heap.size,1,none⟩=some (.int .i64 sl.place):=(hc 1).trans (by simp);have p3:w2.cell? ⟨wr.heap.size,3,none⟩=some (.string ⟨#[47]⟩):=(hc 3).trans (by simp);have P4:=j3 D7;have E9:=j3 (qf3 P6 A3);have D6:=j3 A5;clear A3 A5 hc hf D7)|(go_at_call 351;refine(q9 HF _ (j4 s sl) (ns++new) (j+1) (q9 D6) l7).mono ?_;rintro e w3⟨A9,h3⟩;rw[q9 D4]at h3;obtain⟨i3,rfl,B8⟩:=h3;obtain⟨hc,hf,_,D7,aC⟩:=A9.mine hL (q9 P4);have q1:w3.cell? ⟨wr.heap.size,1,none⟩=some (.int .i64 sl.place):=(hc 1).trans p1;have q3:w3.cell? ⟨wr.heap.size,3,none⟩=some (.string ⟨#[47]⟩):=(hc 3).trans p3;have F5:=j3 A9;have F4:=j3 B8;clear A9 B8 hc hf D7)|(go_at_call 216;refine(qq8 (q9 F4) (by omega) [47] sl.place (ns.length+new.length - 1) i3 rfl (by simp)).mono ?_;rintro e w4⟨i4,rfl,D0,D9⟩;have L5:=j3 (jc7 D9);have K6:=j3 D0;have I6:=j3 D9;clear D0 D9))
      go_roundw
      case rel=>exact j3 ⟨(((q9 HK).trans (q9 E9)).trans (q9 F5)).trans (q9 K6),.inr ⟨en,pl,i4,q9 K5,rfl,q9 I6⟩⟩
      case measure=>rw[q9 bQ,q9 L5];omega
    ·have xA:¬sl.tk.kind=25:=hk25
     have kB:(rK sl.tk.kind==5&&((BS (tkS sl)).toList==(⟨#[47]⟩:ByteArray).toList))=false:=(isK (c:=25) rfl (by decide) (by decide) 5 rfl).trans (beq_eq_false_iff_ne.2 hk25);have G1:([24,25]:List Int).contains sl.tk.kind=false:=by simp[xB,xA]
     have K5:Hid (R=.ok l sl):=j3 (by rw[L8,qp1 G1]);clear G1 L8
     go_wp2_with(first|(go_at_call 215;refine(va4 (q9 Q8)).mono ?_;rintro e w'⟨rfl,hw'⟩;subst w';simp only[eM,kB]))
     go_ret;rw[q9 K5];exact⟨q9 HK,new,rfl,q9 Q8,l7,T8,q9 K0⟩
  ·obtain⟨c8,dJ⟩:=U3.c8
   have fA:=j3 U3;have HK:=j3 hk;clear U3 hk hrel aS
   go_wp2_with fail
   go_ret;rw[L8];exact⟨q9 HK,i,rfl,q9 fA⟩
end
end Go.Proofs.YtfkcaldjphakpaaGreatDoor
