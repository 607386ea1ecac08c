/- test: all kinds of what comes behind the first sum. All levels of the reader together. Read's deferred function. What Read says of a text. demandAlike, class, checkClasses. class, checkClasses. The numbers of what is read fit an int64. What a term is of an event. Of, over what join says. The strings of what is read are short, its texts few. Reading a list of tokens, places left out; it goes as reading a text goes. Reading a list of tokens goes as reading a text goes: rows, signs, groups. Reading a list of tokens goes as reading a text goes: the rest. Reading a list of tokens goes as reading a text goes: tests, and all levels. What is read of tokens is read of them too where a closing parenthesis follows, some things open more, or it is too deep. A text that has these tokens reads so. The texts of Ranges, by their tokens. The tokens of a text behind which another one stands. The shapes of terms that are read, and how many there are. -/
import Derived.Test.YtfkcaldjphakpaaGreatDoorE06
import Derived.Defers
import Derived.Recover
import Derived.Laws.Pointers
import Derived.Deep.RegionHeld3
import Derived.Test.YtfkcaldjphakpaaGreatDoorE24
import Derived.Test.YtfkcaldjphakpaaGreatDoorE07
import Derived.Test.YtfkcaldjphakpaaGreatDoorE04
set_option maxHeartbeats 2000000
set_option maxRecDepth 100000
namespace Go.Proofs.YtfkcaldjphakpaaGreatDoor
open Go.RowKit
section
theorem jh2 (rb:Nat) (s:ByteArray) (op:Nat) (f:St→Res) (gI gL:Ast→St→Res) (hf:qf6 241 rb s op f) (hI:qj5 268 rb s op 11 gI) (hL:qj5 269 rb s op 12 gL) :
  qf6 198 rb s op (qg6 s f gI gL):=by
 intro w st h ho
 cases hres:f st with
 | err en pl=>
  have hT:qg6 s f gI gL st=.err en pl:=by unfold qg6;rw [hres]
  rw [hT]
  obtain ⟨c0,c1,c2,c3,c4,c5,c6,fz⟩:=h.at'
  have H:=v7 h
  have HF:=v7 hf
  have HRES:=v7 hres
  clear h hf hI hL hres hT
  cases hb0:(st.tk.kind==2)
  all_goals
   go_enter Tryz.func198,Tryz.ntmps198
   go_wp2_with (go_at_call 241;refine (q9 HF _ st (q9 H) ho).mono ?_;rintro e w1 ⟨hk1,h1⟩;rw [q9 HRES] at h1;subst h1;simp only [qa1])
   exact ⟨rfl,hk1,rfl⟩
 | ok l st1=>
  have hT:qg6 s f gI gL st=qa3 s f gI gL (qd8 st l) l st1:=by unfold qg6;rw [hres]
  rw [hT]
  by_cases h16:st1.tk.kind=16
  ·exact test_16 rb s op f gI gL hf hI hL w st h ho l st1 hres h16
  by_cases h17:st1.tk.kind=17
  ·exact test_17 rb s op f gI gL hf hI hL w st h ho l st1 hres h17
  by_cases h18:st1.tk.kind=18
  ·exact test_18 rb s op f gI gL hf hI hL w st h ho l st1 hres h18
  by_cases h19:st1.tk.kind=19
  ·exact test_19 rb s op f gI gL hf hI hL w st h ho l st1 hres h19
  by_cases h20:st1.tk.kind=20
  ·exact test_20 rb s op f gI gL hf hI hL w st h ho l st1 hres h20
  by_cases h21:st1.tk.kind=21
  ·exact test_21 rb s op f gI gL hf hI hL w st h ho l st1 hres h21
  by_cases h14:st1.tk.kind=14
  ·exact test_14 rb s op f gI gL hf hI hL w st h ho l st1 hres h14
  by_cases h7:st1.tk.kind=7
  ·exact test_7 rb s op f gI gL hf hI hL w st h ho l st1 hres h7
  by_cases h10:st1.tk.kind=10
  ·exact test_10 rb s op f gI gL hf hI hL w st h ho l st1 hres h10
  by_cases h11:st1.tk.kind=11
  ·exact test_11 rb s op f gI gL hf hI hL w st h ho l st1 hres h11
  by_cases h12:st1.tk.kind=12
  ·exact test_12 rb s op f gI gL hf hI hL w st h ho l st1 hres h12
  exact test_none rb s op f gI gL hf hI hL w st h ho l st1 hres h16 h17 h18 h19 h20 h21 h14 h7 h10 h11 h12
end
section
structure L3 where
 S:St→Res
 D:St→Res
 E:St→Res
def prodOf (s:ByteArray) (S:St→Res):St→Res:=qe2 s S [24,25]
def sumOf (s:ByteArray) (S:St→Res):St→Res:=qe2 s (prodOf s S) [22,23]
def testOf (s:ByteArray) (S:St→Res):St→Res:=qg6 s (sumOf s S) (qh7 s) (qa9 s)
def eitherOf (s:ByteArray) (D:St→Res):St→Res:=qe2 s (qe2 s D [5]) [6]
def up3 (s:ByteArray) (L:L3):L3:=⟨qb7 s L.S L.E,qd6 s L.D (testOf s (qb7 s L.S L.E)),eitherOf s (qd6 s L.D (testOf s (qb7 s L.S L.E)))⟩
def lvl (s:ByteArray):Nat→L3
 | 0=>up3 s ⟨fun _=>.err 0 0,fun _=>.err 0 0,fun _=>.err 0 0⟩
 | d+1=>up3 s (lvl s d)
structure Reads3 (rb:Nat) (s:ByteArray) (op:Nat) (L:L3):Prop where
 S:qf6 301 rb s op L.S
 D:qf6 147 rb s op L.D
 E:qf6 55 rb s op L.E
theorem vs4 (rb:Nat) (s:ByteArray) (hs:s.size≤200) (op:Nat) (hop:op≤12) (L:L3) (h:op<12→Reads3 rb s (op+1) L):Reads3 rb s op (up3 s L):=by
 have hS:qf6 301 rb s op (qb7 s L.S L.E):=vr9 rb s op hop L.S L.E (fun k=>(h k).S) (fun k=>(h k).E)
 have hP:=vi5 rb s op _ hS
 have hU:=sum_reads rb s op _ hP
 have hT:=jh2 rb s op _ _ _ hU (in_reads rb s op hs) (jd9 rb s op hs)
 have hD:=vn0 rb s op hop L.D _ (fun k=>(h k).D) hT
 exact ⟨hS,hD,vn1 rb s op _ (jc0 rb s op _ hD)⟩
theorem lvl_reads (rb:Nat) (s:ByteArray) (hs:s.size≤200):∀(d op:Nat),op+d=12→Reads3 rb s op (lvl s d):=by
 intro d
 induction d with
 | zero=>intro op h;exact vs4 rb s hs op (by omega) _ (fun k=>by omega)
 | succ d ih=>intro op h;exact vs4 rb s hs op (by omega) _ (fun _=>ih (op+1) (by omega))
def Good (f:St→Res):Prop:=∀st t st',f st=.ok t st'→WfA t
def GoodT (g:Ast→St→Res):Prop:=∀l st t st',WfA l→g l st=.ok t st'→WfA t
theorem Good.join {s:ByteArray} {f:St→Res} (h:Good f):∀st l t st',WfA l→qc2 s f st l=.ok t st'→WfA t:=by
 intro st l t st' hl he
 unfold qc2 at he
 split at he
 ·rename_i r st2 hr;injection he with h1 _;subst h1;exact ⟨hl,h _ _ _ hr⟩
 ·cases he
theorem Good.loop {s:ByteArray} {f:St→Res} {ks:List Int} (h:Good f):∀n l st t st',WfA l→qa7 s f ks n l st=.ok t st'→WfA t:=by
 intro n
 induction n with
 | zero=>intro l st t st' hl he;rw [qa7] at he;injection he with h1 _;subst h1;exact hl
 | succ n ih=>
  intro l st t st' hl he
  rw [qa7] at he
  split at he
  ·split at he
   ·rename_i hj;exact ih _ _ _ _ (h.join _ _ _ _ hl hj) he
   ·cases he
  ·injection he with h1 _;subst h1;exact hl
theorem Good.row {s:ByteArray} {f:St→Res} {ks:List Int} (h:Good f):Good (qe2 s f ks):=by
 intro st t st' he
 unfold qe2 at he
 split at he
 ·rename_i hr;exact h.loop _ _ _ _ _ (h _ _ _ hr) he
 ·cases he
theorem Good.sign {s:ByteArray} {f:St→Res} (h:Good f) (o:Int) (ho:¬o=8∧¬o=9):Good (qd4 s f o):=by
 intro st t st' he
 unfold qd4 at he
 split at he
 ·cases he
 ·split at he
  ·rename_i hr;injection he with h1 _;subst h1;exact ⟨ho,h _ _ _ hr⟩
  ·cases he
theorem Good.group {s:ByteArray} {f:St→Res} (h:Good f):Good (qd2 s f):=by
 intro st t st' he
 unfold qd2 at he
 split at he
 ·cases he
 ·split at he
  ·rename_i hr;split at he
   ·injection he with h1 _;subst h1;exact h _ _ _ hr
   ·cases he
  ·cases he
theorem Good.signed {s:ByteArray} {fS fE:St→Res} (hS:Good fS) (hE:Good fE):Good (qb7 s fS fE):=by
 intro st t st' he
 unfold qb7 at he
 split at he
 ·exact hS.sign 14 (by decide) _ _ _ he
 split at he
 ·exact hS.sign 15 (by decide) _ _ _ he
 split at he
 ·exact hE.group _ _ _ he
 split at he
 ·injection he with h1 _;subst h1;exact ⟨by simp,by simp⟩
 split at he
 ·injection he with h1 _;subst h1;exact ⟨by simp,by simp⟩
 split at he
 ·injection he with h1 _;subst h1;exact ⟨by simp,by simp⟩
 split at he
 ·injection he with h1 _;subst h1;exact ⟨by simp,by simp⟩
 split at he
 ·injection he with h1 _;subst h1;exact ⟨by simp,by simp⟩
 ·cases he
theorem vv1 {s:ByteArray}:GoodT (qd0 s):=by
 intro l st t st' hl he
 unfold qd0 at he
 split at he
 ·split at he
  ·injection he with h1 _;subst h1;exact ⟨⟨by simp,by simp⟩,⟨by simp,by simp⟩,hl⟩
  ·cases he
 ·split at he
  ·injection he with h1 _;subst h1;exact ⟨⟨by simp,by simp⟩,hl⟩
  ·cases he
theorem vv0 {s:ByteArray} {l:Ast} {pl:Nat} (hl:WfA l):∀n ts st t st',qg1 s l pl n ts st=.ok t st'→WfA t:=by
 intro n
 induction n with
 | zero=>intro ts st t st' he;rw [qg1] at he;cases he
 | succ n ih=>
  intro ts st t st' he
  rw [qg1] at he
  split at he
  ·split at he
   ·exact ih _ _ _ _ he
   ·cases he
  ·split at he
   ·injection he with h1 _;subst h1;exact ⟨⟨by simp,by simp⟩,hl⟩
   ·cases he
theorem good_in {s:ByteArray}:GoodT (qh7 s):=by
 intro l st t st' hl he
 unfold qh7 at he
 split at he
 ·split at he
  ·exact vv0 hl _ _ _ _ _ he
  ·cases he
 ·cases he
theorem good_like {s:ByteArray}:GoodT (qa9 s):=by
 intro l st t st' hl he
 unfold qa9 at he
 repeat' split at he
 all_goals first|(injection he with h1 _;subst h1;exact ⟨⟨by simp,by simp⟩,hl⟩)|cases he
theorem Good.between {s:ByteArray} {f:St→Res} (h:Good f):GoodT (qa0 s f):=by
 intro l st t st' hl he
 unfold qa0 at he
 split at he
 ·split at he
  ·rename_i h1;split at he
   ·split at he
    ·rename_i h2;injection he with h3 _;subst h3;exact ⟨⟨by simp,by simp⟩,hl,h _ _ _ h1,h _ _ _ h2⟩
    ·cases he
   ·cases he
  ·cases he
 ·cases he
theorem Good.keyword {s:ByteArray} {f:St→Res} (h:Good f) (bare:Bool):GoodT (qa2 s f (qh7 s) (qa9 s) bare):=by
 intro l st t st' hl he
 unfold qa2 at he
 split at he
 ·exact good_in _ _ _ _ hl he
 split at he
 ·exact good_like _ _ _ _ hl he
 ·exact h.between _ _ _ _ hl he
theorem Good.test {s:ByteArray} {f:St→Res} (h:Good f):Good (qg6 s f (qh7 s) (qa9 s)):=by
 intro st t st' he
 unfold qg6 at he
 split at he
 ·rename_i hr
  have hl:=h _ _ _ hr
  unfold qa3 at he
  split at he
  ·exact h.join _ _ _ _ hl he
  split at he
  ·split at he
   ·exact vv1 _ _ _ _ hl he
   ·injection he with h1 _;subst h1;exact hl
  split at he
  ·split at he
   ·rename_i hk;injection he with h1 _;subst h1;exact ⟨⟨by simp,by simp⟩,h.keyword _ _ _ _ _ hl hk⟩
   ·cases he
  split at he
  ·exact h.keyword _ _ _ _ _ hl he
  ·injection he with h1 _;subst h1;exact hl
 ·cases he
theorem Good.denied {s:ByteArray} {fD fT:St→Res} (hD:Good fD) (hT:Good fT):Good (qd6 s fD fT):=by
 intro st t st' he
 unfold qd6 at he
 split at he
 ·exact hD.sign 5 (by decide) _ _ _ he
 ·exact hT _ _ _ he
structure Good3 (L:L3):Prop where
 S:Good L.S
 D:Good L.D
 E:Good L.E
theorem ja8 {s:ByteArray} {L:L3} (h:Good3 L):Good3 (up3 s L):=by
 have hS:=Good.signed (s:=s) h.S h.E
 have hD:=Good.denied (s:=s) h.D (Good.test (s:=s) ((hS.row (s:=s) (ks:=[24,25])).row (s:=s) (ks:=[22,23])))
 exact ⟨hS,hD,(hD.row (s:=s) (ks:=[5])).row (s:=s) (ks:=[6])⟩
theorem lvl_good (s:ByteArray):∀d,Good3 (lvl s d):=by
 intro d
 induction d with
 | zero=>exact ja8 ⟨(fun _ _ _ h=>by cases h),(fun _ _ _ h=>by cases h),(fun _ _ _ h=>by cases h)⟩
 | succ d ih=>exact ja8 ih
end
section
theorem jc2 (p0 p1 p2:Addr) (w:World) :
  CallsD Tryz.prog 53 #[.pointer (some p0),.pointer (some p1),.pointer (some p2)] .returning w fun e u' w'=>e=.returned (.tuple #[])∧u'=.returning∧w'=w:=by
 refine callsD_of_wpS Tryz.func53 rfl fun c₀ cs hu=>?_
 apply wpS_seq
 apply wpS_region
 simp [wpOpsS,go_sem,recoverD,hu,Tryz.ntmps53,Exit.thenS]
 refine wpS_of_wp ?_
 rw [show (#[Value.pointer (some p0),Value.pointer (some p1),Value.pointer (some p2)]++(Array.replicate 13 undef).setIfInBounds 3 Value.nilIface)=#[Value.pointer (some p0),Value.pointer (some p1),Value.pointer (some p2),undef,undef,undef,Value.nilIface,undef,undef,undef,undef,undef,undef,undef,undef,undef] from rfl]
 go_wp2_with fail
 refine ⟨rfl,.returning, ?_,_,results_none rfl _ _ _,rfl,rfl,rfl⟩
 cases c₀
 simp_all
theorem as_fault (v:Value) (w:World):(Instr.typeAssert (.iface 88 v) 20 88 true).run Tryz.prog w=.ok (.tuple #[v,.bool true]) w:=by kernel_rfl
theorem eq_fault (v:Value) (w:World):(binOp .eql 20 (.iface 88 v) .nilIface).run Tryz.prog w=.ok (.bool false) w:=by kernel_rfl
theorem qn5 (B:Nat) (x0 x1 x2:Value) (en pl:Int) (older:List PanicEntry) (w:World) (hB:B+2<w.heap.size) (h0:w.cell? ⟨B,0,none⟩=some x0) (h1:w.cell? ⟨B+1,0,none⟩=some x1) (h2:w.cell? ⟨B+2,0,none⟩=some x2)
  (f0:w.frozen? ⟨B,0,none⟩=false) (f1:w.frozen? ⟨B+1,0,none⟩=false) (f2:w.frozen? ⟨B+2,0,none⟩=false) :
  CallsD Tryz.prog 53 #[.pointer (some ⟨B,0,none⟩),.pointer (some ⟨B+1,0,none⟩),.pointer (some ⟨B+2,0,none⟩)] (.panicking ({ v:=.iface 88 (.agg #[.int .i64 en,.int .i64 pl]),recovered:=false }::older)) w fun e u' w'=>
   e=.returned (.tuple #[])∧u'=.panicking ({ v:=.iface 88 (.agg #[.int .i64 en,.int .i64 pl]),recovered:=true }::older) ∧
   w'.cell? ⟨B,0,none⟩=some (.pointer none)∧w'.cell? ⟨B+1,0,none⟩=some (.int .i64 en)∧w'.cell? ⟨B+2,0,none⟩=some (.int .i64 pl)∧Below B w w':=by
 refine callsD_of_wpS Tryz.func53 rfl fun c₀ cs hu=>?_
 apply wpS_seq
 apply wpS_region
 simp [wpOpsS,go_sem,recoverD,hu,Tryz.ntmps53,Exit.thenS]
 refine wpS_of_wp ?_
 rw [show (#[Value.pointer (some ⟨B,0,none⟩),Value.pointer (some ⟨B+1,0,none⟩),Value.pointer (some ⟨B+2,0,none⟩)]++(Array.replicate 13 undef).setIfInBounds 3 (.iface 88 (.agg #[.int .i64 en,.int .i64 pl])))=#[Value.pointer (some ⟨B,0,none⟩),Value.pointer (some ⟨B+1,0,none⟩),Value.pointer (some ⟨B+2,0,none⟩),undef,undef,undef,.iface 88 (.agg #[.int .i64 en,.int .i64 pl]),undef,undef,undef,undef,undef,undef,undef,undef,undef] from rfl]
 have ha:=as_fault
 have hq:=eq_fault
 have n0:B<w.heap.size:=by omega
 have n1:B+1<w.heap.size:=by omega
 have m0:¬w.heap.size=B:=by omega
 have m1:¬w.heap.size=B+1:=by omega
 have m2:¬w.heap.size=B+2:=by omega
 go_wp2_with fail
 go_region
 all_goals refine ⟨rfl,.panicking ({ v:=.iface 88 (.agg #[.int .i64 en,.int .i64 pl]),recovered:=true }::older), ?_,_,results_none rfl _ _ _,rfl,rfl, ?_, ?_, ?_, ?_⟩
 ·cases c₀
  simp_all
 ·rw [World.cell?_drew,World.cell?_alloc_past _ _ _ (by simp;omega)];simp [go_sem,h0]
 ·rw [World.cell?_drew,World.cell?_alloc_past _ _ _ (by simp;omega)];simp [go_sem,h1]
 ·rw [World.cell?_drew,World.cell?_alloc_past _ _ _ (by simp;omega)];simp [go_sem,h2]
 ·exact (((((Below.refl B w).setCell (Nat.le_refl _) _).setCell (by simp) _).setCell (by simp) _).alloc (by simp;omega) _).drew
end
section
structure Above (lo:Nat) (w w':World):Prop where
 size:w.heap.size≤w'.heap.size
 block:∀k,lo<k→k<w.heap.size→w'.heap[k]?=w.heap[k]?
theorem Kept.above {rb:Nat} {w w':World} (h:Kept rb w w'):Above rb w w':=⟨h.size,fun k h1 h2=>h.block k h2 (by omega)⟩
theorem Above.trans {lo:Nat} {a b c:World} (h:Above lo a b) (k:Above lo b c):Above lo a c:=⟨Nat.le_trans h.size k.size,fun i h1 h2=>(k.block i h1 (Nat.lt_of_lt_of_le h2 h.size)).trans (h.block i h1 h2)⟩
theorem Above.setCell {lo:Nat} {a w:World} (h:Above lo a w) {p:Addr} (hp:p.block≤lo) (u:Value):Above lo a (w.setCell p u):=by
 refine ⟨by rw [qa8];exact h.size,fun k h1 h2=>?_⟩
 rw [Below.heap_setCell w p u k (by omega)];exact h.block k h1 h2
theorem Above.cell {lo:Nat} {w w':World} (h:Above lo w w') {g:Nat} (h1:lo<g) (h2:g<w.heap.size) (j:Nat):w'.cell? ⟨g,j,none⟩=w.cell? ⟨g,j,none⟩:=
 World.cell?_of_block (w:=w) (w':=w') (a:=⟨g,j,none⟩) (h.block g h1 h2)
theorem TextsAt.keptA {lo:Nat} {w w':World} (hk:Above lo w w') {v:Value} {ts:List (List UInt8)} (h:TextsAt lo w v ts):TextsAt lo w' v ts:=by
 rcases h with h|⟨g,cap,hv,hg,hg2,hc⟩
 ·exact .inl h
 ·exact .inr ⟨g,cap,hv,hg,Nat.lt_of_lt_of_le hg2 hk.size,fun j t ht=>(hk.cell hg hg2 j).trans (hc j t ht)⟩
theorem NodeAt.keptA {lo:Nat} {w w':World} (hk:Above lo w w') {b:Nat} {p:Pay} {sides:Value} (h:NodeAt lo w b p sides):NodeAt lo w' b p sides:=by
 obtain ⟨h1,h2,c0,c1,c2,c3,c4,c5,tv,c6,ht⟩:=h
 have hc:=fun j=>hk.cell h1 h2 j
 exact ⟨h1,Nat.lt_of_lt_of_le h2 hk.size,(hc 0).trans c0,(hc 1).trans c1,(hc 2).trans c2,(hc 3).trans c3,(hc 4).trans c4,(hc 5).trans c5,tv,(hc 6).trans c6,ht.keptA hk⟩
theorem IsNode.above {lo:Nat} {w w':World} (hk:Above lo w w'):∀{t:Ast} {v:Value},IsNode lo w v t→IsNode lo w' v t:=by
 have hc:=fun g j (h1:lo<g) (h2:g<w.heap.size)=>hk.cell h1 h2 j
 intro t
 induction t with
 | leaf p=>rintro v ⟨b,rfl,h⟩;exact ⟨b,rfl,h.keptA hk⟩
 | un p x ih=>
  rintro v ⟨b,g,v1,rfl,h,h1,h2,e1,n1⟩
  exact ⟨b,g,v1,rfl,h.keptA hk,h1,Nat.lt_of_lt_of_le h2 hk.size,(hc g 0 h1 h2).trans e1,ih n1⟩
 | bin p x y ihx ihy=>
  rintro v ⟨b,g,v1,v2,rfl,h,h1,h2,e1,e2,n1,n2⟩
  exact ⟨b,g,v1,v2,rfl,h.keptA hk,h1,Nat.lt_of_lt_of_le h2 hk.size,(hc g 0 h1 h2).trans e1,(hc g 1 h1 h2).trans e2,ihx n1,ihy n2⟩
 | tri p x y z ihx ihy ihz=>
  rintro v ⟨b,g,v1,v2,v3,rfl,h,h1,h2,e1,e2,e3,n1,n2,n3⟩
  exact ⟨b,g,v1,v2,v3,rfl,h.keptA hk,h1,Nat.lt_of_lt_of_le h2 hk.size,(hc g 0 h1 h2).trans e1,(hc g 1 h1 h2).trans e2,(hc g 2 h1 h2).trans e3,ihx n1,ihy n2,ihz n3⟩
inductive RRes where
 | ok (t:Ast)
 | err (en pl:Int)
def st0:St:=⟨⟨0,0,[]⟩,0,0,0⟩
def endR (t:Ast) (st:St):RRes:=if st.tk.kind=0 then (match chkR (qc8 t) with
 | none=>.ok t
 | some q=>.err 4 q) else .err 2 st.place
def qq1 (s:ByteArray):RRes:=if s.size≤200 then (match (lvl s 12).E (v6 s st0) with
 | .err en pl=>.err en pl
 | .ok t st=>endR t st) else .err 1 0
def vy7 (w:World) (r:RRes) (e:Ending) (w':World):Prop:=Below w.heap.size w w'∧match r with
 | .ok t=>∃v,e=.returned (.tuple #[v,.int .i64 0,.int .i64 0])∧IsNode (w.heap.size+3) w' v t
 | .err en pl=>e=.returned (.tuple #[.pointer none,.int .i64 en,.int .i64 pl])
theorem Kept.below {rb B:Nat} {a w w':World} (h:Kept rb w w') (hb:Below B a w) (hB:B≤rb) (hz:B≤w.heap.size):Below B a w':=
 ⟨h.os.trans hb.os,h.tape.trans hb.tape,h.output.trans hb.output,Nat.le_trans hb.size h.size,fun k hk=>(h.block k (by omega) (by omega)).trans (hb.block k hk)⟩
def qs5 (w:World) (s:ByteArray):World:=(((w.alloc (.cells #[.pointer none] 67)).alloc (.cells #[.int .i64 0] 41)).alloc (.cells #[.int .i64 0] 3)).alloc (.cells #[.string s,.int .i64 0,.int .i64 0,.int .i64 0,.string ⟨#[]⟩,.int .i64 0,.int .i64 0] 93)
theorem qh6 (w:World) (s:ByteArray):(qs5 w s).heap.size=w.heap.size+4:=by simp [qs5]
theorem vt3 (w:World) (s:ByteArray):Below w.heap.size w (qs5 w s):=(x4 w _ _ _).alloc (by simp;omega) _
theorem vt4 (w:World) (s:ByteArray):(qs5 w s).cell? ⟨w.heap.size,0,none⟩=some (.pointer none)∧(qs5 w s).cell? ⟨w.heap.size+1,0,none⟩=some (.int .i64 0)∧(qs5 w s).cell? ⟨w.heap.size+2,0,none⟩=some (.int .i64 0) ∧
  (qs5 w s).frozen? ⟨w.heap.size,0,none⟩=false∧(qs5 w s).frozen? ⟨w.heap.size+1,0,none⟩=false∧(qs5 w s).frozen? ⟨w.heap.size+2,0,none⟩=false:=by
 unfold qs5
 refine ⟨?_, ?_, ?_, ?_, ?_, ?_⟩
 ·rw [World.cell?_alloc_past _ _ _ (by simp<;>omega),World.cell?_alloc_past _ _ _ (by simp<;>omega),World.cell?_alloc_past _ _ _ (by simp),World.cell?_alloc_at _ _ _ _ rfl];rfl
 ·rw [World.cell?_alloc_past _ _ _ (by simp<;>omega),World.cell?_alloc_past _ _ _ (by simp),World.cell?_alloc_at _ _ _ _ (by simp)];rfl
 ·rw [World.cell?_alloc_past _ _ _ (by simp),World.cell?_alloc_at _ _ _ _ (by simp)];rfl
 ·rw [World.frozen?_alloc_past _ _ _ (by simp<;>omega),World.frozen?_alloc_past _ _ _ (by simp<;>omega),World.frozen?_alloc_past _ _ _ (by simp),World.frozen?_alloc_at _ _ _ _ rfl]
 ·rw [World.frozen?_alloc_past _ _ _ (by simp<;>omega),World.frozen?_alloc_past _ _ _ (by simp),World.frozen?_alloc_at _ _ _ _ (by simp)]
 ·rw [World.frozen?_alloc_past _ _ _ (by simp),World.frozen?_alloc_at _ _ _ _ (by simp)]
theorem rd_new (w:World) (s:ByteArray):RdAt (w.alloc (.cells #[.string s,.int .i64 0,.int .i64 0,.int .i64 0,.string ⟨#[]⟩,.int .i64 0,.int .i64 0] 93)) w.heap.size s st0:=
 ⟨by simp,by simp [st0],by simp [st0],by simp [st0],by simp [st0,BS],by simp [st0],by simp [st0],fun j=>by simp⟩
theorem begun_rd (w:World) (s:ByteArray):RdAt (qs5 w s) (w.heap.size+3) s st0:=by
 have hs:w.heap.size+3=(((w.alloc (.cells #[.pointer none] 67)).alloc (.cells #[.int .i64 0] 41)).alloc (.cells #[.int .i64 0] 3)).heap.size:=by simp
 rw [hs]
 exact rd_new _ s
theorem vm5 (w:World) (s:ByteArray) (h:ErrOk w):ErrOk (qs5 w s):=(((h.alloc _).alloc _).alloc _).alloc _
theorem vt5 (w:World) (s:ByteArray) (h:ErrOk w) (hs:s.size≤200):Ready (w.heap.size+3) s (qs5 w s) st0:=
 ⟨begun_rd w s,by rw [qh6];omega,vm5 w s h,by have:=h.1;omega,⟨Nat.zero_le _,Nat.zero_le _,fun h=>absurd rfl h⟩,by omega⟩
end
section
def AlikeEnds (w:World) (r:CRes) (e:Ending) (w':World):Prop:=Below w.heap.size w w'∧match r with
 | .ok _=>e=.returned (.tuple #[])
 | .err q=>e=qa1 4 q
theorem vm3 (lo:Nat) (p:Pay) (x y:Ast) (hx:qg0 lo x) (hy:qg0 lo y) (w:World) (v:Value) (h:IsNode lo w v (.bin p x y)) :
  Calls Tryz.prog 149 #[v] w (AlikeEnds w (qp2 p.place (qc8 x) (qc8 y))):=by
 obtain ⟨b,g,v1,v2,rfl,hn,hg1,hg2,e1,e2,n1,n2⟩:=h
 obtain ⟨b1,rfl⟩:=n1.ptr
 obtain ⟨b2,rfl⟩:=n2.ptr
 obtain ⟨hab,hbw,c0,c1,c2,c3,c4,c5,c6⟩:=hn
 obtain ⟨pl,hpl⟩:∃pl,p.place=pl:=⟨_,rfl⟩
 rw [hpl] at c1 ⊢
 have N1:=v7 (n1.kept ((Kept.refl lo w).drew))
 have N2:=v7 n2
 have CX:=v7 hx
 have CY:=v7 hy
 clear c0 c3 c4 c5 c6 n1 n2 hx hy hpl
 cases hxc:qc8 x with
 | err q=>
  have HX:=v7 hxc
  clear hxc
  rw [qp2]
  go_enter Tryz.func149,Tryz.ntmps149
  go_wp2_with fail
  go_region_with (first|(go_at_call_of 104 (Value.pointer (some { block:=b1,off:=0 }));refine (q9 CX _ _ (q9 N1)).mono ?_;rintro e w1 ⟨hb1,h1⟩;rw [q9 HX] at h1;subst h1;refine gone (w:=w1) ⟨rfl,((Below.refl w.heap.size w).drew).trans hb1,rfl⟩ ?_))
  all_goals trivial
 | ok cx=>
  have HX:=v7 hxc
  clear hxc
  cases hyc:qc8 y with
  | err q=>
   have HY:=v7 hyc
   clear hyc
   rw [qp2]
   go_enter Tryz.func149,Tryz.ntmps149
   go_wp2_with fail
   go_region_with (first|(go_at_call_of 104 (Value.pointer (some { block:=b1,off:=0 }));refine (q9 CX _ _ (q9 N1)).mono ?_;rintro e w1 ⟨hb1,h1⟩;rw [q9 HX] at h1;subst h1;have hb1:Below w.heap.size w w1:=((Below.refl w.heap.size w).drew).trans hb1;obtain ⟨hc,hf⟩:=v9 hb1;have k2:w1.cell? ⟨b,2,none⟩=some (.slice (some ⟨g,0,none⟩) 2 2):=(hc _ 2 hbw).trans c2;have k3:w1.cell? ⟨g,0,none⟩=some (.pointer (some ⟨b1,0,none⟩)):=(hc _ 0 hg2).trans e1;have k4:w1.cell? ⟨g,1,none⟩=some (.pointer (some ⟨b2,0,none⟩)):=(hc _ 1 hg2).trans e2;have z1:=hb1.size;have hb1:=v7 hb1;clear hc hf)|(go_at_call_of 104 (Value.pointer (some { block:=b2,off:=0 }));refine (q9 CY _ _ ((q9 N2).kept (Kept.of_below (q9 hb1)))).mono ?_;rintro e w2 ⟨hb2,h2⟩;rw [q9 HY] at h2;subst h2;refine gone (w:=w2) ⟨rfl,v8 (q9 hb1) hb2,rfl⟩ ?_))
   all_goals trivial
  | ok cy=>
   have HY:=v7 hyc
   clear hyc
   rw [qp2]
   obtain ⟨R,hR⟩:∃r,(if (cx != cy&&cx != 0&&cy != 0)=true then CRes.err pl else CRes.ok 3)=r:=⟨_,rfl⟩
   rw [hR]
   have HR:=v7 hR
   clear hR
   go_enter Tryz.func149,Tryz.ntmps149
   go_wp2_with fail
   go_region_held3 (fun w'=>w'.cell? ⟨b,2,none⟩=some (.slice (some ⟨g,0,none⟩) 2 2)∧w'.cell? ⟨g,0,none⟩=some (.pointer (some ⟨b1,0,none⟩))∧w'.cell? ⟨g,1,none⟩=some (.pointer (some ⟨b2,0,none⟩))) (go_keep) (first|(go_at_call_of 104 (Value.pointer (some { block:=b1,off:=0 }));refine (q9 CX _ _ (q9 N1)).mono ?_;rintro e w1 ⟨hb1,h1⟩;rw [q9 HX] at h1;subst h1;have hb1:Below w.heap.size w w1:=((Below.refl w.heap.size w).drew).trans hb1;obtain ⟨hc,hf⟩:=v9 hb1;have k2:w1.cell? ⟨b,2,none⟩=some (.slice (some ⟨g,0,none⟩) 2 2):=(hc _ 2 hbw).trans c2;have k3:w1.cell? ⟨g,0,none⟩=some (.pointer (some ⟨b1,0,none⟩)):=(hc _ 0 hg2).trans e1;have k4:w1.cell? ⟨g,1,none⟩=some (.pointer (some ⟨b2,0,none⟩)):=(hc _ 1 hg2).trans e2;have z1:=hb1.size;have hb1:=v7 hb1;clear hc hf)|(go_at_call_of 104 (Value.pointer (some { block:=b2,off:=0 }));refine (q9 CY _ _ ((q9 N2).kept (Kept.of_below (q9 hb1)))).mono ?_;rintro e w2 ⟨hb2,h2⟩;rw [q9 HY] at h2;subst h2;obtain ⟨hc,hf⟩:=v9 hb2;have j1:w2.cell? ⟨b,1,none⟩=some (.int .i64 pl):=(hc _ 1 (by omega)).trans (((v9 (q9 hb1)).1 _ 1 hbw).trans c1);have l2:w2.cell? ⟨b,2,none⟩=some (.slice (some ⟨g,0,none⟩) 2 2):=(hc _ 2 (by omega)).trans k2;have l3:w2.cell? ⟨g,0,none⟩=some (.pointer (some ⟨b1,0,none⟩)):=(hc _ 0 (by omega)).trans k3;have l4:w2.cell? ⟨g,1,none⟩=some (.pointer (some ⟨b2,0,none⟩)):=(hc _ 1 (by omega)).trans k4;have hb2:=v7 (v8 (q9 hb1) hb2);clear hc hf))
   clear k2 k3 k4 l2 l3 l4 c1 c2 e1 e2
   cases h1:(cx != cy)<;>cases h2:(cx != 0)<;>cases h3:(cy != 0)
   all_goals
    rw [h1,h2,h3] at HR
    go_wp2_with fail
    rw [←q9 HR]
    first|exact ⟨rfl,q9 hb2,rfl⟩|(go_end0;exact ⟨q9 hb2,rfl⟩)
end
section
theorem qd9 {op pl want c:Int} {rs:List CRes} (h:qm2 op pl rs=demR want pl c rs) (hq:dem want pl rs true=none):qm2 op pl rs=.ok c:=by
 rw [h,demR,hq]
theorem qe0 {op pl want c q:Int} {rs:List CRes} (h:qm2 op pl rs=demR want pl c rs) (hq:dem want pl rs true=some q):qm2 op pl rs=.err q:=by
 rw [h,demR,hq]
theorem class_0 (lo:Nat) (t:Ast) (ho:(qb4 t).op=0):qg0 lo t:=by
 intro w v h
 have hc:qc8 t=.ok 0:=by rw [qc4,ho];rfl
 rw [hc]
 obtain ⟨b,sv,rfl,hnode,_⟩:=h.parts
 have c0:=hnode.c0
 rw [ho] at c0
 clear hnode h hc ho
 go_enter Tryz.func104,Tryz.ntmps104
 go_wp2_with fail
 go_ret
 exact ⟨Below.refl _ _,rfl⟩
theorem class_1 (lo:Nat) (t:Ast) (ho:(qb4 t).op=1):qg0 lo t:=by
 intro w v h
 have hc:qc8 t=.ok 1:=by rw [qc4,ho];rfl
 rw [hc]
 obtain ⟨b,sv,rfl,hnode,_⟩:=h.parts
 have c0:=hnode.c0
 rw [ho] at c0
 clear hnode h hc ho
 go_enter Tryz.func104,Tryz.ntmps104
 go_wp2_with fail
 go_ret
 exact ⟨Below.refl _ _,rfl⟩
theorem class_2 (lo:Nat) (t:Ast) (ho:(qb4 t).op=2):qg0 lo t:=by
 intro w v h
 have hc:qc8 t=.ok 2:=by rw [qc4,ho];rfl
 rw [hc]
 obtain ⟨b,sv,rfl,hnode,_⟩:=h.parts
 have c0:=hnode.c0
 rw [ho] at c0
 clear hnode h hc ho
 go_enter Tryz.func104,Tryz.ntmps104
 go_wp2_with fail
 go_ret
 exact ⟨Below.refl _ _,rfl⟩
theorem class_5 (lo:Nat) (t:Ast) (hcls:∀x∈j3 t,qg0 lo x) (ho:(qb4 t).op=5):qg0 lo t:=by
 intro w v h
 have DEM:=v7 (qe1 lo t hcls 3 w v h)
 obtain ⟨b,sv,rfl,hnode,_⟩:=h.parts
 have c0:=hnode.c0
 rw [ho] at c0
 cases hd:dem 3 (qb4 t).place ((j3 t).map qc8) true with
 | none=>
  have hc:qc8 t=.ok 3:=by rw [qc4,ho];exact qd9 (c:=3) rfl hd
  rw [hc]
  rw [hd] at DEM
  clear hnode h hc ho hd hcls
  go_enter Tryz.func104,Tryz.ntmps104
  go_wp2_with (go_at_call 148;refine (q9 DEM).mono ?_;rintro e w1 ⟨hb1,h1⟩;subst h1)
  go_ret
  exact ⟨hb1,rfl⟩
 | some q=>
  have hc:qc8 t=.err q:=by rw [qc4,ho];exact qe0 (c:=3) rfl hd
  rw [hc]
  rw [hd] at DEM
  clear hnode h hc ho hd hcls
  go_enter Tryz.func104,Tryz.ntmps104
  go_wp2_with (go_at_call 148;refine (q9 DEM).mono ?_;rintro e w1 ⟨hb1,h1⟩;subst h1;simp only [qa1])
  exact ⟨rfl,hb1,rfl⟩
theorem class_6 (lo:Nat) (t:Ast) (hcls:∀x∈j3 t,qg0 lo x) (ho:(qb4 t).op=6):qg0 lo t:=by
 intro w v h
 have DEM:=v7 (qe1 lo t hcls 3 w v h)
 obtain ⟨b,sv,rfl,hnode,_⟩:=h.parts
 have c0:=hnode.c0
 rw [ho] at c0
 cases hd:dem 3 (qb4 t).place ((j3 t).map qc8) true with
 | none=>
  have hc:qc8 t=.ok 3:=by rw [qc4,ho];exact qd9 (c:=3) rfl hd
  rw [hc]
  rw [hd] at DEM
  clear hnode h hc ho hd hcls
  go_enter Tryz.func104,Tryz.ntmps104
  go_wp2_with (go_at_call 148;refine (q9 DEM).mono ?_;rintro e w1 ⟨hb1,h1⟩;subst h1)
  go_ret
  exact ⟨hb1,rfl⟩
 | some q=>
  have hc:qc8 t=.err q:=by rw [qc4,ho];exact qe0 (c:=3) rfl hd
  rw [hc]
  rw [hd] at DEM
  clear hnode h hc ho hd hcls
  go_enter Tryz.func104,Tryz.ntmps104
  go_wp2_with (go_at_call 148;refine (q9 DEM).mono ?_;rintro e w1 ⟨hb1,h1⟩;subst h1;simp only [qa1])
  exact ⟨rfl,hb1,rfl⟩
theorem class_7 (lo:Nat) (t:Ast) (hcls:∀x∈j3 t,qg0 lo x) (ho:(qb4 t).op=7):qg0 lo t:=by
 intro w v h
 have DEM:=v7 (qe1 lo t hcls 3 w v h)
 obtain ⟨b,sv,rfl,hnode,_⟩:=h.parts
 have c0:=hnode.c0
 rw [ho] at c0
 cases hd:dem 3 (qb4 t).place ((j3 t).map qc8) true with
 | none=>
  have hc:qc8 t=.ok 3:=by rw [qc4,ho];exact qd9 (c:=3) rfl hd
  rw [hc]
  rw [hd] at DEM
  clear hnode h hc ho hd hcls
  go_enter Tryz.func104,Tryz.ntmps104
  go_wp2_with (go_at_call 148;refine (q9 DEM).mono ?_;rintro e w1 ⟨hb1,h1⟩;subst h1)
  go_ret
  exact ⟨hb1,rfl⟩
 | some q=>
  have hc:qc8 t=.err q:=by rw [qc4,ho];exact qe0 (c:=3) rfl hd
  rw [hc]
  rw [hd] at DEM
  clear hnode h hc ho hd hcls
  go_enter Tryz.func104,Tryz.ntmps104
  go_wp2_with (go_at_call 148;refine (q9 DEM).mono ?_;rintro e w1 ⟨hb1,h1⟩;subst h1;simp only [qa1])
  exact ⟨rfl,hb1,rfl⟩
theorem class_10 (lo:Nat) (t:Ast) (hcls:∀x∈j3 t,qg0 lo x) (ho:(qb4 t).op=10):qg0 lo t:=by
 intro w v h
 have DEM:=v7 (qe1 lo t hcls 1 w v h)
 obtain ⟨b,sv,rfl,hnode,_⟩:=h.parts
 have c0:=hnode.c0
 rw [ho] at c0
 cases hd:dem 1 (qb4 t).place ((j3 t).map qc8) true with
 | none=>
  have hc:qc8 t=.ok 3:=by rw [qc4,ho];exact qd9 (c:=3) rfl hd
  rw [hc]
  rw [hd] at DEM
  clear hnode h hc ho hd hcls
  go_enter Tryz.func104,Tryz.ntmps104
  go_wp2_with (go_at_call 148;refine (q9 DEM).mono ?_;rintro e w1 ⟨hb1,h1⟩;subst h1)
  go_ret
  exact ⟨hb1,rfl⟩
 | some q=>
  have hc:qc8 t=.err q:=by rw [qc4,ho];exact qe0 (c:=3) rfl hd
  rw [hc]
  rw [hd] at DEM
  clear hnode h hc ho hd hcls
  go_enter Tryz.func104,Tryz.ntmps104
  go_wp2_with (go_at_call 148;refine (q9 DEM).mono ?_;rintro e w1 ⟨hb1,h1⟩;subst h1;simp only [qa1])
  exact ⟨rfl,hb1,rfl⟩
theorem class_11 (lo:Nat) (t:Ast) (hcls:∀x∈j3 t,qg0 lo x) (ho:(qb4 t).op=11):qg0 lo t:=by
 intro w v h
 have DEM:=v7 (qe1 lo t hcls 1 w v h)
 obtain ⟨b,sv,rfl,hnode,_⟩:=h.parts
 have c0:=hnode.c0
 rw [ho] at c0
 cases hd:dem 1 (qb4 t).place ((j3 t).map qc8) true with
 | none=>
  have hc:qc8 t=.ok 3:=by rw [qc4,ho];exact qd9 (c:=3) rfl hd
  rw [hc]
  rw [hd] at DEM
  clear hnode h hc ho hd hcls
  go_enter Tryz.func104,Tryz.ntmps104
  go_wp2_with (go_at_call 148;refine (q9 DEM).mono ?_;rintro e w1 ⟨hb1,h1⟩;subst h1)
  go_ret
  exact ⟨hb1,rfl⟩
 | some q=>
  have hc:qc8 t=.err q:=by rw [qc4,ho];exact qe0 (c:=3) rfl hd
  rw [hc]
  rw [hd] at DEM
  clear hnode h hc ho hd hcls
  go_enter Tryz.func104,Tryz.ntmps104
  go_wp2_with (go_at_call 148;refine (q9 DEM).mono ?_;rintro e w1 ⟨hb1,h1⟩;subst h1;simp only [qa1])
  exact ⟨rfl,hb1,rfl⟩
theorem class_12 (lo:Nat) (t:Ast) (hcls:∀x∈j3 t,qg0 lo x) (ho:(qb4 t).op=12):qg0 lo t:=by
 intro w v h
 have DEM:=v7 (qe1 lo t hcls 1 w v h)
 obtain ⟨b,sv,rfl,hnode,_⟩:=h.parts
 have c0:=hnode.c0
 rw [ho] at c0
 cases hd:dem 1 (qb4 t).place ((j3 t).map qc8) true with
 | none=>
  have hc:qc8 t=.ok 3:=by rw [qc4,ho];exact qd9 (c:=3) rfl hd
  rw [hc]
  rw [hd] at DEM
  clear hnode h hc ho hd hcls
  go_enter Tryz.func104,Tryz.ntmps104
  go_wp2_with (go_at_call 148;refine (q9 DEM).mono ?_;rintro e w1 ⟨hb1,h1⟩;subst h1)
  go_ret
  exact ⟨hb1,rfl⟩
 | some q=>
  have hc:qc8 t=.err q:=by rw [qc4,ho];exact qe0 (c:=3) rfl hd
  rw [hc]
  rw [hd] at DEM
  clear hnode h hc ho hd hcls
  go_enter Tryz.func104,Tryz.ntmps104
  go_wp2_with (go_at_call 148;refine (q9 DEM).mono ?_;rintro e w1 ⟨hb1,h1⟩;subst h1;simp only [qa1])
  exact ⟨rfl,hb1,rfl⟩
theorem class_13 (lo:Nat) (t:Ast) (hcls:∀x∈j3 t,qg0 lo x) (ho:(qb4 t).op=13):qg0 lo t:=by
 intro w v h
 have DEM:=v7 (qe1 lo t hcls 1 w v h)
 obtain ⟨b,sv,rfl,hnode,_⟩:=h.parts
 have c0:=hnode.c0
 rw [ho] at c0
 cases hd:dem 1 (qb4 t).place ((j3 t).map qc8) true with
 | none=>
  have hc:qc8 t=.ok 3:=by rw [qc4,ho];exact qd9 (c:=3) rfl hd
  rw [hc]
  rw [hd] at DEM
  clear hnode h hc ho hd hcls
  go_enter Tryz.func104,Tryz.ntmps104
  go_wp2_with (go_at_call 148;refine (q9 DEM).mono ?_;rintro e w1 ⟨hb1,h1⟩;subst h1)
  go_ret
  exact ⟨hb1,rfl⟩
 | some q=>
  have hc:qc8 t=.err q:=by rw [qc4,ho];exact qe0 (c:=3) rfl hd
  rw [hc]
  rw [hd] at DEM
  clear hnode h hc ho hd hcls
  go_enter Tryz.func104,Tryz.ntmps104
  go_wp2_with (go_at_call 148;refine (q9 DEM).mono ?_;rintro e w1 ⟨hb1,h1⟩;subst h1;simp only [qa1])
  exact ⟨rfl,hb1,rfl⟩
theorem class_20 (lo:Nat) (t:Ast) (hcls:∀x∈j3 t,qg0 lo x) (ho:(qb4 t).op=20):qg0 lo t:=by
 intro w v h
 have DEM:=v7 (qe1 lo t hcls 1 w v h)
 obtain ⟨b,sv,rfl,hnode,_⟩:=h.parts
 have c0:=hnode.c0
 rw [ho] at c0
 cases hd:dem 1 (qb4 t).place ((j3 t).map qc8) true with
 | none=>
  have hc:qc8 t=.ok 3:=by rw [qc4,ho];exact qd9 (c:=3) rfl hd
  rw [hc]
  rw [hd] at DEM
  clear hnode h hc ho hd hcls
  go_enter Tryz.func104,Tryz.ntmps104
  go_wp2_with (go_at_call 148;refine (q9 DEM).mono ?_;rintro e w1 ⟨hb1,h1⟩;subst h1)
  go_ret
  exact ⟨hb1,rfl⟩
 | some q=>
  have hc:qc8 t=.err q:=by rw [qc4,ho];exact qe0 (c:=3) rfl hd
  rw [hc]
  rw [hd] at DEM
  clear hnode h hc ho hd hcls
  go_enter Tryz.func104,Tryz.ntmps104
  go_wp2_with (go_at_call 148;refine (q9 DEM).mono ?_;rintro e w1 ⟨hb1,h1⟩;subst h1;simp only [qa1])
  exact ⟨rfl,hb1,rfl⟩
theorem class_14 (lo:Nat) (t:Ast) (hcls:∀x∈j3 t,qg0 lo x) (ho:(qb4 t).op=14):qg0 lo t:=by
 intro w v h
 have DEM:=v7 (qe1 lo t hcls 1 w v h)
 obtain ⟨b,sv,rfl,hnode,_⟩:=h.parts
 have c0:=hnode.c0
 rw [ho] at c0
 cases hd:dem 1 (qb4 t).place ((j3 t).map qc8) true with
 | none=>
  have hc:qc8 t=.ok 1:=by rw [qc4,ho];exact qd9 (c:=1) rfl hd
  rw [hc]
  rw [hd] at DEM
  clear hnode h hc ho hd hcls
  go_enter Tryz.func104,Tryz.ntmps104
  go_wp2_with (go_at_call 148;refine (q9 DEM).mono ?_;rintro e w1 ⟨hb1,h1⟩;subst h1)
  go_ret
  exact ⟨hb1,rfl⟩
 | some q=>
  have hc:qc8 t=.err q:=by rw [qc4,ho];exact qe0 (c:=1) rfl hd
  rw [hc]
  rw [hd] at DEM
  clear hnode h hc ho hd hcls
  go_enter Tryz.func104,Tryz.ntmps104
  go_wp2_with (go_at_call 148;refine (q9 DEM).mono ?_;rintro e w1 ⟨hb1,h1⟩;subst h1;simp only [qa1])
  exact ⟨rfl,hb1,rfl⟩
theorem class_15 (lo:Nat) (t:Ast) (hcls:∀x∈j3 t,qg0 lo x) (ho:(qb4 t).op=15):qg0 lo t:=by
 intro w v h
 have DEM:=v7 (qe1 lo t hcls 1 w v h)
 obtain ⟨b,sv,rfl,hnode,_⟩:=h.parts
 have c0:=hnode.c0
 rw [ho] at c0
 cases hd:dem 1 (qb4 t).place ((j3 t).map qc8) true with
 | none=>
  have hc:qc8 t=.ok 1:=by rw [qc4,ho];exact qd9 (c:=1) rfl hd
  rw [hc]
  rw [hd] at DEM
  clear hnode h hc ho hd hcls
  go_enter Tryz.func104,Tryz.ntmps104
  go_wp2_with (go_at_call 148;refine (q9 DEM).mono ?_;rintro e w1 ⟨hb1,h1⟩;subst h1)
  go_ret
  exact ⟨hb1,rfl⟩
 | some q=>
  have hc:qc8 t=.err q:=by rw [qc4,ho];exact qe0 (c:=1) rfl hd
  rw [hc]
  rw [hd] at DEM
  clear hnode h hc ho hd hcls
  go_enter Tryz.func104,Tryz.ntmps104
  go_wp2_with (go_at_call 148;refine (q9 DEM).mono ?_;rintro e w1 ⟨hb1,h1⟩;subst h1;simp only [qa1])
  exact ⟨rfl,hb1,rfl⟩
theorem class_16 (lo:Nat) (t:Ast) (hcls:∀x∈j3 t,qg0 lo x) (ho:(qb4 t).op=16):qg0 lo t:=by
 intro w v h
 have DEM:=v7 (qe1 lo t hcls 1 w v h)
 obtain ⟨b,sv,rfl,hnode,_⟩:=h.parts
 have c0:=hnode.c0
 rw [ho] at c0
 cases hd:dem 1 (qb4 t).place ((j3 t).map qc8) true with
 | none=>
  have hc:qc8 t=.ok 1:=by rw [qc4,ho];exact qd9 (c:=1) rfl hd
  rw [hc]
  rw [hd] at DEM
  clear hnode h hc ho hd hcls
  go_enter Tryz.func104,Tryz.ntmps104
  go_wp2_with (go_at_call 148;refine (q9 DEM).mono ?_;rintro e w1 ⟨hb1,h1⟩;subst h1)
  go_ret
  exact ⟨hb1,rfl⟩
 | some q=>
  have hc:qc8 t=.err q:=by rw [qc4,ho];exact qe0 (c:=1) rfl hd
  rw [hc]
  rw [hd] at DEM
  clear hnode h hc ho hd hcls
  go_enter Tryz.func104,Tryz.ntmps104
  go_wp2_with (go_at_call 148;refine (q9 DEM).mono ?_;rintro e w1 ⟨hb1,h1⟩;subst h1;simp only [qa1])
  exact ⟨rfl,hb1,rfl⟩
theorem class_17 (lo:Nat) (t:Ast) (hcls:∀x∈j3 t,qg0 lo x) (ho:(qb4 t).op=17):qg0 lo t:=by
 intro w v h
 have DEM:=v7 (qe1 lo t hcls 1 w v h)
 obtain ⟨b,sv,rfl,hnode,_⟩:=h.parts
 have c0:=hnode.c0
 rw [ho] at c0
 cases hd:dem 1 (qb4 t).place ((j3 t).map qc8) true with
 | none=>
  have hc:qc8 t=.ok 1:=by rw [qc4,ho];exact qd9 (c:=1) rfl hd
  rw [hc]
  rw [hd] at DEM
  clear hnode h hc ho hd hcls
  go_enter Tryz.func104,Tryz.ntmps104
  go_wp2_with (go_at_call 148;refine (q9 DEM).mono ?_;rintro e w1 ⟨hb1,h1⟩;subst h1)
  go_ret
  exact ⟨hb1,rfl⟩
 | some q=>
  have hc:qc8 t=.err q:=by rw [qc4,ho];exact qe0 (c:=1) rfl hd
  rw [hc]
  rw [hd] at DEM
  clear hnode h hc ho hd hcls
  go_enter Tryz.func104,Tryz.ntmps104
  go_wp2_with (go_at_call 148;refine (q9 DEM).mono ?_;rintro e w1 ⟨hb1,h1⟩;subst h1;simp only [qa1])
  exact ⟨rfl,hb1,rfl⟩
theorem class_18 (lo:Nat) (t:Ast) (hcls:∀x∈j3 t,qg0 lo x) (ho:(qb4 t).op=18):qg0 lo t:=by
 intro w v h
 have DEM:=v7 (qe1 lo t hcls 1 w v h)
 obtain ⟨b,sv,rfl,hnode,_⟩:=h.parts
 have c0:=hnode.c0
 rw [ho] at c0
 cases hd:dem 1 (qb4 t).place ((j3 t).map qc8) true with
 | none=>
  have hc:qc8 t=.ok 1:=by rw [qc4,ho];exact qd9 (c:=1) rfl hd
  rw [hc]
  rw [hd] at DEM
  clear hnode h hc ho hd hcls
  go_enter Tryz.func104,Tryz.ntmps104
  go_wp2_with (go_at_call 148;refine (q9 DEM).mono ?_;rintro e w1 ⟨hb1,h1⟩;subst h1)
  go_ret
  exact ⟨hb1,rfl⟩
 | some q=>
  have hc:qc8 t=.err q:=by rw [qc4,ho];exact qe0 (c:=1) rfl hd
  rw [hc]
  rw [hd] at DEM
  clear hnode h hc ho hd hcls
  go_enter Tryz.func104,Tryz.ntmps104
  go_wp2_with (go_at_call 148;refine (q9 DEM).mono ?_;rintro e w1 ⟨hb1,h1⟩;subst h1;simp only [qa1])
  exact ⟨rfl,hb1,rfl⟩
theorem class_19 (lo:Nat) (t:Ast) (hcls:∀x∈j3 t,qg0 lo x) (ho:(qb4 t).op=19):qg0 lo t:=by
 intro w v h
 have DEM:=v7 (qe1 lo t hcls 1 w v h)
 obtain ⟨b,sv,rfl,hnode,_⟩:=h.parts
 have c0:=hnode.c0
 rw [ho] at c0
 cases hd:dem 1 (qb4 t).place ((j3 t).map qc8) true with
 | none=>
  have hc:qc8 t=.ok 1:=by rw [qc4,ho];exact qd9 (c:=1) rfl hd
  rw [hc]
  rw [hd] at DEM
  clear hnode h hc ho hd hcls
  go_enter Tryz.func104,Tryz.ntmps104
  go_wp2_with (go_at_call 148;refine (q9 DEM).mono ?_;rintro e w1 ⟨hb1,h1⟩;subst h1)
  go_ret
  exact ⟨hb1,rfl⟩
 | some q=>
  have hc:qc8 t=.err q:=by rw [qc4,ho];exact qe0 (c:=1) rfl hd
  rw [hc]
  rw [hd] at DEM
  clear hnode h hc ho hd hcls
  go_enter Tryz.func104,Tryz.ntmps104
  go_wp2_with (go_at_call 148;refine (q9 DEM).mono ?_;rintro e w1 ⟨hb1,h1⟩;subst h1;simp only [qa1])
  exact ⟨rfl,hb1,rfl⟩
theorem class_8 (lo:Nat) (p:Pay) (x y:Ast) (hx:qg0 lo x) (hy:qg0 lo y) (ho:p.op=8):qg0 lo (.bin p x y):=by
 intro w v h
 have ALI:=v7 (vm3 lo p x y hx hy w v h)
 obtain ⟨b,sv,rfl,hnode,_⟩:=h.parts
 have c0:w.cell? ⟨b,0,none⟩=some (.int .i64 p.op):=hnode.c0
 rw [ho] at c0
 have hc:qc8 (.bin p x y)=qp2 p.place (qc8 x) (qc8 y):=by rw [qc8,ho];rfl
 rw [hc]
 have h3:∀c,qp2 p.place (qc8 x) (qc8 y)=.ok c→c=3:=by
  intro c h
  unfold qp2 at h
  split at h
  ·cases h
  ·cases h
  ·split at h
   ·cases h
   ·injection h with h;exact h.symm
 obtain ⟨r,hr⟩:∃r,qp2 p.place (qc8 x) (qc8 y)=r:=⟨_,rfl⟩
 rw [hr] at ALI h3 ⊢
 clear hnode h hc ho hr hx hy
 cases r with
 | ok c=>
  obtain rfl:=h3 c rfl
  clear h3
  go_enter Tryz.func104,Tryz.ntmps104
  go_wp2_with (go_at_call 149;refine (q9 ALI).mono ?_;rintro e w1 ⟨hb1,h1⟩;subst h1)
  go_ret
  exact ⟨hb1,rfl⟩
 | err q=>
  clear h3
  go_enter Tryz.func104,Tryz.ntmps104
  go_wp2_with (go_at_call 149;refine (q9 ALI).mono ?_;rintro e w1 ⟨hb1,h1⟩;subst h1;simp only [qa1])
  exact ⟨rfl,hb1,rfl⟩
theorem class_9 (lo:Nat) (p:Pay) (x y:Ast) (hx:qg0 lo x) (hy:qg0 lo y) (ho:p.op=9):qg0 lo (.bin p x y):=by
 intro w v h
 have ALI:=v7 (vm3 lo p x y hx hy w v h)
 obtain ⟨b,sv,rfl,hnode,_⟩:=h.parts
 have c0:w.cell? ⟨b,0,none⟩=some (.int .i64 p.op):=hnode.c0
 rw [ho] at c0
 have hc:qc8 (.bin p x y)=qp2 p.place (qc8 x) (qc8 y):=by rw [qc8,ho];rfl
 rw [hc]
 have h3:∀c,qp2 p.place (qc8 x) (qc8 y)=.ok c→c=3:=by
  intro c h
  unfold qp2 at h
  split at h
  ·cases h
  ·cases h
  ·split at h
   ·cases h
   ·injection h with h;exact h.symm
 obtain ⟨r,hr⟩:∃r,qp2 p.place (qc8 x) (qc8 y)=r:=⟨_,rfl⟩
 rw [hr] at ALI h3 ⊢
 clear hnode h hc ho hr hx hy
 cases r with
 | ok c=>
  obtain rfl:=h3 c rfl
  clear h3
  go_enter Tryz.func104,Tryz.ntmps104
  go_wp2_with (go_at_call 149;refine (q9 ALI).mono ?_;rintro e w1 ⟨hb1,h1⟩;subst h1)
  go_ret
  exact ⟨hb1,rfl⟩
 | err q=>
  clear h3
  go_enter Tryz.func104,Tryz.ntmps104
  go_wp2_with (go_at_call 149;refine (q9 ALI).mono ?_;rintro e w1 ⟨hb1,h1⟩;subst h1;simp only [qa1])
  exact ⟨rfl,hb1,rfl⟩
theorem jc3 (lo:Nat) (t:Ast) (h0:¬(qb4 t).op=0) (h1:¬(qb4 t).op=1) (h2:¬(qb4 t).op=2) (h5:¬(qb4 t).op=5) (h6:¬(qb4 t).op=6) (h7:¬(qb4 t).op=7) (h10:¬(qb4 t).op=10) (h11:¬(qb4 t).op=11) (h12:¬(qb4 t).op=12) (h13:¬(qb4 t).op=13) (h20:¬(qb4 t).op=20) (h14:¬(qb4 t).op=14) (h15:¬(qb4 t).op=15) (h16:¬(qb4 t).op=16) (h17:¬(qb4 t).op=17) (h18:¬(qb4 t).op=18) (h19:¬(qb4 t).op=19) (h8:¬(qb4 t).op=8) (h9:¬(qb4 t).op=9):qg0 lo t:=by
 intro w v h
 have e0:((qb4 t).op==0)=false:=beq_eq_false_iff_ne.2 h0
 have e1:((qb4 t).op==1)=false:=beq_eq_false_iff_ne.2 h1
 have e2:((qb4 t).op==2)=false:=beq_eq_false_iff_ne.2 h2
 have e5:((qb4 t).op==5)=false:=beq_eq_false_iff_ne.2 h5
 have e6:((qb4 t).op==6)=false:=beq_eq_false_iff_ne.2 h6
 have e7:((qb4 t).op==7)=false:=beq_eq_false_iff_ne.2 h7
 have e10:((qb4 t).op==10)=false:=beq_eq_false_iff_ne.2 h10
 have e11:((qb4 t).op==11)=false:=beq_eq_false_iff_ne.2 h11
 have e12:((qb4 t).op==12)=false:=beq_eq_false_iff_ne.2 h12
 have e13:((qb4 t).op==13)=false:=beq_eq_false_iff_ne.2 h13
 have e20:((qb4 t).op==20)=false:=beq_eq_false_iff_ne.2 h20
 have e14:((qb4 t).op==14)=false:=beq_eq_false_iff_ne.2 h14
 have e15:((qb4 t).op==15)=false:=beq_eq_false_iff_ne.2 h15
 have e16:((qb4 t).op==16)=false:=beq_eq_false_iff_ne.2 h16
 have e17:((qb4 t).op==17)=false:=beq_eq_false_iff_ne.2 h17
 have e18:((qb4 t).op==18)=false:=beq_eq_false_iff_ne.2 h18
 have e19:((qb4 t).op==19)=false:=beq_eq_false_iff_ne.2 h19
 have e8:((qb4 t).op==8)=false:=beq_eq_false_iff_ne.2 h8
 have e9:((qb4 t).op==9)=false:=beq_eq_false_iff_ne.2 h9
 have hc:qc8 t=.ok 3:=by rw [qc4];simp only [qm2,e0,e1,e2,e5,e6,e7,e10,e11,e12,e13,e20,e14,e15,e16,e17,e18,e19,e8,e9,Bool.or_self,Bool.false_eq_true,if_false]
 rw [hc]
 obtain ⟨b,sv,rfl,hnode,_⟩:=h.parts
 have c0:=hnode.c0
 clear hnode h hc h0 h1 h2 h5 h6 h7 h10 h11 h12 h13 h20 h14 h15 h16 h17 h18 h19 h8 h9
 go_enter Tryz.func104,Tryz.ntmps104
 go_wp2_with fail
 go_ret
 exact ⟨Below.refl _ _,rfl⟩
theorem qt7 (lo:Nat) (t:Ast) (hwf:WfA t) (hcls:∀x∈j3 t,qg0 lo x):qg0 lo t:=by
 by_cases h0:(qb4 t).op=0
 ·exact class_0 lo t h0
 by_cases h1:(qb4 t).op=1
 ·exact class_1 lo t h1
 by_cases h2:(qb4 t).op=2
 ·exact class_2 lo t h2
 by_cases h5:(qb4 t).op=5
 ·exact class_5 lo t hcls h5
 by_cases h6:(qb4 t).op=6
 ·exact class_6 lo t hcls h6
 by_cases h7:(qb4 t).op=7
 ·exact class_7 lo t hcls h7
 by_cases h10:(qb4 t).op=10
 ·exact class_10 lo t hcls h10
 by_cases h11:(qb4 t).op=11
 ·exact class_11 lo t hcls h11
 by_cases h12:(qb4 t).op=12
 ·exact class_12 lo t hcls h12
 by_cases h13:(qb4 t).op=13
 ·exact class_13 lo t hcls h13
 by_cases h20:(qb4 t).op=20
 ·exact class_20 lo t hcls h20
 by_cases h14:(qb4 t).op=14
 ·exact class_14 lo t hcls h14
 by_cases h15:(qb4 t).op=15
 ·exact class_15 lo t hcls h15
 by_cases h16:(qb4 t).op=16
 ·exact class_16 lo t hcls h16
 by_cases h17:(qb4 t).op=17
 ·exact class_17 lo t hcls h17
 by_cases h18:(qb4 t).op=18
 ·exact class_18 lo t hcls h18
 by_cases h19:(qb4 t).op=19
 ·exact class_19 lo t hcls h19
 by_cases h8:(qb4 t).op=8
 ·cases t with
  | leaf p=>exact absurd h8 hwf.1
  | un p x=>exact absurd h8 hwf.1.1
  | bin p x y=>exact class_8 lo p x y (hcls x (by simp [j3])) (hcls y (by simp [j3])) h8
  | tri p x y z=>exact absurd h8 hwf.1.1
 by_cases h9:(qb4 t).op=9
 ·cases t with
  | leaf p=>exact absurd h9 hwf.2
  | un p x=>exact absurd h9 hwf.1.2
  | bin p x y=>exact class_9 lo p x y (hcls x (by simp [j3])) (hcls y (by simp [j3])) h9
  | tri p x y z=>exact absurd h9 hwf.1.2
 exact jc3 lo t h0 h1 h2 h5 h6 h7 h10 h11 h12 h13 h20 h14 h15 h16 h17 h18 h19 h8 h9
theorem class_all (lo:Nat):∀t,WfA t→qg0 lo t:=by
 intro t
 induction t with
 | leaf p=>intro h;exact qt7 lo _ h (fun x hx=>by simp [j3] at hx)
 | un p x ih=>intro h;exact qt7 lo _ h (fun y hy=>by simp [j3] at hy;subst hy;exact ih h.2)
 | bin p x y ihx ihy=>intro h;exact qt7 lo _ h (fun z hz=>by simp [j3] at hz;rcases hz with rfl|rfl;exact ihx h.1;exact ihy h.2)
 | tri p x y z ihx ihy ihz=>intro h;exact qt7 lo _ h (fun u hu=>by simp [j3] at hu;rcases hu with rfl|rfl|rfl;exact ihx h.2.1;exact ihy h.2.2.1;exact ihz h.2.2.2)
theorem check_any (lo:Nat) (t:Ast) (hwf:WfA t) (w:World) (v:Value) (h:IsNode lo w v t) :
  Calls Tryz.prog 57 #[v] w (DemEnds w (chkR (qc8 t))):=by
 have CLS:=v7 (class_all lo t hwf w v h)
 obtain ⟨b,rfl⟩:=h.ptr
 clear h hwf
 cases hc:qc8 t with
 | err q=>
  rw [hc] at CLS
  clear hc
  go_enter Tryz.func57,Tryz.ntmps57
  go_wp2_with (go_at_call 104;refine (q9 CLS).mono ?_;rintro e w1 ⟨hb1,h1⟩;subst h1;simp only [qa1])
  exact ⟨rfl,hb1,rfl⟩
 | ok c=>
  rw [hc] at CLS
  clear hc
  cases h1:(c != 3)<;>cases h2:(c != 0)
  all_goals
   rw [chkR,h1,h2]
   simp only [Bool.and_true,Bool.and_false,Bool.and_self,Bool.false_eq_true,if_false,if_true]
   go_enter Tryz.func57,Tryz.ntmps57
   go_wp2_with (go_at_call 104;refine (q9 CLS).mono ?_;rintro e w1 ⟨hb1,h1⟩;subst h1)
   first|exact ⟨rfl,hb1,rfl⟩|(go_end0;exact ⟨hb1,rfl⟩)
end
section
theorem rngN {n:Nat} (h:n≤9223372036854775807):Rng (n:Int):=⟨by omega,by omega⟩
theorem vd5:Rng 0:=⟨by decide,by decide⟩
def TkOk (st:St):Prop:=Rng st.tk.num
theorem vu7 (l:List UInt8):Rng (qe4 l).num:=by
 unfold qe4
 split
 ·exact vd5
 ·split
  ·unfold qi4;split<;>exact vd5
  split
  ·unfold qq6;split
   ·rename_i h;exact rngN h
   ·exact vd5
  split
  ·unfold qh9;split<;>exact vd5
  ·exact vd5
theorem qd5 (s:ByteArray) (st:St):TkOk (v6 s st):=by
 show Rng (qd3 s.data.toList st.after).num
 unfold qd3
 split
 ·exact vu7 _
 ·exact vd5
def vg2:Ast→Prop
 | .leaf p=>Rng p.num
 | .un p x=>Rng p.num∧vg2 x
 | .bin p x y=>Rng p.num∧vg2 x∧vg2 y
 | .tri p x y z=>Rng p.num∧vg2 x∧vg2 y∧vg2 z
def NGood (f:St→Res):Prop:=∀st t st',TkOk st→f st=.ok t st'→vg2 t∧TkOk st'
def vm1 (g:Ast→St→Res):Prop:=∀l st t st',vg2 l→TkOk st→g l st=.ok t st'→vg2 t∧TkOk st'
theorem NGood.join {s:ByteArray} {f:St→Res} (h:NGood f):∀st l t st',vg2 l→qc2 s f st l=.ok t st'→vg2 t∧TkOk st':=by
 intro st l t st' hl he
 unfold qc2 at he
 split at he
 ·rename_i r st2 hr;injection he with h1 h2;subst h1;subst h2
  have:=h _ _ _ (qd5 s st) hr
  exact ⟨⟨vd5,hl,this.1⟩,this.2⟩
 ·cases he
theorem NGood.loop {s:ByteArray} {f:St→Res} {ks:List Int} (h:NGood f):∀n l st t st',vg2 l→TkOk st→qa7 s f ks n l st=.ok t st'→vg2 t∧TkOk st':=by
 intro n
 induction n with
 | zero=>intro l st t st' hl hs he;rw [qa7] at he;injection he with h1 h2;subst h1;subst h2;exact ⟨hl,hs⟩
 | succ n ih=>
  intro l st t st' hl hs he
  rw [qa7] at he
  split at he
  ·split at he
   ·rename_i hj;have:=h.join _ _ _ _ hl hj;exact ih _ _ _ _ this.1 this.2 he
   ·cases he
  ·injection he with h1 h2;subst h1;subst h2;exact ⟨hl,hs⟩
theorem NGood.row {s:ByteArray} {f:St→Res} {ks:List Int} (h:NGood f):NGood (qe2 s f ks):=by
 intro st t st' hs he
 unfold qe2 at he
 split at he
 ·rename_i hr;have:=h _ _ _ hs hr;exact h.loop _ _ _ _ _ this.1 this.2 he
 ·cases he
theorem NGood.sign {s:ByteArray} {f:St→Res} (h:NGood f) (o:Int):NGood (qd4 s f o):=by
 intro st t st' _ he
 unfold qd4 at he
 split at he
 ·cases he
 ·split at he
  ·rename_i hr;injection he with h1 h2;subst h1;subst h2
   have:=h (qj8 s st) _ _ (qd5 s st) hr
   exact ⟨⟨vd5,this.1⟩,this.2⟩
  ·cases he
theorem NGood.group {s:ByteArray} {f:St→Res} (h:NGood f):NGood (qd2 s f):=by
 intro st t st' _ he
 unfold qd2 at he
 split at he
 ·cases he
 ·split at he
  ·rename_i hr;split at he
   ·injection he with h1 h2;subst h1;subst h2
    exact ⟨(h (qj8 s st) _ _ (qd5 s st) hr).1,qd5 s _⟩
   ·cases he
  ·cases he
theorem NGood.signed {s:ByteArray} {fS fE:St→Res} (hS:NGood fS) (hE:NGood fE):NGood (qb7 s fS fE):=by
 intro st t st' hs he
 unfold qb7 at he
 split at he
 ·exact hS.sign 14 _ _ _ hs he
 split at he
 ·exact hS.sign 15 _ _ _ hs he
 split at he
 ·exact hE.group _ _ _ hs he
 split at he
 ·injection he with h1 h2;subst h1;subst h2;exact ⟨vd5,qd5 s st⟩
 split at he
 ·injection he with h1 h2;subst h1;subst h2;exact ⟨hs,qd5 s st⟩
 split at he
 ·injection he with h1 h2;subst h1;subst h2;exact ⟨vd5,qd5 s st⟩
 split at he
 ·injection he with h1 h2;subst h1;subst h2;exact ⟨vd5,qd5 s st⟩
 split at he
 ·injection he with h1 h2;subst h1;subst h2;exact ⟨vd5,qd5 s st⟩
 ·cases he
theorem je3 {s:ByteArray}:vm1 (qd0 s):=by
 intro l st t st' hl _ he
 unfold qd0 at he
 split at he
 ·split at he
  ·injection he with h1 h2;subst h1;subst h2;exact ⟨⟨vd5,vd5,hl⟩,qd5 s _⟩
  ·cases he
 ·split at he
  ·injection he with h1 h2;subst h1;subst h2;exact ⟨⟨vd5,hl⟩,qd5 s _⟩
  ·cases he
theorem je2 {s:ByteArray} {l:Ast} {pl:Nat} (hl:vg2 l):∀n ts st t st',qg1 s l pl n ts st=.ok t st'→vg2 t∧TkOk st':=by
 intro n
 induction n with
 | zero=>intro ts st t st' he;rw [qg1] at he;cases he
 | succ n ih=>
  intro ts st t st' he
  rw [qg1] at he
  split at he
  ·split at he
   ·exact ih _ _ _ _ he
   ·cases he
  ·split at he
   ·injection he with h1 h2;subst h1;subst h2;exact ⟨⟨vd5,hl⟩,qd5 s _⟩
   ·cases he
theorem num_in {s:ByteArray}:vm1 (qh7 s):=by
 intro l st t st' hl _ he
 unfold qh7 at he
 split at he
 ·split at he
  ·exact je2 hl _ _ _ _ _ he
  ·cases he
 ·cases he
theorem num_like {s:ByteArray}:vm1 (qa9 s):=by
 intro l st t st' hl _ he
 unfold qa9 at he
 split at he
 ·split at he
  ·split at he
   ·rename_i hk;injection he with h1 h2;subst h1;subst h2;rw [(qv8 hk).2];exact ⟨⟨vd5,hl⟩,qd5 s _⟩
   ·cases he
  ·injection he with h1 h2;subst h1;subst h2;exact ⟨⟨vd5,hl⟩,qd5 s _⟩
 ·cases he
theorem NGood.between {s:ByteArray} {f:St→Res} (h:NGood f):vm1 (qa0 s f):=by
 intro l st t st' hl _ he
 unfold qa0 at he
 split at he
 ·split at he
  ·rename_i h1;split at he
   ·split at he
    ·rename_i h2;injection he with h3 h4;subst h3;subst h4
     have a:=h _ _ _ (qd5 s _) h1
     have b:=h _ _ _ (qd5 s _) h2
     exact ⟨⟨vd5,hl,a.1,b.1⟩,b.2⟩
    ·cases he
   ·cases he
  ·cases he
 ·cases he
theorem NGood.keyword {s:ByteArray} {f:St→Res} (h:NGood f) (bare:Bool):vm1 (qa2 s f (qh7 s) (qa9 s) bare):=by
 intro l st t st' hl hs he
 unfold qa2 at he
 split at he
 ·exact num_in _ _ _ _ hl hs he
 split at he
 ·exact num_like _ _ _ _ hl hs he
 ·exact h.between _ _ _ _ hl hs he
theorem NGood.test {s:ByteArray} {f:St→Res} (h:NGood f):NGood (qg6 s f (qh7 s) (qa9 s)):=by
 intro st t st' hs he
 unfold qg6 at he
 split at he
 ·rename_i hr
  obtain ⟨hl,hs1⟩:=h _ _ _ hs hr
  unfold qa3 at he
  split at he
  ·exact h.join _ _ _ _ hl he
  split at he
  ·split at he
   ·exact je3 _ _ _ _ hl hs1 he
   ·injection he with h1 h2;subst h1;subst h2;exact ⟨hl,hs1⟩
  split at he
  ·split at he
   ·rename_i hk;injection he with h1 h2;subst h1;subst h2
    have:=h.keyword _ _ _ _ _ hl (qd5 s _) hk
    exact ⟨⟨vd5,this.1⟩,this.2⟩
   ·cases he
  split at he
  ·exact h.keyword _ _ _ _ _ hl hs1 he
  ·injection he with h1 h2;subst h1;subst h2;exact ⟨hl,hs1⟩
 ·cases he
theorem NGood.denied {s:ByteArray} {fD fT:St→Res} (hD:NGood fD) (hT:NGood fT):NGood (qd6 s fD fT):=by
 intro st t st' hs he
 unfold qd6 at he
 split at he
 ·exact hD.sign 5 _ _ _ hs he
 ·exact hT _ _ _ hs he
structure NGood3 (L:L3):Prop where
 S:NGood L.S
 D:NGood L.D
 E:NGood L.E
theorem up3_num {s:ByteArray} {L:L3} (h:NGood3 L):NGood3 (up3 s L):=by
 have hS:=NGood.signed (s:=s) h.S h.E
 have hD:=NGood.denied (s:=s) h.D (NGood.test (s:=s) ((hS.row (s:=s) (ks:=[24,25])).row (s:=s) (ks:=[22,23])))
 exact ⟨hS,hD,(hD.row (s:=s) (ks:=[5])).row (s:=s) (ks:=[6])⟩
theorem lvl_num (s:ByteArray):∀d,NGood3 (lvl s d):=by
 intro d
 induction d with
 | zero=>exact up3_num ⟨(fun _ _ _ _ h=>by cases h),(fun _ _ _ _ h=>by cases h),(fun _ _ _ _ h=>by cases h)⟩
 | succ d ih=>exact up3_num ih
end
section
def qj6 (p:Pc) (t:List UInt8) (e:Nat→Bool):Nat→Bool
 | 0=>p.kind==2&&e 0
 | j+1=>if p.kind==2 then e (j+1)||qj6 p t e j else if p.kind==1 then e j else e j&&t.getD j 0==p.c
def qr5 (ps:List Pc) (t:List UInt8) (e:Nat→Bool):Bool:=match ps with
 | []=>e t.length
 | p::r=>qr5 r t (qj6 p t e)
def vn9 (pat esc t:List UInt8):Bool:=match qk3 esc pat with
 | none=>false
 | some ps=>qr5 ps t fun j=>j==0
def vh3 (x:V) (pat esc:List UInt8):V:=if x.kind==3 then bV (vn9 pat esc x.str) else nV
def qu1 (x:V) (ts:List (List UInt8)):V:=ts.foldl (fun f t=>orV f (eqV x (tV t))) (bV false)
def qq5 (p:Pay) (x y z:V):V:=
 if p.op=20 then jb6 (leV y x) (leV x z) else if p.op=21 then qu1 x p.texts else if p.op=22 then vh3 x p.str p.esc else va1 p.op x y
def ofN (ps:List Pr) (p:Pay) (s:List V):V:=
 if p.op=0 then qs6 ps p.str else if p.op=1 then iV p.num else if p.op=2 then tV p.str else if p.op=3 then bV true else if p.op=4 then bV false
 else qq5 p (s.getD 0 nV) (s.getD 1 nV) (s.getD 2 nV)
def ofA (ps:List Pr):Ast→V
 | .leaf p=>ofN ps p []
 | .un p x=>ofN ps p [ofA ps x]
 | .bin p x y=>ofN ps p [ofA ps x,ofA ps y]
 | .tri p x y z=>ofN ps p [ofA ps x,ofA ps y,ofA ps z]
theorem vf0 (ps:List Pr) (t:Ast):ofA ps t=ofN ps (qb4 t) ((j3 t).map (ofA ps)):=by cases t<;>rfl
theorem qy9 (b:Bool):Rng (bV b).num:=by cases b<;>exact ⟨by decide,by decide⟩
theorem qw8:Rng nV.num:=⟨by decide,by decide⟩
theorem vj3 {n:Int} (h:qm7 n=true):Rng (iV n).num:=by
 simp [qm7] at h;exact h
theorem vw9 (x:V):Rng (qz7 x).num:=by unfold qz7;split;exact qy9 _;exact qw8
theorem rng_and (x y:V):Rng (jb6 x y).num:=by unfold jb6;split;exact qy9 _;split;exact qy9 _;exact qw8
theorem rng_or (x y:V):Rng (orV x y).num:=by unfold orV;split;exact qy9 _;split;exact qy9 _;exact qw8
theorem rng_eq (x y:V):Rng (eqV x y).num:=by unfold eqV;split;exact qw8;exact qy9 _
theorem ja4 (x y:V):Rng (qp0 x y).num:=by unfold qp0;split;exact qy9 _;exact qw8
theorem rng_le (x y:V):Rng (leV x y).num:=by unfold leV;split;exact qy9 _;exact qw8
theorem rng_add (x y:V):Rng (vk4 x y).num:=by
 unfold vk4;split
 ·rename_i h;simp only [Bool.and_eq_true] at h;exact vj3 h.2
 ·exact qw8
theorem rng_sub (x y:V):Rng (vk6 x y).num:=by
 unfold vk6;split
 ·rename_i h;simp only [Bool.and_eq_true] at h;exact vj3 h.2
 ·exact qw8
theorem rng_mul (x y:V):Rng (je1 x y).num:=by
 unfold je1;split
 ·rename_i h;simp only [Bool.and_eq_true] at h;exact vj3 h.2
 ·exact qw8
theorem rng_div (x y:V):Rng (jc7 x y).num:=by
 unfold jc7;split
 ·rename_i h;simp only [Bool.and_eq_true] at h;exact vj3 h.2
 ·exact qw8
theorem qj2 {c:Prop} [Decidable c] {a b:V} (ha:Rng a.num) (hb:Rng b.num):Rng (if c then a else b).num:=by
 split
 ·exact ha
 ·exact hb
theorem rng_join (op:Int) (x y:V):Rng (va1 op x y).num:=by
 unfold va1
 exact qj2 (vw9 _) (qj2 (rng_and _ _) (qj2 (rng_or _ _) (qj2 (rng_eq _ _) (qj2 (vw9 _) (qj2 (ja4 _ _) (qj2 (ja4 _ _) (qj2 (rng_le _ _) (qj2 (rng_le _ _) (qj2 (rng_add _ _) (qj2 (rng_add _ _) (qj2 (rng_sub _ _) (qj2 (rng_sub _ _) (qj2 (rng_mul _ _) (qj2 (rng_div _ _) (qy9 _)))))))))))))))
theorem rng_among (x:V) (ts:List (List UInt8)):∀f:V,Rng f.num→Rng (ts.foldl (fun f t=>orV f (eqV x (tV t))) f).num:=by
 induction ts with
 | nil=>intro f h;exact h
 | cons t r ih=>intro f _;exact ih _ (rng_or _ _)
theorem rng_joinN (p:Pay) (x y z:V):Rng (qq5 p x y z).num:=by
 unfold qq5
 split
 ·exact rng_and _ _
 split
 ·exact rng_among x _ _ (qy9 _)
 split
 ·unfold vh3;split;exact qy9 _;exact qw8
 ·exact rng_join _ _ _
def vk8 (ps:List Pr):Prop:=∀p∈ps,Rng p.val.num
theorem rng_find {ps:List Pr} (h:vk8 ps) (n:List UInt8):Rng (qs6 ps n).num:=by
 unfold qs6
 split
 ·rename_i p hp;exact h p (List.mem_of_find?_eq_some hp)
 ·exact qw8
theorem vq9 {ps:List Pr} (h:vk8 ps) {p:Pay} (hp:Rng p.num) (s:List V):Rng (ofN ps p s).num:=by
 unfold ofN
 split
 ·exact rng_find h _
 split
 ·exact hp
 split
 ·exact vd5
 split
 ·exact qy9 _
 split
 ·exact qy9 _
 ·exact rng_joinN _ _ _ _
theorem qz0 {ps:List Pr} (h:vk8 ps):∀t,vg2 t→Rng (ofA ps t).num:=by
 intro t
 cases t with
 | leaf p=>intro hn;exact vq9 h hn _
 | un p x=>intro hn;exact vq9 h hn.1 _
 | bin p x y=>intro hn;exact vq9 h hn.1 _
 | tri p x y z=>intro hn;exact vq9 h hn.1 _
def EvArg (w:World) (ev:Value) (ps:List Pr):Prop:=
 ps.length≤8∧((ps=[]∧∃a cap,ev=.slice a 0 cap)∨∃b off cap,ev=.slice (some ⟨b,off,none⟩) ps.length cap∧EvAt w b off ps∧b<w.heap.size)
theorem EvArg.below {w w':World} {ev:Value} {ps:List Pr} (h:EvArg w ev ps) (hb:Below w.heap.size w w'):EvArg w' ev ps:=by
 refine ⟨h.1, ?_⟩
 rcases h.2 with h|⟨b,off,cap,rfl,he,hlt⟩
 ·exact .inl h
 ·exact .inr ⟨b,off,cap,rfl,he.below hb hlt,Nat.lt_of_lt_of_le hlt hb.size⟩
theorem EvArg.slice {w:World} {ev:Value} {ps:List Pr} (h:EvArg w ev ps):∃a n c,ev=.slice a n c:=by
 rcases h.2 with ⟨_,a,cap,rfl⟩|⟨b,off,cap,rfl,_⟩
 ·exact ⟨_,_,_,rfl⟩
 ·exact ⟨_,_,_,rfl⟩
theorem find_arg {w:World} {ev:Value} {ps:List Pr} (h:EvArg w ev ps) (s:ByteArray) :
  Calls Tryz.prog 61 #[ev,.string s] w fun e w'=>e=.returned (vV (qs6 ps s.data.toList))∧Below w.heap.size w w':=by
 rcases h.2 with ⟨rfl,a,cap,rfl⟩|⟨b,off,cap,rfl,he,hlt⟩
 ·exact jd1 a cap s w
 ·exact find_any b off cap ps s w h.1 he hlt
end
section
def OfOk (lo:Nat) (ps:List Pr) (ev:Value) (t:Ast):Prop:=∀(w:World) (v:Value),IsNode lo w v t→EvArg w ev ps→Calls Tryz.prog 38 #[v,ev] w fun e w'=>e=.returned (vV (ofA ps t))∧Below w.heap.size w w'
def vb0 (lo:Nat) (t:Ast):Prop:=∀(w:World) (b:Nat) (x y z:V),Rng x.num→Rng y.num→Rng z.num→x.str.length≤1000→IsNode lo w (.pointer (some ⟨b,0,none⟩)) t →
 Calls Tryz.prog 65 #[.pointer (some ⟨b,0,none⟩),vV x,vV y,vV z] w fun e w'=>e=.returned (vV (qq5 (qb4 t) x y z))∧Below w.heap.size w w'
theorem of_0 (lo:Nat) (ps:List Pr) (ev:Value) (t:Ast) (ho:(qb4 t).op=0):OfOk lo ps ev t:=by
 intro w v h hev
 have hr:ofA ps t=qs6 ps (qb4 t).str:=by rw [vf0,ofN,ho];rfl
 rw [hr]
 have CON:=v7 (fun w1 (h:EvArg w1 ev ps)=>find_arg h (BS (qb4 t).str))
 obtain ⟨b,sv,rfl,hnode,_⟩:=h.parts
 have c0:=hnode.c0
 rw [ho] at c0
 have c3:=hnode.c3
 have c4:=hnode.c4
 have hbw:=hnode.within
 have HE:=v7 hev
 obtain ⟨ea,en,ec,rfl⟩:=hev.slice
 clear hnode h hr ho hev
 go_enter Tryz.func38,Tryz.ntmps38
 go_wp2_with (go_at_call 61;refine (q9 CON _ ((q9 HE).below ((Below.refl _ _).alloc (Nat.le_refl _) _))).mono ?_;rintro e w1 ⟨rfl,hb1⟩;obtain ⟨hc1,hf1⟩:=v9 hb1;have hz1:w.heap.size<w1.heap.size:=(by have:=hb1.size;simp at this;omega);simp only [vV])
 refine bodyPost_ret (by simp [results,Tryz.results38,go_sem,hc1]<;>rfl) rfl ⟨rfl, ?_⟩
 exact (((v8 ((Below.refl _ _).alloc (Nat.le_refl _) _) hb1).setCell (by simp) _).setCell (by simp) _).setCell (by simp) _
theorem of_1 (lo:Nat) (ps:List Pr) (ev:Value) (t:Ast) (ho:(qb4 t).op=1):OfOk lo ps ev t:=by
 intro w v h hev
 have hr:ofA ps t=iV (qb4 t).num:=by rw [vf0,ofN,ho];rfl
 rw [hr]
 have CON:=v7 (fun w1=>qp7 (qb4 t).num w1)
 obtain ⟨b,sv,rfl,hnode,_⟩:=h.parts
 have c0:=hnode.c0
 rw [ho] at c0
 have c3:=hnode.c3
 have c4:=hnode.c4
 have hbw:=hnode.within
 have HE:=v7 hev
 obtain ⟨ea,en,ec,rfl⟩:=hev.slice
 clear hnode h hr ho hev
 go_enter Tryz.func38,Tryz.ntmps38
 go_wp2_with (go_at_call 62;refine (q9 CON _).mono ?_;rintro e w1 ⟨rfl,hb1⟩;obtain ⟨hc1,hf1⟩:=v9 hb1;have hz1:w.heap.size<w1.heap.size:=(by have:=hb1.size;simp at this;omega);simp only [vV])
 refine bodyPost_ret (by simp [results,Tryz.results38,go_sem,hc1]<;>rfl) rfl ⟨rfl, ?_⟩
 exact (((v8 ((Below.refl _ _).alloc (Nat.le_refl _) _) hb1).setCell (by simp) _).setCell (by simp) _).setCell (by simp) _
theorem of_2 (lo:Nat) (ps:List Pr) (ev:Value) (t:Ast) (ho:(qb4 t).op=2):OfOk lo ps ev t:=by
 intro w v h hev
 have hr:ofA ps t=tV (qb4 t).str:=by rw [vf0,ofN,ho];rfl
 rw [hr]
 have CON:=v7 (fun w1=>vs7 (BS (qb4 t).str) w1)
 obtain ⟨b,sv,rfl,hnode,_⟩:=h.parts
 have c0:=hnode.c0
 rw [ho] at c0
 have c3:=hnode.c3
 have c4:=hnode.c4
 have hbw:=hnode.within
 have HE:=v7 hev
 obtain ⟨ea,en,ec,rfl⟩:=hev.slice
 clear hnode h hr ho hev
 go_enter Tryz.func38,Tryz.ntmps38
 go_wp2_with (go_at_call 63;refine (q9 CON _).mono ?_;rintro e w1 ⟨rfl,hb1⟩;obtain ⟨hc1,hf1⟩:=v9 hb1;have hz1:w.heap.size<w1.heap.size:=(by have:=hb1.size;simp at this;omega);simp only [vV])
 refine bodyPost_ret (by simp [results,Tryz.results38,go_sem,hc1]<;>rfl) rfl ⟨rfl, ?_⟩
 exact (((v8 ((Below.refl _ _).alloc (Nat.le_refl _) _) hb1).setCell (by simp) _).setCell (by simp) _).setCell (by simp) _
theorem of_3 (lo:Nat) (ps:List Pr) (ev:Value) (t:Ast) (ho:(qb4 t).op=3):OfOk lo ps ev t:=by
 intro w v h hev
 have hr:ofA ps t=bV true:=by rw [vf0,ofN,ho];rfl
 rw [hr]
 have CON:=v7 (fun w1=>qi1 true w1)
 obtain ⟨b,sv,rfl,hnode,_⟩:=h.parts
 have c0:=hnode.c0
 rw [ho] at c0
 have c3:=hnode.c3
 have c4:=hnode.c4
 have hbw:=hnode.within
 have HE:=v7 hev
 obtain ⟨ea,en,ec,rfl⟩:=hev.slice
 clear hnode h hr ho hev
 go_enter Tryz.func38,Tryz.ntmps38
 go_wp2_with (go_at_call 64;refine (q9 CON _).mono ?_;rintro e w1 ⟨rfl,hb1⟩;obtain ⟨hc1,hf1⟩:=v9 hb1;have hz1:w.heap.size<w1.heap.size:=(by have:=hb1.size;simp at this;omega);simp only [vV])
 refine bodyPost_ret (by simp [results,Tryz.results38,go_sem,hc1]<;>rfl) rfl ⟨rfl, ?_⟩
 exact (((v8 ((Below.refl _ _).alloc (Nat.le_refl _) _) hb1).setCell (by simp) _).setCell (by simp) _).setCell (by simp) _
theorem of_4 (lo:Nat) (ps:List Pr) (ev:Value) (t:Ast) (ho:(qb4 t).op=4):OfOk lo ps ev t:=by
 intro w v h hev
 have hr:ofA ps t=bV false:=by rw [vf0,ofN,ho];rfl
 rw [hr]
 have CON:=v7 (fun w1=>qi1 false w1)
 obtain ⟨b,sv,rfl,hnode,_⟩:=h.parts
 have c0:=hnode.c0
 rw [ho] at c0
 have c3:=hnode.c3
 have c4:=hnode.c4
 have hbw:=hnode.within
 have HE:=v7 hev
 obtain ⟨ea,en,ec,rfl⟩:=hev.slice
 clear hnode h hr ho hev
 go_enter Tryz.func38,Tryz.ntmps38
 go_wp2_with (go_at_call 64;refine (q9 CON _).mono ?_;rintro e w1 ⟨rfl,hb1⟩;obtain ⟨hc1,hf1⟩:=v9 hb1;have hz1:w.heap.size<w1.heap.size:=(by have:=hb1.size;simp at this;omega);simp only [vV])
 refine bodyPost_ret (by simp [results,Tryz.results38,go_sem,hc1]<;>rfl) rfl ⟨rfl, ?_⟩
 exact (((v8 ((Below.refl _ _).alloc (Nat.le_refl _) _) hb1).setCell (by simp) _).setCell (by simp) _).setCell (by simp) _
def OfAt (ps:List Pr) (t:Ast) (k:Nat) (x0 x1 x2:V):Prop:=
 x0=(if 0<k then ((j3 t).map (ofA ps)).getD 0 nV else nV)∧x1=(if 1<k then ((j3 t).map (ofA ps)).getD 1 nV else nV)∧x2=(if 2<k then ((j3 t).map (ofA ps)).getD 2 nV else nV)
theorem getD_ge (l:List V) (n:Nat) (h:l.length≤n):l.getD n nV=nV:=by rw [List.getD_eq_getElem?_getD,List.getElem?_eq_none h];rfl
theorem OfAt.done {ps:List Pr} {t:Ast} {x0 x1 x2:V} (h:OfAt ps t (j3 t).length x0 x1 x2):qq5 (qb4 t) x0 x1 x2=qq5 (qb4 t) (((j3 t).map (ofA ps)).getD 0 nV) (((j3 t).map (ofA ps)).getD 1 nV) (((j3 t).map (ofA ps)).getD 2 nV):=by
 obtain ⟨rfl,rfl,rfl⟩:=h
 have hz:∀i,(if i<(j3 t).length then ((j3 t).map (ofA ps)).getD i nV else nV)=((j3 t).map (ofA ps)).getD i nV:=by
  intro i
  split
  ·rfl
  ·rw [getD_ge];rw [List.length_map];omega
 rw [hz,hz,hz]
theorem OfAt.step0 {ps:List Pr} {t x:Ast} {x0 x1 x2:V} (h:OfAt ps t 0 x0 x1 x2) (hx:(j3 t)[0]?=some x):OfAt ps t 1 (ofA ps x) x1 x2:=by
 obtain ⟨_,h1,h2⟩:=h
 exact ⟨by simp [List.getD_eq_getElem?_getD,hx],by simpa using h1,by simpa using h2⟩
theorem OfAt.step1 {ps:List Pr} {t x:Ast} {x0 x1 x2:V} (h:OfAt ps t 1 x0 x1 x2) (hx:(j3 t)[1]?=some x):OfAt ps t 2 x0 (ofA ps x) x2:=by
 obtain ⟨h0,_,h2⟩:=h
 exact ⟨by simpa using h0,by simp [List.getD_eq_getElem?_getD,hx],by simpa using h2⟩
theorem OfAt.step2 {ps:List Pr} {t x:Ast} {x0 x1 x2:V} (h:OfAt ps t 2 x0 x1 x2) (hx:(j3 t)[2]?=some x):OfAt ps t 3 x0 x1 (ofA ps x):=by
 obtain ⟨h0,h1,_⟩:=h
 exact ⟨by simpa using h0,by simpa using h1,by simp [List.getD_eq_getElem?_getD,hx]⟩
theorem OfAt.rng {ps:List Pr} {t:Ast} {k:Nat} {x0 x1 x2:V} (h:OfAt ps t k x0 x1 x2) (hr:∀x∈j3 t,Rng (ofA ps x).num):Rng x0.num∧Rng x1.num∧Rng x2.num:=by
 have hz:∀i,Rng (((j3 t).map (ofA ps)).getD i nV).num:=by
  intro i
  rw [List.getD_eq_getElem?_getD,List.getElem?_map]
  cases hx:(j3 t)[i]? with
  | none=>exact qw8
  | some x=>exact hr x (List.mem_of_getElem? hx)
 obtain ⟨rfl,rfl,rfl⟩:=h
 refine ⟨?_, ?_, ?_⟩<;>split<;>first|exact hz _|exact qw8
theorem OfAt.len {ps:List Pr} {t:Ast} {k:Nat} {x0 x1 x2:V} (h:OfAt ps t k x0 x1 x2) (hr:∀x∈j3 t,(ofA ps x).str.length≤1000):x0.str.length≤1000:=by
 obtain ⟨rfl,_,_⟩:=h
 split
 ·rw [List.getD_eq_getElem?_getD,List.getElem?_map]
  cases hx:(j3 t)[0]? with
  | none=>simp [nV]
  | some x=>exact hr x (List.mem_of_getElem? hx)
 ·simp [nV]
theorem of_step (lo:Nat) (ps:List Pr) (ev:Value) (t:Ast) (hsub:∀x∈j3 t,OfOk lo ps ev x) (hrng:∀x∈j3 t,Rng (ofA ps x).num) (hlen:∀x∈j3 t,(ofA ps x).str.length≤1000) (hj:vb0 lo t) (h0:¬(qb4 t).op=0) (h1:¬(qb4 t).op=1) (h2:¬(qb4 t).op=2) (h3:¬(qb4 t).op=3) (h4:¬(qb4 t).op=4):OfOk lo ps ev t:=by
 intro w v h hev
 have e0:((qb4 t).op==0)=false:=beq_eq_false_iff_ne.2 h0
 have e1:((qb4 t).op==1)=false:=beq_eq_false_iff_ne.2 h1
 have e2:((qb4 t).op==2)=false:=beq_eq_false_iff_ne.2 h2
 have e3:((qb4 t).op==3)=false:=beq_eq_false_iff_ne.2 h3
 have e4:((qb4 t).op==4)=false:=beq_eq_false_iff_ne.2 h4
 have hr:ofA ps t=qq5 (qb4 t) (((j3 t).map (ofA ps)).getD 0 nV) (((j3 t).map (ofA ps)).getD 1 nV) (((j3 t).map (ofA ps)).getD 2 nV):=by
  rw [vf0,ofN,if_neg h0,if_neg h1,if_neg h2,if_neg h3,if_neg h4]
 rw [hr]
 obtain ⟨r,hr'⟩:∃r,qq5 (qb4 t) (((j3 t).map (ofA ps)).getD 0 nV) (((j3 t).map (ofA ps)).getD 1 nV) (((j3 t).map (ofA ps)).getD 2 nV)=r:=⟨_,rfl⟩
 rw [hr']
 have HR:Hid (qq5 (qb4 t) (((j3 t).map (ofA ps)).getD 0 nV) (((j3 t).map (ofA ps)).getD 1 nV) (((j3 t).map (ofA ps)).getD 2 nV)=r):=v7 hr'
 have HNODE:=v7 h
 obtain ⟨b,sv,rfl,hnode,hsides⟩:=h.parts
 obtain ⟨a,rfl,hside⟩:=hsides.any
 have hn3:=vr8 t
 have c0:=hnode.c0
 have c2:=hnode.c2
 have hbw:=hnode.within
 obtain ⟨n,hn⟩:∃n,(j3 t).length=n:=⟨_,rfl⟩
 rw [hn] at c2 hn3
 have HN:=v7 hn
 have HS:=v7 hside
 have HSUB:=v7 hsub
 have HRNG:=v7 hrng
 have HLEN:=v7 hlen
 have HJ:=v7 hj
 have HE:=v7 hev
 obtain ⟨ea,en,ec,rfl⟩:=hev.slice
 clear hr hr' hsides h hn hside hsub hrng hlen hj hev hnode h0 h1 h2 h3 h4
 go_enter Tryz.func38,Tryz.ntmps38
 go_wp2_with fail
 go_loopw [48] (fun i wr=>∃(k:Nat) (x0 x1 x2:V),k≤n∧i=.int .i64 k∧Hid (OfAt ps t k x0 x1 x2)∧wr.cell? ⟨w.heap.size+1,0,none⟩=some (.int .i64 x0.kind)∧wr.cell? ⟨w.heap.size+1,1,none⟩=some (.int .i64 x0.num)∧wr.cell? ⟨w.heap.size+1,2,none⟩=some (.string (BS x0.str))∧wr.cell? ⟨w.heap.size+1,3,none⟩=some (.int .i64 x1.kind)∧wr.cell? ⟨w.heap.size+1,4,none⟩=some (.int .i64 x1.num)∧wr.cell? ⟨w.heap.size+1,5,none⟩=some (.string (BS x1.str))∧wr.cell? ⟨w.heap.size+1,6,none⟩=some (.int .i64 x2.kind)∧wr.cell? ⟨w.heap.size+1,7,none⟩=some (.int .i64 x2.num)∧wr.cell? ⟨w.heap.size+1,8,none⟩=some (.string (BS x2.str))∧wr.cell? ⟨w.heap.size,0,none⟩=some (.int .i64 0)∧wr.cell? ⟨w.heap.size,1,none⟩=some (.int .i64 0)∧wr.cell? ⟨w.heap.size,2,none⟩=some (.string ⟨#[]⟩)∧(∀j,wr.frozen? ⟨w.heap.size+1,j,none⟩=false)∧(∀j,wr.frozen? ⟨w.heap.size,j,none⟩=false)∧w.heap.size+1<wr.heap.size∧Hid (Below w.heap.size w wr)) (fun i _=>n - (intOf i).toNat)
 case atStart=>exact ⟨0,nV,nV,nV,Nat.zero_le _,rfl,v7 ⟨rfl,rfl,rfl⟩,by simp [nV],by simp [nV],by simp [nV,BS],by simp [nV],by simp [nV],by simp [nV,BS],by simp [nV],by simp [nV],by simp [nV,BS],by rw [World.cell?_alloc_past _ _ _ (by simp),World.cell?_alloc_at _ _ _ _ rfl];rfl,by rw [World.cell?_alloc_past _ _ _ (by simp),World.cell?_alloc_at _ _ _ _ rfl];rfl,by rw [World.cell?_alloc_past _ _ _ (by simp),World.cell?_alloc_at _ _ _ _ rfl];rfl,fun j=>by simp,fun j=>by rw [World.frozen?_alloc_past _ _ _ (by simp),World.frozen?_alloc_at _ _ _ _ rfl],by simp,v7 (qb2 _ _ _)⟩
 case round=>
  obtain ⟨k,x0,x1,x2,hk,rfl,hat,a0,a1,a2,a3,a4,a5,a6,a7,a8,r0,r1,r2,fz,fr,hzr,hbel⟩:=hrel
  by_cases hlt:k<n
  ·obtain ⟨x,hx⟩:∃x,(j3 t)[k]?=some x:=⟨_,List.getElem?_eq_getElem (by rw [q9 HN];exact hlt)⟩
   obtain ⟨g,bx,rfl,hg1,hg2,hcx,hnx⟩:=q9 HS k x hx
   have dx:=((q9 hbel).cell (p:=⟨g,k,none⟩) hg2).trans hcx
   have HNX:=v7 (hnx.kept (Kept.of_below (q9 hbel)))
   have CX:=v7 (q9 HSUB x (List.mem_of_getElem? hx))
   have HEV:=v7 ((q9 HE).below (q9 hbel))
   have HX:=v7 hx
   clear hx hnx hcx
   rcases (show k=0∨k=1∨k=2 by omega) with rfl|rfl|rfl
   ·go_wp2_with (go_at_call 38;refine (q9 CX _ _ (q9 HNX) (q9 HEV)).mono ?_;rintro e w1 ⟨rfl,hb1⟩;obtain ⟨hc1,hf1⟩:=v9 hb1;have hz1:w.heap.size+1<w1.heap.size:=(by have:=hb1.size;omega);have q0:w1.cell? ⟨w.heap.size+1,0,none⟩=some (.int .i64 x0.kind):=(hc1 _ 0 (by omega)).trans a0;have q1:w1.cell? ⟨w.heap.size+1,1,none⟩=some (.int .i64 x0.num):=(hc1 _ 1 (by omega)).trans a1;have q2:w1.cell? ⟨w.heap.size+1,2,none⟩=some (.string (BS x0.str)):=(hc1 _ 2 (by omega)).trans a2;have q3:w1.cell? ⟨w.heap.size+1,3,none⟩=some (.int .i64 x1.kind):=(hc1 _ 3 (by omega)).trans a3;have q4:w1.cell? ⟨w.heap.size+1,4,none⟩=some (.int .i64 x1.num):=(hc1 _ 4 (by omega)).trans a4;have q5:w1.cell? ⟨w.heap.size+1,5,none⟩=some (.string (BS x1.str)):=(hc1 _ 5 (by omega)).trans a5;have q6:w1.cell? ⟨w.heap.size+1,6,none⟩=some (.int .i64 x2.kind):=(hc1 _ 6 (by omega)).trans a6;have q7:w1.cell? ⟨w.heap.size+1,7,none⟩=some (.int .i64 x2.num):=(hc1 _ 7 (by omega)).trans a7;have q8:w1.cell? ⟨w.heap.size+1,8,none⟩=some (.string (BS x2.str)):=(hc1 _ 8 (by omega)).trans a8;have s0:w1.cell? ⟨w.heap.size,0,none⟩=some (.int .i64 0):=(hc1 _ 0 (by omega)).trans r0;have s1:w1.cell? ⟨w.heap.size,1,none⟩=some (.int .i64 0):=(hc1 _ 1 (by omega)).trans r1;have s2:w1.cell? ⟨w.heap.size,2,none⟩=some (.string ⟨#[]⟩):=(hc1 _ 2 (by omega)).trans r2;have f1:∀j,w1.frozen? ⟨w.heap.size+1,j,none⟩=false:=(fun j=>(hf1 _ j (by omega)).trans (fz j));have f0:∀j,w1.frozen? ⟨w.heap.size,j,none⟩=false:=(fun j=>(hf1 _ j (by omega)).trans (fr j));have hb1:=v7 hb1;clear hc1 hf1;simp only [vV])
    go_roundw
    case rel=>exact ⟨1,_,x1,x2,by omega,by go_num,v7 (OfAt.step0 (q9 hat) (q9 HX)),by simp [go_sem,q0],by simp [go_sem,q1],by simp [go_sem,q2],by simp [go_sem,q3],by simp [go_sem,q4],by simp [go_sem,q5],by simp [go_sem,q6],by simp [go_sem,q7],by simp [go_sem,q8],by simp [go_sem,s0],by simp [go_sem,s1],by simp [go_sem,s2],fun j=>by simp [go_sem,f1],fun j=>by simp [go_sem,f0],by simpa using hz1,v7 ((((v8 (q9 hbel) (q9 hb1)).setCell (by simp) _).setCell (by simp) _).setCell (by simp) _)⟩
    case measure=>simp [intOf];omega
   ·go_wp2_with (go_at_call 38;refine (q9 CX _ _ (q9 HNX) (q9 HEV)).mono ?_;rintro e w1 ⟨rfl,hb1⟩;obtain ⟨hc1,hf1⟩:=v9 hb1;have hz1:w.heap.size+1<w1.heap.size:=(by have:=hb1.size;omega);have q0:w1.cell? ⟨w.heap.size+1,0,none⟩=some (.int .i64 x0.kind):=(hc1 _ 0 (by omega)).trans a0;have q1:w1.cell? ⟨w.heap.size+1,1,none⟩=some (.int .i64 x0.num):=(hc1 _ 1 (by omega)).trans a1;have q2:w1.cell? ⟨w.heap.size+1,2,none⟩=some (.string (BS x0.str)):=(hc1 _ 2 (by omega)).trans a2;have q3:w1.cell? ⟨w.heap.size+1,3,none⟩=some (.int .i64 x1.kind):=(hc1 _ 3 (by omega)).trans a3;have q4:w1.cell? ⟨w.heap.size+1,4,none⟩=some (.int .i64 x1.num):=(hc1 _ 4 (by omega)).trans a4;have q5:w1.cell? ⟨w.heap.size+1,5,none⟩=some (.string (BS x1.str)):=(hc1 _ 5 (by omega)).trans a5;have q6:w1.cell? ⟨w.heap.size+1,6,none⟩=some (.int .i64 x2.kind):=(hc1 _ 6 (by omega)).trans a6;have q7:w1.cell? ⟨w.heap.size+1,7,none⟩=some (.int .i64 x2.num):=(hc1 _ 7 (by omega)).trans a7;have q8:w1.cell? ⟨w.heap.size+1,8,none⟩=some (.string (BS x2.str)):=(hc1 _ 8 (by omega)).trans a8;have s0:w1.cell? ⟨w.heap.size,0,none⟩=some (.int .i64 0):=(hc1 _ 0 (by omega)).trans r0;have s1:w1.cell? ⟨w.heap.size,1,none⟩=some (.int .i64 0):=(hc1 _ 1 (by omega)).trans r1;have s2:w1.cell? ⟨w.heap.size,2,none⟩=some (.string ⟨#[]⟩):=(hc1 _ 2 (by omega)).trans r2;have f1:∀j,w1.frozen? ⟨w.heap.size+1,j,none⟩=false:=(fun j=>(hf1 _ j (by omega)).trans (fz j));have f0:∀j,w1.frozen? ⟨w.heap.size,j,none⟩=false:=(fun j=>(hf1 _ j (by omega)).trans (fr j));have hb1:=v7 hb1;clear hc1 hf1;simp only [vV])
    go_roundw
    case rel=>exact ⟨2,x0,_,x2,by omega,by go_num,v7 (OfAt.step1 (q9 hat) (q9 HX)),by simp [go_sem,q0],by simp [go_sem,q1],by simp [go_sem,q2],by simp [go_sem,q3],by simp [go_sem,q4],by simp [go_sem,q5],by simp [go_sem,q6],by simp [go_sem,q7],by simp [go_sem,q8],by simp [go_sem,s0],by simp [go_sem,s1],by simp [go_sem,s2],fun j=>by simp [go_sem,f1],fun j=>by simp [go_sem,f0],by simpa using hz1,v7 ((((v8 (q9 hbel) (q9 hb1)).setCell (by simp) _).setCell (by simp) _).setCell (by simp) _)⟩
    case measure=>simp [intOf];omega
   ·go_wp2_with (go_at_call 38;refine (q9 CX _ _ (q9 HNX) (q9 HEV)).mono ?_;rintro e w1 ⟨rfl,hb1⟩;obtain ⟨hc1,hf1⟩:=v9 hb1;have hz1:w.heap.size+1<w1.heap.size:=(by have:=hb1.size;omega);have q0:w1.cell? ⟨w.heap.size+1,0,none⟩=some (.int .i64 x0.kind):=(hc1 _ 0 (by omega)).trans a0;have q1:w1.cell? ⟨w.heap.size+1,1,none⟩=some (.int .i64 x0.num):=(hc1 _ 1 (by omega)).trans a1;have q2:w1.cell? ⟨w.heap.size+1,2,none⟩=some (.string (BS x0.str)):=(hc1 _ 2 (by omega)).trans a2;have q3:w1.cell? ⟨w.heap.size+1,3,none⟩=some (.int .i64 x1.kind):=(hc1 _ 3 (by omega)).trans a3;have q4:w1.cell? ⟨w.heap.size+1,4,none⟩=some (.int .i64 x1.num):=(hc1 _ 4 (by omega)).trans a4;have q5:w1.cell? ⟨w.heap.size+1,5,none⟩=some (.string (BS x1.str)):=(hc1 _ 5 (by omega)).trans a5;have q6:w1.cell? ⟨w.heap.size+1,6,none⟩=some (.int .i64 x2.kind):=(hc1 _ 6 (by omega)).trans a6;have q7:w1.cell? ⟨w.heap.size+1,7,none⟩=some (.int .i64 x2.num):=(hc1 _ 7 (by omega)).trans a7;have q8:w1.cell? ⟨w.heap.size+1,8,none⟩=some (.string (BS x2.str)):=(hc1 _ 8 (by omega)).trans a8;have s0:w1.cell? ⟨w.heap.size,0,none⟩=some (.int .i64 0):=(hc1 _ 0 (by omega)).trans r0;have s1:w1.cell? ⟨w.heap.size,1,none⟩=some (.int .i64 0):=(hc1 _ 1 (by omega)).trans r1;have s2:w1.cell? ⟨w.heap.size,2,none⟩=some (.string ⟨#[]⟩):=(hc1 _ 2 (by omega)).trans r2;have f1:∀j,w1.frozen? ⟨w.heap.size+1,j,none⟩=false:=(fun j=>(hf1 _ j (by omega)).trans (fz j));have f0:∀j,w1.frozen? ⟨w.heap.size,j,none⟩=false:=(fun j=>(hf1 _ j (by omega)).trans (fr j));have hb1:=v7 hb1;clear hc1 hf1;simp only [vV])
    go_roundw
    case rel=>exact ⟨3,x0,x1,_,by omega,by go_num,v7 (OfAt.step2 (q9 hat) (q9 HX)),by simp [go_sem,q0],by simp [go_sem,q1],by simp [go_sem,q2],by simp [go_sem,q3],by simp [go_sem,q4],by simp [go_sem,q5],by simp [go_sem,q6],by simp [go_sem,q7],by simp [go_sem,q8],by simp [go_sem,s0],by simp [go_sem,s1],by simp [go_sem,s2],fun j=>by simp [go_sem,f1],fun j=>by simp [go_sem,f0],by simpa using hz1,v7 ((((v8 (q9 hbel) (q9 hb1)).setCell (by simp) _).setCell (by simp) _).setCell (by simp) _)⟩
    case measure=>simp [intOf];omega
  ·have hkn:k=(j3 t).length:=by have:=q9 HN;omega
   have HDONE:Hid (qq5 (qb4 t) x0 x1 x2=r):=v7 (by rw [OfAt.done (by rw [←hkn];exact q9 hat)];exact q9 HR)
   have HRN:=v7 ((q9 hat).rng (q9 HRNG))
   have HLN:=v7 ((q9 hat).len (q9 HLEN))
   have HJN:=v7 (q9 HJ wr b x0 x1 x2 (q9 HRN).1 (q9 HRN).2.1 (q9 HRN).2.2 (q9 HLN) ((q9 HNODE).kept (Kept.of_below (q9 hbel))))
   clear hkn hat
   go_wp2_with (go_at_call 65;refine (q9 HJN).mono ?_;rw [q9 HDONE];rintro e w1 ⟨rfl,hb1⟩;obtain ⟨hc1,hf1⟩:=v9 hb1;have hz1:w.heap.size+1<w1.heap.size:=(by have:=hb1.size;omega);have s0:w1.cell? ⟨w.heap.size,0,none⟩=some (.int .i64 0):=(hc1 _ 0 (by omega)).trans r0;have s1:w1.cell? ⟨w.heap.size,1,none⟩=some (.int .i64 0):=(hc1 _ 1 (by omega)).trans r1;have s2:w1.cell? ⟨w.heap.size,2,none⟩=some (.string ⟨#[]⟩):=(hc1 _ 2 (by omega)).trans r2;have f1:∀j,w1.frozen? ⟨w.heap.size,j,none⟩=false:=(fun j=>(hf1 _ j (by omega)).trans (fr j));simp only [vV])
   refine bodyPost_ret (by simp [results,Tryz.results38,go_sem,s0,s1,s2]<;>rfl) rfl ⟨rfl, ?_⟩
   exact (((v8 (q9 hbel) hb1).setCell (by simp) _).setCell (by simp) _).setCell (by simp) _
end
section
def TkLn (st:St):Prop:=st.tk.str.length≤200
theorem qd1 {s:ByteArray} (hs:s.size≤200) (st:St):TkLn (v6 s st):=Nat.le_trans (qz2 s st) hs
def Bp (p:Pay):Prop:=p.str.length≤200∧p.texts.length≤1000
def vg1:Ast→Prop
 | .leaf p=>Bp p
 | .un p x=>Bp p∧vg1 x
 | .bin p x y=>Bp p∧vg1 x∧vg1 y
 | .tri p x y z=>Bp p∧vg1 x∧vg1 y∧vg1 z
theorem bp0 (op pl num:Int):Bp ⟨op,pl,num,[],[],[]⟩:=⟨by simp,by simp⟩
theorem bp1 {op pl num:Int} {s:List UInt8} (h:s.length≤200):Bp ⟨op,pl,num,s,[],[]⟩:=⟨h,by simp⟩
def BGood (f:St→Res):Prop:=∀st t st',TkLn st→f st=.ok t st'→vg1 t∧TkLn st'
def vk7 (g:Ast→St→Res):Prop:=∀l st t st',vg1 l→TkLn st→g l st=.ok t st'→vg1 t∧TkLn st'
theorem BGood.join {s:ByteArray} (H:s.size≤200) {f:St→Res} (h:BGood f):∀st l t st',vg1 l→qc2 s f st l=.ok t st'→vg1 t∧TkLn st':=by
 intro st l t st' hl he
 unfold qc2 at he
 split at he
 ·rename_i r st2 hr;injection he with h1 h2;subst h1;subst h2
  have:=h _ _ _ (qd1 H st) hr
  exact ⟨⟨(bp0 _ _ _),hl,this.1⟩,this.2⟩
 ·cases he
theorem BGood.loop {s:ByteArray} (H:s.size≤200) {f:St→Res} {ks:List Int} (h:BGood f):∀n l st t st',vg1 l→TkLn st→qa7 s f ks n l st=.ok t st'→vg1 t∧TkLn st':=by
 intro n
 induction n with
 | zero=>intro l st t st' hl hs he;rw [qa7] at he;injection he with h1 h2;subst h1;subst h2;exact ⟨hl,hs⟩
 | succ n ih=>
  intro l st t st' hl hs he
  rw [qa7] at he
  split at he
  ·split at he
   ·rename_i hj;have:=h.join H _ _ _ _ hl hj;exact ih _ _ _ _ this.1 this.2 he
   ·cases he
  ·injection he with h1 h2;subst h1;subst h2;exact ⟨hl,hs⟩
theorem BGood.row {s:ByteArray} (H:s.size≤200) {f:St→Res} {ks:List Int} (h:BGood f):BGood (qe2 s f ks):=by
 intro st t st' hs he
 unfold qe2 at he
 split at he
 ·rename_i hr;have:=h _ _ _ hs hr;exact h.loop H _ _ _ _ _ this.1 this.2 he
 ·cases he
theorem BGood.sign {s:ByteArray} (H:s.size≤200) {f:St→Res} (h:BGood f) (o:Int):BGood (qd4 s f o):=by
 intro st t st' _ he
 unfold qd4 at he
 split at he
 ·cases he
 ·split at he
  ·rename_i hr;injection he with h1 h2;subst h1;subst h2
   have:=h (qj8 s st) _ _ (qd1 H st) hr
   exact ⟨⟨(bp0 _ _ _),this.1⟩,this.2⟩
  ·cases he
theorem BGood.group {s:ByteArray} (H:s.size≤200) {f:St→Res} (h:BGood f):BGood (qd2 s f):=by
 intro st t st' _ he
 unfold qd2 at he
 split at he
 ·cases he
 ·split at he
  ·rename_i hr;split at he
   ·injection he with h1 h2;subst h1;subst h2
    exact ⟨(h (qj8 s st) _ _ (qd1 H st) hr).1,qd1 H _⟩
   ·cases he
  ·cases he
theorem BGood.signed {s:ByteArray} (H:s.size≤200) {fS fE:St→Res} (hS:BGood fS) (hE:BGood fE):BGood (qb7 s fS fE):=by
 intro st t st' hs he
 unfold qb7 at he
 split at he
 ·exact hS.sign H 14 _ _ _ hs he
 split at he
 ·exact hS.sign H 15 _ _ _ hs he
 split at he
 ·exact hE.group H _ _ _ hs he
 split at he
 ·injection he with h1 h2;subst h1;subst h2;exact ⟨bp1 hs,qd1 H st⟩
 split at he
 ·injection he with h1 h2;subst h1;subst h2;exact ⟨(bp0 _ _ _),qd1 H st⟩
 split at he
 ·injection he with h1 h2;subst h1;subst h2;exact ⟨bp1 hs,qd1 H st⟩
 split at he
 ·injection he with h1 h2;subst h1;subst h2;exact ⟨(bp0 _ _ _),qd1 H st⟩
 split at he
 ·injection he with h1 h2;subst h1;subst h2;exact ⟨(bp0 _ _ _),qd1 H st⟩
 ·cases he
theorem jb9 {s:ByteArray} (H:s.size≤200):vk7 (qd0 s):=by
 intro l st t st' hl _ he
 unfold qd0 at he
 split at he
 ·split at he
  ·injection he with h1 h2;subst h1;subst h2;exact ⟨⟨(bp0 _ _ _),(bp0 _ _ _),hl⟩,qd1 H _⟩
  ·cases he
 ·split at he
  ·injection he with h1 h2;subst h1;subst h2;exact ⟨⟨(bp0 _ _ _),hl⟩,qd1 H _⟩
  ·cases he
theorem jb8 {s:ByteArray} (H:s.size≤200) {l:Ast} {pl:Nat} (hl:vg1 l):∀n ts st t st',ts.length+n≤1000→qg1 s l pl n ts st=.ok t st'→vg1 t∧TkLn st':=by
 intro n
 induction n with
 | zero=>intro ts st t st' _ he;rw [qg1] at he;cases he
 | succ n ih=>
  intro ts st t st' hn he
  rw [qg1] at he
  split at he
  ·split at he
   ·exact ih _ _ _ _ (by simp;omega) he
   ·cases he
  ·split at he
   ·injection he with h1 h2;subst h1;subst h2;exact ⟨⟨⟨by simp,by show ts.length≤1000;omega⟩,hl⟩,qd1 H _⟩
   ·cases he
theorem bnd_in {s:ByteArray} (H:s.size≤200):vk7 (qh7 s):=by
 intro l st t st' hl _ he
 unfold qh7 at he
 split at he
 ·split at he
  ·exact jb8 H hl _ _ _ _ _ (by simp;omega) he
  ·cases he
 ·cases he
theorem bnd_like {s:ByteArray} (H:s.size≤200):vk7 (qa9 s):=by
 intro l st t st' hl _ he
 unfold qa9 at he
 split at he
 ·split at he
  ·split at he
   ·rename_i hk;injection he with h1 h2;subst h1;subst h2;rw [(qv8 hk).2];exact ⟨⟨⟨qd1 H _,by simp⟩,hl⟩,qd1 H _⟩
   ·cases he
  ·injection he with h1 h2;subst h1;subst h2;exact ⟨⟨⟨qd1 H _,by simp⟩,hl⟩,qd1 H _⟩
 ·cases he
theorem BGood.between {s:ByteArray} (H:s.size≤200) {f:St→Res} (h:BGood f):vk7 (qa0 s f):=by
 intro l st t st' hl _ he
 unfold qa0 at he
 split at he
 ·split at he
  ·rename_i h1;split at he
   ·split at he
    ·rename_i h2;injection he with h3 h4;subst h3;subst h4
     have a:=h _ _ _ (qd1 H _) h1
     have b:=h _ _ _ (qd1 H _) h2
     exact ⟨⟨(bp0 _ _ _),hl,a.1,b.1⟩,b.2⟩
    ·cases he
   ·cases he
  ·cases he
 ·cases he
theorem BGood.keyword {s:ByteArray} (H:s.size≤200) {f:St→Res} (h:BGood f) (bare:Bool):vk7 (qa2 s f (qh7 s) (qa9 s) bare):=by
 intro l st t st' hl hs he
 unfold qa2 at he
 split at he
 ·exact bnd_in H _ _ _ _ hl hs he
 split at he
 ·exact bnd_like H _ _ _ _ hl hs he
 ·exact h.between H _ _ _ _ hl hs he
theorem BGood.test {s:ByteArray} (H:s.size≤200) {f:St→Res} (h:BGood f):BGood (qg6 s f (qh7 s) (qa9 s)):=by
 intro st t st' hs he
 unfold qg6 at he
 split at he
 ·rename_i hr
  obtain ⟨hl,hs1⟩:=h _ _ _ hs hr
  unfold qa3 at he
  split at he
  ·exact h.join H _ _ _ _ hl he
  split at he
  ·split at he
   ·exact jb9 H _ _ _ _ hl hs1 he
   ·injection he with h1 h2;subst h1;subst h2;exact ⟨hl,hs1⟩
  split at he
  ·split at he
   ·rename_i hk;injection he with h1 h2;subst h1;subst h2
    have:=h.keyword H _ _ _ _ _ hl (qd1 H _) hk
    exact ⟨⟨(bp0 _ _ _),this.1⟩,this.2⟩
   ·cases he
  split at he
  ·exact h.keyword H _ _ _ _ _ hl hs1 he
  ·injection he with h1 h2;subst h1;subst h2;exact ⟨hl,hs1⟩
 ·cases he
theorem BGood.denied {s:ByteArray} (H:s.size≤200) {fD fT:St→Res} (hD:BGood fD) (hT:BGood fT):BGood (qd6 s fD fT):=by
 intro st t st' hs he
 unfold qd6 at he
 split at he
 ·exact hD.sign H 5 _ _ _ hs he
 ·exact hT _ _ _ hs he
structure BGood3 (L:L3):Prop where
 S:BGood L.S
 D:BGood L.D
 E:BGood L.E
theorem up3_bnd {s:ByteArray} (H:s.size≤200) {L:L3} (h:BGood3 L):BGood3 (up3 s L):=by
 have hS:=BGood.signed (s:=s) H h.S h.E
 have hD:=BGood.denied (s:=s) H h.D (BGood.test (s:=s) H ((hS.row (s:=s) H (ks:=[24,25])).row (s:=s) H (ks:=[22,23])))
 exact ⟨hS,hD,(hD.row (s:=s) H (ks:=[5])).row (s:=s) H (ks:=[6])⟩
theorem lvl_bnd (s:ByteArray) (H:s.size≤200):∀d,BGood3 (lvl s d):=by
 intro d
 induction d with
 | zero=>exact up3_bnd H ⟨(fun _ _ _ _ h=>by cases h),(fun _ _ _ _ h=>by cases h),(fun _ _ _ _ h=>by cases h)⟩
 | succ d ih=>exact up3_bnd H ih
end
section
def noPl (p:Pay):Pay:={ p with place:=0 }
def qr4:Ast→Ast
 | .leaf p=>.leaf (noPl p)
 | .un p x=>.un (noPl p) (qr4 x)
 | .bin p x y=>.bin (noPl p) (qr4 x) (qr4 y)
 | .tri p x y z=>.tri (noPl p) (qr4 x) (qr4 y) (qr4 z)
theorem vp8 (t:Ast):opA (qr4 t)=opA t:=by cases t<;>rfl
structure TS where
 toks:List Tk
 op:Nat
inductive TRes where
 | ok (t:Ast) (ts:TS)
 | err (en:Int)
def hd (L:List Tk):Tk:=match L with
 | []=>j6 0
 | k::_=>k
def TS.tk (ts:TS):Tk:=hd ts.toks
def TS.next (ts:TS):TS:=⟨ts.toks.tail,ts.op⟩
def va3 (f:TS→TRes) (ts:TS) (l:Ast):TRes:=match f ts.next with
 | .ok r ts'=>.ok (.bin ⟨qu8 ts.tk.kind,0,0,[],[],[]⟩ l r) ts'
 | .err en=>.err en
def qx2 (f:TS→TRes) (ks:List Int):Nat→Ast→TS→TRes
 | 0,l,ts=>.ok l ts
 | n+1,l,ts=>if ks.contains ts.tk.kind then (match va3 f ts l with
   | .ok l' ts'=>qx2 f ks n l' ts'
   | .err en=>.err en) else .ok l ts
def ja5 (f:TS→TRes) (ks:List Int) (ts:TS):TRes:=match f ts with
 | .ok l ts'=>qx2 f ks (ts'.toks.length+1) l ts'
 | .err en=>.err en
def tIn (ts:TS):TS:=⟨ts.toks.tail,ts.op+1⟩
def va4 (f:TS→TRes) (o:Int) (ts:TS):TRes:=if ts.op=12 then .err 3 else match f (tIn ts) with
 | .ok x ts'=>.ok (.un ⟨o,0,0,[],[],[]⟩ x) ⟨ts'.toks,ts.op⟩
 | .err en=>.err en
def qv0 (f:TS→TRes) (ts:TS):TRes:=if ts.op=12 then .err 3 else match f (tIn ts) with
 | .ok t ts'=>if ts'.tk.kind=27 then .ok t ⟨ts'.toks.tail,ts.op⟩ else .err 2
 | .err en=>.err en
def vy2 (o:Int) (num:Int) (str:List UInt8):Ast:=.leaf ⟨o,0,num,str,[],[]⟩
def qn7 (fS fE:TS→TRes) (ts:TS):TRes:=
 if ts.tk.kind=22 then va4 fS 14 ts else if ts.tk.kind=23 then va4 fS 15 ts else if ts.tk.kind=26 then qv0 fE ts
 else if ts.tk.kind=2 then .ok (vy2 0 0 ts.tk.str) ts.next
 else if ts.tk.kind=3 then .ok (vy2 1 ts.tk.num []) ts.next
 else if ts.tk.kind=4 then .ok (vy2 2 0 ts.tk.str) ts.next
 else if ts.tk.kind=8 then .ok (vy2 3 0 []) ts.next
 else if ts.tk.kind=9 then .ok (vy2 4 0 []) ts.next else .err 2
def tNull (l:Ast):Ast:=.un ⟨23,0,0,[],[],[]⟩ l
def tIsNull (l:Ast) (ts:TS):TRes:=
 if ts.next.tk.kind=7 then (if ts.next.next.tk.kind=15 then .ok (.un ⟨5,0,0,[],[],[]⟩ (tNull l)) ts.next.next.next else .err 2)
 else if ts.next.tk.kind=15 then .ok (tNull l) ts.next.next else .err 2
def qk7 (f:TS→TRes) (l:Ast) (ts:TS):TRes:=if ts.tk.kind=10 then (match f ts.next with
  | .ok lo ts1=>if ts1.tk.kind=5 then (match f ts1.next with
    | .ok hi ts2=>.ok (.tri ⟨20,0,0,[],[],[]⟩ l lo hi) ts2
    | .err en=>.err en) else .err 2
  | .err en=>.err en) else .err 2
def qk5 (l:Ast):Nat→List (List UInt8)→TS→TRes
 | 0,_,_=>.err 0
 | n+1,xs,ts=>if ts.tk.kind=28 then (if ts.next.tk.kind=4 then qk5 l n (xs++[ts.next.tk.str]) ts.next.next else .err 2)
   else if ts.tk.kind=27 then .ok (.un ⟨21,0,0,[],[],xs⟩ l) ts.next else .err 2
def tInRes (l:Ast) (ts:TS):TRes:=
 if ts.next.tk.kind=26 then (if ts.next.next.tk.kind=4 then qk5 l (ts.toks.length+1) [ts.next.next.tk.str] ts.next.next.next else .err 2) else .err 2
def tLike (l:Ast) (ts:TS):TRes:=
 if ts.next.tk.kind=4 then
  (if ts.next.next.tk.kind=13 then
   (if ts.next.next.next.tk.kind=4∧ts.next.next.next.tk.str.length=1∧(qk3 ts.next.next.next.tk.str ts.next.tk.str).isSome=true
    then .ok (.un ⟨22,0,0,ts.next.tk.str,ts.next.next.next.tk.str,[]⟩ l) ts.next.next.next.next else .err 2)
  else .ok (.un ⟨22,0,0,ts.next.tk.str,[],[]⟩ l) ts.next.next)
 else .err 2
def qi6 (f:TS→TRes) (bare:Bool) (l:Ast) (ts:TS):TRes:=
 if ts.tk.kind=11∧bare=true then tInRes l ts else if ts.tk.kind=12∧bare=true then tLike l ts else qk7 f l ts
def ve0 (f:TS→TRes) (bare:Bool) (l:Ast) (ts:TS):TRes:=
 if ts.tk.kind=16∨ts.tk.kind=17∨ts.tk.kind=18∨ts.tk.kind=19∨ts.tk.kind=20∨ts.tk.kind=21 then va3 f ts l
 else if ts.tk.kind=14 then (if bare=true then tIsNull l ts else .ok l ts)
 else if ts.tk.kind=7 then (match qi6 f bare l ts.next with
  | .ok t ts'=>.ok (.un ⟨5,0,0,[],[],[]⟩ t) ts'
  | .err en=>.err en)
 else if ts.tk.kind=10∨ts.tk.kind=11∨ts.tk.kind=12 then qi6 f bare l ts
 else .ok l ts
def ve1 (f:TS→TRes) (ts:TS):TRes:=match f ts with
 | .ok l ts'=>ve0 f (ts.tk.kind==2&&opA l==0) l ts'
 | .err en=>.err en
def qq2 (fD fT:TS→TRes) (ts:TS):TRes:=if ts.tk.kind=7 then va4 fD 5 ts else fT ts
structure T3 where
 S:TS→TRes
 D:TS→TRes
 E:TS→TRes
def tUp (L:T3):T3:=
 ⟨qn7 L.S L.E,qq2 L.D (ve1 (ja5 (ja5 (qn7 L.S L.E) [24,25]) [22,23])),ja5 (ja5 (qq2 L.D (ve1 (ja5 (ja5 (qn7 L.S L.E) [24,25]) [22,23]))) [5]) [6]⟩
def tLvl:Nat→T3
 | 0=>tUp ⟨fun _=>.err 0,fun _=>.err 0,fun _=>.err 0⟩
 | d+1=>tUp (tLvl d)
inductive Str (s:ByteArray):St→List Tk→Prop where
 | nil {st:St} (h:st.tk=j6 0):Str s st []
 | cons {st:St} {L:List Tk} (h:st.tk.kind≠0) (r:Str s (v6 s st) L):Str s st (st.tk::L)
theorem Str.tk {s:ByteArray} {st:St} {L:List Tk} (h:Str s st L):hd L=st.tk:=by
 cases h with
 | nil h=>exact h.symm
 | cons _ _=>rfl
theorem Str.next {s:ByteArray} {st:St} {L:List Tk} (h:Str s st L) (hk:st.tk.kind≠0):Str s (v6 s st) L.tail:=by
 cases h with
 | nil h=>rw [h] at hk;exact absurd rfl hk
 | cons _ r=>exact r
theorem Str.withOp {s:ByteArray} {st:St} {L:List Tk} (h:Str s st L) (n:Nat):Str s { st with op:=n } L:=by
 induction h generalizing n with
 | nil h=>exact .nil h
 | cons h r ih=>
  rename_i st L
  exact .cons (st:={ st with op:=n }) h (ih n)
theorem Str.len {s:ByteArray} {st:St} {L:List Tk} (h:Str s st L):Fine s st→L.length≤s.size - st.place:=by
 induction h with
 | nil h=>intro _;simp
 | cons h r ih=>
  rename_i st L
  intro hf
  have h1:=ih hf.next
  have h2:=hf.lt h
  have h3:=hf.next.place
  simp only [List.length_cons]
  omega
def SimR (s:ByteArray):Res→TRes→Prop
 | .ok t st,.ok t' ts=>qr4 t=t'∧Str s st ts.toks∧st.op=ts.op∧Fine s st
 | .err en _,.err en'=>en=en'
 | _,_=>False
def Sim (s:ByteArray) (f:St→Res) (f':TS→TRes):Prop:=∀st ts,Fine s st→Str s st ts.toks→st.op=ts.op→SimR s (f st) (f' ts)
end
section
theorem SimR.cases {s:ByteArray} {r:Res} {r':TRes} (h:SimR s r r'):(∃t st ts,r=.ok t st∧r'=.ok (qr4 t) ts∧Str s st ts.toks∧st.op=ts.op∧Fine s st)∨∃en pl,r=.err en pl∧r'=.err en:=by
 cases r with
 | ok t st=>
  cases r' with
  | ok t' ts=>obtain ⟨rfl,h2,h3,h4⟩:=h;exact .inl ⟨t,st,ts,rfl,rfl,h2,h3,h4⟩
  | err en=>exact h.elim
 | err en pl=>
  cases r' with
  | ok t' ts=>exact h.elim
  | err en'=>obtain rfl:en=en':=h;exact .inr ⟨en,pl,rfl,rfl⟩
theorem qh2 {s:ByteArray} {st:St} {ts:TS} (h:Str s st ts.toks):ts.tk=st.tk:=h.tk
theorem Sim.join {s:ByteArray} {f:St→Res} {f':TS→TRes} (h:Sim s f f') (st:St) (ts:TS) (l:Ast) (hf:Fine s st) (hs:Str s st ts.toks) (ho:st.op=ts.op) (hk:st.tk.kind≠0):SimR s (qc2 s f st l) (va3 f' ts (qr4 l)):=by
 have:=h (v6 s st) ts.next hf.next (hs.next hk) ho
 unfold qc2 va3
 rw [qh2 hs]
 rcases this.cases with ⟨t,st2,ts2,h1,h2,h3,h4,h5⟩|⟨en,pl,h1,h2⟩
 ·rw [h1,h2];exact ⟨rfl,h3,h4,h5⟩
 ·rw [h1,h2];rfl
def Shr (f:TS→TRes):Prop:=∀ts t ts',f ts=.ok t ts'→ts'.toks.length≤ts.toks.length
def ShrT (g:Ast→TS→TRes):Prop:=∀l ts t ts',g l ts=.ok t ts'→ts'.toks.length≤ts.toks.length
theorem qz3 (L:List Tk):L.tail.length≤L.length:=by rw [List.length_tail];omega
theorem qb6 (ts:TS):ts.next.toks.length≤ts.toks.length:=qz3 _
theorem Shr.join {f:TS→TRes} (h:Shr f) (ts:TS) (l t:Ast) (ts':TS) (he:va3 f ts l=.ok t ts'):ts'.toks.length≤ts.next.toks.length:=by
 unfold va3 at he
 split at he
 ·rename_i hr;injection he with _ h2;subst h2;exact h _ _ _ hr
 ·cases he
theorem Shr.loop {f:TS→TRes} (h:Shr f) (ks:List Int):∀n l ts t ts',qx2 f ks n l ts=.ok t ts'→ts'.toks.length≤ts.toks.length:=by
 intro n
 induction n with
 | zero=>intro l ts t ts' he;rw [qx2] at he;injection he with _ h2;subst h2;exact Nat.le_refl _
 | succ n ih=>
  intro l ts t ts' he
  rw [qx2] at he
  split at he
  ·split at he
   ·rename_i hj;exact Nat.le_trans (ih _ _ _ _ he) (Nat.le_trans (h.join _ _ _ _ hj) (qb6 _))
   ·cases he
  ·injection he with _ h2;subst h2;exact Nat.le_refl _
theorem Shr.row {f:TS→TRes} (h:Shr f) (ks:List Int):Shr (ja5 f ks):=by
 intro ts t ts' he
 unfold ja5 at he
 split at he
 ·rename_i hr;exact Nat.le_trans (h.loop ks _ _ _ _ _ he) (h _ _ _ hr)
 ·cases he
theorem Shr.sign {f:TS→TRes} (h:Shr f) (o:Int):Shr (va4 f o):=by
 intro ts t ts' he
 unfold va4 at he
 split at he
 ·cases he
 ·split at he
  ·rename_i hr
   have h3:=h _ _ _ hr
   injection he with _ h2;subst h2;exact Nat.le_trans h3 (qz3 ts.toks)
  ·cases he
theorem Shr.group {f:TS→TRes} (h:Shr f):Shr (qv0 f):=by
 intro ts t ts' he
 unfold qv0 at he
 split at he
 ·cases he
 ·split at he
  ·rename_i hr;split at he
   ·have h3:=h _ _ _ hr
    injection he with _ h2;subst h2;exact Nat.le_trans (qz3 _) (Nat.le_trans h3 (qz3 ts.toks))
   ·cases he
  ·cases he
theorem Shr.signed {fS fE:TS→TRes} (hS:Shr fS) (hE:Shr fE):Shr (qn7 fS fE):=by
 intro ts t ts' he
 unfold qn7 at he
 split at he
 ·exact hS.sign 14 _ _ _ he
 split at he
 ·exact hS.sign 15 _ _ _ he
 split at he
 ·exact hE.group _ _ _ he
 split at he
 ·injection he with _ h2;subst h2;exact qb6 _
 split at he
 ·injection he with _ h2;subst h2;exact qb6 _
 split at he
 ·injection he with _ h2;subst h2;exact qb6 _
 split at he
 ·injection he with _ h2;subst h2;exact qb6 _
 split at he
 ·injection he with _ h2;subst h2;exact qb6 _
 ·cases he
theorem jg8:ShrT tIsNull:=by
 intro l ts t ts' he
 unfold tIsNull at he
 split at he
 ·split at he
  ·injection he with _ h2;subst h2;exact Nat.le_trans (qb6 _) (Nat.le_trans (qb6 _) (qb6 _))
  ·cases he
 ·split at he
  ·injection he with _ h2;subst h2;exact Nat.le_trans (qb6 _) (qb6 _)
  ·cases he
theorem jg7 (l:Ast):∀n xs ts t ts',qk5 l n xs ts=.ok t ts'→ts'.toks.length≤ts.toks.length:=by
 intro n
 induction n with
 | zero=>intro xs ts t ts' he;rw [qk5] at he;cases he
 | succ n ih=>
  intro xs ts t ts' he
  rw [qk5] at he
  split at he
  ·split at he
   ·exact Nat.le_trans (ih _ _ _ _ he) (Nat.le_trans (qb6 _) (qb6 _))
   ·cases he
  ·split at he
   ·injection he with _ h2;subst h2;exact qb6 _
   ·cases he
theorem shr_in:ShrT tInRes:=by
 intro l ts t ts' he
 unfold tInRes at he
 split at he
 ·split at he
  ·exact Nat.le_trans (jg7 l _ _ _ _ _ he) (Nat.le_trans (qb6 _) (Nat.le_trans (qb6 _) (qb6 _)))
  ·cases he
 ·cases he
theorem shr_like:ShrT tLike:=by
 intro l ts t ts' he
 unfold tLike at he
 split at he
 ·split at he
  ·split at he
   ·injection he with _ h2;subst h2;exact Nat.le_trans (qb6 _) (Nat.le_trans (qb6 _) (Nat.le_trans (qb6 _) (qb6 _)))
   ·cases he
  ·injection he with _ h2;subst h2;exact Nat.le_trans (qb6 _) (qb6 _)
 ·cases he
theorem Shr.between {f:TS→TRes} (h:Shr f):ShrT (qk7 f):=by
 intro l ts t ts' he
 unfold qk7 at he
 split at he
 ·split at he
  ·rename_i h1;split at he
   ·split at he
    ·rename_i h2;injection he with _ h3;subst h3
     exact Nat.le_trans (h _ _ _ h2) (Nat.le_trans (qb6 _) (Nat.le_trans (h _ _ _ h1) (qb6 _)))
    ·cases he
   ·cases he
  ·cases he
 ·cases he
theorem Shr.keyword {f:TS→TRes} (h:Shr f) (bare:Bool):ShrT (qi6 f bare):=by
 intro l ts t ts' he
 unfold qi6 at he
 split at he
 ·exact shr_in _ _ _ _ he
 split at he
 ·exact shr_like _ _ _ _ he
 ·exact h.between _ _ _ _ he
theorem Shr.test {f:TS→TRes} (h:Shr f):Shr (ve1 f):=by
 intro ts t ts' he
 unfold ve1 at he
 split at he
 ·rename_i hr
  refine Nat.le_trans ?_ (h _ _ _ hr)
  unfold ve0 at he
  split at he
  ·exact Nat.le_trans (h.join _ _ _ _ he) (qb6 _)
  split at he
  ·split at he
   ·exact jg8 _ _ _ _ he
   ·injection he with _ h2;subst h2;exact Nat.le_refl _
  split at he
  ·split at he
   ·rename_i hk;injection he with _ h2;subst h2;exact Nat.le_trans (h.keyword _ _ _ _ _ hk) (qb6 _)
   ·cases he
  split at he
  ·exact h.keyword _ _ _ _ _ he
  ·injection he with _ h2;subst h2;exact Nat.le_refl _
 ·cases he
theorem Shr.denied {fD fT:TS→TRes} (hD:Shr fD) (hT:Shr fT):Shr (qq2 fD fT):=by
 intro ts t ts' he
 unfold qq2 at he
 split at he
 ·exact hD.sign 5 _ _ _ he
 ·exact hT _ _ _ he
end
section
theorem Str.tail_lt {s:ByteArray} {st:St} {L:List Tk} (h:Str s st L) (hk:st.tk.kind≠0):L.tail.length<L.length:=by
 cases h with
 | nil h=>rw [h] at hk;exact absurd rfl hk
 | cons _ _=>simp
theorem Sim.loop {s:ByteArray} {f:St→Res} {f':TS→TRes} (h:Sim s f f') (hf':Shr f') (ks:List Int) (hk0:ks.contains 0=false):∀n n' l st ts,ts.toks.length<n→ts.toks.length<n'→Fine s st→Str s st ts.toks→st.op=ts.op→SimR s (qa7 s f ks n l st) (qx2 f' ks n' (qr4 l) ts):=by
 intro n
 induction n with
 | zero=>intro n' l st ts h1;omega
 | succ n ih=>
  intro n' l st ts h1 h2 hfi hs ho
  obtain ⟨m,rfl⟩:∃m,n'=m+1:=⟨n' - 1,by omega⟩
  rw [qa7,qx2,qh2 hs]
  by_cases hc:ks.contains st.tk.kind=true
  ·have hk:st.tk.kind≠0:=fun e=>by rw [e,hk0] at hc;cases hc
   rw [if_pos hc,if_pos hc]
   have hlen:ts.next.toks.length<ts.toks.length:=hs.tail_lt hk
   rcases (h.join st ts l hfi hs ho hk).cases with ⟨t,st2,ts2,e1,e2,e3,e4,e5⟩|⟨en,pl,e1,e2⟩
   ·have hl:=hf'.join _ _ _ _ e2
    rw [e1,e2]
    exact ih m t st2 ts2 (by omega) (by omega) e5 e3 e4
   ·rw [e1,e2];rfl
  ·rw [if_neg hc,if_neg hc]
   exact ⟨rfl,hs,ho,hfi⟩
theorem Sim.row {s:ByteArray} {f:St→Res} {f':TS→TRes} (h:Sim s f f') (hf':Shr f') (ks:List Int) (hk0:ks.contains 0=false):Sim s (qe2 s f ks) (ja5 f' ks):=by
 intro st ts hfi hs ho
 unfold qe2 ja5
 rcases (h st ts hfi hs ho).cases with ⟨t,st2,ts2,e1,e2,e3,e4,e5⟩|⟨en,pl,e1,e2⟩
 ·rw [e1,e2]
  have hl:=e3.len e5
  exact h.loop hf' ks hk0 _ _ t st2 ts2 (by omega) (by omega) e5 e3 e4
 ·rw [e1,e2];rfl
theorem Sim.sign {s:ByteArray} {f:St→Res} {f':TS→TRes} (h:Sim s f f') (o:Int) (st:St) (ts:TS) (hfi:Fine s st) (hs:Str s st ts.toks) (ho:st.op=ts.op) (hk:st.tk.kind≠0):SimR s (qd4 s f o st) (va4 f' o ts):=by
 unfold qd4 va4
 rw [ho]
 split
 ·rfl
 ·rcases (h (qj8 s st) (tIn ts) (hfi.next.op _) ((hs.next hk).withOp _) (by show st.op+1=ts.op+1;rw [ho])).cases with ⟨t,st2,ts2,e1,e2,e3,e4,e5⟩|⟨en,pl,e1,e2⟩
  ·rw [e1,e2];exact ⟨rfl,e3.withOp _,rfl,e5.op _⟩
  ·rw [e1,e2];rfl
theorem Sim.group {s:ByteArray} {f:St→Res} {f':TS→TRes} (h:Sim s f f') (st:St) (ts:TS) (hfi:Fine s st) (hs:Str s st ts.toks) (ho:st.op=ts.op) (hk:st.tk.kind≠0):SimR s (qd2 s f st) (qv0 f' ts):=by
 unfold qd2 qv0
 rw [ho]
 split
 ·rfl
 ·rcases (h (qj8 s st) (tIn ts) (hfi.next.op _) ((hs.next hk).withOp _) (by show st.op+1=ts.op+1;rw [ho])).cases with ⟨t,st2,ts2,e1,e2,e3,e4,e5⟩|⟨en,pl,e1,e2⟩
  ·rw [e1,e2]
   show SimR s (if st2.tk.kind=27 then _ else _) (if ts2.tk.kind=27 then _ else _)
   rw [qh2 e3]
   by_cases h27:st2.tk.kind=27
   ·rw [if_pos h27,if_pos h27]
    exact ⟨rfl,(e3.next (by rw [h27];decide)).withOp _,rfl,e5.next.op _⟩
   ·rw [if_neg h27,if_neg h27];rfl
  ·rw [e1,e2];rfl
theorem Sim.signed {s:ByteArray} {fS fE:St→Res} {fS' fE':TS→TRes} (hS:Sim s fS fS') (hE:Sim s fE fE'):Sim s (qb7 s fS fE) (qn7 fS' fE'):=by
 intro st ts hfi hs ho
 unfold qb7 qn7
 rw [qh2 hs]
 by_cases h22:st.tk.kind=22
 ·rw [if_pos h22,if_pos h22];exact hS.sign 14 st ts hfi hs ho (by rw [h22];decide)
 rw [if_neg h22,if_neg h22]
 by_cases h23:st.tk.kind=23
 ·rw [if_pos h23,if_pos h23];exact hS.sign 15 st ts hfi hs ho (by rw [h23];decide)
 rw [if_neg h23,if_neg h23]
 by_cases h26:st.tk.kind=26
 ·rw [if_pos h26,if_pos h26];exact hE.group st ts hfi hs ho (by rw [h26];decide)
 rw [if_neg h26,if_neg h26]
 by_cases h2:st.tk.kind=2
 ·rw [if_pos h2,if_pos h2];exact ⟨rfl,hs.next (by rw [h2];decide),ho,hfi.next⟩
 rw [if_neg h2,if_neg h2]
 by_cases h3:st.tk.kind=3
 ·rw [if_pos h3,if_pos h3];exact ⟨rfl,hs.next (by rw [h3];decide),ho,hfi.next⟩
 rw [if_neg h3,if_neg h3]
 by_cases h4:st.tk.kind=4
 ·rw [if_pos h4,if_pos h4];exact ⟨rfl,hs.next (by rw [h4];decide),ho,hfi.next⟩
 rw [if_neg h4,if_neg h4]
 by_cases h8:st.tk.kind=8
 ·rw [if_pos h8,if_pos h8];exact ⟨rfl,hs.next (by rw [h8];decide),ho,hfi.next⟩
 rw [if_neg h8,if_neg h8]
 by_cases h9:st.tk.kind=9
 ·rw [if_pos h9,if_pos h9];exact ⟨rfl,hs.next (by rw [h9];decide),ho,hfi.next⟩
 rw [if_neg h9,if_neg h9]
 rfl
theorem Sim.denied {s:ByteArray} {fD fT:St→Res} {fD' fT':TS→TRes} (hD:Sim s fD fD') (hT:Sim s fT fT'):Sim s (qd6 s fD fT) (qq2 fD' fT'):=by
 intro st ts hfi hs ho
 unfold qd6 qq2
 rw [qh2 hs]
 by_cases h7:st.tk.kind=7
 ·rw [if_pos h7,if_pos h7];exact hD.sign 5 st ts hfi hs ho (by rw [h7];decide)
 ·rw [if_neg h7,if_neg h7];exact hT st ts hfi hs ho
end
section
def SimT (s:ByteArray) (k:Int) (g:Ast→St→Res) (g':Ast→TS→TRes):Prop:=∀l st ts,Fine s st→Str s st ts.toks→st.op=ts.op→st.tk.kind=k→SimR s (g l st) (g' (qr4 l) ts)
theorem go1 {s:ByteArray} {st:St} {ts:TS} (hfi:Fine s st) (hs:Str s st ts.toks) (ho:st.op=ts.op) (hk:st.tk.kind≠0):Fine s (v6 s st)∧Str s (v6 s st) ts.next.toks∧(v6 s st).op=ts.next.op:=⟨hfi.next,hs.next hk,ho⟩
theorem jh0 (s:ByteArray):SimT s 14 (qd0 s) tIsNull:=by
 intro l st ts hfi hs ho hk
 obtain ⟨f1,s1,o1⟩:=go1 hfi hs ho (by rw [hk];decide)
 unfold qd0 tIsNull
 rw [qh2 s1]
 by_cases h7:(v6 s st).tk.kind=7
 ·rw [if_pos h7,if_pos h7]
  obtain ⟨f2,s2,o2⟩:=go1 f1 s1 o1 (by rw [h7];decide)
  rw [qh2 s2]
  by_cases h15:(v6 s (v6 s st)).tk.kind=15
  ·rw [if_pos h15,if_pos h15]
   obtain ⟨f3,s3,o3⟩:=go1 f2 s2 o2 (by rw [h15];decide)
   exact ⟨rfl,s3,o3,f3⟩
  ·rw [if_neg h15,if_neg h15];rfl
 ·rw [if_neg h7,if_neg h7]
  by_cases h15:(v6 s st).tk.kind=15
  ·rw [if_pos h15,if_pos h15]
   obtain ⟨f2,s2,o2⟩:=go1 f1 s1 o1 (by rw [h15];decide)
   exact ⟨rfl,s2,o2,f2⟩
  ·rw [if_neg h15,if_neg h15];rfl
theorem Sim.between {s:ByteArray} {f:St→Res} {f':TS→TRes} (h:Sim s f f'):∀l st ts,Fine s st→Str s st ts.toks→st.op=ts.op→SimR s (qa0 s f l st) (qk7 f' (qr4 l) ts):=by
 intro l st ts hfi hs ho
 unfold qa0 qk7
 rw [qh2 hs]
 by_cases h10:st.tk.kind=10
 ·rw [if_pos h10,if_pos h10]
  obtain ⟨f1,s1,o1⟩:=go1 hfi hs ho (by rw [h10];decide)
  rcases (h _ _ f1 s1 o1).cases with ⟨t,st2,ts2,e1,e2,e3,e4,e5⟩|⟨en,pl,e1,e2⟩
  ·rw [e1,e2]
   show SimR s (if st2.tk.kind=5 then _ else _) (if ts2.tk.kind=5 then _ else _)
   rw [qh2 e3]
   by_cases h5:st2.tk.kind=5
   ·rw [if_pos h5,if_pos h5]
    obtain ⟨f3,s3,o3⟩:=go1 e5 e3 e4 (by rw [h5];decide)
    rcases (h _ _ f3 s3 o3).cases with ⟨t3,st3,ts3,g1,g2,g3,g4,g5⟩|⟨en,pl,g1,g2⟩
    ·rw [g1,g2];exact ⟨rfl,g3,g4,g5⟩
    ·rw [g1,g2];rfl
   ·rw [if_neg h5,if_neg h5];rfl
  ·rw [e1,e2];rfl
 ·rw [if_neg h10,if_neg h10];rfl
theorem jg9 (s:ByteArray) (l:Ast) (pl:Nat):∀n n' xs st ts,ts.toks.length<n→ts.toks.length<n'→Fine s st→Str s st ts.toks→st.op=ts.op→SimR s (qg1 s l pl n xs st) (qk5 (qr4 l) n' xs ts):=by
 intro n
 induction n with
 | zero=>intro n' xs st ts h1;omega
 | succ n ih=>
  intro n' xs st ts h1 h2 hfi hs ho
  obtain ⟨m,rfl⟩:∃m,n'=m+1:=⟨n' - 1,by omega⟩
  rw [qg1,qk5,qh2 hs]
  by_cases h28:st.tk.kind=28
  ·rw [if_pos h28,if_pos h28]
   have hk:st.tk.kind≠0:=by rw [h28];decide
   obtain ⟨f1,s1,o1⟩:=go1 hfi hs ho hk
   have t1:ts.next.toks.length<ts.toks.length:=hs.tail_lt hk
   rw [qh2 s1]
   by_cases h4:(v6 s st).tk.kind=4
   ·rw [if_pos h4,if_pos h4]
    obtain ⟨f2,s2,o2⟩:=go1 f1 s1 o1 (by rw [h4];decide)
    have t2:=qb6 ts.next
    exact ih m _ _ _ (by omega) (by omega) f2 s2 o2
   ·rw [if_neg h4,if_neg h4];rfl
  ·rw [if_neg h28,if_neg h28]
   by_cases h27:st.tk.kind=27
   ·rw [if_pos h27,if_pos h27]
    obtain ⟨f1,s1,o1⟩:=go1 hfi hs ho (by rw [h27];decide)
    exact ⟨rfl,s1,o1,f1⟩
   ·rw [if_neg h27,if_neg h27];rfl
theorem sim_in (s:ByteArray):SimT s 11 (qh7 s) tInRes:=by
 intro l st ts hfi hs ho hk
 obtain ⟨f1,s1,o1⟩:=go1 hfi hs ho (by rw [hk];decide)
 unfold qh7 tInRes
 rw [qh2 s1]
 by_cases h26:(v6 s st).tk.kind=26
 ·rw [if_pos h26,if_pos h26]
  obtain ⟨f2,s2,o2⟩:=go1 f1 s1 o1 (by rw [h26];decide)
  rw [qh2 s2]
  by_cases h4:(v6 s (v6 s st)).tk.kind=4
  ·rw [if_pos h4,if_pos h4]
   obtain ⟨f3,s3,o3⟩:=go1 f2 s2 o2 (by rw [h4];decide)
   have hl:=s3.len f3
   have l1:=qb6 ts
   have l2:=qb6 ts.next
   have l3:=qb6 ts.next.next
   exact jg9 s l st.place _ _ _ _ _ (by omega) (by omega) f3 s3 o3
  ·rw [if_neg h4,if_neg h4];rfl
 ·rw [if_neg h26,if_neg h26];rfl
theorem sim_like (s:ByteArray):SimT s 12 (qa9 s) tLike:=by
 intro l st ts hfi hs ho hk
 obtain ⟨f1,s1,o1⟩:=go1 hfi hs ho (by rw [hk];decide)
 unfold qa9 tLike
 rw [qh2 s1]
 by_cases h4:(v6 s st).tk.kind=4
 ·rw [if_pos h4,if_pos h4]
  obtain ⟨f2,s2,o2⟩:=go1 f1 s1 o1 (by rw [h4];decide)
  rw [qh2 s2]
  by_cases h13:(v6 s (v6 s st)).tk.kind=13
  ·rw [if_pos h13,if_pos h13]
   obtain ⟨f3,s3,o3⟩:=go1 f2 s2 o2 (by rw [h13];decide)
   rw [qh2 s3]
   unfold qq4
   by_cases g4:(v6 s (v6 s (v6 s st))).tk.kind=4
   ·rw [if_pos g4]
    by_cases g1:(v6 s (v6 s (v6 s st))).tk.str.length=1
    ·rw [if_pos g1]
     by_cases g2:(qk3 (v6 s (v6 s (v6 s st))).tk.str (v6 s st).tk.str).isSome=true
     ·rw [if_pos g2,if_pos ⟨g4,g1,g2⟩]
      obtain ⟨f4,s4,o4⟩:=go1 f3 s3 o3 (by rw [g4];decide)
      exact ⟨rfl,s4,o4,f4⟩
     ·rw [if_neg g2,if_neg (fun h=>g2 h.2.2)];rfl
    ·rw [if_neg g1,if_neg (fun h=>g1 h.2.1)];rfl
   ·rw [if_neg g4,if_neg (fun h=>g4 h.1)];rfl
  ·rw [if_neg h13,if_neg h13]
   exact ⟨rfl,s2,o2,f2⟩
 ·rw [if_neg h4,if_neg h4];rfl
theorem Sim.keyword {s:ByteArray} {f:St→Res} {f':TS→TRes} (h:Sim s f f') (bare:Bool) (l:Ast) (st:St) (ts:TS) (hfi:Fine s st) (hs:Str s st ts.toks) (ho:st.op=ts.op):SimR s (qa2 s f (qh7 s) (qa9 s) bare l st) (qi6 f' bare (qr4 l) ts):=by
 unfold qa2 qi6
 rw [qh2 hs]
 by_cases h11:st.tk.kind=11∧bare=true
 ·rw [if_pos h11,if_pos h11];exact sim_in s l st ts hfi hs ho h11.1
 rw [if_neg h11,if_neg h11]
 by_cases h12:st.tk.kind=12∧bare=true
 ·rw [if_pos h12,if_pos h12];exact sim_like s l st ts hfi hs ho h12.1
 rw [if_neg h12,if_neg h12]
 exact h.between l st ts hfi hs ho
theorem Sim.tail {s:ByteArray} {f:St→Res} {f':TS→TRes} (h:Sim s f f') (bare:Bool) (l:Ast) (st:St) (ts:TS) (hfi:Fine s st) (hs:Str s st ts.toks) (ho:st.op=ts.op):SimR s (qa3 s f (qh7 s) (qa9 s) bare l st) (ve0 f' bare (qr4 l) ts):=by
 unfold qa3 ve0
 rw [qh2 hs]
 by_cases h16:st.tk.kind=16∨st.tk.kind=17∨st.tk.kind=18∨st.tk.kind=19∨st.tk.kind=20∨st.tk.kind=21
 ·rw [if_pos h16,if_pos h16];exact h.join st ts l hfi hs ho (by omega)
 rw [if_neg h16,if_neg h16]
 by_cases h14:st.tk.kind=14
 ·rw [if_pos h14,if_pos h14]
  cases bare
  ·exact ⟨rfl,hs,ho,hfi⟩
  ·exact jh0 s l st ts hfi hs ho h14
 rw [if_neg h14,if_neg h14]
 by_cases h7:st.tk.kind=7
 ·rw [if_pos h7,if_pos h7]
  obtain ⟨f1,s1,o1⟩:=go1 hfi hs ho (by rw [h7];decide)
  rcases (h.keyword bare l _ _ f1 s1 o1).cases with ⟨t,st2,ts2,e1,e2,e3,e4,e5⟩|⟨en,pl,e1,e2⟩
  ·rw [e1,e2];exact ⟨rfl,e3,e4,e5⟩
  ·rw [e1,e2];rfl
 rw [if_neg h7,if_neg h7]
 by_cases h10:st.tk.kind=10∨st.tk.kind=11∨st.tk.kind=12
 ·rw [if_pos h10,if_pos h10];exact h.keyword bare l st ts hfi hs ho
 ·rw [if_neg h10,if_neg h10];exact ⟨rfl,hs,ho,hfi⟩
theorem Sim.test {s:ByteArray} {f:St→Res} {f':TS→TRes} (h:Sim s f f'):Sim s (qg6 s f (qh7 s) (qa9 s)) (ve1 f'):=by
 intro st ts hfi hs ho
 unfold qg6 ve1
 rcases (h st ts hfi hs ho).cases with ⟨t,st2,ts2,e1,e2,e3,e4,e5⟩|⟨en,pl,e1,e2⟩
 ·rw [e1,e2]
  show SimR s (qa3 s f (qh7 s) (qa9 s) (qd8 st t) t st2) (ve0 f' (ts.tk.kind==2&&opA (qr4 t)==0) (qr4 t) ts2)
  rw [qh2 hs,vp8]
  exact h.tail _ t st2 ts2 e5 e3 e4
 ·rw [e1,e2];rfl
structure Sim3 (s:ByteArray) (L:L3) (L':T3):Prop where
 S:Sim s L.S L'.S
 D:Sim s L.D L'.D
 E:Sim s L.E L'.E
 s':Shr L'.S
 d':Shr L'.D
 e':Shr L'.E
theorem sim_up {s:ByteArray} {L:L3} {L':T3} (h:Sim3 s L L'):Sim3 s (up3 s L) (tUp L'):=by
 have hS:=Sim.signed h.S h.E
 have zS:=Shr.signed h.s' h.e'
 have hP:=hS.row zS [24,25] rfl
 have zP:=zS.row [24,25]
 have hU:=hP.row zP [22,23] rfl
 have zU:=zP.row [22,23]
 have hT:=hU.test
 have zT:=zU.test
 have hD:=Sim.denied h.D hT
 have zD:=Shr.denied h.d' zT
 have hB:=hD.row zD [5] rfl
 have zB:=zD.row [5]
 exact ⟨hS,hD,hB.row zB [6] rfl,zS,zD,zB.row [6]⟩
theorem sim_lvl (s:ByteArray):∀d,Sim3 s (lvl s d) (tLvl d):=by
 intro d
 induction d with
 | zero=>exact sim_up ⟨(fun _ _ _ _ _=>rfl),(fun _ _ _ _ _=>rfl),(fun _ _ _ _ _=>rfl),(fun _ _ _ h=>by cases h),(fun _ _ _ h=>by cases h),(fun _ _ _ h=>by cases h)⟩
 | succ d ih=>exact sim_up ih
end
section
theorem qb3 {ts:TS} {c:Int} (hc:c≠0) (h:ts.tk.kind=c):ts.toks≠[]:=by
 intro e
 unfold TS.tk at h
 rw [e] at h
 exact hc h.symm
section
variable {X:List Tk} {k o:Nat} {f f':TS→TRes}
end
end
section
inductive Lx:List UInt8→List Tk→Prop where
 | nil {r:List UInt8} (h:qd3 r 0=j6 0):Lx r []
 | cons {r:List UInt8} {k:Tk} {L:List Tk} (e:qd3 r 0=k) (h:k.kind≠0) (t:Lx (r.drop (qh8 r 0)) L):Lx r (k::L)
theorem vc0 (l:List UInt8) (k:Nat):qe8 l k=k+qe8 (l.drop k) 0:=by
 unfold qe8;rw [List.drop_zero,Nat.zero_add]
theorem vc1 (l:List UInt8) (k:Nat):qd3 l k=qd3 (l.drop k) 0:=by
 unfold qd3
 rw [vc0 l k,←List.drop_drop,List.length_drop]
 by_cases h:k+qe8 (l.drop k) 0<l.length
 ·rw [if_pos h,if_pos (by omega)]
 ·rw [if_neg h,if_neg (by omega)]
theorem vv9 (l:List UInt8) (k:Nat) (hk:k≤l.length):qh8 l k=k+qh8 (l.drop k) 0:=by
 unfold qh8
 rw [vc0 l k,←List.drop_drop,List.length_drop]
 by_cases h:k+qe8 (l.drop k) 0<l.length
 ·rw [if_pos h,if_pos (by omega)];omega
 ·rw [if_neg h,if_neg (by omega)];omega
theorem vs1 {s:ByteArray} {r:List UInt8} {L:List Tk} (h:Lx r L):∀st:St,st.after≤s.size→s.data.toList.drop st.after=r→Str s (v6 s st) L:=by
 induction h with
 | nil h=>
  intro st _ hr
  refine .nil ?_
  show qd3 s.data.toList st.after=_
  rw [vc1,hr,h]
 | cons e h t ih=>
  intro st ha hr
  rename_i r k L
  have hk:(v6 s st).tk=k:=by
   show qd3 s.data.toList st.after=_
   rw [vc1,hr,e]
  rw [←hk]
  refine .cons (by rw [hk];exact h) (ih _ (x8 s st ha).after ?_)
  show s.data.toList.drop (qh8 s.data.toList st.after)=_
  rw [vv9 _ _ (by rw [j4];exact ha),←List.drop_drop,hr]
end
section
theorem lx_end:Lx [] []:=.nil rfl
end
section
structure Stop (d:UInt8):Prop where
 goe:qs9 d=false
 dig:qj7 d=false
 quo:(d==39)=false
 eq:(d==61)=false
 gt:(d==62)=false
theorem ite_ne {c:Prop} [Decidable c] {a b:Int} (ha:a≠0) (hb:b≠0):(if c then a else b)≠0:=by
 by_cases h:c
 ·rw [if_pos h];exact ha
 ·rw [if_neg h];exact hb
theorem kwK_ne (l:List UInt8):kwK l≠0:=by
 unfold kwK
 repeat refine ite_ne (by decide) ?_
 decide
theorem markK_ne (l:List UInt8):vh4 l≠0:=by
 unfold vh4
 repeat refine ite_ne (by decide) ?_
 decide
theorem word_ne (l:List UInt8):(qi4 l).kind≠0:=by
 unfold qi4
 by_cases h:qn8 (l.take (x5 l))=2
 ·rw [if_pos h];show (2:Int)≠0;decide
 ·rw [if_neg h];exact kwK_ne _
theorem num_ne (l:List UInt8):(qq6 l).kind≠0:=by
 unfold qq6
 by_cases h:qh0 0 (l.take (qa4 qj7 l))≤9223372036854775807
 ·rw [if_pos h];show (3:Int)≠0;decide
 ·rw [if_neg h];show (1:Int)≠0;decide
theorem quot_ne (l:List UInt8):(qh9 l).kind≠0:=by
 unfold qh9
 cases qh3 (l.drop 1) with
 | none=>show (1:Int)≠0;decide
 | some r=>show (4:Int)≠0;decide
theorem mark_ne (l:List UInt8):qp8 l≠0:=by
 unfold qp8
 exact ite_ne (by decide) (markK_ne _)
theorem first_ne (l:List UInt8):(qe4 l).kind≠0:=by
 cases l with
 | nil=>show (1:Int)≠0;decide
 | cons c t=>
  show (if qx9 c then qi4 (c::t) else if qj7 c then qq6 (c::t) else if c==39 then qh9 (c::t) else j6 (qp8 (c::t))).kind≠0
  by_cases hb:qx9 c=true
  ·rw [if_pos hb];exact word_ne _
  rw [if_neg hb]
  by_cases hg:qj7 c=true
  ·rw [if_pos hg];exact num_ne _
  rw [if_neg hg]
  by_cases hq:(c==39)=true
  ·rw [if_pos hq];exact quot_ne _
  rw [if_neg hq]
  exact mark_ne _
theorem vz6:∀(n:Nat) (l:List UInt8),l.length≤n→∃L,Lx l L:=by
 intro n
 induction n with
 | zero=>
  intro l hl
  have:l=[]:=List.eq_nil_of_length_eq_zero (by omega)
  subst this
  exact ⟨[],lx_end⟩
 | succ n ih=>
  intro l hl
  by_cases h:qe8 l 0<l.length
  ·have hk:qd3 l 0=qe4 (l.drop (qe8 l 0)):=by unfold qd3;rw [if_pos h]
   have hz:0<qh8 l 0:=by
    unfold qh8
    rw [if_pos h]
    have:=ve6 (l.drop (qe8 l 0)) (by rw [List.length_drop];omega)
    omega
   obtain ⟨L,hL⟩:=ih (l.drop (qh8 l 0)) (by rw [List.length_drop];omega)
   exact ⟨_,.cons rfl (by rw [hk];exact first_ne _) hL⟩
  ·exact ⟨[],.nil (by unfold qd3;rw [if_neg h])⟩
end
section
def ShA:Ast→Prop
 | .leaf p=>0≤p.op∧p.op≤4
 | .un p x=>(p.op=5∨p.op=14∨p.op=15∨p.op=21∨p.op=22∨p.op=23)∧(p.op=21→p.texts≠[])∧(p.op=21∨p.op=22∨p.op=23→opA x=0)∧ShA x
 | .bin p x y=>(6≤p.op∧p.op≤13∨16≤p.op∧p.op≤19)∧ShA x∧ShA y
 | .tri p x y z=>p.op=20∧ShA x∧ShA y∧ShA z
def ndA:Ast→Nat
 | .leaf _=>1
 | .un p x=>1+p.texts.length+ndA x
 | .bin _ x y=>1+ndA x+ndA y
 | .tri _ x y z=>1+ndA x+ndA y+ndA z
theorem opOf_rng (k:Int):6≤qu8 k∧qu8 k≤13∨16≤qu8 k∧qu8 k≤19:=by
 unfold qu8
 have ite':∀{c:Prop} [Decidable c] {a b:Int},(6≤a∧a≤13∨16≤a∧a≤19)→(6≤b∧b≤13∨16≤b∧b≤19)→(6≤(if c then a else b)∧(if c then a else b)≤13∨16≤(if c then a else b)∧(if c then a else b)≤19):=by
  intro c _ a b ha hb
  by_cases h:c
  ·rw [if_pos h];exact ha
  ·rw [if_neg h];exact hb
 repeat refine ite' (by decide) ?_
 decide
def Nd (f:TS→TRes):Prop:=∀ts t ts',f ts=.ok t ts'→ShA t∧ndA t+ts'.toks.length≤ts.toks.length
def NdT (l:Ast) (ts:TS) (t:Ast) (ts':TS):Prop:=ShA l→ShA t∧ndA t+ts'.toks.length≤ndA l+ts.toks.length
theorem qi5 {ts:TS} (h:ts.toks≠[]):ts.next.toks.length+1=ts.toks.length:=by
 cases ht:ts.toks with
 | nil=>exact absurd ht h
 | cons a r=>show (ts.toks.tail).length+1=_;rw [ht];rfl
theorem Nd.join {f:TS→TRes} (h:Nd f) (ts:TS) (l t:Ast) (ts':TS) (hne:ts.toks≠[]) (he:va3 f ts l=.ok t ts'):NdT l ts t ts':=by
 intro hl
 unfold va3 at he
 split at he
 ·rename_i hr
  injection he with h1 h2
  subst h1 h2
  obtain ⟨a,b⟩:=h _ _ _ hr
  have:=qi5 hne
  refine ⟨⟨opOf_rng _,hl,a⟩, ?_⟩
  show 1+ndA l+_+_≤_
  omega
 ·cases he
theorem Nd.loop {f:TS→TRes} (h:Nd f) (ks:List Int) (h0:ks.contains 0=false):∀n l ts t ts',qx2 f ks n l ts=.ok t ts'→NdT l ts t ts':=by
 intro n
 induction n with
 | zero=>intro l ts t ts' he hl;rw [qx2] at he;injection he with h1 h2;subst h1 h2;exact ⟨hl,Nat.le_refl _⟩
 | succ n ih=>
  intro l ts t ts' he hl
  rw [qx2] at he
  by_cases hc:ks.contains ts.tk.kind=true
  ·rw [if_pos hc] at he
   have hne:ts.toks≠[]:=by
    intro e
    have:ts.tk.kind=0:=by unfold TS.tk;rw [e];rfl
    rw [this,h0] at hc
    cases hc
   split at he
   ·rename_i hj
    obtain ⟨a,b⟩:=h.join _ _ _ _ hne hj hl
    obtain ⟨c,d⟩:=ih _ _ _ _ he a
    exact ⟨c,by omega⟩
   ·cases he
  ·rw [if_neg hc] at he
   injection he with h1 h2;subst h1 h2;exact ⟨hl,Nat.le_refl _⟩
theorem Nd.row {f:TS→TRes} (h:Nd f) (ks:List Int) (h0:ks.contains 0=false):Nd (ja5 f ks):=by
 intro ts t ts' he
 unfold ja5 at he
 split at he
 ·rename_i hr
  obtain ⟨a,b⟩:=h _ _ _ hr
  obtain ⟨c,d⟩:=h.loop ks h0 _ _ _ _ _ he a
  exact ⟨c,by omega⟩
 ·cases he
theorem Nd.sign {f:TS→TRes} (h:Nd f) (o:Int) (ho:o=5∨o=14∨o=15) (ts:TS) (t:Ast) (ts':TS) (hne:ts.toks≠[]) (he:va4 f o ts=.ok t ts'):ShA t∧ndA t+ts'.toks.length≤ts.toks.length:=by
 unfold va4 at he
 split at he
 ·cases he
 ·split at he
  ·rename_i ts1 hr
   injection he with h1 h2
   subst h1 h2
   obtain ⟨a,b⟩:=h _ _ _ hr
   have:=qi5 hne
   refine ⟨⟨by simp only;omega,fun e=>?_,fun e=>?_,a⟩, ?_⟩
   ·simp only at e;omega
   ·simp only at e;omega
   ·show 1+0+_+ts1.toks.length≤_
    have e:(tIn ts).toks.length=ts.next.toks.length:=rfl
    omega
  ·cases he
theorem Nd.group {f:TS→TRes} (h:Nd f) (ts:TS) (t:Ast) (ts':TS) (he:qv0 f ts=.ok t ts'):ShA t∧ndA t+ts'.toks.length≤ts.toks.length:=by
 unfold qv0 at he
 split at he
 ·cases he
 ·split at he
  ·rename_i ts1 hr
   split at he
   ·injection he with h1 h2
    subst h1 h2
    obtain ⟨a,b⟩:=h _ _ _ hr
    have e:(tIn ts).toks.length≤ts.toks.length:=qz3 _
    have e2:=qz3 ts1.toks
    refine ⟨a, ?_⟩
    show _+ts1.toks.tail.length≤_
    omega
   ·cases he
  ·cases he
theorem vb9 {o n:Int} {s:List UInt8} (ho:0≤o∧o≤4) {ts:TS} (hne:ts.toks≠[]):ShA (vy2 o n s)∧ndA (vy2 o n s)+ts.next.toks.length≤ts.toks.length:=by
 have:=qi5 hne
 exact ⟨ho,by show 1+_≤_;omega⟩
theorem Nd.signed {f g:TS→TRes} (hS:Nd f) (hE:Nd g):Nd (qn7 f g):=by
 intro ts t ts' he
 unfold qn7 at he
 by_cases h22:ts.tk.kind=22
 ·rw [if_pos h22] at he;exact hS.sign 14 (by omega) _ _ _ (qb3 (by decide) h22) he
 rw [if_neg h22] at he
 by_cases h23:ts.tk.kind=23
 ·rw [if_pos h23] at he;exact hS.sign 15 (by omega) _ _ _ (qb3 (by decide) h23) he
 rw [if_neg h23] at he
 by_cases h26:ts.tk.kind=26
 ·rw [if_pos h26] at he;exact hE.group _ _ _ he
 rw [if_neg h26] at he
 by_cases h2:ts.tk.kind=2
 ·rw [if_pos h2] at he;injection he with e1 e2;subst e1 e2;exact vb9 (by decide) (qb3 (by decide) h2)
 rw [if_neg h2] at he
 by_cases h3:ts.tk.kind=3
 ·rw [if_pos h3] at he;injection he with e1 e2;subst e1 e2;exact vb9 (by decide) (qb3 (by decide) h3)
 rw [if_neg h3] at he
 by_cases h4:ts.tk.kind=4
 ·rw [if_pos h4] at he;injection he with e1 e2;subst e1 e2;exact vb9 (by decide) (qb3 (by decide) h4)
 rw [if_neg h4] at he
 by_cases h8:ts.tk.kind=8
 ·rw [if_pos h8] at he;injection he with e1 e2;subst e1 e2;exact vb9 (by decide) (qb3 (by decide) h8)
 rw [if_neg h8] at he
 by_cases h9:ts.tk.kind=9
 ·rw [if_pos h9] at he;injection he with e1 e2;subst e1 e2;exact vb9 (by decide) (qb3 (by decide) h9)
 rw [if_neg h9] at he
 cases he
theorem nd_isNull (l:Ast) (h0:opA l=0) (ts:TS) (t:Ast) (ts':TS) (hne:ts.toks≠[]) (he:tIsNull l ts=.ok t ts'):NdT l ts t ts':=by
 intro hl
 have n0:=qi5 hne
 unfold tIsNull at he
 by_cases h7:ts.next.tk.kind=7
 ·rw [if_pos h7] at he
  have n1:=qi5 (qb3 (by decide) h7)
  by_cases h15:ts.next.next.tk.kind=15
  ·rw [if_pos h15] at he;injection he with e1 e2;subst e1 e2
   have n2:=qi5 (qb3 (by decide) h15)
   exact ⟨⟨by simp,fun e=>by simp at e,fun e=>by simp at e,⟨by simp,fun e=>by simp at e,fun _=>h0,hl⟩⟩,by show 1+0+(1+0+ndA l)+_≤_;omega⟩
  ·rw [if_neg h15] at he;cases he
 ·rw [if_neg h7] at he
  by_cases h15:ts.next.tk.kind=15
  ·rw [if_pos h15] at he;injection he with e1 e2;subst e1 e2
   have n1:=qi5 (qb3 (by decide) h15)
   exact ⟨⟨by simp,fun e=>by simp at e,fun _=>h0,hl⟩,by show 1+0+ndA l+_≤_;omega⟩
  ·rw [if_neg h15] at he;cases he
theorem nd_inLoop (l:Ast) (h0:opA l=0):∀n xs ts t ts',xs≠[]→ShA l→qk5 l n xs ts=.ok t ts'→ShA t∧ndA t+ts'.toks.length≤1+xs.length+ndA l+ts.toks.length:=by
 intro n
 induction n with
 | zero=>intro xs ts t ts' _ _ he;rw [qk5] at he;cases he
 | succ n ih=>
  intro xs ts t ts' hx hl he
  rw [qk5] at he
  by_cases h28:ts.tk.kind=28
  ·rw [if_pos h28] at he
   have n1:=qi5 (qb3 (by decide) h28)
   by_cases h4:ts.next.tk.kind=4
   ·rw [if_pos h4] at he
    have n2:=qi5 (qb3 (by decide) h4)
    obtain ⟨a,b⟩:=ih _ _ _ _ (by simp) hl he
    refine ⟨a, ?_⟩
    rw [List.length_append] at b
    simp only [List.length_singleton] at b
    omega
   ·rw [if_neg h4] at he;cases he
  ·rw [if_neg h28] at he
   by_cases h27:ts.tk.kind=27
   ·rw [if_pos h27] at he;injection he with e1 e2;subst e1 e2
    have n1:=qi5 (qb3 (by decide) h27)
    exact ⟨⟨by simp,fun _=>hx,fun _=>h0,hl⟩,by show 1+xs.length+ndA l+_≤_;omega⟩
   ·rw [if_neg h27] at he;cases he
theorem nd_in (l:Ast) (h0:opA l=0) (ts:TS) (t:Ast) (ts':TS) (hne:ts.toks≠[]) (he:tInRes l ts=.ok t ts'):NdT l ts t ts':=by
 intro hl
 have n0:=qi5 hne
 unfold tInRes at he
 by_cases h26:ts.next.tk.kind=26
 ·rw [if_pos h26] at he
  have n1:=qi5 (qb3 (by decide) h26)
  by_cases h4:ts.next.next.tk.kind=4
  ·rw [if_pos h4] at he
   have n2:=qi5 (qb3 (by decide) h4)
   obtain ⟨a,b⟩:=nd_inLoop l h0 _ _ _ _ _ (by simp) hl he
   simp only [List.length_singleton] at b
   exact ⟨a,by omega⟩
  ·rw [if_neg h4] at he;cases he
 ·rw [if_neg h26] at he;cases he
theorem nd_like (l:Ast) (h0:opA l=0) (ts:TS) (t:Ast) (ts':TS) (hne:ts.toks≠[]) (he:tLike l ts=.ok t ts'):NdT l ts t ts':=by
 intro hl
 have n0:=qi5 hne
 have n1:=qb6 ts.next
 have n2:=qb6 ts.next.next
 have n3:=qb6 ts.next.next.next
 unfold tLike at he
 split at he
 ·split at he
  ·split at he
   ·injection he with e1 e2;subst e1 e2
    exact ⟨⟨by simp,fun e=>by simp at e,fun _=>h0,hl⟩,by show 1+0+ndA l+_≤_;omega⟩
   ·cases he
  ·injection he with e1 e2;subst e1 e2
   exact ⟨⟨by simp,fun e=>by simp at e,fun _=>h0,hl⟩,by show 1+0+ndA l+_≤_;omega⟩
 ·cases he
theorem Nd.between {f:TS→TRes} (h:Nd f) (l:Ast) (ts:TS) (t:Ast) (ts':TS) (he:qk7 f l ts=.ok t ts'):NdT l ts t ts':=by
 intro hl
 unfold qk7 at he
 by_cases h10:ts.tk.kind=10
 ·rw [if_pos h10] at he
  have n0:=qi5 (qb3 (by decide) h10)
  split at he
  ·rename_i ts1 e1
   obtain ⟨a,b⟩:=h _ _ _ e1
   split at he
   ·split at he
    ·rename_i e2
     obtain ⟨c,d⟩:=h _ _ _ e2
     have n1:=qb6 ts1
     injection he with e3 e4
     subst e3 e4
     exact ⟨⟨rfl,hl,a,c⟩,by show 1+ndA l+_+_+_≤_;omega⟩
    ·cases he
   ·cases he
  ·cases he
 ·rw [if_neg h10] at he;cases he
theorem Nd.keyword {f:TS→TRes} (h:Nd f) (bare:Bool) (l:Ast) (hb:bare=true→opA l=0) (ts:TS) (t:Ast) (ts':TS) (he:qi6 f bare l ts=.ok t ts'):NdT l ts t ts':=by
 unfold qi6 at he
 split at he
 ·rename_i g;exact nd_in _ (hb g.2) _ _ _ (qb3 (by decide) g.1) he
 split at he
 ·rename_i g;exact nd_like _ (hb g.2) _ _ _ (qb3 (by decide) g.1) he
 ·exact h.between _ _ _ _ he
theorem Nd.test {f:TS→TRes} (h:Nd f):Nd (ve1 f):=by
 intro ts t ts' he
 unfold ve1 at he
 split at he
 ·rename_i ts1 hr
  obtain ⟨a,b⟩:=h _ _ _ hr
  suffices hs:∀l,ShA l→ve0 f (ts.tk.kind==2&&opA l==0) l ts1=.ok t ts'→NdT l ts1 t ts' by
   obtain ⟨c,d⟩:=hs _ a he a
   exact ⟨c,by omega⟩
  intro l hl he
  have hbare:(ts.tk.kind==2&&opA l==0)=true→opA l=0:=fun e=>by simp only [Bool.and_eq_true,beq_iff_eq] at e;exact e.2
  unfold ve0 at he
  split at he
  ·rename_i g
   refine h.join _ _ _ _ ?_ he
   rcases g with e|e|e|e|e|e<;>exact qb3 (by decide) e
  split at he
  ·rename_i g
   split at he
   ·rename_i gb;exact nd_isNull _ (hbare gb) _ _ _ (qb3 (by decide) g) he
   ·injection he with e1 e2;subst e1 e2;exact fun _=>⟨hl,Nat.le_refl _⟩
  split at he
  ·rename_i g
   have n0:=qi5 (qb3 (by decide) g)
   split at he
   ·rename_i hk
    injection he with e1 e2;subst e1 e2
    intro hl
    obtain ⟨c,d⟩:=h.keyword _ _ hbare _ _ _ hk hl
    exact ⟨⟨by simp,fun e=>by simp at e,fun e=>by simp at e,c⟩,by show 1+0+_+_≤_;omega⟩
   ·cases he
  split at he
  ·exact h.keyword _ _ hbare _ _ _ he
  ·injection he with e1 e2;subst e1 e2;exact fun _=>⟨hl,Nat.le_refl _⟩
 ·cases he
theorem Nd.denied {fD fT:TS→TRes} (hD:Nd fD) (hT:Nd fT):Nd (qq2 fD fT):=by
 intro ts t ts' he
 unfold qq2 at he
 split at he
 ·rename_i g;exact hD.sign 5 (by omega) _ _ _ (qb3 (by decide) g) he
 ·exact hT _ _ _ he
structure Nd3 (L:T3):Prop where
 S:Nd L.S
 D:Nd L.D
 E:Nd L.E
theorem nd_up {L:T3} (h:Nd3 L):Nd3 (tUp L):=by
 have hS:=Nd.signed h.S h.E
 have hT:=((hS.row [24,25] rfl).row [22,23] rfl).test
 have hD:=Nd.denied h.D hT
 exact ⟨hS,hD,(hD.row [5] rfl).row [6] rfl⟩
theorem nd_lvl:∀d,Nd3 (tLvl d):=by
 intro d
 induction d with
 | zero=>exact nd_up ⟨(fun _ _ _ h=>by cases h),(fun _ _ _ h=>by cases h),(fun _ _ _ h=>by cases h)⟩
 | succ d ih=>exact nd_up ih
theorem sh_erase:∀t,ShA (qr4 t)→ShA t:=by
 intro t
 induction t with
 | leaf p=>exact fun h=>h
 | un p x ih=>exact fun h=>⟨h.1,h.2.1,fun e=>by rw [←vp8];exact h.2.2.1 e,ih h.2.2.2⟩
 | bin p x y ihx ihy=>exact fun h=>⟨h.1,ihx h.2.1,ihy h.2.2⟩
 | tri p x y z ihx ihy ihz=>exact fun h=>⟨h.1,ihx h.2.1,ihy h.2.2.1,ihz h.2.2.2⟩
end
end Go.Proofs.YtfkcaldjphakpaaGreatDoor
