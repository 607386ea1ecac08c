/- All levels of the reader together. The numbers of what is read fit an int64. What a term is of an event. -/
import Derived.Test.YtfkcaldjphakpabGreatDoorF07
import Derived.Test.YtfkcaldjphakpabGreatDoorF12
import Derived.Test.YtfkcaldjphakpabGreatDoorF08
import Derived.Test.YtfkcaldjphakpabGreatDoorF16
namespace Go.Proofs.YtfkcaldjphakpabGreatDoor
open Go.RowKit
section
structure L3 where
 S:St→Res
 D:St→Res
 E:St→Res
def prodOf (s:ByteArray) (S:St→Res):St→Res:=qg3 s S [24,25]
def sumOf (s:ByteArray) (S:St→Res):St→Res:=qg3 s (prodOf s S) [22,23]
def testOf (s:ByteArray) (S:St→Res):St→Res:=qj0 s (sumOf s S) (qn6 s) (qd7 s)
def eitherOf (s:ByteArray) (D:St→Res):St→Res:=qg3 s (qg3 s D [5]) [6]
def up3 (s:ByteArray) (L:L3):L3:=⟨qa8 s L.S L.E,qe4 s L.D (testOf s (qa8 s L.S L.E)),eitherOf s (qe4 s L.D (testOf s (qa8 s L.S L.E)))⟩
def lvl (s:ByteArray):Nat→L3
 | 0=>up3 s ⟨fun _=>.err 0 0,fun _=>.err 0 0,fun _=>.err 0 0⟩
 | d+1=>up3 s (lvl s d)
structure Reads3 (rb:Nat) (s:ByteArray) (op:Nat) (L:L3):Prop where
 S:qe8 291 rb s op L.S
 D:qe8 134 rb s op L.D
 E:qe8 56 rb s op L.E
theorem jf1 (rb:Nat) (s:ByteArray) (hs:s.size≤200) (op:Nat) (hop:op≤12) (L:L3) (h:op<12→Reads3 rb s (op+1) L):Reads3 rb s op (up3 s L):=by
 have hS:qe8 291 rb s op (qa8 s L.S L.E):=jd9 rb s op hop L.S L.E (fun k=>(h k).S) (fun k=>(h k).E)
 have hP:=vx3 rb s op _ hS
 have hU:=sum_reads rb s op _ hP
 have hT:=zb9 rb s op _ _ _ hU (in_reads rb s op hs) (jy1 rb s op hs)
 have hD:=ja9 rb s op hop L.D _ (fun k=>(h k).D) hT
 exact ⟨hS,hD,jb1 rb s op _ (ju7 rb s op _ hD)⟩
theorem lvl_reads (rb:Nat) (s:ByteArray) (hs:s.size≤200):∀(d op:Nat),op+d=12→Reads3 rb s op (lvl s d):=by
 intro d
 induction d with
 | zero=>intro op h;exact jf1 rb s hs op (by omega) _ (fun k=>by omega)
 | succ d ih=>intro op h;exact jf1 rb s hs op (by omega) _ (fun _=>ih (op+1) (by omega))
def Good (f:St→Res):Prop:=∀st t st',f st=.ok t st'→WfA t
def GoodT (g:Ast→St→Res):Prop:=∀l st t st',WfA l→g l st=.ok t st'→WfA t
theorem Good.join {s:ByteArray} {f:St→Res} (h:Good f):∀st l t st',WfA l→qb4 s f st l=.ok t st'→WfA t:=by
 intro st l t st' hl he
 unfold qb4 at he
 split at he
 ·rename_i r st2 hr;injection he with h1 _;subst h1;exact ⟨hl,h _ _ _ hr⟩
 ·cases he
theorem Good.loop {s:ByteArray} {f:St→Res} {ks:List Int} (h:Good f):∀n l st t st',WfA l→qa5 s f ks n l st=.ok t st'→WfA t:=by
 intro n
 induction n with
 | zero=>intro l st t st' hl he;rw [qa5] at he;injection he with h1 _;subst h1;exact hl
 | succ n ih=>
  intro l st t st' hl he
  rw [qa5] at he
  split at he
  ·split at he
   ·rename_i hj;exact ih _ _ _ _ (h.join _ _ _ _ hl hj) he
   ·cases he
  ·injection he with h1 _;subst h1;exact hl
theorem Good.row {s:ByteArray} {f:St→Res} {ks:List Int} (h:Good f):Good (qg3 s f ks):=by
 intro st t st' he
 unfold qg3 at he
 split at he
 ·rename_i hr;exact h.loop _ _ _ _ _ (h _ _ _ hr) he
 ·cases he
theorem Good.sign {s:ByteArray} {f:St→Res} (h:Good f) (o:Int) (ho:¬o=8∧¬o=9):Good (qg7 s f o):=by
 intro st t st' he
 unfold qg7 at he
 split at he
 ·cases he
 ·split at he
  ·rename_i hr;injection he with h1 _;subst h1;exact ⟨ho,h _ _ _ hr⟩
  ·cases he
theorem Good.group {s:ByteArray} {f:St→Res} (h:Good f):Good (qh6 s f):=by
 intro st t st' he
 unfold qh6 at he
 split at he
 ·cases he
 ·split at he
  ·rename_i hr;split at he
   ·injection he with h1 _;subst h1;exact h _ _ _ hr
   ·cases he
  ·cases he
theorem Good.signed {s:ByteArray} {fS fE:St→Res} (hS:Good fS) (hE:Good fE):Good (qa8 s fS fE):=by
 intro st t st' he
 unfold qa8 at he
 split at he
 ·exact hS.sign 14 (by decide) _ _ _ he
 split at he
 ·exact hS.sign 15 (by decide) _ _ _ he
 split at he
 ·exact hE.group _ _ _ he
 split at he
 ·injection he with h1 _;subst h1;exact ⟨by simp,by simp⟩
 split at he
 ·injection he with h1 _;subst h1;exact ⟨by simp,by simp⟩
 split at he
 ·injection he with h1 _;subst h1;exact ⟨by simp,by simp⟩
 split at he
 ·injection he with h1 _;subst h1;exact ⟨by simp,by simp⟩
 split at he
 ·injection he with h1 _;subst h1;exact ⟨by simp,by simp⟩
 ·cases he
theorem ji9 {s:ByteArray}:GoodT (qc7 s):=by
 intro l st t st' hl he
 unfold qc7 at he
 split at he
 ·split at he
  ·injection he with h1 _;subst h1;exact ⟨⟨by simp,by simp⟩,⟨by simp,by simp⟩,hl⟩
  ·cases he
 ·split at he
  ·injection he with h1 _;subst h1;exact ⟨⟨by simp,by simp⟩,hl⟩
  ·cases he
theorem ji8 {s:ByteArray} {l:Ast} {pl:Nat} (hl:WfA l):∀n ts st t st',qf4 s l pl n ts st=.ok t st'→WfA t:=by
 intro n
 induction n with
 | zero=>intro ts st t st' he;rw [qf4] at he;cases he
 | succ n ih=>
  intro ts st t st' he
  rw [qf4] at he
  split at he
  ·split at he
   ·exact ih _ _ _ _ he
   ·cases he
  ·split at he
   ·injection he with h1 _;subst h1;exact ⟨⟨by simp,by simp⟩,hl⟩
   ·cases he
theorem good_in {s:ByteArray}:GoodT (qn6 s):=by
 intro l st t st' hl he
 unfold qn6 at he
 split at he
 ·split at he
  ·exact ji8 hl _ _ _ _ _ he
  ·cases he
 ·cases he
theorem good_like {s:ByteArray}:GoodT (qd7 s):=by
 intro l st t st' hl he
 unfold qd7 at he
 repeat' split at he
 all_goals first|(injection he with h1 _;subst h1;exact ⟨⟨by simp,by simp⟩,hl⟩)|cases he
theorem Good.between {s:ByteArray} {f:St→Res} (h:Good f):GoodT (qd2 s f):=by
 intro l st t st' hl he
 unfold qd2 at he
 split at he
 ·split at he
  ·rename_i h1;split at he
   ·split at he
    ·rename_i h2;injection he with h3 _;subst h3;exact ⟨⟨by simp,by simp⟩,hl,h _ _ _ h1,h _ _ _ h2⟩
    ·cases he
   ·cases he
  ·cases he
 ·cases he
theorem Good.keyword {s:ByteArray} {f:St→Res} (h:Good f) (bare:Bool):GoodT (y5 s f (qn6 s) (qd7 s) bare):=by
 intro l st t st' hl he
 unfold y5 at he
 split at he
 ·exact good_in _ _ _ _ hl he
 split at he
 ·exact good_like _ _ _ _ hl he
 ·exact h.between _ _ _ _ hl he
theorem Good.test {s:ByteArray} {f:St→Res} (h:Good f):Good (qj0 s f (qn6 s) (qd7 s)):=by
 intro st t st' he
 unfold qj0 at he
 split at he
 ·rename_i hr
  have hl:=h _ _ _ hr
  unfold x7 at he
  split at he
  ·exact h.join _ _ _ _ hl he
  split at he
  ·split at he
   ·exact ji9 _ _ _ _ hl he
   ·injection he with h1 _;subst h1;exact hl
  split at he
  ·split at he
   ·rename_i hk;injection he with h1 _;subst h1;exact ⟨⟨by simp,by simp⟩,h.keyword _ _ _ _ _ hl hk⟩
   ·cases he
  split at he
  ·exact h.keyword _ _ _ _ _ hl he
  ·injection he with h1 _;subst h1;exact hl
 ·cases he
theorem Good.denied {s:ByteArray} {fD fT:St→Res} (hD:Good fD) (hT:Good fT):Good (qe4 s fD fT):=by
 intro st t st' he
 unfold qe4 at he
 split at he
 ·exact hD.sign 5 (by decide) _ _ _ he
 ·exact hT _ _ _ he
structure Good3 (L:L3):Prop where
 S:Good L.S
 D:Good L.D
 E:Good L.E
theorem jt7 {s:ByteArray} {L:L3} (h:Good3 L):Good3 (up3 s L):=by
 have hS:=Good.signed (s:=s) h.S h.E
 have hD:=Good.denied (s:=s) h.D (Good.test (s:=s) ((hS.row (s:=s) (ks:=[24,25])).row (s:=s) (ks:=[22,23])))
 exact ⟨hS,hD,(hD.row (s:=s) (ks:=[5])).row (s:=s) (ks:=[6])⟩
theorem lvl_good (s:ByteArray):∀d,Good3 (lvl s d):=by
 intro d
 induction d with
 | zero=>exact jt7 ⟨(fun _ _ _ h=>by cases h),(fun _ _ _ h=>by cases h),(fun _ _ _ h=>by cases h)⟩
 | succ d ih=>exact jt7 ih
end
section
theorem rngN {n:Nat} (h:n≤9223372036854775807):Rng (n:Int):=⟨by omega,by omega⟩
theorem vq9:Rng 0:=⟨by decide,by decide⟩
def TkOk (st:St):Prop:=Rng st.tk.num
theorem ji0 (l:List UInt8):Rng (qt4 l).num:=by
 unfold qt4
 split
 ·exact vq9
 ·split
  ·unfold ve1;split<;>exact vq9
  split
  ·unfold vw8;split
   ·rename_i h;exact rngN h
   ·exact vq9
  split
  ·unfold qu5;split<;>exact vq9
  ·exact vq9
theorem qc2 (s:ByteArray) (st:St):TkOk (v9 s st):=by
 show Rng (qi7 s.data.toList st.after).num
 unfold qi7
 split
 ·exact ji0 _
 ·exact vq9
def vh1:Ast→Prop
 | .leaf p=>Rng p.num
 | .un p x=>Rng p.num∧vh1 x
 | .bin p x y=>Rng p.num∧vh1 x∧vh1 y
 | .tri p x y z=>Rng p.num∧vh1 x∧vh1 y∧vh1 z
def NGood (f:St→Res):Prop:=∀st t st',TkOk st→f st=.ok t st'→vh1 t∧TkOk st'
def vz4 (g:Ast→St→Res):Prop:=∀l st t st',vh1 l→TkOk st→g l st=.ok t st'→vh1 t∧TkOk st'
theorem NGood.join {s:ByteArray} {f:St→Res} (h:NGood f):∀st l t st',vh1 l→qb4 s f st l=.ok t st'→vh1 t∧TkOk st':=by
 intro st l t st' hl he
 unfold qb4 at he
 split at he
 ·rename_i r st2 hr;injection he with h1 h2;subst h1;subst h2
  have:=h _ _ _ (qc2 s st) hr
  exact ⟨⟨vq9,hl,this.1⟩,this.2⟩
 ·cases he
theorem NGood.loop {s:ByteArray} {f:St→Res} {ks:List Int} (h:NGood f):∀n l st t st',vh1 l→TkOk st→qa5 s f ks n l st=.ok t st'→vh1 t∧TkOk st':=by
 intro n
 induction n with
 | zero=>intro l st t st' hl hs he;rw [qa5] at he;injection he with h1 h2;subst h1;subst h2;exact ⟨hl,hs⟩
 | succ n ih=>
  intro l st t st' hl hs he
  rw [qa5] at he
  split at he
  ·split at he
   ·rename_i hj;have:=h.join _ _ _ _ hl hj;exact ih _ _ _ _ this.1 this.2 he
   ·cases he
  ·injection he with h1 h2;subst h1;subst h2;exact ⟨hl,hs⟩
theorem NGood.row {s:ByteArray} {f:St→Res} {ks:List Int} (h:NGood f):NGood (qg3 s f ks):=by
 intro st t st' hs he
 unfold qg3 at he
 split at he
 ·rename_i hr;have:=h _ _ _ hs hr;exact h.loop _ _ _ _ _ this.1 this.2 he
 ·cases he
theorem NGood.sign {s:ByteArray} {f:St→Res} (h:NGood f) (o:Int):NGood (qg7 s f o):=by
 intro st t st' _ he
 unfold qg7 at he
 split at he
 ·cases he
 ·split at he
  ·rename_i hr;injection he with h1 h2;subst h1;subst h2
   have:=h (va3 s st) _ _ (qc2 s st) hr
   exact ⟨⟨vq9,this.1⟩,this.2⟩
  ·cases he
theorem NGood.group {s:ByteArray} {f:St→Res} (h:NGood f):NGood (qh6 s f):=by
 intro st t st' _ he
 unfold qh6 at he
 split at he
 ·cases he
 ·split at he
  ·rename_i hr;split at he
   ·injection he with h1 h2;subst h1;subst h2
    exact ⟨(h (va3 s st) _ _ (qc2 s st) hr).1,qc2 s _⟩
   ·cases he
  ·cases he
theorem NGood.signed {s:ByteArray} {fS fE:St→Res} (hS:NGood fS) (hE:NGood fE):NGood (qa8 s fS fE):=by
 intro st t st' hs he
 unfold qa8 at he
 split at he
 ·exact hS.sign 14 _ _ _ hs he
 split at he
 ·exact hS.sign 15 _ _ _ hs he
 split at he
 ·exact hE.group _ _ _ hs he
 split at he
 ·injection he with h1 h2;subst h1;subst h2;exact ⟨vq9,qc2 s st⟩
 split at he
 ·injection he with h1 h2;subst h1;subst h2;exact ⟨hs,qc2 s st⟩
 split at he
 ·injection he with h1 h2;subst h1;subst h2;exact ⟨vq9,qc2 s st⟩
 split at he
 ·injection he with h1 h2;subst h1;subst h2;exact ⟨vq9,qc2 s st⟩
 split at he
 ·injection he with h1 h2;subst h1;subst h2;exact ⟨vq9,qc2 s st⟩
 ·cases he
theorem jy5 {s:ByteArray}:vz4 (qc7 s):=by
 intro l st t st' hl _ he
 unfold qc7 at he
 split at he
 ·split at he
  ·injection he with h1 h2;subst h1;subst h2;exact ⟨⟨vq9,vq9,hl⟩,qc2 s _⟩
  ·cases he
 ·split at he
  ·injection he with h1 h2;subst h1;subst h2;exact ⟨⟨vq9,hl⟩,qc2 s _⟩
  ·cases he
theorem jy4 {s:ByteArray} {l:Ast} {pl:Nat} (hl:vh1 l):∀n ts st t st',qf4 s l pl n ts st=.ok t st'→vh1 t∧TkOk st':=by
 intro n
 induction n with
 | zero=>intro ts st t st' he;rw [qf4] at he;cases he
 | succ n ih=>
  intro ts st t st' he
  rw [qf4] at he
  split at he
  ·split at he
   ·exact ih _ _ _ _ he
   ·cases he
  ·split at he
   ·injection he with h1 h2;subst h1;subst h2;exact ⟨⟨vq9,hl⟩,qc2 s _⟩
   ·cases he
theorem num_in {s:ByteArray}:vz4 (qn6 s):=by
 intro l st t st' hl _ he
 unfold qn6 at he
 split at he
 ·split at he
  ·exact jy4 hl _ _ _ _ _ he
  ·cases he
 ·cases he
theorem num_like {s:ByteArray}:vz4 (qd7 s):=by
 intro l st t st' hl _ he
 unfold qd7 at he
 split at he
 ·split at he
  ·split at he
   ·rename_i hk;injection he with h1 h2;subst h1;subst h2;rw [(vb9 hk).2];exact ⟨⟨vq9,hl⟩,qc2 s _⟩
   ·cases he
  ·injection he with h1 h2;subst h1;subst h2;exact ⟨⟨vq9,hl⟩,qc2 s _⟩
 ·cases he
theorem NGood.between {s:ByteArray} {f:St→Res} (h:NGood f):vz4 (qd2 s f):=by
 intro l st t st' hl _ he
 unfold qd2 at he
 split at he
 ·split at he
  ·rename_i h1;split at he
   ·split at he
    ·rename_i h2;injection he with h3 h4;subst h3;subst h4
     have a:=h _ _ _ (qc2 s _) h1
     have b:=h _ _ _ (qc2 s _) h2
     exact ⟨⟨vq9,hl,a.1,b.1⟩,b.2⟩
    ·cases he
   ·cases he
  ·cases he
 ·cases he
theorem NGood.keyword {s:ByteArray} {f:St→Res} (h:NGood f) (bare:Bool):vz4 (y5 s f (qn6 s) (qd7 s) bare):=by
 intro l st t st' hl hs he
 unfold y5 at he
 split at he
 ·exact num_in _ _ _ _ hl hs he
 split at he
 ·exact num_like _ _ _ _ hl hs he
 ·exact h.between _ _ _ _ hl hs he
theorem NGood.test {s:ByteArray} {f:St→Res} (h:NGood f):NGood (qj0 s f (qn6 s) (qd7 s)):=by
 intro st t st' hs he
 unfold qj0 at he
 split at he
 ·rename_i hr
  obtain ⟨hl,hs1⟩:=h _ _ _ hs hr
  unfold x7 at he
  split at he
  ·exact h.join _ _ _ _ hl he
  split at he
  ·split at he
   ·exact jy5 _ _ _ _ hl hs1 he
   ·injection he with h1 h2;subst h1;subst h2;exact ⟨hl,hs1⟩
  split at he
  ·split at he
   ·rename_i hk;injection he with h1 h2;subst h1;subst h2
    have:=h.keyword _ _ _ _ _ hl (qc2 s _) hk
    exact ⟨⟨vq9,this.1⟩,this.2⟩
   ·cases he
  split at he
  ·exact h.keyword _ _ _ _ _ hl hs1 he
  ·injection he with h1 h2;subst h1;subst h2;exact ⟨hl,hs1⟩
 ·cases he
theorem NGood.denied {s:ByteArray} {fD fT:St→Res} (hD:NGood fD) (hT:NGood fT):NGood (qe4 s fD fT):=by
 intro st t st' hs he
 unfold qe4 at he
 split at he
 ·exact hD.sign 5 _ _ _ hs he
 ·exact hT _ _ _ hs he
structure NGood3 (L:L3):Prop where
 S:NGood L.S
 D:NGood L.D
 E:NGood L.E
theorem up3_num {s:ByteArray} {L:L3} (h:NGood3 L):NGood3 (up3 s L):=by
 have hS:=NGood.signed (s:=s) h.S h.E
 have hD:=NGood.denied (s:=s) h.D (NGood.test (s:=s) ((hS.row (s:=s) (ks:=[24,25])).row (s:=s) (ks:=[22,23])))
 exact ⟨hS,hD,(hD.row (s:=s) (ks:=[5])).row (s:=s) (ks:=[6])⟩
theorem lvl_num (s:ByteArray):∀d,NGood3 (lvl s d):=by
 intro d
 induction d with
 | zero=>exact up3_num ⟨(fun _ _ _ _ h=>by cases h),(fun _ _ _ _ h=>by cases h),(fun _ _ _ _ h=>by cases h)⟩
 | succ d ih=>exact up3_num ih
end
section
def nextB (p:Pc) (t:List UInt8) (e:Nat→Bool):Nat→Bool
 | 0=>p.kind==2&&e 0
 | j+1=>if p.kind==2 then e (j+1)||nextB p t e j else if p.kind==1 then e j else e j&&t.getD j 0==p.c
def vj7 (ps:List Pc) (t:List UInt8) (e:Nat→Bool):Bool:=match ps with
 | []=>e t.length
 | p::r=>vj7 r t (nextB p t e)
def fitsB (pat esc t:List UInt8):Bool:=match qx4 esc pat with
 | none=>false
 | some ps=>vj7 ps t fun j=>j==0
def vq2 (x:V) (pat esc:List UInt8):V:=if x.kind==3 then bV (fitsB pat esc x.str) else nV
def vz9 (x:V) (ts:List (List UInt8)):V:=ts.foldl (fun f t=>orV f (eqV x (tV t))) (bV false)
def qu3 (p:Pay) (x y z:V):V:=
 if p.op=20 then andV (leV y x) (leV x z) else if p.op=21 then vz9 x p.texts else if p.op=22 then vq2 x p.str p.esc else qz6 p.op x y
def ofN (ps:List Pr) (p:Pay) (s:List V):V:=
 if p.op=0 then qz5 ps p.str else if p.op=1 then iV p.num else if p.op=2 then tV p.str else if p.op=3 then bV true else if p.op=4 then bV false
 else qu3 p (s.getD 0 nV) (s.getD 1 nV) (s.getD 2 nV)
def ofA (ps:List Pr):Ast→V
 | .leaf p=>ofN ps p []
 | .un p x=>ofN ps p [ofA ps x]
 | .bin p x y=>ofN ps p [ofA ps x,ofA ps y]
 | .tri p x y z=>ofN ps p [ofA ps x,ofA ps y,ofA ps z]
theorem vs8 (ps:List Pr) (t:Ast):ofA ps t=ofN ps (y8 t) ((j4 t).map (ofA ps)):=by cases t<;>rfl
theorem vb0 (b:Bool):Rng (bV b).num:=by cases b<;>exact ⟨by decide,by decide⟩
theorem qz8:Rng nV.num:=⟨by decide,by decide⟩
theorem vx8 {n:Int} (h:vs4 n=true):Rng (iV n).num:=by
 simp [vs4] at h;exact h
theorem rng_not (x:V):Rng (notV x).num:=by unfold notV;split;exact vb0 _;exact qz8
theorem rng_and (x y:V):Rng (andV x y).num:=by unfold andV;split;exact vb0 _;split;exact vb0 _;exact qz8
theorem rng_or (x y:V):Rng (orV x y).num:=by unfold orV;split;exact vb0 _;split;exact vb0 _;exact qz8
theorem rng_eq (x y:V):Rng (eqV x y).num:=by unfold eqV;split;exact qz8;exact vb0 _
theorem jt0 (x y:V):Rng (jc1 x y).num:=by unfold jc1;split;exact vb0 _;exact qz8
theorem rng_le (x y:V):Rng (leV x y).num:=by unfold leV;split;exact vb0 _;exact qz8
theorem rng_add (x y:V):Rng (addV x y).num:=by
 unfold addV;split
 ·rename_i h;simp only [Bool.and_eq_true] at h;exact vx8 h.2
 ·exact qz8
theorem rng_sub (x y:V):Rng (subV x y).num:=by
 unfold subV;split
 ·rename_i h;simp only [Bool.and_eq_true] at h;exact vx8 h.2
 ·exact qz8
theorem rng_mul (x y:V):Rng (mulV x y).num:=by
 unfold mulV;split
 ·rename_i h;simp only [Bool.and_eq_true] at h;exact vx8 h.2
 ·exact qz8
theorem rng_div (x y:V):Rng (divV x y).num:=by
 unfold divV;split
 ·rename_i h;simp only [Bool.and_eq_true] at h;exact vx8 h.2
 ·exact qz8
theorem qi9 {c:Prop} [Decidable c] {a b:V} (ha:Rng a.num) (hb:Rng b.num):Rng (if c then a else b).num:=by
 split
 ·exact ha
 ·exact hb
theorem js9 (op:Int) (x y:V):Rng (qz6 op x y).num:=by
 unfold qz6
 exact qi9 (rng_not _) (qi9 (rng_and _ _) (qi9 (rng_or _ _) (qi9 (rng_eq _ _) (qi9 (rng_not _) (qi9 (jt0 _ _) (qi9 (jt0 _ _) (qi9 (rng_le _ _) (qi9 (rng_le _ _) (qi9 (rng_add _ _) (qi9 (rng_add _ _) (qi9 (rng_sub _ _) (qi9 (rng_sub _ _) (qi9 (rng_mul _ _) (qi9 (rng_div _ _) (vb0 _)))))))))))))))
theorem rng_among (x:V) (ts:List (List UInt8)):∀f:V,Rng f.num→Rng (ts.foldl (fun f t=>orV f (eqV x (tV t))) f).num:=by
 induction ts with
 | nil=>intro f h;exact h
 | cons t r ih=>intro f _;exact ih _ (rng_or _ _)
theorem rng_joinN (p:Pay) (x y z:V):Rng (qu3 p x y z).num:=by
 unfold qu3
 split
 ·exact rng_and _ _
 split
 ·exact rng_among x _ _ (vb0 _)
 split
 ·unfold vq2;split;exact vb0 _;exact qz8
 ·exact js9 _ _ _
def vz3 (ps:List Pr):Prop:=∀p∈ps,Rng p.val.num
theorem js8 {ps:List Pr} (h:vz3 ps) (n:List UInt8):Rng (qz5 ps n).num:=by
 unfold qz5
 split
 ·rename_i p hp;exact h p (List.mem_of_find?_eq_some hp)
 ·exact qz8
theorem jt1 {ps:List Pr} (h:vz3 ps) {p:Pay} (hp:Rng p.num) (s:List V):Rng (ofN ps p s).num:=by
 unfold ofN
 split
 ·exact js8 h _
 split
 ·exact hp
 split
 ·exact vq9
 split
 ·exact vb0 _
 split
 ·exact vb0 _
 ·exact rng_joinN _ _ _ _
theorem vf5 {ps:List Pr} (h:vz3 ps):∀t,vh1 t→Rng (ofA ps t).num:=by
 intro t
 cases t with
 | leaf p=>intro hn;exact jt1 h hn _
 | un p x=>intro hn;exact jt1 h hn.1 _
 | bin p x y=>intro hn;exact jt1 h hn.1 _
 | tri p x y z=>intro hn;exact jt1 h hn.1 _
def EvArg (w:World) (ev:Value) (ps:List Pr):Prop:=
 ps.length≤8∧((ps=[]∧∃a cap,ev=.slice a 0 cap)∨∃b off cap,ev=.slice (some ⟨b,off,none⟩) ps.length cap∧EvAt w b off ps∧b<w.heap.size)
theorem EvArg.below {w w':World} {ev:Value} {ps:List Pr} (h:EvArg w ev ps) (hb:Below w.heap.size w w'):EvArg w' ev ps:=by
 refine ⟨h.1, ?_⟩
 rcases h.2 with h|⟨b,off,cap,rfl,he,hlt⟩
 ·exact .inl h
 ·exact .inr ⟨b,off,cap,rfl,he.below hb hlt,Nat.lt_of_lt_of_le hlt hb.size⟩
theorem EvArg.slice {w:World} {ev:Value} {ps:List Pr} (h:EvArg w ev ps):∃a n c,ev=.slice a n c:=by
 rcases h.2 with ⟨_,a,cap,rfl⟩|⟨b,off,cap,rfl,_⟩
 ·exact ⟨_,_,_,rfl⟩
 ·exact ⟨_,_,_,rfl⟩
theorem jr2 {w:World} {ev:Value} {ps:List Pr} (h:EvArg w ev ps) (s:ByteArray) :
  Calls Tryz.prog 102 #[ev,.string s] w fun e w'=>e=.returned (vV (qz5 ps s.data.toList))∧Below w.heap.size w w':=by
 rcases h.2 with ⟨rfl,a,cap,rfl⟩|⟨b,off,cap,rfl,he,hlt⟩
 ·exact jw3 a cap s w
 ·exact find_any b off cap ps s w h.1 he hlt
end
end Go.Proofs.YtfkcaldjphakpabGreatDoor
