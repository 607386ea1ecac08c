/- A text that has these -/
import Derived.Test.YtfkcaldjphakpaaGreatDoorM02
import Derived.Test.YtfkcaldjphakpaaGreatDoorM10
set_option maxHeartbeats 64000000
set_option maxRecDepth 100000
namespace Go.Proofs.YtfkcaldjphakpaaGreatDoor
open Go.RowKit Go.Proofs.Tryz
variable{cs:Array Value}{t:Ast}{B NB X s:mu}{e:Ending}{kind:Int}{ks:List Int}{ns:List RN}{L M:List Tk}{l r:mv}{K g i0 j lo lo' m m' n op rb:Nat}{st:St}{ts:TS}{f:TS->TRes}{W w w':World}
section
inductive Lx:List UInt8->List Tk->Prop where
 | nil {r:List UInt8} (h:qJ r 0=qh 0):Lx r []
 | cons {r:List UInt8} {k:Tk} {L:List Tk} (e:qJ r 0=k) (h:k.kind≠0) (t:Lx (r.drop (qZ r 0)) L):Lx r (k::L)
theorem qbu(l:mv)(k:Nat):qN l k=k+qN (l.drop k) 0:=by
 unfold qN;rw[db,ee]
theorem qbv(l:mv)(k:Nat):qJ l k=qJ (l.drop k) 0:=by
 unfold qJ;rw[qbu l k,←List.drop_drop,dc]
 by_cases h:k+qN (l.drop k) 0<l.length
 ·rw[bh h,bh mw]
 ·rw[aj h,aj mw]
theorem qkh(l:mv)(k:Nat)(a:k<=l.length):qZ l k=k+qZ (l.drop k) 0:=by
 unfold qZ;rw[qbu l k,←List.drop_drop,dc]
 by_cases h:k+qN (l.drop k) 0<l.length
 ·rw[bh h,bh mw];omega
 ·rw[aj h,aj mw];omega
theorem qcn(h:Lx r L):∀st:St,st.after<=s.size->s.data.toList.drop st.after=r->Str s (qg s st) L:=by
 induction h with
 | nil h=>
  intro st _ a;refine .nil ?_;show qJ s.data.toList st.after=_;rw[qbv,a,h]
 | cons e h t ih=>
  intro st c a;rename_i r k L
  have b:(qg s st).tk=k:=by
   show qJ s.data.toList st.after=_;rw[qbv,a,e]
  rw[←b];refine .cons (by rw[b];exact h) (ih _ (qC s st c).after ?_);show s.data.toList.drop (qZ s.data.toList st.after)=_;rw[qkh _ _ (by rw[qr];exact c),←List.drop_drop,a]
end
section
theorem qtl(n:Nat):jc (dig n)=true:=by
 unfold jc qah;rw[qjo];simp;omega
theorem qn2(n:Nat):∀c∈qbd n,jc c=true:=by
 induction n using Nat.strongRecOn with
 | ind n ih=>
  intro c a
  by_cases h:n<10
  ·rw[kM h]at a;simp at a;subst a;exact qtl n
  ·rw[gT h,cr]at a
   rcases a with a|a
   ·exact ih (n / 10) mw c a
   ·simp at a;subst a;exact qtl n
theorem vfr(n:Nat):qbd n≠[]:=by
 by_cases h:n<10
 ·rw[kM h];simp
 ·rw[gT h];simp
theorem qcg(p:UInt8->Bool):∀(l r:mv),(∀c∈l,p c=true)->(∀c,r.head?=some c->p c=false)->qw p (l++r)=l.length:=by
 intro l
 induction l with
 | nil=>
  intro r _ h
  cases r with
  | nil=>rfl
  | cons c t=>simp[qw,h c rfl]
 | cons c t ih=>
  intro r a i;have:=ih r (λx b=>a x (by simp[b])) i;simp[qw,a c mx,this]
theorem qjj(l:mv)(c:UInt8):∀k,vB k (l++[c])=vB k l * 10+(c.toNat - 48):=by
 induction l with
 | nil=>intro k;rfl
 | cons d t ih=>
  intro k;show vB (k * 10+(d.toNat - 48)) (t++[c])=vB (k * 10+(d.toNat - 48)) t * 10+(c.toNat - 48);rw[ih]
theorem qpw(n:Nat):vB 0 (qbd n)=n:=by
 induction n using Nat.strongRecOn with
 | ind n ih=>
  by_cases h:n<10
  ·rw[kM h]
   show 0 * 10+((dig n).toNat - 48)=n;rw[qjo];omega
  ·rw[gT h,qjj,ih (n / 10) mw,qjo];omega
theorem qxv(n:Nat)(z:n<=9223372036854775807)(r:mv)(y:∀c,r.head?=some c->jc c=false):qJ (qbd n++r) 0=⟨3,n,[]⟩/\qZ (qbd n++r) 0=(qbd n).length:=by
 obtain⟨c,t,a⟩:∃c t,qbd n=c::t:=by
  cases h:qbd n with
  | nil=>exact absurd h (vfr n)
  | cons c t=>exact⟨c,t,rfl⟩
 have hd:jc c=true:=qn2 n c (by rw[a];simp)
 have x:spU c=false:=by
  unfold jc qah at hd;unfold spU spB;simp at hd ⊢;omega
 have i:yd c=false:=by
  unfold jc qah at hd;unfold yd qa9;simp at hd ⊢;omega
 have b:=qcg jc (qbd n) r (qn2 n) y
 have q:qN (qbd n++r) 0=0:=by
  unfold qN;rw[db,a];simp[qw,x]
 have u:0<(qbd n++r).length:=by rw[a];simp
 constructor
 ·unfold qJ
  rw[q,bh u,db]
  have:qX (qbd n++r)=xt (qbd n++r):=by
   conv=>lhs;rw[a]
   show(if yd c then _ else if jc c then _ else _)=_;rw[i,hd,a];rfl
  rw[this];unfold xt;rw[b,List.take_left,qpw,bh mw]
 ·unfold qZ
  rw[q,bh u,db,ee]
  have:zN (qbd n++r)=qw jc (qbd n++r):=by
   conv=>lhs;rw[a]
   show(if yd c then _ else if jc c then _ else _)=_;rw[i,hd,a];rfl
  rw[this,b]
theorem quq(b:n<=9223372036854775807)(a:∀c,r.head?=some c->jc c=false)(h:Lx r L):Lx (qbd n++r) (⟨3,n,[]⟩::L):=by
 obtain⟨p,i⟩:=qxv n b r a;refine .cons p (show(3:Int)≠0 by decide) ?_;rw[i,List.drop_left];exact h
end
section
theorem jY(h:Lx r L):Lx (32::r) L:=by
 have b:qN (32::r) 0=qN r 0+1:=by unfold qN;simp[qw,show spU 32=true from rfl]
 have a:qJ (32::r) 0=qJ r 0:=by
  unfold qJ;rw[b]
  by_cases hl:qN r 0<r.length
  ·rw[bh hl,bh my];rfl
  ·rw[aj hl,aj my]
 have c:qZ (32::r) 0=qZ r 0+1:=by
  unfold qZ;rw[b]
  by_cases hl:qN r 0<r.length
  ·rw[bh hl,bh my,ik];omega
  ·rw[aj hl,aj my];simp
 cases h with
 | nil h=>exact .nil (a.trans h)
 | cons e h t=>exact .cons (a.trans e) h (by rw[c,ik];exact t)
theorem kr:Lx [] []:=.nil rfl
end
section
structure Stop(d:UInt8):Prop where
 goe:yZ d=false
 dig:jc d=false
 quo:(d==39)=false
 eq:(d==61)=false
 gt:(d==62)=false
theorem qdm(p:UInt8->Bool){d:UInt8}(h:p d=false)(y:mv):∀l,qw p (l++d::y)=qw p l:=by
 intro l
 induction l with
 | nil=>show(if p d then _ else 0)=0;rw[h];rfl
 | cons c t ih=>show(if p c then qw p (t++d::y)+1 else 0)=if p c then qw p t+1 else 0;rw[ih]
theorem qwv(p:UInt8->Bool)(y:mv):∀l,qw p l<l.length->qw p (l++y)=qw p l:=by
 intro l
 induction l with
 | nil=>intro h;exact absurd h (Nat.not_lt_zero _)
 | cons c t ih=>
  intro h;show(if p c then qw p (t++y)+1 else 0)=if p c then qw p t+1 else 0
  have a:qw p (c::t)=if p c then qw p t+1 else 0:=rfl
  rw[a]at h
  by_cases hp:p c=true
  ·rw[bh hp]at h
   rw[bh hp,bh hp,ih (by simp at h;omega)]
  ·rw[aj hp,aj hp]
theorem qag{d:UInt8}(hd:Stop d)(y:mv)(c:UInt8)(t:mv):qx (c::t++d::y)=qx (c::t):=by
 show(if yd c then qw yZ (t++d::y)+1 else 0)=if yd c then qw yZ t+1 else 0
 rw[qdm yZ hd.goe]
theorem qfs(l z:mv)(n:Nat)(h:n<=l.length):(l++z).take n=l.take n:=by
 rw[List.take_append,show n - l.length=0 by omega,List.take_zero,ew]
theorem qvt{d:UInt8}(hd:(d==39)=false)(y:mv):∀(n:Nat) (l:mv),l.length<=n->∀r,ve l=some r->ve (l++d::y)=some r:=by
 intro n
 induction n with
 | zero=>
  intro l a r h;have:l=[]:=cq mw;subst this;simp[ve]at h
 | succ n ih=>
  intro l a r h
  match l,a,h with
  | [],_,h=>simp[ve]at h
  | [c],_,h=>
   simp only[ve]at h
   split at h
   ·rename_i b
    show ve (c::d::y)=_;rw[ve,bh b,aj (by rw[hd];decide)];exact h
   ·simp at h
  | c::e::t,a,h=>
   simp only[eh]at a;show ve (c::e::(t++d::y))=_;rw[ve]at h ⊢
   by_cases b:(c==39)=true
   ·rw[bh b]at h ⊢
    by_cases he:(e==39)=true
    ·rw[bh he]at h ⊢
     cases hq:ve t with
     | none=>rw[hq]at h;simp at h
     | some q=>rw[hq]at h;rw[ih t mw q hq];exact h
    ·rw[aj he]at h ⊢;exact h
   ·rw[aj b]at h ⊢
    cases hq:ve (e::t) with
    | none=>rw[hq]at h;simp at h
    | some q=>
     rw[hq]at h;have:=ih (e::t) my q hq;rw[cm]at this;rw[this];exact h
theorem qh4{d:UInt8}(hd:Stop d)(y:mv)(c:UInt8)(t:mv):yf (c::t++d::y)=yf (c::t):=by
 cases t with
 | nil=>
  show(if c==60&&d==62||(c==60||c==62)&&d==61 then 2 else 1)=1;rw[hd.eq,hd.gt];simp
 | cons e t=>rfl
theorem quu{d:UInt8}(hd:Stop d)(y:mv)(c:UInt8)(t:mv):xm (c::t++d::y)=xm (c::t):=by
 unfold xm;rw[qh4 hd y c t,qfs (c::t) (d::y) _ (quv _ mx)]
 cases t with
 | nil=>
  have:((c::[]++d::y).take 2==[60,62])=false:=by
   show(c==60&&(d==62&&true))=false;rw[hd.gt];simp
  rw[this]
  have:((c::[]).take 2==([60,62]:mv))=false:=by
   show(c==60&&false)=false;simp
  rw[this]
 | cons e t=>rfl
theorem qts{d:UInt8}(hd:Stop d)(y:mv)(c:UInt8)(t:mv)(h:(qX (c::t)).kind≠1):qX (c::t++d::y)=qX (c::t)/\zN (c::t++d::y)=zN (c::t):=by
 have b:qX (c::t)=if yd c then vU (c::t) else if jc c then xt (c::t) else if c==39 then vG (c::t) else qh (xm (c::t)):=rfl
 have q:qX (c::t++d::y)=if yd c then vU (c::t++d::y) else if jc c then xt (c::t++d::y) else if c==39 then vG (c::t++d::y) else qh (xm (c::t++d::y)):=rfl
 have p:zN (c::t)=if yd c then qx (c::t) else if jc c then qw jc (c::t) else if c==39 then xM (c::t) else yf (c::t):=rfl
 have i:zN (c::t++d::y)=if yd c then qx (c::t++d::y) else if jc c then qw jc (c::t++d::y) else if c==39 then xM (c::t++d::y) else yf (c::t++d::y):=rfl
 rw[b]at h;rw[b,q,p,i]
 by_cases hb:yd c=true
 ·rw[bh hb,bh hb,bh hb,bh hb]
  refine⟨?_,qag hd y c t⟩;unfold vU;rw[qag hd y c t,qfs _ _ _ (zF _)]
 rw[aj hb]at h;rw[aj hb,aj hb,aj hb,aj hb]
 by_cases hg:jc c=true
 ·rw[bh hg,bh hg,bh hg,bh hg]
  have a:=qdm jc hd.dig y (c::t);refine⟨?_,a⟩;unfold xt;rw[a,qfs _ _ _ (kC _ _)]
 rw[aj hg]at h;rw[aj hg,aj hg,aj hg,aj hg]
 by_cases hq:(c==39)=true
 ·rw[bh hq]at h
  rw[bh hq,bh hq,bh hq,bh hq]
  cases hf:ve ((c::t).drop 1) with
  | none=>exfalso;unfold vG at h;rw[hf]at h;exact h rfl
  | some r=>
   have u:ve ((c::t++d::y).drop 1)=some r:=qvt hd.quo y _ t nt r hf;unfold vG xM;rw[hf,u];exact⟨rfl,rfl⟩
 ·rw[aj hq,aj hq,aj hq,aj hq,quu hd y c t,qh4 hd y c t]
  exact⟨rfl,rfl⟩
theorem qua{c:Prop}[Decidable c]{a b:Int}(p:a≠0)(i:b≠0):(if c then a else b)≠0:=by
 by_cases h:c
 ·rw[bh h];exact p
 ·rw[aj h];exact i
theorem vjd(l:mv):kwK l≠0:=by
 unfold kwK
 repeat refine qua nh ?_
 decide
theorem vax(l:mv):qep l≠0:=by
 unfold qep
 repeat refine qua nh ?_
 decide
theorem vih(l:mv):(vU l).kind≠0:=by
 unfold vU
 by_cases h:xI (l.take (qx l))=2
 ·rw[bh h];show(2:Int)≠0;decide
 ·rw[aj h];exact vjd _
theorem vjq(l:mv):(xt l).kind≠0:=by
 unfold xt
 by_cases h:vB 0 (l.take (qw jc l))<=9223372036854775807
 ·rw[bh h];show(3:Int)≠0;decide
 ·rw[aj h];show(1:Int)≠0;decide
theorem vhh(l:mv):(vG l).kind≠0:=by
 unfold vG
 cases ve (l.drop 1) with
 | none=>show(1:Int)≠0;decide
 | some r=>show(4:Int)≠0;decide
theorem vgt(l:mv):xm l≠0:=by
 unfold xm;exact qua nh (vax _)
theorem qn5(l:mv):(qX l).kind≠0:=by
 cases l with
 | nil=>show(1:Int)≠0;decide
 | cons c t=>
  show(if yd c then vU (c::t) else if jc c then xt (c::t) else if c==39 then vG (c::t) else qh (xm (c::t))).kind≠0
  by_cases hb:yd c=true
  ·rw[bh hb];exact vih _
  rw[aj hb]
  by_cases hg:jc c=true
  ·rw[bh hg];exact vjq _
  rw[aj hg]
  by_cases hq:(c==39)=true
  ·rw[bh hq];exact vhh _
  rw[aj hq];exact vgt _
theorem qv3(h:(qJ l 0).kind≠0):qN l 0<l.length:=by
 apply Decidable.byContradiction;intro a;unfold qJ at h;rw[aj a]at h;exact h rfl
theorem vb5(h:qJ l 0=qh 0):¬qN l 0<l.length:=by
 intro a;unfold qJ at h;rw[bh a]at h;exact qn5 _ (by rw[h];rfl)
theorem vb4{d:UInt8}(hd:Stop d)(y:mv)(l:mv)(u:(qJ l 0).kind≠0)(b:(qJ l 0).kind≠1):qJ (l++d::y) 0=qJ l 0/\qZ (l++d::y) 0=qZ l 0:=by
 have a:=qv3 u
 have q:qN (l++d::y) 0=qN l 0:=by
  unfold qN at a ⊢;rw[db]at a ⊢;rw[db,qwv _ _ _ mw]
 have i:qN l 0<(l++d::y).length:=by rw[bu];omega
 unfold qJ qZ;unfold qJ at b;rw[bh a]at b;rw[q,bh a,bh i,bh a,bh i,List.drop_append_of_le_length (Nat.le_of_lt a)]
 cases hr:l.drop (qN l 0) with
 | nil=>have:=congrArg List.length hr;rw[dc]at this;simp at this;omega
 | cons c t=>
  rw[hr]at b;obtain⟨z,x⟩:=qts hd y c t b;rw[z,x];exact⟨rfl,rfl⟩
theorem vm5{c:UInt8}(q:spU c=true)(h:Lx r L):Lx (c::r) L:=by
 have b:qN (c::r) 0=qN r 0+1:=by unfold qN;simp[qw,q]
 have a:qJ (c::r) 0=qJ r 0:=by
  unfold qJ;rw[b]
  by_cases hl:qN r 0<r.length
  ·rw[bh hl,bh my];rfl
  ·rw[aj hl,aj my]
 have i:qZ (c::r) 0=qZ r 0+1:=by
  unfold qZ;rw[b]
  by_cases hl:qN r 0<r.length
  ·rw[bh hl,bh my,ik];omega
  ·rw[aj hl,aj my];simp
 cases h with
 | nil h=>exact .nil (by rw[a];exact h)
 | cons e h t=>exact .cons (by rw[a];exact e) h (by rw[i,ik];exact t)
theorem vjk{z:mv}(h:Lx z M):∀l:mv,l.length<=qw spU l->Lx (l++z) M:=by
 intro l
 induction l with
 | nil=>intro _;exact h
 | cons c t ih=>
  intro a;have b:qw spU (c::t)=if spU c then qw spU t+1 else 0:=rfl
  rw[b]at a
  by_cases hp:spU c=true
  ·rw[bh hp]at a
   exact vm5 hp (ih (by simp at a;omega))
  ·rw[aj hp]at a;simp at a
theorem qh3{d:UInt8}(hd:Stop d){y:mv}(c:Lx (d::y) M)(h:Lx l L):(∀k∈L,k.kind≠1)->Lx (l++d::y) (L++M):=by
 induction h with
 | @nil r h=>
  intro _;have:=vb5 h;unfold qN at this;rw[db]at this;exact vjk c r mw
 | @cons r k L e h t ih=>
  intro a;obtain⟨q,i⟩:=vb4 hd y r (by rw[e];exact h) (by rw[e];exact a k mx);refine .cons (by rw[q];exact e) h ?_;rw[i,List.drop_append_of_le_length (qbw r 0)];exact ih (λk b=>a k (by simp[b]))
theorem qeo:∀(n:Nat) (l:mv),l.length<=n->∃L,Lx l L:=by
 intro n
 induction n with
 | zero=>
  intro l a;have:l=[]:=cq mw;subst this;exact⟨[],kr⟩
 | succ n ih=>
  intro l a
  by_cases h:qN l 0<l.length
  ·have b:qJ l 0=qX (l.drop (qN l 0)):=by unfold qJ;rw[bh h]
   have i:0<qZ l 0:=by
    unfold qZ;rw[bh h];have:=pT (l.drop (qN l 0)) (by rw[dc];omega);omega
   obtain⟨L,c⟩:=ih (l.drop (qZ l 0)) (by rw[dc];omega);exact⟨_,.cons rfl (by rw[b];exact qn5 _) c⟩
  ·exact⟨[],.nil (by unfold qJ;rw[aj h])⟩
theorem ven:Stop 41:=⟨rfl,rfl,rfl,rfl,rfl⟩
theorem qxj:Stop 32:=⟨rfl,rfl,rfl,rfl,rfl⟩
end
section
def sh(X:List Tk)(k:Nat)(ts:TS):TS:=⟨ts.toks++X,ts.op+k⟩
theorem qO{c:Int}(a:c≠0)(h:ts.tk.kind=c):ts.toks≠[]:=by
 intro e;unfold TS.tk at h;rw[e]at h;exact a h.symm
section
variable {X:List Tk} {k o:Nat} {f f':TS->TRes}
end
end
section
def ShA:Ast->Prop
 | .leaf p=>0<=p.op/\p.op<=4
 | .un p x=>(p.op=5\/p.op=14\/p.op=15\/p.op=21\/p.op=22\/p.op=23)/\(p.op=21->p.texts≠[])/\(p.op=21\/p.op=22\/p.op=23->opA x=0)/\ShA x
 | .bin p x y=>(6<=p.op/\p.op<=13\/16<=p.op/\p.op<=19)/\ShA x/\ShA y
 | .tri p x y z=>p.op=20/\ShA x/\ShA y/\ShA z
def ndA:Ast->Nat
 | .leaf _=>1
 | .un p x=>1+p.texts.length+ndA x
 | .bin _ x y=>1+ndA x+ndA y
 | .tri _ x y z=>1+ndA x+ndA y+ndA z
theorem vbj(k:Int):6<=qcv k/\qcv k<=13\/16<=qcv k/\qcv k<=19:=by
 unfold qcv
 have ite':∀{c:Prop} [Decidable c] {a b:Int},(6<=a/\a<=13\/16<=a/\a<=19)->(6<=b/\b<=13\/16<=b/\b<=19)->(6<=(if c then a else b)/\(if c then a else b)<=13\/16<=(if c then a else b)/\(if c then a else b)<=19):=by
  intro c _ a b q i
  by_cases h:c
  ·rw[bh h];exact q
  ·rw[aj h];exact i
 repeat refine ite' nh ?_
 decide
def Nd(f:TS->TRes):Prop:=∀ts t ts',f ts=.ok t ts'->ShA t/\ndA t+ts'.toks.length<=ts.toks.length
def NdT(l:Ast)(ts:TS)(t:Ast)(ts':TS):Prop:=ShA l->ShA t/\ndA t+ts'.toks.length<=ndA l+ts.toks.length
theorem jz(h:ts.toks≠[]):ts.next.toks.length+1=ts.toks.length:=by
 cases ht:ts.toks with
 | nil=>exact absurd ht h
 | cons a r=>show(ts.toks.tail).length+1=_;rw[ht];rfl
theorem Nd.join(h:Nd f)(ts:TS)(l t:Ast)(c:TS)(p:ts.toks≠[])(i:qam f ts l=.ok t c):NdT l ts t c:=by
 intro u;unfold qam at i
 split at i
 ·rename_i q
  injection i with y x;subst y x;obtain⟨a,b⟩:=h _ _ _ q;have:=jz p;refine⟨⟨vbj _,u,a⟩, ?_⟩;show 1+ndA l+_+_<=_;omega
 ·cases i
theorem Nd.loop(h:Nd f)(ks:List Int)(C:ks.contains 0=false):∀n l ts t q,pA f ks n l ts=.ok t q->NdT l ts t q:=by
 intro n
 induction n with
 | zero=>intro l ts t q i u;rw[pA]at i;injection i with z y;subst z y;exact⟨u,nt⟩
 | succ n ih=>
  intro l ts t q i u;rw[pA]at i
  by_cases hc:ks.contains ts.tk.kind=true
  ·rw[bh hc]at i
   have x:ts.toks≠[]:=by
    intro e;have:ts.tk.kind=0:=by unfold TS.tk;rw[e];rfl
    rw[this,C]at hc;cases hc
   split at i
   ·rename_i A
    obtain⟨a,b⟩:=h.join _ _ _ _ x A u;obtain⟨c,d⟩:=ih _ _ _ _ i a;exact⟨c,mw⟩
   ·cases i
  ·rw[aj hc]at i
   injection i with z y;subst z y;exact⟨u,nt⟩
theorem Nd.row(h:Nd f)(ks:List Int)(x:ks.contains 0=false):Nd (qp1 f ks):=by
 intro ts t q i;unfold qp1 at i
 split at i
 ·rename_i u
  obtain⟨a,b⟩:=h _ _ _ u;obtain⟨c,d⟩:=h.loop ks x _ _ _ _ _ i a;exact⟨c,mw⟩
 ·cases i
theorem Nd.sign(h:Nd f)(o:Int)(z:o=5\/o=14\/o=15)(ts:TS)(t:Ast)(i:TS)(p:ts.toks≠[])(c:qan f o ts=.ok t i):ShA t/\ndA t+i.toks.length<=ts.toks.length:=by
 unfold qan at c
 split at c
 ·cases c
 ·split at c
  ·rename_i y q
   injection c with x u;subst x u;obtain⟨a,b⟩:=h _ _ _ q;have:=jz p;refine⟨⟨by simp only;omega,λe=>?_,λe=>?_,a⟩, ?_⟩
   ·simp only at e;omega
   ·simp only at e;omega
   ·show 1+0+_+y.toks.length<=_
    have e:(tIn ts).toks.length=ts.next.toks.length:=rfl;omega
  ·cases c
theorem Nd.group(h:Nd f)(ts:TS)(t:Ast)(i:TS)(c:gi f ts=.ok t i):ShA t/\ndA t+i.toks.length<=ts.toks.length:=by
 unfold gi at c
 split at c
 ·cases c
 ·split at c
  ·rename_i p q
   split at c
   ·injection c with x u
    subst x u;obtain⟨a,b⟩:=h _ _ _ q;have e:(tIn ts).toks.length<=ts.toks.length:=qa8 _;have y:=qa8 p.toks;refine⟨a, ?_⟩;show _+p.toks.tail.length<=_;omega
   ·cases c
  ·cases c
theorem qbt{o n:Int}{s:mv}(b:0<=o/\o<=4)(a:ts.toks≠[]):ShA (qmb o n s)/\ndA (qmb o n s)+ts.next.toks.length<=ts.toks.length:=by
 have:=jz a;exact⟨b,by show 1+_<=_;omega⟩
theorem Nd.signed{g:TS->TRes}(i:Nd f)(u:Nd g):Nd (xG f g):=by
 intro ts t q a;unfold xG at a
 by_cases T5:ts.tk.kind=22
 ·rw[bh T5]at a;exact i.sign 14 mw _ _ _ (qO nh T5) a
 rw[aj T5]at a
 by_cases J8:ts.tk.kind=23
 ·rw[bh J8]at a;exact i.sign 15 mw _ _ _ (qO nh J8) a
 rw[aj J8]at a
 by_cases bC:ts.tk.kind=26
 ·rw[bh bC]at a;exact u.group _ _ _ a
 rw[aj bC]at a
 by_cases h2:ts.tk.kind=2
 ·rw[bh h2]at a;injection a with c b;subst c b;exact qbt nh (qO nh h2)
 rw[aj h2]at a
 by_cases h3:ts.tk.kind=3
 ·rw[bh h3]at a;injection a with c b;subst c b;exact qbt nh (qO nh h3)
 rw[aj h3]at a
 by_cases h4:ts.tk.kind=4
 ·rw[bh h4]at a;injection a with c b;subst c b;exact qbt nh (qO nh h4)
 rw[aj h4]at a
 by_cases h8:ts.tk.kind=8
 ·rw[bh h8]at a;injection a with c b;subst c b;exact qbt nh (qO nh h8)
 rw[aj h8]at a
 by_cases h9:ts.tk.kind=9
 ·rw[bh h9]at a;injection a with c b;subst c b;exact qbt nh (qO nh h9)
 rw[aj h9]at a;cases a
theorem qv2(l:Ast)(x:opA l=0)(ts:TS)(t:Ast)(b:TS)(c:ts.toks≠[])(a:tIsNull l ts=.ok t b):NdT l ts t b:=by
 intro u;have n0:=jz c;unfold tIsNull at a
 by_cases h7:ts.next.tk.kind=7
 ·rw[bh h7]at a
  have y:=jz (qO nh h7)
  by_cases N8:ts.next.next.tk.kind=15
  ·rw[bh N8]at a;injection a with q i;subst q i
   have z:=jz (qO nh N8);exact⟨⟨mx,λe=>by simp at e,λe=>by simp at e,⟨mx,λe=>by simp at e,λ_=>x,u⟩⟩,by show 1+0+(1+0+ndA l)+_<=_;omega⟩
  ·rw[aj N8]at a;cases a
 ·rw[aj h7]at a
  by_cases N8:ts.next.tk.kind=15
  ·rw[bh N8]at a;injection a with q i;subst q i
   have y:=jz (qO nh N8);exact⟨⟨mx,λe=>by simp at e,λ_=>x,u⟩,by show 1+0+ndA l+_<=_;omega⟩
  ·rw[aj N8]at a;cases a
theorem qv1(l:Ast)(y:opA l=0):∀n xs ts t i,xs≠[]->ShA l->zC l n xs ts=.ok t i->ShA t/\ndA t+i.toks.length<=1+xs.length+ndA l+ts.toks.length:=by
 intro n
 induction n with
 | zero=>intro xs ts t i _ _ c;rw[zC]at c;cases c
 | succ n ih=>
  intro xs ts t i x q c;rw[zC]at c
  by_cases L7:ts.tk.kind=28
  ·rw[bh L7]at c
   have u:=jz (qO nh L7)
   by_cases h4:ts.next.tk.kind=4
   ·rw[bh h4]at c
    have C:=jz (qO nh h4);obtain⟨a,b⟩:=ih _ _ _ _ mx q c;refine⟨a, ?_⟩;rw[bu]at b;simp only[da]at b;omega
   ·rw[aj h4]at c;cases c
  ·rw[aj L7]at c
   by_cases aM:ts.tk.kind=27
   ·rw[bh aM]at c;injection c with A z;subst A z
    have u:=jz (qO nh aM);exact⟨⟨mx,λ_=>x,λ_=>y,q⟩,by show 1+xs.length+ndA l+_<=_;omega⟩
   ·rw[aj aM]at c;cases c
theorem vm6(l:Ast)(x:opA l=0)(ts:TS)(t:Ast)(i:TS)(q:ts.toks≠[])(c:tInRes l ts=.ok t i):NdT l ts t i:=by
 intro u;have n0:=jz q;unfold tInRes at c
 by_cases bC:ts.next.tk.kind=26
 ·rw[bh bC]at c
  have z:=jz (qO nh bC)
  by_cases h4:ts.next.next.tk.kind=4
  ·rw[bh h4]at c
   have y:=jz (qO nh h4);obtain⟨a,b⟩:=qv1 l x _ _ _ _ _ mx u c;simp only[da]at b;exact⟨a,mw⟩
  ·rw[aj h4]at c;cases c
 ·rw[aj bC]at c;cases c
theorem vgx(l:Ast)(x:opA l=0)(ts:TS)(t:Ast)(b:TS)(c:ts.toks≠[])(a:tLike l ts=.ok t b):NdT l ts t b:=by
 intro u;have n0:=jz c;have A:=qP ts.next;have z:=qP ts.next.next;have y:=qP ts.next.next.next;unfold tLike at a
 split at a
 ·split at a
  ·split at a
   ·injection a with q i;subst q i
    exact⟨⟨mx,λe=>by simp at e,λ_=>x,u⟩,by show 1+0+ndA l+_<=_;omega⟩
   ·cases a
  ·injection a with q i;subst q i
   exact⟨⟨mx,λe=>by simp at e,λ_=>x,u⟩,by show 1+0+ndA l+_<=_;omega⟩
 ·cases a
theorem Nd.between(h:Nd f)(l:Ast)(ts:TS)(t:Ast)(q:TS)(i:zJ f l ts=.ok t q):NdT l ts t q:=by
 intro u;unfold zJ at i
 by_cases L1:ts.tk.kind=10
 ·rw[bh L1]at i
  have n0:=jz (qO nh L1)
  split at i
  ·rename_i C A
   obtain⟨a,b⟩:=h _ _ _ A
   split at i
   ·split at i
    ·rename_i z
     obtain⟨c,d⟩:=h _ _ _ z;have D:=qP C;injection i with y x;subst y x;exact⟨⟨rfl,u,a,c⟩,by show 1+ndA l+_+_+_<=_;omega⟩
    ·cases i
   ·cases i
  ·cases i
 ·rw[aj L1]at i;cases i
theorem Nd.keyword(h:Nd f)(bare:Bool)(l:Ast)(c:bare=true->opA l=0)(ts:TS)(t:Ast)(b:TS)(a:jK f bare l ts=.ok t b):NdT l ts t b:=by
 unfold jK at a
 split at a
 ·rename_i g;exact vm6 _ (c g.2) _ _ _ (qO nh g.1) a
 split at a
 ·rename_i g;exact vgx _ (c g.2) _ _ _ (qO nh g.1) a
 ·exact h.between _ _ _ _ a
theorem Nd.test(h:Nd f):Nd (qd2 f):=by
 intro ts t q i;unfold qd2 at i
 split at i
 ·rename_i A C
  obtain⟨a,b⟩:=h _ _ _ C
  suffices hs:∀l,ShA l->qd1 f (ts.tk.kind==2&&opA l==0) l A=.ok t q->NdT l A t q by
   obtain⟨c,d⟩:=hs _ a i a;exact⟨c,mw⟩
  intro l y i;have z:(ts.tk.kind==2&&opA l==0)=true->opA l=0:=λe=>by simp only[cn,dg]at e;exact e.2
  unfold qd1 at i
  split at i
  ·rename_i g
   refine h.join _ _ _ _ ?_ i;rcases g with e|e|e|e|e|e<;>exact qO nh e
  split at i
  ·rename_i g
   split at i
   ·rename_i E;exact qv2 _ (z E) _ _ _ (qO nh g) i
   ·injection i with x u;subst x u;exact λ_=>⟨y,nt⟩
  split at i
  ·rename_i g
   have n0:=jz (qO nh g)
   split at i
   ·rename_i D
    injection i with x u;subst x u;intro y;obtain⟨c,d⟩:=h.keyword _ _ z _ _ _ D y;exact⟨⟨mx,λe=>by simp at e,λe=>by simp at e,c⟩,by show 1+0+_+_<=_;omega⟩
   ·cases i
  split at i
  ·exact h.keyword _ _ z _ _ _ i
  ·injection i with x u;subst x u;exact λ_=>⟨y,nt⟩
 ·cases i
theorem Nd.denied{c b:TS->TRes}(u:Nd c)(q:Nd b):Nd (yi c b):=by
 intro ts t i a;unfold yi at a
 split at a
 ·rename_i g;exact u.sign 5 mw _ _ _ (qO nh g) a
 ·exact q _ _ _ a
structure Nd3(L:T3):Prop where
 S:Nd L.S
 D:Nd L.D
 E:Nd L.E
theorem vjo{L:T3}(h:Nd3 L):Nd3 (tUp L):=by
 have a:=Nd.signed h.S h.E;have c:=((a.row [24,25] rfl).row [22,23] rfl).test;have b:=Nd.denied h.D c;exact⟨a,b,(b.row [5] rfl).row [6] rfl⟩
theorem ve6:∀d,Nd3 (vke d):=by
 intro d
 induction d with
 | zero=>exact vjo ⟨(λ_ _ _ h=>by cases h),(λ_ _ _ h=>by cases h),(λ_ _ _ h=>by cases h)⟩
 | succ d ih=>exact vjo ih
theorem vjj(h:Lx l L):L.length<=l.length:=by
 induction h with
 | nil _=>exact bj _
 | @cons r k L e h t ih=>
  have a:=qv3 (l:=r) (by rw[e];exact h)
  have b:0<qZ r 0:=by
   unfold qZ;rw[bh a];have:=pT (r.drop (qN r 0)) (by rw[dc];omega);omega
  have:=qbw r 0;rw[dc]at ih;simp only[eh];omega
theorem qp0:∀t,ShA (zq t)->ShA t:=by
 intro t
 induction t with
 | leaf p=>exact λh=>h
 | un p x ih=>exact λh=>⟨h.1,h.2.1,λe=>by rw[←qhh];exact h.2.2.1 e,ih h.2.2.2⟩
 | bin p x y ihx ihy=>exact λh=>⟨h.1,ihx h.2.1,ihy h.2.2⟩
 | tri p x y z ihx ihy ihz=>exact λh=>⟨h.1,ihx h.2.1,ihy h.2.2.1,ihz h.2.2.2⟩
theorem vb0:∀t,ndA (zq t)=ndA t:=by
 intro t
 induction t with
 | leaf p=>rfl
 | un p x ih=>show 1+_+ndA (zq x)=_;rw[ih];rfl
 | bin p x y ihx ihy=>show 1+ndA (zq x)+ndA (zq y)=_;rw[ihx,ihy];rfl
 | tri p x y z ihx ihy ihz=>show 1+ndA (zq x)+ndA (zq y)+ndA (zq z)=_;rw[ihx,ihy,ihz];rfl
theorem qy0(h:vj s=.ok t):s.size<=200/\∃L ts,Lx s.data.toList L/\(vke 12).E ⟨L,0⟩=.ok (zq t) ts:=by
 unfold vj at h
 by_cases hs:s.size<=200
 ·rw[bh hs]at h
  refine⟨hs, ?_⟩;obtain⟨L,c⟩:=qeo _ s.data.toList nt;have u:Str s (qg s st0) L:=qcn c st0 (bj _) (db);have x:=qC s st0 (bj _);have p:=(qm9 s 12).E (qg s st0) ⟨L,0⟩ x u rfl;rcases p.cases with⟨b,st,ts,a,i,A,z,y⟩|⟨en,pl,a,i⟩
  ·rw[a]at h
   change qju b st=_ at h
   unfold qju at h
   by_cases hk:st.tk.kind=0
   ·rw[bh hk]at h
    cases hc:qs9 (qv b) with
    | some q=>rw[hc]at h;cases h
    | none=>
     rw[hc]at h;injection h with h;subst h;exact⟨L,ts,c,i⟩
   ·rw[aj hk]at h;cases h
  ·rw[a]at h;cases h
 ·rw[aj hs]at h;cases h
theorem yQ(h:vj s=.ok t):ShA t/\ndA t<=200:=by
 obtain⟨p,L,ts,i,c⟩:=qy0 h;obtain⟨a,b⟩:=(ve6 12).E _ _ _ c;have:=vjj i;rw[qr]at this;rw[vb0]at b;refine⟨qp0 t a, ?_⟩;show ndA t<=200;have e:(⟨L,0⟩:TS).toks.length=L.length:=rfl;omega
end
section
theorem qri(p:mu)(D:p.size<=200)(e:UInt8)(w:World):
  nz 345 #[.string p,.int .u8 e.toNat] w λen w'=>en=.returned (.bool (zi [e] p.data.toList).isSome)/\w'=w:=by
 obtain⟨R,q⟩:∃r,(zi [e] p.data.toList).isSome=r:=⟨_,rfl⟩;rw[q];have A:=qd q;clear q;go_enter func345,ntmps345
 go_wp2_with fail
 go_loop [5] (λiv=>∃k:Nat,k<=p.size/\iv=.int .i64 k/\Hid (R=(zi [e] (p.data.toList.drop k)).isSome)) (λiv=>p.size - (intOf iv).toNat)
 case atStart=>exact⟨0,bj _,rfl,qd (by rw[db,q9 A])⟩
 case round=>
  obtain⟨k,E,rfl,a⟩:=hrel
  by_cases A0:k<p.size
  ·have b:p.data.toList[k]?=some p[k]:=by rw[ag (by rw[qr];exact A0),qy p k A0]
   by_cases hx:p[k]=e
   ·have C:(p[k].toNat:Int)=(e.toNat:Int):=by rw[hx]
    have i:((p[k].toNat:Int)==(e.toNat:Int))=true:=by rw[C,ip]
    by_cases hl:k+1=p.size
    ·have c:Hid (R=false):=qd (by rw[q9 a,qbc b (by rw[hx];rfl) (by rw[qr];omega)];rfl)
     have z:(((k:Int)+1)==(p.size:Int))=true:=by rw[dg];omega
     have u:=qd b;clear a b hx
     go_wp2_with fail
     go_ret;exact⟨qR (by rw[q9 c]),rfl⟩
    ·have x:k+1<p.size:=mw
     have y:p.data.toList[k+1]?=some p[k+1]:=by rw[ag (by rw[qr];exact x),qy p (k+1) x]
     have c:Hid (R=(zi [e] (p.data.toList.drop (k+2))).isSome):=qd (by rw[q9 a,qe6 b (by rw[hx];rfl) y];cases zi [e] (p.data.toList.drop (k+2))<;>rfl);have z:(((k:Int)+1)==(p.size:Int))=false:=by rw[ae];omega
     clear a b y hx
     go_wp2_with fail
     go_round
     case rel=>exact⟨k+2,mw,by go_num,c⟩
     case measure=>simp[intOf];omega
   ·have i:((p[k].toNat:Int)==(e.toNat:Int))=false:=by
     rw[ae];intro h;exact hx (mc.1 mw)
    have c:Hid (R=(zi [e] (p.data.toList.drop (k+1))).isSome):=qd (by rw[q9 a,pQ b (λh=>hx (by injection h with h;exact h.symm))];cases zi [e] (p.data.toList.drop (k+1))<;>rfl);clear a b hx
    go_wp2_with fail
    go_round
    case rel=>exact⟨k+1,mw,by go_num,c⟩
    case measure=>simp[intOf];omega
  ·have c:Hid (R=true):=qd (by rw[q9 a,qe5 (by rw[qr];omega)];rfl)
   clear a
   go_wp2_with fail
   go_ret;exact⟨qR (by rw[q9 c]),rfl⟩
end
section
section
variable {w:World} {rb:Nat} {s:mu} {ns:List RN} {j:Nat} {st:St}
theorem vci(h:RT w rb s ns j st)(q:s.size<=200)(u:st.tk.kind=4):
  nz 344 #[.pointer (some ⟨rb,0,none⟩)] w λe w'=>e=.returned (.agg #[.int .i64 4,.int .i64 st.place,.int .i64 st.after,.string (BS st.tk.str),.int .i64 (tkN st)])/\TKept rb w w'/\RT w' rb s ns (j+1) (qg s st):=by
 obtain⟨nv,a,x,b,z⟩:=h;have y:=b.step_place mw;rw[show tkZ st=(st.after:Int) by unfold tkZ;rw[aj mw],show rK st.tk.kind=4 by rw[u];rfl,show tkS st=st.tk.str by unfold tkS rS;rw[aj mw,bh mw]]at a;refine(qhn a q b.after (yg s st)).mono ?_;rintro e w'⟨rfl,c,i⟩;exact⟨rfl,TKept.of_kept i (c.c0.trans a.c0.symm),nv,c,x.kept (a.c0.trans c.c0.symm) i,qC s st b.after,mw⟩
theorem vch(h:RT w rb s ns j st)(u:s.size<=200)(y:¬st.tk.kind=4):
  nz 344 #[.pointer (some ⟨rb,0,none⟩)] w λe w'=>e=.returned (.agg #[.int .i64 (rK st.tk.kind),.int .i64 st.place,.int .i64 (tkZ st),.string (BS (tkS st)),.int .i64 (tkN st)])/\TKept rb w w'/\RE w' rb s 2 st.place st.op 200:=by
 obtain⟨nv,a,i,q,z⟩:=h;have x:=q.place;refine(qhm a (by unfold rK;split<;>(try split)<;>omega)).mono ?_;rintro e w'⟨rfl,b,c⟩;exact⟨rfl,TKept.of_kept c (b.c0.trans a.c0.symm),nv,_,ns,b,nh,i.kept (a.c0.trans b.c0.symm) c,mw⟩
end
theorem vgn(s:mu)(l:Ast)(st:St):(¬(qg s st).tk.kind=4/\vg s l st=.err 2 (qg s st).place)\/((qg s st).tk.kind=4/\((¬(qg s (qg s st)).tk.kind=13/\vg s l st=.ok (.un ⟨22,st.place,0,(qg s st).tk.str,[],[]⟩ l) (qg s (qg s st)))\/((qg s (qg s st)).tk.kind=13/\((((rK (qg s (qg s (qg s st))).tk.kind=4/\¬((BS (tkS (qg s (qg s (qg s st))))).size:Int)=1)\/¬rK (qg s (qg s (qg s st))).tk.kind=4)/\vg s l st=.err 2 (qg s (qg s (qg s st))).place)\/((qg s (qg s (qg s st))).tk.kind=4/\∃c,(qg s (qg s (qg s st))).tk.str=[c]/\(((zi [c] (qg s st).tk.str).isSome=false/\vg s l st=.err 2 (qg s st).place)\/((zi [c] (qg s st).tk.str).isSome=true/\vg s l st=.ok (.un ⟨22,st.place,0,(qg s st).tk.str,[c],[]⟩ l) (qg s (qg s (qg s (qg s st))))))))))):=by
 unfold vg kY
 by_cases k4:(qg s st).tk.kind=4
 ·refine .inr ⟨k4, ?_⟩
  rw[bh k4]
  by_cases k13:(qg s (qg s st)).tk.kind=13
  ·refine .inr ⟨k13, ?_⟩
   rw[bh k13]
   by_cases k4b:(qg s (qg s (qg s st))).tk.kind=4
   ·simp only[bh k4b]
    by_cases kl:(qg s (qg s (qg s st))).tk.str.length=1
    ·refine .inr ⟨k4b, ?_⟩
     obtain⟨c,a⟩:∃c,(qg s (qg s (qg s st))).tk.str=[c]:=by
      match h:(qg s (qg s (qg s st))).tk.str,kl with
      | [c],_=>exact⟨c,rfl⟩
     refine⟨c,a, ?_⟩;rw[a,bh (show[c].length=1 from rfl)];cases hcut:(zi [c] (qg s st).tk.str).isSome
     ·exact .inl ⟨rfl,mx⟩
     ·exact .inr ⟨rfl,mx⟩
    ·refine .inl ⟨.inl ⟨by rw[k4b];rfl,λe=>kl ?_⟩,by simp only[aj kl]⟩
     rw[qG]at e;unfold tkS rS at e;rw[aj mw,bh mw]at e;omega
   ·refine .inl ⟨.inr λe=>k4b ?_,by simp only[aj k4b]⟩
    unfold rK at e;split at e<;>(try split at e)<;>omega
  ·exact .inl ⟨k13,aj k13⟩
 ·exact .inl ⟨k4,aj k4⟩
abbrev lkN(pl g:Nat)(a b:ByteArray)(neg:Bool):Array Value:=#[.string ⟨#[76,73,75,69]⟩,.int .i64 pl,.slice (some ⟨g,0,none⟩) 1 1,.string a,.string b,.slice none 0 0,.int .i64 0,.bool neg,.int .i64 0]
abbrev lkT(k:Int)(pl:Nat)(z:Int)(a:ByteArray)(n:Int):Array Value:=#[.int .i64 k,.int .i64 pl,.int .i64 z,.string a,.int .i64 n]
abbrev lkW(w:World)(b i:Nat)(a:ByteArray)(T:Array Value):World:=(w.setCell ⟨b,i,none⟩ (.string a)).alloc (.cells T 235)
theorem BwN.put{L:Nat}(h:BwN w W rb L g i0 cs)(a:rb<w.heap.size)(b:rb<W.heap.size)(c:g≠L)(q:w.heap.size<=L)(i:Nat)(v:Value)(o:Obj):BwN w ((W.setCell ⟨L,i,none⟩ v).alloc o) rb L g i0 (cs.setIfInBounds i v):=
 ⟨(h.v.set i v).alloc (by simpa using b) o,(h.g.setB c (by have:=h.v.past;omega) i v).alloc (by simpa using b) o,(h.k.far a (p:=⟨L,i,none⟩) q v).alloc a o⟩
theorem BwN.ins{L:Nat}(h:BwN w W rb L g i0 cs):RowOf W rb 3 (.slice (some ⟨g,0,none⟩) 1 1) (gK [i0]):=.inr ⟨g,1,#[.int .i64 i0],(0,0),rfl,h.g.past,h.g.blk,h.g.no,λj u a=>by simpa [gK]using a⟩
theorem qhw(rb:Nat)(s:mu)(b:s.size<=200)(op m:Nat)(hm:201<=m)(w:World)(st:St)(ns new:List RN)(j:Nat)(l:Ast)(h:RT w rb s (ns++new) j st)(Z:st.op=op)(hk:st.tk.kind=12)(E9:Flat l ns.length new)(i0:Nat)(M7:i0=ns.length+new.length - 1)(g:Nat)(hg:VN w rb g 3 #[.int .i64 i0])(neg:Bool)(T:Int):
  nz 325 #[.pointer (some ⟨rb,0,none⟩),.agg #[.string ⟨#[]⟩,.int .i64 st.place,.slice (some ⟨g,0,none⟩) 1 1,.string ⟨#[]⟩,.string ⟨#[]⟩,.slice none 0 0,.int .i64 0,.bool neg,.int .i64 0]] w (REnds rb s w op m ns j st.place (vb1 neg T (vg s l st))):=by
 have H:=h.lt;have n0:¬w.heap.size=rb:=mw;have n1:¬rb=w.heap.size:=mw;have aH:=hg.lt;have rO:=qd (BwN.mk (VN.new h 241 (lkN st.place g ⟨#[]⟩ ⟨#[]⟩ neg) rfl) (hg.alloc H _) ((TKept.refl rb w).alloc H _));have H0:=qd (h.alloc (.cells (lkN st.place g ⟨#[]⟩ ⟨#[]⟩ neg) 241));have f1:=qC s st h.fine.after;have q1:=h.fine.step_place mw;have f2:=qC s _ f1.after;have f3:=qC s _ f2.after;have B9:=f1.place;have OI:(qg s st).tk.str.length<=200:=bs (qa6 s st) b;have O4:=qd E9;have bL:=qd M7;clear h hg E9 M7;rcases vgn s l st with⟨U,F⟩|⟨k4,⟨CG,F⟩|⟨J,⟨⟨hK,XG⟩|nK,F⟩|⟨k4b,c,hc,⟨hcf,F⟩|⟨lC,F⟩⟩⟩⟩
 all_goals
  rw[F];clear F
  try have q2:=f1.step_place (by rw[k4];decide)
  first
   | (
    have FE:=dg.2 J
    have q3:=f2.step_place (by rw[J];decide))
   | have FE:=ae.2 CG
   | skip
  try have q4:=f3.step_place (by rw[k4b];decide)
  go_enter func325,ntmps325
  go_wp2_with(first|(go_at_call 172;have _q:=y;refine(ju y b mw mw).mono ?_;rintro e D⟨rfl,H6,N⟩;have G:=(q9 u).kept H6;have bR:=(q9 HP3).kept H6;have m4:=G.v.lt;have m5:=bR.lt;obtain⟨e2,e3,e4,e5,e6⟩:=N.ct;obtain⟨d0,d1,d2,d3,d4,d5,d6,d7,d8,dz⟩:=G.v.nine;have pp1:Xc D q.heap.size 1 (.int .i64 (qg s st).place):=bR.cell 1;have sD:=N.lt;have m1:¬rb=D.heap.size:=mw;have m2:¬D.heap.size=rb:=mw;have m3:¬w.heap.size=D.heap.size:=mw;(first|(have _q:=c;rw[show rK (qg s (qg s (qg s st))).tk.kind=4 by rw[k4b];rfl]at e2;rw[show tkZ (qg s (qg s (qg s st)))=((qg s (qg s (qg s st))).after:Int) by unfold tkZ;rw[aj mw]]at e4;rw[show BS (tkS (qg s (qg s (qg s st))))=⟨#[c]⟩ by unfold tkS rS;rw[aj mw,bh mw,hc];rfl]at e5;have aV:=(G.v.rt nh nh N 4 (.string ⟨#[c]⟩)).alloc (.cells (lkT 4 (qg s (qg s (qg s st))).place (qg s (qg s (qg s st))).after ⟨#[c]⟩ (tkN (qg s (qg s (qg s st))))) 235);have Y:=(Below.refl (lkW D w.heap.size 4 ⟨#[c]⟩ (lkT 4 (qg s (qg s (qg s st))).place (qg s (qg s (qg s st))).after ⟨#[c]⟩ (tkN (qg s (qg s (qg s st)))))).heap.size (lkW D w.heap.size 4 ⟨#[c]⟩ (lkT 4 (qg s (qg s (qg s st))).place (qg s (qg s (qg s st))).after ⟨#[c]⟩ (tkN (qg s (qg s (qg s st))))))).drew;have S:=qd (aV.below Y);have P6:=qd ((show BwN w (lkW D w.heap.size 4 ⟨#[c]⟩ (lkT 4 (qg s (qg s (qg s st))).place (qg s (qg s (qg s st))).after ⟨#[c]⟩ (tkN (qg s (qg s (qg s st)))))) rb w.heap.size g i0 (lkN st.place g (BS (qg s st).tk.str) ⟨#[c]⟩ neg) from G.put H sD mw nt 4 _ _).kept (TKept.of_below Y aV.lt));clear aV Y)|(have FL4:=qd (λo=>kQ (N.alloc o) b 2 (qg s (qg s (qg s st))).place nh);have aS:=qd (λo=>G.k.alloc H o)));clear H6 N G bR)|(go_at_call 172;refine(ju H0 b mw mw).mono ?_;rintro e w1⟨rfl,A5,A8⟩;have C9:=qd (rO.kept A5);have G3:=qd A8;clear A5 A8)|(go_at_call 344;(first|(have _q:=U;refine(vch G3 b U).mono ?_;rintro e q⟨rfl,Q,z⟩;have i:=(q9 C9).kept Q;have DM:=i.v.lt;have R:=z.lt;obtain⟨p0,p1,p2,p3,p4,p5,p6,p7,p8,pz⟩:=i.v.nine;have u:Hid (BwN w (lkW q w.heap.size 3 (BS (tkS (qg s st))) (lkT (rK (qg s st).tk.kind) (qg s st).place (tkZ (qg s st)) (BS (tkS (qg s st))) (tkN (qg s st)))) rb w.heap.size g i0 (lkN st.place g (BS (tkS (qg s st))) ⟨#[]⟩ neg)):=qd (i.put H R mw nt 3 _ _);have y:=qd ((i.v.re nh nh z 3 (.string (BS (tkS (qg s st))))).alloc (.cells (lkT (rK (qg s st).tk.kind) (qg s st).place (tkZ (qg s st)) (BS (tkS (qg s st))) (tkN (qg s st))) 235));obtain⟨c82,_⟩:=z.c8;have VL:¬rb=q.heap.size:=mw;have ND:¬q.heap.size=rb:=mw)|(refine(vci G3 b k4).mono ?_;rintro e q⟨rfl,Q,z⟩;have i:=(q9 C9).kept Q;have DM:=i.v.lt;have R:=z.lt;obtain⟨p0,p1,p2,p3,p4,p5,p6,p7,p8,pz⟩:=i.v.nine;have u:Hid (BwN w (lkW q w.heap.size 3 (BS (qg s st).tk.str) (lkT 4 (qg s st).place (qg s st).after (BS (qg s st).tk.str) (tkN (qg s st)))) rb w.heap.size g i0 (lkN st.place g (BS (qg s st).tk.str) ⟨#[]⟩ neg)):=qd (i.put H R mw nt 3 _ _);have y:=qd ((i.v.rt nh nh z 3 (.string (BS (qg s st).tk.str))).alloc (.cells (lkT 4 (qg s st).place (qg s st).after (BS (qg s st).tk.str) (tkN (qg s st))) 235));have HP3:Hid (VN (lkW q w.heap.size 3 (BS (qg s st).tk.str) (lkT 4 (qg s st).place (qg s st).after (BS (qg s st).tk.str) (tkN (qg s st)))) rb q.heap.size 235 (lkT 4 (qg s st).place (qg s st).after (BS (qg s st).tk.str) (tkN (qg s st)))):=qd (VN.new (i.v.rt nh nh z 3 (.string (BS (qg s st).tk.str))) 235 (lkT 4 (qg s st).place (qg s st).after (BS (qg s st).tk.str) (tkN (qg s st))) mx);have c82:=z.c8;have VL:¬rb=q.heap.size:=mw;have ND:¬q.heap.size=rb:=mw));clear Q z i)|(go_at_call 215;(first|(have _q:=U;refine(vee y nh).mono ?_;rintro e w'⟨rfl,hw'⟩;subst w')|(refine(qns y 13 (X:=⟨#[69,83,67,65,80,69]⟩) rfl nh nh rfl).mono ?_;rintro e w'⟨rfl,hw'⟩;subst w';rw[FE])))|(go_at_call 174;refine(FL4 _).mono ?_;rintro e w6⟨rfl,A,C⟩;have ZK:=qd ((aS _).trans A);have YV:=qd C;clear A C)|(go_at_call 216;(first|(have _q:=O;refine(qdd O b ⟨22,st.place,0,(qg s st).tk.str,[c],[]⟩ rfl [i0] neg rfl rfl rfl P.ins (RowOf.no _ _ _)).mono ?_;rintro e I⟨rfl,a,x⟩;have E:=qd (P.k.trans a))|(have _q:=CG;refine(qdd y b ⟨22,st.place,0,(qg s st).tk.str,[],[]⟩ rfl [i0] neg rfl rfl rfl u.ins (RowOf.no _ _ _)).mono ?_;rintro e I⟨rfl,a,x⟩;have E:=qd (u.k.trans a))|(refine(qfa y mw [i0] [] neg u.ins (RowOf.no _ _ _)).mono ?_;rintro e I⟨i9,rfl,a,x⟩;have E:=qd (u.k.trans a)));have BI:=qd x;clear a x))
  try
   go_region_with(go_at_call 345;refine(qri (BS (qg s st).tk.str) (by rw[qG];exact OI) c _).mono ?_;rintro e w'⟨rfl,hw'⟩;subst w';rw[xg];first|rw[hcf]|rw[lC])
   all_goals go_wp2_with(first|(go_at_call 174;refine(kQ S b 2 (qg s st).place nh).mono ?_;rintro e w6⟨rfl,A,C⟩;have ZK:=qd (P6.k.trans A);have YV:=qd C;clear A C)|(go_at_call 172;have _q:=S;refine(ju S b mw mw).mono ?_;rintro e w6⟨rfl,A,C⟩;have fN:=(q9 P6).kept A;obtain⟨f0',f1',f2',f3',f4',f5',f6',f7',f8',_⟩:=fN.v.nine;have P:=qd fN;have O:=qd C;clear A C fN)|(go_at_call 216;(first|(have _q:=O;refine(qdd O b ⟨22,st.place,0,(qg s st).tk.str,[c],[]⟩ rfl [i0] neg rfl rfl rfl P.ins (RowOf.no _ _ _)).mono ?_;rintro e I⟨rfl,a,x⟩;have E:=qd (P.k.trans a))|(have _q:=CG;refine(qdd y b ⟨22,st.place,0,(qg s st).tk.str,[],[]⟩ rfl [i0] neg rfl rfl rfl u.ins (RowOf.no _ _ _)).mono ?_;rintro e I⟨rfl,a,x⟩;have E:=qd (u.k.trans a))|(refine(qfa y mw [i0] [] neg u.ins (RowOf.no _ _ _)).mono ?_;rintro e I⟨i9,rfl,a,x⟩;have E:=qd (u.k.trans a)));have BI:=qd x;clear a x))
  all_goals go_ret
  all_goals first
   | exact⟨q9 ZK,0,rfl,Z ▸ (q9 YV).more mw⟩
   | exact⟨q9 E,i9,rfl,Z ▸ (q9 BI).more mw⟩
   | (
    have HH:=q9 BI;rw[bi,q9 bL]at HH;refine⟨q9 E,_,j7 mx,HH.less mw,Z,mw, ?_⟩
    cases neg with
    | false=>exact Flat.un _ O4
    | true=>exact Flat.neg1 _ _ (.inr (.inl rfl)) O4)
end
section
def RD(w:World)(rb:Nat)(s:ByteArray)(pl:Int)(op m lo:Nat):Prop:=
 ∃(ns:List RN) (nv:Value) (st:St),TrC w rb nv s (rK st.tk.kind) st.place (tkZ st) (BS (tkS st)) (tkN st) op 0 0/\NodesAt w rb nv ns/\(st.tk.kind=11\/st.tk.kind=12)/\(st.place:Int)=pl/\ns.length<=m/\lo<=st.place/\st.place<=s.size
def RX(w:World)(rb:Nat)(s:ByteArray)(en pl:Int)(op m lo:Nat):Prop:=RE w rb s en pl op m\/(en=2/\RD w rb s pl op m lo)
section
variable {w w':World} {rb:Nat} {s:mu} {en pl:Int} {op m lo:Nat}
theorem RX.lt(h:RX w rb s en pl op m lo):rb<w.heap.size:=by
 rcases h with h|⟨_,ns,nv,st,h,_⟩
 ·exact h.lt
 ·exact h.lt
theorem RX.more(h:RX w rb s en pl op m lo)(a:m<=m')(x:lo'<=lo):RX w rb s en pl op m' lo':=by
 rcases h with h|⟨e,ns,nv,st,u,q,i,c,z,y,b⟩
 ·exact .inl (h.more a)
 ·exact .inr ⟨e,ns,nv,st,u,q,i,c,mw,mw,b⟩
theorem RX.alloc(h:RX w rb s en pl op m lo)(o:Obj):RX (w.alloc o) rb s en pl op m lo:=by
 rcases h with h|⟨e,ns,nv,st,a,c,b⟩
 ·exact .inl (h.alloc o)
 ·exact .inr ⟨e,ns,nv,st,a.alloc o,c.below a.lt (nw.alloc nt o),b⟩
theorem RX.fresh(h:RX w rb s en pl op m lo)(o:Obj):¬gJ (w.alloc o) rb w.heap.size:=by
 rcases h with h|⟨e,ns,nv,st,a,b,c⟩
 ·exact h.fresh o
 ·exact b.fresh a.c0 a.lt o
theorem RX.c7(h:RX w rb s en pl op m lo):Xc w rb 7 (.int .i64 op)/\Xf w rb:=by
 rcases h with h|⟨e,ns,nv,st,a,_⟩
 ·exact h.c7
 ·exact⟨a.c7,a.fz⟩
theorem RX.setOp(h:RX w rb s en pl op m lo)(n:Nat)(o:Int)(a:o=n):RX (w.setCell ⟨rb,7,none⟩ (.int .i64 o)) rb s en pl n m lo/\TKept rb w (w.setCell ⟨rb,7,none⟩ (.int .i64 o)):=by
 rcases h with h|⟨e,ns,nv,st,b,p,q⟩
 ·exact⟨.inl (h.setOp n o a).1,(h.setOp n o a).2⟩
 ·subst a
  have i:=(Kept.refl rb w).setCell 7 (.int .i64 n);have c:=b.setOp n;exact⟨.inr ⟨e,ns,nv,st,c,p.kept (b.c0.trans c.c0.symm) i,q⟩,TKept.of_kept i (c.c0.trans b.c0.symm)⟩
theorem qvx(h:RX w rb s en pl op m lo)(y:m<=1000)(x:RN){iv lv:Value}(b:RowOf w rb 3 iv (gK x.ins))(c:RowOf w rb 9 lv (qu x.texts)):
  nz 216 #[.pointer (some ⟨rb,0,none⟩),rnV x iv lv] w λe w'=>∃i:Nat,e=.returned (.int .i64 i)/\TKept rb w w'/\RX w' rb s en pl op (m+1) lo:=by
 rcases h with h|⟨e,ns,nv,st,A,C,H,G,J,F,E⟩
 ·refine(qfb h y x b c).mono ?_
  rintro e w'⟨i,rfl,z,u⟩;exact⟨i,rfl,z,.inl u⟩
 ·refine(pd A C x b c mw).mono ?_
  rintro N w'⟨rfl,D,a,I,q⟩;exact⟨ns.length,rfl,D,.inr ⟨e,_,a,st,I,q,H,G,my,F,E⟩⟩
theorem qqx(h:RX w rb s en pl op m lo)(c:m<=1000)(N:mv)(a:Int)(i:Nat)(u:BS N=NB)(q:g=w.heap.size):
  nz 216 #[.pointer (some ⟨rb,0,none⟩),.agg #[.string NB,.int .i64 a,.slice (some ⟨g,0,none⟩) 1 1,.string ⟨#[]⟩,.string ⟨#[]⟩,.slice none 0 0,.int .i64 0,.bool false,.int .i64 0]] (w.alloc (.cells #[.int .i64 i] 3))
   λe w'=>∃i:Nat,e=.returned (.int .i64 i)/\TKept rb w w'/\RX w' rb s en pl op (m+1) lo:=by
 subst u q;refine(qvx (h.alloc (.cells #[.int .i64 i] 3)) c ⟨N,a,[i],[],[],[],0,false,0⟩ (iv:=.slice (some ⟨w.heap.size,0,none⟩) 1 1) (lv:=.slice none 0 0) (RowOf.made h.lt h.fresh _ _ 1 rfl) (RowOf.no _ _ _)).mono ?_;rintro e w'⟨k,rfl,p,b⟩;exact⟨k,rfl,yn h.lt p,b⟩
theorem qkq(h:RX w rb s en pl op m lo)(c:m<=1000)(N:mv)(a:Int)(i k:Nat)(u:BS N=NB)(q:g=w.heap.size):
  nz 216 #[.pointer (some ⟨rb,0,none⟩),.agg #[.string NB,.int .i64 a,.slice (some ⟨g,0,none⟩) 2 2,.string ⟨#[]⟩,.string ⟨#[]⟩,.slice none 0 0,.int .i64 0,.bool false,.int .i64 0]] (w.alloc (.cells #[.int .i64 i,.int .i64 k] 3))
   λe w'=>∃i:Nat,e=.returned (.int .i64 i)/\TKept rb w w'/\RX w' rb s en pl op (m+1) lo:=by
 subst u q;refine(qvx (h.alloc (.cells #[.int .i64 i,.int .i64 k] 3)) c ⟨N,a,[i,k],[],[],[],0,false,0⟩ (iv:=.slice (some ⟨w.heap.size,0,none⟩) 2 2) (lv:=.slice none 0 0) (RowOf.made h.lt h.fresh _ _ 2 rfl) (RowOf.no _ _ _)).mono ?_;rintro e w'⟨k,rfl,p,b⟩;exact⟨k,rfl,yn h.lt p,b⟩
theorem vcc(h:RX w rb s en pl op m lo)(c:Int)(x:kwT c=X.data.toList)(z:5<=c)(D:c<=28)(i:rK c=kind)(H:c≠11)(I:c≠12):
  nz 343 #[.pointer (some ⟨rb,0,none⟩),.int .i64 kind,.string X] w λe w'=>e=.returned (.tuple #[])/\TKept rb w w'/\RE w' rb s en pl op m:=by
 rcases h with h|⟨e,ns,nv,st,a,y,G,A,C,F,E⟩
 ·exact qfk h (by rw[←i];unfold rK;rw[aj mw];split<;>decide)
 ·have q:=isK (st:=st) x z D kind i
  rw[show(st.tk.kind==c)=false from ae.2 mw]at q;subst e A;refine(qfj a kind X q).mono ?_;rintro e w'⟨rfl,b,u⟩;exact⟨rfl,TKept.of_kept u (b.c0.trans a.c0.symm),nv,_,ns,b,nh,y.kept (a.c0.trans b.c0.symm) u,C⟩
theorem RD.is(h:RD w rb s pl op m lo)(c:Int)(b:kwT c=X.data.toList)(q:5<=c)(u:c<=28)(a:rK c=kind)(z:c≠11)(A:c≠12):
  nz 215 #[.pointer (some ⟨rb,0,none⟩),.int .i64 kind,.string X] w λe w'=>e=.returned (.bool false)/\w'=w:=by
 obtain⟨ns,nv,st,i,x,y,_⟩:=h;have:=ku i kind X;rwa [isK b q u kind a,show(st.tk.kind==c)=false from ae.2 mw]at this
theorem RD.c8(h:RD w rb s pl op m lo):Xc w rb 8 (.int .i64 0):=by obtain⟨ns,nv,st,a,_⟩:=h;exact a.c8
theorem vjn(h:RX w rb s en pl op m lo)(p:n<lo)(i:n<=s.size):meT s w rb<s.size+2 - n:=by
 rcases h with h|⟨e,ns,nv,st,a,q,b,z,y,x,u⟩
 ·rw[ve2 h];omega
 ·have b:=a.c3
  have c:=a.c8;unfold meT plT;rw[c,b];simp;omega
end
def DEnds(rb:Nat)(s:ByteArray)(w:World)(op m:Nat)(ns:List RN)(j lo:Nat)(r:Res)(e:Ending)(w':World):Prop:=
 TKept rb w w'/\match r with
 | .ok t st=>∃new,e=.returned (.int .i64 ((ns.length+new.length - 1:Nat):Int))/\RT w' rb s (ns++new) j st/\st.op=op/\lo<=st.place/\Flat t ns.length new
 | .err en pl=>∃i:Nat,e=.returned (.int .i64 i)/\RX w' rb s en pl op m lo
def DReads(K:Nat)(rb:Nat)(s:ByteArray)(op m:Nat)(f:St->Res):Prop:=
 ∀(w:World) (st:St) (ns:List RN) (j:Nat),RT w rb s ns j st->st.op=op->Calls prog K #[.pointer (some ⟨rb,0,none⟩)] w (DEnds rb s w op m ns j st.place (f st))
theorem DEnds.more{r:Res}(h:DEnds rb s w op m ns j lo r e w')(c:m<=m')(q:lo'<=lo):DEnds rb s w op m' ns j lo' r e w':=by
 obtain⟨u,h⟩:=h;refine⟨u, ?_⟩
 cases r with
 | ok t st=>obtain⟨new,b,a,y,z,x⟩:=h;exact⟨new,b,a,y,mw,x⟩
 | err en pl=>obtain⟨i,b,a⟩:=h;exact⟨i,b,a.more c q⟩
theorem DReads.more{f:St->Res}(h:DReads K rb s op m f)(c:m<=m'):DReads K rb s op m' f:=λw st ns j a b=>(h w st ns j a b).mono λ_ _ i=>i.more c nt
theorem REnds.d{r:Res}(h:REnds rb s w op m ns j lo r e w'):DEnds rb s w op m ns j lo r e w':=by
 obtain⟨a,h⟩:=h;refine⟨a, ?_⟩
 cases r with
 | ok t st=>exact h
 | err en pl=>obtain⟨i,c,b⟩:=h;exact⟨i,c,.inl b⟩
theorem xu(k a z:Int)(S:mu)(n:Int)(w:World):
  nz 321 #[.agg #[.int .i64 k,.int .i64 a,.int .i64 z,.string S,.int .i64 n]] w λe w'=>e=.returned (.bool (k==5&&(S.toList==[61]||S.toList==[60,62]||S.toList==[60]||S.toList==[60,61]||S.toList==[62]||S.toList==[62,61])))/\Xb w w':=by
 have b:∀o,Xb w (w.alloc o):=λo=>nw.alloc nt o
 by_cases hk:k=5
 ·subst hk
  go_enter func321,ntmps321
  go_wp2_with fail
  all_goals(go_ret;refine⟨qR ?_,b _⟩;simp_all)
 ·have c:(k==5)=false:=ae.2 hk
  go_enter func321,ntmps321
  go_wp2_with fail
  all_goals(go_ret;exact⟨by rw[c];rfl,b _⟩)
theorem yE(st:St):(rK st.tk.kind==5&&((BS (tkS st)).toList==[61]||(BS (tkS st)).toList==[60,62]||(BS (tkS st)).toList==[60]||(BS (tkS st)).toList==[60,61]||(BS (tkS st)).toList==[62]||(BS (tkS st)).toList==[62,61]))=decide (16<=st.tk.kind/\st.tk.kind<=21):=by
 have i (c:Int) (X:mv) (hX:kwT c=X) (h5:16<=c) (L7:c<=28):(rK st.tk.kind==5&&((BS (tkS st)).toList==X))=(st.tk.kind==c):=by
  have:=isK (st:=st) (c:=c) (X:=BS X) (by rw[xg];exact hX) mw L7 5 (by unfold rK;rw[aj mw,aj mw]);rwa [qM X]at this
 rw[iy,iy,iy,iy,iy,i 16 [61] rfl nh nh,i 17 [60,62] rfl nh nh,i 18 [60] rfl nh nh,i 19 [60,61] rfl nh nh,i 20 [62] rfl nh nh,i 21 [62,61] rfl nh nh];rw[fq];simp only[dk,dg,du];omega
end
section
def vmn(rb:Nat)(s:ByteArray)(w:World)(op m:Nat)(ns:List RN)(j lo:Nat)(R:Res)(f:St->Res)(ks:List Int)(v:Value)(wr:World):Prop:=
 TKept rb w wr/\((∃(n:Nat) (l:Ast) (sl:St) (new:List RN),R=j9 s f ks n l sl/\s.size<n+sl.place/\v=.int .i64 ((ns.length+new.length - 1:Nat):Int)/\RT wr rb s (ns++new) j sl/\sl.op=op/\lo<=sl.place/\Flat l ns.length new) \/
  ∃(en pl:Int) (i:Nat),R=.err en pl/\v=.int .i64 i/\RX wr rb s en pl op m lo)
theorem vjg(b:(B=⟨#[65,78,68]⟩/\ks=[5])\/(B=⟨#[79,82]⟩/\ks=[6]))(a:St):∃t:Bool,(rK a.tk.kind==6&&((BS (tkS a)).toList==B.toList))=t/\ks.contains a.tk.kind=t/\(t=true->5<=a.tk.kind/\a.tk.kind<=6/\BS (qD (qcv a.tk.kind))=B):=by
 rcases b with⟨rfl,rfl⟩|⟨rfl,rfl⟩
 ·refine⟨_,isK (c:=5) rfl nh nh 6 rfl,by simp only[mi,List.contains_nil,gs],λh=>?_⟩
  rw[eq_of_beq h];exact⟨nh,nh,rfl⟩
 ·refine⟨_,isK (c:=6) rfl nh nh 6 rfl,by simp only[mi,List.contains_nil,gs],λh=>?_⟩
  rw[eq_of_beq h];exact⟨nh,nh,rfl⟩
theorem qae{F:Nat}(hC:(F=214/\K=259/\B=⟨#[65,78,68]⟩/\ks=[5])\/(F=173/\K=214/\B=⟨#[79,82]⟩/\ks=[6]))(rb:Nat)(s:mu)(hs:s.size<=200)(op m:Nat)(hm:200<=m)(bG:m<=900)(f:St->Res)(P:DReads K rb s op m f):DReads F rb s op (m+1) (jH s f ks):=by
 intro w st ns j h ho;have HF:=qd P;have HC:=qd (P w st ns j h ho);have S:(B=⟨#[65,78,68]⟩/\ks=[5])\/(B=⟨#[79,82]⟩/\ks=[6]):=hC.elim (λh=>.inl h.2.2) (λh=>.inr h.2.2);have E:=qd (vjg S)
 have E2:Hid (∀(W:World) (pl:Int) (lo:Nat),RD W rb s pl op (m+1) lo->nz 215 #[.pointer (some ⟨rb,0,none⟩),.int .i64 6,.string B] W λe w'=>e=.returned (.bool false)/\w'=W):=qd λW pl lo h=>by
  rcases S with⟨rfl,_⟩|⟨rfl,_⟩
  ·exact h.is 5 rfl nh nh rfl nh nh
  ·exact h.is 6 rfl nh nh rfl nh nh
 obtain⟨R,Q⟩:∃r,jH s f ks st=r:=⟨_,rfl⟩;rw[Q];have HR:=qd Q;clear P h Q S;rcases hC with⟨rfl,rfl,rfl,_⟩|⟨rfl,rfl,rfl,_⟩
 all_goals
  first|go_enter func214,ntmps214|go_enter func173,ntmps173
  go_wp2_with((first|go_at_call 259|go_at_call 214);refine HC.mono ?_;rintro e w1 b;have H1:Hid (∃v,e=.returned v/\vmn rb s w op (m+1) ns j st.place R f ks v w1):=qd (by
    obtain⟨A5,b⟩:=b;rw[←q9 HR]
    cases D4:f st with
    | ok l0 st0=>rw[D4]at b;obtain⟨new,rfl,Z,P0,V8,I⟩:=b;exact⟨_,rfl,A5,.inl ⟨s.size+1,l0,st0,new,qce D4,mw,rfl,Z,P0,V8,I⟩⟩
    | err en pl=>rw[D4]at b;obtain⟨i,rfl,Z⟩:=b;exact⟨_,rfl,A5,.inr ⟨en,pl,i,qa3 D4,rfl,Z.more mw nt⟩⟩);clear b;obtain⟨v1,rfl,b⟩:=q9 H1;have D:=qd b;clear H1 b)
  go_loopw [3] (λv wr=>Hid (vmn rb s w op (m+1) ns j st.place R f ks v wr)) (λv wr=>meT s wr rb)
  case atStart=>exact D
  case round=>
   obtain⟨G,hc⟩:=q9 hrel;have H:=qd G;rcases hc with⟨n,l,a,new,q,hn,rfl,u,wL,K0,I⟩|⟨en,pl,i,q,rfl,c⟩
   ·have I0:=u.fine
    have LD:=I0.place;have c8:=u.c8;obtain⟨c2,c3,c4,c5,c6⟩:=u.ct;obtain⟨N,rfl⟩:∃N,n=N+1:=⟨n - 1,mw⟩;have JJ:=qd (qnc u);have C:=qd u;have O4:=qd I;clear u G I hrel D;obtain⟨t,hi,A,z⟩:=q9 E a;cases t
    ·have y:Hid (R=.ok l a):=qd (by rw[q,ky A])
     clear A q z
     go_wp2_with(go_at_call 215;refine(qfi C).mono ?_;rintro e w'⟨rfl,hw'⟩;subst w';simp only[hi])
     go_ret;rw[q9 y];exact⟨q9 H,new,rfl,q9 C,wL,K0,q9 O4⟩
    replace z:=z rfl;have cF:=I0.step_place mw;have hN:=qd z.2.2;have J2:a.tk.kind≠0/\a.tk.kind≠1:=⟨mw,mw⟩;rcases D4:f (qg s a) with⟨r,J1⟩|⟨en,pl⟩
    all_goals
     first
      | have y:=qd (q.trans (kx A (kN D4)))
      | have y:=qd (q.trans (gC A (yG D4)))
     have J5:=qd D4;clear A q D4 z
     go_wp2_with(first|(go_at_call 215;refine(qfi C).mono ?_;rintro e w'⟨rfl,hw'⟩;subst w';simp only[hi])|(go_at_call 172;refine(ju C hs J2.1 J2.2).mono ?_;rintro e w2⟨rfl,A7,A9⟩;have J9:=qd A7;have I8:=qd A9;clear A7 A9)|((first|go_at_call 259|go_at_call 214);refine(HF _ (qg s a) (ns++new) (j+1) I8 wL).mono ?_;rintro e w3⟨D7,T⟩;rw[q9 J5]at T;(first|(have _q:=en;obtain⟨i3,rfl,Y⟩:=T)|(obtain⟨vb2,rfl,Y,FK,fG,hfl3⟩:=T;have BU:=qd hfl3;clear hfl3));have P4:=qd D7;have N9:=qd Y;clear D7 Y)|(go_at_call 216;(first|(have _q:=en;refine(qkq N9 mw _ a.place (ns.length+new.length - 1) i3 hN mx).mono ?_;rintro e w4⟨i4,rfl,U,x⟩;have O:=qd (vjn x cF mw))|(refine(qf9 N9 hs ⟨qcv a.tk.kind,a.place,0,[],[],[]⟩ (ns.length+new.length - 1) (ns.length+new.length+vb2.length - 1) hN rfl rfl rfl mx).mono ?_;rintro e w4⟨rfl,U,x⟩;have tZ:=x.fine.place;have O:=qd (qnc x)));have aS:=qd (((H.trans J9).trans P4).trans U);have U8:=qd x;clear U x))
     go_roundw
     case rel=>
      first
       | exact qd ⟨q9 aS,.inr ⟨en,pl,i4,q9 y,rfl,U8.more nt mw⟩⟩
       | (
        refine qd ⟨q9 aS,.inl ⟨N,_,J1,new++vb2++[js ⟨qcv a.tk.kind,a.place,0,[],[],[]⟩ [ns.length+new.length - 1,ns.length+new.length+vb2.length - 1] false],q9 y,mw,vdx my, ?_,FK,mw,Flat.bin _ O4 (by have:=q9 BU;rwa [bu]at this)⟩⟩;have:=q9 U8
        simpa only[bi]using this)
     case measure=>rw[q9 JJ];first|exact q9 O|(rw[q9 O];omega)
   ·rcases c with c|⟨AF,c⟩
    ·obtain⟨c8,mE⟩:=c.c8
     have J:=qd c;clear c G hrel D
     go_wp2_with fail
     go_ret;rw[q];exact⟨q9 H,i,rfl,.inl J⟩
    ·have c8:=c.c8
     have J:=qd c;clear c G hrel D
     go_wp2_with(go_at_call 215;refine(E2 _ _ _ J).mono ?_;rintro e w'⟨rfl,hw'⟩;subst w')
     go_ret;rw[q];exact⟨q9 H,i,rfl,.inr ⟨AF,q9 J⟩⟩
end
section
theorem vai{fE:St->Res}(h:st.op<=12):(st.op=12/\vi s fE st=.err 3 st.place)\/(st.op<12/\((∃x st',fE (ko s st)=.ok x st'/\((st'.tk.kind=27/\vi s fE st=.ok x { qg s st' with op:=st.op })\/(¬st'.tk.kind=27/\vi s fE st=.err 2 st'.place)))\/∃en pl,fE (ko s st)=.err en pl/\vi s fE st=.err en pl)):=by
 by_cases E7:st.op=12
 ·exact .inl ⟨E7,qej E7⟩
 have a:st.op<12:=mw;refine .inr ⟨a, ?_⟩
 cases hf:fE (ko s st) with
 | ok x st'=>
  refine .inl ⟨x,st',rfl, ?_⟩
  by_cases hk:st'.tk.kind=27
  ·exact .inl ⟨hk,qk6 a hf hk⟩
  ·exact .inr ⟨hk,qk5 a hf hk⟩
 | err en pl=>exact .inr ⟨en,pl,rfl,qgy a hf⟩
theorem qr9(rb:Nat)(s:mu)(z:s.size<=200)(op m:Nat)(hm:200<=m)(F1:op<=12)(fE:St->Res)(P:op<12->DReads 173 rb s (op+1) m fE)(Q:xh 173 rb s)(w:World)(st:St)(ns:List RN)(j:Nat)(h:RT w rb s ns j st)(A:st.op=op)(N:st.tk.kind=26):
  nz 351 #[.pointer (some ⟨rb,0,none⟩)] w (REnds rb s w op (m+1) ns j st.place (vi s fE st)):=by
 obtain⟨c2,c3,c4,c5,c6⟩:=h.ct;have c8:=h.c8;have A0:=h.lt;have n0:¬w.heap.size=rb:=mw;have n1:¬rb=w.heap.size:=mw;rw[show rK st.tk.kind=5 by rw[N];rfl]at c2;rw[show tkZ st=(st.after:Int) by unfold tkZ;rw[aj mw]]at c4;rw[show BS (tkS st)=⟨#[40]⟩ by unfold tkS rS;rw[aj mw,aj mw,N];rfl]at c5;rw[show tkN st=st.tk.num by unfold tkN;rw[aj mw]]at c6;have FR:=qd (h.fresh (.cells #[.int .i64 5,.int .i64 st.place,.int .i64 st.after,.string ⟨#[40]⟩,.int .i64 st.tk.num] 235));have S:=qd (h.alloc (.cells #[.int .i64 5,.int .i64 st.place,.int .i64 st.after,.string ⟨#[40]⟩,.int .i64 st.tk.num] 235));have K0:=h.fine.step_place mw;have HE:=qd P;have EE:=qd Q;clear h P Q;rcases vai (s:=s) (fE:=fE) (A.symm ▸ F1:st.op<=12) with⟨c,u⟩|⟨nA,⟨x,a,q,⟨C,u⟩|⟨F,u⟩⟩|⟨en,pl,q,u⟩⟩
 all_goals
  rw[u];clear u
  try(have HF:=qd q;clear q)
  go_enter func351,ntmps351
  go_wp2_with(first|(go_at_call 295;(first|(have _q:=c;refine(qca S z c).mono ?_)|refine(qcb S z mw mw nA).mono ?_);rintro e w1⟨rfl,J,Y⟩;obtain⟨O,q,_,P9,hL⟩:=J.mine mx FR;have p3:Xc w1 w.heap.size 3 (.string ⟨#[40]⟩):=(O 3).trans mx;have I2:=qd (yn A0 J);have T:=qd Y;clear J Y O q P9)|(go_at_call 173;(first|(have _q:=c;refine(EE _ _ _ _ _ T).mono ?_;rintro e Z⟨i,rfl,I,y⟩)|(refine(HE mw _ (ko s st) ns (j+1) T (by show st.op+1=op+1;omega)).mono ?_;rintro e Z⟨I,G⟩;rw[q9 HF]at G;(first|(have _q:=en;obtain⟨i,rfl,y⟩:=G)|(obtain⟨new,rfl,y,M6,N0,E9⟩:=G;(try have dS:=y.fine.step_place (by rw[C];decide));have O4:=qd E9;clear E9))));have J9:=qd (I2.trans I);have D:=qd y;clear I y)|(go_at_call 343;(first|(have _q:=c;refine(qfk D nh).mono ?_)|(have _q:=en;refine(vcc D 27 rfl nh nh rfl nh nh).mono ?_)|(have _q:=C;refine(qfl D z 27 rfl nh nh rfl C).mono ?_)|refine(gA D z 27 rfl nh nh rfl F).mono ?_);rintro e w3⟨rfl,U,E⟩;have sE:=E.lt;obtain⟨R,dz⟩:=E.c7;have H:=qd (J9.trans U);have b:=qd E;clear U E;(first|rw[show(qg s a).op=op+1 from M6]at R|rw[M6]at R|skip)))
  go_ret
  first
   | (
    have _q:=c;refine⟨H.trans (b.setOp 12 12 rfl).2,i,rfl, ?_⟩;rw[←A,c]
    exact(b.setOp 12 12 rfl).1.more mw)
   | (
    have _q:=C;refine⟨H.trans (b.setOp op _ mw).2,new,rfl, ?_,A, ?_,q9 O4⟩
    ·rw[A]
     exact(b.setOp op _ mw).1.less mw
    ·have:(ko s st).place<=a.place:=N0
     have e:(ko s st).place=(qg s st).place:=rfl;show st.place<=(qg s a).place
     omega)
   | exact⟨H.trans (b.setOp op _ mw).2,_,rfl,(b.setOp op _ mw).1.more mw⟩
theorem qfp(rb:Nat)(s:mu)(b:s.size<=200)(op m:Nat)(i:200<=m)(y:m<=900)(q:op<=12)(fS fE:St->Res)(u:op<12->RReads 351 rb s (op+1) m fS)(z:op<12->DReads 173 rb s (op+1) m fE)(x:xh 351 rb s)(A:xh 173 rb s):
  RReads 351 rb s op (m+1) (vO s fS fE):=by
 intro w st ns j h c;unfold vO
 split
 ·rename_i a;exact qi4 (.inl ⟨rfl,rfl,rfl,rfl⟩) rb s b op m i y q fS u x w st ns j h c a
 split
 ·rename_i a;exact qi4 (.inr ⟨rfl,rfl,rfl,rfl⟩) rb s b op m i y q fS u x w st ns j h c a
 split
 ·rename_i a;exact qr9 rb s b op m i q fE z A w st ns j h c a
 split
 ·rename_i a;exact xa (.inl ⟨rfl,rfl,rfl,rfl,rfl,rfl⟩) rb s b op (m+1) w ns j h c a
 split
 ·rename_i a;exact xa (.inr (.inl ⟨rfl,rfl,rfl,rfl,rfl,rfl⟩)) rb s b op (m+1) w ns j h c a
 split
 ·rename_i a;exact xa (.inr (.inr (.inl ⟨rfl,rfl,rfl,rfl,rfl,rfl⟩))) rb s b op (m+1) w ns j h c a
 split
 ·rename_i a;exact xa (.inr (.inr (.inr (.inl ⟨rfl,rfl,rfl,rfl,rfl,rfl⟩)))) rb s b op (m+1) w ns j h c a
 split
 ·rename_i a;exact xa (.inr (.inr (.inr (.inr (⟨rfl,rfl,rfl,rfl,rfl,rfl⟩))))) rb s b op (m+1) w ns j h c a
 ·exact qra rb s b op (m+1) mw w st ns j h c ⟨by assumption,by assumption,by assumption,by assumption,by assumption,by assumption,by assumption,by assumption⟩
theorem qw5(rb:Nat)(s:mu)(D:s.size<=200)(op m:Nat)(hm:200<=m)(bG:m<=900)(F1:op<=12)(fS:St->Res)(O:op<12->DReads 259 rb s (op+1) m fS)(P:xh 259 rb s)(w:World)(st:St)(ns:List RN)(j:Nat)(h:RT w rb s ns j st)(z:st.op=op)(Z:st.tk.kind=7):
  nz 259 #[.pointer (some ⟨rb,0,none⟩)] w (DEnds rb s w op (m+1) ns j st.place (vu s fS 5 st)):=by
 obtain⟨_,c3,_⟩:=h.ct;have c8:=h.c8;have A0:=h.lt;have CR:(st.tk.kind==7)=true:=by rw[Z];rfl
 have K0:=h.fine.step_place mw;have H:=qd h;have HS:=qd O;have ES:=qd P;clear h O P;rcases qx8 (s:=s) (fS:=fS) (o:=5) (z.symm ▸ F1:st.op<=12) with⟨b,A⟩|⟨U,⟨x,u,E,A⟩|⟨en,pl,E,A⟩⟩
 all_goals
  rw[A];clear A
  try(have HF:=qd E;clear E)
  go_enter func259,ntmps259
  go_wp2_with(first|(go_at_call 215;refine(qns H 7 (X:=⟨#[78,79,84]⟩) rfl nh nh rfl).mono ?_;rintro e w'⟨rfl,hw'⟩;subst w';rw[CR])|(go_at_call 295;(first|(have _q:=b;refine(qca H D b).mono ?_)|refine(qcb H D mw mw U).mono ?_);rintro e w1⟨rfl,S,R⟩;have I2:=qd S;have Q:=qd R;clear S R)|(go_at_call 259;(first|(have _q:=b;refine(ES _ _ _ _ _ Q).mono ?_;rintro e T⟨i,rfl,J,q⟩)|(refine(HS mw _ (ko s st) ns (j+1) Q (by show st.op+1=op+1;omega)).mono ?_;rintro e T⟨J,F⟩;rw[q9 HF]at F;(first|(have _q:=en;obtain⟨i,rfl,q⟩:=F)|(obtain⟨new,rfl,q,M6,N0,E9⟩:=F;have O4:=qd E9;clear E9))));have I4:=q.lt;obtain⟨d7,dz⟩:=q.c7;(try rw[M6]at d7);have I:=qd (I2.trans J);have a:=qd q;clear J q)|(go_at_call 216;(first|(have _q:=b;refine(qde ((a.setOp 12 12 rfl).1) mw [78,79,84] st.place i rfl mx).mono ?_;rintro e N⟨Y,rfl,c,C⟩;have y:=qd ((a.setOp 12 12 rfl).2.trans c))|(have _q:=en;refine(qqx ((a.setOp op _ mw).1) mw [78,79,84] st.place i rfl mx).mono ?_;rintro e N⟨Y,rfl,c,C⟩;have y:=qd ((a.setOp op _ mw).2.trans c))|(refine(qvy ((a.setOp op _ mw).1) D ⟨5,st.place,0,[],[],[]⟩ (ns.length+new.length - 1) rfl rfl rfl rfl mx).mono ?_;rintro e N⟨rfl,c,C⟩;have y:=qd ((a.setOp op _ mw).2.trans c)));have G:=qd C;clear c C))
  go_ret
  first
   | (
    have _q:=b;refine⟨I.trans y,_,rfl, ?_⟩;rw[←z,b]
    exact .inl (G.more mw))
   | (
    have _q:=en
    exact⟨I.trans y,_,rfl,G.more nt (by have e:(ko s st).place=(qg s st).place:=rfl;omega)⟩)
   | (
    refine⟨I.trans y,_,j7 mx, ?_,z, ?_,Flat.un _ O4⟩
    ·have:=q9 G
     rw[bi]at this;rw[z];exact this
    ·have:(ko s st).place<=u.place:=N0
     have e:(ko s st).place=(qg s st).place:=rfl;show st.place<=u.place
     omega)
theorem qfg(rb:Nat)(s:mu)(A:s.size<=200)(op m:Nat)(C:200<=m)(D:m<=900)(G:op<=12)(i c:St->Res)(x:op<12->DReads 259 rb s (op+1) m i)(y:xh 259 rb s)(u:DReads 294 rb s op (m+1) c):
  DReads 259 rb s op (m+1) (jq s i c):=by
 intro w st ns j h q;unfold jq
 split
 ·rename_i b;exact qw5 rb s A op m C D G i x y w st ns j h q b
 ·rename_i b
  have I:(st.tk.kind==7)=false:=ae.2 b;have E:=qd (u w st ns j h q);have H:=qd h;clear h u x y;go_enter func259,ntmps259
  go_wp2_with(first|(go_at_call 215;refine(qns H 7 (X:=⟨#[78,79,84]⟩) rfl nh nh rfl).mono ?_;rintro e w'⟨rfl,hw'⟩;subst w';rw[I])|(go_at_call 294;refine E.mono ?_;rintro e J a;have z:Hid (∃v,e=.returned v):=qd (by cases hf:c st with|ok t st'=>rw[hf]at a;obtain⟨_,_,rfl,_⟩:=a;exact⟨_,rfl⟩|err en pl=>rw[hf]at a;obtain⟨_,_,rfl,_⟩:=a;exact⟨_,rfl⟩);have F:=qd a;clear a;obtain⟨v,rfl⟩:=q9 z;clear z))
  go_ret;exact q9 F
end
section
theorem vj3{α:Type}(f:α->List Value)(c:∀a,(f a).length=9):∀(l:List α) (i:Nat) (a:α),l[i]?=some a->∀k,k<9->(l.flatMap f)[i * 9+k]?=(f a)[k]?:=by
 intro l
 induction l with
 | nil=>intro i a h;simp at h
 | cons b l ih=>
  intro i a h k p;rw[dw]
  cases i with
  | zero=>
   simp at h;subst h;rw[bw (by rw[c];omega)];simp
  | succ i=>
   rw[cj (by rw[c];omega),c,show(i+1) * 9+k - 9=i * 9+k by omega];exact ih i a (by simpa using h) k p
theorem NodesAt.opAt{nv:Value}(h:NodesAt w rb nv ns){i:Nat}{n:RN}(q:ns[i]?=some n):∃g cap,nv=.slice (some ⟨g,0,none⟩) ns.length cap/\w.cell? ⟨g,i * 9,none⟩=some (.string (BS n.op)):=by
 obtain⟨b,D,c,C⟩:=h;have F:=(au.1 q).1;have u:=c;obtain⟨E,A|⟨g,cap,cur,rfl,_⟩⟩:=c
 ·omega
 ·refine⟨g,cap,rfl, ?_⟩
  rw[u.cellAt (i * 9) mw];obtain⟨r,z⟩:∃r,b[i]?=some r:=⟨b[i],ag mw⟩;have y:(ns.zip b)[i]?=some (n,r):=by rw[lu];exact⟨q,z⟩
  have:=vj3 (λx:RN×(Value×Value)=>kw x.1 x.2.1 x.2.2) (λa=>rfl) (ns.zip b) i (n,r) y 0 mw;rw[Nat.add_zero]at this;rw[this];rfl
theorem zA(o:Int):(qD o==[110,97,109,101])=(o==0):=by
 by_cases h:o=0
 ·subst h;rfl
 ·rw[show(o==0)=false from ae.2 h,ae]
  by_cases hr:1<=o/\o<=22
  ·have hd:∀i:Fin 22,qD (1+(i.val:Int))≠[110,97,109,101]:=by decide +kernel
   have:=hd ⟨(o - 1).toNat,mw⟩;rwa [show(1:Int)+(((o - 1).toNat:Nat):Int)=o by omega]at this
  ·unfold qD
   rw[aj h]
   iterate 22 rw[aj mw]
   decide
theorem qh1(l:List RN)(n:RN):(l++[n])[(l++[n]).length - 1]?=some n:=mx
theorem Flat.last{off:Nat}{l:List RN}(h:Flat t off l):∃n,l[l.length - 1]?=some n/\(n.op==[110,97,109,101])=(opA t==0):=by
 cases h with
 | leaf p=>exact⟨_,rfl,zA _⟩
 | un p h=>exact⟨_,qh1 _ _,zA _⟩
 | bin p h1 h2=>exact⟨_,qh1 _ _,zA _⟩
 | tri p h1 h2 h3=>exact⟨_,qh1 _ _,zA _⟩
 | neg1 pl q hq h=>exact⟨_,qh1 _ _,(zA _).trans (by rcases hq with e|e|e<;>rw[e]<;>rfl)⟩
 | neg3 pl q hq h1 h2 h3=>exact⟨_,qh1 _ _,(zA _).trans (by rw[hq];rfl)⟩
theorem RT.opAt{new:List RN}(h:RT w rb s (ns++new) j st){l:Ast}(a:Flat l ns.length new)(z:ns.length+new.length - 1=i0):
  ∃g cap LN N,Xc w rb 0 (.slice (some ⟨g,0,none⟩) LN cap)/\i0<LN/\Xc w g (i0 * 9) (.string N)/\(N.toList==[110,97,109,101])=(opA l==0):=by
 obtain⟨nv,q,u,_⟩:=h;obtain⟨n,b,x⟩:=a.last;have y:=a.pos
 have c:(ns++new)[i0]?=some n:=by
  rw[cj mw,show i0 - ns.length=new.length - 1 by omega];exact b
 obtain⟨g,cap,rfl,i⟩:=u.opAt c;exact⟨g,cap,_,_,q.c0,my,i,by rw[qM];exact x⟩
theorem vn1(k:Int):(rK k==2)=(k==2):=by
 rw[fq,dg,dg];unfold rK
 split
 ·rfl
 ·split<;>omega
end
end Go.Proofs.YtfkcaldjphakpaaGreatDoor
