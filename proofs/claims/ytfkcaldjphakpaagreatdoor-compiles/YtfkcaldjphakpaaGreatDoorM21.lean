/- A text that has these tokens reads so. -/
import Derived.Test.YtfkcaldjphakpaaGreatDoorM20
namespace Go.Proofs.YtfkcaldjphakpaaGreatDoor
open Go.RowKit
inductive Lx:List UInt8->List Tk->Prop where
 | nil {r:List UInt8} (h:qc0 r 0=j7 0):Lx r []
 | cons {r:List UInt8} {k:Tk} {L:List Tk} (e:qc0 r 0=k) (h:k.kind≠0) (t:Lx (r.drop (qd5 r 0)) L):Lx r (k::L)
theorem vm8(l:List UInt8)(k:Nat):qc2 l k=k+qc2 (l.drop k) 0:=by
 unfold qc2;rw[List.drop_zero,Nat.zero_add]
theorem vm9(l:List UInt8)(k:Nat):qc0 l k=qc0 (l.drop k) 0:=by
 unfold qc0;rw[vm8 l k,←List.drop_drop,List.length_drop]
 by_cases h:k+qc2 (l.drop k) 0<l.length
 ·rw[if_pos h,if_pos (by omega)]
 ·rw[if_neg h,if_neg (by omega)]
theorem jm9(l:List UInt8)(k:Nat)(hk:k<=l.length):qd5 l k=k+qd5 (l.drop k) 0:=by
 unfold qd5;rw[vm8 l k,←List.drop_drop,List.length_drop]
 by_cases h:k+qc2 (l.drop k) 0<l.length
 ·rw[if_pos h,if_pos (by omega)];omega
 ·rw[if_neg h,if_neg (by omega)];omega
theorem vp9{s:ByteArray}{r:List UInt8}{L:List Tk}(h:Lx r L):∀st:St,st.after<=s.size->s.data.toList.drop st.after=r->Str s (j4 s st) L:=by
 induction h with
 | nil h=>
  intro st _ hr;refine .nil ?_;show qc0 s.data.toList st.after=_;rw[vm9,hr,h]
 | cons e h t ih=>
  intro st ha hr;rename_i r k L
  have hk:(j4 s st).tk=k:=by
   show qc0 s.data.toList st.after=_;rw[vm9,hr,e]
  rw[←hk];refine .cons (by rw[hk];exact h) (ih _ (qa7 s st ha).after ?_);show s.data.toList.drop (qd5 s.data.toList st.after)=_;rw[jm9 _ _ (by rw[qa5];exact ha),←List.drop_drop,hr]
theorem dig_dig(n:Nat):qh3 (dig n)=true:=by
 unfold qh3 ve3;rw[jj8];simp;omega
theorem jq9(n:Nat):∀c∈vk7 n,qh3 c=true:=by
 induction n using Nat.strongRecOn with
 | ind n ih=>
  intro c hc
  by_cases h:n<10
  ·rw[qy4 h]at hc;simp at hc;subst hc;exact dig_dig n
  ·rw[vb6 h,List.mem_append]at hc
   rcases hc with hc|hc
   ·exact ih (n / 10) (by omega) c hc
   ·simp at hc;subst hc;exact dig_dig n
theorem digN_ne(n:Nat):vk7 n≠[]:=by
 by_cases h:n<10
 ·rw[qy4 h];simp
 ·rw[vb6 h];simp
theorem vp3(p:UInt8->Bool):∀(l r:List UInt8),(∀c∈l,p c=true)->(∀c,r.head?=some c->p c=false)->qa3 p (l++r)=l.length:=by
 intro l
 induction l with
 | nil=>
  intro r _ h
  cases r with
  | nil=>rfl
  | cons c t=>simp[qa3,h c rfl]
 | cons c t ih=>
  intro r h1 h2;have:=ih r (λx hx=>h1 x (by simp[hx])) h2;simp[qa3,h1 c (by simp),this]
theorem jj4(l:List UInt8)(c:UInt8):∀k,qf4 k (l++[c])=qf4 k l * 10+(c.toNat - 48):=by
 induction l with
 | nil=>intro k;rfl
 | cons d t ih=>
  intro k;show qf4 (k * 10+(d.toNat - 48)) (t++[c])=qf4 (k * 10+(d.toNat - 48)) t * 10+(c.toNat - 48);rw[ih]
theorem ju9(n:Nat):qf4 0 (vk7 n)=n:=by
 induction n using Nat.strongRecOn with
 | ind n ih=>
  by_cases h:n<10
  ·rw[qy4 h]
   show 0 * 10+((dig n).toNat - 48)=n;rw[jj8];omega
  ·rw[vb6 h,jj4,ih (n / 10) (by omega),jj8];omega
theorem tk_digits(n:Nat)(hn:n<=9223372036854775807)(r:List UInt8)(hr:∀c,r.head?=some c->qh3 c=false):qc0 (vk7 n++r) 0=⟨3,n,[]⟩/\qd5 (vk7 n++r) 0=(vk7 n).length:=by
 obtain⟨c,t,hc⟩:∃c t,vk7 n=c::t:=by
  cases h:vk7 n with
  | nil=>exact absurd h (digN_ne n)
  | cons c t=>exact⟨c,t,rfl⟩
 have hd:qh3 c=true:=jq9 n c (by rw[hc];simp)
 have fL:spU c=false:=by
  unfold qh3 ve3 at hd;unfold spU spB;simp at hd ⊢;omega
 have K7:qs3 c=false:=by
  unfold qh3 ve3 at hd;unfold qs3 vg6;simp at hd ⊢;omega
 have O7:=vp3 qh3 (vk7 n) r (jq9 n) hr
 have F0:qc2 (vk7 n++r) 0=0:=by
  unfold qc2;rw[List.drop_zero,hc];simp[qa3,fL]
 have C7:0<(vk7 n++r).length:=by rw[hc];simp
 constructor
 ·unfold qc0
  rw[F0,if_pos C7,List.drop_zero]
  have:qd6 (vk7 n++r)=qp5 (vk7 n++r):=by
   conv=>lhs;rw[hc]
   show(if qs3 c then _ else if qh3 c then _ else _)=_;rw[K7,hd,hc];rfl
  rw[this];unfold qp5;rw[O7,List.take_left,ju9,if_pos (by omega)]
 ·unfold qd5
  rw[F0,if_pos C7,List.drop_zero,Nat.zero_add]
  have:qq4 (vk7 n++r)=qa3 qh3 (vk7 n++r):=by
   conv=>lhs;rw[hc]
   show(if qs3 c then _ else if qh3 c then _ else _)=_;rw[K7,hd,hc];rfl
  rw[this,O7]
theorem lx_digits{n:Nat}(hn:n<=9223372036854775807){r:List UInt8}(hr:∀c,r.head?=some c->qh3 c=false){L:List Tk}(h:Lx r L):Lx (vk7 n++r) (⟨3,n,[]⟩::L):=by
 obtain⟨h1,h2⟩:=tk_digits n hn r hr;refine .cons h1 (show(3:Int)≠0 by decide) ?_;rw[h2,List.drop_left];exact h
theorem qk9{r:List UInt8}{L:List Tk}(h:Lx r L):Lx (32::r) L:=by
 have ha:qc2 (32::r) 0=qc2 r 0+1:=by unfold qc2;simp[qa3,show spU 32=true from rfl]
 have hk:qc0 (32::r) 0=qc0 r 0:=by
  unfold qc0;rw[ha]
  by_cases hl:qc2 r 0<r.length
  ·rw[if_pos hl,if_pos (by simp;omega)];rfl
  ·rw[if_neg hl,if_neg (by simp;omega)]
 have ht:qd5 (32::r) 0=qd5 r 0+1:=by
  unfold qd5;rw[ha]
  by_cases hl:qc2 r 0<r.length
  ·rw[if_pos hl,if_pos (by simp;omega),List.drop_succ_cons];omega
  ·rw[if_neg hl,if_neg (by simp;omega)];simp
 cases h with
 | nil h=>exact .nil (hk.trans h)
 | cons e h t=>exact .cons (hk.trans e) h (by rw[ht,List.drop_succ_cons];exact t)
theorem qw4:Lx [] []:=.nil rfl
structure Stop(d:UInt8):Prop where
 goe:qv5 d=false
 dig:qh3 d=false
 quo:(d==39)=false
 eq:(d==61)=false
 gt:(d==62)=false
theorem vs9(p:UInt8->Bool){d:UInt8}(h:p d=false)(y:List UInt8):∀l,qa3 p (l++d::y)=qa3 p l:=by
 intro l
 induction l with
 | nil=>show(if p d then _ else 0)=0;rw[h];rfl
 | cons c t ih=>show(if p c then qa3 p (t++d::y)+1 else 0)=if p c then qa3 p t+1 else 0;rw[ih]
theorem runLen_lt(p:UInt8->Bool)(y:List UInt8):∀l,qa3 p l<l.length->qa3 p (l++y)=qa3 p l:=by
 intro l
 induction l with
 | nil=>intro h;exact absurd h (Nat.not_lt_zero _)
 | cons c t ih=>
  intro h;show(if p c then qa3 p (t++y)+1 else 0)=if p c then qa3 p t+1 else 0
  have hc:qa3 p (c::t)=if p c then qa3 p t+1 else 0:=rfl
  rw[hc]at h
  by_cases hp:p c=true
  ·rw[if_pos hp]at h
   rw[if_pos hp,if_pos hp,ih (by simp at h;omega)]
  ·rw[if_neg hp,if_neg hp]
theorem vh4{d:UInt8}(hd:Stop d)(y:List UInt8)(c:UInt8)(t:List UInt8):qa8 (c::t++d::y)=qa8 (c::t):=by
 show(if qs3 c then qa3 qv5 (t++d::y)+1 else 0)=if qs3 c then qa3 qv5 t+1 else 0
 rw[vs9 qv5 hd.goe]
theorem vy8(l z:List UInt8)(n:Nat)(h:n<=l.length):(l++z).take n=l.take n:=by
 rw[List.take_append,show n - l.length=0 by omega,List.take_zero,List.append_nil]
theorem quotF_app{d:UInt8}(hd:(d==39)=false)(y:List UInt8):∀(n:Nat) (l:List UInt8),l.length<=n->∀r,qe2 l=some r->qe2 (l++d::y)=some r:=by
 intro n
 induction n with
 | zero=>
  intro l hl r h;have:l=[]:=List.eq_nil_of_length_eq_zero (by omega);subst this;simp[qe2]at h
 | succ n ih=>
  intro l hl r h
  match l,hl,h with
  | [],_,h=>simp[qe2]at h
  | [c],_,h=>
   simp only[qe2]at h
   split at h
   ·rename_i hc
    show qe2 (c::d::y)=_;rw[qe2,if_pos hc,if_neg (by rw[hd];decide)];exact h
   ·simp at h
  | c::e::t,hl,h=>
   simp only[List.length_cons]at hl;show qe2 (c::e::(t++d::y))=_;rw[qe2]at h ⊢
   by_cases hc:(c==39)=true
   ·rw[if_pos hc]at h ⊢
    by_cases he:(e==39)=true
    ·rw[if_pos he]at h ⊢
     cases hq:qe2 t with
     | none=>rw[hq]at h;simp at h
     | some q=>rw[hq]at h;rw[ih t (by omega) q hq];exact h
    ·rw[if_neg he]at h ⊢;exact h
   ·rw[if_neg hc]at h ⊢
    cases hq:qe2 (e::t) with
    | none=>rw[hq]at h;simp at h
    | some q=>
     rw[hq]at h;have:=ih (e::t) (by simp;omega) q hq;rw[List.cons_append]at this;rw[this];exact h
theorem jc4{d:UInt8}(hd:Stop d)(y:List UInt8)(c:UInt8)(t:List UInt8):qr3 (c::t++d::y)=qr3 (c::t):=by
 cases t with
 | nil=>
  show(if c==60&&d==62||(c==60||c==62)&&d==61 then 2 else 1)=1;rw[hd.eq,hd.gt];simp
 | cons e t=>rfl
theorem markT_app{d:UInt8}(hd:Stop d)(y:List UInt8)(c:UInt8)(t:List UInt8):qn9 (c::t++d::y)=qn9 (c::t):=by
 unfold qn9;rw[jc4 hd y c t,vy8 (c::t) (d::y) _ (mark_le _ (by simp))]
 cases t with
 | nil=>
  have:((c::[]++d::y).take 2==[60,62])=false:=by
   show(c==60&&(d==62&&true))=false;rw[hd.gt];simp
  rw[this]
  have:((c::[]).take 2==([60,62]:List UInt8))=false:=by
   show(c==60&&false)=false;simp
  rw[this]
 | cons e t=>rfl
theorem first_app{d:UInt8}(hd:Stop d)(y:List UInt8)(c:UInt8)(t:List UInt8)(h:(qd6 (c::t)).kind≠1):qd6 (c::t++d::y)=qd6 (c::t)/\qq4 (c::t++d::y)=qq4 (c::t):=by
 have h1:qd6 (c::t)=if qs3 c then qh4 (c::t) else if qh3 c then qp5 (c::t) else if c==39 then qf5 (c::t) else j7 (qn9 (c::t)):=rfl
 have h2:qd6 (c::t++d::y)=if qs3 c then qh4 (c::t++d::y) else if qh3 c then qp5 (c::t++d::y) else if c==39 then qf5 (c::t++d::y) else j7 (qn9 (c::t++d::y)):=rfl
 have h3:qq4 (c::t)=if qs3 c then qa8 (c::t) else if qh3 c then qa3 qh3 (c::t) else if c==39 then qq7 (c::t) else qr3 (c::t):=rfl
 have h4:qq4 (c::t++d::y)=if qs3 c then qa8 (c::t++d::y) else if qh3 c then qa3 qh3 (c::t++d::y) else if c==39 then qq7 (c::t++d::y) else qr3 (c::t++d::y):=rfl
 rw[h1]at h;rw[h1,h2,h3,h4]
 by_cases hb:qs3 c=true
 ·rw[if_pos hb,if_pos hb,if_pos hb,if_pos hb]
  refine⟨?_,vh4 hd y c t⟩;unfold qh4;rw[vh4 hd y c t,vy8 _ _ _ (qr1 _)]
 rw[if_neg hb]at h;rw[if_neg hb,if_neg hb,if_neg hb,if_neg hb]
 by_cases hg:qh3 c=true
 ·rw[if_pos hg,if_pos hg,if_pos hg,if_pos hg]
  have hr:=vs9 qh3 hd.dig y (c::t);refine⟨?_,hr⟩;unfold qp5;rw[hr,vy8 _ _ _ (qx6 _ _)]
 rw[if_neg hg]at h;rw[if_neg hg,if_neg hg,if_neg hg,if_neg hg]
 by_cases hq:(c==39)=true
 ·rw[if_pos hq]at h
  rw[if_pos hq,if_pos hq,if_pos hq,if_pos hq]
  cases hf:qe2 ((c::t).drop 1) with
  | none=>exfalso;unfold qf5 at h;rw[hf]at h;exact h rfl
  | some r=>
   have sN:qe2 ((c::t++d::y).drop 1)=some r:=quotF_app hd.quo y _ t (Nat.le_refl _) r hf;unfold qf5 qq7;rw[hf,sN];exact⟨rfl,rfl⟩
 ·rw[if_neg hq,if_neg hq,if_neg hq,if_neg hq,markT_app hd y c t,jc4 hd y c t]
  exact⟨rfl,rfl⟩
theorem ite_ne{c:Prop}[Decidable c]{a b:Int}(ha:a≠0)(hb:b≠0):(if c then a else b)≠0:=by
 by_cases h:c
 ·rw[if_pos h];exact ha
 ·rw[if_neg h];exact hb
theorem kwK_ne(l:List UInt8):kwK l≠0:=by
 unfold kwK
 repeat refine ite_ne (by decide) ?_
 decide
theorem markK_ne(l:List UInt8):vv6 l≠0:=by
 unfold vv6
 repeat refine ite_ne (by decide) ?_
 decide
theorem word_ne(l:List UInt8):(qh4 l).kind≠0:=by
 unfold qh4
 by_cases h:vb0 (l.take (qa8 l))=2
 ·rw[if_pos h];show(2:Int)≠0;decide
 ·rw[if_neg h];exact kwK_ne _
theorem num_ne(l:List UInt8):(qp5 l).kind≠0:=by
 unfold qp5
 by_cases h:qf4 0 (l.take (qa3 qh3 l))<=9223372036854775807
 ·rw[if_pos h];show(3:Int)≠0;decide
 ·rw[if_neg h];show(1:Int)≠0;decide
theorem quot_ne(l:List UInt8):(qf5 l).kind≠0:=by
 unfold qf5
 cases qe2 (l.drop 1) with
 | none=>show(1:Int)≠0;decide
 | some r=>show(4:Int)≠0;decide
theorem mark_ne(l:List UInt8):qn9 l≠0:=by
 unfold qn9;exact ite_ne (by decide) (markK_ne _)
theorem jr1(l:List UInt8):(qd6 l).kind≠0:=by
 cases l with
 | nil=>show(1:Int)≠0;decide
 | cons c t=>
  show(if qs3 c then qh4 (c::t) else if qh3 c then qp5 (c::t) else if c==39 then qf5 (c::t) else j7 (qn9 (c::t))).kind≠0
  by_cases hb:qs3 c=true
  ·rw[if_pos hb];exact word_ne _
  rw[if_neg hb]
  by_cases hg:qh3 c=true
  ·rw[if_pos hg];exact num_ne _
  rw[if_neg hg]
  by_cases hq:(c==39)=true
  ·rw[if_pos hq];exact quot_ne _
  rw[if_neg hq];exact mark_ne _
theorem next_in{l:List UInt8}(h:(qc0 l 0).kind≠0):qc2 l 0<l.length:=by
 apply Decidable.byContradiction;intro hn;unfold qc0 at h;rw[if_neg hn]at h;exact h rfl
theorem next_out{l:List UInt8}(h:qc0 l 0=j7 0):¬qc2 l 0<l.length:=by
 intro hn;unfold qc0 at h;rw[if_pos hn]at h;exact jr1 _ (by rw[h];rfl)
theorem next_app{d:UInt8}(hd:Stop d)(y:List UInt8)(l:List UInt8)(h0:(qc0 l 0).kind≠0)(h1:(qc0 l 0).kind≠1):qc0 (l++d::y) 0=qc0 l 0/\qd5 (l++d::y) 0=qd5 l 0:=by
 have hl:=next_in h0
 have ha:qc2 (l++d::y) 0=qc2 l 0:=by
  unfold qc2 at hl ⊢;rw[List.drop_zero]at hl ⊢;rw[List.drop_zero,runLen_lt _ _ _ (by omega)]
 have EZ:qc2 l 0<(l++d::y).length:=by rw[List.length_append];omega
 unfold qc0 qd5;unfold qc0 at h1;rw[if_pos hl]at h1;rw[ha,if_pos hl,if_pos EZ,if_pos hl,if_pos EZ,List.drop_append_of_le_length (Nat.le_of_lt hl)]
 cases hr:l.drop (qc2 l 0) with
 | nil=>have:=congrArg List.length hr;rw[List.length_drop]at this;simp at this;omega
 | cons c t=>
  rw[hr]at h1;obtain⟨e1,e2⟩:=first_app hd y c t h1;rw[e1,e2];exact⟨rfl,rfl⟩
theorem lx_sp{c:UInt8}(hc:spU c=true){r:List UInt8}{L:List Tk}(h:Lx r L):Lx (c::r) L:=by
 have ha:qc2 (c::r) 0=qc2 r 0+1:=by unfold qc2;simp[qa3,hc]
 have hk:qc0 (c::r) 0=qc0 r 0:=by
  unfold qc0;rw[ha]
  by_cases hl:qc2 r 0<r.length
  ·rw[if_pos hl,if_pos (by simp;omega)];rfl
  ·rw[if_neg hl,if_neg (by simp;omega)]
 have ht:qd5 (c::r) 0=qd5 r 0+1:=by
  unfold qd5;rw[ha]
  by_cases hl:qc2 r 0<r.length
  ·rw[if_pos hl,if_pos (by simp;omega),List.drop_succ_cons];omega
  ·rw[if_neg hl,if_neg (by simp;omega)];simp
 cases h with
 | nil h=>exact .nil (by rw[hk];exact h)
 | cons e h t=>exact .cons (by rw[hk];exact e) h (by rw[ht,List.drop_succ_cons];exact t)
theorem lx_sps{z:List UInt8}{M:List Tk}(h:Lx z M):∀l:List UInt8,l.length<=qa3 spU l->Lx (l++z) M:=by
 intro l
 induction l with
 | nil=>intro _;exact h
 | cons c t ih=>
  intro hl;have hc:qa3 spU (c::t)=if spU c then qa3 spU t+1 else 0:=rfl
  rw[hc]at hl
  by_cases hp:spU c=true
  ·rw[if_pos hp]at hl
   exact lx_sp hp (ih (by simp at hl;omega))
  ·rw[if_neg hp]at hl;simp at hl
theorem jc3{d:UInt8}(hd:Stop d){y:List UInt8}{M:List Tk}(hM:Lx (d::y) M){l:List UInt8}{L:List Tk}(h:Lx l L):(∀k∈L,k.kind≠1)->Lx (l++d::y) (L++M):=by
 induction h with
 | @nil r h=>
  intro _;have:=next_out h;unfold qc2 at this;rw[List.drop_zero]at this;exact lx_sps hM r (by omega)
 | @cons r k L e h t ih=>
  intro hb;obtain⟨e1,e2⟩:=next_app hd y r (by rw[e];exact h) (by rw[e];exact hb k (by simp));refine .cons (by rw[e1];exact e) h ?_;rw[e2,List.drop_append_of_le_length (vn0 r 0)];exact ih (λk hk=>hb k (by simp[hk]))
theorem vv5:∀(n:Nat) (l:List UInt8),l.length<=n->∃L,Lx l L:=by
 intro n
 induction n with
 | zero=>
  intro l hl;have:l=[]:=List.eq_nil_of_length_eq_zero (by omega);subst this;exact⟨[],qw4⟩
 | succ n ih=>
  intro l hl
  by_cases h:qc2 l 0<l.length
  ·have hk:qc0 l 0=qd6 (l.drop (qc2 l 0)):=by unfold qc0;rw[if_pos h]
   have hz:0<qd5 l 0:=by
    unfold qd5;rw[if_pos h];have:=ve9 (l.drop (qc2 l 0)) (by rw[List.length_drop];omega);omega
   obtain⟨L,hL⟩:=ih (l.drop (qd5 l 0)) (by rw[List.length_drop];omega);exact⟨_,.cons rfl (by rw[hk];exact jr1 _) hL⟩
  ·exact⟨[],.nil (by unfold qc0;rw[if_neg h])⟩
theorem stop41:Stop 41:=⟨rfl,rfl,rfl,rfl,rfl⟩
theorem stop32:Stop 32:=⟨rfl,rfl,rfl,rfl,rfl⟩
def ShA:Ast->Prop
 | .leaf p=>0<=p.op/\p.op<=4
 | .un p x=>(p.op=5\/p.op=14\/p.op=15\/p.op=21\/p.op=22\/p.op=23)/\(p.op=21->p.texts≠[])/\(p.op=21\/p.op=22\/p.op=23->opA x=0)/\ShA x
 | .bin p x y=>(6<=p.op/\p.op<=13\/16<=p.op/\p.op<=19)/\ShA x/\ShA y
 | .tri p x y z=>p.op=20/\ShA x/\ShA y/\ShA z
def ndA:Ast->Nat
 | .leaf _=>1
 | .un p x=>1+p.texts.length+ndA x
 | .bin _ x y=>1+ndA x+ndA y
 | .tri _ x y z=>1+ndA x+ndA y+ndA z
theorem opOf_rng(k:Int):6<=ve4 k/\ve4 k<=13\/16<=ve4 k/\ve4 k<=19:=by
 unfold ve4
 have ite':∀{c:Prop} [Decidable c] {a b:Int},(6<=a/\a<=13\/16<=a/\a<=19)->(6<=b/\b<=13\/16<=b/\b<=19)->(6<=(if c then a else b)/\(if c then a else b)<=13\/16<=(if c then a else b)/\(if c then a else b)<=19):=by
  intro c _ a b ha hb
  by_cases h:c
  ·rw[if_pos h];exact ha
  ·rw[if_neg h];exact hb
 repeat refine ite' (by decide) ?_
 decide
def Nd(f:TS->TRes):Prop:=∀ts t ts',f ts=.ok t ts'->ShA t/\ndA t+ts'.toks.length<=ts.toks.length
def NdT(l:Ast)(ts:TS)(t:Ast)(ts':TS):Prop:=ShA l->ShA t/\ndA t+ts'.toks.length<=ndA l+ts.toks.length
theorem qj2{ts:TS}(h:ts.toks≠[]):ts.next.toks.length+1=ts.toks.length:=by
 cases ht:ts.toks with
 | nil=>exact absurd ht h
 | cons a r=>show(ts.toks.tail).length+1=_;rw[ht];rfl
theorem Nd.join{f:TS->TRes}(h:Nd f)(ts:TS)(l t:Ast)(ts':TS)(C1:ts.toks≠[])(he:vh7 f ts l=.ok t ts'):NdT l ts t ts':=by
 intro hl;unfold vh7 at he
 split at he
 ·rename_i hr
  injection he with h1 h2;subst h1 h2;obtain⟨a,b⟩:=h _ _ _ hr;have:=qj2 C1;refine⟨⟨opOf_rng _,hl,a⟩, ?_⟩;show 1+ndA l+_+_<=_;omega
 ·cases he
theorem Nd.loop{f:TS->TRes}(h:Nd f)(ks:List Int)(h0:ks.contains 0=false):∀n l ts t ts',vd8 f ks n l ts=.ok t ts'->NdT l ts t ts':=by
 intro n
 induction n with
 | zero=>intro l ts t ts' he hl;rw[vd8]at he;injection he with h1 h2;subst h1 h2;exact⟨hl,Nat.le_refl _⟩
 | succ n ih=>
  intro l ts t ts' he hl;rw[vd8]at he
  by_cases hc:ks.contains ts.tk.kind=true
  ·rw[if_pos hc]at he
   have C1:ts.toks≠[]:=by
    intro e;have:ts.tk.kind=0:=by unfold TS.tk;rw[e];rfl
    rw[this,h0]at hc;cases hc
   split at he
   ·rename_i hj
    obtain⟨a,b⟩:=h.join _ _ _ _ C1 hj hl;obtain⟨c,d⟩:=ih _ _ _ _ he a;exact⟨c,by omega⟩
   ·cases he
  ·rw[if_neg hc]at he
   injection he with h1 h2;subst h1 h2;exact⟨hl,Nat.le_refl _⟩
theorem Nd.row{f:TS->TRes}(h:Nd f)(ks:List Int)(h0:ks.contains 0=false):Nd (jt0 f ks):=by
 intro ts t ts' he;unfold jt0 at he
 split at he
 ·rename_i hr
  obtain⟨a,b⟩:=h _ _ _ hr;obtain⟨c,d⟩:=h.loop ks h0 _ _ _ _ _ he a;exact⟨c,by omega⟩
 ·cases he
theorem Nd.sign{f:TS->TRes}(h:Nd f)(o:Int)(ho:o=5\/o=14\/o=15)(ts:TS)(t:Ast)(ts':TS)(C1:ts.toks≠[])(he:vh8 f o ts=.ok t ts'):ShA t/\ndA t+ts'.toks.length<=ts.toks.length:=by
 unfold vh8 at he
 split at he
 ·cases he
 ·split at he
  ·rename_i U1 hr
   injection he with h1 h2;subst h1 h2;obtain⟨a,b⟩:=h _ _ _ hr;have:=qj2 C1;refine⟨⟨by simp only;omega,λe=>?_,λe=>?_,a⟩, ?_⟩
   ·simp only at e;omega
   ·simp only at e;omega
   ·show 1+0+_+U1.toks.length<=_
    have e:(tIn ts).toks.length=ts.next.toks.length:=rfl;omega
  ·cases he
theorem Nd.group{f:TS->TRes}(h:Nd f)(ts:TS)(t:Ast)(ts':TS)(he:qz6 f ts=.ok t ts'):ShA t/\ndA t+ts'.toks.length<=ts.toks.length:=by
 unfold qz6 at he
 split at he
 ·cases he
 ·split at he
  ·rename_i U1 hr
   split at he
   ·injection he with h1 h2
    subst h1 h2;obtain⟨a,b⟩:=h _ _ _ hr;have e:(tIn ts).toks.length<=ts.toks.length:=vg3 _;have e2:=vg3 U1.toks;refine⟨a, ?_⟩;show _+U1.toks.tail.length<=_;omega
   ·cases he
  ·cases he
theorem vm7{o n:Int}{s:List UInt8}(ho:0<=o/\o<=4){ts:TS}(C1:ts.toks≠[]):ShA (jp9 o n s)/\ndA (jp9 o n s)+ts.next.toks.length<=ts.toks.length:=by
 have:=qj2 C1;exact⟨ho,by show 1+_<=_;omega⟩
theorem Nd.signed{f g:TS->TRes}(hS:Nd f)(hE:Nd g):Nd (qr0 f g):=by
 intro ts t ts' he;unfold qr0 at he
 by_cases f9:ts.tk.kind=22
 ·rw[if_pos f9]at he;exact hS.sign 14 (by omega) _ _ _ (qc4 (by decide) f9) he
 rw[if_neg f9]at he
 by_cases L9:ts.tk.kind=23
 ·rw[if_pos L9]at he;exact hS.sign 15 (by omega) _ _ _ (qc4 (by decide) L9) he
 rw[if_neg L9]at he
 by_cases S9:ts.tk.kind=26
 ·rw[if_pos S9]at he;exact hE.group _ _ _ he
 rw[if_neg S9]at he
 by_cases h2:ts.tk.kind=2
 ·rw[if_pos h2]at he;injection he with e1 e2;subst e1 e2;exact vm7 (by decide) (qc4 (by decide) h2)
 rw[if_neg h2]at he
 by_cases h3:ts.tk.kind=3
 ·rw[if_pos h3]at he;injection he with e1 e2;subst e1 e2;exact vm7 (by decide) (qc4 (by decide) h3)
 rw[if_neg h3]at he
 by_cases h4:ts.tk.kind=4
 ·rw[if_pos h4]at he;injection he with e1 e2;subst e1 e2;exact vm7 (by decide) (qc4 (by decide) h4)
 rw[if_neg h4]at he
 by_cases h8:ts.tk.kind=8
 ·rw[if_pos h8]at he;injection he with e1 e2;subst e1 e2;exact vm7 (by decide) (qc4 (by decide) h8)
 rw[if_neg h8]at he
 by_cases h9:ts.tk.kind=9
 ·rw[if_pos h9]at he;injection he with e1 e2;subst e1 e2;exact vm7 (by decide) (qc4 (by decide) h9)
 rw[if_neg h9]at he;cases he
theorem nd_isNull(l:Ast)(h0:opA l=0)(ts:TS)(t:Ast)(ts':TS)(C1:ts.toks≠[])(he:tIsNull l ts=.ok t ts'):NdT l ts t ts':=by
 intro hl;have n0:=qj2 C1;unfold tIsNull at he
 by_cases h7:ts.next.tk.kind=7
 ·rw[if_pos h7]at he
  have n1:=qj2 (qc4 (by decide) h7)
  by_cases h15:ts.next.next.tk.kind=15
  ·rw[if_pos h15]at he;injection he with e1 e2;subst e1 e2
   have n2:=qj2 (qc4 (by decide) h15);exact⟨⟨by simp,λe=>by simp at e,λe=>by simp at e,⟨by simp,λe=>by simp at e,λ_=>h0,hl⟩⟩,by show 1+0+(1+0+ndA l)+_<=_;omega⟩
  ·rw[if_neg h15]at he;cases he
 ·rw[if_neg h7]at he
  by_cases h15:ts.next.tk.kind=15
  ·rw[if_pos h15]at he;injection he with e1 e2;subst e1 e2
   have n1:=qj2 (qc4 (by decide) h15);exact⟨⟨by simp,λe=>by simp at e,λ_=>h0,hl⟩,by show 1+0+ndA l+_<=_;omega⟩
  ·rw[if_neg h15]at he;cases he
theorem nd_inLoop(l:Ast)(h0:opA l=0):∀n xs ts t ts',xs≠[]->ShA l->qm9 l n xs ts=.ok t ts'->ShA t/\ndA t+ts'.toks.length<=1+xs.length+ndA l+ts.toks.length:=by
 intro n
 induction n with
 | zero=>intro xs ts t ts' _ _ he;rw[qm9]at he;cases he
 | succ n ih=>
  intro xs ts t ts' hx hl he;rw[qm9]at he
  by_cases h28:ts.tk.kind=28
  ·rw[if_pos h28]at he
   have n1:=qj2 (qc4 (by decide) h28)
   by_cases h4:ts.next.tk.kind=4
   ·rw[if_pos h4]at he
    have n2:=qj2 (qc4 (by decide) h4);obtain⟨a,b⟩:=ih _ _ _ _ (by simp) hl he;refine⟨a, ?_⟩;rw[List.length_append]at b;simp only[List.length_singleton]at b;omega
   ·rw[if_neg h4]at he;cases he
  ·rw[if_neg h28]at he
   by_cases h27:ts.tk.kind=27
   ·rw[if_pos h27]at he;injection he with e1 e2;subst e1 e2
    have n1:=qj2 (qc4 (by decide) h27);exact⟨⟨by simp,λ_=>hx,λ_=>h0,hl⟩,by show 1+xs.length+ndA l+_<=_;omega⟩
   ·rw[if_neg h27]at he;cases he
theorem nd_in(l:Ast)(h0:opA l=0)(ts:TS)(t:Ast)(ts':TS)(C1:ts.toks≠[])(he:tInRes l ts=.ok t ts'):NdT l ts t ts':=by
 intro hl;have n0:=qj2 C1;unfold tInRes at he
 by_cases S9:ts.next.tk.kind=26
 ·rw[if_pos S9]at he
  have n1:=qj2 (qc4 (by decide) S9)
  by_cases h4:ts.next.next.tk.kind=4
  ·rw[if_pos h4]at he
   have n2:=qj2 (qc4 (by decide) h4);obtain⟨a,b⟩:=nd_inLoop l h0 _ _ _ _ _ (by simp) hl he;simp only[List.length_singleton]at b;exact⟨a,by omega⟩
  ·rw[if_neg h4]at he;cases he
 ·rw[if_neg S9]at he;cases he
theorem nd_like(l:Ast)(h0:opA l=0)(ts:TS)(t:Ast)(ts':TS)(C1:ts.toks≠[])(he:tLike l ts=.ok t ts'):NdT l ts t ts':=by
 intro hl;have n0:=qj2 C1;have n1:=qc6 ts.next;have n2:=qc6 ts.next.next;have n3:=qc6 ts.next.next.next;unfold tLike at he
 split at he
 ·split at he
  ·split at he
   ·injection he with e1 e2;subst e1 e2
    exact⟨⟨by simp,λe=>by simp at e,λ_=>h0,hl⟩,by show 1+0+ndA l+_<=_;omega⟩
   ·cases he
  ·injection he with e1 e2;subst e1 e2
   exact⟨⟨by simp,λe=>by simp at e,λ_=>h0,hl⟩,by show 1+0+ndA l+_<=_;omega⟩
 ·cases he
theorem Nd.between{f:TS->TRes}(h:Nd f)(l:Ast)(ts:TS)(t:Ast)(ts':TS)(he:qn5 f l ts=.ok t ts'):NdT l ts t ts':=by
 intro hl;unfold qn5 at he
 by_cases h10:ts.tk.kind=10
 ·rw[if_pos h10]at he
  have n0:=qj2 (qc4 (by decide) h10)
  split at he
  ·rename_i U1 e1
   obtain⟨a,b⟩:=h _ _ _ e1
   split at he
   ·split at he
    ·rename_i e2
     obtain⟨c,d⟩:=h _ _ _ e2;have n1:=qc6 U1;injection he with e3 e4;subst e3 e4;exact⟨⟨rfl,hl,a,c⟩,by show 1+ndA l+_+_+_<=_;omega⟩
    ·cases he
   ·cases he
  ·cases he
 ·rw[if_neg h10]at he;cases he
theorem Nd.keyword{f:TS->TRes}(h:Nd f)(bare:Bool)(l:Ast)(hb:bare=true->opA l=0)(ts:TS)(t:Ast)(ts':TS)(he:qj8 f bare l ts=.ok t ts'):NdT l ts t ts':=by
 unfold qj8 at he
 split at he
 ·rename_i g;exact nd_in _ (hb g.2) _ _ _ (qc4 (by decide) g.1) he
 split at he
 ·rename_i g;exact nd_like _ (hb g.2) _ _ _ (qc4 (by decide) g.1) he
 ·exact h.between _ _ _ _ he
theorem Nd.test{f:TS->TRes}(h:Nd f):Nd (vq8 f):=by
 intro ts t ts' he;unfold vq8 at he
 split at he
 ·rename_i U1 hr
  obtain⟨a,b⟩:=h _ _ _ hr
  suffices hs:∀l,ShA l->vq7 f (ts.tk.kind==2&&opA l==0) l U1=.ok t ts'->NdT l U1 t ts' by
   obtain⟨c,d⟩:=hs _ a he a;exact⟨c,by omega⟩
  intro l hl he;have hJ:(ts.tk.kind==2&&opA l==0)=true->opA l=0:=λe=>by simp only[Bool.and_eq_true,beq_iff_eq]at e;exact e.2
  unfold vq7 at he
  split at he
  ·rename_i g
   refine h.join _ _ _ _ ?_ he;rcases g with e|e|e|e|e|e<;>exact qc4 (by decide) e
  split at he
  ·rename_i g
   split at he
   ·rename_i gb;exact nd_isNull _ (hJ gb) _ _ _ (qc4 (by decide) g) he
   ·injection he with e1 e2;subst e1 e2;exact λ_=>⟨hl,Nat.le_refl _⟩
  split at he
  ·rename_i g
   have n0:=qj2 (qc4 (by decide) g)
   split at he
   ·rename_i hk
    injection he with e1 e2;subst e1 e2;intro hl;obtain⟨c,d⟩:=h.keyword _ _ hJ _ _ _ hk hl;exact⟨⟨by simp,λe=>by simp at e,λe=>by simp at e,c⟩,by show 1+0+_+_<=_;omega⟩
   ·cases he
  split at he
  ·exact h.keyword _ _ hJ _ _ _ he
  ·injection he with e1 e2;subst e1 e2;exact λ_=>⟨hl,Nat.le_refl _⟩
 ·cases he
theorem Nd.denied{fD fT:TS->TRes}(hD:Nd fD)(hT:Nd fT):Nd (qs1 fD fT):=by
 intro ts t ts' he;unfold qs1 at he
 split at he
 ·rename_i g;exact hD.sign 5 (by omega) _ _ _ (qc4 (by decide) g) he
 ·exact hT _ _ _ he
structure Nd3(L:T3):Prop where
 S:Nd L.S
 D:Nd L.D
 E:Nd L.E
theorem nd_up{L:T3}(h:Nd3 L):Nd3 (tUp L):=by
 have hS:=Nd.signed h.S h.E;have hT:=((hS.row [24,25] rfl).row [22,23] rfl).test;have hD:=Nd.denied h.D hT;exact⟨hS,hD,(hD.row [5] rfl).row [6] rfl⟩
theorem nd_lvl:∀d,Nd3 (tLvl d):=by
 intro d
 induction d with
 | zero=>exact nd_up ⟨(λ_ _ _ h=>by cases h),(λ_ _ _ h=>by cases h),(λ_ _ _ h=>by cases h)⟩
 | succ d ih=>exact nd_up ih
theorem lx_len{l:List UInt8}{L:List Tk}(h:Lx l L):L.length<=l.length:=by
 induction h with
 | nil _=>exact Nat.zero_le _
 | @cons r k L e h t ih=>
  have hl:=next_in (l:=r) (by rw[e];exact h)
  have hz:0<qd5 r 0:=by
   unfold qd5;rw[if_pos hl];have:=ve9 (r.drop (qc2 r 0)) (by rw[List.length_drop];omega);omega
  have:=vn0 r 0;rw[List.length_drop]at ih;simp only[List.length_cons];omega
theorem js7:∀t,ShA (qm5 t)->ShA t:=by
 intro t
 induction t with
 | leaf p=>exact λh=>h
 | un p x ih=>exact λh=>⟨h.1,h.2.1,λe=>by rw[←jd4];exact h.2.2.1 e,ih h.2.2.2⟩
 | bin p x y ihx ihy=>exact λh=>⟨h.1,ihx h.2.1,ihy h.2.2⟩
 | tri p x y z ihx ihy ihz=>exact λh=>⟨h.1,ihx h.2.1,ihy h.2.2.1,ihz h.2.2.2⟩
theorem nd_erase:∀t,ndA (qm5 t)=ndA t:=by
 intro t
 induction t with
 | leaf p=>rfl
 | un p x ih=>show 1+_+ndA (qm5 x)=_;rw[ih];rfl
 | bin p x y ihx ihy=>show 1+ndA (qm5 x)+ndA (qm5 y)=_;rw[ihx,ihy];rfl
 | tri p x y z ihx ihy ihz=>show 1+ndA (qm5 x)+ndA (qm5 y)+ndA (qm5 z)=_;rw[ihx,ihy,ihz];rfl
theorem toks_read{s:ByteArray}{t:Ast}(h:qg4 s=.ok t):s.size<=200/\∃L ts,Lx s.data.toList L/\(tLvl 12).E ⟨L,0⟩=.ok (qm5 t) ts:=by
 unfold qg4 at h
 by_cases hs:s.size<=200
 ·rw[if_pos hs]at h
  refine⟨hs, ?_⟩;obtain⟨L,hL⟩:=vv5 _ s.data.toList (Nat.le_refl _);have N0:Str s (j4 s st0) L:=vp9 hL st0 (Nat.zero_le _) (List.drop_zero);have J7:=qa7 s st0 (Nat.zero_le _);have gE:=(jp8 s 12).E (j4 s st0) ⟨L,0⟩ J7 N0 rfl;rcases gE.cases with⟨t1,st,ts,e1,e2,e3,e4,e5⟩|⟨en,pl,e1,e2⟩
  ·rw[e1]at h
   change jh3 t1 st=_ at h
   unfold jh3 at h
   by_cases hk:st.tk.kind=0
   ·rw[if_pos hk]at h
    cases hc:zb3 (qb3 t1) with
    | some q=>rw[hc]at h;cases h
    | none=>
     rw[hc]at h;injection h with h;subst h;exact⟨L,ts,hL,e2⟩
   ·rw[if_neg hk]at h;cases h
  ·rw[e1]at h;cases h
 ·rw[if_neg hs]at h;cases h
theorem vy6{s:ByteArray}{t:Ast}(h:qg4 s=.ok t):ShA t/\ndA t<=200:=by
 obtain⟨hs,L,ts,hL,hr⟩:=toks_read h;obtain⟨a,b⟩:=(nd_lvl 12).E _ _ _ hr;have:=lx_len hL;rw[qa5]at this;rw[nd_erase]at b;refine⟨js7 t a, ?_⟩;show ndA t<=200;have e:(⟨L,0⟩:TS).toks.length=L.length:=rfl;omega
end Go.Proofs.YtfkcaldjphakpaaGreatDoor
