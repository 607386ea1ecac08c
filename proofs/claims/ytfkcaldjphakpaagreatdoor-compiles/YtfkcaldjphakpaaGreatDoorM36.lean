/- The document's answer. -/
import Derived.Test.YtfkcaldjphakpaaGreatDoorM29
import Derived.Test.YtfkcaldjphakpaaGreatDoorM42
namespace Go.Proofs.YtfkcaldjphakpaaGreatDoor
open Go.RowKit Go.Proofs.Tryz
section
attribute [local go_sem ↓] qe4
set_option maxHeartbeats 4000000 in
theorem rhas_any{w:World}{base:Nat}{v:Value}{ts:List (List UInt8)}(h:TwRow w base v ts)(C7:ts.length<=1000000000000)(t:List UInt8):Calls prog 180 #[v,.string (BS t)] w λe w'=>e=.returned (.bool (ts.contains t))/\w'=w:=by
 have hf:∃a c,v=.slice a ts.length c:=by
  rcases h.2 with⟨rfl,h0⟩|⟨g,cap,cur,rfl,_⟩
  ·exact⟨none,0,by rw[h0]⟩
  ·exact⟨_,_,rfl⟩
 obtain⟨a,c,rfl⟩:=hf;have H:=j3 h;obtain⟨n,hn⟩:∃n,ts.length=n:=⟨_,rfl⟩;rw[hn]at H C7 ⊢;have HN:=j3 hn;obtain⟨R,iD⟩:∃R,ts.contains t=R:=⟨_,rfl⟩;rw[iD];have HR:=j3 iD;clear h hn iD;go_enter func180,ntmps180
 go_wp2_with fail
 go_loopw [5] (λi wr=>∃k:Nat,k<=n/\i=.int .i64 k/\wr=w/\Hid (∀j,j<k->ts[j]?≠some t)) (λi _=>n - (intOf i).toNat)
 case atStart=>exact⟨0,Nat.zero_le _,rfl,rfl,j3 λj hj=>by omega⟩
 case round=>
  obtain⟨k,hk,rfl,rfl,HJ⟩:=hrel
  by_cases A1:k<n
  ·obtain⟨u,hu⟩:∃u,ts[k]?=some u:=⟨_,List.getElem?_eq_getElem (by have:=q9 HN;omega)⟩
   obtain⟨g,cap,e,_,hg,hc⟩:=TwRow.cell (show TwRow wr base (.slice a ts.length c) ts by rw[q9 HN];exact q9 H) hu;injection e with e _ _;subst e;have R0:(0:Int)<=(k:Int):=by omega
   have A0:(k:Int)<(n:Int):=by omega
   by_cases he:u=t
   ·have hq:((BS u).toList==(BS t).toList)=true:=by rw[he];exact beq_self_eq_true _
    have hR:Hid (R=true):=j3 (by rw[←q9 HR,List.contains_iff_mem,←he];exact List.mem_of_getElem? hu);clear hu he
    go_wp2_with fail
    go_ret;exact⟨by rw[q9 hR];rfl,rfl⟩
   ·have hq:((BS u).toList==(BS t).toList)=false:=by rw[qc9,qc9];exact beq_eq_false_iff_ne.2 he
    have PI:Hid (∀j,j<k+1->ts[j]?≠some t):=j3 λj hj e=>by
     by_cases hjk:j=k
     ·rw[hjk,hu]at e;injection e with e;exact he e
     ·exact q9 HJ j (by omega) e
    clear hu he
    go_wp2_with fail
    go_roundw
    case rel=>exact⟨k+1,A1,by go_num,by first|rfl|trivial,PI⟩
    case measure=>simp[intOf];omega
  ·have Y9:k=n:=by omega
   have hR:Hid (R=false):=j3 (by
    rw[←q9 HR]
    cases hc:ts.contains t with
    | false=>rfl
    | true=>
     rw[List.contains_iff_mem]at hc;obtain⟨j,hj⟩:=List.getElem?_of_mem hc
     exact absurd hj (q9 HJ j (by have:=(List.getElem?_eq_some_iff.1 hj).1;have:=q9 HN;omega)))
   have yE:¬(k:Int)<(n:Int):=by omega
   go_wp2_with fail
   go_ret;exact⟨by rw[q9 hR];rfl,rfl⟩
theorem TwRow.app2{W:World}{base:Nat}{v:Value}{ts:List (List UInt8)}(h:TwRow W base v ts)(hb:base<=W.heap.size)(x:List UInt8)(hn:ts.length<=1000000000000)(H:Nat)(hH:W.heap.size=H):
  ∃g cap w5,(vz2 #[62,62] 62 #[v,.slice (some ⟨H,0,none⟩) 1 1]).run prog (W.alloc (.cells #[.string (BS x)] 9))=.ok (.slice (some ⟨g,0,none⟩) (ts.length+1) cap) w5 /\
   Hid (TwRow w5 base (.slice (some ⟨g,0,none⟩) (ts.length+1) cap) (ts++[x]))/\Hid (Below base W w5)/\Hid (∀b,b<W.heap.size->v.ownBlock≠some b->w5.heap[b]?=W.heap[b]?)/\Hid (v.ownBlock=some g\/W.heap.size<g)/\Hid (W.heap.size<=w5.heap.size):=by
 subst hH;obtain⟨i0,hi,I8,C8,F8⟩:=info_parts vm0;have ha:=World.ownsRow.alloc h (.cells #[.string (BS x)] 9);obtain⟨g,cap,w5,hr,C2,B7,F0,_⟩:=run_append_lies (P:=prog) (W.alloc (.cells #[.string (BS x)] 9)) 62 62 base 9 i0 _ 1 16 underlying62 hi I8 C8 F8 rfl (by omega) v ts.length _ ha
  ⟨W.heap.size,0,none⟩ 1 1 [.string (BS x)] rfl (World.news_of_block (cs:=#[.string (BS x)]) (t:=9) (fr:=(0,0)) (heap_alloc_new W _)) (by simp[Value.oneCell']) (by omega) (by unfold maxLen;omega) (by omega) (by simp;omega) _ rfl
 refine⟨g,cap,w5,hr,j3 ?_,j3 ?_,j3 ?_,j3 ?_,j3 ?_⟩
 ·show World.ownsRow _ _ _ _ _ _ _
  rw[List.length_append,List.length_singleton,qa1,List.map_append];exact C2
 ·exact Go.RowKit.Below.grown (((Below.refl base W).alloc hb _)) B7 (by simp;omega) (λk hk=>(ha.lt k hk).1)
 ·intro b T9 C1
  exact(B7.block b (by simp;omega) (λe=>C1 e.symm)).trans (((Below.refl W.heap.size W).alloc (Nat.le_refl _) _).block b T9)
 ·rcases F0 with h|h
  ·exact .inl h
  ·right;rw[h];simp
 ·have:=B7.size;simp at this;omega
end
section
def qw1(p:Pay):List Co->Co
 | []=>.leaf (qt4 p)
 | [x]=>if p.op==14 then j9 16 (qz1 0) x else if p.op==15 then j9 17 (qz1 0) x else if p.op==5 then qd8 x
   else if p.op==21 then qh1 x p.texts else .un (qt4 p) x
 | [x,y]=>if p.op==12 then j9 10 y x else if p.op==13 then j9 11 y x else if p.op==9 then qd8 (j9 8 x y) else j9 p.op x y
 | x::y::z::_=>j9 6 (j9 11 y x) (j9 11 x z)
def nC:Co:=.leaf (qa0 3)
def argC(cs:List Co)(n:RN):List Co:=n.ins.map λk=>cs.getD k nC
def vw1(cs:List Co)(n:RN):Co:=if n.neg=true then qd8 (qw1 (jx1 n) (argC cs n)) else qw1 (jx1 n) (argC cs n)
def qx5:List Co->List RN->List Co
 | cs,[]=>cs
 | cs,n::t=>qx5 (cs++[vw1 cs n]) t
theorem vd2(cs:List Co)(l k:List RN):qx5 cs (l++k)=qx5 (qx5 cs l) k:=by
 induction l generalizing cs with
 | nil=>rfl
 | cons n t ih=>rw[List.cons_append,qx5,qx5];exact ih _
theorem runK_len:∀(l:List RN) (cs:List Co),(qx5 cs l).length=cs.length+l.length:=by
 intro l
 induction l with
 | nil=>intro cs;rfl
 | cons n t ih=>intro cs;rw[qx5,ih];simp;omega
theorem runK_take{ns:List RN}{k:Nat}{n:RN}{cs:List Co}(hn:ns[k]?=some n)(hv:qx5 [] (ns.take k)=cs):qx5 [] (ns.take (k+1))=cs++[vw1 cs n]:=by
 rw[List.take_add_one,hn,vd2,hv];rfl
theorem qt1:∀c,WfC c->(qa6 c).length<=(x9 c).length+1:=by
 intro c
 induction c with
 | leaf p=>intro _;simp[qa6]
 | un p x ih=>
  intro h;have h1:=ih h.2
  have h2:(x9 x).length+1<=(x9 (.un p x)).length:=by
   show _<=(qb1 p (x9 x) []).length;have hu:=h.1;unfold unB at hu;simp only[Bool.or_eq_true,beq_iff_eq]at hu;rcases hu with(e|e)|e<;>(unfold qb1;simp[e]<;>omega)
  simp[qa6];omega
 | bin p x y ihx ihy=>
  intro h;have h1:=ihx h.2.1;have h2:=ihy h.2.2;have h3:=qj0 h.1 x y;simp[qa6];omega
structure Gc(c:Co):Prop where
 len:(x9 c).length<=120000000
 un:uC c<=200
 wt:WT c
theorem Gc.sz{c:Co}(h:Gc c):SzC c:=⟨by have:=h.len;have:=h.un;omega,by have:=h.len;have:=h.un;have:=qt1 c h.wt.wf;omega⟩
theorem Gc.big{c:Co}(h:Gc c):qv7 c:=h.sz.big
theorem two_bin{o:Int}(h:qe8 o):binB o=true/\qk8 o=false/\unB o=false:=by
 rcases h with rfl|rfl|rfl|rfl|rfl|rfl|rfl|rfl|rfl<;>exact⟨rfl,rfl,rfl⟩
theorem sign_len3(o:Int):(qi6 o).length<=3:=by
 unfold qi6
 repeat' split
 all_goals simp
theorem qk1{o:Int}(ho:qe8 o){x y:Co}(hx:WT x)(hy:WT y)(ht:o=6\/o=7->Tb x/\Tb y):WT (j9 o x y):=by
 unfold j9
 split
 ·exact⟨ho,λh=>⟨(ht h).2,(ht h).1⟩,hy,hx⟩
 ·exact⟨ho,ht,hx,hy⟩
theorem op_pair(o:Int)(x y:Co):opC (j9 o x y)=o:=by
 unfold j9
 split<;>rfl
theorem qn1{o:Int}(h:o=6\/o=7\/o=8\/o=10\/o=11)(x y:Co):Tb (j9 o x y):=by
 right
 rw[op_pair];rcases h with rfl|rfl|rfl|rfl|rfl<;>rfl
theorem wt_not:∀{c:Co},WT c->Tb c->WT (qd8 c)/\Tb (qd8 c):=by
 intro c
 induction c with
 | leaf p=>
  intro h ht;unfold qd8
  split
  ·exact⟨⟨by decide,by decide⟩,.inr rfl⟩
  ·split
   ·exact⟨⟨by decide,by decide⟩,.inr rfl⟩
   ·exact⟨⟨.inl rfl,λ_=>ht,h⟩,.inr rfl⟩
 | un p x ih=>
  intro h ht;unfold qd8
  split
  ·rename_i h5
   simp only[Bool.and_eq_true,beq_iff_eq]at h5;exact⟨h.2.2,h.2.1 h5.1⟩
  ·exact⟨⟨.inl rfl,λ_=>ht,h⟩,.inr rfl⟩
 | bin p x y ihx ihy=>
  intro h ht
  have two:∀o,o=6\/o=7->(p.op=6\/p.op=7)->WT (j9 o (qd8 x) (qd8 y))/\Tb (j9 o (qd8 x) (qd8 y)):=λo ho hp=>by
   obtain⟨tx,ty⟩:=h.2.1 hp;obtain⟨a,b⟩:=ihx h.2.2.1 tx;obtain⟨c,d⟩:=ihy h.2.2.2 ty;exact⟨qk1 (by unfold qe8;omega) a c (λ_=>⟨b,d⟩),qn1 (by omega) _ _⟩
  unfold qd8
  split
  ·rename_i e;exact two 7 (.inr rfl) (.inl (eq_of_beq e))
  ·split
   ·rename_i e;exact two 6 (.inl rfl) (.inr (eq_of_beq e))
   ·split
    ·exact⟨qk1 (by unfold qe8;omega) h.2.2.2 h.2.2.1 (by omega),qn1 (by omega) _ _⟩
    ·split
     ·exact⟨qk1 (by unfold qe8;omega) h.2.2.2 h.2.2.1 (by omega),qn1 (by omega) _ _⟩
     ·exact⟨⟨.inl rfl,λ_=>ht,h⟩,.inr rfl⟩
theorem wt_text(t:List UInt8):WT (qd4 t):=⟨by show(0:Int)<=2;decide,by show(2:Int)<=4;decide⟩
theorem wt_num(n:Int):WT (qz1 n):=⟨by show(0:Int)<=1;decide,by show(1:Int)<=4;decide⟩
theorem wt_eq{x:Co}(hx:WT x)(t:List UInt8):WT (j9 8 x (qd4 t))/\Tb (j9 8 x (qd4 t)):=⟨qk1 (by unfold qe8;omega) hx (wt_text t) (by omega),qn1 (by omega) _ _⟩
theorem wt_orAll{x:Co}(hx:WT x):∀(r:List (List UInt8)) (f:Co),WT f->Tb f->WT (qm8 x f r)/\Tb (qm8 x f r):=by
 intro r
 induction r with
 | nil=>intro f h1 h2;exact⟨h1,h2⟩
 | cons t r ih=>
  intro f h1 h2;obtain⟨a,b⟩:=wt_eq hx t;exact ih _ (qk1 (by unfold qe8;omega) h1 a (λ_=>⟨h2,b⟩)) (qn1 (by omega) _ _)
theorem wt_among{x:Co}(hx:WT x){ts:List (List UInt8)}(hn:ts≠[]):WT (qh1 x ts)/\Tb (qh1 x ts):=by
 unfold qh1
 cases h:qe5 ts with
 | nil=>exact absurd h (vj1 hn)
 | cons t r=>
  obtain⟨a,b⟩:=wt_eq hx t;exact wt_orAll hx r _ a b
theorem jj6{want pl c k:Int}{rs:List CRes}(h:qt7 want pl c rs=.ok k):k=c:=by
 unfold qt7 at h
 split at h
 ·injection h with h;exact h.symm
 ·cases h
theorem cls_un{p:Pay}{x:Ast}{k:Int}(hs:ShA (.un p x))(hc:qb3 (.un p x)=.ok k):∃d,qb3 x=.ok d/\(p.op=5->d=3\/d=0):=by
 have hc:qg1 p.op p.place [qb3 x]=.ok k:=hc;rcases hs.1 with e|e|e|e|e|e
 ·rw[e]at hc
  obtain⟨d,h1,h2⟩:=qg6 (show qt7 3 p.place 3 [qb3 x]=.ok k from hc) (qb3 x) (by simp);exact⟨d,h1,λ_=>h2⟩
 ·rw[e]at hc
  obtain⟨d,h1,_⟩:=qg6 (show qt7 1 p.place 1 [qb3 x]=.ok k from hc) (qb3 x) (by simp);exact⟨d,h1,λh=>by omega⟩
 ·rw[e]at hc
  obtain⟨d,h1,_⟩:=qg6 (show qt7 1 p.place 1 [qb3 x]=.ok k from hc) (qb3 x) (by simp);exact⟨d,h1,λh=>by omega⟩
 all_goals
  obtain⟨q,rfl,jU⟩:=qn8 hs.2.2.2 (hs.2.2.1 (by omega));exact⟨0,by show qg1 q.op q.place []=.ok 0;rw[jU];rfl,λ_=>.inr rfl⟩
theorem cls_bin{p:Pay}{x y:Ast}{k:Int}(hs:ShA (.bin p x y))(hc:qb3 (.bin p x y)=.ok k):∃d e,qb3 x=.ok d/\qb3 y=.ok e/\(p.op=6\/p.op=7->(d=3\/d=0)/\(e=3\/e=0)):=by
 have hc:qg1 p.op p.place [qb3 x,qb3 y]=.ok k:=hc
 have dm:∀w k',qt7 w p.place k' [qb3 x,qb3 y]=.ok k->∃d e,qb3 x=.ok d/\qb3 y=.ok e/\(d=w\/d=0)/\(e=w\/e=0):=λw k' h=>by
  obtain⟨d,h1,h2⟩:=qg6 h (qb3 x) (by simp);obtain⟨e,h3,h4⟩:=qg6 h (qb3 y) (by simp);exact⟨d,e,h1,h3,h2,h4⟩
 have d1:∀k',qt7 1 p.place k' [qb3 x,qb3 y]=.ok k->¬(p.op=6\/p.op=7)->∃d e,qb3 x=.ok d/\qb3 y=.ok e/\(p.op=6\/p.op=7->(d=3\/d=0)/\(e=3\/e=0)):=λk' h hn=>by
  obtain⟨d,e,h1,h2,_⟩:=dm 1 k' h;exact⟨d,e,h1,h2,λh=>absurd h hn⟩
 have al:qq1 p.place (qb3 x) (qb3 y)=.ok k->¬(p.op=6\/p.op=7)->∃d e,qb3 x=.ok d/\qb3 y=.ok e/\(p.op=6\/p.op=7->(d=3\/d=0)/\(e=3\/e=0)):=λh hn=>by
  obtain⟨⟨d,h1⟩,e,h2⟩:=vi0 h;exact⟨d,e,h1,h2,λh=>absurd h hn⟩
 rcases(show p.op=6\/p.op=7\/p.op=8\/p.op=9\/p.op=10\/p.op=11\/p.op=12\/p.op=13\/p.op=16\/p.op=17\/p.op=18\/p.op=19 by have:=hs.1;omega) with e|e|e|e|e|e|e|e|e|e|e|e<;>rw[e]at hc
 ·obtain⟨d,f,h1,h2,h3⟩:=dm 3 3 hc;exact⟨d,f,h1,h2,λ_=>h3⟩
 ·obtain⟨d,f,h1,h2,h3⟩:=dm 3 3 hc;exact⟨d,f,h1,h2,λ_=>h3⟩
 ·exact al hc (by omega)
 ·exact al hc (by omega)
 ·exact d1 3 hc (by omega)
 ·exact d1 3 hc (by omega)
 ·exact d1 3 hc (by omega)
 ·exact d1 3 hc (by omega)
 ·exact d1 1 hc (by omega)
 ·exact d1 1 hc (by omega)
 ·exact d1 1 hc (by omega)
 ·exact d1 1 hc (by omega)
theorem cls_tri{p:Pay}{x y z:Ast}{k:Int}(hs:ShA (.tri p x y z))(hc:qb3 (.tri p x y z)=.ok k):(∃d,qb3 x=.ok d)/\(∃d,qb3 y=.ok d)/\∃d,qb3 z=.ok d:=by
 have hc:qg1 p.op p.place [qb3 x,qb3 y,qb3 z]=.ok k:=hc;rw[hs.1]at hc;have hc:qt7 1 p.place 3 [qb3 x,qb3 y,qb3 z]=.ok k:=hc;obtain⟨d1,x1,_⟩:=qg6 hc (qb3 x) (by simp);obtain⟨d2,y1,_⟩:=qg6 hc (qb3 y) (by simp);obtain⟨d3,z1,_⟩:=qg6 hc (qb3 z) (by simp);exact⟨⟨_,x1⟩,⟨_,y1⟩,_,z1⟩
theorem wt_core:∀t,ShA t->∀k,qb3 t=.ok k->WT (j8 t)/\(k=3\/k=0->Tb (j8 t)):=by
 intro t
 induction t with
 | leaf p=>
  intro hs k hc;refine⟨⟨hs.1,hs.2⟩,λhk=>?_⟩;have hc:qg1 p.op p.place []=.ok k:=hc;show p.op=0\/ji9 p.op=1;have h1:=hs.1;have h2:=hs.2;rcases(show p.op=0\/p.op=1\/p.op=2\/p.op=3\/p.op=4 by omega) with e|e|e|e|e<;>rw[e]at hc ⊢
  ·exact .inl rfl
  ·simp[qg1]at hc;omega
  ·simp[qg1]at hc;omega
  ·exact .inr rfl
  ·exact .inr rfl
 | un p x ih=>
  intro hs k hc;obtain⟨d,hd,h5⟩:=cls_un hs hc;obtain⟨hx,tx⟩:=ih hs.2.2.2 d hd;have hc:qg1 p.op p.place [qb3 x]=.ok k:=hc;rcases hs.1 with e|e|e|e|e|e
  ·rw[show j8 (.un p x)=qd8 (j8 x) by rw[j8,e];rfl]
   have:=wt_not hx (tx (h5 e));exact⟨this.1,λ_=>this.2⟩
  ·rw[show j8 (.un p x)=j9 16 (qz1 0) (j8 x) by rw[j8,e];rfl]
   rw[e]at hc;have:=jj6 (show qt7 1 p.place 1 [qb3 x]=.ok k from hc);exact⟨qk1 (by unfold qe8;omega) (wt_num 0) hx (by omega),by omega⟩
  ·rw[show j8 (.un p x)=j9 17 (qz1 0) (j8 x) by rw[j8,e];rfl]
   rw[e]at hc;have:=jj6 (show qt7 1 p.place 1 [qb3 x]=.ok k from hc);exact⟨qk1 (by unfold qe8;omega) (wt_num 0) hx (by omega),by omega⟩
  ·rw[show j8 (.un p x)=qh1 (j8 x) p.texts by rw[j8,e];rfl]
   have:=wt_among hx (hs.2.1 e);exact⟨this.1,λ_=>this.2⟩
  ·rw[show j8 (.un p x)=.un (qt4 p) (j8 x) by rw[j8,e];rfl]
   exact⟨⟨.inr (.inl e),λh=>absurd (show p.op=5 from h) (by omega),hx⟩,λ_=>.inr (by show ji9 p.op=1;rw[e];rfl)⟩
  ·rw[show j8 (.un p x)=.un (qt4 p) (j8 x) by rw[j8,e];rfl]
   exact⟨⟨.inr (.inr e),λh=>absurd (show p.op=5 from h) (by omega),hx⟩,λ_=>.inr (by show ji9 p.op=1;rw[e];rfl)⟩
 | bin p x y ihx ihy=>
  intro hs k hc;obtain⟨d,e,h1,h2,h3⟩:=cls_bin hs hc;obtain⟨hx,tx⟩:=ihx hs.2.1 d h1;obtain⟨hy,ty⟩:=ihy hs.2.2 e h2
  by_cases F9:p.op=12
  ·rw[show j8 (.bin p x y)=j9 10 (j8 y) (j8 x) by rw[j8,F9];rfl]
   exact⟨qk1 (by unfold qe8;omega) hy hx (by omega),λ_=>qn1 (by omega) _ _⟩
  by_cases h13:p.op=13
  ·rw[show j8 (.bin p x y)=j9 11 (j8 y) (j8 x) by rw[j8,h13];rfl]
   exact⟨qk1 (by unfold qe8;omega) hy hx (by omega),λ_=>qn1 (by omega) _ _⟩
  by_cases h9:p.op=9
  ·rw[show j8 (.bin p x y)=qd8 (j9 8 (j8 x) (j8 y)) by rw[j8,h9];rfl]
   have:=wt_not (qk1 (by unfold qe8;omega) hx hy (by omega)) (qn1 (o:=8) (by omega) (j8 x) (j8 y));exact⟨this.1,λ_=>this.2⟩
  rw[show j8 (.bin p x y)=j9 p.op (j8 x) (j8 y) by rw[j8,if_neg (by simpa using F9),if_neg (by simpa using h13),if_neg (by simpa using h9)]];refine⟨qk1 (by have:=hs.1;unfold qe8;omega) hx hy λh=>⟨tx (h3 h).1,ty (h3 h).2⟩,λhk=>qn1 ?_ _ _⟩;have ho:=hs.1
  by_cases h16:16<=p.op
  ·have hc:qg1 p.op p.place [qb3 x,qb3 y]=.ok k:=hc
   have:qt7 1 p.place 1 [qb3 x,qb3 y]=.ok k:=by
    rcases(show p.op=16\/p.op=17\/p.op=18\/p.op=19 by omega) with e|e|e|e<;>(rw[e]at hc;exact hc)
   have:=jj6 this;omega
  ·omega
 | tri p x y z ihx ihy ihz=>
  intro hs k hc;obtain⟨⟨_,h1⟩,⟨_,h2⟩,_,h3⟩:=cls_tri hs hc;have hx:=(ihx hs.2.1 _ h1).1;have hy:=(ihy hs.2.2.1 _ h2).1;have hz:=(ihz hs.2.2.2 _ h3).1;exact⟨qk1 (by unfold qe8;omega) (qk1 (by unfold qe8;omega) hy hx (by omega)) (qk1 (by unfold qe8;omega) hx hz (by omega)) (λ_=>⟨qn1 (by omega) _ _,qn1 (by omega) _ _⟩),λ_=>qn1 (by omega) _ _⟩
def GcA:Ast->Prop
 | .leaf p=>Gc (j8 (.leaf p))
 | .un p x=>Gc (j8 (.un p x))/\(p.op=5->Tb (j8 x))/\(p.op=21->(x9 (j8 x)).length<=402/\p.texts≠[]/\∀t∈p.texts,t.length<=200)/\GcA x
 | .bin p x y=>Gc (j8 (.bin p x y))/\GcA x/\GcA y
 | .tri p x y z=>Gc (j8 (.tri p x y z))/\GcA x/\GcA y/\GcA z
theorem GcA.gc{t:Ast}(h:GcA t):Gc (j8 t):=by
 cases t with
 | leaf p=>exact h
 | un p x=>exact h.1
 | bin p x y=>exact h.1
 | tri p x y z=>exact h.1
theorem vi4{t:Ast}(h:Gd t)(hn:ndA t<=200)(hs:ShA t){k:Int}(hc:qb3 t=.ok k):Gc (j8 t):=by
 refine⟨?_,Nat.le_trans h.un hn,(wt_core t hs k hc).1⟩;have h1:=h.len;have h2:ndA t * ndA t<=200 * 200:=Nat.mul_le_mul hn hn;omega
theorem gcA_every:∀t,GdA t->ndA t<=200->ShA t->vg4 t->vg5 t->BqA t->∀k,qb3 t=.ok k->GcA t:=by
 intro t
 induction t with
 | leaf p=>intro hg hn hs _ _ _ k hc;exact vi4 hg hn hs hc
 | un p x ih=>
  intro hg hn hs hb hm hq k hc;obtain⟨d,hd,h5⟩:=cls_un hs hc;have bV:ndA (.un p x)=1+p.texts.length+ndA x:=rfl;refine⟨vi4 hg.1 hn hs hc,λe=>(wt_core x hs.2.2.2 d hd).2 (h5 e),λe=>⟨?_,hs.2.1 e,hq.1.2⟩,ih hg.2 (by omega) hs.2.2.2 hb.2 hm.2 hq.2 d hd⟩;obtain⟨q,rfl,jU⟩:=qn8 hs.2.2.2 (hs.2.2.1 (by omega));exact vc1 (qt4 q) hb.2.1 hm.2 (by unfold qk8;simp[qt4,jU])
 | bin p x y ihx ihy=>
  intro hg hn hs hb hm hq k hc;obtain⟨d,e,h1,h2,_⟩:=cls_bin hs hc;have bV:ndA (.bin p x y)=1+ndA x+ndA y:=rfl;exact⟨vi4 hg.1 hn hs hc,ihx hg.2.1 (by omega) hs.2.1 hb.2.1 hm.2.1 hq.2.1 d h1,ihy hg.2.2 (by omega) hs.2.2 hb.2.2 hm.2.2 hq.2.2 e h2⟩
 | tri p x y z ihx ihy ihz=>
  intro hg hn hs hb hm hq k hc;obtain⟨⟨_,h1⟩,⟨_,h2⟩,_,h3⟩:=cls_tri hs hc;have bV:ndA (.tri p x y z)=1+ndA x+ndA y+ndA z:=rfl;exact⟨vi4 hg.1 hn hs hc,ihx hg.2.1 (by omega) hs.2.1 hb.2.1 hm.2.1 hq.2.1 _ h1,ihy hg.2.2.1 (by omega) hs.2.2.1 hb.2.2.1 hm.2.2.1 hq.2.2.1 _ h2,ihz hg.2.2.2 (by omega) hs.2.2.2 hb.2.2.2 hm.2.2.2 hq.2.2.2 _ h3⟩
end
section
structure NdC(p:Pay)(neg:Bool)(xs:List Co):Prop where
 few:xs.length=vh5 p.op
 gc:∀x∈xs,Gc x
 all:Gc (qw1 p xs)
 tb:p.op=5->∀x∈xs,Tb x
 no:neg=true->Tb (qw1 p xs)
 nm:p.op=21->∀x∈xs,(x9 x).length<=402
 tx:p.op=21->p.texts≠[]/\∀t∈p.texts,t.length<=200
def jh8:List Co->List RN->Prop
 | _,[]=>True
 | cs,n::t=>NdC (jx1 n) n.neg (argC cs n)/\jh8 (cs++[vw1 cs n]) t
theorem vd7(cs:List Co)(l k:List RN):jh8 cs (l++k)↔jh8 cs l/\jh8 (qx5 cs l) k:=by
 induction l generalizing cs with
 | nil=>simp[jh8,qx5]
 | cons n t ih=>rw[List.cons_append,jh8,jh8,ih,qx5,and_assoc]
theorem stOk_at{ns:List RN}{k:Nat}{n:RN}{cs:List Co}(h:jh8 [] ns)(hn:ns[k]?=some n)(hc:qx5 [] (ns.take k)=cs):NdC (jx1 n) n.neg (argC cs n):=by
 have hl:=(List.getElem?_eq_some_iff.1 hn);obtain⟨hk,A3⟩:=hl;have e:ns=ns.take k++(n::ns.drop (k+1)):=by rw[←A3,←List.drop_eq_getElem_cons hk,List.take_append_drop]
 rw[e,vd7,hc]at h;exact h.2.1
def KEnd(cs:List Co)(l:List RN)(x:Co):Prop:=∃ds,qx5 cs l=cs++ds/\ds.length=l.length/\ds.getD (l.length - 1) nC=x/\jh8 cs l
theorem vv0{vs ds es:List Co}{k:Nat}(h:vs.length<=k)(h2:k<vs.length+ds.length):(vs++ds++es).getD k nC=ds.getD (k - vs.length) nC:=by
 rw[List.getD_eq_getElem?_getD,List.getD_eq_getElem?_getD,List.append_assoc,List.getElem?_append_right h,List.getElem?_append_left (by omega)]
theorem vu9{vs ds:List Co}{k:Nat}(h:vs.length<=k)(h2:k<vs.length+ds.length):(vs++ds).getD k nC=ds.getD (k - vs.length) nC:=by
 have:=vv0 (vs:=vs) (ds:=ds) (es:=[]) h h2;rwa [List.append_nil]at this
theorem lastC(l:List Co)(v:Co):(l++[v]).getD l.length nC=v:=by simp
theorem vc0{vs ds:List Co}{l:List RN}{p:Pay}{ins:List Nat}{neg:Bool}{xs:List Co}(h:qx5 vs l=vs++ds)(hd:ds.length=l.length)(N0:jh8 vs l)(h0:0<=p.op)(L9:p.op<=23)(hi:ins.map (λk=>(vs++ds).getD k nC)=xs)(J4:NdC p neg xs):
  KEnd vs (l++[qi5 p ins neg]) (if neg=true then qd8 (qw1 p xs) else qw1 p xs):=by
 have ha:argC (vs++ds) (qi5 p ins neg)=xs:=hi
 have hx:vw1 (vs++ds) (qi5 p ins neg)=if neg=true then qd8 (qw1 p xs) else qw1 p xs:=by
  unfold vw1;rw[ha,vw7 h0 L9];rfl
 refine⟨ds++[vw1 (vs++ds) (qi5 p ins neg)], ?_,by simp[hd], ?_, ?_⟩
 ·rw[vd2,h,qx5,qx5,List.append_assoc]
 ·rw[show(l++[qi5 p ins neg]).length - 1=ds.length by simp[hd],lastC,hx]
 ·rw[vd7,h]
  refine⟨N0, ?_,trivial⟩;rw[ha,vw7 h0 L9];exact J4
section
variable {vs:List Co} {off:Nat} {p:Pay} {neg:Bool}
theorem jq4{l:List RN}{x:Co}(hv:vs.length=off)(hl:0<l.length)(h0:0<=p.op)(L9:p.op<=23)(hx:KEnd vs l x)(J4:NdC p neg [x]):KEnd vs (l++[qi5 p [off+l.length - 1] neg]) (if neg=true then qd8 (qw1 p [x]) else qw1 p [x]):=by
 obtain⟨ds,h1,h2,h3,h4⟩:=hx;refine vc0 h1 h2 h4 h0 L9 ?_ J4;have hi:(vs++ds).getD (off+l.length - 1) nC=x:=by rw[vu9 (by omega) (by omega),show off+l.length - 1 - vs.length=l.length - 1 by omega];exact h3
 rw[List.map_cons,List.map_nil,hi]
theorem core_bin1{l k:List RN}{x y:Co}(hv:vs.length=off)(hl:0<l.length)(hkl:0<k.length)(h0:0<=p.op)(L9:p.op<=23)(hx:KEnd vs l x)(hy:∀ds:List Co,ds.length=l.length->KEnd (vs++ds) k y)(J4:NdC p false [x,y]):KEnd vs (l++k++[qi5 p [off+l.length - 1,off+l.length+k.length - 1] false]) (qw1 p [x,y]):=by
 obtain⟨ds,h1,h2,h3,h4⟩:=hx;obtain⟨es,g1,g2,g3,g4⟩:=hy ds h2;have bY:qx5 vs (l++k)=vs++(ds++es):=by rw[vd2,h1,g1,List.append_assoc]
 have hi:(vs++(ds++es)).getD (off+l.length - 1) nC=x:=by rw[←List.append_assoc,vv0 (by omega) (by omega),show off+l.length - 1 - vs.length=l.length - 1 by omega];exact h3
 have hj:(vs++(ds++es)).getD (off+l.length+k.length - 1) nC=y:=by rw[←List.append_assoc,vu9 (by simp;omega) (by simp;omega),show off+l.length+k.length - 1 - (vs++ds).length=k.length - 1 by simp;omega];exact g3
 have:=vc0 (neg:=false) bY (by simp[h2,g2]) (by rw[vd7,h1];exact⟨h4,g4⟩) h0 L9 (ins:=[off+l.length - 1,off+l.length+k.length - 1]) (xs:=[x,y]) (by rw[List.map_cons,List.map_cons,List.map_nil,hi,hj]) J4;simpa using this
theorem jb1{l k r:List RN}{x y z:Co}(hv:vs.length=off)(hl:0<l.length)(hkl:0<k.length)(N7:0<r.length)(h0:0<=p.op)(L9:p.op<=23)(hx:KEnd vs l x)(hy:∀ds:List Co,ds.length=l.length->KEnd (vs++ds) k y)(hz:∀ds:List Co,ds.length=l.length+k.length->KEnd (vs++ds) r z)(J4:NdC p neg [x,y,z]):
  KEnd vs (l++k++r++[qi5 p [off+l.length - 1,off+l.length+k.length - 1,off+l.length+k.length+r.length - 1] neg]) (if neg=true then qd8 (qw1 p [x,y,z]) else qw1 p [x,y,z]):=by
 obtain⟨ds,h1,h2,h3,h4⟩:=hx;obtain⟨es,g1,g2,g3,g4⟩:=hy ds h2;have bY:qx5 vs (l++k)=vs++(ds++es):=by rw[vd2,h1,g1,List.append_assoc]
 obtain⟨fs,f1,f2,f3,f4⟩:=hz (ds++es) (by simp[h2,g2]);have vN:qx5 vs (l++k++r)=vs++(ds++es++fs):=by rw[vd2,bY,f1,List.append_assoc]
 have hi:(vs++(ds++es++fs)).getD (off+l.length - 1) nC=x:=by
  rw[List.append_assoc ds,←List.append_assoc vs,vv0 (by omega) (by omega),show off+l.length - 1 - vs.length=l.length - 1 by omega];exact h3
 have hj:(vs++(ds++es++fs)).getD (off+l.length+k.length - 1) nC=y:=by
  rw[List.append_assoc ds,←List.append_assoc vs,←List.append_assoc (vs++ds),vv0 (by simp;omega) (by simp;omega),show off+l.length+k.length - 1 - (vs++ds).length=k.length - 1 by simp;omega];exact g3
 have hm:(vs++(ds++es++fs)).getD (off+l.length+k.length+r.length - 1) nC=z:=by
  rw[←List.append_assoc vs,vu9 (by simp;omega) (by simp;omega),show off+l.length+k.length+r.length - 1 - (vs++(ds++es)).length=r.length - 1 by simp;omega];exact f3
 exact vc0 vN (by simp[h2,g2,f2]) (by rw[vd7,vd7,h1,bY];exact⟨⟨h4,g4⟩,f4⟩) h0 L9 (by rw[List.map_cons,List.map_cons,List.map_cons,List.map_nil,hi,hj,hm]) J4
end
theorem core_flat:∀{t:Ast} {off:Nat} {l:List RN},Flat t off l->ShA t->GcA t->∀vs:List Co,vs.length=off->KEnd vs l (j8 t):=by
 intro t off l h
 induction h with
 | leaf p off=>
  intro hs hg vs hv;have S7:=hs.1;have rB:=hs.2;have:=vc0 (neg:=false) (vs:=vs) (ds:=[]) (l:=[]) (p:=p) (ins:=[]) (xs:=[]) (by rw[List.append_nil];rfl) rfl trivial S7 (by omega) rfl ⟨by rw[arity_0 rB];rfl,by simp,hg,by simp,by simp,by simp,by omega⟩;exact this
 | un p hx ih=>
  intro hs hg vs hv;have ho:=hs.1;have:=jq4 (neg:=false) (p:=p) hv hx.pos (by omega) (by omega) (ih hs.2.2.2 hg.2.2.2 vs hv) ⟨by rw[vt8 (by omega)];rfl,by simpa using hg.2.2.2.gc,hg.1,by simpa using hg.2.1,by simp,by simpa using λe=>(hg.2.2.1 e).1,λe=>(hg.2.2.1 e).2⟩;exact this
 | bin p hx hy ihx ihy=>
  intro hs hg vs hv;have ho:=hs.1;exact core_bin1 hv hx.pos hy.pos (by omega) (by omega) (ihx hs.2.1 hg.2.1 vs hv) (λds hd=>ihy hs.2.2 hg.2.2 (vs++ds) (by simp;omega)) ⟨by rw[ji0 (by omega)];rfl,by simpa using⟨hg.2.1.gc,hg.2.2.gc⟩,hg.1,by omega,by simp,by omega,by omega⟩
 | tri p hx hy hz ihx ihy ihz=>
  intro hs hg vs hv;have ho:=hs.1;have:=jb1 (neg:=false) hv hx.pos hy.pos hz.pos (by omega) (by omega) (ihx hs.2.1 hg.2.1 vs hv) (λds hd=>ihy hs.2.2.1 hg.2.2.1 (vs++ds) (by simp;omega)) (λds hd=>ihz hs.2.2.2 hg.2.2.2 (vs++ds) (by simp;omega)) (p:=p) ⟨by rw[vt9 ho];rfl,by simpa using⟨hg.2.1.gc,hg.2.2.1.gc,hg.2.2.2.gc⟩,hg.1,by omega,by simp,by omega,by omega⟩;exact this
 | neg1 pl q hq hx ih=>
  intro hs hg vs hv;obtain⟨_,_,_,hs⟩:=hs;obtain⟨_,gD,_,hg⟩:=hg;exact jq4 (neg:=true) hv hx.pos (by omega) (by omega) (ih hs.2.2.2 hg.2.2.2 vs hv) ⟨by rw[vt8 (by omega)];rfl,by simpa using hg.2.2.2.gc,hg.1,by simpa using hg.2.1,λ_=>gD rfl,by simpa using λe=>(hg.2.2.1 e).1,λe=>(hg.2.2.1 e).2⟩
 | neg3 pl q hq hx hy hz ihx ihy ihz=>
  intro hs hg vs hv;obtain⟨_,_,_,hs⟩:=hs;obtain⟨_,gD,_,hg⟩:=hg;exact jb1 (neg:=true) hv hx.pos hy.pos hz.pos (by omega) (by omega) (ihx hs.2.1 hg.2.1 vs hv) (λds hd=>ihy hs.2.2.1 hg.2.2.1 (vs++ds) (by simp;omega)) (λds hd=>ihz hs.2.2.2 hg.2.2.2 (vs++ds) (by simp;omega)) ⟨by rw[vt9 hq];rfl,by simpa using⟨hg.2.1.gc,hg.2.2.1.gc,hg.2.2.2.gc⟩,hg.1,by omega,λ_=>gD rfl,by omega,by omega⟩
theorem jd2(cs:List Co)(n:RN)(c:Int):vw1 cs { n with cls:=c }=vw1 cs n:=rfl
theorem js5(ns:List RN)(is:List Int):qx5 [] (qr4 ns is)=qx5 [] ns/\(jh8 [] ns->jh8 [] (qr4 ns is)):=by
 unfold qr4
 have key:∀(l:List RN) (k:Nat) (vs:List Co),qx5 vs ((l.zipIdx k).map λx=>{ x.1 with cls:=if x.2<is.length then is.getD x.2 0 else x.1.cls })=qx5 vs l/\(jh8 vs l->jh8 vs ((l.zipIdx k).map λx=>{ x.1 with cls:=if x.2<is.length then is.getD x.2 0 else x.1.cls })):=by
  intro l
  induction l with
  | nil=>intro k vs;exact⟨rfl,λh=>h⟩
  | cons n t ih=>
   intro k vs;rw[List.zipIdx_cons,List.map_cons,qx5,qx5,jd2];refine⟨(ih _ _).1,λh=>⟨h.1, ?_⟩⟩;rw[jd2];exact(ih _ _).2 h.2
 exact key ns 0 []
end
section
def vg2:Co->List Co
 | .leaf p=>[.leaf p]
 | .un p x=>vg2 x++[.un p x]
 | .bin p x y=>vg2 x++vg2 y++[.bin p x y]
def js2:Co->CP
 | .leaf p=>p
 | .un p _=>p
 | .bin p _ _=>p
theorem vt4:∀c,qa6 c=(vg2 c).map x9/\qj7 c=(vg2 c).map λd=>vf6 (js2 d):=by
 intro c
 induction c with
 | leaf p=>exact⟨rfl,rfl⟩
 | un p x ih=>exact⟨by simp[qa6,vg2,ih.1],by simp[qj7,vg2,ih.2,js2]⟩
 | bin p x y ihx ihy=>exact⟨by simp[qa6,vg2,ihx.1,ihy.1],by simp[qj7,vg2,ihx.2,ihy.2,js2]⟩
theorem subs_ok:∀c,OkC c->∀d∈vg2 c,OkC d:=by
 intro c
 induction c with
 | leaf p=>intro h d hd;obtain rfl:=List.mem_singleton.1 hd;exact h
 | un p x ih=>
  intro h d hd;rcases List.mem_append.1 hd with hd|hd
  ·exact ih h.1 d hd
  ·obtain rfl:=List.mem_singleton.1 hd;exact h
 | bin p x y ihx ihy=>
  intro h d hd;rcases List.mem_append.1 hd with hd|hd
  ·rcases List.mem_append.1 hd with hd|hd
   ·exact ihx h.1 d hd
   ·exact ihy h.2.1 d hd
  ·obtain rfl:=List.mem_singleton.1 hd;exact h
inductive Gath:List Co->List Co->List Co->Prop
 | nil (D:List Co):Gath D [] D
 | old {D l E:List Co} {c:Co}:c∈D->Gath D l E->Gath D (c::l) E
 | new {D l E:List Co} {c:Co}:c∉D->Gath (D++[c]) l E->Gath D (c::l) E
theorem Gath.app{D l E:List Co}(h:Gath D l E){m F:List Co}(h2:Gath E m F):Gath D (l++m) F:=by
 induction h with
 | nil D=>exact h2
 | old hc _ ih=>exact .old hc (ih h2)
 | new hc _ ih=>exact .new hc (ih h2)
theorem Gath.pre{D l E:List Co}(h:Gath D l E):∃N,E=D++N:=by
 induction h with
 | nil D=>exact⟨[],by simp⟩
 | old _ _ ih=>exact ih
 | @new _ _ _ c _ _ ih=>obtain⟨N,e⟩:=ih;exact⟨c::N,by rw[e];simp⟩
def TmC(D:List Co):Co->Tm->Prop
 | .leaf p,t=>t=qv9 p 0 0
 | .un p x,t=>∃a,D[a]?=some x/\t=qv9 p a 0
 | .bin p x y,t=>∃a b,D[a]?=some x/\D[b]?=some y/\t=qv9 p a b
theorem TmC.more{D N:List Co}{c:Co}{t:Tm}(h:TmC D c t):TmC (D++N) c t:=by
 have key:∀{a:Nat} {x:Co},D[a]?=some x->(D++N)[a]?=some x:=λ{a x} h=>by rw[List.getElem?_append_left (List.getElem?_eq_some_iff.1 h).1];exact h
 cases c with
 | leaf p=>exact h
 | un p x=>obtain⟨a,h1,h2⟩:=h;exact⟨a,key h1,h2⟩
 | bin p x y=>obtain⟨a,b,h1,h2,h3⟩:=h;exact⟨a,b,key h1,key h2,h3⟩
theorem ok_op{c:Co}(h:OkC c):match c with
  | .leaf p=>0<=p.op/\p.op<=4
  | .un p _=>p.op=5\/p.op=22\/p.op=23
  | .bin p _ _=>qw0 p.op:=by
 cases c with
 | leaf p=>
  show 0<=p.op/\p.op<=4;rcases h with⟨a,_⟩|⟨a,_⟩|⟨a,_⟩|⟨a,_⟩<;>omega
 | un p x=>
  show p.op=5\/p.op=22\/p.op=23;obtain⟨_,rfl|⟨_,rfl|hl⟩⟩:=h
  ·exact .inl rfl
  ·exact .inr (.inr rfl)
  ·exact .inr (.inl hl.1)
 | bin p x y=>obtain⟨_,_,op,ho,rfl⟩:=h;exact ho
theorem vd9{p q:CP}{a b a' b':Nat}(h0:0<=p.op)(h1:0<=q.op)(h:qv9 p a b=qv9 q a' b'):p=q/\a=a'/\b=b':=by
 obtain⟨o,n,s,e⟩:=p;obtain⟨o',n',s',e'⟩:=q;unfold qv9 at h;simp only at h h0 h1;injection h with h2 h3 h4 h5 h6 h7;have:o=o':=by omega
 subst this h5 h6 h7;exact⟨rfl,h3,h4⟩
theorem TmC.inj{D:List Co}{c d:Co}{t:Tm}(hc:OkC c)(hd:OkC d)(h:TmC D c t)(h':TmC D d t):c=d:=by
 have oc:=ok_op hc;have od:=ok_op hd
 cases c with
 | leaf p=>
  simp only at oc
  cases d with
  | leaf q=>rw[show t=qv9 p 0 0 from h]at h';rw[(vd9 oc.1 od.1 (show qv9 p 0 0=qv9 q 0 0 from h')).1]
  | un q x=>
   simp only at od;obtain⟨a,_,e⟩:=h';rw[show t=qv9 p 0 0 from h]at e;obtain⟨rfl,_⟩:=vd9 oc.1 (by omega) e;omega
  | bin q x y=>
   simp only[qw0]at od;obtain⟨a,b,_,_,e⟩:=h';rw[show t=qv9 p 0 0 from h]at e;obtain⟨rfl,_⟩:=vd9 oc.1 (by omega) e;omega
 | un p x=>
  simp only at oc;obtain⟨a,hx,rfl⟩:=h
  cases d with
  | leaf q=>
   simp only at od;obtain⟨rfl,_⟩:=vd9 (by omega) od.1 (show qv9 p a 0=qv9 q 0 0 from h');omega
  | un q x'=>
   simp only at od;obtain⟨a',M8,e⟩:=h';obtain⟨rfl,rfl,_⟩:=vd9 (by omega) (by omega) e;rw[hx]at M8;injection M8 with e;rw[e]
  | bin q x' y'=>
   simp only[qw0]at od;obtain⟨a',b',_,_,e⟩:=h';obtain⟨rfl,_⟩:=vd9 (by omega) (by omega) e;omega
 | bin p x y=>
  simp only[qw0]at oc;obtain⟨a,b,hx,hy,rfl⟩:=h
  cases d with
  | leaf q=>
   simp only at od;obtain⟨rfl,_⟩:=vd9 (by omega) od.1 (show qv9 p a b=qv9 q 0 0 from h');omega
  | un q x'=>
   simp only at od;obtain⟨a',_,e⟩:=h';obtain⟨rfl,_⟩:=vd9 (by omega) (by omega) e;omega
  | bin q x' y'=>
   simp only[qw0]at od;obtain⟨a',b',M8,pP,e⟩:=h';obtain⟨rfl,rfl,rfl⟩:=vd9 (by omega) (by omega) e;rw[hx]at M8;rw[hy]at pP;injection M8 with e1;injection pP with e2;rw[e1,e2]
theorem nd_at{D:List Co}(hn:D.Nodup){a b:Nat}{x:Co}(ha:D[a]?=some x)(hb:D[b]?=some x):a=b:=by
 exact(List.getElem?_inj (List.getElem?_eq_some_iff.1 ha).1 hn).1 (ha.trans hb.symm)
theorem TmC.one{D:List Co}(hn:D.Nodup){c:Co}{t u:Tm}(h:TmC D c t)(h':TmC D c u):t=u:=by
 cases c with
 | leaf p=>exact(show t=_ from h).trans (show u=_ from h').symm
 | un p x=>
  obtain⟨a,h1,rfl⟩:=h;obtain⟨b,h2,rfl⟩:=h';rw[nd_at hn h1 h2]
 | bin p x y=>
  obtain⟨a,b,h1,h2,rfl⟩:=h;obtain⟨a',b',h3,h4,rfl⟩:=h';rw[nd_at hn h1 h3,nd_at hn h2 h4]
structure PrT(ts:List Tm)(D:List Co):Prop where
 len:ts.length=D.length
 ok:∀c∈D,OkC c
 nd:D.Nodup
 at':∀(i:Nat) (c:Co),D[i]?=some c->∃t,ts[i]?=some t/\TmC D c t
theorem PrT.nil:PrT [] []:=⟨rfl,by simp,by simp,λi c h=>by simp at h⟩
theorem PrT.put{ts:List Tm}{D:List Co}(h:PrT ts D){c:Co}{t:Tm}(hc:OkC c)(ht:TmC D c t):∃E,Gath D [c] E/\PrT (jh4 ts t).1 E/\E[(jh4 ts t).2]?=some c:=by
 unfold jh4
 cases hw:qj6 ts t with
 | some i=>
  unfold qj6 at hw;obtain⟨h1,h2,_⟩:=List.findIdx?_eq_some_iff_getElem.1 hw;have h2:ts[i]=t:=(vd3 _ _).1 h2;obtain⟨d,hd⟩:∃d,D[i]?=some d:=⟨_,List.getElem?_eq_getElem (by have:=h.len;omega)⟩;obtain⟨u,hu,hv⟩:=h.at' i d hd;have KW:u=t:=by rw[List.getElem?_eq_getElem h1,h2]at hu;injection hu with hu;exact hu.symm
  subst KW;have MT:c=d:=TmC.inj hc (h.ok d (List.mem_of_getElem? hd)) ht hv;subst MT;exact⟨D,.old (List.mem_of_getElem? hd) (.nil _),h,hd⟩
 | none=>
  have D7:∀u∈ts,¬u=t:=by
   unfold qj6 at hw;have:=List.findIdx?_eq_none_iff.1 hw;intro u hu e;have:=this u hu;rw[(vd3 u t).2 e]at this;cases this
  have FN:c∉D:=by
   intro hm;obtain⟨j,hj⟩:=List.getElem?_of_mem hm;obtain⟨u,hu,hv⟩:=h.at' j c hj;exact D7 u (List.mem_of_getElem? hu) (TmC.one h.nd hv ht)
  refine⟨D++[c],.new FN (.nil _),⟨by simp[h.len], ?_, ?_, ?_⟩, ?_⟩
  ·intro d hd
   rcases List.mem_append.1 hd with hd|hd
   ·exact h.ok d hd
   ·obtain rfl:=List.mem_singleton.1 hd;exact hc
  ·rw[List.nodup_append]
   refine⟨h.nd,by simp,λa ha b hb=>?_⟩;obtain rfl:=List.mem_singleton.1 hb;exact λe=>FN (e ▸ ha)
  ·intro i d hd
   by_cases hi:i<D.length
   ·rw[List.getElem?_append_left hi]at hd
    obtain⟨u,hu,hv⟩:=h.at' i d hd;exact⟨u,by rw[List.getElem?_append_left (by have:=h.len;omega)];exact hu,hv.more⟩
   ·rw[List.getElem?_append_right (by omega)]at hd
    have e:i=D.length:=by
     have:=(List.getElem?_eq_some_iff.1 hd).1;simp at this;omega
    subst e;obtain rfl:c=d:=by simpa using hd
    exact⟨t,by rw[←h.len];simp,ht.more⟩
  ·show(D++[c])[ts.length]?=some c
   rw[h.len];simp
theorem PrT.place:∀(c:Co),OkC c->∀(ts:List Tm) (D:List Co),PrT ts D->∃E,Gath D (vg2 c) E/\PrT (qd7 ts c).1 E/\E[(qd7 ts c).2]?=some c:=by
 intro c
 induction c with
 | leaf p=>intro hc ts D h;exact h.put hc rfl
 | un p x ih=>
  intro hc ts D h;obtain⟨E,g1,h1,e1⟩:=ih hc.1 ts D h;obtain⟨F,g2,h2,e2⟩:=h1.put (c:=.un p x) (t:=qv9 p (qd7 ts x).2 0) hc ⟨_,e1,rfl⟩;exact⟨F,g1.app g2,h2,e2⟩
 | bin p x y ihx ihy=>
  intro hc ts D h;obtain⟨E,g1,h1,e1⟩:=ihx hc.1 ts D h;obtain⟨F,g2,h2,e2⟩:=ihy hc.2.1 _ E h1;obtain⟨N,hN⟩:=g2.pre;have iL:F[(qd7 ts x).2]?=some x:=by rw[hN,List.getElem?_append_left (List.getElem?_eq_some_iff.1 e1).1];exact e1
  obtain⟨G,g3,h3,e3⟩:=h2.put (c:=.bin p x y) (t:=qv9 p (qd7 ts x).2 (qd7 (qd7 ts x).1 y).2) hc ⟨_,_,iL,e2,rfl⟩;exact⟨G,(g1.app g2).app g3,h3,e3⟩
def qr9(a:List (List UInt8)×Nat)(e:List UInt8×Nat):List (List UInt8)×Nat:=if a.1.contains e.1 then a else(a.1++[e.1],a.2+e.2)
def vd1(D:List Co):Nat:=(D.map λd=>vf6 (js2 d)).sum
theorem gath_tx{D l E:List Co}(h:Gath D l E)(hD:∀c∈D,OkC c)(hl:∀c∈l,OkC c):(l.map λd=>(x9 d,vf6 (js2 d))).foldl qr9 (D.map x9,vd1 D)=(E.map x9,vd1 E):=by
 induction h with
 | nil D=>rfl
 | @old D l E c hc _ ih=>
  rw[List.map_cons,List.foldl_cons]
  have hm:((D.map x9).contains (x9 c))=true:=by
   rw[List.contains_iff_mem];exact List.mem_map_of_mem hc
  rw[show qr9 (D.map x9,vd1 D) (x9 c,vf6 (js2 c))=(D.map x9,vd1 D) by unfold qr9;rw[if_pos hm]];exact ih hD (λd hd=>hl d (List.mem_cons_of_mem _ hd))
 | @new D l E c hc _ ih=>
  rw[List.map_cons,List.foldl_cons]
  have hm:¬((D.map x9).contains (x9 c))=true:=by
   rw[List.contains_iff_mem];intro h;obtain⟨d,hd,e⟩:=List.mem_map.1 h;exact hc (spell_inj (hD d hd) (hl c List.mem_cons_self) e ▸ hd)
  rw[show qr9 (D.map x9,vd1 D) (x9 c,vf6 (js2 c))=((D++[c]).map x9,vd1 (D++[c])) by unfold qr9 vd1;rw[if_neg hm];simp];refine ih (λd hd=>?_) (λd hd=>hl d (List.mem_cons_of_mem _ hd));rcases List.mem_append.1 hd with hd|hd
  ·exact hD d hd
  ·obtain rfl:=List.mem_singleton.1 hd;exact hl d List.mem_cons_self
end
end Go.Proofs.YtfkcaldjphakpaaGreatDoor
