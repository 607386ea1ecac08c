/- The document's answer. -/
import Derived.Test.YtfkcaldjphakpaaGreatDoorM25
import Derived.Test.YtfkcaldjphakpaaGreatDoorM24
import Derived.Deep.OwnRows
set_option maxHeartbeats 4000000
set_option maxRecDepth 100000
namespace Go.Proofs.YtfkcaldjphakpaaGreatDoor
open Go.RowKit Go.Proofs.Tryz
section
def vh5(o:Int):Nat:=if o<=4 then 0 else if o=5\/o=14\/o=15\/o=21\/o=22\/o=23 then 1 else if o=20 then 3 else 2
structure NG(n:RN)(p:Pay):Prop where
 is:∃ins neg c,n={ qi5 p ins neg with cls:=c }/\vh5 p.op<=ins.length
 o0:0<=p.op
 o23:p.op<=23
 num:Rng p.num
 bp:Bp p
 bz:Bz p
theorem vf1{p:Pay}{ins:List Nat}{neg:Bool}(ha:vh5 p.op<=ins.length)(h0:0<=p.op)(L9:p.op<=23)(hn:Rng p.num)(hb:Bp p)(hz:Bz p):∃q,NG (qi5 p ins neg) q:=⟨p,⟨ins,neg,0,rfl,ha⟩,h0,L9,hn,hb,hz⟩
theorem vt8{o:Int}(h:o=5\/o=14\/o=15\/o=21\/o=22\/o=23):vh5 o=1:=by unfold vh5;rw[if_neg (by omega),if_pos h]
theorem ji0{o:Int}(h:6<=o/\o<=13\/16<=o/\o<=19):vh5 o=2:=by unfold vh5;rw[if_neg (by omega),if_neg (by omega),if_neg (by omega)]
theorem vt9{o:Int}(h:o=20):vh5 o=3:=by unfold vh5;rw[if_neg (by omega),if_neg (by omega),if_pos h]
theorem arity_0{o:Int}(h:o<=4):vh5 o=0:=by unfold vh5;rw[if_pos h]
theorem ng_flat:∀{t:Ast} {off:Nat} {l:List RN},Flat t off l->ShA t->vg5 t->vg4 t->BzA t->∀n∈l,∃p,NG n p:=by
 intro t off l h
 induction h with
 | leaf p off=>
  intro hs hn hb hz n hm;obtain rfl:=List.mem_singleton.1 hm;have h1:=hs.1;have h2:=hs.2;exact vf1 (by rw[arity_0 h2];exact Nat.zero_le _) h1 (by omega) hn hb hz
 | un p hx ih=>
  intro hs hn hb hz n hm;rcases List.mem_append.1 hm with h|h
  ·exact ih hs.2.2.2 hn.2 hb.2 hz.2 n h
  ·obtain rfl:=List.mem_singleton.1 h
   have ho:=hs.1;exact vf1 (by rw[vt8 ho];exact Nat.le_refl _) (by omega) (by omega) hn.1 hb.1 hz.1
 | bin p hx hy ihx ihy=>
  intro hs hn hb hz n hm;rcases List.mem_append.1 hm with h|h
  ·rcases List.mem_append.1 h with h|h
   ·exact ihx hs.2.1 hn.2.1 hb.2.1 hz.2.1 n h
   ·exact ihy hs.2.2 hn.2.2 hb.2.2 hz.2.2 n h
  ·obtain rfl:=List.mem_singleton.1 h
   have ho:=hs.1;exact vf1 (by rw[ji0 ho];exact Nat.le_refl _) (by omega) (by omega) hn.1 hb.1 hz.1
 | tri p hx hy dC ihx ihy ihz=>
  intro hs hn hb hz n hm;rcases List.mem_append.1 hm with h|h
  ·rcases List.mem_append.1 h with h|h
   ·rcases List.mem_append.1 h with h|h
    ·exact ihx hs.2.1 hn.2.1 hb.2.1 hz.2.1 n h
    ·exact ihy hs.2.2.1 hn.2.2.1 hb.2.2.1 hz.2.2.1 n h
   ·exact ihz hs.2.2.2 hn.2.2.2 hb.2.2.2 hz.2.2.2 n h
  ·obtain rfl:=List.mem_singleton.1 h
   have ho:=hs.1;exact vf1 (by rw[vt9 ho];exact Nat.le_refl _) (by omega) (by omega) hn.1 hb.1 hz.1
 | neg1 pl q hq hx ih=>
  intro hs hn hb hz n hm;obtain⟨_,_,_,hs⟩:=hs;obtain⟨_,hn⟩:=hn;obtain⟨_,hb⟩:=hb;obtain⟨_,hz⟩:=hz;rcases List.mem_append.1 hm with h|h
  ·exact ih hs.2.2.2 hn.2 hb.2 hz.2 n h
  ·obtain rfl:=List.mem_singleton.1 h
   have ho:=hs.1;exact vf1 (by rw[vt8 ho];exact Nat.le_refl _) (by omega) (by omega) hn.1 hb.1 hz.1
 | neg3 pl q hq hx hy dC ihx ihy ihz=>
  intro hs hn hb hz n hm;obtain⟨_,_,_,hs⟩:=hs;obtain⟨_,hn⟩:=hn;obtain⟨_,hb⟩:=hb;obtain⟨_,hz⟩:=hz;rcases List.mem_append.1 hm with h|h
  ·rcases List.mem_append.1 h with h|h
   ·rcases List.mem_append.1 h with h|h
    ·exact ihx hs.2.1 hn.2.1 hb.2.1 hz.2.1 n h
    ·exact ihy hs.2.2.1 hn.2.2.1 hb.2.2.1 hz.2.2.1 n h
   ·exact ihz hs.2.2.2 hn.2.2.2 hb.2.2.2 hz.2.2.2 n h
  ·obtain rfl:=List.mem_singleton.1 h
   have ho:=hs.1;exact vf1 (by rw[vt9 ho];exact Nat.le_refl _) (by omega) (by omega) hn.1 hb.1 hz.1
theorem withC_mem{ns:List RN}{cs:List Int}{n:RN}(h:n∈qr4 ns cs):∃m∈ns,∃c,n={ m with cls:=c }:=by
 obtain⟨i,hi⟩:=List.getElem?_of_mem h;rw[qu9]at hi
 cases hm:ns[i]? with
 | none=>rw[hm]at hi;cases hi
 | some m=>
  rw[hm]at hi;simp only[Option.map_some]at hi;injection hi with hi;exact⟨m,List.mem_of_getElem? hm,_,hi.symm⟩
theorem ng_withC{ns:List RN}{cs:List Int}(h:∀n∈ns,∃p,NG n p):∀n∈qr4 ns cs,∃p,NG n p:=by
 intro n hn;obtain⟨m,hm,c,rfl⟩:=withC_mem hn;obtain⟨p,⟨ins,neg,c',rfl,ha⟩,h0,L9,h1,h2,h3⟩:=h m hm;exact⟨p,⟨ins,neg,c,rfl,ha⟩,h0,L9,h1,h2,h3⟩
def TxtAt(w:World)(v:Value)(ts:List (List UInt8)):Prop:=
 ∃la lc,v=.slice la ts.length lc/\∀k t,ts[k]?=some t->∃lb,la=some ⟨lb,0,none⟩/\lb<w.heap.size/\w.cell? ⟨lb,k,none⟩=some (.string (BS t))
end
section
attribute [local go_sem ↓] qe4
theorem flatN{α:Type}(f:α->List Value)(m:Nat)(hf:∀a,(f a).length=m):∀(l:List α) (i:Nat) (a:α),l[i]?=some a->∀k,k<m->(l.flatMap f)[i * m+k]?=(f a)[k]?:=by
 intro l
 induction l with
 | nil=>intro i a h;simp at h
 | cons c t ih=>
  intro i a h k hk
  cases i with
  | zero=>
   simp at h;subst h;rw[List.flatMap_cons,Nat.zero_mul,Nat.zero_add,List.getElem?_append_left (by rw[hf];exact hk)]
  | succ i=>
   rw[List.flatMap_cons,List.getElem?_append_right (by rw[hf,Nat.succ_mul];omega),hf,show(i+1) * m+k - m=i * m+k by rw[Nat.succ_mul];omega];exact ih i a (by simpa using h) k hk
theorem RowOf.txt{w:World}{rb:Nat}{v:Value}{ts:List (List UInt8)}(h:RowOf w rb 9 v (qa1 ts)):TxtAt w v ts:=by
 obtain⟨a,c,e⟩:=h.form;refine⟨a,c,by rw[e];simp[qa1],λk t ht=>?_⟩;have hk:(qa1 ts)[k]?=some (.string (BS t)):=by simp[qa1,ht]
 obtain⟨q,cap,e2,hc⟩:=h.get hk;rw[e]at e2;injection e2 with e2;refine⟨q,e2, ?_,hc⟩;rcases h with⟨h0,_⟩|⟨g,cap',c',fr,e3,_,hg,_⟩
 ·rw[h0]at hk;simp at hk
 ·rw[e]at e3
  injection e3 with e3;rw[e2]at e3;injection e3 with e3;injection e3 with e3;subst e3;exact(Array.getElem?_eq_some_iff.1 hg).1
theorem TxtAt.below{w w':World}{v:Value}{ts:List (List UInt8)}(h:TxtAt w v ts)(hb:Below w.heap.size w w'):TxtAt w' v ts:=by
 obtain⟨la,lc,e,hk⟩:=h;refine⟨la,lc,e,λk t ht=>?_⟩;obtain⟨lb,e1,e2,e3⟩:=hk k t ht;exact⟨lb,e1,Nat.lt_of_lt_of_le e2 hb.size,((qb0 hb).1 _ _ e2).trans e3⟩
def NumsAt(w:World)(v:Value)(l:List Nat):Prop:=
 ∃la lc,v=.slice la l.length lc/\∀(k q:Nat),l[k]?=some q->∃lb,la=some ⟨lb,0,none⟩/\lb<w.heap.size/\w.cell? ⟨lb,k,none⟩=some (.int .i64 (q:Int))
theorem RowOf.nums{w:World}{rb:Nat}{v:Value}{l:List Nat}(h:RowOf w rb 3 v (vb2 l)):NumsAt w v l:=by
 obtain⟨a,c,e⟩:=h.form;refine⟨a,c,by rw[e];simp[vb2],λk t ht=>?_⟩;have hk:(vb2 l)[k]?=some (.int .i64 (t:Int)):=by simp[vb2,ht]
 obtain⟨q,cap,e2,hc⟩:=h.get hk;rw[e]at e2;injection e2 with e2;refine⟨q,e2, ?_,hc⟩;rcases h with⟨h0,_⟩|⟨g,cap',c',fr,e3,_,hg,_⟩
 ·rw[h0]at hk;simp at hk
 ·rw[e]at e3
  injection e3 with e3;rw[e2]at e3;injection e3 with e3;injection e3 with e3;subst e3;exact(Array.getElem?_eq_some_iff.1 hg).1
end
section
attribute [local go_sem ↓] qe4
def ji9(o:Int):Int:=if o=0 then 0 else if o=1 then 2 else if o=2 then 3 else if 16<=o/\o<=19 then 2 else 1
def vf6(p:CP):Nat:=if p.op=0\/p.op=2\/p.op=22 then p.str.length else 0
def qa6:Co->List (List UInt8)
 | .leaf p=>[x9 (.leaf p)]
 | .un p x=>qa6 x++[x9 (.un p x)]
 | .bin p x y=>qa6 x++qa6 y++[x9 (.bin p x y)]
def qj7:Co->List Nat
 | .leaf p=>[vf6 p]
 | .un p x=>qj7 x++[vf6 p]
 | .bin p x y=>qj7 x++qj7 y++[vf6 p]
theorem termsC_ne(c:Co):qa6 c≠[]:=by cases c<;>simp[qa6]
theorem qn3:∀c:Co,(qj7 c).length=(qa6 c).length
 | .leaf _=>rfl
 | .un _ x=>by simp[qj7,qa6,qn3 x]
 | .bin _ x y=>by simp[qj7,qa6,qn3 x,qn3 y]
def vx4(c:Co)(pv tv rv:Value):List Value:=[.string (BS (qb7 (opC c))),.string (BS (x9 c)),.int .i64 (ji9 (opC c)),pv,tv,rv]
def SideAt(w:World)(b o:Nat)(c:Co)(p1 t1 r1:Value):Prop:=∀k,k<6->w.cell? ⟨b,o+k,none⟩=(vx4 c p1 t1 r1)[k]?
def TxN(N:Nat->Prop)(w:World)(v:Value)(ts:List (List UInt8)):Prop:=∃lb c,v=.slice (some ⟨lb,0,none⟩) ts.length c/\N lb/\lb<w.heap.size/\∀(k:Nat) (t:List UInt8),ts[k]?=some t->w.cell? ⟨lb,k,none⟩=some (.string (BS t))
def NmN(N:Nat->Prop)(w:World)(v:Value)(l:List Nat):Prop:=∃lb c,v=.slice (some ⟨lb,0,none⟩) l.length c/\N lb/\lb<w.heap.size/\∀(k t:Nat),l[k]?=some t->w.cell? ⟨lb,k,none⟩=some (.int .i64 (t:Int))
def RcAt(N:Nat->Prop)(w:World):Co->Value->Value->Value->Prop
 | .leaf p,pv,tv,rv=>pv=.slice none 0 0/\TxN N w tv (qa6 (.leaf p))/\NmN N w rv (qj7 (.leaf p))
 | .un p x,pv,tv,rv=>(∃b cap p1 t1 r1,pv=.slice (some ⟨b,0,none⟩) 1 cap/\N b/\b<w.heap.size/\SideAt w b 0 x p1 t1 r1/\RcAt N w x p1 t1 r1)/\TxN N w tv (qa6 (.un p x))/\NmN N w rv (qj7 (.un p x))
 | .bin p x y,pv,tv,rv=>(∃b cap p1 t1 r1 p2 t2 r2,pv=.slice (some ⟨b,0,none⟩) 2 cap/\N b/\b<w.heap.size/\SideAt w b 0 x p1 t1 r1/\RcAt N w x p1 t1 r1/\SideAt w b 6 y p2 t2 r2/\RcAt N w y p2 t2 r2)/\TxN N w tv (qa6 (.bin p x y))/\NmN N w rv (qj7 (.bin p x y))
section
variable {N N':Nat->Prop} {w w':World}
theorem TxN.keep{v:Value}{ts:List (List UInt8)}(h:TxN N w v ts)(hk:∀b,N b->b<w.heap.size->w'.heap[b]?=w.heap[b]?)(hz:w.heap.size<=w'.heap.size)(hN:∀b,N b->b<w.heap.size->N' b):TxN N' w' v ts:=by
 obtain⟨lb,c,e,hn,hl,hc⟩:=h;exact⟨lb,c,e,hN _ hn hl,Nat.lt_of_lt_of_le hl hz,λk t ht=>(World.cell?_of_block (w:=w) (a:=⟨lb,k,none⟩) (hk lb hn hl)).trans (hc k t ht)⟩
theorem NmN.keep{v:Value}{ts:List Nat}(h:NmN N w v ts)(hk:∀b,N b->b<w.heap.size->w'.heap[b]?=w.heap[b]?)(hz:w.heap.size<=w'.heap.size)(hN:∀b,N b->b<w.heap.size->N' b):NmN N' w' v ts:=by
 obtain⟨lb,c,e,hn,hl,hc⟩:=h;exact⟨lb,c,e,hN _ hn hl,Nat.lt_of_lt_of_le hl hz,λk t ht=>(World.cell?_of_block (w:=w) (a:=⟨lb,k,none⟩) (hk lb hn hl)).trans (hc k t ht)⟩
theorem SideAt.keep{b o:Nat}{c:Co}{p1 t1 r1:Value}(h:SideAt w b o c p1 t1 r1)(hk:w'.heap[b]?=w.heap[b]?):SideAt w' b o c p1 t1 r1:=λk A3=>(World.cell?_of_block (w:=w) (a:=⟨b,o+k,none⟩) hk).trans (h k A3)
theorem RcAt.keep(hk:∀b,N b->b<w.heap.size->w'.heap[b]?=w.heap[b]?)(hz:w.heap.size<=w'.heap.size)(hN:∀b,N b->b<w.heap.size->N' b):∀{c:Co} {pv tv rv:Value},RcAt N w c pv tv rv->RcAt N' w' c pv tv rv:=by
 intro c
 induction c with
 | leaf p=>rintro pv tv rv⟨h1,h2,h3⟩;exact⟨h1,h2.keep hk hz hN,h3.keep hk hz hN⟩
 | un p x ih=>
  rintro pv tv rv⟨⟨b,cap,p1,t1,r1,e,hn,A1,hs,hx⟩,h2,h3⟩;exact⟨⟨b,cap,p1,t1,r1,e,hN _ hn A1,Nat.lt_of_lt_of_le A1 hz,hs.keep (hk b hn A1),ih hx⟩,h2.keep hk hz hN,h3.keep hk hz hN⟩
 | bin p x y ihx ihy=>
  rintro pv tv rv⟨⟨b,cap,p1,t1,r1,p2,t2,r2,e,hn,A1,hs,hx,rB,hy⟩,h2,h3⟩;exact⟨⟨b,cap,p1,t1,r1,p2,t2,r2,e,hN _ hn A1,Nat.lt_of_lt_of_le A1 hz,hs.keep (hk b hn A1),ihx hx,rB.keep (hk b hn A1),ihy hy⟩,h2.keep hk hz hN,h3.keep hk hz hN⟩
theorem RcAt.below(hb:Below w.heap.size w w'){c:Co}{pv tv rv:Value}(h:RcAt N w c pv tv rv):RcAt N w' c pv tv rv:=h.keep (λb _ hl=>hb.block b hl) hb.size (λ_ h _=>h)
theorem RcAt.mono{c:Co}{pv tv rv:Value}(h:RcAt N w c pv tv rv)(hN:∀b,N b->b<w.heap.size->N' b):RcAt N' w c pv tv rv:=h.keep (λ_ _ _=>rfl) (Nat.le_refl _) hN
theorem RcAt.terms{c:Co}{pv tv rv:Value}(h:RcAt N w c pv tv rv):TxN N w tv (qa6 c)/\NmN N w rv (qj7 c):=by
 cases c with
 | leaf p=>exact⟨h.2.1,h.2.2⟩
 | un p x=>exact⟨h.2.1,h.2.2⟩
 | bin p x y=>exact⟨h.2.1,h.2.2⟩
theorem RcAt.slices{c:Co}{pv tv rv:Value}(h:RcAt N w c pv tv rv):(∃a n k,pv=.slice a n k)/\(∃a n k,tv=.slice a n k)/\∃a n k,rv=.slice a n k:=by
 obtain⟨⟨a,k,e,_⟩,⟨b,m,e2,_⟩⟩:=h.terms;refine⟨?_,⟨_,_,_,e⟩,_,_,_,e2⟩
 cases c with
 | leaf p=>exact⟨_,_,_,h.1⟩
 | un p x=>obtain⟨⟨b,cap,p1,t1,r1,e,_⟩,_⟩:=h;exact⟨_,_,_,e⟩
 | bin p x y=>obtain⟨⟨b,cap,p1,t1,r1,p2,t2,r2,e,_⟩,_⟩:=h;exact⟨_,_,_,e⟩
end
def rcV(c:Co)(pv tv rv:Value):Value:=.agg #[.string (BS (qb7 (opC c))),.string (BS (x9 c)),.int .i64 (ji9 (opC c)),pv,tv,rv]
def RcEnds(N:Nat->Prop)(w:World)(c:Co)(e:Ending)(w':World):Prop:=Below w.heap.size w w'/\∃pv tv rv,e=.returned (rcV c pv tv rv)/\RcAt (λb=>N b\/w.heap.size<=b) w' c pv tv rv
theorem rleaf_raw(op text:ByteArray)(c r:Int)(w:World):Calls prog 224 #[.string op,.string text,.int .i64 c,.int .i64 r] w λe w'=>Below w.heap.size w w'/\∃b1 b2,e=.returned (.agg #[.string op,.string text,.int .i64 c,.slice none 0 0,.slice (some ⟨b1,0,none⟩) 1 1,.slice (some ⟨b2,0,none⟩) 1 1])/\w.heap.size<=b1/\w.heap.size<=b2/\b1<w'.heap.size/\b2<w'.heap.size/\w'.cell? ⟨b1,0,none⟩=some (.string text)/\w'.cell? ⟨b2,0,none⟩=some (.int .i64 r):=by
 go_enter func224,ntmps224
 go_wp2_with fail
 refine bodyPost_ret (by simp[results,results224,go_sem]<;>rfl) rfl ⟨?_, ?_⟩
 ·repeat' (first|exact Below.refl _ _|refine Below.setCell ?_ (by simp) _|refine Below.alloc ?_ (by simp<;>omega) _)
 ·refine⟨w.heap.size+1,w.heap.size+1+1,rfl,by omega,by omega,by simp,by simp, ?_, ?_⟩
  ·simp[go_sem]
  ·simp[go_sem]
theorem qx1(N:Nat->Prop)(p:CP)(w:World):Calls prog 224 #[.string (BS (qb7 p.op)),.string (BS (x9 (.leaf p))),.int .i64 (ji9 p.op),.int .i64 (vf6 p:Nat)] w (RcEnds N w (.leaf p)):=by
 refine(rleaf_raw _ _ _ _ w).mono ?_;rintro e w'⟨hb,b1,b2,rfl,g1,g2,h1,h2,h3,h4⟩;refine⟨hb,_,_,_,rfl,rfl,⟨b1,1,rfl,.inr g1,h1,λk t ht=>?_⟩,⟨b2,1,rfl,.inr g2,h2,λk t ht=>?_⟩⟩
 ·cases k with
  | zero=>
   obtain rfl:x9 (.leaf p)=t:=by simpa [qa6]using ht
   exact h3
  | succ k=>simp[qa6]at ht
 ·cases k with
  | zero=>
   obtain rfl:vf6 p=t:=by simpa [qj7]using ht
   exact h4
  | succ k=>simp[qj7]at ht
end
section
attribute [local go_sem ↓] qe4
theorem vm0:(prog.info? 9).map (λi=>(i.zero,i.size,i.bytes))=some (some (.string ⟨#[]⟩),1,16):=by kernel_rfl
theorem jc0:(prog.info? 3).map (λi=>(i.zero,i.size,i.bytes))=some (some (.int .i64 0),1,8):=by kernel_rfl
def qy5(l:List Nat):List Value:=l.map λn:Nat=>.int .i64 (n:Int)
def TwRow(w:World)(base:Nat)(v:Value)(ts:List (List UInt8)):Prop:=w.ownsRow base 9 1 v ts.length (qa1 ts)
def NmRow(w:World)(base:Nat)(v:Value)(l:List Nat):Prop:=w.ownsRow base 3 1 v l.length (qy5 l)
structure MdAt(w W:World)(op text:ByteArray)(cl:Int)(pv tv rv:Value)(ts:List (List UInt8))(rs:List Nat):Prop where
 c0:W.cell? ⟨w.heap.size+1,0,none⟩=some (.string op)
 c1:W.cell? ⟨w.heap.size+1,1,none⟩=some (.string text)
 c2:W.cell? ⟨w.heap.size+1,2,none⟩=some (.int .i64 cl)
 c3:W.cell? ⟨w.heap.size+1,3,none⟩=some pv
 c4:W.cell? ⟨w.heap.size+1,4,none⟩=some tv
 c5:W.cell? ⟨w.heap.size+1,5,none⟩=some rv
 fz:∀i,W.frozen? ⟨w.heap.size+1,i,none⟩=false
 lt:w.heap.size+1<W.heap.size
 bel:Below (w.heap.size+1) (w.alloc (.cells #[.string ⟨#[]⟩,.string ⟨#[]⟩,.int .i64 0,.slice none 0 0,.slice none 0 0,.slice none 0 0] 184)) W
 tr:TwRow W (w.heap.size+2) tv ts
 rr:NmRow W (w.heap.size+2) rv rs
section
variable {w W:World} {op text:ByteArray} {cl:Int} {pv tv rv:Value} {ts:List (List UInt8)} {rs:List Nat}
theorem MdAt.bel0(h:MdAt w W op text cl pv tv rv ts rs):Below w.heap.size w W:=((Below.refl _ _).alloc (Nat.le_refl _) _).trans (h.bel.mono (Nat.le_succ _))
theorem MdAt.drew(h:MdAt w W op text cl pv tv rv ts rs):MdAt w W.drew op text cl pv tv rv ts rs:=⟨h.c0,h.c1,h.c2,h.c3,h.c4,h.c5,h.fz,h.lt,h.bel.drew,h.tr,h.rr⟩
theorem MdAt.alloc(h:MdAt w W op text cl pv tv rv ts rs)(o:Obj):MdAt w (W.alloc o) op text cl pv tv rv ts rs:=by
 have hb:Below W.heap.size W (W.alloc o):=(Below.refl _ _).alloc (Nat.le_refl _) o;obtain⟨hc,hf⟩:=qb0 hb;have hl:=h.lt;exact⟨(hc _ _ hl).trans h.c0,(hc _ _ hl).trans h.c1,(hc _ _ hl).trans h.c2,(hc _ _ hl).trans h.c3,(hc _ _ hl).trans h.c4,(hc _ _ hl).trans h.c5,λi=>(hf _ i hl).trans (h.fz i),Nat.lt_of_lt_of_le hl hb.size,h.bel.trans (hb.mono (by omega)),qc3 h.tr hb (Nat.le_refl _),qc3 h.rr hb (Nat.le_refl _)⟩
theorem vj0{base e size n:Nat}{U:World}{v:Value}{xs:List Value}(h:U.ownsRow base e size v n xs){k:Nat}(hk:v.ownBlock=some k):∃c,U.heap[k]?=some (.cells c e (0,0)):=by
 rcases h.2 with⟨rfl,_⟩|⟨g,cap,cur,rfl,_,hg,_⟩
 ·cases hk
 ·obtain rfl:g=k:=by simpa [Value.ownBlock]using hk
  exact⟨cur,hg⟩
theorem MdAt.grown{W5:World}{v v':Value}(h:MdAt w W op text cl pv tv rv ts rs)(hg:W.grownBy W5 v.ownBlock)(hv:∀k,v.ownBlock=some k->w.heap.size+2<=k)(j:Nat):
  (∀k,k<W.heap.size->k≠w.heap.size+1->v.ownBlock≠some k->(W5.setCell ⟨w.heap.size+1,j,none⟩ v').heap[k]?=W.heap[k]?)/\W5.heap[w.heap.size+1]?=W.heap[w.heap.size+1]?/\w.heap.size+1<W5.heap.size/\Below (w.heap.size+1) (w.alloc (.cells #[.string ⟨#[]⟩,.string ⟨#[]⟩,.int .i64 0,.slice none 0 0,.slice none 0 0,.slice none 0 0] 184)) (W5.setCell ⟨w.heap.size+1,j,none⟩ v'):=by
 have hl:=h.lt;have hz:=hg.size;refine⟨λk hk C1 D7=>(Below.heap_setCell W5 ⟨w.heap.size+1,j,none⟩ v' k C1).trans (hg.block k hk (λe=>D7 e.symm)),hg.block _ hl (λe=>by have:=hv _ e.symm;omega),by omega, ?_⟩;exact Below.setCell (Go.RowKit.Below.grown h.bel hg (by omega) (λk hk=>by have:=hv k hk;omega)) (Nat.le_refl _) _
theorem MdAt.appT(h:MdAt w W op text cl pv tv rv ts rs){a:Addr}{m c:Nat}{us:List (List UInt8)}(hm:us.length=m)(C1:0<m)(hsrc:∀k t,us[k]?=some t->W.cell? (a.add k)=some (.string (BS t)))(aN:ts.length+m<=1000000000)(ty:TypeId):
  ∃g cap W5,(vz2 #[62,62] ty #[tv,.slice (some a) m c]).run prog W=.ok (.slice (some ⟨g,0,none⟩) (ts.length+m) cap) W5 /\
   W5.cell? ⟨w.heap.size+1,4,none⟩=some tv/\(∀i,W5.frozen? ⟨w.heap.size+1,i,none⟩=false)/\w.heap.size+1<W5.heap.size /\
   Hid (MdAt w (W5.setCell ⟨w.heap.size+1,4,none⟩ (.slice (some ⟨g,0,none⟩) (ts.length+m) cap)) op text cl pv (.slice (some ⟨g,0,none⟩) (ts.length+m) cap) rv (ts++us) rs):=by
 subst hm;obtain⟨i0,hi,I8,C8,F8⟩:=info_parts vm0;have A1:=h.lt;obtain⟨g,cap,W5,hr,C2,B7,F0,sI⟩:=run_append_lies (P:=prog) W 62 ty (w.heap.size+2) 9 i0 _ 1 16 underlying62 hi I8 C8 F8 rfl (by omega) tv ts.length _ h.tr
  a us.length c (qa1 us) (by simp[qa1]) (λj u hj=>by
   rw[qa1,List.getElem?_map]at hj
   cases hu:us[j]? with
   | none=>rw[hu]at hj;cases hj
   | some t=>rw[hu]at hj;injection hj with hj;rw[←hj];exact hsrc j t hu) (λu hu=>by
   obtain⟨t,_,rfl⟩:=List.mem_map.1 hu;rfl) C1 (by unfold maxLen;omega) (by omega) (by omega) W.heap.size rfl
 obtain⟨hk,b9,sD,F2⟩:=h.grown B7 (λk hk=>(h.tr.lt k hk).1) 4 (v':=.slice (some ⟨g,0,none⟩) (ts.length+us.length) cap);have hc:∀j,W5.cell? ⟨w.heap.size+1,j,none⟩=W.cell? ⟨w.heap.size+1,j,none⟩:=λj=>World.cell?_of_block (w:=W) (a:=⟨w.heap.size+1,j,none⟩) b9
 have hf:∀j,W5.frozen? ⟨w.heap.size+1,j,none⟩=false:=λj=>(World.frozen?_of_block (w:=W) (a:=⟨w.heap.size+1,j,none⟩) b9).trans (h.fz j)
 refine⟨g,cap,W5,hr,(hc 4).trans h.c4,hf,sD,j3 ⟨?_, ?_, ?_, ?_, ?_, ?_,λi=>?_,by simpa using sD,F2, ?_, ?_⟩⟩
 ·simp[go_sem,hc,h.c0]
 ·simp[go_sem,hc,h.c1]
 ·simp[go_sem,hc,h.c2]
 ·simp[go_sem,hc,h.c3]
 ·simp[go_sem,hc,h.c4]
 ·simp[go_sem,hc,h.c5]
 ·simp[go_sem,hf i]
 ·show World.ownsRow _ _ _ _ _ _ _
  rw[List.length_append,qa1,List.map_append];exact ownsRow_setCell_below C2 (by show w.heap.size+1<w.heap.size+2;omega) _
 ·refine qe7 h.rr λk A3=>hk k (h.rr.lt k A3).2 (by have:=(h.rr.lt k A3).1;omega) (λe=>?_)
  obtain⟨c1,e1⟩:=vj0 h.rr A3;obtain⟨c2,e2⟩:=vj0 h.tr e;rw[e1]at e2;injection e2 with e2;injection e2 with _ e2 _;exact absurd e2 (by decide)
theorem MdAt.appR'(h:MdAt w W op text cl pv tv rv ts rs){a:Addr}{m c:Nat}{us:List Nat}(hm:us.length=m)(C1:0<m)(hsrc:∀k (t:Nat),us[k]?=some t->W.cell? (a.add k)=some (.int .i64 (t:Int)))(aN:rs.length+m<=1000000000)(ty:TypeId):
  ∃g cap W5,(vz2 #[52,52] ty #[rv,.slice (some a) m c]).run prog W=.ok (.slice (some ⟨g,0,none⟩) (rs.length+m) cap) W5 /\
   W5.cell? ⟨w.heap.size+1,5,none⟩=some rv/\(∀i,W5.frozen? ⟨w.heap.size+1,i,none⟩=false)/\w.heap.size+1<W5.heap.size /\
   Hid (MdAt w (W5.setCell ⟨w.heap.size+1,5,none⟩ (.slice (some ⟨g,0,none⟩) (rs.length+m) cap)) op text cl pv tv (.slice (some ⟨g,0,none⟩) (rs.length+m) cap) ts (rs++us)):=by
 subst hm;obtain⟨i0,hi,I8,C8,F8⟩:=info_parts jc0;have A1:=h.lt;obtain⟨g,cap,W5,hr,C2,B7,F0,sI⟩:=run_append_lies (P:=prog) W 52 ty (w.heap.size+2) 3 i0 _ 1 8 underlying52 hi I8 C8 F8 rfl (by omega) rv rs.length _ h.rr
  a us.length c (qy5 us) (by simp[qy5]) (λj u hj=>by
   rw[qy5,List.getElem?_map]at hj
   cases hu:us[j]? with
   | none=>rw[hu]at hj;cases hj
   | some t=>rw[hu]at hj;injection hj with hj;rw[←hj];exact hsrc j t hu) (λu hu=>by
   obtain⟨t,_,rfl⟩:=List.mem_map.1 hu;rfl) C1 (by unfold maxLen;omega) (by omega) (by omega) W.heap.size rfl
 obtain⟨hk,b9,sD,F2⟩:=h.grown B7 (λk hk=>(h.rr.lt k hk).1) 5 (v':=.slice (some ⟨g,0,none⟩) (rs.length+us.length) cap);have hc:∀j,W5.cell? ⟨w.heap.size+1,j,none⟩=W.cell? ⟨w.heap.size+1,j,none⟩:=λj=>World.cell?_of_block (w:=W) (a:=⟨w.heap.size+1,j,none⟩) b9
 have hf:∀j,W5.frozen? ⟨w.heap.size+1,j,none⟩=false:=λj=>(World.frozen?_of_block (w:=W) (a:=⟨w.heap.size+1,j,none⟩) b9).trans (h.fz j)
 refine⟨g,cap,W5,hr,(hc 5).trans h.c5,hf,sD,j3 ⟨?_, ?_, ?_, ?_, ?_, ?_,λi=>?_,by simpa using sD,F2, ?_, ?_⟩⟩
 ·simp[go_sem,hc,h.c0]
 ·simp[go_sem,hc,h.c1]
 ·simp[go_sem,hc,h.c2]
 ·simp[go_sem,hc,h.c3]
 ·simp[go_sem,hc,h.c4]
 ·simp[go_sem,hc,h.c5]
 ·simp[go_sem,hf i]
 ·refine qe7 h.tr λk A3=>hk k (h.tr.lt k A3).2 (by have:=(h.tr.lt k A3).1;omega) (λe=>?_)
  obtain⟨c1,e1⟩:=vj0 h.tr A3;obtain⟨c2,e2⟩:=vj0 h.rr e;rw[e1]at e2;injection e2 with e2;injection e2 with _ e2 _;exact absurd e2 (by decide)
 ·show World.ownsRow _ _ _ _ _ _ _
  rw[List.length_append,qy5,List.map_append];exact ownsRow_setCell_below C2 (by show w.heap.size+1<w.heap.size+2;omega) _
end
end
end Go.Proofs.YtfkcaldjphakpaaGreatDoor
