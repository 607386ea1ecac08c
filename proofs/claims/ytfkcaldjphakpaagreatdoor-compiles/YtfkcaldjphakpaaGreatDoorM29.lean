/- The document's answer. -/
import Derived.Test.YtfkcaldjphakpaaGreatDoorM28
import Derived.Deep.CutBlock
namespace Go.Proofs.YtfkcaldjphakpaaGreatDoor
open Go.RowKit Go.Proofs.Tryz
section
attribute [local go_sem ↓] qe4
def qz3(S:List (List UInt8))(k:Nat)(t:List UInt8):Bool:=k==0||Op.bytesLess (S.getD (k - 1) []) t
def qh2(ts S:List (List UInt8))(k:Nat):Nat->Int
 | 0=>-1
 | m+1=>if qz3 S k (ts.getD m [])&&(decide (qh2 ts S k m<0)||Op.bytesLess (ts.getD m []) (ts.getD (qh2 ts S k m).toNat [])) then m else qh2 ts S k m
theorem vu0(ts S:List (List UInt8))(k:Nat):∀m,-1<=qh2 ts S k m/\qh2 ts S k m<m:=by
 intro m
 induction m with
 | zero=>exact⟨Int.le_refl _,by show(-1:Int)<0;decide⟩
 | succ m ih=>
  unfold qh2
  split
  ·exact⟨by omega,by omega⟩
  ·exact⟨ih.1,by omega⟩
theorem best_is(ts S:List (List UInt8))(k:Nat):∀m,m<=ts.length->(qh2 ts S k m<0->∀i,i<m->qz3 S k (ts.getD i [])=false)/\(0<=qh2 ts S k m->qz3 S k (ts.getD (qh2 ts S k m).toNat [])=true/\∀i,i<m->qz3 S k (ts.getD i [])=true->¬ts.getD i []<ts.getD (qh2 ts S k m).toNat []):=by
 intro m
 induction m with
 | zero=>intro _;exact⟨λ_ i hi=>absurd hi (by omega),λh=>by simp[qh2]at h⟩
 | succ m ih=>
  intro hm;obtain⟨xF,xE⟩:=ih (by omega);have hr:=vu0 ts S k m;unfold qh2
  by_cases hc:(qz3 S k (ts.getD m [])&&(decide (qh2 ts S k m<0)||Op.bytesLess (ts.getD m []) (ts.getD (qh2 ts S k m).toNat [])))=true
  ·rw[if_pos hc]
   rw[Bool.and_eq_true,Bool.or_eq_true,decide_eq_true_eq]at hc;refine⟨λh=>absurd h (by omega),λ_=>?_⟩;simp only[Int.toNat_natCast];refine⟨hc.1,λi hi hl=>?_⟩
   by_cases him:i=m
   ·subst him;exact lt_ir
   ·rcases hc.2 with h|h
    ·rw[xF h i (by omega)]at hl;cases hl
    ·rw[bl_lt,decide_eq_true_eq]at h
     by_cases hb:qh2 ts S k m<0
     ·rw[xF hb i (by omega)]at hl;cases hl
     ·intro A1
      exact(xE (by omega)).2 i (by omega) hl (lt_tr A1 h)
  ·rw[if_neg hc]
   rw[Bool.and_eq_true,Bool.or_eq_true,decide_eq_true_eq]at hc;refine⟨λh i hi=>?_,λh=>⟨(xE h).1,λi hi hl=>?_⟩⟩
   ·by_cases him:i=m
    ·subst him
     cases hl:qz3 S k (ts.getD i []) with
     | false=>rfl
     | true=>exact absurd ⟨hl,.inl h⟩ hc
    ·exact xF h i (by omega)
   ·by_cases him:i=m
    ·subst him
     intro A1;exact hc ⟨hl,.inr (by rw[bl_lt,decide_eq_true_eq];exact A1)⟩
    ·exact(xE h).2 i (by omega) hl
theorem vv1{ts:List (List UInt8)}{i:Nat}(h:i<ts.length):ts.getD i []∈ts:=by
 rw[List.getD_eq_getElem?_getD,List.getElem?_eq_getElem h];exact List.getElem_mem _
theorem vv7{ts:List (List UInt8)}{x:List UInt8}(h:x∈ts):∃i,i<ts.length/\ts.getD i []=x:=by
 obtain⟨i,hi⟩:=List.getElem?_of_mem h;exact⟨i,(List.getElem?_eq_some_iff.1 hi).1,by rw[List.getD_eq_getElem?_getD,hi];rfl⟩
theorem pw_lt{S:List (List UInt8)}(h:S.Pairwise (·<·)){i j:Nat}(hj:j<S.length)(sG:i<j):S.getD i []<S.getD j []:=by
 rw[List.getD_eq_getElem?_getD,List.getD_eq_getElem?_getD,List.getElem?_eq_getElem (by omega),List.getElem?_eq_getElem hj];exact List.pairwise_iff_getElem.1 h i j (by omega) hj sG
theorem vv3{S:List (List UInt8)}(h:S.Pairwise (·<·)){k i:Nat}(hk:k<=S.length)(hi:i<S.length):qz3 S k (S.getD i [])=decide (k<=i):=by
 unfold qz3
 by_cases h0:k=0
 ·subst h0;simp
 ·rw[show(k==0)=false by simpa using h0,Bool.false_or,bl_lt]
  by_cases hki:k<=i
  ·rw[decide_eq_true (pw_lt h hi (by omega)),decide_eq_true hki]
  ·rw[decide_eq_false hki,decide_eq_false]
   intro A1
   by_cases e:i=k - 1
   ·subst e;exact lt_ir A1
   ·exact lt_ir (lt_tr A1 (pw_lt h (by omega) (by omega)))
theorem best_none{ts:List (List UInt8)}{k:Nat}(hk:k<=(qe5 ts).length)(h:qh2 ts (qe5 ts) k ts.length<0):k=(qe5 ts).length:=by
 apply Decidable.byContradiction;intro C1;have hm:=vd5.1 (vv1 (ts:=qe5 ts) (i:=k) (by omega));obtain⟨i,hi,e⟩:=vv7 hm;have:=(best_is ts (qe5 ts) k ts.length (Nat.le_refl _)).1 h i hi;rw[e,vv3 (vj2 ts) hk (by omega)]at this;simp at this
theorem best_next{ts:List (List UInt8)}{k:Nat}(hk:k<=(qe5 ts).length)(h:0<=qh2 ts (qe5 ts) k ts.length):k<(qe5 ts).length/\ts.getD (qh2 ts (qe5 ts) k ts.length).toNat []=(qe5 ts).getD k []:=by
 have hr:=vu0 ts (qe5 ts) k ts.length;obtain⟨hl,bB⟩:=(best_is ts (qe5 ts) k ts.length (Nat.le_refl _)).2 h;obtain⟨b,hb⟩:∃b,(qh2 ts (qe5 ts) k ts.length).toNat=b:=⟨_,rfl⟩;rw[hb]at hl bB ⊢;have hm:=vd5.2 (vv1 (ts:=ts) (i:=b) (by omega));obtain⟨i,hi,e⟩:=vv7 hm;rw[←e,vv3 (vj2 ts) hk hi,decide_eq_true_eq]at hl;have nQ:k<(qe5 ts).length:=by omega
 refine⟨nQ, ?_⟩
 by_cases hik:i=k
 ·rw[←e,hik]
 ·have jY:=vd5.1 (vv1 (ts:=qe5 ts) (i:=k) nQ)
  obtain⟨j,hj,e2⟩:=vv7 jY;have:=bB j hj (by rw[e2,vv3 (vj2 ts) hk nQ,decide_eq_true_eq];exact Nat.le_refl _);rw[e2,←e]at this;exact absurd (pw_lt (vj2 ts) hi (by omega)) this
end
section
attribute [local go_sem ↓] qe4
theorem gtr_later(a b:List UInt8):(!(Op.bytesLess a b||a==b))=Op.bytesLess b a:=by
 rw[bl_lt,bl_lt]
 by_cases h:b<a
 ·rw[decide_eq_true h]
  have h1:¬a<b:=λk=>lt_ir (lt_tr h k)
  have h2:(a==b)=false:=beq_eq_false_iff_ne.2 (λe=>lt_ir (e ▸ h));rw[decide_eq_false h1,h2];rfl
 ·rw[decide_eq_false h]
  by_cases e:a=b
  ·subst e;simp
  ·have:a<b:=va0 (List.not_lt.1 h) e
   rw[decide_eq_true this];rfl
def sliceN:Value->Nat
 | .slice _ n _=>n
 | _=>0
structure SelAt(w:World)(f:RF)(W:World)(lv:Value)(l:List (List UInt8)):Prop where
 row:TwRow W (w.heap.size+1+1) lv l
 bel:Below (w.heap.size+1+1) ((w.alloc (.cells #[.string f.op,.string (BS f.text),.int .i64 f.cls,.slice f.pa f.pn f.pc,.slice f.ta f.tn f.tc,.slice f.ra f.rn f.rc] 184)).alloc (.cells #[.string ⟨#[]⟩,.string ⟨#[]⟩,.int .i64 0,.slice none 0 0,.slice none 0 0,.slice none 0 0] 184)) W
section
variable {w W:World} {f:RF} {lv:Value} {l:List (List UInt8)}
theorem SelAt.drewN(h:SelAt w f W lv l)(k:Nat):SelAt w f (W.drewN k) lv l:=⟨h.row,Go.below_drewN h.bel _⟩
theorem SelAt.bel0(h:SelAt w f W lv l):Below w.heap.size w W:=(((Below.refl _ _).alloc (Nat.le_refl _) _).alloc (by simp) _).trans (h.bel.mono (by omega))
theorem SelAt.size(h:SelAt w f W lv l):w.heap.size+1+1<=W.heap.size:=by have:=h.bel.size;simpa using this
theorem TwRow.cell{w:World}{base:Nat}{v:Value}{ts:List (List UInt8)}(h:TwRow w base v ts){k:Nat}{t:List UInt8}(ht:ts[k]?=some t):∃g cap,v=.slice (some ⟨g,0,none⟩) ts.length cap/\base<=g/\g<w.heap.size/\w.cell? ⟨g,k,none⟩=some (.string (BS t)):=by
 obtain⟨g,cap,e,h1,h2,h3⟩:=h.txt (by intro e;rw[e]at ht;cases ht);exact⟨g,cap,e,h1,h2,h3 k t ht⟩
theorem TwRow.app1{W:World}{base:Nat}{v:Value}{ts:List (List UInt8)}(h:TwRow W base v ts)(hb:base<=W.heap.size)(x:List UInt8)(hn:ts.length<=1000000)(H:Nat)(hH:W.heap.size=H):
  ∃g cap w5,(vz2 #[62,62] 62 #[v,.slice (some ⟨H,0,none⟩) 1 1]).run prog (W.alloc (.cells #[.string (BS x)] 9))=.ok (.slice (some ⟨g,0,none⟩) (ts.length+1) cap) w5 /\
   Hid (TwRow w5 base (.slice (some ⟨g,0,none⟩) (ts.length+1) cap) (ts++[x]))/\Hid (Below base W w5):=by
 subst hH;obtain⟨i0,hi,I8,C8,F8⟩:=info_parts vm0;have ha:=World.ownsRow.alloc h (.cells #[.string (BS x)] 9);obtain⟨g,cap,w5,hr,C2,B7,F0,_⟩:=run_append_lies (P:=prog) (W.alloc (.cells #[.string (BS x)] 9)) 62 62 base 9 i0 _ 1 16 underlying62 hi I8 C8 F8 rfl (by omega) v ts.length _ ha
  ⟨W.heap.size,0,none⟩ 1 1 [.string (BS x)] rfl (World.news_of_block (cs:=#[.string (BS x)]) (t:=9) (fr:=(0,0)) (heap_alloc_new W _)) (by simp[Value.oneCell']) (by omega) (by unfold maxLen;omega) (by omega) (by simp;omega) _ rfl
 refine⟨g,cap,w5,hr,j3 ?_,j3 ?_⟩
 ·show World.ownsRow _ _ _ _ _ _ _
  rw[List.length_append,List.length_singleton,qa1,List.map_append];exact C2
 ·exact Go.RowKit.Below.grown (((Below.refl base W).alloc hb _)) B7 (by simp;omega) (λk hk=>(ha.lt k hk).1)
end
end
section
structure OutAt(N:Nat->Prop)(w1 wr:World)(ob:Nat)(c:Co)(r:RF):Prop where
 bel:Below w1.heap.size w1 wr
 ge:w1.heap.size<=ob
 lt:ob<wr.heap.size
 cells:∀k,k<6->wr.cell? ⟨ob,k,none⟩=(qa2 r)[k]?
 fz:∀i,wr.frozen? ⟨ob,i,none⟩=false
 rf:RfAt (λb=>N b\/(w1.heap.size<=b/\b≠ob)) wr c r
section
variable {N:Nat->Prop} {w1 wr w':World} {ob:Nat} {c d:Co} {r s:RF}
theorem OutAt.below(h:OutAt N w1 wr ob c r)(hb:Below wr.heap.size wr w'):OutAt N w1 w' ob c r:=
 ⟨j6 h.bel hb,h.ge,Nat.lt_of_lt_of_le h.lt hb.size,λk hk=>((qb0 hb).1 _ _ h.lt).trans (h.cells k hk),λi=>((qb0 hb).2 _ _ h.lt).trans (h.fz i),h.rf.below hb⟩
theorem OutAt.new(hb:Below w1.heap.size w1 wr)(hr:RfAt (λb=>N b\/w1.heap.size<=b) wr c r):
  OutAt N w1 (wr.alloc (.cells #[.string r.op,.string (BS r.text),.int .i64 r.cls,.slice r.pa r.pn r.pc,.slice r.ta r.tn r.tc,.slice r.ra r.rn r.rc] 184)) wr.heap.size c r:=by
 have ha:Below wr.heap.size wr (wr.alloc (.cells #[.string r.op,.string (BS r.text),.int .i64 r.cls,.slice r.pa r.pn r.pc,.slice r.ta r.tn r.tc,.slice r.ra r.rn r.rc] 184)):=(Below.refl _ _).alloc (Nat.le_refl _) _;refine⟨hb.alloc hb.size _,hb.size,by simp,λk hk=>?_,λi=>by simp, ?_⟩
 ·rw[World.cell?_alloc_at _ _ _ _ rfl]
  match k,hk with
  | 0,_=>rfl
  | 1,_=>rfl
  | 2,_=>rfl
  | 3,_=>rfl
  | 4,_=>rfl
  | 5,_=>rfl
 ·exact hr.keep (λb _ hl=>ha.block b hl) ha.size (λb h hl=>by
   rcases h with h|h
   ·exact .inl h
   ·exact .inr ⟨h,by omega⟩)
theorem six_cells{W:World}{q:Nat}{a b c d f g:Value}(h0:∃v,W.cell? ⟨q,0,none⟩=some v)(h1:∃v,W.cell? ⟨q,1,none⟩=some v)(h2:∃v,W.cell? ⟨q,2,none⟩=some v)(h3:∃v,W.cell? ⟨q,3,none⟩=some v)(h4:∃v,W.cell? ⟨q,4,none⟩=some v)(h5:∃v,W.cell? ⟨q,5,none⟩=some v):
  ∀k,k<6->((((((W.setCell ⟨q,0,none⟩ a).setCell ⟨q,1,none⟩ b).setCell ⟨q,2,none⟩ c).setCell ⟨q,3,none⟩ d).setCell ⟨q,4,none⟩ f).setCell ⟨q,5,none⟩ g).cell? ⟨q,k,none⟩=[a,b,c,d,f,g][k]?:=by
 obtain⟨v0,h0⟩:=h0;obtain⟨v1,h1⟩:=h1;obtain⟨v2,h2⟩:=h2;obtain⟨v3,h3⟩:=h3;obtain⟨v4,h4⟩:=h4;obtain⟨v5,h5⟩:=h5;intro k hk
 match k,hk with
 | 0,_=>simp[go_sem,h0]
 | 1,_=>simp[go_sem,h1]
 | 2,_=>simp[go_sem,h2]
 | 3,_=>simp[go_sem,h3]
 | 4,_=>simp[go_sem,h4]
 | 5,_=>simp[go_sem,h5]
theorem OutAt.put(hb:Below w1.heap.size w1 wr)(ge:w1.heap.size<=ob)(lt:ob<wr.heap.size)(hN:∀b,N b->b<w1.heap.size)(hc:∀k,k<6->∃v,wr.cell? ⟨ob,k,none⟩=some v)(hf:∀i,wr.frozen? ⟨ob,i,none⟩=false)(hr:RfAt (λb=>N b\/(w1.heap.size<=b/\b≠ob)) wr d s):
  OutAt N w1 ((((((wr.setCell ⟨ob,0,none⟩ (.string s.op)).setCell ⟨ob,1,none⟩ (.string (BS s.text))).setCell ⟨ob,2,none⟩ (.int .i64 s.cls)).setCell ⟨ob,3,none⟩ (.slice s.pa s.pn s.pc)).setCell ⟨ob,4,none⟩ (.slice s.ta s.tn s.tc)).setCell ⟨ob,5,none⟩ (.slice s.ra s.rn s.rc)) ob d s:=by
 have hs:=qi2 wr ob (.string s.op) (.string (BS s.text)) (.int .i64 s.cls) (.slice s.pa s.pn s.pc) (.slice s.ta s.tn s.tc) (.slice s.ra s.rn s.rc);refine⟨hs.bel _ _ ge hb,ge,by rw[hs.size];exact lt,six_cells (hc 0 (by omega)) (hc 1 (by omega)) (hc 2 (by omega)) (hc 3 (by omega)) (hc 4 (by omega)) (hc 5 (by omega)),λi=>?_,hs.rf hr (by rintro (h|h);have:=hN _ h;omega;exact h.2 rfl) (λ_ h _=>h)⟩;simp[go_sem,hf i]
end
theorem jg5{N:Nat->Prop}{w1 W:World}{ob:Nat}{x y:Co}{f g:RF}{o:Int}(ho:qe8 o)(hb:Below w1.heap.size w1 W)(hx:RfAt (λb=>N b\/(w1.heap.size<=b/\b≠ob)) W x f)(hy:RfAt (λb=>N b\/(w1.heap.size<=b/\b≠ob)) W y g)(rO:ob<W.heap.size)(bx:qv7 x)(by':qv7 y):
  Calls prog 227 #[.string (BS (qb7 o)),f.v,g.v] W λe w'=>Below W.heap.size W w'/\∃r:RF,e=.returned r.v/\RfAt (λb=>N b\/(w1.heap.size<=b/\b≠ob)) w' (j9 o x y) r:=by
 have hz:=hb.size;have q1:RfAt (λb=>(N b\/(w1.heap.size<=b/\b≠ob))/\b<W.heap.size) W x f:=hx.keep (λ_ _ _=>rfl) (Nat.le_refl _) (λb h hl=>⟨h,hl⟩);have q2:RfAt (λb=>(N b\/(w1.heap.size<=b/\b≠ob))/\b<W.heap.size) W y g:=hy.keep (λ_ _ _=>rfl) (Nat.le_refl _) (λb h hl=>⟨h,hl⟩);refine(qy7 ho q1 q2 bx by' (λb h=>h.2)).mono ?_;rintro e w'⟨h1,r,e1,h2⟩
 exact⟨h1,r,e1,h2.keep (λ_ _ _=>rfl) (Nat.le_refl _) (λb h _=>by
  rcases h with h|h
  ·exact h.1
  ·exact .inr ⟨by omega,by omega⟩)⟩
theorem tw_no{N:Nat->Prop}{w1 W:World}{x y:Co}{f g:RF}{o:Int}(ho:qe8 o)(hb:Below w1.heap.size w1 W)(hx:RfAt (λb=>N b\/w1.heap.size<=b) W x f)(hy:RfAt (λb=>N b\/w1.heap.size<=b) W y g)(bx:qv7 x)(by':qv7 y):
  Calls prog 227 #[.string (BS (qb7 o)),f.v,g.v] W λe w'=>Below W.heap.size W w'/\∃r:RF,e=.returned r.v/\RfAt (λb=>N b\/w1.heap.size<=b) w' (j9 o x y) r:=by
 have hz:=hb.size;have q1:RfAt (λb=>(N b\/w1.heap.size<=b)/\b<W.heap.size) W x f:=hx.keep (λ_ _ _=>rfl) (Nat.le_refl _) (λb h hl=>⟨h,hl⟩);have q2:RfAt (λb=>(N b\/w1.heap.size<=b)/\b<W.heap.size) W y g:=hy.keep (λ_ _ _=>rfl) (Nat.le_refl _) (λb h hl=>⟨h,hl⟩);refine(qy7 ho q1 q2 bx by' (λb h=>h.2)).mono ?_;rintro e w'⟨h1,r,e1,h2⟩
 exact⟨h1,r,e1,h2.keep (λ_ _ _=>rfl) (Nat.le_refl _) (λb h _=>by
  rcases h with h|h
  ·exact h.1
  ·exact .inr (by omega))⟩
theorem js3{N:Nat->Prop}{w1 w2:World}{c:Co}{g:RF}(h:RfAt (λb=>N b\/w1.heap.size<=b) w2 c g)(o:Obj):RfAt (λb=>N b\/(w1.heap.size<=b/\b≠w2.heap.size)) (w2.alloc o) c g:=
 h.keep (λb _ hl=>((Below.refl w2.heap.size w2).alloc (Nat.le_refl _) o).block b hl) (by simp) (λb h hl=>by
  rcases h with h|h
  ·exact .inl h
  ·exact .inr ⟨h,by omega⟩)
theorem orAll_sn(x:Co):∀(r:List (List UInt8)) (f:Co) (t:List UInt8),qm8 x f (r++[t])=j9 7 (qm8 x f r) (j9 8 x (qd4 t)):=by
 intro r
 induction r with
 | nil=>intro f t;rfl
 | cons u r ih=>intro f t;rw[List.cons_append,qm8,qm8,ih]
def amK(x:Co)(S:List (List UInt8))(i:Nat):Co:=qm8 x (j9 8 x (qd4 (S.getD 0 []))) ((S.drop 1).take (i - 1))
theorem amK_step{x:Co}{S:List (List UInt8)}{i:Nat}{t:List UInt8}(h1:1<=i)(ht:S[i]?=some t):amK x S (i+1)=j9 7 (amK x S i) (j9 8 x (qd4 t)):=by
 unfold amK;rw[←orAll_sn]
 congr 1
 obtain⟨j,rfl⟩:∃j,i=j+1:=⟨i - 1,by omega⟩;rw[Nat.add_sub_cancel,Nat.add_sub_cancel,List.take_add_one,List.getElem?_drop,Nat.add_comm 1 j,ht];rfl
theorem amK_all{x:Co}{ts:List (List UInt8)}(C1:qe5 ts≠[]):amK x (qe5 ts) (qe5 ts).length=qh1 x ts:=by
 unfold amK qh1
 cases h:qe5 ts with
 | nil=>exact absurd h C1
 | cons t r=>simp
structure ZeroVar(w:World)(q:Nat):Prop where
 c0:w.cell? ⟨q,0,none⟩=some (.string ⟨#[]⟩)
 c1:w.cell? ⟨q,1,none⟩=some (.string ⟨#[]⟩)
 c2:w.cell? ⟨q,2,none⟩=some (.int .i64 0)
 c3:w.cell? ⟨q,3,none⟩=some (.slice none 0 0)
 c4:w.cell? ⟨q,4,none⟩=some (.slice none 0 0)
 c5:w.cell? ⟨q,5,none⟩=some (.slice none 0 0)
 fz:∀i,w.frozen? ⟨q,i,none⟩=false
 lt:q<w.heap.size
theorem ZeroVar.below{w w':World}{q:Nat}(h:ZeroVar w q)(hb:Below w.heap.size w w'):ZeroVar w' q:=
 ⟨((qb0 hb).1 _ _ h.lt).trans h.c0,((qb0 hb).1 _ _ h.lt).trans h.c1,((qb0 hb).1 _ _ h.lt).trans h.c2,((qb0 hb).1 _ _ h.lt).trans h.c3,((qb0 hb).1 _ _ h.lt).trans h.c4,((qb0 hb).1 _ _ h.lt).trans h.c5,λi=>((qb0 hb).2 _ i h.lt).trans (h.fz i),Nat.lt_of_lt_of_le h.lt hb.size⟩
theorem ZeroVar.drew{w:World}{q:Nat}(h:ZeroVar w q):ZeroVar w.drew q:=⟨h.c0,h.c1,h.c2,h.c3,h.c4,h.c5,h.fz,h.lt⟩
theorem qv3(B:World):ZeroVar (B.alloc (.cells #[.string ⟨#[]⟩,.string ⟨#[]⟩,.int .i64 0,.slice none 0 0,.slice none 0 0,.slice none 0 0] 184)) B.heap.size:=⟨by simp,by simp,by simp,by simp,by simp,by simp,λi=>by simp,by simp⟩
theorem qu4{N N':Nat->Prop}{W:World}{c:Co}{f:RF}(h:RfAt N W c f)(hN:∀b,N b->b<W.heap.size->N' b):RfAt N' W c f:=h.keep (λ_ _ _=>rfl) (Nat.le_refl _) hN
end
end Go.Proofs.YtfkcaldjphakpaaGreatDoor
