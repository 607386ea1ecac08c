/- The document's answer. -/
import Derived.Test.YtfkcaldjphakpaaGreatDoorM32
import Derived.Test.YtfkcaldjphakpaaGreatDoorM31
import Derived.Test.YtfkcaldjphakpaaGreatDoorM36
set_option maxHeartbeats 16000000
set_option maxRecDepth 100000
namespace Go.Proofs.YtfkcaldjphakpaaGreatDoor
open Go.RowKit Go.Proofs.Tryz
section
section
variable {N N':Nat->Prop} {w w' W:World}
def CsOf(N:Nat->Prop)(w:World)(cs:List Co)(fs:List RF):Prop:=fs.length=cs.length/\∀(i:Nat) (c:Co) (f:RF),cs[i]?=some c->fs[i]?=some f->RfAt N w c f
theorem CsOf.below{cs:List Co}{fs:List RF}(h:CsOf N w cs fs)(hb:Below w.heap.size w w'):CsOf N w' cs fs:=⟨h.1,λi c f a b=>(h.2 i c f a b).below hb⟩
theorem CsOf.keep{cs:List Co}{fs:List RF}(h:CsOf N w cs fs)(hN:∀b,N b->b<w.heap.size->N' b):CsOf N' w cs fs:=⟨h.1,λi c f a b=>(h.2 i c f a b).keep (λ_ _ _=>rfl) (Nat.le_refl _) hN⟩
def CsIn(N:Nat->Prop)(w:World)(inv:Value)(xs:List Co):Prop:=∃fs,CsOf N w xs fs/\(xs=[]\/∃b cap,inv=.slice (some ⟨b,0,none⟩) xs.length cap/\N b/\b<w.heap.size/\∀k,k<xs.length * 6->w.cell? ⟨b,k,none⟩=(fs.flatMap qa2)[k]?)
theorem CsIn.one{inv:Value}{x:Co}(h:CsIn N w inv [x]):∃b cap g,inv=.slice (some ⟨b,0,none⟩) 1 cap/\N b/\b<w.heap.size/\RfAt N w x g/\∀k,k<6->w.cell? ⟨b,k,none⟩=(qa2 g)[k]?:=by
 obtain⟨fs,⟨hl,ho⟩,h|⟨b,cap,rfl,hb,A1,hc⟩⟩:=h
 ·cases h
 ·match fs,hl with
  | [g],_=>exact⟨b,cap,g,rfl,hb,A1,ho 0 x g rfl rfl,λk hk=>by have:=hc k hk;simpa using this⟩
theorem CsIn.two{inv:Value}{x y:Co}(h:CsIn N w inv [x,y]):∃b cap g k,inv=.slice (some ⟨b,0,none⟩) 2 cap/\b<w.heap.size/\RfAt N w x g/\RfAt N w y k/\∀i,i<12->w.cell? ⟨b,i,none⟩=(qa2 g++qa2 k)[i]?:=by
 obtain⟨fs,⟨hl,ho⟩,h|⟨b,cap,rfl,hb,A1,hc⟩⟩:=h
 ·cases h
 ·match fs,hl with
  | [g,k],_=>exact⟨b,cap,g,k,rfl,A1,ho 0 x g rfl rfl,ho 1 y k rfl rfl,λi hi=>by have:=hc i hi;simpa using this⟩
theorem CsIn.three{inv:Value}{x y z:Co}(h:CsIn N w inv [x,y,z]):∃b cap g k j,inv=.slice (some ⟨b,0,none⟩) 3 cap/\b<w.heap.size/\RfAt N w x g/\RfAt N w y k/\RfAt N w z j/\∀i,i<18->w.cell? ⟨b,i,none⟩=(qa2 g++qa2 k++qa2 j)[i]?:=by
 obtain⟨fs,⟨hl,ho⟩,h|⟨b,cap,rfl,hb,A1,hc⟩⟩:=h
 ·cases h
 ·match fs,hl with
  | [g,k,j],_=>exact⟨b,cap,g,k,j,rfl,A1,ho 0 x g rfl rfl,ho 1 y k rfl rfl,ho 2 z j rfl rfl,λi hi=>by have:=hc i hi;simpa using this⟩
theorem vi9{c:Co}{e:Ending}(hz:w.heap.size+1+1<=W.heap.size)(h:qp6 (λb=>(N b\/w.heap.size+1+1<=b)/\b<W.heap.size) W c e w'):Below W.heap.size W w'/\∃r:RF,e=.returned r.v/\RfAt (λb=>N b\/w.heap.size+1+1<=b) w' c r:=by
 obtain⟨h1,r,e1,h2⟩:=h;exact⟨h1,r,e1,h2.keep (λ_ _ _=>rfl) (Nat.le_refl _) (λb h _=>by rcases h with h|h;exact h.1;right;omega)⟩
theorem vp0{c:Co}{f:RF}(h:RfAt N w c f)(hb:Below w.heap.size w W):RfAt (λb=>(N b\/w.heap.size+1+1<=b)/\b<W.heap.size) W c f:=(h.below hb).keep (λ_ _ _=>rfl) (Nat.le_refl _) (λ_ h hl=>⟨.inl h,hl⟩)
theorem rf_lt{c:Co}{f:RF}(h:RfAt (λb=>N b\/w.heap.size+1+1<=b) W c f):RfAt (λb=>(N b\/w.heap.size+1+1<=b)/\b<W.heap.size) W c f:=h.keep (λ_ _ _=>rfl) (Nat.le_refl _) (λ_ h hl=>⟨h,hl⟩)
theorem vf2:x9 (qz1 0)=[48]:=by
 show Lib.itoa ((0:Nat):Int)=[48];rw[Lib.itoa_nonneg,Lib.decDigits_one (by decide)];rfl
theorem zero_ok(N:Nat->Prop)(w:World):qg0 w λz w'=>RfAt (λb=>N b\/w.heap.size+1+1<=b) w' (qz1 0) z:=by
 intro W _ hz;have h:=qx1 N ⟨1,0,[],[]⟩ W;rw[show x9 (.leaf ⟨1,0,[],[]⟩)=[48] from vf2]at h;exact h.mono λe w' hh=>va3 hz hh.rf
theorem vm6(p:CP){W:World}(hz:w.heap.size+1<W.heap.size):Calls prog 224 #[.string (BS (qb7 p.op)),.string (BS (x9 (.leaf p))),.int .i64 (ji9 p.op),.int .i64 (vf6 p:Nat)] W λe w'=>Below W.heap.size W w'/\∃r:RF,e=.returned r.v/\RfAt (λb=>N b\/w.heap.size+1+1<=b) w' (.leaf p) r:=
 (qx1 N p W).mono λ_ _ hh=>va3 hz hh.rf
theorem jg6{x y:Co}{f g:RF}{o:Int}(ho:qe8 o)(hz:w.heap.size+1<W.heap.size)(hx:RfAt (λb=>(N b\/w.heap.size+1+1<=b)/\b<W.heap.size) W x f)(hy:RfAt (λb=>(N b\/w.heap.size+1+1<=b)/\b<W.heap.size) W y g)(bx:qv7 x)(by':qv7 y):
  Calls prog 227 #[.string (BS (qb7 o)),f.v,g.v] W λe w'=>Below W.heap.size W w'/\∃r:RF,e=.returned r.v/\RfAt (λb=>N b\/w.heap.size+1+1<=b) w' (j9 o x y) r:=
 (qy7 ho hx hy bx by' (λ_ h=>h.2)).mono λ_ _ h=>vi9 hz h
theorem den_at{x:Co}{f:RF}(hd:jh6 x)(hz:w.heap.size+1<W.heap.size)(hx:RfAt (λb=>(N b\/w.heap.size+1+1<=b)/\b<W.heap.size) W x f):
  Calls prog 179 #[f.v] W λe w'=>Below W.heap.size W w'/\∃r:RF,e=.returned r.v/\RfAt (λb=>N b\/w.heap.size+1+1<=b) w' (qd8 x) r:=
 (hd _ W f hx (λ_ h=>h.2)).mono λ_ _ h=>vi9 hz h
theorem jm5{p:CP}{x:Co}{b cap:Nat}{g:RF}(hz:w.heap.size+1<W.heap.size)(hb:Below w.heap.size w W)(hx:RfAt N w x g)(hN:N b)(A1:b<w.heap.size)(hc:∀k,k<6->w.cell? ⟨b,k,none⟩=(qa2 g)[k]?)(bx:qv7 x):
  Calls prog 229 #[.string (BS (qb7 p.op)),.string (BS (x9 (.un p x))),.int .i64 (ji9 p.op),.slice (some ⟨b,0,none⟩) 1 cap,.int .i64 (vf6 p:Nat)] W λe w'=>Below W.heap.size W w'/\∃r:RF,e=.returned r.v/\RfAt (λb=>N b\/w.heap.size+1+1<=b) w' (.un p x) r:=
 (je6 p (parts1 (vp0 hx hb) (Nat.lt_of_lt_of_le A1 hb.size) (λk hk=>((qb0 hb).1 _ _ A1).trans (hc k hk))) ⟨.inl hN,Nat.lt_of_lt_of_le A1 hb.size⟩ bx).mono λ_ _ h=>vi9 hz h
theorem amK_big{x:Co}(hx:(x9 x).length<=402)(hw:WfC x){S:List (List UInt8)}(hS:S.length<=1000)(hl:∀t∈S,t.length<=200)(i:Nat):qv7 (amK x S i):=by
 have mX:(S.getD 0 []).length<=200:=by
  rw[List.getD_eq_getElem?_getD]
  cases h:S[0]? with
  | none=>simp
  | some t=>exact hl t (List.mem_of_getElem? h)
 have aH:WfC (j9 8 x (qd4 (S.getD 0 []))):=qf8 rfl hw rfl;have KU:WfC (amK x S i):=jr8 hw _ _ aH;have h1:=vn2 x ((S.drop 1).take (i - 1)) (j9 8 x (qd4 (S.getD 0 []))) (λt ht=>hl t (List.mem_of_mem_drop (List.mem_of_mem_take ht)));rw[qb9 8 rfl rfl]at h1;have h2:=qp3 _ mX;have e8:(qi6 8).length=1:=rfl;have h3:((S.drop 1).take (i - 1)).length<=1000:=by rw[List.length_take,List.length_drop];omega
 have h4:((S.drop 1).take (i - 1)).length * ((x9 x).length+420)<=1000 * 822:=Nat.mul_le_mul h3 (by omega)
 have h5:(x9 (amK x S i)).length<=400000+1000 * 822:=by
  show(x9 (qm8 _ _ _)).length<=_;omega
 have h6:=qt1 _ KU;exact⟨by omega,by omega⟩
theorem js1{o:Int}(ho:qe8 o){x y:Co}(hx:Gc x)(hy:Gc y):qv7 (j9 o x y):=by
 obtain⟨h1,h2,h3⟩:=two_bin ho;have h4:=qb9 o h2 h3 x y;have h5:=sign_len3 o;have h6:=hx.len;have h7:=hy.len;have h8:=qt1 _ (qf8 h1 hx.wt.wf hy.wt.wf);exact⟨by omega,by omega⟩
theorem text_big{t:List UInt8}(h:t.length<=200):qv7 (qd4 t):=by
 have:=qp3 t h;exact⟨by omega,by show(1:Nat)<=_;omega⟩
theorem in_at{x:Co}{ts:List (List UInt8)}{g:RF}{la:Option Addr}{lc:Nat}(hz:w.heap.size+1<W.heap.size)(hb:Below w.heap.size w W)(hx:RfAt N w x g)(gx:Gc x)(h402:(x9 x).length<=402)(aX:TxtAt w (.slice la ts.length lc) ts)(C1:ts≠[])(C7:ts.length<=1000)(N0:∀t∈ts,t.length<=200):
  Calls prog 228 #[g.v,.slice la ts.length lc] W λe w'=>Below W.heap.size W w'/\∃r:RF,e=.returned r.v/\RfAt (λb=>N b\/w.heap.size+1+1<=b) w' (qh1 x ts) r:=by
 refine(jy2 (vp0 hx hb) (λ_ h=>h.2) (aX.below hb) C1 C7 (λt ht=>by have:=N0 t ht;omega) gx.big (λt ht=>text_big (N0 t ht)) (λt ht=>?_) (λi _ _=>amK_big h402 gx.wt.wf (Nat.le_trans (vd6 ts) C7) (λt ht=>N0 t (qx9 ht)) i)).mono λ_ _ h=>vi9 hz h
 have h1:=qp3 t (N0 t ht);have h2:=qb9 8 rfl rfl x (qd4 t);have e8:(qi6 8).length=1:=rfl;have h3:=qt1 (j9 8 x (qd4 t)) (qf8 rfl gx.wt.wf rfl);exact⟨by omega,by omega⟩
theorem pair_den{x y:Co}(hx:Gc x)(hy:Gc y):jh6 (j9 8 x y):=by
 have hw:WT (j9 8 x y):=qk1 (by unfold qe8;omega) hx.wt hy.wt (by omega);have h1:=qb9 8 rfl rfl x y;have e8:(qi6 8).length=1:=rfl;have h2:uC (j9 8 x y)=1:=by rw[qj4];rfl
 have h3:=qt1 _ hw.wf;have h4:=hx.len;have h5:=hy.len;exact va2 _ hw (qn1 (by omega) _ _) ⟨by omega,by omega⟩
end
section
variable {N:Nat->Prop} {w:World} {p:Pay} {neg:Bool} {c:Int} {iv inv:Value} {la:Option Addr} {lc:Nat} {xs:List Co}
theorem len0{α:Type}{l:List α}(h:l.length=0):l=[]:=List.eq_nil_of_length_eq_zero h
theorem len1{α:Type}{l:List α}(h:l.length=1):∃a,l=[a]:=by
 match l,h with
 | [a],_=>exact⟨a,rfl⟩
theorem len2{α:Type}{l:List α}(h:l.length=2):∃a b,l=[a,b]:=by
 match l,h with
 | [a,b],_=>exact⟨a,b,rfl⟩
theorem len3{α:Type}{l:List α}(h:l.length=3):∃a b c,l=[a,b,c]:=by
 match l,h with
 | [a,b,c],_=>exact⟨a,b,c,rfl⟩
theorem two_words{o:Int}(h:qe8 o):∀l∈[[110,97,109,101],[110,117,109,98,101,114],[116,101,120,116],[84,82,85,69],[70,65,76,83,69],[78,79,84],[112],[110],[60,62],[62],[62,61],[66,69,84,87,69,69,78],[73,78],[78,85,76,76],[76,73,75,69]],((BS (qb7 o)).toList==l)=false:=by
 rw[qc9];rcases h with rfl|rfl|rfl|rfl|rfl|rfl|rfl|rfl|rfl<;>decide
theorem rcore_any(hI:CsIn N w inv xs)(hN:∀b,N b->b<w.heap.size)(aX:TxtAt w (.slice la p.texts.length lc) p.texts)(h0:0<=p.op)(L9:p.op<=23)(I3:NdC p neg xs)(jV:Rng p.num)(eP:Bp p)(G9:Bz p):
  Calls prog 178 #[.agg #[.string (BS (qb7 p.op)),.int .i64 p.place,iv,.string (BS p.str),.string (BS p.esc),.slice la p.texts.length lc,.int .i64 p.num,.bool neg,.int .i64 c],inv] w (qp6 N w (qw1 p xs)):=by
 obtain⟨op,pl,num,str,esc,texts⟩:=p;have I9:xs.length=vh5 op:=I3.few;have K9:∀{wz W:World},Below w.heap.size w wz->Below wz.heap.size wz W->Below w.heap.size w W:=λa b=>j6 a b
 have aG:∀{wz W:World},w.heap.size+1<wz.heap.size->Below wz.heap.size wz W->w.heap.size+1<W.heap.size:=λa b=>Nat.lt_of_lt_of_le a b.size
 have fin:∀{k:Co},qh9 w (λr w1=>RfAt (λb=>N b\/w.heap.size+1+1<=b) w1 k r) (qp6 N w k):=λr w1 w' h1 h2 h3=>qp9 hN h1 h2 h3
 have hZ:=zero_ok N w
 by_cases h2:qe8 op
 ·obtain⟨x,y,rfl⟩:=len2 (I9.trans (ji0 (by unfold qe8 at h2;omega)))
  obtain⟨b,cap,g,k,rfl,A1,hx,hy,hc⟩:=hI.two;rw[show qw1 ⟨op,pl,num,str,esc,texts⟩ [x,y]=j9 op x y by unfold qe8 at h2;unfold qw1;simp only;rw[if_neg (by simp;omega),if_neg (by simp;omega),if_neg (by simp;omega)]];exact rcore_two rfl (Nat.le_refl _) A1 hc (two_words h2) hZ (λwz z W a b d f=>jg6 h2 (aG b f) (vp0 hx (K9 a f)) (vp0 hy (K9 a f)) (I3.gc x (by simp)).big (I3.gc y (by simp)).big) fin
 have h0:0<=op:=h0;have L9:op<=23:=L9;rcases(show op=0\/op=1\/op=2\/op=3\/op=4\/op=5\/op=9\/op=12\/op=13\/op=14\/op=15\/op=20\/op=21\/op=22\/op=23 by unfold qe8 at h2;omega) with e|e|e|e|e|e|e|e|e|e|e|e|e|e|e<;>subst e
 ·obtain rfl:=len0 I9
  exact jx7 hZ (λwz z W a b d f=>vm6 ⟨0,num,str,esc⟩ (aG b f)) fin
 ·obtain rfl:=len0 I9
  obtain⟨h1,rfl,rfl⟩:=G9.num rfl;obtain⟨u,rfl⟩:∃u:Nat,num=(u:Int):=⟨num.toNat,by simp only at h1;omega⟩;have hu:u<=9223372036854775807:=by have:=jV.2;simp only at this;omega
  refine je1 (QB:=BS (Lib.decDigits u)) (je9 u hu) hZ (P:=λr w1=>RfAt (λb=>N b\/w.heap.size+1+1<=b) w1 (.leaf ⟨1,(u:Int),[],[]⟩) r) (λwz z W a b d f=>?_) fin;have:=vm6 (N:=N) ⟨1,(u:Int),[],[]⟩ (aG b f);rwa [show x9 (.leaf ⟨1,(u:Int),[],[]⟩)=Lib.decDigits u from Lib.itoa_nonneg u]at this
 ·obtain rfl:=len0 I9
  exact jx9 (QB:=BS (qL str)) (qq9 (BS str) (by have h:str.length<=200:=eP.1;rw[qc1];omega)) hZ (λwz z W a b d f=>vm6 ⟨2,num,str,esc⟩ (aG b f)) fin
 ·obtain rfl:=len0 I9
  exact vn9 (.inl rfl) hZ (λwz z W a b d f=>vm6 ⟨3,num,str,esc⟩ (aG b f)) fin
 ·obtain rfl:=len0 I9
  exact vn9 (.inr rfl) hZ (λwz z W a b d f=>vm6 ⟨4,num,str,esc⟩ (aG b f)) fin
 ·obtain⟨x,rfl⟩:=len1 I9
  obtain⟨b,cap,g,rfl,mE,A1,hx,hc⟩:=hI.one;have gx:=I3.gc x (by simp);exact rcore_not rfl (Nat.le_refl _) A1 hc hZ (λwz z W a b d f=>den_at (va2 x gx.wt (I3.tb rfl x (by simp)) gx.sz) (aG b f) (vp0 hx (K9 a f))) fin
 ·obtain⟨x,y,rfl⟩:=len2 I9
  obtain⟨b,cap,g,k,rfl,A1,hx,hy,hc⟩:=hI.two;exact rcore_ne rfl (Nat.le_refl _) A1 hc hZ hx hy hN (I3.gc x (by simp)).big (I3.gc y (by simp)).big (pair_den (I3.gc x (by simp)) (I3.gc y (by simp)))
 ·obtain⟨x,y,rfl⟩:=len2 I9
  obtain⟨b,cap,g,k,rfl,A1,hx,hy,hc⟩:=hI.two;exact vs5 rfl (Nat.le_refl _) A1 hc (.inl ⟨rfl,rfl⟩) hZ (λwz z W a b d f=>jg6 (o:=10) (by simp[qe8]) (aG b f) (vp0 hy (K9 a f)) (vp0 hx (K9 a f)) (I3.gc y (by simp)).big (I3.gc x (by simp)).big) fin
 ·obtain⟨x,y,rfl⟩:=len2 I9
  obtain⟨b,cap,g,k,rfl,A1,hx,hy,hc⟩:=hI.two;exact vs5 rfl (Nat.le_refl _) A1 hc (.inr ⟨rfl,rfl⟩) hZ (λwz z W a b d f=>jg6 (o:=11) (by simp[qe8]) (aG b f) (vp0 hy (K9 a f)) (vp0 hx (K9 a f)) (I3.gc y (by simp)).big (I3.gc x (by simp)).big) fin
 ·obtain⟨x,rfl⟩:=len1 I9
  obtain⟨b,cap,g,rfl,mE,A1,hx,hc⟩:=hI.one;exact vs6 rfl (Nat.le_refl _) A1 hc (.inl ⟨rfl,rfl⟩) hZ (λwz z W a b d f=>jg6 (o:=16) (by simp[qe8]) (aG b f) (rf_lt (d.below f)) (vp0 hx (K9 a f)) ⟨by rw[vf2];decide,by decide⟩ (I3.gc x (by simp)).big) fin
 ·obtain⟨x,rfl⟩:=len1 I9
  obtain⟨b,cap,g,rfl,mE,A1,hx,hc⟩:=hI.one;exact vs6 rfl (Nat.le_refl _) A1 hc (.inr ⟨rfl,rfl⟩) hZ (λwz z W a b d f=>jg6 (o:=17) (by simp[qe8]) (aG b f) (rf_lt (d.below f)) (vp0 hx (K9 a f)) ⟨by rw[vf2];decide,by decide⟩ (I3.gc x (by simp)).big) fin
 ·obtain⟨x,y,z,rfl⟩:=len3 I9
  obtain⟨b,cap,g,k,j,rfl,A1,hx,hy,hz,hc⟩:=hI.three;exact vx6 rfl (Nat.le_refl _) A1 hc hZ hx hy hz hN (I3.gc x (by simp)).big (I3.gc y (by simp)).big (I3.gc z (by simp)).big (js1 (by simp[qe8]) (I3.gc y (by simp)) (I3.gc x (by simp))) (js1 (by simp[qe8]) (I3.gc x (by simp)) (I3.gc z (by simp)))
 ·obtain⟨x,rfl⟩:=len1 I9
  obtain⟨b,cap,g,rfl,mE,A1,hx,hc⟩:=hI.one;exact rcore_in rfl (Nat.le_refl _) A1 hc hZ (λwz z W a b d f=>in_at (aG b f) (K9 a f) hx (I3.gc x (by simp)) (I3.nm rfl x (by simp)) aX (I3.tx rfl).1 eP.2 (I3.tx rfl).2) fin
 ·obtain⟨x,rfl⟩:=len1 I9
  obtain⟨b,cap,g,rfl,mE,A1,hx,hc⟩:=hI.one;have gx:=I3.gc x (by simp);have iF:str.length<=200:=eP.1;have EQ:=vc4 str;have iZ:=vc4 esc
  have SX:esc.length<=1:=by
   rcases(G9.like rfl).2 with h|h
   ·have h:esc=[]:=h
    rw[h];decide
   ·have h:esc.length=1:=h.1
    omega
  have C8:g.text.length<=400000000:=by rw[hx.text];exact gx.big.1
  by_cases he:esc=[]
  ·subst he
   refine jn8 (q:=qL str) rfl (Nat.le_refl _) A1 hc rfl C8 (by omega) (qq9 (BS str) (by rw[qc1];omega)) hZ (P:=λr w1=>RfAt (λb=>N b\/w.heap.size+1+1<=b) w1 (.un ⟨22,num,str,[]⟩ x) r) (λwz z W a b' d f=>?_) fin;have:=jm5 (N:=N) (p:=⟨22,num,str,[]⟩) (cap:=cap) (aG b' f) (K9 a f) hx mE A1 hc gx.big;rwa [show x9 (.un ⟨22,num,str,[]⟩ x)=[40]++g.text++[32,76,73,75,69,32]++qL str++[41] by rw[hx.text];show[40]++x9 x++[32,76,73,75,69,32]++qL str++[]++[41]=_;simp]at this
  ·have hE:vz3 esc=[32,69,83,67,65,80,69,32]++qL esc:=by
    unfold vz3
    cases esc with
    | nil=>exact absurd rfl he
    | cons a b=>rfl
   refine jn9 (q:=qL str) (q':=qL esc) rfl (Nat.le_refl _) A1 hc (by rw[qc9];cases esc with|nil=>exact absurd rfl he|cons a b=>rfl) C8 (by omega) (by omega) (qq9 (BS str) (by rw[qc1];omega)) (qq9 (BS esc) (by rw[qc1];omega)) hZ (P:=λr w1=>RfAt (λb=>N b\/w.heap.size+1+1<=b) w1 (.un ⟨22,num,str,esc⟩ x) r) (λwz z W a b' d f=>?_) fin;have:=jm5 (N:=N) (p:=⟨22,num,str,esc⟩) (cap:=cap) (aG b' f) (K9 a f) hx mE A1 hc gx.big;rwa [show x9 (.un ⟨22,num,str,esc⟩ x)=[40]++g.text++[32,76,73,75,69,32]++qL str++[32,69,83,67,65,80,69,32]++qL esc++[41] by rw[hx.text];show[40]++x9 x++[32,76,73,75,69,32]++qL str++vz3 esc++[41]=_;rw[hE];simp]at this
 ·obtain⟨x,rfl⟩:=len1 I9
  obtain⟨b,cap,g,rfl,mE,A1,hx,hc⟩:=hI.one;have gx:=I3.gc x (by simp);exact jx8 (T:=x9 (.un ⟨23,num,str,esc⟩ x)) rfl (Nat.le_refl _) A1 hc (by rw[hx.text];exact gx.big.1) (by rw[hx.text];rfl) hZ (λwz z W a b' d f=>jm5 (N:=N) (p:=⟨23,num,str,esc⟩) (cap:=cap) (aG b' f) (K9 a f) hx mE A1 hc gx.big) fin
end
end
section
attribute [local go_sem ↓] qe4
theorem jv9:(prog.info? 184).map (λi=>(i.zero,i.size,i.bytes))=some (some (.agg #[.string ⟨#[]⟩,.string ⟨#[]⟩,.int .i64 0,.slice none 0 0,.slice none 0 0,.slice none 0 0]),6,112):=by kernel_rfl
def RfRow(w:World)(base:Nat)(v:Value)(fs:List RF):Prop:=w.ownsRow base 184 6 v fs.length (fs.flatMap qa2)
theorem RfRow.nil(w:World)(base:Nat):RfRow w base (.slice none 0 0) []:=World.ownsRow_nil _ _ _ _
theorem RfRow.below{w w':World}{base:Nat}{v:Value}{fs:List RF}(h:RfRow w base v fs)(hb:Below w.heap.size w w'):RfRow w' base v fs:=qc3 h hb (Nat.le_refl _)
theorem RfRow.form{w:World}{base:Nat}{v:Value}{fs:List RF}(h:RfRow w base v fs):∃a c,v=.slice a fs.length c:=by
 rcases h.2 with⟨rfl,h0⟩|⟨g,cap,cur,rfl,_⟩
 ·exact⟨none,0,by rw[h0]⟩
 ·exact⟨_,_,rfl⟩
theorem RfRow.all{w:World}{base:Nat}{v:Value}{fs:List RF}(h:RfRow w base v fs)(hn:fs≠[]):∃g cap,v=.slice (some ⟨g,0,none⟩) fs.length cap/\base<=g/\g<w.heap.size/\∀k,k<fs.length * 6->w.cell? ⟨g,k,none⟩=(fs.flatMap qa2)[k]?:=by
 have h':=h;rcases h.2 with⟨rfl,h0⟩|⟨g,cap,cur,rfl,K7,J1,_⟩
 ·exact absurd (List.eq_nil_of_length_eq_zero h0) hn
 ·exact⟨g,cap,rfl,K7,(Array.getElem?_eq_some_iff.1 J1).1,λk hk=>World.ownsRow.cellAt h' k hk⟩
theorem RfRow.cell{w:World}{base:Nat}{v:Value}{fs:List RF}(h:RfRow w base v fs){i:Nat}{f:RF}(hf:fs[i]?=some f):∃g cap,v=.slice (some ⟨g,0,none⟩) fs.length cap/\base<=g/\g<w.heap.size/\∀j,j<6->w.cell? ⟨g,i * 6+j,none⟩=(qa2 f)[j]?:=by
 have hk:=(List.getElem?_eq_some_iff.1 hf).1;obtain⟨g,cap,e,h1,h2,h3⟩:=h.all (by intro e;rw[e]at hf;cases hf);exact⟨g,cap,e,h1,h2,λj hj=>(h3 (i * 6+j) (by omega)).trans (flatN qa2 6 (λ_=>rfl) fs i f hf j hj)⟩
theorem RfRow.app{W:World}{base:Nat}{v:Value}{fs:List RF}(h:RfRow W base v fs)(hb:base<=W.heap.size)(x:RF)(hn:fs.length<=1000)(H:Nat)(hH:W.heap.size=H):
  ∃g cap w5,(vz2 #[182,182] 182 #[v,.slice (some ⟨H,0,none⟩) 1 1]).run prog (W.alloc (.cells #[.string x.op,.string (BS x.text),.int .i64 x.cls,.slice x.pa x.pn x.pc,.slice x.ta x.tn x.tc,.slice x.ra x.rn x.rc] 184))=.ok (.slice (some ⟨g,0,none⟩) (fs.length+1) cap) w5 /\
   Hid (RfRow w5 base (.slice (some ⟨g,0,none⟩) (fs.length+1) cap) (fs++[x]))/\Hid (Below base W w5)/\Hid (∀b,b<W.heap.size->v.ownBlock≠some b->w5.heap[b]?=W.heap[b]?)/\Hid (v.ownBlock=some g\/W.heap.size<g)/\Hid (W.heap.size<=w5.heap.size):=by
 subst hH;obtain⟨i0,hi,I8,C8,F8⟩:=info_parts jv9;have ha:=World.ownsRow.alloc h (.cells #[.string x.op,.string (BS x.text),.int .i64 x.cls,.slice x.pa x.pn x.pc,.slice x.ta x.tn x.tc,.slice x.ra x.rn x.rc] 184);obtain⟨g,cap,w5,hr,C2,B7,F0,_⟩:=run_append_lies (P:=prog) (W.alloc (.cells #[.string x.op,.string (BS x.text),.int .i64 x.cls,.slice x.pa x.pn x.pc,.slice x.ta x.tn x.tc,.slice x.ra x.rn x.rc] 184)) 182 182 base 184 i0 _ 6 112 underlying182 hi I8 C8 F8 rfl (by omega) v fs.length _ ha
  ⟨W.heap.size,0,none⟩ 1 1 (qa2 x) rfl (World.news_of_block (cs:=#[.string x.op,.string (BS x.text),.int .i64 x.cls,.slice x.pa x.pn x.pc,.slice x.ta x.tn x.tc,.slice x.ra x.rn x.rc]) (t:=184) (fr:=(0,0)) (heap_alloc_new W _)) (by simp[qa2,Value.oneCell']) (by omega) (by unfold maxLen;omega) (by omega) (by simp;omega) _ rfl
 refine⟨g,cap,w5,hr,j3 ?_,j3 ?_,j3 ?_,j3 ?_,j3 ?_⟩
 ·show World.ownsRow _ _ _ _ _ _ _
  rw[List.length_append,List.length_singleton,List.flatMap_append];simpa using C2
 ·exact Go.RowKit.Below.grown (((Below.refl base W).alloc hb _)) B7 (by simp;omega) (λk hk=>(ha.lt k hk).1)
 ·intro b T9 C1
  exact(B7.block b (by simp;omega) (λe=>C1 e.symm)).trans (((Below.refl W.heap.size W).alloc (Nat.le_refl _) _).block b T9)
 ·rcases F0 with h|h
  ·exact .inl h
  ·right;rw[h];simp
 ·have:=B7.size;simp at this;omega
structure ClAt(w wr:World)(av:Value)(cs:List Co)(fs:List RF):Prop where
 row:RfRow wr (w.heap.size+1) av fs
 co:CsOf (λb=>w.heap.size+1<=b/\av.ownBlock≠some b) wr cs fs
 bel:Below (w.heap.size+1) (w.alloc (.cells #[.string ⟨#[]⟩,.string ⟨#[]⟩,.int .i64 0,.slice none 0 0,.slice none 0 0,.slice none 0 0] 184)) wr
section
variable {w wr w':World} {av:Value} {cs:List Co} {fs:List RF}
theorem ClAt.bel0(h:ClAt w wr av cs fs):Below w.heap.size w wr:=((Below.refl _ _).alloc (Nat.le_refl _) _).trans (h.bel.mono (Nat.le_succ _))
theorem ClAt.size(h:ClAt w wr av cs fs):w.heap.size+1<=wr.heap.size:=by have:=h.bel.size;simpa using this
theorem ClAt.below(h:ClAt w wr av cs fs)(hb:Below wr.heap.size wr w'):ClAt w w' av cs fs:=⟨h.row.below hb,h.co.below hb,h.bel.trans (hb.mono h.size)⟩
theorem ClAt.blk(h:ClAt w wr av cs fs){b:Nat}(hb:av.ownBlock=some b):b<wr.heap.size:=(h.row.lt b hb).2
theorem ClAt.snoc(h:ClAt w wr av cs fs){c:Co}{f:RF}{av':Value}{g n cap:Nat}{w5:World}(hf:RfAt (λb=>w.heap.size+1<=b/\av.ownBlock≠some b) wr c f)(oE:av'=.slice (some ⟨g,0,none⟩) n cap)(h1:RfRow w5 (w.heap.size+1) av' (fs++[f]))(h2:Below (w.heap.size+1) wr w5)(h3:∀b,b<wr.heap.size->av.ownBlock≠some b->w5.heap[b]?=wr.heap[b]?)(h4:av.ownBlock=some g\/wr.heap.size<g)(h5:wr.heap.size<=w5.heap.size):ClAt w w5 av' (cs++[c]) (fs++[f]):=by
 have hN:∀b,(w.heap.size+1<=b/\av.ownBlock≠some b)->b<wr.heap.size->(w.heap.size+1<=b/\av'.ownBlock≠some b):=λb hb hl=>⟨hb.1,λe=>by
  rw[oE]at e;have e:g=b:=by simpa [Value.ownBlock]using e
  subst e;rcases h4 with h4|h4
  ·exact hb.2 h4
  ·omega⟩
 refine⟨h1,⟨by simp[h.co.1],λi d k hd hk=>?_⟩,h.bel.trans h2⟩;have C7:=h.co.1
 by_cases hi:i<cs.length
 ·rw[List.getElem?_append_left hi]at hd
  rw[List.getElem?_append_left (by omega)]at hk;exact(h.co.2 i d k hd hk).keep (λb hb hl=>h3 b hl hb.2) h5 hN
 ·rw[List.getElem?_append_right (by omega)]at hd
  rw[List.getElem?_append_right (by omega)]at hk
  have e:i=cs.length:=by
   have:=(List.getElem?_eq_some_iff.1 hd).1;simp at this;omega
  subst e;rw[Nat.sub_self]at hd;rw[C7,Nat.sub_self]at hk;obtain rfl:c=d:=by simpa using hd
  obtain rfl:f=k:=by simpa using hk
  exact hf.keep (λb hb hl=>h3 b hl hb.2) h5 hN
end
def rf0:RF:=⟨⟨#[]⟩,[],0,none,0,0,none,0,0,none,0,0⟩
theorem jz0{w:World}{rb g LN cap:Nat}{ns:List RN}(c0:w.cell? ⟨rb,0,none⟩=some (.slice (some ⟨g,0,none⟩) LN cap))(hN:NodesAt w rb (.slice (some ⟨g,0,none⟩) LN cap) ns)(g9:rb<w.heap.size)(C1:0<ns.length)(C7:ns.length<=1000)
  (hf:∀i n,ns[i]?=some n->∃o,NF i n o) (hg:∀n∈ns,∃p,NG n p) (N0:jh8 [] ns) :
  Calls prog 125 #[.pointer (some ⟨rb,0,none⟩)] w (qp6 (λ_=>False) w ((qx5 [] ns).getD (ns.length - 1) nC)):=by
 have fU:LN=ns.length:=by
  obtain⟨rs,_,ho,_⟩:=hN;obtain⟨_,hx|⟨g',cap',cur,e,_⟩⟩:=ho
  ·cases hx.1
  ·injection e with _ e2 _
 have sI:g<w.heap.size:=by
  obtain⟨rs,_,ho,_⟩:=hN;exact(ho.lt g rfl).2
 obtain⟨R,hR⟩:∃r,(qx5 [] ns).getD (ns.length - 1) nC=r:=⟨_,rfl⟩;rw[hR];have HR:Hid ((qx5 [] (ns.take LN)).getD (LN - 1) nC=R):=j3 (by rw[fU,List.take_length];exact hR);have HN:=j3 hN;have HF:=j3 hf;have HG:=j3 hg;have aE:=j3 fU;have qF:=j3 N0;have Y7:0<LN:=by omega
 have GP:LN<=1000:=by omega
 clear hN hf hg fU hR C1 C7 N0;go_enter func125,ntmps125
 go_wp2_with fail
 go_loopw [3,4] (λav i wr=>∃k:Nat,k<=LN/\i=.int .i64 k/\∃fs,Hid (ClAt w wr av (qx5 [] (ns.take k)) fs)) (λ_ i _=>LN - (intOf i).toNat)
 case atStart=>exact⟨0,Nat.zero_le _,rfl,[],j3 ⟨RfRow.nil _ _,⟨rfl,λi c f h=>by simp[qx5]at h⟩,Below.refl _ _⟩⟩
 case round=>
  obtain⟨k,hk,rfl,fs,HL⟩:=hrel;obtain⟨cs,O5⟩:∃cs,qx5 [] (ns.take k)=cs:=⟨_,rfl⟩;rw[O5]at HL;have qY:fs.length=k:=by rw[(q9 HL).co.1,←O5,runK_len];have:=q9 aE;simp;omega
  have wJ:=j3 O5;have ID:=j3 qY;have iE:=(q9 HL).bel0;have aW:=(q9 HL).size;have d0:wr.cell? ⟨rb,0,none⟩=some (.slice (some ⟨g,0,none⟩) LN cap):=((qb0 iE).1 _ 0 g9).trans c0;have N7:rb<wr.heap.size:=by omega
  by_cases A1:k<LN
  ·obtain⟨n,hn⟩:∃n,ns[k]?=some n:=⟨_,List.getElem?_eq_getElem (by have:=q9 aE;omega)⟩
   obtain⟨o,gS⟩:=q9 HF k n hn;have gQ:=gS.ins;have I9:=gS.few;have jW:=stOk_at (q9 qF) hn O5;obtain⟨p,⟨ins,neg,c,rfl,NC⟩,yB,nG,jV,eP,G9⟩:=q9 HG n (List.mem_of_getElem? hn);have nE:jx1 { qi5 p ins neg with cls:=c }=p:=vw7 (ins:=ins) (neg:=neg) yB nG;obtain⟨xs,pQ⟩:∃xs,ins.map (λq=>cs.getD q nC)=xs:=⟨_,rfl⟩
   have I3:NdC p neg xs:=by
    rw[nE]at jW;have e:argC cs { qi5 p ins neg with cls:=c }=xs:=pQ;rw[e]at jW;exact jW
   have tF:=(q9 HN).below g9 iE;obtain⟨oK,iv,lv,sF,rV,Z2⟩:=tF.cells hn;have aB:RowOf wr rb 3 iv (vb2 ins):=sF;have t8:RowOf wr rb 9 lv (qa1 p.texts):=rV;have gQ:∀q∈ins,q<k:=gQ;clear oK sF rV jW;have e0:wr.cell? ⟨g,k * 9,none⟩=some (.string (BS (qb7 p.op))):=by have:=Z2 0 (by omega);rw[Nat.add_zero]at this;exact this
   have e1:wr.cell? ⟨g,k * 9+1,none⟩=some (.int .i64 p.place):=Z2 1 (by omega);have e2:wr.cell? ⟨g,k * 9+2,none⟩=some iv:=Z2 2 (by omega);have e3:wr.cell? ⟨g,k * 9+3,none⟩=some (.string (BS p.str)):=Z2 3 (by omega);have e4:wr.cell? ⟨g,k * 9+4,none⟩=some (.string (BS p.esc)):=Z2 4 (by omega);have e5:wr.cell? ⟨g,k * 9+5,none⟩=some lv:=Z2 5 (by omega);have e6:wr.cell? ⟨g,k * 9+6,none⟩=some (.int .i64 p.num):=Z2 6 (by omega);have e7:wr.cell? ⟨g,k * 9+7,none⟩=some (.bool neg):=Z2 7 (by omega);have e8:wr.cell? ⟨g,k * 9+8,none⟩=some (.int .i64 c):=Z2 8 (by omega);have IE:=j3 t8.txt;obtain⟨ia,ic,rfl,ET⟩:=aB.nums;obtain⟨la,lc,rfl,_⟩:=t8.txt;obtain⟨ys,qU⟩:∃ys,ins.map (λq=>fs.getD q rf0)=ys:=⟨_,rfl⟩;have xH:ys.length=ins.length:=by rw[←qU,List.length_map]
   obtain⟨aa,ac,rfl⟩:=(q9 HL).row.form
   have CJ:Hid (CsOf (λb=>w.heap.size+1<=b/\(Value.slice aa fs.length ac).ownBlock≠some b) wr xs ys):=j3 ⟨by rw[←pQ,←qU];simp,λi x y hx hy=>by
    rw[←pQ,List.getElem?_map]at hx;rw[←qU,List.getElem?_map]at hy
    cases hq:ins[i]? with
    | none=>rw[hq]at hx;cases hx
    | some q=>
     rw[hq]at hx hy;have LH:=gQ q (List.mem_of_getElem? hq);have lW:=(q9 HL).co.1;simp only[Option.map_some]at hx hy;injection hx with hx;injection hy with hy;rw[List.getD_eq_getElem?_getD,List.getElem?_eq_getElem (by omega)]at hx hy
     exact(q9 HL).co.2 q x y (by rw[←hx,List.getElem?_eq_getElem (by omega)];rfl) (by rw[←hy,List.getElem?_eq_getElem (by omega)];rfl)⟩
   have lK:xs.length=ins.length:=by rw[←pQ,List.length_map]
   obtain⟨r,hr⟩:∃r,qw1 p xs=r:=⟨_,rfl⟩
   have RV:Hid (∀(N:Nat->Prop) (W:World) (inv:Value),CsIn N W inv xs->(∀b,N b->b<W.heap.size)->TxtAt W (.slice la p.texts.length lc) p.texts->Calls prog 178 #[.agg #[.string (BS (qb7 p.op)),.int .i64 p.place,.slice ia ins.length ic,.string (BS p.str),.string (BS p.esc),.slice la p.texts.length lc,.int .i64 p.num,.bool neg,.int .i64 c],inv] W λe w'=>Below W.heap.size W w'/\∃q:RF,e=.returned (.agg #[.string q.op,.string (BS q.text),.int .i64 q.cls,.slice q.pa q.pn q.pc,.slice q.ta q.tn q.tc,.slice q.ra q.rn q.rc])/\RfAt (λb=>N b\/W.heap.size<=b) w' r q):=j3 λN W inv h1 h2 h3=>by
    rw[←hr];exact rcore_any h1 h2 h3 yB nG I3 jV eP G9
   have RN:Hid (neg=true->∀(N:Nat->Prop) (W:World) (f:RF),RfAt N W r f->(∀b,N b->b<W.heap.size)->Calls prog 179 #[.agg #[.string f.op,.string (BS f.text),.int .i64 f.cls,.slice f.pa f.pn f.pc,.slice f.ta f.tn f.tc,.slice f.ra f.rn f.rc]] W λe w'=>Below W.heap.size W w'/\∃q:RF,e=.returned (.agg #[.string q.op,.string (BS q.text),.int .i64 q.cls,.slice q.pa q.pn q.pc,.slice q.ta q.tn q.tc,.slice q.ra q.rn q.rc])/\RfAt (λb=>N b\/W.heap.size<=b) w' (qd8 r) q):=j3 λh N W f h1 h2=>by
    rw[←hr]at h1 ⊢;exact va2 _ I3.all.wt (I3.no h) I3.all.sz N W f h1 h2
   have uG:Hid (qx5 [] (ns.take (k+1))=cs++[if neg=true then qd8 r else r]):=j3 (by
    rw[runK_take hn (q9 wJ)]
    congr 2
    unfold vw1;rw[nE,show argC cs { qi5 p ins neg with cls:=c }=xs from pQ,hr]
    rfl)
   have ON:=j3 qU;have tY:=j3 xH;have GZ:=j3 lK;have CE:Hid (∀q∈ins,q<k):=j3 gQ;have h3:ins.length<=3:=I9;obtain⟨lI,nP⟩:∃x,ins.length=x:=⟨_,rfl⟩;have kZ:=j3 nP;obtain⟨lT,sC⟩:∃x,p.texts.length=x:=⟨_,rfl⟩;rw[nP]at e2 RV h3;rw[sC]at e5 RV IE;have BV:=j3 ET;have R0:(0:Int)<=(k:Int):=by omega
   have A0:(k:Int)<(LN:Int):=by omega
   have ng:¬g=wr.heap.size:=by have:=iE.size;omega
   have nr:¬rb=wr.heap.size:=by omega
   have V4:g<wr.heap.size:=by have:=iE.size;omega
   obtain⟨W,hW⟩:∃W:World,W=wr.alloc (.cells #[.string (BS (qb7 p.op)),.int .i64 p.place,.slice ia lI ic,.string (BS p.str),.string (BS p.esc),.slice la lT lc,.int .i64 p.num,.bool neg,.int .i64 c] 241):=⟨_,rfl⟩;have jH:Below wr.heap.size wr W:=hW ▸ (Below.refl _ _).alloc (Nat.le_refl _) _
   have gW:∀k,W.cell? ⟨wr.heap.size,k,none⟩=#[.string (BS (qb7 p.op)),.int .i64 p.place,.slice ia lI ic,.string (BS p.str),.string (BS p.esc),.slice la lT lc,.int .i64 p.num,.bool neg,.int .i64 c][k]?:=λk=>by rw[hW,World.cell?_alloc_at _ _ _ _ (by simp)]
   have oG:W.heap.size=wr.heap.size+1:=by rw[hW];simp
   have HW:=j3 hW;have IC:=j3 jH;have uB:=j3 oG;have fI:=j3 gW;rw[qY]at HL CJ ⊢;clear hn gS gQ I9 NC yB nG jV eP G9 tF aB t8 Z2 ET pQ qU lK xH hr nP sC hW jH gW oG O5 qY iE wJ nE I3
   go_wp2_with fail
   rw[←q9 HW];clear e0 e1 e2 e3 e4 e5 e6 e7 e8;obtain⟨wo,rfl⟩:∃wo:World,wo=wr:=⟨_,rfl⟩
   go_loopw [6,7] (λnv j wq=>∃m:Nat,m<=lI/\j=.int .i64 m/\Hid (RfRow wq W.heap.size nv (ys.take m))/\Hid (Below W.heap.size W wq)) (λ_ j _=>lI - (intOf j).toNat)
   case atStart=>exact⟨0,Nat.zero_le _,rfl,j3 (RfRow.nil _ _),j3 (Below.refl _ _)⟩
   case round=>
    obtain⟨m,hm,rfl,HX,BM⟩:=hrel;obtain⟨b9,vR⟩:=qb0 (q9 BM);have DY:=(q9 BM).size;have oG:=q9 uB;have bS:=j3 (j6 (q9 IC) (q9 BM));have f0:wr.cell? ⟨wo.heap.size,0,none⟩=some (.string (BS (qb7 p.op))):=(b9 _ 0 (by omega)).trans (q9 fI 0);have f1:wr.cell? ⟨wo.heap.size,1,none⟩=some (.int .i64 p.place):=(b9 _ 1 (by omega)).trans (q9 fI 1);have f2:wr.cell? ⟨wo.heap.size,2,none⟩=some (.slice ia lI ic):=(b9 _ 2 (by omega)).trans (q9 fI 2);have f3:wr.cell? ⟨wo.heap.size,3,none⟩=some (.string (BS p.str)):=(b9 _ 3 (by omega)).trans (q9 fI 3);have f4:wr.cell? ⟨wo.heap.size,4,none⟩=some (.string (BS p.esc)):=(b9 _ 4 (by omega)).trans (q9 fI 4);have f5:wr.cell? ⟨wo.heap.size,5,none⟩=some (.slice la lT lc):=(b9 _ 5 (by omega)).trans (q9 fI 5);have f6:wr.cell? ⟨wo.heap.size,6,none⟩=some (.int .i64 p.num):=(b9 _ 6 (by omega)).trans (q9 fI 6);have f7:wr.cell? ⟨wo.heap.size,7,none⟩=some (.bool neg):=(b9 _ 7 (by omega)).trans (q9 fI 7);have f8:wr.cell? ⟨wo.heap.size,8,none⟩=some (.int .i64 c):=(b9 _ 8 (by omega)).trans (q9 fI 8);clear b9 vR
    by_cases hml:m<lI
    ·obtain⟨q,hq⟩:∃q,ins[m]?=some q:=⟨_,List.getElem?_eq_getElem (by have:=q9 kZ;omega)⟩
     have LH:q<k:=q9 CE q (List.mem_of_getElem? hq);obtain⟨lb,rfl,M5,sB⟩:=q9 BV m q hq;have SC:wr.cell? ⟨lb,m,none⟩=some (.int .i64 (q:Int)):=((q9 bS).cell (p:=⟨lb,m,none⟩) M5).trans sB;obtain⟨y,hy⟩:∃y,fs[q]?=some y:=⟨_,List.getElem?_eq_getElem (by have:=q9 ID;omega)⟩;obtain⟨ab,GW,zN,_,aV,cC⟩:=(q9 HL).row.cell hy;injection zN with zN zM zL;subst zN zL;have a0:wr.cell? ⟨ab,q * 6,none⟩=some (.string y.op):=((q9 bS).cell (p:=⟨ab,q * 6,none⟩) aV).trans (cC 0 (by omega));have a1:wr.cell? ⟨ab,q * 6+1,none⟩=some (.string (BS y.text)):=((q9 bS).cell (p:=⟨ab,q * 6+1,none⟩) aV).trans (cC 1 (by omega));have a2:wr.cell? ⟨ab,q * 6+2,none⟩=some (.int .i64 y.cls):=((q9 bS).cell (p:=⟨ab,q * 6+2,none⟩) aV).trans (cC 2 (by omega));have a3:wr.cell? ⟨ab,q * 6+3,none⟩=some (.slice y.pa y.pn y.pc):=((q9 bS).cell (p:=⟨ab,q * 6+3,none⟩) aV).trans (cC 3 (by omega));have a4:wr.cell? ⟨ab,q * 6+4,none⟩=some (.slice y.ta y.tn y.tc):=((q9 bS).cell (p:=⟨ab,q * 6+4,none⟩) aV).trans (cC 4 (by omega));have a5:wr.cell? ⟨ab,q * 6+5,none⟩=some (.slice y.ra y.rn y.rc):=((q9 bS).cell (p:=⟨ab,q * 6+5,none⟩) aV).trans (cC 5 (by omega));have qV:ys[m]?=some y:=by rw[←q9 ON,List.getElem?_map,hq,Option.map_some,List.getD_eq_getElem?_getD,hy];rfl
     have vB:(ys.take m).length=m:=by rw[List.length_take,q9 tY];have:=q9 kZ;omega
     obtain⟨g5,S6,w5,o6,eX,U0,_⟩:=(q9 HX).app (by omega) y (by omega) wr.heap.size rfl;rw[show ys.take m++[y]=ys.take (m+1) by rw[List.take_add_one,qV];rfl,vB]at eX;rw[vB]at o6;obtain⟨na,nc,rfl⟩:=(q9 HX).form;rw[vB]at o6 ⊢;have yG:(0:Int)<=(m:Int):=by omega
     have jZ:(m:Int)<(lI:Int):=by omega
     have EQ:(0:Int)<=(q:Int):=by omega
     have iZ:(q:Int)<(k:Int):=by omega
     clear hq sB cC hy qV vB HX f0 f1 f3 f4 f5 f6 f7 f8 zM
     go_wp2_with fail
     go_roundw
     case rel=>exact⟨m+1,by omega,by go_num,eX,j3 ((q9 BM).trans (q9 U0))⟩
     case measure=>simp[intOf];omega
    ·have vM:m=lI:=by omega
     have mV:ys.take m=ys:=List.take_of_length_le (by have:=q9 tY;have:=q9 kZ;omega);rw[mV]at HX;have lJ:ys.length=lI:=by have:=q9 tY;have:=q9 kZ;omega
     have IV:=j3 ((q9 HL).below (q9 bS));have rO:∀b,(Value.slice aa k ac).ownBlock=some b->b<wo.heap.size:=λb h=>(q9 HL).blk h
     have wR:Hid (∀b,wo.heap.size<b->(Value.slice aa k ac).ownBlock≠some b):=j3 λb h e=>by have:=rO b e;omega
     obtain⟨na,nc,rfl⟩:=(q9 HX).form
     have CQ:Hid (CsIn (λb=>(w.heap.size+1<=b/\(Value.slice aa k ac).ownBlock≠some b)/\b<wr.heap.size) wr (.slice na ys.length nc) xs):=j3 (by
      refine⟨ys,((q9 CJ).below (q9 bS)).keep (λ_ h hl=>⟨h,hl⟩), ?_⟩
      by_cases hx0:xs=[]
      ·exact .inl hx0
      ·right
       have xI:ys≠[]:=λe=>hx0 (List.eq_nil_of_length_eq_zero (by have:=q9 GZ;have:=q9 tY;rw[e]at this;simp at this;omega))
       obtain⟨gb,gc,e,h1,h2,h3⟩:=(q9 HX).all xI;have lW:ys.length=xs.length:=by have:=q9 GZ;have:=q9 tY;omega
       exact⟨gb,gc,by rw[e,lW],⟨⟨by omega,q9 wR gb (by omega)⟩,h2⟩,h2,λj hj=>h3 j (by omega)⟩)
     rw[lJ]at CQ HX ⊢;have GX:=j3 ((q9 IE).below (q9 bS));have yE:¬(m:Int)<(lI:Int):=by omega
     have EA:wo.heap.size<wr.heap.size:=by omega
     have EH:=q9 ID;have I8:w.heap.size+1<=wr.heap.size:=by omega
     have IK:=j3 (q9 RV _ wr _ (q9 CQ) (λb h=>h.2) (q9 GX));clear mV vM lJ HX BM IC HL rO RV CQ GX CJ
     cases neg with
     | false=>
      go_wp2_with(go_at_call 178;refine(q9 IK).mono ?_;rintro e w2⟨B9,rf,rfl,rE⟩;have F8:=B9.size;obtain⟨m9,H8⟩:=qb0 B9;have k7:=(m9 _ 7 EA).trans f7;have xG:wo.heap.size<w2.heap.size:=(by omega);have uN:=j3 ((q9 IV).below (B9.alloc B9.size (.cells #[.string rf.op,.string (BS rf.text),.int .i64 rf.cls,.slice rf.pa rf.pn rf.pc,.slice rf.ta rf.tn rf.tc,.slice rf.ra rf.rn rf.rc] 184)));have aD:=j3 ((rE.keep (N':=λb=>w.heap.size+1<=b/\(Value.slice aa k ac).ownBlock≠some b) (λ_ _ _=>rfl) (Nat.le_refl _) (λb h _=>(by rcases h with h|h;exact h.1;exact⟨(by omega),q9 wR b (by omega)⟩))).below ((Below.refl w2.heap.size w2).alloc (Nat.le_refl _) (.cells #[.string rf.op,.string (BS rf.text),.int .i64 rf.cls,.slice rf.pa rf.pn rf.pc,.slice rf.ta rf.tn rf.tc,.slice rf.ra rf.rn rf.rc] 184)));obtain⟨g5,S6,w5,o6,eX,U0,aQ,qQ,qE⟩:=(q9 uN).row.app (by simp;omega) rf (by omega) (w2.heap.size+1) (by simp);rw[EH]at o6 eX;clear B9 m9 H8 rE)
      go_roundw
      case rel=>exact⟨k+1,by omega,by go_num,_,j3 (by rw[q9 uG];exact(q9 uN).snoc (q9 aD) rfl (q9 eX) (q9 U0) (q9 aQ) (q9 qQ) (q9 qE))⟩
      case measure=>simp[intOf];omega
     | true=>
      have OX:=j3 (q9 RN rfl)
      go_wp2_with(first|(go_at_call 179;have _q:=J2;refine(q9 OX (λb=>(w.heap.size+1<=b/\(Value.slice aa k ac).ownBlock≠some b/\b≠w2.heap.size)/\b<w2.heap.size+1) (w2.alloc (.cells #[.string rf.op,.string (BS rf.text),.int .i64 rf.cls,.slice rf.pa rf.pn rf.pc,.slice rf.ta rf.tn rf.tc,.slice rf.ra rf.rn rf.rc] 184)) rf (q9 aD) (λb h=>(by have:=h.2;simp;omega))).mono ?_;rintro e w3⟨E8,rg,rfl,EP⟩;obtain⟨eO,gU⟩:=qb0 E8;have Q9:w2.heap.size+1<=w3.heap.size:=(by have:=E8.size;simp at this;omega);have v0:w3.cell? ⟨w2.heap.size,0,none⟩=some (.string rf.op):=(eO _ 0 (by simp)).trans (by simp);have v1:w3.cell? ⟨w2.heap.size,1,none⟩=some (.string (BS rf.text)):=(eO _ 1 (by simp)).trans (by simp);have v2:w3.cell? ⟨w2.heap.size,2,none⟩=some (.int .i64 rf.cls):=(eO _ 2 (by simp)).trans (by simp);have v3:w3.cell? ⟨w2.heap.size,3,none⟩=some (.slice rf.pa rf.pn rf.pc):=(eO _ 3 (by simp)).trans (by simp);have v4:w3.cell? ⟨w2.heap.size,4,none⟩=some (.slice rf.ta rf.tn rf.tc):=(eO _ 4 (by simp)).trans (by simp);have v5:w3.cell? ⟨w2.heap.size,5,none⟩=some (.slice rf.ra rf.rn rf.rc):=(eO _ 5 (by simp)).trans (by simp);have vz:∀i,w3.frozen? ⟨w2.heap.size,i,none⟩=false:=(λi=>(gU _ i (by simp)).trans (by simp));have lQ:=qi2 w3 w2.heap.size (.string rg.op) (.string (BS rg.text)) (.int .i64 rg.cls) (.slice rg.pa rg.pn rg.pc) (.slice rg.ta rg.tn rg.tc) (.slice rg.ra rg.rn rg.rc);have uN:=j3 ((q9 IV).below (lQ.bel _ _ F8 (j6 (q9 J2) E8)));have OY:=j3 (lQ.rf (N':=λb=>w.heap.size+1<=b/\(Value.slice aa k ac).ownBlock≠some b) EP (by rintro (h|h);exact h.1.2.2 rfl;simp at h;omega) (λb h _=>(by rcases h with h|h;exact⟨h.1.1,h.1.2.1⟩;simp at h;exact⟨(by omega),q9 wR b (by omega)⟩)));obtain⟨g5,S6,w5,o6,eX,U0,aQ,qQ,qE⟩:=(q9 uN).row.app (by rw[lQ.size];omega) rg (by omega) w3.heap.size lQ.size;rw[EH]at o6 eX;clear E8 eO gU EP lQ)|(go_at_call 178;refine(q9 IK).mono ?_;rintro e w2⟨B9,rf,rfl,rE⟩;have F8:=B9.size;obtain⟨m9,H8⟩:=qb0 B9;have k7:=(m9 _ 7 EA).trans f7;have xG:wo.heap.size<w2.heap.size:=(by omega);have J2:=j3 (B9.alloc B9.size (.cells #[.string rf.op,.string (BS rf.text),.int .i64 rf.cls,.slice rf.pa rf.pn rf.pc,.slice rf.ta rf.tn rf.tc,.slice rf.ra rf.rn rf.rc] 184));have aD:=j3 ((rE.keep (N':=λb=>(w.heap.size+1<=b/\(Value.slice aa k ac).ownBlock≠some b/\b≠w2.heap.size)/\b<w2.heap.size+1) (λ_ _ _=>rfl) (Nat.le_refl _) (λb h hl=>(by rcases h with h|h;exact⟨⟨h.1.1,h.1.2,by omega⟩,by omega⟩;exact⟨⟨by omega,q9 wR b (by omega),by omega⟩,by omega⟩))).below ((Below.refl w2.heap.size w2).alloc (Nat.le_refl _) (.cells #[.string rf.op,.string (BS rf.text),.int .i64 rf.cls,.slice rf.pa rf.pn rf.pc,.slice rf.ta rf.tn rf.tc,.slice rf.ra rf.rn rf.rc] 184)));clear B9 m9 H8 rE))
      go_roundw
      case rel=>exact⟨k+1,by omega,by go_num,_,j3 (by rw[q9 uG,if_pos trivial];exact(q9 uN).snoc (q9 OY) rfl (q9 eX) (q9 U0) (q9 aQ) (q9 qQ) (q9 qE))⟩
      case measure=>simp[intOf];omega
  ·have t9:k=LN:=by omega
   subst t9;obtain⟨y,hy⟩:∃y,fs[k - 1]?=some y:=⟨_,List.getElem?_eq_getElem (by omega)⟩;obtain⟨ab,GW,rfl,_,aV,cC⟩:=(q9 HL).row.cell hy
   have IJ:Hid (RfAt (λb=>w.heap.size+1<=b/\(Value.slice (some ⟨ab,0,none⟩) fs.length GW).ownBlock≠some b) wr R y):=j3 ((q9 HL).co.2 (k - 1) R y (by
    have R7:cs.length=k:=by have:=(q9 HL).co.1;omega
    rw[←q9 HR,q9 wJ,List.getD_eq_getElem?_getD,List.getElem?_eq_getElem (by omega)];rfl) hy)
   obtain⟨k',rfl⟩:∃k',k=k'+1:=⟨k - 1,by omega⟩;rw[show k'+1 - 1=k' by omega]at cC;have y0:wr.cell? ⟨ab,k' * 6,none⟩=some (.string y.op):=cC 0 (by omega);have y1:wr.cell? ⟨ab,k' * 6+1,none⟩=some (.string (BS y.text)):=cC 1 (by omega);have y2:wr.cell? ⟨ab,k' * 6+2,none⟩=some (.int .i64 y.cls):=cC 2 (by omega);have y3:wr.cell? ⟨ab,k' * 6+3,none⟩=some (.slice y.pa y.pn y.pc):=cC 3 (by omega);have y4:wr.cell? ⟨ab,k' * 6+4,none⟩=some (.slice y.ta y.tn y.tc):=cC 4 (by omega);have y5:wr.cell? ⟨ab,k' * 6+5,none⟩=some (.slice y.ra y.rn y.rc):=cC 5 (by omega);have r0:wr.cell? ⟨w.heap.size,0,none⟩=some (.string ⟨#[]⟩):=((q9 HL).bel.cell (p:=⟨w.heap.size,0,none⟩) (Nat.lt_succ_self _)).trans (by simp);have r1:wr.cell? ⟨w.heap.size,1,none⟩=some (.string ⟨#[]⟩):=((q9 HL).bel.cell (p:=⟨w.heap.size,1,none⟩) (Nat.lt_succ_self _)).trans (by simp);have r2:wr.cell? ⟨w.heap.size,2,none⟩=some (.int .i64 0):=((q9 HL).bel.cell (p:=⟨w.heap.size,2,none⟩) (Nat.lt_succ_self _)).trans (by simp);have r3:wr.cell? ⟨w.heap.size,3,none⟩=some (.slice none 0 0):=((q9 HL).bel.cell (p:=⟨w.heap.size,3,none⟩) (Nat.lt_succ_self _)).trans (by simp);have r4:wr.cell? ⟨w.heap.size,4,none⟩=some (.slice none 0 0):=((q9 HL).bel.cell (p:=⟨w.heap.size,4,none⟩) (Nat.lt_succ_self _)).trans (by simp);have r5:wr.cell? ⟨w.heap.size,5,none⟩=some (.slice none 0 0):=((q9 HL).bel.cell (p:=⟨w.heap.size,5,none⟩) (Nat.lt_succ_self _)).trans (by simp);have rz:∀i,wr.frozen? ⟨w.heap.size,i,none⟩=false:=λi=>((q9 HL).bel.frozen (p:=⟨w.heap.size,i,none⟩) (Nat.lt_succ_self _)).trans (by simp)
   rw[qY];rw[qY]at IJ;have J5:=j3 iE;have A0:(k':Int)+1 - 1=(k':Int):=by omega
   clear hy cC O5 wJ iE HL
   go_wp2_with fail
   refine bodyPost_ret (by simp[results,results125,go_sem,r0,r1,r2,r3,r4,r5]<;>rfl) rfl ?_;have lQ:=qi2 wr w.heap.size (.string y.op) (.string (BS y.text)) (.int .i64 y.cls) (.slice y.pa y.pn y.pc) (.slice y.ta y.tn y.tc) (.slice y.ra y.rn y.rc);exact⟨lQ.bel _ _ (Nat.le_refl _) (q9 J5),y,rfl,lQ.rf (q9 IJ) (λh=>absurd h.1 (by omega)) (λb h _=>.inr (by have:=h.1;omega))⟩
end
section
theorem jj0{s:ByteArray}{t:Ast}(h:qg4 s=.ok t):∃c,qb3 t=.ok c:=by
 unfold qg4 at h
 by_cases hs:s.size<=200
 ·rw[if_pos hs]at h
  cases he:(lvl s 12).E (j4 s st0) with
  | err en pl=>rw[he]at h;cases h
  | ok t1 st=>
   rw[he]at h
   change jh3 t1 st=_ at h
   unfold jh3 at h
   split at h
   ·split at h
    ·rename_i hk
     injection h with h;subst h
     cases hc:qb3 t1 with
     | err q=>rw[hc]at hk;cases hk
     | ok c=>exact⟨c,rfl⟩
    ·cases h
   ·cases h
 ·rw[if_neg hs]at h;cases h
theorem jr5{s:ByteArray}{t:Ast}(h:qg4 s=.ok t):GcA t:=by
 obtain⟨hg,hn,hs,hm,hb,hq⟩:=qs6 h;obtain⟨k,hc⟩:=jj0 h;exact gcA_every t hg hn hs hb hm hq k hc
theorem jz2{s:ByteArray}{t:Ast}(hrd:qg4 s=.ok t){w:World}{rb g LN cap:Nat}{ns:List RN}{cs:List Int}(F6:Flat t 0 ns)(jS:ShA t)(iF:ns.length<=200)(c0:w.cell? ⟨rb,0,none⟩=some (.slice (some ⟨g,0,none⟩) LN cap))(hN:NodesAt w rb (.slice (some ⟨g,0,none⟩) LN cap) (qr4 ns cs))(g9:rb<w.heap.size):
  Calls prog 125 #[.pointer (some ⟨rb,0,none⟩)] w (qp6 (λ_=>False) w (j8 t)):=by
 have hl:(qr4 ns cs).length=ns.length:=jh1 _ _;have Y7:=F6.pos;have lX:=read_good hrd;obtain⟨ds,h1,h2,h3,h4⟩:=core_flat F6 jS (jr5 hrd) [] rfl
 have key:=jz0 c0 hN g9 (by omega) (by omega) (λi n hn=>by
   rw[qu9]at hn
   cases hm:ns[i]? with
   | none=>rw[hm]at hn;cases hn
   | some m=>
    rw[hm]at hn;simp only[Option.map_some]at hn;injection hn with hn;obtain⟨o,a,b,c,d,e,f⟩:=jn0 F6 jS i m hm;rw[Nat.zero_add]at d;subst hn
    exact⟨o,a,b,c,d,e,f⟩) (ng_withC (ng_flat F6 jS lX.1 lX.2 (vr2 hrd))) ((js5 ns cs).2 h4)
 have hv:(qx5 [] (qr4 ns cs)).getD ((qr4 ns cs).length - 1) nC=j8 t:=by
  rw[(js5 ns cs).1,hl,h1,List.nil_append];exact h3
 rw[hv]at key;exact key
end
section
attribute [local go_sem ↓] qe4
def trC(c:Co):List (List UInt8×Nat):=(qa6 c).zip (qj7 c)
def g1T(a:List (List UInt8)×Nat)(s:List UInt8):List (List UInt8)×Nat:=match qg4 (BS s) with
 | .ok t=>(trC (j8 t)).foldl qr9 a
 | .err _ _=>a
def gTs(ss:List (List UInt8))(k:Nat):List (List UInt8)×Nat:=(ss.take k).foldl g1T ([],0)
theorem vu8{ss:List (List UInt8)}{k:Nat}{s:List UInt8}(h:ss[k]?=some s):gTs ss (k+1)=g1T (gTs ss k) s:=by
 unfold gTs;rw[List.take_add_one,h,List.foldl_append];rfl
theorem str_core:∀t,ShA t->vg4 t->BqA t->∀q∈qj7 (j8 t),q<=200:=by
 have bC:∀p:CP,p.str.length<=200->vf6 p<=200:=λp h=>by unfold vf6;split<;>omega
 have U4:∀o,vf6 (qa0 o)<=200:=λo=>bC _ (by show(0:Nat)<=200;omega)
 have K4:∀(o:Int) (x y:Co),(∀q∈qj7 x,q<=200)->(∀q∈qj7 y,q<=200)->∀q∈qj7 (j9 o x y),q<=200:=λo x y hx hy q hq=>by
  unfold j9 at hq
  have two:∀u v:Co,(∀q∈qj7 u,q<=200)->(∀q∈qj7 v,q<=200)->q∈qj7 (.bin (qa0 o) u v)->q<=200:=λu v hu hv h=>by
   rw[qj7]at h;rcases List.mem_append.1 h with h|h
   ·rcases List.mem_append.1 h with h|h
    ·exact hu q h
    ·exact hv q h
   ·rw[List.mem_singleton.1 h];exact U4 o
  split at hq
  ·exact two y x hy hx hq
  ·exact two x y hx hy hq
 have vE:∀(p:CP) (x:Co),vf6 p<=200->(∀q∈qj7 x,q<=200)->∀q∈qj7 (.un p x),q<=200:=λp x hp hx q hq=>by
  rw[qj7]at hq;rcases List.mem_append.1 hq with h|h
  ·exact hx q h
  ·rw[List.mem_singleton.1 h];exact hp
 have rQ:∀c:Co,(∀q∈qj7 c,q<=200)->∀q∈qj7 (qd8 c),q<=200:=by
  intro c
  induction c with
  | leaf p=>
   intro h;unfold qd8
   split
   ·intro q hq;rw[qj7]at hq;rw[List.mem_singleton.1 hq];exact U4 4
   ·split
    ·intro q hq;rw[qj7]at hq;rw[List.mem_singleton.1 hq];exact U4 3
    ·exact vE _ _ (U4 5) h
  | un p x ih=>
   intro h;unfold qd8
   split
   ·intro q hq;exact h q (by rw[qj7];exact List.mem_append_left _ hq)
   ·exact vE _ _ (U4 5) h
  | bin p x y ihx ihy=>
   intro h;have h1:∀q∈qj7 x,q<=200:=λq hq=>h q (by rw[qj7];exact List.mem_append_left _ (List.mem_append_left _ hq))
   have h2:∀q∈qj7 y,q<=200:=λq hq=>h q (by rw[qj7];exact List.mem_append_left _ (List.mem_append_right _ hq))
   unfold qd8
   split
   ·exact K4 _ _ _ (ihx h1) (ihy h2)
   ·split
    ·exact K4 _ _ _ (ihx h1) (ihy h2)
    ·split
     ·exact K4 _ _ _ h2 h1
     ·split
      ·exact K4 _ _ _ h2 h1
      ·exact vE _ _ (U4 5) h
 have lO:∀t:List UInt8,t.length<=200->∀q∈qj7 (qd4 t),q<=200:=λt ht q hq=>by
  rw[qd4,qj7]at hq;rw[List.mem_singleton.1 hq];exact bC _ ht
 have LL:∀(x:Co),(∀q∈qj7 x,q<=200)->∀(r:List (List UInt8)) (f:Co),(∀t∈r,t.length<=200)->(∀q∈qj7 f,q<=200)->∀q∈qj7 (qm8 x f r),q<=200:=by
  intro x hx r
  induction r with
  | nil=>intro f _ hf;exact hf
  | cons t r ih=>intro f hr hf;exact ih _ (λu hu=>hr u (List.mem_cons_of_mem _ hu)) (K4 _ _ _ hf (K4 _ _ _ hx (lO t (hr t List.mem_cons_self))))
 intro t
 induction t with
 | leaf p=>intro _ hb _ q hq;rw[j8,qj7]at hq;rw[List.mem_singleton.1 hq];exact bC _ hb.1
 | un p x ih=>
  intro hs hb hq;have hx:=ih hs.2.2.2 hb.2 hq.2;have hz:∀q∈qj7 (qz1 0),q<=200:=λq hq=>by rw[qz1,qj7]at hq;rw[List.mem_singleton.1 hq];exact bC _ (by show(0:Nat)<=200;omega)
  rw[j8]
  split
  ·exact K4 _ _ _ hz hx
  ·split
   ·exact K4 _ _ _ hz hx
   ·split
    ·exact rQ _ hx
    ·split
     ·unfold qh1
      cases he:qe5 p.texts with
      | nil=>exact hx
      | cons u r=>
       have hm:∀v∈u::r,v.length<=200:=λv hv=>hq.1.2 v (qx9 (by rw[he];exact hv))
       exact LL _ hx _ _ (λv hv=>hm v (List.mem_cons_of_mem _ hv)) (K4 _ _ _ hx (lO u (hm u List.mem_cons_self)))
     ·exact vE _ _ (bC _ hb.1.1) hx
 | bin p x y ihx ihy=>
  intro hs hb hq;have hx:=ihx hs.2.1 hb.2.1 hq.2.1;have hy:=ihy hs.2.2 hb.2.2 hq.2.2;rw[j8]
  split
  ·exact K4 _ _ _ hy hx
  ·split
   ·exact K4 _ _ _ hy hx
   ·split
    ·exact rQ _ (K4 _ _ _ hx hy)
    ·exact K4 _ _ _ hx hy
 | tri p x y z ihx ihy ihz=>
  intro hs hb hq;have hx:=ihx hs.2.1 hb.2.1 hq.2.1;have hy:=ihy hs.2.2.1 hb.2.2.1 hq.2.2.1;have hz:=ihz hs.2.2.2 hb.2.2.2 hq.2.2.2;exact K4 _ _ _ (K4 _ _ _ hy hx) (K4 _ _ _ hx hz)
def GBnd(a:List (List UInt8)×Nat)(k:Nat):Prop:=a.1.length<=k/\a.2<=200 * k
theorem GBnd.mono{a:List (List UInt8)×Nat}{k k':Nat}(h:GBnd a k)(hk:k<=k'):GBnd a k':=⟨Nat.le_trans h.1 hk,Nat.le_trans h.2 (Nat.mul_le_mul_left _ hk)⟩
theorem addTx_bnd{a:List (List UInt8)×Nat}{e:List UInt8×Nat}{k:Nat}(h:GBnd a k)(he:e.2<=200):GBnd (qr9 a e) (k+1):=by
 unfold qr9
 split
 ·exact⟨by have:=h.1;omega,by have:=h.2;omega⟩
 ·exact⟨by have:=h.1;simp;omega,by have:=h.2;simp only;omega⟩
theorem jr4:∀(l:List (List UInt8×Nat)) {a:List (List UInt8)×Nat} {k:Nat},GBnd a k->(∀e∈l,e.2<=200)->GBnd (l.foldl qr9 a) (k+l.length):=by
 intro l
 induction l with
 | nil=>intro a k h _;exact h
 | cons e l ih=>
  intro a k h he;have:=ih (addTx_bnd h (he e List.mem_cons_self)) (λf hf=>he f (List.mem_cons_of_mem _ hf));rw[List.foldl_cons,List.length_cons];rwa [show k+(l.length+1)=k+1+l.length by omega]
theorem tr_read{s:ByteArray}{t:Ast}(h:qg4 s=.ok t):(trC (j8 t)).length<=120000001/\(∀e∈trC (j8 t),e.2<=200)/\(trC (j8 t)).length=(qa6 (j8 t)).length:=by
 obtain⟨hg,hn,hs,hm,hb,hq⟩:=qs6 h;have gc:=(jr5 h).gc;have h1:=qt1 _ gc.wt.wf;have h2:=gc.len;have hl:(trC (j8 t)).length=(qa6 (j8 t)).length:=by unfold trC;rw[List.length_zip,qn3];omega
 refine⟨by omega,λe he=>?_,hl⟩;unfold trC at he;exact str_core t hs hb hq _ (List.of_mem_zip (a:=e.1) (b:=e.2) he).2
theorem gTs_bnd(ss:List (List UInt8))(k:Nat):GBnd (gTs ss k) (k * 120000001):=by
 induction k with
 | zero=>exact⟨Nat.le_refl _,Nat.le_refl _⟩
 | succ k ih=>
  cases h:ss[k]? with
  | none=>
   have:gTs ss (k+1)=gTs ss k:=by unfold gTs;rw[List.take_add_one,h];simp
   rw[this];exact ih.mono (Nat.mul_le_mul_right _ (Nat.le_succ k))
  | some s=>
   rw[vu8 h];unfold g1T
   split
   ·rename_i t ht
    obtain⟨h1,h2,_⟩:=tr_read ht;exact(jr4 _ ih h2).mono (by rw[Nat.succ_mul];exact Nat.add_le_add_left h1 _)
   ·exact ih.mono (Nat.mul_le_mul_right _ (Nat.le_succ k))
end
end Go.Proofs.YtfkcaldjphakpaaGreatDoor
