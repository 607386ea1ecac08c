/- The document's answer: the core of a node, whatever it is. The document's answer: the core of a selector. The document's answer: Canon. The laws by the document's answer: Canons, of any script. -/
import Derived.Test.YtfkcaldjphakpaaGreatDoorM39
import Derived.Test.YtfkcaldjphakpaaGreatDoorM40
import Derived.Test.YtfkcaldjphakpaaGreatDoorM31
import Derived.Test.YtfkcaldjphakpaaGreatDoorM44
import Derived.Test.YtfkcaldjphakpaaGreatDoorM14
import Derived.Test.YtfkcaldjphakpaaGreatDoorM07
import Derived.Test.YtfkcaldjphakpaaGreatDoorM02
import Derived.Test.YtfkcaldjphakpaaGreatDoorM08
import Derived.Test.YtfkcaldjphakpaaGreatDoorM42
import Derived.Deep.QuietTactic
import Derived.BigQuiet
set_option maxHeartbeats 16000000
set_option maxRecDepth 100000
namespace Go.Proofs.YtfkcaldjphakpaaGreatDoor
open Go.RowKit
section
section
variable {N N':Nat→Prop} {w w' W:World}
def CsOf (N:Nat→Prop) (w:World) (cs:List Co) (fs:List RF):Prop:=fs.length=cs.length∧∀(i:Nat) (c:Co) (f:RF),cs[i]?=some c→fs[i]?=some f→RfAt N w c f
theorem CsOf.below {cs:List Co} {fs:List RF} (h:CsOf N w cs fs) (hb:Below w.heap.size w w'):CsOf N w' cs fs:=⟨h.1,fun i c f a b=>(h.2 i c f a b).below hb⟩
theorem CsOf.keep {cs:List Co} {fs:List RF} (h:CsOf N w cs fs) (hN:∀b,N b→b<w.heap.size→N' b):CsOf N' w cs fs:=⟨h.1,fun i c f a b=>(h.2 i c f a b).keep (fun _ _ _=>rfl) (Nat.le_refl _) hN⟩
def CsIn (N:Nat→Prop) (w:World) (inv:Value) (xs:List Co):Prop:=∃fs,CsOf N w xs fs∧(xs=[]∨∃b cap,inv=.slice (some ⟨b,0,none⟩) xs.length cap∧N b∧b<w.heap.size∧∀k,k<xs.length * 6→w.cell? ⟨b,k,none⟩=(fs.flatMap qa3)[k]?)
theorem CsIn.one {inv:Value} {x:Co} (h:CsIn N w inv [x]):∃b cap g,inv=.slice (some ⟨b,0,none⟩) 1 cap∧N b∧b<w.heap.size∧RfAt N w x g∧∀k,k<6→w.cell? ⟨b,k,none⟩=(qa3 g)[k]?:=by
 obtain ⟨fs,⟨hl,ho⟩,h|⟨b,cap,rfl,hb,hlt,hc⟩⟩:=h
 ·cases h
 ·match fs,hl with
  | [g],_=>exact ⟨b,cap,g,rfl,hb,hlt,ho 0 x g rfl rfl,fun k hk=>by have:=hc k hk;simpa using this⟩
theorem CsIn.two {inv:Value} {x y:Co} (h:CsIn N w inv [x,y]):∃b cap g k,inv=.slice (some ⟨b,0,none⟩) 2 cap∧b<w.heap.size∧RfAt N w x g∧RfAt N w y k∧∀i,i<12→w.cell? ⟨b,i,none⟩=(qa3 g++qa3 k)[i]?:=by
 obtain ⟨fs,⟨hl,ho⟩,h|⟨b,cap,rfl,hb,hlt,hc⟩⟩:=h
 ·cases h
 ·match fs,hl with
  | [g,k],_=>exact ⟨b,cap,g,k,rfl,hlt,ho 0 x g rfl rfl,ho 1 y k rfl rfl,fun i hi=>by have:=hc i hi;simpa using this⟩
theorem CsIn.three {inv:Value} {x y z:Co} (h:CsIn N w inv [x,y,z]):∃b cap g k j,inv=.slice (some ⟨b,0,none⟩) 3 cap∧b<w.heap.size∧RfAt N w x g∧RfAt N w y k∧RfAt N w z j∧∀i,i<18→w.cell? ⟨b,i,none⟩=(qa3 g++qa3 k++qa3 j)[i]?:=by
 obtain ⟨fs,⟨hl,ho⟩,h|⟨b,cap,rfl,hb,hlt,hc⟩⟩:=h
 ·cases h
 ·match fs,hl with
  | [g,k,j],_=>exact ⟨b,cap,g,k,j,rfl,hlt,ho 0 x g rfl rfl,ho 1 y k rfl rfl,ho 2 z j rfl rfl,fun i hi=>by have:=hc i hi;simpa using this⟩
theorem ve2 {c:Co} {e:Ending} (hz:w.heap.size+1+1≤W.heap.size) (h:qp5 (fun b=>(N b∨w.heap.size+1+1≤b)∧b<W.heap.size) W c e w'):Below W.heap.size W w'∧∃r:RF,e=.returned r.v∧RfAt (fun b=>N b∨w.heap.size+1+1≤b) w' c r:=by
 obtain ⟨h1,r,e1,h2⟩:=h
 exact ⟨h1,r,e1,h2.keep (fun _ _ _=>rfl) (Nat.le_refl _) (fun b h _=>by rcases h with h|h;exact h.1;right;omega)⟩
theorem vh1 {c:Co} {f:RF} (h:RfAt N w c f) (hb:Below w.heap.size w W):RfAt (fun b=>(N b∨w.heap.size+1+1≤b)∧b<W.heap.size) W c f:=(h.below hb).keep (fun _ _ _=>rfl) (Nat.le_refl _) (fun _ h hl=>⟨.inl h,hl⟩)
theorem rf_lt {c:Co} {f:RF} (h:RfAt (fun b=>N b∨w.heap.size+1+1≤b) W c f):RfAt (fun b=>(N b∨w.heap.size+1+1≤b)∧b<W.heap.size) W c f:=h.keep (fun _ _ _=>rfl) (Nat.le_refl _) (fun _ h hl=>⟨h,hl⟩)
theorem vb1:j9 (vb2 0)=[48]:=by
 show Lib.itoa ((0:Nat):Int)=[48]
 rw [Lib.itoa_nonneg,Lib.decDigits_one (by decide)]
 rfl
theorem zero_ok (N:Nat→Prop) (w:World):qg9 w fun z w'=>RfAt (fun b=>N b∨w.heap.size+1+1≤b) w' (vb2 0) z:=by
 intro W _ hz
 have h:=qv0 N ⟨1,0,[],[]⟩ W
 rw [show j9 (.leaf ⟨1,0,[],[]⟩)=[48] from vb1] at h
 exact h.mono fun e w' hh=>qx5 hz hh.rf
theorem vf9 (p:CP) {W:World} (hz:w.heap.size+1<W.heap.size):Calls Tryz.prog 224 #[.string (BS (qb9 p.op)),.string (BS (j9 (.leaf p))),.int .i64 (vy3 p.op),.int .i64 (rawN p:Nat)] W fun e w'=>Below W.heap.size W w'∧∃r:RF,e=.returned r.v∧RfAt (fun b=>N b∨w.heap.size+1+1≤b) w' (.leaf p) r:=
 (qv0 N p W).mono fun _ _ hh=>qx5 hz hh.rf
theorem vw6 {x y:Co} {f g:RF} {o:Int} (ho:qf0 o) (hz:w.heap.size+1<W.heap.size) (hx:RfAt (fun b=>(N b∨w.heap.size+1+1≤b)∧b<W.heap.size) W x f) (hy:RfAt (fun b=>(N b∨w.heap.size+1+1≤b)∧b<W.heap.size) W y g) (bx:qt8 x) (by':qt8 y) :
  Calls Tryz.prog 227 #[.string (BS (qb9 o)),f.v,g.v] W fun e w'=>Below W.heap.size W w'∧∃r:RF,e=.returned r.v∧RfAt (fun b=>N b∨w.heap.size+1+1≤b) w' (j8 o x y) r:=
 (qv9 ho hx hy bx by' (fun _ h=>h.2)).mono fun _ _ h=>ve2 hz h
theorem den_at {x:Co} {f:RF} (hd:vx3 x) (hz:w.heap.size+1<W.heap.size) (hx:RfAt (fun b=>(N b∨w.heap.size+1+1≤b)∧b<W.heap.size) W x f) :
  Calls Tryz.prog 179 #[f.v] W fun e w'=>Below W.heap.size W w'∧∃r:RF,e=.returned r.v∧RfAt (fun b=>N b∨w.heap.size+1+1≤b) w' (qe3 x) r:=
 (hd _ W f hx (fun _ h=>h.2)).mono fun _ _ h=>ve2 hz h
theorem ja2 {p:CP} {x:Co} {b cap:Nat} {g:RF} (hz:w.heap.size+1<W.heap.size) (hb:Below w.heap.size w W) (hx:RfAt N w x g) (hN:N b) (hlt:b<w.heap.size) (hc:∀k,k<6→w.cell? ⟨b,k,none⟩=(qa3 g)[k]?) (bx:qt8 x) :
  Calls Tryz.prog 229 #[.string (BS (qb9 p.op)),.string (BS (j9 (.un p x))),.int .i64 (vy3 p.op),.slice (some ⟨b,0,none⟩) 1 cap,.int .i64 (rawN p:Nat)] W fun e w'=>Below W.heap.size W w'∧∃r:RF,e=.returned r.v∧RfAt (fun b=>N b∨w.heap.size+1+1≤b) w' (.un p x) r:=
 (vu9 p (parts1 (vh1 hx hb) (Nat.lt_of_lt_of_le hlt hb.size) (fun k hk=>((qa9 hb).1 _ _ hlt).trans (hc k hk))) ⟨.inl hN,Nat.lt_of_lt_of_le hlt hb.size⟩ bx).mono fun _ _ h=>ve2 hz h
theorem amK_big {x:Co} (hx:(j9 x).length≤402) (hw:WfC x) {S:List (List UInt8)} (hS:S.length≤1000) (hl:∀t∈S,t.length≤200) (i:Nat):qt8 (amK x S i):=by
 have ht0:(S.getD 0 []).length≤200:=by
  rw [List.getD_eq_getElem?_getD]
  cases h:S[0]? with
  | none=>simp
  | some t=>exact hl t (List.mem_of_getElem? h)
 have hw1:WfC (j8 8 x (qd9 (S.getD 0 []))):=qg3 rfl hw rfl
 have hwa:WfC (amK x S i):=je6 hw _ _ hw1
 have h1:=vg3 x ((S.drop 1).take (i - 1)) (j8 8 x (qd9 (S.getD 0 []))) (fun t ht=>hl t (List.mem_of_mem_drop (List.mem_of_mem_take ht)))
 rw [qc1 8 rfl rfl] at h1
 have h2:=qp4 _ ht0
 have e8:(qj8 8).length=1:=rfl
 have h3:((S.drop 1).take (i - 1)).length≤1000:=by rw [List.length_take,List.length_drop];omega
 have h4:((S.drop 1).take (i - 1)).length * ((j9 x).length+420)≤1000 * 822:=Nat.mul_le_mul h3 (by omega)
 have h5:(j9 (amK x S i)).length≤400000+1000 * 822:=by
  show (j9 (qp7 _ _ _)).length≤_
  omega
 have h6:=qv5 _ hwa
 exact ⟨by omega,by omega⟩
theorem je9 {o:Int} (ho:qf0 o) {x y:Co} (hx:Gc x) (hy:Gc y):qt8 (j8 o x y):=by
 obtain ⟨h1,h2,h3⟩:=two_bin ho
 have h4:=qc1 o h2 h3 x y
 have h5:=sign_len3 o
 have h6:=hx.len
 have h7:=hy.len
 have h8:=qv5 _ (qg3 h1 hx.wt.wf hy.wt.wf)
 exact ⟨by omega,by omega⟩
theorem text_big {t:List UInt8} (h:t.length≤200):qt8 (qd9 t):=by
 have:=qp4 t h
 exact ⟨by omega,by show (1:Nat)≤_;omega⟩
theorem in_at {x:Co} {ts:List (List UInt8)} {g:RF} {la:Option Addr} {lc:Nat} (hz:w.heap.size+1<W.heap.size) (hb:Below w.heap.size w W) (hx:RfAt N w x g) (gx:Gc x) (h402:(j9 x).length≤402) (hts:TxtAt w (.slice la ts.length lc) ts) (hne:ts≠[]) (hlen:ts.length≤1000) (hst:∀t∈ts,t.length≤200) :
  Calls Tryz.prog 228 #[g.v,.slice la ts.length lc] W fun e w'=>Below W.heap.size W w'∧∃r:RF,e=.returned r.v∧RfAt (fun b=>N b∨w.heap.size+1+1≤b) w' (qk7 x ts) r:=by
 refine (jk1 (vh1 hx hb) (fun _ h=>h.2) (hts.below hb) hne hlen (fun t ht=>by have:=hst t ht;omega) gx.big (fun t ht=>text_big (hst t ht)) (fun t ht=>?_) (fun i _ _=>amK_big h402 gx.wt.wf (Nat.le_trans (va1 ts) hlen) (fun t ht=>hst t (vh6 ht)) i)).mono fun _ _ h=>ve2 hz h
 have h1:=qp4 t (hst t ht)
 have h2:=qc1 8 rfl rfl x (qd9 t)
 have e8:(qj8 8).length=1:=rfl
 have h3:=qv5 (j8 8 x (qd9 t)) (qg3 rfl gx.wt.wf rfl)
 exact ⟨by omega,by omega⟩
theorem pair_den {x y:Co} (hx:Gc x) (hy:Gc y):vx3 (j8 8 x y):=by
 have hw:WT (j8 8 x y):=qk6 (by unfold qf0;omega) hx.wt hy.wt (by omega)
 have h1:=qc1 8 rfl rfl x y
 have e8:(qj8 8).length=1:=rfl
 have h2:uC (j8 8 x y)=1:=by rw [qk0];rfl
 have h3:=qv5 _ hw.wf
 have h4:=hx.len
 have h5:=hy.len
 exact qx4 _ hw (qn5 (by omega) _ _) ⟨by omega,by omega⟩
end
section
variable {N:Nat→Prop} {w:World} {p:Pay} {neg:Bool} {c:Int} {iv inv:Value} {la:Option Addr} {lc:Nat} {xs:List Co}
theorem len0 {α:Type} {l:List α} (h:l.length=0):l=[]:=List.eq_nil_of_length_eq_zero h
theorem len1 {α:Type} {l:List α} (h:l.length=1):∃a,l=[a]:=by
 match l,h with
 | [a],_=>exact ⟨a,rfl⟩
theorem len2 {α:Type} {l:List α} (h:l.length=2):∃a b,l=[a,b]:=by
 match l,h with
 | [a,b],_=>exact ⟨a,b,rfl⟩
theorem len3 {α:Type} {l:List α} (h:l.length=3):∃a b c,l=[a,b,c]:=by
 match l,h with
 | [a,b,c],_=>exact ⟨a,b,c,rfl⟩
theorem two_words {o:Int} (h:qf0 o):∀l∈[[110,97,109,101],[110,117,109,98,101,114],[116,101,120,116],[84,82,85,69],[70,65,76,83,69],[78,79,84],[112],[110],[60,62],[62],[62,61],[66,69,84,87,69,69,78],[73,78],[78,85,76,76],[76,73,75,69]],((BS (qb9 o)).toList==l)=false:=by
 rw [qe0]
 rcases h with rfl|rfl|rfl|rfl|rfl|rfl|rfl|rfl|rfl<;>decide
theorem rcore_any (hI:CsIn N w inv xs) (hN:∀b,N b→b<w.heap.size) (hts:TxtAt w (.slice la p.texts.length lc) p.texts) (h0:0≤p.op) (h23:p.op≤23) (hnd:NdC p neg xs) (hnum:Rng p.num) (hbp:Bp p) (hbz:Bz p) :
  Calls Tryz.prog 178 #[.agg #[.string (BS (qb9 p.op)),.int .i64 p.place,iv,.string (BS p.str),.string (BS p.esc),.slice la p.texts.length lc,.int .i64 p.num,.bool neg,.int .i64 c],inv] w (qp5 N w (qu1 p xs)):=by
 obtain ⟨op,pl,num,str,esc,texts⟩:=p
 have hfew:xs.length=vc7 op:=hnd.few
 have hbw:∀{wz W:World},Below w.heap.size w wz→Below wz.heap.size wz W→Below w.heap.size w W:=fun a b=>j6 a b
 have hzz:∀{wz W:World},w.heap.size+1<wz.heap.size→Below wz.heap.size wz W→w.heap.size+1<W.heap.size:=fun a b=>Nat.lt_of_lt_of_le a b.size
 have fin:∀{k:Co},qi7 w (fun r w1=>RfAt (fun b=>N b∨w.heap.size+1+1≤b) w1 k r) (qp5 N w k):=fun r w1 w' h1 h2 h3=>qp8 hN h1 h2 h3
 have hZ:=zero_ok N w
 by_cases h2:qf0 op
 ·obtain ⟨x,y,rfl⟩:=len2 (hfew.trans (vx6 (by unfold qf0 at h2;omega)))
  obtain ⟨b,cap,g,k,rfl,hlt,hx,hy,hc⟩:=hI.two
  rw [show qu1 ⟨op,pl,num,str,esc,texts⟩ [x,y]=j8 op x y by unfold qf0 at h2;unfold qu1;simp only;rw [if_neg (by simp;omega),if_neg (by simp;omega),if_neg (by simp;omega)]]
  exact rcore_two rfl (Nat.le_refl _) hlt hc (two_words h2) hZ (fun wz z W a b d f=>vw6 h2 (hzz b f) (vh1 hx (hbw a f)) (vh1 hy (hbw a f)) (hnd.gc x (by simp)).big (hnd.gc y (by simp)).big) fin
 have h0:0≤op:=h0
 have h23:op≤23:=h23
 rcases (show op=0∨op=1∨op=2∨op=3∨op=4∨op=5∨op=9∨op=12∨op=13∨op=14∨op=15∨op=20∨op=21∨op=22∨op=23 by unfold qf0 at h2;omega) with e|e|e|e|e|e|e|e|e|e|e|e|e|e|e<;>subst e
 ·obtain rfl:=len0 hfew
  exact jj6 hZ (fun wz z W a b d f=>vf9 ⟨0,num,str,esc⟩ (hzz b f)) fin
 ·obtain rfl:=len0 hfew
  obtain ⟨h1,rfl,rfl⟩:=hbz.num rfl
  obtain ⟨u,rfl⟩:∃u:Nat,num=(u:Int):=⟨num.toNat,by simp only at h1;omega⟩
  have hu:u≤9223372036854775807:=by have:=hnum.2;simp only at this;omega
  refine vu4 (QB:=BS (Lib.decDigits u)) (vv2 u hu) hZ (P:=fun r w1=>RfAt (fun b=>N b∨w.heap.size+1+1≤b) w1 (.leaf ⟨1,(u:Int),[],[]⟩) r) (fun wz z W a b d f=>?_) fin
  have:=vf9 (N:=N) ⟨1,(u:Int),[],[]⟩ (hzz b f)
  rwa [show j9 (.leaf ⟨1,(u:Int),[],[]⟩)=Lib.decDigits u from Lib.itoa_nonneg u] at this
 ·obtain rfl:=len0 hfew
  exact jj8 (QB:=BS (qL str)) (qq6 (BS str) (by have h:str.length≤200:=hbp.1;rw [qc4];omega)) hZ (fun wz z W a b d f=>vf9 ⟨2,num,str,esc⟩ (hzz b f)) fin
 ·obtain rfl:=len0 hfew
  exact vh0 (.inl rfl) hZ (fun wz z W a b d f=>vf9 ⟨3,num,str,esc⟩ (hzz b f)) fin
 ·obtain rfl:=len0 hfew
  exact vh0 (.inr rfl) hZ (fun wz z W a b d f=>vf9 ⟨4,num,str,esc⟩ (hzz b f)) fin
 ·obtain ⟨x,rfl⟩:=len1 hfew
  obtain ⟨b,cap,g,rfl,hNb,hlt,hx,hc⟩:=hI.one
  have gx:=hnd.gc x (by simp)
  exact rcore_not rfl (Nat.le_refl _) hlt hc hZ (fun wz z W a b d f=>den_at (qx4 x gx.wt (hnd.tb rfl x (by simp)) gx.sz) (hzz b f) (vh1 hx (hbw a f))) fin
 ·obtain ⟨x,y,rfl⟩:=len2 hfew
  obtain ⟨b,cap,g,k,rfl,hlt,hx,hy,hc⟩:=hI.two
  exact rcore_ne rfl (Nat.le_refl _) hlt hc hZ hx hy hN (hnd.gc x (by simp)).big (hnd.gc y (by simp)).big (pair_den (hnd.gc x (by simp)) (hnd.gc y (by simp)))
 ·obtain ⟨x,y,rfl⟩:=len2 hfew
  obtain ⟨b,cap,g,k,rfl,hlt,hx,hy,hc⟩:=hI.two
  exact vj6 rfl (Nat.le_refl _) hlt hc (.inl ⟨rfl,rfl⟩) hZ (fun wz z W a b d f=>vw6 (o:=10) (by simp [qf0]) (hzz b f) (vh1 hy (hbw a f)) (vh1 hx (hbw a f)) (hnd.gc y (by simp)).big (hnd.gc x (by simp)).big) fin
 ·obtain ⟨x,y,rfl⟩:=len2 hfew
  obtain ⟨b,cap,g,k,rfl,hlt,hx,hy,hc⟩:=hI.two
  exact vj6 rfl (Nat.le_refl _) hlt hc (.inr ⟨rfl,rfl⟩) hZ (fun wz z W a b d f=>vw6 (o:=11) (by simp [qf0]) (hzz b f) (vh1 hy (hbw a f)) (vh1 hx (hbw a f)) (hnd.gc y (by simp)).big (hnd.gc x (by simp)).big) fin
 ·obtain ⟨x,rfl⟩:=len1 hfew
  obtain ⟨b,cap,g,rfl,hNb,hlt,hx,hc⟩:=hI.one
  exact vj7 rfl (Nat.le_refl _) hlt hc (.inl ⟨rfl,rfl⟩) hZ (fun wz z W a b d f=>vw6 (o:=16) (by simp [qf0]) (hzz b f) (rf_lt (d.below f)) (vh1 hx (hbw a f)) ⟨by rw [vb1];decide,by decide⟩ (hnd.gc x (by simp)).big) fin
 ·obtain ⟨x,rfl⟩:=len1 hfew
  obtain ⟨b,cap,g,rfl,hNb,hlt,hx,hc⟩:=hI.one
  exact vj7 rfl (Nat.le_refl _) hlt hc (.inr ⟨rfl,rfl⟩) hZ (fun wz z W a b d f=>vw6 (o:=17) (by simp [qf0]) (hzz b f) (rf_lt (d.below f)) (vh1 hx (hbw a f)) ⟨by rw [vb1];decide,by decide⟩ (hnd.gc x (by simp)).big) fin
 ·obtain ⟨x,y,z,rfl⟩:=len3 hfew
  obtain ⟨b,cap,g,k,j,rfl,hlt,hx,hy,hz,hc⟩:=hI.three
  exact vp3 rfl (Nat.le_refl _) hlt hc hZ hx hy hz hN (hnd.gc x (by simp)).big (hnd.gc y (by simp)).big (hnd.gc z (by simp)).big (je9 (by simp [qf0]) (hnd.gc y (by simp)) (hnd.gc x (by simp))) (je9 (by simp [qf0]) (hnd.gc x (by simp)) (hnd.gc z (by simp)))
 ·obtain ⟨x,rfl⟩:=len1 hfew
  obtain ⟨b,cap,g,rfl,hNb,hlt,hx,hc⟩:=hI.one
  exact rcore_in rfl (Nat.le_refl _) hlt hc hZ (fun wz z W a b d f=>in_at (hzz b f) (hbw a f) hx (hnd.gc x (by simp)) (hnd.nm rfl x (by simp)) hts (hnd.tx rfl).1 hbp.2 (hnd.tx rfl).2) fin
 ·obtain ⟨x,rfl⟩:=len1 hfew
  obtain ⟨b,cap,g,rfl,hNb,hlt,hx,hc⟩:=hI.one
  have gx:=hnd.gc x (by simp)
  have h200:str.length≤200:=hbp.1
  have hq1:=qz0 str
  have hq2:=qz0 esc
  have he1:esc.length≤1:=by
   rcases (hbz.like rfl).2 with h|h
   ·have h:esc=[]:=h
    rw [h];decide
   ·have h:esc.length=1:=h.1
    omega
  have hz1:g.text.length≤400000000:=by rw [hx.text];exact gx.big.1
  by_cases he:esc=[]
  ·subst he
   refine jb4 (q:=qL str) rfl (Nat.le_refl _) hlt hc rfl hz1 (by omega) (qq6 (BS str) (by rw [qc4];omega)) hZ (P:=fun r w1=>RfAt (fun b=>N b∨w.heap.size+1+1≤b) w1 (.un ⟨22,num,str,[]⟩ x) r) (fun wz z W a b' d f=>?_) fin
   have:=ja2 (N:=N) (p:=⟨22,num,str,[]⟩) (cap:=cap) (hzz b' f) (hbw a f) hx hNb hlt hc gx.big
   rwa [show j9 (.un ⟨22,num,str,[]⟩ x)=[40]++g.text++[32,76,73,75,69,32]++qL str++[41] by rw [hx.text];show [40]++j9 x++[32,76,73,75,69,32]++qL str++[]++[41]=_;simp] at this
  ·have hE:je2 esc=[32,69,83,67,65,80,69,32]++qL esc:=by
    unfold je2
    cases esc with
    | nil=>exact absurd rfl he
    | cons a b=>rfl
   refine jb5 (q:=qL str) (q':=qL esc) rfl (Nat.le_refl _) hlt hc (by rw [qe0];cases esc with|nil=>exact absurd rfl he|cons a b=>rfl) hz1 (by omega) (by omega) (qq6 (BS str) (by rw [qc4];omega)) (qq6 (BS esc) (by rw [qc4];omega)) hZ (P:=fun r w1=>RfAt (fun b=>N b∨w.heap.size+1+1≤b) w1 (.un ⟨22,num,str,esc⟩ x) r) (fun wz z W a b' d f=>?_) fin
   have:=ja2 (N:=N) (p:=⟨22,num,str,esc⟩) (cap:=cap) (hzz b' f) (hbw a f) hx hNb hlt hc gx.big
   rwa [show j9 (.un ⟨22,num,str,esc⟩ x)=[40]++g.text++[32,76,73,75,69,32]++qL str++[32,69,83,67,65,80,69,32]++qL esc++[41] by rw [hx.text];show [40]++j9 x++[32,76,73,75,69,32]++qL str++je2 esc++[41]=_;rw [hE];simp] at this
 ·obtain ⟨x,rfl⟩:=len1 hfew
  obtain ⟨b,cap,g,rfl,hNb,hlt,hx,hc⟩:=hI.one
  have gx:=hnd.gc x (by simp)
  exact jj7 (T:=j9 (.un ⟨23,num,str,esc⟩ x)) rfl (Nat.le_refl _) hlt hc (by rw [hx.text];exact gx.big.1) (by rw [hx.text];rfl) hZ (fun wz z W a b' d f=>ja2 (N:=N) (p:=⟨23,num,str,esc⟩) (cap:=cap) (hzz b' f) (hbw a f) hx hNb hlt hc gx.big) fin
end
end
section
attribute [local go_sem ↓] qj6
theorem jh9:(Tryz.prog.info? 184).map (fun i=>(i.zero,i.size,i.bytes))=some (some (.agg #[.string ⟨#[]⟩,.string ⟨#[]⟩,.int .i64 0,.slice none 0 0,.slice none 0 0,.slice none 0 0]),6,112):=by kernel_rfl
def RfRow (w:World) (base:Nat) (v:Value) (fs:List RF):Prop:=w.ownsRow base 184 6 v fs.length (fs.flatMap qa3)
theorem RfRow.nil (w:World) (base:Nat):RfRow w base (.slice none 0 0) []:=World.ownsRow_nil _ _ _ _
theorem RfRow.below {w w':World} {base:Nat} {v:Value} {fs:List RF} (h:RfRow w base v fs) (hb:Below w.heap.size w w'):RfRow w' base v fs:=qj7 h hb (Nat.le_refl _)
theorem RfRow.form {w:World} {base:Nat} {v:Value} {fs:List RF} (h:RfRow w base v fs):∃a c,v=.slice a fs.length c:=by
 rcases h.2 with ⟨rfl,h0⟩|⟨g,cap,cur,rfl,_⟩
 ·exact ⟨none,0,by rw [h0]⟩
 ·exact ⟨_,_,rfl⟩
theorem RfRow.all {w:World} {base:Nat} {v:Value} {fs:List RF} (h:RfRow w base v fs) (hn:fs≠[]):∃g cap,v=.slice (some ⟨g,0,none⟩) fs.length cap∧base≤g∧g<w.heap.size∧∀k,k<fs.length * 6→w.cell? ⟨g,k,none⟩=(fs.flatMap qa3)[k]?:=by
 have h':=h
 rcases h.2 with ⟨rfl,h0⟩|⟨g,cap,cur,rfl,hbg,hgg,_⟩
 ·exact absurd (List.eq_nil_of_length_eq_zero h0) hn
 ·exact ⟨g,cap,rfl,hbg,(Array.getElem?_eq_some_iff.1 hgg).1,fun k hk=>World.ownsRow.cellAt h' k hk⟩
theorem RfRow.cell {w:World} {base:Nat} {v:Value} {fs:List RF} (h:RfRow w base v fs) {i:Nat} {f:RF} (hf:fs[i]?=some f):∃g cap,v=.slice (some ⟨g,0,none⟩) fs.length cap∧base≤g∧g<w.heap.size∧∀j,j<6→w.cell? ⟨g,i * 6+j,none⟩=(qa3 f)[j]?:=by
 have hk:=(List.getElem?_eq_some_iff.1 hf).1
 obtain ⟨g,cap,e,h1,h2,h3⟩:=h.all (by intro e;rw [e] at hf;cases hf)
 exact ⟨g,cap,e,h1,h2,fun j hj=>(h3 (i * 6+j) (by omega)).trans (flatN qa3 6 (fun _=>rfl) fs i f hf j hj)⟩
theorem RfRow.app {W:World} {base:Nat} {v:Value} {fs:List RF} (h:RfRow W base v fs) (hb:base≤W.heap.size) (x:RF) (hn:fs.length≤1000) (H:Nat) (hH:W.heap.size=H) :
  ∃g cap w5,(jg0 #[182,182] 182 #[v,.slice (some ⟨H,0,none⟩) 1 1]).run Tryz.prog (W.alloc (.cells #[.string x.op,.string (BS x.text),.int .i64 x.cls,.slice x.pa x.pn x.pc,.slice x.ta x.tn x.tc,.slice x.ra x.rn x.rc] 184))=.ok (.slice (some ⟨g,0,none⟩) (fs.length+1) cap) w5 ∧
   Hid (RfRow w5 base (.slice (some ⟨g,0,none⟩) (fs.length+1) cap) (fs++[x]))∧Hid (Below base W w5)∧Hid (∀b,b<W.heap.size→v.ownBlock≠some b→w5.heap[b]?=W.heap[b]?)∧Hid (v.ownBlock=some g∨W.heap.size<g)∧Hid (W.heap.size≤w5.heap.size):=by
 subst hH
 obtain ⟨i0,hi,hz0,hz1,hz2⟩:=info_parts jh9
 have ha:=World.ownsRow.alloc h (.cells #[.string x.op,.string (BS x.text),.int .i64 x.cls,.slice x.pa x.pn x.pc,.slice x.ta x.tn x.tc,.slice x.ra x.rn x.rc] 184)
 obtain ⟨g,cap,w5,hr,hown,hgrow,hat,_⟩:=run_append_lies (P:=Tryz.prog) (W.alloc (.cells #[.string x.op,.string (BS x.text),.int .i64 x.cls,.slice x.pa x.pn x.pc,.slice x.ta x.tn x.tc,.slice x.ra x.rn x.rc] 184)) 182 182 base 184 i0 _ 6 112 Tryz.underlying182 hi hz0 hz1 hz2 rfl (by omega) v fs.length _ ha
  ⟨W.heap.size,0,none⟩ 1 1 (qa3 x) rfl (World.news_of_block (cs:=#[.string x.op,.string (BS x.text),.int .i64 x.cls,.slice x.pa x.pn x.pc,.slice x.ta x.tn x.tc,.slice x.ra x.rn x.rc]) (t:=184) (fr:=(0,0)) (heap_alloc_new W _)) (by simp [qa3,Value.oneCell']) (by omega) (by unfold maxLen;omega) (by omega) (by simp;omega) _ rfl
 refine ⟨g,cap,w5,hr,j4 ?_,j4 ?_,j4 ?_,j4 ?_,j4 ?_⟩
 ·show World.ownsRow _ _ _ _ _ _ _
  rw [List.length_append,List.length_singleton,List.flatMap_append]
  simpa using hown
 ·exact Go.RowKit.Below.grown (((Below.refl base W).alloc hb _)) hgrow (by simp;omega) (fun k hk=>(ha.lt k hk).1)
 ·intro b hb' hne
  exact (hgrow.block b (by simp;omega) (fun e=>hne e.symm)).trans (((Below.refl W.heap.size W).alloc (Nat.le_refl _) _).block b hb')
 ·rcases hat with h|h
  ·exact .inl h
  ·right;rw [h];simp
 ·have:=hgrow.size;simp at this;omega
structure ClAt (w wr:World) (av:Value) (cs:List Co) (fs:List RF):Prop where
 row:RfRow wr (w.heap.size+1) av fs
 co:CsOf (fun b=>w.heap.size+1≤b∧av.ownBlock≠some b) wr cs fs
 bel:Below (w.heap.size+1) (w.alloc (.cells #[.string ⟨#[]⟩,.string ⟨#[]⟩,.int .i64 0,.slice none 0 0,.slice none 0 0,.slice none 0 0] 184)) wr
section
variable {w wr w':World} {av:Value} {cs:List Co} {fs:List RF}
theorem ClAt.bel0 (h:ClAt w wr av cs fs):Below w.heap.size w wr:=((Below.refl _ _).alloc (Nat.le_refl _) _).trans (h.bel.mono (Nat.le_succ _))
theorem ClAt.size (h:ClAt w wr av cs fs):w.heap.size+1≤wr.heap.size:=by have:=h.bel.size;simpa using this
theorem ClAt.below (h:ClAt w wr av cs fs) (hb:Below wr.heap.size wr w'):ClAt w w' av cs fs:=⟨h.row.below hb,h.co.below hb,h.bel.trans (hb.mono h.size)⟩
theorem ClAt.blk (h:ClAt w wr av cs fs) {b:Nat} (hb:av.ownBlock=some b):b<wr.heap.size:=(h.row.lt b hb).2
theorem ClAt.snoc (h:ClAt w wr av cs fs) {c:Co} {f:RF} {av':Value} {g n cap:Nat} {w5:World} (hf:RfAt (fun b=>w.heap.size+1≤b∧av.ownBlock≠some b) wr c f) (hav:av'=.slice (some ⟨g,0,none⟩) n cap) (h1:RfRow w5 (w.heap.size+1) av' (fs++[f])) (h2:Below (w.heap.size+1) wr w5) (h3:∀b,b<wr.heap.size→av.ownBlock≠some b→w5.heap[b]?=wr.heap[b]?) (h4:av.ownBlock=some g∨wr.heap.size<g) (h5:wr.heap.size≤w5.heap.size):ClAt w w5 av' (cs++[c]) (fs++[f]):=by
 have hN:∀b,(w.heap.size+1≤b∧av.ownBlock≠some b)→b<wr.heap.size→(w.heap.size+1≤b∧av'.ownBlock≠some b):=fun b hb hl=>⟨hb.1,fun e=>by
  rw [hav] at e
  have e:g=b:=by simpa [Value.ownBlock] using e
  subst e
  rcases h4 with h4|h4
  ·exact hb.2 h4
  ·omega⟩
 refine ⟨h1,⟨by simp [h.co.1],fun i d k hd hk=>?_⟩,h.bel.trans h2⟩
 have hlen:=h.co.1
 by_cases hi:i<cs.length
 ·rw [List.getElem?_append_left hi] at hd
  rw [List.getElem?_append_left (by omega)] at hk
  exact (h.co.2 i d k hd hk).keep (fun b hb hl=>h3 b hl hb.2) h5 hN
 ·rw [List.getElem?_append_right (by omega)] at hd
  rw [List.getElem?_append_right (by omega)] at hk
  have e:i=cs.length:=by
   have:=(List.getElem?_eq_some_iff.1 hd).1
   simp at this;omega
  subst e
  rw [Nat.sub_self] at hd
  rw [hlen,Nat.sub_self] at hk
  obtain rfl:c=d:=by simpa using hd
  obtain rfl:f=k:=by simpa using hk
  exact hf.keep (fun b hb hl=>h3 b hl hb.2) h5 hN
end
def rf0:RF:=⟨⟨#[]⟩,[],0,none,0,0,none,0,0,none,0,0⟩
theorem jm1 {w:World} {rb g LN cap:Nat} {ns:List RN} (c0:w.cell? ⟨rb,0,none⟩=some (.slice (some ⟨g,0,none⟩) LN cap)) (hN:NodesAt w rb (.slice (some ⟨g,0,none⟩) LN cap) ns) (hrb:rb<w.heap.size) (hne:0<ns.length) (hlen:ns.length≤1000)
  (hf:∀i n,ns[i]?=some n→∃o,NF i n o) (hg:∀n∈ns,∃p,NG n p) (hst:vx4 [] ns) :
  Calls Tryz.prog 125 #[.pointer (some ⟨rb,0,none⟩)] w (qp5 (fun _=>False) w ((qv2 [] ns).getD (ns.length - 1) nC)):=by
 have hLN:LN=ns.length:=by
  obtain ⟨rs,_,ho,_⟩:=hN
  obtain ⟨_,hx|⟨g',cap',cur,e,_⟩⟩:=ho
  ·cases hx.1
  ·injection e with _ e2 _
 have hgl:g<w.heap.size:=by
  obtain ⟨rs,_,ho,_⟩:=hN
  exact (ho.lt g rfl).2
 obtain ⟨R,hR⟩:∃r,(qv2 [] ns).getD (ns.length - 1) nC=r:=⟨_,rfl⟩
 rw [hR]
 have HR:Hid ((qv2 [] (ns.take LN)).getD (LN - 1) nC=R):=j4 (by rw [hLN,List.take_length];exact hR)
 have HN:=j4 hN
 have HF:=j4 hf
 have HG:=j4 hg
 have HLN:=j4 hLN
 have HST:=j4 hst
 have hpos:0<LN:=by omega
 have h1000:LN≤1000:=by omega
 clear hN hf hg hLN hR hne hlen hst
 go_enter Tryz.func125,Tryz.ntmps125
 go_wp2_with fail
 go_loopw [3,4] (fun av i wr=>∃k:Nat,k≤LN∧i=.int .i64 k∧∃fs,Hid (ClAt w wr av (qv2 [] (ns.take k)) fs)) (fun _ i _=>LN - (intOf i).toNat)
 case atStart=>exact ⟨0,Nat.zero_le _,rfl,[],j4 ⟨RfRow.nil _ _,⟨rfl,fun i c f h=>by simp [qv2] at h⟩,Below.refl _ _⟩⟩
 case round=>
  obtain ⟨k,hk,rfl,fs,HL⟩:=hrel
  obtain ⟨cs,hcs⟩:∃cs,qv2 [] (ns.take k)=cs:=⟨_,rfl⟩
  rw [hcs] at HL
  have hvl:fs.length=k:=by rw [(q9 HL).co.1,←hcs,runK_len];have:=q9 HLN;simp;omega
  have HVS:=j4 hcs
  have HVL:=j4 hvl
  have hB0:=(q9 HL).bel0
  have hzr:=(q9 HL).size
  have d0:wr.cell? ⟨rb,0,none⟩=some (.slice (some ⟨g,0,none⟩) LN cap):=((qa9 hB0).1 _ 0 hrb).trans c0
  have hrl:rb<wr.heap.size:=by omega
  by_cases hlt:k<LN
  ·obtain ⟨n,hn⟩:∃n,ns[k]?=some n:=⟨_,List.getElem?_eq_getElem (by have:=q9 HLN;omega)⟩
   obtain ⟨o,hfo⟩:=q9 HF k n hn
   have hins:=hfo.ins
   have hfew:=hfo.few
   have hnd0:=stOk_at (q9 HST) hn hcs
   obtain ⟨p,⟨ins,neg,c,rfl,har⟩,ho0,ho23,hnum,hbp,hbz⟩:=q9 HG n (List.mem_of_getElem? hn)
   have hpay:jj0 { qj5 p ins neg with cls:=c }=p:=vn8 (ins:=ins) (neg:=neg) ho0 ho23
   obtain ⟨xs,hxs⟩:∃xs,ins.map (fun q=>cs.getD q nC)=xs:=⟨_,rfl⟩
   have hnd:NdC p neg xs:=by
    rw [hpay] at hnd0
    have e:argC cs { qj5 p ins neg with cls:=c }=xs:=hxs
    rw [e] at hnd0
    exact hnd0
   have hNr:=(q9 HN).below hrb hB0
   obtain ⟨hLN2,iv,lv,hiv',hlv',hc9⟩:=hNr.cells hn
   have hiv:RowOf wr rb 3 iv (qy3 ins):=hiv'
   have hlv:RowOf wr rb 9 lv (qa0 p.texts):=hlv'
   have hins:∀q∈ins,q<k:=hins
   clear hLN2 hiv' hlv' hnd0
   have e0:wr.cell? ⟨g,k * 9,none⟩=some (.string (BS (qb9 p.op))):=by have:=hc9 0 (by omega);rw [Nat.add_zero] at this;exact this
   have e1:wr.cell? ⟨g,k * 9+1,none⟩=some (.int .i64 p.place):=hc9 1 (by omega)
   have e2:wr.cell? ⟨g,k * 9+2,none⟩=some iv:=hc9 2 (by omega)
   have e3:wr.cell? ⟨g,k * 9+3,none⟩=some (.string (BS p.str)):=hc9 3 (by omega)
   have e4:wr.cell? ⟨g,k * 9+4,none⟩=some (.string (BS p.esc)):=hc9 4 (by omega)
   have e5:wr.cell? ⟨g,k * 9+5,none⟩=some lv:=hc9 5 (by omega)
   have e6:wr.cell? ⟨g,k * 9+6,none⟩=some (.int .i64 p.num):=hc9 6 (by omega)
   have e7:wr.cell? ⟨g,k * 9+7,none⟩=some (.bool neg):=hc9 7 (by omega)
   have e8:wr.cell? ⟨g,k * 9+8,none⟩=some (.int .i64 c):=hc9 8 (by omega)
   have HTX:=j4 hlv.txt
   obtain ⟨ia,ic,rfl,hnu⟩:=hiv.nums
   obtain ⟨la,lc,rfl,_⟩:=hlv.txt
   obtain ⟨ys,hys⟩:∃ys,ins.map (fun q=>fs.getD q rf0)=ys:=⟨_,rfl⟩
   have hyl:ys.length=ins.length:=by rw [←hys,List.length_map]
   obtain ⟨aa,ac,rfl⟩:=(q9 HL).row.form
   have HCY:Hid (CsOf (fun b=>w.heap.size+1≤b∧(Value.slice aa fs.length ac).ownBlock≠some b) wr xs ys):=j4 ⟨by rw [←hxs,←hys];simp,fun i x y hx hy=>by
    rw [←hxs,List.getElem?_map] at hx
    rw [←hys,List.getElem?_map] at hy
    cases hq:ins[i]? with
    | none=>rw [hq] at hx;cases hx
    | some q=>
     rw [hq] at hx hy
     have hqk:=hins q (List.mem_of_getElem? hq)
     have hl2:=(q9 HL).co.1
     simp only [Option.map_some] at hx hy
     injection hx with hx
     injection hy with hy
     rw [List.getD_eq_getElem?_getD,List.getElem?_eq_getElem (by omega)] at hx hy
     exact (q9 HL).co.2 q x y (by rw [←hx,List.getElem?_eq_getElem (by omega)];rfl) (by rw [←hy,List.getElem?_eq_getElem (by omega)];rfl)⟩
   have hxl:xs.length=ins.length:=by rw [←hxs,List.length_map]
   obtain ⟨r,hr⟩:∃r,qu1 p xs=r:=⟨_,rfl⟩
   have RV:Hid (∀(N:Nat→Prop) (W:World) (inv:Value),CsIn N W inv xs→(∀b,N b→b<W.heap.size)→TxtAt W (.slice la p.texts.length lc) p.texts→Calls Tryz.prog 178 #[.agg #[.string (BS (qb9 p.op)),.int .i64 p.place,.slice ia ins.length ic,.string (BS p.str),.string (BS p.esc),.slice la p.texts.length lc,.int .i64 p.num,.bool neg,.int .i64 c],inv] W fun e w'=>Below W.heap.size W w'∧∃q:RF,e=.returned (.agg #[.string q.op,.string (BS q.text),.int .i64 q.cls,.slice q.pa q.pn q.pc,.slice q.ta q.tn q.tc,.slice q.ra q.rn q.rc])∧RfAt (fun b=>N b∨W.heap.size≤b) w' r q):=j4 fun N W inv h1 h2 h3=>by
    rw [←hr]
    exact rcore_any h1 h2 h3 ho0 ho23 hnd hnum hbp hbz
   have RN:Hid (neg=true→∀(N:Nat→Prop) (W:World) (f:RF),RfAt N W r f→(∀b,N b→b<W.heap.size)→Calls Tryz.prog 179 #[.agg #[.string f.op,.string (BS f.text),.int .i64 f.cls,.slice f.pa f.pn f.pc,.slice f.ta f.tn f.tc,.slice f.ra f.rn f.rc]] W fun e w'=>Below W.heap.size W w'∧∃q:RF,e=.returned (.agg #[.string q.op,.string (BS q.text),.int .i64 q.cls,.slice q.pa q.pn q.pc,.slice q.ta q.tn q.tc,.slice q.ra q.rn q.rc])∧RfAt (fun b=>N b∨W.heap.size≤b) w' (qe3 r) q):=j4 fun h N W f h1 h2=>by
    rw [←hr] at h1 ⊢
    exact qx4 _ hnd.all.wt (hnd.no h) hnd.all.sz N W f h1 h2
   have HST2:Hid (qv2 [] (ns.take (k+1))=cs++[if neg=true then qe3 r else r]):=j4 (by
    rw [runK_take hn (q9 HVS)]
    congr 2
    unfold vn2
    rw [hpay,show argC cs { qj5 p ins neg with cls:=c }=xs from hxs,hr]
    rfl)
   have HYS:=j4 hys
   have HYL:=j4 hyl
   have HXL:=j4 hxl
   have HINS:Hid (∀q∈ins,q<k):=j4 hins
   have h3:ins.length≤3:=hfew
   obtain ⟨lI,hlI⟩:∃x,ins.length=x:=⟨_,rfl⟩
   have HLI:=j4 hlI
   obtain ⟨lT,hlT⟩:∃x,p.texts.length=x:=⟨_,rfl⟩
   rw [hlI] at e2 RV h3
   rw [hlT] at e5 RV HTX
   have HNU2:=j4 hnu
   have hk0:(0:Int)≤(k:Int):=by omega
   have hk1:(k:Int)<(LN:Int):=by omega
   have ng:¬g=wr.heap.size:=by have:=hB0.size;omega
   have nr:¬rb=wr.heap.size:=by omega
   have hgr:g<wr.heap.size:=by have:=hB0.size;omega
   obtain ⟨W,hW⟩:∃W:World,W=wr.alloc (.cells #[.string (BS (qb9 p.op)),.int .i64 p.place,.slice ia lI ic,.string (BS p.str),.string (BS p.esc),.slice la lT lc,.int .i64 p.num,.bool neg,.int .i64 c] 241):=⟨_,rfl⟩
   have hWb:Below wr.heap.size wr W:=hW ▸ (Below.refl _ _).alloc (Nat.le_refl _) _
   have hcp:∀k,W.cell? ⟨wr.heap.size,k,none⟩=#[.string (BS (qb9 p.op)),.int .i64 p.place,.slice ia lI ic,.string (BS p.str),.string (BS p.esc),.slice la lT lc,.int .i64 p.num,.bool neg,.int .i64 c][k]?:=fun k=>by rw [hW,World.cell?_alloc_at _ _ _ _ (by simp)]
   have hWz:W.heap.size=wr.heap.size+1:=by rw [hW];simp
   have HW:=j4 hW
   have HWB:=j4 hWb
   have HWz:=j4 hWz
   have HCP:=j4 hcp
   rw [hvl] at HL HCY ⊢
   clear hn hfo hins hfew har ho0 ho23 hnum hbp hbz hNr hiv hlv hc9 hnu hxs hys hxl hyl hr hlI hlT hW hWb hcp hWz hcs hvl hB0 HVS hpay hnd
   go_wp2_with fail
   rw [←q9 HW]
   clear e0 e1 e2 e3 e4 e5 e6 e7 e8
   obtain ⟨wo,rfl⟩:∃wo:World,wo=wr:=⟨_,rfl⟩
   go_loopw [6,7] (fun nv j wq=>∃m:Nat,m≤lI∧j=.int .i64 m∧Hid (RfRow wq W.heap.size nv (ys.take m))∧Hid (Below W.heap.size W wq)) (fun _ j _=>lI - (intOf j).toNat)
   case atStart=>exact ⟨0,Nat.zero_le _,rfl,j4 (RfRow.nil _ _),j4 (Below.refl _ _)⟩
   case round=>
    obtain ⟨m,hm,rfl,HX,BM⟩:=hrel
    obtain ⟨hcb,hfb⟩:=qa9 (q9 BM)
    have hzq:=(q9 BM).size
    have hWz:=q9 HWz
    have HBW:=j4 (j6 (q9 HWB) (q9 BM))
    have f0:wr.cell? ⟨wo.heap.size,0,none⟩=some (.string (BS (qb9 p.op))):=(hcb _ 0 (by omega)).trans (q9 HCP 0)
    have f1:wr.cell? ⟨wo.heap.size,1,none⟩=some (.int .i64 p.place):=(hcb _ 1 (by omega)).trans (q9 HCP 1)
    have f2:wr.cell? ⟨wo.heap.size,2,none⟩=some (.slice ia lI ic):=(hcb _ 2 (by omega)).trans (q9 HCP 2)
    have f3:wr.cell? ⟨wo.heap.size,3,none⟩=some (.string (BS p.str)):=(hcb _ 3 (by omega)).trans (q9 HCP 3)
    have f4:wr.cell? ⟨wo.heap.size,4,none⟩=some (.string (BS p.esc)):=(hcb _ 4 (by omega)).trans (q9 HCP 4)
    have f5:wr.cell? ⟨wo.heap.size,5,none⟩=some (.slice la lT lc):=(hcb _ 5 (by omega)).trans (q9 HCP 5)
    have f6:wr.cell? ⟨wo.heap.size,6,none⟩=some (.int .i64 p.num):=(hcb _ 6 (by omega)).trans (q9 HCP 6)
    have f7:wr.cell? ⟨wo.heap.size,7,none⟩=some (.bool neg):=(hcb _ 7 (by omega)).trans (q9 HCP 7)
    have f8:wr.cell? ⟨wo.heap.size,8,none⟩=some (.int .i64 c):=(hcb _ 8 (by omega)).trans (q9 HCP 8)
    clear hcb hfb
    by_cases hml:m<lI
    ·obtain ⟨q,hq⟩:∃q,ins[m]?=some q:=⟨_,List.getElem?_eq_getElem (by have:=q9 HLI;omega)⟩
     have hqk:q<k:=q9 HINS q (List.mem_of_getElem? hq)
     obtain ⟨lb,rfl,hlb,hlc⟩:=q9 HNU2 m q hq
     have hql:wr.cell? ⟨lb,m,none⟩=some (.int .i64 (q:Int)):=((q9 HBW).cell (p:=⟨lb,m,none⟩) hlb).trans hlc
     obtain ⟨y,hy⟩:∃y,fs[q]?=some y:=⟨_,List.getElem?_eq_getElem (by have:=q9 HVL;omega)⟩
     obtain ⟨ab,ac2,hae,_,hab,hac⟩:=(q9 HL).row.cell hy
     injection hae with hae hae2 hae3
     subst hae hae3
     have a0:wr.cell? ⟨ab,q * 6,none⟩=some (.string y.op):=((q9 HBW).cell (p:=⟨ab,q * 6,none⟩) hab).trans (hac 0 (by omega))
     have a1:wr.cell? ⟨ab,q * 6+1,none⟩=some (.string (BS y.text)):=((q9 HBW).cell (p:=⟨ab,q * 6+1,none⟩) hab).trans (hac 1 (by omega))
     have a2:wr.cell? ⟨ab,q * 6+2,none⟩=some (.int .i64 y.cls):=((q9 HBW).cell (p:=⟨ab,q * 6+2,none⟩) hab).trans (hac 2 (by omega))
     have a3:wr.cell? ⟨ab,q * 6+3,none⟩=some (.slice y.pa y.pn y.pc):=((q9 HBW).cell (p:=⟨ab,q * 6+3,none⟩) hab).trans (hac 3 (by omega))
     have a4:wr.cell? ⟨ab,q * 6+4,none⟩=some (.slice y.ta y.tn y.tc):=((q9 HBW).cell (p:=⟨ab,q * 6+4,none⟩) hab).trans (hac 4 (by omega))
     have a5:wr.cell? ⟨ab,q * 6+5,none⟩=some (.slice y.ra y.rn y.rc):=((q9 HBW).cell (p:=⟨ab,q * 6+5,none⟩) hab).trans (hac 5 (by omega))
     have hxm:ys[m]?=some y:=by rw [←q9 HYS,List.getElem?_map,hq,Option.map_some,List.getD_eq_getElem?_getD,hy];rfl
     have hxt:(ys.take m).length=m:=by rw [List.length_take,q9 HYL];have:=q9 HLI;omega
     obtain ⟨g5,cap5,w5,hap,HV5,HB5,_⟩:=(q9 HX).app (by omega) y (by omega) wr.heap.size rfl
     rw [show ys.take m++[y]=ys.take (m+1) by rw [List.take_add_one,hxm];rfl,hxt] at HV5
     rw [hxt] at hap
     obtain ⟨na,nc,rfl⟩:=(q9 HX).form
     rw [hxt] at hap ⊢
     have hm0:(0:Int)≤(m:Int):=by omega
     have hm1:(m:Int)<(lI:Int):=by omega
     have hq1:(0:Int)≤(q:Int):=by omega
     have hq2:(q:Int)<(k:Int):=by omega
     clear hq hlc hac hy hxm hxt HX f0 f1 f3 f4 f5 f6 f7 f8 hae2
     go_wp2_with fail
     go_roundw
     case rel=>exact ⟨m+1,by omega,by go_num,HV5,j4 ((q9 BM).trans (q9 HB5))⟩
     case measure=>simp [intOf];omega
    ·have hme:m=lI:=by omega
     have hxe:ys.take m=ys:=List.take_of_length_le (by have:=q9 HYL;have:=q9 HLI;omega)
     rw [hxe] at HX
     have hxlen:ys.length=lI:=by have:=q9 HYL;have:=q9 HLI;omega
     have HLW:=j4 ((q9 HL).below (q9 HBW))
     have hob:∀b,(Value.slice aa k ac).ownBlock=some b→b<wo.heap.size:=fun b h=>(q9 HL).blk h
     have HNI:Hid (∀b,wo.heap.size<b→(Value.slice aa k ac).ownBlock≠some b):=j4 fun b h e=>by have:=hob b e;omega
     obtain ⟨na,nc,rfl⟩:=(q9 HX).form
     have HCI:Hid (CsIn (fun b=>(w.heap.size+1≤b∧(Value.slice aa k ac).ownBlock≠some b)∧b<wr.heap.size) wr (.slice na ys.length nc) xs):=j4 (by
      refine ⟨ys,((q9 HCY).below (q9 HBW)).keep (fun _ h hl=>⟨h,hl⟩), ?_⟩
      by_cases hx0:xs=[]
      ·exact .inl hx0
      ·right
       have hy0:ys≠[]:=fun e=>hx0 (List.eq_nil_of_length_eq_zero (by have:=q9 HXL;have:=q9 HYL;rw [e] at this;simp at this;omega))
       obtain ⟨gb,gc,e,h1,h2,h3⟩:=(q9 HX).all hy0
       have hl2:ys.length=xs.length:=by have:=q9 HXL;have:=q9 HYL;omega
       exact ⟨gb,gc,by rw [e,hl2],⟨⟨by omega,q9 HNI gb (by omega)⟩,h2⟩,h2,fun j hj=>h3 j (by omega)⟩)
     rw [hxlen] at HCI HX ⊢
     have TX2:=j4 ((q9 HTX).below (q9 HBW))
     have hmn:¬(m:Int)<(lI:Int):=by omega
     have hzo:wo.heap.size<wr.heap.size:=by omega
     have hvk:=q9 HVL
     have hz0:w.heap.size+1≤wr.heap.size:=by omega
     have HRV:=j4 (q9 RV _ wr _ (q9 HCI) (fun b h=>h.2) (q9 TX2))
     clear hxe hme hxlen HX BM HWB HL hob RV HCI TX2 HCY
     cases neg with
     | false=>
      go_wp2_with (go_at_call 178;refine (q9 HRV).mono ?_;rintro e w2 ⟨hb2,rf,rfl,hrf⟩;have hz2:=hb2.size;obtain ⟨hc2,hf2⟩:=qa9 hb2;have k7:=(hc2 _ 7 hzo).trans f7;have hzo2:wo.heap.size<w2.heap.size:=(by omega);have HL3:=j4 ((q9 HLW).below (hb2.alloc hb2.size (.cells #[.string rf.op,.string (BS rf.text),.int .i64 rf.cls,.slice rf.pa rf.pn rf.pc,.slice rf.ta rf.tn rf.tc,.slice rf.ra rf.rn rf.rc] 184)));have HRF:=j4 ((hrf.keep (N':=fun b=>w.heap.size+1≤b∧(Value.slice aa k ac).ownBlock≠some b) (fun _ _ _=>rfl) (Nat.le_refl _) (fun b h _=>(by rcases h with h|h;exact h.1;exact ⟨(by omega),q9 HNI b (by omega)⟩))).below ((Below.refl w2.heap.size w2).alloc (Nat.le_refl _) (.cells #[.string rf.op,.string (BS rf.text),.int .i64 rf.cls,.slice rf.pa rf.pn rf.pc,.slice rf.ta rf.tn rf.tc,.slice rf.ra rf.rn rf.rc] 184)));obtain ⟨g5,cap5,w5,hap,HV5,HB5,HK5,HA5,HZ5⟩:=(q9 HL3).row.app (by simp;omega) rf (by omega) (w2.heap.size+1) (by simp);rw [hvk] at hap HV5;clear hb2 hc2 hf2 hrf)
      go_roundw
      case rel=>exact ⟨k+1,by omega,by go_num,_,j4 (by rw [q9 HST2];exact (q9 HL3).snoc (q9 HRF) rfl (q9 HV5) (q9 HB5) (q9 HK5) (q9 HA5) (q9 HZ5))⟩
      case measure=>simp [intOf];omega
     | true=>
      have HRN:=j4 (q9 RN rfl)
      go_wp2_with (first|(go_at_call 179;have _q:=HB2;refine (q9 HRN (fun b=>(w.heap.size+1≤b∧(Value.slice aa k ac).ownBlock≠some b∧b≠w2.heap.size)∧b<w2.heap.size+1) (w2.alloc (.cells #[.string rf.op,.string (BS rf.text),.int .i64 rf.cls,.slice rf.pa rf.pn rf.pc,.slice rf.ta rf.tn rf.tc,.slice rf.ra rf.rn rf.rc] 184)) rf (q9 HRF) (fun b h=>(by have:=h.2;simp;omega))).mono ?_;rintro e w3 ⟨hb3,rg,rfl,hrg⟩;obtain ⟨hc3,hf3⟩:=qa9 hb3;have hz3:w2.heap.size+1≤w3.heap.size:=(by have:=hb3.size;simp at this;omega);have v0:w3.cell? ⟨w2.heap.size,0,none⟩=some (.string rf.op):=(hc3 _ 0 (by simp)).trans (by simp);have v1:w3.cell? ⟨w2.heap.size,1,none⟩=some (.string (BS rf.text)):=(hc3 _ 1 (by simp)).trans (by simp);have v2:w3.cell? ⟨w2.heap.size,2,none⟩=some (.int .i64 rf.cls):=(hc3 _ 2 (by simp)).trans (by simp);have v3:w3.cell? ⟨w2.heap.size,3,none⟩=some (.slice rf.pa rf.pn rf.pc):=(hc3 _ 3 (by simp)).trans (by simp);have v4:w3.cell? ⟨w2.heap.size,4,none⟩=some (.slice rf.ta rf.tn rf.tc):=(hc3 _ 4 (by simp)).trans (by simp);have v5:w3.cell? ⟨w2.heap.size,5,none⟩=some (.slice rf.ra rf.rn rf.rc):=(hc3 _ 5 (by simp)).trans (by simp);have vz:∀i,w3.frozen? ⟨w2.heap.size,i,none⟩=false:=(fun i=>(hf3 _ i (by simp)).trans (by simp));have hs6:=qj0 w3 w2.heap.size (.string rg.op) (.string (BS rg.text)) (.int .i64 rg.cls) (.slice rg.pa rg.pn rg.pc) (.slice rg.ta rg.tn rg.tc) (.slice rg.ra rg.rn rg.rc);have HL3:=j4 ((q9 HLW).below (hs6.bel _ _ hz2 (j6 (q9 HB2) hb3)));have HRG:=j4 (hs6.rf (N':=fun b=>w.heap.size+1≤b∧(Value.slice aa k ac).ownBlock≠some b) hrg (by rintro (h|h);exact h.1.2.2 rfl;simp at h;omega) (fun b h _=>(by rcases h with h|h;exact ⟨h.1.1,h.1.2.1⟩;simp at h;exact ⟨(by omega),q9 HNI b (by omega)⟩)));obtain ⟨g5,cap5,w5,hap,HV5,HB5,HK5,HA5,HZ5⟩:=(q9 HL3).row.app (by rw [hs6.size];omega) rg (by omega) w3.heap.size hs6.size;rw [hvk] at hap HV5;clear hb3 hc3 hf3 hrg hs6)|(go_at_call 178;refine (q9 HRV).mono ?_;rintro e w2 ⟨hb2,rf,rfl,hrf⟩;have hz2:=hb2.size;obtain ⟨hc2,hf2⟩:=qa9 hb2;have k7:=(hc2 _ 7 hzo).trans f7;have hzo2:wo.heap.size<w2.heap.size:=(by omega);have HB2:=j4 (hb2.alloc hb2.size (.cells #[.string rf.op,.string (BS rf.text),.int .i64 rf.cls,.slice rf.pa rf.pn rf.pc,.slice rf.ta rf.tn rf.tc,.slice rf.ra rf.rn rf.rc] 184));have HRF:=j4 ((hrf.keep (N':=fun b=>(w.heap.size+1≤b∧(Value.slice aa k ac).ownBlock≠some b∧b≠w2.heap.size)∧b<w2.heap.size+1) (fun _ _ _=>rfl) (Nat.le_refl _) (fun b h hl=>(by rcases h with h|h;exact ⟨⟨h.1.1,h.1.2,by omega⟩,by omega⟩;exact ⟨⟨by omega,q9 HNI b (by omega),by omega⟩,by omega⟩))).below ((Below.refl w2.heap.size w2).alloc (Nat.le_refl _) (.cells #[.string rf.op,.string (BS rf.text),.int .i64 rf.cls,.slice rf.pa rf.pn rf.pc,.slice rf.ta rf.tn rf.tc,.slice rf.ra rf.rn rf.rc] 184)));clear hb2 hc2 hf2 hrf))
      go_roundw
      case rel=>exact ⟨k+1,by omega,by go_num,_,j4 (by rw [q9 HST2,if_pos trivial];exact (q9 HL3).snoc (q9 HRG) rfl (q9 HV5) (q9 HB5) (q9 HK5) (q9 HA5) (q9 HZ5))⟩
      case measure=>simp [intOf];omega
  ·have hke:k=LN:=by omega
   subst hke
   obtain ⟨y,hy⟩:∃y,fs[k - 1]?=some y:=⟨_,List.getElem?_eq_getElem (by omega)⟩
   obtain ⟨ab,ac2,rfl,_,hab,hac⟩:=(q9 HL).row.cell hy
   have HRY:Hid (RfAt (fun b=>w.heap.size+1≤b∧(Value.slice (some ⟨ab,0,none⟩) fs.length ac2).ownBlock≠some b) wr R y):=j4 ((q9 HL).co.2 (k - 1) R y (by
    have hcl:cs.length=k:=by have:=(q9 HL).co.1;omega
    rw [←q9 HR,q9 HVS,List.getD_eq_getElem?_getD,List.getElem?_eq_getElem (by omega)];rfl) hy)
   obtain ⟨k',rfl⟩:∃k',k=k'+1:=⟨k - 1,by omega⟩
   rw [show k'+1 - 1=k' by omega] at hac
   have y0:wr.cell? ⟨ab,k' * 6,none⟩=some (.string y.op):=hac 0 (by omega)
   have y1:wr.cell? ⟨ab,k' * 6+1,none⟩=some (.string (BS y.text)):=hac 1 (by omega)
   have y2:wr.cell? ⟨ab,k' * 6+2,none⟩=some (.int .i64 y.cls):=hac 2 (by omega)
   have y3:wr.cell? ⟨ab,k' * 6+3,none⟩=some (.slice y.pa y.pn y.pc):=hac 3 (by omega)
   have y4:wr.cell? ⟨ab,k' * 6+4,none⟩=some (.slice y.ta y.tn y.tc):=hac 4 (by omega)
   have y5:wr.cell? ⟨ab,k' * 6+5,none⟩=some (.slice y.ra y.rn y.rc):=hac 5 (by omega)
   have r0:wr.cell? ⟨w.heap.size,0,none⟩=some (.string ⟨#[]⟩):=((q9 HL).bel.cell (p:=⟨w.heap.size,0,none⟩) (Nat.lt_succ_self _)).trans (by simp)
   have r1:wr.cell? ⟨w.heap.size,1,none⟩=some (.string ⟨#[]⟩):=((q9 HL).bel.cell (p:=⟨w.heap.size,1,none⟩) (Nat.lt_succ_self _)).trans (by simp)
   have r2:wr.cell? ⟨w.heap.size,2,none⟩=some (.int .i64 0):=((q9 HL).bel.cell (p:=⟨w.heap.size,2,none⟩) (Nat.lt_succ_self _)).trans (by simp)
   have r3:wr.cell? ⟨w.heap.size,3,none⟩=some (.slice none 0 0):=((q9 HL).bel.cell (p:=⟨w.heap.size,3,none⟩) (Nat.lt_succ_self _)).trans (by simp)
   have r4:wr.cell? ⟨w.heap.size,4,none⟩=some (.slice none 0 0):=((q9 HL).bel.cell (p:=⟨w.heap.size,4,none⟩) (Nat.lt_succ_self _)).trans (by simp)
   have r5:wr.cell? ⟨w.heap.size,5,none⟩=some (.slice none 0 0):=((q9 HL).bel.cell (p:=⟨w.heap.size,5,none⟩) (Nat.lt_succ_self _)).trans (by simp)
   have rz:∀i,wr.frozen? ⟨w.heap.size,i,none⟩=false:=fun i=>((q9 HL).bel.frozen (p:=⟨w.heap.size,i,none⟩) (Nat.lt_succ_self _)).trans (by simp)
   rw [hvl]
   rw [hvl] at HRY
   have HBZ:=j4 hB0
   have hk1:(k':Int)+1 - 1=(k':Int):=by omega
   clear hy hac hcs HVS hB0 HL
   go_wp2_with fail
   refine bodyPost_ret (by simp [results,Tryz.results125,go_sem,r0,r1,r2,r3,r4,r5]<;>rfl) rfl ?_
   have hs6:=qj0 wr w.heap.size (.string y.op) (.string (BS y.text)) (.int .i64 y.cls) (.slice y.pa y.pn y.pc) (.slice y.ta y.tn y.tc) (.slice y.ra y.rn y.rc)
   exact ⟨hs6.bel _ _ (Nat.le_refl _) (q9 HBZ),y,rfl,hs6.rf (q9 HRY) (fun h=>absurd h.1 (by omega)) (fun b h _=>.inr (by have:=h.1;omega))⟩
end
section
theorem vy4 {s:ByteArray} {t:Ast} (h:qn2 s=.ok t):∃c,qa4 t=.ok c:=by
 unfold qn2 at h
 by_cases hs:s.size≤200
 ·rw [if_pos hs] at h
  cases he:(lvl s 12).E (j3 s st0) with
  | err en pl=>rw [he] at h;cases h
  | ok t1 st=>
   rw [he] at h
   change vx2 t1 st=_ at h
   unfold vx2 at h
   split at h
   ·split at h
    ·rename_i hk
     injection h with h
     subst h
     cases hc:qa4 t1 with
     | err q=>rw [hc] at hk;cases hk
     | ok c=>exact ⟨c,rfl⟩
    ·cases h
   ·cases h
 ·rw [if_neg hs] at h;cases h
theorem gcA_read {s:ByteArray} {t:Ast} (h:qn2 s=.ok t):GcA t:=by
 obtain ⟨hg,hn,hs,hm,hb,hq⟩:=vj1 h
 obtain ⟨k,hc⟩:=vy4 h
 exact gcA_every t hg hn hs hb hm hq k hc
theorem jm4 {s:ByteArray} {t:Ast} (hrd:qn2 s=.ok t) {w:World} {rb g LN cap:Nat} {ns:List RN} {cs:List Int} (hfl:Flat t 0 ns) (hsh:ShA t) (h200:ns.length≤200) (c0:w.cell? ⟨rb,0,none⟩=some (.slice (some ⟨g,0,none⟩) LN cap)) (hN:NodesAt w rb (.slice (some ⟨g,0,none⟩) LN cap) (qq8 ns cs)) (hrb:rb<w.heap.size) :
  Calls Tryz.prog 125 #[.pointer (some ⟨rb,0,none⟩)] w (qp5 (fun _=>False) w (j7 t)):=by
 have hl:(qq8 ns cs).length=ns.length:=vx0 _ _
 have hpos:=hfl.pos
 have hgood:=read_good hrd
 obtain ⟨ds,h1,h2,h3,h4⟩:=core_flat hfl hsh (gcA_read hrd) [] rfl
 have key:=jm1 c0 hN hrb (by omega) (by omega) (fun i n hn=>by
   rw [qt2] at hn
   cases hm:ns[i]? with
   | none=>rw [hm] at hn;cases hn
   | some m=>
    rw [hm] at hn
    simp only [Option.map_some] at hn
    injection hn with hn
    obtain ⟨o,a,b,c,d,e,f⟩:=ja6 hfl hsh i m hm
    rw [Nat.zero_add] at d
    subst hn
    exact ⟨o,a,b,c,d,e,f⟩) (ng_withC (ng_flat hfl hsh hgood.1 hgood.2 (jg6 hrd))) ((jf2 ns cs).2 h4)
 have hv:(qv2 [] (qq8 ns cs)).getD ((qq8 ns cs).length - 1) nC=j7 t:=by
  rw [(jf2 ns cs).1,hl,h1,List.nil_append]
  exact h3
 rw [hv] at key
 exact key
theorem jj5 (s:ByteArray) (hs:s.size≤140737488355328) (w:World):Calls Tryz.prog 79 #[.string s] w (ve9 w (qn2 s)):=by
 have RD:=j4 (rread_any s hs w)
 cases hrd:qn2 s with
 | ok t=>
  rw [hrd] at RD
  have CO:Hid (∀(W W':World) (rb:Nat),W.heap.size=rb→qp0 W (.ok t) (.returned (.tuple #[.pointer (some ⟨rb,0,none⟩),.int .i64 0,.int .i64 0])) W'→Calls Tryz.prog 125 #[.pointer (some ⟨rb,0,none⟩)] W' fun e w'=>Below W'.heap.size W' w'∧∃r:RF,e=.returned (.agg #[.string r.op,.string (BS (j9 (j7 t))),.int .i64 r.cls,.slice r.pa r.pn r.pc,.slice r.ta r.tn r.tc,.slice r.ra r.rn r.rc])):=j4 (by
   rintro W W' _ rfl ⟨_,_,hlt,ns,cs,g,LN,cap,hfl,hsh,h200,c0,hN⟩
   refine (jm4 hrd hfl hsh h200 c0 hN hlt).mono ?_
   rintro e w' ⟨h1,r,rfl,h2⟩
   refine ⟨h1,r, ?_⟩
   rw [←h2.text]
   rfl)
  obtain ⟨S,hS⟩:∃S,j9 (j7 t)=S:=⟨_,rfl⟩
  unfold ve9
  simp only
  rw [hS] at CO ⊢
  clear hrd hS
  go_enter Tryz.func79,Tryz.ntmps79
  go_wp2_with (first|(go_at_call 125;refine (q9 CO _ _ _ rfl (q9 N2)).mono ?_;rintro e w3 ⟨hb3,r,rfl⟩;have B3:=j4 (j6 (q9 B2) hb3);clear hb3)|(go_at_call 123;refine (q9 RD).mono ?_;rintro e w2 hr2;have N2:=j4 hr2;have B2:=j4 hr2.1;obtain ⟨_,rfl,_⟩:=hr2))
  refine bodyPost_ret (by simp [results,Tryz.results79,go_sem]<;>rfl) rfl ?_
  exact ⟨(q9 B3).alloc (q9 B3).size _,rfl⟩
 | err en pl=>
  rw [hrd] at RD
  have he:=vc4 hrd
  have hd:(en != 0)=true:=by simp;omega
  unfold ve9
  simp only
  clear hrd he
  go_enter Tryz.func79,Tryz.ntmps79
  go_wp2_with (go_at_call 123;refine (q9 RD).mono ?_;rintro e w2 ⟨hb2,rfl⟩;have B2:=j4 hb2;clear hb2)
  refine bodyPost_ret (by simp [results,Tryz.results79,go_sem]<;>rfl) rfl ?_
  exact ⟨q9 B2,rfl⟩
end
section
theorem vy2 {w:World} {x:Ox} (hx:OxOk w x) (hL:LibOk w):Calls Tryz.prog 46 #[oxV x] w fun e w'=>e=.returned (.bool true)∧Below w.heap.size w w':=by
 obtain ⟨kind,nn,id,text,la,lc,ts,ev,ps⟩:=x
 have htx:(BS text).size≤140737488355328:=hx.text
 obtain ⟨ea,en,ec,hev⟩:=hx.ev.slice
 have hev:ev=.slice ea en ec:=hev
 subst hev
 have hT:∃S er pl,∀(W:World) (e:Ending) (w':World),ve9 W (qn2 (BS text)) e w'→e=.returned (.tuple #[.string S,.int .i64 er,.int .i64 pl])∧Below W.heap.size W w':=by
  cases h:qn2 (BS text) with
  | ok t=>exact ⟨_,_,_,fun W e w' h=>⟨h.2,h.1⟩⟩
  | err en pl=>exact ⟨_,_,_,fun W e w' h=>⟨h.2,h.1⟩⟩
 obtain ⟨S,er,pl,hT⟩:=hT
 have SE:Hid (∀W:World,LibOk W→Calls Tryz.prog 28 #[.string (BS text)] W fun e w'=>e=.returned (.tuple #[.string S,.int .i64 er,.int .i64 pl])∧Below W.heap.size W w'):=j4 fun W h=>(canon_any (BS text) htx W h).mono fun e w' h=>hT W e w' h
 have RE:Hid (∀W:World,Calls Tryz.prog 79 #[.string (BS text)] W fun e w'=>e=.returned (.tuple #[.string S,.int .i64 er,.int .i64 pl])∧Below W.heap.size W w'):=j4 fun W=>(jj5 (BS text) htx W).mono fun e w' h=>hT W e w' h
 unfold oxV
 simp only
 have hb1:=(Below.refl w.heap.size w).alloc (Nat.le_refl _) (.cells #[.int .i64 kind,.int .i64 nn,.int .i64 id,.string (BS text),.slice la ts.length lc,.slice ea en ec] 64)
 have HB1:=j4 hb1
 have HL1:=j4 (hL.below hb1 (Nat.le_refl _))
 clear hx hL htx hT hb1
 go_enter Tryz.func46,Tryz.ntmps46
 go_wp2_with (first|(go_at_call 28;refine (q9 SE _ (q9 HL1)).mono ?_;rintro e w2 ⟨rfl,hb2⟩;have hz2:w.heap.size<w2.heap.size:=(by have:=hb2.size;simp at this;omega);have o3:w2.cell? ⟨w.heap.size,3,none⟩=some (.string (BS text)):=((qa9 hb2).1 _ 3 (by simp)).trans (by simp);have HB2:=j4 (j6 (q9 HB1) hb2);clear hb2)|(go_at_call 79;refine (q9 RE _).mono ?_;rintro e w3 ⟨rfl,hb3⟩;have HB3:=j4 (j6 (q9 HB2) hb3);clear hb3))
 go_ret
 exact ⟨rfl,q9 HB3⟩
theorem jn4 {w:World} {x:Ox} {wv:Value} (hx:OxOk w x) (hL:LibOk w) (hk:x.kind=2):Calls Tryz.prog 33 #[wv,oxV x] w fun e w'=>e=.returned (.bool true)∧Below w.heap.size w w':=by
 obtain ⟨ea,en,ec,hev⟩:=hx.ev.slice
 have EV:Hid (∀W,Below w.heap.size w W→Calls Tryz.prog 46 #[oxV x] W fun e w'=>e=.returned (.bool true)∧Below W.heap.size W w'):=j4 fun W hb=>vy2 (hx.below hb) (hL.below hb (Nat.le_refl _))
 unfold oxV at EV ⊢
 rw [hk,hev] at EV ⊢
 have hb1:=j4 ((Below.refl w.heap.size w).alloc (Nat.le_refl _) (.cells #[.int .i64 2,.int .i64 x.n,.int .i64 x.id,.string (BS x.text),.slice x.la x.ts.length x.lc,.slice ea en ec] 64))
 clear hx hL hk hev
 go_enter Tryz.func33,Tryz.ntmps33
 go_wp2_with (go_at_call 46;refine (q9 EV _ (q9 hb1)).mono ?_;rintro e w2 ⟨rfl,hb2⟩)
 go_ret
 exact ⟨rfl,j6 (q9 hb1) hb2⟩
theorem jg7 (w:World) (v:Value) (l:List Ox) (hl:OpsAt w v l) (hL:LibOk w):Calls Tryz.prog 8 #[v] w fun e w'=>e=.returned (.bool true)∧Below w.heap.size w w':=by
 have UP:=j4 (jn8 2 (by decide) w v l hl (fun W x hb hx hk=>jn4 hx (hL.below hb (Nat.le_refl _)) hk))
 obtain ⟨a,cap,rfl,_⟩:=hl
 clear hL
 go_enter Tryz.func8,Tryz.ntmps8
 go_wp2_with (go_at_call 15;refine (q9 UP).mono ?_;rintro e w2 ⟨rfl,hb2⟩)
 go_ret
 exact ⟨rfl,hb2⟩
end
end Go.Proofs.YtfkcaldjphakpaaGreatDoor
