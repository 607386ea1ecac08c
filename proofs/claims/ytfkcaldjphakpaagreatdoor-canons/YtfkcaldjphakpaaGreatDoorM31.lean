/- The document's answer: what any node is. The document's answer: what a selector is of an event. The document's answer: cores: where they lie; leaf, made. -/
import Derived.Test.YtfkcaldjphakpaaGreatDoorM29
import Derived.Test.YtfkcaldjphakpaaGreatDoorM07
import Derived.Test.YtfkcaldjphakpaaGreatDoorM02
import Derived.Test.YtfkcaldjphakpaaGreatDoorM09
import Derived.Test.YtfkcaldjphakpaaGreatDoorM14
import Derived.Test.YtfkcaldjphakpaaGreatDoorM08
import Derived.Test.YtfkcaldjphakpaaGreatDoorM30
import Derived.Deep.QuietTactic
import Derived.BigQuiet
import Derived.Deep.RegionWith
import Derived.Deep.DeepCutAuto
import Derived.Deep.RegionHeld3
import Derived.Deep.OwnRows
import Derived.Deep.AppendLies
namespace Go.Proofs.YtfkcaldjphakpaaGreatDoor
open Go.RowKit
section
def vc7 (o:Int):Nat:=if o≤4 then 0 else if o=5∨o=14∨o=15∨o=21∨o=22∨o=23 then 1 else if o=20 then 3 else 2
structure NG (n:RN) (p:Pay):Prop where
 is:∃ins neg c,n={ qj5 p ins neg with cls:=c }∧vc7 p.op≤ins.length
 o0:0≤p.op
 o23:p.op≤23
 num:Rng p.num
 bp:Bp p
 bz:Bz p
theorem vb0 {p:Pay} {ins:List Nat} {neg:Bool} (ha:vc7 p.op≤ins.length) (h0:0≤p.op) (h23:p.op≤23) (hn:Rng p.num) (hb:Bp p) (hz:Bz p):∃q,NG (qj5 p ins neg) q:=⟨p,⟨ins,neg,0,rfl,ha⟩,h0,h23,hn,hb,hz⟩
theorem vk6 {o:Int} (h:o=5∨o=14∨o=15∨o=21∨o=22∨o=23):vc7 o=1:=by unfold vc7;rw [if_neg (by omega),if_pos h]
theorem vx6 {o:Int} (h:6≤o∧o≤13∨16≤o∧o≤19):vc7 o=2:=by unfold vc7;rw [if_neg (by omega),if_neg (by omega),if_neg (by omega)]
theorem vk7 {o:Int} (h:o=20):vc7 o=3:=by unfold vc7;rw [if_neg (by omega),if_neg (by omega),if_pos h]
theorem arity_0 {o:Int} (h:o≤4):vc7 o=0:=by unfold vc7;rw [if_pos h]
theorem ng_flat:∀{t:Ast} {off:Nat} {l:List RN},Flat t off l→ShA t→vd3 t→vd2 t→BzA t→∀n∈l,∃p,NG n p:=by
 intro t off l h
 induction h with
 | leaf p off=>
  intro hs hn hb hz n hm
  obtain rfl:=List.mem_singleton.1 hm
  have h1:=hs.1
  have h2:=hs.2
  exact vb0 (by rw [arity_0 h2];exact Nat.zero_le _) h1 (by omega) hn hb hz
 | un p hx ih=>
  intro hs hn hb hz n hm
  rcases List.mem_append.1 hm with h|h
  ·exact ih hs.2.2.2 hn.2 hb.2 hz.2 n h
  ·obtain rfl:=List.mem_singleton.1 h
   have ho:=hs.1
   exact vb0 (by rw [vk6 ho];exact Nat.le_refl _) (by omega) (by omega) hn.1 hb.1 hz.1
 | bin p hx hy ihx ihy=>
  intro hs hn hb hz n hm
  rcases List.mem_append.1 hm with h|h
  ·rcases List.mem_append.1 h with h|h
   ·exact ihx hs.2.1 hn.2.1 hb.2.1 hz.2.1 n h
   ·exact ihy hs.2.2 hn.2.2 hb.2.2 hz.2.2 n h
  ·obtain rfl:=List.mem_singleton.1 h
   have ho:=hs.1
   exact vb0 (by rw [vx6 ho];exact Nat.le_refl _) (by omega) (by omega) hn.1 hb.1 hz.1
 | tri p hx hy hz' ihx ihy ihz=>
  intro hs hn hb hz n hm
  rcases List.mem_append.1 hm with h|h
  ·rcases List.mem_append.1 h with h|h
   ·rcases List.mem_append.1 h with h|h
    ·exact ihx hs.2.1 hn.2.1 hb.2.1 hz.2.1 n h
    ·exact ihy hs.2.2.1 hn.2.2.1 hb.2.2.1 hz.2.2.1 n h
   ·exact ihz hs.2.2.2 hn.2.2.2 hb.2.2.2 hz.2.2.2 n h
  ·obtain rfl:=List.mem_singleton.1 h
   have ho:=hs.1
   exact vb0 (by rw [vk7 ho];exact Nat.le_refl _) (by omega) (by omega) hn.1 hb.1 hz.1
 | neg1 pl q hq hx ih=>
  intro hs hn hb hz n hm
  obtain ⟨_,_,_,hs⟩:=hs
  obtain ⟨_,hn⟩:=hn
  obtain ⟨_,hb⟩:=hb
  obtain ⟨_,hz⟩:=hz
  rcases List.mem_append.1 hm with h|h
  ·exact ih hs.2.2.2 hn.2 hb.2 hz.2 n h
  ·obtain rfl:=List.mem_singleton.1 h
   have ho:=hs.1
   exact vb0 (by rw [vk6 ho];exact Nat.le_refl _) (by omega) (by omega) hn.1 hb.1 hz.1
 | neg3 pl q hq hx hy hz' ihx ihy ihz=>
  intro hs hn hb hz n hm
  obtain ⟨_,_,_,hs⟩:=hs
  obtain ⟨_,hn⟩:=hn
  obtain ⟨_,hb⟩:=hb
  obtain ⟨_,hz⟩:=hz
  rcases List.mem_append.1 hm with h|h
  ·rcases List.mem_append.1 h with h|h
   ·rcases List.mem_append.1 h with h|h
    ·exact ihx hs.2.1 hn.2.1 hb.2.1 hz.2.1 n h
    ·exact ihy hs.2.2.1 hn.2.2.1 hb.2.2.1 hz.2.2.1 n h
   ·exact ihz hs.2.2.2 hn.2.2.2 hb.2.2.2 hz.2.2.2 n h
  ·obtain rfl:=List.mem_singleton.1 h
   have ho:=hs.1
   exact vb0 (by rw [vk7 ho];exact Nat.le_refl _) (by omega) (by omega) hn.1 hb.1 hz.1
theorem withC_mem {ns:List RN} {cs:List Int} {n:RN} (h:n∈qq8 ns cs):∃m∈ns,∃c,n={ m with cls:=c }:=by
 obtain ⟨i,hi⟩:=List.getElem?_of_mem h
 rw [qt2] at hi
 cases hm:ns[i]? with
 | none=>rw [hm] at hi;cases hi
 | some m=>
  rw [hm] at hi
  simp only [Option.map_some] at hi
  injection hi with hi
  exact ⟨m,List.mem_of_getElem? hm,_,hi.symm⟩
theorem ng_withC {ns:List RN} {cs:List Int} (h:∀n∈ns,∃p,NG n p):∀n∈qq8 ns cs,∃p,NG n p:=by
 intro n hn
 obtain ⟨m,hm,c,rfl⟩:=withC_mem hn
 obtain ⟨p,⟨ins,neg,c',rfl,ha⟩,h0,h23,h1,h2,h3⟩:=h m hm
 exact ⟨p,⟨ins,neg,c,rfl,ha⟩,h0,h23,h1,h2,h3⟩
def TxtAt (w:World) (v:Value) (ts:List (List UInt8)):Prop:=
 ∃la lc,v=.slice la ts.length lc∧∀k t,ts[k]?=some t→∃lb,la=some ⟨lb,0,none⟩∧lb<w.heap.size∧w.cell? ⟨lb,k,none⟩=some (.string (BS t))
end
section
attribute [local go_sem ↓] qj6
theorem flatN {α:Type} (f:α→List Value) (m:Nat) (hf:∀a,(f a).length=m):∀(l:List α) (i:Nat) (a:α),l[i]?=some a→∀k,k<m→(l.flatMap f)[i * m+k]?=(f a)[k]?:=by
 intro l
 induction l with
 | nil=>intro i a h;simp at h
 | cons c t ih=>
  intro i a h k hk
  cases i with
  | zero=>
   simp at h;subst h
   rw [List.flatMap_cons,Nat.zero_mul,Nat.zero_add,List.getElem?_append_left (by rw [hf];exact hk)]
  | succ i=>
   rw [List.flatMap_cons,List.getElem?_append_right (by rw [hf,Nat.succ_mul];omega),hf,show (i+1) * m+k - m=i * m+k by rw [Nat.succ_mul];omega]
   exact ih i a (by simpa using h) k hk
theorem RowOf.txt {w:World} {rb:Nat} {v:Value} {ts:List (List UInt8)} (h:RowOf w rb 9 v (qa0 ts)):TxtAt w v ts:=by
 obtain ⟨a,c,e⟩:=h.form
 refine ⟨a,c,by rw [e];simp [qa0],fun k t ht=>?_⟩
 have hk:(qa0 ts)[k]?=some (.string (BS t)):=by simp [qa0,ht]
 obtain ⟨q,cap,e2,hc⟩:=h.get hk
 rw [e] at e2
 injection e2 with e2
 refine ⟨q,e2, ?_,hc⟩
 rcases h with ⟨h0,_⟩|⟨g,cap',c',fr,e3,_,hg,_⟩
 ·rw [h0] at hk;simp at hk
 ·rw [e] at e3
  injection e3 with e3
  rw [e2] at e3
  injection e3 with e3
  injection e3 with e3
  subst e3
  exact (Array.getElem?_eq_some_iff.1 hg).1
theorem TxtAt.below {w w':World} {v:Value} {ts:List (List UInt8)} (h:TxtAt w v ts) (hb:Below w.heap.size w w'):TxtAt w' v ts:=by
 obtain ⟨la,lc,e,hk⟩:=h
 refine ⟨la,lc,e,fun k t ht=>?_⟩
 obtain ⟨lb,e1,e2,e3⟩:=hk k t ht
 exact ⟨lb,e1,Nat.lt_of_lt_of_le e2 hb.size,((qa9 hb).1 _ _ e2).trans e3⟩
def NumsAt (w:World) (v:Value) (l:List Nat):Prop:=
 ∃la lc,v=.slice la l.length lc∧∀(k q:Nat),l[k]?=some q→∃lb,la=some ⟨lb,0,none⟩∧lb<w.heap.size∧w.cell? ⟨lb,k,none⟩=some (.int .i64 (q:Int))
theorem RowOf.nums {w:World} {rb:Nat} {v:Value} {l:List Nat} (h:RowOf w rb 3 v (qy3 l)):NumsAt w v l:=by
 obtain ⟨a,c,e⟩:=h.form
 refine ⟨a,c,by rw [e];simp [qy3],fun k t ht=>?_⟩
 have hk:(qy3 l)[k]?=some (.int .i64 (t:Int)):=by simp [qy3,ht]
 obtain ⟨q,cap,e2,hc⟩:=h.get hk
 rw [e] at e2
 injection e2 with e2
 refine ⟨q,e2, ?_,hc⟩
 rcases h with ⟨h0,_⟩|⟨g,cap',c',fr,e3,_,hg,_⟩
 ·rw [h0] at hk;simp at hk
 ·rw [e] at e3
  injection e3 with e3
  rw [e2] at e3
  injection e3 with e3
  injection e3 with e3
  subst e3
  exact (Array.getElem?_eq_some_iff.1 hg).1
end
section
attribute [local go_sem ↓] qj6
def vy3 (o:Int):Int:=if o=0 then 0 else if o=1 then 2 else if o=2 then 3 else if 16≤o∧o≤19 then 2 else 1
def rawN (p:CP):Nat:=if p.op=0∨p.op=2∨p.op=22 then p.str.length else 0
def qb2:Co→List (List UInt8)
 | .leaf p=>[j9 (.leaf p)]
 | .un p x=>qb2 x++[j9 (.un p x)]
 | .bin p x y=>qb2 x++qb2 y++[j9 (.bin p x y)]
def qz2:Co→List Nat
 | .leaf p=>[rawN p]
 | .un p x=>qz2 x++[rawN p]
 | .bin p x y=>qz2 x++qz2 y++[rawN p]
theorem termsC_ne (c:Co):qb2 c≠[]:=by cases c<;>simp [qb2]
theorem qs7:∀c:Co,(qz2 c).length=(qb2 c).length
 | .leaf _=>rfl
 | .un _ x=>by simp [qz2,qb2,qs7 x]
 | .bin _ x y=>by simp [qz2,qb2,qs7 x,qs7 y]
def vp2 (c:Co) (pv tv rv:Value):List Value:=[.string (BS (qb9 (opC c))),.string (BS (j9 c)),.int .i64 (vy3 (opC c)),pv,tv,rv]
def SideAt (w:World) (b o:Nat) (c:Co) (p1 t1 r1:Value):Prop:=∀k,k<6→w.cell? ⟨b,o+k,none⟩=(vp2 c p1 t1 r1)[k]?
def TxN (N:Nat→Prop) (w:World) (v:Value) (ts:List (List UInt8)):Prop:=∃lb c,v=.slice (some ⟨lb,0,none⟩) ts.length c∧N lb∧lb<w.heap.size∧∀(k:Nat) (t:List UInt8),ts[k]?=some t→w.cell? ⟨lb,k,none⟩=some (.string (BS t))
def NmN (N:Nat→Prop) (w:World) (v:Value) (l:List Nat):Prop:=∃lb c,v=.slice (some ⟨lb,0,none⟩) l.length c∧N lb∧lb<w.heap.size∧∀(k t:Nat),l[k]?=some t→w.cell? ⟨lb,k,none⟩=some (.int .i64 (t:Int))
def RcAt (N:Nat→Prop) (w:World):Co→Value→Value→Value→Prop
 | .leaf p,pv,tv,rv=>pv=.slice none 0 0∧TxN N w tv (qb2 (.leaf p))∧NmN N w rv (qz2 (.leaf p))
 | .un p x,pv,tv,rv=>(∃b cap p1 t1 r1,pv=.slice (some ⟨b,0,none⟩) 1 cap∧N b∧b<w.heap.size∧SideAt w b 0 x p1 t1 r1∧RcAt N w x p1 t1 r1)∧TxN N w tv (qb2 (.un p x))∧NmN N w rv (qz2 (.un p x))
 | .bin p x y,pv,tv,rv=>(∃b cap p1 t1 r1 p2 t2 r2,pv=.slice (some ⟨b,0,none⟩) 2 cap∧N b∧b<w.heap.size∧SideAt w b 0 x p1 t1 r1∧RcAt N w x p1 t1 r1∧SideAt w b 6 y p2 t2 r2∧RcAt N w y p2 t2 r2)∧TxN N w tv (qb2 (.bin p x y))∧NmN N w rv (qz2 (.bin p x y))
section
variable {N N':Nat→Prop} {w w':World}
theorem TxN.keep {v:Value} {ts:List (List UInt8)} (h:TxN N w v ts) (hk:∀b,N b→b<w.heap.size→w'.heap[b]?=w.heap[b]?) (hz:w.heap.size≤w'.heap.size) (hN:∀b,N b→b<w.heap.size→N' b):TxN N' w' v ts:=by
 obtain ⟨lb,c,e,hn,hl,hc⟩:=h
 exact ⟨lb,c,e,hN _ hn hl,Nat.lt_of_lt_of_le hl hz,fun k t ht=>(World.cell?_of_block (w:=w) (a:=⟨lb,k,none⟩) (hk lb hn hl)).trans (hc k t ht)⟩
theorem NmN.keep {v:Value} {ts:List Nat} (h:NmN N w v ts) (hk:∀b,N b→b<w.heap.size→w'.heap[b]?=w.heap[b]?) (hz:w.heap.size≤w'.heap.size) (hN:∀b,N b→b<w.heap.size→N' b):NmN N' w' v ts:=by
 obtain ⟨lb,c,e,hn,hl,hc⟩:=h
 exact ⟨lb,c,e,hN _ hn hl,Nat.lt_of_lt_of_le hl hz,fun k t ht=>(World.cell?_of_block (w:=w) (a:=⟨lb,k,none⟩) (hk lb hn hl)).trans (hc k t ht)⟩
theorem SideAt.keep {b o:Nat} {c:Co} {p1 t1 r1:Value} (h:SideAt w b o c p1 t1 r1) (hk:w'.heap[b]?=w.heap[b]?):SideAt w' b o c p1 t1 r1:=fun k hk2=>(World.cell?_of_block (w:=w) (a:=⟨b,o+k,none⟩) hk).trans (h k hk2)
theorem RcAt.keep (hk:∀b,N b→b<w.heap.size→w'.heap[b]?=w.heap[b]?) (hz:w.heap.size≤w'.heap.size) (hN:∀b,N b→b<w.heap.size→N' b):∀{c:Co} {pv tv rv:Value},RcAt N w c pv tv rv→RcAt N' w' c pv tv rv:=by
 intro c
 induction c with
 | leaf p=>rintro pv tv rv ⟨h1,h2,h3⟩;exact ⟨h1,h2.keep hk hz hN,h3.keep hk hz hN⟩
 | un p x ih=>
  rintro pv tv rv ⟨⟨b,cap,p1,t1,r1,e,hn,hlt,hs,hx⟩,h2,h3⟩
  exact ⟨⟨b,cap,p1,t1,r1,e,hN _ hn hlt,Nat.lt_of_lt_of_le hlt hz,hs.keep (hk b hn hlt),ih hx⟩,h2.keep hk hz hN,h3.keep hk hz hN⟩
 | bin p x y ihx ihy=>
  rintro pv tv rv ⟨⟨b,cap,p1,t1,r1,p2,t2,r2,e,hn,hlt,hs,hx,hs2,hy⟩,h2,h3⟩
  exact ⟨⟨b,cap,p1,t1,r1,p2,t2,r2,e,hN _ hn hlt,Nat.lt_of_lt_of_le hlt hz,hs.keep (hk b hn hlt),ihx hx,hs2.keep (hk b hn hlt),ihy hy⟩,h2.keep hk hz hN,h3.keep hk hz hN⟩
theorem RcAt.below (hb:Below w.heap.size w w') {c:Co} {pv tv rv:Value} (h:RcAt N w c pv tv rv):RcAt N w' c pv tv rv:=h.keep (fun b _ hl=>hb.block b hl) hb.size (fun _ h _=>h)
theorem RcAt.mono {c:Co} {pv tv rv:Value} (h:RcAt N w c pv tv rv) (hN:∀b,N b→b<w.heap.size→N' b):RcAt N' w c pv tv rv:=h.keep (fun _ _ _=>rfl) (Nat.le_refl _) hN
theorem RcAt.terms {c:Co} {pv tv rv:Value} (h:RcAt N w c pv tv rv):TxN N w tv (qb2 c)∧NmN N w rv (qz2 c):=by
 cases c with
 | leaf p=>exact ⟨h.2.1,h.2.2⟩
 | un p x=>exact ⟨h.2.1,h.2.2⟩
 | bin p x y=>exact ⟨h.2.1,h.2.2⟩
theorem RcAt.slices {c:Co} {pv tv rv:Value} (h:RcAt N w c pv tv rv):(∃a n k,pv=.slice a n k)∧(∃a n k,tv=.slice a n k)∧∃a n k,rv=.slice a n k:=by
 obtain ⟨⟨a,k,e,_⟩,⟨b,m,e2,_⟩⟩:=h.terms
 refine ⟨?_,⟨_,_,_,e⟩,_,_,_,e2⟩
 cases c with
 | leaf p=>exact ⟨_,_,_,h.1⟩
 | un p x=>obtain ⟨⟨b,cap,p1,t1,r1,e,_⟩,_⟩:=h;exact ⟨_,_,_,e⟩
 | bin p x y=>obtain ⟨⟨b,cap,p1,t1,r1,p2,t2,r2,e,_⟩,_⟩:=h;exact ⟨_,_,_,e⟩
end
def rcV (c:Co) (pv tv rv:Value):Value:=.agg #[.string (BS (qb9 (opC c))),.string (BS (j9 c)),.int .i64 (vy3 (opC c)),pv,tv,rv]
def RcEnds (N:Nat→Prop) (w:World) (c:Co) (e:Ending) (w':World):Prop:=Below w.heap.size w w'∧∃pv tv rv,e=.returned (rcV c pv tv rv)∧RcAt (fun b=>N b∨w.heap.size≤b) w' c pv tv rv
set_option maxHeartbeats 4000000 in
theorem rleaf_raw (op text:ByteArray) (c r:Int) (w:World):Calls Tryz.prog 224 #[.string op,.string text,.int .i64 c,.int .i64 r] w fun e w'=>Below w.heap.size w w'∧∃b1 b2,e=.returned (.agg #[.string op,.string text,.int .i64 c,.slice none 0 0,.slice (some ⟨b1,0,none⟩) 1 1,.slice (some ⟨b2,0,none⟩) 1 1])∧w.heap.size≤b1∧w.heap.size≤b2∧b1<w'.heap.size∧b2<w'.heap.size∧w'.cell? ⟨b1,0,none⟩=some (.string text)∧w'.cell? ⟨b2,0,none⟩=some (.int .i64 r):=by
 go_enter Tryz.func224,Tryz.ntmps224
 go_wp2_with fail
 refine bodyPost_ret (by simp [results,Tryz.results224,go_sem]<;>rfl) rfl ⟨?_, ?_⟩
 ·repeat' (first|exact Below.refl _ _|refine Below.setCell ?_ (by simp) _|refine Below.alloc ?_ (by simp<;>omega) _)
 ·refine ⟨w.heap.size+1,w.heap.size+1+1,rfl,by omega,by omega,by simp,by simp, ?_, ?_⟩
  ·simp [go_sem]
  ·simp [go_sem]
theorem qv0 (N:Nat→Prop) (p:CP) (w:World):Calls Tryz.prog 224 #[.string (BS (qb9 p.op)),.string (BS (j9 (.leaf p))),.int .i64 (vy3 p.op),.int .i64 (rawN p:Nat)] w (RcEnds N w (.leaf p)):=by
 refine (rleaf_raw _ _ _ _ w).mono ?_
 rintro e w' ⟨hb,b1,b2,rfl,g1,g2,h1,h2,h3,h4⟩
 refine ⟨hb,_,_,_,rfl,rfl,⟨b1,1,rfl,.inr g1,h1,fun k t ht=>?_⟩,⟨b2,1,rfl,.inr g2,h2,fun k t ht=>?_⟩⟩
 ·cases k with
  | zero=>
   obtain rfl:j9 (.leaf p)=t:=by simpa [qb2] using ht
   exact h3
  | succ k=>simp [qb2] at ht
 ·cases k with
  | zero=>
   obtain rfl:rawN p=t:=by simpa [qz2] using ht
   exact h4
  | succ k=>simp [qz2] at ht
end
end Go.Proofs.YtfkcaldjphakpaaGreatDoor
