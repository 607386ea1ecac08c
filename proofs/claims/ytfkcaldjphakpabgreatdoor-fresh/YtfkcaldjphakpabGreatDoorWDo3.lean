/- does: what is done to a broker. -/
import Derived.Test.YtfkcaldjphakpabGreatDoorF32
import Derived.Test.YtfkcaldjphakpabGreatDoorF35
namespace Go.Proofs.YtfkcaldjphakpabGreatDoor
open Go.RowKit
attribute [local go_sem ↓] qc3
structure Sc where
 id:Int
 text:List UInt8
 fin:Bool
 ps:List Pr
 ev:Value
structure ScOk (w:World) (x:Sc):Prop where
 text:x.text.length≤140737488355328
 id:Rng x.id
 ev:EvIn w x.ev x.ps
 good:EvGood x.ps
theorem ScOk.form {w:World} {x:Sc} (h:ScOk w x):∃a c,x.ev=.slice a x.ps.length c:=by
 rcases h.ev with ⟨h1,a,c,h2⟩|⟨b,off,cap,h1,_⟩
 ·rw [h1];exact ⟨a,c,h2⟩
 ·exact ⟨_,cap,h1⟩
def ScrAt (w:World) (v:Value) (l:List Sc):Prop:=∃a cap,v=.slice a l.length cap∧l.length≤2600000000000∧l.length≤cap∧∀(i:Nat) (x:Sc),l[i]?=some x→ScOk w x∧∃b off,a=some ⟨b,off,none⟩∧b<w.heap.size∧w.cell? ⟨b,off+i * 4,none⟩=some (.int .i64 x.id)∧w.cell? ⟨b,off+i * 4+1,none⟩=some (.string (BS x.text))∧w.cell? ⟨b,off+i * 4+2,none⟩=some (.bool x.fin)∧w.cell? ⟨b,off+i * 4+3,none⟩=some x.ev
def qm3 (st:List Su×Int×List Lv) (x:Sc):List Su×List Lv:=
 if x.fin=true then ((qe2 st.1 x.id).1,if (qe2 st.1 x.id).2=0 then vq5 st.2.2 x.id else st.2.2)
 else ((qm1 st.1 x.id x.text).1,if (qm1 st.1 x.id x.text).2.1=0 then qu7 st.2.2 (x.id,x.text) else st.2.2)
def qw5 (st:List Su×Int×List Lv) (x:Sc):List Su×Int×List Lv:=
 if 0<x.ps.length then ((qu8 (qm3 st x).1 st.2.1 (jz3 x.id 10) x.ps).1.1,(qu8 (qm3 st x).1 st.2.1 (jz3 x.id 10) x.ps).2.1,(qm3 st x).2) else ((qm3 st x).1,st.2.1,(qm3 st x).2)
def doK (l:List Sc) (st:List Su×Int×List Lv) (k:Nat):List Su×Int×List Lv:=(l.take k).foldl qw5 st
def doR (l:List Sc) (st:List Su×Int×List Lv):List Su×Int×List Lv:=l.foldl qw5 st
theorem jq7 (l:List Sc) (st:List Su×Int×List Lv) (k:Nat) (x:Sc) (h:l[k]?=some x):doK l st (k+1)=qw5 (doK l st k) x:=by
 unfold doK
 rw [List.take_add_one,h,List.foldl_append]
 rfl
theorem Grow.mono {F F':Nat→Prop} {w w':World} (h:Grow F w w') (hF:∀k,F k→F' k):Grow F' w w':=⟨h.os,h.tape,h.output,h.size,fun k h1 h2=>h.block k h1 fun e=>h2 (hF k e)⟩
def DoAt (w0 w:World) (F:Nat→Prop) (W:World) (bb:Nat) (last:Int) (L:List Su) (v:Value) (bk:List Lv) (bx:Nat) (ob:Option Obj):Prop:=∃F',HasB w0 F' W bb last L∧(∀k,F' k→upF F w W k)∧Grow F w W∧LvAt W w.heap.size v bk∧(∀k,v.ownBlock=some k→¬F' k)∧∀o,ob=some o→W.heap[bx]?=some o∧¬F' bx∧v.ownBlock≠some bx
theorem DoAt.op {w0 w:World} {F F' F'':Nat→Prop} {W W':World} {bb:Nat} {last last':Int} {L L':List Su} {v:Value} {bk:List Lv} {bx:Nat} {ob:Option Obj} (h:HasB w0 F' W bb last L) (h1:∀k,F' k→upF F w W k) (h2:Grow F w W) (h3:LvAt W w.heap.size v bk) (h4:∀k,v.ownBlock=some k→¬F' k) (h5:∀o,ob=some o→W.heap[bx]?=some o∧¬F' bx∧v.ownBlock≠some bx) (hg:Grow F' W W') (hF:∀k,F'' k→upF F' W W' k) (hb:Br W' F'' bb last' L') (hgd:qx2 L'):DoAt w0 w F W' bb last' L' v bk bx ob:=by
 have hz:=h2.size
 have hz':=hg.size
 refine ⟨F'',h.op hg hF hb hgd,fun k hk=>?_,h2.trans (hg.mono h1),j3 h3 fun k hk=>hg.block k (h3.lt k hk).2 (h4 k hk),fun k hk e=>?_,fun o ho=>?_⟩
 ·rcases hF k hk with e|e
  ·rcases h1 k e with e'|e'
   ·exact .inl e'
   ·exact .inr ⟨e'.1,by omega⟩
  ·exact .inr ⟨by omega,e.2⟩
 ·rcases hF k e with e|e
  ·exact h4 k hk e
  ·have:=(h3.lt k hk).2;omega
 ·obtain ⟨a1,a2,a3⟩:=h5 o ho
  have hlt:=(Array.getElem?_eq_some_iff.1 a1).1
  refine ⟨(hg.block bx hlt a2).trans a1,fun e=>?_,a3⟩
  rcases hF bx e with e|e
  ·exact a2 e
  ·omega
theorem DoAt.keep {w0 w:World} {F:Nat→Prop} {W W':World} {bb:Nat} {last:Int} {L:List Su} {v:Value} {bk:List Lv} {bx:Nat} {ob:Option Obj} (h:DoAt w0 w F W bb last L v bk bx ob) (hb:Below W.heap.size W W'):DoAt w0 w F W' bb last L v bk bx ob:=by
 obtain ⟨F',h0,h1,h2,h3,h4,h5⟩:=h
 exact DoAt.op h0 h1 h2 h3 h4 h5 (Grow.of_below hb) (fun k hk=>.inl hk) (h0.br.below hb) h0.good
theorem DoAt.row {w0 w:World} {F:Nat→Prop} {W W':World} {bb:Nat} {last:Int} {L:List Su} {v v':Value} {bk bk':List Lv} {bx:Nat} {ob:Option Obj} (h:DoAt w0 w F W bb last L v bk bx ob) (hb:Below W.heap.size W W') (hr:LvAt W' W.heap.size v' bk'):DoAt w0 w F W' bb last L v' bk' bx ob:=by
 obtain ⟨F',h0,h1,h2,h3,h4,h5⟩:=h
 have hz:=h2.size
 have hz':=hb.size
 refine ⟨F',h0.keep hb,fun k hk=>?_,h2.trans (Grow.of_below hb),qa3 hr hz,fun k hk e=>?_,fun o ho=>?_⟩
 ·rcases h1 k hk with e|e
  ·exact .inl e
  ·exact .inr ⟨e.1,by omega⟩
 ·have:=(hr.lt k hk).1
  have:=h0.br.1 k e
  omega
 ·obtain ⟨a1,a2,_⟩:=h5 o ho
  have hlt:=(Array.getElem?_eq_some_iff.1 a1).1
  exact ⟨(hb.block bx hlt).trans a1,a2,fun e=>by have:=(hr.lt bx e).1;omega⟩
theorem DoAt.boxed {w0 w:World} {F:Nat→Prop} {W:World} {bb:Nat} {last:Int} {L:List Su} {v:Value} {bk:List Lv} {bx:Nat} {ob:Option Obj} (h:DoAt w0 w F W bb last L v bk bx ob) (o:Obj):DoAt w0 w F (W.alloc o) bb last L v bk W.heap.size (some o):=by
 obtain ⟨F',h0,h1,h2,h3,h4,h5⟩:=h.keep (qq1 W o)
 obtain ⟨G,g0,g1,g2,g3,g4,g5⟩:=h
 have hz:=g2.size
 refine ⟨G,g0.keep (qq1 W o),fun k hk=>?_,h2,h3,g4,fun o' ho=>?_⟩
 ·rcases g1 k hk with e|e
  ·exact .inl e
  ·exact .inr ⟨e.1,by simp;omega⟩
 ·obtain rfl:=Option.some.inj ho
  exact ⟨heap_alloc_new W o,fun e=>by have:=g0.br.1 _ e;omega,fun e=>by have:=(g3.lt _ e).2;omega⟩
theorem DoAt.drop {w0 w:World} {F:Nat→Prop} {W:World} {bb:Nat} {last:Int} {L:List Su} {v:Value} {bk:List Lv} {bx:Nat} {ob:Option Obj} (h:DoAt w0 w F W bb last L v bk bx ob):DoAt w0 w F W bb last L v bk 0 none:=by
 obtain ⟨F',h0,h1,h2,h3,h4,_⟩:=h
 exact ⟨F',h0,h1,h2,h3,h4,fun o ho=>by cases ho⟩
theorem DoAt.cells {w0 w:World} {F:Nat→Prop} {W:World} {bb:Nat} {last:Int} {L:List Su} {v:Value} {bk:List Lv} {bx:Nat} {a b c d:Value} {ty:TypeId} (h:DoAt w0 w F W bb last L v bk bx (some (.cells #[a,b,c,d] ty (0,0)))):W.cell? ⟨bx,0,none⟩=some a∧W.cell? ⟨bx,1,none⟩=some b∧W.cell? ⟨bx,2,none⟩=some c∧W.cell? ⟨bx,3,none⟩=some d:=by
 obtain ⟨F',_,_,_,_,_,h5⟩:=h
 have:=(h5 _ rfl).1
 simp [World.cell?,this]
section
variable {w0 w:World} {F:Nat→Prop} {W:World} {bb:Nat} {last:Int} {L:List Su} {v:Value} {bk:List Lv} {bx:Nat} {ob:Option Obj}
theorem vh8 (h:DoAt w0 w F W bb last L v bk bx ob) (id:Int):Calls Tryz.prog 19 #[.pointer (some ⟨bb,0,none⟩),.int .i64 id] W fun e W'=>e=.returned (.int .i64 (qe2 L id).2)∧DoAt w0 w F W' bb last (qe2 L id).1 v bk bx ob:=by
 obtain ⟨F',h0,h1,h2,h3,h4,h5⟩:=h
 exact unsub_any W F' bb last L h0.br h0.good id _ fun w' q1 q2 q3=>⟨rfl,DoAt.op h0 h1 h2 h3 h4 h5 q3 (fun _ hk=>hk) q1 q2⟩
theorem jq8 (h:DoAt w0 w F W bb last L v bk bx ob) (hL:LibOk w0) (id:Int) (s:List UInt8) (hs:s.length≤140737488355328):Calls Tryz.prog 12 #[.pointer (some ⟨bb,0,none⟩),.int .i64 id,.string (BS s)] W fun e W'=>e=.returned (.tuple #[.int .i64 (qm1 L id s).2.1,.int .i64 (qm1 L id s).2.2])∧DoAt w0 w F W' bb last (qm1 L id s).1 v bk bx ob:=by
 obtain ⟨F',h0,h1,h2,h3,h4,h5⟩:=h
 exact jn4 W F' bb last L h0.br h0.good id s hs (hL.below h0.below (Nat.le_refl _)) _ fun w' q1 q2 q3=>⟨rfl,DoAt.op h0 h1 h2 h3 h4 h5 q3 (fun _ hk=>hk) q1 q2⟩
theorem do_pub (h:DoAt w0 w F W bb last L v bk bx ob) (pri:Int) (hl:0≤last∧last<4611686018427387904) {ps:List Pr} {ev:Value} (he:EvIn w0 ev ps) (hg:EvGood ps):Calls Tryz.prog 15 #[.pointer (some ⟨bb,0,none⟩),.int .i64 pri,ev] W fun e W'=>∃a1 n1 c1 a2 n2 c2,e=.returned (.tuple #[.slice a1 n1 c1,.slice a2 n2 c2,.int .i64 (qu8 L last pri ps).2.2])∧DoAt w0 w F W' bb (qu8 L last pri ps).2.1 (qu8 L last pri ps).1.1 v bk bx ob:=by
 obtain ⟨F',h0,h1,h2,h3,h4,h5⟩:=h
 refine jm5 W F' bb last L h0.br pri hl ps ev (h0.event he) hg _ fun w' mv fv q1 q2 q3 q4=>?_
 obtain ⟨a1,c1,rfl⟩:=q3.form
 obtain ⟨a2,c2,rfl⟩:=q4.form
 exact ⟨a1,_,c1,a2,_,c2,rfl,DoAt.op h0 h1 h2 h3 h4 h5 q2 (fun _ hk=>hk.1) q1 (vm3 h0.good)⟩
theorem vs2 (h:DoAt w0 w F W bb last L v bk bx ob) (hn:bk.length≤3000000000000) (id:Int):Calls Tryz.prog 28 #[v,.int .i64 id] W fun e W'=>∃a c,e=.returned (.slice a (vq5 bk id).length c)∧DoAt w0 w F W' bb last L (.slice a (vq5 bk id).length c) (vq5 bk id) bx ob:=by
 have hd:=h
 obtain ⟨F',h0,h1,h2,h3,h4,h5⟩:=h
 refine (jp5 bk hn v _ id W h3).mono ?_
 rintro e W' ⟨v',rfl,q1,q2⟩
 obtain ⟨a,c,rfl⟩:=qc1 q1
 exact ⟨a,c,rfl,hd.row q2 q1⟩
theorem do_with (h:DoAt w0 w F W bb last L v bk bx ob) (hn:bk.length≤3000000000000) (x:Lv):Calls Tryz.prog 29 #[v,.agg #[.int .i64 x.1,.string (BS x.2)]] W fun e W'=>∃a c,e=.returned (.slice a (qu7 bk x).length c)∧DoAt w0 w F W' bb last L (.slice a (qu7 bk x).length c) (qu7 bk x) bx ob:=by
 have hd:=h
 obtain ⟨F',h0,h1,h2,h3,h4,h5⟩:=h
 refine (with_any bk hn v _ x W h3).mono ?_
 rintro e W' ⟨v',rfl,q1,q2⟩
 obtain ⟨a,c,rfl⟩:=qc1 q1
 exact ⟨a,c,rfl,hd.row q2 q1⟩
end
theorem withB_len (l:List Lv) (x:Lv):(qu7 l x).length≤l.length+1:=by
 have:=jf6 l x l.length
 unfold qu7
 split
 ·rename_i h;rw [h] at this;simp at this;exact this
 ·rename_i h;simp [h] at this ⊢;omega
theorem jv7 (st:List Su×Int×List Lv) (x:Sc):(qw5 st x).2.2.length≤st.2.2.length+1∧(0≤st.2.1→0≤(qw5 st x).2.1∧(qw5 st x).2.1≤st.2.1+1):=by
 have h1:(qm3 st x).2.length≤st.2.2.length+1:=by
  unfold qm3
  split
  ·simp only
   split
   ·exact Nat.le_trans (List.length_filter_le _ _) (Nat.le_succ _)
   ·exact Nat.le_succ _
  ·simp only
   split
   ·exact withB_len _ _
   ·exact Nat.le_succ _
 unfold qw5
 split
 ·refine ⟨h1,fun h0=>?_⟩
  simp only
  unfold qu8
  split
  ·simp only;omega
  ·simp only;omega
 ·exact ⟨h1,fun h0=>by simp only;omega⟩
theorem doK_len (l:List Sc) (st:List Su×Int×List Lv) (h0:0≤st.2.1) (k:Nat):(doK l st k).2.2.length≤st.2.2.length+k∧0≤(doK l st k).2.1∧(doK l st k).2.1≤st.2.1+k:=by
 induction k with
 | zero=>simp [doK];exact h0
 | succ k ih=>
  cases hx:l[k]? with
  | none=>
   have e:doK l st (k+1)=doK l st k:=by unfold doK;rw [List.take_add_one,hx];simp
   rw [e]
   omega
  | some x=>
   rw [jq7 l st k x hx]
   have h1:=jv7 (doK l st k) x
   have h2:=h1.2 ih.2.1
   omega
set_option maxHeartbeats 8000000 in
set_option maxRecDepth 100000 in
theorem does_any (w0 w:World) (F:Nat→Prop) (bb:Nat) (last:Int) (L:List Su) (h:HasB w0 F w bb last L) (hL:LibOk w0) (hl:0≤last∧last≤1000000000000000) (l:List Sc) (sv:Value) (hs:ScrAt w0 sv l) :
  Calls Tryz.prog 11 #[.pointer (some ⟨bb,0,none⟩),sv] w fun e w'=>∃a c,e=.returned (.slice a (doR l (L,last,[])).2.2.length c)∧DoAt w0 w F w' bb (doR l (L,last,[])).2.1 (doR l (L,last,[])).1 (.slice a (doR l (L,last,[])).2.2.length c) (doR l (L,last,[])).2.2 0 none:=by
 obtain ⟨a,cap,rfl,hbig,_,hx⟩:=hs
 have HX:=v7 hx
 obtain ⟨n,hn⟩:∃n,l.length=n:=⟨_,rfl⟩
 have HR:Hid (doR l (L,last,[])=doK l (L,last,[]) n):=v7 (by unfold doR doK;rw [←hn,List.take_length])
 have HLEN:Hid (∀k,(doK l (L,last,[]) k).2.2.length≤k∧0≤(doK l (L,last,[]) k).2.1∧(doK l (L,last,[]) k).2.1≤last+k):=v7 fun k=>by
  have:=doK_len l (L,last,[]) hl.1 k
  simpa using this
 rw [hn] at hbig ⊢
 have HN:=v7 hn
 have S0:Hid (DoAt w0 w F w bb last L (.slice none 0 0) [] 0 none):=v7 ⟨F,h,fun k hk=>.inl hk,Grow.of_below (Below.refl _ _),LvAt.nil _ _,fun k hk=>by simp [Value.ownBlock] at hk,fun o ho=>by cases ho⟩
 have HL:=v7 hL
 clear hx hn hL h
 rw [q9 HR]
 go_enter Tryz.func11,Tryz.ntmps11
 go_wp2_with fail
 go_loopw [5,6] (fun v i wr=>∃k:Nat,k≤n∧i=.int .i64 k∧Hid (DoAt w0 w F wr bb (doK l (L,last,[]) k).2.1 (doK l (L,last,[]) k).1 v (doK l (L,last,[]) k).2.2 0 none)) (fun _ i _=>n - (intOf i).toNat)
 case atStart=>exact ⟨0,Nat.zero_le _,rfl,S0⟩
 case round=>
  obtain ⟨k,hk,rfl,DA⟩:=hrel
  by_cases hlt:k<n
  ·obtain ⟨⟨id,text,fin,ps,ev⟩,hx⟩:∃x,l[k]?=some x:=⟨_,List.getElem?_eq_getElem (by have:=q9 HN;omega)⟩
   obtain ⟨ok,b,off,rfl,hb,c0,c1,c2,c3⟩:=q9 HX k _ hx
   obtain ⟨ea,ec,hev⟩:=ok.form
   simp only at hev c0 c1 c2 c3
   subst hev
   have hst:doK l (L,last,[]) (k+1)=qw5 (doK l (L,last,[]) k) ⟨id,text,fin,ps,.slice ea ps.length ec⟩:=jq7 l _ k _ hx
   obtain ⟨hbl,hl0,hl1⟩:=q9 HLEN k
   obtain ⟨⟨L1,last1,bk1⟩,hst0⟩:∃st,doK l (L,last,[]) k=st:=⟨_,rfl⟩
   rw [hst0] at DA hst hbl hl0 hl1
   simp only at DA hbl hl0 hl1
   clear hst0
   have hbw:Below w0.heap.size w0 wr:=by
    obtain ⟨F',h0,_⟩:=q9 DA
    exact h0.below
   rw [←hbw.cell (p:=⟨b,off+k * 4,none⟩) hb] at c0
   rw [←hbw.cell (p:=⟨b,off+k * 4+1,none⟩) hb] at c1
   rw [←hbw.cell (p:=⟨b,off+k * 4+2,none⟩) hb] at c2
   rw [←hbw.cell (p:=⟨b,off+k * 4+3,none⟩) hb] at c3
   obtain ⟨np,hnp⟩:∃np,ps.length=np:=⟨_,rfl⟩
   have OK:=v7 ok
   rw [hnp] at c3
   obtain ⟨va,vc,e5⟩:∃a c,u5=.slice a bk1.length c:=by
    obtain ⟨_,_,_,_,h3,_⟩:=q9 DA
    exact qc1 h3
   subst e5
   obtain ⟨nb,hnb⟩:∃nb,bk1.length=nb:=⟨_,rfl⟩
   have hnb3:bk1.length≤3000000000000:=by omega
   have DA1:=v7 ((q9 DA).boxed (.cells #[.int .i64 id,.string (BS text),.bool fin,.slice ea np ec] 69))
   rw [hnb] at DA1 ⊢
   have hk0:(0:Int)≤(k:Int):=by omega
   have hk1:(k:Int)<(n:Int):=by omega
   have hlast:0≤last1∧last1<4611686018427387904:=⟨hl0,by omega⟩
   have PK:Hid (∀U,Calls Tryz.prog 21 #[.int .i64 id,.int .i64 10] U fun e w'=>e=.returned (.int .i64 (jz3 id 10))∧w'=U):=v7 fun U=>pick_any id 10 ok.id (by decide) U
   obtain ⟨pz,hpz⟩:∃pz,jz3 id 10=pz:=⟨_,rfl⟩
   rw [hpz] at PK
   have PB:Hid (∀U L2 v2 bk2 bx ob,DoAt w0 w F U bb last1 L2 v2 bk2 bx ob→Calls Tryz.prog 15 #[.pointer (some ⟨bb,0,none⟩),.int .i64 pz,.slice ea np ec] U fun e W'=>∃a1 n1 c1 a2 n2 c2,e=.returned (.tuple #[.slice a1 n1 c1,.slice a2 n2 c2,.int .i64 (qu8 L2 last1 pz ps).2.2])∧Hid (DoAt w0 w F W' bb (qu8 L2 last1 pz ps).2.1 (qu8 L2 last1 pz ps).1.1 v2 bk2 bx ob)):=v7 (by
    intro U L2 v2 bk2 bx ob hU
    have:=do_pub hU pz hlast ok.ev ok.good
    simp only at this
    rw [hnp] at this
    refine this.mono ?_
    rintro e W' ⟨a1,n1,c1,a2,n2,c2,rfl,h⟩
    exact ⟨a1,n1,c1,a2,n2,c2,rfl,v7 h⟩)
   have hstep:Hid (∀L2 bk2,qm3 (L1,last1,bk1) ⟨id,text,fin,ps,.slice ea ps.length ec⟩=(L2,bk2)→doK l (L,last,[]) (k+1)=if 0<np then ((qu8 L2 last1 pz ps).1.1,(qu8 L2 last1 pz ps).2.1,bk2) else (L2,last1,bk2)):=v7 (by
    intro L2 bk2 h2
    rw [hst]
    unfold qw5
    rw [h2]
    simp only [hnp,hpz])
   clear DA hx hst hbl hl0 hl1 hnp hpz ok
   cases fin with
   | true=>
    by_cases hp:0<np
    ·by_cases he:(qe2 L1 id).2=0
     ·have UN:Hid (Calls Tryz.prog 19 #[.pointer (some ⟨bb,0,none⟩),.int .i64 id] (wr.alloc (.cells #[.int .i64 id,.string (BS text),.bool true,.slice ea np ec] 69)) fun e W'=>e=.returned (.int .i64 (qe2 L1 id).2)∧Hid (DoAt w0 w F W' bb last1 (qe2 L1 id).1 (.slice va nb vc) bk1 wr.heap.size (some (.cells #[.int .i64 id,.string (BS text),.bool true,.slice ea np ec] 69 (0,0))))):=v7 ((vh8 (q9 DA1) id).mono (by rintro e W' ⟨rfl,h⟩;exact ⟨rfl,v7 h⟩))
      obtain ⟨L2,hL2⟩:∃L2,(qe2 L1 id).1=L2:=⟨_,rfl⟩
      obtain ⟨ue,hue⟩:∃ue,(qe2 L1 id).2=ue:=⟨_,rfl⟩
      rw [hL2,hue] at UN
      rw [hue] at he
      have H1:Hid (qm3 (L1,last1,bk1) ⟨id,text,true,ps,.slice ea ps.length ec⟩=(L2,vq5 bk1 id)):=v7 (by unfold qm3;simp only [hL2,hue,he];simp)
      subst he
      have WO:Hid (∀U,DoAt w0 w F U bb last1 L2 (.slice va nb vc) bk1 wr.heap.size (some (.cells #[.int .i64 id,.string (BS text),.bool true,.slice ea np ec] 69 (0,0)))→Calls Tryz.prog 28 #[.slice va nb vc,.int .i64 id] U fun e W'=>∃a n2 c,e=.returned (.slice a n2 c)∧Hid (DoAt w0 w F W' bb last1 L2 (.slice a n2 c) (vq5 bk1 id) wr.heap.size (some (.cells #[.int .i64 id,.string (BS text),.bool true,.slice ea np ec] 69 (0,0))))):=v7 fun U hU=>(vs2 hU hnb3 id).mono (by rintro e W' ⟨a,c,rfl,h⟩;exact ⟨a,_,c,rfl,v7 h⟩)
      have H2:Hid (doK l (L,last,[]) (k+1)=((qu8 L2 last1 pz ps).1.1,(qu8 L2 last1 pz ps).2.1,vq5 bk1 id)):=v7 (by rw [q9 hstep _ _ (q9 H1),if_pos hp])
      have hdp:decide ((np:Int) > 0)=true:=decide_eq_true (by omega)
      have hdp':decide (0<(np:Int))=true:=decide_eq_true (by omega)
      clear hstep H1 DA1 HX HLEN HR HL OK hL2 hue S0
      go_wp2_with (first|(go_at_call 19;refine (q9 UN).mono ?_;rintro e w2 ⟨rfl,S2⟩;obtain ⟨b0,b1,b2,b3⟩:=(q9 S2).cells)|(go_at_call 28;refine (q9 WO _ (q9 S2)).mono ?_;rintro e w3 ⟨a3,n3,c3',rfl,S3⟩;obtain ⟨d0,d1,d2,d3⟩:=(q9 S3).cells))
      go_region_with (first|(go_at_call 21;refine (q9 PK _).mono ?_;rintro e w4 ⟨rfl,rfl⟩)|(go_at_call 15;refine (q9 PB _ _ _ _ _ _ ((q9 S3).keep (by repeat (first|exact Below.refl _ _|apply Below.drew)))).mono ?_;rintro e w5 ⟨a5,n5,c5,a6,n6,c6,rfl,S5⟩))
      all_goals go_wp2_with fail
      all_goals exact ⟨⟨k+1,by omega,rfl,by rw [q9 H2];exact v7 (q9 S5).drop⟩,by simp [intOf];omega⟩
     ·have UN:Hid (Calls Tryz.prog 19 #[.pointer (some ⟨bb,0,none⟩),.int .i64 id] (wr.alloc (.cells #[.int .i64 id,.string (BS text),.bool true,.slice ea np ec] 69)) fun e W'=>e=.returned (.int .i64 (qe2 L1 id).2)∧Hid (DoAt w0 w F W' bb last1 (qe2 L1 id).1 (.slice va nb vc) bk1 wr.heap.size (some (.cells #[.int .i64 id,.string (BS text),.bool true,.slice ea np ec] 69 (0,0))))):=v7 ((vh8 (q9 DA1) id).mono (by rintro e W' ⟨rfl,h⟩;exact ⟨rfl,v7 h⟩))
      obtain ⟨L2,hL2⟩:∃L2,(qe2 L1 id).1=L2:=⟨_,rfl⟩
      obtain ⟨ue,hue⟩:∃ue,(qe2 L1 id).2=ue:=⟨_,rfl⟩
      rw [hL2,hue] at UN
      rw [hue] at he
      have H1:Hid (qm3 (L1,last1,bk1) ⟨id,text,true,ps,.slice ea ps.length ec⟩=(L2,bk1)):=v7 (by unfold qm3;simp only [hL2,hue,he];simp)
      have hde:decide (ue=0)=false:=decide_eq_false he
      have H2:Hid (doK l (L,last,[]) (k+1)=((qu8 L2 last1 pz ps).1.1,(qu8 L2 last1 pz ps).2.1,bk1)):=v7 (by rw [q9 hstep _ _ (q9 H1),if_pos hp])
      have hdp:decide ((np:Int) > 0)=true:=decide_eq_true (by omega)
      have hdp':decide (0<(np:Int))=true:=decide_eq_true (by omega)
      clear hstep H1 DA1 HX HLEN HR HL OK hL2 hue S0
      go_wp2_with (first|(go_at_call 19;refine (q9 UN).mono ?_;rintro e w2 ⟨rfl,S2⟩;obtain ⟨b0,b1,b2,b3⟩:=(q9 S2).cells))
      go_region_with (first|(go_at_call 21;refine (q9 PK _).mono ?_;rintro e w4 ⟨rfl,rfl⟩)|(go_at_call 15;refine (q9 PB _ _ _ _ _ _ ((q9 S2).keep (by repeat (first|exact Below.refl _ _|apply Below.drew)))).mono ?_;rintro e w5 ⟨a5,n5,c5,a6,n6,c6,rfl,S5⟩))
      all_goals go_wp2_with fail
      all_goals exact ⟨⟨k+1,by omega,rfl,by rw [q9 H2];exact v7 (q9 S5).drop⟩,by simp [intOf];omega⟩
    ·by_cases he:(qe2 L1 id).2=0
     ·have UN:Hid (Calls Tryz.prog 19 #[.pointer (some ⟨bb,0,none⟩),.int .i64 id] (wr.alloc (.cells #[.int .i64 id,.string (BS text),.bool true,.slice ea np ec] 69)) fun e W'=>e=.returned (.int .i64 (qe2 L1 id).2)∧Hid (DoAt w0 w F W' bb last1 (qe2 L1 id).1 (.slice va nb vc) bk1 wr.heap.size (some (.cells #[.int .i64 id,.string (BS text),.bool true,.slice ea np ec] 69 (0,0))))):=v7 ((vh8 (q9 DA1) id).mono (by rintro e W' ⟨rfl,h⟩;exact ⟨rfl,v7 h⟩))
      obtain ⟨L2,hL2⟩:∃L2,(qe2 L1 id).1=L2:=⟨_,rfl⟩
      obtain ⟨ue,hue⟩:∃ue,(qe2 L1 id).2=ue:=⟨_,rfl⟩
      rw [hL2,hue] at UN
      rw [hue] at he
      have H1:Hid (qm3 (L1,last1,bk1) ⟨id,text,true,ps,.slice ea ps.length ec⟩=(L2,vq5 bk1 id)):=v7 (by unfold qm3;simp only [hL2,hue,he];simp)
      subst he
      have WO:Hid (∀U,DoAt w0 w F U bb last1 L2 (.slice va nb vc) bk1 wr.heap.size (some (.cells #[.int .i64 id,.string (BS text),.bool true,.slice ea np ec] 69 (0,0)))→Calls Tryz.prog 28 #[.slice va nb vc,.int .i64 id] U fun e W'=>∃a n2 c,e=.returned (.slice a n2 c)∧Hid (DoAt w0 w F W' bb last1 L2 (.slice a n2 c) (vq5 bk1 id) wr.heap.size (some (.cells #[.int .i64 id,.string (BS text),.bool true,.slice ea np ec] 69 (0,0))))):=v7 fun U hU=>(vs2 hU hnb3 id).mono (by rintro e W' ⟨a,c,rfl,h⟩;exact ⟨a,_,c,rfl,v7 h⟩)
      have H2:Hid (doK l (L,last,[]) (k+1)=(L2,last1,vq5 bk1 id)):=v7 (by rw [q9 hstep _ _ (q9 H1),if_neg hp])
      obtain rfl:np=0:=by omega
      clear hstep H1 DA1 HX HLEN HR HL OK hL2 hue S0
      go_wp2_with (first|(go_at_call 19;refine (q9 UN).mono ?_;rintro e w2 ⟨rfl,S2⟩;obtain ⟨b0,b1,b2,b3⟩:=(q9 S2).cells)|(go_at_call 28;refine (q9 WO _ (q9 S2)).mono ?_;rintro e w3 ⟨a3,n3,c3',rfl,S3⟩;obtain ⟨d0,d1,d2,d3⟩:=(q9 S3).cells))
      exact ⟨⟨k+1,by omega,rfl,by rw [q9 H2];exact v7 (q9 S3).drop⟩,by simp [intOf];omega⟩
     ·have UN:Hid (Calls Tryz.prog 19 #[.pointer (some ⟨bb,0,none⟩),.int .i64 id] (wr.alloc (.cells #[.int .i64 id,.string (BS text),.bool true,.slice ea np ec] 69)) fun e W'=>e=.returned (.int .i64 (qe2 L1 id).2)∧Hid (DoAt w0 w F W' bb last1 (qe2 L1 id).1 (.slice va nb vc) bk1 wr.heap.size (some (.cells #[.int .i64 id,.string (BS text),.bool true,.slice ea np ec] 69 (0,0))))):=v7 ((vh8 (q9 DA1) id).mono (by rintro e W' ⟨rfl,h⟩;exact ⟨rfl,v7 h⟩))
      obtain ⟨L2,hL2⟩:∃L2,(qe2 L1 id).1=L2:=⟨_,rfl⟩
      obtain ⟨ue,hue⟩:∃ue,(qe2 L1 id).2=ue:=⟨_,rfl⟩
      rw [hL2,hue] at UN
      rw [hue] at he
      have H1:Hid (qm3 (L1,last1,bk1) ⟨id,text,true,ps,.slice ea ps.length ec⟩=(L2,bk1)):=v7 (by unfold qm3;simp only [hL2,hue,he];simp)
      have hde:decide (ue=0)=false:=decide_eq_false he
      have H2:Hid (doK l (L,last,[]) (k+1)=(L2,last1,bk1)):=v7 (by rw [q9 hstep _ _ (q9 H1),if_neg hp])
      obtain rfl:np=0:=by omega
      clear hstep H1 DA1 HX HLEN HR HL OK hL2 hue S0
      go_wp2_with (first|(go_at_call 19;refine (q9 UN).mono ?_;rintro e w2 ⟨rfl,S2⟩;obtain ⟨b0,b1,b2,b3⟩:=(q9 S2).cells))
      exact ⟨⟨k+1,by omega,rfl,by rw [q9 H2];exact v7 (q9 S2).drop⟩,by simp [intOf];omega⟩
   | false=>
    by_cases hp:0<np
    ·by_cases he:(qm1 L1 id text).2.1=0
     ·have SU:Hid (Calls Tryz.prog 12 #[.pointer (some ⟨bb,0,none⟩),.int .i64 id,.string (BS text)] (wr.alloc (.cells #[.int .i64 id,.string (BS text),.bool false,.slice ea np ec] 69)) fun e W'=>e=.returned (.tuple #[.int .i64 (qm1 L1 id text).2.1,.int .i64 (qm1 L1 id text).2.2])∧Hid (DoAt w0 w F W' bb last1 (qm1 L1 id text).1 (.slice va nb vc) bk1 wr.heap.size (some (.cells #[.int .i64 id,.string (BS text),.bool false,.slice ea np ec] 69 (0,0))))):=v7 ((jq8 (q9 DA1) (q9 HL) id text (q9 OK).text).mono (by rintro e W' ⟨rfl,h⟩;exact ⟨rfl,v7 h⟩))
      obtain ⟨L2,hL2⟩:∃L2,(qm1 L1 id text).1=L2:=⟨_,rfl⟩
      obtain ⟨ue,hue⟩:∃ue,(qm1 L1 id text).2.1=ue:=⟨_,rfl⟩
      obtain ⟨pe,hpe⟩:∃pe,(qm1 L1 id text).2.2=pe:=⟨_,rfl⟩
      rw [hL2,hue,hpe] at SU
      rw [hue] at he
      have H1:Hid (qm3 (L1,last1,bk1) ⟨id,text,false,ps,.slice ea ps.length ec⟩=(L2,qu7 bk1 (id,text))):=v7 (by unfold qm3;simp only [hL2,hue,he];simp)
      subst he
      have WI:Hid (∀U,DoAt w0 w F U bb last1 L2 (.slice va nb vc) bk1 wr.heap.size (some (.cells #[.int .i64 id,.string (BS text),.bool false,.slice ea np ec] 69 (0,0)))→Calls Tryz.prog 29 #[.slice va nb vc,.agg #[.int .i64 id,.string (BS text)]] U fun e W'=>∃a n2 c,e=.returned (.slice a n2 c)∧Hid (DoAt w0 w F W' bb last1 L2 (.slice a n2 c) (qu7 bk1 (id,text)) wr.heap.size (some (.cells #[.int .i64 id,.string (BS text),.bool false,.slice ea np ec] 69 (0,0))))):=v7 fun U hU=>(do_with hU hnb3 (id,text)).mono (by rintro e W' ⟨a,c,rfl,h⟩;exact ⟨a,_,c,rfl,v7 h⟩)
      have H2:Hid (doK l (L,last,[]) (k+1)=((qu8 L2 last1 pz ps).1.1,(qu8 L2 last1 pz ps).2.1,qu7 bk1 (id,text))):=v7 (by rw [q9 hstep _ _ (q9 H1),if_pos hp])
      have hdp:decide ((np:Int) > 0)=true:=decide_eq_true (by omega)
      have hdp':decide (0<(np:Int))=true:=decide_eq_true (by omega)
      clear hstep H1 DA1 HX HLEN HR HL OK hL2 hue hpe S0
      go_wp2_with (first|(go_at_call 12;refine (q9 SU).mono ?_;rintro e w2 ⟨rfl,S2⟩;obtain ⟨b0,b1,b2,b3⟩:=(q9 S2).cells)|(go_at_call 29;refine (q9 WI _ (q9 S2)).mono ?_;rintro e w3 ⟨a3,n3,c3',rfl,S3⟩;obtain ⟨d0,d1,d2,d3⟩:=(q9 S3).cells))
      go_region_with (first|(go_at_call 21;refine (q9 PK _).mono ?_;rintro e w4 ⟨rfl,rfl⟩)|(go_at_call 15;refine (q9 PB _ _ _ _ _ _ ((q9 S3).keep (by repeat (first|exact Below.refl _ _|apply Below.drew)))).mono ?_;rintro e w5 ⟨a5,n5,c5,a6,n6,c6,rfl,S5⟩))
      all_goals go_wp2_with fail
      all_goals exact ⟨⟨k+1,by omega,rfl,by rw [q9 H2];exact v7 (q9 S5).drop⟩,by simp [intOf];omega⟩
     ·have SU:Hid (Calls Tryz.prog 12 #[.pointer (some ⟨bb,0,none⟩),.int .i64 id,.string (BS text)] (wr.alloc (.cells #[.int .i64 id,.string (BS text),.bool false,.slice ea np ec] 69)) fun e W'=>e=.returned (.tuple #[.int .i64 (qm1 L1 id text).2.1,.int .i64 (qm1 L1 id text).2.2])∧Hid (DoAt w0 w F W' bb last1 (qm1 L1 id text).1 (.slice va nb vc) bk1 wr.heap.size (some (.cells #[.int .i64 id,.string (BS text),.bool false,.slice ea np ec] 69 (0,0))))):=v7 ((jq8 (q9 DA1) (q9 HL) id text (q9 OK).text).mono (by rintro e W' ⟨rfl,h⟩;exact ⟨rfl,v7 h⟩))
      obtain ⟨L2,hL2⟩:∃L2,(qm1 L1 id text).1=L2:=⟨_,rfl⟩
      obtain ⟨ue,hue⟩:∃ue,(qm1 L1 id text).2.1=ue:=⟨_,rfl⟩
      obtain ⟨pe,hpe⟩:∃pe,(qm1 L1 id text).2.2=pe:=⟨_,rfl⟩
      rw [hL2,hue,hpe] at SU
      rw [hue] at he
      have H1:Hid (qm3 (L1,last1,bk1) ⟨id,text,false,ps,.slice ea ps.length ec⟩=(L2,bk1)):=v7 (by unfold qm3;simp only [hL2,hue,he];simp)
      have hde:decide (ue=0)=false:=decide_eq_false he
      have H2:Hid (doK l (L,last,[]) (k+1)=((qu8 L2 last1 pz ps).1.1,(qu8 L2 last1 pz ps).2.1,bk1)):=v7 (by rw [q9 hstep _ _ (q9 H1),if_pos hp])
      have hdp:decide ((np:Int) > 0)=true:=decide_eq_true (by omega)
      have hdp':decide (0<(np:Int))=true:=decide_eq_true (by omega)
      clear hstep H1 DA1 HX HLEN HR HL OK hL2 hue hpe S0
      go_wp2_with (first|(go_at_call 12;refine (q9 SU).mono ?_;rintro e w2 ⟨rfl,S2⟩;obtain ⟨b0,b1,b2,b3⟩:=(q9 S2).cells))
      go_region_with (first|(go_at_call 21;refine (q9 PK _).mono ?_;rintro e w4 ⟨rfl,rfl⟩)|(go_at_call 15;refine (q9 PB _ _ _ _ _ _ ((q9 S2).keep (by repeat (first|exact Below.refl _ _|apply Below.drew)))).mono ?_;rintro e w5 ⟨a5,n5,c5,a6,n6,c6,rfl,S5⟩))
      all_goals go_wp2_with fail
      all_goals exact ⟨⟨k+1,by omega,rfl,by rw [q9 H2];exact v7 (q9 S5).drop⟩,by simp [intOf];omega⟩
    ·by_cases he:(qm1 L1 id text).2.1=0
     ·have SU:Hid (Calls Tryz.prog 12 #[.pointer (some ⟨bb,0,none⟩),.int .i64 id,.string (BS text)] (wr.alloc (.cells #[.int .i64 id,.string (BS text),.bool false,.slice ea np ec] 69)) fun e W'=>e=.returned (.tuple #[.int .i64 (qm1 L1 id text).2.1,.int .i64 (qm1 L1 id text).2.2])∧Hid (DoAt w0 w F W' bb last1 (qm1 L1 id text).1 (.slice va nb vc) bk1 wr.heap.size (some (.cells #[.int .i64 id,.string (BS text),.bool false,.slice ea np ec] 69 (0,0))))):=v7 ((jq8 (q9 DA1) (q9 HL) id text (q9 OK).text).mono (by rintro e W' ⟨rfl,h⟩;exact ⟨rfl,v7 h⟩))
      obtain ⟨L2,hL2⟩:∃L2,(qm1 L1 id text).1=L2:=⟨_,rfl⟩
      obtain ⟨ue,hue⟩:∃ue,(qm1 L1 id text).2.1=ue:=⟨_,rfl⟩
      obtain ⟨pe,hpe⟩:∃pe,(qm1 L1 id text).2.2=pe:=⟨_,rfl⟩
      rw [hL2,hue,hpe] at SU
      rw [hue] at he
      have H1:Hid (qm3 (L1,last1,bk1) ⟨id,text,false,ps,.slice ea ps.length ec⟩=(L2,qu7 bk1 (id,text))):=v7 (by unfold qm3;simp only [hL2,hue,he];simp)
      subst he
      have WI:Hid (∀U,DoAt w0 w F U bb last1 L2 (.slice va nb vc) bk1 wr.heap.size (some (.cells #[.int .i64 id,.string (BS text),.bool false,.slice ea np ec] 69 (0,0)))→Calls Tryz.prog 29 #[.slice va nb vc,.agg #[.int .i64 id,.string (BS text)]] U fun e W'=>∃a n2 c,e=.returned (.slice a n2 c)∧Hid (DoAt w0 w F W' bb last1 L2 (.slice a n2 c) (qu7 bk1 (id,text)) wr.heap.size (some (.cells #[.int .i64 id,.string (BS text),.bool false,.slice ea np ec] 69 (0,0))))):=v7 fun U hU=>(do_with hU hnb3 (id,text)).mono (by rintro e W' ⟨a,c,rfl,h⟩;exact ⟨a,_,c,rfl,v7 h⟩)
      have H2:Hid (doK l (L,last,[]) (k+1)=(L2,last1,qu7 bk1 (id,text))):=v7 (by rw [q9 hstep _ _ (q9 H1),if_neg hp])
      obtain rfl:np=0:=by omega
      clear hstep H1 DA1 HX HLEN HR HL OK hL2 hue hpe S0
      go_wp2_with (first|(go_at_call 12;refine (q9 SU).mono ?_;rintro e w2 ⟨rfl,S2⟩;obtain ⟨b0,b1,b2,b3⟩:=(q9 S2).cells)|(go_at_call 29;refine (q9 WI _ (q9 S2)).mono ?_;rintro e w3 ⟨a3,n3,c3',rfl,S3⟩;obtain ⟨d0,d1,d2,d3⟩:=(q9 S3).cells))
      exact ⟨⟨k+1,by omega,rfl,by rw [q9 H2];exact v7 (q9 S3).drop⟩,by simp [intOf];omega⟩
     ·have SU:Hid (Calls Tryz.prog 12 #[.pointer (some ⟨bb,0,none⟩),.int .i64 id,.string (BS text)] (wr.alloc (.cells #[.int .i64 id,.string (BS text),.bool false,.slice ea np ec] 69)) fun e W'=>e=.returned (.tuple #[.int .i64 (qm1 L1 id text).2.1,.int .i64 (qm1 L1 id text).2.2])∧Hid (DoAt w0 w F W' bb last1 (qm1 L1 id text).1 (.slice va nb vc) bk1 wr.heap.size (some (.cells #[.int .i64 id,.string (BS text),.bool false,.slice ea np ec] 69 (0,0))))):=v7 ((jq8 (q9 DA1) (q9 HL) id text (q9 OK).text).mono (by rintro e W' ⟨rfl,h⟩;exact ⟨rfl,v7 h⟩))
      obtain ⟨L2,hL2⟩:∃L2,(qm1 L1 id text).1=L2:=⟨_,rfl⟩
      obtain ⟨ue,hue⟩:∃ue,(qm1 L1 id text).2.1=ue:=⟨_,rfl⟩
      obtain ⟨pe,hpe⟩:∃pe,(qm1 L1 id text).2.2=pe:=⟨_,rfl⟩
      rw [hL2,hue,hpe] at SU
      rw [hue] at he
      have H1:Hid (qm3 (L1,last1,bk1) ⟨id,text,false,ps,.slice ea ps.length ec⟩=(L2,bk1)):=v7 (by unfold qm3;simp only [hL2,hue,he];simp)
      have hde:decide (ue=0)=false:=decide_eq_false he
      have H2:Hid (doK l (L,last,[]) (k+1)=(L2,last1,bk1)):=v7 (by rw [q9 hstep _ _ (q9 H1),if_neg hp])
      obtain rfl:np=0:=by omega
      clear hstep H1 DA1 HX HLEN HR HL OK hL2 hue hpe S0
      go_wp2_with (first|(go_at_call 12;refine (q9 SU).mono ?_;rintro e w2 ⟨rfl,S2⟩;obtain ⟨b0,b1,b2,b3⟩:=(q9 S2).cells))
      exact ⟨⟨k+1,by omega,rfl,by rw [q9 H2];exact v7 (q9 S2).drop⟩,by simp [intOf];omega⟩
  ·have hkn:k=n:=by omega
   subst hkn
   obtain ⟨a2,c2,e2⟩:∃a c,u5=.slice a (doK l (L,last,[]) k).2.2.length c:=by
    obtain ⟨_,_,_,_,h3,_⟩:=q9 DA
    exact qc1 h3
   subst e2
   go_wp2_with fail
   go_ret
   exact ⟨a2,c2,rfl,q9 DA⟩
end Go.Proofs.YtfkcaldjphakpabGreatDoor
