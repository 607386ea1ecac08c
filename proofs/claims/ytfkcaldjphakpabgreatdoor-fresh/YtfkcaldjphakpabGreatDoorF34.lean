/- Gone: what comes of it. Gone: the book covers what there is. The book, and what there is. Fresh: what a broker made anew of the book has, and a program of its texts. Twins: brokers beside one another. Three brokers beside one another, and rows of numbers beside them. Two brokers beside one another, and rows beside them. Fresh of any script and any event. A script as an argument of a law. -/
import Derived.Test.YtfkcaldjphakpabGreatDoorWDo3
import Derived.Test.YtfkcaldjphakpabGreatDoorF33
import Derived.Test.YtfkcaldjphakpabGreatDoorF22
import Derived.Test.YtfkcaldjphakpabGreatDoorF30
import Derived.Deep.QuietTactic
import Derived.BigQuiet
import Derived.Test.YtfkcaldjphakpabGreatDoorF35
import Derived.Lib.SmallJoins
set_option maxHeartbeats 8000000
set_option maxRecDepth 100000
namespace Go.Proofs.YtfkcaldjphakpabGreatDoor
open Go.RowKit
section
def va6 (L:List Su):Nat:=(qe3 L).1.length
theorem nodes_br {w:World} {F:Nat→Prop} {bb:Nat} {last:Int} {L:List Su} (h:Br w F bb last L):Calls Tryz.prog 18 #[.pointer (some ⟨bb,0,none⟩)] w fun e w'=>e=.returned (.int .i64 (va6 L))∧w'=w:=by
 obtain ⟨hF,sv,tv,rv,l,hB,hL,hfoot⟩:=h
 obtain ⟨a,c,e⟩:=qc1 hB.rows.ats
 have hc:=hB.cells.2.2.1
 rw [e] at hc
 have hn:(tsX l).length=va6 L:=by unfold va6;rw [←hL,qv8]
 rw [hn] at hc
 exact nodes_any bb (va6 L) a c w hc
end
section
theorem vu4 (L:List Su) (id:Int):(qe2 L id).1=delS L id:=by
 unfold qe2
 split
 ·rfl
 ·rename_i h
  unfold delS
  symm
  rw [List.filter_eq_self]
  intro x hx
  have:x.id≠id:=fun e=>h (List.any_eq_true.2 ⟨x,hx,by simpa using e⟩)
  simpa using this
theorem ScrAt.below {w w':World} {v:Value} {l:List Sc} (h:ScrAt w v l) (hb:Below w.heap.size w w'):ScrAt w' v l:=by
 obtain ⟨a,cap,hv,hl,hc,hx⟩:=h
 refine ⟨a,cap,hv,hl,hc,fun i x hi=>?_⟩
 obtain ⟨ok,b,off,ha,hlt,c0,c1,c2,c3⟩:=hx i x hi
 exact ⟨⟨ok.text,ok.id,ok.ev.below hb,ok.good⟩,b,off,ha,Nat.lt_of_lt_of_le hlt hb.size,(hb.cell (p:=⟨b,off+i * 4,none⟩) hlt).trans c0,(hb.cell (p:=⟨b,off+i * 4+1,none⟩) hlt).trans c1,(hb.cell (p:=⟨b,off+i * 4+2,none⟩) hlt).trans c2,(hb.cell (p:=⟨b,off+i * 4+3,none⟩) hlt).trans c3⟩
end
section
def coT (s:List UInt8):Co:=match qj8 (BS s) with
 | .ok t=>j7 t
 | .err _ _=>.leaf ⟨3,0,[],[]⟩
theorem coT_ok {s:List UInt8} {t:Ast} (h:qj8 (BS s)=.ok t):coT s=j7 t:=by unfold coT;rw [h]
theorem vt3 {s:List UInt8} {t:Ast} (h:qj8 (BS s)=.ok t):s.length≤200:=by
 unfold qj8 at h
 by_cases hs:(BS s).size≤200
 ·rw [qc0] at hs;exact hs
 ·rw [if_neg hs] at h;cases h
def prS (x:Su):Int×Co:=(x.id,x.co)
def prB (b:Lv):Int×Co:=(b.1,coT b.2)
structure BookOk (L:List Su) (bk:List Lv):Prop where
 same:L.map prS=bk.map prB
 rise:bk.Pairwise fun a b=>a.1<b.1
 reads:∀b∈bk,∃t,qj8 (BS b.2)=.ok t
theorem vj0 (v:Int):∀(l:List Lv),l.Pairwise (fun a b=>a.1<b.1)→∀(j:Nat) (y:Lv),l[j]?=some y→(y.1<v↔j<l.countP fun a=>decide (a.1<v)):=by
 intro l
 induction l with
 | nil=>intro _ j y h;simp at h
 | cons a l ih=>
  intro hp j y hy
  obtain ⟨h1,h2⟩:=List.pairwise_cons.1 hp
  by_cases ha:a.1<v
  ·rw [List.countP_cons_of_pos (by simpa using ha)]
   cases j with
   | zero=>simp at hy;subst hy;exact ⟨fun _=>by omega,fun _=>ha⟩
   | succ j=>
    have:=ih h2 j y (by simpa using hy)
    rw [this]
    omega
  ·have h0:l.countP (fun a=>decide (a.1<v))=0:=List.countP_eq_zero.2 fun b hb=>by
    have:=h1 b hb
    simp
    omega
   rw [List.countP_cons_of_neg (by simpa using ha),h0]
   refine ⟨fun hlt=>?_,fun hlt=>by omega⟩
   cases j with
   | zero=>simp at hy;subst hy;exact absurd hlt ha
   | succ j=>
    have:=h1 y (List.mem_of_getElem? (by simpa using hy))
    omega
theorem withK_at (l:List Lv) (hp:l.Pairwise fun a b=>a.1<b.1) (x:Lv) (hn:∀b∈l,b.1≠x.1) (c:Nat) (hc:l.countP (fun a=>decide (a.1<x.1))=c):∀k,k≤l.length→qf3 l x k=if k≤c then (l.take k,false) else (l.take c++x::(l.take k).drop c,true):=by
 intro k
 induction k with
 | zero=>intro _;rw [if_pos (Nat.zero_le _)];simp [qf3]
 | succ k ih=>
  intro hk
  have hx:l[k]?=some l[k]:=List.getElem?_eq_getElem (by omega)
  have hs:=vj0 x.1 l hp k _ hx
  rw [hc] at hs
  have hne:=hn l[k] (List.getElem_mem _)
  have ht:l.take (k+1)=l.take k++[l[k]]:=by rw [List.take_add_one,hx];rfl
  have ih:=ih (by omega)
  rw [qf3,hx]
  simp only
  by_cases h1:k<c
  ·have h2:l[k].1<x.1:=hs.2 h1
   rw [if_pos (show k≤c by omega)] at ih
   rw [ih,if_pos (show k+1≤c by omega),if_neg (by simp only;omega),ht]
  ·have h2:¬l[k].1<x.1:=fun h=>h1 (hs.1 h)
   by_cases h3:k=c
   ·subst h3
    rw [if_pos (Nat.le_refl _)] at ih
    have hd:(l.take k).drop k=[]:=List.drop_eq_nil_of_le (by rw [List.length_take];omega)
    rw [ih,if_neg (show ¬k+1≤k by omega),if_pos (by simp only;exact ⟨trivial,by omega⟩),ht,List.drop_append_of_le_length (by rw [List.length_take];omega),hd]
    simp
   ·rw [if_neg (show ¬k≤c by omega)] at ih
    rw [ih,if_neg (show ¬k+1≤c by omega),if_neg (by simp),ht,List.drop_append_of_le_length (by rw [List.length_take];omega)]
    simp
theorem vy4 (l:List Lv) (hp:l.Pairwise fun a b=>a.1<b.1) (x:Lv) (hn:∀b∈l,b.1≠x.1):qu7 l x=l.take (l.countP fun a=>decide (a.1<x.1))++x::l.drop (l.countP fun a=>decide (a.1<x.1)):=by
 obtain ⟨c,hc⟩:∃c,l.countP (fun a=>decide (a.1<x.1))=c:=⟨_,rfl⟩
 have hcl:c≤l.length:=by rw [←hc];exact List.countP_le_length
 unfold qu7
 rw [withK_at l hp x hn c hc l.length (Nat.le_refl _),hc]
 by_cases h:l.length≤c
 ·have:c=l.length:=by omega
  subst this
  rw [if_pos (Nat.le_refl _)]
  simp
 ·rw [if_neg h]
  simp
theorem ins_rise {l:List Lv} (hp:l.Pairwise fun a b=>a.1<b.1) (x:Lv) (hn:∀b∈l,b.1≠x.1):(qu7 l x).Pairwise fun a b=>a.1<b.1:=by
 rw [vy4 l hp x hn]
 obtain ⟨c,hc⟩:∃c,l.countP (fun a=>decide (a.1<x.1))=c:=⟨_,rfl⟩
 rw [hc]
 have hl:∀a∈l.take c,a.1<x.1:=fun a ha=>by
  obtain ⟨j,hj⟩:=List.getElem?_of_mem ha
  have hjl:=(List.getElem?_eq_some_iff.1 hj).1
  rw [List.length_take] at hjl
  rw [List.getElem?_take_of_lt (by omega)] at hj
  exact (vj0 x.1 l hp j a hj).2 (by omega)
 have hr:∀a∈l.drop c,x.1<a.1:=fun a ha=>by
  obtain ⟨j,hj⟩:=List.getElem?_of_mem ha
  rw [List.getElem?_drop] at hj
  have h1:=vj0 x.1 l hp (c+j) a hj
  have h2:=hn a (List.mem_of_getElem? hj)
  omega
 have hp':=hp
 rw [←List.take_append_drop c l,List.pairwise_append] at hp'
 rw [List.pairwise_append,List.pairwise_cons]
 refine ⟨hp'.1,⟨hr,hp'.2.1⟩,fun a ha b hb=>?_⟩
 rcases List.mem_cons.1 hb with rfl|hb
 ·exact hl a ha
 ·have:=hl a ha
  have:=hr b hb
  omega
theorem vt2 (m:Mg) (st:List Su×List Int×List Int) (p:Nat):(qg6 m st p).1.map prS=st.1.map prS:=by
 unfold qg6
 split
 ·rfl
 ·rename_i x hx
  split
  ·rfl
  ·simp only
   rw [List.map_set]
   apply List.ext_getElem?
   intro j
   rw [List.getElem?_set]
   split
   ·rename_i e
    subst e
    have hl:=(List.getElem?_eq_some_iff.1 hx).1
    rw [if_pos (by rw [List.length_map];exact hl),List.getElem?_map,hx]
    rfl
   ·rfl
theorem vt1 (m:Mg):∀(pos:List Nat) (st:List Su×List Int×List Int),(pos.foldl (qg6 m) st).1.map prS=st.1.map prS∧(pos.foldl (qg6 m) st).2.1=st.2.1++pos.filterMap fun p=>(st.1.map prS)[p]?.map Prod.fst:=by
 intro pos
 induction pos with
 | nil=>intro st;simp
 | cons p pos ih=>
  intro st
  obtain ⟨h1,h2⟩:=ih (qg6 m st p)
  rw [List.foldl_cons]
  refine ⟨h1.trans (vt2 m st p), ?_⟩
  rw [h2,vt2]
  have e:(qg6 m st p).2.1=st.2.1++([p].filterMap fun p=>(st.1.map prS)[p]?.map Prod.fst):=by
   unfold qg6
   split
   ·rename_i hx
    simp [hx]
   ·rename_i x hx
    split<;>simp [hx,prS]
  rw [e,List.append_assoc,←List.filterMap_append]
  rfl
theorem pubA_pr (L:List Su) (last pri:Int) (ps:List Pr):(qu8 L last pri ps).1.1.map prS=L.map prS:=by
 unfold qu8
 split
 ·exact (vt1 _ _ _).1
 ·rfl
theorem BookOk.ids {L:List Su} {bk:List Lv} (h:BookOk L bk):L.map Su.id=bk.map Prod.fst:=by
 have:=congrArg (List.map Prod.fst) h.same
 rw [List.map_map,List.map_map] at this
 exact this
theorem BookOk.any {L:List Su} {bk:List Lv} (h:BookOk L bk) (id:Int):(L.any fun x=>x.id==id)=bk.any fun b=>b.1==id:=by
 have e1:(L.any fun x=>x.id==id)=(L.map Su.id).any fun i=>i==id:=by rw [List.any_map];rfl
 have e2:(bk.any fun b=>b.1==id)=(bk.map Prod.fst).any fun i=>i==id:=by rw [List.any_map];rfl
 rw [e1,e2,h.ids]
theorem book_one {st:List Su×Int×List Lv} {x:Sc} (h:BookOk st.1 st.2.2):BookOk (qm3 st x).1 (qm3 st x).2:=by
 unfold qm3
 split
 ·simp only
  rw [vu4]
  split
  ·refine ⟨?_,h.rise.sublist List.filter_sublist,fun b hb=>h.reads b (List.mem_filter.1 hb).1⟩
   unfold delS vq5
   have e1:(st.1.filter fun y=>!(y.id==x.id)).map prS=(st.1.map prS).filter fun p=>!(p.1==x.id):=by rw [List.filter_map];rfl
   have e2:(st.2.2.filter fun y=>!(y.1==x.id)).map prB=(st.2.2.map prB).filter fun p=>!(p.1==x.id):=by rw [List.filter_map];rfl
   rw [e1,e2,h.same]
  ·rename_i hne
   have e:delS st.1 x.id=st.1:=by
    rw [←vu4]
    unfold qe2 at hne ⊢
    split
    ·rename_i hy;rw [if_pos hy] at hne;exact absurd rfl hne
    ·rfl
   rw [e]
   exact h
 ·simp only
  unfold qm1
  split
  ·exact h
  ·rename_i hno
   split
   ·rename_i en pl hrd
    have:=qs8 hrd
    rw [if_neg (by simp only;omega)]
    exact h
   ·rename_i t hrd
    split
    ·exact h
    ·split
     ·exact h
     ·simp only
      rw [if_pos trivial]
      have hn:∀b∈st.2.2,b.1≠x.id:=fun b hb e=>by
       rw [h.any] at hno
       exact hno (List.any_eq_true.2 ⟨b,hb,by simpa using e⟩)
      refine ⟨?_,ins_rise h.rise _ hn, ?_⟩
      ·rw [vy4 _ h.rise _ hn]
       have ec:qk5 st.1 x.id=st.2.2.countP fun a=>decide (a.1<x.id):=by
        have e1:qk5 st.1 x.id=(st.1.map prS).countP fun p=>decide (p.1<x.id):=by unfold qk5;rw [List.countP_map];rfl
        have e2:(st.2.2.countP fun a=>decide (a.1<x.id))=(st.2.2.map prB).countP fun p=>decide (p.1<x.id):=by rw [List.countP_map];rfl
        rw [e1,e2,h.same]
       unfold vw2
       rw [ec,List.map_append,List.map_append,List.map_cons,List.map_cons,List.map_take,List.map_drop,List.map_take,List.map_drop,h.same]
       congr 2
       show (x.id,j7 t)=(x.id,coT x.text)
       rw [coT_ok hrd]
      ·intro b hb
       rw [vy4 _ h.rise _ hn] at hb
       rcases List.mem_append.1 hb with hb|hb
       ·exact h.reads b (List.mem_of_mem_take hb)
       ·rcases List.mem_cons.1 hb with rfl|hb
        ·exact ⟨t,hrd⟩
        ·exact h.reads b (List.mem_of_mem_drop hb)
theorem book_step {st:List Su×Int×List Lv} {x:Sc} (h:BookOk st.1 st.2.2):BookOk (qw5 st x).1 (qw5 st x).2.2:=by
 have h1:=book_one (x:=x) h
 unfold qw5
 split
 ·exact ⟨(pubA_pr _ _ _ _).trans h1.same,h1.rise,h1.reads⟩
 ·exact h1
theorem book_do (l:List Sc):∀(st:List Su×Int×List Lv),BookOk st.1 st.2.2→BookOk (doR l st).1 (doR l st).2.2:=by
 induction l with
 | nil=>intro st h;exact h
 | cons x r ih=>intro st h;exact ih _ (book_step h)
theorem book_all (l:List Sc):BookOk (doR l ([],0,[])).1 (doR l ([],0,[])).2.2:=book_do l _ ⟨rfl,List.Pairwise.nil,fun b hb=>by simp at hb⟩
end
section
def qj1 (bk:List Lv) (k:Nat):List Su:=(bk.take k).map fun b=>⟨b.1,coT b.2,[]⟩
theorem vc0 {bk:List Lv} {k:Nat} (h:k≤bk.length):(qj1 bk k).length=k:=by unfold qj1;rw [List.length_map,List.length_take];omega
theorem ji3 {bk:List Lv} {k:Nat} {b:Lv} (h:bk[k]?=some b):qj1 bk (k+1)=qj1 bk k++[⟨b.1,coT b.2,[]⟩]:=by
 unfold qj1
 rw [List.take_add_one,h,List.map_append]
 rfl
theorem BookOk.core {L:List Su} {bk:List Lv} (h:BookOk L bk) {b:Lv} (hb:b∈bk):∃y∈L,coT b.2=y.co:=by
 have:prB b∈L.map prS:=by rw [h.same];exact List.mem_map.2 ⟨b,hb,rfl⟩
 obtain ⟨y,hy,e⟩:=List.mem_map.1 this
 exact ⟨y,hy,(congrArg Prod.snd e).symm⟩
theorem BookOk.cos {L:List Su} {bk:List Lv} (h:BookOk L bk):L.map Su.co=bk.map fun b=>coT b.2:=by
 have:=congrArg (List.map Prod.snd) h.same
 rw [List.map_map,List.map_map] at this
 exact this
theorem BookOk.length {L:List Su} {bk:List Lv} (h:BookOk L bk):bk.length=L.length:=by
 have:=congrArg List.length h.same
 rw [List.length_map,List.length_map] at this
 exact this.symm
theorem BookOk.ok {L:List Su} {bk:List Lv} (h:BookOk L bk) {b:Lv} (hb:b∈bk):CoreOk (coT b.2)∧qx5 (coT b.2)∧TxOk b.2 (coT b.2):=by
 obtain ⟨t,ht⟩:=h.reads b hb
 have hc:=core_ok ht
 have hs:=vt3 ht
 rw [coT_ok ht]
 exact ⟨hc,bins_core t (ve8 ht).2.2.1,t,ht,rfl,fun _=>amongOk,jr4 hc.fld,hc.size,by omega⟩
section
variable {L:List Su} {bk:List Lv}
theorem sub_fresh (h:BookOk L bk) (hg:qx2 L) (h8:L.length≤8) (h80:(qe3 L).1.length≤80) {k:Nat} {b:Lv} (hb:bk[k]?=some b):qm1 (qj1 bk k) b.1 b.2=(qj1 bk (k+1),0,0):=by
 have hk:=(List.getElem?_eq_some_iff.1 hb).1
 have hlen:=h.length
 have hlt:∀x∈qj1 bk k,x.id<b.1:=fun x hx=>by
  obtain ⟨c,hc,rfl⟩:=List.mem_map.1 hx
  obtain ⟨j,hj⟩:=List.getElem?_of_mem hc
  have hjl:=(List.getElem?_eq_some_iff.1 hj).1
  rw [List.length_take] at hjl
  rw [List.getElem?_take_of_lt (by omega)] at hj
  have hp:=List.pairwise_iff_getElem.1 h.rise j k (by omega) hk (by omega)
  rw [(List.getElem?_eq_some_iff.1 hj).2,(List.getElem?_eq_some_iff.1 hb).2] at hp
  exact hp
 have hno:¬((qj1 bk k).any fun x=>x.id==b.1)=true:=fun e=>by
  obtain ⟨x,hx,e⟩:=List.any_eq_true.1 e
  have e:x.id=b.1:=by simpa using e
  have:=hlt x hx
  omega
 obtain ⟨t,ht⟩:=h.reads b (List.mem_of_getElem? hb)
 have hpl:qk5 (qj1 bk k) b.1=(qj1 bk k).length:=by
  unfold qk5
  rw [List.countP_eq_length]
  exact fun x hx=>by simpa using hlt x hx
 have hins:vw2 (qj1 bk k) (qk5 (qj1 bk k) b.1) ⟨b.1,j7 t,[]⟩=qj1 bk (k+1):=by
  unfold vw2
  rw [hpl,List.take_length,List.drop_length,ji3 hb,coT_ok ht]
 have hle:(qe3 (qj1 bk (k+1))).1.length≤(qe3 L).1.length:=js6 hg fun x hx=>by
  obtain ⟨c,hc,rfl⟩:=List.mem_map.1 hx
  exact h.core (List.mem_of_mem_take hc)
 unfold qm1
 rw [if_neg hno,ht]
 simp only
 rw [hins,if_neg (by rw [vc0 (by omega)];omega),if_neg (by omega)]
theorem jm3 (h:BookOk L bk):qe3 (qj1 bk bk.length)=qe3 L:=by
 unfold qe3
 rw [vc0 (Nat.le_refl _),h.length,h.cos]
 congr 1
 unfold qj1
 rw [←h.length,List.take_length,List.map_map]
 rfl
theorem progS_pr {L L':List Su} (h:L'.map prS=L.map prS):qe3 L'=qe3 L:=by
 have e:L'.map Su.co=L.map Su.co:=by
  have:=congrArg (List.map Prod.snd) h
  rw [List.map_map,List.map_map] at this
  exact this
 have el:L'.length=L.length:=by
  have:=congrArg List.length h
  rw [List.length_map,List.length_map] at this
  exact this
 unfold qe3
 rw [e,el]
theorem jq0 (h:BookOk L bk):∀t∈(qe3 L).1,PutT t:=by
 unfold qe3
 have:=addK_put (cs:=L.map Su.co) (fun c hc=>by
  rw [h.cos] at hc
  obtain ⟨b,hb,rfl⟩:=List.mem_map.1 hc
  exact ⟨(h.ok hb).1,(h.ok hb).2.1⟩) L.length (by rw [List.length_map];exact Nat.le_refl _)
 exact this
theorem run_book (h:BookOk L bk) (hp:PrgS L) (ps:List Pr):za7 (qr3 (qe3 L).1 (qe3 L).2) ps=if ve2 ps then (jr9 ps L,0) else ([],7):=by
 have hput:=jq0 h
 have ho:∀t∈(qe3 L).1,OpT t.op:=fun t ht=>(hput t ht).1
 unfold za7
 rw [jz8 hp ho]
 simp only [if_true]
 rw [metR_norm ps _ _ ho]
 rfl
theorem met_ids (L:List Su) (ps:List Pr) (m:Mg):(pubR m L (jr9 ps L)).2.1=(jr9 ps L).map fun p=>(L.map Su.id).getD p 0:=by
 unfold pubR
 rw [(vt1 m _ _).2,List.nil_append]
 have hlt:=jk1 ps L
 generalize jr9 ps L=pos at hlt
 induction pos with
 | nil=>rfl
 | cons p pos ih=>
  have hp:p<L.length:=hlt p (List.mem_cons_self ..)
  have hx:L[p]?=some L[p]:=List.getElem?_eq_getElem hp
  rw [List.map_cons,←ih fun q hq=>hlt q (List.mem_cons_of_mem _ hq),List.filterMap_cons]
  simp [hx,prS]
theorem ja7 (h:BookOk L bk) (hp:PrgS L) (h8:L.length≤8) (a:Option Addr) (cap:Nat) (w:World) (hL:LibOk w) (hss:∀(k:Nat) (b:Lv),bk[k]?=some b→∃sb so,a=some ⟨sb,so,none⟩∧sb<w.heap.size∧w.cell? ⟨sb,so+k,none⟩=some (.string (BS b.2))) :
  Calls Tryz.prog 13 #[.slice a bk.length cap] w fun e w'=>∃v,e=.returned (.tuple #[v,.int .i64 0,.int .i64 0])∧OB w' w.heap.size v (qr3 (qe3 L).1 (qe3 L).2)∧Below w.heap.size w w':=by
 have hl:=h.length
 have hput:=jq0 h
 have e:qf5 (bk.map fun b=>coT b.2) (bk.map Prod.snd).length=qe3 L:=by unfold qe3;rw [h.cos,List.length_map,hl]
 have hlen:(bk.map Prod.snd).length=bk.length:=List.length_map _
 have:=vr9 (bk.map Prod.snd) (bk.map fun b=>coT b.2) (by rw [List.length_map,List.length_map]) (by omega) (fun k s c hs hc=>by
   rw [List.getElem?_map] at hs hc
   cases hb:bk[k]? with
   | none=>rw [hb] at hs;cases hs
   | some b=>
    rw [hb] at hs hc
    cases hs
    cases hc
    exact (h.ok (List.mem_of_getElem? hb)).2.2) (fun k hk=>by
   have:=addK_mono (bk.map fun b=>coT b.2) k _ hk
   rw [e] at this
   have:=hp.terms
   omega) (by
   rw [e]
   intro t ht
   obtain ⟨i,hi⟩:=List.getElem?_of_mem ht
   have hlt:=(List.getElem?_eq_some_iff.1 hi).1
   have hs:=small_put (hp.fits i t hi) (hput t ht) (by have:=hp.terms;omega)
   exact ⟨hs,vy7 t hs (hput t ht).1⟩) a cap w hL (fun k s hs=>by
   rw [List.getElem?_map] at hs
   cases hb:bk[k]? with
   | none=>rw [hb] at hs;cases hs
   | some b=>
    rw [hb] at hs
    cases hs
    exact hss k b hb) (fun e w'=>∃v,e=.returned (.tuple #[v,.int .i64 0,.int .i64 0])∧OB w' w.heap.size v (qr3 (qe3 L).1 (qe3 L).2)∧Below w.heap.size w w') (fun v w' h1 h2=>by
   rw [e] at h1
   exact ⟨v,rfl,h1,h2⟩)
 rw [hlen] at this
 exact this
end
end
section
theorem sameZ (l:List Int) (va vb:Value) (ba bb:Nat) (w:World) (ha:ZsAt w ba va l) (hb:ZsAt w bb vb l) (h8:l.length≤1000) :
  Calls Tryz.prog 17 #[va,vb] w fun e w'=>e=.returned (.bool true)∧Below w.heap.size w w':=by
 have HA:Hid (∀k x,l[k]?=some x→∃g,va.ownBlock=some g∧g<w.heap.size∧w.cell? ⟨g,k,none⟩=some (.int .i64 x)):=v7 fun k x hk=>by
  obtain ⟨g,c,hv,hc⟩:=ha.cell hk
  have e:va.ownBlock=some g:=by rw [hv];rfl
  exact ⟨g,e,(ha.lt g e).2,hc⟩
 have HB:Hid (∀k x,l[k]?=some x→∃g,vb.ownBlock=some g∧g<w.heap.size∧w.cell? ⟨g,k,none⟩=some (.int .i64 x)):=v7 fun k x hk=>by
  obtain ⟨g,c,hv,hc⟩:=hb.cell hk
  have e:vb.ownBlock=some g:=by rw [hv];rfl
  exact ⟨g,e,(hb.lt g e).2,hc⟩
 have F0:∀{v:Value} {b:Nat},ZsAt w b v l→(∃g c,v=.slice (some ⟨g,0,none⟩) l.length c)∨(v=.slice none 0 0∧l.length=0):=fun h=>by
  rcases qc8 h with h|⟨g,c,rfl⟩
  ·exact .inr h
  ·exact .inl ⟨g,c,rfl⟩
 obtain ⟨n,hn⟩:∃n,l.length=n:=⟨_,rfl⟩
 have FA:=F0 ha
 have FB:=F0 hb
 rw [hn] at h8 FA FB
 have HN:=v7 hn
 clear ha hb hn F0
 rcases FA with ⟨ga,ca,rfl⟩|⟨rfl,rfl⟩<;>rcases FB with ⟨gb,cb,rfl⟩|⟨rfl,h0⟩
 ·go_enter Tryz.func17,Tryz.ntmps17
  go_wp2_with fail
  go_loopw [5] (fun i wr=>∃k:Nat,k≤n∧i=.int .i64 k∧Hid (Below w.heap.size w wr)) (fun i _=>n - (intOf i).toNat)
  case atStart=>exact ⟨0,Nat.zero_le _,rfl,v7 (Below.refl _ _)⟩
  case round=>
   obtain ⟨k,hk,rfl,HW⟩:=hrel
   by_cases hlt:k<n
   ·obtain ⟨x,hx⟩:∃x,l[k]?=some x:=⟨_,List.getElem?_eq_getElem (by have:=q9 HN;omega)⟩
    obtain ⟨g,e1,glt,t0⟩:=q9 HA k x hx
    obtain ⟨g',e2,glt',t1⟩:=q9 HB k x hx
    simp [Value.ownBlock] at e1 e2
    subst e1 e2
    obtain ⟨hcB,hfB⟩:=j6 (q9 HW)
    rw [←hcB _ k glt] at t0
    rw [←hcB _ k glt'] at t1
    have hk0:(0:Int)≤(k:Int):=by omega
    have hk1:(k:Int)<(n:Int):=by omega
    clear hcB hfB hx
    go_wp2_with fail
    go_quiet (fail)
    go_wp2_with fail
    exact ⟨⟨k+1,by omega,rfl,v7 (Go.below_drewN (q9 HW) _)⟩,by simp [intOf];omega⟩
   ·have:k=n:=by omega
    subst this
    go_wp2_with fail
    go_ret
    exact ⟨rfl,q9 HW⟩
 ·subst h0
  go_enter Tryz.func17,Tryz.ntmps17
  go_wp2_with fail
  go_loopw [5] (fun i wr=>i=.int .i64 0∧wr=w) (fun _ _=>0)
  case atStart=>exact ⟨rfl,rfl⟩
  case round=>
   obtain ⟨rfl,rfl⟩:=hrel
   go_wp2_with fail
   go_ret
   exact ⟨rfl,Below.refl _ _⟩
 ·go_enter Tryz.func17,Tryz.ntmps17
  go_wp2_with fail
  go_loopw [5] (fun i wr=>i=.int .i64 0∧wr=w) (fun _ _=>0)
  case atStart=>exact ⟨rfl,rfl⟩
  case round=>
   obtain ⟨rfl,rfl⟩:=hrel
   go_wp2_with fail
   go_ret
   exact ⟨rfl,Below.refl _ _⟩
 ·go_enter Tryz.func17,Tryz.ntmps17
  go_wp2_with fail
  go_loopw [5] (fun i wr=>i=.int .i64 0∧wr=w) (fun _ _=>0)
  case atStart=>exact ⟨rfl,rfl⟩
  case round=>
   obtain ⟨rfl,rfl⟩:=hrel
   go_wp2_with fail
   go_ret
   exact ⟨rfl,Below.refl _ _⟩
theorem ScrAt.one {w:World} {a:Option Addr} {n cap:Nat} {l:List Sc} (h:ScrAt w (.slice a n cap) l) {k:Nat} {x:Sc} (hx:l[k]?=some x):∃b off,a=some ⟨b,off,none⟩∧k+1≤cap∧n=l.length∧ScrAt w (.slice (some ⟨b,off+k * 4,none⟩) 1 (cap - k)) [x]:=by
 obtain ⟨a',cap',hv,hl,hc,hi⟩:=h
 simp at hv
 obtain ⟨rfl,rfl,rfl⟩:=hv
 obtain ⟨ok,b,off,ha,hlt,c0,c1,c2,c3⟩:=hi k x hx
 have hkl:=(List.getElem?_eq_some_iff.1 hx).1
 refine ⟨b,off,ha,by omega,rfl,some ⟨b,off+k * 4,none⟩,cap - k,rfl,by show 1≤_;decide,by show 1≤_;omega,fun i y hy=>?_⟩
 have e:i=0∧y=x:=by
  cases i with
  | zero=>simp at hy;exact ⟨rfl,hy.symm⟩
  | succ i=>simp at hy
 obtain ⟨rfl,rfl⟩:=e
 exact ⟨ok,b,off+k * 4,rfl,hlt,by simpa using c0,by simpa using c1,by simpa using c2,by simpa using c3⟩
theorem HasB.beside {w0:World} {F G:Nat→Prop} {w w':World} {bb:Nat} {last:Int} {L:List Su} (h:HasB w0 F w bb last L) (hg:Grow G w w') (hn:∀k,G k→w0.heap.size≤k) (hd:∀k,F k→¬G k):HasB w0 F w' bb last L:=
 ⟨h.br.frame hg.size fun k hk=>hg.block k (h.br.1 k hk) (hd k hk),h.good,h.new,hg.since hn h.below⟩
end
section
abbrev Bs:=List Su×Int
section
variable {w0 W:World} {A B C:Nat} {sa sb sc:Bs} {R:List (Value×List Int)}
end
end
section
structure Rw where
 v:Value
 e:TypeId
 size:Nat
 n:Nat
 xs:List Value
def Rw.At (r:Rw) (w:World) (base:Nat):Prop:=w.ownsRow base r.e r.size r.v r.n r.xs
def zR (v:Value) (l:List Int):Rw:=⟨v,3,1,l.length,jf7 l⟩
def iR (v:Value) (l:List Nat):Rw:=⟨v,3,1,l.length,qj3 l⟩
def tR (v:Value) (l:List (List UInt8)):Rw:=⟨v,9,1,l.length,je4 l⟩
def lR (v:Value) (l:List Lv):Rw:=⟨v,32,2,l.length,qr8 l⟩
structure DuoF (w0 W:World) (Fa Fb:Nat→Prop) (A B:Nat) (sa sb:Bs) (R:List Rw):Prop where
 a:HasB w0 Fa W A sa.2 sa.1
 b:HasB w0 Fb W B sb.2 sb.1
 ab:∀k,Fa k→¬Fb k
 rows:∀r∈R,r.At W w0.heap.size∧∀k,r.v.ownBlock=some k→¬Fa k∧¬Fb k
 apart:R.Pairwise fun r s=>∀k,r.v.ownBlock=some k→s.v.ownBlock≠some k
def Duo (w0 W:World) (A B:Nat) (sa sb:Bs) (R:List Rw):Prop:=∃Fa Fb,DuoF w0 W Fa Fb A B sa sb R
section
variable {w0 W W':World} {A B:Nat} {sa sa' sb:Bs} {R:List Rw} {Fa Fb F':Nat→Prop}
theorem Duo.swap (h:Duo w0 W A B sa sb R):Duo w0 W B A sb sa R:=by
 obtain ⟨Fa,Fb,h⟩:=h
 exact ⟨Fb,Fa,h.b,h.a,fun k hk e=>h.ab k e hk,fun r hr=>⟨(h.rows r hr).1,fun k hk=>((h.rows r hr).2 k hk).symm⟩,h.apart⟩
theorem Duo.flip {r s:Rw} (h:Duo w0 W A B sa sb (r::s::R)):Duo w0 W A B sa sb (s::r::R):=by
 obtain ⟨Fa,Fb,h⟩:=h
 obtain ⟨h1,h2⟩:=List.pairwise_cons.1 h.apart
 obtain ⟨h3,h4⟩:=List.pairwise_cons.1 h2
 refine ⟨Fa,Fb,h.a,h.b,h.ab,fun q hq=>h.rows q ?_,List.pairwise_cons.2 ⟨fun q hq=>?_,List.pairwise_cons.2 ⟨fun q hq=>h1 q (List.mem_cons_of_mem _ hq),h4⟩⟩⟩
 ·rcases List.mem_cons.1 hq with rfl|hq
  ·simp
  ·rcases List.mem_cons.1 hq with rfl|hq
   ·simp
   ·simp [hq]
 ·rcases List.mem_cons.1 hq with rfl|hq
  ·exact fun k hk e=>h1 s (List.mem_cons_self ..) k e hk
  ·exact h3 q hq
theorem DuoF.op (h:DuoF w0 W Fa Fb A B sa sb R) (hg:Grow Fa W W') (hF:∀k,F' k→upF Fa W W' k) (ha:HasB w0 F' W' A sa'.2 sa'.1):DuoF w0 W' F' Fb A B sa' sb R:=by
 refine ⟨ha,h.b.beside hg h.a.new fun k hk e=>h.ab k e hk,fun k hk e=>?_,fun r hr=>?_,h.apart⟩
 ·rcases hF k hk with e'|e'
  ·exact h.ab k e' e
  ·have:=h.b.br.1 k e;omega
 ·obtain ⟨h1,h2⟩:=h.rows r hr
  refine ⟨j3 h1 fun k hk=>hg.block k (World.ownsRow.lt h1 k hk).2 (h2 k hk).1,fun k hk=>⟨fun e=>?_,(h2 k hk).2⟩⟩
  rcases hF k e with e'|e'
  ·exact (h2 k hk).1 e'
  ·have:=(World.ownsRow.lt h1 k hk).2;omega
theorem DuoF.add (h:DuoF w0 W Fa Fb A B sa sb R) (h':DuoF w0 W' F' Fb A B sa' sb R) {r:Rw} (hr:r.At W' W.heap.size) (hF:∀k,r.v.ownBlock=some k→¬F' k):DuoF w0 W' F' Fb A B sa' sb (r::R):=by
 refine ⟨h'.a,h'.b,h'.ab,fun q hq=>?_,List.pairwise_cons.2 ⟨fun q hq k hk e=>?_,h'.apart⟩⟩
 ·rcases List.mem_cons.1 hq with rfl|hq
  ·exact ⟨qa3 hr h.a.below.size,fun k hk=>⟨hF k hk,fun e=>by have:=(World.ownsRow.lt hr k hk).1;have:=h.b.br.1 k e;omega⟩⟩
  ·exact h'.rows q hq
 ·have:=(World.ownsRow.lt hr k hk).1
  have:=(World.ownsRow.lt (h.rows q hq).1 k e).2
  omega
theorem DuoF.keep (h:DuoF w0 W Fa Fb A B sa sb R) (hb:Below W.heap.size W W'):DuoF w0 W' Fa Fb A B sa sb R:=
 ⟨h.a.keep hb,h.b.keep hb,h.ab,fun r hr=>⟨j3 (h.rows r hr).1 fun k hk=>hb.block k (World.ownsRow.lt (h.rows r hr).1 k hk).2,(h.rows r hr).2⟩,h.apart⟩
theorem Duo.keep (h:Duo w0 W A B sa sb R) (hb:Below W.heap.size W W'):Duo w0 W' A B sa sb R:=by
 obtain ⟨Fa,Fb,h⟩:=h
 exact ⟨_,_,h.keep hb⟩
theorem Duo.more (h:Duo w0 W A B sa sb R) (hb:Below W.heap.size W W') {r:Rw} (hr:r.At W' W.heap.size):Duo w0 W' A B sa sb (r::R):=by
 obtain ⟨Fa,Fb,h⟩:=h
 exact ⟨Fa,Fb,h.add (h.keep hb) hr fun k hk e=>by have:=(World.ownsRow.lt hr k hk).1;have:=h.a.br.1 k e;omega⟩
theorem Duo.empty (h:Duo w0 W A B sa sb R) (e:TypeId) (size:Nat):Duo w0 W A B sa sb (⟨.slice none 0 0,e,size,0,[]⟩::R):=h.more (Below.refl _ _) (World.ownsRow_nil _ _ _ _)
theorem Duo.below (h:Duo w0 W A B sa sb R):Below w0.heap.size w0 W:=by
 obtain ⟨Fa,Fb,h⟩:=h
 exact h.a.below
theorem Duo.row (h:Duo w0 W A B sa sb R) {r:Rw} (hr:r∈R):r.At W w0.heap.size:=by
 obtain ⟨Fa,Fb,h⟩:=h
 exact (h.rows r hr).1
theorem Duo.facts (h:Duo w0 W A B sa sb R):sa.1.length≤8∧PrgS sa.1∧qx2 sa.1:=by
 obtain ⟨Fa,Fb,h⟩:=h
 exact ⟨h.a.br.rising.2.1,h.a.br.rising.2.2,h.a.good⟩
theorem Duo.grown {r r':Rw} (h:Duo w0 W A B sa sb (r::R)) (hr:r'.At W' w0.heap.size) (hg:W.grownBy W' r.v.ownBlock) (hn:∀k,r'.v.ownBlock=some k→r.v.ownBlock=some k∨W.heap.size≤k):Duo w0 W' A B sa sb (r'::R):=by
 obtain ⟨Fa,Fb,h⟩:=h
 obtain ⟨h1,h2⟩:=List.pairwise_cons.1 h.apart
 obtain ⟨r1,r2⟩:=h.rows r (List.mem_cons_self ..)
 have hz:=h.a.below.size
 have hbl:Below w0.heap.size w0 W':=⟨hg.os.trans h.a.below.os,hg.tape.trans h.a.below.tape,hg.output.trans h.a.below.output,Nat.le_trans hz hg.size,fun k hk=>(hg.block k (by omega) (fun e=>by have:=(World.ownsRow.lt r1 k e.symm).1;omega)).trans (h.a.below.block k hk)⟩
 refine ⟨Fa,Fb,⟨h.a.br.frame hg.size fun k hk=>hg.block k (h.a.br.1 k hk) fun e=>(r2 k e.symm).1 hk,h.a.good,h.a.new,hbl⟩,⟨h.b.br.frame hg.size fun k hk=>hg.block k (h.b.br.1 k hk) fun e=>(r2 k e.symm).2 hk,h.b.good,h.b.new,hbl⟩,h.ab,fun q hq=>?_,List.pairwise_cons.2 ⟨fun q hq k hk e=>?_,h2⟩⟩
 ·rcases List.mem_cons.1 hq with rfl|hq
  ·refine ⟨hr,fun k hk=>?_⟩
   rcases hn k hk with e|e
   ·exact r2 k e
   ·exact ⟨fun e'=>by have:=h.a.br.1 k e';omega,fun e'=>by have:=h.b.br.1 k e';omega⟩
  ·obtain ⟨q1,q2⟩:=h.rows q (List.mem_cons_of_mem _ hq)
   exact ⟨j3 q1 fun k hk=>hg.block k (World.ownsRow.lt q1 k hk).2 fun e=>h1 q hq k e.symm hk,q2⟩
 ·rcases hn k hk with e'|e'
  ·exact h1 q hq k e' e
  ·have:=(World.ownsRow.lt (h.rows q (List.mem_cons_of_mem _ hq)).1 k e).2
   omega
theorem Duo.appZ {v:Value} {l:List Int} (h:Duo w0 W A B sa sb (zR v l::R)) (x:Int) (hn:l.length≤1000):∃g cap w5,(qh7 #[29,29] 29 #[v,.slice (some ⟨W.heap.size,0,none⟩) 1 1]).run Tryz.prog (W.alloc (.cells #[.int .i64 x] 3))=.ok (.slice (some ⟨g,0,none⟩) (l.length+1) cap) w5∧Hid (Duo w0 w5 A B sa sb (zR (.slice (some ⟨g,0,none⟩) (l.length+1) cap) (l++[x])::R)):=by
 have hr:ZsAt W w0.heap.size v l:=h.row (List.mem_cons_self ..)
 obtain ⟨g,cap,w5,e,h1,h2,h3⟩:=hr.app h.below.size x hn 29 _ rfl rfl
 refine ⟨g,cap,w5,e,v7 (h.grown (r':=zR (.slice (some ⟨g,0,none⟩) (l.length+1) cap) (l++[x])) (q9 h1) (q9 h2) fun k hk=>?_)⟩
 have hk:g=k:=by simpa [Value.ownBlock,zR] using hk
 subst hk
 exact q9 h3
theorem Duo.appT {v:Value} {l:List (List UInt8)} (h:Duo w0 W A B sa sb (tR v l::R)) (x:List UInt8) (hn:l.length≤1000):∃g cap w5,(qh7 #[30,30] 30 #[v,.slice (some ⟨W.heap.size,0,none⟩) 1 1]).run Tryz.prog (W.alloc (.cells #[.string (BS x)] 9))=.ok (.slice (some ⟨g,0,none⟩) (l.length+1) cap) w5∧Hid (Duo w0 w5 A B sa sb (tR (.slice (some ⟨g,0,none⟩) (l.length+1) cap) (l++[x])::R)):=by
 have hr:TxRow W w0.heap.size v l:=h.row (List.mem_cons_self ..)
 obtain ⟨g,cap,w5,e,h1,h2,h3⟩:=hr.app h.below.size x hn 30 _ rfl rfl
 refine ⟨g,cap,w5,e,v7 (h.grown (r':=tR (.slice (some ⟨g,0,none⟩) (l.length+1) cap) (l++[x])) (q9 h1) (q9 h2) fun k hk=>?_)⟩
 have hk:g=k:=by simpa [Value.ownBlock,tR] using hk
 subst hk
 exact q9 h3
theorem duo_does (h:Duo w0 W A B sa sb R) (hL:LibOk w0) (hl:0≤sa.2∧sa.2≤1000000000000000) (l:List Sc) (sv:Value) (hs:ScrAt w0 sv l):Calls Tryz.prog 11 #[.pointer (some ⟨A,0,none⟩),sv] W fun e W'=>∃a c,e=.returned (.slice a (doR l (sa.1,sa.2,[])).2.2.length c)∧Duo w0 W' A B ((doR l (sa.1,sa.2,[])).1,(doR l (sa.1,sa.2,[])).2.1) sb (lR (.slice a (doR l (sa.1,sa.2,[])).2.2.length c) (doR l (sa.1,sa.2,[])).2.2::R):=by
 obtain ⟨Fa,Fb,h⟩:=h
 refine (does_any w0 W Fa A sa.2 sa.1 h.a hL hl l sv hs).mono ?_
 rintro e W' ⟨a,c,rfl,F',q0,q1,q2,q3,q4,_⟩
 exact ⟨a,c,rfl,F',Fb,h.add (h.op (sa':=(_,_)) q2 q1 q0) (r:=lR _ _) q3 q4⟩
theorem duo_sub (h:Duo w0 W A B sa sb R) (hL:LibOk w0) (id:Int) (s:List UInt8) (hs:s.length≤140737488355328):Calls Tryz.prog 12 #[.pointer (some ⟨A,0,none⟩),.int .i64 id,.string (BS s)] W fun e W'=>e=.returned (.tuple #[.int .i64 (qm1 sa.1 id s).2.1,.int .i64 (qm1 sa.1 id s).2.2])∧Duo w0 W' A B ((qm1 sa.1 id s).1,sa.2) sb R:=by
 obtain ⟨Fa,Fb,h⟩:=h
 exact jn4 W Fa A sa.2 sa.1 h.a.br h.a.good id s hs (hL.below h.a.below (Nat.le_refl _)) _ fun w' q1 q2 q3=>⟨rfl,_,_,h.op q3 (fun _ hk=>hk) (h.a.op q3 (fun _ hk=>hk) q1 q2)⟩
theorem duo_pub (h:Duo w0 W A B sa sb R) (pri:Int) (hl:0≤sa.2∧sa.2<4611686018427387904) {ps:List Pr} {ev:Value} (he:EvIn w0 ev ps) (hg:EvGood ps):Calls Tryz.prog 15 #[.pointer (some ⟨A,0,none⟩),.int .i64 pri,ev] W fun e W'=>∃mv a n c,e=.returned (.tuple #[mv,.slice a n c,.int .i64 (qu8 sa.1 sa.2 pri ps).2.2])∧Duo w0 W' A B ((qu8 sa.1 sa.2 pri ps).1.1,(qu8 sa.1 sa.2 pri ps).2.1) sb (zR mv (qu8 sa.1 sa.2 pri ps).1.2.1::R):=by
 obtain ⟨Fa,Fb,h⟩:=h
 refine jm5 W Fa A sa.2 sa.1 h.a.br pri hl ps ev (h.a.event he) hg _ fun W' mv fv h1 h2 h3 h4=>?_
 obtain ⟨a,c,rfl⟩:=h4.form
 exact ⟨mv,a,_,c,rfl,pubF Fa W W' mv _,Fb,h.add (h.op h2 (fun _ hk=>hk.1) (h.a.op h2 (fun _ hk=>hk.1) h1 (vm3 h.a.good))) (r:=zR mv _) h3 fun k hk e=>e.2.1 hk⟩
theorem duo_live (h:Duo w0 W A B sa sb R):Calls Tryz.prog 16 #[.pointer (some ⟨A,0,none⟩)] W fun e W'=>∃v,e=.returned v∧Duo w0 W' A B sa sb (zR v (sa.1.map Su.id)::R):=by
 have h':=h
 obtain ⟨Fa,Fb,h⟩:=h
 refine (live_any W Fa A sa.2 sa.1 h.a.br).mono ?_
 rintro e W' ⟨v,rfl,h1,h2⟩
 exact ⟨v,rfl,h'.more h2 (r:=zR v _) h1⟩
theorem jb0 (h:Duo w0 W A B sa sb R):Calls Tryz.prog 18 #[.pointer (some ⟨A,0,none⟩)] W fun e W'=>e=.returned (.int .i64 (va6 sa.1))∧W'=W:=by
 obtain ⟨Fa,Fb,h⟩:=h
 exact nodes_br h.a.br
theorem jq9 (h:Duo w0 W A B sa sb R) {u v:Value} {l:List Int} (hu:zR u l∈R) (hv:zR v l∈R) (h8:l.length≤1000):Calls Tryz.prog 17 #[u,v] W fun e W'=>e=.returned (.bool true)∧Duo w0 W' A B sa sb R:=
 (sameZ l u v _ _ W (h.row hu) (h.row hv) h8).mono (by rintro e W' ⟨rfl,hb⟩;exact ⟨rfl,h.keep hb⟩)
end
theorem duo_new {w0 w1 w2:World} (e1:w1=w0.alloc (.cells #[.int .i64 0,.slice none 0 0,.slice none 0 0,.slice none 0 0] 67)) (e2:w2=w1.alloc (.cells #[.int .i64 0,.slice none 0 0,.slice none 0 0,.slice none 0 0] 67)) :
  Duo w0 w2 w0.heap.size w1.heap.size ([],0) ([],0) []:=by
 have b1:Below w0.heap.size w0 w1:=by rw [e1];exact qq1 _ _
 have b2:Below w1.heap.size w1 w2:=by rw [e2];exact qq1 _ _
 have z1:w1.heap.size=w0.heap.size+1:=by rw [e1];simp
 have h1:=vw1 w0
 rw [←e1] at h1
 have h2:=vw1 w1
 rw [←e2] at h2
 refine ⟨_,_,h1.keep b2,⟨h2.br,h2.good,fun k hk=>Nat.le_trans b1.size (h2.new k hk),b1.trans (h2.below.mono b1.size)⟩,fun k hk e=>?_,fun r hr=>by simp at hr,List.Pairwise.nil⟩
 have a:k=w0.heap.size:=hk
 have b:k=w1.heap.size:=e
 omega
end
section
attribute [local go_sem ↓] qc3
def cR (v:Value) (l:List UInt8):Rw:=⟨v,5,1,l.length,qm2 l⟩
theorem Duo.form {w0 W:World} {A B:Nat} {sa sb:Bs} {R:List Rw} {r:Rw} (h:Duo w0 W A B sa sb R) (hr:r∈R):∃a c,r.v=.slice a r.n c:=qc1 (h.row hr)
theorem Duo.cellI {w0 W:World} {A B:Nat} {sa sb:Bs} {R:List Rw} {a:Option Addr} {n c:Nat} {l:List Nat} (h:Duo w0 W A B sa sb R) (hr:iR (.slice a n c) l∈R) {j p:Nat} (hj:l[j]?=some p):∃g,a=some ⟨g,0,none⟩∧W.cell? ⟨g,j,none⟩=some (.int .i64 p):=by
 have h1:IsAt W w0.heap.size (.slice a n c) l:=h.row hr
 obtain ⟨a',c',hv,hc⟩:=h1.cells
 obtain ⟨g,hg,_,hx⟩:=hc j p hj
 simp at hv
 exact ⟨g,hv.1.trans hg,hx⟩
theorem Duo.cellZ {w0 W:World} {A B:Nat} {sa sb:Bs} {R:List Rw} {a:Option Addr} {n c:Nat} {l:List Int} (h:Duo w0 W A B sa sb R) (hr:zR (.slice a n c) l∈R) {j:Nat} {x:Int} (hj:l[j]?=some x):∃g,a=some ⟨g,0,none⟩∧W.cell? ⟨g,j,none⟩=some (.int .i64 x):=by
 have h1:ZsAt W w0.heap.size (.slice a n c) l:=h.row hr
 obtain ⟨g,c',hv,hc⟩:=h1.cell hj
 simp at hv
 exact ⟨g,hv.1,hc⟩
theorem fresh_all (l:List Sc) (sv:Value) (ps:List Pr) (ev:Value) (w:World) (hs:ScrAt w sv l) (he:EvIn w ev ps) (hg:EvGood ps) (hL:LibOk w):Calls Tryz.prog 3 #[sv,ev] w fun e w'=>e=.returned (.bool true)∧Below w.heap.size w w':=by
 have KN:=v7 (known_any w hL)
 have NEW:Hid (∀w1,Calls Tryz.prog 10 #[] w1 fun e w'=>∃A,e=.returned (.pointer (some ⟨A,0,none⟩))∧Hid (A=w1.heap.size∧w'=w1.alloc (.cells #[.int .i64 0,.slice none 0 0,.slice none 0 0,.slice none 0 0] 67))):=v7 fun w1=>(new_any w1).mono (by rintro e w' ⟨rfl,rfl⟩;exact ⟨_,rfl,v7 ⟨rfl,rfl⟩⟩)
 obtain ⟨ea,en,ec,rfl⟩:=he.slice
 obtain ⟨ua,un,uc,rfl⟩:∃a n c,sv=.slice a n c:=by
  obtain ⟨a,cap,hv,_⟩:=hs
  exact ⟨a,_,cap,hv⟩
 obtain ⟨D,hD⟩:∃D,doR l ([],0,[])=D:=⟨_,rfl⟩
 obtain ⟨bk,hbk⟩:∃bk,D.2.2=bk:=⟨_,rfl⟩
 obtain ⟨s0,hs0⟩:∃s0:Bs,(D.1,D.2.1)=s0:=⟨_,rfl⟩
 have HB:Hid (BookOk s0.1 bk):=v7 (by have:=book_all l;rw [hD,hbk] at this;rw [←hs0];exact this)
 have hl0:0≤s0.2∧s0.2<4611686018427387904:=by
  have:=doK_len l ([],0,[]) (by decide) l.length
  obtain ⟨_,_,_,hl,_⟩:=hs
  rw [←hs0,←hD]
  unfold doR
  unfold doK at this
  rw [List.take_length] at this
  simp at this ⊢
  omega
 have HL0:=v7 hl0
 obtain ⟨nb,hnb⟩:∃nb,bk.length=nb:=⟨_,rfl⟩
 have DO:Hid (∀w1 W A B,Below w.heap.size w w1→Duo w1 W A B ([],0) ([],0) []→Calls Tryz.prog 11 #[.pointer (some ⟨A,0,none⟩),.slice ua un uc] W fun e W'=>∃a c,e=.returned (.slice a nb c)∧Hid (Duo w1 W' A B s0 ([],0) [lR (.slice a nb c) bk])):=v7 (by
  intro w1 W A B hb hT
  have:=duo_does hT (hL.below hb (Nat.le_refl _)) ⟨by decide,by decide⟩ l _ (hs.below hb)
  rw [hD,hbk,hnb,hs0] at this
  exact this.mono (by rintro e W' ⟨a,c,rfl,h⟩;exact ⟨a,c,rfl,v7 h⟩))
 have HE:=v7 he
 have HG:=v7 hg
 have HL:=v7 hL
 have HNB:=v7 hnb
 clear hL hs he hg hnb hl0 hD hbk hs0
 go_enter Tryz.func3,Tryz.ntmps3
 go_wp2_with (first|(go_at_call 9;refine (q9 KN).mono ?_;clear KN;rintro e w1 ⟨rfl,hb1⟩;have B1:=v7 hb1;clear hb1)|(go_at_call 10;refine (q9 NEW w2).mono ?_;clear NEW;rintro e w3 ⟨B,rfl,N3⟩;have T3:Hid (Duo w1 w3 A B ([],0) ([],0) []):=v7 (by rw [(q9 N2).1,(q9 N3).1];exact duo_new (q9 N2).2 (q9 N3).2))|(go_at_call 10;refine (q9 NEW w1).mono ?_;rintro e w2 ⟨A,rfl,N2⟩)|(go_at_call 11;refine (q9 DO _ _ _ _ (q9 B1) (q9 T3)).mono ?_;clear DO;rintro e w4 ⟨la,lc,rfl,T4⟩))
 clear N2 N3 T3
 have HF:Hid (s0.1.length≤8∧PrgS s0.1∧qx2 s0.1):=v7 (q9 T4).facts
 have hnb8:nb≤8:=by
  have h1:=(q9 HB).length
  have h2:=(q9 HF).1
  have h3:=q9 HNB
  omega
 have SB:Hid (∀W k b R,bk[k]?=some b→Duo w1 W A B s0 (qj1 bk k,0) R→Calls Tryz.prog 12 #[.pointer (some ⟨B,0,none⟩),.int .i64 b.1,.string (BS b.2)] W fun e W'=>e=.returned (.tuple #[.int .i64 0,.int .i64 0])∧Hid (Duo w1 W' A B s0 (qj1 bk (k+1),0) R)):=v7 (by
  intro W k b R hb hT
  have hsf:=sub_fresh (q9 HB) (q9 HF).2.2 (q9 HF).1 (q9 HF).2.1.terms hb
  obtain ⟨t,ht⟩:=(q9 HB).reads b (List.mem_of_getElem? hb)
  have:=duo_sub hT.swap ((q9 HL).below (q9 B1) (Nat.le_refl _)) b.1 b.2 (by have:=vt3 ht;omega)
  simp only at this
  rw [hsf] at this
  exact this.mono (by rintro e W' ⟨rfl,h⟩;exact ⟨rfl,v7 h.swap⟩))
 have LC:Hid (∀W sc k b R,bk[k]?=some b→lR (.slice la nb lc) bk∈R→Duo w1 W A B s0 sc R→∃g,la=some ⟨g,0,none⟩∧W.cell? ⟨g,k * 2,none⟩=some (.int .i64 b.1)∧W.cell? ⟨g,k * 2+1,none⟩=some (.string (BS b.2))):=v7 (by
  intro W sc k b R hb hm hT
  have h1:LvAt W w1.heap.size (.slice la nb lc) bk:=hT.row hm
  obtain ⟨g,c,hv,_,h5,h6⟩:=h1.cell hb
  simp at hv
  exact ⟨g,hv.1,h5,h6⟩)
 have AZ:Hid (∀W sa sc v l x R,l.length≤1000→Duo w1 W A B sa sc (zR v l::R)→∃v' w5,(qh7 #[29,29] 29 #[v,.slice (some ⟨W.heap.size,0,none⟩) 1 1]).run Tryz.prog (W.alloc (.cells #[.int .i64 x] 3))=.ok v' w5∧Hid (Duo w1 w5 A B sa sc (zR v' (l++[x])::R))):=v7 (by
  intro W sa sc v l x R hn hT
  obtain ⟨g,cap,w5,r,h⟩:=hT.appZ x hn
  exact ⟨_,w5,r,h⟩)
 have AT:Hid (∀W sa sc v l x R,l.length≤1000→Duo w1 W A B sa sc (tR v l::R)→∃v' w5,(qh7 #[30,30] 30 #[v,.slice (some ⟨W.heap.size,0,none⟩) 1 1]).run Tryz.prog (W.alloc (.cells #[.string (BS x)] 9))=.ok v' w5∧Hid (Duo w1 w5 A B sa sc (tR v' (l++[x])::R))):=v7 (by
  intro W sa sc v l x R hn hT
  obtain ⟨g,cap,w5,r,h⟩:=hT.appT x hn
  exact ⟨_,w5,r,h⟩)
 go_loopw [9,10,11] (fun iv tv i wr=>∃k:Nat,k≤nb∧i=.int .i64 k∧Hid (Duo w1 wr A B s0 (qj1 bk k,0) [tR tv ((bk.map Prod.snd).take k),zR iv ((bk.map Prod.fst).take k),lR (.slice la nb lc) bk])) (fun _ _ i _=>nb - (intOf i).toNat)
 case atStart=>exact ⟨0,Nat.zero_le _,rfl,v7 (((q9 T4).empty _ _).empty _ _)⟩
 case round=>
  obtain ⟨k,hk,rfl,TK⟩:=hrel
  by_cases hlt:k<nb
  ·obtain ⟨b,hb⟩:∃b,bk[k]?=some b:=⟨_,List.getElem?_eq_getElem (by have:=q9 HNB;omega)⟩
   have e1:(bk.map Prod.fst).take k++[b.1]=(bk.map Prod.fst).take (k+1):=by rw [List.take_add_one,List.getElem?_map,hb];rfl
   have e2:(bk.map Prod.snd).take k++[b.2]=(bk.map Prod.snd).take (k+1):=by rw [List.take_add_one,List.getElem?_map,hb];rfl
   have l1:((bk.map Prod.fst).take k).length≤1000:=by rw [List.length_take];omega
   have l2:((bk.map Prod.snd).take k).length≤1000:=by rw [List.length_take];omega
   obtain ⟨g,rfl,c1,c2⟩:=q9 LC wr _ k b _ hb (by simp) (q9 TK)
   obtain ⟨v5,w5,r5,T5⟩:=q9 AZ wr _ _ _ _ b.1 _ l1 (q9 TK).flip
   obtain ⟨g',hg',c3,c4⟩:=q9 LC w5 _ k b _ hb (by simp) (q9 T5)
   obtain rfl:g=g':=by simpa using hg'
   obtain ⟨v6,w6,r6,T6⟩:=q9 AT w5 _ _ _ _ b.2 _ l2 (q9 T5).flip
   obtain ⟨g',hg2,c5,c6⟩:=q9 LC w6 _ k b _ hb (by simp) (q9 T6)
   obtain rfl:g=g':=by simpa using hg2
   rw [e1,e2] at T6
   have S:=v7 (q9 SB w6.drew k b _ hb ((q9 T6).keep (by repeat (first|exact Below.refl _ _|apply Below.drew))))
   have hk0:(0:Int)≤(k:Int):=by omega
   have hk1:(k:Int)<(nb:Int):=by omega
   clear hg' hg2 e1 e2 l1 l2 hb T5 T6 TK AZ AT SB LC
   go_wp2_with fail
   go_region_with (go_at_call 12;refine (q9 S).mono ?_;clear S;rintro e w7 ⟨rfl,T7⟩)
   all_goals go_wp2_with fail
   all_goals exact ⟨⟨k+1,by omega,rfl,T7⟩,by simp [intOf];omega⟩
  ·obtain rfl:nb=k:=by omega
   have hk1:¬(nb:Int)<(nb:Int):=by omega
   have f1:(bk.map Prod.fst).take nb=bk.map Prod.fst:=List.take_of_length_le (by rw [List.length_map,q9 HNB];exact Nat.le_refl _)
   have f2:(bk.map Prod.snd).take nb=bk.map Prod.snd:=List.take_of_length_le (by rw [List.length_map,q9 HNB];exact Nat.le_refl _)
   rw [f1,f2] at TK
   have hid:s0.1.map Su.id=bk.map Prod.fst:=(q9 HB).ids
   obtain ⟨ta,tc,rfl⟩:∃a c,u10=.slice a nb c:=by
    obtain ⟨a,c,h⟩:=(q9 TK).form (r:=tR u10 (bk.map Prod.snd)) (by simp)
    have h':u10=.slice a (bk.map Prod.snd).length c:=h
    rw [List.length_map,q9 HNB] at h'
    exact ⟨a,c,h'⟩
   obtain ⟨ia,ic,rfl⟩:∃a c,u9=.slice a nb c:=by
    obtain ⟨a,c,h⟩:=(q9 TK).form (r:=zR u9 (bk.map Prod.fst)) (by simp)
    have h':u9=.slice a (bk.map Prod.fst).length c:=h
    rw [List.length_map,q9 HNB] at h'
    exact ⟨a,c,h'⟩
   obtain ⟨ids,hids⟩:∃ids,bk.map Prod.fst=ids:=⟨_,rfl⟩
   obtain ⟨code,hcode⟩:∃code,qr3 (qe3 s0.1).1 (qe3 s0.1).2=code:=⟨_,rfl⟩
   obtain ⟨M,hM⟩:∃M,(za7 code ps).1=M:=⟨_,rfl⟩
   obtain ⟨er,her⟩:∃er,(za7 code ps).2=er:=⟨_,rfl⟩
   obtain ⟨ng,hng⟩:∃ng,M.length=ng:=⟨_,rfl⟩
   obtain ⟨P,hP⟩:∃P,qu8 s0.1 s0.2 0 ps=P:=⟨_,rfl⟩
   obtain ⟨s1,hs1⟩:∃s1:Bs,(P.1.1,P.2.1)=s1:=⟨_,rfl⟩
   obtain ⟨X,hX⟩:∃X,P.1.2.1=X:=⟨_,rfl⟩
   obtain ⟨nx,hnx⟩:∃nx,X.length=nx:=⟨_,rfl⟩
   obtain ⟨sc,hsc⟩:∃sc:Bs,(qj1 bk nb,0)=sc:=⟨_,rfl⟩
   obtain ⟨nd,hnd⟩:∃nd,va6 s0.1=nd:=⟨_,rfl⟩
   have hidl:ids.length=nb:=by rw [←hids,List.length_map,q9 HNB]
   have hrun:=run_book (q9 HB) (q9 HF).2.1 ps
   rw [hcode] at hrun
   have FACT:P.2.2=er∧(∀p∈M,p<nb)∧M.length≤8∧(er=0∧X=(M.map fun p=>ids.getD p 0)∨er=7):=by
    by_cases hev:ve2 ps=true
    ·rw [if_pos hev] at hrun
     rw [hrun] at hM her
     have hp:P=(pubR ⟨0,s0.2+1⟩ s0.1 (jr9 ps s0.1),s0.2+1,0):=by rw [←hP];unfold qu8;rw [if_pos ⟨by decide,by decide,hev⟩]
     refine ⟨by rw [hp];exact her,fun p hp'=>?_,by rw [←hM];exact Nat.le_trans (vk5 ps s0.1) (q9 HF).1,.inl ⟨her.symm, ?_⟩⟩
     ·rw [←hM] at hp'
      have h1:=jk1 ps s0.1 p hp'
      have h2:=(q9 HB).length
      have h3:=q9 HNB
      omega
     ·rw [←hX,hp,←hM,←hids,←hid]
      exact met_ids _ _ _
    ·rw [if_neg hev] at hrun
     rw [hrun] at hM her
     have hp:P=((s0.1,[],[]),s0.2,7):=by rw [←hP];unfold qu8;rw [if_neg fun h=>hev h.2.2]
     refine ⟨by rw [hp];exact her,fun p hp'=>?_,by rw [←hM];exact Nat.zero_le _,.inr her.symm⟩
     rw [←hM] at hp'
     simp at hp'
   obtain ⟨hPe,hMn,hM8,hcase⟩:=FACT
   have hs1p:s1.1.map prS=s0.1.map prS:=by rw [←hs1,←hP];exact pubA_pr _ _ _ _
   have hs1i:s1.1.map Su.id=ids:=by
    have:=congrArg (List.map Prod.fst) hs1p
    rw [List.map_map,List.map_map] at this
    exact this.trans (hid.trans hids)
   have hn1:va6 s1.1=nd:=by unfold va6;rw [progS_pr hs1p];exact hnd
   have hn2:va6 sc.1=nd:=by
    rw [←hsc]
    unfold va6
    rw [←q9 HNB,jm3 (q9 HB)]
    exact hnd
   have CPL:Hid (∀W R,tR (.slice ta nb tc) (bk.map Prod.snd)∈R→Duo w1 W A B s0 sc R→Calls Tryz.prog 13 #[.slice ta nb tc] W fun e W'=>∃ca cn cc,e=.returned (.tuple #[.slice ca cn cc,.int .i64 0,.int .i64 0])∧Hid (Duo w1 W' A B s0 sc (cR (.slice ca cn cc) code::R))):=v7 (by
    intro W R hm hT
    have hx:TxRow W w1.heap.size (.slice ta nb tc) (bk.map Prod.snd):=hT.row hm
    have:=ja7 (q9 HB) (q9 HF).2.1 (q9 HF).1 ta tc W ((q9 HL).below (Below.trans (q9 B1) (hT.below.mono (q9 B1).size)) (Nat.le_refl _)) (fun k b hb=>hx.cells k b.2 (by rw [List.getElem?_map,hb];rfl))
    rw [q9 HNB,hcode] at this
    refine this.mono ?_
    rintro e W' ⟨v,rfl,h1,h2⟩
    obtain ⟨a,c,rfl⟩:=h1.form
    exact ⟨a,_,c,rfl,v7 (hT.more h2 (r:=cR _ _) h1)⟩)
   have RN:Hid (∀W ca cn cc R,cR (.slice ca cn cc) code∈R→Duo w1 W A B s0 sc R→Calls Tryz.prog 14 #[.slice ca cn cc,.slice ea en ec] W fun e W'=>∃ga gc,e=.returned (.tuple #[.slice ga ng gc,.int .i64 er])∧Hid (Duo w1 W' A B s0 sc (iR (.slice ga ng gc) M::R))):=v7 (by
    intro W ca cn cc R hm hT
    have hb:OB W w1.heap.size (.slice ca cn cc) code:=hT.row hm
    refine (srun_any code _ ps _ W hb.bytes ((q9 HE).below (Below.trans (q9 B1) (hT.below.mono (q9 B1).size))) (q9 HG)).mono ?_
    rintro e W' ⟨v,rfl,h1,h2⟩
    rw [hM] at h1
    obtain ⟨a,c,rfl⟩:=h1.form
    rw [her,hng]
    rw [hng] at h1
    exact ⟨a,c,rfl,v7 (hT.more h2 (r:=iR _ _) h1)⟩)
   have PB:Hid (∀W R,Duo w1 W A B s0 sc R→Calls Tryz.prog 15 #[.pointer (some ⟨A,0,none⟩),.int .i64 0,.slice ea en ec] W fun e W'=>∃xa xc fa fn fc,e=.returned (.tuple #[.slice xa nx xc,.slice fa fn fc,.int .i64 er])∧Hid (Duo w1 W' A B s1 sc (zR (.slice xa nx xc) X::R))):=v7 (by
    intro W R hT
    have:=duo_pub hT 0 (q9 HL0) ((q9 HE).below (q9 B1)) (q9 HG)
    rw [hP,hs1,hX,hPe] at this
    refine this.mono ?_
    rintro e W' ⟨mv,a,n,c,rfl,h⟩
    obtain ⟨xa,xc,hv⟩:=h.form (r:=zR mv X) (List.mem_cons_self ..)
    have hv:mv=.slice xa X.length xc:=hv
    rw [hnx] at hv
    subst hv
    exact ⟨xa,xc,a,n,c,rfl,v7 h⟩)
   have LV:Hid (∀W R,Duo w1 W A B s1 sc R→Calls Tryz.prog 16 #[.pointer (some ⟨A,0,none⟩)] W fun e W'=>∃na nc,e=.returned (.slice na nb nc)∧Hid (Duo w1 W' A B s1 sc (zR (.slice na nb nc) ids::R))):=v7 (by
    intro W R hT
    have:=duo_live hT
    rw [hs1i] at this
    refine this.mono ?_
    rintro e W' ⟨v,rfl,h⟩
    obtain ⟨a,c,hv⟩:=h.form (r:=zR v ids) (List.mem_cons_self ..)
    have hv:v=.slice a ids.length c:=hv
    rw [hidl] at hv
    subst hv
    exact ⟨a,c,rfl,v7 h⟩)
   have SI:Hid (∀W R na nc,zR (.slice na nb nc) ids∈R→zR (.slice ia nb ic) ids∈R→Duo w1 W A B s1 sc R→Calls Tryz.prog 17 #[.slice na nb nc,.slice ia nb ic] W fun e W'=>e=.returned (.bool true)∧Hid (Duo w1 W' A B s1 sc R)):=v7 fun W R na nc h1 h2 hT=>(jq9 hT h1 h2 (by omega)).mono (by rintro e W' ⟨rfl,h⟩;exact ⟨rfl,v7 h⟩)
   have NA:Hid (∀W R,Duo w1 W A B s1 sc R→Calls Tryz.prog 18 #[.pointer (some ⟨A,0,none⟩)] W fun e W'=>e=.returned (.int .i64 nd)∧W'=W):=v7 fun W R hT=>by have:=jb0 hT;rw [hn1] at this;exact this
   have NB:Hid (∀W R,Duo w1 W A B s1 sc R→Calls Tryz.prog 18 #[.pointer (some ⟨B,0,none⟩)] W fun e W'=>e=.returned (.int .i64 nd)∧W'=W):=v7 fun W R hT=>by have:=jb0 hT.swap;rw [hn2] at this;exact this
   have FIN:Hid (∀W R,Duo w1 W A B s1 sc R→Below w.heap.size w W):=v7 fun W R hT=>v8 (q9 B1) hT.below
   obtain ⟨R0,hR0⟩:∃R0,[tR (.slice ta nb tc) (bk.map Prod.snd),zR (.slice ia nb ic) ids,lR (.slice la nb lc) bk]=R0:=⟨_,rfl⟩
   have HM0:Hid (tR (.slice ta nb tc) (bk.map Prod.snd)∈R0):=v7 (by rw [←hR0];simp)
   have HM1:Hid (zR (.slice ia nb ic) ids∈R0):=v7 (by rw [←hR0];simp)
   rw [hids,hsc,hR0] at TK
   have HIDL:=v7 hidl
   have HMN:=v7 hMn
   have HNG:=v7 hng
   have HNX:=v7 hnx
   have hng8:ng≤8:=by rw [←hng];exact hM8
   clear hR0 hn1 hn2 hs1i hs1p hPe hrun hidl hnd hsc hnx hX hs1 hP hng her hM hcode hids hid f1 f2 AT SB LC HB HF HL HE HG HL0 HNB hMn hM8
   rcases hcase with ⟨rfl,hXM⟩|rfl
   ·go_wp2_with (first|(go_at_call 18;refine (q9 NB _ _ (q9 T9)).mono ?_;clear NB;rintro e wz ⟨rfl,rfl⟩)|(go_at_call 18;refine (q9 NA _ _ (q9 T9)).mono ?_;clear NA;rintro e wy ⟨rfl,rfl⟩)|(go_at_call 17;refine (q9 SI _ _ na nc (List.mem_cons_self ..) (List.mem_cons_of_mem _ (List.mem_cons_of_mem _ (List.mem_cons_of_mem _ (List.mem_cons_of_mem _ (q9 HM1))))) (q9 T8)).mono ?_;clear SI T8;rintro e w9 ⟨rfl,T9⟩)|(go_at_call 16;refine (q9 LV _ _ (q9 T7)).mono ?_;clear LV T7;rintro e w8 ⟨na,nc,rfl,T8⟩)|(go_at_call 15;refine (q9 PB _ _ (q9 T6)).mono ?_;clear PB T6;rintro e w7 ⟨xa,xc,fa,fn,fc,rfl,T7⟩)|(go_at_call 14;refine (q9 RN _ _ _ _ _ (List.mem_cons_self ..) (q9 T5)).mono ?_;clear RN T5;rintro e w6 ⟨ga,gc,rfl,T6⟩)|(go_at_call 13;refine (q9 CPL _ _ (q9 HM0) (q9 TK)).mono ?_;clear CPL TK;rintro e w5 ⟨ca,cn,cc,rfl,T5⟩))
    obtain ⟨R2,hR2⟩:∃R2,zR (.slice na nb nc) ids::zR (.slice xa nx xc) X::iR (.slice ga ng gc) M::cR (.slice ca cn cc) code::R0=R2:=⟨_,rfl⟩
    have HI:Hid (iR (.slice ga ng gc) M∈R2):=v7 (by rw [←hR2];simp)
    have HX:Hid (zR (.slice xa nx xc) X∈R2):=v7 (by rw [←hR2];simp)
    have HZ:Hid (zR (.slice ia nb ic) ids∈R2):=v7 (by rw [←hR2];simp [q9 HM1])
    rw [hR2] at T9
    have hXl:X.length=ng:=by rw [hXM,List.length_map];exact q9 HNG
    have SM:Hid (∀W wv,zR wv X∈zR wv X::R2→Duo w1 W A B s1 sc (zR wv X::R2)→Calls Tryz.prog 17 #[.slice xa nx xc,wv] W fun e W'=>e=.returned (.bool true)∧Hid (Duo w1 W' A B s1 sc (zR wv X::R2))):=v7 fun W wv h1 hT=>(jq9 hT (List.mem_cons_of_mem _ (q9 HX)) h1 (by omega)).mono (by rintro e W' ⟨rfl,h⟩;exact ⟨rfl,v7 h⟩)
    clear hR2
    go_loopw [26,27] (fun wv i wr=>∃j:Nat,j≤ng∧i=.int .i64 j∧Hid (Duo w1 wr A B s1 sc (zR wv (X.take j)::R2))) (fun _ i _=>ng - (intOf i).toNat)
    case atStart=>exact ⟨0,Nat.zero_le _,rfl,v7 ((q9 T9).empty _ _)⟩
    case round=>
     obtain ⟨j,hj,rfl,TJ⟩:=hrel
     by_cases hlt:j<ng
     ·obtain ⟨p,hp⟩:∃p,M[j]?=some p:=⟨_,List.getElem?_eq_getElem (by have:=q9 HNG;omega)⟩
      have hpn:=q9 HMN p (List.mem_of_getElem? hp)
      obtain ⟨x,hx⟩:∃x,ids[p]?=some x:=⟨_,List.getElem?_eq_getElem (by have:=q9 HIDL;omega)⟩
      have hXj:X.take j++[x]=X.take (j+1):=by rw [List.take_add_one,hXM,List.getElem?_map,hp];simp [hx]
      obtain ⟨g1,rfl,c1⟩:=(q9 TJ).cellI (List.mem_cons_of_mem _ (q9 HI)) hp
      obtain ⟨g2,rfl,c2⟩:=(q9 TJ).cellZ (List.mem_cons_of_mem _ (q9 HZ)) hx
      obtain ⟨v5,w5,r5,T5⟩:=q9 AZ wr _ _ _ _ x _ (by rw [List.length_take];omega) (q9 TJ)
      rw [hXj] at T5
      have hj0:(0:Int)≤(j:Int):=by omega
      have hj1:(j:Int)<(ng:Int):=by omega
      have hp0:(0:Int)≤(p:Int):=by omega
      have hp1:(p:Int)<(nb:Int):=by omega
      have hp2:¬(p:Int)<0:=by omega
      clear hXj hp hx AZ SM TJ HI HX HZ HMN HIDL
      go_wp2_with fail
      exact ⟨⟨j+1,by omega,rfl,T5⟩,by simp [intOf];omega⟩
     ·obtain rfl:ng=j:=by omega
      have hj1:¬(ng:Int)<(ng:Int):=by omega
      rw [List.take_of_length_le (by omega)] at TJ
      have S:=v7 (q9 SM wr u26 (List.mem_cons_self ..) (q9 TJ))
      clear SM AZ
      go_wp2_with (go_at_call 17;refine (q9 S).mono ?_;clear S;rintro e wz ⟨rfl,TZ⟩)
      go_ret
      exact ⟨rfl,q9 FIN _ _ (q9 TZ)⟩
   ·go_wp2_with (first|(go_at_call 18;refine (q9 NB _ _ (q9 T9)).mono ?_;clear NB;rintro e wz ⟨rfl,rfl⟩)|(go_at_call 18;refine (q9 NA _ _ (q9 T9)).mono ?_;clear NA;rintro e wy ⟨rfl,rfl⟩)|(go_at_call 17;refine (q9 SI _ _ na nc (List.mem_cons_self ..) (List.mem_cons_of_mem _ (List.mem_cons_of_mem _ (List.mem_cons_of_mem _ (List.mem_cons_of_mem _ (q9 HM1))))) (q9 T8)).mono ?_;clear SI T8;rintro e w9 ⟨rfl,T9⟩)|(go_at_call 16;refine (q9 LV _ _ (q9 T7)).mono ?_;clear LV T7;rintro e w8 ⟨na,nc,rfl,T8⟩)|(go_at_call 15;refine (q9 PB _ _ (q9 T6)).mono ?_;clear PB T6;rintro e w7 ⟨xa,xc,fa,fn,fc,rfl,T7⟩)|(go_at_call 14;refine (q9 RN _ _ _ _ _ (List.mem_cons_self ..) (q9 T5)).mono ?_;clear RN T5;rintro e w6 ⟨ga,gc,rfl,T6⟩)|(go_at_call 13;refine (q9 CPL _ _ (q9 HM0) (q9 TK)).mono ?_;clear CPL TK;rintro e w5 ⟨ca,cn,cc,rfl,T5⟩))
    go_ret
    exact ⟨rfl,q9 FIN _ _ (q9 T9)⟩
end
section
open Go.ChangeShapes Go.WideShapes Go.ChangeAt Go.RowKit Go.Deep
theorem jq2:Tryz.prog.cellsOf 69=4:=by kernel_rfl
theorem cellsBool:Tryz.prog.cellsOf 4=1:=by kernel_rfl
theorem cellsEv:Tryz.prog.cellsOf 23=1:=by kernel_rfl
theorem bytesSub:Tryz.prog.bytesOf 69=56:=by kernel_rfl
section
variable {H:Type} {enc:TypeId×Value→H}
theorem jp4 (tx:List UInt8) (k:Int) (f:Bool) (dv:DataW H):(DataW.agg [.lit (.int .i64 k),.lit (.string tx),.lit (.bool f),dv]:DataW H).weights Tryz.prog 69=tx.length::dv.weights Tryz.prog 23:=by
 rw [DataW.weights,Tryz.underlying69]
 simp only [List.map,DataW.weightsEach,DataW.weights]
 simp
theorem open_sub {W:World} {n:Nat} {cs:List Value} {d:DataW H} {pl:List MemPlace} (h:DataW.trod enc Tryz.prog W 0 (fun _=>true) true n 69 cs=some (d,pl)) (hw:∀n∈d.weights Tryz.prog 69,n≤reachBytes) :
  ∃x:Sc,cs=[.int .i64 x.id,.string (BS x.text),.bool x.fin,x.ev]∧ScOk W x:=by
 obtain ⟨y0,y1,y2,y3,n1,hx,hl,t0,t1,t2,t3⟩:=Go.Joins.trod_struct4 Tryz.underlying69 h
 rw [jq2] at hl
 match cs,hl with
 | [c0,c1,c2,c3],_=>
  simp only [jq1,vv0,cellsBool,cellsEv,List.drop,List.take] at t0 t1 t2 t3
  obtain ⟨k,h0,rfl,wk⟩:=DataW.trod_int Tryz.underlying3 t0
  obtain ⟨tx,h1,rfl,_⟩:=DataW.trod_string Tryz.underlying9 t1
  obtain ⟨f,h2,rfl⟩:=DataW.trod_bool Tryz.underlying4 t2
  obtain ⟨d3,p3⟩:=y3
  simp only [Prod.mk.injEq] at hx
  obtain ⟨rfl,rfl⟩:=hx
  rw [jp4] at hw
  have w1:=hw _ (List.mem_cons_self ..)
  obtain ⟨v,ps,hv,he,hg⟩:=vc4 t3 fun m hm=>hw m (List.mem_cons_of_mem _ hm)
  simp only [List.cons.injEq,and_true] at h0 h1 h2 hv
  subst h0 h1 h2 hv
  unfold reachBytes at w1
  exact ⟨⟨k,tx.data.toList,f,ps,c3⟩,rfl,⟨by show tx.data.toList.length≤_;omega,wf_rng wk,he,hg⟩⟩
theorem jk6 {W:World} {base:Nat} {v:Value} {d:DataW H} {pl:List MemPlace} (hval:Value.okWide Tryz.prog W .any base 22 v) (h:DataW.Trod enc Tryz.prog W 0 (fun _=>true) true 22 v d pl)
  (hw:∀n∈d.weights Tryz.prog 22,n≤reachBytes):∃l,ScrAt W v l:=by
 obtain ⟨fuel,ht⟩:=h
 obtain ⟨a0,len0,cap0,rfl⟩:=okWide_slice Tryz.underlying22 hval
 rcases open_slice Tryz.underlying22 ht with ⟨hc,hx⟩|⟨a,len,cap,m,n,D,Pl,hc,_,hl,hm,hmm,hx,hall⟩
 ·simp [Value.cells] at hc
  obtain ⟨rfl,rfl,rfl⟩:=hc
  exact ⟨[],none,0,rfl,Nat.zero_le _,Nat.zero_le _,fun i x hi=>by simp at hi⟩
 ·simp [Value.cells] at hc
  obtain ⟨rfl,rfl,rfl⟩:=hc
  simp only [if_true] at hmm
  subst hmm
  simp only [Prod.mk.injEq] at hx
  obtain ⟨rfl,rfl⟩:=hx
  rw [jq2] at hall
  have hwt:=hw
  rw [DataW.weights,Tryz.underlying22] at hwt
  simp only [List.mem_cons,List.mem_append] at hwt
  have each:∀i,i<len0→∃x:Sc,ScOk W x∧W.cell? (a.add (i * 4))=some (.int .i64 x.id)∧W.cell? (a.add (i * 4+1))=some (.string (BS x.text))∧W.cell? (a.add (i * 4+2))=some (.bool x.fin)∧W.cell? (a.add (i * 4+3))=some x.ev:=by
   intro i hi
   obtain ⟨cs',h1,h2⟩:=hall i (by omega)
   have hin:D i∈(List.range len0).map D:=List.mem_map.2 ⟨i,List.mem_range.2 hi,rfl⟩
   obtain ⟨x,rfl,ok⟩:=open_sub h2 fun n hn=>hwt n (.inr (.inl (vp5 hin n hn)))
   obtain ⟨_,_,hcell⟩:=World.cells?_some h1
   have c0:=hcell 0 (by decide)
   have c1:=hcell 1 (by decide)
   have c2:=hcell 2 (by decide)
   have c3:=hcell 3 (by decide)
   rw [add_add] at c0 c1 c2 c3
   exact ⟨x,ok,c0,c1,c2,c3⟩
  have inh:Inhabited Sc:=⟨⟨0,[],false,[],.slice none 0 0⟩⟩
  obtain ⟨f,hf⟩:=choose_lt each
  have hlen:((List.range len0).map f).length=len0:=by rw [List.length_map,List.length_range]
  have hget:∀(k:Nat) (p:Sc),((List.range len0).map f)[k]?=some p→k<len0∧p=f k:=by
   intro k p hk
   rw [List.getElem?_map] at hk
   cases hr:(List.range len0)[k]? with
   | none=>rw [hr] at hk;cases hk
   | some j=>
    rw [hr] at hk
    obtain ⟨h1,h2⟩:=List.getElem?_eq_some_iff.1 hr
    rw [List.length_range] at h1
    rw [List.getElem_range] at h2
    subst h2
    exact ⟨h1,by simpa using hk.symm⟩
  refine ⟨(List.range len0).map f,some a,_,by rw [hlen], ?_,by rw [hlen];exact hl,fun i x hi=>?_⟩
  ·have:=hwt _ (.inl rfl)
   rw [bytesSub,List.length_map,List.length_range] at this
   rw [hlen]
   unfold reachBytes at this
   omega
  ·obtain ⟨h1,rfl⟩:=hget i x hi
   obtain ⟨ok,c0,c1,c2,c3⟩:=hf i h1
   obtain ⟨b,off,spot⟩:=a
   have hs:spot=none:=by
    have:=World.cell?_spot (hf 0 (by omega)).2.1
    simpa [Addr.add] using this
   subst hs
   have hadd:∀j,(⟨b,off,none⟩:Addr).add j=⟨b,off+j,none⟩:=by intro j;simp [Addr.add]
   rw [hadd] at c0 c1 c2 c3
   exact ⟨ok,b,off,rfl,block_lt_of_cell c0,c0,c1,c2,c3⟩
end
end
end Go.Proofs.YtfkcaldjphakpabGreatDoor
